import PyProof.Rows.All
import Wide.All
import OpenK.AllK
import Wide.FinOn
import Lean
import PyProof.EqAt
import PyProof.EqKinds
import PyProof.TupleCall
import PySem.Challenge.RW_widelines_k70_texts
inductive PySem.W.Fast|tw2296021028052267396|tw11827683449550567416|tw956615758644293432|tw595876681167158712|tw6801921447606737373|tw3438330375518209760|tw3382000793091400491|tw4929913750612173335|tw14855231786741107377|tw16718088533378928520|tw6283825145067975420|tw13829136163889170144|tw10537546923490881709|tw14889245941394989181|tw5128404695061071895|tw13545880082512947439|tw13934861599734652486|tw2695789129684560330|tw12385795963445112847|tw6536817575513478174|tw5883739033300578514|tw2229939956759339528|tw133249363610688860|tw13346576447935488414|tw14193291498422318126|tw4099788872260493407|tw6482287516473668621|tw9921292362372049276|tw5836061595761459711|tw18398407486207563341|tw15792564360287661545|tw16743772655191455360|tw1935744290643272522|tw8884834743073858302|tw13638704257707347233|tw8414071332430859667|tw4289284638601341642|tw14258293435344455769|tw1309983960428497035|tw7218666782836395158|tw9636348293613431907|tw9712030832913575494|tw6523556734620620376|tw5321668243658523899|tw529918223315496383|tw9416542867445434381|tw16527745097761767239|tw13311833878079958651|tw12704069211897614561|tw7544264569639991916|tw4169458128160292726|tw13091977445886392841|tw18274616119192448293|tw17341844076394475456|tw10560443765896744064|tw14686492160886584642|tw6848966917215786669|tw10473038863655333099|tw2584886406349057245|tw12267990025453014797|tw4870267336290392506|tw15884079727409695210|tw6571911248556474069|tw6967113141243647940|tw8901443140822833257|tw11103474743904290940|tw11305530773343962586|tw3881165130231354716|tw1525892864904356801|tw8449464211448894468|tw10861359222768205021|tw8088244591260558916|tw4762414590741112863|tw1093231296087047852|tw9202956371044229605|tw9459374417160155106|tw7050797814829213668|tw13149397679912052847|tw9934396024479697308|tw13000631147151319621|tw12996726311832470408|tw10293193276756966998|tw5089772739370085059|tw16155415026102535233|tw12665976496128599159|tw1852248499633381107|tw8850872767746475382|tw4369944788056762069|tw5498669176956077889|tw4266273257939197106|tw15032388248253801960|tw13725089487689838682|tw5515909994612210136|tw14581236563047382795|tw12950903951372249452|tw8585418275532606503|tw10647868996185068065|tw14839957600200042291|tw14217077040845372220|tw9570883251228888455|tw17699979867835507544|tw4772872614972933582|tw9249051075202601554|tw11247519759223852584|tw3769529296513461490|tw2427355445412248429|tw15053959285092617889|tw11232212319173164451|tw552437190741728982|tw14037363255725326438|tw17327862118176832176|tw2620376981479993896|tw13409560881376227476|tw15865734617436239238|tw6825504325801569189|tw17577976509096420900|tw16330256892406670875|tw4703996920906770932|tw3386370977283184330|tw14656876222868130197|tw663453317094960581|tw11068464546437179888|tw3077239467203941853|tw11816344879008792748|tw4348405136845107624|tw7119971692252095472|tw8430945725312964995|tw18393056423545605556|tw2348844755797781604|tw10575481271197913069|tw6541697438804645466|tw1783039823304233232|tw2006604797496846223|tw4750498447956920766|tw15774938263005820476|tw1436707455024201547|tw14718441977064992716|tw635459137090171141|tw14296130603670923384|tw10538571109409174198|tw17377866858753614448|tw4275329178589551193|tw15393210701167984811|tw16974747446212411025|tw390950446101077667|tw5792561554633237520|tw13618662989385038757|tw16899725727526331424|tw1431614626140022999|tw8512805801685796622|tw4462603054313347133|tw16770625138597121446|tw12915517163541653415|tw15925808397781034237|tw15325206850982786581|tw14259106137383850427|tw12752837620652286651|tw11524679723418805407|tw10268776561146535288|tw15022178010161312728|tw1741199366430160498|tw2376932709973341425|tw14837606861591730667|tw16966963907228234761|tw15567773637601125320|tw18170311031713398036|tw3560596672325467876|tw4581858251856623583|tw6138398157581357153|tw539351879540527239|tw3703585418892803862|tw2024739945972250652|tw15615103500147382666|tw15479979273289929999|tw15000271393780677066|tw13082691852466473949|tw7670218163664795968|tw16346251320192019329|tw11021074245955751880|tw14704848234512061691|tw2356356791407479009|tw4820792151271382514|tw4914472315553198625|tw1879210905484943955|tw8094516742579209110|tw7758660491349190501|tw7679825300528610855|tw6486709495167258899|tw4723624395288490894|tw18197817633825201559|tw16833575109697944026|tw15569328438326890180|tw10989527187639273462|tw17921038119866721391|tw11343504972092935135|tw9655747440682549440|tw9153303704711814045|tw9103210126006355244|tw8893241986376237880|tw8841390411956881965
local macro_rules | `(tactic| omega) => `(tactic| first | with_reducible assumption | decide | omega +splitMinMax)
theorem PySem.W.Fast.te11827683449550567416 : True := True.intro
set_option Elab.async false
set_option linter.all false
set_option maxRecDepth 100000
set_option bootstrap.genMatcherCode false
set_option genSizeOf false
set_option autoImplicit true
set_option relaxedAutoImplicit true
set_option maxHeartbeats 4000000
noncomputable section
section
set_option compiler.extract_closed false
set_option hygiene false in
local macro_rules | `(tactic|simp! [$a,*])=>`(tactic|simp[a0,a6,a7,a9,b0,c8,d0,d5,d6,d8,d9,dB,dC,dL,dV,e8,f9,i5,i6,i8,j4,j5,j6,j7,j8,j9,k0,k6,k9,l4,l5,l7,m5,m6,m7,m8,m9,n9,o7,one,p8,$a,*])
set_option hygiene false in
local macro_rules | `(tactic|simp! [])=>`(tactic|simp[a0,a6,a7,a9,b0,c8,d0,d5,d6,d8,d9,dB,dC,dL,dV,e8,f9,i5,i6,i8,j4,j5,j6,j7,j8,j9,k0,k6,k9,l4,l5,l7,m5,m6,m7,m8,m9,n9,o7,one,p8])
set_option hygiene false in
local macro_rules | `(tactic|simp! only [$a,*])=>`(tactic|simp[a0,a6,a7,b0,d8,dB,dC,dL,i8,j5,k0,one,$a,*])
set_option hygiene false in
local macro_rules | `(tactic|simp! only [])=>`(tactic|simp[a0,a6,a7,b0,d8,dB,dC,dL,i8,j5,k0,one])
local macro_rules | `(∅)=>`(by omega)
local macro_rules | `(#v[$a,*])=>`(List.toArray [$a,*])
local macro_rules | `(#[])=>`(by decide) | `(#[$a,*])=>`(⟨$a,*⟩)
def fx:=@PySem.wpAny_bind
def fI:=@if_pos
def gV:=@if_neg
def iO:=@PySem.wpAny_pure
def iR:=@Nat.le_refl
def iU:=@decide_eq_false
def xl:=@decide_eq_true
def xo:=@PySem.Heap.get?_push_of_some
def xr:=@List.mem_cons
def xu:=@PySem.Heap.lt_size
def Hq:=@Option.bind_some
def Hr:=@List.length_map
def Hs:=@Bool.and_eq_true
def Ht:=@Nat.le_trans
def Hu:=@List.map_cons
def Hv:=@List.length_cons
def Hw:=@Nat.lt_of_lt_of_le
def Hx:=@Bool.false_ne_true
def Hy:=@Prod.mk.injEq
def Hz:=@Ne.symm
def HA:=@Rat.intCast_mul
def HB:=@List.mem_cons_of_mem
def HC:=@List.size_toArray
def HD:=@List.mem_cons_self
def HE:=@Nat.ne_of_lt
def HF:=@PySem.wpAny_mono
def HG:=@PySem.Heap.get?_push_size
def HH:=@PySem.wpAny_field
def HI:=@if_true
def HJ:=@PySem.W.mg_none_of
def HK:=@decide_eq_true_iff
def HL:=@Option.some.injEq
def HM:=@List.not_mem_nil
def HN:=@or_false
def HP:=@Rat.mul_pos
def HQ:=@List.getElem?_eq_some_iff
def HR:=@List.nodup_cons
def HS:=@of_decide_eq_true
def HU:=@Option.some.inj
def HV:=@Nat.zero_le
def HW:=@List.mem_map
def HX:=@decide_eq_decide
def HY:=@Nat.ne_of_gt
def HZ:=@Bool.eq_iff_iff
def Ia:=@List.getElem?_eq_getElem
def Ib:=@Rat.intCast_pos
def Ic:=@List.mem_append_right
def Ie:=@Nat.lt_of_le_of_lt
def Ig:=@Bool.and_self
def Ih:=@PySem.sizeLine_eq
def Ii:=@if_false
def Ij:=@List.map_nil
def Ik:=@PySem.wpAny_seqItems
def Il:=@Nat.le_of_ble_eq_true
def Im:=@List.mem_append
def Io:=@List.getElem?_map
def Ip:=@Option.map_eq_some_iff
def Iq:=@List.all_eq_true
def Ir:=@Nat.lt_irrefl
def Iu:=@Bool.false_and
def Iv:=@List.mem_of_getElem?
def Iw:=@List.length_append
def Iy:=@PySem.wpAny_call_entry
def Iz:=@List.set_cons_succ
def IA:=@PySem.F.slot_zip_next
def IB:=@PySem.W.mg_of
def IC:=@List.map_map
def ID:=@PySem.wpAny_newObj_type
def IE:=@PySem.wpAny_rule
def IG:=@Prod.ext
def IH:=@PySem.wpAny_callSpecial?_slot
def II:=@Option.bind_eq_some_iff
def IJ:=@Sum.inr.inj
def IK:=@List.getElem?_set_ne
def IL:=@PySem.wpAny_passesOwn
def IM:=@Int.toNat_natCast
def IQ:=@PySem.wpAny_holding
def IT:=@List.replicate_succ
def IU:=@List.mem_singleton
def IV:=@List.set_cons_zero
def IW:=@PySem.wpAny_setField_rec
def IY:=@Bool.false_eq_true
def IZ:=@Bool.true_and
def Ja:=@Rat.divInt_eq_div
def Jb:=@Int.natAbs_natCast
def Jc:=@Rat.mul_pos_iff_of_pos_left
def Jd:=@List.append_nil
def Je:=@List.of_mem_zip
def Jf:=@List.getElem?_append_left
def Jg:=@PyProof.Rows.slot_tuple_getitem
def Jh:=@PySem.typeIs_str
def Ji:=@PySem.call_meets
def Jj:=@List.find?_cons
def Jk:=@PySem.Heap.size_push
def Jl:=@PySem.W.kia_one
def Jm:=@PySem.SeqAt.canLay_of_shaped
def Jn:=@List.mem_iff_getElem?
def Jo:=@Rat.intCast_eq_zero_iff
def Jp:=@Int.natCast_mul
def Jq:=@Int.mul_comm
def Jr:=@Rat.intCast_neg
def Js:=@Rat.mul_eq_zero
def Jt:=@List.all_cons
def Ju:=@PySem.Str.length_append
def Jv:=@PySem.PassesOwn.never
def Jw:=@PySem.wpAny_truthy_bool
def Jx:=@PyProof.Rows.callWith_type1
def Jy:=@PySem.wpAny_Call_Name_kw
def Jz:=@PySem.mem_of_lookup
def JA:=@List.getElem?_append_right
def JB:=@List.flatten_cons
def JC:=@PySem.Heap.get?_update_other
def JD:=@Nat.add_comm
def JE:=@Nat.min_le_left
def JF:=@PySem.Heap.get?_update_self
def JG:=@List.eq_nil_of_length_eq_zero
def JH:=@Bool.beq_eq_decide_eq
def JI:=@Nat.pow_le_pow_right
def JJ:=@Rat.num_divInt_den
def JK:=@Int.natCast_ediv
def JL:=@Rat.intCast_inj
def JM:=@Bool.and_true
def JN:=@Rat.lt_irrefl
def JO:=@Nat.zero_add
def JP:=@Bool.not_eq_false
def JQ:=@PySem.Paired.length
def JR:=@Nat.le_of_lt
def JS:=@List.filterMap_cons
def JT:=@List.getElem?_set_self
def JU:=@Array.length_toList
def JV:=@PySem.wpAny_execs_nil
def JW:=@List.length_take
def JX:=@PySem.wpAny_typeOf
def JY:=@List.length_singleton
def JZ:=@List.length_nil
def Ka:=@Nat.le_of_not_lt
def Kb:=@Nat.le_of_eq
def Kc:=@Nat.sub_zero
def Kd:=@PySem.F.slot_tuple_iterator_next
def Ke:=@List.forIn_cons
def Kf:=@List.forIn_nil
def Kg:=@PySem.wpAny_onRaise
def Kh:=@PySem.wpAny_letGo
def Ki:=@PySem.wpAny_attempt
def Kj:=@PySem.F.entry_zip_next
def Kk:=@PySem.F.args_zip_next_1
def Kl:=@PySem.F.plain_extend_loop
def Km:=@PySem.wpAny_updateSeq
def Kn:=@Array.getElem?_eq_getElem
def Ko:=@PySem.F.slot_str_split
def Kp:=@PySem.wpAny_getItem_str_slice
def Kq:=@PySem.post_val_or_str
def Kr:=@List.map_append
def Ks:=@PyProof.Rows.signs_ofString
def Kt:=@Int.gcd_dvd_right
def Ku:=@Nat.div_le_self
def Kv:=@Int.gcd_comm
def Kw:=@Int.ofNat_dvd
def Kx:=@Nat.gcd_comm
def Ky:=@Int.gcd_pos_of_ne_zero_right
def Kz:=@Int.gcd_dvd_left
def KA:=@Int.ediv_eq_of_eq_mul_right
def KC:=@Rat.zero_mul
def KD:=@Rat.intCast_add
def KG:=@List.mem_range
def KH:=@List.mem_filterMap
def KI:=@PySem.noFill_tuple_add
def KJ:=@PySem.F.slot_tuple_add
def KL:=@PySem.F.entry_tuple_add
def KN:=@PySem.F.args_tuple_add_2
def KO:=@List.length_drop
def KP:=@Nat.mul_comm
def KQ:=@List.any_cons
def KR:=@PySem.wpAny_specialOf
def KS:=@Option.map_some
def KU:=@List.cons_append
def KW:=@List.Sublist.refl
def KY:=@List.getElem?_cons_succ
def KZ:=@PySem.wpAny_pyIter_list
def La:=@decide_eq_true_eq
def Lb:=@List.drop_zero
def Lc:=@List.take_length
def Ld:=@PySem.wpAny_updateSeq_pair
def Le:=@Nat.min_eq_left
def Lf:=@Array.getElem?_eq_none
def Lg:=@ne_true_of_eq_false
def Lh:=@PySem.F.entry_str_split
def Li:=@PySem.F.args_str_split_2
def Lj:=@List.map_congr_left
def Lk:=@Int.fmod_eq_emod_of_nonneg
def Ll:=@Rat.num_divInt
def Lm:=@Int.natAbs_mul
def Ln:=@Rat.den_divInt
def Lo:=@Int.natAbs_neg
def Lp:=@Int.mul_ne_zero
def Lq:=@Bool.or_eq_true
def Lr:=@Rat.intCast_sub
def Ls:=@List.length_pos_iff
def Lu:=@List.tail_cons
def Lv:=@Bool.not_eq_true
def Lx:=@PySem.W.cellsFrom_some
def Ly:=@Option.isSome_iff_exists
def Lz:=@List.length_replicate
def LB:=@List.drop_eq_nil_of_le
def LC:=@List.eq_nil_iff_forall_not_mem
def LD:=@PySem.F.entry_tuple_iterator_next
def LH:=@PySem.F.args_tuple_iterator_next_1
def LI:=@PySem.F.entry_extend_loop
def LJ:=@PySem.F.slot_zip_iter
def LK:=@PyProof.Rows.zipApart_new
def LL:=@List.getElem?_zip_eq_some
def LM:=@List.zipWith_nil_left
def LO:=@List.zipWith_nil_right
def LQ:=@List.zipWith_cons_cons
def LR:=@Int.sign_eq_one_of_pos
def LU:=@Nat.div_eq_of_eq_mul_right
def LV:=@Nat.div_le_iff_le_mul_add_pred
def LY:=@List.take_of_length_le
def Ma:=@Int.fdiv_eq_ediv_of_nonneg
abbrev vQ_:=PySem.Value→PySem.Shared→Prop
abbrev vF_:=PySem.W.Frag
abbrev vP_:=List (PySem.Addr × PySem.Obj)
abbrev vA_:=Option PySem.Addr
abbrev vL_:=List PySem.Addr
abbrev vV_:=List PySem.Value
abbrev vG_:=PySem.Str→Option PySem.Value
abbrev vR_:=Array PySem.Value
abbrev vB_:=PySem.Addr→Prop
abbrev vS_:=Array (Option PySem.Value)
variable {pos cpos pos' apos p2:PySem.Pos}{n i l t' j:Nat}{s:PySem.Shared}{x qual key name:PySem.Str}{es ifs rest:List PySem.Expr}{A:PySem.Around}{pins:vP_}{e tg iter elt:PySem.Expr}{fa fa':vA_}{cl:List (PySem.Str × PySem.Addr)}{a S:PySem.Addr}{idx:List Nat}{N:vB_}{scope:PySem.Scope}{fd:PySem.FuncData}{u:PySem.Value}{prog:PySem.Program}{E Q:vQ_}{XP:(PySem.Str->Option PySem.Value)->PySem.Heap->Prop}{base h':PySem.Heap}{q:Rat}{mg:vG_}{us:vV_}{G:Prop}{N' loose caps:List PySem.Str}{YP:PySem.World->PySem.Heap->Prop}{body:List PySem.Stmt}{O fp:vL_}{C:Int->Int->Prop}{items:vR_}{most:Int}{g':Array PySem.GenState}{osl:vS_}{env:PySem.Env}
namespace L2
open PySem PySem.Spec PyProof.Rows
abbrev o6:=Sum Int Str
def aU:o6->Value->Bool
 |.inl k,v=>Value.isInt k v
 |.inr x,v=>Value.isStrOf x v
def AW (w:World):o6->Int
 |.inl k=>hashInt k
 |.inr x=>hashStr w x
def T9:∀{k:o6}{v:Value},aU k v=true->(∃i t,k=Sum.inl i/\v=Value.int i t)\/(∃x t,k=Sum.inr x/\v=Value.str x t)
 |.inl i,v,h=>by
  obtain⟨t,e⟩:=Value.isInt_shape (k:=i) (v:=v) h;exact .inl #[i,t,rfl,e]
 |.inr x,v,h=>by
  obtain⟨t,e⟩:=Value.isStrOf_shape (x:=x) (v:=v) h;exact .inr #[x,t,rfl,e]
def zm (i:Int) (t:Tok):aU (.inl i) (.int i t)=true:=by simp[aU,Value.isInt]
def Dk (x:Str) (t:Tok):aU (.inr x) (.str x t)=true:=by simp[aU,Value.isStrOf]
def vI (a b:Int):decide ((Sum.inl a:o6)=Sum.inl b)=(a == b):=by
 by_cases e:a=b
 .subst e;simp
 .have h:¬ (Sum.inl a:o6)=Sum.inl b:=fun q=>e (Sum.inl.inj q)
  rw[iU h];exact(beq_eq_false_iff_ne.mpr e).symm
def wN (a b:Str):decide ((Sum.inr a:o6)=Sum.inr b)=decide (a=b):=by
 by_cases e:a=b
 .subst e;simp
 .have h:¬ (Sum.inr a:o6)=Sum.inr b:=fun q=>e (IJ q)
  rw[iU h,iU e]
def FH (a:Int) (b:Str):decide ((Sum.inl a:o6)=Sum.inr b)=false:=iU (fun q=>nomatch q)
def uU (a:Str) (b:Int):decide ((Sum.inr a:o6)=Sum.inl b)=false:=iU (fun q=>nomatch q)
def G8 (prog:Program) (w:World):PySem.KeyKind prog w o6 where
 is:=aU
 hash:=AW w
 inj:=fun v a b M L=>by
  rcases T9 M with ⟨i,t,rfl,rfl⟩ | ⟨x,t,rfl,rfl⟩
  .rcases T9 L with ⟨j,u,rfl,e⟩ | ⟨y,u,rfl,e⟩
   .injection e with e1 _;rw[e1]
   .exact nomatch e
  .rcases T9 L with ⟨j,u,rfl,e⟩ | ⟨y,u,rfl,e⟩
   .exact nomatch e
   .injection e with e1 _;rw[e1]
 byValue:=fun k v h=>by
  rcases T9 h with ⟨i,t,rfl,rfl⟩ | ⟨x,t,rfl,rfl⟩ <;> rfl
 pyHash:=fun J h=>by
  rcases T9 J with ⟨i,t,rfl,rfl⟩ | ⟨x,t,rfl,rfl⟩
  .exact wpAny_pyHash_int h
  .exact wpAny_pyHash_str h
 eqBool:=fun U J h=>by
  rcases T9 U with ⟨i,t,rfl,rfl⟩ | ⟨x,t,rfl,rfl⟩
  .rcases T9 J with ⟨j,u,rfl,rfl⟩ | ⟨y,u,rfl,rfl⟩
   .rw[vI] at h;exact wpAny_eqBool_int h
   .rw[FH] at h;exact SeqAt.EqAt.int_str i t y u _ _ _ _ h
  .rcases T9 J with ⟨j,u,rfl,rfl⟩ | ⟨y,u,rfl,rfl⟩
   .rw[uU] at h;exact SeqAt.EqAt.str_int x t j u _ _ _ _ h
   .rw[wN] at h;exact wpAny_eqBool_str h
 «strs»:=fun k x t v h=>by
  rcases T9 h with ⟨i,u,rfl,e⟩ | ⟨y,u,rfl,e⟩
  .exact nomatch e
  .injection e with e1 _;subst e1;cases v <;> rfl
def wJ (prog:Program) (w:World) (i:Int) (t:Tok):(G8 prog w).is (.inl i) (.int i t)=true:=zm i t
def Fg (prog:Program) (w:World) (x:Str) (t:Tok):(G8 prog w).is (.inr x) (.str x t)=true:=Dk x t
inductive V where
 | non | bl (b:Bool) | int (i:Int) | str (x:Str) | byt (b:Array UInt8) | flt (b:UInt64) | ref (a:Addr) | ty (n:String)
 deriving DecidableEq
variable {xs ys:List V}{kvs:List (List o6 × V)}{y:V}{f':Int->Int->V}
def RelV:V->Value->Prop
 |.non,u=>u=Value.none
 |.bl b,u=>u=Value.bool b
 |.int i,u=>∃t,u=Value.int i t
 |.str x,u=>∃t,u=Value.str x t
 |.byt b,u=>∃t,u=Value.bytes b t
 |.flt b,u=>∃t,u=Value.float b t
 |.ref a,u=>u=Value.ref a
 |.ty n,u=>u=Value.type n
abbrev Vals:List V->List Value->Prop:=Paired RelV
theorem Vals.length (r:Vals xs us):xs.length=us.length:=JQ r
theorem Vals.get:∀{xs:List V}{us:vV_}{i:Nat}{x:V},Vals xs us->xs[i]? = some x->∃u,us[i]? = some u/\RelV x u
 |_,_,_,_,.nil,e=>by simp at e
 |_,_,0,_,.cons r _,e=>by simp at e;subst e;exact#[_,rfl,r]
 |_,_,i+1,x,.cons _ t,e=>by
  obtain⟨u,h1,h2⟩:=Vals.get (i:=i) (x:=x) t (by simpa using e);exact#[u,by simpa using h1,h2]
def Vals.append:∀{xs ys:List V}{us ws:vV_},Vals xs us->Vals ys ws->Vals (xs++ys) (us++ws):=by
 intro xs ys us ws h s;induction h with
 |nil=>exact s
 |cons r t J=>exact .cons r J
theorem Vals.take:∀{xs:List V}{us:vV_}(n:Nat),Vals xs us->Vals (xs.take n) (us.take n)
 |_,_,0,_=>.nil
 |_,_,_+1,.nil=>.nil
 |_,_,n+1,.cons r t=>.cons r (Vals.take n t)
theorem Vals.drop:∀{xs:List V}{us:vV_}(n:Nat),Vals xs us->Vals (xs.drop n) (us.drop n)
 |_,_,0,r=>r
 |_,_,_+1,.nil=>.nil
 |_,_,n+1,.cons _ t=>Vals.drop n t
def RelO:Option V->Option Value->Prop
 |some v,some u=>RelV v u
 |none,none=>True
 |_,_=>False
def KV {κ:Type}:List (κ × V)->List (κ × Value)->Prop:=Paired fun (p:κ × V) (q:κ × Value)=>p.1=q.1/\RelV p.2 q.2
def kV:o6->V
 |.inl i=>.int i
 |.inr x=>.str x
inductive HO where
 | lst (xs:List V)
 | tup (xs:List V)
 | dK (kvs:List (o6 × V)) | dT (kvs:List (List o6 × V))
 | set (S:Int->Bool) (n:Nat)
 | ins (C dx:Addr) (fs:List (Str × V))
 | own (x:Addr)
 | xd (fs:List (Str × V))
 | met (f x:Addr)
 | rng (lo hi:Int)
 | frz (o:Obj) (u:HO)
 | tbl (ps:vR_)
 | ext (φ:Heap->Prop)
abbrev Hp:=Addr->Option HO
variable {H H':Hp}
def l8 (H:Hp) (a:Addr) (o:HO):Hp:=fun b=>if b=a then some o else H b
def D1 {o:HO}:l8 H a o a=some o:=by unfold l8;rw[fI rfl]
def v5 {b:Addr}{o:HO}(h:b≠a):l8 H a o b=H b:=by unfold l8;rw[gV h]
def zM {b:Addr}{o u:HO}(h:H a=some o) (h':H b=some u) (d:o≠u):a≠b:=by
 intro e;subst e;rw[h] at h';exact d (HU h')
def M6 {b:Addr}{o:HO}(h:H a=some o) (h':H b=none):a≠b:=by
 intro e;subst e;rw[h] at h';cases h'
section
variable (P:Program) (w:World)
def ObjOk (H:Hp) (h:Heap) (a:Addr):HO->Prop
 |.lst xs=>xs.length<=sizeLine/\∃(its:vV_) (n:Nat),Vals xs its/\h.get? a=some { cls:=.type "list",data:=.seq its.toArray n }
 |.tup xs=>xs.length<=sizeLine/\∃its:List Value,Vals xs its/\IsTup h a its.toArray
 |.dK kvs=>kvs.length<=sizeLine/\(a == sysModules)=false/\∃vs,KV kvs vs/\h.DictOf (G8 P w) a vs
 |.dT kvs=>kvs.length<=sizeLine/\(a == sysModules)=false/\∃xs:List (List o6 × Addr × Value),
   Paired (fun (p:List o6 × V) (q:List o6 × Addr × Value)=>p.1=q.1/\H q.2.1=some (.tup (p.1.map kV))/\RelV p.2 q.2.2) kvs xs /\
   ∃o es ep,h.get? a=some o/\o.ExactDict/\o.data = .dict es ep/\es.toList=xs.map (entryOfKey (tupleKind (G8 P w)))/\(xs.map (·.1)).Nodup
 |.set S n=>h.SetOf (intKind P w) a S n
 |.ins C dx fs=>H dx=some (.own a)/\fs.length<=1000/\dx≠a/\h.get? a=some (PySem.W.instObj C dx) /\
   ∃mA,h.Ns1 dx mA/\(∀f,RelO (fs.lookup f) (mA f))/\PySem.Within mA (fs.map (·.1))
 |.own _=>∃o,h.get? a=some o
 |.xd fs=>∃mA,h.Ns1 a mA/\∀f,RelO (fs.lookup f) (mA f)
 |.rng lo hi=>∃t u v,h.get? a=some { cls:=.type "range",data:=.fields #v[.int lo t,.int hi u,.int 1 v] }
 |.frz o u=>h.get? a=some o/\ObjOk H h a u
 |.tbl ps=>h.get? a=some { cls:=.none,data:=.fields ps }
 |.met f x=>h.get? a=some (PySem.W.methodObj (.ref f) (.ref x))
 |.ext φ=>φ h/\(∃o,h.get? a=some o)/\∀h1 h2:Heap,φ h1->(∀o,h1.get? a=some o->h2.get? a=some o)->φ h2
def HOk (H:Hp) (h:Heap):Prop:=∀a o,H a=some o->ObjOk P w H h a o
end
section
variable {P:Program}{w:World}{h:Heap}{o:HO}
theorem ObjOk.lt (x:ObjOk P w H h a o):a<h.objs.size:=by
 cases o with
 |lst xs=>obtain⟨_,_,_,_,e⟩:=x;exact xu e
 |tup xs=>obtain⟨_,_,_,p⟩:=x;exact p.lt
 |dK kvs=>obtain⟨_,_,_,_,o,_,_,e,_⟩:=x;exact xu e
 |dT kvs=>obtain⟨_,_,_,_,o,_,_,e,_⟩:=x;exact xu e
 |set S n=>obtain⟨o,_,_,_,e,_⟩:=x;exact xu e
 |ins C L fs=>obtain⟨_,_,_,e,_⟩:=x;exact xu e
 |own y=>obtain⟨_,e⟩:=x;exact xu e
 |xd fs=>obtain⟨_,⟨_,_,_,e,_⟩,_⟩:=x;exact xu e
 |rng lo hi=>obtain⟨_,_,_,e⟩:=x;exact xu e
 |frz J u=>obtain⟨e,_⟩:=x;exact xu e
 |tbl ps=>exact xu (show h.get? a=some _ from x)
 |met f y=>exact xu (show h.get? a=some _ from x)
 |ext φ=>obtain⟨_,⟨_,e⟩,_⟩:=x;exact xu e
def Paired.mapP {α β:Type}{F G:α->β->Prop}:∀{l₁:List α}{l₂:List β},Paired F l₁ l₂->(∀a b,F a b->G a b)->Paired G l₁ l₂:=by
 intro l₁ l₂ h f;induction h with
 |nil=>exact .nil
 |cons r t J=>exact .cons (f _ _ r) J
def ObjOk.stay (x:ObjOk P w H h a o) (k:∀b u,(b=a\/H b=some (.own a))->h.get? b=some u->h'.get? b=some u)
  (ho:∀b,H b=some (.own a)->H' b=some (.own a)) (ht:∀b xs,H b=some (.tup xs)->H' b=some (.tup xs)):ObjOk P w H' h' a o:=by
 induction o with
 |lst xs=>obtain⟨z,M,n,r,e⟩:=x;exact#[z,M,n,r,k _ _ (.inl rfl) e]
 |tup xs=>obtain⟨z,M,r,J,e,c⟩:=x;exact#[z,M,r,J,k _ _ (.inl rfl) e,c]
 |dK kvs=>obtain⟨z,y,Z,r,J,es,L,e,c⟩:=x;exact#[z,y,Z,r,J,es,L,k _ _ (.inl rfl) e,c]
 |dT kvs=>
  obtain⟨z,y,xs,r,J,es,L,e,c⟩:=x;exact#[z,y,xs,Paired.mapP r fun p q z=>#[z.1,ht _ _ z.2.1,z.2.2],J,es,L,k _ _ (.inl rfl) e,c]
 |set S n=>obtain⟨J,es,L,t,e,c⟩:=x;exact#[J,es,L,t,k _ _ (.inl rfl) e,c]
 |ins C dx fs=>
  obtain⟨d,z,ne,e,U,⟨Y,es,L,e2,c⟩,r⟩:=x;exact#[ho _ d,z,ne,k _ _ (.inl rfl) e,U,#[Y,es,L,k _ _ (.inr d) e2,c],r]
 |own y=>obtain⟨J,e⟩:=x;exact#[J,k _ _ (.inl rfl) e]
 |xd fs=>obtain⟨U,⟨Y,es,L,e,c⟩,r⟩:=x;exact#[U,#[Y,es,L,k _ _ (.inl rfl) e,c],r]
 |rng lo hi=>obtain⟨t,u,v,e⟩:=x;exact#[t,u,v,k _ _ (.inl rfl) e]
 |frz J u ih=>obtain⟨e,q⟩:=x;exact#[k _ _ (.inl rfl) e,ih q]
 |tbl ps=>
  have e:h.get? a=some { cls:=.none,data:=.fields ps }:=x;show h'.get? a=some { cls:=.none,data:=.fields ps };exact k a _ (.inl rfl) e
 |met f y=>
  have e:h.get? a=some (PySem.W.methodObj (.ref f) (.ref y)):=x;show h'.get? a=some (PySem.W.methodObj (.ref f) (.ref y));exact k a _ (.inl rfl) e
 |ext φ=>obtain⟨p,⟨o,e⟩,st⟩:=x;exact#[st _ _ p fun o q=>k _ _ (.inl rfl) q,#[o,k _ _ (.inl rfl) e],st]
theorem HOk.lt (x:HOk P w H h) (e:H a=some o):a<h.objs.size:=(x a o e).lt
def HOk.fresh (x:HOk P w H h) (e:h.objs.size<=a):H a=none:=by
 cases q:H a with
 |none=>rfl
 |some u=>exact absurd (Hw (x.lt q) e) (Ir _)
def HOk.kept (x:HOk P w H h) (k:∀b u,h.get? b=some u->h'.get? b=some u):HOk P w H h':=fun a o e=>
 (x a o e).stay (fun b u _ q=>k b u q) (fun _ q=>q) fun _ _ q=>q
def HOk.laid (x:HOk P w H h) (k:∀b u,h.get? b=some u->h'.get? b=some u) (U:h.objs.size<=a) (J:ObjOk P w (l8 H a o) h' a o):HOk P w (l8 H a o) h':=fun b u e=>by
 have L:=x.fresh U;by_cases M:b=a
 .subst M;rw[D1] at e;cases e;exact J
 .rw[v5 M] at e;exact(x b u e).stay (fun c v _ q=>k c v q) (fun c q=>by rw[v5 (M6 q L)];exact q) fun c xs q=>by rw[v5 (M6 q L)];exact q
end
def Rd (H:Hp) (a:Addr) (u:HO):Prop:=H a=some u\/∃o,H a=some (.frz o u)
def Rd.ok {w:World}{u:HO}(r:Rd H a u) (x:HOk P w H h):ObjOk P w H h a u:=by
 rcases r with r | ⟨o,r⟩
 .exact x a u r
 .obtain⟨_,q⟩:=x a _ r;exact q
def cI:Option HO->Prop
 |some (.lst _)=>True
 |some (.dK _)=>True
 |some (.dT _)=>True
 |some (.set _ _)=>True
 |some (.ins _ _ _)=>True
 |some (.ext _)=>True
 |_=>False
section
variable {P:Program}{w:World}{h:Heap}{x e:Addr}{o':HO}
def HOk.write (ok:HOk P w H h) (Y:cI (H x)) (he:e=x\/H e=some (.own x)) (k:∀b u,b≠e->h.get? b=some u->h'.get? b=some u) (heo:∃u,h'.get? e=some u)
  (Z:ObjOk P w (l8 H x o') h' x o'):HOk P w (l8 H x o') h':=fun b u q=>by
 have L:∀c y,H c=some (.own y)->c≠x:=fun c y r z=>by subst z;rw[r] at Y;exact Y
 have M:∀c xs,H c=some (.tup xs)->c≠x:=fun c xs r z=>by subst z;rw[r] at Y;exact Y
 by_cases W:b=x
 .subst W;rw[D1] at q;cases q;exact Z
 .rw[v5 W] at q;by_cases J:b=e
  .have q':H b=some (.own x):=by
    rcases he with z | z
    .exact absurd (J.trans z) W
    .rw[J];exact z
   rw[q] at q';cases q';obtain⟨v,hv⟩:=heo;exact#[v,by rw[J];exact hv]
  .refine(ok b u q).stay (fun c v U r=>k c v ?_ r) (fun c r=>by rw[v5 (L c b r)];exact r) fun c xs r=>by rw[v5 (M c xs r)];exact r
   rcases U with rfl | U
   .exact J
   .rintro rfl;rcases he with z | z
    .exact L c b U z
    .rw[U] at z;cases z;exact W rfl
end
structure Un (fs ex:vL_) (H H':Hp) (h h':Heap):Prop where
 keep:∀b o,h.get? b=some o->H b=none->b ∉ fs->b ∉ ex->h'.get? b=some o
 slot:∀b o,h.get? b=some o->H b=none->b∈fs->b ∉ ex->∃sl,h'.get? b=some { o with slots:=sl }
 free:∀b o,h.get? b=some o->H b=none->b ∉ ex->H' b=none
 there:∀b o,h.get? b=some o->b ∉ ex->∃o',h'.get? b=some o'
 tups:∀b xs,H b=some (.tup xs)->H' b=some (.tup xs)
 frzs:∀b o u,H b=some (.frz o u)->H' b=some (.frz o u)
 tbls:∀b ps,H b=some (.tbl ps)->∃more,H' b=some (.tbl (ps++more))
section
variable {fs fs' ex ex':vL_}{H1 H2:Hp}{h h1 h2:Heap}{x e:Addr}{o:HO}
def Un.any (u:Un fs ex H H1 h h1) {b:Addr}{ob:Obj}(q:h.get? b=some ob) (n:H b=none) (J:b ∉ ex):∃sl,h1.get? b=some { ob with slots:=sl }:=by
 by_cases L:b∈fs
 .exact u.slot b ob q n L J
 .exact#[ob.slots,u.keep b ob q n L J]
def Un.kept (k:∀b u,h.get? b=some u->h'.get? b=some u):Un fs ex H H h h':=
 #[fun b J q _ _ _=>k b J q,fun b J q _ _ _=>#[J.slots,k b J q],fun _ _ _ n _=>n,fun b J q _=>#[J,k b J q],fun _ _ q=>q,fun _ _ _ q=>q,fun _ ps q=>#[#v[],by rw[q];simp]]
def Un.refl:Un fs ex H H h h:=Un.kept fun _ _ q=>q
def Un.laid (k:∀b u,h.get? b=some u->h'.get? b=some u) (L:h.objs.size<=a) (J:H a=none):Un fs ex H (l8 H a o) h h' where
 keep:=fun b u q _ _ _=>k b u q
 slot:=fun b u q _ _ _=>#[u.slots,k b u q]
 free:=fun b u q n _=>by rw[v5 (HE (Hw (xu q) L))];exact n
 there:=fun b u q _=>#[u,k b u q]
 tups:=fun b xs q=>by rw[v5 (M6 q J)];exact q
 frzs:=fun b u xs q=>by rw[v5 (M6 q J)];exact q
 tbls:=fun b ps q=>#[#v[],by rw[v5 (M6 q J),q];simp]
def Un.write (L:cI (H x)) (he:e=x\/H e=some (.own x)) (k:∀b u,b≠e->h.get? b=some u->h'.get? b=some u) (M:∃u,h'.get? e=some u):Un fs ex H (l8 H x o) h h':=by
 have W:∀b,H b=none->b≠x:=fun b n z=>by subst z;rw[n] at L;exact L
 have Y:∀b,H b=none->b≠e:=fun b n z=>by
  subst z;rcases he with r | r
  .exact W b n r
  .rw[n] at r;cases r
 have U:∀b u,H b=some u->¬ cI (some u)->b≠x:=fun b u q Z z=>by subst z;rw[q] at L;exact Z L
 refine#[fun b u q n _ _=>k b u (Y b n) q,fun b u q n _ _=>#[u.slots,k b u (Y b n) q],fun b u q n _=>by rw[v5 (W b n)];exact n,fun b u q _=>?_,
  fun b xs q=>by rw[v5 (U b _ q fun z=>z)];exact q,fun b u xs q=>by rw[v5 (U b _ q fun z=>z)];exact q,fun b ps q=>#[#v[],by rw[v5 (U b _ q fun z=>z),q];simp]]
 by_cases J:b=e
 .subst J;exact M
 .exact#[u,k b u J q]
end
def bg (h:Heap) (H:Hp):List Addr:=(List.range h.objs.size).filter fun a=>(H a).isSome
def S5 (h:Heap) (H:Hp):Heap:=PySem.W.hideAll h (bg h H)
def Ei (h:Heap) (H:Hp):(S5 h H).objs.size=h.objs.size:=PySem.W.hideAll_size _ _
def BP {h:Heap}{b:Addr}{o:Obj}(e:h.get? b=some o) (n:H b=none):(S5 h H).get? b=some o:=
 PySem.W.hideAll_get _ e fun J=>by
  have q:(H b).isSome=true:=(List.mem_filter.mp J).2;rw[n] at q;simp at q
def Di {h:Heap}{b:Addr}{o:Obj}(e:(S5 h H).get? b=some o):h.get? b=some o/\H b=none:=by
 have e':h.get? b=some o:=PySem.W.of_hideAll (bg h H) e;refine#[e',?_];cases q:H b with
 |none=>rfl
 |some x=>
  have J:b∈bg h H:=List.mem_filter.mpr #[KG.mpr (xu e'),by simp[q]];have z:(S5 h H).get? b=none:=PySem.W.hideAll_none (bg h H) J;rw[z] at e;cases e
structure Mod (K:vF_) (mg:vG_) (base:Heap):Prop where
 kin:K.In base
 glob:base.Ns mainGlobals mg
 blt:∃mb,base.Ns builtinsNs mb/\∀x:Str,x ≠ "__name__" -> mb x=bootBuiltins x
 nolimit:base.NoLimit
structure Cx where
 prog:Program
 w:World
 K:PySem.W.Frag
 mg:Str->Option Value
 base:Heap
 A:Around
 N:List Str
 s₀:Shared
 H₀:Hp
 env:Env
 outer:List Env
 stack:List Env
 ex:List Addr
 fn:Str->Bool
 calm:Bool
 pn:List (Addr × Obj)
 xe:Value->Shared->Prop
variable {X:Cx}
def P1 (l:List Env):List Addr:=l.filterMap (·.frame)
abbrev Cx.fs (X:Cx):List Addr:=P1 X.outer
def jU (J:Scope) (x:Str):Prop:=J.names.lookup x=some .local\/J.names.lookup x=some .cell\/J.names.lookup x=some .free
def T7 (J:Scope) (x:Str):Prop:=J.names.lookup x=some .local\/J.names.lookup x=some .cell
def GN (env:Env) (h:Heap) (m:vG_) (x:Str) (u:Value):Prop:=
 (env.kindOf x=some .local/\m x=some u)\/((env.kindOf x=some .cell\/env.kindOf x=some .free)/\∃c,env.cells.lookup x=some c/\h.IsCell c (some u))
structure Cx.Ok (X:Cx):Prop where
 mod:Mod X.K X.mg X.base
 kind:X.env.scope.kind = .function
 glob:X.env.globals=mainGlobals
 blt:X.env.builtins=builtinsNs
 above:X.s₀.heap.objs.size<=X.env.locals
 inj:∀x y c,X.env.cells.lookup x=some c->X.env.cells.lookup y=some c->x=y
 has:∀x,(X.env.kindOf x=some .cell\/X.env.kindOf x=some .free)->∃c,X.env.cells.lookup x=some c
 cab:∀x c,X.fn x=true->X.env.cells.lookup x=some c->X.s₀.heap.objs.size<=c
 hd:X.calm=true->X.A.handled=none
 frames:X.A.frames=some X.stack
 stk:X.stack=X.outer\/(X.stack=X.env::X.outer/\X.env.frame=some X.env.locals)
 exf:∀b∈X.ex,b≠X.env.locals/\∀x c,X.env.cells.lookup x=some c->c≠b
 bs:∀b o,X.base.get? b=some o->X.s₀.heap.get? b=some o/\X.H₀ b=none
 bsz:X.base.objs.size<=X.s₀.heap.objs.size
 noex:∀b o,X.base.get? b=some o->b ∉ X.ex
 exfs:∀b∈X.ex,b ∉ X.fs
 funs:X.s₀.heap.FunFrames X.base X.outer
 frf:∀b∈X.fs,X.H₀ b=none
structure Inv (X:Cx) (pins:vP_) (σ:List (Option V)) (H:Hp) (s:Shared):Prop where
 ok:X.Ok
 os:s.os=X.s₀.os
 bare:AllBare s.gens
 base:Un X.fs X.ex X.H₀ H X.s₀.heap s.heap
 loc:∃m,s.heap.Ns X.env.locals m/\∀(i:Nat) (x:Str) (v:V),X.N[i]? = some x->σ[i]? = some (some v)->jU X.env.scope x->∃u,RelV v u/\GN X.env s.heap m x u
 cell:∀x c,X.env.cells.lookup x=some c->∃v,s.heap.IsCell c v
 free:H X.env.locals=none
 freeC:∀x c,X.env.cells.lookup x=some c->H c=none
 pin:∀p∈X.pn++pins,s.heap.get? p.1=some p.2/\H p.1=none/\p.1≠X.env.locals/\p.1 ∉ X.fs/\∀v,p.2.data ≠ .cell v
 hok:HOk X.prog X.w H s.heap
 len:σ.length=X.N.length
section
variable {σ:List (Option V)}
def Cx.Ok.nofr (J:X.Ok) {b:Addr}{o:Obj}(e:X.base.get? b=some o):b ∉ X.fs:=fun L=>by
 have:=(J.funs.mem L).1;rw[e] at this;cases this
theorem Inv.bs (I:Inv X pins σ H s):∀b o,X.base.get? b=some o->s.heap.get? b=some o/\H b=none:=fun b o e=>
 #[I.base.keep b o (I.ok.bs b o e).1 (I.ok.bs b o e).2 (I.ok.nofr e) (I.ok.noex b o e),I.base.free b o (I.ok.bs b o e).1 (I.ok.bs b o e).2 (I.ok.noex b o e)]
def Inv.bk (I:Inv X pins σ H s):∀b o,X.base.get? b=some o->s.heap.get? b=some o:=fun b o e=>(I.bs b o e).1
theorem Inv.mod (I:Inv X pins σ H s):Mod X.K X.mg X.base:=I.ok.mod
def Inv.kIn (I:Inv X pins σ H s):X.K.In s.heap:=I.ok.mod.kin.keeps I.bk
theorem Inv.lt (I:Inv X pins σ H s):X.env.locals<s.heap.objs.size:=let ⟨_,hn,_⟩:=I.loc;hn.lt
def Inv.sz (I:Inv X pins σ H s):X.s₀.heap.objs.size<=s.heap.objs.size:=Ht I.ok.above (JR I.lt)
def Inv.nofs (I:Inv X pins σ H s) (h:s.heap.objs.size<=a):a ∉ X.fs:=fun J=>by
 obtain⟨_,o,L,_⟩:=I.ok.funs.mem J;exact absurd (Hw (xu L) (Ht I.sz h)) (Ir _)
def Inv.cne (I:Inv X pins σ H s):∀x c,X.env.cells.lookup x=some c->c≠X.env.locals:=fun x c e z=>by
 obtain⟨v,o,U,M⟩:=I.cell x c e;obtain⟨m,⟨o',es,W,J,L,_⟩,_⟩:=I.loc;rw[z,J] at U;cases U;rw[L] at M;cases M
theorem Inv.funs (I:Inv X pins σ H s):s.heap.FunFrames X.base X.outer:=by
 have J:∀(l:List Env),(∀b∈P1 l,b∈X.fs)->X.s₀.heap.FunFrames X.base l->s.heap.FunFrames X.base l:=by
  intro l;induction l with
  |nil=>intro _ _;trivial
  |cons env r ih=>
   intro Y hl;obtain⟨Z,⟨L,o,M,hn,ho,hd⟩,hr⟩:=hl;have W:L∈X.fs:=Y L (by unfold P1;rw[JS,M];exact HD);obtain⟨sl,e⟩:=I.base.slot L o ho (I.ok.frf L W) W fun z=>I.ok.exfs L z W
   exact#[Z,#[L,_,M,hn,e,hd],ih (fun b U=>Y b (by unfold P1;rw[JS,M];exact HB _ U)) hr]
 exact J X.outer (fun _ U=>U) I.ok.funs
theorem Inv.stack (I:Inv X pins σ H s):s.heap.FunFrames X.base X.stack:=by
 rcases I.ok.stk with e | ⟨e,hf⟩
 .rw[e];exact I.funs
 .rw[e];obtain⟨m,J,_⟩:=I.loc;refine .cons (by rw[I.ok.kind];decide) hf J ?_ I.funs;exact Heap.get?_none_of_le (Ht I.ok.bsz I.ok.above)
def Inv.stkSub (I:Inv X pins σ H s):∀b∈P1 X.stack,b∈X.env.locals::X.fs:=fun b J=>by
 rcases I.ok.stk with e | ⟨e,hf⟩
 .rw[e] at J;exact HB _ J
 .rw[e] at J;unfold P1 at J;rw[JS,hf] at J;exact J
def Inv.stkFree (I:Inv X pins σ H s):∀b∈P1 X.stack,H b=none:=fun b J=>by
 rcases xr.mp (I.stkSub b J) with e | J
 .rw[e];exact I.free
 .obtain⟨_,o,L,_⟩:=I.ok.funs.mem J;exact I.base.free b o L (I.ok.frf b J) fun z=>I.ok.exfs b z J
def Inv.step {g':Array GenState}{t':Nat}{ch:vL_}(I:Inv X pins σ H s)
  (U:∀b∈ch,(b∈X.ex\/X.s₀.heap.objs.size<=b)/\b≠X.env.locals/\(∀x c,X.env.cells.lookup x=some c->c≠b)/\∀p∈X.pn++pins,p.1≠b)
  (keep:∀b o,b≠X.env.locals->b ∉ X.fs->b ∉ ch->s.heap.get? b=some o->H b=none->h'.get? b=some o)
  (slot:∀b o,b≠X.env.locals->b∈X.fs->b ∉ ch->s.heap.get? b=some o->H b=none->∃sl,h'.get? b=some { o with slots:=sl }) (free:∀b o,b ∉ ch->s.heap.get? b=some o->H b=none->H' b=none)
  (there:∀b o,b ∉ ch->s.heap.get? b=some o->∃o',h'.get? b=some o')
  (tups:∀b xs,H b=some (.tup xs)->H' b=some (.tup xs)) (frzs:∀b o u,H b=some (.frz o u)->H' b=some (.frz o u)) (tbls:∀b ps,H b=some (.tbl ps)->∃more,H' b=some (.tbl (ps++more)))
  (ns:∀m,s.heap.Ns X.env.locals m->h'.Ns X.env.locals m) (hok:HOk X.prog X.w H' h') (hg:AllBare g') :
  Inv X pins σ H' { s with heap:=h',gens:=g',drawn:=d',toks:=t' }:=by
 have neL:∀b o,X.s₀.heap.get? b=some o->b≠X.env.locals:=fun b o e=>HE (Hw (xu e) I.ok.above)
 have W:∀b o,X.s₀.heap.get? b=some o->b ∉ X.ex->b ∉ ch:=fun b o e J Z=>by
  rcases(U b Z).1 with z | z
  .exact J z
  .exact absurd (Hw (xu e) z) (Ir _)
 have M:∀x c,X.env.cells.lookup x=some c->∀v,s.heap.IsCell c v->h'.IsCell c v:=fun x c e v hQ__=>by
  obtain⟨o,ho,hd⟩:=hQ__;have L:c ∉ ch:=fun z=>(U c z).2.2.1 x c e rfl
  by_cases hc:c∈X.fs
  .obtain⟨sl,q⟩:=slot c o (I.cne x c e) hc L ho (I.freeC x c e);exact#[_,q,hd]
  .exact#[o,keep c o (I.cne x c e) hc L ho (I.freeC x c e),hd]
 refine#[I.ok,I.os,hg,#[fun b o e n Z J=>?_,fun b o e n Z J=>?_,fun b o e n J=>?_,fun b o e J=>?_,fun b xs e=>tups b xs (I.base.tups b xs e),fun b o xs e=>frzs b o xs (I.base.frzs b o xs e),fun b ps e=>?_],?_,fun x c e=>?_,?_,fun x c e=>?_,fun p hp=>?_,hok,I.len]
 .exact keep b o (neL b o e) Z (W b o e J) (I.base.keep b o e n Z J) (I.base.free b o e n J)
 .obtain⟨sl,Y⟩:=I.base.slot b o e n Z J;obtain⟨sl',e2⟩:=slot b _ (neL b o e) Z (W b o e J) Y (I.base.free b o e n J);exact#[sl',e2]
 .obtain⟨o',Y⟩:=I.base.there b o e J;exact free b o' (W b o e J) Y (I.base.free b o e n J)
 .obtain⟨o',Y⟩:=I.base.there b o e J;exact there b o' (W b o e J) Y
 .obtain⟨m1,Y⟩:=I.base.tbls b ps e;obtain⟨m2,e2⟩:=tbls b _ Y;exact#[m1++m2,by rw[e2,Array.append_assoc]]
 .obtain⟨m,hn,hl⟩:=I.loc;refine#[m,ns m hn,fun i x v Y e2 e3=>?_];obtain⟨u,r,l⟩:=hl i x v Y e2 e3;refine#[u,r,?_];rcases l with l | ⟨k,c,e,z⟩
  .exact .inl l
  .exact .inr #[k,c,e,M x c e _ z]
 .obtain⟨v,z⟩:=I.cell x c e;exact#[v,M x c e v z]
 .obtain⟨m,⟨o,_,_,ho,_⟩,_⟩:=I.loc;exact free _ o (fun z=>(U _ z).2.1 rfl) ho I.free
 .obtain⟨v,o,ho,hd⟩:=I.cell x c e;exact free c o (fun z=>(U c z).2.2.1 x c e rfl) ho (I.freeC x c e)
 .obtain⟨e,n,ne,nf,d⟩:=I.pin p hp;have L:p.1 ∉ ch:=fun z=>(U p.1 z).2.2.2 p hp rfl
  exact#[keep p.1 p.2 ne nf L e n,free p.1 p.2 L e n,ne,nf,d]
def Inv.un {t':Nat}(I:Inv X pins σ H s) (u:Un X.fs [] H H' s.heap h') (U:HOk X.prog X.w H' h'):Inv X pins σ H' { s with heap:=h',toks:=t' }:=by
 obtain⟨m,⟨o,es,ep,Y,r⟩,_⟩:=id I.loc;obtain⟨sl,hL⟩:=u.any Y I.free (by simp);exact I.step (g':=s.gens) (d':=s.drawn) (ch:=[]) (fun _ z=>nomatch z) (fun b o _ M _ e n=>u.keep b o e n M (by simp)) (fun b o _ M _ e n=>u.slot b o e n M (by simp)) (fun b o _ e n=>u.free b o e n (by simp)) (fun b o _ e=>u.there b o e (by simp)) u.tups u.frzs u.tbls (fun m' Z=>by
  obtain⟨o',L,W,J,r'⟩:=Z;rw[Y] at J;cases J;exact#[_,L,W,hL,r']) U I.bare
def Inv.call {t':Nat}{ch:vL_}(I:Inv X pins σ H s) (u:Un (P1 X.stack) ch H H' s.heap h') (W:HOk X.prog X.w H' h') (hg:AllBare g')
  (M:∀b∈ch,(b∈X.ex\/X.s₀.heap.objs.size<=b)/\b≠X.env.locals/\(∀x c,X.env.cells.lookup x=some c->c≠b)/\∀p∈X.pn++pins,p.1≠b) :
  Inv X pins σ H' { s with heap:=h',gens:=g',drawn:=d',toks:=t' }:=by
 obtain⟨m,⟨o,es,ep,ho,r⟩,_⟩:=id I.loc;obtain⟨sl,Y⟩:=u.any ho I.free fun z=>(M _ z).2.1 rfl
 exact I.step (ch:=ch) M (fun b o Y hb J e n=>u.keep b o e n (fun z=>(xr.mp (I.stkSub b z)).elim Y hb) J) (fun b o _ _ J e n=>u.any e n J) (fun b o J e n=>u.free b o e n J) (fun b o J e=>u.there b o e J) u.tups u.frzs u.tbls (fun m' hm=>by
  obtain⟨o',U,Z,L,r'⟩:=hm;rw[ho] at L;cases L;exact#[_,U,Z,Y,r']) W hg
def Inv.turned {t':Nat}{it:Addr}(I:Inv X pins σ H s) (k:∀b o,b≠it->s.heap.get? b=some o->h'.get? b=some o) (Z:H it=none) (M:it≠X.env.locals)
  (h1:it∈X.ex\/X.s₀.heap.objs.size<=it) (h2:∀x c,X.env.cells.lookup x=some c->c≠it) (Y:∀p∈X.pn++pins,p.1≠it):Inv X pins σ H { s with heap:=h',toks:=t' }:=by
 have L:∀b u,H b=some u->b≠it:=fun b u e z=>by rw[z,Z] at e;cases e
 refine I.step (g':=s.gens) (d':=s.drawn) (ch:=[it]) (fun b W=>?_) (fun b o _ _ J e _=>k b o (fun z=>J (by simp[z])) e) (fun b o _ _ J e _=>#[o.slots,k b o (fun z=>J (by simp[z])) e]) (fun _ _ _ _ n=>n)
  (fun b o J e=>#[o,k b o (fun z=>J (by simp[z])) e]) (fun _ _ e=>e) (fun _ _ _ e=>e) (fun b ps e=>#[#v[],by rw[e];simp]) (fun m U=>?_) (fun b u e=>?_) I.bare
 .have e:b=it:=by simpa using W
  subst e;exact#[h1,M,h2,Y]
 .obtain⟨o,es,ep,ho,r⟩:=U;exact#[o,es,ep,k _ o (Hz M) ho,r]
 .refine(I.hok b u e).stay (fun c v J q=>k c v ?_ q) (fun _ q=>q) fun _ _ q=>q
  rcases J with z | z
  .rw[z];exact L b u e
  .exact L c _ z
def Inv.tok (I:Inv X pins σ H s) (t:Nat):Inv X pins σ H { s with toks:=t }:=I.un (h':=s.heap) (t':=t) Un.refl I.hok
theorem Inv.kept {t':Nat}(I:Inv X pins σ H s) (k:∀b u,s.heap.get? b=some u->h'.get? b=some u):Inv X pins σ H { s with heap:=h',toks:=t' }:=I.un (Un.kept k) (I.hok.kept k)
theorem Inv.laid {o:HO}{t':Nat}(I:Inv X pins σ H s) (k:∀b u,s.heap.get? b=some u->h'.get? b=some u) (L:s.heap.objs.size<=a) (J:ObjOk X.prog X.w (l8 H a o) h' a o) :
  Inv X pins σ (l8 H a o) { s with heap:=h',toks:=t' }:=I.un (Un.laid k L (I.hok.fresh L)) (I.hok.laid k L J)
theorem Inv.write {x e:Addr}{o:HO}{t':Nat}(I:Inv X pins σ H s) (U:cI (H x)) (M:e=x\/H e=some (.own x)) (k:∀b u,b≠e->s.heap.get? b=some u->h'.get? b=some u) (J:∃u,h'.get? e=some u)
  (L:ObjOk X.prog X.w (l8 H x o) h' x o):Inv X pins σ (l8 H x o) { s with heap:=h',toks:=t' }:=I.un (Un.write U M k J) (I.hok.write U M k J L)
def Inv.weak {U:List (Option V)}(I:Inv X pins σ H s) (hl:U.length=σ.length) (w:∀(i:Nat) v,U[i]? = some (some v)->σ[i]? = some (some v)):Inv X pins U H s:=
 #[I.ok,I.os,I.bare,I.base,let ⟨m,hn,hl'⟩:=I.loc;#[m,hn,fun i x v L M J=>hl' i x v L (w i v M) J],I.cell,I.free,I.freeC,I.pin,I.hok,hl.trans I.len]
def Inv.pins_of {J:vP_}(I:Inv X pins σ H s) (h:∀p∈J,s.heap.get? p.1=some p.2/\H p.1=none/\p.1≠X.env.locals/\p.1 ∉ X.fs/\∀v,p.2.data ≠ .cell v):Inv X J σ H s:=
 #[I.ok,I.os,I.bare,I.base,I.loc,I.cell,I.free,I.freeC,fun p L=>(Im.mp L).elim (fun z=>I.pin p (List.mem_append_left _ z)) (h p),I.hok,I.len]
def pA {N:List Str}(M:N.Nodup) (a:N[i]? = some x) (b:N[j]? = some x):i=j:=by
 obtain⟨h1,J⟩:=HQ.mp a;obtain⟨h2,L⟩:=HQ.mp b;exact(List.getElem_inj M).mp (J.trans L.symm)
def zo {A:Around}{E:vQ_}{i:Nat}{x:Str}{v:V}{u:Value}{Q:Unit->Shared->Prop}(I:Inv X pins σ H s) (hN:X.N.Nodup) (hi:X.N[i]? = some x) (Y:T7 X.env.scope x) (r:RelV v u)
  (h:∀s',Inv X pins (σ.set i (some v)) H s'->(∃a,Heap.SameBut a s.heap s'.heap/\(a=X.env.locals\/X.env.cells.lookup x=some a))->Q () s') (hf:X.fn x=true\/X.env.scope.names.lookup x=some .local:=by first | exact .inl rfl | exact .inr rfl | assumption):wpAny M A (storeName X.env x u) Q E s:=by
 obtain⟨m,hn,hl⟩:=id I.loc;have hcls:(X.env.scope.kind == .class||(X.env.scope.kind == .module&&X.env.locals != X.env.globals))=false:=by rw[I.ok.kind];rfl
 have hiσ:i<σ.length:=by rw[I.len];exact(HQ.mp hi).1
 have cne:=I.cne;have L:∀{a:Addr}{h':Heap},(∃o,s.heap.get? a=some o/\H a=none)->Heap.SameBut a s.heap h'->HOk X.prog X.w H h':=fun {a h'} ha J b ob e=>by
  obtain⟨_,_,Z⟩:=ha;refine(I.hok b ob e).stay (fun c w' W q=>(J.2 c ?_).trans q) (fun _ q=>q) fun _ _ q=>q
  rintro rfl;rcases W with rfl | W
  .rw[Z] at e;cases e
  .rw[Z] at W;cases W
 rcases Y with hk | hk
 .refine wpAny_storeName_local hk hn (fun h' hn' J=>?_) hcls;obtain⟨oL,_,_,hoL,_⟩:=id hn;refine h _ #[I.ok,I.os,I.bare,#[fun b o e n hb Y=>?_,fun b o e n hb Y=>?_,I.base.free,fun b o e Y=>?_,I.base.tups,I.base.frzs,I.base.tbls],#[_,hn',fun j y v' U e2 e3=>?_],fun y c e=>?_,I.free,I.freeC,fun p hp=>?_,L #[oL,hoL,I.free] J,by simpa using I.len] #[_,J,.inl rfl]
  .exact(J.2 b (HE (Hw (xu e) I.ok.above))).trans (I.base.keep b o e n hb Y)
  .obtain⟨sl,U⟩:=I.base.slot b o e n hb Y;exact#[sl,(J.2 b (HE (Hw (xu e) I.ok.above))).trans U]
  .obtain⟨o',U⟩:=I.base.there b o e Y;exact#[o',(J.2 b (HE (Hw (xu e) I.ok.above))).trans U]
  .by_cases hj:j=i
   .subst hj;rw[hi] at U;cases U;rw[JT hiσ] at e2;cases e2;exact#[u,r,.inl #[hk,by simp]]
   .rw[IK (Hz hj)] at e2;obtain⟨u',r',q⟩:=hl j y v' U e2 e3;refine#[u',r',?_];rcases q with ⟨k,e⟩ | ⟨k,c,e,z⟩
    .refine .inl #[k,?_];have:y≠x:=fun e=>hj (pA hN U (e▸hi))
     simp[this,e]
    .exact .inr #[k,c,e,z.sameBut J (cne y c e)]
  .obtain⟨w',z⟩:=I.cell y c e;exact#[w',z.sameBut J (cne y c e)]
  .obtain⟨e,n,ne,nf,d⟩:=I.pin p hp;exact#[(J.2 p.1 ne).trans e,n,ne,nf,d]
 .have hfn:X.fn x=true:=by
   rcases hf with z | z
   .exact z
   .rw[z] at hk;cases hk
  obtain⟨c,W⟩:=I.ok.has x (.inl hk);obtain⟨w',z⟩:=I.cell x c W;refine wpAny_storeName_cell I.ok.kind hk W z (fun h' hc' J=>?_);obtain⟨oc,hoc,hocd⟩:=id z;refine h { s with heap:=h' } #[I.ok,I.os,I.bare,#[fun b o e n hb Y=>?_,fun b o e n hb Y=>?_,I.base.free,fun b o e Y=>?_,I.base.tups,I.base.frzs,I.base.tbls],#[m,hn.sameBut J (Hz (cne x c W)),fun j y v' U e2 e3=>?_],fun y c' e=>?_,I.free,I.freeC,fun p hp=>?_,L #[oc,hoc,I.freeC x c W] J,by simpa using I.len] #[c,J,.inr W]
  .exact(J.2 b (HE (Hw (xu e) (I.ok.cab x c hfn W)))).trans (I.base.keep b o e n hb Y)
  .obtain⟨sl,U⟩:=I.base.slot b o e n hb Y;exact#[sl,(J.2 b (HE (Hw (xu e) (I.ok.cab x c hfn W)))).trans U]
  .obtain⟨o',U⟩:=I.base.there b o e Y;exact#[o',(J.2 b (HE (Hw (xu e) (I.ok.cab x c hfn W)))).trans U]
  .by_cases hj:j=i
   .subst hj;rw[hi] at U;cases U;rw[JT hiσ] at e2;cases e2;exact#[u,r,.inr #[.inl hk,c,W,hc']]
   .rw[IK (Hz hj)] at e2;obtain⟨u',r',q⟩:=hl j y v' U e2 e3;refine#[u',r',?_];rcases q with q | ⟨k,c',e,z'⟩
    .exact .inl q
    .refine .inr #[k,c',e,z'.sameBut J ?_];rintro rfl;exact hj (pA hN U (I.ok.inj _ _ _ e W▸hi))
  .by_cases hcc:c'=c
   .subst hcc;exact#[_,hc']
   .obtain⟨w2,z2⟩:=I.cell y c' e;exact#[w2,z2.sameBut J hcc]
  .obtain⟨e,n,ne,nf,d⟩:=I.pin p hp;refine#[(J.2 p.1 ?_).trans e,n,ne,nf,d];intro q;rw[q,hoc] at e;have q':oc=p.2:=HU e;exact d w' (by rw[<-q'];exact hocd)
def iq {A:Around}{E:vQ_}{i:Nat}{x:Str}{v:V}{u:Value}{Q:Unit->Shared->Prop}(I:Inv X pins σ H s) (W:X.N.Nodup) (hi:X.N[i]? = some x) (L:T7 X.env.scope x) (r:RelV v u)
  (h:∀s',Inv X pins (σ.set i (some v)) H s'->Q () s') (U:X.fn x=true\/X.env.scope.names.lookup x=some .local:=by first | exact .inl rfl | exact .inr rfl | assumption):wpAny M A (storeName X.env x u) Q E s:=
 zo I W hi L r (fun s' J _=>h s' J) U
def Inv.call' {s':Shared}{ch:vL_}(I:Inv X pins σ H s) (U:s'.os=s.os) (u:Un (P1 X.stack) ch H H' s.heap s'.heap) (L:HOk X.prog X.w H' s'.heap) (M:AllBare s'.gens)
  (J:∀b∈ch,(b∈X.ex\/X.s₀.heap.objs.size<=b)/\b≠X.env.locals/\(∀x c,X.env.cells.lookup x=some c->c≠b)/\∀p∈X.pn++pins,p.1≠b):Inv X pins σ H' s':=by
 obtain⟨h',g',d',t',o'⟩:=s';have e:o'=s.os:=U;subst e;exact I.call (g':=g') (t':=t') (d':=d') u L M J
end
abbrev XK:=Value->Option Addr->Hp->Prop
abbrev St:=List (Option V)
variable {σ:St}
abbrev VK:=V->Hp->Prop
variable {r:List V->Hp->VK->Prop}
abbrev TE:=St->Hp->VK->Prop
variable {te:TE}{trs:List (TE × TE)}
abbrev TT:=St->Hp->(Bool->Hp->Prop)->Prop
variable {tc:TT}
abbrev TA:=St->Hp->(List V->Hp->Prop)->Prop
structure Ends where
 nx:St->Hp->Prop
 rt:VK
 bk:St->Hp->Prop:=fun _ _=>False
 ct:St->Hp->Prop:=fun _ _=>False
abbrev TS:=Ends->St->Hp->Prop
variable {tb:TS}
def EP (X:Cx) (pins:vP_) (σ:St) (Q:VK) (u:Value) (s':Shared):Prop:=∃v H',Inv X pins σ H' s'/\RelV v u/\Q v H'
def TP (X:Cx) (pins:vP_) (σ:St) (Q:Bool->Hp->Prop) (b:Bool) (s':Shared):Prop:=∃H',Inv X pins σ H' s'/\Q b H'
def AP (X:Cx) (pins:vP_) (σ:St) (Q:List V->Hp->Prop) (us:vV_) (s':Shared):Prop:=∃vs H',Inv X pins σ H' s'/\Vals vs us/\Q vs H'
def SP (X:Cx) (pins:vP_) (D:Ends) (f:Flow) (s':Shared):Prop:=
 match f with
 |.next=>∃σ' H',Inv X pins σ' H' s'/\D.nx σ' H'
 |.brk=>∃σ' H',Inv X pins σ' H' s'/\D.bk σ' H'
 |.cont=>∃σ' H',Inv X pins σ' H' s'/\D.ct σ' H'
 |.ret u=>∃v σ' H',Inv X pins σ' H' s'/\RelV v u/\D.rt v H'
def PE (X:Cx) (e:Expr) (t:TE):Prop:=
 ∀(pins:vP_) (s:Shared) (σ:St) (H:Hp) (Q:VK),Inv X pins σ H s->t σ H Q->wpAny (model X.prog X.w) X.A (eval e X.env) (EP X pins σ Q) X.xe s
def PT (X:Cx) (e:Expr) (t:TT):Prop:=
 ∀(pins:vP_) (s:Shared) (σ:St) (H:Hp) (Q:Bool->Hp->Prop),Inv X pins σ H s->t σ H Q->wpAny (model X.prog X.w) X.A (isTrue e X.env (eval e X.env)) (TP X pins σ Q) X.xe s
def PW (X:Cx) (e:Expr) (t:TT):Prop:=
 ∀(whole:Sem Value) (pins:vP_) (s:Shared) (σ:St) (H:Hp) (Q:Bool->Hp->Prop),Inv X pins σ H s->t σ H Q->wpAny (model X.prog X.w) X.A (isTrue e X.env whole) (TP X pins σ Q) X.xe s
def PW.pt {t:TT}(h:PW X e t):PT X e t:=h _
def PA (X:Cx) (es:List Expr) (t:TA):Prop:=
 ∀(pos:Pos) (pins:vP_) (s:Shared) (σ:St) (H:Hp) (Q:List V->Hp->Prop),Inv X pins σ H s->t σ H Q->wpAny (model X.prog X.w) X.A (spliced (backTo pos (starEach es X.env))) (AP X pins σ Q) X.xe s
def PS (X:Cx) (st:Stmt) (t:TS):Prop:=
 ∀(pins:vP_) (s:Shared) (σ:St) (H:Hp) (D:Ends),Inv X pins σ H s->t D σ H->wpAny (model X.prog X.w) X.A (exec st X.env) (SP X pins D) X.xe s
def PSs (X:Cx) (st:List Stmt) (t:TS):Prop:=
 ∀(pins:vP_) (s:Shared) (σ:St) (H:Hp) (D:Ends),Inv X pins σ H s->t D σ H->wpAny (model X.prog X.w) X.A (execs st X.env) (SP X pins D) X.xe s
def t9 {α:Type}{t:Sem α}{Q Q':α->Shared->Prop}(h:wpAny M A t Q E s) (J:∀a s,Q a s->Q' a s):wpAny M A t Q' E s:=HF h J fun _ _ x=>x
section
def X3 (i:Nat):TE:=fun σ H Q=>∃v,σ[i]? = some (some v)/\Q v H
def tC (v:V):TE:=fun _ H Q=>Q v H
def yv {i:Nat}{x:Str}{pos:Pos}(hN:X.N[i]? = some x) (hv:jU X.env.scope x) (W:(x == ("__debug__" : Str))=false:=by decide) (U:(x == ("__classdict__" : Str))=false:=by decide):PE X (.Name x pos) (X3 i):=by
 intro pins s σ H Q I h;obtain⟨v,e,h⟩:=h;obtain⟨m,hn,hl⟩:=I.loc;obtain⟨u,r,l⟩:=hl i x v hN e hv;have M:EP X pins σ Q u s:=#[v,H,I,r,h]
 rcases l with ⟨L,Z⟩ | ⟨L,c,Y,J⟩
 .exact wpAny_Name (wpAny_loadName_local I.ok.kind L hn Z M) W
 .rcases L with L | L
  .exact wpAny_Name (wpAny_loadName_cell I.ok.kind L Y J M) W
  .exact wpAny_Name (wpAny_loadName_free I.ok.kind L Y J M U) W
def cq {i j pos}:PE X (.Constant (.int i) j pos) (tC (.int i)):=fun _ _ _ H _ I h=>wpAny_Constant_int #[.int i,H,I.tok _,#[_,rfl],h]
def Gr {b j pos}:PE X (.Constant (.bool b) j pos) (tC (.bl b)):=fun _ _ _ H _ I h=>Constant_bool #[.bl b,H,I,rfl,h]
def vm {j pos}:PE X (.Constant .none j pos) (tC .non):=fun _ _ _ H _ I h=>Constant_none #[.non,H,I,rfl,h]
def av {x j pos}:PE X (.Constant (.str x) j pos) (tC (.str x)):=fun _ _ _ H _ I h=>Calls.Constant_str #[.str x,H,I.tok _,#[_,rfl],h]
def Gl (X:Cx) (x:Str):Prop:=X.env.kindOf x=some .globalImplicit
def tK {E:vQ_}{pins:vP_}{s:Shared}{H:Hp}{x:Str}{u:Value}{pos:Pos}{Q:vQ_}(I:Inv X pins σ H s) (M:Gl X x) (J:X.mg x=some u) (h:Q u s)
  (L:(x == ("__debug__" : Str))=false:=by decide):wpAny (model X.prog X.w) X.A (eval (.Name x pos) X.env) Q E s:=
 Calls.Name_function_global I.ok.kind M (Calls.loadGlobal_global (by rw[I.ok.glob];exact I.mod.glob.keeps I.bk) J h) L
def Z9 {E:vQ_}{pins:vP_}{s:Shared}{H:Hp}{x:Str}{u:Value}{pos:Pos}{Q:vQ_}(I:Inv X pins σ H s) (W:Gl X x) (J:X.mg x=none) (U:bootBuiltins x=some u) (h:Q u s)
  (L:x ≠ "__name__" := by decide) (M:(x == ("__debug__" : Str))=false:=by decide):wpAny (model X.prog X.w) X.A (eval (.Name x pos) X.env) Q E s:=by
 obtain⟨Y,h1,h2⟩:=I.mod.blt;exact Calls.Name_function_global I.ok.kind W (Calls.loadGlobal_builtin (by rw[I.ok.glob];exact I.mod.glob.keeps I.bk) J (by rw[I.ok.blt];exact h1.keeps I.bk) ((h2 x L).trans U) h) M
def EA {x:Str}{v:V}{u:Value}{pos:Pos}(M:Gl X x) (J:X.mg x=some u) (r:RelV v u) (L:(x == ("__debug__" : Str))=false:=by decide):PE X (.Name x pos) (tC v):=
 fun _ _ _ H _ I h=>tK I M J #[v,H,I,r,h] L
def uZ {x:Str}{v:V}{u:Value}{pos:Pos}(W:Gl X x) (J:X.mg x=none) (U:bootBuiltins x=some u) (r:RelV v u) (L:x ≠ "__name__" := by decide) (M:(x == ("__debug__" : Str))=false:=by decide):PE X (.Name x pos) (tC v):=
 fun _ _ _ H _ I h=>Z9 I W J U #[v,H,I,r,h] L M
variable {a b:Expr}{ta tb:TE}
variable {tA tB':TT}
def Eh (t u:TT):TT:=fun σ H Q=>t σ H fun c H1=>if c=true then u σ H1 Q else Q false H1
def vd (t u:TT):TT:=fun σ H Q=>t σ H fun c H1=>if c=true then Q true H1 else u σ H1 Q
def Ex (t:TT):TT:=fun σ H Q=>t σ H fun c H1=>Q (!c) H1
def FY (J:PT X a tA):PW X (.BoolOp .And [a] pos) tA:=by
 intro L pins s σ H Q I h;refine isTrue_and (t9 (J pins s σ H Q I h) fun c s1 e=>?_);cases c with
 |true=>exact isTrue_and_nil e
 |false=>exact e
def vh (J:PT X a tA):PW X (.BoolOp .Or [a] pos) tA:=by
 intro L pins s σ H Q I h;refine isTrue_or (t9 (J pins s σ H Q I h) fun c s1 e=>?_);cases c with
 |false=>exact isTrue_or_nil e
 |true=>exact e
def El (U:PT X a tA) (M:PW X (.BoolOp .And (b::rest) pos) tB'):PW X (.BoolOp .And (a::b::rest) pos) (Eh tA tB'):=by
 intro W pins s σ H Q I h;refine isTrue_and (t9 (U pins s σ H _ I h) fun c s1 ⟨H1,L,J⟩=>?_);cases c with
 |true=>exact M W pins s1 σ H1 Q L J
 |false=>exact#[H1,L,J]
def DB (U:PT X a tA) (M:PW X (.BoolOp .Or (b::rest) pos) tB'):PW X (.BoolOp .Or (a::b::rest) pos) (vd tA tB'):=by
 intro W pins s σ H Q I h;refine isTrue_or (t9 (U pins s σ H _ I h) fun c s1 ⟨H1,L,J⟩=>?_);cases c with
 |true=>exact#[H1,L,J]
 |false=>exact M W pins s1 σ H1 Q L J
def vJ (J:PT X a tA):PT X (.UnaryOp .Not a pos) (Ex tA):=by
 intro pins s σ H Q I h;exact isTrue_not (J pins s σ H (fun c H1=>Q (!c) H1) I h)
def vG (ta tb:TE):TE:=fun σ H Q=>ta σ H fun x H1=>∃c,x = .bl c/\if c=true then tb σ H1 Q else Q (.bl false) H1
def BN (ta:TE):TE:=fun σ H Q=>ta σ H fun x H1=>∃c,x = .bl c/\Q (.bl (!c)) H1
def xQ {op} {t:TE}(h:PE X a t):PE X (.BoolOp op [a] pos) t:=fun pins s σ H Q I J=>BoolOp_one (h pins s σ H Q I J)
def Ff (U:PE X a ta) (M:PE X (.BoolOp .And (b::rest) pos) tb):PE X (.BoolOp .And (a::b::rest) pos) (vG ta tb):=by
 intro pins s σ H Q I h;refine BoolOp_and (t9 (U pins s σ H _ I h) fun v s1 ⟨x,H1,L,W,J⟩=>?_);obtain⟨c,rfl,J⟩:=J;cases W;refine Jw ?_;cases c with
 |true=>exact M pins s1 σ H1 Q L J
 |false=>exact#[.bl false,H1,L,rfl,J]
def Dh (M:PE X a ta):PE X (.UnaryOp .Not a pos) (BN ta):=by
 intro pins s σ H Q I h;refine UnaryOp_ (t9 (M pins s σ H _ I h) fun v s1 ⟨x,H1,L,U,J⟩=>?_);obtain⟨c,rfl,J⟩:=J;cases U;exact not_of (Jw #[.bl (!c),H1,L,rfl,J])
def zy (t:TT) (ta tb:TE):TE:=fun σ H Q=>t σ H fun c H1=>if c=true then ta σ H1 Q else tb σ H1 Q
def Cb (M:PT X c tA) (W:PE X a ta) (U:PE X b tb):PE X (.IfExp c a b pos) (zy tA ta tb):=by
 intro pins s σ H Q I h;refine wpAny_IfExp (t9 (M pins s σ H _ I h) fun d s1 ⟨H1,L,J⟩=>?_);cases d with
 |true=>exact W pins s1 σ H1 Q L J
 |false=>exact U pins s1 σ H1 Q L J
end
def SqL (K:vF_) (H:Hp) (a:Addr) (xs:List V):Prop:=
 Rd H a (.lst xs) \/
  ∃(o:Obj) (its:vR_) (n:Nat),K.lookup a=some o/\o.cls = .type "list" /\ o.dict=none/\o.data = .seq its n/\its.size<=sizeLine/\Vals xs its.toList
def SqT (K:vF_) (H:Hp) (a:Addr) (xs:List V):Prop:=
 Rd H a (.tup xs) \/
  ∃(o:Obj) (its:vR_) (n:Nat),K.lookup a=some o/\o.cls = .type "tuple" /\ o.data = .seq its n/\its.size<=sizeLine/\Vals xs its.toList
def zK:Value->Option V
 |.none=>some .non
 |.bool b=>some (.bl b)
 |.int i _=>some (.int i)
 |.str x _=>some (.str x)
 |.bytes b _=>some (.byt b)
 |.float b _=>some (.flt b)
 |.ref a=>some (.ref a)
 |.type n=>some (.ty n)
 |_=>none
def RelV.abs {x:V}(r:RelV x u):zK u=some x:=by
 cases x with
 |non=>cases r;rfl
 |bl _=>cases r;rfl
 |int _=>obtain⟨t,rfl⟩:=r;rfl
 |str _=>obtain⟨t,rfl⟩:=r;rfl
 |byt _=>obtain⟨t,rfl⟩:=r;rfl
 |flt _=>obtain⟨t,rfl⟩:=r;rfl
 |ref _=>cases r;rfl
 |ty _=>cases r;rfl
def RelV.inj {x:V}(r:RelV x u) (q:RelV y u):x=y:=HU (r.abs.symm.trans q.abs)
theorem Vals.inj:∀{xs ys:List V}{us:vV_},Vals xs us->Vals ys us->xs=ys:=by
 intro xs ys us h;induction h generalizing ys with
 |nil=>
  intro h2;cases h2;rfl
 |cons r t J=>
  intro h2;cases h2 with
  |cons L t'=>rw[r.inj L,J t']
def SqL.of {K:vF_}(h:H a=some (.lst xs)):SqL K H a xs:=.inl (.inl h)
def SqT.of {K:vF_}(h:H a=some (.tup xs)):SqT K H a xs:=.inl (.inl h)
def Inv.list (I:Inv X pins σ H s) (h:SqL X.K H a xs):∃its:List Value,Vals xs its/\PlainL s.heap a its.toArray/\xs.length<=sizeLine:=by
 rcases h with h | ⟨o,its,n,hk,hc,hd,hs,hz,r⟩
 .obtain⟨z,its,n,r,e⟩:=h.ok I.hok;exact#[its,r,#[_,n,e,rfl,rfl,rfl],z]
 .refine#[its.toList,r,#[o,n,I.kIn a o hk,hc,hd,by simpa using hs],?_];have e:=r.length;simp only[JU] at e;omega
def Inv.tuple (I:Inv X pins σ H s) (h:SqT X.K H a xs):∃its:List Value,Vals xs its/\IsTup s.heap a its.toArray/\xs.length<=sizeLine:=by
 rcases h with h | ⟨o,its,n,hk,hc,hs,hz,r⟩
 .obtain⟨z,its,r,p⟩:=h.ok I.hok;exact#[its,r,p,z]
 .refine#[its.toList,r,#[o,I.kIn a o hk,hc,n,by simpa using hs],?_];have e:=r.length;simp only[JU] at e;omega
def Inv.list_inj (I:Inv X pins σ H s) (h:SqL X.K H a xs) (h':SqL X.K H a ys):xs=ys:=by
 obtain⟨L,r,⟨o,n,e,_,_,d⟩,_⟩:=I.list h;obtain⟨J,U,⟨o',W,e',_,_,M⟩,_⟩:=I.list h';rw[e] at e';cases e';rw[d] at M;injection M with d1 _;have:L=J:=by simpa using congrArg Array.toList d1
 subst this;exact r.inj U
def Inv.tuple_inj (I:Inv X pins σ H s) (h:SqT X.K H a xs) (h':SqT X.K H a ys):xs=ys:=by
 obtain⟨L,r,⟨o,e,_,n,d⟩,_⟩:=I.tuple h;obtain⟨J,U,⟨o',e',_,W,M⟩,_⟩:=I.tuple h';rw[e] at e';cases e';rw[d] at M;injection M with d1 _;have:L=J:=by simpa using congrArg Array.toList d1
 subst this;exact r.inj U
abbrev Cx.wish (X:Cx) (E:vQ_):Cx:={ X with xe:=E }
abbrev Cx.nox (X:Cx):Cx:=X.wish fun _ _=>False
theorem Cx.Ok.wish (J:X.Ok) (E:vQ_):(X.wish E).Ok:=
 #[J.mod,J.kind,J.glob,J.blt,J.above,J.inj,J.has,J.cab,J.hd,J.frames,J.stk,J.exf,J.bs,J.bsz,J.noex,J.exfs,J.funs,J.frf]
def Cx.Ok.unwish (J:(X.wish E).Ok):X.Ok:=
 #[J.mod,J.kind,J.glob,J.blt,J.above,J.inj,J.has,J.cab,J.hd,J.frames,J.stk,J.exf,J.bs,J.bsz,J.noex,J.exfs,J.funs,J.frf]
theorem Inv.wish (I:Inv X pins σ H s) (E:vQ_):Inv (X.wish E) pins σ H s:=#[I.ok.wish E,I.os,I.bare,I.base,I.loc,I.cell,I.free,I.freeC,I.pin,I.hok,I.len]
theorem Inv.unwish (I:Inv (X.wish E) pins σ H s):Inv X pins σ H s:=#[I.ok.unwish,I.os,I.bare,I.base,I.loc,I.cell,I.free,I.freeC,I.pin,I.hok,I.len]
theorem SP.unwish {D:Ends}(h:SP (X.wish E) pins D f s'):SP X pins D f s':=by
 cases f with
 |next=>obtain⟨σ',H',I,q⟩:=h;exact#[σ',H',I.unwish,q]
 |brk=>obtain⟨σ',H',I,q⟩:=h;exact#[σ',H',I.unwish,q]
 |cont=>obtain⟨σ',H',I,q⟩:=h;exact#[σ',H',I.unwish,q]
 |ret u=>obtain⟨v,σ',H',I,r,q⟩:=h;exact#[v,σ',H',I.unwish,r,q]
theorem PSs.nox {st:List Stmt}{t:TS}(h:PSs X.nox st t):PSs X st t:=fun pins s σ H D I J=>
 HF (h pins s σ H D (I.wish _) J) (fun _ _ q=>q.unwish) fun _ _ z=>False.elim z
section
variable {st:Stmt}{rest:List Stmt}{t u:TS}
def EG:TS:=fun D σ H=>D.nx σ H
def yU (t u:TS):TS:=fun D σ H=>t { D with nx:=u D } σ H
def xO:PSs X [] EG:=fun _ _ σ H _ I h=>JV #[σ,H,I,h]
def zV (h1:PS X st t) (h2:PSs X rest u):PSs X (st::rest) (yU t u):=by
 intro pins s σ H D I h;refine wpAny_execs_cons (t9 (h1 pins s σ H { D with nx:=u D } I h) fun f s1 q=>?_);cases f with
 |next=>
  obtain⟨σ',H',J,q⟩:=q;exact h2 pins s1 σ' H' D J q
 |ret v=>exact q
 |brk=>exact q
 |cont=>exact q
def uY (h1:PS X st t):PSs X [st] t:=by
 intro pins s σ H D I h;refine wpAny_execs_cons (t9 (h1 pins s σ H D I h) fun f s1 q=>?_);cases f with
 |next=>exact JV q
 |ret v=>exact q
 |brk=>exact q
 |cont=>exact q
def Inv.quiet (I:Inv X pins σ H s):interactive X.env=false:=by simp[interactive,I.ok.kind]
def BV (te:TE):TS:=fun D σ H=>te σ H fun _ H1=>D.nx σ H1
def Ft (U:PE X e te) (M:swapsWith e none pos.line X.env=pure false:=by rfl):PS X (.Expr e pos) (BV te):=by
 intro pins s σ H D I h;exact wpAny_Expr_any (t9 (U pins s σ H _ I h) fun v s1 ⟨x,H1,L,W,J⟩=>#[σ,H1,L,J]) I.quiet M
def BU (te:TE):TS:=fun D σ H=>te σ H D.rt
def Hh (M:PE X e te):PS X (.Return (some e) pos) (BU te):=by
 intro pins s σ H D I h;exact wpAny_Return_some (t9 (M pins s σ H _ I h) fun v s1 ⟨x,H1,L,U,J⟩=>#[x,σ,H1,L,U,J])
def BM (c:TT) (t u:TS):TS:=fun D σ H=>c σ H fun b H1=>if b=true then t D σ H1 else u D σ H1
def EN {a b:List Stmt}(M:PT X c tc) (W:PSs X a t) (U:PSs X b u):PS X (.If c a b pos) (BM tc t u):=by
 intro pins s σ H D I h;refine wpAny_If (t9 (M pins s σ H _ I h) fun d s1 ⟨H1,L,J⟩=>?_);cases d with
 |true=>exact W pins s1 σ H1 D L J
 |false=>exact U pins s1 σ H1 D L J
end
abbrev TG:=V->St->Hp->(St->Hp->Prop)->Prop
abbrev Q7:=List V->St->Hp->(St->Hp->Prop)->Prop
def PG (X:Cx) (J:Expr) (t:TG):Prop:=
 ∀(pins:vP_) (s:Shared) (σ:St) (H:Hp) (v:V) (u:Value) (Q:St->Hp->Prop),Inv X pins σ H s->RelV v u->t v σ H Q ->
  wpAny (model X.prog X.w) X.A (assign J X.env u) (fun _ s'=>∃σ' H',Inv X pins σ' H' s'/\Q σ' H') X.xe s
def W0 (X:Cx) (J:List Expr) (t:Q7):Prop:=
 ∀(pins:vP_) (s:Shared) (σ:St) (H:Hp) (vs:List V) (us:vV_) (Q:St->Hp->Prop),Inv X pins σ H s->Vals vs us->t vs σ H Q ->
  wpAny (model X.prog X.w) X.A (assignInOrder ((assignEach J X.env).map (·.2)) us) (fun _ s'=>∃σ' H',Inv X pins σ' H' s'/\Q σ' H') X.xe s
def R3 (i:Nat):TG:=fun v σ H Q=>Q (σ.set i (some v)) H
def J5 {i:Nat}{x:Str}(U:X.N.Nodup) (hi:X.N[i]? = some x) (L:T7 X.env.scope x) (M:X.fn x=true\/X.env.scope.names.lookup x=some .local:=by first | exact .inl rfl | exact .inr rfl | assumption):PG X (.Name x pos) (R3 i):=by
 intro pins s σ H v u Q I r h;exact wpAny_assign_Name (iq I U hi L r (fun s' J=>#[_,H,J,h]) M)
def qO:Q7:=fun J σ H Q=>J=[]/\Q σ H
def kD (t:TG) (u:Q7):Q7:=fun J σ H Q=>∃v r,J=v::r/\t v σ H fun σ' H'=>u r σ' H' Q
def tm:W0 X [] qO:=by
 intro pins s σ H J us Q I r h;obtain⟨e,h⟩:=h;subst e;cases r;exact assignInOrder_nil #[σ,H,I,h]
def lq {e:Expr}{es:List Expr}{t:TG}{u:Q7}(h1:PG X e t) (h2:W0 X es u)
  (J:(assignEach (e::es) X.env).map (·.2)=assign e X.env::(assignEach es X.env).map (·.2):=by rfl):W0 X (e::es) (kD t u):=by
 intro pins s σ H Y us Q I r h;obtain⟨v,Z,M,h⟩:=h;subst M;cases r with
 |cons r L=>
  rw[J];refine assignInOrder_cons (t9 (h1 pins s σ H _ _ _ I r h) fun _ s1 ⟨σ1,H1,W,U⟩=>?_);exact h2 pins s1 σ1 H1 _ _ Q W L U
def ur (K:vF_) (n:Nat) (t:Q7):TG:=fun v σ H Q=>∃a xs,v = .ref a/\SqT K H a xs/\xs.length=n/\t xs σ H Q
def qx {es:List Expr}{k:Nat}{t:Q7}{n:Nat}(U:X.calm=true) (h:W0 X es t)
  (hn:(assignEach es X.env).length=n:=by rfl) (L:(assignEach es X.env).findIdx? (·.1)=none:=by rfl):PG X (.Tuple es k pos) (ur X.K n t):=by
 intro pins s σ H v u Q I r J;obtain⟨a,xs,Z,Y,hl,J⟩:=J;subst Z;cases r;obtain⟨W,M,ht,hz⟩:=I.tuple Y;refine assign_Tuple_tuple (I.ok.hd U) ht (by simp[hn,<-hl,M.length]) L fun h' hx=>?_
 have I1:Inv X pins σ H { s with heap:=h' }:=I.kept (t':=s.toks) fun b o e=>hx b o (HE (xu e)) e
 exact h pins _ σ H xs _ Q I1 (by simpa using M) J
def bZ (te:TE) (g:TG):TS:=fun D σ H=>te σ H fun x H1=>g x σ H1 D.nx
def wA {tg e:Expr}{te:TE}(Z:PE X e te) (W:PG X tg g) (U:swapsWithSole [tg] e pos.line X.env=pure false:=by rfl) (L:swappedStores [tg] e X.env=pure none:=by rfl)
  (h1:(assignEach [tg] X.env).map (·.2)=[assign tg X.env]:=by rfl):PS X (.Assign [tg] e pos) (bZ te g):=by
 intro pins s σ H D I h;refine wpAny_Assign_stores (t9 (Z pins s σ H _ I h) fun v s1 ⟨x,H1,M,J,Y⟩=>?_) U L;rw[h1];exact t9 (W pins s1 σ H1 x v _ M J Y) fun _ s2 q=>q
def tJ {i:Nat}{x:Str}{e:Expr}{te:TE}{pos':Pos}(U:X.N.Nodup) (hi:X.N[i]? = some x) (hx:T7 X.env.scope x) (he:PE X e te) (W:swapsWith e (some (.Name x pos')) pos.line X.env=pure false:=by rfl) (J:X.fn x=true\/X.env.scope.names.lookup x=some .local:=by first | exact .inl rfl | exact .inr rfl | assumption) :
  PS X (.Assign [.Name x pos'] e pos) (bZ te (R3 i)):=by
 intro pins s σ H D I h;refine wpAny_Assign_Name (t9 (he pins s σ H _ I h) fun v s1 ⟨y,H1,M,L,Y⟩=>?_) W;exact iq M U hi hx L (fun s2 Z=>#[_,H1,Z,Y]) J
def He (i j:Nat) (ta:TA):TS:=fun D σ H=>ta σ H fun J H1=>∃v w,J=[v,w]/\D.nx ((σ.set i (some v)).set j (some w)) H1
def wQ {i j:Nat}{x y:Str}{a b:Expr}{px py M:Pos}{kt k2 pt2} (hc:X.calm=true) (W:X.N.Nodup) (hi:X.N[i]? = some x) (hj:X.N[j]? = some y) (J:i≠j)
  (Z:X.env.scope.names.lookup x=some .local) (Y:X.env.scope.names.lookup y=some .local) (ha:PA X [a,b] ta)
  (hw:swappedStores [.Tuple [.Name x px,.Name y py] kt M] (.Tuple [a,b] k2 pt2) X.env=pure (some [x,y]))
  (hs:swapsWithSole [.Tuple [.Name x px,.Name y py] kt M] (.Tuple [a,b] k2 pt2) pos.line X.env=pure false:=by rfl) :
  PS X (.Assign [.Tuple [.Name x px,.Name y py] kt M] (.Tuple [a,b] k2 pt2) pos) (He i j ta):=by
 intro pins s σ H D I h;rw[exec_Assign_arm];refine fx (wpAny_standAt ?_);rw[hs];refine fx (iO ?_);rw[gV #[]];refine fx (Tuple_ (t9 (ha _ pins s σ H _ I h) fun us s1 ⟨vs,H1,I1,r1,U⟩=>?_));obtain⟨v,w,e1,U⟩:=U;subst e1;obtain⟨u1,u2,rfl,rv,rw'⟩:∃u1 u2,us=[u1,u2]/\RelV v u1/\RelV w u2:=by
  cases r1 with
  |cons p q=>
   cases q with
   |cons p' q'=>
    cases q';exact#[_,_,rfl,p,p']
 refine ID ?_ (by show 2<=sizeLine;decide);have I2:Inv X pins σ H1 { s1 with heap:=s1.heap.push { cls:=.type "tuple",data:=.seq [u1,u2].toArray } }:=I1.kept (t':=s1.toks) fun b o e=>xo _ e
 rw[hw];refine fx (iO ?_);show wpAny (model X.prog X.w) X.A (do rule "assign.swapped-stores";let items <-unpackItems (.ref s1.heap.objs.size) 2 none;assignInOrder [fun v=>bindName X.env y v,fun v=>bindName X.env x v] items.reverse;pure Flow.next) _ _ _;refine fx (IE (fx (unpackItems_tuple (items:=#v[u1,u2]) (I.ok.hd hc) (IsTup.new s1.heap _) fun h' L=>?_)));have I3:=I2.kept (h':=h') (t':=s1.toks) fun b o e=>L b o (HE (xu e)) e
 show wpAny _ _ (assignInOrder [fun v=>bindName X.env y v,fun v=>bindName X.env x v] [u2,u1] >>= fun _=>pure Flow.next) _ _ _;refine fx (assignInOrder_cons (wpAny_bindName (iq I3 W hj (.inl Y) rw' (fun s2 I4=>?_) (.inr Y))));refine assignInOrder_cons (wpAny_bindName (iq I4 W hi (.inl Z) rv (fun s3 I5=>assignInOrder_nil (iO ?_)) (.inr Z)));rw[List.set_comm _ _ (Hz J)] at I5;exact#[_,H1,I5,U]
def Hm (c:TT) (tb:TS):TS:=fun D σ H=>∃W:Nat->St->Hp->Prop,(∃m,W m σ H)/\∀m σ H,W m σ H ->
 c σ H fun b H1=>if b=true then ∃N:St->Hp->Prop,(∀σ' H',N σ' H'->∃m',m'<m/\W m' σ' H')/\tb { D with nx:=N,ct:=N,bk:=D.nx } σ H1 else D.nx σ H1
def BQ (hp:PassesOwn (model X.prog X.w) X.A X.env X.xe) (hc:PT X c tc) (hb:PSs X body tb):PS X (.While c body [] pos) (Hm tc tb):=by
 intro pins s σ H D I h;obtain⟨W,⟨m0,w0⟩,J⟩:=h;refine wpAny_While (codeAny_whileLoop (fun n s'=>∃σ' H',Inv X pins σ' H' s'/\W n σ' H') ?_ m0 #[σ,H,I,w0]);rintro n s1 ⟨σ1,H1,I1,w1⟩;refine IL hp (t9 (hc pins s1 σ1 H1 _ I1 (J n σ1 H1 w1)) fun b s2 ⟨H2,I2,U⟩=>?_);cases b with
 |true=>
  obtain⟨N,hN,U⟩:=U;rw[fI rfl];refine IL hp (t9 (hb pins s2 σ1 H2 _ I2 U) fun f s3 M=>?_);cases f with
  |next=>
   obtain⟨σ3,L,I3,n3⟩:=M;obtain⟨m',Y,Z⟩:=hN σ3 L n3;exact#[m',Y,σ3,L,I3,Z]
  |cont=>
   obtain⟨σ3,L,I3,n3⟩:=M;obtain⟨m',Y,Z⟩:=hN σ3 L n3;exact#[m',Y,σ3,L,I3,Z]
  |brk=>exact M
  |ret v=>exact M
 |false=>
  rw[gV Hx];exact JV #[σ1,H2,I2,U]
structure It where
 go:Nat->Hp->Prop
 yld:Nat->Hp->V->Hp->Prop
 stop:Nat->Hp->Prop
def P8 (X:Cx) (pins:vP_) (H:Hp) (b:Addr):Prop:=
 H b=none/\b≠X.env.locals/\b ∉ X.fs/\(b∈X.ex\/X.s₀.heap.objs.size<=b)/\(∀x c,X.env.cells.lookup x=some c->c≠b)/\∀p∈X.pn++pins,p.1≠b
def Inv.fpOk {b:Addr}(I:Inv X pins σ H s) (J:s.heap.objs.size<=b) (L:H' b=none):P8 X pins H' b:=by
 refine#[L,HY (Hw I.lt J),I.nofs J,.inr (Ht I.sz J),fun x c e z=>?_,fun p M z=>?_]
 .obtain⟨v,q⟩:=I.cell x c e;exact absurd (Hw q.lt (by rw[z];exact J)) (Ir _)
 .exact absurd (Hw (xu (I.pin p M).1) (by rw[z];exact J)) (Ir _)
structure Turn (P:Program) (w:World) (K:vF_) (tg:Expr) (J:It) (fp:vL_) (it:Addr) (tn:Nat->Heap->Prop):Prop where
 mem:it∈fp
 obj:∀i h,tn i h->∀b∈fp,∃o,h.get? b=some o/\∀v,o.data ≠ .cell v
 keep:∀i h h',tn i h->(∀b∈fp,∀o,h.get? b=some o->h'.get? b=some o)->tn i h'
 item:∀(X:Cx),X.prog=P->X.w=w->X.K=K->X.calm=true->∀(i:Nat) (pins:vP_) (s:Shared) (σ:St) (H:Hp) (E:vQ_),Inv X pins σ H s->(∀b∈fp,P8 X pins H b)->tn i s.heap->J.go i H ->
  wpAny (model P w) X.A (pyNext (.ref it)) (fun r s1=>∃u,r=some u /\
   wpAny (model P w) X.A (letOwnedTupleGo tg (.ref it) u) (fun _ s2=>∃x H',Inv X pins σ H' s2/\RelV x u/\J.yld i H x H'/\tn (i+1) s2.heap/\∀b∈fp,H' b=none) E s1) E s
 done:∀(X:Cx),X.prog=P->X.w=w->X.K=K->X.calm=true->∀(i:Nat) (pins:vP_) (s:Shared) (σ:St) (H:Hp) (E:vQ_),Inv X pins σ H s->(∀b∈fp,P8 X pins H b)->tn i s.heap->J.stop i H ->
  wpAny (model P w) X.A (pyNext (.ref it)) (fun r s1=>r=none/\Inv X pins σ H s1) E s
 self:∀(A:Around) (i:Nat) (s:Shared) (Q:vQ_) (E:vQ_),tn i s.heap->Q (.ref it) s->wpAny (model P w) A (pyIter (.ref it)) Q E s
abbrev TI:=St->Hp->(It->Hp->Prop)->Prop
def oq (X:Cx) (pins:vP_) (σ:St) (tg:Expr) (R:It->Hp->Prop) (L:Value) (s2:Shared):Prop:=
 ∃(it:Addr) (fp:vL_) (tn:Nat->Heap->Prop) (J:It) (H':Hp),L = .ref it/\Inv X pins σ H' s2/\Turn X.prog X.w X.K tg J fp it tn/\tn 0 s2.heap/\(∀b∈fp,P8 X pins H' b)/\R J H'
def PI (X:Cx) (tg iter:Expr) (wi:TI):Prop:=
 ∀(pins:vP_) (s:Shared) (σ:St) (H:Hp) (R:It->Hp->Prop),Inv X pins σ H s->wi σ H R ->
  wpAny (model X.prog X.w) X.A (eval iter X.env) (fun v s1=>wpAny (model X.prog X.w) X.A (pyIter v) (oq X pins σ tg R) X.xe s1) X.xe s
def gA {it:Addr}{o:Obj}{n:String}{L:vR_}{Q:Unit->Shared->Prop}(Z:s.heap.get? it=some o) (W:o.cls = .type n) (Y:o.data = .fields L)
    (U:["enumerate", "zip", "dict_itemiterator", "dict_reverseitemiterator", "odict_iterator", "itertools.zip_longest", "itertools.pairwise"].contains n=false) (J:Q () s):wpAny M A (letOwnedTupleGo tg (.ref it) u) Q E s:=by
  unfold letOwnedTupleGo;cases tg <;> first
    | exact iO J
    | (cases u <;> first
        | exact iO J
        | (refine fx (wpAny_load Z ?_)
           rw[W,Y];show wpAny M A (if (["enumerate", "zip", "dict_itemiterator", "dict_reverseitemiterator", "odict_iterator", "itertools.zip_longest", "itertools.pairwise"].contains n&&L[0]? == some (rawInt _))=true then _ else _) Q E s;rw[gV (by intro h;rw[U,Iu] at h;cases h)];exact iO J))
def dw (K:vF_) (a:Addr):It:=
 #[fun i H=>∃xs x,SqL K H a xs/\xs[i]? = some x,fun i H x H'=>H'=H/\∀xs,SqL K H a xs->xs[i]? = some x,fun i H=>∃xs,SqL K H a xs/\xs.length<=i]
def cB (K:vF_) (a:Addr):It:=
 #[fun i H=>∃xs x,SqT K H a xs/\xs[i]? = some x,fun i H x H'=>H'=H/\∀xs,SqT K H a xs->xs[i]? = some x,fun i H=>∃xs,SqT K H a xs/\xs.length<=i]
def X6 (lo:Int) (n:Nat):It:=#[fun i _=>i<n,fun i H x H'=>H'=H/\x = .int (lo+i),fun i _=>n<=i]
def uT {w:World}{K:vF_}(a it:Addr):Turn P w K tg (dw K a) [it] it (fun i h=>h.IsListIter it a i) where
 mem:=by simp
 obj:=fun i h st b J=>by
  have e:b=it:=by simpa using J
  subst e;obtain⟨o,e,c,d⟩:=st;exact#[o,e,fun v z=>by rw[d] at z;cases z]
 keep:=fun i h h' st k=>st.at fun o e=>k it (by simp) o e
 item:=by
  intro X W Y hK hc i pins s σ H E I M st hg;subst W Y hK;obtain⟨xs,x,U,hx⟩:=hg;obtain⟨its,rv,p,hz⟩:=I.list U;obtain⟨u,hu,ru⟩:=rv.get hx;obtain⟨f0,f1,f2,f3,Z,f5⟩:=M it (by simp);refine wpAny_pyNext_list_item st p.isList (x:=u) (by simpa using hu) fun h' L sb=>?_
  have I1:Inv X pins σ H { s with heap:=h' }:=I.turned (t':=s.toks) (fun b o J e=>(sb.2 b J).trans e) f0 f1 f3 Z f5;obtain⟨o,e,c,d⟩:=id L;exact#[u,rfl,gA (s:={ s with heap:=h' }) e c d #[] #[x,H,I1,ru,#[rfl,fun ys hy=>by rw[I.list_inj hy U];exact hx],L,fun b J=>(M b J).1]]
 done:=by
  intro X W Y hK hc i pins s σ H E I M st hg;subst W Y hK;obtain⟨xs,U,hx⟩:=hg;obtain⟨its,rv,p,hz⟩:=I.list U;obtain⟨f0,f1,f2,f3,Z,f5⟩:=M it (by simp);have hl:=rv.length;exact wpAny_pyNext_list_end (I.ok.hd hc) st p.isList (by simp;omega) fun h' eb=>#[rfl,I.turned (t':=s.toks) (fun b o J e=>eb b o J e) f0 f1 f3 Z f5]
 self:=fun _ _ _ _ _ st h=>wpAny_pyIter_listiter st h
def yo {w:World}{K:vF_}(a it:Addr):Turn P w K tg (cB K a) [it] it (fun i h=>h.IsTupleIter it a i) where
 mem:=by simp
 obj:=fun i h st b J=>by
  have e:b=it:=by simpa using J
  subst e;obtain⟨o,e,c,d⟩:=st;exact#[o,e,fun v z=>by rw[d] at z;cases z]
 keep:=fun i h h' st k=>st.at fun o e=>k it (by simp) o e
 item:=by
  intro X Y Z hK hc i pins s σ H E I U st hg;subst Y Z hK;obtain⟨xs,x,W,hx⟩:=hg;obtain⟨L,rv,p,hz⟩:=I.tuple W;obtain⟨u,hu,ru⟩:=rv.get hx;obtain⟨f0,f1,f2,f3,f4,f5⟩:=U it (by simp);refine wpAny_pyNext_tuple_item st (show s.heap.IsTuple a L.toArray from p) (x:=u) (by simpa using hu) fun h' M sb=>?_
  have I1:Inv X pins σ H { s with heap:=h' }:=I.turned (t':=s.toks) (fun b o J e=>(sb.2 b J).trans e) f0 f1 f3 f4 f5;obtain⟨o,e,c,d⟩:=id M;exact#[u,rfl,gA (s:={ s with heap:=h' }) e c d #[] #[x,H,I1,ru,#[rfl,fun ys hy=>by rw[I.tuple_inj hy W];exact hx],M,fun b J=>(U b J).1]]
 done:=by
  intro X Y Z hK hc i pins s σ H E I U st hg;subst Y Z hK;obtain⟨xs,W,hx⟩:=hg;obtain⟨L,rv,p,hz⟩:=I.tuple W;obtain⟨f0,f1,f2,f3,f4,f5⟩:=U it (by simp);have hl:=rv.length;exact wpAny_pyNext_tuple_end (I.ok.hd hc) st (show s.heap.IsTuple a L.toArray from p) (by simp;omega) fun h' eb=>#[rfl,I.turned (t':=s.toks) (fun b o J e=>eb b o J e) f0 f1 f3 f4 f5]
 self:=fun _ _ _ _ _ st h=>wpAny_pyIter_tupleiter st h
def BG {w:World}{K:vF_}(it:Addr) (lo:Int) (n:Nat):Turn P w K tg (X6 lo n) [it] it (fun i h=>IsRangeIter h it (lo+(i:Nat)*1) ((n:Int) - (i:Nat)) 1) where
 mem:=by simp
 obj:=fun i h st b J=>by
  have e:b=it:=by simpa using J
  subst e;exact#[_,st,fun v z=>by
   have z':Data.fields _=Data.cell v:=z;cases z']
 keep:=fun i h h' st k=>k it (by simp) _ st
 item:=by
  intro X Y Z hK U i pins s σ H E I M st hg;subst Y Z hK;obtain⟨f0,f1,f2,f3,f4,f5⟩:=M it (by simp);have W:=Walks.range (prog:=X.prog) (w:=X.w) (I.ok.hd U) it lo 1 n;refine W.item i s _ _ hg st fun v h' tk hv L kk=>?_
  obtain⟨t,rfl⟩:=hv;have I1:Inv X pins σ H { s with heap:=h',toks:=tk }:=I.turned (fun b o J e=>kk b o (by simpa using J) e) f0 f1 f3 f4 f5;refine#[_,rfl,gA (s:={ s with heap:=h',toks:=tk }) (n := "range_iterator") L rfl rfl #[] #[.int (lo+i),H,I1,#[t,?_],#[rfl,rfl],L,fun b J=>(M b J).1]];rw[Int.mul_one]
 done:=by
  intro X Y Z hK U i pins s σ H E I M st hg;subst Y Z hK;obtain⟨f0,f1,f2,f3,f4,f5⟩:=M it (by simp);exact wpAny_pyNext_range_end (I.ok.hd U) st (by have:n<=i:=hg;omega) fun h' eb=>#[rfl,I.turned (t':=s.toks) (fun b o J e=>eb b o J e) f0 f1 f3 f4 f5]
 self:=fun _ _ _ _ _ st h=>wpAny_pyIter_rangeiter st h
def nO {R:It->Hp->Prop}{lo hi:Int}{t u v:Tok}{J:Nat}(I:Inv X pins σ H s) (h1:-(2 ^ 62)<=lo) (h2:lo<2 ^ 62) (Y:-(2 ^ 62)<=hi) (U:hi<2 ^ 62)
  (q:R (X6 lo (hi - lo).toNat) H):wpAny (model X.prog X.w) X.A (pyIter (.ref s.heap.objs.size)) (oq X pins σ tg R) E { s with heap:=s.heap.push { cls:=.type "range",data:=.fields #v[.int lo t,.int hi u,.int 1 v] },toks:=J }:=by
 refine wpAny_pyIter_range (IsRange.new ..) (small_one h1 h2 Y U) ?_;have L:Inv X pins σ H { s with heap:=s.heap.push { cls:=.type "range",data:=.fields #v[.int lo t,.int hi u,.int 1 v] },toks:=J }:=I.kept fun b o e=>xo _ e
 refine#[(s.heap.push { cls:=.type "range",data:=.fields #v[.int lo t,.int hi u,.int 1 v] }).objs.size,[(s.heap.push { cls:=.type "range",data:=.fields #v[.int lo t,.int hi u,.int 1 v] }).objs.size],_,_,H,rfl,
  L.kept (t':=J) fun b o e=>xo _ e,BG _ lo (hi - lo).toNat,?_,fun b M=>?_,q]
 .have W:lo+((0:Nat):Int)*1=lo:=by simp
  have Z:(((hi - lo).toNat:Nat):Int) - ((0:Nat):Int)=Builtin.Range.rangeSize lo hi 1:=by rw[rangeSize_one];split <;> omega
  show IsRangeIter _ _ (lo+((0:Nat):Int)*1) ((((hi - lo).toNat:Nat):Int) - ((0:Nat):Int)) 1;rw[W,Z];exact HG _ rfl
 .have e:b=(s.heap.push { cls:=.type "range",data:=.fields #v[.int lo t,.int hi u,.int 1 v] }).objs.size:=by simpa using M
  subst e;exact L.fpOk (iR _) (L.hok.fresh (iR _))
def GH (ta:TA):TI:=fun σ H R=>ta σ H fun J H1=>∃j:Int,J=[.int j] /\ -(2 ^ 62)<=j/\j<2 ^ 62/\R (X6 0 j.toNat) H1
def Aj (ta:TA):TI:=fun σ H R=>ta σ H fun J H1=>∃i j:Int,J=[.int i,.int j]/\(-(2 ^ 62)<=i/\i<2 ^ 62 /\ -(2 ^ 62)<=j/\j<2 ^ 62)/\R (X6 i (j - i).toNat) H1
def ud {a:Expr}{p pos:Pos}(W:Gl X "range") (L:X.mg "range" = none) (Y:PA X [a] ta) (M:starEach [a] X.env=[(false,eval a X.env)]:=by rfl):PI X tg (.Call (.Name "range" p) [a] [] pos) (GH ta):=by
 intro pins s σ H R I h;refine Call_ (Z9 I W L boot_range (Jx (t9 (Y pos pins s σ H _ I h) fun us s1 ⟨vs,H1,I1,Z,J⟩=>?_) M rfl));obtain⟨j,e,J,U,q⟩:=J;subst e;cases Z with
 |cons r rr=>
  cases rr;obtain⟨t,rfl⟩:=r;exact call_range_1 (nO I1 ∅ ∅ J U (by simpa using q))
def vY {a b:Expr}{p pos:Pos}(hg:Gl X "range") (U:X.mg "range" = none) (Z:PA X [a,b] ta) (W:starEach [a,b] X.env=[(false,eval a X.env),(false,eval b X.env)]:=by rfl) (J:starEach [b] X.env=[(false,eval b X.env)]:=by rfl) :
  PI X tg (.Call (.Name "range" p) [a,b] [] pos) (Aj ta):=by
 intro pins s σ H R I h;refine Call_ (Z9 I hg U boot_range (Jx (t9 (Z pos pins s σ H _ I h) fun us s1 ⟨vs,H1,I1,r1,M⟩=>?_) (by rw[W,J]) (by rw[J];rfl)));obtain⟨i,j,e,⟨M,Y,q3,q4⟩,q⟩:=M;subst e;cases r1 with
 |cons r L=>
  cases L with
  |cons r' L=>
   cases L;obtain⟨t,rfl⟩:=r;obtain⟨t',rfl⟩:=r';exact call_range_2 (nO I1 M Y q3 q4 q)
def BR (wi:TI) (g:TG) (tb:TS):TS:=fun D σ H=>wi σ H fun J H1=>∃W:Nat->Nat->St->Hp->Prop,(∃m,W 0 m σ H1)/\∀i m σ H,W i m σ H ->
 (J.stop i H/\D.nx σ H)\/(J.go i H/\∃N:St->Hp->Prop,(∀σ' H',N σ' H'->∃m',m'<m/\W (i+1) m' σ' H')/\∀x H',J.yld i H x H'->g x σ H' fun σ2 H2=>tb { D with nx:=N,ct:=N,bk:=D.nx } σ2 H2)
def cC (fp:vL_) (h:Heap):List (Addr × Obj):=fp.filterMap fun b=>(h.get? b).map fun o=>(b,o)
def cz {h:Heap}{b:Addr}{o:Obj}(J:b∈fp) (e:h.get? b=some o):(b,o)∈cC fp h:=KH.mpr #[b,J,by rw[e];rfl]
def zP {h:Heap}(J:p∈cC fp h):p.1∈fp/\h.get? p.1=some p.2:=by
 obtain⟨b,L,e⟩:=KH.mp J;cases q:h.get? b with
 |none=>rw[q] at e;cases e
 |some o=>
  rw[q] at e;have e':(b,o)=p:=HU e;subst e';exact#[L,q]
def Inv.pinned (I:Inv X pins σ H s) (M:∀b∈fp,P8 X pins H b) (W:∀b∈fp,∃o,s.heap.get? b=some o/\∀v,o.data ≠ .cell v):Inv X (pins++cC fp s.heap) σ H s:=
 I.pins_of fun p U=>(Im.mp U).elim (fun z=>I.pin p (Ic _ z)) fun z=>by
  obtain⟨J,e⟩:=zP z;obtain⟨L,f1,Y,_⟩:=M p.1 J;obtain⟨o,e',d⟩:=W p.1 J;rw[e] at e';cases e';exact#[e,L,f1,Y,d]
def Inv.unpinned {pl:vP_}(I:Inv X (pins++pl) σ H s):Inv X pins σ H s:=I.pins_of fun p J=>I.pin p (Ic _ (List.mem_append_left _ J))
def lA {iter:Expr}{body:List Stmt}{tb:TS}{pos:Pos}(hp:PassesOwn (model X.prog X.w) X.A X.env X.xe) (hc:X.calm=true) (hi:PI X tg iter wi) (hg:PG X tg g) (Z:PSs X body tb)
  (hs:∀x,foldedSetIterable iter X.env x=pure x:=by intro _;rfl):PS X (.For tg iter body [] pos) (BR wi g tb):=by
 intro pins s σ H D I h;refine wpAny_For (t9 (hi pins s σ H _ I h) fun v s1 h1=>t9 h1 fun itv s2 h2=>?_) hs;obtain⟨it,fp,tn,J,H2,e,I2,T,st2,f2,W,⟨m0,w0⟩,turn⟩:=h2;subst e;have U:∀{H':Hp},(∀b∈fp,H' b=none)->∀b∈fp,P8 X pins H' b:=fun hn b Z=>#[hn b Z,(f2 b Z).2]
 refine codeAny_forLoop_any (fun n s'=>∃i σ' H',Inv X pins σ' H' s'/\tn i s'.heap/\(∀b∈fp,H' b=none)/\W i n σ' H') ?_ m0 #[0,σ,H2,I2,st2,fun b Z=>(f2 b Z).1,w0];rintro n s3 ⟨i,σ3,H3,I3,st3,fr3,w3⟩;rcases turn i n σ3 H3 w3 with ⟨stop,qn⟩ | ⟨go,N,hN,step⟩
 .refine IL hp (t9 (T.done X rfl rfl rfl hc i pins s3 σ3 H3 X.xe I3 (U fr3) st3 stop) fun r s4 ⟨hr,I4⟩=>?_);subst hr;exact JV #[σ3,H3,I4,qn]
 .refine IL hp (t9 (T.item X rfl rfl rfl hc i pins s3 σ3 H3 X.xe I3 (U fr3) st3 go) fun r s4 ⟨u,hr,h4⟩=>?_);subst hr;refine IL hp (t9 h4 fun _ s5 ⟨x,H5,I5,r5,y5,st5,fr5⟩=>?_);have I5':=I5.pinned (U fr5) (T.obj _ _ st5);refine IL hp (t9 (hg _ s5 σ3 H5 x u _ I5' r5 (step x H5 y5)) fun _ s6 ⟨σ6,H6,I6,q6⟩=>?_);refine IL hp (t9 (Z _ s6 σ6 H6 _ I6 q6) fun f s7 q7=>?_);have M:∀{σ7:St}{L:Hp},Inv X (pins++cC fp s5.heap) σ7 L s7->N σ7 L->∃m,m<n/\∃i σ' H',Inv X pins σ' H' s7/\tn i s7.heap/\(∀b∈fp,H' b=none)/\W i m σ' H':=fun {σ7 L} Y n7=>by
   obtain⟨m',hm,w7⟩:=hN σ7 L n7;refine#[m',hm,i+1,σ7,L,Y.unpinned,T.keep _ _ _ st5 fun b Z o e=>(Y.pin (b,o) (Ic _ (Ic _ (cz Z e)))).1,fun b Z=>?_,w7];obtain⟨o,e,d⟩:=T.obj _ _ st5 b Z;exact(Y.pin (b,o) (Ic _ (Ic _ (cz Z e)))).2.1
  cases f with
  |next=>obtain⟨σ7,L,Y,n7⟩:=q7;exact M Y n7
  |cont=>obtain⟨σ7,L,Y,n7⟩:=q7;exact M Y n7
  |brk=>obtain⟨σ7,L,Y,q7⟩:=q7;exact#[σ7,L,Y.unpinned,q7]
  |ret v=>obtain⟨x7,σ7,L,Y,r7,q7⟩:=q7;exact#[x7,σ7,L,Y.unpinned,r7,q7]
def xi {K:vF_}{a:Addr}{xs:List V}{g:TG}{tb:TS}{D:Ends}{H:Hp}(J:Nat->St->Hp->Prop) (U:J 0 σ H) (hl:∀i σ H,i<=xs.length->J i σ H->SqL K H a xs)
  (M:∀i x σ H,xs[i]? = some x->J i σ H->g x σ H fun σ2 H2=>tb { D with nx:=J (i+1),ct:=J (i+1),bk:=D.nx } σ2 H2) (Y:∀σ H,J xs.length σ H->D.nx σ H) :
  ∃W:Nat->Nat->St->Hp->Prop,(∃m,W 0 m σ H)/\∀i m σ H,W i m σ H ->
   ((dw K a).stop i H/\D.nx σ H)\/((dw K a).go i H/\∃N:St->Hp->Prop,(∀σ' H',N σ' H'->∃m',m'<m/\W (i+1) m' σ' H')/\∀x H',(dw K a).yld i H x H'->g x σ H' fun σ2 H2=>tb { D with nx:=N,ct:=N,bk:=D.nx } σ2 H2):=by
 refine#[fun i m σ H=>m=xs.length - i/\i<=xs.length/\J i σ H,#[xs.length,by simp,HV _,U],?_];rintro i m σ H ⟨rfl,hi,p⟩;have q:=hl i σ H hi p;by_cases L:i<xs.length
 .refine .inr #[#[xs,xs[i],q,by simp[L]],J (i+1),fun σ' H' p'=>#[xs.length - (i+1),by omega,rfl,L,p'],fun x H' y=>?_];obtain⟨e,y⟩:=y;subst e;exact M i x σ _ (y xs q) p
 .have e:i=xs.length:=by omega
  subst e;exact .inl #[#[xs,q,iR _],Y σ H p]
def vQ {K:vF_}{a:Addr}{xs:List V}{g:TG}{tb:TS}{D:Ends}{H:Hp}(J:Nat->St->Hp->Prop) (U:J 0 σ H) (hl:∀i σ H,i<=xs.length->J i σ H->SqT K H a xs)
  (M:∀i x σ H,xs[i]? = some x->J i σ H->g x σ H fun σ2 H2=>tb { D with nx:=J (i+1),ct:=J (i+1),bk:=D.nx } σ2 H2) (Y:∀σ H,J xs.length σ H->D.nx σ H) :
  ∃W:Nat->Nat->St->Hp->Prop,(∃m,W 0 m σ H)/\∀i m σ H,W i m σ H ->
   ((cB K a).stop i H/\D.nx σ H)\/((cB K a).go i H/\∃N:St->Hp->Prop,(∀σ' H',N σ' H'->∃m',m'<m/\W (i+1) m' σ' H')/\∀x H',(cB K a).yld i H x H'->g x σ H' fun σ2 H2=>tb { D with nx:=N,ct:=N,bk:=D.nx } σ2 H2):=by
 refine#[fun i m σ H=>m=xs.length - i/\i<=xs.length/\J i σ H,#[xs.length,by simp,HV _,U],?_];rintro i m σ H ⟨rfl,hi,p⟩;have q:=hl i σ H hi p;by_cases L:i<xs.length
 .refine .inr #[#[xs,xs[i],q,by simp[L]],J (i+1),fun σ' H' p'=>#[xs.length - (i+1),by omega,rfl,L,p'],fun x H' y=>?_];obtain⟨e,y⟩:=y;subst e;exact M i x σ _ (y xs q) p
 .have e:i=xs.length:=by omega
  subst e;exact .inl #[#[xs,q,iR _],Y σ H p]
def sX {lo:Int}{n:Nat}{g:TG}{tb:TS}{D:Ends}{H:Hp}(L:Nat->St->Hp->Prop) (U:L 0 σ H)
  (M:∀i σ H,i<n->L i σ H->g (.int (lo+i)) σ H fun σ2 H2=>tb { D with nx:=L (i+1),ct:=L (i+1),bk:=D.nx } σ2 H2) (Y:∀σ H,L n σ H->D.nx σ H) :
  ∃W:Nat->Nat->St->Hp->Prop,(∃m,W 0 m σ H)/\∀i m σ H,W i m σ H ->
   ((X6 lo n).stop i H/\D.nx σ H)\/((X6 lo n).go i H/\∃N:St->Hp->Prop,(∀σ' H',N σ' H'->∃m',m'<m/\W (i+1) m' σ' H')/\∀x H',(X6 lo n).yld i H x H'->g x σ H' fun σ2 H2=>tb { D with nx:=N,ct:=N,bk:=D.nx } σ2 H2):=by
 refine#[fun i m σ H=>m=n - i/\i<=n/\L i σ H,#[n,by simp,HV _,U],?_];rintro i m σ H ⟨rfl,hi,p⟩;by_cases J:i<n
 .refine .inr #[J,L (i+1),fun σ' H' p'=>#[n - (i+1),by omega,rfl,J,p'],fun x H' y=>?_];obtain⟨e,y⟩:=y;subst e y;exact M i σ _ J p
 .have e:i=n:=by omega
  subst e;exact .inl #[iR _,Y σ H p]
abbrev R2:=V->V->Hp->VK->Prop
def OpR (X:Cx) (f:Value->Value->Sem Value) (r:R2):Prop:=
 ∀(pins:vP_) (s:Shared) (σ:St) (H:Hp) (x y:V) (v u:Value) (Q:VK),Inv X pins σ H s->RelV x v->RelV y u->r x y H Q ->
  wpAny (model X.prog X.w) X.A (f v u) (EP X pins σ Q) X.xe s
def eA (X:Cx) (f:Value->Sem Value) (r:V->Hp->VK->Prop):Prop:=
 ∀(pins:vP_) (s:Shared) (σ:St) (H:Hp) (x:V) (v:Value) (Q:VK),Inv X pins σ H s->RelV x v->r x H Q ->
  wpAny (model X.prog X.w) X.A (f v) (EP X pins σ Q) X.xe s
def CallR (X:Cx) (f:Value) (r:List V->Hp->VK->Prop):Prop:=
 ∀(pins:vP_) (s:Shared) (σ:St) (H:Hp) (xs:List V) (us:vV_) (Q:VK),Inv X pins σ H s->Vals xs us->r xs H Q ->
  wpAny (model X.prog X.w) X.A (call f us) (EP X pins σ Q) X.xe s
def xG (X:Cx) (r:V->Hp->(Bool->Hp->Prop)->Prop):Prop:=
 ∀(pins:vP_) (s:Shared) (σ:St) (H:Hp) (x:V) (v:Value) (Q:Bool->Hp->Prop),Inv X pins σ H s->RelV x v->r x H Q ->
  wpAny (model X.prog X.w) X.A (truthy v) (TP X pins σ Q) X.xe s
def aN (r:R2) (ta tb:TE):TE:=fun σ H Q=>ta σ H fun x H1=>tb σ H1 fun y H2=>r x y H2 Q
def Au (r:V->Hp->VK->Prop) (ta:TE):TE:=fun σ H Q=>ta σ H fun x H1=>r x H1 Q
def rI (C:Int->Int->Prop) (g:Int->Int->V):R2:=fun x y H Q=>∃i j,x = .int i/\y = .int j/\C i j/\Q (g i j) H
def N7 (g:Int->Int->V):R2:=fun x y H Q=>∃i j,x = .int i/\y = .int j/\Q (g i j) H
def rU (g:Int->V):V->Hp->VK->Prop:=fun x H Q=>∃i,x = .int i/\Q (g i) H
section
variable {a b c:Expr}{ta tb tc:TE}
def ku (M:PE X a ta) (Z:PE X b tb) {R:V->V->Hp->Prop}(I:Inv X pins σ H s)
  (h:ta σ H fun x H1=>tb σ H1 fun y H2=>R x y H2) {f:Value->Value->Sem Value}
  (J:∀v u s2 x y H2,Inv X pins σ H2 s2->RelV x v->RelV y u->R x y H2->wpAny (model X.prog X.w) X.A (f v u) Q X.xe s2) :
  wpAny (model X.prog X.w) X.A (eval a X.env) (fun v s₁=>wpAny (model X.prog X.w) X.A (eval b X.env) (fun u s₂=>wpAny (model X.prog X.w) X.A (f v u) Q X.xe s₂) X.xe s₁) X.xe s:=by
 refine t9 (M pins s σ H _ I h) fun v s1 ⟨x,H1,W,U,q1⟩=>?_
 refine t9 (Z pins s1 σ H1 _ W q1) fun u s2 ⟨y,H2,I2,Y,L⟩=>?_
 exact J v u s2 x y H2 I2 U Y L
def nP {J:Operator}{r:R2}(Z:OpR X (binaryOp J) r) (U:PE X a ta) (M:PE X b tb):PE X (.BinOp a J b pos) (aN r ta tb):=by
 intro pins s σ H Q I h;exact wpAny_BinOp (ku U M I h fun v u s2 x y H2 W L Y q=>Z pins s2 σ H2 x y v u Q W L Y q)
def Dz {J:UnaryOp}{r:V->Hp->VK->Prop}(U:eA X (unaryOp J) r) (W:PE X a ta):PE X (.UnaryOp J a pos) (Au r ta):=by
 intro pins s σ H Q I h;exact UnaryOp_ (t9 (W pins s σ H _ I h) fun v s1 ⟨x,H1,M,Y,L⟩=>U pins s1 σ H1 x v Q M Y L)
def fV {C:Int->Int->Prop}{g:Int->Int->Int}
  (J:∀(i j:Int) (t u:Tok) (s:Shared) (Q:vQ_) (E:vQ_),C i j->Q (.int (g i j) s.toks) { s with toks:=s.toks+1 }->wpAny (model X.prog X.w) X.A (f (.int i t) (.int j u)) Q E s) :
  OpR X f (rI C fun i j=>.int (g i j)):=by
 intro pins s σ H x y v u Q I L U h;obtain⟨i,j,rfl,rfl,M,q⟩:=h;obtain⟨t,rfl⟩:=L;obtain⟨t',rfl⟩:=U;exact J i j t t' s _ _ M #[.int (g i j),H,I.tok _,#[_,rfl],q]
def qh {g:Int->Int->Int}
  (J:∀(i j:Int) (t u:Tok) (s:Shared) (Q:vQ_) (E:vQ_),Q (.int (g i j) s.toks) { s with toks:=s.toks+1 }->wpAny (model X.prog X.w) X.A (f (.int i t) (.int j u)) Q E s) :
  OpR X f (N7 fun i j=>.int (g i j)):=by
 intro pins s σ H x y v u Q I L M h;obtain⟨i,j,rfl,rfl,q⟩:=h;obtain⟨t,rfl⟩:=L;obtain⟨t',rfl⟩:=M;exact J i j t t' s _ _ #[.int (g i j),H,I.tok _,#[_,rfl],q]
def dW {f:Value->Value->Sem Value}{g:Int->Int->Bool}
  (J:∀(i j:Int) (t u:Tok) (s:Shared) (Q:vQ_) (E:vQ_),Q (.bool (g i j)) s->wpAny (model X.prog X.w) X.A (f (.int i t) (.int j u)) Q E s) :
  OpR X f (N7 fun i j=>.bl (g i j)):=by
 intro pins s σ H x y v u Q I L M h;obtain⟨i,j,rfl,rfl,q⟩:=h;obtain⟨t,rfl⟩:=L;obtain⟨t',rfl⟩:=M;exact J i j t t' s _ _ #[.bl (g i j),H,I,rfl,q]
def qc (i j:Int):Prop:=0<=j/\j<=1000000/\i.natAbs<2 ^ 64
def op_add:OpR X (binaryOp .Add) (N7 fun i j=>.int (i+j)):=qh fun _ _ _ _ _ _ _ q=>add_int q
def yk:OpR X (binaryOp .Sub) (N7 fun i j=>.int (i - j)):=qh fun _ _ _ _ _ _ _ q=>sub_int q
def wZ:OpR X (binaryOp .Mod) (rI (fun _ j=>j≠0) fun i j=>.int (i.fmod j)):=fV fun _ _ _ _ _ _ _ J q=>mod_int' J q
def GC:OpR X (binaryOp .Pow) (rI qc fun i j=>.int (i ^ j.toNat)):=fV fun _ _ _ _ _ _ _ J q=>pow_int_small J.1 J.2.1 J.2.2 q
def vK {g:Int->Int}
  (J:∀(i:Int) (t:Tok) (s:Shared) (Q:vQ_) (E:vQ_),Q (.int (g i) s.toks) { s with toks:=s.toks+1 }->wpAny (model X.prog X.w) X.A (f (.int i t)) Q E s) :
  eA X f (rU fun i=>.int (g i)):=by
 intro pins s σ H x v Q I L h;obtain⟨i,rfl,q⟩:=h;obtain⟨t,rfl⟩:=L;exact J i t s _ _ #[.int (g i),H,I.tok _,#[_,rfl],q]
def CS:eA X (unaryOp .USub) (rU fun i=>.int (-i)):=vK fun _ _ _ _ _ q=>neg_int q
end
def pj:V->V->Bool
 |.non,.non=>true | .non,.int _=>true | .int _,.non=>true | .non,.bl _=>true | .bl _,.non=>true | .non,.str _=>true | .str _,.non=>true
 |.int _,.int _=>true | .bl _,.bl _=>true | .str _,.str _=>true | .byt _,.byt _=>true
 |.int _,.str _=>true | .str _,.int _=>true | .bl _,.str _=>true | .str _,.bl _=>true
 |_,_=>false
def jL:R2:=fun x y H Q=>pj x y=true/\Q (.bl (decide (x=y))) H
def lE:R2:=fun x y H Q=>pj x y=true/\Q (.bl (!decide (x=y))) H
def sv {i j:Int}:decide (V.int i=V.int j)=(i == j):=by
 rw[HZ];simp
def qo {i j:Bool}:decide (V.bl i=V.bl j)=(i == j):=by
 rw[HZ];simp
def mj {i j:Str}:decide (V.str i=V.str j)=(i == j):=by
 rw[HZ];simp
def qL {i j:Array UInt8}:decide (V.byt i=V.byt j)=(i.toList == j.toList):=by
 rw[HZ];cases i;cases j;simp
section
variable {a b c:Expr}{ta tb tc:TE}
def B2 {Q:VK}{k k':Bool}(I:Inv X pins σ H s) (q:Q (.bl k) H) (e:k=k'):EP X pins σ Q (.bool k') s:=by
 subst e;exact#[.bl k,H,I,rfl,q]
def op_eq:OpR X (compareOp .Eq) jL:=by
 intro pins s σ H x y v u Q I M J h;obtain⟨L,q⟩:=h;cases x with
 |non=>
  cases M;cases y with
  |non=>cases J;exact PySem.EqNone.eq_none_none (B2 I q (by simp))
  |bl j=>cases J;exact PySem.EqNone.eq_none_bool (B2 I q (by simp))
  |int j=>obtain⟨t',rfl⟩:=J;exact PySem.EqNone.eq_none_int (B2 I q (by simp))
  |str j=>obtain⟨t',rfl⟩:=J;exact PySem.EqNone.eq_none_str (B2 I q (by simp))
  |_=>exact absurd (show false=true from L) Hx
 |bl i=>
  cases M;cases y with
  |non=>cases J;exact PySem.EqNone.eq_bool_none (B2 I q (by simp))
  |bl j=>cases J;exact eq_bool (B2 I q qo)
  |str j=>obtain⟨t',rfl⟩:=J;exact PySem.EqMixed.eq_bool_str (B2 I q (by simp))
  |_=>exact absurd (show false=true from L) Hx
 |int i=>
  obtain⟨t,rfl⟩:=M;cases y with
  |non=>cases J;exact PySem.EqNone.eq_int_none (B2 I q (by simp))
  |int j=>obtain⟨t',rfl⟩:=J;exact eq_int (B2 I q sv)
  |str j=>obtain⟨t',rfl⟩:=J;exact PySem.EqMixed.eq_int_str (B2 I q (by simp))
  |_=>exact absurd (show false=true from L) Hx
 |str i=>
  obtain⟨t,rfl⟩:=M;cases y with
  |non=>cases J;exact PySem.EqNone.eq_str_none (B2 I q (by simp))
  |bl j=>cases J;exact PySem.EqMixed.eq_str_bool (B2 I q (by simp))
  |int j=>obtain⟨t',rfl⟩:=J;exact PySem.EqMixed.eq_str_int (B2 I q (by simp))
  |str j=>obtain⟨t',rfl⟩:=J;exact eq_str (B2 I q mj)
  |_=>exact absurd (show false=true from L) Hx
 |byt i=>
  obtain⟨t,rfl⟩:=M;cases y with
  |byt j=>obtain⟨t',rfl⟩:=J;exact PySem.W.eq_bytes (B2 I q qL)
  |_=>exact absurd (show false=true from L) Hx
 |_=>cases y <;> exact absurd (show false=true from L) Hx
def op_ne:OpR X (compareOp .NotEq) lE:=by
 intro pins s σ H x y v u Q I M J h;obtain⟨L,q⟩:=h;cases x with
 |non=>
  cases M;cases y with
  |non=>cases J;exact PySem.EqNone.ne_none_none (B2 I q (by simp))
  |bl j=>cases J;exact PySem.EqNone.ne_none_bool (B2 I q (by simp))
  |int j=>obtain⟨t',rfl⟩:=J;exact PySem.EqNone.ne_none_int (B2 I q (by simp))
  |str j=>obtain⟨t',rfl⟩:=J;exact PySem.EqNone.ne_none_str (B2 I q (by simp))
  |_=>exact absurd (show false=true from L) Hx
 |bl i=>
  cases M;cases y with
  |non=>cases J;exact PySem.EqNone.ne_bool_none (B2 I q (by simp))
  |bl j=>cases J;exact ne_bool (B2 I q (congrArg not qo))
  |str j=>obtain⟨t',rfl⟩:=J;exact PySem.EqMixed.ne_bool_str (B2 I q (by simp))
  |_=>exact absurd (show false=true from L) Hx
 |int i=>
  obtain⟨t,rfl⟩:=M;cases y with
  |non=>cases J;exact PySem.EqNone.ne_int_none (B2 I q (by simp))
  |int j=>obtain⟨t',rfl⟩:=J;exact ne_int (B2 I q (congrArg not sv))
  |str j=>obtain⟨t',rfl⟩:=J;exact PySem.EqMixed.ne_int_str (B2 I q (by simp))
  |_=>exact absurd (show false=true from L) Hx
 |str i=>
  obtain⟨t,rfl⟩:=M;cases y with
  |non=>cases J;exact PySem.EqNone.ne_str_none (B2 I q (by simp))
  |bl j=>cases J;exact PySem.EqMixed.ne_str_bool (B2 I q (by simp))
  |int j=>obtain⟨t',rfl⟩:=J;exact PySem.EqMixed.ne_str_int (B2 I q (by simp))
  |str j=>obtain⟨t',rfl⟩:=J;exact ne_str (B2 I q (congrArg not mj))
  |_=>exact absurd (show false=true from L) Hx
 |byt i=>
  obtain⟨t,rfl⟩:=M;cases y with
  |byt j=>obtain⟨t',rfl⟩:=J;exact PySem.W.ne_bytes (B2 I q (congrArg not qL))
  |_=>exact absurd (show false=true from L) Hx
 |_=>cases y <;> exact absurd (show false=true from L) Hx
def DZ:OpR X (compareOp .Lt) (N7 fun i j=>.bl (decide (i<j))):=dW fun _ _ _ _ _ _ _ q=>lt_int q
def Ap:OpR X (compareOp .LtE) (N7 fun i j=>.bl (decide (i<=j))):=dW fun _ _ _ _ _ _ _ q=>le_int q
def zc:OpR X (compareOp .Gt) (N7 fun i j=>.bl (decide (j<i))):=dW fun _ _ _ _ _ _ _ q=>gt_int q
def DC:OpR X (compareOp .GtE) (N7 fun i j=>.bl (decide (j<=i))):=dW fun _ _ _ _ _ _ _ q=>ge_int q
def xT:OpR X (compareOp .In) (fun x y H Q=>∃i j,x = .str i/\y = .str j/\Q (.bl (!(Builtin.Str.occurrences j i 0 j.length 1).isEmpty)) H):=by
 intro pins s σ H x y v u Q I J L h;obtain⟨i,j,rfl,rfl,q⟩:=h;obtain⟨t,rfl⟩:=J;obtain⟨t',rfl⟩:=L;exact in_str (B2 I q rfl)
def Ca:OpR X (compareOp .Is) (fun x y H Q=>y = .non/\Q (.bl (decide (x = .non))) H):=by
 intro pins s σ H x y v u Q I J L h;obtain⟨rfl,q⟩:=h;cases L;refine is_none_gen (B2 I q ?_);cases x <;> first
  | (cases J;rfl)
  | (obtain⟨t,rfl⟩:=J;rfl)
def OpR.or {r M:R2}(h:OpR X f r) (h':OpR X f M):OpR X f (fun x y H Q=>r x y H Q\/M x y H Q):=by
 intro pins s σ H x y v u Q I J L q;rcases q with q | q
 .exact h pins s σ H x y v u Q I J L q
 .exact h' pins s σ H x y v u Q I J L q
def jb (b:Expr) {J:CmpOp}(h:J ≠ .In:=by decide) (h2:J ≠ .NotIn:=by decide):behindInMarks J b=false:=by
 have L:(J == CmpOp.In)=false:=by cases J <;> first | rfl | exact absurd rfl h
 have M:(J == CmpOp.NotIn)=false:=by cases J <;> first | rfl | exact absurd rfl h2
 cases b <;> simp[behindInMarks,L,M]
def wu {J:CmpOp}{r:R2}(ho:OpR X (compareOp J) r) (W:PE X a ta) (U:PE X b tb) (M:behindInMarks J b=false):PE X (.Compare a [J] [b] pos) (aN r ta tb):=by
 intro pins s σ H Q I h;exact wpAny_Compare1 (ku W U I h fun v u s2 x y H2 Y L Z q=>ho pins s2 σ H2 x y v u Q Y L Z q) M
def Fy (t:TE):TT:=fun σ H Q=>t σ H fun x H'=>∃k,x = .bl k/\Q k H'
def xh {J:CmpOp}{r:R2}(ho:OpR X (compareOp J) r) (ha:PE X a ta) (W:PE X b tb) (L:behindInMarks J b=false):PT X (.Compare a [J] [b] pos) (Fy (aN r ta tb)):=by
 intro pins s σ H Q I h;refine wpAny_isTrue_Compare1 (t9 (ha pins s σ H _ I h) fun v s1 ⟨x,H1,I1,r1,q1⟩=>t9 (W pins s1 σ H1 _ I1 q1) fun u s2 ⟨y,H2,I2,M,Z⟩=>
  t9 (ho pins s2 σ H2 x y v u _ I2 r1 M Z) fun c s3 ⟨z,Y,I3,U,k,e,q3⟩=>?_) L
 subst e;cases U;exact Jw #[Y,I3,q3]
def nE (K:vF_) (x:V) (H:Hp) (k:Bool):Prop:=
 match x with
 |.non=>k=false
 |.bl b=>k=b
 |.int i=>k=(i != 0)
 |.str y=>y.length<=sizeLine/\k=((y.length:Int) != 0)
 |.byt y=>y.size<=sizeLine/\k=((y.size:Int) != 0)
 |.ref p=>(∃xs,SqL K H p xs/\k = !xs.isEmpty)\/(∃xs,SqT K H p xs/\k = !xs.isEmpty)\/∃kvs,H p=some (.dK kvs)/\k = !kvs.isEmpty
 |_=>False
def va {κ:Type}{kvs:List (κ × V)}{J:List (κ × Value)}(r:KV kvs J):(!J.isEmpty) = !kvs.isEmpty:=by
 cases r <;> rfl
def sP {J:vV_}(r:Vals xs J):(!J.toArray.isEmpty) = !xs.isEmpty:=by
 cases r <;> simp
def bA:(sizeLine:Nat)<2 ^ 63:=by rw[Ih];decide
def EH:xG X (fun x H Q=>∃k,nE X.K x H k/\Q k H):=by
 intro pins s σ H x v Q I L h;obtain⟨k,e,q⟩:=h;have hl:=bA;have Z:sizeLine=16777216:=Ih;cases x with
 |non=>
  cases L;have e':k=false:=e;subst e';exact truthy_none #[H,I,q]
 |bl b=>
  cases L;have e':k=b:=e;subst e';exact Jw #[H,I,q]
 |int i=>
  obtain⟨t,rfl⟩:=L;have e':k=(i != 0):=e;subst e';exact PySem.P.truthy_int #[H,I,q]
 |str y=>
  obtain⟨t,rfl⟩:=L;obtain⟨hy,e'⟩:y.length<=sizeLine/\k=((y.length:Int) != 0):=e;subst e';exact PySem.P.truthy_str ∅ #[H,I.tok _,q]
 |byt y=>
  obtain⟨t,rfl⟩:=L;obtain⟨hy,e'⟩:y.size<=sizeLine/\k=((y.size:Int) != 0):=e;subst e';exact PySem.W.truthy_bytes ∅ #[H,I.tok _,q]
 |ref p=>
  cases L;have e':(∃xs,SqL X.K H p xs/\k = !xs.isEmpty)\/(∃xs,SqT X.K H p xs/\k = !xs.isEmpty)\/∃kvs,H p=some (.dK kvs)/\k = !kvs.isEmpty:=e;rcases e' with ⟨xs,M,e'⟩ | ⟨xs,M,e'⟩ | ⟨kvs,M,e'⟩
  .subst e';obtain⟨U,r,pl,Y⟩:=I.list M;have J:=r.length;exact wpAny_truthy_list pl.isList (by simp only[HC];omega) #[H,I.tok _,by rw[sP r];exact q]
  .subst e';obtain⟨U,r,pl,Y⟩:=I.tuple M;have J:=r.length;exact truthy_tuple pl (by simp only[HC];omega) #[H,I.tok _,by rw[sP r];exact q]
  .subst e';obtain⟨Y,hS,vs,r,m⟩:kvs.length<=sizeLine/\(p == sysModules)=false/\∃vs,KV kvs vs/\s.heap.DictOf (G8 X.prog X.w) p vs:=I.hok p _ M;have J:kvs.length=vs.length:=JQ r;exact wpAny_truthy_dict hS m ∅ #[H,I.tok _,by rw[va r];exact q]
 |_=>exact(show False from e).elim
def Cj (U:PE X a ta) (M:∀whole,isTrue a X.env whole=(do let v <-whole;standAt a.pos;holding [v] (truthy v))) :
  PT X a (fun σ H Q=>ta σ H fun x H'=>∃k,nE X.K x H' k/\Q k H'):=by
 intro pins s σ H Q I h;exact isTrue_plain (t9 (U pins s σ H _ I h) fun v s1 ⟨x,H1,L,W,J⟩=>EH pins s1 σ H1 x v Q L W J) (M _)
def wo:OpR X (binaryOp .Add) (fun x y H Q=>∃i j,x = .str i/\y = .str j/\i.length+j.length<=sizeLine/\Q (.str (i++j)) H):=by
 intro pins s σ H x y v u Q I J M h;obtain⟨i,j,rfl,rfl,L,q⟩:=h;obtain⟨t,rfl⟩:=J;obtain⟨t',rfl⟩:=M;exact add_str (fun t' U=>#[.str (i++j),H,I.tok _,#[_,rfl],q]) L
def P2 {x:V}(r:Vals [x] us):∃u,us=[u]/\RelV x u:=by
 cases r with
 |cons J L=>cases L;exact#[_,rfl,J]
def Gq {x:V}(r:Vals [x,y] us):∃u w',us=[u,w']/\RelV x u/\RelV y w':=by
 cases r with
 |cons M U=>
  cases U with
  |cons J L=>cases L;exact#[_,_,rfl,M,J]
def yB:CallR X (.builtin "abs") (fun xs H Q=>∃i,xs=[.int i]/\Q (.int (if i<0 then -i else i)) H):=by
 intro pins s σ H xs us Q I r h;obtain⟨i,rfl,q⟩:=h;obtain⟨u,rfl,t,rfl⟩:=P2 r;exact call_abs_int fun u J=>#[.int (if i<0 then -i else i),H,I.tok _,#[_,rfl],q]
def uS:CallR X (.type "int") (fun xs H Q=>(∃i,xs=[.int i]/\Q (.int i) H)\/∃k,xs=[.bl k]/\Q (.int (if k then 1 else 0)) H):=by
 intro pins s σ H xs us Q I r h;rcases h with ⟨i,rfl,q⟩ | ⟨k,rfl,q⟩
 .obtain⟨u,rfl,t,rfl⟩:=P2 r;exact call_int_int #[.int i,H,I,#[_,rfl],q]
 .obtain⟨u,rfl,J⟩:=P2 r;cases J;exact call_int_bool #[.int (if k then 1 else 0),H,I.tok _,#[_,rfl],q]
def yj:CallR X (.type "str") (fun xs H Q=>∃i,xs=[.int i]/\i.natAbs.log2<1920/\Q (.str (toString i)) H):=by
 intro pins s σ H xs us Q I r h;obtain⟨i,rfl,J,q⟩:=h;obtain⟨u,rfl,t,rfl⟩:=P2 r;exact PySem.P.str_of_int J #[.str _,H,I.tok _,#[_,rfl],q]
end
def RelO.some_of {v:V}{o:Option Value}(r:RelO (some v) o):∃u,o=some u/\RelV v u:=by
 cases o with
 |none=>exact(show False from r).elim
 |some u=>exact#[u,rfl,r]
structure Room (k:Nat) (A:Around):Prop where
 hd:A.handled=none
 dp:A.depth+3*k+5<recursionLimit
 un:A.units+16*k+200<cLine
 gd:A.guards=some []
def Room.mono {k:Nat}(r:Room k A) (h:j<=k):Room j A:=#[r.hd,by have:=r.dp;omega,by have:=r.un;omega,r.gd]
theorem Room.deeper {k:Nat}(r:Room (k+1) A) (env:Env):Room k (A.deeper env):=
 #[r.hd,by have:=r.dp;show A.depth+1+3*k+5<_;omega,by have:=r.un;show A.units+3+16*k+200<_;omega,r.gd]
theorem Room.depth {k:Nat}(r:Room k A):A.depth<recursionLimit:=by have:=r.dp;omega
theorem Room.units {k:Nat}(r:Room k A):A.units+64<cLine:=by have:=r.un;omega
def uQ:TA:=fun _ H Q=>Q [] H
def BK (ta:TE) (J:TA):TA:=fun σ H Q=>ta σ H fun x H1=>J σ H1 fun xs H2=>Q (x::xs) H2
section
variable {t:TA}
def bR:PA X [] uQ:=fun _ _ _ _ H Q I h=>Calls.spliced_nil #[[],H,I,.nil,h]
def ba (U:PE X e te) (Y:PA X es t) (J:starEach (e::es) X.env=(false,eval e X.env)::starEach es X.env:=by rfl):PA X (e::es) (BK te t):=by
 intro pos pins s σ H Q I h;rw[J];show wpAny _ _ (spliced ((false,eval e X.env)::backTo pos (starEach es X.env))) _ _ s;refine Calls.spliced_cons (t9 (U pins s σ H _ I h) fun u s1 ⟨x,H1,I1,W,Z⟩=>?_);exact t9 (Y pos pins s1 σ H1 _ I1 Z) fun us s2 ⟨xs,H2,I2,L,M⟩=>#[x::xs,H2,I2,.cons W L,M]
def En (t:TA):TE:=fun σ H Q=>t σ H fun xs H1=>xs.length<=sizeLine/\∀p,H1 p=none->Q (.ref p) (l8 H1 p (.tup xs))
def Fb (t:TA):TE:=fun σ H Q=>t σ H fun xs H1=>xs.length<=sizeLine/\∀p,H1 p=none->Q (.ref p) (l8 H1 p (.lst xs))
def vw {x1} (h:PA X es t):PE X (.Tuple es x1 pos) (En t):=by
 intro pins s σ H Q I M;refine wpAny_Tuple_spliced (t9 (h pos pins s σ H _ I M) fun us s1 ⟨xs,H1,J,r,z,q⟩=>#[by rw[<-r.length];exact z,?_]);have L:H1 s1.heap.objs.size=none:=J.hok.fresh (iR _);refine#[.ref s1.heap.objs.size,l8 H1 s1.heap.objs.size (.tup xs),J.laid (t':=s1.toks) (fun b u e=>xo _ e) (iR _) ?_,rfl,q _ L];exact#[z,us,r,#[_,HG _ rfl,rfl,_,rfl]]
def BX (h:PA X es t):PE X (.List es pos) (Fb t):=by
 intro pins s σ H Q I M;refine wpAny_List_spliced (t9 (h pos pins s σ H _ I M) fun us s1 ⟨xs,H1,J,r,z,q⟩=>#[by rw[<-r.length];exact z,?_]);have L:H1 s1.heap.objs.size=none:=J.hok.fresh (iR _);refine#[.ref s1.heap.objs.size,l8 H1 s1.heap.objs.size (.lst xs),J.laid (t':=s1.toks) (fun b u e=>xo _ e) (iR _) ?_,rfl,q _ L];exact#[z,us,0,r,HG _ rfl]
end
abbrev Sp:=List V->Hp->VK->XK->Prop
variable {sp:Sp}
abbrev O6:=List Env->Hp->Shared->XK->Value->Shared->Prop
variable {CX:O6}
structure Env0 (P:Program) (w:World) (K:vF_) (mg:vG_) (base:Heap) (A:Around) (outer:List Env) (s:Shared) (H:Hp):Prop where
 frames:A.frames=some outer
 mod:Mod K mg base
 bs:∀b o,base.get? b=some o->s.heap.get? b=some o/\H b=none
 bsz:base.objs.size<=s.heap.objs.size
 funs:s.heap.FunFrames base outer
 frf:∀b∈P1 outer,H b=none
 hok:HOk P w H s.heap
 bare:AllBare s.gens
def CE (J:List Env) (P:Program) (w:World) (H:Hp) (s:Shared) (Q:VK) (u:Value) (s':Shared):Prop:=
 ∃v H',s'.os=s.os/\AllBare s'.gens/\Un (P1 J) [] H H' s.heap s'.heap/\HOk P w H' s'.heap/\RelV v u/\Q v H'
def CR (CX:O6) (J:List Env) (P:Program) (w:World) (H:Hp) (s:Shared) (Q:VK) (E:XK) (r:Result) (s':Shared):Prop:=
 match r with
 |.ok (.ret u)=>CE J P w H s Q u s'
 |.ok _=>False
 |.error e=>CX J H s E e s'
structure FnOk (P:Program) (w:World) (K:vF_) (mg:vG_) (base:Heap) (CX:O6) (k:Nat) (f:Addr) (fd:FuncData) (ps:List Str) (sp:Sp):Prop where
 len:∀vs H Q E,sp vs H Q E->vs.length=ps.length
 run:∀(A:Around) (outer:List Env) (s:Shared) (H:Hp) (args:Args) (us:vV_) (vs:List V) (Q:VK) (E:XK),Room k A->Env0 P w K mg base A outer s H->BindsTo s fd args (ps.zip us)->Vals vs us->sp vs H Q E ->
  codeAny (model P w) A (.call (.ref f) args) (CR CX outer P w H s Q E) s
section
variable {s':Shared}
def Inv.env0 (I:Inv X pins σ H s):Env0 X.prog X.w X.K X.mg X.base X.A X.stack s H:=
 #[I.ok.frames,I.ok.mod,I.bs,Ht I.ok.bsz I.sz,I.stack,I.stkFree,I.hok,I.bare]
def Inv.after {Q:VK}(I:Inv X pins σ H s) (h:CE X.stack X.prog X.w H s Q u s'):EP X pins σ Q u s':=by
 obtain⟨v,H',os,J,W,M,r,q⟩:=h;obtain⟨U,g,d,t,L⟩:=s';obtain rfl:L=s.os:=os;exact#[v,H',I.call (h':=U) (g':=g) (d':=d) (t':=t) (ch:=[]) W M J (fun b z=>absurd z (by simp)),r,q]
end
def lO (sp:Sp) (dvs:List V) (E:XK) (t:TA):TE:=fun σ H Q=>t σ H fun J H1=>sp (J++dvs) H1 Q E
def Binds (K:vF_) (fd:FuncData) (ps:List Str) (ds:vV_):Prop:=
 ∀(s:Shared) (us:vV_),K.In s.heap->(us++ds).length=ps.length->BindsTo s fd #[us,[]] (ps.zip (us++ds))
def Binds.all {K:vF_}{ps:List Str}(h:∀us:List Value,us.length=ps.length->bindArgs fd #[us,[]]=pure (ps.zip us)):Binds K fd ps []:=fun s us _ hl=>by
 rw[Jd] at hl ⊢;exact .of_eq (h us hl)
def iJ (CX:O6) (X:Cx) (E:XK):Prop:=∀(pins:vP_) (σ:St) (H:Hp) (s:Shared) (e:Value) (s':Shared),Inv X pins σ H s->CX X.stack H s E e s'->X.xe e s'
section
variable {k:Nat}{f C:Addr}{ps:List Str}{dvs:List V}{ds:vV_}{E:XK}{m:Str}{p:Pos}{o:Expr}{ta:TE}{t:TA}
def CG {Q:VK}(F:FnOk X.prog X.w X.K X.mg X.base CX k f fd ps sp) (M:Room k X.A) (Y:Binds X.K fd ps ds) (W:Vals dvs ds) (U:iJ CX X E)
  (I:Inv X pins σ H s) (r:Vals vs us) (h:sp (vs++dvs) H Q E):wpAny (model X.prog X.w) X.A (call (.ref f) us) (EP X pins σ Q) X.xe s:=by
 have L:Vals (vs++dvs) (us++ds):=r.append W;have hl:(us++ds).length=ps.length:=by rw[<-L.length];exact F.len _ _ _ _ h
 refine wpAny_call (codeAny_mono (F.run X.A X.stack s H #[us,[]] (us++ds) (vs++dvs) Q E M I.env0 (Y s us I.kIn hl) L h) fun r s' J=>?_);cases r with
 |error e=>exact U pins σ H s e s' I J
 |ok fl=>
  cases fl with
  |ret u=>exact I.after J
  |next=>exact False.elim J
  |brk=>exact False.elim J
  |cont=>exact False.elim J
def zp (F:FnOk X.prog X.w X.K X.mg X.base CX k f fd ps sp) (Y:Room k X.A) (hg:Gl X x) (Z:X.mg x=some (.ref f)) (hk:PySem.W.keepIn X.K (.ref f)=true) (hb:Binds X.K fd ps ds) (hd:Vals dvs ds) (hx:iJ CX X E)
  (U:PA X (e::es) t) (J:(x == ("__debug__" : Str))=false:=by decide) (he:starEach (e::es) X.env=(false,eval e X.env)::starEach es X.env:=by rfl) (L:(backTo pos (starEach es X.env)).any (·.1)=false:=by rfl) :
  PE X (.Call (.Name x p) (e::es) [] pos) (lO sp dvs E t):=by
 intro pins s σ H Q I h;refine Jy (tK I hg Z ?_ J);refine PySem.W.callWith_K (h₀:=X.base) I.ok.mod.kin hk (t9 (U pos pins s σ H _ I h) fun us s1 ⟨vs,H1,M,r,q⟩=>#[M.kIn,?_]) he L;exact CG F Y hb hd hx M r q
end
structure FnScope (N P:List Str) (sc:Scope):Prop where
 kind:sc.kind = .function
 co:sc.isCoroutine=false
 gen:sc.isGenerator=false
 nd:N.Nodup
 pre:N.take P.length=P
 par:∀x∈P,sc.names.lookup x=some .local\/sc.names.lookup x=some .cell
 nofree:∀y∈sc.names,y.2 ≠ .free
theorem uB {J:Str->Option NameKind}:∀{binds:List (Str × Value)}{m:vG_},(∀v,(x,v) ∉ binds)->bindL J binds m x=m x
 |[],_,_=>rfl
 |(n,v)::r,m,h=>by
  unfold bindL;rw[uB fun w L=>h w (HB _ L)];split
  .have:x≠n:=by rintro rfl;exact h v HD
   simp[this]
  .rfl
theorem uo {J:Str->Option NameKind}:∀{binds:List (Str × Value)}{m:vG_},(∀v,(x,v) ∉ binds)->bindC J binds m x=m x
 |[],_,_=>rfl
 |(n,v)::r,m,h=>by
  unfold bindC;rw[uo fun w L=>h w (HB _ L)];split
  .rfl
  .have:x≠n:=by rintro rfl;exact h v HD
   simp[this]
theorem lP {J:Str->Option NameKind}{v:Value}:∀{P:List Str}{vs:vV_}{i:Nat}{m:vG_},P.Nodup->P[i]? = some x->vs[i]? = some v->J x=some .local ->
  bindL J (P.zip vs) m x=some v
 |[],_,_,_,_,h,_,_=>by simp at h
 |_::_,[],_,_,_,_,h,_=>by simp at h
 |p::P,w::vs,0,m,nd,h1,h2,hk=>by
  simp at h1 h2;subst h1;subst h2;show bindL J ((p,w)::P.zip vs) m p=_;unfold bindL;rw[uB fun v L=>(HR.mp nd).1 (Je L).1,fI hk];simp
 |p::P,w::vs,i+1,m,nd,h1,h2,hk=>by
  show bindL J ((p,w)::P.zip vs) m x=_;unfold bindL;exact lP (i:=i) (HR.mp nd).2 (by simpa using h1) (by simpa using h2) hk
theorem nC {J:Str->Option NameKind}{v:Value}:∀{P:List Str}{vs:vV_}{i:Nat}{m:vG_},P.Nodup->P[i]? = some x->vs[i]? = some v->J x≠some .local ->
  bindC J (P.zip vs) m x=some v
 |[],_,_,_,_,h,_,_=>by simp at h
 |_::_,[],_,_,_,_,h,_=>by simp at h
 |p::P,w::vs,0,m,nd,h1,h2,hk=>by
  simp at h1 h2;subst h1;subst h2;show bindC J ((p,w)::P.zip vs) m p=_;unfold bindC;rw[uo fun v L=>(HR.mp nd).1 (Je L).1,gV hk];simp
 |p::P,w::vs,i+1,m,nd,h1,h2,hk=>by
  show bindC J ((p,w)::P.zip vs) m x=_;unfold bindC;exact nC (i:=i) (HR.mp nd).2 (by simpa using h1) (by simpa using h2) hk
def start (N:List Str) (J:List V):St:=J.map some++List.replicate (N.length - J.length) none
def Q4 (CX:O6) (P:Program) (w:World) (K:vF_) (mg:vG_) (base:Heap) (N:List Str) (qual:Str) (scope:Scope) (f:Addr) (L:Value) (A:Around) (outer:List Env) (s:Shared) (H:Hp) (E:XK):Cx where
 prog:=P
 w:=w
 K:=K
 mg:=mg
 base:=base
 A:=A.deeper (envOfC qual scope s.heap.objs.size f L)
 N:=N
 s₀:=s
 H₀:=H
 env:=envOfC qual scope s.heap.objs.size f L
 outer:=outer
 stack:=envOfC qual scope s.heap.objs.size f L::outer
 ex:=[]
 calm:=true
 fn:=fun _=>true
 pn:=[]
 xe:=fun e s'=>wpAny (model P w) (A.deeper (envOfC qual scope s.heap.objs.size f L)) (leaving (envOfC qual scope s.heap.objs.size f L) e) (fun _ J=>CX outer H s E e J) (fun e' J=>CX outer H s E e' J) s'
def mh {J:Scope}(h:J.names.lookup x=some .cell):∃c,(cellsFrom n J.names []).lookup x=some c:=by
 have q:=Lx J.names n [] (.inl h);exact Ly.mp q
def xH {w:World}{K:vF_}{N ps:List Str}{Z:Value}{s1:Shared}{E:XK}{L:List V}
  (S:FnScope N ps scope) (hd:A.handled=none) (J:Env0 P w K mg base A outer s H) (hl:L.length=ps.length) (r:Vals L us)
  (x:InCallC s s.heap.objs.size (bindL (envOfC qual scope s.heap.objs.size f Z).kindOf (ps.zip us) fun _=>none) (cellsFrom (s.heap.objs.size+1) scope.names []) (bindC (envOfC qual scope s.heap.objs.size f Z).kindOf (ps.zip us) fun _=>none) s1) :
  Inv (Q4 CX P w K mg base N qual scope f Z A outer s H E) [] (start N L) H s1:=by
 have hpl:ps.length<=N.length:=by have:=congrArg List.length S.pre;rw[JW] at this;omega
 obtain⟨h1,tk,rfl,hk⟩:=x.done;have U:∀b:Addr,b ∉ (Q4 CX P w K mg base N qual scope f Z A outer s H E).ex:=fun b z=>absurd (show b∈([]:vL_) from z) (by simp)
 refine#[#[J.mod,S.kind,rfl,rfl,iR _,fun y z c h1 h2=>?_,fun y M=>?_,fun y c _ h=>?_,fun _=>hd,Around.frames_deeper J.frames,.inr #[rfl,rfl],fun b z=>absurd z (U b),J.bs,J.bsz,fun b _ _=>U b,fun b z=>absurd z (U b),J.funs,J.frf],
  rfl,J.bare,Un.kept hk,#[_,x.toInCall.ns,fun i y v h1 h2 h3=>?_],fun y c h=>#[_,x.cell y c h],J.hok.fresh (iR _),fun y c h=>?_,fun p Y=>absurd (show p∈([]:vP_) from Y) (by simp),J.hok.kept hk,?_]
 .exact name_of_addr x.apart (Jz h1) (Jz h2)
 .have M:scope.names.lookup y=some .cell\/scope.names.lookup y=some .free:=M;rcases M with M | M
  .exact mh M
  .exact absurd rfl (S.nofree _ (Jz M))
 .exact JR (x.above y c (Jz h))
 .have hi:i<L.length:=by
   unfold start at h2;by_cases hi:i<L.length
   .exact hi
   .rw[JA (by simpa using hi)] at h2;rw[List.getElem?_replicate] at h2;split at h2 <;> cases h2
  have ha:L[i]? = some v:=by
   unfold start at h2;rw[Jf (by simpa using hi),Io] at h2;cases e:L[i]? with
   |none=>rw[e] at h2;cases h2
   |some a=>rw[e] at h2;cases h2;rfl
  obtain⟨u,hu,rv⟩:=r.get ha;have Y:ps[i]? = some y:=by
   rw[<-S.pre,List.getElem?_take_of_lt ∅];exact h1
  have W:ps.Nodup:=by rw[<-S.pre];exact S.nd.sublist (List.take_sublist _ _)
  refine#[u,rv,?_];rcases S.par y (Iv Y) with k | k
  .exact .inl #[k,lP W Y hu k]
  .obtain⟨c,e⟩:=mh (n:=s.heap.objs.size+1) k;refine .inr #[.inl k,c,e,?_];have q:=x.cell y c e;rw[nC W Y hu (by show scope.names.lookup y≠_;rw[k];decide)] at q;exact q
 .exact J.hok.fresh (JR (x.above y c (Jz h)))
 .unfold start;show _=N.length;rw[Iw,Hr,Lz];omega
def zk {CX:O6}{w:World}{K:vF_}{mg:vG_}{base:Heap}{k:Nat}{name qual:Str}{body:List Stmt}{scope:Scope}{dV kV doc pm L ct oc:Value}{an od:vA_}
  {osl:vS_}{N ps:List Str}{sp:Sp}(lk:K.lookup f=some #[oc,od,.func (PySem.W.fnOf name qual params body scope dV kV doc pm an L ct),osl]) (hcd:PySem.W.codeIn K L qual=true) (S:FnScope N ps scope)
  (len:∀vs H Q E,sp vs H Q E->vs.length=ps.length)
  (U:∀(A:Around) (outer:List Env) (s:Shared) (H:Hp) (vs:List V) (Q:VK) (E:XK),Room k (A.deeper (envOfC qual scope s.heap.objs.size f L))->sp vs H Q E ->
   ∃t,PSs (Q4 CX P w K mg base N qual scope f L A outer s H E) body t/\t { nx:=fun _ H'=>Q .non H',rt:=Q } (start N vs) H) :
  FnOk P w K mg base CX (k+1) f (PySem.W.fnOf name qual params body scope dV kV doc pm an L ct) ps sp:=by
 refine#[len,fun A outer s H args us vs Q E hr e0 hb r hsp=>?_];have hl:=len _ _ _ _ hsp;have KX:K.In s.heap:=e0.mod.kin.keeps fun b o e=>(e0.bs b o e).1
 have lim:s.heap.NoLimit:=e0.mod.nolimit.keeps fun b o e=>(e0.bs b o e).1
 have M:∀y∈ps.zip us,scope.names.lookup y.1=some .local\/(scope.names.lookup y.1=some .cell/\((cellsFrom (s.heap.objs.size+1) scope.names []).lookup y.1).isSome=true):=fun ⟨n,v⟩ hy=>by
  rcases S.par n (Je hy).1 with q | q
  .exact .inl q
  .exact .inr #[q,Lx _ _ _ (.inl q)]
 refine codeAny_call_function hr.depth (KX _ _ lk) rfl S.co S.gen rfl (PySem.W.codeRec_of KX hcd) (hb _ _ _ _ ?_);refine wpAny_newFunctionEnv_cells S.kind M fun env he s1 x=>?_
 subst he;refine#[lim.keeps x.toInCall.keep,codeAny_func ?_];obtain⟨t,ht,hq⟩:=U A outer s H vs Q E (hr.deeper _) hsp;have I:Inv (Q4 CX P w K mg base N qual scope f L A outer s H E) [] (start N vs) H s1:=xH S hr.hd e0 hl r x;refine HF (ht [] s1 (start N vs) H _ I hq) (fun fl s' Y=>?_) fun e s' Y=>Y
 have Z:∀{σ':St}{H':Hp}{v:V}{u:Value},Inv (Q4 CX P w K mg base N qual scope f L A outer s H E) [] σ' H' s'->RelV v u->Q v H'->CE outer P w H s Q u s':=
  fun {σ' H' v u} J rv q=>#[v,H',J.os,J.bare,J.base,J.hok,rv,q]
 cases fl with
 |ret u=>
  obtain⟨v,σ',H',J,rv,q⟩:=Y;exact Z J rv q
 |next=>
  obtain⟨σ',H',J,q⟩:=Y;exact Z (v:=V.non) (u:=Value.none) J rfl q
 |brk=>
  obtain⟨_,_,_,q⟩:=Y;exact False.elim q
 |cont=>
  obtain⟨_,_,_,q⟩:=Y;exact False.elim q
section
variable {p:Pos}{t:TA}{id T:String}
def dh (r:List V->Hp->VK->Prop) (t:TA):TE:=fun σ H Q=>t σ H fun J H1=>r J H1 Q
def qJ (U:CallR X (.builtin id) r) (hg:Gl X x) (hm:X.mg x=none) (hv:bootBuiltins x=some (.builtin id)) (W:PA X (e::es) t) (hn:x ≠ "__name__" := by decide) (J:(x == ("__debug__" : Str))=false:=by decide)
  (he:starEach (e::es) X.env=(false,eval e X.env)::starEach es X.env:=by rfl) (L:(backTo pos (starEach es X.env)).any (·.1)=false:=by rfl):PE X (.Call (.Name x p) (e::es) [] pos) (dh r t):=by
 intro pins s σ H Q I h;refine Jy (Z9 I hg hm hv ?_ hn J);exact PyProof.Rows.callWith_builtin1 (t9 (W pos pins s σ H _ I h) fun us s1 ⟨M,H1,Z,Y,q1⟩=>U pins s1 σ H1 M us Q Z Y q1) he L
def mn (U:CallR X (.type T) r) (hg:Gl X x) (hm:X.mg x=none) (hv:bootBuiltins x=some (.type T)) (W:PA X (e::es) t) (hn:x ≠ "__name__" := by decide) (J:(x == ("__debug__" : Str))=false:=by decide)
  (he:starEach (e::es) X.env=(false,eval e X.env)::starEach es X.env:=by rfl) (L:(backTo pos (starEach es X.env)).any (·.1)=false:=by rfl):PE X (.Call (.Name x p) (e::es) [] pos) (dh r t):=by
 intro pins s σ H Q I h;refine Jy (Z9 I hg hm hv ?_ hn J);exact Jx (t9 (W pos pins s σ H _ I h) fun us s1 ⟨M,H1,Z,Y,q1⟩=>U pins s1 σ H1 M us Q Z Y q1) he L
end
end L2
variable {xs ys:List L2.V}{kvs:List (List L2.o6 × L2.V)}{y:L2.V}{f':Int->Int->L2.V}{H H':L2.Hp}{X:L2.Cx}{σ:L2.St}{r:List L2.V->L2.Hp->L2.VK->Prop}{te:L2.TE}{trs:List (L2.TE × L2.TE)}{tc:L2.TT}{tb:L2.TS}{sp:L2.Sp}{CX:L2.O6}
namespace HT
open PySem PyProof.Rows
section
variable {w:World}
def cat_tup {t b:Addr}{M J:vV_}{Q:vQ_}(ht:IsTup s.heap t M.toArray) (hb:IsTup s.heap b J.toArray) (hv:M≠[])
  (h1:J=[]->Q (.ref t) s) (h2:J≠[]->Q (.ref s.heap.objs.size) { s with heap:=s.heap.push { cls:=.type "tuple",data:=.seq (M++J).toArray } })
  (hsz:M.length+J.length<=sizeLine):wpAny (model prog w) A (binaryOp .Add (.ref t) (.ref b)) Q E s:=by
 obtain⟨⟨cls,dd,data,sl⟩,ho,hc,n,hd⟩:=id ht;obtain⟨⟨cls2,Y,data2,W⟩,L,U,n2,Z⟩:=id hb;simp only at hc hd U Z;subst hc hd U Z;have e:M.toArray++J.toArray=(M++J).toArray:=by simp
 by_cases hw:J=[]
 .exact concat_meets #[_,ho,rfl] #[_,L,rfl] KI seq_tuple_add KJ KL (KN _ _)
   (tuple_addW1 t b M.toArray J.toArray n n2 dd Y sl W (by simpa using hv) (by simp[hw])) #[ho,L,h1 hw]
 .refine concat_meets #[_,ho,rfl] #[_,L,rfl] KI seq_tuple_add KJ KL (KN _ _)
   (tuple_addW2 t b M.toArray J.toArray n n2 dd Y sl W (by simpa using hv) (by simpa using hw) (by rw[HC,HC];exact hsz)) #[ho,L,?_]
  rw[e];exact h2 hw
def sIx (n d:Nat):Option Int->Nat
 |none=>d
 |some v=>if v<0 then (v+(n:Int)).toNat else min v.toNat n
def sIx_nat (n d k:Nat):sIx n d (some (k:Int))=min k n:=by
 show (if (k:Int)<0 then ((k:Int)+(n:Int)).toNat else min (k:Int).toNat n)=min k n;rw[gV ∅,IM]
def CB (n d:Nat) (L:d<=n) (o:Option Int):sIx n d o<=n:=by
 cases o with
 |none=>exact L
 |some v=>
  show (if v<0 then (v+(n:Int)).toNat else min v.toNat n)<=n;by_cases J:v<0
  .rw[fI J];omega
  .rw[gV J];exact Nat.min_le_right _ _
def oQ (v:Int) (n d:Nat):(if v<0 then max (v+(n:Int)) 0 else min v (n:Int))=((sIx n d (some v):Nat):Int):=by
 show (if v<0 then max (v+(n:Int)) 0 else min v (n:Int))=(((if v<0 then (v+(n:Int)).toNat else min v.toNat n):Nat):Int);by_cases J:v<0
 .simp only[fI J];omega
 .simp only[gV J];omega
def ya (lo hi:Option Int) (n:Nat):Builtin.Slice.sliceAdjust lo hi 1 (n:Int)=(((sIx n 0 lo:Nat):Int),((sIx n n hi:Nat):Int)):=by
 have h1:¬ ((1:Int)<0):=by omega
 unfold Builtin.Slice.sliceAdjust;simp only[h1,Ii];refine IG ?_ ?_
 .cases lo with
  |none=>rfl
  |some v=>exact oQ v n 0
 .cases hi with
  |none=>rfl
  |some v=>exact oQ v n n
def Ez (i j:Nat):Builtin.Slice.slicePlaces (i:Int) (j:Int) 1=j - i:=by
 unfold Builtin.Slice.slicePlaces;have h1:(1:Int)>0:=by omega
 simp only[h1,HI,Int.ediv_one];split <;> omega
def pQ {v:Value}{o:Option Int}{Q:Option Int->Shared->Prop}(p:IsPart v o) (h:Q o s):wpAny (model prog w) A (Builtin.Slice.slicePartIndex v) Q E s:=by
 cases p with
 |none=>exact slicePart_none h
 |int i t=>exact slicePart_int h
def tZ {lo hi:Option Int}{Q:Int × Int × Nat->Shared->Prop}(U:s.heap.IsSliceOf sl vl vu .none) (pl:IsPart vl lo) (M:IsPart vu hi)
  (h:Q (((sIx n 0 lo:Nat):Int),1,sIx n n hi - sIx n 0 lo) s):wpAny (model prog w) A (Builtin.Slice.sliceApplied (.ref sl) (pure (n:Int))) Q E s:=by
 obtain⟨Y,J,W,L⟩:=id U;unfold Builtin.Slice.sliceApplied Builtin.Slice.sliceFields;refine fx (fx (HH J L (x:=vl) rfl (fx (HH J L (x:=vu) rfl (fx (HH J L (x:=.none) rfl (iO ?_)))))));refine fx (slicePart_none ?_);show wpAny _ _ (if ((1:Int) == 0)=true then _ else _) _ _ s;rw[gV #[]];refine fx (pQ pl (fx (pQ M (fx (iO ?_)))));show wpAny _ _ (match Builtin.Slice.sliceAdjust lo hi 1 (n:Int) with | (lo,hi)=>pure (lo,(1:Int),Builtin.Slice.slicePlaces lo hi 1)) _ _ s;rw[ya lo hi n];show wpAny _ _ (pure (((sIx n 0 lo:Nat):Int),(1:Int),Builtin.Slice.slicePlaces ((sIx n 0 lo:Nat):Int) ((sIx n n hi:Nat):Int) 1)) _ _ s;rw[Ez];exact iO h
def yZ (xs:vR_) (i k:Nat):((List.range k).filterMap fun (m:Nat)=>xs[((i:Int)+(m:Int)*1).toNat]?).toArray=((xs.toList.drop i).take k).toArray:=by
 have e:(fun (m:Nat)=>xs[((i:Int)+(m:Int)*1).toNat]?)=fun m=>xs[i+m]?:=by
  funext m;have:((i:Int)+(m:Int)*1).toNat=i+m:=by omega
  rw[this]
 rw[e];have:=pick_run xs i k;rw[List.filterMap_map] at this;have J:((fun x=>xs[x]?)∘fun x=>i+x)=fun m=>xs[i+m]?:=rfl
 rw[J] at this;rw[this]
def getItem_tuple_cut {t sl:Addr}{items:vR_}{lo hi:Option Int}{Q:vQ_}(L:IsTup s.heap t items) (Z:s.heap.IsSliceOf sl vl vu .none) (pl:IsPart vl lo) (pu:IsPart vu hi)
  (hw:¬ (sIx items.size 0 lo=0/\sIx items.size items.size hi=items.size))
  (h:Q (.ref s.heap.objs.size) { s with heap:=s.heap.push { cls:=.type "tuple",data:=.seq ((items.toList.drop (sIx items.size 0 lo)).take (sIx items.size items.size hi - sIx items.size 0 lo)).toArray } })
  (hsz:items.size<=sizeLine):wpAny (model prog w) A (getItem (.ref t) (.ref sl)) Q E s:=by
 have J:sizeOk (.seq ((items.toList.drop (sIx items.size 0 lo)).take (sIx items.size items.size hi - sIx items.size 0 lo)).toArray):=by
  show ((items.toList.drop (sIx items.size 0 lo)).take (sIx items.size items.size hi - sIx items.size 0 lo)).toArray.size<=sizeLine;rw[HC,JW,KO,JU];omega
 have hj:sIx items.size items.size hi<=items.size:=CB _ _ (iR _) hi;obtain⟨os,Y,W,hds⟩:=id Z;have M:s.TypeIs (.ref sl) "slice" := #[os,Y,W]
 unfold getItem
 try with_reducible refine IQ ?_
 first | refine fx (iO ?_) | skip
 refine fx (wpAny_sequenceKey L.typeIs #[] ?_);refine fx (IH (name:=Str.ofString "__getitem__") L.typeIs Jg
  (Iy Jg L.typeIs entry_tuple_getitem ?_ (args_tuple_getitem _ _)))
 show wpAny _ _ (Builtin.Tuple.tupleItemsOf (.ref t) >>= _) _ _ s;refine fx (tupleItemsOf_ L ?_);refine fx (JX M ?_);rw[fI #[]];refine fx (tZ Z pl pu ?_);have U:¬ ((((sIx items.size 0 lo:Nat):Int) == 0&&(1:Int) == 1&&(sIx items.size items.size hi - sIx items.size 0 lo) == items.size)=true):=by
  intro q;rw[Hs,Hs] at q;have q1:((sIx items.size 0 lo:Nat):Int)=0:=eq_of_beq q.1.1;have q2:sIx items.size items.size hi - sIx items.size 0 lo=items.size:=eq_of_beq q.2;exact hw #[by omega,by omega]
 show wpAny _ _ (if (((sIx items.size 0 lo:Nat):Int) == 0&&(1:Int) == 1&&(sIx items.size items.size hi - sIx items.size 0 lo) == items.size)=true then _ else _) _ _ s;rw[gV U,yZ]
 first
  | exact fx (m:=Builtin.Tuple.tupleExact _) (ID (iO #[_,rfl,iO h]) J)
  | exact fx (m:=Builtin.Tuple.tupleExact _) (ID (fx (iO (iO #[_,rfl,iO h]))) J)
  | exact fx (fx (m:=Builtin.Tuple.tupleExact _) (ID (iO (iO #[_,rfl,iO h])) J))
  | exact fx (fx (m:=Builtin.Tuple.tupleExact _) (ID (iO #[_,rfl,iO h]) J))
end
end HT
namespace L2
open PySem PySem.Spec PyProof.Rows
abbrev TO:=St->Hp->(Option Int->Hp->Prop)->Prop
def PO (X:Cx) (e:Option Expr) (t:TO):Prop:=
 ∀(pins:vP_) (s:Shared) (σ:St) (H:Hp) (Q:Option Int->Hp->Prop),Inv X pins σ H s->t σ H Q ->
  wpAny (model X.prog X.w) X.A (evalPart e X.env) (fun u s'=>∃o H',Inv X pins σ H' s'/\IsPart u o/\Q o H') X.xe s
def Bl:TO:=fun _ H Q=>Q none H
def xN (t:TE):TO:=fun σ H Q=>t σ H fun x H1=>∃i,x = .int i/\Q (some i) H1
section
variable {lo hi:Option Expr}{tl th:TO}
def qK:PO X none Bl:=by
 intro pins s σ H Q I h;rw[evalPart_none];exact iO #[none,H,I,.none,h]
def nu (h:PE X e te):PO X (some e) (xN te):=by
 intro pins s σ H Q I J;rw[evalPart_some];refine t9 (h pins s σ H _ I J) fun u s1 ⟨x,H1,M,U,L⟩=>?_
 obtain⟨i,rfl,q⟩:=L;obtain⟨t,rfl⟩:=U;exact#[some i,H1,M,.int i t,q]
def SlR (X:Cx) (r:V->Option Int->Option Int->Hp->VK->Prop):Prop:=
 ∀(pins:vP_) (s:Shared) (σ:St) (H:Hp) (x:V) (v vl vu:Value) (lo hi:Option Int) (sl:Addr) (Q:VK),Inv X pins σ H s->RelV x v->s.heap.IsSliceOf sl vl vu .none->IsPart vl lo->IsPart vu hi->r x lo hi H Q ->
  ∃T id,typeLookup (.type T) "__getitem__" = pure (some (.builtin id))/\s.TypeIs v T/\wpAny (model X.prog X.w) X.A (getItem v (.ref sl)) (EP X pins σ Q) X.xe s
def SlR.or {r U:V->Option Int->Option Int->Hp->VK->Prop}(h:SlR X r) (h':SlR X U):SlR X (fun x lo hi H Q=>r x lo hi H Q\/U x lo hi H Q):=by
 intro pins s σ H x v Y W lo hi sl Q I J L pl M q;rcases q with q | q
 .exact h pins s σ H x v Y W lo hi sl Q I J L pl M q
 .exact h' pins s σ H x v Y W lo hi sl Q I J L pl M q
def AE (r:V->Option Int->Option Int->Hp->VK->Prop) (te:TE) (tl th:TO):TE:=fun σ H Q=>te σ H fun x H1=>tl σ H1 fun l H2=>th σ H2 fun u J=>r x l u J Q
def lJ {r:V->Option Int->Option Int->Hp->VK->Prop}(W:SlR X r) (he:PE X e te) (hl:PO X lo tl) (hu:PO X hi th):PE X (.Subscript e (.Slice lo hi none p2) pos) (AE r te tl th):=by
 intro pins s σ H Q I h;refine Subscript_ (t9 (he pins s σ H _ I h) fun v s1 ⟨x,H1,Y,r1,q1⟩=>?_);refine wpAny_Slice (t9 (hl pins s1 σ H1 _ Y q1) fun L s2 ⟨l,H2,I2,pl,U⟩=>t9 (hu pins s2 σ H2 _ I2 U) fun J s3 ⟨u,M,I3,pu,q3⟩=>?_);rw[evalPart_none];refine iO ?_;have I4:Inv X pins σ M { s3 with heap:=s3.heap.push { cls:=.type "slice",data:=.fields #v[L,J,.none] } }:=I3.kept (t':=s3.toks) fun b ob q=>xo _ q
 obtain⟨T,id,hT,Z,hg⟩:=W pins { s3 with heap:=s3.heap.push { cls:=.type "slice",data:=.fields #v[L,J,.none] } } σ M x v L J l u s3.heap.objs.size Q I4 r1 (Heap.IsSliceOf.new ..) pl pu q3;show wpAny (model X.prog X.w) X.A (subscriptTail e (.Slice lo hi none p2) v (.ref s3.heap.objs.size)) (EP X pins σ Q) X.xe { s3 with heap:=s3.heap.push { cls:=.type "slice",data:=.fields #v[L,J,.none] } };exact tail_any (ops:=[.ref s3.heap.objs.size,v]) Z hT hg (by with_unfolding_all rfl)
def N5 (xs:List V) (lo hi:Option Int):List V:=(xs.drop (HT.sIx xs.length 0 lo)).take (HT.sIx xs.length xs.length hi - HT.sIx xs.length 0 lo)
def nG (xs:List V) (lo hi:Option Int):(N5 xs lo hi).length<=xs.length:=by
 unfold N5;rw[JW,KO];omega
def wU (K:vF_):V->Option Int->Option Int->Hp->VK->Prop:=fun x lo hi H Q=>∃a xs,x = .ref a/\SqT K H a xs /\
 ¬ (HT.sIx xs.length 0 lo=0/\HT.sIx xs.length xs.length hi=xs.length)/\∀p,H p=none->Q (.ref p) (l8 H p (.tup (N5 xs lo hi)))
def vz:SlR X (wU X.K):=by
 intro pins s σ H x v vl vu lo hi sl Q I W Y pl Z h;obtain⟨a,xs,rfl,hx,hw,q⟩:=h;cases W;obtain⟨L,r,U,M⟩:=I.tuple hx;have J:L.toArray.size=xs.length:=by rw[HC];exact r.length.symm
 refine#["tuple",_,Jg.lookup,U.typeIs,?_];refine HT.getItem_tuple_cut U Y pl Z (by rw[J];exact hw) ?_ (by rw[J];exact M);rw[J];refine#[.ref s.heap.objs.size,_,I.laid (t':=s.toks) (o:=.tup (N5 xs lo hi)) (fun b ob q=>xo _ q) (iR _) ?_,rfl,q _ (I.hok.fresh (iR _))];exact#[Ht (nG xs lo hi) M,_,(r.drop (HT.sIx xs.length 0 lo)).take (HT.sIx xs.length xs.length hi - HT.sIx xs.length 0 lo),IsTup.new _ _]
def pK (K:vF_):R2:=fun x y H Q=>∃a b xs ys,x = .ref a/\y = .ref b/\SqT K H a xs/\SqT K H b ys/\xs≠[]/\xs.length+ys.length<=sizeLine /\
 (ys=[]->Q (.ref a) H)/\(ys≠[]->∀p,H p=none->Q (.ref p) (l8 H p (.tup (xs++ys))))
def Vals.nil_iff (r:Vals xs us):us=[]↔xs=[]:=by
 cases r with
 |nil=>simp
 |cons _ _=>simp
def FE:OpR X (binaryOp .Add) (pK X.K):=by
 intro pins s σ H x y v u Q I W ry h;obtain⟨a,b,xs,ys,rfl,rfl,ha,Y,hx,M,q1,Z⟩:=h;cases W;cases ry;obtain⟨its,L,p1,_⟩:=I.tuple ha;obtain⟨U,J,p2,_⟩:=I.tuple Y;refine HT.cat_tup p1 p2 (fun z=>hx (L.nil_iff.mp z)) (fun z=>#[.ref a,H,I,rfl,q1 (J.nil_iff.mp z)]) (fun z=>?_) (by rw[<-L.length,<-J.length];exact M);refine#[.ref s.heap.objs.size,_,I.laid (t':=s.toks) (o:=.tup (xs++ys)) (fun b ob q=>xo _ q) (iR _) ?_,rfl,Z (fun w=>z (J.nil_iff.mpr w)) _ (I.hok.fresh (iR _))];exact#[by rw[Iw];exact M,_,L.append J,IsTup.new _ _]
end
def L8 (n:Nat) (i:Int):Option Nat:=if 0<=i then (if i<n then some i.toNat else none) else if -(n:Int)<=i then some (i+n).toNat else none
def n8 {α:Type}(xs:List α) (i:Int):Option α:=(L8 xs.length i).bind fun j=>xs[j]?
def Cg {i:Int}(h:L8 n i=some j):seqIndex? i n=some j/\j<n /\ -(n:Int)<=i/\i<n:=by
 unfold L8 at h;by_cases J:0<=i
 .rw[fI J] at h;by_cases h1:i<n
  .rw[fI h1] at h;have e:i.toNat=j:=HU h;exact#[by rw[seqIndex_of J h1,e],by omega,by omega,h1]
  .rw[gV h1] at h;cases h
 .rw[gV J] at h;by_cases h1:-(n:Int)<=i
  .rw[fI h1] at h;have e:(i+n).toNat=j:=HU h;exact#[by rw[seqIndex_neg ∅ h1,e],by omega,h1,by omega]
  .rw[gV h1] at h;cases h
def kF {α:Type}{xs:List α}{i:Int}{v:α}(h:n8 xs i=some v):∃j,seqIndex? i xs.length=some j/\xs[j]? = some v/\j<xs.length /\ -(xs.length:Int)<=i/\i<xs.length:=by
 unfold n8 at h;cases e:L8 xs.length i with
 |none=>rw[e] at h;cases h
 |some j=>
  rw[e] at h;obtain⟨h1,h2,J,L⟩:=Cg e;exact#[j,h1,h,h2,J,L]
def Z6 {α:Type}(xs:List α) (v:α):n8 (xs++[v]) (-1)=some v:=by
 have hl:(xs++[v]).length=xs.length+1:=by simp
 have e:L8 (xs++[v]).length (-1)=some xs.length:=by
  unfold L8;rw[hl,gV #[],fI ∅];congr 1;omega
 unfold n8;rw[e];show (xs++[v])[xs.length]? = some v;simp
def rH (b:Expr):Prop:=∀o i,subscripted b false o i=operate [o,i] (getItem o i)
def IxR (X:Cx) (r:R2):Prop:=
 ∀(value slice:Expr) (pins:vP_) (s:Shared) (σ:St) (H:Hp) (x y:V) (v u:Value) (Q:VK),Inv X pins σ H s->RelV x v->RelV y u->r x y H Q ->
  subscripted slice false v u=operate [v,u] (getItem v u)->wpAny (model X.prog X.w) X.A (subscriptTail value slice v u) (EP X pins σ Q) X.xe s
def bh (X:Cx) (id:String) (r:V->List V->Hp->VK->Prop):Prop:=
 ∀(pins:vP_) (s:Shared) (σ:St) (H:Hp) (x:V) (xs:List V) (v:Value) (us:vV_) (Q:VK),Inv X pins σ H s->RelV x v->Vals xs us->r x xs H Q ->
  wpAny (model X.prog X.w) X.A (call (.builtin id) (v::us)) (EP X pins σ Q) X.xe s
section
variable {a b:Expr}{ta tb:TE}
def IxR.or {r W:R2}(h:IxR X r) (h':IxR X W):IxR X (fun x y H Q=>r x y H Q\/W x y H Q):=by
 intro value J pins s σ H x y v u Q I L U q M;rcases q with q | q
 .exact h value J pins s σ H x y v u Q I L U q M
 .exact h' value J pins s σ H x y v u Q I L U q M
def yi {r:R2}(W:IxR X r) (U:PE X a ta) (M:PE X b tb) (L:rH b):PE X (.Subscript a b pos) (aN r ta tb):=by
 intro pins s σ H Q I h;exact Subscript_ (ku U M I h fun v u s2 x y H2 Y J Z q=>W a b pins s2 σ H2 x y v u Q Y J Z q (L _ _))
def iV (K:vF_):R2:=fun x y H Q=>∃p xs i v,x = .ref p/\y = .int i/\SqL K H p xs/\n8 xs i=some v/\Q v H
def kc (K:vF_):R2:=fun x y H Q=>∃p xs i v,x = .ref p/\y = .int i/\SqT K H p xs/\n8 xs i=some v/\Q v H
def mM:R2:=fun x y H Q=>∃z i c,x = .str z/\y = .int i/\z.length<=sizeLine/\n8 z.cps.toList i=some c/\Q (.str #[#v[c]]) H
def ix_list:IxR X (iV X.K):=by
 intro value L pins s σ H x y v u Q I rx ry h Y;obtain⟨p,xs,i,z,rfl,rfl,hq,he,q⟩:=h;cases rx;obtain⟨t,rfl⟩:=ry;obtain⟨W,r,pl,hz⟩:=I.list hq;obtain⟨j,h1,h2,h3,h4,h5⟩:=kF he;obtain⟨w,ew,U⟩:=r.get h2;have hl:=r.length;have hn:=bA;have J:EP X pins σ Q w s:=#[z,H,I,U,q]
 by_cases Z:0<=i
 .have M:i.toNat=j:=by
   rw[seqIndex_of Z h5] at h1;exact HU h1
  exact item_listR pl.isList Z ∅ (by rw[M];simpa using ew) J Y
 .have M:(i+(W.toArray.size:Int)).toNat=j:=by
   rw[seqIndex_neg ∅ h4] at h1;rw[HC,<-hl];exact HU h1
  exact subscriptTail_builtinR (x:=w) pl.isList.typeIs slot_list_getitem.lookup
   (wpAny_getItem_list_neg (Q:=fun r s'=>r=w/\EP X pins σ Q r s') pl.isList ∅ (by rw[HC] <;> omega) ∅ (by rw[M];simpa using ew) #[rfl,J]) Y
def zi:IxR X (kc X.K):=by
 intro value L pins s σ H x y v u Q I U ry h Z;obtain⟨p,xs,i,z,rfl,rfl,W,Y,q⟩:=h;cases U;obtain⟨t,rfl⟩:=ry;obtain⟨its,r,pl,hz⟩:=I.tuple W;obtain⟨j,h1,h2,h3,h4,h5⟩:=kF Y;obtain⟨w,ew,M⟩:=r.get h2;have hl:=r.length;have hn:=bA;have J:EP X pins σ Q w s:=#[z,H,I,M,q]
 exact subscriptTail_builtinR (x:=w) pl.typeIs slot_tuple_getitem.lookup
  (getItem_tuple (j:=j) (Q:=fun r s'=>r=w/\EP X pins σ Q r s') pl ∅ ∅ (by rw[HC,<-hl];exact h1) (by simpa using ew) #[rfl,J]) Z
def Gv:IxR X mM:=by
 intro value J pins s σ H x y v u Q I L ry h M;obtain⟨z,i,c,rfl,rfl,hz,he,q⟩:=h;obtain⟨t,rfl⟩:=L;obtain⟨t',rfl⟩:=ry;obtain⟨j,h1,h2,h3,W,U⟩:=kF he;have hl:z.cps.toList.length=z.length:=by simp[Str.length]
 rw[hl] at h1 W U;have hn:=bA;exact tail_any (Jh s z t) slot_str_getitem.lookup (getItem_str (c:=c) (by
  have Y:decide (i < -(2 ^ 63:Int))=false:=iU ∅;have Z:decide (i>=2 ^ 63)=false:=iU ∅;rw[Y,Z,Bool.or_false]) (by rw[h1];simpa using h2) #[.str #[#v[c]],H,I.tok _,#[_,rfl],q]) M
def Fv (lo hi:Option Int) (n:Nat):(sliceBounds lo hi none n).1=((HT.sIx n 0 lo:Nat):Int)/\(sliceBounds lo hi none n).2.1=((HT.sIx n n hi:Nat):Int)/\(sliceBounds lo hi none n).2.2=1:=by
 have key:∀i:Int,(sliceBounds (some i) none none n).1=((HT.sIx n 0 (some i):Nat):Int):=fun i=>by
  simp only[sliceBounds,HT.sIx,Option.getD_none,show (1:Int)>0 by decide,HI];by_cases h:i<0
  .simp only[h,HI] <;> omega
  .simp only[h,Ii] <;> omega
 refine#[?_,?_,rfl]
 .cases lo with
  |none=>simp[sliceBounds,HT.sIx]
  |some i=>exact key i
 .cases hi with
  |none=>simp[sliceBounds,HT.sIx]
  |some i=>exact key i
def DW (J:vV_) (lo hi:Option Int):slicePick J.toArray lo hi none=((J.drop (HT.sIx J.length 0 lo)).take (HT.sIx J.length J.length hi - HT.sIx J.length 0 lo)).toArray:=by
 obtain⟨h1,h2,L⟩:=Fv lo hi J.toArray.size;unfold slicePick;rw[h1,h2,L];simp only[sliceRange_one,pick_run,HC] <;> rfl
def zr (K:vF_):V->Option Int->Option Int->Hp->VK->Prop:=fun x lo hi H Q=>∃a xs,x = .ref a/\SqL K H a xs/\∀p,H p=none->Q (.ref p) (l8 H p (.lst (N5 xs lo hi)))
def sk:SlR X (zr X.K):=by
 intro pins s σ H x v vl vu lo hi sl Q I M U pl W h;obtain⟨a,xs,rfl,hx,q⟩:=h;cases M;obtain⟨Y,r,L,Z⟩:=I.list hx;have J:=r.length;refine#["list",_,slot_list_getitem.lookup,L.isList.typeIs,?_];refine wpAny_getItem_list_slice L.isList U pl W .none (by simp) ?_ (by rw[HC] <;> omega);rw[DW,<-J];refine#[.ref s.heap.objs.size,_,I.laid (t':=s.toks) (o:=.lst (N5 xs lo hi)) (fun b ob q=>xo _ q) (iR _) ?_,rfl,q _ (I.hok.fresh (iR _))];exact#[Ht (nG xs lo hi) Z,_,0,(r.drop (HT.sIx xs.length 0 lo)).take (HT.sIx xs.length xs.length hi - HT.sIx xs.length 0 lo),HG _ rfl]
def call_len_seq:CallR X (.builtin "len") (fun xs H Q=>∃p ys,xs=[.ref p]/\(SqL X.K H p ys\/SqT X.K H p ys)/\Q (.int ys.length) H):=by
 intro pins s σ H xs us Q I r h;obtain⟨p,ys,rfl,L,q⟩:=h;obtain⟨u,rfl,W⟩:=P2 r;cases W;have Z:=bA;rcases L with L | L
 .obtain⟨M,U,pl,Y⟩:=I.list L;have J:=U.length;exact Calls.call_len_list pl.isList (by simp only[HC] <;> omega) #[.int ys.length,H,I.tok _,#[s.toks+1,by rw[HC,J]],q]
 .obtain⟨M,U,pl,Y⟩:=I.tuple L;have J:=U.length;exact len_tuple pl (by simp only[HC] <;> omega) #[.int ys.length,H,I.tok _,#[s.toks+1,by rw[HC,J]],q]
def AH:CallR X (.builtin "len") (fun xs H Q=>∃z,xs=[.str z]/\z.length<=sizeLine/\Q (.int z.length) H):=by
 intro pins s σ H xs us Q I r h;obtain⟨z,rfl,J,q⟩:=h;obtain⟨u,rfl,t,rfl⟩:=P2 r;have L:=bA;exact len_str ∅ #[.int z.length,H,I.tok _,#[_,rfl],q]
def CallR.or {L:List V->Hp->VK->Prop}(h:CallR X f r) (h':CallR X f L):CallR X f (fun xs H Q=>r xs H Q\/L xs H Q):=by
 intro pins s σ H xs us Q I J q;rcases q with q | q
 .exact h pins s σ H xs us Q I J q
 .exact h' pins s σ H xs us Q I J q
def xk:CallR X (.type "list") (fun xs H Q=>∃p ys,xs=[.ref p]/\(SqL X.K H p ys\/SqT X.K H p ys)/\∀l,H l=none->Q (.ref l) (l8 H l (.lst ys))):=by
 intro pins s σ H xs us Q I r h;obtain⟨p,ys,rfl,U,q⟩:=h;obtain⟨u,rfl,rx⟩:=P2 r;cases rx;have M:∀(J:vV_),Vals ys J->ys.length<=sizeLine->∀(h':Heap) (c':Nat),(∀b o',s.heap.get? b=some o'->h'.get? b=some o') ->
   h'.get? s.heap.objs.size=some { cls:=.type "list",dict:=none,data:=.seq J.toArray c',slots:=#v[] }->EP X pins σ Q (.ref s.heap.objs.size) { s with heap:=h' }:=fun J L Y h' c' W e=>
  #[.ref s.heap.objs.size,_,I.laid (t':=s.toks) W (iR _) (show ObjOk X.prog X.w _ h' _ (.lst ys) from #[Y,J,c',L,e]),rfl,q _ (I.hok.fresh (iR _))]
 rcases U with U | U
 .obtain⟨J,L,pl,Y⟩:=I.list U;have Z:=L.length;obtain⟨o,ho,hc,n,hd⟩:=pl.isList;exact call_list_seq p (.inl rfl) ho hc hd (fun h' c' W e=>M J L Y h' c' W e) (by simp only[HC] <;> omega)
 .obtain⟨J,L,pl,Y⟩:=I.tuple U;have Z:=L.length;obtain⟨o,ho,hc,n,hd⟩:=pl;exact call_list_seq p (.inr rfl) ho hc hd (fun h' c' W e=>M J L Y h' c' W e) (by simp only[HC] <;> omega)
def gv:CallR X (.type "tuple") (fun xs H Q=>∃p ys,xs=[.ref p]/\((SqL X.K H p ys/\∀l,H l=none->Q (.ref l) (l8 H l (.tup ys)))\/(SqT X.K H p ys/\Q (.ref p) H))):=by
 intro pins s σ H xs us Q I r h;obtain⟨p,ys,rfl,h⟩:=h;obtain⟨u,rfl,Z⟩:=P2 r;cases Z;rcases h with ⟨L,q⟩ | ⟨L,q⟩
 .obtain⟨J,M,pl,U⟩:=I.list L;have Y:=M.length;refine call_tuple_list pl.isList (fun h' kp=>?_) (by simp only[HC] <;> omega);have W:Inv X pins σ H { s with heap:=h' }:=I.kept (t':=s.toks) kp;have I2:Inv X pins σ (l8 H h'.objs.size (.tup ys)) { s with heap:=h'.push { cls:=.type "tuple",data:=.seq J.toArray } }:=
   W.laid (t':=s.toks) (fun b o e=>xo _ e) (iR _) (show ObjOk X.prog X.w _ _ _ (.tup ys) from #[U,J,M,IsTup.new _ _])
  exact#[.ref h'.objs.size,_,I2,rfl,q _ (W.hok.fresh (iR _))]
 .obtain⟨J,M,pl,U⟩:=I.tuple L;exact call_tuple_same pl #[.ref p,H,I,rfl,q]
def ql (K:vF_) (T:String) (x:V) (H:Hp):Prop:=match x with
 |.str _=>T = "str"
 |.int _=>T = "int"
 |.ref p=>(T = "list" /\ ∃xs,SqL K H p xs)\/(T = "tuple" /\ ∃o,K.lookup p=some o/\o.cls = .type "tuple" /\ o.dict=none) \/
   (T = "dict" /\ ((∃kvs,H p=some (.dK kvs))\/∃kvs,H p=some (.dT kvs)))\/(T = "set" /\ ∃S n,H p=some (.set S n))
 |_=>False
def DV {x:V}{v:Value}(I:Inv X pins σ H s) (r:RelV x v) (ty:ql X.K T x H) :
  s.TypeIs v T/\∀a,v = .ref a->∃ob,s.heap.get? a=some ob/\ob.dict=none:=by
 cases x with
 |str z=>
  obtain⟨t,rfl⟩:=r;cases (show T = "str" from ty);exact#[Jh s z t,fun _ e=>nomatch e]
 |int i=>
  obtain⟨t,rfl⟩:=r;cases (show T = "int" from ty);exact#[typeIs_int s i t,fun _ e=>nomatch e]
 |ref p=>
  cases r;rcases ty with ⟨rfl,xs,Y⟩ | ⟨rfl,o,J,U,L⟩ | ⟨rfl,J⟩ | ⟨rfl,S,n,J⟩
  .obtain⟨W,_,pl,_⟩:=I.list Y;refine#[pl.isList.typeIs,fun a e=>?_];cases e;obtain⟨o,n,e,c,L,_⟩:=pl;exact#[o,e,L]
  .refine#[#[o,I.kIn p o J,U],fun a e=>?_];cases e;exact#[o,I.kIn _ o J,L]
  .have z:∃o,s.heap.get? p=some o/\o.ExactDict:=by
    rcases J with ⟨kvs,J⟩ | ⟨kvs,J⟩
    .obtain⟨_,_,_,_,o,_,_,e,ex,_⟩:=I.hok p _ J;exact#[o,e,ex]
    .obtain⟨_,_,_,_,o,_,_,e,ex,_⟩:=I.hok p _ J;exact#[o,e,ex]
   obtain⟨o,e,ex⟩:=z;refine#[#[o,e,ex.1],fun a M=>?_];cases M;exact#[o,e,ex.2.1]
  .obtain⟨o,_,_,_,e,ex,_⟩:=I.hok p _ J;refine#[#[o,e,ex.1],fun a M=>?_];cases M;exact#[o,e,ex.2.1]
 |_=>exact False.elim ty
def AN (K:vF_) (T:String) (r:V->List V->Hp->VK->Prop) (to:TE) (t:TA):TE:=fun σ H Q=>to σ H fun x H1=>ql K T x H1/\t σ H1 fun xs H2=>r x xs H2 Q
variable {o:Expr}{to:TE}{t:TA}{T id:String}{r:V->List V->Hp->VK->Prop}
def rj (pa:PlainAttrs T) (W:Slot T name id) (Y:typeOf (.builtin id)=pure (.type "method_descriptor")) (hm:bh X id r) (ho:PE X o to) (ha:PA X (e::es) t)
  (L:attributeBase o name X.env (eval o X.env)=eval o X.env:=by rfl)
  (U:((backTo cpos (starEach (e::es) X.env)).all (fun x=>!x.1)&&(backToKw cpos (keywordEach [] X.env)).all (fun x=>x.1.isSome)
   && decide ((e::es).length+([]:List Keyword).length+(if ([]:List Keyword).isEmpty then 0 else 1)<30))=true:=by rfl)
  (M:(apos.endLine == cpos.line)=true:=by rfl) (hs:starEach (e::es) X.env=(false,eval e X.env)::starEach es X.env:=by rfl) (J:(backTo cpos (starEach es X.env)).any (·.1)=false:=by rfl) :
  PE X (.Call (.Attribute o name apos) (e::es) [] cpos) (AN X.K T r to t):=by
 intro pins s σ H Q I h;refine wpAny_Call_method_late L U M rfl (t9 (ho pins s σ H _ I h) fun v s1 ⟨x,H1,I1,r1,ty,q1⟩=>?_);obtain⟨h1,h2⟩:=DV I1 r1 ty;refine#[T,id,pa,W,Y,h1,h2,?_];have Z:=ha cpos pins s1 σ H1 _ I1 q1;rw[hs] at Z ⊢;refine Calls.callWith_builtin (by show (false||(backTo cpos (starEach es X.env)).any (·.1))=false;rw[J] <;> rfl) (Calls.evalArgs_plain ?_);exact t9 Z fun us s2 ⟨vs,H2,I2,r2,q2⟩=>hm pins s2 σ H2 x vs v us Q I2 r1 r2 q2
end
def AX (X:Cx) (id:String) (r:V->List V->Hp->VK->Prop):Prop:=
 ∀(pins:vP_) (s:Shared) (σ:St) (H:Hp) (x:V) (xs:List V) (v:Value) (us:vV_) (Q:VK),Inv X pins σ H s->RelV x v->Vals xs us->r x xs H Q ->
  wpAny (model X.prog X.w) X.A (call (.builtin id) (v::us)) (EP X pins σ Q) X.xe s
def Vals.one:∀{x:V}{us:vV_},Vals [x] us->∃u,us=[u]/\RelV x u:=by
 intro x us h;cases h with
 |cons r t=>
  cases t;exact#[_,rfl,r]
theorem Vals.rep (h:Vals xs us):∀k:Nat,Vals (List.replicate k xs).flatten (List.replicate k us).flatten
 |0=>.nil
 |k+1=>by
  rw[IT,IT,JB,JB];exact Vals.append h (Vals.rep h k)
theorem qW (J:vV_):∀(k:Nat) (acc:vV_),
  List.foldl (fun x1 x2=>x1++x2) acc.toArray (List.replicate k J.toArray)=(acc++(List.replicate k J).flatten).toArray
 |0,acc=>by simp
 |k+1,acc=>by
  have e:acc.toArray++J.toArray=(acc++J).toArray:=by simp
  have L:(acc++J)++(List.replicate k J).flatten=acc++(List.replicate (k+1) J).flatten:=by
   rw[IT,JB,List.append_assoc]
  rw[<-L,<-qW J k (acc++J),<-e,IT,List.foldl_cons]
section
variable {l b:Addr}{zs:List V}
def Inv.lset {J its':vV_}{n:Nat}{t':Nat}(I:Inv X pins σ H s) (L:H l=some (.lst xs))
  (e:s.heap.get? l=some { cls:=.type "list",data:=.seq J.toArray n }) (M:f J.toArray=its'.toArray) (U:Vals ys its') (hz:ys.length<=sizeLine) :
  Inv X pins σ (l8 H l (.lst ys)) { s with heap:=s.heap.update l (Obj.mapSeq f),toks:=t' }:=by
 have q:=PySem.IsL.update e f;rw[M] at q;refine I.write (x:=l) (e:=l) (by rw[L];exact trivial) (.inl rfl) (fun b' u Y W=>(JC s.heap (Obj.mapSeq f) (Hz Y)).trans W) #[_,q] ?_;exact#[hz,its',_,U,q]
def Inv.lnew {J:vV_}{t':Nat}(I:Inv X pins σ H s) (L:Vals ys J) (hz:ys.length<=sizeLine) :
  Inv X pins σ (l8 H s.heap.objs.size (.lst ys)) { s with heap:=s.heap.push { cls:=.type "list",data:=.seq J.toArray },toks:=t' }:=
 I.laid (fun _ _ q=>xo _ q) (iR _) #[hz,J,0,L,HG _ rfl]
theorem Inv.fresh (I:Inv X pins σ H s):H s.heap.objs.size=none:=I.hok.fresh (iR _)
def Inv.lstM (I:Inv X pins σ H s) (J:H l=some (.lst xs)):xs.length<=sizeLine/\∃(its:vV_) (n:Nat),Vals xs its/\xs.length=its.length/\s.heap.get? l=some { cls:=.type "list",data:=.seq its.toArray n }:=by
 obtain⟨z,its,n,r,e⟩:=I.hok l _ J;exact#[z,its,n,r,r.length,e]
def FV (h:n<=sizeLine):Builtin.List.listTooLong n=false:=by
 unfold Builtin.List.listTooLong;exact iU ∅
end
def FX:V->List V->Hp->VK->Prop:=fun x J H Q=>∃l xs y,x = .ref l/\J=[y]/\H l=some (.lst xs)/\xs.length<sizeLine/\Q .non (l8 H l (.lst (xs++[y])))
def pG:AX X "list.append" FX:=by
 intro pins s σ H x Y v us Q I M W h;obtain⟨l,xs,y,rfl,rfl,L,Z,q⟩:=h;cases M;obtain⟨u,rfl,U⟩:=W.one;obtain⟨z,J,n,r,hl,e⟩:=I.lstM L;refine Ji F.slot_list_append #[_,e,rfl] F.entry_list_append (F.args_list_append_2 _ _) (PySem.list_append l J.toArray n u (by rw[HC];omega)) #[e,?_];refine#[.non,_,I.lset (its':=J++[u]) L e (by simp) (r.append (.cons U .nil)) ?_,rfl,q];rw[Iw,JY];omega
def jF:R2:=fun x y H Q=>∃l b xs zs,x = .ref l/\y = .ref b/\H l=some (.lst xs)/\H b=some (.lst zs)/\xs.length+zs.length<=sizeLine/\∀p,H p=none->Q (.ref p) (l8 H p (.lst (xs++zs)))
def aY:OpR X (binaryOp .Add) jF:=by
 intro pins s σ H x y v u Q I M ry h;obtain⟨l,b,xs,zs,rfl,rfl,hH,W,hz,q⟩:=h;cases M;cases ry;obtain⟨z,L,n,r,hl,e⟩:=I.lstM hH;obtain⟨z2,J,n2,Y,Z,e2⟩:=I.lstM W;refine PySem.P.add_list e e2 ?_ (by rw[HC,HC];omega);have U:L.toArray++J.toArray=(L++J).toArray:=by simp
 rw[U];exact#[.ref _,_,I.lnew (t':=s.toks) (r.append Y) (by rw[Iw];omega),rfl,q _ I.fresh]
def qm:R2:=fun x y H Q=>∃l k xs,x = .ref l/\y = .int k/\H l=some (.lst xs) /\ -(2 ^ 63)<=k/\k<2 ^ 63/\xs.length*k.toNat<=sizeLine /\
 ∀p,H p=none->Q (.ref p) (l8 H p (.lst (List.replicate k.toNat xs).flatten))
def wY {α:Type}(xs:List α) (k:Nat):(List.replicate k xs).flatten.length=k*xs.length:=by
 induction k with
 |zero=>simp
 |succ k J=>rw[IT,JB,Iw,J,Nat.succ_mul,JD]
def Gn:OpR X (binaryOp .Mult) qm:=by
 intro pins s σ H x y v u Q I rx ry h;obtain⟨l,k,xs,rfl,rfl,hH,h1,h2,hz,q⟩:=h;cases rx;obtain⟨t,rfl⟩:=ry;obtain⟨z,J,n,r,hl,e⟩:=I.lstM hH;have Y:J.toArray.size*k.toNat<=sizeLine:=by rw[HC,<-hl];exact hz
 have M:¬ J.toArray.size*k.toNat>(2 ^ 63 - 1) / 8:=by
  have:(sizeLine:Nat)<=(2 ^ 63 - 1) / 8:=by decide
  omega
 have Z:¬ (!Builtin.List.listFitsIndex k)=true:=by
  rw[fitsIndex_both h1 h2];exact Hx
 have L:¬ Builtin.List.listTooLong (J.toArray.size*k.toNat)=true:=by
  rw[FV Y];exact Hx
 have W:List.foldl (fun x1 x2=>x1++x2) #v[] (List.replicate (if J.toArray.isEmpty=true then 0 else k.toNat) J.toArray)=(List.replicate k.toNat J).flatten.toArray:=by
  have f0:∀m:Nat,List.foldl (fun x1 x2=>x1++x2) #v[] (List.replicate m J.toArray)=(List.replicate m J).flatten.toArray:=fun m=>by
   have:=qW J m [];rw[List.nil_append] at this;exact this
  rw[f0];cases J with
  |nil=>simp
  |cons a r'=>rw[gV (by simp)]
 refine wpAny_binaryOp_repeat_ref (T := "list") (U := "int") #[] #[_,e,rfl] (fun s'=>typeIs_int s' k t) noFill_list_mul F.fills_int_mul F.slot_int_rmul repeat_list F.slot_int_index.lookup
  (Ji F.slot_int_rmul (typeIs_int s k t) F.entry_int_rmul (F.args_int_rmul_2 _ _) (int___rmul___int_list k t l J.toArray n)
   #[e,rfl,#[_,e,rfl],Ji F.slot_list_mul #[_,e,rfl] F.entry_list_mul (F.args_list_mul_2 _ _) (AutoListH.list___mul___list_int_3 l J.toArray n k t Z M L) #[e,?_]])
 rw[W];exact#[.ref _,_,I.lnew (t':=s.toks) (r.rep k.toNat) (by rw[wY,KP];exact hz),rfl,q _ I.fresh]
section
variable {κ:Type}[DecidableEq κ]
def F5 (kvs:List (κ × V)) (k:κ):Option V:=(kvs.find? fun J=>decide (J.1=k)).map (·.2)
def B4 (kvs:List (κ × V)) (k:κ) (v:V):List (κ × V):=
 if (kvs.any fun J=>decide (J.1=k))=true then kvs.map (fun J=>if J.1=k then (J.1,v) else J) else kvs++[(k,v)]
def ir {k:κ}:F5 ([]:List (κ × V)) k=none:=rfl
def ax {p:κ × V}{r:List (κ × V)}{k:κ}(e:p.1=k):F5 (p::r) k=some p.2:=by simp[F5,Jj,e]
def K1 {p:κ × V}{r:List (κ × V)}{k:κ}(e:¬ p.1=k):F5 (p::r) k=F5 r k:=by simp[F5,Jj,e]
theorem gX (k:κ):∀kvs:List (κ × V),(kvs.any fun kv=>decide (kv.1=k))=(F5 kvs k).isSome
 |[]=>rfl
 |p::r=>by
  rw[KQ];by_cases e:p.1=k
  .simp only[ax e,xl e,Bool.true_or,Option.isSome_some]
  .rw[K1 e,iU e,Bool.false_or];exact gX k r
def lr (kvs:List (κ × V)) (k:κ) (v:V):(B4 kvs k v).length<=kvs.length+1:=by
 unfold B4;split
 .rw[Hr];omega
 .rw[Iw,Hv,JZ];omega
def eX {kvs:List (κ × V)}{k:κ}(v:V) (h:F5 kvs k=none):B4 kvs k v=kvs++[(k,v)]:=by
 unfold B4;rw[gX,h];exact gV #[]
def RelO.isSome_eq {o:Option V}{u:Option Value}(r:RelO o u):o.isSome=u.isSome:=by
 cases o with
 |none=>cases u with
  |none=>rfl
  |some _=>exact(show False from r).elim
 |some _=>cases u with
  |none=>exact(show False from r).elim
  |some _=>rfl
def KV.val {kvs:List (κ × V)}{J:List (κ × Value)}(r:KV kvs J) (k:κ):RelO (F5 kvs k) (valueAt J k):=by
 unfold KV at r;induction r with
 |nil=>exact True.intro
 |@cons p q ps qs h t ih=>
  obtain⟨h1,h2⟩:=h;by_cases e:p.1=k
  .have e':q.1=k:=h1.symm.trans e;have b:valueAt (q::qs) k=some q.2:=by simp[valueAt,Jj,e']
   rw[ax e,b];exact h2
  .have e':¬ q.1=k:=fun z=>e (h1.trans z)
   have b:valueAt (q::qs) k=valueAt qs k:=by simp[valueAt,Jj,e']
   rw[K1 e,b];exact ih
theorem KV.any {kvs:List (κ × V)}{J:List (κ × Value)}(r:KV kvs J) (k:κ):(kvs.any fun kv=>decide (kv.1=k))=J.any fun kv=>decide (kv.1=k):=by
 unfold KV at r;induction r with
 |nil=>rfl
 |cons h t L=>rw[KQ,KQ,L,h.1]
def KV.repl {kvs:List (κ × V)}{J:List (κ × Value)}(r:KV kvs J) (k:κ) (L:RelV y u) :
  KV (kvs.map fun kv=>if kv.1=k then (kv.1,y) else kv) (J.map fun kv=>if kv.1=k then (kv.1,u) else kv):=by
 unfold KV at r ⊢;induction r with
 |nil=>exact .nil
 |@cons p q ps qs h t ih=>
  rw[Hu,Hu];refine .cons ?_ ih;obtain⟨h1,h2⟩:=h;by_cases e:p.1=k
  .rw[fI e,fI (h1.symm.trans e)];exact#[h1,L]
  .rw[gV e,gV (fun z=>e (h1.trans z))];exact#[h1,h2]
def KV.put {kvs:List (κ × V)}{J:List (κ × Value)}(r:KV kvs J) (k:κ) (L:RelV y u):KV (B4 kvs k y) (stored J k u):=by
 unfold B4 stored;rw[r.any k];by_cases e:(J.any fun M=>decide (M.1=k))=true
 .rw[fI e,fI e];exact r.repl k L
 .rw[gV e,gV e];exact Paired.snoc r #[rfl,L]
theorem KV.length {kvs:List (κ × V)}{J:List (κ × Value)}(r:KV kvs J):kvs.length=J.length:=JQ r
end
def fG {w:World}{k:o6}(r:RelV (kV k) u):(G8 P w).is k u=true:=by
 cases k with
 |inl i=>obtain⟨t,e⟩:=(show ∃t,u=Value.int i t from r);subst e;exact wJ P w i t
 |inr x=>obtain⟨t,e⟩:=(show ∃t,u=Value.str x t from r);subst e;exact Fg P w x t
theorem tB {w:World}:∀{ks:List o6}{us:vV_},Vals (ks.map kV) us->ItemsAre (G8 P w) ks us
 |[],_,r=>by rw[Ij] at r;cases r;exact .nil
 |k::ks,_,r=>by
  rw[Hu] at r;cases r with
  |cons h t=>exact .cons (fG h) (tB t)
abbrev KT (H:Hp):List (List o6 × V)->List (List o6 × Addr × Value)->Prop:=Paired fun p q=>p.1=q.1/\H q.2.1=some (.tup (p.1.map kV))/\RelV p.2 q.2.2
def KT.val {xs:List (List o6 × Addr × Value)}(r:KT H kvs xs) (k:List o6):RelO (F5 kvs k) ((atKey xs k).map (·.2)):=by
 induction r with
 |nil=>exact True.intro
 |@cons p q ps qs h t ih=>
  obtain⟨h1,_,h2⟩:=h;by_cases e:p.1=k
  .have e':q.1=k:=h1.symm.trans e;have b:atKey (q::qs) k=some q.2:=by simp[atKey,Jj,e']
   rw[ax e,b];exact h2
  .have e':¬ q.1=k:=fun z=>e (h1.trans z)
   have b:atKey (q::qs) k=atKey qs k:=by simp[atKey,Jj,e']
   rw[K1 e,b];exact ih
def KT.repl {xs:List (List o6 × Addr × Value)}(r:KT H kvs xs) (k:List o6) (L:RelV y u) :
  KT H (kvs.map fun kv=>if kv.1=k then (kv.1,y) else kv) (xs.map (putAt k u)):=by
 induction r with
 |nil=>exact .nil
 |@cons p q ps qs h t ih=>
  rw[Hu,Hu];refine .cons ?_ ih;obtain⟨h1,h2,J⟩:=h;unfold putAt;by_cases e:p.1=k
  .rw[fI e,fI (h1.symm.trans e)];exact#[h1,h2,L]
  .rw[gV e,gV (fun z=>e (h1.trans z))];exact#[h1,h2,J]
def KT.put {xs:List (List o6 × Addr × Value)}(r:KT H kvs xs) (k:List o6) {b:Addr}(M:H b=some (.tup (k.map kV))) (J:RelV y u) :
  KT H (B4 kvs k y) (storedH xs k b u):=by
 have e:(kvs.any fun L=>decide (L.1=k))=(atKey xs k).isSome:=by
  rw[gX,(r.val k).isSome_eq,Option.isSome_map]
 unfold B4 storedH;rw[e];by_cases q:(atKey xs k).isSome=true
 .rw[fI q,fI q];exact r.repl k J
 .rw[gV q,gV q];exact Paired.snoc r #[rfl,M,J]
def KT.keeps {xs:List (List o6 × Addr × Value)}(r:KT H kvs xs) (J:∀b ys,H b=some (.tup ys)->H' b=some (.tup ys)):KT H' kvs xs:=
 Paired.mapP r fun _ _ z=>#[z.1,J _ _ z.2.1,z.2.2]
section
variable {P:Program}{w:World}{h:Heap}
def tS {u:HO}(ok:HOk P w H h) (e:Rd H a u):ObjOk P w H h a u:=e.ok ok
def iA {kvs:List (o6 × V)}(J:HOk P w H h) (e:Rd H a (.dK kvs)):kvs.length<=sizeLine/\(a == sysModules)=false/\∃vs,KV kvs vs/\h.DictOf (G8 P w) a vs:=
 show ObjOk P w H h a (.dK kvs) from tS J e
def lV {kvs:List (o6 × V)}(J:HOk P w H h) (e:H a=some (.dK kvs)):kvs.length<=sizeLine/\(a == sysModules)=false/\∃vs,KV kvs vs/\h.DictOf (G8 P w) a vs:=iA J (.inl e)
def kT {J:List o6}(M:HOk P w H h) (e:H a=some (.tup (J.map kV))):(tupleKind (G8 P w)).is h J a:=by
 obtain⟨_,L,r,o,h1,h2,n,U⟩:=(show ObjOk P w H h a (.tup (J.map kV)) from M a _ e)
 exact#[o,L.toArray,n,h1,h2,U,by simpa using tB r]
def ju (M:HOk P w H h) (e:Rd H a (.dT kvs)):kvs.length<=sizeLine/\(a == sysModules)=false /\
  ∃xs,KT H kvs xs/\h.DictOfH (tupleKind (G8 P w)) a xs:=by
 obtain⟨z,y,xs,r,o,es,Z,h1,h2,Y,W,U⟩:=(show ObjOk P w H h a (.dT kvs) from tS M e)
 refine#[z,y,xs,r,o,es,Z,h1,h2,Y,W,fun x J=>?_,U];have L:∀{l:List (List o6 × V)}{m:List (List o6 × Addr × Value)},KT H l m->∀x∈m,(tupleKind (G8 P w)).is h x.1 x.2.1:=by
  intro l m q;induction q with
  |nil=>intro x J;exact nomatch J
  |@cons p q ps qs hq t ih=>
   intro x J;rcases xr.mp J with e | J
   .subst e;exact kT M (by rw[<-hq.1];exact hq.2.1)
   .exact ih x J
 exact L r x J
def Aa (J:HOk P w H h) (e:H a=some (.dT kvs)):kvs.length<=sizeLine/\(a == sysModules)=false /\
  ∃xs,KT H kvs xs/\h.DictOfH (tupleKind (G8 P w)) a xs:=ju J (.inl e)
end
def DGet (H:Hp) (a:Addr) (y:V) (r:Option V):Prop:=
 (∃kvs k,Rd H a (.dK kvs)/\y=kV k/\r=F5 kvs k)\/∃kvs k b,Rd H a (.dT kvs)/\y = .ref b/\H b=some (.tup (k.map kV))/\r=F5 kvs k
def DPut (H:Hp) (a:Addr) (y v:V) (H':Hp):Prop:=
 (∃kvs k,H a=some (.dK kvs)/\y=kV k/\kvs.length<sizeLine/\H'=l8 H a (.dK (B4 kvs k v))) \/
 ∃kvs k b,H a=some (.dT kvs)/\y = .ref b/\H b=some (.tup (k.map kV))/\kvs.length<sizeLine/\H'=l8 H a (.dT (B4 kvs k v))
theorem DGet.k {kvs:List (o6 × V)}{k:o6}(e:H a=some (.dK kvs)):DGet H a (kV k) (F5 kvs k):=.inl #[kvs,k,.inl e,rfl,rfl]
theorem DPut.k {kvs:List (o6 × V)}{k:o6}{v:V}(e:H a=some (.dK kvs)) (hl:kvs.length<sizeLine):DPut H a (kV k) v (l8 H a (.dK (B4 kvs k v))):=.inl #[kvs,k,e,rfl,hl,rfl]
section
variable {v:V}{r:Value}{o:Option V}
def Inv.big (I:Inv X pins σ H s):sysModules<s.heap.objs.size:=by
 have h:mainGlobals<s.heap.objs.size:=(I.mod.glob.keeps I.bk).lt;exact Nat.lt_trans #[] h
def Gx (hu:A.units+1<cLine) (I:Inv X pins σ H s) (g:DGet H a y (some v)) (Z:RelV y u) (h:∀w' s',Inv X pins σ H s'->RelV v w'->Q w' s') :
  wpAny (model X.prog X.w) A (getItem (.ref a) u) Q E s:=by
 rcases g with ⟨kvs,k,e,M,l⟩ | ⟨kvs,k,b,e,M,eb,l⟩
 .subst M;obtain⟨z,hd,vs,L,U⟩:=iA I.hok e;obtain⟨w',W,J⟩:=RelO.some_of (v:=v) (o:=valueAt vs k) (by rw[l];exact L.val k);exact wpAny_getItem_of (fG Z) U.mapOf W (h w' _ (I.tok _) J)
 .subst M;cases (show u=Value.ref b from Z);obtain⟨z,hd,xs,L,U⟩:=ju I.hok e;obtain⟨w',W,J⟩:=RelO.some_of (v:=v) (o:=(atKey xs k).map (·.2)) (by rw[l];exact L.val k);obtain⟨p,hp,Y⟩:=Ip.mp W;refine wpAny_getItem_heap (tupleKind_room_in1 hu) (kT I.hok eb) U hp ?_;rw[Y];exact h w' _ (I.tok _) J
def kB {t':Nat}(I:Inv X pins σ H s) (W:cI (H a)) (L:Heap.SameBut a s.heap h') (U:∃q,h'.get? a=some q) (J:ObjOk X.prog X.w (l8 H a ob) h' a ob) :
  Inv X pins σ (l8 H a ob) { s with heap:=h',toks:=t' }:=
 I.write (x:=a) (e:=a) W (.inl rfl) (fun b q M z=>(L.2 b M).trans z) U J
def qq {w:World}{kvs:List (o6 × V)}(z:kvs.length<=sizeLine) (L:(a == sysModules)=false) (J:KV kvs vs) (dd:h'.DictOf (G8 P w) a vs) :
  ObjOk P w H' h' a (.dK kvs):=#[z,L,vs,J,dd]
def AS {Q:Unit->Shared->Prop}(hu:A.units+1<cLine) (I:Inv X pins σ H s) (g:DPut H a y v H') (ry:RelV y u) (rv:RelV v r) (h:∀s',Inv X pins σ H' s'->Q () s') :
  wpAny (model X.prog X.w) A (setItem (.ref a) u r) Q E s:=by
 rcases g with ⟨kvs,k,e,W,l,eH⟩ | ⟨kvs,k,b,e,W,eb,l,eH⟩
 .subst W eH;obtain⟨z,hd,vs,J,Y⟩:=lV I.hok e;have Z:vs.length<=sizeLine:=by rw[<-J.length];exact z
  have hl:(B4 kvs k v).length<=sizeLine:=by have:=lr kvs k v;omega
  refine wpAny_setItem_pairs (hsz:=Z) (fG ry) Y fun h' L U=>h _ ?_
  have he:∃q,h'.get? a=some q:=let ⟨q,_,_,M,_⟩:=L;#[q,M]
  exact kB I (by rw[e];exact True.intro) U he (qq hl hd (J.put k rv) L)
 .subst W eH;cases (show u=Value.ref b from ry);obtain⟨z,hd,xs,J,Y⟩:=Aa I.hok e;have Z:xs.length<=sizeLine:=by rw[<-JQ J];exact z
  have hl:(B4 kvs k v).length<=sizeLine:=by have:=lr kvs k v;omega
  refine wpAny_setItem_heap (hsz:=Z) (tupleKind_room_in1 hu) (kT I.hok eb) Y fun h' L U=>h _ ?_
  obtain⟨q,es,ep,M,h2,h3,h4,_,h5⟩:=L;refine kB I (by rw[e];exact True.intro) U #[q,M] #[hl,hd,_,(J.put k eb rv).keeps fun c ys ec=>?_,q,es,ep,M,h2,h3,h4,h5];rw[v5 (zM ec e (fun z=>nomatch z))];exact ec
end
def qi (i:Expr):Prop:=∀ov iv,subscripted i false ov iv=operate [ov,iv] (getItem ov iv)
def zt {w:World}{T id:String}
  (hl:typeLookup (.type T) "__getitem__" = pure (some (.builtin id))) (Z:qi slice)
  (h:wpAny (model prog w) A (eval value env) (fun o s₁=>wpAny (model prog w) A (eval slice env) (fun i s₂=>s₂.TypeIs o T/\wpAny (model prog w) A (getItem o i) Q E s₂) E s₁) E s) :
  wpAny (model prog w) A (eval (.Subscript value slice pos) env) Q E s:=by
 refine Subscript_ (HF h (fun o s₁ W=>HF W (fun i s₂ L=>?_) fun _ _ x=>x) fun _ _ x=>x);obtain⟨U,L⟩:=L;unfold subscriptTail;refine fx ?_;rw[getitemInPython_of_ne U.not_modules];refine fx (KR U hl ?_);have J:wpAny (model prog w) A (subscripted slice false o i) (fun r M=>wpAny (model prog w) A (letTemporaryGo value o r >>= fun _=>pure r) Q E M) E s₂:=by
  rw[Z o i];exact wpAny_operating (HF L (fun r M Y=>fx (wpAny_letTemporaryGo (iO Y))) fun _ _ x=>x)
 first
  | exact iO (fx J)
  | exact fx (iO (fx J))
  | exact fx J
def vD {o:Option V}(I:Inv X pins σ H s) (g:DGet H a y o):s.TypeIs (.ref a) "dict":= by
 rcases g with ⟨kvs,k,e,_,_⟩ | ⟨kvs,k,b,e,_,_,_⟩
 .obtain⟨_,_,L,_,J⟩:=iA I.hok e;exact J.typeIs
 .obtain⟨_,_,xs,_,J⟩:=ju I.hok e;exact J.typeIs
def Bo (td ty:TE):TE:=fun σ H Q=>td σ H fun x H1=>ty σ H1 fun y H2=>∃a v,x = .ref a/\DGet H2 a y (some v)/\Q v H2
def DN (td ty tv:TE):TS:=fun D σ H=>tv σ H fun v H1=>td σ H1 fun x H2=>ty σ H2 fun y J=>∃a H4,x = .ref a/\DPut J a y v H4/\D.nx σ H4
section
variable {o i value:Expr}{tpos:Pos}{td ty tv:TE}
def Ao (hu:X.A.units+1<cLine) (ho:PE X o td) (hi:PE X i ty) (U:qi i):PE X (.Subscript o i pos) (Bo td ty):=by
 intro pins s σ H Q I h;refine zt PySem.F.slot_dict_getitem.lookup U (t9 (ho pins s σ H _ I h) fun u s1 ⟨x,H1,I1,M,Z⟩=>t9 (hi pins s1 σ H1 _ I1 Z) fun iv s2 ⟨y,H2,L,ry,a,v,ex,g,W⟩=>?_);subst ex;obtain rfl:u=Value.ref a:=M;exact#[vD L g,Gx hu L g ry fun w' s3 Y J=>#[v,H2,Y,J,W]]
def BW (hu:X.A.units+1<cLine) (ho:PE X o td) (hi:PE X i ty) (hv:PE X value tv) (hs:swapsWith value (some (.Subscript o i pos')) pos.line X.env=pure false) :
  PS X (.Assign [.Subscript o i pos'] value pos) (DN td ty tv):=by
 intro pins s σ H D I h;refine wpAny_Assign_Subscript (t9 (hv pins s σ H _ I h) fun r s1 ⟨v,H1,L,U,q1⟩=>t9 (ho pins s1 σ H1 _ L q1) fun u s2 ⟨x,H2,I2,rx,J⟩=>t9 (hi pins s2 σ H2 _ I2 J) fun iv s3 ⟨y,H3,W,Z,a,Y,ex,g,q3⟩=>?_) hs;subst ex;obtain rfl:u=Value.ref a:=rx;exact AS hu W g Z U fun s4 M=>#[σ,Y,M,q3]
end
def Bn {w:World}(h:Heap) (J:sysModules<h.objs.size):ObjOk P w H (h.push { cls:=.type "dict",data:=.dict #v[] }) h.objs.size (.dK []):=
 #[HV _,beq_eq_false_iff_ne.mpr (Hz (HE J)),[],.nil,Heap.DictOf.new h]
def iK:List (TE × TE)->St->Hp->(List (V × V)->Hp->Prop)->Prop
 |[],_,H,Q=>Q [] H
 |(tk,tv)::r,σ,H,Q=>tk σ H fun x H1=>tv σ H1 fun y H2=>iK r σ H2 fun ps J=>Q ((x,y)::ps) J
abbrev VV:List (V × V)->List (Value × Value)->Prop:=Paired fun p q=>RelV p.1 q.1/\RelV p.2 q.2
def fY (X:Cx) (pos:Pos) (L:List (Option Expr)) (J:List Expr) (trs:List (TE × TE)):Prop:=
 ∀(pins:vP_) (s:Shared) (σ:St) (H:Hp) (Q:List (V × V)->Hp->Prop),Inv X pins σ H s->iK trs σ H Q ->
  wpAny (model X.prog X.w) X.A (evalPairs (pairTrees L J X.env pos)) (fun M s'=>∃ps H',Inv X pins σ H' s'/\VV ps M/\Q ps H') X.xe s
def Cm :fY X pos [] [] []:=fun pins s σ H Q I h=>pairTrees_nil_walk #[[],H,I,.nil,h]
def fO {k v:Expr}(M:PE X k tk) (U:PE X v tv) (hr:fY X pos ks vs trs) :
  fY X pos (some k::ks) (v::vs) ((tk,tv)::trs):=fun pins s σ H Q I h=>
 pairTrees_cons_walk (t9 (M pins s σ H _ I h) fun u s1 ⟨x,H1,I1,L,q1⟩=>t9 (U pins s1 σ H1 _ I1 q1) fun w2 s2 ⟨y,H2,I2,ry,Y⟩=>
  t9 (hr pins s2 σ H2 _ I2 Y) fun ws s3 ⟨ps,W,Z,J,q3⟩=>#[(x,y)::ps,W,Z,.cons #[L,ry] J,q3])
def aK (kvs J:List (o6 × V)):List (o6 × V):=J.foldl (fun L M=>B4 L M.1 M.2) kvs
def KV.merge:∀{more:List (o6 × V)}{rs:List (o6 × Value)}{kvs:List (o6 × V)}{vs:List (o6 × Value)},KV more rs->KV kvs vs->KV (aK kvs more) (merged vs rs):=by
 intro more rs kvs vs r;unfold KV at r;induction r generalizing kvs vs with
 |nil=>intro q;exact q
 |@cons p q ps qs h t ih=>
  intro J;have e:KV (B4 kvs p.1 p.2) (stored vs q.1 q.2):=by
   have:=J.put p.1 h.2;rw[<-h.1];exact this
  exact ih e
theorem qM:∀(more kvs:List (o6 × V)),(aK kvs more).length<=kvs.length+more.length
 |[],kvs=>by show kvs.length<=kvs.length+0;omega
 |p::r,kvs=>by
  have h1:=qM r (B4 kvs p.1 p.2);have h2:=lr kvs p.1 p.2;show (aK (B4 kvs p.1 p.2) r).length<=_;rw[Hv];omega
theorem pE {w:World}:∀{kvs:List (o6 × V)}{ws:List (Value × Value)},VV (kvs.map fun kv=>(kV kv.1,kv.2)) ws->∃rs,Carries (G8 P w) ws rs/\KV kvs rs
 |[],_,r=>by rw[Ij] at r;cases r;exact#[[],True.intro,.nil]
 |p::kvs,_,r=>by
  rw[Hu] at r;cases r with
  |@cons a b as bs h t=>
   obtain⟨rs,c,q⟩:=pE (P:=P) (w:=w) t;obtain⟨L,J⟩:=b;exact#[(p.1,J)::rs,#[fG h.1,rfl,c],.cons #[rfl,h.2] q]
def Ag (trs:List (TE × TE)):TE:=fun σ H Q=>∀p,H p=none->iK trs σ (l8 H p (.dK [])) fun ps H2=>H2 p=some (.dK [])/\∃kvs:List (o6 × V),ps=kvs.map (fun J=>(kV J.1,J.2))/\kvs.length<=15/\Q (.ref p) (l8 H2 p (.dK (aK [] kvs)))
def vc {J:List (Option Expr)}{L:List Expr}(h:fY X pos J L trs) (U:J.all (·.isSome)=true) (hl:J.length=L.length) (h0:J≠[])
  (W:J.length<=15):PE X (.Dict J L pos) (Ag trs):=by
 intro pins s σ H Q I q;have hn:=I.hok.fresh (iR s.heap.objs.size);have I1:=I.laid (a:=s.heap.objs.size) (o:=.dK []) (h':=s.heap.push { cls:=.type "dict",data:=.dict #v[] }) (t':=s.toks) (fun _ _ q=>xo _ q) (iR _) (Bn s.heap I.big);refine wpAny_Dict_walk (knd:=G8 X.prog X.w) U hl h0 W (t9 (h pins _ σ _ _ I1 (q _ hn)) fun ws s2 ⟨ps,H2,Z,Y,e,kvs,ep,lk,q2⟩=>?_);subst ep;obtain⟨rs,c,rk⟩:=pE (P:=X.prog) (w:=X.w) Y;obtain⟨z,hd,vs0,r0,dd⟩:=lV Z.hok e;cases r0;refine#[rs,c,dd,fun h' M hs=>#[.ref s.heap.objs.size,_,?_,rfl,q2]];have hz:(aK [] kvs).length<=sizeLine:=by
  have h1:=qM kvs [];rw[JZ] at h1;rw[Ih];omega
 have he:∃q,h'.get? s.heap.objs.size=some q:=let ⟨q,_,_,hq,_⟩:=M;#[q,hq]
 exact kB Z (by rw[e];exact True.intro) hs he (qq hz hd (rk.merge .nil) M)
end L2
namespace Att
open PySem PySem.W PySem.Calls PyProof.Rows
def zL :∀(ns:List Int) (vs:vV_),WellAll P h vs (ns.map WData.int)->IntsAre vs ns:=by
 intro ns;induction ns with
 |nil=>
  intro vs w;rw[Ij] at w;cases w;exact .nil
 |cons n ns J=>
  intro vs w;rw[Hu] at w;cases w with
  |cons a b=>
   cases a;exact .cons _ _ (J _ b)
def CY {l:OpenLaw}(hn:l.most=some n) {h:Heap}{L:vV_}
  (J:l.row.toRowW.claim.pre args=true) (hwl:WellAll P h L args) :
  ∃a vs ns,L=[Value.ref a]/\args=[WData.list (ns.map WData.int)]/\h.get? a=some { cls:=.type "list",data:=.seq vs.toArray }/\IntsAre vs ns/\ns.length<=n:=by
 have Z:WShape.hasAll [] args [.list .int]=true:=(pre_splitW J).1;have hc:l.pre.holds [] { args:=args }=true:=(pre_splitW J).2;obtain⟨d,r,rfl,h1,h2⟩:=hasAllW_cons Z;obtain rfl:=hasAllW_nil h2;obtain⟨xs,rfl,h3⟩:=hasW_list h1;obtain⟨ns,rfl⟩:=items_int h3;have U:ns.length<=n:=by
  unfold OpenLaw.pre at hc;have Y:(WTm.not (.lt (.lit (.int (n:Int))) (.len (.arg 0)))).holds [] { args:=[.list (ns.map .int)] }=true:=by
   have Y:=(holds_andW hc).1;rw[hn] at Y;exact Y
  have W:=condW_of Y (w_not (w_lt w_lit (w_len_list (w_arg rfl))));rw[Hr] at W;refine Ka fun q=>?_
  have q':(n:Int)<((ns.length:Nat):Int):=by omega
  first
   | (rw[xl q'] at W;exact absurd W #[])
   | (simp at W;omega)
 cases hwl with
 |cons w1 w2=>
  cases w2;cases w1 with
  |list ho M=>exact#[_,_,ns,rfl,rfl,ho,zL ns _ M,U]
def Ah (l:OpenLaw) (args:List WData):l.row.toRowW.claim.post args (.bool true) args=true:=
 postW_of (r:=l.row.toRowW) (X:=(true == true))
  (show WShape.has [] (.bool true) .bool=true by first | rfl | decide | simp[WShape.has,WShape.arms,WShape.armsAll])
  (show (WTm.eq .res (.lit (.bool true))).value [] { args:=args,res:=some (.bool true),after:=args }=some (.bool (true == true)) from w_eq_bool (w_res rfl) w_lit) rfl
def attach_call {l:OpenLaw}{n:Nat}{q:Program}{loose:List Str}{XP:(Str->Option Value)->Heap->Prop}{YP:World->Heap->Prop}{d:DefRec}
  (hn:l.most=some n) (hdf:d.params.defaults=[])
  (call:∀(w:World) (s₀ s₁:Shared) (mg mb:vG_) (fa:Addr) (o:Obj) (pm cd doc:Value) (a:Addr) (vs:vV_) (ns:List Int),
   Ground q loose [] XP w s₀ mg mb s₁.heap->YP w s₁.heap ->
   s₁.heap.get? fa=some o->o.data = .func (docDef d.name d.params d.body d.scope pm cd doc)->s₁.heap.CodeRec cd d.name->mg d.name=some (.ref fa) ->
   s₁.heap.get? a=some { cls:=.type "list",data:=.seq vs.toArray }->IntsAre vs ns->ns.length<=n->s₁.gens = #v[] ->
   codeAny (model l.prog w) callerA (.call (.ref fa) #[[.ref a],[]]) (fun r s'=>r = .ok (.ret (.bool true))/\OldK s₁.heap s'.heap/\s'.os=s₁.os/\AllBare s'.gens) s₁) :
  WalkO q loose XP YP l.row.toRowW d [] (fun f vs=>PySem.call f vs):=by
 intro w s₀ s₁ mg mb G Y fa o pm cd doc dV kV ho hd Z hD W hg args vals as L hlay hrd hwl hlo;obtain rfl:dV = .none:=Dflts.none hD hdf;obtain rfl:kV = .none:=Dflts.noKw hD;obtain⟨a,vs,ns,rfl,rfl,U,J,M⟩:=CY hn L hwl;refine enter_call (codeAny_mono (call w s₀ s₁ mg mb fa o pm cd doc a vs ns G Y ho (fd_plain hd) Z W U J M hg) fun r s' hq=>?_);obtain⟨rfl,h2,h3,h4⟩:=hq;exact#[.inl #[.bool true,.bool true,[],rfl,fun _=>rfl,.bool true,Ah l _,fun _=>#[List.Pairwise.nil,fun _ hm=>(nomatch hm)]],h2,h3,h4]
end Att
namespace L2
open PySem PySem.Spec PyProof.Rows
theorem pW:∀{vs:vV_}{ns:List Int},IntsAre vs ns->Vals (ns.map V.int) vs
 |_,_,.nil=>.nil
 |_,_,.cons n t h=>.cons #[t,rfl] (pW h)
def kK (H:Hp):Prop:=∀b,H b=none\/∃o xs,H b=some (.frz o (.lst xs))
def AM {w:World}{K:vF_}{mg mb:vG_}{CX:O6}{k:Nat}{fa a:Addr}{fd:FuncData}{x:Str}{sp:Sp}{J:Shared}{Y:vV_}{ns:List Int}
  (KX:K.In J.heap) (hns:J.heap.Ns mainGlobals mg) (M:J.heap.Ns builtinsNs mb) (hbb:∀x:Str,x ≠ "__name__" -> mb x=bootBuiltins x) (hlim:J.heap.NoLimit) (hg:J.gens = #v[])
  (ha:J.heap.get? a=some { cls:=.type "list",data:=.seq Y.toArray }) (hi:IntsAre Y ns) (hl:ns.length<=sizeLine) (hr:Room k callerA)
  (F:∀base:Heap,K.In base->base.Ns mainGlobals mg->FnOk P w K mg base CX k fa fd [x] sp) (Z:∀(s:Shared) (u:Value),BindsTo s fd #[[u],[]] [(x,u)])
  (hsp:∀H:Hp,kK H->SqL K H a (ns.map V.int)->sp [.ref a] H (fun v _=>v = .bl true) fun _ _ _=>False)
  (hCX:∀H e s',CX [] H J (fun _ _ _=>False) e s'->False) :
  codeAny (model P w) callerA (.call (.ref fa) #[[.ref a],[]]) (fun r s'=>r = .ok (.ret (.bool true))/\OldK J.heap s'.heap/\s'.os=J.os/\AllBare s'.gens) J:=by
 have rv:=pW hi;have lenV:=hi.length;have W:∀H:Hp,kK H->SqL K H a (ns.map V.int)->HOk P w H J.heap->(∀b,H b≠none->b=a)->(H a≠none->K.lookup a=none) ->
   codeAny (model P w) callerA (.call (.ref fa) #[[.ref a],[]]) (fun r s'=>r = .ok (.ret (.bool true))/\OldK J.heap s'.heap/\s'.os=J.os/\AllBare s'.gens) J:=by
  intro H hO hS hok hA hK;have L:∀{b:Addr}{o:Obj},J.heap.get? b=some o->H b=none->(S5 J.heap H).get? b=some o:=fun e n=>BP e n
  have noA:∀{b:Addr}{o:Obj}{es:Array DictEntry}{ep:Nat},J.heap.get? b=some o->o.data = .dict es ep->H b=none:=fun {b o es ep} e d=>by
   cases q:H b with
   |none=>rfl
   |some u=>
    have e':b=a:=hA b (by rw[q];simp);subst e';rw[ha] at e;cases e;have d':Data.seq Y.toArray _=Data.dict es ep:=d;cases d'
  have U:∀{b:Addr}{m:vG_},J.heap.Ns b m->(S5 J.heap H).Ns b m:=fun {b m} ⟨o,es,ep,e,d,r⟩=>#[o,es,ep,L e (noA e d),d,r]
  have hKb:K.In (S5 J.heap H):=fun b o e=>L (KX b o e) (by
   cases q:H b with
   |none=>rfl
   |some u=>
    have e':b=a:=hA b (by rw[q];simp);subst e';rw[hK (by rw[q];simp)] at e;cases e)
  have hM:Mod K mg (S5 J.heap H):=#[hKb,U hns,#[mb,U M,hbb],let ⟨mc,h1,h2⟩:=hlim;#[mc,U h1,h2]]
  have e0:Env0 P w K mg (S5 J.heap H) callerA [] J H:=#[rfl,hM,fun b o e=>Di e,Kb (Ei _ _),trivial,fun b M=>absurd (show b∈([]:vL_) from M) (by simp),hok,.of_eq hg]
  refine codeAny_mono ((F _ hKb (U hns)).run callerA [] J H #[[.ref a],[]] [.ref a] [.ref a] _ _ hr e0 (Z J (.ref a)) (.cons rfl .nil) (hsp H hO hS)) fun r s' h=>?_
  cases r with
  |error e=>exact(hCX H e s' h).elim
  |ok fl=>
   cases fl with
   |next=>exact False.elim h
   |brk=>exact False.elim h
   |cont=>exact False.elim h
   |ret u=>
    obtain⟨v,H',os,bare,un,hok',r',q⟩:=h;have q':v = .bl true:=q;subst q';obtain rfl:u=Value.bool true:=r';refine#[rfl,OldK.of_keep fun b o e=>?_,os,bare];cases q:H b with
    |none=>exact un.keep b o e q (by intro z;exact absurd (show b∈([]:vL_) from z) (by simp)) (by simp)
    |some u=>
     rcases hO b with z | ⟨ob,xs,z⟩
     .rw[q] at z;cases z
     .have z2:=un.frzs b ob _ z;obtain⟨e1,_⟩:=hok b _ z;obtain⟨e2,_⟩:=hok' b _ z2;rw[e] at e1;cases e1;exact e2
 cases hk:K.lookup a with
 |some o=>
  have e:=KX a o hk;rw[ha] at e;cases e;refine W (fun _=>none) (fun _=>.inl rfl) (.inr #[_,Y.toArray,_,hk,rfl,rfl,rfl,by rw[HC,lenV];exact hl,by simpa using rv]) (fun b u z=>by have z':(none:Option HO)=some u:=z;cases z') (fun b z=>absurd rfl z) fun z=>absurd rfl z
 |none=>
  refine W (fun b=>if b=a then some (.frz { cls:=.type "list",data:=.seq Y.toArray } (.lst (ns.map V.int))) else none) (fun b=>?_) (.inl (.inr #[{ cls:=.type "list",data:=.seq Y.toArray },fI rfl])) (fun b u z=>?_) (fun b z=>?_) fun _=>hk
  .by_cases M:b=a
   .exact .inr #[_,_,fI M]
   .exact .inl (gV M)
  .by_cases M:b=a
   .have z':=(fI M).symm.trans z;cases z';subst M;exact#[ha,by rw[Hr];exact hl,Y,_,rv,ha]
   .have z':=(gV M).symm.trans z;cases z'
  .by_cases M:b=a
   .exact M
   .exact absurd (gV M) z
def walk_of {l:PySem.W.OpenLaw}{k:Nat}{q:Program}{d:DefRec}{K:Params->PySem.W.Frag}{CX:World->O6}{sp:World->Sp}
  (hn:l.most=some n) (Z:n<=sizeLine) (hdf:d.params.defaults=[]) (hr:Room k callerA)
  (hY:∀(w:World) (h:Heap),YP w h->(K w.params).In h)
  (F:∀(w:World) (mg:vG_) (fa:Addr) (h:Heap),(K w.params).In h->h.Ns mainGlobals mg->mg d.name=some (.ref fa) ->
   ∃fd:FuncData,(∀(s:Shared) (u:Value),BindsTo s fd #[[u],[]] [(x,u)]) /\
    ∀base:Heap,(K w.params).In base->base.Ns mainGlobals mg->FnOk l.prog w (K w.params) mg base (CX w) k fa fd [x] (sp w))
  (hsp:∀(w:World) (H:Hp) (a:Addr) (ns:List Int),ns.length<=n->kK H->SqL (K w.params) H a (ns.map V.int)->sp w [.ref a] H (fun v _=>v = .bl true) fun _ _ _=>False)
  (hCX:∀(w:World) (H:Hp) (s:Shared) (e:Value) (s':Shared),CX w [] H s (fun _ _ _=>False) e s'->False) :
  PySem.W.WalkO q loose XP YP l.row.toRowW d [] (fun f vs=>PySem.call f vs):=by
 refine Att.attach_call hn hdf fun w s₀ s₁ mg mb fa o pm cd doc a vs ns G Y ho hd hcd U M L J hg=>?_
 have KX:=hY w _ Y;obtain⟨fd,hb,hF⟩:=F w mg fa _ KX G.T.g U;exact AM KX G.T.g G.T.b G.T.builtins G.T.nolimit hg M L (Ht J Z) hr hF hb (fun H hO hS=>hsp w H a ns J hO hS) fun H e s'=>hCX w H s₁ e s'
def S7 (s:Stmt):Arguments:=match s with
 |.FunctionDef _ a _ _ _ _ _ _ _ _=>a
 |_=>{ posonlyargs:=[],args:=[],vararg:=none,kwonlyargs:=[],kw_defaults:=[],kwarg:=none,defaults:=[] }
def K9 (s:Stmt):List Stmt:=match s with
 |.FunctionDef _ _ b _ _ _ _ _ _ _=>b
 |_=>[]
def C9 (s:Stmt):Scope:=match s with
 |.FunctionDef _ _ _ _ _ _ sc _ _ _=>sc
 |_=>{ kind:=.function,names:=[],isGenerator:=false,isCoroutine:=false }
abbrev O8:O6:=fun _ _ _ _ _ _=>False
abbrev E0:XK:=fun _ _ _=>False
def Ck :iJ O8 X E0:=fun _ _ _ _ _ _ _ h=>h.elim
structure Fun (K:vF_) (x qual:Str) (st:Stmt) (f:Addr) (fd:FuncData):Prop where
 ex:∃(oc:Value) (od:vA_) (kV doc pm:Value) (an:vA_) (cdv ct:Value) (osl:vS_),
  fd=PySem.W.fnOf x qual (S7 st) (K9 st) (C9 st) .none kV doc pm an cdv ct/\K.lookup f=some #[oc,od,.func fd,osl]/\PySem.W.codeIn K cdv qual=true
 kp:PySem.W.keepIn K (.ref f)=true
section
variable {P:Program}{w:World}{K:vF_}
def Fun.ok {x qual:Str}{st:Stmt}{fd:FuncData}{N ps:List Str}{k:Nat}{sp:Sp}(F:Fun K x qual st f fd) (S:FnScope N ps (C9 st)) (U:∀vs H Q E,sp vs H Q E->vs.length=ps.length)
  (J:∀(cdv:Value) (A:Around) (outer:List Env) (s:Shared) (H:Hp) (vs:List V) (Q:VK) (E:XK),Room k (A.deeper (envOfC qual (C9 st) s.heap.objs.size f cdv))->sp vs H Q E ->
   ∃t,PSs (Q4 O8 P w K mg base N qual (C9 st) f cdv A outer s H E).nox (K9 st) t/\t { nx:=fun _ H'=>Q .non H',rt:=Q } (start N vs) H):FnOk P w K mg base O8 (k+1) f fd ps sp:=by
 obtain⟨oc,od,kV,Z,pm,an,cdv,ct,osl,rfl,W,M⟩:=F.ex;refine zk W M S U fun A outer s H vs Q E Y L=>?_
 obtain⟨t,h,q⟩:=J cdv A outer s H vs Q E Y L;exact#[t,h.nox,q]
def Fun.binds {st:Stmt}{ps:List Str}(F:Fun K x qual st f fd)
  (h:∀(kV doc pm:Value) (an:vA_) (cdv ct:Value) (us:vV_),us.length=ps.length->bindArgs (PySem.W.fnOf x qual (S7 st) (K9 st) (C9 st) .none kV doc pm an cdv ct) #[us,[]]=pure (ps.zip us)):Binds K fd ps []:=by
 obtain⟨U,L,kV,doc,pm,an,cdv,ct,osl,rfl,M,J⟩:=F.ex;exact .all (h kV doc pm an cdv ct)
def wB {st:Stmt}{od Z:vA_}{M L Y J U:Value}(l:K.lookup f=some #[oc,od,.func (PySem.W.fnOf x qual (S7 st) (K9 st) (C9 st) .none M L Y Z J U),osl])
  (c:PySem.W.codeIn K J qual=true) (k:PySem.W.keepIn K (.ref f)=true):Fun K x qual st f (PySem.W.fnOf x qual (S7 st) (K9 st) (C9 st) .none M L Y Z J U):=#[#[oc,od,M,L,Y,Z,J,U,osl,rfl,l,c],k]
end
def mR {k:Nat}(J:Room k A):A.units+1<cLine:=Ie (Nat.add_le_add_left (by decide:1<=64) _) J.units
def pv (i:Nat) {x:Str}{pos:Pos}(U:X.N[i]? = some x:=by rfl) (M:jU X.env.scope x:=by first | exact Or.inl rfl | exact Or.inr (Or.inl rfl) | exact Or.inr (Or.inr rfl)) (L:(x == ("__debug__" : Str))=false:=by decide)
  (J:(x == ("__classdict__" : Str))=false:=by decide):PE X (.Name x pos) (X3 i):=yv U M L J
def Gu {A B:Prop}(h:B):if false=true then A else B:=by
 rw[gV Hx];exact h
def xK {A B:Prop}(h:A):if true=true then A else B:=by
 rw[fI rfl];exact h
def A6 (X:Cx) (N':List Str) (scope:Scope) (cl:List (Str × Addr)) (C:Addr) (J:Shared) (H0:Hp) (ex:vL_):Cx:=
 { X with N:=N',env:=compEnvC scope cl C X.env,s₀:=J,H₀:=H0,outer:=X.stack,stack:=X.stack,ex:=ex,fn:=fun _=>false,pn:=[],xe:=fun _ _=>False }
def bJ (X:Cx) (ifs:List Expr) (t:TT):Prop:=
 ∀(pins:vP_) (s:Shared) (σ:St) (H:Hp) (Q:Bool->Hp->Prop),Inv X pins σ H s->t σ H Q ->
  wpAny (model X.prog X.w) X.A (forIn ifs true fun c r=>if r=true then do let ok <-isTrue c X.env (eval c X.env);pure (ForInStep.yield ok) else pure (ForInStep.yield r)) (TP X pins σ Q) X.xe s
def Er:TT:=fun _ H Q=>Q true H
def vF :bJ X [] Er:=fun pins s σ H Q I h=>wpAny_tests_nil #[H,I,h]
def D8 (n:Nat) (idx:List Nat) (σ:St):St:=List.replicate n none++idx.map fun i=>(σ[i]?).join
def aX (n:Nat) (idx:List Nat) (wi:TI) (g:TG) (tc:TT) (te:TE):TE:=fun σ H Q=>wi σ H fun J H1=>∀D,H1 D=none ->
 ∃W:Nat->Nat->Hp->Prop,(∃m,W 0 m (l8 H1 D (.lst [])))/\∀i m H,W i m H ->
  (J.stop i H/\Q (.ref D) H)\/(J.go i H/\∀x H',J.yld i H x H'->g x (D8 n idx σ) H' fun σ2 H2=>(σ2.length=(D8 n idx σ).length/\∀(j:Nat) (v:V),(D8 n idx σ)[j]? = some (some v)->σ2[j]? = some (some v))/\tc σ2 H2 fun b M=>
   if b=true then te σ2 M fun v L=>∃ys,L D=some (.lst ys)/\ys.length<sizeLine/\∃m',m'<m/\W (i+1) m' (l8 L D (.lst (ys++[v]))) else ∃m',m'<m/\W (i+1) m' M)
structure CompOk (X:Cx) (scope:Scope) (cl:List (Str × Addr)) (N':List Str) (n:Nat) (idx:List Nat):Prop where
 clos:closureFor scope X.env=pure cl
 sub:∀x c,cl.lookup x=some c->X.env.cells.lookup x=some c
 cell:∀y∈scope.names,y.2 ≠ .cell
 kind:scope.kind = .function
 names:∀y∈scope.names,y.2 = .local->scope.names.lookup y.1=some .local
 has:∀x,((relabel scope X.env).names.lookup x=some .cell\/(relabel scope X.env).names.lookup x=some .free)->∃c,cl.lookup x=some c
 len:N'.length=n+idx.length
 cap:∀(j i:Nat) (y:Str),idx[j]? = some i->N'[n+j]? = some y->X.N[i]? = some y/\(X.env.scope.names.lookup y=some .cell\/X.env.scope.names.lookup y=some .free)/\((relabel scope X.env).names.lookup y=some .cell\/(relabel scope X.env).names.lookup y=some .free)
section
variable {wi:TI}{g:TG}
def zZ (σ:St):(D8 n idx σ).length=n+idx.length:=by simp[D8]
def EJ {v:V}(h:(D8 n idx σ)[j]? = some (some v)):∃k i,j=n+k/\idx[k]? = some i/\σ[i]? = some (some v):=by
 unfold D8 at h;by_cases J:j<n
 .rw[Jf (by simpa using J)] at h;simp[J] at h
 .rw[JA (by simpa using Ka J)] at h;simp only[Lz,Io] at h;refine#[j - n,?_];cases e:idx[j - n]? with
  |none=>rw[e] at h;simp at h
  |some i=>
   rw[e] at h;simp only[KS,HL] at h;exact#[i,by omega,rfl,by simpa using Option.join_eq_some_iff.mp h]
def wm (k:CompOk X scope cl N' n idx) {pins:vP_}{s2:Shared}{fp:vL_}{C:Addr}{Y:Heap}{t4:Nat}{m:vG_}(I:Inv X pins σ H2 s2) (f:∀b∈fp,P8 X pins H2 b) (fo:∀b∈fp,b<s2.heap.objs.size)
  (hC:s2.heap.objs.size+1<=C) (ns:Y.Ns C m) (L:∀b o,s2.heap.get? b=some o->Y.get? b=some o) (hD:Y.get? s2.heap.objs.size=some { cls:=.type "list",data:=.seq ([]:vV_).toArray }) :
  Inv (A6 X N' scope cl C s2 H2 fp) [] (D8 n idx σ) (l8 H2 s2.heap.objs.size (.lst [])) { s2 with heap:=Y,toks:=t4 }:=by
 have fresh:H2 s2.heap.objs.size=none:=I.hok.fresh (iR _);have fC:H2 C=none:=I.hok.fresh ∅;have J:∀x c,(A6 X N' scope cl C s2 H2 fp).env.cells.lookup x=some c->X.env.cells.lookup x=some c:=fun x c e=>k.sub x c e
 have U:∀x c,X.env.cells.lookup x=some c->c<s2.heap.objs.size:=fun x c e=>by
  obtain⟨v,q⟩:=I.cell x c e;exact q.lt
 have ok:(A6 X N' scope cl C s2 H2 fp).Ok:={
  mod:=I.ok.mod
  kind:=k.kind
  glob:=I.ok.glob
  blt:=I.ok.blt
  above:=by show s2.heap.objs.size<=C;omega
  inj:=fun x y c e1 Z=>I.ok.inj x y c (J x c e1) (J y c Z)
  has:=fun x h=>k.has x h
  cab:=fun x c h _=>by cases h
  hd:=I.ok.hd
  frames:=I.ok.frames
  stk:=.inl rfl
  exf:=fun b W=>#[HE (Hw (fo b W) (by show s2.heap.objs.size<=C;omega)),fun x c e z=>(f b W).2.2.2.2.1 x c (J x c e) z]
  bs:=fun b o e=>I.bs b o e
  bsz:=Ht I.ok.bsz I.sz
  noex:=fun b o e W=>by
   rcases(f b W).2.2.2.1 with z | z
   .exact I.ok.noex b o e z
   .exact absurd (Hw (xu e) (Ht I.ok.bsz z)) (Ir _)
  exfs:=fun b W z=>by
   rcases xr.mp (I.stkSub b z) with y | y
   .exact(f b W).2.1 y
   .exact(f b W).2.2.1 y
  funs:=I.stack
  frf:=I.stkFree }
 refine#[ok,rfl,I.bare,Un.laid L (iR _) fresh,#[m,ns,fun j y v e1 Z e3=>?_],fun x c e=>?_,?_,fun x c e=>?_,fun p hp=>(by cases hp),I.hok.laid L (iR _) #[HV _,[],_,.nil,hD],?_]
 .obtain⟨kk,i,rfl,hk,hv⟩:=EJ Z;obtain⟨hN,ok,M⟩:=k.cap kk i y hk e1;obtain⟨c,hc⟩:=k.has y M;obtain⟨m0,_,hl⟩:=I.loc;have hc':=k.sub y c hc;obtain⟨u,r,l⟩:=hl i y v hN hv (by rcases ok with z | z;exact .inr (.inl z);exact .inr (.inr z));refine#[u,r,.inr #[M,c,hc,?_]];rcases l with ⟨z,_⟩ | ⟨_,c',e',q⟩
  .have z':X.env.scope.names.lookup y=some .local:=z;rcases ok with w | w <;> · rw[w] at z';cases z'
  .rw[hc'] at e';cases e';obtain⟨o,ho,hd⟩:=q;exact#[o,L _ o ho,hd]
 .obtain⟨v,q⟩:=I.cell x c (J x c e);obtain⟨o,ho,hd⟩:=q;exact#[v,o,L c o ho,hd]
 .show l8 H2 s2.heap.objs.size (.lst []) C=none;rw[v5 (HY hC)];exact fC
 .have:=U x c (J x c e);rw[v5 (HE this)];exact I.freeC x c (J x c e)
 .rw[zZ,<-k.len];rfl
def Cu {w:World}{R:Result->Shared->Prop}{it J:Value}(I:Nat->Shared->Prop)
  (L:∀n s,I n s->wpAny (model prog w) A (pyNext it) (fun r s1=>match r with
   |none=>R (.ok .next) s1
   |some v=>wpAny (model prog w) A (letOwnedTupleGo target it v) (fun _ s1'=>wpAny (model prog w) A (assign target env v) (fun _ s2=>
     wpAny (model prog w) A (forIn ifs true fun c r=>if r=true then do let ok <-isTrue c env (eval c env);pure (ForInStep.yield ok) else pure (ForInStep.yield r)) (fun ok s3=>
      if ok=true then wpAny (model prog w) A (eval elt env) (fun x s4=>
       wpAny (model prog w) A (call (.builtin "list.append") [J,x]) (fun _ s5=>∃m,m<n/\I m s5) (notedBy (model prog w) A env fun e s'=>R (.error e) s') s4) (notedBy (model prog w) A env fun e s'=>R (.error e) s') s3
      else ∃m,m<n/\I m s3) (notedBy (model prog w) A env fun e s'=>R (.error e) s') s2) (notedBy (model prog w) A env fun e s'=>R (.error e) s') s1') (notedBy (model prog w) A env fun e s'=>R (.error e) s') s1) (notedBy (model prog w) A env fun e s'=>R (.error e) s') s)
  (n:Nat) (h:I n s) :
  codeAny (model prog w) A (.compLoop (.ListComp elt [#[target,iter,ifs,0]] scope pos) 0 it J env) R s:=by
 refine codeAny_loop rfl I (fun n s Z=>?_) n h;show wpAny _ A ((compTurn (.ListComp elt [#[target,iter,ifs,0]] scope pos) 0 it J env).onRaise (fun x=>do noteFrame x env;theTreesLotGoes x)) _ _ s;refine wpAny_noted ?_;rw[compTurn_list];refine fx (wpAny_standAt (fx (HF (L n s Z) (fun r s₁ W=>?_) fun _ _ h'=>h')));cases r with
 |none=>exact iO W
 |some v=>
  refine fx (HF W (fun _ s1' M=>?_) fun _ _ h'=>h');refine fx (HF M (fun _ s₂ h₂=>fx (HF h₂ (fun ok s₃ U=>?_) fun _ _ h'=>h')) fun _ _ h'=>h');cases ok with
  |false=>exact iO #[rfl,U]
  |true=>
   exact fx (fx (HF U (fun x s₄ Y=>fx (HF Y (fun _ s₅ h₅=>iO (iO #[rfl,h₅])) fun _ _ h'=>h')) fun _ _ h'=>h'))
end
section
variable {wi:TI}{g:TG}
def sI {use:Option (Value->Sem Unit)}{Q':vQ_}(hc:X.calm=true) (k:CompOk X scope cl N' n idx) (hi:PI X tg iter wi)
  (hg:∀C s0 H0 ex,PG (A6 X N' scope cl C s0 H0 ex) tg g) (ht:∀C s0 H0 ex,bJ (A6 X N' scope cl C s0 H0 ex) ifs tc) (he:∀C s0 H0 ex,PE (A6 X N' scope cl C s0 H0 ex) elt te)
  (hs:∀x,foldedSetIterable iter X.env x=pure x) {Q:VK}(I0:Inv X pins σ H s) (h:aX n idx wi g tc te σ H Q)
  (last:∀(C D:Addr) (s':Shared) (H':Hp) (m:vG_),Inv X pins σ H' s'->P8 X pins H' C->s'.heap.Ns C m->Q (.ref D) H'->compPost (model X.prog X.w) X.A X.xe use Q' (.ref D) C (.ok .next) s') :
  wpAny (model X.prog X.w) X.A (comprehension (.ListComp elt [#[tg,iter,ifs,0]] scope pos) scope X.env pos2 (newList []) false (eval iter X.env) use) Q' X.xe s:=by
 refine wpAny_comprehension_free (use:=use) rfl hs k.clos k.kind k.names (t9 (hi pins s σ H _ I0 h) fun v s1 h1=>t9 h1 fun itv s2 h2=>?_);obtain⟨it,fp,tn,J,H2,e,I2,T,st2,f2,hW⟩:=h2;subst e;have fo2:∀b∈fp,b<s2.heap.objs.size:=fun b L=>by
  obtain⟨o,e,_⟩:=T.obj _ _ st2 b L;exact xu e
 obtain⟨W,⟨m0,w0⟩,turn⟩:=hW s2.heap.objs.size (I2.hok.fresh (iR _));refine ID (wpAny_newFunctionEnv k.cell (by intro y hy;simp at hy) (fun h4 U hsb4=>?_) k.kind)
 dsimp only at U hsb4 ⊢
 generalize hH3:s2.heap.push { cls:=.type "list",dict:=none,data:=.seq ([]:vV_).toArray }=h3 at U hsb4 ⊢;have M:h3.objs.size=s2.heap.objs.size+1:=by rw[<-hH3,Jk]
 have k34:∀b o,b≠h3.objs.size->h3.get? b=some o->h4.get? b=some o:=fun b o nb e=>hsb4.extBut b o nb (xo _ e)
 have keep:∀b o,s2.heap.get? b=some o->h4.get? b=some o:=fun b o e=>k34 b o (HE (by rw[M];exact Nat.lt_succ_of_lt (xu e))) (by rw[<-hH3];exact xo _ e)
 have hD:h4.get? s2.heap.objs.size=some { cls:=.type "list",data:=.seq ([]:vV_).toArray }:=k34 _ _ (HE (by rw[M];exact Nat.lt_succ_self _)) (by rw[<-hH3];exact HG _ rfl);have I4:=wm k I2 f2 fo2 (Kb M.symm) U keep hD (t4:=s2.toks+([]:List (Str × Value)).length);have Z:∀{H':Hp},(∀b∈fp,H' b=none)->∀b∈fp,P8 (A6 X N' scope cl h3.objs.size s2 H2 fp) [] H' b:=fun hn b L=>
  #[hn b L,HE (by rw[M];exact Nat.lt_succ_of_lt (fo2 b L)),fun z=>(xr.mp (I2.stkSub b z)).elim (f2 b L).2.1 (f2 b L).2.2.1,.inl L,fun x c e=>(f2 b L).2.2.2.2.1 x c (k.sub x c e),fun p hp=>(by cases hp)]
 have fr4:∀b∈fp,l8 H2 s2.heap.objs.size (.lst []) b=none:=fun b L=>by rw[v5 (HE (fo2 b L))];exact(f2 b L).1
 have fin:∀(s':Shared) (H':Hp),Inv (A6 X N' scope cl h3.objs.size s2 H2 fp) [] (D8 n idx σ) H' s'->Q (.ref s2.heap.objs.size) H' ->
   compPost (model X.prog X.w) X.A X.xe use Q' (.ref s2.heap.objs.size) h3.objs.size (.ok .next) s':=fun s' H' I' q=>by
  obtain⟨m',hn',_⟩:=I'.loc;have B:=I'.base;refine last _ _ s' H' m' ?_ (I2.fpOk (by rw[M];exact Nat.le_succ _) I'.free) hn' q;refine I2.call' (s':=s') (ch:=fp) (show s'.os=s2.os from I'.os) #[fun b o e nn L hx=>B.keep b o e nn L hx,fun b o e nn L hx=>B.slot b o e nn L hx,B.free,fun b o e hx=>B.there b o e hx,B.tups,B.frzs,B.tbls] I'.hok I'.bare fun b L=>?_
  obtain⟨p1,p2,p3,p4,p5,p6⟩:=f2 b L;exact#[p4,p2,p5,p6]
 have loop:∀s4:Shared,s4={ s2 with heap:=h4,toks:=s2.toks+([]:List (Str × Value)).length } ->
   codeAny (model X.prog X.w) X.A (.compLoop (.ListComp elt [#[tg,iter,ifs,0]] scope pos) 0 (.ref it) (.ref s2.heap.objs.size) (compEnvC scope cl h3.objs.size X.env)) (compPost (model X.prog X.w) X.A X.xe use Q' (.ref s2.heap.objs.size) h3.objs.size) s4:=by
  rintro s4 rfl;refine Cu (fun m s'=>∃i H',Inv (A6 X N' scope cl h3.objs.size s2 H2 fp) [] (D8 n idx σ) H' s'/\tn i s'.heap/\(∀b∈fp,H' b=none)/\W i m H') ?_ m0 #[0,_,I4,T.keep _ _ _ st2 (fun b _ o e=>keep b o e),fr4,w0];rintro m s3 ⟨i,H3,I3,st3,fr3,w3⟩;rcases turn i m H3 w3 with ⟨stop,q⟩ | ⟨go,step⟩
  .refine HF (T.done (A6 X N' scope cl h3.objs.size s2 H2 fp) rfl rfl rfl hc i [] s3 _ H3 (fun _ _=>False) I3 (Z fr3) st3 stop) (fun r s5 ⟨hr,I5⟩=>?_) fun _ _ z=>z.elim
   subst hr;exact fin s5 H3 I5 q
  .refine HF (T.item (A6 X N' scope cl h3.objs.size s2 H2 fp) rfl rfl rfl hc i [] s3 _ H3 (fun _ _=>False) I3 (Z fr3) st3 go) (fun r s5 ⟨u,hr,h5⟩=>?_) fun _ _ z=>z.elim
   subst hr;refine HF h5 (fun _ s6 ⟨x,H6,I6,r6,y6,st6,fr6⟩=>?_) fun _ _ z=>z.elim
   have I6':=I6.pinned (Z fr6) (T.obj _ _ st6);have Y:∀{σ7:St}{H7:Hp}{s7:Shared},Inv (A6 X N' scope cl h3.objs.size s2 H2 fp) ([]++cC fp s6.heap) σ7 H7 s7->σ7.length=(D8 n idx σ).length->(∀(j:Nat) v,(D8 n idx σ)[j]? = some (some v)->σ7[j]? = some (some v))->(∃m',m'<m/\W (i+1) m' H7) ->
     ∃m',m'<m/\∃i H',Inv (A6 X N' scope cl h3.objs.size s2 H2 fp) [] (D8 n idx σ) H' s7/\tn i s7.heap/\(∀b∈fp,H' b=none)/\W i m' H':=fun {σ7 H7 s7} I7 hl hw ⟨m',hm,w7⟩=>by
    refine#[m',hm,i+1,H7,(I7.unpinned).weak hl.symm hw,T.keep _ _ _ st6 fun b L o e=>(I7.pin (b,o) (Ic _ (Ic _ (cz L e)))).1,fun b L=>?_,w7];obtain⟨o,e,d⟩:=T.obj _ _ st6 b L;exact(I7.pin (b,o) (Ic _ (Ic _ (cz L e)))).2.1
   refine HF (hg _ _ _ _ _ s6 _ H6 x u _ I6' r6 (step x H6 y6)) (fun _ s7 ⟨σ7,H7,I7,⟨hl,hw⟩,q7⟩=>?_) fun _ _ z=>z.elim
   refine HF (ht _ _ _ _ _ s7 σ7 H7 _ I7 q7) (fun ok s8 ⟨H8,I8,q8⟩=>?_) fun _ _ z=>z.elim
   cases ok with
   |false=>
    rw[gV Hx] at q8 ⊢;exact Y I8 hl hw q8
   |true=>
    rw[fI rfl] at q8 ⊢;refine HF (he _ _ _ _ _ s8 σ7 H8 _ I8 q8) (fun v9 s9 ⟨x9,H9,I9,r9,ys,e9,l9,q9⟩=>?_) fun _ _ z=>z.elim
    refine HF (pG (X:=A6 X N' scope cl h3.objs.size s2 H2 fp) _ s9 σ7 H9 (.ref s2.heap.objs.size) [x9] (.ref s2.heap.objs.size) [v9] (fun _ H'=>H'=l8 H9 s2.heap.objs.size (.lst (ys++[x9]))) I9 rfl (.cons r9 .nil) #[s2.heap.objs.size,ys,x9,rfl,rfl,e9,l9,rfl]) (fun _ s10 ⟨_,H10,I10,_,e10⟩=>?_) fun _ _ z=>z.elim
    subst e10;exact Y I10 hl hw q9
 exact codeAny_compStart_list (loop _ rfl) (T.self _ 0 _ _ _ (T.keep _ _ _ st2 (fun b _ o e=>keep b o e)) (loop _ rfl))
def rS (Y:X.calm=true) (k:CompOk X scope cl N' n idx) (hi:PI X tg iter wi)
  (hg:∀C s0 H0 ex,PG (A6 X N' scope cl C s0 H0 ex) tg g) (ht:∀C s0 H0 ex,bJ (A6 X N' scope cl C s0 H0 ex) ifs tc) (he:∀C s0 H0 ex,PE (A6 X N' scope cl C s0 H0 ex) elt te)
  (U:∀x,foldedSetIterable iter X.env x=pure x:=by intro _;rfl):PE X (.ListComp elt [#[tg,iter,ifs,0]] scope pos) (aX n idx wi g tc te):=by
 intro pins s σ H Q I0 h;rw[eval_ListComp];refine sI (use:=none) (Q':=EP X pins σ Q) Y k hi hg ht he U I0 h ?_;intro C W s' H' m Z J hn q;exact#[m,hn,fun h' L=>#[.ref W,H',Z.turned (t':=s'.toks) (it:=C) (h':=h') (fun b o M e=>(L.2 b M).trans e) J.1 J.2.1 J.2.2.2.1 J.2.2.2.2.1 J.2.2.2.2.2,rfl,q]]
def zH {i:Nat}{y:Str}{py J:Pos}(hN:X.N.Nodup) (W:X.N[i]? = some y) (hx:T7 X.env.scope y) (hc:X.calm=true) (k:CompOk X scope cl N' n idx) (hi:PI X tg iter wi)
  (hg:∀C s0 H0 ex,PG (A6 X N' scope cl C s0 H0 ex) tg g) (ht:∀C s0 H0 ex,bJ (A6 X N' scope cl C s0 H0 ex) ifs tc) (he:∀C s0 H0 ex,PE (A6 X N' scope cl C s0 H0 ex) elt te)
  (hs:∀x,foldedSetIterable iter X.env x=pure x:=by intro _;rfl) (hsw:swapsWith (.ListComp elt [#[tg,iter,ifs,0]] scope pos) (some (.Name y py)) J.line X.env=pure true:=by rfl)
  (hf:X.fn y=true\/X.env.scope.names.lookup y=some .local:=by first | exact .inl rfl | exact .inr rfl | assumption) :
  PS X (.Assign [.Name y py] (.ListComp elt [#[tg,iter,ifs,0]] scope pos) J) (bZ (aX n idx wi g tc te) (R3 i)):=by
 intro pins s σ H D I h;rw[exec_Assign_Name_used _ _ _ _ hsw];refine fx (wpAny_standAt (fx ?_));show wpAny _ X.A (do let _ <-comprehension (.ListComp elt [#[tg,iter,ifs,0]] scope pos) scope X.env _ (newList []) false (eval iter X.env) (some (assign (.Name y py) X.env))) _ _ s;refine fx (HF (sI (use:=some (assign (.Name y py) X.env)) (Q':=fun _ s'=>SP X pins D .next s') hc k hi hg ht he hs I h ?_) (fun _ s' hq=>iO (iO hq)) fun _ _ e=>e);intro C M s' H' m IX L hn q;show wpAny _ X.A (assign (.Name y py) X.env (.ref M)) _ _ _;obtain⟨o,es,ep,ho,hd,hr⟩:=hn;have IP:=IX.pinned (fp:=[C]) (fun b Z=>by rw[IU.mp Z];exact L) (fun b Z=>by rw[IU.mp Z];exact#[o,ho,fun v z=>by rw[hd] at z;cases z]);refine HF (J5 hN W hx hf _ s' σ H' (.ref M) (.ref M) D.nx IP rfl q) (fun _ Y ⟨σ2,H2,I2,q2⟩=>?_) fun _ _ e=>e
 have pn:=I2.pin (C,o) (Ic _ (Ic _ (cz (IU.mpr rfl) ho)));refine#[m,#[o,es,ep,pn.1,hd,hr],fun h' U=>#[σ2,H2,?_,q2]];have It:=I2.unpinned.turned (t':=Y.toks) (it:=C) (h':=h') (fun b o nb e=>(U.2 b nb).trans e) pn.2.1 L.2.1 L.2.2.2.1 L.2.2.2.2.1 L.2.2.2.2.2;exact It
end
end L2
namespace DL
open PySem PySem.Spec L2
def A1 {α β γ:Type}{o:Option (α × β)}{f:α × β->Option γ}{r:γ}(h:o.bind f=some r) (k:∀x y,o=some (x,y)->f (x,y)=some r->G):G:=by
 obtain⟨⟨x,y⟩,a,b⟩:=II.mp h;exact k x y a b
def S9 {α γ:Type}{o:Option α}{f:α->Option γ}{r:γ}(h:o.bind f=some r) (k:∀x,o=some x->f x=some r->G):G:=by
 obtain⟨x,a,b⟩:=II.mp h;exact k x a b
def mapP {α β γ:Type}{o:Option (α × β)}{f:α × β->γ}{r:γ}(h:o.map f=some r) (k:∀x y,o=some (x,y)->f (x,y)=r->G):G:=by
 obtain⟨⟨x,y⟩,a,b⟩:=Ip.mp h;exact k x y a b
def K7 {α γ:Type}{o:Option α}{f:α->γ}{r:γ}(h:o.map f=some r) (k:∀x,o=some x->f x=r->G):G:=by
 obtain⟨x,a,b⟩:=Ip.mp h;exact k x a b
inductive D where
 | non | bl (b:Bool) | int (i:Int) | str (x:Str) | tup (ds:List D) | lst (ds:List D)
 | feed | scr (ns:List Int) | fn (x:Str) | exc (c:Str) (ds:List D)
variable {d d1 d2:D}{p:D->D->Option D}
abbrev vD_:=List D
variable {ds:vD_}
mutual
def D.py:D->PyData
 |.non=>.none
 |.bl b=>.bool b
 |.int i=>.int i
 |.str x=>.str x
 |.tup ds=>.tuple (D.pys ds)
 |.lst ds=>.list (D.pys ds)
 |.feed=>.none
 |.scr _=>.none
 |.fn _=>.none
 |.exc _ _=>.none
def D.pys:List D->List PyData
 |[]=>[]
 |d::r=>D.py d::D.pys r
end
mutual
def D.plain:D->Bool
 |.non=>true
 |.bl _=>true
 |.int _=>true
 |.str _=>true
 |.tup ds=>D.plains ds
 |.lst ds=>D.plains ds
 |.feed=>false
 |.scr _=>false
 |.fn _=>false
 |.exc _ _=>false
def D.plains:List D->Bool
 |[]=>true
 |d::r=>D.plain d&&D.plains r
end
structure FS where
 cells:List Int
 pos:Int
 left:Int
 turn:Int
 kind:Nat
variable {f:FS}
abbrev vO_:=Option FS
variable {fs':vO_}
def Ea (c:Addr) (f:FS):List V:=if f.kind=1 then [V.ref c,V.int f.pos,V.int f.left] else [V.ref c,V.int f.pos,V.int f.left,V.int f.turn]
def aJ (c:Addr) (f:FS):HO:=if f.kind=0 then .dK [(Sum.inr ("cells" : Str),V.ref c),(Sum.inr ("at" : Str),V.int f.pos),(Sum.inr ("left" : Str),V.int f.left),(Sum.inr ("turn" : Str),V.int f.turn)] else .lst (Ea c f)
def km (h:f.kind=0):aJ c f = .dK [(Sum.inr ("cells" : Str),V.ref c),(Sum.inr ("at" : Str),V.int f.pos),(Sum.inr ("left" : Str),V.int f.left),(Sum.inr ("turn" : Str),V.int f.turn)]:=fI h
def Ep (h:aJ c f = .tup xs):False:=by unfold aJ at h;split at h <;> cases h
def ET {o:Obj}{u:HO}(h:aJ c f = .frz o u):False:=by unfold aJ at h;split at h <;> cases h
def FeedR (N:vB_) (H:Hp):Option Addr->Option FS->Prop
 |none,none=>True
 |some a,some f=>f.cells.length<=63/\∃c,H a=some (aJ c f)/\¬ N c/\H c=some (.lst (f.cells.map V.int))
 |_,_=>False
def SqF (K:vF_) (H:Hp) (a:Addr) (xs:List V):Prop:=
 (∃o,H a=some (.frz o (.lst xs))) \/
  ∃(o:Obj) (its:vR_) (n:Nat),K.lookup a=some o/\o.cls = .type "list" /\ o.dict=none/\o.data = .seq its n/\its.size<=sizeLine/\Vals xs its.toList
def SqF.sq {K:vF_}(h:SqF K H a xs):SqL K H a xs:=by
 rcases h with ⟨o,h⟩ | h
 .exact .inl (.inr #[o,h])
 .exact .inr h
def fnm:List Str:=["word", "at"]
def ExO (H:Hp) (a C:Addr) (xs:List V):Prop:=∃o,H a=some (.frz o (.own a))/\o.cls = .ref C/\(∃vs,o.data = .fields vs)/\xs.length<=2/\(xs=[]\/∃dx od,o.dict=some dx/\H dx=some (.frz od (.xd (fnm.zip xs))))
mutual
def Rep (K:vF_) (N:vB_) (fa:vA_) (H:Hp):D->V->Prop
 |.non,v=>v = .non
 |.bl b,v=>v = .bl b
 |.int i,v=>v = .int i
 |.str x,v=>v = .str x/\x.length<=sizeLine
 |.tup ds,v=>∃a xs,v = .ref a/\SqT K H a xs/\Reps K N fa H ds xs
 |.lst ds,v=>∃a xs,v = .ref a/\¬ N a/\H a=some (.lst xs)/\Reps K N fa H ds xs
 |.feed,v=>∃a,fa=some a/\v = .ref a
 |.scr ns,v=>ns.length<=63/\∃a,v = .ref a/\SqF K H a (ns.map V.int)
 |.fn x,v=>∃a,v = .ref a/\PySem.W.nsIn K mainGlobals x=some (some (.ref a))
 |.exc c ds,v=>∃a C xs,v = .ref a/\PySem.W.nsIn K mainGlobals c=some (some (.ref C))/\ExO H a C xs/\Reps K N fa H ds xs
def Reps (K:vF_) (N:vB_) (fa:vA_) (H:Hp):List D->List V->Prop
 |[],xs=>xs=[]
 |d::r,xs=>∃x ys,xs=x::ys/\Rep K N fa H d x/\Reps K N fa H r ys
end
def RepB (K:vF_) (N:vB_) (fa:vA_) (H:Hp):D->V->Prop
 |.lst ds,v=>∃a xs,v = .ref a/\fa≠some a/\H a=some (.lst xs)/\Reps K N fa H ds xs
 |d,v=>Rep K N fa H d v
def U1 (K:vF_) (N:vB_) (fa:vA_) (H:Hp):List D->List V->Prop
 |[],xs=>xs=[]
 |d::r,xs=>∃x ys,xs=x::ys/\RepB K N fa H d x/\U1 K N fa H r ys
def ot (K:vF_) (H:Hp) (a:Addr):Sum (List V) (Obj × HO)->Prop
 |.inl xs=>SqF K H a xs
 |.inr p=>H a=some (.frz p.1 p.2)
structure Car (K:vF_) (N:vB_) (fa:vA_) (H:Hp) (N':vB_) (fa':vA_) (H':Hp):Prop where
 ls:∀b xs,¬ N b->H b=some (.lst xs)->H' b=some (.lst xs)/\¬ N' b
 tp:∀b xs,SqT K H b xs->SqT K H' b xs
 fz:∀b xs,ot K H b xs->ot K H' b xs
 fe:∀a,fa=some a->fa'=some a
section
variable {K:vF_}{N':vB_}
def ExO.go {C:Addr}(c:Car K N fa H N' fa' H') (h:ExO H a C xs):ExO H' a C xs:=by
 obtain⟨o,e,q,r,l,z⟩:=h;refine#[o,c.fz a (.inr (o,_)) e,q,r,l,z.imp id ?_];rintro⟨J,L,y,w⟩;exact#[J,L,y,c.fz J (.inr (L,_)) w]
mutual
theorem Rep.go (c:Car K N fa H N' fa' H'):∀(d:D) (v:V),Rep K N fa H d v->Rep K N' fa' H' d v
 |.non,v,h=>by simpa only[Rep] using h
 |.bl b,v,h=>by simpa only[Rep] using h
 |.int i,v,h=>by simpa only[Rep] using h
 |.str x,v,h=>by simpa only[Rep] using h
 |.tup ds,v,h=>by
  simp only[Rep] at h ⊢;obtain⟨a,xs,e,q,r⟩:=h;exact#[a,xs,e,c.tp a xs q,Reps.go c ds xs r]
 |.lst ds,v,h=>by
  simp only[Rep] at h ⊢;obtain⟨a,xs,e,n,q,r⟩:=h;obtain⟨J,L⟩:=c.ls a xs n q;exact#[a,xs,e,L,J,Reps.go c ds xs r]
 |.feed,v,h=>by
  simp only[Rep] at h ⊢;obtain⟨a,e,q⟩:=h;exact#[a,c.fe a e,q]
 |.scr ns,v,h=>by
  simp only[Rep] at h ⊢;obtain⟨l,a,e,q⟩:=h;exact#[l,a,e,c.fz a (.inl _) q]
 |.fn x,v,h=>by simpa only[Rep] using h
 |.exc x ds,v,h=>by
  simp only[Rep] at h ⊢;obtain⟨a,C,xs,e,n,q,r⟩:=h;exact#[a,C,xs,e,n,q.go c,Reps.go c ds xs r]
theorem Reps.go (c:Car K N fa H N' fa' H'):∀(ds:vD_) (xs:List V),Reps K N fa H ds xs->Reps K N' fa' H' ds xs
 |[],xs,h=>by simpa only[Reps] using h
 |d::r,xs,h=>by
  simp only[Reps] at h ⊢;obtain⟨x,ys,e,h1,h2⟩:=h;exact#[x,ys,e,Rep.go c d x h1,Reps.go c r ys h2]
end
def Rep.b (J:∀a,fa=some a->N a) {v:V}(h:Rep K N fa H d v):RepB K N fa H d v:=by
 cases d with
 |lst ds=>
  simp only[Rep] at h;obtain⟨a,xs,e,n,q,r⟩:=h;exact#[a,xs,e,fun z=>n (J a z),q,r]
 |_=>simpa only[RepB] using h
def Q5 (K:vF_) (N:vB_) (fa:vA_) (H:Hp):D->V->Prop
 |.lst ds,v=>∃a xs,v = .ref a/\H a=some (.lst xs)/\Reps K N fa H ds xs
 |d,v=>Rep K N fa H d v
def Rep.o {v:V}(h:Rep K N fa H d v):Q5 K N fa H d v:=by
 cases d with
 |lst ds=>
  simp only[Rep] at h;obtain⟨a,xs,e,_,q,r⟩:=h;exact#[a,xs,e,q,r]
 |_=>simpa only[Q5] using h
def RepB.o {v:V}(h:RepB K N fa H d v):Q5 K N fa H d v:=by
 cases d with
 |lst ds=>
  obtain⟨a,xs,e,_,q,r⟩:=h;exact#[a,xs,e,q,r]
 |_=>simpa only[Q5,RepB] using h
theorem Reps.length:∀{ds:vD_}{xs:List V},Reps K N fa H ds xs->xs.length=ds.length
 |[],xs,h=>by simp only[Reps] at h;subst h;rfl
 |d::r,xs,h=>by
  simp only[Reps] at h;obtain⟨x,ys,e,h1,h2⟩:=h;subst e;simp[Reps.length h2]
theorem Reps.get:∀{ds:vD_}{xs:List V}{i:Nat}{d:D},Reps K N fa H ds xs->ds[i]? = some d->∃x,xs[i]? = some x/\Rep K N fa H d x
 |[],xs,i,d,h,e=>by simp at e
 |d::r,xs,0,d',h,e=>by
  simp only[Reps] at h;obtain⟨x,ys,J,h1,h2⟩:=h;simp at e;subst J;subst e;exact#[x,rfl,h1]
 |d::r,xs,i+1,d',h,e=>by
  simp only[Reps] at h;obtain⟨x,ys,J,h1,h2⟩:=h;subst J;obtain⟨y,M,L⟩:=Reps.get h2 (by simpa using e);exact#[y,by simpa using M,L]
def Reps.get':∀{ds:vD_}{xs:List V}{i:Nat}{x:V},Reps K N fa H ds xs->xs[i]? = some x->∃d,ds[i]? = some d/\Rep K N fa H d x:=fun {ds xs i x} h e=>by
 have hl:=h.length;have hi:i<xs.length:=(HQ.mp e).1;obtain⟨y,J,L⟩:=Reps.get h (Ia (show i<ds.length by omega));rw[e] at J;cases J;exact#[_,Ia (show i<ds.length by omega),L]
theorem Reps.append:∀{ds es:vD_}{xs ys:List V},Reps K N fa H ds xs->Reps K N fa H es ys->Reps K N fa H (ds++es) (xs++ys)
 |[],es,xs,ys,h,q=>by simp only[Reps] at h;subst h;simpa using q
 |d::r,es,xs,ys,h,q=>by
  simp only[Reps] at h;obtain⟨x,zs,J,h1,h2⟩:=h;subst J;simp only[KU,Reps];exact#[x,_,rfl,h1,Reps.append h2 q]
def Reps.one {x:V}(h:Rep K N fa H d x):Reps K N fa H [d] [x]:=by
 simp only[Reps];exact#[x,[],rfl,h,rfl]
def Reps.nil:Reps K N fa H [] []:=by simp only[Reps]
theorem Reps.take:∀{ds:vD_}{xs:List V}(n:Nat),Reps K N fa H ds xs->Reps K N fa H (ds.take n) (xs.take n)
 |_,_,0,_=>by simp only[List.take_zero,Reps]
 |[],xs,n+1,h=>by simp only[Reps] at h;subst h;simp only[List.take_nil,Reps]
 |d::r,xs,n+1,h=>by
  simp only[Reps] at h;obtain⟨x,zs,J,h1,h2⟩:=h;subst J;simp only[List.take_succ_cons,Reps];exact#[x,_,rfl,h1,Reps.take n h2]
theorem Reps.drop:∀{ds:vD_}{xs:List V}(n:Nat),Reps K N fa H ds xs->Reps K N fa H (ds.drop n) (xs.drop n)
 |_,_,0,h=>by simpa using h
 |[],xs,n+1,h=>by simp only[Reps] at h;subst h;simp only[List.drop_nil,Reps]
 |d::r,xs,n+1,h=>by
  simp only[Reps] at h;obtain⟨x,zs,J,h1,h2⟩:=h;subst J;simpa using Reps.drop n h2
theorem Reps.ints:∀{ns:List Int},Reps K N fa H (ns.map D.int) (ns.map V.int)
 |[]=>by simp only[Ij,Reps]
 |n::r=>by
  simp only[Hu,Reps,Rep];exact#[_,_,rfl,rfl,Reps.ints]
end
inductive Sl where
 | no | v (d:D) | own (ds:vD_)
variable {sl:List Sl}{mk:List Sl->D->Option (List Sl)}
structure DS where
 sl:List Sl
 fs:Option FS
variable {s1 s2 s':DS}
def NN (F:vB_) (fa:vA_) (O:vL_):Addr->Prop:=fun b=>F b\/b∈O\/fa=some b
def SlR (K:vF_) (N:vB_) (fa:vA_) (H:Hp):List Sl->List (Option V)->List Addr->Prop
 |[],σ,O=>σ=[]/\O=[]
 |.no::r,σ,O=>∃v τ,σ=v::τ/\SlR K N fa H r τ O
 |.v d::r,σ,O=>∃u τ,σ=some u::τ/\Rep K N fa H d u/\SlR K N fa H r τ O
 |.own ds::r,σ,O=>∃a xs τ P,σ=some (.ref a)::τ/\O=a::P/\H a=some (.lst xs)/\Reps K N fa H ds xs/\SlR K N fa H r τ P
structure Stp (fa:vA_) (O:vL_) (H:Hp) (fa':vA_) (O':vL_) (H':Hp):Prop where
 sub:∀b∈O',b∈O\/H b=none
 fe:fa'=fa\/(fa=none/\∀a,fa'=some a->H a=none)
 same:∀b u,H b=some u->b ∉ O->fa≠some b->H' b=some u
 mon:∀b,H' b=none->H b=none
structure StE (fa:vA_) (O:vL_) (H:Hp) (fa':vA_) (O':vL_) (H':Hp):Prop where
 sub:∀b∈O',b∈O
 fe:fa'=fa\/(fa=none/\∀a,fa'=some a->H a=none)
 same:∀b u,H b=some u->fa≠some b->H' b=some u
 mon:∀b,H' b=none->H b=none
structure DI (K:vF_) (F:vB_) (H0:Hp) (fa0:vA_) (σ:St) (H:Hp) (fa:vA_) (O:vL_) (s:DS):Prop where
 nd:O.Nodup
 sl:SlR K (NN F fa O) fa H s.sl σ O
 fr:∀b∈O,H0 b=none
 st:Stp fa0 [] H0 fa [] H
 tr:∀b,F b->H0 b≠none
 ff:∀a,fa0=some a->F a
 fd:FeedR (NN F fa O) H fa s.fs
 nf:∀a,fa=some a->a ∉ O
section
variable {fa'':vA_}{O' O'':vL_}{H'':Hp}
def StE.stp (h:StE fa O H fa' O' H'):Stp fa O H fa' O' H':=#[fun b J=>.inl (h.sub b J),h.fe,fun b u e _ n=>h.same b u e n,h.mon]
def StE.refl:StE fa O H fa O H:=#[fun _ h=>h,.inl rfl,fun _ _ e _=>e,fun _ h=>h]
theorem Stp.refl:Stp fa O H fa O H:=StE.refl.stp
theorem StE.trans (a:StE fa O H fa' O' H') (b:StE fa' O' H' fa'' O'' H''):StE fa O H fa'' O'' H'':=by
 refine#[fun c J=>a.sub c (b.sub c J),?_,fun c u e n=>?_,fun c h=>a.mon c (b.mon c h)]
 .rcases a.fe with e | ⟨e,h⟩
  .rcases b.fe with e' | ⟨e',h'⟩
   .exact .inl (e'.trans e)
   .exact .inr #[e▸e',fun c z=>a.mon c (h' c z)]
  .rcases b.fe with e' | ⟨e',h'⟩
   .exact .inr #[e,fun c z=>h c (e'▸z)]
   .exact .inr #[e,fun c z=>a.mon c (h' c z)]
 .refine b.same c u (a.same c u e n) fun z=>?_
  rcases a.fe with q | ⟨q,h⟩
  .rw[q] at z;exact n z
  .rw[h c z] at e;cases e
theorem Stp.trans (a:Stp fa O H fa' O' H') (b:Stp fa' O' H' fa'' O'' H''):Stp fa O H fa'' O'' H'':=by
 refine#[fun c J=>?_,?_,fun c u e J n=>?_,fun c h=>a.mon c (b.mon c h)]
 .rcases b.sub c J with q | q
  .exact a.sub c q
  .exact .inr (a.mon c q)
 .rcases a.fe with e | ⟨e,h⟩
  .rcases b.fe with e' | ⟨e',h'⟩
   .exact .inl (e'.trans e)
   .exact .inr #[e▸e',fun c z=>a.mon c (h' c z)]
  .rcases b.fe with e' | ⟨e',h'⟩
   .exact .inr #[e,fun c z=>h c (e'▸z)]
   .exact .inr #[e,fun c z=>a.mon c (h' c z)]
 .refine b.same c u (a.same c u e J n) (fun z=>?_) fun z=>?_
  .rcases a.sub c z with q | q
   .exact J q
   .rw[q] at e;cases e
  .rcases a.fe with q | ⟨q,h⟩
   .rw[q] at z;exact n z
   .rw[h c z] at e;cases e
def Stp.fa_keep (a:Stp fa O H fa' O' H') {x:Addr}(h:fa=some x):fa'=some x:=by
 rcases a.fe with e | ⟨e,_⟩
 .rw[e,h]
 .rw[h] at e;cases e
variable {K:vF_}{F:vB_}{H0:Hp}{fa0:vA_}{s:DS}
def FeedR.no_frz {fs:vO_}{o:Obj}{u:HO}(h:FeedR N H fa fs) (e:fa=some a) (q:H a=some (.frz o u)):False:=by
 subst e;cases fs with
 |none=>exact h
 |some f=>
  obtain⟨_,c,h1,_⟩:=h;rw[h1] at q;exact ET (HU q)
def FeedR.no_tup {fs:vO_}(h:FeedR N H fa fs) (e:fa=some a) (z:Rd H a (.tup xs)):False:=by
 rcases z with z | ⟨o,z⟩
 .subst e;cases fs with
  |none=>exact h
  |some f=>
   obtain⟨_,c,h1,_⟩:=h;rw[h1] at z;exact Ep (HU z)
 .exact h.no_frz e z
def FeedR.tracked {fs:vO_}(h:FeedR N H fa fs) (e:fa=some a):H a≠none:=by
 subst e;cases fs with
 |none=>exact h.elim
 |some f=>
  obtain⟨_,c,h1,_⟩:=h;rw[h1];simp
def SqT.stp' (a:Stp fa O H fa' O' H') (M:∀x,fa=some x->∀xs,¬ Rd H x (.tup xs)) (U:∀x∈O,∀xs,¬ Rd H x (.tup xs)) {b:Addr}(h:SqT K H b xs):SqT K H' b xs:=by
 rcases h with h | h
 .refine .inl ?_;have J:b ∉ O:=fun z=>U b z xs h
  have L:fa≠some b:=fun z=>M b z xs h
  rcases h with h | ⟨o,h⟩
  .exact .inl (a.same _ _ h J L)
  .exact .inr #[o,a.same _ _ h J L]
 .exact .inr h
theorem SlR.owned:∀{sl:List Sl}{N:vB_}{σ:List (Option V)}{O:vL_},SlR K N fa H sl σ O->∀b∈O,∃xs,H b=some (.lst xs)
 |[],N,σ,O,h,b,hb=>by simp only[SlR] at h;rw[h.2] at hb;cases hb
 |.no::r,N,σ,O,h,b,hb=>by
  simp only[SlR] at h;obtain⟨v,τ,_,h⟩:=h;exact SlR.owned h b hb
 |.v d::r,N,σ,O,h,b,hb=>by
  simp only[SlR] at h;obtain⟨v,τ,_,_,h⟩:=h;exact SlR.owned h b hb
 |.own ds::r,N,σ,O,h,b,hb=>by
  simp only[SlR] at h;obtain⟨a,xs,τ,P,_,rfl,e,_,h⟩:=h;rcases xr.mp hb with z | z
  .subst z;exact#[xs,e]
  .exact SlR.owned h b z
theorem DI.owned (I:DI K F H0 fa0 σ H fa O s) {b:Addr}(J:b∈O):∃xs,H b=some (.lst xs):=SlR.owned I.sl b J
def DI.trF (I:DI K F H0 fa0 σ H fa O s) {b:Addr}(J:F b):H b≠none:=fun z=>I.tr b J (I.st.mon b z)
def DI.nn_tracked (I:DI K F H0 fa0 σ H fa O s) {b:Addr}(h:NN F fa O b):H b≠none:=by
 rcases h with h | h | h
 .exact I.trF h
 .obtain⟨xs,e⟩:=I.owned h;rw[e];simp
 .exact I.fd.tracked h
def DI.nf_step (I:DI K F H0 fa0 σ H fa O s) (h:fa'=fa\/(fa=none/\∀a,fa'=some a->H a=none)):∀a,fa'=some a->a ∉ O:=fun a e m=>by
 rcases h with z | ⟨z,y⟩
 .rw[z] at e;exact I.nf a e m
 .obtain⟨xs,q⟩:=I.owned m;rw[y a e] at q;cases q
def DI.car (I:DI K F H0 fa0 σ H fa O s) (a:Stp fa O H fa' O' H'):Car K (NN F fa O) fa H (NN F fa' O') fa' H':=by
 have W:∀x xs,H x=some (.lst xs)->∀ys,¬ Rd H x (.tup ys):=fun x xs e ys z=>by
  rcases z with z | ⟨o,z⟩ <;> · rw[e] at z;cases z
 refine#[fun b xs n q=>?_,fun b xs q=>?_,fun b xs q=>?_,fun x e=>a.fa_keep e]
 .have M:b ∉ O:=fun z=>n (.inr (.inl z))
  have U:fa≠some b:=fun z=>n (.inr (.inr z))
  have J:H b≠none:=by rw[q];simp
  refine#[a.same _ _ q M U,fun z=>?_]
  .rcases z with z | z | z
   .exact n (.inl z)
   .rcases a.sub b z with y | y
    .exact M y
    .exact J y
   .rcases a.fe with e | ⟨e,h⟩
    .rw[e] at z;exact U z
    .exact J (h b z)
 .refine SqT.stp' a (fun x e ys z=>?_) (fun x Y ys=>?_) q
  .exact I.fd.no_tup e z
  .obtain⟨xs,e⟩:=I.owned Y;exact W x xs e ys
 .have L:∀o u,H b=some (.frz o u)->H' b=some (.frz o u):=fun o u q=>by
   refine a.same _ _ q (fun z=>?_) fun z=>?_
   .obtain⟨ys,e⟩:=I.owned z;rw[e] at q;cases q
   .exact I.fd.no_frz z q
  cases xs with
  |inl xs=>exact q.imp (fun ⟨o,q⟩=>#[o,L _ _ q]) id
  |inr p=>exact L _ _ q
end
structure Gh where
 F:Addr->Prop
 H0:Hp
 fa0:Option Addr
 xq:L2.St->XK
variable {g:Gh}
abbrev GI (K:vF_) (g:Gh):=DI K g.F g.H0 g.fa0
section
variable {K:vF_}{N':vB_}{σ:L2.St}{O':vL_}{s:DS}
theorem SlR.go (c:Car K N fa H N' fa' H'):∀{sl:List Sl}{σ:List (Option V)}{O:vL_},(∀a xs,a∈O->H a=some (.lst xs)->H' a=some (.lst xs))->SlR K N fa H sl σ O->SlR K N' fa' H' sl σ O
 |[],σ,O,_,h=>by simpa only[SlR] using h
 |.no::r,σ,O,ho,h=>by
  simp only[SlR] at h ⊢;obtain⟨v,τ,e,h⟩:=h;exact#[v,τ,e,SlR.go c ho h]
 |.v d::r,σ,O,ho,h=>by
  simp only[SlR] at h ⊢;obtain⟨u,τ,e,q,h⟩:=h;exact#[u,τ,e,Rep.go c d u q,SlR.go c ho h]
 |.own ds::r,σ,O,ho,h=>by
  simp only[SlR] at h ⊢;obtain⟨a,xs,τ,P,e,rfl,L,q,h⟩:=h;exact#[a,xs,τ,P,e,rfl,ho a xs (HD ..) L,Reps.go c ds xs q,SlR.go c (fun b ys J=>ho b ys (HB _ J)) h]
theorem SlR.val:∀{sl:List Sl}{σ:List (Option V)}{O:vL_}{i:Nat}{d:D},SlR K N fa H sl σ O->sl[i]? = some (.v d)->∃u,σ[i]? = some (some u)/\Rep K N fa H d u
 |[],σ,O,i,d,h,e=>by simp at e
 |.no::r,σ,O,i,d,h,e=>by
  simp only[SlR] at h;obtain⟨v,τ,rfl,h⟩:=h;cases i with
  |zero=>simp at e
  |succ i=>simpa using SlR.val h (by simpa using e)
 |.v d'::r,σ,O,i,d,h,e=>by
  simp only[SlR] at h;obtain⟨u,τ,rfl,q,h⟩:=h;cases i with
  |zero=>simp at e;subst e;exact#[u,rfl,q]
  |succ i=>simpa using SlR.val h (by simpa using e)
 |.own ds::r,σ,O,i,d,h,e=>by
  simp only[SlR] at h;obtain⟨a,xs,τ,P,rfl,rfl,J,q,h⟩:=h;cases i with
  |zero=>simp at e
  |succ i=>simpa using SlR.val h (by simpa using e)
theorem SlR.own:∀{sl:List Sl}{σ:List (Option V)}{O:vL_}{i:Nat}{ds:vD_},SlR K N fa H sl σ O->sl[i]? = some (.own ds)->∃a xs,σ[i]? = some (some (.ref a))/\a∈O/\H a=some (.lst xs)/\Reps K N fa H ds xs
 |[],σ,O,i,d,h,e=>by simp at e
 |.no::r,σ,O,i,d,h,e=>by
  simp only[SlR] at h;obtain⟨v,τ,rfl,h⟩:=h;cases i with
  |zero=>simp at e
  |succ i=>simpa using SlR.own h (by simpa using e)
 |.v d'::r,σ,O,i,d,h,e=>by
  simp only[SlR] at h;obtain⟨u,τ,rfl,q,h⟩:=h;cases i with
  |zero=>simp at e
  |succ i=>simpa using SlR.own h (by simpa using e)
 |.own ds::r,σ,O,i,d,h,e=>by
  simp only[SlR] at h;obtain⟨a,xs,τ,P,rfl,rfl,U,q,h⟩:=h;cases i with
  |zero=>simp at e;subst e;exact#[a,xs,rfl,HD ..,U,q]
  |succ i=>
   obtain⟨b,ys,J,m,L,M⟩:=SlR.own h (by simpa using e);exact#[b,ys,by simpa using J,HB _ m,L,M]
theorem SlR.put:∀{sl:List Sl}{σ:List (Option V)}{O:vL_}(i:Nat) {d:D}{u:V},SlR K N fa H sl σ O->Rep K N fa H d u ->
  ∃P,P.Sublist O/\SlR K N fa H (sl.set i (.v d)) (σ.set i (some u)) P/\(O.Nodup->∀a,sl[i]?.isSome=true->(∃ds,sl[i]? = some (.own ds))->σ[i]? = some (some (.ref a))->a ∉ P)
 |[],σ,O,i,d,u,h,q=>by
  simp only[SlR] at h;refine#[O,KW _,?_,fun _ a z=>by simp at z];rw[h.1,h.2];simp[SlR]
 |.no::r,σ,O,i,d,u,h,q=>by
  simp only[SlR] at h;obtain⟨v,τ,rfl,h⟩:=h;cases i with
  |zero=>exact#[O,KW _,by simp only[IV,SlR];exact#[u,τ,rfl,q,h],fun _ a _ z=>by obtain⟨ds,z⟩:=z;simp at z]
  |succ i=>
   obtain⟨P,J,h1,h2⟩:=SlR.put i h q;exact#[P,J,by simp only[Iz,SlR];exact#[v,_,rfl,h1],by simpa using h2]
 |.v d'::r,σ,O,i,d,u,h,q=>by
  simp only[SlR] at h;obtain⟨v,τ,rfl,Y,h⟩:=h;cases i with
  |zero=>exact#[O,KW _,by simp only[IV,SlR];exact#[u,τ,rfl,q,h],fun _ a _ z=>by obtain⟨ds,z⟩:=z;simp at z]
  |succ i=>
   obtain⟨P,J,h1,h2⟩:=SlR.put i h q;exact#[P,J,by simp only[Iz,SlR];exact#[v,_,rfl,Y,h1],by simpa using h2]
 |.own ds::r,σ,O,i,d,u,h,q=>by
  simp only[SlR] at h;obtain⟨a,xs,τ,P,rfl,rfl,ha,Y,h⟩:=h;cases i with
  |zero=>
   refine#[P,List.sublist_cons_self ..,by simp only[IV,SlR];exact#[u,τ,rfl,q,h],fun W b _ _ e=>?_];simp at e;subst e;exact(HR.mp W).1
  |succ i=>
   obtain⟨Z,J,h1,h2⟩:=SlR.put i h q;refine#[a::Z,J.cons_cons a,by simp only[Iz,SlR];exact#[a,xs,_,Z,rfl,rfl,ha,Y,h1],fun W b e1 M U=>?_];have L:=HR.mp W;have n1:=h2 L.2 b (by simpa using e1) (by simpa using M) (by simpa using U);intro z;rcases xr.mp z with z | z
   .subst z;obtain⟨dz,M⟩:=M;obtain⟨b',_,e4,m,_⟩:=SlR.own h (i:=i) (by simpa using M);rw[KY] at U;rw[U] at e4;cases e4;exact L.1 m
   .exact n1 z
theorem SlR.putN:∀{sl:List Sl}{σ:List (Option V)}{O:vL_}(i:Nat) {ds:vD_}{p:Addr}{xs:List V},SlR K N fa H sl σ O->i<sl.length->p ∉ O->O.Nodup->H p=some (.lst xs)->Reps K N fa H ds xs ->
  ∃P,(∀b∈P,b=p\/b∈O)/\P.Nodup/\SlR K N fa H (sl.set i (.own ds)) (σ.set i (some (.ref p))) P
 |[],σ,O,i,ds,p,xs,h,hi,hp,nd,e,q=>by simp at hi
 |.no::r,σ,O,i,ds,p,xs,h,hi,hp,nd,e,q=>by
  simp only[SlR] at h;obtain⟨v,τ,rfl,h⟩:=h;cases i with
  |zero=>exact#[p::O,fun b J=>xr.mp J,HR.mpr #[hp,nd],by simp only[IV,SlR];exact#[p,xs,τ,O,rfl,rfl,e,q,h]]
  |succ i=>
   obtain⟨P,h1,h2,M⟩:=SlR.putN i h (by simpa using hi) hp nd e q;exact#[P,h1,h2,by simp only[Iz,SlR];exact#[v,_,rfl,M]]
 |.v d'::r,σ,O,i,ds,p,xs,h,hi,hp,nd,e,q=>by
  simp only[SlR] at h;obtain⟨v,τ,rfl,U,h⟩:=h;cases i with
  |zero=>exact#[p::O,fun b J=>xr.mp J,HR.mpr #[hp,nd],by simp only[IV,SlR];exact#[p,xs,τ,O,rfl,rfl,e,q,h]]
  |succ i=>
   obtain⟨P,h1,h2,M⟩:=SlR.putN i h (by simpa using hi) hp nd e q;exact#[P,h1,h2,by simp only[Iz,SlR];exact#[v,_,rfl,U,M]]
 |.own ds'::r,σ,O,i,ds,p,xs,h,hi,hp,nd,e,q=>by
  simp only[SlR] at h;obtain⟨a,ys,τ,P,rfl,rfl,Y,U,h⟩:=h;have L:=HR.mp nd;cases i with
  |zero=>
   refine#[p::P,fun b J=>(xr.mp J).imp id fun z=>HB _ z,HR.mpr #[fun z=>hp (HB _ z),L.2],?_];simp only[IV,SlR];exact#[p,xs,τ,P,rfl,rfl,e,q,h]
  |succ i=>
   obtain⟨W,h1,h2,M⟩:=SlR.putN i h (by simpa using hi) (fun z=>hp (HB _ z)) L.2 e q;refine#[a::W,fun b J=>?_,HR.mpr #[fun z=>?_,h2],by simp only[Iz,SlR];exact#[a,ys,_,W,rfl,rfl,Y,U,M]]
   .rcases xr.mp J with z | z
    .exact .inr (by rw[z];exact HD ..)
    .exact(h1 b z).imp id fun y=>HB _ y
   .rcases h1 a z with y | y
    .exact hp (by rw[y];exact HD ..)
    .exact L.1 y
theorem SlR.rew:∀{sl:List Sl}{σ:List (Option V)}{O:vL_}{i:Nat}{ds es:vD_}{a:Addr}{ys:List V},SlR K N fa H sl σ O->O.Nodup->(∀b∈O,N b)->sl[i]? = some (.own ds)->σ[i]? = some (some (.ref a))->H' a=some (.lst ys) ->
  Car K N fa H N fa H'->(∀b u,b≠a->H b=some u->H' b=some u)->Reps K N fa H' es ys->SlR K N fa H' (sl.set i (.own es)) σ O
 |[],σ,O,i,ds,es,a,ys,h,nd,hN,e1,e2,e3,c,k,q=>by simp at e1
 |.no::r,σ,O,i,ds,es,a,ys,h,nd,hN,e1,e2,e3,c,k,q=>by
  simp only[SlR] at h;obtain⟨v,τ,rfl,h⟩:=h;cases i with
  |zero=>simp at e1
  |succ i=>simp only[Iz,SlR];exact#[v,τ,rfl,SlR.rew h nd hN (by simpa using e1) (by simpa using e2) e3 c k q]
 |.v d'::r,σ,O,i,ds,es,a,ys,h,nd,hN,e1,e2,e3,c,k,q=>by
  simp only[SlR] at h;obtain⟨v,τ,rfl,M,h⟩:=h;cases i with
  |zero=>simp at e1
  |succ i=>simp only[Iz,SlR];exact#[v,τ,rfl,Rep.go c _ _ M,SlR.rew h nd hN (by simpa using e1) (by simpa using e2) e3 c k q]
 |.own ds'::r,σ,O,i,ds,es,a,ys,h,nd,hN,e1,e2,e3,c,k,q=>by
  simp only[SlR] at h;obtain⟨b,zs,τ,P,rfl,rfl,Y,M,h⟩:=h;have J:=HR.mp nd;cases i with
  |zero=>
   simp at e2;subst e2;simp only[IV,SlR];exact#[b,ys,τ,P,rfl,rfl,e3,q,SlR.go c (fun x xs L z=>k x _ (fun y=>J.1 (y▸L)) z) h]
  |succ i=>
   have W:b≠a:=fun z=>by
    obtain⟨Z,_,U,m,_⟩:=SlR.own h (i:=i) (by simpa using e1);rw[KY] at e2;rw[e2] at U;cases U;exact J.1 (z▸m)
   simp only[Iz,SlR];exact#[b,zs,τ,P,rfl,rfl,k b _ W Y,Reps.go c _ _ M,SlR.rew h J.2 (fun x L=>hN x (HB _ L)) (by simpa using e1) (by simpa using e2) e3 c k q]
theorem RepB.stp {v:V}(I:GI K g σ H fa O s) (a:StE fa O H fa' O' H') (h:RepB K (NN g.F fa O) fa H d v):RepB K (NN g.F fa' O') fa' H' d v:=by
 have c:=I.car a.stp;cases d with
 |lst ds=>
  obtain⟨x,xs,e,J,q,r⟩:=h;refine#[x,xs,e,fun z=>?_,a.same _ _ q J,Reps.go c ds xs r];rcases a.fe with y | ⟨_,y⟩
  .rw[y] at z;exact J z
  .rw[y x z] at q;cases q
 |_=>
  simp only[RepB] at h ⊢;exact Rep.go c _ _ h
def Rep.stp {v:V}(I:GI K g σ H fa O s) (a:Stp fa O H fa' O' H') (h:Rep K (NN g.F fa O) fa H d v):Rep K (NN g.F fa' O') fa' H' d v:=Rep.go (I.car a) d v h
def Reps.stp (I:GI K g σ H fa O s) (a:Stp fa O H fa' O' H') (h:Reps K (NN g.F fa O) fa H ds xs):Reps K (NN g.F fa' O') fa' H' ds xs:=Reps.go (I.car a) ds xs h
def F7 {p:Addr}{o:HO}(h:H p=none):StE fa O H fa O (l8 H p o):=
 #[fun _ h=>h,.inl rfl,fun b u e _=>by rw[v5 (M6 e h)];exact e,fun b z=>by
  by_cases J:b=p
  .subst J;exact h
  .rw[v5 J] at z;exact z]
def FeedR.car {fs:vO_}(c:Car K N fa H N' fa H') (h:∀a,fa=some a->H' a=H a) (f:FeedR N H fa fs):FeedR N' H' fa fs:=by
 cases fa with
 |none=>cases fs <;> simpa only[FeedR] using f
 |some a=>
  cases fs with
  |none=>simpa only[FeedR] using f
  |some x=>
   simp only[FeedR] at f ⊢;obtain⟨l,b,h1,h2,J⟩:=f;obtain⟨q,n⟩:=c.ls b _ h2 J;exact#[l,b,by rw[h a rfl];exact h1,n,q]
def FeedR.same_new {fs:vO_}{p:Addr}{o:HO}(f:FeedR N H fa fs) (h:H p=none):∀a,fa=some a->l8 H p o a=H a:=fun a e=>v5 fun z=>f.tracked e (z▸h)
def DI.new {p:Addr}{o:HO}(I:GI K g σ H fa O s) (h:H p=none):GI K g σ (l8 H p o) fa O s:=by
 have a:StE fa O H fa O (l8 H p o):=F7 h;refine#[I.nd,SlR.go (I.car a.stp) (fun b xs J e=>?_) I.sl,I.fr,I.st.trans ((F7 (O:=[]) h).stp),I.tr,I.ff,I.fd.car (I.car a.stp) (I.fd.same_new h),I.nf];rw[v5 (M6 e h)];exact e
end
abbrev DE:=DS->Option (D × DS)
variable {fe:DE}
abbrev DT:=DS->Option (Bool × DS)
variable {c fc:DT}
abbrev DA:=DS->Option (List D × DS)
variable {fi:DA}
inductive Fl where
 | next | brk | cont | ret (d:D) | thr (c:Str) (ds:vD_)
abbrev DM:=DS->Option (Fl × DS)
structure NewL (K:vF_) (g:Gh) (σ:L2.St) (H:Hp) (fa:vA_) (O:vL_) (s:DS) (p:Addr) (xs:List V) (ds:vD_):Prop where
 gi:GI K g σ H fa O s
 ls:H p=some (.lst xs)
 sl:SlR K (fun b=>NN g.F fa O b\/b=p) fa H s.sl σ O
 fd:FeedR (fun b=>NN g.F fa O b\/b=p) H fa s.fs
 rs:Reps K (fun b=>NN g.F fa O b\/b=p) fa H ds xs
 nf:fa≠some p
section
variable (K:vF_) (g:Gh)
def liftE (f:DE):TE:=fun σ H Q=>∃fa O s d s',GI K g σ H fa O s/\f s=some (d,s') /\
 ∀v H' fa' O',StE fa O H fa' O' H'->GI K g σ H' fa' O' s'->Rep K (NN g.F fa' O') fa' H' d v->Q v H'
def liftB (f:DE):TE:=fun σ H Q=>∃fa O s d s',GI K g σ H fa O s/\f s=some (d,s') /\
 ∀v H' fa' O',StE fa O H fa' O' H'->GI K g σ H' fa' O' s'->RepB K (NN g.F fa' O') fa' H' d v->Q v H'
def liftF (f:DA):TE:=fun σ H Q=>∃fa O s ds s',GI K g σ H fa O s/\f s=some (ds,s') /\
 ∀p xs H' fa' O',StE fa O H fa' O' H'->NewL K g σ H' fa' O' s' p xs ds->H p=none->Q (.ref p) H'
def liftT (f:DT):TT:=fun σ H Q=>∃fa O s d s',GI K g σ H fa O s/\f s=some (d,s') /\
 ∀H' fa' O',StE fa O H fa' O' H'->GI K g σ H' fa' O' s'->Q d H'
def liftA (f:DA):TA:=fun σ H Q=>∃fa O s ds s',GI K g σ H fa O s/\f s=some (ds,s') /\
 ∀vs H' fa' O',StE fa O H fa' O' H'->GI K g σ H' fa' O' s'->Reps K (NN g.F fa' O') fa' H' ds vs->Q vs H'
def liftBA (f:DA):TA:=fun σ H Q=>∃fa O s ds s',GI K g σ H fa O s/\f s=some (ds,s') /\
 ∀vs H' fa' O',StE fa O H fa' O' H'->GI K g σ H' fa' O' s'->U1 K (NN g.F fa' O') fa' H' ds vs->Q vs H'
def FlK (E:Ends) (fa:vA_) (O:vL_) (H:Hp) (fl:Fl) (s':DS):Prop:=
 match fl with
 |.next=>∀σ' H' fa' O',Stp fa O H fa' O' H'->GI K g σ' H' fa' O' s'->E.nx σ' H'
 |.brk=>∀σ' H' fa' O',Stp fa O H fa' O' H'->GI K g σ' H' fa' O' s'->E.bk σ' H'
 |.cont=>∀σ' H' fa' O',Stp fa O H fa' O' H'->GI K g σ' H' fa' O' s'->E.ct σ' H'
 |.ret d=>∀σ' v H' fa' O',Stp fa O H fa' O' H'->GI K g σ' H' fa' O' s'->Rep K (NN g.F fa' O') fa' H' d v->E.rt v H'
 |.thr c ds=>∀σ' C dx od xs H' fa' O',Stp fa O H fa' O' H'->GI K g σ' H' fa' O' s'->PySem.W.nsIn K mainGlobals c=some (some (.ref C))->H' dx=some (.frz od (.xd (fnm.zip xs)))->Reps K (NN g.F fa' O') fa' H' ds xs->g.xq σ' (.ref C) (some dx) H'
def liftS (f:DM):TS:=fun E σ H=>∃fa O s fl s',GI K g σ H fa O s/\f s=some (fl,s')/\FlK K g E fa O H fl s'
end
section
variable {K:vF_}{σ:L2.St}
def liftE.elim {f:DE}{Q:VK}(h:liftE K g f σ H Q) (k:∀fa O s d s',GI K g σ H fa O s->f s=some (d,s')->(∀v H' fa' O',StE fa O H fa' O' H'->GI K g σ H' fa' O' s'->Rep K (NN g.F fa' O') fa' H' d v->Q v H')->G):G:=by
 obtain⟨fa,O,s,d,s',a,b,c⟩:=h;exact k fa O s d s' a b c
def liftB.elim {f:DE}{Q:VK}(h:liftB K g f σ H Q) (k:∀fa O s d s',GI K g σ H fa O s->f s=some (d,s')->(∀v H' fa' O',StE fa O H fa' O' H'->GI K g σ H' fa' O' s'->RepB K (NN g.F fa' O') fa' H' d v->Q v H')->G):G:=by
 obtain⟨fa,O,s,d,s',a,b,c⟩:=h;exact k fa O s d s' a b c
def liftF.elim {f:DA}{Q:VK}(h:liftF K g f σ H Q) (k:∀fa O s d s',GI K g σ H fa O s->f s=some (d,s')->(∀p xs H' fa' O',StE fa O H fa' O' H'->NewL K g σ H' fa' O' s' p xs d->H p=none->Q (.ref p) H')->G):G:=by
 obtain⟨fa,O,s,d,s',a,b,c⟩:=h;exact k fa O s d s' a b c
def liftT.elim {f:DT}{Q:Bool->Hp->Prop}(h:liftT K g f σ H Q) (k:∀fa O s d s',GI K g σ H fa O s->f s=some (d,s')->(∀H' fa' O',StE fa O H fa' O' H'->GI K g σ H' fa' O' s'->Q d H')->G):G:=by
 obtain⟨fa,O,s,d,s',a,b,c⟩:=h;exact k fa O s d s' a b c
def liftA.elim {f:DA}{Q:List V->Hp->Prop}(h:liftA K g f σ H Q) (k:∀fa O s d s',GI K g σ H fa O s->f s=some (d,s')->(∀vs H' fa' O',StE fa O H fa' O' H'->GI K g σ H' fa' O' s'->Reps K (NN g.F fa' O') fa' H' d vs->Q vs H')->G):G:=by
 obtain⟨fa,O,s,d,s',a,b,c⟩:=h;exact k fa O s d s' a b c
def liftBA.elim {f:DA}{Q:List V->Hp->Prop}(h:liftBA K g f σ H Q) (k:∀fa O s d s',GI K g σ H fa O s->f s=some (d,s')->(∀vs H' fa' O',StE fa O H fa' O' H'->GI K g σ H' fa' O' s'->U1 K (NN g.F fa' O') fa' H' d vs->Q vs H')->G):G:=by
 obtain⟨fa,O,s,d,s',a,b,c⟩:=h;exact k fa O s d s' a b c
def liftS.elim {f:DM}{E:Ends}(h:liftS K g f E σ H) (k:∀fa O s d s',GI K g σ H fa O s->f s=some (d,s')->(FlK K g E fa O H d s')->G):G:=by
 obtain⟨fa,O,s,d,s',a,b,c⟩:=h;exact k fa O s d s' a b c
end
structure EO (X:Cx) (g:Gh) (e:Expr) (f:DE):Prop where
 pe:PE X e (liftE X.K g f)
structure BO (X:Cx) (g:Gh) (e:Expr) (f:DE):Prop where
 pe:PE X e (liftB X.K g f)
structure FO (X:Cx) (g:Gh) (e:Expr) (f:DA):Prop where
 pe:PE X e (liftF X.K g f)
structure TO (X:Cx) (g:Gh) (e:Expr) (f:DT):Prop where
 pe:PT X e (liftT X.K g f)
structure WO (X:Cx) (g:Gh) (e:Expr) (f:DT):Prop where
 pe:PW X e (liftT X.K g f)
structure AO (X:Cx) (g:Gh) (es:List Expr) (f:DA):Prop where
 pe:PA X es (liftA X.K g f)
structure BAO (X:Cx) (g:Gh) (es:List Expr) (f:DA):Prop where
 pe:PA X es (liftBA X.K g f)
structure SO (X:Cx) (g:Gh) (st:Stmt) (f:DM):Prop where
 pe:PS X st (liftS X.K g f)
structure SSO (X:Cx) (g:Gh) (st:List Stmt) (f:DM):Prop where
 pe:PSs X st (liftS X.K g f)
section
variable {f:DE}
def jJ {t t':TE}(h:PE X e t) (w:∀σ H Q,t' σ H Q->t σ H Q):PE X e t':=fun pins s σ H Q I q=>h pins s σ H Q I (w σ H Q q)
def yu {t t':TT}(h:PT X e t) (w:∀σ H Q,t' σ H Q->t σ H Q):PT X e t':=fun pins s σ H Q I q=>h pins s σ H Q I (w σ H Q q)
def vR {t t':TT}(h:PW X e t) (w:∀σ H Q,t' σ H Q->t σ H Q):PW X e t':=fun J pins s σ H Q I q=>h J pins s σ H Q I (w σ H Q q)
def nT {t t':TA}(h:PA X es t) (w:∀σ H Q,t' σ H Q->t σ H Q):PA X es t':=fun pos pins s σ H Q I q=>h pos pins s σ H Q I (w σ H Q q)
def GQ {st:Stmt}{t t':TS}(h:PS X st t) (w:∀E σ H,t' E σ H->t E σ H):PS X st t':=fun pins s σ H E I q=>h pins s σ H E I (w E σ H q)
def vt {st:List Stmt}{t t':TS}(h:PSs X st t) (w:∀E σ H,t' E σ H->t E σ H):PSs X st t':=fun pins s σ H E I q=>h pins s σ H E I (w E σ H q)
theorem EO.w {f:DE}{t:TE}(h:PE X e t) (w:∀σ H Q,liftE X.K g f σ H Q->t σ H Q):EO X g e f:=#[jJ h w]
theorem BO.w {f:DE}{t:TE}(h:PE X e t) (w:∀σ H Q,liftB X.K g f σ H Q->t σ H Q):BO X g e f:=#[jJ h w]
theorem FO.w {f:DA}{t:TE}(h:PE X e t) (w:∀σ H Q,liftF X.K g f σ H Q->t σ H Q):FO X g e f:=#[jJ h w]
theorem TO.w {f:DT}{t:TT}(h:PT X e t) (w:∀σ H Q,liftT X.K g f σ H Q->t σ H Q):TO X g e f:=#[yu h w]
theorem WO.w {f:DT}{t:TT}(h:PW X e t) (w:∀σ H Q,liftT X.K g f σ H Q->t σ H Q):WO X g e f:=#[vR h w]
theorem AO.w {f:DA}{t:TA}(h:PA X es t) (w:∀σ H Q,liftA X.K g f σ H Q->t σ H Q):AO X g es f:=#[nT h w]
theorem BAO.w {f:DA}{t:TA}(h:PA X es t) (w:∀σ H Q,liftBA X.K g f σ H Q->t σ H Q):BAO X g es f:=#[nT h w]
theorem SO.w {st:Stmt}{f:DM}{t:TS}(h:PS X st t) (w:∀E σ H,liftS X.K g f E σ H->t E σ H):SO X g st f:=#[GQ h w]
theorem SSO.w {st:List Stmt}{f:DM}{t:TS}(h:PSs X st t) (w:∀E σ H,liftS X.K g f E σ H->t E σ H):SSO X g st f:=#[vt h w]
theorem EO.b (h:EO X g e f):BO X g e f:=BO.w h.pe fun σ H Q ⟨fa,O,s,d,s',I,e,k⟩=>#[fa,O,s,d,s',I,e,fun v H' fa' O' a J r=>k v H' fa' O' a J (r.b fun _ z=>.inr (.inr z))]
noncomputable def i5 (f:DA):DE:=fun s=>(f s).map fun p=>(.lst p.1,p.2)
def ck {K:vF_}{O':vL_}{s:DS}{p:Addr}(I:GI K g σ H fa O s) (a:StE fa O H fa' O' H') (J:GI K g σ H' fa' O' s') (e:H p=none) (e':fa'≠some p):¬ NN g.F fa' O' p:=by
 rintro(z | z | z)
 .exact I.trF z e
 .obtain⟨ys,q⟩:=I.owned (a.sub p z);rw[e] at q;cases q
 .exact e' z
def FO.v {f:DA}(h:FO X g e f):EO X g e (i5 f):=EO.w h.pe fun σ H Q M=>by
 refine M.elim fun fa O s d s' I e k=>?_
 simp only[i5] at e;cases q:f s with
 |none=>rw[q] at e;cases e
 |some p=>
  obtain⟨ds,s1⟩:=p;rw[q] at e;simp only[KS,HL,Hy] at e;obtain⟨J,U⟩:=e;subst J;subst U;refine#[fa,O,s,ds,s1,I,q,fun p xs H' fa' O' a L J=>k _ H' fa' O' a L.gi ?_];simp only[Rep];exact#[p,xs,rfl,ck I a L.gi J L.nf,L.ls,Reps.go #[fun b ys n q=>#[q,fun z=>n (.inl z)],fun _ _ q=>q,fun _ _ q=>q,fun _ q=>q] ds xs L.rs]
end
def iz {K:vF_}{s:DS}{p:Addr}{o:HO}(I:GI K g σ H fa O s) (J:H p=none):Car K (NN g.F fa O) fa H (fun b=>NN g.F fa O b\/b=p) fa (l8 H p o):=by
 have c:=I.car (F7 (fa:=fa) (O:=O) (o:=o) J).stp;refine#[fun b xs n q=>?_,c.tp,c.fz,c.fe];obtain⟨L,M⟩:=c.ls b xs n q;refine#[L,?_];rintro(z | z)
 .exact M z
 .subst z;rw[J] at q;cases q
def T1 {K:vF_}{s:DS}{p:Addr}(I:GI K g σ H fa O s) (J:H p=none) (r:Reps K (NN g.F fa O) fa H ds xs):NewL K g σ (l8 H p (.lst xs)) fa O s p xs ds:=
 #[I.new J,D1,SlR.go (iz I J) (fun b ys _ e=>by rw[v5 (M6 e J)];exact e) I.sl,I.fd.car (iz I J) (I.fd.same_new J),Reps.go (iz I J) ds xs r,fun z=>I.fd.tracked z J]
def dC (d:D):DE:=fun s=>some (d,s)
def dV (i:Nat):DE:=fun s=>match s.sl[i]? with
 |some (.v d)=>some (d,s)
 |some (.own ds)=>some (.lst ds,{ s with sl:=s.sl.set i (.v (.lst ds)) })
 |_=>none
def dL (i:Nat):DE:=fun s=>match s.sl[i]? with
 |some (.v d)=>some (d,s)
 |some (.own ds)=>some (.lst ds,s)
 |_=>none
def J4 (h:PE X (.Name x pos) (X3 i)):BO X g (.Name x pos) (dL i):=BO.w h fun σ H Q L=>by
 refine L.elim fun fa O s d s' I e k=>?_
 simp only[dL] at e;cases q:s.sl[i]? with
 |none=>rw[q] at e;cases e
 |some z=>
  rw[q] at e;cases z with
  |no=>cases e
  |v U=>
   cases e;obtain⟨u,J,r⟩:=SlR.val I.sl q;exact#[u,J,k u H fa O StE.refl I (r.b fun _ z=>.inr (.inr z))]
  |own ds=>
   cases e;obtain⟨a,xs,J,m,M,r⟩:=SlR.own I.sl q;exact#[_,J,k _ H fa O StE.refl I #[a,xs,rfl,fun z=>I.nf a z m,M,r]]
def bM (h:PE X (.Name x pos) (X3 i)):EO X g (.Name x pos) (dV i):=EO.w h fun σ H Q hQ=>by
 refine hQ.elim fun fa O s d s' I e k=>?_
 simp only[dV] at e;cases q:s.sl[i]? with
 |none=>rw[q] at e;cases e
 |some z=>
  rw[q] at e;cases z with
  |no=>cases e
  |v d'=>
   cases e;obtain⟨u,L,r⟩:=SlR.val I.sl q;exact#[u,L,k u H fa O StE.refl I r]
  |own ds=>
   cases e;obtain⟨a,xs,L,m,e2,r⟩:=SlR.own I.sl q;have i':i<s.sl.length:=(HQ.mp q).1
   let N1:Addr->Prop:=fun b=>NN g.F fa O b/\b≠a
   have U:Car X.K (NN g.F fa O) fa H N1 fa H:=#[fun b ys n z=>#[z,fun y=>n y.1],fun _ _ z=>z,fun _ _ z=>z,fun _ z=>z]
   have S1:=SlR.go U (fun _ _ _ z=>z) I.sl;have Y:Rep X.K N1 fa H (.lst ds) (.ref a):=by
    simp only[Rep];exact#[a,xs,rfl,fun z=>z.2 rfl,e2,Reps.go U ds xs r]
   obtain⟨P,hs,Z,hn⟩:=SlR.put i S1 Y;have na:a ∉ P:=hn I.nd a (by rw[q];rfl) #[ds,q] L;have eσ:σ.set i (some (V.ref a))=σ:=by
    apply List.ext_getElem?;intro j;by_cases hj:j=i
    .subst hj;rw[L,JT (HQ.mp L).1]
    .rw[IK (Hz hj)]
   rw[eσ] at Z;have J:∀b∈P,b∈O:=fun b W=>hs.subset W
   have a1:StE fa O H fa P H:=#[J,.inl rfl,fun _ _ z _=>z,fun _ z=>z]
   have M:Car X.K N1 fa H (NN g.F fa P) fa H:=#[fun b ys n z=>#[z,fun y=>n #[by
     rcases y with y | y | y
     .exact .inl y
     .exact .inr (.inl (J b y))
     .exact .inr (.inr y),fun w=>by
     subst w;rcases y with y | y | y
     .exact I.tr b y (I.fr b m)
     .exact na y
     .exact I.nf b y m]],fun _ _ z=>z,fun _ _ z=>z,fun _ z=>z]
   refine#[_,L,k _ H fa P a1 #[hs.nodup I.nd,SlR.go M (fun _ _ _ z=>z) Z,fun b W=>I.fr b (J b W),I.st,I.tr,I.ff,(I.fd.car U fun _ _=>rfl).car M fun _ _=>rfl,fun b z y=>I.nf b z (J b y)] (Rep.go M _ _ Y)]
def gM {v:V}(h:PE X e (tC v)) (r:∀K N fa H,Rep K N fa H d v):EO X g e (dC d):=EO.w h fun σ H Q L=>by
 refine L.elim fun fa O s U s' I q k=>?_
 simp only[dC,HL,Hy] at q;obtain⟨J,M⟩:=q;subst J;subst M;exact k v H fa O StE.refl I (r _ _ _ _)
def et {i j pos}:EO X g (.Constant (.int i) j pos) (dC (.int i)):=gM cq fun _ _ _ _=>by simp only[Rep]
def U4 {i j pos}:EO X g (.Constant (.bool i) j pos) (dC (.bl i)):=gM Gr fun _ _ _ _=>by simp only[Rep]
def GZ {j pos}:EO X g (.Constant .none j pos) (dC .non):=gM vm fun _ _ _ _=>by simp only[Rep]
def xm {x j pos} (J:x.length<=sizeLine):EO X g (.Constant (.str x) j pos) (dC (.str x)):=gM av fun _ _ _ _=>by simp only[Rep];exact#[trivial,J]
def B8 (K:vF_) (r:R2) (p:D->D->Option D):Prop:=
 ∀(g:Gh) (σ:L2.St) (H:Hp) (fa:vA_) (O:vL_) (s:DS) (x y:V) (d1 d2 d:D) (Q:VK),GI K g σ H fa O s->RepB K (NN g.F fa O) fa H d1 x->RepB K (NN g.F fa O) fa H d2 y->p d1 d2=some d ->
  (∀v H',StE fa O H fa O H'->GI K g σ H' fa O s->Rep K (NN g.F fa O) fa H' d v->Q v H')->r x y H Q
def ou (K:vF_) (r:V->Hp->VK->Prop) (p:D->Option D):Prop:=
 ∀(g:Gh) (σ:L2.St) (H:Hp) (fa:vA_) (O:vL_) (s:DS) (x:V) (d1 d:D) (Q:VK),GI K g σ H fa O s->RepB K (NN g.F fa O) fa H d1 x->p d1=some d ->
  (∀v H',StE fa O H fa O H'->GI K g σ H' fa O s->Rep K (NN g.F fa O) fa H' d v->Q v H')->r x H Q
def kW (K:vF_) (r:R2) (p:D->D->Option (List D)):Prop:=
 ∀(g:Gh) (σ:L2.St) (H:Hp) (fa:vA_) (O:vL_) (s:DS) (x y:V) (d1 d2:D) (ds:vD_) (Q:VK),GI K g σ H fa O s->RepB K (NN g.F fa O) fa H d1 x->RepB K (NN g.F fa O) fa H d2 y->p d1 d2=some ds ->
  (∀q xs H',StE fa O H fa O H'->NewL K g σ H' fa O s q xs ds->H q=none->Q (.ref q) H')->r x y H Q
def M9 (K:vF_) (r:List V->Hp->VK->Prop) (p:List D->Option D):Prop:=
 ∀(g:Gh) (σ:L2.St) (H:Hp) (fa:vA_) (O:vL_) (s:DS) (xs:List V) (ds:vD_) (d:D) (Q:VK),GI K g σ H fa O s->U1 K (NN g.F fa O) fa H ds xs->p ds=some d ->
  (∀v H',StE fa O H fa O H'->GI K g σ H' fa O s->Rep K (NN g.F fa O) fa H' d v->Q v H')->r xs H Q
def eu (K:vF_) (r:List V->Hp->VK->Prop) (p:List D->Option (List D)):Prop:=
 ∀(g:Gh) (σ:L2.St) (H:Hp) (fa:vA_) (O:vL_) (s:DS) (xs:List V) (ds es:vD_) (Q:VK),GI K g σ H fa O s->U1 K (NN g.F fa O) fa H ds xs->p ds=some es ->
  (∀q ys H',StE fa O H fa O H'->NewL K g σ H' fa O s q ys es->H q=none->Q (.ref q) H')->r xs H Q
noncomputable def a6 (p:D->D->Option D) (a b:DE):DE:=fun s=>(a s).bind fun x=>(b x.2).bind fun y=>(p x.1 y.1).map fun d=>(d,y.2)
def Y0 (p:D->D->Option (List D)) (a b:DE):DA:=fun s=>(a s).bind fun x=>(b x.2).bind fun y=>(p x.1 y.1).map fun d=>(d,y.2)
noncomputable def j8 (p:D->Option D) (a:DE):DE:=fun s=>(a s).bind fun x=>(p x.1).map fun d=>(d,x.2)
def mN {α:Type}{p:D->D->Option α}{a b:DE}{s:DS}{d:α}(h:((a s).bind fun x=>(b x.2).bind fun y=>(p x.1 y.1).map fun d=>(d,y.2))=some (d,s')):∃x s1 y,a s=some (x,s1)/\b s1=some (y,s')/\p x y=some d:=by
 refine A1 h fun x s1 h1 h=>?_
 refine A1 h fun y s2 h2 h=>?_
 refine K7 h fun U L h=>?_
 simp only[Hy] at h;obtain⟨J,M⟩:=h;subst J;subst M;exact#[x,s1,y,h1,h2,L]
section
variable {a b:Expr}{fa fb:DE}{r:R2}
def gp {r:R2}(hr:B8 X.K r p) (σ:L2.St) (H:Hp) (Q:VK) (h:liftE X.K g (a6 p fa fb) σ H Q):aN r (liftB X.K g fa) (liftB X.K g fb) σ H Q:=by
 obtain⟨Y,O,s,d,s',I,e,k⟩:=h;obtain⟨x,s1,y,h1,h2,h3⟩:=mN e;refine#[Y,O,s,x,s1,I,h1,fun v H1 f1 O1 a1 M r1=>#[f1,O1,s1,y,s',M,h2,fun u H2 U L J I2 Z=>?_]];exact hr g σ H2 U L s' v u x y d Q I2 (RepB.stp M J r1) Z h3 fun z H3 W I3 r3=>k z H3 U L (a1.trans (J.trans W)) I3 r3
def FW {r:R2}{p:D->D->Option (List D)}(Z:kW X.K r p) (σ:L2.St) (H:Hp) (Q:VK) (h:liftF X.K g (Y0 p fa fb) σ H Q):aN r (liftB X.K g fa) (liftB X.K g fb) σ H Q:=by
 obtain⟨f0,O,s,d,s',I,e,k⟩:=h;obtain⟨x,s1,y,h1,h2,h3⟩:=mN e;refine#[f0,O,s,x,s1,I,h1,fun v H1 f1 O1 W M r1=>#[f1,O1,s1,y,s',M,h2,fun u H2 U Y J I2 r2=>?_]];exact Z g σ H2 U Y s' v u x y d Q I2 (RepB.stp M J r1) r2 h3 fun q xs H3 a3 L e1=>k q xs H3 U Y (W.trans (J.trans a3)) L (W.mon _ (J.mon _ e1))
def si {J:Operator}(M:OpR X (binaryOp J) r) (L:B8 X.K r p) (W:BO X g a fa) (U:BO X g b fb):EO X g (.BinOp a J b pos) (a6 p fa fb):=EO.w (nP M W.pe U.pe) (gp L)
def cY {J:Operator}{p:D->D->Option (List D)}(M:OpR X (binaryOp J) r) (L:kW X.K r p) (W:BO X g a fa) (U:BO X g b fb):FO X g (.BinOp a J b pos) (Y0 p fa fb):=FO.w (nP M W.pe U.pe) (FW L)
def lR {J:CmpOp}(U:OpR X (compareOp J) r) (L:B8 X.K r p) (Y:BO X g a fa) (W:BO X g b fb) (M:behindInMarks J b=false):EO X g (.Compare a [J] [b] pos) (a6 p fa fb):=EO.w (wu U Y.pe W.pe M) (gp L)
def sC {r:R2}(M:IxR X r) (J:B8 X.K r p) (W:BO X g a fa) (U:BO X g b fb) (L:rH b):EO X g (.Subscript a b pos) (a6 p fa fb):=EO.w (yi M W.pe U.pe L) (gp J)
def Cn {J:UnaryOp}{r:V->Hp->VK->Prop}{p:D->Option D}(ho:eA X (unaryOp J) r) (hr:ou X.K r p) (ha:BO X g a fa):EO X g (.UnaryOp J a pos) (j8 p fa):=EO.w (Dz ho ha.pe) fun σ H Q W=>by
 refine W.elim fun U O s d s' I e k=>?_
 refine A1 e fun x s1 h1 h=>?_
 refine K7 h fun L h3 h=>?_
 simp only[Hy] at h;obtain⟨e1,e2⟩:=h;subst e1;subst e2;exact#[U,O,s,x,s1,I,h1,fun v H1 f1 O1 a1 I1 r1=>hr g σ H1 f1 O1 s1 v x L Q I1 r1 h3 fun z Z M I3 Y=>k z Z f1 O1 (a1.trans M) I3 Y]
noncomputable def dB (f:DE):DT:=fun s=>(f s).bind fun x=>match x.1 with | .bl b=>some (b,x.2) | _=>none
def kX {f:DE}{s:DS}{b:Bool}(h:dB f s=some (b,s')):f s=some (.bl b,s'):=by
 refine A1 h fun x s1 h1 h=>?_
 cases x with
 |bl c=>simp only[HL,Hy] at h;rw[h1,h.1,h.2]
 |_=>cases h
def mC {J:CmpOp}(ho:OpR X (compareOp J) r) (M:B8 X.K r p) (L:BO X g a fa) (Z:BO X g b fb) (W:behindInMarks J b=false):TO X g (.Compare a [J] [b] pos) (dB (a6 p fa fb)):=
 TO.w (xh ho L.pe Z.pe W) fun σ H Q ⟨Y,O,s,d,s',I,e,k⟩=>gp M σ H _ #[Y,O,s,.bl d,s',I,kX e,fun v H' f1 O1 a U r=>by
  simp only[Rep] at r;exact#[d,r,k H' f1 O1 a U]]
def o7:D->Option Bool
 |.non=>some false
 |.bl b=>some b
 |.int i=>some (i != 0)
 |.str x=>some ((x.length:Int) != 0)
 |.tup ds=>some (!ds.isEmpty)
 |.lst ds=>some (!ds.isEmpty)
 |_=>none
noncomputable def j4 (f:DE):DT:=fun s=>(f s).bind fun x=>(o7 x.1).map fun b=>(b,x.2)
def oJ {α β:Type}{xs:List α}{ys:List β}(h:xs.length=ys.length):xs.isEmpty=ys.isEmpty:=by cases xs <;> cases ys <;> simp_all
def U2 {e:Expr}{f:DE}(h:BO X g e f) (he:∀whole,isTrue e X.env whole=(do let v <-whole;standAt e.pos;holding [v] (truthy v)):=by intro _;rfl):TO X g e (j4 f):=
 TO.w (Cj h.pe he) fun σ H Q U=>by
  refine U.elim fun M O s d s' I e k=>?_
  obtain⟨⟨x,s1⟩,h1,h.pe⟩:=II.mp e;obtain⟨L,J,h.pe⟩:=Ip.mp h.pe;simp only[Hy] at h.pe;obtain⟨W,Z⟩:=h.pe;subst W;subst Z;refine#[M,O,s,x,s1,I,h1,fun v H' f1 O1 a Y r=>#[L,?_,k H' f1 O1 a Y]];cases x with
  |non=>simp only[RepB,Rep] at r;subst r;cases J;rfl
  |bl b=>simp only[RepB,Rep] at r;subst r;cases J;rfl
  |int i=>simp only[RepB,Rep] at r;subst r;cases J;rfl
  |str x=>simp only[RepB,Rep] at r;obtain⟨r,l⟩:=r;subst r;cases J;exact#[l,rfl]
  |tup ds=>
   simp only[RepB,Rep] at r;obtain⟨c,xs,r,q,w⟩:=r;subst r;cases J;exact .inr (.inl #[xs,q,by rw[oJ w.length]])
  |lst ds=>
   obtain⟨c,xs,r,_,q,w⟩:=r;subst r;cases J;exact .inl #[xs,SqL.of q,by rw[oJ w.length]]
  |feed=>cases J
  |scr _=>cases J
  |fn _=>cases J
  |exc _ _=>cases J
noncomputable def l4 (a b:DT):DT:=fun s=>(a s).bind fun x=>if x.1=true then b x.2 else some (false,x.2)
noncomputable def j7 (a b:DT):DT:=fun s=>(a s).bind fun x=>if x.1=true then some (true,x.2) else b x.2
def k6 (a:DT):DT:=fun s=>(a s).map fun x=>(!x.1,x.2)
noncomputable def m8 (a b:DE):DE:=fun s=>(dB a s).bind fun x=>if x.1=true then b x.2 else some (.bl false,x.2)
def p8 (a b:DE):DE:=fun s=>(dB a s).bind fun x=>if x.1=true then some (.bl true,x.2) else b x.2
def n9 (a:DE):DE:=fun s=>(dB a s).map fun x=>(.bl (!x.1),x.2)
variable {ta tb:DT}
def CA (h:TO X g a ta):WO X g (.BoolOp .And [a] pos) ta:=#[FY h.pe]
def qU (h:TO X g a ta):WO X g (.BoolOp .Or [a] pos) ta:=#[vh h.pe]
def sj (ha:TO X g a ta) (Z:WO X g (.BoolOp .And (b::rest) pos) tb):WO X g (.BoolOp .And (a::b::rest) pos) (l4 ta tb):=WO.w (El ha.pe Z.pe) fun σ H Q W=>by
 refine W.elim fun M O s d s' I e k=>?_
 refine A1 e fun x s1 h1 h=>?_
 refine#[M,O,s,x,s1,I,h1,fun H1 f1 O1 L J=>?_];cases x with
 |true=>rw[fI rfl] at h ⊢;exact#[f1,O1,s1,d,s',J,h,fun H2 f2 Y U I2=>k H2 f2 Y (L.trans U) I2]
 |false=>
  rw[gV Hx] at h ⊢;simp only[HL,Hy] at h;obtain⟨e1,e2⟩:=h;subst e1;subst e2;exact k H1 f1 O1 L J
def cW (ha:TO X g a ta) (Z:WO X g (.BoolOp .Or (b::rest) pos) tb):WO X g (.BoolOp .Or (a::b::rest) pos) (j7 ta tb):=WO.w (DB ha.pe Z.pe) fun σ H Q W=>by
 refine W.elim fun M O s d s' I e k=>?_
 refine A1 e fun x s1 h1 h=>?_
 refine#[M,O,s,x,s1,I,h1,fun H1 f1 O1 L J=>?_];cases x with
 |false=>rw[gV Hx] at h ⊢;exact#[f1,O1,s1,d,s',J,h,fun H2 f2 Y U I2=>k H2 f2 Y (L.trans U) I2]
 |true=>
  rw[fI rfl] at h ⊢;simp only[HL,Hy] at h;obtain⟨e1,e2⟩:=h;subst e1;subst e2;exact k H1 f1 O1 L J
def WO.t {f:DT}(h:WO X g e f):TO X g e f:=#[h.pe.pt]
def T4 (M:TO X g a ta):TO X g (.UnaryOp .Not a pos) (k6 ta):=TO.w (vJ M.pe) fun σ H Q L=>by
 refine L.elim fun J O s d s' I e k=>?_
 refine mapP e fun x s1 h1 h=>?_
 simp only[Hy] at h;obtain⟨U,Y⟩:=h;subst U;subst Y;exact#[J,O,s,x,s1,I,h1,fun H1 f1 O1 Z W=>k H1 f1 O1 Z W]
def mv {op} {f:DE}(h:EO X g a f):EO X g (.BoolOp op [a] pos) f:=#[xQ h.pe]
def tQ (ha:EO X g a fa) (Z:EO X g (.BoolOp .And (b::rest) pos) fb):EO X g (.BoolOp .And (a::b::rest) pos) (m8 fa fb):=EO.w (Ff ha.pe Z.pe) fun σ H Q W=>by
 refine W.elim fun M O s d s' I e k=>?_
 refine A1 e fun x s1 h1 h=>?_
 refine#[M,O,s,_,s1,I,kX h1,fun v H1 f1 O1 L J r=>#[x,by simpa only[Rep] using r,?_]];cases x with
 |true=>rw[fI rfl] at h ⊢;exact#[f1,O1,s1,d,s',J,h,fun v H2 f2 Y U I2=>k v H2 f2 Y (L.trans U) I2]
 |false=>
  rw[gV Hx] at h ⊢;simp only[HL,Hy] at h;obtain⟨e1,e2⟩:=h;subst e1;subst e2;exact k _ H1 f1 O1 L J (by simp only[Rep])
def oG (M:EO X g a fa):EO X g (.UnaryOp .Not a pos) (n9 fa):=EO.w (Dh M.pe) fun σ H Q L=>by
 refine L.elim fun J O s d s' I e k=>?_
 refine mapP e fun x s1 h1 h=>?_
 simp only[Hy] at h;obtain⟨U,Y⟩:=h;subst U;subst Y;exact#[J,O,s,_,s1,I,kX h1,fun v H1 f1 O1 Z W r=>#[x,by simpa only[Rep] using r,k _ H1 f1 O1 Z W (by simp only[Rep])]]
noncomputable def j9 (c:DT) (a b:DE):DE:=fun s=>(c s).bind fun x=>if x.1=true then a x.2 else b x.2
def xa {c:Expr}(hc:TO X g c fc) (ha:EO X g a fa) (hb:EO X g b fb):EO X g (.IfExp c a b pos) (j9 fc fa fb):=EO.w (Cb hc.pe ha.pe hb.pe) fun σ H Q hQ=>by
 refine hQ.elim fun Z O s d s' I e k=>?_
 refine A1 e fun x s1 h1 h=>?_
 refine#[Z,O,s,x,s1,I,h1,fun H1 f1 O1 Y W=>?_];cases x with
 |false=>rw[gV Hx] at h ⊢;exact#[f1,O1,s1,d,s',W,h,fun v H2 U L J M=>k v H2 U L (Y.trans J) M]
 |true=>rw[fI rfl] at h ⊢;exact#[f1,O1,s1,d,s',W,h,fun v H2 U L J M=>k v H2 U L (Y.trans J) M]
def a7:DA:=fun s=>some ([],s)
def a0 (a:DE) (r:DA):DA:=fun s=>(a s).bind fun x=>(r x.2).map fun y=>(x.1::y.1,y.2)
def ay {a:DE}{r:DA}{s:DS}(h:a0 a r s=some (ds,s')):∃d s1 es,a s=some (d,s1)/\r s1=some (es,s')/\ds=d::es:=by
 refine A1 h fun x s1 h1 h=>?_
 refine mapP h fun y s2 h2 h=>?_
 simp only[Hy] at h;exact#[x,s1,y,h1,by rw[h2,h.2],h.1.symm]
variable {fr:DA}
def aB:AO X g [] a7:=AO.w bR fun σ H Q M=>by
 refine M.elim fun L O s d s' I e k=>?_
 simp only[a7,HL,Hy] at e;obtain⟨J,U⟩:=e;subst J;subst U;exact k [] H L O StE.refl I (by simp only[Reps])
def bP (ha:EO X g a fa) (hr:AO X g es fr) (W:starEach (a::es) X.env=(false,eval a X.env)::starEach es X.env:=by rfl):AO X g (a::es) (a0 fa fr):=AO.w (ba ha.pe hr.pe W) fun σ H Q Z=>by
 refine Z.elim fun U O s ds s' I e k=>?_
 obtain⟨d,s1,es,h1,h2,h3⟩:=ay e;subst h3;refine#[U,O,s,d,s1,I,h1,fun v H1 f1 O1 a1 M r1=>#[f1,O1,s1,es,s',M,h2,fun J H2 f2 O2 L I2 Y=>?_]];refine k (v::J) H2 f2 O2 (a1.trans L) I2 ?_;simp only[Reps];exact#[v,J,rfl,Rep.stp M L.stp r1,Y]
def X5:BAO X g [] a7:=BAO.w bR fun σ H Q M=>by
 refine M.elim fun L O s d s' I e k=>?_
 simp only[a7,HL,Hy] at e;obtain⟨J,U⟩:=e;subst J;subst U;exact k [] H L O StE.refl I (by simp only[U1])
def DF (ha:BO X g a fa) (hr:BAO X g es fr) (W:starEach (a::es) X.env=(false,eval a X.env)::starEach es X.env:=by rfl):BAO X g (a::es) (a0 fa fr):=BAO.w (ba ha.pe hr.pe W) fun σ H Q Z=>by
 refine Z.elim fun U O s ds s' I e k=>?_
 obtain⟨d,s1,es,h1,h2,h3⟩:=ay e;subst h3;refine#[U,O,s,d,s1,I,h1,fun v H1 f1 O1 a1 M r1=>#[f1,O1,s1,es,s',M,h2,fun J H2 f2 O2 L I2 Y=>?_]];exact k (v::J) H2 f2 O2 (a1.trans L) I2 #[v,J,rfl,RepB.stp M L r1,Y]
noncomputable def d9 (f:DA):DE:=fun s=>(f s).bind fun x=>if x.1.length<=sizeLine then some (.tup x.1,x.2) else none
noncomputable def i6 (f:DA):DA:=fun s=>(f s).bind fun x=>if x.1.length<=sizeLine then some (x.1,x.2) else none
def kE {x1} (h:AO X g es fr):EO X g (.Tuple es x1 pos) (d9 fr):=EO.w (vw h.pe) fun σ H Q Z=>by
 refine Z.elim fun Y O s d s' I e k=>?_
 obtain⟨⟨ds,s1⟩,h1,h.pe⟩:=II.mp e;by_cases hl:ds.length<=sizeLine
 .rw[fI hl] at h.pe;simp only[HL,Hy] at h.pe;obtain⟨e1,e2⟩:=h.pe;subst e1;subst e2;refine#[Y,O,s,ds,s1,I,h1,fun J H1 f1 O1 a1 U M=>#[by rw[M.length];exact hl,fun p W=>?_]];have L:StE f1 O1 H1 f1 O1 (l8 H1 p (.tup J)):=F7 W;refine k _ _ f1 O1 (a1.trans L) (U.new W) ?_;simp only[Rep];exact#[p,J,rfl,SqT.of D1,Reps.stp U L.stp M]
 .rw[gV hl] at h.pe;cases h.pe
def vq (h:AO X g es fr):FO X g (.List es pos) (i6 fr):=FO.w (BX h.pe) fun σ H Q Z=>by
 refine Z.elim fun W O s d s' I e k=>?_
 obtain⟨⟨ds,s1⟩,h1,h.pe⟩:=II.mp e;by_cases hl:ds.length<=sizeLine
 .rw[fI hl] at h.pe;simp only[HL,Hy] at h.pe;obtain⟨e1,e2⟩:=h.pe;subst e1;subst e2;refine#[W,O,s,ds,s1,I,h1,fun L H1 f1 O1 U I1 M=>#[by rw[M.length];exact hl,fun p J=>?_]];have Y:StE f1 O1 H1 f1 O1 (l8 H1 p (.lst L)):=F7 J;exact k p L _ f1 O1 (U.trans Y) (T1 I1 J M) (U.mon _ J)
 .rw[gV hl] at h.pe;cases h.pe
end
section
variable {K:vF_}{σ:L2.St}{O':vL_}{s:DS}
def NN.mono {F:vB_}{P:vL_}(h:∀b∈P,b∈O) {b:Addr}(z:NN F fa P b):NN F fa O b:=by
 rcases z with z | z | z
 .exact .inl z
 .exact .inr (.inl (h b z))
 .exact .inr (.inr z)
def rZ {F:vB_}(h:∀b,NN F fa O b->N b):Car K N fa H (NN F fa O) fa H:=#[fun b xs n q=>#[q,fun z=>n (h b z)],fun _ _ q=>q,fun _ _ q=>q,fun _ q=>q]
theorem DI.put (I:GI K g σ H fa O s) (i:Nat) {v:V}(r:Rep K (NN g.F fa O) fa H d v):∃P,(∀b∈P,b∈O)/\GI K g (σ.set i (some v)) H fa P { s with sl:=s.sl.set i (.v d) }:=by
 obtain⟨P,M,S,_⟩:=SlR.put i I.sl r;have J:∀b∈P,b∈O:=fun b L=>M.subset L
 have c:Car K (NN g.F fa O) fa H (NN g.F fa P) fa H:=rZ fun b=>NN.mono J
 exact#[P,J,M.nodup I.nd,SlR.go c (fun _ _ _ z=>z) S,fun b L=>I.fr b (J b L),I.st,I.tr,I.ff,I.fd.car c fun _ _=>rfl,fun b z y=>I.nf b z (J b y)]
def fE {P:vL_}(h:∀b∈P,b∈O):StE fa O H fa P H:=#[h,.inl rfl,fun _ _ e _=>e,fun _ e=>e]
def NewL.put {p:Addr}(L:NewL K g σ H fa O s p xs ds) (i:Nat) (hi:i<s.sl.length) (M:g.H0 p=none) (U:p ∉ O):∃P,(∀b∈P,b=p\/b∈O)/\GI K g (σ.set i (some (.ref p))) H fa P { s with sl:=s.sl.set i (.own ds) }:=by
 obtain⟨P,h1,h2,S⟩:=SlR.putN i L.sl hi U L.gi.nd L.ls L.rs;have c:Car K (fun b=>NN g.F fa O b\/b=p) fa H (NN g.F fa P) fa H:=rZ fun b z=>by
  rcases z with z | z | z
  .exact .inl (.inl z)
  .rcases h1 b z with y | y
   .exact .inr y
   .exact .inl (.inr (.inl y))
  .exact .inl (.inr (.inr z))
 refine#[P,h1,h2,SlR.go c (fun _ _ _ z=>z) S,fun b J=>?_,L.gi.st,L.gi.tr,L.gi.ff,L.fd.car c fun _ _=>rfl,fun b z J=>?_]
 .rcases h1 b J with y | y
  .rw[y];exact M
  .exact L.gi.fr b y
 .rcases h1 b J with y | y
  .rw[y] at z;exact L.nf z
  .exact L.gi.nf b z y
theorem DI.rew (I:GI K g σ H fa O s) {es:vD_}(M:s.sl[i]? = some (.own ds)) (U:σ[i]? = some (some (.ref a))) (m:a∈O) (W:H a=some (.lst xs)) (r:Reps K (NN g.F fa O) fa H es ys) :
  GI K g σ (l8 H a (.lst ys)) fa O { s with sl:=s.sl.set i (.own es) }/\Stp fa O H fa O (l8 H a (.lst ys)):=by
 have L:Stp fa O H fa O (l8 H a (.lst ys)):=#[fun b J=>.inl J,.inl rfl,fun b u e n _=>by
  rw[v5 (show b≠a from fun z=>n (by rw[z];exact m))];exact e,fun b z=>by
  by_cases J:b=a
  .subst J;rw[D1] at z;cases z
  .rw[v5 J] at z;exact z]
 have c:=I.car L;have k:∀b u,b≠a->H b=some u->l8 H a (.lst ys) b=some u:=fun b u n e=>by rw[v5 n];exact e
 refine#[#[I.nd,SlR.rew I.sl I.nd (fun b J=>.inr (.inl J)) M U D1 c k (Reps.go c es ys r),I.fr,?_,I.tr,I.ff,I.fd.car c fun b J=>?_,I.nf],L]
 .refine#[fun b J=>(by cases J),I.st.fe,fun b u e n f=>?_,fun b z=>I.st.mon b (L.mon b z)];refine k b u (fun z=>?_) (I.st.same b u e n f);rw[z,I.fr a m] at e;cases e
 .refine v5 fun z=>?_
  subst z;exact I.nf _ J m
end
def FlK.shift {K:vF_}{E:Ends}{O':vL_}{s:DS}(a:Stp fa O H fa' O' H') (h:FlK K g E fa O H fl s):FlK K g E fa' O' H' fl s:=by
 cases fl with
 |next=>exact fun σ' H2 U M L J=>h σ' H2 U M (a.trans L) J
 |brk=>exact fun σ' H2 U M L J=>h σ' H2 U M (a.trans L) J
 |cont=>exact fun σ' H2 U M L J=>h σ' H2 U M (a.trans L) J
 |ret d=>exact fun σ' v H2 U M L J=>h σ' v H2 U M (a.trans L) J
 |thr c ds=>exact fun σ' C W Y xs H2 U M L J=>h σ' C W Y xs H2 U M (a.trans L) J
def f9:DM:=fun s=>some (.next,s)
def m9 (b:DM) (x:Fl × DS):Option (Fl × DS):=match x.1 with
 |.next=>b x.2
 |.brk=>some (.brk,x.2)
 |.cont=>some (.cont,x.2)
 |.ret d=>some (.ret d,x.2)
 |.thr c ds=>some (.thr c ds,x.2)
noncomputable def c8 (a b:DM):DM:=fun s=>(a s).bind (m9 b)
section
variable {st:Stmt}{rest:List Stmt}{a b:DM}{f:DE}
def P4:SSO X g [] f9:=SSO.w xO fun E σ H J=>by
 refine J.elim fun fa O s fl s' I e k=>?_
 cases e;exact k σ H fa O Stp.refl I
def D3 (h:SO X g st a):SSO X g [st] a:=#[uY h.pe]
def A4 (h:SO X g st a) (L:SSO X g rest b):SSO X g (st::rest) (c8 a b):=SSO.w (zV h.pe L.pe) fun E σ H J=>by
 refine J.elim fun fa O s fl s' I e k=>?_
 refine A1 e fun f1 s1 h1 h2=>?_
 refine#[fa,O,s,f1,s1,I,h1,?_];cases f1 with
 |next=>exact fun σ' H' f1 O1 U M=>#[f1,O1,s1,fl,s',M,h2,k.shift U]
 |brk=>cases h2;exact k
 |cont=>cases h2;exact k
 |ret d=>cases h2;exact k
 |thr c ds=>cases h2;exact k
noncomputable def d6 (f:DE):DM:=fun s=>(f s).map fun x=>(.ret x.1,x.2)
def E4 (U:EO X g e f):SO X g (.Return (some e) pos) (d6 f):=SO.w (Hh U.pe) fun E σ H J=>by
 refine J.elim fun fa O s fl s' I q k=>?_
 refine mapP q fun d s1 h1 h2=>?_
 cases h2;exact#[fa,O,s,d,s1,I,h1,fun v H' f1 O1 M L r=>k σ v H' f1 O1 M.stp L r]
noncomputable def e8 (c:DT) (a b:DM):DM:=fun s=>(c s).bind fun x=>if x.1=true then a x.2 else b x.2
def N9 {c:Expr}(M:TO X g c fc) (Y:SSO X g la a) (W:SSO X g lb b):SO X g (.If c la lb pos) (e8 fc a b):=SO.w (EN M.pe Y.pe W.pe) fun E σ H U=>by
 refine U.elim fun fa O s fl s' I e k=>?_
 refine A1 e fun x s1 h1 h=>?_
 refine#[fa,O,s,x,s1,I,h1,fun H1 f1 O1 L J=>?_];cases x with
 |false=>rw[gV Hx] at h ⊢;exact#[f1,O1,s1,fl,s',J,h,k.shift L.stp]
 |true=>rw[fI rfl] at h ⊢;exact#[f1,O1,s1,fl,s',J,h,k.shift L.stp]
def liftG (K:vF_) (g:Gh) (t:D->DS->Option DS):TG:=fun v σ H Q=>∃fa O s d s',GI K g σ H fa O s/\Rep K (NN g.F fa O) fa H d v/\t d s=some s'/\∀σ' H' fa' O',Stp fa O H fa' O' H'->GI K g σ' H' fa' O' s'->Q σ' H'
def liftGs (K:vF_) (g:Gh) (t:List D->DS->Option DS):Q7:=fun J σ H Q=>∃fa O s ds s',GI K g σ H fa O s/\Reps K (NN g.F fa O) fa H ds J/\t ds s=some s'/\∀σ' H' fa' O',Stp fa O H fa' O' H'->GI K g σ' H' fa' O' s'->Q σ' H'
section
variable {K:vF_}{σ:L2.St}{Q:L2.St->Hp->Prop}
def liftG.elim {t:D->DS->Option DS}{v:V}(h:liftG K g t v σ H Q) (k:∀fa O s d s',GI K g σ H fa O s->Rep K (NN g.F fa O) fa H d v->t d s=some s'->(∀σ' H' fa' O',Stp fa O H fa' O' H'->GI K g σ' H' fa' O' s'->Q σ' H')->G):G:=by
 obtain⟨fa,O,s,d,s',a,r,b,c⟩:=h;exact k fa O s d s' a r b c
def liftGs.elim {t:List D->DS->Option DS}{v:List V}(h:liftGs K g t v σ H Q) (k:∀fa O s d s',GI K g σ H fa O s->Reps K (NN g.F fa O) fa H d v->t d s=some s'->(∀σ' H' fa' O',Stp fa O H fa' O' H'->GI K g σ' H' fa' O' s'->Q σ' H')->G):G:=by
 obtain⟨fa,O,s,d,s',a,r,b,c⟩:=h;exact k fa O s d s' a r b c
end
structure GO (X:Cx) (g:Gh) (e:Expr) (t:D->DS->Option DS):Prop where
 pe:PG X e (liftG X.K g t)
structure GsO (X:Cx) (g:Gh) (es:List Expr) (t:List D->DS->Option DS):Prop where
 pe:W0 X es (liftGs X.K g t)
def d0 (i:Nat) (d:D):DS->Option DS:=fun s=>some { s with sl:=s.sl.set i (.v d) }
def AZ {t t':TG}(h:PG X e t) (w:∀v σ H Q,t' v σ H Q->t v σ H Q):PG X e t':=fun pins s σ H v u Q I r q=>h pins s σ H v u Q I r (w v σ H Q q)
def FQ {t t':Q7}(h:W0 X es t) (w:∀v σ H Q,t' v σ H Q->t v σ H Q):W0 X es t':=fun pins s σ H v u Q I r q=>h pins s σ H v u Q I r (w v σ H Q q)
theorem GO.w {f:D->DS->Option DS}{t:TG}(h:PG X e t) (w:∀v σ H Q,liftG X.K g f v σ H Q->t v σ H Q):GO X g e f:=#[AZ h w]
theorem GsO.w {f:List D->DS->Option DS}{t:Q7}(h:W0 X es t) (w:∀v σ H Q,liftGs X.K g f v σ H Q->t v σ H Q):GsO X g es f:=#[FQ h w]
def zR (h:PG X (.Name x pos) (R3 i)):GO X g (.Name x pos) (d0 i):=GO.w h fun v σ H Q L=>by
 refine L.elim fun fa O s d s' I r e k=>?_
 cases e;obtain⟨P,J,M⟩:=I.put i r;exact k _ H fa P (fE J).stp M
def m7:List D->DS->Option DS
 |[],s=>some s
 |_::_,_=>none
def l5 (t:D->DS->Option DS) (u:List D->DS->Option DS):List D->DS->Option DS
 |[],_=>none
 |d::r,s=>(t d s).bind (u r)
def yX:GsO X g [] m7:=GsO.w tm fun v σ H Q J=>by
 refine J.elim fun fa O s ds s' I r e k=>?_
 cases ds with
 |nil=>cases e;simp only[Reps] at r;exact#[r,k σ H fa O Stp.refl I]
 |cons d L=>cases e
def yT {es:List Expr}{t:D->DS->Option DS}{u:List D->DS->Option DS}(h:GO X g e t) (hr:GsO X g es u) (U:(assignEach (e::es) X.env).map (·.2)=assign e X.env::(assignEach es X.env).map (·.2):=by rfl):GsO X g (e::es) (l5 t u):=
 GsO.w (lq h.pe hr.pe U) fun v σ H Q W=>by
  refine W.elim fun fa O s ds s' I r e k=>?_
  cases ds with
  |nil=>cases e
  |cons d Z=>
   refine S9 e fun s1 h1 h2=>?_
   simp only[Reps] at r;obtain⟨x,ys,rfl,L,ry⟩:=r;exact#[x,ys,rfl,fa,O,s,d,s1,I,L,h1,fun σ1 H1 f1 O1 J I1=>#[f1,O1,s1,Z,s',I1,Reps.stp I J ry,h2,fun σ2 H2 f2 Y M I2=>k σ2 H2 f2 Y (J.trans M) I2]]
def m6 (n:Nat) (u:List D->DS->Option DS) (d:D) (s:DS):Option DS:=match d with
 |.tup ds=>if ds.length=n then u ds s else none
 |_=>none
def Fs {es:List Expr}{k:Nat}{n:Nat}{u:List D->DS->Option DS}(L:X.calm=true) (h:GsO X g es u) (M:(assignEach es X.env).length=n:=by rfl) (J:(assignEach es X.env).findIdx? (·.1)=none:=by rfl):GO X g (.Tuple es k pos) (m6 n u):=
 GO.w (qx L h.pe M J) fun v σ H Q U=>by
  refine U.elim fun fa O s d s' I r e k=>?_
  cases d with
  |tup ds=>
   simp only[m6] at e;by_cases hl:ds.length=n
   .rw[fI hl] at e;simp only[Rep] at r;obtain⟨a,xs,rfl,q,w⟩:=r;exact#[a,xs,rfl,q,by rw[w.length];exact hl,fa,O,s,ds,s',I,w,e,k]
   .rw[gV hl] at e;cases e
  |_=>cases e
noncomputable def d5 (f:DE) (t:D->DS->Option DS):DM:=fun s=>(f s).bind fun x=>(t x.1 x.2).map fun s'=>(.next,s')
def pI {f:DE}{t:D->DS->Option DS}(E:Ends) (σ:L2.St) (H:Hp) (h:liftS X.K g (d5 f t) E σ H):bZ (liftE X.K g f) (liftG X.K g t) E σ H:=by
 obtain⟨fa,O,s,fl,s',I,q,k⟩:=h;refine A1 q fun d s1 h1 h2=>?_
 refine K7 h2 fun s2 U M=>?_
 cases M;exact#[fa,O,s,d,s1,I,h1,fun v H1 f1 O1 Z W r=>#[f1,O1,s1,d,_,W,r,U,fun σ2 H2 f2 L J Y=>k σ2 H2 f2 L (Z.stp.trans J) Y]]
def zg {tg:Expr}{t:D->DS->Option DS}(M:EO X g e f) (U:GO X g tg t) (L:swapsWithSole [tg] e pos.line X.env=pure false:=by rfl) (J:swappedStores [tg] e X.env=pure none:=by rfl)
  (h1:(assignEach [tg] X.env).map (·.2)=[assign tg X.env]:=by rfl):SO X g (.Assign [tg] e pos) (d5 f t):=SO.w (wA M.pe U.pe L J h1) pI
def aj {i:Nat}{x:Str}{pos':Pos}(hN:X.N.Nodup) (hi:X.N[i]? = some x) (hx:T7 X.env.scope x) (he:EO X g e f) (L:swapsWith e (some (.Name x pos')) pos.line X.env=pure false:=by rfl) (M:X.fn x=true\/X.env.scope.names.lookup x=some .local:=by first | exact .inl rfl | exact .inr rfl | assumption) :
  SO X g (.Assign [.Name x pos'] e pos) (d5 f (d0 i)):=SO.w (tJ hN hi hx he.pe L M) fun E σ H h=>by
 obtain⟨fa,O,s,d,s1,I,h1,k⟩:=pI E σ H h;refine#[fa,O,s,d,s1,I,h1,fun v H1 f1 O1 a1 W r=>?_];obtain⟨f2,O2,s2,d2,s3,Z,U,e2,Y⟩:=k v H1 f1 O1 a1 W r;cases e2;obtain⟨P,J,I'⟩:=Z.put i U;exact Y _ H1 f2 P (fE J).stp I'
noncomputable def J3 (i:Nat) (f:DA):DM:=fun s=>(f s).bind fun x=>if i<x.2.sl.length then some (.next,{ x.2 with sl:=x.2.sl.set i (.own x.1) }) else none
def Gg {i:Nat}{x:Str}{f:DA}{pos':Pos}(U:X.N.Nodup) (hi:X.N[i]? = some x) (hx:T7 X.env.scope x) (Y:FO X g e f) (hs:swapsWith e (some (.Name x pos')) pos.line X.env=pure false:=by rfl) (Z:X.fn x=true\/X.env.scope.names.lookup x=some .local:=by first | exact .inl rfl | exact .inr rfl | assumption) :
  SO X g (.Assign [.Name x pos'] e pos) (J3 i f):=SO.w (tJ U hi hx Y.pe hs Z) fun E σ H hQ=>by
 refine hQ.elim fun fa O s fl s' I q k=>?_
 refine A1 q fun ds s1 h1 h2=>?_
 by_cases hl:i<s1.sl.length
 .simp only[] at h2;rw[fI hl] at h2;cases h2;refine#[fa,O,s,ds,s1,I,h1,fun p xs H1 f1 O1 J L M=>?_];have np:p ∉ O1:=fun z=>by
   obtain⟨ys,e⟩:=I.owned (J.sub p z);rw[M] at e;cases e
  obtain⟨P,sub,W⟩:=L.put i hl (I.st.mon p M) np;refine k _ H1 f1 P #[fun b hb=>?_,J.fe,fun b u e _ n=>J.same b u e n,J.mon] W;rcases sub b hb with y | y
  .exact .inr (by rw[y];exact M)
  .exact .inl (J.sub b y)
 .simp only[] at h2;rw[gV hl] at h2;cases h2
noncomputable def K3 (i:Nat) (f:DE):DM:=fun s=>match s.sl[i]? with
 |some (.own _)=>(f s).bind fun x=>match x.2.sl[i]? with
  |some (.own ds)=>if ds.length<sizeLine then some (.next,{ x.2 with sl:=x.2.sl.set i (.own (ds++[x.1])) }) else none
  |_=>none
 |_=>none
def EZ {i:Nat}{x:Str}{p1 p2 W p4:Pos}(hv:PE X (.Name x p1) (X3 i)) (he:EO X g e f) (M:attributeBase (.Name x p1) ("append" : Str) X.env (eval (.Name x p1) X.env)=eval (.Name x p1) X.env:=by rfl)
  (Z:((backTo W (starEach [e] X.env)).all (fun x=>!x.1)&&(backToKw W (keywordEach [] X.env)).all (fun x=>x.1.isSome)
   && decide ([e].length+([]:List Keyword).length+(if ([]:List Keyword).isEmpty then 0 else 1)<30))=true:=by rfl)
  (L:(p2.endLine == W.line)=true:=by rfl) (hs:starEach [e] X.env=(false,eval e X.env)::starEach [] X.env:=by rfl) (J:(backTo W (starEach [] X.env)).any (·.1)=false:=by rfl)
  (hsw:swapsWith (.Call (.Attribute (.Name x p1) ("append" : Str) p2) [e] [] W) none p4.line X.env=pure false:=by rfl) :
  SO X g (.Expr (.Call (.Attribute (.Name x p1) ("append" : Str) p2) [e] [] W) p4) (K3 i f):=
 SO.w (Ft (rj PySem.F.plainAttrs_list PySem.F.slot_list_append PySem.F.type_list_append pG hv (ba he.pe bR hs) M Z L hs J) hsw) fun E σ H hQ=>by
  refine hQ.elim fun fa O s fl s' I q k=>?_
  cases Y:s.sl[i]? with
  |none=>simp only[K3,Y] at q;cases q
  |some z=>
  cases z with
  |no=>simp only[K3,Y] at q;cases q
  |v _=>simp only[K3,Y] at q;cases q
  |own ds0=>
  simp only[K3,Y] at q;obtain⟨a,xs0,e1,m,e2,_⟩:=SlR.own I.sl Y;refine A1 q fun d s1 h1 h2=>?_
  cases U:s1.sl[i]? with
  |none=>simp only[U] at h2;cases h2
  |some z=>
   cases z with
   |no=>simp only[U] at h2;cases h2
   |v _=>simp only[U] at h2;cases h2
   |own ds=>
    simp only[U] at h2;by_cases hl:ds.length<sizeLine
    .rw[fI hl] at h2;cases h2;refine#[_,e1,.inl #[rfl,xs0,SqL.of e2],fa,O,s,d,s1,I,h1,fun v H1 f1 O1 a1 I1 r=>?_];obtain⟨b,xs,e3,m1,e4,r1⟩:=SlR.own I1.sl U;rw[e1] at e3;cases e3;obtain⟨I2,a2⟩:=I1.rew U e1 m1 e4 (Reps.append r1 (Reps.one r));exact#[a,xs,v,rfl,rfl,e4,by rw[r1.length];exact hl,k σ _ f1 O1 (a1.stp.trans a2) I2]
    .rw[gV hl] at h2;cases h2
end
noncomputable def C5 (t:D->DS->Option DS) (b:DM):List D->DS->Option (Fl × DS)
 |[],s=>some (.next,s)
 |d::r,s=>(t d s).bind fun s1=>(b s1).bind fun x=>match x.1 with
  |.next=>C5 t b r x.2
  |.cont=>C5 t b r x.2
  |.brk=>some (.next,x.2)
  |.ret v=>some (.ret v,x.2)
  |.thr c ds=>some (.thr c ds,x.2)
def V5 (K:vF_) (g:Gh) (f1:vA_) (O1:vL_) (H1:Hp) (t:D->DS->Option DS) (b:DM) (ds:vD_) (fl:Fl) (sf:DS) (i:Nat):L2.St->Hp->Prop:=fun σ' H'=>
 ∃fa' O' s',Stp f1 O1 H1 fa' O' H'/\GI K g σ' H' fa' O' s'/\C5 t b (ds.drop i) s'=some (fl,sf)
section
variable {K:vF_}{f1:vA_}{O1:vL_}{H1:Hp}{t:D->DS->Option DS}{b:DM}{fl:Fl}{sf:DS}{E:Ends}{σ':L2.St}
def tV {α:Type}{l:List α}{d:α}(h:l[i]? = some d):l.drop i=d::l.drop (i+1):=by
 obtain⟨hi,e⟩:=HQ.mp h;rw[List.drop_eq_getElem_cons hi,e]
def gP (hk:FlK K g E f1 O1 H1 fl sf) {x:V}(hd:ds[i]? = some d) (hr:∀fa' O',Stp f1 O1 H1 fa' O' H'->Rep K (NN g.F fa' O') fa' H' d x) (h:V5 K g f1 O1 H1 t b ds fl sf i σ' H') :
  liftG K g t x σ' H' fun σ2 H2=>liftS K g b { E with nx:=V5 K g f1 O1 H1 t b ds fl sf (i+1),ct:=V5 K g f1 O1 H1 t b ds fl sf (i+1),bk:=E.nx } σ2 H2:=by
 obtain⟨fa',O',s',st,I,e⟩:=h;rw[tV hd,C5] at e;refine S9 e fun s1 h1 h2=>?_
 refine A1 h2 fun fb s2 h3 Z=>?_
 refine#[fa',O',s',d,s1,I,hr fa' O' st,h1,fun σ2 H2 f2 O2 Y I2=>#[f2,O2,s1,fb,s2,I2,h3,?_]];cases fb with
 |next=>exact fun σ3 W M U J L=>#[M,U,s2,st.trans (Y.trans J),L,Z]
 |cont=>exact fun σ3 W M U J L=>#[M,U,s2,st.trans (Y.trans J),L,Z]
 |brk=>cases Z;exact fun σ3 W M U J L=>hk σ3 W M U (st.trans (Y.trans J)) L
 |ret v=>cases Z;exact fun σ3 v W M U J L r=>hk σ3 v W M U (st.trans (Y.trans J)) L r
 |thr c es=>cases Z;exact fun σ3 C dx od xs W M U J L=>hk σ3 C dx od xs W M U (st.trans (Y.trans J)) L
def ik (J:FlK K g E f1 O1 H1 fl sf) (L:ds.length<=n) (h:V5 K g f1 O1 H1 t b ds fl sf n σ' H'):E.nx σ' H':=by
 obtain⟨fa',O',s',st,I,e⟩:=h;rw[LB L,C5] at e;cases e;exact J σ' H' fa' O' st I
end
noncomputable def R0 (f:DE) (t:D->DS->Option DS) (b:DM):DM:=fun s=>(f s).bind fun x=>match x.1 with
 |.lst ds=>C5 t b ds x.2
 |.tup ds=>C5 t b ds x.2
 |_=>none
section
variable {f:DE}{t:D->DS->Option DS}{b:DM}
def Az (K:vF_) (tl:TE):TI:=fun σ H R=>tl σ H fun x H1=>∃a,x = .ref a/\(((∃xs,SqL K H1 a xs)/\R (dw K a) H1)\/((∃xs,SqT K H1 a xs)/\R (cB K a) H1))
def lZ {l:Expr}(hl:PE X l tl):PI X tg l (Az X.K tl):=by
 intro pins s σ H R I h;refine t9 (hl pins s σ H _ I h) fun v s1 ⟨x,H1,J,Y,q1⟩=>?_
 obtain⟨a,e,q⟩:=q1;subst e;cases Y;rcases q with ⟨⟨xs,U⟩,q⟩ | ⟨⟨xs,U⟩,q⟩
 .obtain⟨L,W,p,Z⟩:=J.list U;refine KZ p.isList ?_;refine#[s1.heap.objs.size,[s1.heap.objs.size],_,_,H1,rfl,J.kept (t':=s1.toks) fun b o e=>xo _ e,uT a _,#[_,HG _ rfl,rfl,rfl],fun b M=>?_,q];have e:b=s1.heap.objs.size:=by simpa using M
  subst e;exact J.fpOk (iR _) (J.hok.fresh (iR _))
 .obtain⟨L,W,p,Z⟩:=J.tuple U;refine wpAny_pyIter_tuple (show s1.heap.IsTuple a L.toArray from p) ?_;refine#[s1.heap.objs.size,[s1.heap.objs.size],_,_,H1,rfl,J.kept (t':=s1.toks) fun b o e=>xo _ e,yo a _,#[_,HG _ rfl,rfl,rfl],fun b M=>?_,q];have e:b=s1.heap.objs.size:=by simpa using M
  subst e;exact J.fpOk (iR _) (J.hok.fresh (iR _))
def BL (hp:PassesOwn (model X.prog X.w) X.A X.env X.xe) (Y:X.calm=true) (he:EO X g iter f) (hg:GO X g tg t) (hb:SSO X g body b) (hs:∀x,foldedSetIterable iter X.env x=pure x:=by intro _;rfl) :
  SO X g (.For tg iter body [] pos) (R0 f t b):=SO.w (lA hp Y (lZ he.pe) hg.pe hb.pe hs) fun E σ H hQ=>by
 refine hQ.elim fun fa O s fl sf I q k=>?_
 refine A1 q fun d s1 h1 h2=>?_
 refine#[fa,O,s,d,s1,I,h1,fun v H1 f1 O1 a1 J r=>?_];have L:=k.shift a1.stp;cases d with
 |lst ds=>
  simp only[Rep] at r;obtain⟨a,xs,rfl,Z,q,w⟩:=r;refine#[a,rfl,.inl #[#[xs,SqL.of q],xi (xs:=xs) (V5 X.K g f1 O1 H1 t b ds fl sf) #[f1,O1,s1,Stp.refl,J,h2] ?_ ?_ ?_]]
  .rintro i σ' H' _ ⟨fa',O',s',st,I',e⟩;exact SqL.of ((J.car st).ls a xs Z q).1
  .intro i x σ' H' U h;obtain⟨d,W,M⟩:=Reps.get' w U;exact gP L W (fun fa' O' st=>Rep.stp J st M) h
  .intro σ' H' h;exact ik L (Kb w.length.symm) h
 |tup ds=>
  simp only[Rep] at r;obtain⟨a,xs,rfl,q,w⟩:=r;refine#[a,rfl,.inr #[#[xs,q],vQ (xs:=xs) (V5 X.K g f1 O1 H1 t b ds fl sf) #[f1,O1,s1,Stp.refl,J,h2] ?_ ?_ ?_]]
  .rintro i σ' H' _ ⟨fa',O',s',st,I',e⟩;exact(J.car st).tp a xs q
  .intro i x σ' H' U h;obtain⟨d,W,M⟩:=Reps.get' w U;exact gP L W (fun fa' O' st=>Rep.stp J st M) h
  .intro σ' H' h;exact ik L (Kb w.length.symm) h
 |_=>cases h2
def C1 (lo:Int) (n:Nat):List D:=(List.range n).map fun (i:Nat)=>D.int (lo+(i:Int))
def gC {lo:Int}(h:i<n):(C1 lo n)[i]? = some (.int (lo+(i:Int))):=by simp[C1,h]
def Z2 (lo:Int) (n:Nat):(C1 lo n).length=n:=by simp[C1]
def K4:List D->Option (List D)
 |[.int j]=>if -(2 ^ 62)<=j/\j<2 ^ 62 then some (C1 0 j.toNat) else none
 |[.int i,.int j]=>if -(2 ^ 62)<=i/\i<2 ^ 62 /\ -(2 ^ 62)<=j/\j<2 ^ 62 then some (C1 i (j - i).toNat) else none
 |_=>none
noncomputable def Y3 (f:DA) (t:D->DS->Option DS) (b:DM):DM:=fun s=>(f s).bind fun x=>(K4 x.1).bind fun ds=>C5 t b ds x.2
def ro {es:vD_}{a:D}(h:K4 ds=some es) (l:ds=[a]):∃j:Int,a = .int j /\ -(2 ^ 62)<=j/\j<2 ^ 62/\es=C1 0 j.toNat:=by
 subst l;cases a with
 |int j=>
  have h:(if -(2 ^ 62)<=j/\j<2 ^ 62 then some (C1 0 j.toNat) else none)=some es:=h;by_cases J:-(2 ^ 62)<=j/\j<2 ^ 62
  .rw[fI J] at h;cases h;exact#[j,rfl,J.1,J.2,rfl]
  .rw[gV J] at h;cases h
 |_=>cases h
def CP {es:vD_}{a c:D}(h:K4 ds=some es) (l:ds=[a,c]):∃i j:Int,a = .int i/\c = .int j/\(-(2 ^ 62)<=i/\i<2 ^ 62 /\ -(2 ^ 62)<=j/\j<2 ^ 62)/\es=C1 i (j - i).toNat:=by
 subst l;cases a with
 |int i=>
  cases c with
  |int j=>
   have h:(if -(2 ^ 62)<=i/\i<2 ^ 62 /\ -(2 ^ 62)<=j/\j<2 ^ 62 then some (C1 i (j - i).toNat) else none)=some es:=h;by_cases J:-(2 ^ 62)<=i/\i<2 ^ 62 /\ -(2 ^ 62)<=j/\j<2 ^ 62
   .rw[fI J] at h;cases h;exact#[i,j,rfl,rfl,J,rfl]
   .rw[gV J] at h;cases h
  |_=>cases h
 |_=>cases h
def tE {a:Expr}{fa:DE}{p cpos:Pos}(hp:PassesOwn (model X.prog X.w) X.A X.env X.xe) (W:X.calm=true) (L:Gl X "range") (hm:X.mg "range" = none) (Y:EO X g a fa) (hg:GO X g tg t) (hb:SSO X g body b)
  (J:starEach [a] X.env=[(false,eval a X.env)]:=by rfl) (hs:∀x,foldedSetIterable (.Call (.Name "range" p) [a] [] cpos) X.env x=pure x:=by intro _;rfl) :
  SO X g (.For tg (.Call (.Name "range" p) [a] [] cpos) body [] pos) (Y3 (a0 fa a7) t b):=
 SO.w (lA hp W (ud L hm (bP Y aB J).pe J) hg.pe hb.pe hs) fun E σ H hQ=>by
  refine hQ.elim fun fa O s fl sf I q k=>?_
  refine A1 q fun ds s1 h1 h2=>?_
  refine S9 h2 fun es Z h4=>?_
  obtain⟨d,s2,rs,e1,e2,U⟩:=ay h1;cases e2;obtain⟨j,rfl,j1,j2,rfl⟩:=ro Z U;refine#[fa,O,s,ds,s1,I,h1,fun vs H1 f1 O1 a1 I1 r=>?_];have M:=k.shift a1.stp;rw[U] at r;simp only[Reps,Rep] at r;obtain⟨x,ys,rfl,rfl,rfl⟩:=r;refine#[j,rfl,j1,j2,sX (lo:=0) (n:=j.toNat) (V5 X.K g f1 O1 H1 t b (C1 0 j.toNat) fl sf) #[f1,O1,s1,Stp.refl,I1,h4] ?_ ?_]
  .intro i σ' H' hi h;exact gP M (gC hi) (fun fa' O' st=>by simp only[Rep]) h
  .intro σ' H' h;exact ik M (by rw[Z2];exact iR _) h
def Dm {a c:Expr}{fa fc:DE}{p cpos:Pos}(hp:PassesOwn (model X.prog X.w) X.A X.env X.xe) (hc:X.calm=true) (U:Gl X "range") (hm:X.mg "range" = none) (ha:EO X g a fa) (W:EO X g c fc) (hg:GO X g tg t) (hb:SSO X g body b)
  (M:starEach [a,c] X.env=[(false,eval a X.env),(false,eval c X.env)]:=by rfl) (J:starEach [c] X.env=[(false,eval c X.env)]:=by rfl) (hs:∀x,foldedSetIterable (.Call (.Name "range" p) [a,c] [] cpos) X.env x=pure x:=by intro _;rfl) :
  SO X g (.For tg (.Call (.Name "range" p) [a,c] [] cpos) body [] pos) (Y3 (a0 fa (a0 fc a7)) t b):=
 SO.w (lA hp hc (vY U hm (bP ha (bP W aB J) (by rw[M,J])).pe M J) hg.pe hb.pe hs) fun E σ H hQ=>by
  refine hQ.elim fun fa O s fl sf I q k=>?_
  refine A1 q fun ds s1 h1 h2=>?_
  refine S9 h2 fun es h3 h4=>?_
  obtain⟨d,s2,rs,e1,e2,Z⟩:=ay h1;obtain⟨d',s3,rs',e4,e5,e6⟩:=ay e2;cases e5;subst e6;obtain⟨L,j,rfl,rfl,jj,rfl⟩:=CP h3 Z;refine#[fa,O,s,ds,s1,I,h1,fun vs H1 f1 O1 a1 I1 r=>?_];have Y:=k.shift a1.stp;rw[Z] at r;simp only[Reps,Rep] at r;obtain⟨x,ys,rfl,rfl,y,zs,rfl,rfl,rfl⟩:=r;refine#[L,j,rfl,jj,sX (lo:=L) (n:=(j - L).toNat) (V5 X.K g f1 O1 H1 t b (C1 L (j - L).toNat) fl sf) #[f1,O1,s1,Stp.refl,I1,h4] ?_ ?_]
  .intro i σ' H' hi h;exact gP Y (gC hi) (fun fa' O' st=>by simp only[Rep]) h
  .intro σ' H' h;exact ik Y (by rw[Z2];exact iR _) h
def G1 (c:DT) (b:DM):Nat->DS->Option (Fl × DS)
 |0,_=>none
 |n+1,s=>(c s).bind fun x=>if x.1=true then (b x.2).bind fun y=>match y.1 with
   |.next=>G1 c b n y.2
   |.cont=>G1 c b n y.2
   |.brk=>some (.next,y.2)
   |.ret v=>some (.ret v,y.2)
   |.thr c ds=>some (.thr c ds,y.2)
  else some (.next,x.2)
open Classical in
def M1 (c:DT) (b:DM):DM:=fun s=>if h:∃n r,G1 c b n s=some r then G1 c b h.choose s else none
theorem lI {b:DM}:∀(n:Nat) {s:DS}{r:Fl × DS},G1 c b n s=some r->G1 c b (n+1) s=some r
 |0,s,r,h=>by cases h
 |n+1,s,r,h=>by
  rw[G1] at h ⊢;refine A1 h fun x s1 h1 h2=>?_
  refine II.mpr #[(x,s1),h1,?_];cases x with
  |false=>exact h2
  |true=>
   simp only[HI] at h2 ⊢;refine A1 h2 fun y s2 L J=>?_
   refine II.mpr #[(y,s2),L,?_];cases y with
   |next=>exact lI n J
   |cont=>exact lI n J
   |brk=>exact J
   |ret v=>exact J
   |thr c ds=>exact J
def mO {b:DM}{m:Nat}(J:n<=m) {s:DS}{r:Fl × DS}(h:G1 c b n s=some r):G1 c b m s=some r:=by
 induction J with
 |refl=>exact h
 |step _ L=>exact lI _ L
def nj {b:DM}{s:DS}{r:Fl × DS}(h:G1 c b n s=some r):M1 c b s=some r:=by
 have J:∃n r,G1 c b n s=some r:=#[n,r,h]
 unfold M1;rw[dif_pos J];obtain⟨U,h'⟩:=J.choose_spec;have M:=mO (Nat.le_max_left n J.choose) h;have L:=mO (Nat.le_max_right n J.choose) h';rw[M] at L;rw[h',L]
def rJ {b:DM}{s:DS}{r:Fl × DS}(h:M1 c b s=some r):∃n,G1 c b n s=some r:=by
 unfold M1 at h;by_cases J:∃n r,G1 c b n s=some r
 .rw[dif_pos J] at h;exact#[_,h]
 .rw[dif_neg J] at h;cases h
def sO {b:DM}{s:DS}{r:Fl × DS}(h1:c s=some (true,s1)) (h2:b s1=some (.next,s2)) (J:M1 c b s2=some r):M1 c b s=some r:=by
 obtain⟨n,h⟩:=rJ J;refine nj (n:=n+1) ?_;rw[G1,h1];simp only[Hq,HI,h2];exact h
def iI {b:DM}{s:DS}(h1:c s=some (false,s1)):M1 c b s=some (.next,s1):=by
 refine nj (n:=1) ?_;rw[G1,h1];simp
def pw {c:Expr}(hp:PassesOwn (model X.prog X.w) X.A X.env X.xe) (hc:TO X g c fc) (hb:SSO X g body b):SO X g (.While c body [] pos) (M1 fc b):=SO.w (BQ hp hc.pe hb.pe) fun E σ H hQ=>by
 refine hQ.elim fun fa O s fl sf I q k=>?_
 obtain⟨n,h⟩:=rJ q;refine#[fun m σ' H'=>∃fa' O' s',Stp fa O H fa' O' H'/\GI X.K g σ' H' fa' O' s'/\G1 fc b m s'=some (fl,sf),#[n,fa,O,s,Stp.refl,I,h],?_];rintro m σ1 H1 ⟨f1,O1,s1,a1,I1,h1⟩;cases m with
 |zero=>cases h1
 |succ m=>
  rw[G1] at h1;refine A1 h1 fun x s2 h2 h3=>?_
  refine#[f1,O1,s1,x,s2,I1,h2,fun H2 f2 O2 a2 I2=>?_];cases x with
  |false=>rw[gV Hx] at h3 ⊢;cases h3;exact k σ1 H2 f2 O2 (a1.trans a2.stp) I2
  |true=>
   rw[fI rfl] at h3 ⊢;refine A1 h3 fun y s3 h4 Z=>?_
   refine#[fun σ' H'=>∃fa' O' s',Stp fa O H fa' O' H'/\GI X.K g σ' H' fa' O' s'/\G1 fc b m s'=some (fl,sf),fun σ' H' z=>#[m,Nat.lt_succ_self m,z],f2,O2,s2,y,s3,I2,h4,?_];have J:=a1.trans a2.stp;cases y with
   |next=>exact fun σ3 Y U W L M=>#[U,W,s3,J.trans L,M,Z]
   |cont=>exact fun σ3 Y U W L M=>#[U,W,s3,J.trans L,M,Z]
   |brk=>cases Z;exact fun σ3 Y U W L M=>k σ3 Y U W (J.trans L) M
   |ret v=>cases Z;exact fun σ3 v Y U W L M r=>k σ3 v Y U W (J.trans L) M r
   |thr c es=>cases Z;exact fun σ3 C dx od xs Y U W L M=>k σ3 C dx od xs Y U W (J.trans L) M
end
abbrev a8:=List D->Option FS->Option (D × Option FS)
variable {m mo:a8}
def bf (K:vF_) (n:Nat) (m:a8):Sp:=fun J H Q _=>∃(F:vB_) (fa:vA_) (ds:vD_) (fs:vO_) (d:D) (fs':vO_),
 (∀b,F b->H b≠none)/\(∀a,fa=some a->F a)/\Reps K F fa H ds J/\FeedR F H fa fs/\m ds fs=some (d,fs')/\ds.length=n /\
  ∀v H' fa',Stp fa [] H fa' [] H'->FeedR (fun b=>F b\/fa'=some b) H' fa' fs'->Rep K (fun b=>F b\/fa'=some b) fa' H' d v->Q v H'
abbrev eG (P:Program) (w:World) (K:vF_) (mg:vG_) (base:Heap) (k:Nat) (f:Addr) (fd:FuncData) (ps:List Str) (m:a8):Prop:=FnOk P w K mg base O8 k f fd ps (bf K ps.length m)
noncomputable def t7 (n:Nat) (b:DM):a8:=fun ds fs=>(b #[ds.map .v++List.replicate (n - ds.length) .no,fs]).bind fun x=>match x.1 with
 |.ret d=>some (d,x.2.fs)
 |.next=>some (.non,x.2.fs)
 |_=>none
theorem mY {K:vF_}:∀n:Nat,SlR K N fa H (List.replicate n .no) (List.replicate n none) []
 |0=>by simp[SlR]
 |n+1=>by
  simp only[IT,SlR];exact#[_,_,rfl,mY n]
theorem mH {K:vF_}:∀{ds:vD_}{vs:List V},Reps K N fa H ds vs->SlR K N fa H (ds.map .v++List.replicate n .no) (vs.map some++List.replicate n none) []
 |[],vs,h=>by simp only[Reps] at h;subst h;simpa using mY n
 |d::r,vs,h=>by
  simp only[Reps] at h;obtain⟨x,ys,rfl,h1,h2⟩:=h;simp only[Hu,KU,SlR];exact#[x,_,rfl,h1,mH h2]
section
variable {P:Program}{w:World}{K:vF_}
def uc {st:Stmt}{f:Addr}{N ps:List Str}{k:Nat}{b:DM}(F:Fun K x qual st f fd) (S:FnScope N ps (C9 st))
  (L:∀(cdv:Value) (A:Around) (outer:List Env) (s:Shared) (H:Hp) (E:XK) (g:Gh),Room k (A.deeper (PyProof.Rows.envOfC qual (C9 st) s.heap.objs.size f cdv))->SSO (Q4 O8 P w K mg base N qual (C9 st) f cdv A outer s H E).nox g (K9 st) b) :
  eG P w K mg base (k+1) f fd ps (t7 N.length b):=by
 refine F.ok S (fun M H Q E h=>?_) (fun cdv A outer s H M Q E hr h=>?_)
 .obtain⟨F,fa,ds,fs,d,fs',_,_,r,_,_,hl,_⟩:=h;rw[r.length];exact hl
 obtain⟨F,fa,ds,fs,d,fs',tr,ff,r,fd,e,hl,q⟩:=h;refine#[_,(L cdv A outer s H E #[F,H,fa,fun _=>E0] hr).pe,?_];refine A1 e fun fl s' h1 h2=>?_
 have hN:∀b,NN F fa [] b->F b:=fun b z=>by
  rcases z with z | z | z
  .exact z
  .cases z
  .exact ff b z
 have c:Car K F fa H (NN F fa []) fa H:=#[fun b xs n q=>#[q,fun z=>n (hN b z)],fun _ _ q=>q,fun _ _ q=>q,fun _ q=>q]
 have el:(L2.start N M)=M.map some++List.replicate (N.length - ds.length) none:=by rw[L2.start,r.length]
 have I:GI K #[F,H,fa,fun _=>E0] (L2.start N M) H fa [] #[ds.map .v++List.replicate (N.length - ds.length) .no,fs]:=by
  refine#[List.nodup_nil,?_,fun b Z=>(by cases Z),Stp.refl,tr,ff,fd.car c fun _ _=>rfl,fun _ _ z=>(by cases z)];rw[el];exact mH (Reps.go c ds M r)
 have U:∀{fa':vA_}{O':vL_}{H':Hp}{σ':L2.St}{v:V}{dd:D},Stp fa [] H fa' O' H'->GI K #[F,H,fa,fun _=>E0] σ' H' fa' O' s'->Rep K (NN F fa' O') fa' H' dd v->dd=d->s'.fs=fs'->Q v H':=by
  intro fa' O' H' σ' v dd J W Y e1 e2;subst e1;subst e2;have c1:Car K (NN F fa' O') fa' H' (fun b=>F b\/fa'=some b) fa' H':=#[fun b xs n q=>#[q,fun z=>n (by
   rcases z with z | z
   .exact .inl z
   .exact .inr (.inr z))],fun _ _ q=>q,fun _ _ q=>q,fun _ q=>q]
  exact q v H' fa' #[fun b Z=>(by cases Z),J.fe,J.same,J.mon] (W.fd.car c1 fun _ _=>rfl) (Rep.go c1 _ _ Y)
 refine#[fa,[],_,fl,s',I,h1,?_];cases fl with
 |next=>
  simp only[HL,Hy] at h2;exact fun σ' H' fa' O' J W=>U J W (v:=.non) (dd:=.non) (by simp only[Rep]) h2.1 h2.2
 |ret dd=>
  simp only[HL,Hy] at h2;exact fun σ' v H' fa' O' J W Y=>U J W Y h2.1 h2.2
 |brk=>cases h2
 |cont=>cases h2
 |thr _ _=>cases h2
end
noncomputable def a9 (m:a8) (f:DA):DE:=fun s=>(f s).bind fun x=>(m x.1 x.2.fs).map fun y=>(y.1,{ x.2 with fs:=y.2 })
section
variable {k:Nat}{f:Addr}{ps:List Str}{p:Pos}{t:DA}
def xB (hn:∀s ds s',t s=some (ds,s')->ds.length=n) (σ:L2.St) (H:Hp) (Q:VK) (h:liftE X.K g (a9 m t) σ H Q):lO (bf X.K n m) [] E0 (liftA X.K g t) σ H Q:=by
 obtain⟨fa,O,s,d,s',I,q,k⟩:=h;refine A1 q fun ds s1 h1 h2=>?_
 refine mapP h2 fun d1 Z h3 h4=>?_
 simp only[Hy] at h4;obtain⟨e1,e2⟩:=h4;subst e1;subst e2;refine#[fa,O,s,ds,s1,I,h1,fun vs H1 f1 O1 a1 J r=>?_];show bf X.K n m (vs++[]) H1 Q E0;rw[Jd];refine#[NN g.F f1 O1,f1,ds,s1.fs,d1,Z,fun b L=>J.nn_tracked L,fun a ha=>.inr (.inr ha),r,J.fd,h3,hn s ds s1 h1,fun v H2 U M Y r2=>?_];have W:StE f1 O1 H1 U O1 H2:=#[fun b L=>L,M.fe,fun b u e n=>M.same b u e (by simp) n,M.mon]
 have c:=J.car W.stp;have c2:Car X.K (fun b=>NN g.F f1 O1 b\/U=some b) U H2 (NN g.F U O1) U H2:=#[fun b xs n q=>#[q,fun z=>n (by
   rcases z with z | z | z
   .exact .inl (.inl z)
   .exact .inl (.inr (.inl z))
   .exact .inr z)],fun _ _ q=>q,fun _ _ q=>q,fun _ q=>q]
 refine k v H2 U O1 (a1.trans W) #[J.nd,SlR.go c (fun b xs L e=>?_) J.sl,J.fr,J.st.trans #[fun b L=>(by cases L),M.fe,fun b u e n z=>M.same b u e n z,M.mon],J.tr,J.ff,Y.car c2 fun _ _=>rfl,J.nf_step W.fe] (Rep.go c2 _ _ r2);exact W.same b _ e fun z=>J.nf b z L
def xx (F:eG X.prog X.w X.K X.mg X.base k f fd ps m) (M:Room k X.A) (hg:Gl X x) (U:X.mg x=some (.ref f)) (Z:PySem.W.keepIn X.K (.ref f)=true) (hb:Binds X.K fd ps [])
  (ha:AO X g (e::es) t) (Y:∀s ds s',t s=some (ds,s')->ds.length=ps.length) (J:(x == ("__debug__" : Str))=false:=by decide) (he:starEach (e::es) X.env=(false,eval e X.env)::starEach es X.env:=by rfl) (L:(backTo pos (starEach es X.env)).any (·.1)=false:=by rfl) :
  EO X g (.Call (.Name x p) (e::es) [] pos) (a9 m t):=EO.w (zp F M hg U Z hb .nil Ck ha.pe J he L) (xB Y)
def pM:∀s ds s',a7 s=some (ds,s')->ds.length=0:=fun s ds s' h=>by cases h;rfl
def uv {a:DE}{r:DA}(h:∀s ds s',r s=some (ds,s')->ds.length=n):∀s ds s',a0 a r s=some (ds,s')->ds.length=n+1:=fun s ds s' q=>by
 obtain⟨d,s1,es,h1,h2,J⟩:=ay q;subst J;simp[h _ _ _ h2]
end
def jI (K:vF_) (N:vB_) (fa:vA_) (H1:Hp) (J:It) (ds:vD_):Prop:=∀N' fa' H',Car K N fa H1 N' fa' H'->(∀b u,H1 b=some u->fa≠some b->H' b=some u)->∀i:Nat,
 (∀d,ds[i]? = some d->J.go i H'/\∀x H'',J.yld i H' x H''->H''=H'/\Rep K N' fa' H' d x)/\(ds.length<=i->J.stop i H')
def liftI (K:vF_) (g:Gh) (f:DA):TI:=fun σ H R=>∃fa O s ds s',GI K g σ H fa O s/\f s=some (ds,s')/\ds.length<=sizeLine /\
 ∀J H' fa' O',StE fa O H fa' O' H'->GI K g σ H' fa' O' s'->jI K (NN g.F fa' O') fa' H' J ds->R J H'
section
variable {K:vF_}{σ:L2.St}
def liftI.elim {f:DA}{R:It->Hp->Prop}(h:liftI K g f σ H R) (k:∀fa O s ds s',GI K g σ H fa O s->f s=some (ds,s')->ds.length<=sizeLine->(∀J H' fa' O',StE fa O H fa' O' H'->GI K g σ H' fa' O' s'->jI K (NN g.F fa' O') fa' H' J ds->R J H')->G):G:=by
 obtain⟨fa,O,s,d,s',a,r,b,c⟩:=h;exact k fa O s d s' a r b c
end
structure IO (X:Cx) (g:Gh) (tg iter:Expr) (f:DA):Prop where
 pe:PI X tg iter (liftI X.K g f)
def D9 (f:DE):DA:=fun s=>(f s).bind fun x=>match x.1 with
 |.lst ds=>some (ds,x.2)
 |.tup ds=>some (ds,x.2)
 |_=>none
def ai (f:DA):DA:=fun s=>(f s).bind fun x=>(K4 x.1).map fun ds=>(ds,x.2)
section
variable {f:DE}
def Ek {t t':TI}(h:PI X tg iter t) (w:∀σ H R,t' σ H R->t σ H R):PI X tg iter t':=fun pins s σ H R I q=>h pins s σ H R I (w σ H R q)
theorem IO.w {f:DA}{t:TI}(h:PI X tg iter t) (w:∀σ H R,liftI X.K g f σ H R->t σ H R):IO X g tg iter f:=#[Ek h w]
def Q1 (h:EO X g iter f):IO X g tg iter (D9 f):=IO.w (lZ h.pe) fun σ H R hQ=>by
 refine hQ.elim fun fa O s ds s' I e hz k=>?_
 refine A1 e fun d s1 h1 h2=>?_
 refine#[fa,O,s,d,s1,I,h1,fun v H1 f1 O1 a1 I1 r=>?_];cases d with
 |lst es=>
  cases h2;simp only[Rep] at r;obtain⟨a,xs,rfl,na,q,w⟩:=r;refine#[a,rfl,.inl #[#[xs,SqL.of q],k _ H1 f1 O1 a1 I1 fun N' fa' H' c _ i=>#[fun d Z=>?_,fun hl=>?_]]]
  .obtain⟨x,L,M⟩:=Reps.get w Z;have J:=(c.ls a xs na q).1;refine#[#[xs,x,SqL.of J,L],fun y H'' W=>?_];obtain⟨Y,U⟩:=W;have:=U xs (SqL.of J);rw[L] at this;cases this;exact#[Y,Rep.go c d x M]
  .exact#[xs,SqL.of (c.ls a xs na q).1,by rw[w.length];exact hl]
 |tup es=>
  cases h2;simp only[Rep] at r;obtain⟨a,xs,rfl,q,w⟩:=r;refine#[a,rfl,.inr #[#[xs,q],k _ H1 f1 O1 a1 I1 fun N' fa' H' c _ i=>#[fun d Z=>?_,fun hl=>?_]]]
  .obtain⟨x,L,M⟩:=Reps.get w Z;have J:=c.tp a xs q;refine#[#[xs,x,J,L],fun y H'' W=>?_];obtain⟨Y,U⟩:=W;have:=U xs J;rw[L] at this;cases this;exact#[Y,Rep.go c d x M]
  .exact#[xs,c.tp a xs q,by rw[w.length];exact hl]
 |_=>cases h2
def Bs {K:vF_}{H1:Hp}(lo:Int) (n:Nat):jI K N fa H1 (X6 lo n) (C1 lo n):=fun N' fa' H' c _ i=>#[fun d J=>by
 have hi:i<n:=by have:=(HQ.mp J).1;rwa [Z2] at this
 rw[gC hi] at J;cases J;refine#[hi,fun x H'' L=>?_];obtain⟨M,U⟩:=L;subst U;exact#[M,by simp only[Rep]],fun hl=>by rw[Z2] at hl;exact hl]
def zE {a:Expr}{fa:DE}{p cpos:Pos}(L:Gl X "range") (hm:X.mg "range" = none) (U:EO X g a fa) (J:starEach [a] X.env=[(false,eval a X.env)]:=by rfl) :
  IO X g tg (.Call (.Name "range" p) [a] [] cpos) (ai (a0 fa a7)):=IO.w (ud L hm (bP U aB J).pe J) fun σ H R hQ=>by
 refine hQ.elim fun fa O s es s' I q hz k=>?_
 refine A1 q fun ds s1 h1 h2=>?_
 refine K7 h2 fun es' W h4=>?_
 cases h4;obtain⟨d,s2,rs,e1,Z,M⟩:=ay h1;cases Z;obtain⟨j,rfl,j1,j2,rfl⟩:=ro W M;refine#[fa,O,s,ds,_,I,h1,fun vs H1 f1 O1 a1 Y r=>?_];rw[M] at r;simp only[Reps,Rep] at r;obtain⟨x,ys,rfl,rfl,rfl⟩:=r;exact#[j,rfl,j1,j2,k _ H1 f1 O1 a1 Y (Bs 0 j.toNat)]
end
def aD (sl:List Sl) (i:Nat):Sl:=match sl[i]? with
 |some (Sl.v d)=>Sl.v d
 |_=>Sl.no
def F8 (idx:List Nat) (sl:List Sl):List Sl:=idx.map (aD sl)
noncomputable def A9 (mk:D->Option (List Sl)) (fc:DT) (fe:DE):List D->Option FS->Option (List D × Option FS)
 |[],fs=>some ([],fs)
 |d::r,fs=>(mk d).bind fun sl=>(fc #[sl,fs]).bind fun c=>if c.1=true then (fe c.2).bind fun y=>(A9 mk fc fe r y.2.fs).map fun z=>(y.1::z.1,z.2) else A9 mk fc fe r c.2.fs
noncomputable def B6 (idx:List Nat) (fi:DA) (fc:DT) (fe:DE):DA:=fun s=>(fi s).bind fun x=>if x.1.length<=sizeLine then (A9 (fun d=>some (.v d::F8 idx x.2.sl)) fc fe x.1 x.2.fs).map fun y=>(y.1,{ x.2 with fs:=y.2 }) else none
def FF (g:Gh) (fa:vA_) (O:vL_) (p:Addr):Addr->Prop:=fun b=>NN g.F fa O b\/b=p
structure CI (K:vF_) (g:Gh) (f1:vA_) (O1:vL_) (Hd:Hp) (p:Addr) (fa:vA_) (H:Hp) (ys:List V) (res:vD_) (fs:vO_):Prop where
 st:Stp f1 [p] Hd fa [p] H
 ls:H p=some (.lst ys)
 rs:Reps K (FF g fa O1 p) fa H res ys
 fd:FeedR (FF g fa O1 p) H fa fs
 nf:fa≠some p
section
variable {K:vF_}{f1:vA_}{O1:vL_}{Hd:Hp}{p:Addr}{res:vD_}{fs:vO_}
def CI.nofa (c:CI K g f1 O1 Hd p fa H ys res fs):fa≠some p:=c.nf
def AJ (L:∀xs,fa≠none->∀a,fa=some a->¬ Rd H a (.tup xs)) (J:∀a,fa=some a->∀o u,¬ H a=some (.frz o u)) (a:StE fa [] H fa' [] H'):Car K (FF g fa O1 p) fa H (FF g fa' O1 p) fa' H':=by
 refine#[fun b xs n q=>#[a.same b _ q fun z=>n (.inl (.inr (.inr z))),fun z=>?_],fun b xs q=>?_,fun b xs q=>?_,fun x e=>a.stp.fa_keep e]
 .rcases z with (z | z | z) | z
  .exact n (.inl (.inl z))
  .exact n (.inl (.inr (.inl z)))
  .rcases a.fe with e | ⟨e,h⟩
   .exact n (.inl (.inr (.inr (e▸z))))
   .rw[h b z] at q;cases q
  .exact n (.inr z)
 .refine SqT.stp' a.stp (fun x e ys=>L ys (by rw[e];simp) x e) (fun x M=>by cases M) q
 .cases xs with
  |inl xs=>exact q.imp (fun ⟨o,q⟩=>#[o,a.same _ _ q fun z=>J b z _ _ q]) id
  |inr p=>exact a.same _ _ q fun z=>J b z _ _ q
def DJ (h:FeedR N H fa fs):∀xs,fa≠none->∀a,fa=some a->¬ Rd H a (.tup xs):=fun xs _ a e z=>h.no_tup e z
def CI.step (c:CI K g f1 O1 Hd p fa H ys res fs) (a:StE fa [] H fa' [] H') {g':Gh}(J:∀b,FF g fa' O1 p b->NN g'.F fa' [] b) (I:GI K g' σ H' fa' [] s'):CI K g f1 O1 Hd p fa' H' ys res s'.fs:=by
 have L:Car K (FF g fa O1 p) fa H (FF g fa' O1 p) fa' H':=AJ (DJ c.fd) (fun x e o u=>c.fd.no_frz e) a;refine#[c.st.trans #[fun b M=>.inl M,a.fe,fun b u e _ n=>a.same b u e n,a.mon],a.same p _ c.ls c.nofa,Reps.go L _ _ c.rs,I.fd.car (K:=K) #[fun b xs n q=>#[q,fun z=>n (J b z)],fun _ _ q=>q,fun _ _ q=>q,fun _ q=>q] fun _ _=>rfl,fun z=>?_];rcases a.fe with y | ⟨_,y⟩
 .rw[y] at z;exact c.nf z
 .have:=c.ls;rw[y p z] at this;cases this
def CI.app (c:CI K g f1 O1 Hd p fa H ys res fs) {v:V}(U:∀b,FF g fa O1 p b->N b) (r:Rep K N fa H d v):CI K g f1 O1 Hd p fa (l8 H p (.lst (ys++[v]))) (ys++[v]) (res++[d]) fs:=by
 have L:Car K (FF g fa O1 p) fa H (FF g fa O1 p) fa (l8 H p (.lst (ys++[v]))):=by
  refine#[fun b xs n q=>#[by rw[v5 (fun z=>n (.inr z))];exact q,n],fun b xs q=>?_,fun b xs q=>?_,fun _ q=>q]
  .rcases q with (q | ⟨o,q⟩) | q
   .exact .inl (.inl (by rw[v5 (fun z=>by rw[z,c.ls] at q;cases q)];exact q))
   .exact .inl (.inr #[o,by rw[v5 (fun z=>by rw[z,c.ls] at q;cases q)];exact q])
   .exact .inr q
  .have M:∀o u,H b=some (.frz o u)->l8 H p (.lst (ys++[v])) b=some (.frz o u):=fun o u q=>by rw[v5 (fun z=>by rw[z,c.ls] at q;cases q)];exact q
   cases xs with
   |inl xs=>exact q.imp (fun ⟨o,q⟩=>#[o,M _ _ q]) id
   |inr p=>exact M _ _ q
 have W:Car K N fa H (FF g fa O1 p) fa H:=#[fun b xs n q=>#[q,fun z=>n (U b z)],fun _ _ q=>q,fun _ _ q=>q,fun _ q=>q]
 refine#[c.st.trans #[fun b J=>.inl J,.inl rfl,fun b u e n _=>by rw[v5 (fun z=>n (by simp[z]))];exact e,fun b z=>?_],D1,?_,c.fd.car L fun a e=>v5 fun z=>c.nofa (z▸e),c.nf]
 .by_cases J:b=p
  .subst J;rw[D1] at z;cases z
  .rw[v5 J] at z;exact z
 .exact Reps.append (Reps.go L _ _ c.rs) (Reps.one (Rep.go L _ _ (Rep.go W _ _ r)))
end
def bL (X:Cx) (g:Gh) (ifs:List Expr) (f:DT):Prop:=bJ X ifs (liftT X.K g f)
def w6:DT:=fun s=>some (true,s)
def N4:bL X g [] w6:=fun pins s σ H Q I ⟨fa,O,J,d,s',G,e,k⟩=>vF pins s σ H Q I (by cases e;exact k H fa O StE.refl G)
theorem qX {K:vF_}(h:SlR K N fa H sl σ O):∀idx:List Nat,SlR K N fa H (F8 idx sl) (idx.map fun i=>(σ[i]?).join) []
 |[]=>by simp[F8,SlR]
 |i::r=>by
  have J:=qX h r;have L:∀e:sl[i]? = none\/(∃z,sl[i]? = some z/\∀d,z ≠ .v d),aD sl i = .no:=fun e=>by
   unfold aD;rcases e with e | ⟨z,e,n⟩
   .rw[e]
   .rw[e];cases z with
    |v d=>exact absurd rfl (n d)
    |no=>rfl
    |own ds=>rfl
  show SlR K N fa H (aD sl i::F8 r sl) ((σ[i]?).join::r.map fun i=>(σ[i]?).join) [];cases e:sl[i]? with
  |none=>
   rw[L (.inl e)];simp only[SlR];exact#[_,_,rfl,J]
  |some z=>
   cases z with
   |no=>
    rw[L (.inr #[_,e,fun d z=>by cases z])];simp only[SlR];exact#[_,_,rfl,J]
   |own ds=>
    rw[L (.inr #[_,e,fun d z=>by cases z])];simp only[SlR];exact#[_,_,rfl,J]
   |v d=>
    obtain⟨u,U,q⟩:=SlR.val h e;have M:aD sl i = .v d:=by unfold aD;rw[e]
    rw[M];simp only[SlR];exact#[u,_,by rw[U];rfl,q,J]
def zT (mk:List Sl->D->Option (List Sl)) (fi:DA) (fc:DT) (fe:DE):DA:=fun s=>(fi s).bind fun x=>if x.1.length<=sizeLine then (A9 (mk x.2.sl) fc fe x.1 x.2.fs).map fun y=>(y.1,{ x.2 with fs:=y.2 }) else none
def mz {G:TG}(hG:∀(N:vB_) (fa:vA_) (sl:List Sl) (d:D) (sl0:List Sl) (x:V) (σ:L2.St) (H:Hp) (Q:L2.St->Hp->Prop),mk sl d=some sl0->Rep X.K N fa H d x->SlR X.K N fa H (F8 idx sl) (idx.map fun i=>(σ[i]?).join) [] ->
  (∀σ':L2.St,(σ'.length=(D8 n idx σ).length/\∀(j:Nat) (v:V),(D8 n idx σ)[j]? = some (some v)->σ'[j]? = some (some v))->SlR X.K N fa H sl0 σ' []->Q σ' H)->G x (D8 n idx σ) H Q):∀σ H Q,liftF X.K g (zT mk fi fc fe) σ H Q->aX n idx (liftI X.K g fi) G (fun σ H Q=>∃g',liftT X.K g' fc σ H Q) (fun σ H Q=>∃g',liftE X.K g' fe σ H Q) σ H Q:=by
 intro σ H Q ⟨fa,O,s,res,s',I,e,kk⟩;refine A1 e fun ds s1 h1 h2=>?_
 by_cases hz:ds.length<=sizeLine
 .simp only[fI hz] at h2;refine mapP h2 fun out fsf h3 h4=>?_
  simp only[Hy] at h4;obtain⟨e1,e2⟩:=h4;subst e1;subst e2;refine#[fa,O,s,ds,s1,I,h1,hz,fun J H1 f1 O1 a1 L J1 p hp=>?_];have U:∀{fa':vA_}{H':Hp},Stp f1 [p] (l8 H1 p (.lst [])) fa' [p] H'->StE f1 O1 H1 fa' O1 H':=fun {fa' H'} a=>by
   refine#[fun _ h=>h,?_,fun b u e n=>?_,fun b z=>(F7 (fa:=f1) (O:=O1) hp).mon b (a.mon b z)]
   .rcases a.fe with e | ⟨e,h⟩
    .exact .inl e
    .exact .inr #[e,fun x z=>(F7 (fa:=f1) (O:=O1) hp).mon x (h x z)]
   .have nb:b≠p:=M6 e hp;exact a.same b u (by rw[v5 nb];exact e) (by simp[nb]) n
  have carP:∀{fa':vA_}{H':Hp},Stp f1 [p] (l8 H1 p (.lst [])) fa' [p] H'->Car X.K (NN g.F f1 O1) f1 H1 (FF g fa' O1 p) fa' H':=fun {fa' H'} a=>by
   have c:=L.car (U a).stp;refine#[fun b xs n q=>?_,c.tp,c.fz,c.fe];obtain⟨q',n'⟩:=c.ls b xs n q;refine#[q',?_];rintro(z | z)
   .exact n' z
   .subst z;rw[hp] at q;cases q
  refine#[fun i m H'=>m=ds.length - i/\i<=ds.length/\∃fa' ys M rest fs',CI X.K g f1 O1 (l8 H1 p (.lst [])) p fa' H' ys M fs'/\A9 (mk s1.sl) fc fe (ds.drop i) fs'=some (rest,fsf)/\M++rest=out/\ys.length<=i,?_,?_]
  .refine#[ds.length,by simp,HV _,f1,[],[],out,s1.fs,#[Stp.refl,D1,Reps.nil,?_,fun z=>L.fd.tracked z hp],by simpa using h3,rfl,iR _];exact L.fd.car (iz L hp) (L.fd.same_new hp)
  .rintro i m H' ⟨rfl,hil,fa',ys,M,rest,fs',c,hd,ho,hy⟩;have Y:=carP c.st;obtain⟨jgo,jstop⟩:=J1 _ _ _ Y (fun b u e n=>(U c.st).same b u e n) i;by_cases W:i<ds.length
   .have hdi:ds[i]? = some ds[i]:=Ia W;obtain⟨go,yl⟩:=jgo _ hdi;refine .inr #[go,fun x H'' hx=>?_];obtain⟨e1,rx⟩:=yl x H'' hx;subst e1;rw[tV hdi,A9] at hd;refine S9 hd fun sl0 hm hd=>?_
    refine A1 hd fun b sb h5 h6=>?_
    have hNN:∀b,NN (FF g fa' O1 p) fa' [] b->FF g fa' O1 p b:=fun b z=>by
     rcases z with z | z | z
     .exact z
     .cases z
     .exact .inl (.inr (.inr z))
    have cN:Car X.K (FF g fa' O1 p) fa' H'' (NN (FF g fa' O1 p) fa' []) fa' H'':=#[fun b xs n q=>#[q,fun z=>n (hNN b z)],fun _ _ q=>q,fun _ _ q=>q,fun _ q=>q]
    have bg:∀b,FF g fa' O1 p b->H'' b≠none:=fun b z=>by
     rcases z with (z | z | z) | z
     .exact fun w=>L.trF z ((U c.st).mon b w)
     .obtain⟨xs,e⟩:=L.owned z;exact fun w=>by have:=(U c.st).mon b w;rw[e] at this;cases this
     .exact c.fd.tracked z
     .rw[z,c.ls];simp
    refine hG (NN (FF g fa' O1 p) fa' []) fa' s1.sl ds[i] sl0 x σ H'' _ hm (Rep.go cN _ _ rx) (SlR.go cN (fun a xs ha=>by cases ha) (qX (SlR.go Y (fun a xs ha e=>(U c.st).same a _ e fun z=>L.nf a z ha) L.sl) idx)) fun σ1 hσ hsl=>#[hσ,?_]
    have G0:GI X.K #[FF g fa' O1 p,H'',fa',fun _=>E0] σ1 H'' fa' [] #[sl0,fs']:=#[List.nodup_nil,hsl,fun b hb=>(by cases hb),Stp.refl,bg,fun a ha=>.inl (.inr (.inr ha)),c.fd.car cN fun _ _=>rfl,fun _ _ z=>(by cases z)]
    refine#[#[FF g fa' O1 p,H'',fa',fun _=>E0],fa',[],_,b,sb,G0,h5,fun H3 f3 O3 a3 I3=>?_];have eO:O3=[]:=LC.mpr fun z hz=>by have:=a3.sub z hz;cases this
    subst eO;have hF3:∀b,FF g f3 O1 p b->NN (FF g fa' O1 p) f3 [] b:=fun b z=>by
     rcases z with (z | z | z) | z
     .exact .inl (.inl (.inl z))
     .exact .inl (.inl (.inr (.inl z)))
     .exact .inr (.inr z)
     .exact .inl (.inr z)
    have c3:=c.step a3 hF3 I3;cases b with
    |false=>
     rw[gV Hx] at h6;refine Gu ?_;exact#[ds.length - (i+1),by omega,rfl,W,f3,ys,M,rest,sb.fs,c3,h6,ho,Nat.le_succ_of_le hy]
    |true=>
     rw[fI rfl] at h6;refine xK ?_;refine A1 h6 fun dd sd h7 h8=>?_
     refine mapP h8 fun rest2 fs2 h9 h10=>?_
     simp only[Hy] at h10;refine#[#[FF g fa' O1 p,H'',fa',fun _=>E0],f3,[],sb,dd,sd,I3,h7,fun v H4 f4 O4 a4 I4 r4=>?_];have eO:O4=[]:=LC.mpr fun z hz=>by have:=a4.sub z hz;cases this
     subst eO;have hF4:∀b,FF g f4 O1 p b->NN (FF g fa' O1 p) f4 [] b:=fun b z=>by
      rcases z with (z | z | z) | z
      .exact .inl (.inl (.inl z))
      .exact .inl (.inl (.inr (.inl z)))
      .exact .inr (.inr z)
      .exact .inl (.inr z)
     have c4:=c3.step a4 hF4 I4;refine#[ys,c4.ls,by omega,ds.length - (i+1),by omega,rfl,W,f4,ys++[v],M++[dd],rest2,sd.fs,c4.app hF4 r4,by rw[h9,h10.2],?_,by simp;omega];rw[<-ho,<-h10.1];simp
   .refine .inl #[jstop (Ka W),?_];rw[LB (Ka W),A9] at hd;simp only[HL,Hy] at hd;obtain⟨hd1,hd2⟩:=hd;subst hd1;subst hd2;rw[Jd] at ho;subst ho;have aE:=U c.st;have car1:=L.car aE.stp;have Z:∀a xs,a∈O1->H1 a=some (.lst xs)->H' a=some (.lst xs):=fun a xs ha e=>aE.same a _ e fun z=>L.nf a z ha
    refine kk p ys H' fa' O1 (a1.trans aE) #[#[L.nd,SlR.go car1 Z L.sl,L.fr,L.st.trans #[fun b hb=>(by cases hb),aE.fe,fun b u e _ n=>aE.same b u e n,aE.mon],L.tr,L.ff,?_,L.nf_step aE.fe],c.ls,SlR.go Y Z L.sl,c.fd,c.rs,c.nf] (a1.mon p hp);exact c.fd.car (K:=X.K) #[fun b xs n q=>#[q,fun z=>n (.inl z)],fun _ _ q=>q,fun _ _ q=>q,fun _ q=>q] fun _ _=>rfl
 .simp only[gV hz] at h2;cases h2
def oV (k:CompOk X scope cl N' 1 idx):∀σ H Q,liftF X.K g (B6 idx fi fc fe) σ H Q->aX 1 idx (liftI X.K g fi) (R3 0) (fun σ H Q=>∃g',liftT X.K g' fc σ H Q) (fun σ H Q=>∃g',liftE X.K g' fe σ H Q) σ H Q:=
 mz (mk:=fun sl d=>some (.v d::F8 idx sl)) fun N fa sl d Z x σ H Q U M W Y=>by
  cases U;refine Y _ #[by simp,fun j v J=>?_] ?_
  .cases j with
   |zero=>simp[D8] at J
   |succ j=>rw[IK (by simp)];exact J
  .have L:(D8 1 idx σ).set 0 (some x)=some x::idx.map fun i=>(σ[i]?).join:=by simp[D8]
   rw[L];simp only[SlR];exact#[x,_,rfl,M,W]
def R6 (L:X.calm=true) (k:CompOk X scope cl N' 1 idx) (hi:IO X g tg iter fi) (M:∀C s0 H0 ex,PG (A6 X N' scope cl C s0 H0 ex) tg (R3 0))
  (U:∀C s0 H0 ex g',bL (A6 X N' scope cl C s0 H0 ex) g' ifs fc) (W:∀C s0 H0 ex g',EO (A6 X N' scope cl C s0 H0 ex) g' elt fe) (J:∀x,foldedSetIterable iter X.env x=pure x:=by intro _;rfl) :
  FO X g (.ListComp elt [#[tg,iter,ifs,0]] scope pos) (B6 idx fi fc fe):=by
 exact FO.w (rS (tc:=fun σ H Q=>∃g',liftT X.K g' fc σ H Q) (te:=fun σ H Q=>∃g',liftE X.K g' fe σ H Q) L k hi.pe M (fun C s0 H0 ex pins s σ H Q I ⟨g',h⟩=>U C s0 H0 ex g' pins s σ H Q I h) (fun C s0 H0 ex pins s σ H Q I ⟨g',h⟩=>(W C s0 H0 ex g').pe pins s σ H Q I h) J) (oV k)
end DL
variable {d d1 d2:DL.D}{p:DL.D->DL.D->Option DL.D}{ds:DL.vD_}{f:DL.FS}{fs':DL.vO_}{sl:List DL.Sl}{mk:List DL.Sl->DL.D->Option (List DL.Sl)}{s1 s2 s':DL.DS}{g:DL.Gh}{fe:DL.DE}{c fc:DL.DT}{fi:DL.DA}{m mo:DL.a8}
namespace HT2
open PySem PyProof.Rows
def cat_tup0 {w:World}{t b:Addr}{ws:vV_}(ht:IsTup s.heap t ([]:vV_).toArray) (hb:IsTup s.heap b ws.toArray)
  (h:Q (.ref b) s):wpAny (model prog w) A (binaryOp .Add (.ref t) (.ref b)) Q E s:=by
 obtain⟨⟨cls,dd,Z,sl⟩,ho,hc,n,hd⟩:=id ht;obtain⟨⟨cls2,W,Y,U⟩,L,J,n2,M⟩:=id hb;simp only at hc hd J M;subst hc hd J M;exact concat_meets #[_,ho,rfl] #[_,L,rfl] KI seq_tuple_add KJ KL (KN _ _)
  (tuple_addW0 t b _ ws.toArray n n2 dd W sl U (by simp)) #[ho,L,h]
end HT2
namespace DL
open PySem PySem.Spec L2
def A8 (i:Int):Bool:=decide (i.natAbs.log2<1000000)
def uj {i:Int}(h:A8 i=true):Builtin.Int.intBits i<=2 ^ 20:=by
 have h1:i.natAbs.log2<1000000:=HS h;unfold Builtin.Int.intBits;split
 .exact HV _
 .have e:(2:Nat) ^ 20=1048576:=by decide
  rw[e];omega
def G4 (j:Int):Bool:=decide (j≠0)&&decide (j.natAbs.log2<9000)
def op_mulB:OpR X (binaryOp .Mult) (rI (fun i j=>A8 i=true/\A8 j=true) fun i j=>.int (i*j)):=fV fun _ _ _ _ _ _ _ J q=>PyProof.Rows.mul_int q (IntMulOk.of_bits (uj J.1) (uj J.2))
def FT:OpR X (binaryOp .FloorDiv) (rI (fun _ j=>G4 j=true) fun i j=>.int (i.fdiv j)):=fV fun i j _ _ _ _ _ L q=>by
 have J:G4 j=true:=L;unfold G4 at J;rw[Hs] at J;exact PyProof.Rows.floordiv_int (HS J.1) q (.inl (PyProof.noPylong_of_log2 (HS J.2)))
def mq (K:vF_):R2:=fun x y H Q=>∃a b ys,x = .ref a/\y = .ref b/\SqT K H a []/\SqT K H b ys/\Q (.ref b) H
def op_catT0:OpR X (binaryOp .Add) (mq X.K):=by
 intro pins s σ H x y v u Q I M ry h;obtain⟨a,b,ys,rfl,rfl,Y,U,q⟩:=h;cases M;cases ry;obtain⟨W,Z,ht,_⟩:=I.tuple Y;obtain⟨L,r2,J,_⟩:=I.tuple U;cases Z;exact HT2.cat_tup0 ht J #[.ref b,H,I,rfl,q]
def pH (K:vF_):R2:=fun x y H Q=>(N7 (fun i j=>.int (i+j)) x y H Q\/(∃i j,x = .str i/\y = .str j/\i.length+j.length<=sizeLine/\Q (.str (i++j)) H))\/((mq K x y H Q\/pK K x y H Q)\/jF x y H Q)
def uh:OpR X (binaryOp .Add) (pH X.K):=(op_add.or wo).or ((op_catT0.or FE).or aY)
def rR:R2:=fun x y H Q=>rI (fun i j=>A8 i=true/\A8 j=true) (fun i j=>.int (i*j)) x y H Q\/qm x y H Q
def xc:OpR X (binaryOp .Mult) rR:=op_mulB.or Gn
def j6:D->D->Option D
 |.int i,.int j=>some (.int (i+j))
 |.str x,.str y=>if x.length+y.length<=sizeLine then some (.str (x++y)) else none
 |.tup xs,.tup ys=>if xs.length+ys.length<=sizeLine then some (.tup (xs++ys)) else none
 |.lst xs,.lst ys=>if xs.length+ys.length<=sizeLine then some (.lst (xs++ys)) else none
 |_,_=>none
def l7:D->D->Option D
 |.int i,.int j=>some (.int (i - j))
 |_,_=>none
def o8:D->D->Option D
 |.int i,.int j=>if A8 i&&A8 j then some (.int (i*j)) else none
 |.lst xs,.int k=>if -(2 ^ 63)<=k/\k<2 ^ 63/\xs.length*k.toNat<=sizeLine then some (.lst (List.replicate k.toNat xs).flatten) else none
 |_,_=>none
def G2:D->D->Option D
 |.int i,.int j=>if G4 j then some (.int (i.fdiv j)) else none
 |_,_=>none
def B7:D->D->Option D
 |.int i,.int j=>if j≠0 then some (.int (i.fmod j)) else none
 |_,_=>none
def P6:D->D->Option D
 |.int i,.int j=>if 0<=j/\j<=1000000/\i.natAbs<2 ^ 64 then some (.int (i ^ j.toNat)) else none
 |_,_=>none
def k9:D->Option D
 |.int i=>some (.int (-i))
 |_=>none
def i8 (p:Int->Int->Bool):D->D->Option D
 |.int i,.int j=>some (.bl (p i j))
 |_,_=>none
def az:D->D->Option D
 |.non,.non=>some (.bl true)
 |.feed,.non=>none
 |.scr _,.non=>none
 |.fn _,.non=>none
 |.exc _ _,.non=>none
 |_,.non=>some (.bl false)
 |_,_=>none
def tY {K:vF_}(r:Reps K N fa H ds xs):xs=[]↔ds=[]:=by
 have:=r.length;cases xs <;> cases ds <;> simp_all
theorem Reps.flat {K:vF_}(r:Reps K N fa H ds xs):∀k:Nat,Reps K N fa H (List.replicate k ds).flatten (List.replicate k xs).flatten
 |0=>by simp[Reps]
 |k+1=>by
  simp only[IT,JB];exact Reps.append r (Reps.flat r k)
section
variable {K:vF_}
def oM:B8 K (pH K) j6:=by
 intro g σ H fa O s x y d1 d2 d Q I U Y e k;cases d1 with
 |int i=>
  cases d2 with
  |int j=>
   cases e;simp only[RepB,Rep] at U Y;exact .inl (.inl #[i,j,U,Y,k _ H StE.refl I (by simp only[Rep])])
  |_=>cases e
 |str a=>
  cases d2 with
  |str b=>
   have e:(if a.length+b.length<=sizeLine then some (D.str (a++b)) else none)=some d:=e;by_cases h:a.length+b.length<=sizeLine
   .rw[fI h] at e;cases e;simp only[RepB,Rep] at U Y;refine .inl (.inr #[a,b,U.1,Y.1,h,k _ H StE.refl I ?_]);simp only[Rep];exact#[trivial,by rw[strLen_append];exact h]
   .rw[gV h] at e;cases e
  |_=>cases e
 |tup W=>
  cases d2 with
  |tup Z=>
   have e:(if W.length+Z.length<=sizeLine then some (D.tup (W++Z)) else none)=some d:=e;by_cases h:W.length+Z.length<=sizeLine
   .rw[fI h] at e;cases e;simp only[RepB,Rep] at U Y;obtain⟨a,xs,rfl,qa,M⟩:=U;obtain⟨b,ys,rfl,qb,J⟩:=Y;by_cases hx:xs=[]
    .have ha:=(tY M).mp hx;subst hx;subst ha;refine .inr (.inl (.inl #[a,b,ys,rfl,rfl,qa,qb,k _ H StE.refl I ?_]));simp only[Rep,List.nil_append];exact#[b,ys,rfl,qb,J]
    .refine .inr (.inl (.inr #[a,b,xs,ys,rfl,rfl,qa,qb,hx,by rw[M.length,J.length];exact h,fun hy=>?_,fun hy p hp=>?_]))
     .have hb:=(tY J).mp hy;subst hy;subst hb;refine k _ H StE.refl I ?_;simp only[Rep,Jd];exact#[a,xs,rfl,qa,M]
     .have a2:StE fa O H fa O (l8 H p (.tup (xs++ys))):=F7 hp;refine k _ _ a2 (I.new hp) ?_;simp only[Rep];exact#[p,_,rfl,SqT.of D1,Reps.stp I a2.stp (Reps.append M J)]
   .rw[gV h] at e;cases e
  |_=>cases e
 |lst W=>
  cases d2 with
  |lst Z=>
   have e:(if W.length+Z.length<=sizeLine then some (D.lst (W++Z)) else none)=some d:=e;by_cases h:W.length+Z.length<=sizeLine
   .rw[fI h] at e;cases e;obtain⟨a,xs,rfl,_,qa,M⟩:=U;obtain⟨b,ys,rfl,_,qb,J⟩:=Y;refine .inr (.inr #[a,b,xs,ys,rfl,rfl,qa,qb,by rw[M.length,J.length];exact h,fun p hp=>?_]);have a2:StE fa O H fa O (l8 H p (.lst (xs++ys))):=F7 hp;have L:=T1 I hp (Reps.append M J);refine k _ _ a2 L.gi ?_;simp only[Rep];exact#[p,_,rfl,ck I a2 L.gi hp L.nf,D1,Reps.stp I a2.stp (Reps.append M J)]
   .rw[gV h] at e;cases e
  |_=>cases e
 |_=>cases e
def aC:D->D->Option (List D)
 |.lst xs,.lst ys=>if xs.length+ys.length<=sizeLine then some (xs++ys) else none
 |_,_=>none
def bH:kW K jF aC:=by
 intro g σ H fa O s x y d1 d2 ds Q I Z W e k;cases d1 with
 |lst U=>
  cases d2 with
  |lst bs=>
   simp only[aC] at e;by_cases h:U.length+bs.length<=sizeLine
   .rw[fI h] at e;cases e;obtain⟨a,xs,rfl,_,Y,M⟩:=Z;obtain⟨b,ys,rfl,_,qb,L⟩:=W;refine#[a,b,xs,ys,rfl,rfl,Y,qb,by rw[M.length,L.length];exact h,fun p J=>?_];exact k p _ _ (F7 J) (T1 I J (Reps.append M L)) J
   .rw[gV h] at e;cases e
  |_=>cases e
 |_=>cases e
def ko {f:Int->Int->D}(U:∀d1 d2 d,p d1 d2=some d->∃i j,d1 = .int i/\d2 = .int j/\C i j/\d=f i j) (M:∀N fa H i j,Rep K N fa H (f i j) (f' i j)):B8 K (rI C f') p:=by
 intro g σ H fa O s x y d1 d2 d Q I L J e k;obtain⟨i,j,rfl,rfl,c,rfl⟩:=U d1 d2 d e;simp only[RepB,Rep] at L J;exact#[i,j,L,J,c,k _ H StE.refl I (M _ _ _ _ _)]
def mQ {f:Int->Int->D}(U:∀d1 d2 d,p d1 d2=some d->∃i j,d1 = .int i/\d2 = .int j/\d=f i j) (M:∀N fa H i j,Rep K N fa H (f i j) (f' i j)):B8 K (N7 f') p:=by
 intro g σ H fa O s x y d1 d2 d Q I L J e k;obtain⟨i,j,rfl,rfl,rfl⟩:=U d1 d2 d e;simp only[RepB,Rep] at L J;exact#[i,j,L,J,k _ H StE.refl I (M _ _ _ _ _)]
def iT (F:Int->Int->Option D):D->D->Option D
 |.int i,.int j=>F i j
 |_,_=>none
def mf {F:Int->Int->Option D}(e:iT F d1 d2=some d):∃i j,d1 = .int i/\d2 = .int j/\F i j=some d:=by
 cases d1 with
 |int i=>
  cases d2 with
  |int j=>exact#[i,j,rfl,rfl,e]
  |_=>cases e
 |_=>cases e
def jQ [∀i j,Decidable (C i j)] {f:Int->Int->D}(e:iT (fun i j=>if C i j then some (f i j) else none) d1 d2=some d):∃i j,d1 = .int i/\d2 = .int j/\C i j/\d=f i j:=by
 obtain⟨i,j,h1,h2,J⟩:=mf e;by_cases h:C i j
 .have J:(if C i j then some (f i j) else none)=some d:=J;rw[fI h] at J;exact#[i,j,h1,h2,h,(HU J).symm]
 .have J:(if C i j then some (f i j) else none)=some d:=J;rw[gV h] at J;cases J
def sM {f:Int->Int->D}(e:iT (fun i j=>some (f i j)) d1 d2=some d):∃i j,d1 = .int i/\d2 = .int j/\d=f i j:=by
 obtain⟨i,j,h1,h2,J⟩:=mf e;exact#[i,j,h1,h2,(HU J).symm]
def yM:B8 K (N7 fun i j=>.int (i - j)) l7:=mQ (f:=fun i j=>.int (i - j)) (fun d1 d2 d e=>sM (f:=fun i j=>.int (i - j)) e) fun _ _ _ _ _=>by simp only[Rep]
def yE (p:Int->Int->Bool):B8 K (N7 fun i j=>.bl (p i j)) (i8 p):=mQ (f:=fun i j=>.bl (p i j)) (fun d1 d2 d e=>sM (f:=fun i j=>.bl (p i j)) e) fun _ _ _ _ _=>by simp only[Rep]
def ym:B8 K rR o8:=by
 intro g σ H fa O s x y d1 d2 d Q I U J e k;cases d1 with
 |int i=>
  cases d2 with
  |int j=>
   have e:(if A8 i&&A8 j then some (D.int (i*j)) else none)=some d:=e;by_cases h:(A8 i&&A8 j)=true
   .rw[fI h] at e;cases e;rw[Hs] at h;simp only[RepB,Rep] at U J;exact .inl #[i,j,U,J,h,k _ H StE.refl I (by simp only[Rep])]
   .rw[gV h] at e;cases e
  |_=>cases e
 |lst Z=>
  cases d2 with
  |int j=>
   simp only[o8] at e;by_cases h:-(2 ^ 63)<=j/\j<2 ^ 63/\Z.length*j.toNat<=sizeLine
   .rw[fI h] at e;cases e;obtain⟨a,xs,rfl,_,qa,W⟩:=U;simp only[RepB,Rep] at J;subst J;refine .inr #[a,j,xs,rfl,rfl,qa,h.1,h.2.1,by rw[W.length];exact h.2.2,fun p Y=>?_];have M:StE fa O H fa O (l8 H p (.lst (List.replicate j.toNat xs).flatten)):=F7 Y;have L:=T1 I Y (W.flat j.toNat);refine k _ _ M L.gi ?_;simp only[Rep];exact#[p,_,rfl,ck I M L.gi Y L.nf,D1,Reps.stp I M.stp (W.flat j.toNat)]
   .rw[gV h] at e;cases e
  |_=>cases e
 |_=>cases e
def xZ:B8 K (rI (fun _ j=>G4 j=true) fun i j=>.int (i.fdiv j)) G2:=ko (f:=fun i j=>.int (i.fdiv j)) (fun d1 d2 d e=>jQ (C:=fun _ j=>G4 j=true) (f:=fun i j=>.int (i.fdiv j)) e) fun _ _ _ _ _=>by simp only[Rep]
def vB:B8 K (rI (fun _ j=>j≠0) fun i j=>.int (i.fmod j)) B7:=ko (f:=fun i j=>.int (i.fmod j)) (fun d1 d2 d e=>jQ (C:=fun _ j=>j≠0) (f:=fun i j=>.int (i.fmod j)) e) fun _ _ _ _ _=>by simp only[Rep]
def xC:B8 K (rI qc fun i j=>.int (i ^ j.toNat)) P6:=ko (f:=fun i j=>.int (i ^ j.toNat)) (fun d1 d2 d e=>jQ (C:=fun i j=>0<=j/\j<=1000000/\i.natAbs<2 ^ 64) (f:=fun i j=>.int (i ^ j.toNat)) e) fun _ _ _ _ _=>by simp only[Rep]
def Dx:ou K (rU fun i=>.int (-i)) k9:=by
 intro g σ H fa O s x d1 d Q I J e k;cases d1 with
 |int i=>cases e;simp only[RepB,Rep] at J;exact#[i,J,k _ H StE.refl I (by simp only[Rep])]
 |_=>cases e
def ug:D->Bool
 |.non=>true
 |_=>false
def Hc {x:V}(r:RepB K N fa H d x):decide (x = .non)=ug d:=by
 cases d with
 |non=>simp only[RepB,Rep] at r;subst r;rfl
 |bl b=>simp only[RepB,Rep] at r;subst r;rfl
 |int i=>simp only[RepB,Rep] at r;subst r;rfl
 |str x=>simp only[RepB,Rep] at r;obtain⟨r,_⟩:=r;subst r;rfl
 |tup ds=>simp only[RepB,Rep] at r;obtain⟨a,xs,rfl,_⟩:=r;rfl
 |lst ds=>obtain⟨a,xs,rfl,_⟩:=r;rfl
 |feed=>simp only[RepB,Rep] at r;obtain⟨a,_,rfl⟩:=r;rfl
 |scr J=>simp only[RepB,Rep] at r;obtain⟨_,a,rfl,_⟩:=r;rfl
 |fn x=>simp only[RepB,Rep] at r;obtain⟨a,rfl,_⟩:=r;rfl
 |exc c ds=>simp only[RepB,Rep] at r;obtain⟨a,C,xs,rfl,_⟩:=r;rfl
def vL:B8 K (fun x y H Q=>y = .non/\Q (.bl (decide (x = .non))) H) az:=by
 intro g σ H fa O s x y d1 d2 d Q I L J e k;have h2:d2 = .non:=by cases d1 <;> cases d2 <;> first | rfl | cases e
 subst h2;simp only[RepB,Rep] at J;refine#[J,k _ H StE.refl I ?_];rw[Hc L];cases d1 <;> first | (cases e;simp[Rep,ug];done) | cases e
end
section
variable {σ:L2.St}
mutual
theorem Q9 (I:Inv X pins σ H s):∀(d:D) (v:V) (u:Value),Q5 X.K N fa H d v->RelV v u->d.plain=true->∃as,Reads s.heap u d.py as
 |.non,v,u,r,ru,_=>by
  simp only[Q5,Rep] at r;subst r;cases ru;simp only[D.py];exact#[[],.none]
 |.bl b,v,u,r,ru,_=>by
  simp only[Q5,Rep] at r;subst r;cases ru;simp only[D.py];exact#[[],.bool b]
 |.int i,v,u,r,ru,_=>by
  simp only[Q5,Rep] at r;subst r;obtain⟨t,rfl⟩:=ru;simp only[D.py];exact#[[],.int i t]
 |.str x,v,u,r,ru,_=>by
  simp only[Q5,Rep] at r;obtain⟨r,_⟩:=r;subst r;obtain⟨t,rfl⟩:=ru;simp only[D.py];exact#[[],.str x t]
 |.tup ds,v,u,r,ru,hp=>by
  simp only[Q5,Rep] at r;obtain⟨a,xs,rfl,q,w⟩:=r;cases ru;obtain⟨J,M,⟨o,h1,h2,n,U⟩,_⟩:=I.tuple q;obtain⟨as,L⟩:=jX I ds xs J w M (by simpa only[D.plain] using hp);simp only[D.py];exact#[as,.tuple h1 h2 U (by simpa using L)]
 |.lst ds,v,u,r,ru,hp=>by
  obtain⟨a,xs,rfl,q,w⟩:=r;cases ru;obtain⟨J,M,⟨o,n,h1,h2,U,W⟩,_⟩:=I.list (SqL.of q);obtain⟨as,L⟩:=jX I ds xs J w M (by simpa only[D.plain] using hp);simp only[D.py];exact#[_,.list h1 h2 W (by simpa using L)]
 |.feed,v,u,r,ru,hp=>by simp only[D.plain] at hp;cases hp
 |.scr _,v,u,r,ru,hp=>by simp only[D.plain] at hp;cases hp
 |.fn _,v,u,r,ru,hp=>by simp only[D.plain] at hp;cases hp
 |.exc _ _,v,u,r,ru,hp=>by simp only[D.plain] at hp;cases hp
theorem jX (I:Inv X pins σ H s):∀(ds:vD_) (xs:List V) (us:vV_),Reps X.K N fa H ds xs->Vals xs us->D.plains ds=true->∃as,ReadsAll s.heap us (D.pys ds) as
 |[],xs,us,r,ru,_=>by
  simp only[Reps] at r;subst r;cases ru;simp only[D.pys];exact#[[],.nil]
 |d::ds,xs,us,r,ru,hp=>by
  simp only[Reps] at r;obtain⟨x,ys,rfl,M,L⟩:=r;cases ru with
  |cons q J=>
   simp only[D.plains,Hs] at hp;obtain⟨as,h1⟩:=Q9 I d x _ M.o q hp.1;obtain⟨U,h2⟩:=jX I ds ys _ L J hp.2;simp only[D.pys];exact#[_,.cons h1 h2]
end
end
def A5 (d:D):Bool:=d.plain&&SeqAt.shaped d.py
def u6 (d1 d2:D):Option D:=match d1,d2 with
 |.str x,.str y=>some (.bl (decide (x=y)))
 |d1,d2=>if A5 d1&&A5 d2 then some (.bl (PyData.eqv d1.py d2.py)) else none
def o9 (d1 d2:D):Option D:=match d1,d2 with
 |.str x,.str y=>some (.bl (!decide (x=y)))
 |d1,d2=>if A5 d1&&A5 d2 then some (.bl (!PyData.eqv d1.py d2.py)) else none
def aL (K:vF_) (f:Bool->Bool):R2:=fun x y H Q=>∃N fa d1 d2,RepB K N fa H d1 x/\RepB K N fa H d2 y/\A5 d1=true/\A5 d2=true/\Q (.bl (f (PyData.eqv d1.py d2.py))) H
section
variable {K:vF_}
def Fo (Z:X.A.units+64<cLine):OpR X (compareOp .Eq) (aL X.K id):=by
 intro pins s σ H x y v u Q I M Y h;obtain⟨N,fa,d1,d2,W,U,L,J,q⟩:=h;unfold A5 at L J;rw[Hs] at L J;obtain⟨as,h1⟩:=Q9 I d1 x v W.o M L.1;obtain⟨bs,h2⟩:=Q9 I d2 y u U.o Y J.1;exact PyProof.Rows.eq_dataH h1 h2 L.2 J.2 Z #[.bl _,H,I,rfl,q]
def ye (Z:X.A.units+64<cLine):OpR X (compareOp .NotEq) (aL X.K not):=by
 intro pins s σ H x y v u Q I M Y h;obtain⟨N,fa,d1,d2,W,U,L,J,q⟩:=h;unfold A5 at L J;rw[Hs] at L J;obtain⟨as,h1⟩:=Q9 I d1 x v W.o M L.1;obtain⟨bs,h2⟩:=Q9 I d2 y u U.o Y J.1;exact PyProof.Rows.ne_dataH h1 h2 L.2 J.2 Z #[.bl _,H,I,rfl,q]
def uk (J:X.A.units+64<cLine):OpR X (compareOp .Eq) (fun x y H Q=>jL x y H Q\/aL X.K id x y H Q):=op_eq.or (Fo J)
def Bi (J:X.A.units+64<cLine):OpR X (compareOp .NotEq) (fun x y H Q=>lE x y H Q\/aL X.K not x y H Q):=op_ne.or (ye J)
def CF (h:u6 d1 d2=some d):(∃x y,d1 = .str x/\d2 = .str y/\d = .bl (decide (x=y)))\/(A5 d1=true/\A5 d2=true/\d = .bl (PyData.eqv d1.py d2.py)):=by
 unfold u6 at h;split at h
 .cases h;exact .inl #[_,_,rfl,rfl,rfl]
 .split at h
  .rename_i q;rw[Hs] at q;cases h;exact .inr #[q.1,q.2,rfl]
  .cases h
def wz (h:o9 d1 d2=some d):(∃x y,d1 = .str x/\d2 = .str y/\d = .bl (!decide (x=y)))\/(A5 d1=true/\A5 d2=true/\d = .bl (!PyData.eqv d1.py d2.py)):=by
 unfold o9 at h;split at h
 .cases h;exact .inl #[_,_,rfl,rfl,rfl]
 .split at h
  .rename_i q;rw[Hs] at q;cases h;exact .inr #[q.1,q.2,rfl]
  .cases h
def mI (x y:Str):decide (V.str x=V.str y)=decide (x=y):=by
 by_cases h:x=y
 .subst h;simp
 .rw[iU h,iU fun z=>h (V.str.inj z)]
def rE:B8 K (fun x y H Q=>jL x y H Q\/aL K id x y H Q) u6:=by
 intro g σ H fa O s x y d1 d2 d Q I L J e k;rcases CF e with ⟨a,b,rfl,rfl,rfl⟩ | ⟨h1,h2,rfl⟩
 .simp only[RepB,Rep] at L J;obtain⟨rfl,_⟩:=L;obtain⟨rfl,_⟩:=J;exact .inl #[rfl,k _ H StE.refl I (by simp only[Rep,mI])]
 .exact .inr #[_,_,d1,d2,L,J,h1,h2,k _ H StE.refl I (by simp only[Rep,id])]
def CW:B8 K (fun x y H Q=>lE x y H Q\/aL K not x y H Q) o9:=by
 intro g σ H fa O s x y d1 d2 d Q I L J e k;rcases wz e with ⟨a,b,rfl,rfl,rfl⟩ | ⟨h1,h2,rfl⟩
 .simp only[RepB,Rep] at L J;obtain⟨rfl,_⟩:=L;obtain⟨rfl,_⟩:=J;exact .inl #[rfl,k _ H StE.refl I (by simp only[Rep,mI])]
 .exact .inr #[_,_,d1,d2,L,J,h1,h2,k _ H StE.refl I (by simp only[Rep])]
def c7:D->D->Option D
 |.tup ds,.int i=>n8 ds i
 |.lst ds,.int i=>n8 ds i
 |_,_=>none
abbrev b0(i:Int):DE:=dC (.int i)
abbrev k0(i:Nat)(j:Int):DE:=a6 c7 (dL i) (b0 j)
def sV {i:Int}(r:Reps K N fa H ds xs) (h:n8 ds i=some d):∃v,n8 xs i=some v/\Rep K N fa H d v:=by
 unfold n8 at h ⊢;rw[r.length];cases e:L8 ds.length i with
 |none=>rw[e] at h;cases h
 |some j=>
  rw[e] at h;simp only[Hq] at h ⊢;exact Reps.get r h
def De:B8 K (fun x y H Q=>iV K x y H Q\/kc K x y H Q) c7:=by
 intro g σ H fa O s x y d1 d2 d Q I U J e k;cases d1 with
 |tup ds=>
  cases d2 with
  |int i=>
   simp only[RepB,Rep] at U J;obtain⟨a,xs,rfl,q,w⟩:=U;obtain⟨v,L,M⟩:=sV w (show n8 ds i=some d from e);exact .inr #[a,xs,i,v,rfl,J,q,L,k v H StE.refl I M]
  |_=>cases e
 |lst ds=>
  cases d2 with
  |int i=>
   obtain⟨a,xs,rfl,_,q,w⟩:=U;simp only[RepB,Rep] at J;obtain⟨v,L,M⟩:=sV w (show n8 ds i=some d from e);exact .inl #[a,xs,i,v,rfl,J,SqL.of q,L,k v H StE.refl I M]
  |_=>cases e
 |_=>cases e
def Ga:IxR X (fun x y H Q=>iV X.K x y H Q\/kc X.K x y H Q):=ix_list.or zi
end
noncomputable def d8 (p:List D->Option D) (f:DA):DE:=fun s=>(f s).bind fun x=>(p x.1).map fun d=>(d,x.2)
def X2 (p:List D->Option (List D)) (f:DA):DA:=fun s=>(f s).bind fun x=>(p x.1).map fun d=>(d,x.2)
section
variable {p:Pos}{t:DA}{id T:String}{pr:List D->Option D}{pf:List D->Option (List D)}
def tW (hr:M9 X.K r pr) (σ:L2.St) (H:Hp) (Q:VK) (h:liftE X.K g (d8 pr t) σ H Q):dh r (liftBA X.K g t) σ H Q:=by
 obtain⟨U,O,s,d,s',I,e,k⟩:=h;refine A1 e fun ds s1 h1 h=>?_
 refine K7 h fun J h3 h=>?_
 simp only[Hy] at h;obtain⟨e1,e2⟩:=h;subst e1;subst e2;exact#[U,O,s,ds,s1,I,h1,fun M H1 f1 O1 a1 I1 Z=>hr g σ H1 f1 O1 s1 M ds J Q I1 Z h3 fun z Y L I3 W=>k z Y f1 O1 (a1.trans L) I3 W]
def tT (hr:eu X.K r pf) (σ:L2.St) (H:Hp) (Q:VK) (h:liftF X.K g (X2 pf t) σ H Q):dh r (liftBA X.K g t) σ H Q:=by
 obtain⟨Y,O,s,d,s',I,e,k⟩:=h;refine A1 e fun ds s1 h1 h=>?_
 refine K7 h fun M h3 h=>?_
 simp only[Hy] at h;obtain⟨e1,e2⟩:=h;subst e1;subst e2;exact#[Y,O,s,ds,s1,I,h1,fun W H1 f1 O1 J I1 r1=>hr g σ H1 f1 O1 s1 W ds M Q I1 r1 h3 fun q ys H3 U L Z=>k q ys H3 f1 O1 (J.trans U) L (J.mon _ Z)]
def bX (Y:CallR X (.builtin id) r) (M:M9 X.K r pr) (hg:Gl X x) (U:X.mg x=none) (Z:bootBuiltins x=some (.builtin id)) (ha:BAO X g (e::es) t) (W:x ≠ "__name__" := by decide) (J:(x == ("__debug__" : Str))=false:=by decide)
  (he:starEach (e::es) X.env=(false,eval e X.env)::starEach es X.env:=by rfl) (L:(backTo pos (starEach es X.env)).any (·.1)=false:=by rfl):EO X g (.Call (.Name x p) (e::es) [] pos) (d8 pr t):=
 EO.w (qJ Y hg U Z ha.pe W J he L) (tW M)
def cF (Y:CallR X (.type T) r) (M:M9 X.K r pr) (hg:Gl X x) (U:X.mg x=none) (Z:bootBuiltins x=some (.type T)) (ha:BAO X g (e::es) t) (W:x ≠ "__name__" := by decide) (J:(x == ("__debug__" : Str))=false:=by decide)
  (he:starEach (e::es) X.env=(false,eval e X.env)::starEach es X.env:=by rfl) (L:(backTo pos (starEach es X.env)).any (·.1)=false:=by rfl):EO X g (.Call (.Name x p) (e::es) [] pos) (d8 pr t):=
 EO.w (mn Y hg U Z ha.pe W J he L) (tW M)
def xg (Y:CallR X (.type T) r) (M:eu X.K r pf) (hg:Gl X x) (U:X.mg x=none) (Z:bootBuiltins x=some (.type T)) (ha:BAO X g (e::es) t) (W:x ≠ "__name__" := by decide) (J:(x == ("__debug__" : Str))=false:=by decide)
  (he:starEach (e::es) X.env=(false,eval e X.env)::starEach es X.env:=by rfl) (L:(backTo pos (starEach es X.env)).any (·.1)=false:=by rfl):FO X g (.Call (.Name x p) (e::es) [] pos) (X2 pf t):=
 FO.w (mn Y hg U Z ha.pe W J he L) (tT M)
end
def uA {K:vF_}(r:U1 K N fa H [d] xs):∃x,xs=[x]/\RepB K N fa H d x:=by
 obtain⟨x,ys,rfl,L,J⟩:=r;simp only[U1] at J;subst J;exact#[x,rfl,L]
def one {α:Type}(p:D->Option α):List D->Option α
 |[d]=>p d
 |_=>none
def qG {α:Type}{p:D->Option α}{a:α}(h:one p ds=some a):∃d,ds=[d]/\p d=some a:=by
 cases ds with
 |nil=>cases h
 |cons d r=>
  cases r with
  |nil=>exact#[d,rfl,h]
  |cons _ _=>cases h
def j5:D->Option D
 |.tup ds=>some (.int (ds.length:Nat))
 |.lst ds=>some (.int (ds.length:Nat))
 |.str x=>some (.int (x.length:Nat))
 |_=>none
def K6:D->Option D
 |.int i=>some (.int (if i<0 then -i else i))
 |_=>none
def iL:D->Option D
 |.int i=>some (.int i)
 |.bl b=>some (.int (if b then 1 else 0))
 |_=>none
def P9:D->Option D
 |.int i=>if i.natAbs.log2<1920/\(toString i:Str).length<=sizeLine then some (.str (toString i)) else none
 |_=>none
def K8:D->Option D
 |.tup ds=>some (.tup ds)
 |.lst ds=>some (.tup ds)
 |_=>none
def tu:D->Option (List D)
 |.tup ds=>some ds
 |.lst ds=>some ds
 |_=>none
def N2:List D->Option Bool
 |[]=>some true
 |.bl b::r=>(N2 r).map fun c=>b&&c
 |_::_=>none
def M0:D->Option D
 |.lst ds=>(N2 ds).map .bl
 |_=>none
def W5 (d:D):Bool:=d.plain&&d.py.showable&&d.py.canLay0&&decide (d.py.depth<=64)&&decide (d.py.shown.length<=sizeLine)
def B5 (d:D):Option D:=if W5 d then some (.str d.py.shown) else none
section
variable {K:vF_}
def uV:CallR X (.builtin "len") (fun xs H Q=>(∃p ys,xs=[.ref p]/\(SqL X.K H p ys\/SqT X.K H p ys)/\Q (.int ys.length) H)\/(∃z,xs=[.str z]/\z.length<=sizeLine/\Q (.int z.length) H)):=call_len_seq.or AH
def W6 {p:D->Option D}(h:∀(g:Gh) (σ:L2.St) (H:Hp) (fa:vA_) (O:vL_) (s:DS) (x:V) (d1 d:D) (Q:VK),GI K g σ H fa O s->RepB K (NN g.F fa O) fa H d1 x->p d1=some d ->
  (∀v H',StE fa O H fa O H'->GI K g σ H' fa O s->Rep K (NN g.F fa O) fa H' d v->Q v H')->r [x] H Q):M9 K r (one p):=by
 intro g σ H fa O s xs ds d Q I L e k;obtain⟨d1,rfl,M⟩:=qG e;obtain⟨x,rfl,J⟩:=uA L;exact h g σ H fa O s x d1 d Q I J M k
def xj:M9 K (fun xs H Q=>(∃p ys,xs=[.ref p]/\(SqL K H p ys\/SqT K H p ys)/\Q (.int ys.length) H)\/(∃z,xs=[.str z]/\z.length<=sizeLine/\Q (.int z.length) H)) (one j5):=W6 fun g σ H fa O s x d1 d Q I r e k=>by
 cases d1 with
 |tup es=>
  cases e;simp only[RepB,Rep] at r;obtain⟨a,ys,rfl,q,w⟩:=r;exact .inl #[a,ys,rfl,.inr q,k _ H StE.refl I (by rw[w.length];simp only[Rep])]
 |lst es=>
  cases e;obtain⟨a,ys,rfl,_,q,w⟩:=r;exact .inl #[a,ys,rfl,.inl (SqL.of q),k _ H StE.refl I (by rw[w.length];simp only[Rep])]
 |str z=>
  cases e;simp only[RepB,Rep] at r;obtain⟨rfl,l⟩:=r;exact .inr #[z,rfl,l,k _ H StE.refl I (by simp only[Rep])]
 |_=>cases e
def DY:M9 K (fun xs H Q=>∃i,xs=[.int i]/\Q (.int (if i<0 then -i else i)) H) (one K6):=W6 fun g σ H fa O s x d1 d Q I r e k=>by
 cases d1 with
 |int i=>
  cases e;simp only[RepB,Rep] at r;subst r;exact#[i,rfl,k _ H StE.refl I (by simp only[Rep])]
 |_=>cases e
def Cs:M9 K (fun xs H Q=>(∃i,xs=[.int i]/\Q (.int i) H)\/∃k,xs=[.bl k]/\Q (.int (if k then 1 else 0)) H) (one iL):=W6 fun g σ H fa O s x d1 d Q I r e k=>by
 cases d1 with
 |int i=>
  cases e;simp only[RepB,Rep] at r;subst r;exact .inl #[i,rfl,k _ H StE.refl I (by simp only[Rep])]
 |bl b=>
  cases e;simp only[RepB,Rep] at r;subst r;exact .inr #[b,rfl,k _ H StE.refl I (by simp only[Rep])]
 |_=>cases e
def EK:M9 K (fun xs H Q=>∃i,xs=[.int i]/\i.natAbs.log2<1920/\Q (.str (toString i)) H) (one P9):=W6 fun g σ H fa O s x d1 d Q I r e k=>by
 cases d1 with
 |int i=>
  simp only[P9] at e;split at e
  .rename_i h;cases e;simp only[RepB,Rep] at r;subst r;exact#[i,rfl,h.1,k _ H StE.refl I (by simp only[Rep];exact#[trivial,h.2])]
  .cases e
 |_=>cases e
def dQ:M9 K (fun xs H Q=>∃p ys,xs=[.ref p]/\((SqL K H p ys/\∀l,H l=none->Q (.ref l) (l8 H l (.tup ys)))\/(SqT K H p ys/\Q (.ref p) H))) (one K8):=W6 fun g σ H fa O s x d1 d Q I r e k=>by
 cases d1 with
 |tup es=>
  cases e;simp only[RepB,Rep] at r;obtain⟨a,ys,rfl,q,w⟩:=r;exact#[a,ys,rfl,.inr #[q,k _ H StE.refl I (by simp only[Rep];exact#[a,ys,rfl,q,w])]]
 |lst es=>
  cases e;obtain⟨a,ys,rfl,_,q,w⟩:=r;refine#[a,ys,rfl,.inl #[SqL.of q,fun p L=>?_]];have J:StE fa O H fa O (l8 H p (.tup ys)):=F7 L;refine k _ _ J (I.new L) ?_;simp only[Rep];exact#[p,ys,rfl,SqT.of D1,Reps.stp I J.stp w]
 |_=>cases e
def GW:eu K (fun xs H Q=>∃p ys,xs=[.ref p]/\(SqL K H p ys\/SqT K H p ys)/\∀l,H l=none->Q (.ref l) (l8 H l (.lst ys))) (one tu):=by
 intro g σ H fa O s xs ds es Q I U e k;obtain⟨d1,rfl,M⟩:=qG e;obtain⟨x,rfl,r⟩:=uA U;cases d1 with
 |tup L=>
  cases M;simp only[RepB,Rep] at r;obtain⟨a,ys,rfl,q,w⟩:=r;exact#[a,ys,rfl,.inr q,fun p J=>k p ys _ (F7 J) (T1 I J w) J]
 |lst L=>
  cases M;obtain⟨a,ys,rfl,_,q,w⟩:=r;exact#[a,ys,rfl,.inl (SqL.of q),fun p J=>k p ys _ (F7 J) (T1 I J w) J]
 |_=>cases M
def pk (K:vF_):List V->Hp->VK->Prop:=fun xs H Q=>∃N fa d x,xs=[x]/\RepB K N fa H d x/\W5 d=true/\Q (.str d.py.shown) H
def BE (hu:X.A.units+66<cLine) (hg:X.A.guards=some []):CallR X (.builtin "repr") (pk X.K):=by
 intro pins s σ H xs us Q I r h;obtain⟨N,fa,d,x,rfl,J,ok,q⟩:=h;obtain⟨u,rfl,M⟩:=P2 r;unfold W5 at ok;simp only[Hs,La] at ok;obtain⟨⟨⟨⟨Y,Z⟩,hl⟩,hd⟩,hz⟩:=ok;obtain⟨as,ra⟩:=Q9 I d x u J.o M Y;have L:∀(h':Heap) (U:Nat) (t:Tok),(∀b o,s.heap.get? b=some o->h'.get? b=some o)->EP X pins σ Q (.str d.py.shown t) { s with heap:=h',toks:=U }:=fun h' U t W=>#[.str d.py.shown,H,I.kept W,#[t,rfl],q]
 cases d with
 |non=>
  simp only[RepB,Rep] at J;subst J;cases M;exact P.repr_of_none (L s.heap _ _ fun _ _ e=>e)
 |bl b=>
  simp only[RepB,Rep] at J;subst J;cases M;have:=L s.heap (s.toks+1) s.toks fun _ _ e=>e
  refine P.repr_of_bool ?_;cases b <;> simpa only[D.py,PyData.shown] using this
 |int i=>
  simp only[RepB,Rep] at J;subst J;obtain⟨t,rfl⟩:=M;have:=L s.heap (s.toks+1) s.toks fun _ _ e=>e
  simp only[D.py,PyData.showable,La] at Z;exact P.repr_of_int Z (by simpa only[D.py,PyData.shown] using this)
 |str z=>
  simp only[RepB,Rep] at J;obtain⟨J,_⟩:=J;subst J;obtain⟨t,rfl⟩:=M;have:=L s.heap (s.toks+1) s.toks fun _ _ e=>e
  exact P.repr_of_str (by simpa only[D.py,PyData.shown] using this) (by simpa only[D.py,PyData.shown] using hz)
 |tup ds=>
  simp only[RepB,Rep] at J;obtain⟨a,ys,rfl,_⟩:=J;cases M;exact repr_of_reads' ra Z (PyData.noDict_hsm (PyData.hasDict_of_canLay _ hl)) hg ∅ (fun _ _ e=>e) (fun h' t U W=>L h' U t W) hz
 |lst ds=>
  obtain⟨a,ys,rfl,_⟩:=J;cases M;exact repr_of_reads' ra Z (PyData.noDict_hsm (PyData.hasDict_of_canLay _ hl)) hg ∅ (fun _ _ e=>e) (fun h' t U W=>L h' U t W) hz
 |feed=>cases Y
 |scr _=>cases Y
 |fn _=>cases Y
 |exc _ _=>cases Y
def Gm:M9 K (pk K) (one B5):=W6 fun g σ H fa O s x d1 d Q I r e k=>by
 unfold B5 at e;by_cases h:W5 d1=true
 .rw[fI h] at e;cases e;refine#[_,_,d1,x,rfl,r,h,k _ H StE.refl I ?_];simp only[Rep];unfold W5 at h;simp only[Hs,La] at h;exact#[trivial,h.2]
 .rw[gV h] at e;cases e
def pU (K:vF_):List V->Hp->VK->Prop:=fun xs H Q=>∃(a:Addr) (bs:List Bool),xs=[.ref a]/\SqL K H a (bs.map V.bl)/\Q (.bl (bs.all fun b=>b)) H
theorem qV:∀{bs:List Bool}{us:vV_},Vals (bs.map V.bl) us->us=bs.map Value.bool
 |[],_,.nil=>rfl
 |b::r,_,.cons q t=>by
  cases (show _=Value.bool b from q);rw[qV t];rfl
def dt (U:X.calm=true):CallR X (.builtin "all") (pU X.K):=by
 intro pins s σ H xs us Q I r h;obtain⟨a,L,rfl,W,q⟩:=h;obtain⟨u,rfl,ru⟩:=P2 r;cases ru;obtain⟨its,rv,p,_⟩:=I.list W;have eb:=qV rv;subst eb;refine call_all_walk (KZ p.isList ?_);have hl:s.heap.IsList a (L.map Value.bool).toArray:=p.isList;have Y:a<s.heap.objs.size:=by obtain⟨o,e,_⟩:=hl;exact xu e
 refine#[s.heap.objs.size,_,_,_,_,_,fun i=>(L[i]?).getD true,rfl,Walks.list (A:=X.A.in1) (I.ok.hd U) s.heap.objs.size a (HE Y) (L.map Value.bool).toArray,#[#[_,HG _ rfl,rfl,rfl],?_],?_,fun h' tk hk=>?_]
 .obtain⟨o,e,c⟩:=hl;exact#[o,xo _ e,c]
 .intro i v s' Z E' hv hQ;have J:(L.map Value.bool)[i]? = some v:=by simpa using hv
  rw[Io] at J;cases e:L[i]? with
  |none=>rw[e] at J;cases J
  |some b=>
   rw[e] at J;cases J;have M:Z b s':=by simpa [e] using hQ
   exact Jw M
 .have e1:((List.range (L.map Value.bool).toArray.size).all fun i=>(L[i]?).getD true)=L.all fun b=>b:=by
   rw[HC,Hr,HZ,Iq,Iq];constructor
   .intro h b hb;obtain⟨i,hi,e⟩:=List.mem_iff_getElem.mp hb;have:=h i (KG.mpr hi);rw[Ia hi,e] at this;exact this
   .intro h i hi;rw[KG] at hi;rw[Ia hi];exact h _ (List.getElem_mem hi)
  rw[e1];refine#[.bl _,H,I.kept fun b o e=>hk b o ?_ (xo _ e),rfl,q];simp only[IU];exact HE (xu e)
theorem qj:∀{ds:vD_}{c:Bool},N2 ds=some c->∃bs:List Bool,ds=bs.map D.bl/\c=bs.all fun b=>b
 |[],c,h=>by cases h;exact#[[],rfl,rfl]
 |.bl b::r,c,h=>by
  simp only[N2] at h;refine K7 h fun c' h1 h2=>?_
  obtain⟨bs,L,J⟩:=qj h1;exact#[b::bs,by rw[L];rfl,by rw[<-h2,J];rfl]
 |.non::r,c,h=>by cases h
 |.int _::r,c,h=>by cases h
 |.str _::r,c,h=>by cases h
 |.tup _::r,c,h=>by cases h
 |.lst _::r,c,h=>by cases h
 |.feed::r,c,h=>by cases h
 |.scr _::r,c,h=>by cases h
 |.fn _::r,c,h=>by cases h
 |.exc _ _::r,c,h=>by cases h
theorem uq :∀{bs:List Bool}{xs:List V},Reps K N fa H (bs.map D.bl) xs->xs=bs.map V.bl
 |[],xs,h=>by simpa only[Ij,Reps] using h
 |b::r,xs,h=>by
  simp only[Hu,Reps,Rep] at h;obtain⟨x,ys,rfl,rfl,h⟩:=h;rw[uq h];rfl
def bG:M9 K (pU K) (one M0):=W6 fun g σ H fa O s x d1 d Q I r e k=>by
 cases d1 with
 |lst es=>
  refine K7 (show (N2 es).map D.bl=some d from e) fun c h1 h2=>?_
  subst h2;obtain⟨J,rfl,rfl⟩:=qj h1;obtain⟨a,ys,rfl,_,q,w⟩:=r;have:=uq w;subst this;exact#[a,J,rfl,SqL.of q,k _ H StE.refl I (by simp only[Rep])]
 |_=>cases e
end
end DL
namespace DL
open PySem PySem.Spec L2
def FS.get (key:Str) (f:FS):Option D:=
 if f.kind=0 then if key = "cells" then some (.lst (f.cells.map .int)) else if key = "at" then some (.int f.pos) else if key = "left" then some (.int f.left) else if key = "turn" then some (.int f.turn) else none else none
def FS.put (key:Str) (n:Int) (f:FS):Option FS:=
 if f.kind=0 then if key = "at" then some { f with pos:=n } else if key = "left" then some { f with left:=n } else if key = "turn" then some { f with turn:=n } else none else none
def D7 (i:Nat) (key:Str):DE:=fun s=>match s.sl[i]? with
 |some (.v .feed)=>s.fs.bind fun f=>(f.get key).map fun d=>(d,s)
 |_=>none
def O0 (i:Nat) (key:Str) (fe:DE):DM:=fun s=>(fe s).bind fun x=>match x.2.sl[i]?,x.1 with
 |some (.v .feed),.int n=>x.2.fs.bind fun f=>(f.put key n).map fun f'=>(.next,{ x.2 with fs:=some f' })
 |_,_=>none
def ib (i:Nat):DE:=fun s=>match s.sl[i]?,s.fs with
 |some (.v (.scr J)),none=>some (.feed,{ s with fs:=some #[J,0,0,0,0] })
 |_,_=>none
abbrev J2 (c:Addr) (f:FS):List (o6 × V):=[(Sum.inr ("cells" : Str),V.ref c),(Sum.inr ("at" : Str),V.int f.pos),(Sum.inr ("left" : Str),V.int f.left),(Sum.inr ("turn" : Str),V.int f.turn)]
def jo:¬ (Sum.inr ("cells" : Str):o6)=Sum.inr ("at" : Str):=by intro h;exact absurd (IJ h) (by decide +kernel)
def iD:¬ (Sum.inr ("cells" : Str):o6)=Sum.inr ("left" : Str):=by intro h;exact absurd (IJ h) (by decide +kernel)
def kM:¬ (Sum.inr ("cells" : Str):o6)=Sum.inr ("turn" : Str):=by intro h;exact absurd (IJ h) (by decide +kernel)
def gG:¬ (Sum.inr ("at" : Str):o6)=Sum.inr ("left" : Str):=by intro h;exact absurd (IJ h) (by decide +kernel)
def fR:¬ (Sum.inr ("at" : Str):o6)=Sum.inr ("turn" : Str):=by intro h;exact absurd (IJ h) (by decide +kernel)
def hJ:¬ (Sum.inr ("left" : Str):o6)=Sum.inr ("turn" : Str):=by intro h;exact absurd (IJ h) (by decide +kernel)
def CU (c:Addr) (f:FS):F5 (J2 c f) (Sum.inr ("cells" : Str))=some (.ref c):=ax rfl
def rV (c:Addr) (f:FS):F5 (J2 c f) (Sum.inr ("at" : Str))=some (.int f.pos):=by rw[K1 jo,ax rfl]
def oh (c:Addr) (f:FS):F5 (J2 c f) (Sum.inr ("left" : Str))=some (.int f.left):=by rw[K1 iD,K1 gG,ax rfl]
def qP (c:Addr) (f:FS):F5 (J2 c f) (Sum.inr ("turn" : Str))=some (.int f.turn):=by rw[K1 kM,K1 fR,K1 hJ,ax rfl]
def lN {kvs:List (o6 × V)}{k:o6}{v x:V}(h:F5 kvs k=some x):B4 kvs k v=kvs.map (fun kv=>if kv.1=k then (kv.1,v) else kv):=by
 unfold B4;rw[fI (by rw[gX,h];rfl)]
def Hb (c:Addr) (f:FS) (n:Int):B4 (J2 c f) (Sum.inr ("at" : Str)) (.int n)=J2 c { f with pos:=n }:=by
 rw[lN (rV c f)];simp only[Hu,Ij,gV jo,gV (Hz gG),gV (Hz fR),HI]
def zQ (c:Addr) (f:FS) (n:Int):B4 (J2 c f) (Sum.inr ("left" : Str)) (.int n)=J2 c { f with left:=n }:=by
 rw[lN (oh c f)];simp only[Hu,Ij,gV iD,gV gG,gV (Hz hJ),HI]
def vT (c:Addr) (f:FS) (n:Int):B4 (J2 c f) (Sum.inr ("turn" : Str)) (.int n)=J2 c { f with turn:=n }:=by
 rw[lN (qP c f)];simp only[Hu,Ij,gV kM,gV fR,gV hJ,HI]
def FS.get_val (h:f.get key=some d) (c:Addr):∃v,F5 (J2 c f) (Sum.inr key)=some v/\((v = .ref c/\d = .lst (f.cells.map .int))\/∃i,v = .int i/\d = .int i)/\f.kind=0:=by
 unfold FS.get at h;split at h
 case isFalse=>cases h
 rename_i J;split at h
 .rename_i e;subst e;cases h;exact#[_,CU c f,.inl #[rfl,rfl],J]
 split at h
 .rename_i e;subst e;cases h;exact#[_,rV c f,.inr #[_,rfl,rfl],J]
 split at h
 .rename_i e;subst e;cases h;exact#[_,oh c f,.inr #[_,rfl,rfl],J]
 split at h
 .rename_i e;subst e;cases h;exact#[_,qP c f,.inr #[_,rfl,rfl],J]
 .cases h
def FS.put_val {f':FS}{n:Int}(h:f.put key n=some f') (c:Addr):B4 (J2 c f) (Sum.inr key) (.int n)=J2 c f'/\f'.cells=f.cells/\f.kind=0/\f'.kind=0:=by
 unfold FS.put at h;split at h
 case isFalse=>cases h
 rename_i J;split at h
 .rename_i e;subst e;cases h;exact#[Hb c f n,rfl,J,J]
 split at h
 .rename_i e;subst e;cases h;exact#[zQ c f n,rfl,J,J]
 split at h
 .rename_i e;subst e;cases h;exact#[vT c f n,rfl,J,J]
 .cases h
section
variable {p1:Pos}
def uM (hu:X.A.units+1<cLine) (hv:PE X (.Name x p1) (X3 i)):EO X g (.Subscript (.Name x p1) (.Constant (.str key) j p2) pos) (D7 i key):=
 EO.w (Ao hu hv av (fun _ _=>rfl)) fun σ H Q hQ=>by
  refine hQ.elim fun fa O s d s' I e k=>?_
  unfold D7 at e;cases q:s.sl[i]? with
  |none=>rw[q] at e;cases e
  |some z=>
   rw[q] at e;cases z with
   |no=>cases e
   |own _=>cases e
   |v U=>
    cases U with
    |feed=>
     refine S9 e fun f h1 h2=>?_
     refine K7 h2 fun d' W h4=>?_
     cases h4;obtain⟨u,e1,r⟩:=SlR.val I.sl q;simp only[Rep] at r;obtain⟨a,M,rfl⟩:=r;have fd:=I.fd;rw[h1,M] at fd;obtain⟨_,c,L,Z,lc⟩:=fd;obtain⟨v,J,hd,Y⟩:=FS.get_val W c;rw[km Y] at L;refine#[_,e1,a,v,rfl,?_,k v H fa O StE.refl I ?_]
     .have:=DGet.k (k:=Sum.inr key) L;rw[J] at this;exact this
     .rcases hd with ⟨rfl,rfl⟩ | ⟨n,rfl,rfl⟩
      .simp only[Rep];exact#[c,_,rfl,by rw[M];exact Z,lc,Reps.ints]
      .simp only[Rep]
    |_=>cases e
def GP {e:Expr}{fe:DE}(hu:X.A.units+1<cLine) (hv:PE X (.Name x p1) (X3 i)) (he:EO X g e fe) (hs:swapsWith e (some (.Subscript (.Name x p1) (.Constant (.str key) j p2) pos')) pos.line X.env=pure false:=by rfl) :
  SO X g (.Assign [.Subscript (.Name x p1) (.Constant (.str key) j p2) pos'] e pos) (O0 i key fe):=
 SO.w (BW hu hv av he.pe hs) fun E σ H hQ=>by
  refine hQ.elim fun fa O s fl s' I q k=>?_
  refine A1 q fun d s1 h1 h2=>?_
  simp only[] at h2;cases q1:s1.sl[i]? with
  |none=>rw[q1] at h2;cases h2
  |some z=>
   rw[q1] at h2;cases z with
   |no=>cases h2
   |own _=>cases h2
   |v dz=>
    cases dz with
    |feed=>
     cases d with
     |int n=>
      simp only[] at h2;refine S9 h2 fun f h3 h4=>?_
      refine K7 h4 fun f' h5 h6=>?_
      cases h6;refine#[fa,O,s,.int n,s1,I,h1,fun v H1 f1 O1 a1 J r=>?_];simp only[Rep] at r;subst r;obtain⟨u,e1,ru⟩:=SlR.val J.sl q1;simp only[Rep] at ru;obtain⟨a,ha,rfl⟩:=ru;have fd:=J.fd;rw[h3,ha] at fd;obtain⟨W,c,hc,nc,lc⟩:=fd;obtain⟨Y,L,hk,hk'⟩:=FS.put_val h5 c;rw[km hk] at hc;have hp:=DPut.k (k:=Sum.inr key) (v:=.int n) hc (by show 4<sizeLine;decide);rw[Y] at hp;refine#[_,e1,a,_,rfl,hp,?_];have U:StE f1 O1 H1 f1 O1 (l8 H1 a (.dK (J2 c f'))):=#[fun _ h=>h,.inl rfl,fun b w e Z=>by rw[v5 (fun z=>Z (by rw[z];exact ha))];exact e,fun b z=>by
       by_cases M:b=a
       .subst M;rw[D1] at z;cases z
       .rw[v5 M] at z;exact z]
      have cr:=J.car U.stp;refine k σ _ f1 O1 (a1.stp.trans U.stp) #[J.nd,SlR.go cr (fun b xs M e=>U.same b _ e fun z=>J.nf b z M) J.sl,J.fr,?_,J.tr,J.ff,?_,J.nf]
      .refine#[fun b M=>(by cases M),J.st.fe,fun b w e _ Z=>?_,fun b z=>J.st.mon b (U.mon b z)];refine U.same b w (J.st.same b w e (by simp) Z) fun z=>?_
       rcases J.st.fe with y | ⟨y,y2⟩
       .rw[y] at z;exact Z z
       .rw[y2 b z] at e;cases e
      .rw[ha];refine#[by rw[L];exact W,c,by rw[km hk',D1],nc,?_];rw[v5 (fun z=>by rw[z,hc] at lc;cases lc),L];exact lc
     |_=>cases h2
    |_=>cases h2
def yq (xs:List V) (h:xs.length<=63):N5 xs none (some 63)=xs:=by
 unfold N5;have L:HT.sIx xs.length 0 none=0:=rfl;have J:HT.sIx xs.length xs.length (some 63)=xs.length:=by
  have:=HT.sIx_nat xs.length xs.length 63;rw[show ((63:Nat):Int)=63 from rfl] at this;rw[this];omega
 rw[L,J,Lb,Kc,Lc]
def zS (q:Addr):aK [] [(Sum.inr ("cells" : Str),V.ref q),(Sum.inr ("at" : Str),V.int 0),(Sum.inr ("left" : Str),V.int 0),(Sum.inr ("turn" : Str),V.int 0)]=J2 q #[[],0,0,0,0]:=by
 show B4 (B4 (B4 (B4 ([]:List (o6 × V)) (Sum.inr ("cells" : Str)) (V.ref q)) (Sum.inr ("at" : Str)) (V.int 0)) (Sum.inr ("left" : Str)) (V.int 0)) (Sum.inr ("turn" : Str)) (V.int 0)=_;have L:B4 ([]:List (o6 × V)) (Sum.inr ("cells" : Str)) (V.ref q)=[(Sum.inr ("cells" : Str),V.ref q)]:=eX _ ir;have J:B4 ([(Sum.inr ("cells" : Str),V.ref q)]:List (o6 × V)) (Sum.inr ("at" : Str)) (V.int 0)=[(Sum.inr ("cells" : Str),V.ref q),(Sum.inr ("at" : Str),V.int 0)]:=eX _ (by rw[K1 jo,ir]);have M:B4 ([(Sum.inr ("cells" : Str),V.ref q),(Sum.inr ("at" : Str),V.int 0)]:List (o6 × V)) (Sum.inr ("left" : Str)) (V.int 0)=[(Sum.inr ("cells" : Str),V.ref q),(Sum.inr ("at" : Str),V.int 0),(Sum.inr ("left" : Str),V.int 0)]:=eX _ (by rw[K1 iD,K1 gG,ir]);rw[L,J,M];exact eX _ (by rw[K1 kM,K1 fR,K1 hJ,ir])
def zX {k1 k2 k3 k4 j63 j0 j1 j2:Nat}(hv:PE X (.Name x p1) (X3 i)) :
  EO X g (.Dict [some (.Constant (.str ("cells" : Str)) k1 q1),some (.Constant (.str ("at" : Str)) k2 q2),some (.Constant (.str ("left" : Str)) k3 q3),some (.Constant (.str ("turn" : Str)) k4 q4)]
   [.Subscript (.Name x p1) (.Slice none (some (.Constant (.int 63) j63 q5)) none q6) q7,.Constant (.int 0) j0 q8,.Constant (.int 0) j1 q9,.Constant (.int 0) j2 q10] pos) (ib i):=
 EO.w (vc (fO av (lJ sk hv qK (nu cq)) (fO av cq (fO av cq (fO av cq Cm)))) rfl rfl (by simp) (by show 4<=15;decide)) fun σ H Q hQ=>by
  refine hQ.elim fun fa O s d s' I e k=>?_
  unfold ib at e;cases q:s.sl[i]? with
  |none=>rw[q] at e;cases e
  |some z=>
   rw[q] at e;cases z with
   |no=>cases e
   |own _=>cases e
   |v dz=>
    cases dz with
    |scr ns=>
     cases hf:s.fs with
     |some f=>rw[hf] at e;cases e
     |none=>
      rw[hf] at e;cases e;obtain⟨u,e1,r⟩:=SlR.val I.sl q;simp only[Rep] at r;obtain⟨W,a,rfl,sq⟩:=r;have fd:=I.fd;rw[hf] at fd;have fan:fa=none:=by cases fa with | none=>rfl | some _=>exact fd.elim
      subst fan;intro p Z;have sq1:SqF X.K (l8 H p (.dK [])) a (ns.map V.int):=by
       rcases sq with ⟨o,sq⟩ | sq
       .exact .inl #[o,by rw[v5 (M6 sq Z)];exact sq]
       .exact .inr sq
      refine#[_,e1,63,rfl,a,_,rfl,sq1.sq,fun c Y=>?_];rw[yq _ (by rw[Hr];exact W)];have J:c≠p:=fun z=>by rw[z,D1] at Y;cases Y
      have L:H c=none:=by rw[v5 J] at Y;exact Y
      refine#[by rw[v5 (Hz J),D1],[(Sum.inr ("cells" : Str),V.ref c),(Sum.inr ("at" : Str),V.int 0),(Sum.inr ("left" : Str),V.int 0),(Sum.inr ("turn" : Str),V.int 0)],rfl,by show 4<=15;decide,?_];rw[zS];have M:∀b u,H b=some u->b≠p/\b≠c:=fun b u e=>#[M6 e Z,M6 e L]
      have U:StE none O H (some p) O (l8 (l8 (l8 H p (.dK [])) c (.lst (ns.map V.int))) p (.dK (J2 c #[[],0,0,0,0]))):=by
       refine#[fun _ h=>h,.inr #[rfl,fun b z=>by cases z;exact Z],fun b u e _=>?_,fun b z=>?_]
       .obtain⟨n1,n2⟩:=M b u e;rw[v5 n1,v5 n2,v5 n1];exact e
       .by_cases h1:b=p
        .subst h1;exact Z
        .by_cases h2:b=c
         .subst h2;exact L
         .rw[v5 h1,v5 h2,v5 h1] at z;exact z
      have cr:=I.car U.stp;refine k _ _ (some p) O U #[I.nd,SlR.go cr (fun b xs hb e=>U.same b _ e (by simp)) I.sl,I.fr,I.st.trans #[fun b hb=>(by cases hb),U.fe,fun b u e _ n=>U.same b u e n,U.mon],I.tr,I.ff,?_,I.nf_step U.fe] (by simp only[Rep];exact#[p,rfl,rfl]);refine#[W,c,D1,?_,?_]
      .rintro(z | z | z)
       .exact I.trF z L
       .obtain⟨xs,e⟩:=I.owned z;rw[L] at e;cases e
       .exact J (HU z).symm
      .rw[v5 J,D1]
    |_=>cases e
end
structure Cal (P:Program) (w:World) (K:vF_) (mg:vG_) (base:Heap) (k:Nat) (x:Str) (ps:List Str) (m:a8):Prop where
 ex:∃(f:Addr) (fd:FuncData),eG P w K mg base k f fd ps m/\mg x=some (.ref f)/\PySem.W.keepIn K (.ref f)=true/\Binds K fd ps []
structure Blt (mg:vG_):Prop where
 len:mg "len" = none
 range:mg "range" = none
 abs:mg "abs" = none
 tuple:mg "tuple" = none
 list:mg "list" = none
 int:mg "int" = none
 bool:mg "bool" = none
 str:mg "str" = none
 repr:mg "repr" = none
 all:mg "all" = none
 isinstance:mg "isinstance" = none
 zip:mg "zip" = none
 enumerate:mg "enumerate" = none
 min:mg "min" = none
 max:mg "max" = none
 reversed:mg "reversed" = none
 any:mg "any" = none
 sum:mg "sum" = none
 sorted:mg "sorted" = none
section
variable {k:Nat}{ps:List Str}{p:Pos}{t:DA}
def mJ (C:Cal X.prog X.w X.K X.mg X.base k x ps m) (k':Nat) (hr:Room k' X.A) (W:k<=k') (Z:Gl X x)
  (ha:AO X g (e::es) t) (hn:∀s ds s',t s=some (ds,s')->ds.length=ps.length) (J:(x == ("__debug__" : Str))=false:=by decide) (he:starEach (e::es) X.env=(false,eval e X.env)::starEach es X.env:=by rfl) (M:(backTo pos (starEach es X.env)).any (·.1)=false:=by rfl) :
  EO X g (.Call (.Name x p) (e::es) [] pos) (a9 m t):=by
 obtain⟨f,fd,F,U,L,Y⟩:=C.ex;exact xx F (hr.mono W) Z U L Y ha hn J he M
end
def Cz {w:World}{K:vF_}{st:Stmt}{f:Addr}{N ps:List Str}{k:Nat}{b:DM}(F:Fun K x x st f fd) (L:mg x=some (.ref f)) (M:Binds K fd ps []) (S:FnScope N ps (C9 st))
  (J:∀(cdv:Value) (A:Around) (outer:List Env) (s:Shared) (H:Hp) (E:XK) (g:Gh),Room k (A.deeper (PyProof.Rows.envOfC x (C9 st) s.heap.objs.size f cdv))->SSO (Q4 O8 P w K mg base N x (C9 st) f cdv A outer s H E).nox g (K9 st) b) :
  Cal P w K mg base (k+1) x ps (t7 N.length b):=#[f,fd,uc F S J,L,F.kp,M]
def cH {k:Nat}(J:Room k A):A.units+64<cLine:=by have:=J.un;omega
def vo {k:Nat}(J:Room k A):A.units+66<cLine:=by have:=J.un;omega
def Ak:bootBuiltins ("len" : Str)=some (.builtin "len"):=by decide +kernel
def GL:bootBuiltins ("abs" : Str)=some (.builtin "abs"):=by decide +kernel
def Hf:bootBuiltins ("repr" : Str)=some (.builtin "repr"):=by decide +kernel
def cD:bootBuiltins ("all" : Str)=some (.builtin "all"):=by decide +kernel
def AF:bootBuiltins ("isinstance" : Str)=some (.builtin "isinstance"):=by decide +kernel
def W3:bootBuiltins ("tuple" : Str)=some (.type "tuple"):=by decide +kernel
def nS:bootBuiltins ("list" : Str)=some (.type "list"):=by decide +kernel
def lK:bootBuiltins ("int" : Str)=some (.type "int"):=by decide +kernel
def jE:bootBuiltins ("bool" : Str)=some (.type "bool"):=by decide +kernel
def Bq:bootBuiltins ("str" : Str)=some (.type "str"):=by decide +kernel
theorem gS {κ:Type}[BEq κ] [LawfulBEq κ] {β:Type}:∀{l:List (κ × β)}{x:κ}{v:β},l.lookup x=some v->(x,v)∈l
 |[],_,_,h=>by simp at h
 |(a,b)::r,x,v,h=>by
  rw[List.lookup_cons] at h;cases e:x == a with
  |true=>
   rw[e] at h;cases h;rw[eq_of_beq e];exact HD ..
  |false=>
   rw[e] at h;exact HB _ (gS h)
def hasAll (J:List (Str × NameKind)) (cl:List (Str × Addr)):Bool:=J.all fun p=>!(p.2 == .cell||p.2 == .free)||(cl.lookup p.1).isSome
def rC {J:List (Str × NameKind)}(h:hasAll J cl=true):∀x,(J.lookup x=some .cell\/J.lookup x=some .free)->∃c,cl.lookup x=some c:=fun x M=>by
 have key:∀L,J.lookup x=some L->(L == NameKind.cell||L == NameKind.free)=true->∃c,cl.lookup x=some c:=fun L e q=>by
  have m:=gS e;have z:=Iq.mp h _ m;simp only[q,Bool.not_true,Bool.false_or] at z;exact Ly.mp z
 rcases M with e | e
 .exact key _ e rfl
 .exact key _ e rfl
inductive CapL (X:Cx) (scope:Scope):List Nat->List Str->Prop where
 | nil:CapL X scope [] []
 | cons {i:Nat}{y:Str}{r:List Nat}{ys:List Str}(h1:X.N[i]? = some y) (h2:X.env.scope.names.lookup y=some .cell\/X.env.scope.names.lookup y=some .free)
   (h3:(relabel scope X.env).names.lookup y=some .cell\/(relabel scope X.env).names.lookup y=some .free) (t:CapL X scope r ys):CapL X scope (i::r) (y::ys)
def CapL.len :∀{idx:List Nat}{ys:List Str},CapL X scope idx ys->ys.length=idx.length
:= by
 intro idx ys h;induction h with
 |nil=>rfl
 |cons _ _ _ t ih=>rw[Hv,Hv,ih]
def CapL.at :∀{idx:List Nat}{ys:List Str},CapL X scope idx ys->∀(j i:Nat) (y:Str),idx[j]? = some i->ys[j]? = some y ->
  X.N[i]? = some y/\(X.env.scope.names.lookup y=some .cell\/X.env.scope.names.lookup y=some .free)/\((relabel scope X.env).names.lookup y=some .cell\/(relabel scope X.env).names.lookup y=some .free)
:= by
 intro idx ys h;induction h with
 |nil=>intro j i y h;cases h
 |cons h1 h2 h3 t ih=>
  intro j i y e1 e2;cases j with
  |zero=>
   cases e1;cases e2;exact#[h1,h2,h3]
  |succ j=>exact ih j i y e1 e2
inductive SubL (cells:List (Str × Addr)):List (Str × Addr)->Prop where
 | nil:SubL cells []
 | cons {x:Str}{c:Addr}{r:List (Str × Addr)}(h:cells.lookup x=some c) (t:SubL cells r):SubL cells ((x,c)::r)
def SubL.mem {J:List (Str × Addr)}:∀{cl:List (Str × Addr)},SubL J cl->∀x c,(x,c)∈cl->J.lookup x=some c
:= by
 intro cl h;induction h with
 |nil=>intro x c h;cases h
 |cons e t ih=>
  intro x c h;rcases xr.mp h with z | z
  .cases z;exact e
  .exact ih x c z
def O9 (J:closureFor scope X.env=pure cl) (U:SubL X.env.cells cl) (cell:∀y∈scope.names,y.2 ≠ .cell) (kind:scope.kind = .function)
  (names:∀y∈scope.names,y.2 = .local->scope.names.lookup y.1=some .local) (M:hasAll (relabel scope X.env).names cl=true) (L:CapL X scope idx caps):CompOk X scope cl (x::caps) 1 idx:=
 #[J,fun y c e=>U.mem y c (gS e),cell,kind,names,rC M,by rw[Hv,L.len,JD],fun j i y Y W=>L.at j i y Y (by rw[JD] at W;simpa using W)]
def m5 (i j:Nat) (f:DA):DM:=fun s=>(f s).bind fun x=>match x.1 with
 |[a,b]=>some (.next,{ x.2 with sl:=(x.2.sl.set i (.v a)).set j (.v b) })
 |_=>none
def zB {i j:Nat}{x y:Str}{a b:Expr}{f:DA}{px py U pos:Pos}{kt k2 pt2} (Z:X.calm=true) (hN:X.N.Nodup) (hi:X.N[i]? = some x) (hj:X.N[j]? = some y) (M:i≠j)
  (hx:X.env.scope.names.lookup x=some .local) (hy:X.env.scope.names.lookup y=some .local) (ha:AO X g [a,b] f)
  (hw:swappedStores [.Tuple [.Name x px,.Name y py] kt U] (.Tuple [a,b] k2 pt2) X.env=pure (some [x,y]))
  (hs:swapsWithSole [.Tuple [.Name x px,.Name y py] kt U] (.Tuple [a,b] k2 pt2) pos.line X.env=pure false:=by rfl) :
  SO X g (.Assign [.Tuple [.Name x px,.Name y py] kt U] (.Tuple [a,b] k2 pt2) pos) (m5 i j f):=SO.w (wQ Z hN hi hj M hx hy ha.pe hw hs) fun E σ H hQ=>by
 refine hQ.elim fun fa O s fl s' I q k=>?_
 refine A1 q fun ds s1 h1 h2=>?_
 refine#[fa,O,s,ds,s1,I,h1,fun vs H1 f1 O1 a1 W r=>?_]
 match ds,h2,r with
 |[d1,d2],h2,r=>
  simp only[HL,Hy] at h2;obtain⟨e1,e2⟩:=h2;subst e1;subst e2;simp only[Reps] at r;obtain⟨v,ys,rfl,rv,u,zs,rfl,ru,rfl⟩:=r;refine#[v,u,rfl,?_];obtain⟨P,L,I2⟩:=W.put i rv;have Y:StE f1 O1 H1 f1 P H1:=fE L;obtain⟨P3,J,I3⟩:=I2.put j (Rep.stp W Y.stp ru);exact k _ H1 f1 P3 (a1.stp.trans (Y.stp.trans (fE J).stp)) I3
def walkD {l:PySem.W.OpenLaw}{q:Program}{d:DefRec}{K:Params->PySem.W.Frag}{k:Nat}(Z:l.most=some 63) (L:d.params.defaults=[]) (Y:Room k callerA)
  (M:∀(w:World) (h:Heap),YP w h->(K w.params).In h)
  (F:∀(w:World) (mg:vG_) (fa:Addr) (h:Heap),(K w.params).In h->h.Ns mainGlobals mg->mg d.name=some (.ref fa) ->
   ∃fd:FuncData,(∀(s:Shared) (u:Value),BindsTo s fd #[[u],[]] [("_law_script",u)])/\∀base:Heap,(K w.params).In base->base.Ns mainGlobals mg->FnOk l.prog w (K w.params) mg base O8 k fa fd ["_law_script"] (bf (K w.params) 1 m))
  (J:∀ns:List Int,ns.length<=63->∃fs',m [.scr ns] none=some (.bl true,fs')) :
  PySem.W.WalkO q loose XP YP l.row.toRowW d [] (fun f vs=>PySem.call f vs):=
 L2.walk_of (n:=63) (k:=k) (x := "_law_script") (CX:=fun _=>O8) (sp:=fun w=>bf (K w.params) 1 m) Z #[] L Y M F (fun w H a ns hl hO U=>by
  obtain⟨fs',e⟩:=J ns hl;refine#[fun _=>False,none,[.scr ns],none,.bl true,fs',fun b z=>z.elim,fun a z=>(by cases z),?_,trivial,e,rfl,fun v H' fa' _ _ r=>by simpa only[Rep] using r];simp only[Reps,Rep];refine#[_,_,rfl,#[hl,a,rfl,?_],rfl];rcases U with (z | ⟨o,z⟩) | z
  .rcases hO a with y | ⟨o,xs,y⟩ <;> · rw[z] at y;cases y
  .exact .inl #[o,z]
  .exact .inr z) fun _ _ _ _ _ z=>z
def uu:D->Option String
 |.non=>some "NoneType"
 |.bl _=>some "bool"
 |.int _=>some "int"
 |.str _=>some "str"
 |.tup _=>some "tuple"
 |.lst _=>some "list"
 |_=>none
def B1 (T C:String):Bool:=T == C||(T == "bool" && C == "int")
def J9 (C:String) (d:D):Option D:=(uu d).map fun T=>.bl (B1 T C)
def bN (K:vF_) (C:String):Prop:=∀T,T = "NoneType" \/ T = "bool" \/ T = "int" \/ T = "str" \/ T = "tuple" \/ T = "list" -> PySem.W.kitOne K (.type T) (.type C)=some (B1 T C)
def Eb {K:vF_}:bN K "int" := by rintro T (rfl | rfl | rfl | rfl | rfl | rfl) <;> rfl
def uI {K:vF_}:bN K "bool" := by rintro T (rfl | rfl | rfl | rfl | rfl | rfl) <;> rfl
def fm {K:vF_}:bN K "tuple" := by rintro T (rfl | rfl | rfl | rfl | rfl | rfl) <;> rfl
def ze (K:vF_) (C:String):List V->Hp->VK->Prop:=fun xs H Q=>∃N fa d T x,xs=[x,.ty C]/\RepB K N fa H d x/\uu d=some T/\Q (.bl (B1 T C)) H
def CT {C:String}(Y:bN X.K C):CallR X (.builtin "isinstance") (ze X.K C):=by
 intro pins s σ H xs us Q I r h;obtain⟨N,fa,d,T,x,rfl,J,M,q⟩:=h;obtain⟨u,c,rfl,U,rc⟩:=Gq r;cases (show c=Value.type C from rc);have L:∀Z,EP X pins σ Q (.bool (B1 T C)) { s with toks:=Z }:=fun Z=>#[.bl (B1 T C),H,I.tok Z,rfl,q]
 cases d with
 |non=>
  cases M;simp only[RepB,Rep] at J;subst J;cases U;exact Jl PySem.W.kitx_none I.kIn True.intro (Y _ (by simp)) (fun z=>nomatch z) L
 |bl b=>
  cases M;simp only[RepB,Rep] at J;subst J;cases U;exact Jl PySem.W.kitx_bool I.kIn True.intro (Y _ (by simp)) (fun z=>nomatch z) L
 |int i=>
  cases M;simp only[RepB,Rep] at J;subst J;obtain⟨t,rfl⟩:=U;exact Jl PySem.W.kitx_int I.kIn True.intro (Y _ (by simp)) (fun z=>nomatch z) L
 |str i=>
  cases M;simp only[RepB,Rep] at J;obtain⟨J,_⟩:=J;subst J;obtain⟨t,rfl⟩:=U;exact Jl PySem.W.kitx_str I.kIn True.intro (Y _ (by simp)) (fun z=>nomatch z) L
 |tup ds=>
  cases M;simp only[RepB,Rep] at J;obtain⟨a,ys,rfl,sq,_⟩:=J;cases U;obtain⟨its,_,⟨o,h1,h2,_⟩,_⟩:=I.tuple sq;exact Jl PySem.W.kitx_tuple I.kIn #[o,h1,h2] (Y _ (by simp)) (fun z=>nomatch z) L
 |lst ds=>
  cases M;obtain⟨a,ys,rfl,_,sq,_⟩:=J;cases U;obtain⟨its,_,⟨o,n,h1,h2,_⟩,_⟩:=I.list (SqL.of sq);exact Jl PySem.W.kitx_list I.kIn #[o,h1,h2] (Y _ (by simp)) (fun z=>nomatch z) L
 |feed=>cases M
 |scr _=>cases M
 |fn _=>cases M
 |exc _ _=>cases M
section
variable {a b c:Expr}{fa fb fc:DE}
def Z8 {C:String}{p p2:Pos}(hk:bN X.K C) (hg:Gl X "isinstance") (hm:X.mg "isinstance" = none) (U:Gl X cn) (M:X.mg cn=none) (W:bootBuiltins cn=some (.type C)) (Z:BO X g a fa)
  (hn:cn ≠ "__name__" := by decide) (hd:(cn == ("__debug__" : Str))=false:=by decide) (L:starEach [.Name cn p2] X.env=(false,eval (.Name cn p2) X.env)::starEach [] X.env:=by rfl)
  (Y:starEach [a,.Name cn p2] X.env=(false,eval a X.env)::starEach [.Name cn p2] X.env:=by rfl) (J:(backTo pos (starEach [.Name cn p2] X.env)).any (·.1)=false:=by rfl) :
  EO X g (.Call (.Name "isinstance" p) [a,.Name cn p2] [] pos) (j8 (J9 C) fa):=
 EO.w (qJ (CT hk) hg hm AF (ba Z.pe (ba (uZ (v:=.ty C) U M W rfl hn hd) bR L) Y) #[] #[] Y J) fun σ H Q hQ=>by
  refine hQ.elim fun f0 O s d s' I e k=>?_
  refine A1 e fun x s1 h1 h=>?_
  refine K7 h fun d' h3 h=>?_
  simp only[Hy] at h;obtain⟨e1,e2⟩:=h;subst e1;subst e2;refine K7 h3 fun T h4 h5=>?_
  subst h5;exact#[f0,O,s,x,s1,I,h1,fun v H1 f1 O1 a1 I1 r1=>#[_,_,x,T,v,rfl,r1,h4,k _ H1 f1 O1 a1 I1 (by simp only[Rep])]]
abbrev DO:=DS->Option (Option Int × DS)
def liftO (K:vF_) (g:Gh) (f:DO):L2.TO:=fun σ H Q=>∃fa O s d s',GI K g σ H fa O s/\f s=some (d,s')/\∀H' fa' O',StE fa O H fa' O' H'->GI K g σ H' fa' O' s'->Q d H'
def liftO.elim {K:vF_}{σ:L2.St}{f:DO}{Q:Option Int->Hp->Prop}(h:liftO K g f σ H Q) (k:∀fa O s d s',GI K g σ H fa O s->f s=some (d,s')->(∀H' fa' O',StE fa O H fa' O' H'->GI K g σ H' fa' O' s'->Q d H')->G):G:=by
 obtain⟨fa,O,s,d,s',a,b,c⟩:=h;exact k fa O s d s' a b c
structure OO (X:Cx) (g:Gh) (e:Option Expr) (f:DO):Prop where
 pe:PO X e (liftO X.K g f)
def P5:DO:=fun s=>some (none,s)
def M8 (f:DE):DO:=fun s=>(f s).bind fun x=>match x.1 with | .int i=>some (some i,x.2) | _=>none
def EF {e:Option Expr}{t t':L2.TO}(h:PO X e t) (w:∀σ H Q,t' σ H Q->t σ H Q):PO X e t':=fun pins s σ H Q I q=>h pins s σ H Q I (w σ H Q q)
theorem OO.w {e:Option Expr}{f:DO}{t:L2.TO}(h:PO X e t) (w:∀σ H Q,liftO X.K g f σ H Q->t σ H Q):OO X g e f:=#[EF h w]
def rb:OO X g none P5:=OO.w qK fun σ H Q L=>by
 refine L.elim fun J O s d s' I e k=>?_
 cases e;exact k H J O StE.refl I
def zO (h:BO X g a fa):OO X g (some a) (M8 fa):=OO.w (nu h.pe) fun σ H Q L=>by
 refine L.elim fun J O s d s' I e k=>?_
 refine A1 e fun x s1 h1 e=>?_
 cases x with
 |int i=>
  simp only[HL,Hy] at e;obtain⟨U,Y⟩:=e;subst U;subst Y;exact#[J,O,s,.int i,s1,I,h1,fun v H1 f1 O1 Z W M=>#[i,by simpa only[RepB,Rep] using M,k H1 f1 O1 Z W]]
 |_=>cases e
def M3 (xs:vD_) (lo hi:Option Int):List D:=(xs.drop (HT.sIx xs.length 0 lo)).take (HT.sIx xs.length xs.length hi - HT.sIx xs.length 0 lo)
def kS {K:vF_}{fa:vA_}(r:Reps K N fa H ds xs) (lo hi:Option Int):Reps K N fa H (M3 ds lo hi) (N5 xs lo hi):=by
 unfold M3 N5;rw[r.length];exact(r.drop _).take _
end
end DL
namespace HT2
open PySem PyProof.Rows HT
section
variable {w:World}
def getItem_tuple_whole {t sl:Addr}{lo hi:Option Int}(L:IsTup s.heap t items) (Z:s.heap.IsSliceOf sl vl vu .none) (pl:IsPart vl lo) (pu:IsPart vu hi)
  (Y:sIx items.size 0 lo=0/\sIx items.size items.size hi=items.size) (h:Q (.ref t) s):wpAny (model prog w) A (getItem (.ref t) (.ref sl)) Q E s:=by
 obtain⟨os,M,W,hds⟩:=id Z;have U:s.TypeIs (.ref sl) "slice" := #[os,M,W]
 unfold getItem
 try with_reducible refine IQ ?_
 first | refine fx (iO ?_) | skip
 refine fx (wpAny_sequenceKey L.typeIs #[] ?_);refine fx (IH (name:=Str.ofString "__getitem__") L.typeIs Jg
  (Iy Jg L.typeIs entry_tuple_getitem ?_ (args_tuple_getitem _ _)))
 show wpAny _ _ (Builtin.Tuple.tupleItemsOf (.ref t) >>= _) _ _ s;refine fx (tupleItemsOf_ L ?_);refine fx (JX U ?_);rw[fI #[]];refine fx (tZ Z pl pu ?_);have J:(((sIx items.size 0 lo:Nat):Int) == 0&&(1:Int) == 1&&(sIx items.size items.size hi - sIx items.size 0 lo) == items.size)=true:=by
  rw[Y.1,Y.2];simp
 show wpAny _ _ (if (((sIx items.size 0 lo:Nat):Int) == 0&&(1:Int) == 1&&(sIx items.size items.size hi - sIx items.size 0 lo) == items.size)=true then _ else _) _ _ s;rw[fI J];refine fx (m:=Builtin.Tuple.tupleIsExact _) (fx (JX L.typeIs (iO ?_)));rw[fI #[]]
 first
  | exact fx (IE (fx (iO (iO #[_,rfl,iO h]))))
  | exact fx (IE (iO #[_,rfl,iO h]))
  | exact fx (IE (fx (iO #[_,rfl,iO h])))
end
end HT2
namespace DL
open PySem PySem.Spec L2
section
variable {a:Expr}{fa:DE}
def Fu (K:vF_):V->Option Int->Option Int->Hp->VK->Prop:=fun x lo hi H Q=>∃a xs,x = .ref a/\SqT K H a xs/\(HT.sIx xs.length 0 lo=0/\HT.sIx xs.length xs.length hi=xs.length)/\Q (.ref a) H
def Bu:L2.SlR X (Fu X.K):=by
 intro pins s σ H x v vl vu lo hi sl Q I U W pl Y h;obtain⟨a,xs,rfl,hx,Z,q⟩:=h;cases U;obtain⟨L,r,M,hz⟩:=I.tuple hx;have J:L.toArray.size=xs.length:=by rw[HC];exact r.length.symm
 refine#["tuple",_,Jg.lookup,M.typeIs,?_];exact HT2.getItem_tuple_whole M W pl Y (by rw[J];exact Z) #[.ref a,H,I,rfl,q]
def FG {xs:vD_}{lo hi:Option Int}(h:HT.sIx xs.length 0 lo=0/\HT.sIx xs.length xs.length hi=xs.length):M3 xs lo hi=xs:=by
 unfold M3;rw[h.1,h.2,Lb,Kc,Lc]
noncomputable def T5 (f:DE) (lo hi:DO):DE:=fun s=>(f s).bind fun x=>(lo x.2).bind fun l=>(hi l.2).bind fun h=>match x.1 with
 |.tup ds=>some (.tup (M3 ds l.1 h.1),h.2)
 |.lst ds=>some (.lst (M3 ds l.1 h.1),h.2)
 |_=>none
def Gs {x r:D}{F:List D->List D}{t z:DS}(e:(match x with
 |.tup ds=>some (D.tup (F ds),t)
 |.lst ds=>some (D.lst (F ds),t)
 |_=>none)=some (r,z)):t=z/\((∃ds,x = .lst ds/\r = .lst (F ds))\/∃ds,x = .tup ds/\r = .tup (F ds)):=by
 cases x with
 |tup ds=>cases e;exact#[rfl,.inr #[ds,rfl,rfl]]
 |lst ds=>cases e;exact#[rfl,.inl #[ds,rfl,rfl]]
 |_=>cases e
def Ed {lo hi:Option Expr}{fl fh:DO}(ha:BO X g a fa) (hl:OO X g lo fl) (hh:OO X g hi fh):EO X g (.Subscript a (.Slice lo hi none p2) pos) (T5 fa fl fh):=
 EO.w (lJ (L2.SlR.or (L2.SlR.or vz Bu) sk) ha.pe hl.pe hh.pe) fun σ H Q hQ=>by
  refine hQ.elim fun f0 O s d s' I e k=>?_
  refine A1 e fun x s1 h1 e=>?_
  refine A1 e fun l s2 h2 e=>?_
  refine A1 e fun h s3 h3 e=>?_
  obtain⟨rfl,c⟩:=Gs (F:=fun ds=>M3 ds l h) e;refine#[f0,O,s,x,s1,I,h1,fun v H1 f1 O1 a1 I1 r1=>#[f1,O1,s1,l,s2,I1,h2,fun H2 f2 O2 a2 I2=>#[f2,O2,s2,h,s3,I2,h3,fun Z J M a3 W=>?_]]];have r3:=RepB.stp I2 a3 (RepB.stp I1 a2 r1);rcases c with ⟨ds,rfl,rfl⟩ | ⟨ds,rfl,rfl⟩
  .obtain⟨c,xs,rfl,_,q,w⟩:=r3;refine .inr #[c,xs,rfl,SqL.of q,fun p Y=>?_];have U:StE J M Z J M (l8 Z p (.lst (N5 xs l h))):=F7 Y;have L:=T1 W Y (kS w l h);refine k _ _ J M (a1.trans (a2.trans (a3.trans U))) L.gi ?_;simp only[Rep];exact#[p,_,rfl,ck W U L.gi Y L.nf,D1,Reps.stp W U.stp (kS w l h)]
  .simp only[RepB,Rep] at r3;obtain⟨c,xs,rfl,q,w⟩:=r3;by_cases hw:HT.sIx xs.length 0 l=0/\HT.sIx xs.length xs.length h=xs.length
   .refine .inl (.inr #[c,xs,rfl,q,hw,k _ Z J M (a1.trans (a2.trans a3)) W ?_]);rw[w.length] at hw;rw[FG hw];simp only[Rep];exact#[c,xs,rfl,q,w]
   .refine .inl (.inl #[c,xs,rfl,q,hw,fun p Y=>?_]);have U:StE J M Z J M (l8 Z p (.tup (N5 xs l h))):=F7 Y;refine k _ _ J M (a1.trans (a2.trans (a3.trans U))) (W.new Y) ?_;simp only[Rep];exact#[p,_,rfl,SqT.of D1,Reps.stp W U.stp (kS w l h)]
end
def jg:Expr->Bool
 |.Starred _ _=>false
 |_=>true
def sW {a:Expr}(h:jg a=true):starEach (a::es) env=(false,eval a env)::starEach es env:=by
 cases a <;> first | rfl | (cases h)
section
variable {a:Expr}{fa:DE}{fr:DA}
def ac (M:EO X g a fa) (L:AO X g es fr) (J:jg a=true:=by rfl):AO X g (a::es) (a0 fa fr):=bP M L (sW J)
def bc (M:BO X g a fa) (L:BAO X g es fr) (J:jg a=true:=by rfl):BAO X g (a::es) (a0 fa fr):=DF M L (sW J)
end
end DL
namespace DL
open PySem PySem.Spec L2 PyProof.Rows
def ao (x:D) (ds:vD_):Bool:=(D.pys ds).any fun y=>PyData.eqv y x.py
def Z7 (f:Bool->Bool) (x c:D):Option D:=match c with
 |.lst ds=>if A5 x&&A5 (.lst ds) then some (.bl (f (ao x ds))) else none
 |.tup ds=>if A5 x&&A5 (.tup ds) then some (.bl (f (ao x ds))) else none
 |_=>none
def U3 (x c:D):Option D:=Z7 id x c
def aH (x c:D):Option D:=Z7 not x c
def di (K:vF_) (f:Bool->Bool):R2:=fun x y H Q=>∃N fa d1 d2 ds,RepB K N fa H d1 x/\RepB K N fa H d2 y/\(d2 = .lst ds\/d2 = .tup ds)/\A5 d1=true/\A5 d2=true/\Q (.bl (f (ao d1 ds))) H
section
variable {K:vF_}
def ek {u a b:Nat}(h:u+64<cLine) (J:a+1<=64):u+1+min a b<cLine:=by
 have:min a b<=a:=JE _ _;omega
def BS (U:X.A.units+64<cLine):OpR X (compareOp .In) (di X.K id):=by
 intro pins s σ H x y v u Q I W ry h;obtain⟨N,fa,d1,d2,ds,Z,Y,hd,L,J,q⟩:=h;unfold A5 at L J;rw[Hs] at L J;obtain⟨as,h1⟩:=Q9 I d1 x v Z.o W L.1;obtain⟨bs,h2⟩:=Q9 I d2 y u Y.o ry J.1;have l2:=Jm J.2;have M:=SeqAt.depth_of_shaped J.2;rcases hd with rfl | rfl
 .simp only[D.py,PyData.canLay0,PyData.depth] at h2 l2 M;exact SeqAt.in_list_reads h2 h1 l2 (Jm L.2) (ek U M) #[.bl _,H,I,rfl,q]
 .simp only[D.py,PyData.canLay0,PyData.depth] at h2 l2 M;exact SeqAt.in_tuple_reads h2 h1 l2 (Jm L.2) (ek U M) #[.bl _,H,I,rfl,q]
def yz (U:X.A.units+64<cLine):OpR X (compareOp .NotIn) (di X.K not):=by
 intro pins s σ H x y v u Q I W ry h;obtain⟨N,fa,d1,d2,ds,Z,Y,hd,L,J,q⟩:=h;unfold A5 at L J;rw[Hs] at L J;obtain⟨as,h1⟩:=Q9 I d1 x v Z.o W L.1;obtain⟨bs,h2⟩:=Q9 I d2 y u Y.o ry J.1;have l2:=Jm J.2;have M:=SeqAt.depth_of_shaped J.2;rcases hd with rfl | rfl
 .simp only[D.py,PyData.canLay0,PyData.depth] at h2 l2 M;exact SeqAt.notIn_list_reads h2 h1 l2 (Jm L.2) (ek U M) #[.bl _,H,I,rfl,q]
 .simp only[D.py,PyData.canLay0,PyData.depth] at h2 l2 M;exact SeqAt.notIn_tuple_reads h2 h1 l2 (Jm L.2) (ek U M) #[.bl _,H,I,rfl,q]
def BD {f:Bool->Bool}{x c:D}(h:Z7 f x c=some d):∃ds,(c = .lst ds\/c = .tup ds)/\A5 x=true/\A5 c=true/\d = .bl (f (ao x ds)):=by
 unfold Z7 at h;cases c with
 |lst ds=>
  simp only at h;split at h
  .rename_i q;rw[Hs] at q;cases h;exact#[ds,.inl rfl,q.1,q.2,rfl]
  .cases h
 |tup ds=>
  simp only at h;split at h
  .rename_i q;rw[Hs] at q;cases h;exact#[ds,.inr rfl,q.1,q.2,rfl]
  .cases h
 |_=>cases h
def qZ (f:Bool->Bool):B8 K (di K f) (Z7 f):=by
 intro g σ H fa O s x y d1 d2 d Q I U L e k;obtain⟨ds,J,W,M,rfl⟩:=BD e;exact#[_,fa,d1,d2,ds,U,L,J,W,M,k _ H StE.refl I (by simp only[Rep])]
def Bk:B8 K (di K id) U3:=qZ id
def Ge:B8 K (di K not) aH:=qZ not
end
structure LitV (K:vF_) (d:D) (u:Value):Prop where
 ex:∃v:V,RelV v u/\∀N fa H,Rep K N fa H d v
structure LitVs (K:vF_) (ds:vD_) (us:vV_):Prop where
 ex:∃vs:List V,Vals vs us/\∀N fa H,Reps K N fa H ds vs
section
variable {K:vF_}
def W2 (i:Int) (t:Tok):LitV K (.int i) (.int i t):=#[.int i,#[t,rfl],fun _ _ _=>by simp only[Rep]]
def L4 (x:Str) (t:Tok) (h:x.length<=sizeLine):LitV K (.str x) (.str x t):=#[.str x,#[t,rfl],fun _ _ _=>by simp only[Rep];exact#[trivial,h]]
def aw:LitVs K [] []:=#[[],.nil,fun _ _ _=>by simp only[Reps]]
def E9 (h:LitV K d u) (M:LitVs K ds us):LitVs K (d::ds) (u::us):=by
 obtain⟨v,r,q⟩:=h.ex;obtain⟨J,U,L⟩:=M.ex;exact#[v::J,.cons r U,fun N fa H=>by simp only[Reps];exact#[v,J,rfl,q N fa H,L N fa H]]
def ah {ds:vD_}{a:Addr}{W:vA_}{us:vV_}{n:Nat}{sl:vS_}(l:K.lookup a=some #[.type "tuple",W,.seq us.toArray n,sl]) (L:LitVs K ds us) (hz:us.length<=sizeLine:=by decide):LitV K (.tup ds) (.ref a):=by
 obtain⟨J,M,U⟩:=L.ex;refine#[.ref a,rfl,fun N fa H=>?_];simp only[Rep];exact#[a,J,rfl,.inr #[_,us.toArray,n,l,rfl,rfl,by simpa using hz,by simpa using M],U N fa H]
end
structure Con (K:vF_) (mg:vG_) (x:Str) (d:D):Prop where
 ex:∃u:Value,mg x=some u/\LitV K d u
def EU {X:Cx}{g:Gh}{x:Str}{d:D}{pos:Pos}(C:Con X.K X.mg x d) (U:Gl X x) (Y:(x == ("__debug__" : Str))=false:=by decide):EO X g (.Name x pos) (dC d):=by
 obtain⟨u,J,h⟩:=C.ex;obtain⟨v,r,q⟩:=h.ex;exact EO.w (EA (v:=v) U J r Y) fun σ H Q L=>by
  refine L.elim fun fa O s Z s' I e k=>?_
  simp only[dC,HL,Hy] at e;obtain⟨W,M⟩:=e;subst W;subst M;exact k v H fa O StE.refl I (q _ _ _)
end DL
namespace DL
open PySem PySem.Spec L2
def eI (i:Nat) (s:DS):DS:=match s.sl[i]? with
 |some (.own ds)=>{ s with sl:=s.sl.set i (.v (.lst ds)) }
 |_=>s
def cA:List Nat->DS->DS
 |[],s=>s
 |i::r,s=>cA r (eI i s)
section
variable {K:vF_}{σ:L2.St}{s:DS}
def Gf (i:Nat) (I:GI K g σ H fa O s):∃P,StE fa O H fa P H/\GI K g σ H fa P (eI i s):=by
 unfold eI;cases q:s.sl[i]? with
 |none=>exact#[O,StE.refl,I]
 |some z=>
  cases z with
  |no=>exact#[O,StE.refl,I]
  |v d'=>exact#[O,StE.refl,I]
  |own ds=>
   simp only;obtain⟨a,xs,U,m,e2,r⟩:=SlR.own I.sl q
   let N1:Addr->Prop:=fun b=>NN g.F fa O b/\b≠a
   have L:Car K (NN g.F fa O) fa H N1 fa H:=#[fun b ys n z=>#[z,fun y=>n y.1],fun _ _ z=>z,fun _ _ z=>z,fun _ z=>z]
   have S1:=SlR.go L (fun _ _ _ z=>z) I.sl;have R1:Rep K N1 fa H (.lst ds) (.ref a):=by
    simp only[Rep];exact#[a,xs,rfl,fun z=>z.2 rfl,e2,Reps.go L ds xs r]
   obtain⟨P,W,Y,hn⟩:=SlR.put i S1 R1;have na:a ∉ P:=hn I.nd a (by rw[q];rfl) #[ds,q] U;have eσ:σ.set i (some (V.ref a))=σ:=by
    apply List.ext_getElem?;intro j;by_cases Z:j=i
    .subst Z;rw[U,JT (HQ.mp U).1]
    .rw[IK (Hz Z)]
   rw[eσ] at Y;have J:∀b∈P,b∈O:=fun b M=>W.subset M
   have a1:StE fa O H fa P H:=#[J,.inl rfl,fun _ _ z _=>z,fun _ z=>z]
   have c2:Car K N1 fa H (NN g.F fa P) fa H:=#[fun b ys n z=>#[z,fun y=>n #[by
     rcases y with y | y | y
     .exact .inl y
     .exact .inr (.inl (J b y))
     .exact .inr (.inr y),fun w=>by
     subst w;rcases y with y | y | y
     .exact I.tr b y (I.fr b m)
     .exact na y
     .exact I.nf b y m]],fun _ _ z=>z,fun _ _ z=>z,fun _ z=>z]
   exact#[P,a1,W.nodup I.nd,SlR.go c2 (fun _ _ _ z=>z) Y,fun b M=>I.fr b (J b M),I.st,I.tr,I.ff,(I.fd.car L fun _ _=>rfl).car c2 fun _ _=>rfl,fun b z y=>I.nf b z (J b y)]
theorem pF:∀(is:List Nat) {O:vL_}{s:DS},GI K g σ H fa O s->∃P,StE fa O H fa P H/\GI K g σ H fa P (cA is s)
 |[],O,s,I=>#[O,StE.refl,I]
 |i::r,O,s,I=>by
  obtain⟨P,a,L⟩:=Gf i I;obtain⟨M,J,U⟩:=pF r L;exact#[M,a.trans J,U]
end
def gw (J:List Nat) (f:DA):DA:=fun s=>f (cA J s)
def yh {f:DA}(J:List Nat) (h:FO X g e f):FO X g e (gw J f):=FO.w h.pe fun σ H Q M=>by
 refine M.elim fun fa O s d s' I q k=>?_
 obtain⟨P,a,W⟩:=pF J I;exact#[fa,P,cA J s,d,s',W,q,fun p xs H' f1 O1 Y L U=>k p xs H' f1 O1 (a.trans Y) L U]
def bO (idx:List Nat) (sl:List Sl):D->Option (List Sl)
 |.tup [a,b]=>some (.v a :: .v b::F8 idx sl)
 |_=>none
def ve {r:List Sl}(h:bO idx sl d=some r):∃a b,d = .tup [a,b]/\r = .v a :: .v b::F8 idx sl:=by
 cases d with
 |tup ds=>
  match ds,h with
  |[a,b],h=>cases h;exact#[a,b,rfl,rfl]
 |_=>cases h
noncomputable def cg (idx:List Nat) (fi:DA) (fc:DT) (fe:DE):DA:=fun s=>(fi s).bind fun x=>if x.1.length<=sizeLine then (A9 (bO idx x.2.sl) fc fe x.1 x.2.fs).map fun y=>(y.1,{ x.2 with fs:=y.2 }) else none
def AG {G:TG}(k:CompOk X scope cl N' 2 idx)
  (hG:∀(a:Addr) (x y:V) (σ:L2.St) (H:Hp) (Q:L2.St->Hp->Prop),SqT X.K H a [x,y]->Q ((σ.set 0 (some x)).set 1 (some y)) H->G (.ref a) σ H Q):∀σ H Q,liftF X.K g (cg idx fi fc fe) σ H Q->aX 2 idx (liftI X.K g fi) G (fun σ H Q=>∃g',liftT X.K g' fc σ H Q) (fun σ H Q=>∃g',liftE X.K g' fe σ H Q) σ H Q:=
 mz (mk:=bO idx) fun N fa sl d sl0 x σ H Q Y U hc kk=>by
  obtain⟨da,db,rfl,rfl⟩:=ve Y;simp only[Rep,Reps] at U;obtain⟨Z,xs0,rfl,L,u,ys0,rfl,ru,w,ys1,rfl,J,rfl⟩:=U;refine hG Z u w _ _ _ L (kk _ #[by simp,fun j v M=>?_] ?_)
  .cases j with
   |zero=>simp[D8] at M
   |succ j=>
    cases j with
    |zero=>simp[D8] at M
    |succ j=>rw[IK (by simp),IK (by simp)];exact M
  .have W:((D8 2 idx σ).set 0 (some u)).set 1 (some w)=some u::some w::idx.map fun i=>(σ[i]?).join:=by simp[D8]
   rw[W];simp only[SlR];exact#[u,_,rfl,ru,w,_,rfl,J,hc]
def Bb {G:TG}(L:X.calm=true) (k:CompOk X scope cl N' 2 idx) (hi:IO X g tg iter fi) (U:∀C s0 H0 ex,PG (A6 X N' scope cl C s0 H0 ex) tg G)
  (M:∀(a:Addr) (x y:V) (σ:L2.St) (H:Hp) (Q:L2.St->Hp->Prop),SqT X.K H a [x,y]->Q ((σ.set 0 (some x)).set 1 (some y)) H->G (.ref a) σ H Q)
  (W:∀C s0 H0 ex g',bL (A6 X N' scope cl C s0 H0 ex) g' ifs fc) (Y:∀C s0 H0 ex g',EO (A6 X N' scope cl C s0 H0 ex) g' elt fe) (J:∀x,foldedSetIterable iter X.env x=pure x:=by intro _;rfl) :
  FO X g (.ListComp elt [#[tg,iter,ifs,0]] scope pos) (cg idx fi fc fe):=by
 exact FO.w (rS (tc:=fun σ H Q=>∃g',liftT X.K g' fc σ H Q) (te:=fun σ H Q=>∃g',liftE X.K g' fe σ H Q) L k hi.pe U (fun C s0 H0 ex pins s σ H Q I ⟨g',h⟩=>W C s0 H0 ex g' pins s σ H Q I h) (fun C s0 H0 ex pins s σ H Q I ⟨g',h⟩=>(Y C s0 H0 ex g').pe pins s σ H Q I h) J) (AG k M)
def CH {y:Str}(J:closureFor scope X.env=pure cl) (U:SubL X.env.cells cl) (cell:∀y∈scope.names,y.2 ≠ .cell) (kind:scope.kind = .function)
  (names:∀y∈scope.names,y.2 = .local->scope.names.lookup y.1=some .local) (M:hasAll (relabel scope X.env).names cl=true) (L:CapL X scope idx caps):CompOk X scope cl (x::y::caps) 2 idx:=
 #[J,fun y c e=>U.mem y c (gS e),cell,kind,names,rC M,by rw[Hv,Hv,L.len];omega,fun j i y Y W=>L.at j i y Y (by
  rw[show 2+j=j+1+1 by omega] at W;simpa using W)]
def RwIt (h:Heap) (i l:Addr) (xs:vR_) (k:Nat):Prop:=(h.IsListIter i l k/\h.IsList l xs)\/(h.IsTupleIter i l k/\h.IsTuple l xs)
section
variable {h:Heap}{i l:Addr}{xs:vR_}{k:Nat}
def RwIt.at (x:RwIt h i l xs k) (J:∀o,h.get? i=some o->h'.get? i=some o) (L:∀o,h.get? l=some o->h'.get? l=some o):RwIt h' i l xs k:=by
 rcases x with ⟨⟨o,q,r⟩,⟨p,u,v⟩⟩ | ⟨⟨o,q,r⟩,⟨p,u,v⟩⟩
 .exact .inl #[#[o,J o q,r],#[p,L p u,v]]
 .exact .inr #[#[o,J o q,r],#[p,L p u,v]]
def RwIt.lt (x:RwIt h i l xs k):i<h.objs.size:=by
 rcases x with ⟨⟨o,q,r⟩,_⟩ | ⟨⟨o,q,r⟩,_⟩ <;> exact xu q
end
section
variable {w:World}
def vZ {it t:Addr}{i:Nat}{items:vR_}{x:Value}{Q:vQ_}(J:s.heap.IsTupleIter it t i) (ht:s.heap.IsTuple t items) (Y:items[i]? = some x)
  (hQ:∀h',h'.IsTupleIter it t (i+1)->Heap.SameBut it s.heap h'->Q x { s with heap:=h' }):wpAny (model prog w) A (Builtin.SmallTypes.nextOf (.ref it)) Q E s:=by
 obtain⟨o,M,Z,L⟩:=id J;obtain⟨ol,U,_,nl,W⟩:=ht;unfold Builtin.SmallTypes.nextOf;refine fx (IH (name:=Str.ofString "__next__") J.typeIs Kd (Iy Kd J.typeIs LD ?_ (LH _)));show wpAny _ _ (field (.ref it) 0 >>= _) _ _ s;refine fx (HH M L (x:=.ref t) rfl ?_);show wpAny _ _ (if (Value.ref t == Value.none)=true then _ else _) _ _ s;rw[gV (show ¬ ((Value.ref t == Value.none)=true) from Hx)];show wpAny _ _ (field (.ref it) 1 >>= _) _ _ s;refine fx (HH M L (x:=.int i 0) rfl ?_);show wpAny _ _ (seqItems? (.ref t) >>= _) _ _ s;refine fx (Ik U W ?_);simp only[IM,Y];refine fx (wpAny_setField M L (by simp) (iO #[x,rfl,iO (hQ _ ?_ (Heap.SameBut.update ..))]));exact#[_,JF _ M (Obj.isFreed_of_fields (Obj.data_mapFields L _)),(Obj.cls_mapFields ..).trans Z,by rw[Obj.data_mapFields L];simp[rawInt]]
def Gp {it t:Addr}{i:Nat}{items:vR_}{Q:vQ_}(Y:A.handled=none) (J:s.heap.IsTupleIter it t i) (ht:s.heap.IsTuple t items) (Z:items[i]? = none)
  (hE:∀h' e,Heap.ExtBut it s.heap h'->(∃o,h'.get? e=some o/\o.cls = .type "StopIteration")->E (.ref e) { s with heap:=h' }):wpAny (model prog w) A (Builtin.SmallTypes.nextOf (.ref it)) Q E s:=by
 obtain⟨o,U,hc,M⟩:=id J;obtain⟨ol,L,_,nl,W⟩:=ht;unfold Builtin.SmallTypes.nextOf;refine fx (IH (name:=Str.ofString "__next__") J.typeIs Kd (Iy Kd J.typeIs LD ?_ (LH _)));show wpAny _ _ (field (.ref it) 0 >>= _) _ _ s;refine fx (HH U M (x:=.ref t) rfl ?_);show wpAny _ _ (if (Value.ref t == Value.none)=true then _ else _) _ _ s;rw[gV (show ¬ ((Value.ref t == Value.none)=true) from Hx)];show wpAny _ _ (field (.ref it) 1 >>= _) _ _ s;refine fx (HH U M (x:=.int i 0) rfl ?_);show wpAny _ _ (seqItems? (.ref t) >>= _) _ _ s;refine fx (Ik L W ?_);simp only[IM,Z];refine fx (IE (fx (wpAny_setField U M (by simp) ?_)));show wpAny _ _ (newExc (.type "StopIteration") [] >>= _) _ _ _;refine fx ?_;simp only[newExc,newTuple];refine fx (ID ?_ (by size_fits));refine fx (m:=firstArgMember _ _) (wpAny_of_eq (a:=Value.none) (by first | rfl | (simp only[firstArgMember];rfl)) ?_);refine ID ?_ (by size_fits);simp only[raiseNew];refine fx (wpAny_handled ?_)
 first | rw[show A.in1.handled=none from Y] | rw[Y]
 refine fx (iO (wpAny_throw ?_));exact hE _ _ (((Heap.SameBut.update ..).extBut.push _).push _) #[_,HG _ rfl,rfl]
def aQ {it l:Addr}{i:Nat}{xs:vR_}{x:Value}{Q:vQ_}(r:RwIt s.heap it l xs i) (hl:l≠it) (U:xs[i]? = some x)
  (M:∀h',RwIt h' it l xs (i+1)->Heap.SameBut it s.heap h'->Q x { s with heap:=h' }):wpAny (model prog w) A (Builtin.SmallTypes.nextOf (.ref it)) Q E s:=by
 rcases r with ⟨a,b⟩ | ⟨a,b⟩
 .exact wpAny_nextOf_list_item a b U fun h' L J=>M h' (.inl #[L,b.extBut J.extBut hl]) J
 .exact vZ a b U fun h' L J=>M h' (.inr #[L,b.extBut J.extBut hl]) J
def ig {it l:Addr}{i:Nat}{xs:vR_}{Q:vQ_}(J:A.handled=none) (r:RwIt s.heap it l xs i) (L:xs[i]? = none)
  (M:∀h' e,Heap.ExtBut it s.heap h'->(∃o,h'.get? e=some o/\o.cls = .type "StopIteration")->E (.ref e) { s with heap:=h' }):wpAny (model prog w) A (Builtin.SmallTypes.nextOf (.ref it)) Q E s:=by
 rcases r with ⟨a,b⟩ | ⟨a,b⟩
 .exact wpAny_nextOf_list_end J a b L M
 .exact Gp J a b L M
abbrev F4 (h:Heap) (z TI TO:Addr) (f0 f1:Value):Prop:=h.get? z=some { cls:=.type "zip",dict:=none,data:=.fields #v[f0,f1,.bool false,.ref TI,.ref TO],slots:=#v[] }
variable {z TI TO i1 i2 l1 l2:Addr}{xs ys:vR_}{k:Nat}
def yW {x y a b:Value}{Q:vQ_}(D:ZipApart z TI TO i1 i2 l1 l2)
  (hz:F4 s.heap z TI TO .none (.bool false)) (hTI:IsPair s.heap TI (.ref i1) (.ref i2)) (hTO:IsPair s.heap TO a b) (h1:RwIt s.heap i1 l1 xs k) (h2:RwIt s.heap i2 l2 ys k) (hx:xs[k]? = some x) (hy:ys[k]? = some y)
  (hQ:∀h',F4 h' z TI TO (rawInt s.heap.objs.size) (.bool false)->RwIt h' i1 l1 xs (k+1)->RwIt h' i2 l2 ys (k+1)->IsPair h' s.heap.objs.size x y ->
   (∀c o,c≠z->c≠TO->c≠i1->c≠i2->s.heap.get? c=some o->h'.get? c=some o)->IsPair h' TO x y->Q (.ref s.heap.objs.size) { s with heap:=h' }) :
  wpAny (model prog w) A (Builtin.«zip.__next__» #[[.ref z],[]]) (fun fin s'=>∃v,fin = .done (.ret v)/\Q v s') E s:=by
 show wpAny _ _ (field (.ref z) 2 >>= _) _ _ _;refine fx (HH hz rfl (x:=.bool false) rfl ?_);show wpAny _ _ (field (.ref z) 3 >>= _) _ _ _;refine fx (HH hz rfl (x:=.ref TI) rfl ?_);refine fx (Ik hTI rfl ?_);show wpAny _ _ (Builtin.SmallTypes.ownedTupleIsFree (.ref z) >>= _) _ _ _;refine fx ?_;unfold Builtin.SmallTypes.ownedTupleIsFree;refine fx (HH hz rfl (x:=.none) rfl (iO ?_));simp only[HI];refine fx (IE ?_);refine fx (HH hz rfl (x:=.ref TO) rfl ?_);refine fx (IW hz (by simp) fun g1 z1 L=>?_)
 replace z1:F4 g1 z TI TO .ellipsis (.bool false):=z1
 refine fx ?_;simp only[List.zipIdx_cons,List.zipIdx_nil,Ke,Kf];refine fx (fx (Kg ?_));show wpAny _ _ (Builtin.SmallTypes.nextOf (.ref i1) >>= _) _ _ _;refine fx (aQ (h1.at (fun o e=>L.extBut _ o D.i1z e) fun o e=>L.extBut _ o D.l1z e) D.l1i1 hx fun g2 r2 k2=>iO ?_);have o2:IsPair g2 TO a b:=k2.extBut _ _ D.TOi1 (L.extBut _ _ D.TOz hTO);refine fx (Ik o2 rfl ?_);refine fx (Ld o2 fun g3 o3 M=>?_)
 replace o3:IsPair g3 TO x b:=o3
 refine fx (Kh (iO ?_));refine fx (fx (Kg ?_));show wpAny _ _ (Builtin.SmallTypes.nextOf (.ref i2) >>= _) _ _ _;refine fx (aQ (h2.at (fun o e=>M.extBut _ o D.TOi2.symm (k2.extBut _ o D.i12.symm (L.extBut _ o D.i2z e))) fun o e=>M.extBut _ o D.l2TO (k2.extBut _ o D.l2i1 (L.extBut _ o D.l2z e))) D.l2i2 hy fun g4 r4 Y=>iO ?_);have o4:IsPair g4 TO x b:=Y.extBut _ _ D.TOi2 o3;refine fx (Ik o4 rfl ?_);refine fx (Ld o4 fun J o5 W=>?_)
 replace o5:IsPair J TO x y:=o5
 refine fx (Kh (iO (iO ?_)));refine fx (Ik o5 rfl ?_);refine fx (wpAny_newTuple ?_);have sz:J.objs.size=s.heap.objs.size:=by rw[W.1,Y.1,M.1,k2.1,L.1]
 have z5:F4 J z TI TO .ellipsis (.bool false):=W.extBut _ _ D.TOz.symm (Y.extBut _ _ D.i2z.symm (M.extBut _ _ D.TOz.symm (k2.extBut _ _ D.i1z.symm z1)));have q5:∀c o,c≠z->c≠TO->c≠i1->c≠i2->s.heap.get? c=some o->J.get? c=some o:=fun c o U c2 c3 c4 e=>
  W.extBut _ _ c2 (Y.extBut _ _ c4 (M.extBut _ _ c2 (k2.extBut _ _ c3 (L.extBut _ _ U e))))
 have p1:RwIt J i1 l1 xs (k+1):=r2.at (fun o e=>W.extBut _ o D.TOi1.symm (Y.extBut _ o D.i12 (M.extBut _ o D.TOi1.symm e))) fun o e=>W.extBut _ o D.l1TO (Y.extBut _ o D.l1i2 (M.extBut _ o D.l1TO e))
 have p2:RwIt J i2 l2 ys (k+1):=r4.at (fun o e=>W.extBut _ o D.TOi2.symm e) fun o e=>W.extBut _ o D.l2TO e
 have zl:z<J.objs.size:=xu z5;show wpAny _ _ (Builtin.SmallTypes.ownedTupleHandOut (.ref z) (.ref J.objs.size) >>= _) _ _ _;refine fx ?_;unfold Builtin.SmallTypes.ownedTupleHandOut;have z6:F4 (J.push { cls:=.type "tuple",data:=.seq #v[x,y] }) z TI TO .ellipsis (.bool false):=xo _ z5;refine fx (IW z6 (by simp) fun g7 z7 k7=>?_)
 replace z7:F4 g7 z TI TO (rawInt J.objs.size) (.bool false):=z7
 refine IW z7 (by simp) fun g8 z8 k8=>?_
 replace z8:F4 g8 z TI TO (rawInt J.objs.size) (.bool false):=z8
 have Z:∀c o,c≠z->J.get? c=some o->g8.get? c=some o:=fun c o U e=>k8.extBut _ _ U (k7.extBut _ _ U (xo _ e))
 have t8:IsPair g8 J.objs.size x y:=k8.extBut _ _ (HY zl) (k7.extBut _ _ (HY zl) (HG _ rfl));rw[sz] at z8 t8;refine iO #[_,rfl,?_];show Q (.ref J.objs.size) _;rw[sz];exact hQ g8 z8 (p1.at (fun o e=>Z _ o D.i1z e) fun o e=>Z _ o D.l1z e) (p2.at (fun o e=>Z _ o D.i2z e) fun o e=>Z _ o D.l2z e) t8 (fun c o U c2 c3 c4 e=>Z c o U (q5 c o U c2 c3 c4 e)) (Z _ _ D.TOz o5)
def AD {a b:Value}{Q:Fin->Shared->Prop}(hh:A.handled=none) (D:ZipApart z TI TO i1 i2 l1 l2)
  (hz:F4 s.heap z TI TO .none (.bool false)) (hTI:IsPair s.heap TI (.ref i1) (.ref i2)) (hTO:IsPair s.heap TO a b) (h1:RwIt s.heap i1 l1 xs k) (h2:RwIt s.heap i2 l2 ys k) (Z:xs[k]? = none\/ys[k]? = none)
  (hE:∀h' e,(∀c o,c≠z->c≠TO->c≠i1->c≠i2->s.heap.get? c=some o->h'.get? c=some o)->(∃o,h'.get? e=some o/\o.cls = .type "StopIteration")->E (.ref e) { s with heap:=h' }) :
  wpAny (model prog w) A (Builtin.«zip.__next__» #[[.ref z],[]]) Q E s:=by
 show wpAny _ _ (field (.ref z) 2 >>= _) _ _ _;refine fx (HH hz rfl (x:=.bool false) rfl ?_);show wpAny _ _ (field (.ref z) 3 >>= _) _ _ _;refine fx (HH hz rfl (x:=.ref TI) rfl ?_);refine fx (Ik hTI rfl ?_);show wpAny _ _ (Builtin.SmallTypes.ownedTupleIsFree (.ref z) >>= _) _ _ _;refine fx ?_;unfold Builtin.SmallTypes.ownedTupleIsFree;refine fx (HH hz rfl (x:=.none) rfl (iO ?_));simp only[HI];refine fx (IE ?_);refine fx (HH hz rfl (x:=.ref TO) rfl ?_);refine fx (IW hz (by simp) fun g1 z1 M=>?_)
 replace z1:F4 g1 z TI TO .ellipsis (.bool false):=z1
 refine fx ?_;simp only[List.zipIdx_cons,List.zipIdx_nil,Ke,Kf];refine fx (fx (Kg ?_));show wpAny _ _ (Builtin.SmallTypes.nextOf (.ref i1) >>= _) _ _ _;cases hx:xs[k]? with
 |none=>
  refine fx (ig hh (h1.at (fun o e=>M.extBut _ o D.i1z e) fun o e=>M.extBut _ o D.l1z e) hx fun g2 e U he=>?_);obtain⟨oe,J,L⟩:=he;have z2:F4 g2 z TI TO .ellipsis (.bool false):=U _ _ D.i1z.symm z1;have W:e≠z:=fun x=>by subst x;rw[z2] at J;cases J;simp at L
  exact IW z2 (by simp) fun g3 _ Y=>hE g3 e (fun c o c1 _ c3 _ x=>Y.extBut _ _ c1 (U _ _ c3 (M.extBut _ _ c1 x))) #[oe,Y.extBut _ _ W J,L]
 |some x=>
  have hy:ys[k]? = none:=by
   rcases Z with h | h
   .rw[hx] at h;cases h
   .exact h
  refine fx (aQ (h1.at (fun o e=>M.extBut _ o D.i1z e) fun o e=>M.extBut _ o D.l1z e) D.l1i1 hx fun g2 r2 U=>iO ?_);have o2:IsPair g2 TO a b:=U.extBut _ _ D.TOi1 (M.extBut _ _ D.TOz hTO);refine fx (Ik o2 rfl ?_);refine fx (Ld o2 fun g3 o3 Y=>?_);refine fx (Kh (iO ?_));refine fx (fx (Kg ?_));show wpAny _ _ (Builtin.SmallTypes.nextOf (.ref i2) >>= _) _ _ _;refine fx (ig hh (h2.at (fun o e=>Y.extBut _ o D.TOi2.symm (U.extBut _ o D.i12.symm (M.extBut _ o D.i2z e))) fun o e=>Y.extBut _ o D.l2TO (U.extBut _ o D.l2i1 (M.extBut _ o D.l2z e))) hy fun g4 e k4 he=>?_);obtain⟨oe,J,L⟩:=he;have z4:F4 g4 z TI TO .ellipsis (.bool false):=k4 _ _ D.i2z.symm (Y.extBut _ _ D.TOz.symm (U.extBut _ _ D.i1z.symm z1));have W:e≠z:=fun x=>by subst x;rw[z4] at J;cases J;simp at L
  exact IW z4 (by simp) fun g5 _ k5=>hE g5 e (fun c o c1 c2 c3 c4 x=>k5.extBut _ _ c1 (k4 _ _ c4 (Y.extBut _ _ c2 (U.extBut _ _ c3 (M.extBut _ _ c1 x))))) #[oe,k5.extBut _ _ W J,L]
end
section
variable {w:World}
variable {z TI TO i1 i2 l1 l2:Addr}{xs ys:vR_}{k:Nat}
def yH {o:Obj}{Q:Option Obj->Shared->Prop}(J:s.heap.get? a=some o) (h:Q (some o) s):wpAny (model prog w) A (loadIfAlive a) Q E s:=by
 have h':Q (s.heap.get? a) s:=by rw[J];exact h
 exact fun _ _ _=>h'
def rD {T:Addr}{f:Bool}{W:Obj}{Q:Bool->Shared->Prop}(hz:F4 s.heap z TI TO (rawInt T) (.bool f)) (U:s.heap.get? T=some W)
  (J:∀h',F4 h' z TI TO (rawInt T) (.bool true)->Heap.SameBut z s.heap h'->Q false { s with heap:=h' }):wpAny (model prog w) A (Builtin.SmallTypes.ownedTupleIsFree (.ref z)) Q E s:=by
 unfold Builtin.SmallTypes.ownedTupleIsFree;refine fx (HH hz rfl (x:=rawInt T) rfl ?_);show wpAny _ _ (loadIfAlive ((T:Int).toNat) >>= _) _ _ _;rw[IM];refine fx (yH U ?_);simp only[Option.isNone_some,IY,Ii];refine fx (HH hz rfl (x:=.bool f) rfl ?_);cases f with
 |true=>
  rw[gV (show ¬ ((Value.bool true != Value.bool true)=true) from Hx)];exact iO (J s.heap hz (Heap.SameBut.refl _ _))
 |false=>
  rw[fI (show (Value.bool false != Value.bool true)=true from rfl)];exact fx (IW hz (by simp) fun g L M=>iO (J g L M))
def As {x y:Value}{T:Addr}{f:Bool}{oT:Obj}{Q:vQ_}(D:ZipApart z TI TO i1 i2 l1 l2)
  (hz:F4 s.heap z TI TO (rawInt T) (.bool f)) (hT:s.heap.get? T=some oT) (hTI:IsPair s.heap TI (.ref i1) (.ref i2)) (h1:RwIt s.heap i1 l1 xs k) (h2:RwIt s.heap i2 l2 ys k) (hx:xs[k]? = some x) (hy:ys[k]? = some y)
  (hQ:∀h',F4 h' z TI TO (rawInt T) (.bool true)->RwIt h' i1 l1 xs (k+1)->RwIt h' i2 l2 ys (k+1)->IsPair h' s.heap.objs.size x y ->
   (∀c o,c≠z->c≠TO->c≠i1->c≠i2->s.heap.get? c=some o->h'.get? c=some o)->Q (.ref s.heap.objs.size) { s with heap:=h' }) :
  wpAny (model prog w) A (Builtin.«zip.__next__» #[[.ref z],[]]) (fun fin s'=>∃v,fin = .done (.ret v)/\Q v s') E s:=by
 show wpAny _ _ (field (.ref z) 2 >>= _) _ _ _;refine fx (HH hz rfl (x:=.bool false) rfl ?_);show wpAny _ _ (field (.ref z) 3 >>= _) _ _ _;refine fx (HH hz rfl (x:=.ref TI) rfl ?_);refine fx (Ik hTI rfl ?_);show wpAny _ _ (Builtin.SmallTypes.ownedTupleIsFree (.ref z) >>= _) _ _ _;refine fx (rD hz hT fun g1 z1 J=>?_);simp only[IY,Ii];simp only[List.forIn_toArray,Ke,Kf];refine fx (fx (fx (IQ ?_)));show wpAny _ _ (Builtin.SmallTypes.nextOf (.ref i1) >>= _) _ _ _;refine fx (aQ (h1.at (fun o e=>J.extBut _ o D.i1z e) fun o e=>J.extBut _ o D.l1z e) D.l1i1 hx fun g2 r2 M=>iO ?_);refine iO ?_;refine fx (fx (IQ ?_));show wpAny _ _ (Builtin.SmallTypes.nextOf (.ref i2) >>= _) _ _ _;refine fx (aQ (h2.at (fun o e=>M.extBut _ o D.i12.symm (J.extBut _ o D.i2z e)) fun o e=>M.extBut _ o D.l2i1 (J.extBut _ o D.l2z e)) D.l2i2 hy fun Z r4 L=>iO ?_);refine iO (iO ?_);show wpAny _ _ (newTuple [x,y] >>= _) _ _ _;refine fx (wpAny_newTuple (items:=[x,y]) ?_ (show 2<=sizeLine by decide));have sz:Z.objs.size=s.heap.objs.size:=by rw[L.1,M.1,J.1]
 have q4:∀c o,c≠z->c≠i1->c≠i2->s.heap.get? c=some o->Z.get? c=some o:=fun c o W Y U e=>L.extBut _ _ U (M.extBut _ _ Y (J.extBut _ _ W e))
 refine iO #[_,rfl,?_];show Q (.ref Z.objs.size) _;rw[sz];refine hQ _ (xo _ (L.extBut _ _ D.i2z.symm (M.extBut _ _ D.i1z.symm z1)))
  (r2.at (fun o e=>xo _ (L.extBut _ o D.i12 e)) fun o e=>xo _ (L.extBut _ o D.l1i2 e))
  (r4.at (fun o e=>xo _ e) fun o e=>xo _ e) ?_ fun c o W c2 Y U e=>xo _ (q4 c o W Y U e)
 rw[<-sz];exact HG _ rfl
def vM {T:Addr}{f:Bool}{oT:Obj}{Q:Fin->Shared->Prop}(hh:A.handled=none) (D:ZipApart z TI TO i1 i2 l1 l2)
  (hz:F4 s.heap z TI TO (rawInt T) (.bool f)) (hT:s.heap.get? T=some oT) (Y:IsPair s.heap TI (.ref i1) (.ref i2)) (h1:RwIt s.heap i1 l1 xs k) (h2:RwIt s.heap i2 l2 ys k) (M:xs[k]? = none\/ys[k]? = none)
  (hE:∀h' e,(∀c o,c≠z->c≠TO->c≠i1->c≠i2->s.heap.get? c=some o->h'.get? c=some o)->(∃o,h'.get? e=some o/\o.cls = .type "StopIteration")->E (.ref e) { s with heap:=h' }) :
  wpAny (model prog w) A (Builtin.«zip.__next__» #[[.ref z],[]]) Q E s:=by
 show wpAny _ _ (field (.ref z) 2 >>= _) _ _ _;refine fx (HH hz rfl (x:=.bool false) rfl ?_);show wpAny _ _ (field (.ref z) 3 >>= _) _ _ _;refine fx (HH hz rfl (x:=.ref TI) rfl ?_);refine fx (Ik Y rfl ?_);show wpAny _ _ (Builtin.SmallTypes.ownedTupleIsFree (.ref z) >>= _) _ _ _;refine fx (rD hz hT fun g1 z1 J=>?_);simp only[IY,Ii];simp only[List.forIn_toArray,Ke,Kf];refine fx (fx (fx (IQ ?_)));show wpAny _ _ (Builtin.SmallTypes.nextOf (.ref i1) >>= _) _ _ _;cases Z:xs[k]? with
 |none=>
  refine fx (ig hh (h1.at (fun o e=>J.extBut _ o D.i1z e) fun o e=>J.extBut _ o D.l1z e) Z fun g2 e L he=>?_);exact hE g2 e (fun c o U _ W _ x=>L _ _ W (J.extBut _ _ U x)) he
 |some x=>
  have hy:ys[k]? = none:=by
   rcases M with h | h
   .rw[Z] at h;cases h
   .exact h
  refine fx (aQ (h1.at (fun o e=>J.extBut _ o D.i1z e) fun o e=>J.extBut _ o D.l1z e) D.l1i1 Z fun g2 r2 L=>iO ?_);refine iO ?_;refine fx (fx (IQ ?_));show wpAny _ _ (Builtin.SmallTypes.nextOf (.ref i2) >>= _) _ _ _;refine fx (ig hh (h2.at (fun o e=>L.extBut _ o D.i12.symm (J.extBut _ o D.i2z e)) fun o e=>L.extBut _ o D.l2i1 (J.extBut _ o D.l2z e)) hy fun g4 e k4 he=>?_);exact hE g4 e (fun c o U c2 W c4 x=>k4 _ _ c4 (L.extBut _ _ W (J.extBut _ _ U x))) he
structure ZSt (h:Heap) (z TI TO i1 i2 l1 l2 S:Addr) (xs ys:vR_) (k:Nat):Prop where
 ti:IsPair h TI (.ref i1) (.ref i2)
 r1:RwIt h i1 l1 xs k
 r2:RwIt h i2 l2 ys k
 zz:(F4 h z TI TO .none (.bool false)/\∃a b,IsPair h TO a b)\/∃(T:Addr) (f:Bool) (oT:Obj),F4 h z TI TO (rawInt T) (.bool f)/\h.get? T=some oT/\T≠z/\T≠TO/\T≠i1/\T≠i2/\T≠S
def yS {S:Addr}{x y:Value}{Q:Option Value->Shared->Prop}(D:ZipApart z TI TO i1 i2 l1 l2) (st:ZSt s.heap z TI TO i1 i2 l1 l2 S xs ys k) (hS:S<s.heap.objs.size) (hTO:TO<s.heap.objs.size) (hx:xs[k]? = some x) (hy:ys[k]? = some y)
  (hQ:∀h',ZSt h' z TI TO i1 i2 l1 l2 S xs ys (k+1)->IsPair h' s.heap.objs.size x y->(∀c o,c ∉ [z,TO,i1,i2]->s.heap.get? c=some o->h'.get? c=some o)->Q (some (.ref s.heap.objs.size)) { s with heap:=h' }) :
  wpAny (model prog w) A (pyNext (.ref z)) Q E s:=by
 obtain⟨Y,r1,Z,zz⟩:=st;have K:∀{h':Heap},(∀c o,c≠z->c≠TO->c≠i1->c≠i2->s.heap.get? c=some o->h'.get? c=some o)->∀c o,c ∉ [z,TO,i1,i2]->s.heap.get? c=some o->h'.get? c=some o:=fun k c o M e=>by
  simp only[xr,HM,HN,not_or] at M;exact k c o M.1 M.2.1 M.2.2.1 M.2.2.2 e
 unfold pyNext;rcases zz with ⟨J,a,b,ho⟩ | ⟨T,f,oT,J,hT,t1,t2,t3,t4,t5⟩
 .have U:s.TypeIs (.ref z) "zip" := #[_,J,rfl]
  exact fx (Ki (IH (name:=Str.ofString "__next__") U IA (Iy IA U Kj
   (yW D J Y ho r1 Z hx hy fun h' a1 a2 a3 W L _=>iO (hQ h' #[L _ _ D.TIz D.TITO D.TIi1 D.TIi2 Y,a2,a3,.inr #[_,_,_,a1,W,HY (xu J),HY hTO,HY r1.lt,HY Z.lt,HY hS]] W (K L))) (Kk _))))
 .have U:s.TypeIs (.ref z) "zip" := #[_,J,rfl]
  exact fx (Ki (IH (name:=Str.ofString "__next__") U IA (Iy IA U Kj
   (As D J hT Y r1 Z hx hy fun h' a1 a2 a3 W L=>iO (hQ h' #[L _ _ D.TIz D.TITO D.TIi1 D.TIi2 Y,a2,a3,.inr #[T,true,oT,a1,L _ _ t1 t2 t3 t4 hT,t1,t2,t3,t4,t5]] W (K L))) (Kk _))))
def GS {S:Addr}{Q:Option Value->Shared->Prop}(hh:A.handled=none) (D:ZipApart z TI TO i1 i2 l1 l2) (st:ZSt s.heap z TI TO i1 i2 l1 l2 S xs ys k) (L:xs[k]? = none\/ys[k]? = none)
  (hQ:∀h',(∀c o,c ∉ [z,TO,i1,i2]->s.heap.get? c=some o->h'.get? c=some o)->Q none { s with heap:=h' }):wpAny (model prog w) A (pyNext (.ref z)) Q E s:=by
 obtain⟨ti,r1,r2,zz⟩:=st;have K:∀{h':Heap},(∀c o,c≠z->c≠TO->c≠i1->c≠i2->s.heap.get? c=some o->h'.get? c=some o)->∀c o,c ∉ [z,TO,i1,i2]->s.heap.get? c=some o->h'.get? c=some o:=fun k c o J e=>by
  simp only[xr,HM,HN,not_or] at J;exact k c o J.1 J.2.1 J.2.2.1 J.2.2.2 e
 unfold pyNext;rcases zz with ⟨U,a,b,W⟩ | ⟨T,f,oT,U,hT,t1,t2,t3,t4,t5⟩
 .have M:s.TypeIs (.ref z) "zip" := #[_,U,rfl]
  refine fx (Ki (IH (name:=Str.ofString "__next__") M IA (Iy IA M Kj (AD hh D U ti W r1 r2 L fun h' e Y Z=>?_) (Kk _))));obtain⟨o,W,J⟩:=Z;refine fx (wpAny_isInstance (T := "StopIteration") (b:=true) #[o,W,J] isSubtype_stop ?_);exact iO (hQ _ (K Y))
 .have M:s.TypeIs (.ref z) "zip" := #[_,U,rfl]
  refine fx (Ki (IH (name:=Str.ofString "__next__") M IA (Iy IA M Kj (vM hh D U hT ti r1 r2 L fun h' e Y Z=>?_) (Kk _))));obtain⟨o,W,J⟩:=Z;refine fx (wpAny_isInstance (T := "StopIteration") (b:=true) #[o,W,J] isSubtype_stop ?_);exact iO (hQ _ (K Y))
end
structure LW (prog:Program) (w:World) (A:Around) (I S:Addr) (wr:vL_) (n:Nat) (P:Nat->Value->Heap->Prop) (St:Nat->Heap->Prop):Prop where
 item:∀(i:Nat) (s:Shared) (Q:Option Value->Shared->Prop) (E:vQ_),i<n->St i s.heap->S<s.heap.objs.size ->
  (∀v h',P i v h'->St (i+1) h'->(∀j u,P j u s.heap->u≠v)->(∀b o,b ∉ wr->s.heap.get? b=some o->h'.get? b=some o)->Q (some v) { s with heap:=h' })->wpAny (model prog w) A (pyNext (.ref I)) Q E s
 done:∀(s:Shared) (Q:Option Value->Shared->Prop) (E:vQ_),St n s.heap->(∀h',(∀b o,b ∉ wr->s.heap.get? b=some o->h'.get? b=some o)->Q none { s with heap:=h' })->wpAny (model prog w) A (pyNext (.ref I)) Q E s
 stay:∀i h h',St i h->(∀b o,b≠S->h.get? b=some o->h'.get? b=some o)->St i h'
 pay:∀i v h h',P i v h->(∀b o,b≠S->b ∉ wr->h.get? b=some o->h'.get? b=some o)->P i v h'
 self:∀(A:Around) (s:Shared) (Q:vQ_) (E:vQ_),St 0 s.heap->Q (.ref I) s->wpAny (model prog w) A (pyIter (.ref I)) Q E s
 out:S ∉ wr
section
variable {w:World}{I:Addr}{wr:vL_}{P:Nat->Value->Heap->Prop}{St:Nat->Heap->Prop}{R:Result->Shared->Prop}
def dk (P:Nat->Value->Heap->Prop) (h:Heap) (J:vR_) (i:Nat):Prop:=J.size=i/\(∀j v,J[j]? = some v->P j v h)/\J.toList.Nodup
abbrev W7 (h:Heap) (S:Addr) (acc:vR_) (c:Nat):Prop:=h.get? S=some { cls:=.type "list",dict:=none,data:=.seq acc c,slots:=#v[] }
def wc (W:LW prog w A.in1 I S wr n P St) (hn:n<=sizeLine) (res:Value) {h₁:Heap}
  (hR:∀h' acc c,(∀b o,b≠S->b ∉ wr->h₁.get? b=some o->h'.get? b=some o)->W7 h' S acc c->dk P h' acc n->R (.ok (.ret res)) { s with heap:=h' }) :
  ∀(k i:Nat) (h:Heap) (c:Nat) (acc:vR_),n - i=k->i<=n->St i h->(∀b o,b≠S->b ∉ wr->h₁.get? b=some o->h.get? b=some o)->W7 h S acc c->dk P h acc i ->
   codeAny (model prog w) A (.builtin "list.extend.loop" #[[.ref S,.ref I,res],[]]) R { s with heap:=h }:=by
 intro k;induction k with
 |zero=>
  intro i h c acc hk hi U kp hS L;have e:i=n:=by omega
  subst e;refine codeAny_builtin LI ?_;rw[Around.under_plainId Kl _];show wpAny _ A.in1 (pyNext (.ref I) >>= _) _ _ _;refine fx (W.done { s with heap:=h } _ _ U fun h' M=>?_);exact iO (hR h' acc c (fun b o h1 h2 e=>M b o h2 (kp b o h1 h2 e)) (M S _ W.out hS) #[L.1,fun j v e=>W.pay j v h h' (L.2.1 j v e) fun b o _ h2 e=>M b o h2 e,L.2.2])
 |succ k ih=>
  intro i h c acc hk hi U kp hS L;have Z:i<n:=by omega
  refine codeAny_builtin LI ?_;rw[Around.under_plainId Kl _];show wpAny _ A.in1 (pyNext (.ref I) >>= _) _ _ _;refine fx (W.item i { s with heap:=h } _ _ Z U (xu hS) fun v h' hP hst' hne M=>?_)
  dsimp only at M hne ⊢
  have hS':W7 h' S acc c:=M S _ W.out hS;have up:∀b o,b≠S->h'.get? b=some o->(h'.update S (Obj.mapSeq (·.push v))).get? b=some o:=fun b o hb e=>(JC _ _ (Hz hb)).trans e
  show wpAny _ A.in1 (updateSeq S (·.push v) >>= _) _ _ _;refine fx ?_;have J:=L.1;refine Km hS' rfl (iO #[plainId_quiet Kl _,ih (i+1) _ _ (acc.push v) ∅ Z (W.stay _ h' _ hst' up)
   (fun b o h1 h2 e=>up b o h1 (M b o h2 (kp b o h1 h2 e))) (JF _ hS' rfl) #[by rw[Array.size_push,J],fun j x Y=>?_,?_]]) (by rw[J];omega) (by show (acc.push v).size<=sizeLine+1;rw[Array.size_push,J];omega)
  .rw[Array.getElem?_push] at Y;split at Y
   .rename_i e;cases Y;rw[e,J];exact W.pay i v h' _ hP fun b o h1 _ e=>up b o h1 e
   .exact W.pay j x h _ (L.2.1 j x Y) fun b o h1 h2 e=>up b o h1 (M b o h2 e)
  .rw[Array.toList_push];refine List.nodup_append.mpr #[L.2.2,by simp,fun a ha b hb=>?_];have e:b=v:=by simpa using hb
   subst e;obtain⟨j,Y⟩:=Jn.mp ha;exact hne j a (L.2.1 j a (by simpa using Y))
def Hg (W:LW prog w A.in1 I S wr n P St) (hn:n<=sizeLine) (Y:s.TypeIs (.ref I) T) (hl:(Value.type T == Value.type "list")=false) (ht:(Value.type T == Value.type "tuple")=false)
  (nl:typeLookup (.type T) "__len__" = pure none) (nh:typeLookup (.type T) "__length_hint__" = pure none) (L:St 0 s.heap) (Z:S≠I) (res:Value) (c₀:Nat) (hS:W7 s.heap S #v[] c₀)
  (hR:∀h' acc c,(∀b o,b≠S->b ∉ wr->s.heap.get? b=some o->h'.get? b=some o)->W7 h' S acc c->dk P h' acc n->R (.ok (.ret res)) { s with heap:=h' }) :
  wpAny (model prog w) A.in1 (Builtin.List.listExtendWith (.ref S) (.ref I) res)
   (fun fin s'=>match fin with | .done f=>R (.ok f) s' | .again c'=>c'.quiet=true/\codeAny (model prog w) A c' R s') (fun e s'=>R (.error e) s') s:=by
 have key:∀(h:Heap) (M:Nat),(∀b o,b≠S->s.heap.get? b=some o->h.get? b=some o)->W7 h S #v[] M ->
   codeAny (model prog w) A (.builtin "list.extend.loop" #[[.ref S,.ref I,res],[]]) R { s with heap:=h }:=fun h M hk U=>
  wc (h₁:=s.heap) W hn res hR n 0 h M #v[] (Kc _) (HV _) (W.stay 0 _ h L hk) (fun b o h1 _ e=>hk b o h1 e) U #[rfl,fun j v e=>by simp at e,by simp]
 unfold Builtin.List.listExtendWith;refine fx (JX Y ?_);have h1:Builtin.List.listSameRef (.ref S) (.ref I)=false:=by simp[Builtin.List.listSameRef,Z]
 simp only[h1,hl,ht,Bool.or_false,IY,Ii];refine fx (W.self _ _ _ _ L ?_);refine fx (IQ ?_);unfold Builtin.List.listLengthHint;refine fx (KR Y nl ?_);show wpAny _ A.in1 (specialOf (Value.ref I) (Str.ofString "__length_hint__") >>= _) _ _ _;refine fx (KR Y nh ?_);refine iO ?_;show wpAny _ A.in1 (rule "list.extend.makes-room" >>= fun _=>Builtin.List.listTouch (.ref S) >>= fun _=>
  again (.builtin "list.extend.loop" #[[.ref S,.ref I,res],[]])) _ _ _
 refine fx (IE ?_);refine fx ?_;show wpAny _ A.in1 (updateSeq S (·.push .none) >>= fun _=>updateSeq S (·.pop)) _ _ _;refine fx (Km hS rfl ?_);have J:=JF (Obj.mapSeq (·.push Value.none)) hS rfl;refine Km (hz:=by seq_fits) J rfl ?_;have hS₃:=JF (Obj.mapSeq (·.pop)) J rfl;refine iO #[plainId_quiet Kl _,key _ _ (fun b o hb e=>?_) hS₃];exact(JC _ _ (Hz hb)).trans ((JC _ _ (Hz hb)).trans e)
def Cr {E:vQ_}{Q:vQ_}(W:LW prog w A.in1.in1 I s.heap.objs.size wr n P St) (hn:n<=sizeLine) (hT:s.TypeIs (.ref I) T) (hl:(Value.type T == Value.type "list")=false) (ht:(Value.type T == Value.type "tuple")=false)
  (nl:typeLookup (.type T) "__len__" = pure none) (nh:typeLookup (.type T) "__length_hint__" = pure none) (hst:St 0 s.heap)
  (hQ:∀h' acc c,(∀b o,b ∉ wr->s.heap.get? b=some o->h'.get? b=some o)->W7 h' s.heap.objs.size acc c->dk P h' acc n->Q (.ref s.heap.objs.size) { s with heap:=h' }) :
  wpAny (model prog w) A (call (.type "list") [.ref I]) Q E s:=by
 refine callType_codes (Q₁:=fun L s₁=>L = .ref s.heap.objs.size/\s₁={ s with heap:=s.heap.push { cls:=.type "list",data:=.seq #v[] } }) PySem.F.called_list (PySem.F.typeCall_list_1 _) PySem.F.entry_list_init
  (code_list_new _ #[rfl,rfl]) fun L s₁ h₁=>?_
 obtain⟨rfl,rfl⟩:=h₁;have U:(s.heap.push { cls:=.type "list",data:=.seq #v[] }).get? s.heap.objs.size=some { cls:=.type "list",data:=.seq #v[] }:=HG _ rfl;obtain⟨oI,M,Z⟩:=id hT;have hI:I<s.heap.objs.size:=xu M;refine#[#[_,U,rfl],PySem.F.args_list_init_2 _ _,?_];show wpAny _ _ (do let old <-Builtin.List.listItems (.ref s.heap.objs.size);Builtin.List.listUpdate (.ref s.heap.objs.size) (fun _=>#v[]);letGo old.toList.reverse;Builtin.List.listExtendWith (.ref s.heap.objs.size) (.ref I) .none) _ _ _;refine fx ?_;unfold Builtin.List.listItems;refine fx (Ik U rfl (iO ?_));show wpAny _ _ (updateSeq s.heap.objs.size (fun _=>#v[]) >>= fun _=>letGo (#v[]:vR_).toList.reverse >>= fun _=>Builtin.List.listExtendWith (.ref s.heap.objs.size) (.ref I) .none) _ _ _;refine fx (Km U rfl ?_);have hS₂:=JF (Obj.mapSeq (fun _=>(#v[]:vR_))) U rfl;have J:∀b o,b≠s.heap.objs.size->s.heap.get? b=some o->((s.heap.push { cls:=.type "list",data:=.seq #v[] }).update s.heap.objs.size (Obj.mapSeq (fun _=>(#v[]:vR_)))).get? b=some o:=
  fun b o hb e=>(JC _ _ (Hz hb)).trans (xo _ e)
 refine fx (Kh ?_);refine Hg (A:=A.in1) W hn #[oI,J I _ (HE hI) M,Z] hl ht nl nh (W.stay 0 s.heap _ hst J) (HY hI) .none _ hS₂ fun h' acc c hk Y hG=>?_
 exact#[rfl,hQ h' acc c (fun b o h2 e=>hk b o (HE (xu e)) h2 (J b o (HE (xu e)) e)) Y hG]
end
def Br:typeLookup (.type "zip") "__len__" = pure none:=by rw[typeLookup_type,builtinLookup_eq_fast];kernel_rfl
def xP:typeLookup (.type "zip") "__length_hint__" = pure none:=by rw[typeLookup_type,builtinLookup_eq_fast];kernel_rfl
def ER {w:World}{z TI TO i1 i2 l1 l2:Addr}{xs ys:vR_}(hh:A.handled=none) (D:ZipApart z TI TO i1 i2 l1 l2) (hTO:TO<S) (Z:S ∉ [z,TI,TO,i1,i2,l1,l2]) (i7:∀b∈[z,TO,i1,i2],b<S) :
  LW prog w A z S [z,TO,i1,i2] (min xs.size ys.size) (fun j v h=>∃a x y,v = .ref a/\S<=a/\a≠S/\xs[j]? = some x/\ys[j]? = some y/\IsPair h a x y) (fun k h=>ZSt h z TI TO i1 i2 l1 l2 S xs ys k) where
 item:=fun i s Q E hi st Y M=>by
  have L:i<xs.size:=Hw hi (JE ..);have U:i<ys.size:=Hw hi (Nat.min_le_right ..);exact yS D st Y (Nat.lt_trans hTO Y) (Kn L) (Kn U) fun h' a1 a2 a3=>M _ h' #[_,_,_,rfl,JR Y,HY Y,Kn L,Kn U,a2] a1 (fun j u ⟨a,x,y,e,_,_,_,_,q⟩ z=>by
   rw[e] at z;cases z;exact absurd (xu q) (Ir _)) a3
 done:=fun s Q E st M=>by
  have W:xs[min xs.size ys.size]? = none\/ys[min xs.size ys.size]? = none:=by
   rcases Nat.le_total xs.size ys.size with h | h
   .exact .inl (by rw[Le h];exact Lf (iR _))
   .exact .inr (by rw[Nat.min_eq_right h];exact Lf (iR _))
  exact GS hh D st W M
 stay:=fun i h h' st k=>by
  simp only[xr,HM,HN,not_or] at Z;obtain⟨n1,n2,n3,n4,n5,n6,n7⟩:=Z;obtain⟨ti,r1,r2,zz⟩:=st;refine#[k _ _ (Hz n2) ti,r1.at (fun o e=>k _ o (Hz n4) e) (fun o e=>k _ o (Hz n6) e),r2.at (fun o e=>k _ o (Hz n5) e) (fun o e=>k _ o (Hz n7) e),?_];rcases zz with ⟨J,a,b,ho⟩ | ⟨T,f,oT,J,hT,t1,t2,t3,t4,t5⟩
  .exact .inl #[k _ _ (Hz n1) J,a,b,k _ _ (Hz n3) ho]
  .exact .inr #[T,f,oT,k _ _ (Hz n1) J,k _ _ t5 hT,t1,t2,t3,t4,t5]
 pay:=fun i v h h' p k=>by
  obtain⟨a,x,y,e,ha,na,hx,hy,q⟩:=p;refine#[a,x,y,e,ha,na,hx,hy,k _ _ na (fun hb=>?_) q];exact absurd (Hw (i7 a hb) ha) (Ir _)
 self:=fun A s Q E st M=>by
  have tz:s.TypeIs (.ref z) "zip":= by
   rcases st.zz with ⟨J,_⟩ | ⟨T,f,oT,J,_⟩ <;> exact#[_,J,rfl]
  refine wpAny_pyIter_slot tz LJ (Iy LJ tz PySem.F.entry_zip_iter ?_ (PySem.F.args_zip_iter_1 _));show wpAny _ _ (ret (.ref z)) _ _ s;exact iO #[_,rfl, "zip",_,tz,IA.lookup,M]
 out:=fun h=>Z (by
  simp only[xr,HM,HN] at h ⊢;rcases h with h | h | h | h <;> simp[h])
def R4 (t:Bool) (l:Addr):Obj:={ cls:=.type (if t then "tuple_iterator" else "list_iterator"),data:=.fields #v[.ref l,.int 0 0] }
def RwB (t:Bool) (h:Heap) (l:Addr) (xs:vR_):Prop:=if t then h.IsTuple l xs else h.IsList l xs
section
variable {w:World}
def sN {t:Bool}{l:Addr}{xs:vR_}{Q:vQ_}(h:RwB t s.heap l xs) (J:Q (.ref s.heap.objs.size) { s with heap:=s.heap.push (R4 t l) }):wpAny (model prog w) A (pyIter (.ref l)) Q E s:=by
 cases t with
 |true=>exact wpAny_pyIter_tuple h J
 |false=>exact KZ h J
end
abbrev eS (h:Heap) (t1:Bool) (l1:Addr):Heap:=h.push (R4 t1 l1)
abbrev fM (h:Heap) (t1 t2:Bool) (l1 l2:Addr):Heap:=(eS h t1 l1).push (R4 t2 l2)
abbrev hZ (h:Heap) (t1 t2:Bool) (l1 l2:Addr):Heap:=(fM h t1 t2 l1 l2).push { cls:=.type "tuple",data:=.seq #v[.ref h.objs.size,.ref (eS h t1 l1).objs.size] }
abbrev ia (h:Heap) (t1 t2:Bool) (l1 l2:Addr):Heap:=(hZ h t1 t2 l1 l2).push { cls:=.type "tuple",data:=.seq #v[.none,.none] }
abbrev V3 (h:Heap) (t1 t2:Bool) (l1 l2:Addr):Heap:=(ia h t1 t2 l1 l2).push { cls:=.type "zip",data:=.fields #v[.none,.bool false,.bool false,.ref (fM h t1 t2 l1 l2).objs.size,.ref (hZ h t1 t2 l1 l2).objs.size] }
theorem RwB.push {t:Bool}{h:Heap}{l:Addr}{xs:vR_}(x:RwB t h l xs) (o:Obj):RwB t (h.push o) l xs:=by
 cases t with
 |true=>exact Heap.IsTuple.push x o
 |false=>exact Heap.IsList.push x o
def DH (J L:Bool) (l1 l2:Addr) (xs ys:vR_) :
  Meets (Builtin.«zip.__new__» #[[.type "zip",.ref l1,.ref l2],[]]) (fun _ R s=>RwB J s.heap l1 xs/\RwB L s.heap l2 ys /\
   R (.ok (.ret (.ref (ia s.heap J L l1 l2).objs.size))) { s with heap:=V3 s.heap J L l1 l2 }):=
 .of_wp fun prog w A R s h=>by
  obtain⟨hp,g,d,Z,os⟩:=s;obtain⟨W,Y,h⟩:=h;have hsub:=sub_zip;have M:RwB J (Shared.heap #[hp,g,d,Z,os]) l1 xs:=W;have U:RwB L (Shared.heap #[hp.push (R4 J l1),g,d,Z,os]) l2 ys:=RwB.push Y _
  wp_walk using sN M,sN U
  exact#[_,rfl,h]
section
variable {w:World}
def RwB.it {t:Bool}{h:Heap}{i l:Addr}{xs:vR_}(x:RwB t h l xs) (e:h.get? i=some (R4 t l)):RwIt h i l xs 0:=by
 cases t with
 |true=>exact .inr #[#[_,e,rfl,rfl],x]
 |false=>exact .inl #[#[_,e,rfl,rfl],x]
def RwB.at {t:Bool}{h:Heap}{l:Addr}{xs:vR_}(x:RwB t h l xs) (e:∀o,h.get? l=some o->h'.get? l=some o):RwB t h' l xs:=by
 cases t with
 |true=>obtain⟨o,q,r⟩:=x;exact#[o,e o q,r]
 |false=>obtain⟨o,q,r⟩:=x;exact#[o,e o q,r]
def RwB.lt {t:Bool}{h:Heap}{l:Addr}{xs:vR_}(x:RwB t h l xs):l<h.objs.size:=by
 cases t with
 |true=>obtain⟨o,q,r⟩:=x;exact xu q
 |false=>obtain⟨o,q,r⟩:=x;exact xu q
def oZ (h:Heap) (m:Nat) (xs ys:vR_):Prop:=∃l1 l2,ZipApart (m+4) (m+2) (m+3) m (m+1) l1 l2/\l1<m/\l2<m/\h.objs.size=m+5/\∀S,m+5<=S->ZSt h (m+4) (m+2) (m+3) m (m+1) l1 l2 S xs ys 0
def xb (h:Heap) (m:Nat) (J L:Bool) (l1 l2:Addr):Prop:=ZipApart (m+4) (m+2) (m+3) m (m+1) l1 l2/\h.get? m=some (R4 J l1)/\h.get? (m+1)=some (R4 L l2)/\IsPair h (m+2) (.ref m) (.ref (m+1))/\F4 h (m+4) (m+2) (m+3) .none (.bool false)/\∃a b,IsPair h (m+3) a b
def DX {J L:Bool}{xs ys:vR_}{Q:vQ_}(h1:RwB J s.heap l1 xs) (h2:RwB L s.heap l2 ys)
  (h:∀h',oZ h' s.heap.objs.size xs ys->(∀c o,s.heap.get? c=some o->h'.get? c=some o)->xb h' s.heap.objs.size J L l1 l2->Q (.ref (s.heap.objs.size+4)) { s with heap:=h' }) :
  wpAny (model prog w) A (call (.type "zip") [.ref l1,.ref l2]) Q E s:=by
 refine callType_new PySem.F.called_zip #[] (PySem.F.typeCall_zip_2 _ _) (PySem.F.newCall_zip_2 _ _) (fun obj=>PySem.F.args_object_init_3 obj _ _) PySem.F.entry_zip_new
  (DH J L l1 l2 xs ys) #[h1,h2,?_]
 have U:(eS s.heap J l1).objs.size=s.heap.objs.size+1:=Jk ..;have z2:(fM s.heap J L l1 l2).objs.size=s.heap.objs.size+2:=by rw[Jk,U]
 have Y:(hZ s.heap J L l1 l2).objs.size=s.heap.objs.size+3:=by rw[Jk,z2]
 have z4:(ia s.heap J L l1 l2).objs.size=s.heap.objs.size+4:=by rw[Jk,Y]
 have z5:(V3 s.heap J L l1 l2).objs.size=s.heap.objs.size+5:=by rw[Jk,z4]
 have fr:∀t l,(R4 t l).isFreed=false:=fun t l=>rfl
 have M:(V3 s.heap J L l1 l2).get? (ia s.heap J L l1 l2).objs.size=some _:=HG _ rfl;have W:(V3 s.heap J L l1 l2).get? (hZ s.heap J L l1 l2).objs.size=some _:=xo _ (HG _ rfl);have Z:(V3 s.heap J L l1 l2).get? (fM s.heap J L l1 l2).objs.size=some _:=xo _ (xo _ (HG _ rfl));have g2:(V3 s.heap J L l1 l2).get? (eS s.heap J l1).objs.size=some (R4 L l2):=xo _ (xo _ (xo _ (HG _ (fr _ _))));have g1:(V3 s.heap J L l1 l2).get? s.heap.objs.size=some (R4 J l1):=xo _ (xo _ (xo _ (xo _ (HG _ (fr _ _)))));show _/\_;rw[z2,Y,z4] at M;rw[U,z2] at Z;rw[Y] at W;rw[U] at g2;rw[z4];have up:∀c o,s.heap.get? c=some o->(V3 s.heap J L l1 l2).get? c=some o:=fun c o x=>
  xo _ (xo _ (xo _ (xo _ (xo _ x))))
 refine#[#[_,M,rfl],h _ #[l1,l2,LK h1.lt h2.lt,h1.lt,h2.lt,z5,fun S hS=>#[Z,(h1.at fun o e=>up _ o e).it g1,(h2.at fun o e=>up _ o e).it g2,.inl #[M,_,_,W]]] up #[LK h1.lt h2.lt,g1,g2,Z,M,_,_,W]]
structure LZ (h h':Heap) (S:Addr) (xs ys:vR_) (as:vL_) (c:Nat):Prop where
 keep:∀b o,h.get? b=some o->h'.get? b=some o
 low:h.objs.size<=S
 lst:W7 h' S (as.map Value.ref).toArray c
 len:as.length=min xs.size ys.size
 new:∀a∈as,h.objs.size<=a/\a≠S
 nd:as.Nodup
 at':∀(j:Nat) a,as[j]? = some a->∃x y,xs[j]? = some x/\ys[j]? = some y/\IsPair h' a x y
def vv {P:Nat->Value->Heap->Prop}{J:vR_}(g:dk P h J n) (Y:∀j v,P j v h->∃a,v = .ref a):∃as:List Addr,J=(as.map Value.ref).toArray:=by
 have:∀l:List Value,(∀v∈l,∃a,v=Value.ref a)->∃as:List Addr,l=as.map Value.ref:=by
  intro l;induction l with
  |nil=>exact fun _=>#[[],rfl]
  |cons v r M=>
   intro L;obtain⟨a,e⟩:=L v (.head _);obtain⟨as,e'⟩:=M fun u W=>L u (.tail _ W)
   exact#[a::as,by rw[e,e'];rfl]
 obtain⟨as,e⟩:=this J.toList fun v L=>by
  obtain⟨j,U⟩:=Jn.mp L;exact Y j v (g.2.1 j v (by simpa using U))
 exact#[as,by rw[<-e,Array.toArray_toList]]
def DR {m:Nat}{h₀:Heap}{xs ys:vR_}{Q:vQ_}(hh:A.handled=none) (Z:oZ s.heap m xs ys) (k₀:∀c o,h₀.get? c=some o->s.heap.get? c=some o) (hm:h₀.objs.size=m) (hn:xs.size<=sizeLine)
  (hQ:∀S h' as c,LZ h₀ h' S xs ys as c->Q (.ref S) { s with heap:=h' }):wpAny (model prog w) A (call (.type "list") [.ref (m+4)]) Q E s:=by
 obtain⟨l1,l2,D,b1,b2,sz,st⟩:=Z;have J:=st s.heap.objs.size ∅;have tz:s.TypeIs (.ref (m+4)) "zip":= by
  rcases J.zz with ⟨hz,_⟩ | ⟨T,f,oT,hz,_⟩ <;> exact#[_,hz,rfl]
 refine Cr (T := "zip") (ER (A:=A.in1.in1) hh D (show (m+3:Nat)<s.heap.objs.size by omega) (by
  simp only[xr,HM,HN,not_or];have Y:m<=s.heap.objs.size:=by omega
  exact#[show (s.heap.objs.size:Nat)≠m+4 by omega,show (s.heap.objs.size:Nat)≠m+2 by omega,show (s.heap.objs.size:Nat)≠m+3 by omega,show (s.heap.objs.size:Nat)≠m by omega,show (s.heap.objs.size:Nat)≠m+1 by omega,
   HY (Hw b1 Y),HY (Hw b2 Y)]) (by
  simp only[xr,HM,HN];intro b L;have U:∀j,j<=4->m+j<s.heap.objs.size:=fun j _=>by omega
  rcases L with e | e | e | e
  .rw[e];exact U 4 ∅
  .rw[e];exact U 3 ∅
  .rw[e];exact U 0 ∅
  .rw[e];exact U 1 ∅)) (Ht (JE ..) hn) tz #[] #[] Br xP J fun h' acc c k l g=>?_
 obtain⟨as,ea⟩:=vv g fun j v ⟨a,_,_,e,_⟩=>#[a,e]
 subst ea;refine hQ _ h' as c #[fun b o e=>k b o (fun L=>?_) (k₀ b o e),by omega,l,by simpa using g.1,fun a ha=>?_,?_,fun j a e=>?_]
 .have hl:b<m:=hm▸xu e;simp only[xr,HM,HN] at L;have M:∀j:Nat,¬ (m+j<m):=fun j=>by omega
  rcases L with e | e | e | e
  .exact M 4 (e▸hl)
  .exact M 3 (e▸hl)
  .exact M 0 (e▸hl)
  .exact M 1 (e▸hl)
 .obtain⟨j,hj⟩:=Jn.mp ha;obtain⟨a',x,y,e,q1,W,_⟩:=g.2.1 j (.ref a) (by simp[hj]);cases e;exact#[Ht (show (h₀.objs.size:Nat)<=s.heap.objs.size by omega) q1,W]
 .have nd:=g.2.2;simp only[List.toList_toArray] at nd;exact(List.pairwise_map.mp nd).imp fun h e=>h (by rw[e])
 .obtain⟨a',x,y,e',q1,W,q3,q4,q5⟩:=g.2.1 j (.ref a) (by simp[e]);cases e';exact#[x,y,q3,q4,q5]
end
def L0 (H:Hp):List (Addr × List V)->Hp
 |[]=>H
 |(a,p)::r=>l8 (L0 H r) a (.tup p)
theorem cE:∀{ps:List (Addr × List V)}{b:Addr},(∀q∈ps,q.1≠b)->L0 H ps b=H b
 |[],b,h=>rfl
 |(a,p)::r,b,h=>by
  show l8 (L0 H r) a (.tup p) b=H b;rw[v5 (Hz (h _ (.head _)))];exact cE fun q J=>h q (.tail _ J)
theorem qB:∀{ps:List (Addr × List V)}{b:Addr}{u:HO},L0 H ps b=some u->(∃p,(b,p)∈ps/\u = .tup p)\/H b=some u
 |[],b,u,h=>.inr h
 |(a,p)::r,b,u,h=>by
  replace h:l8 (L0 H r) a (.tup p) b=some u:=h
  by_cases J:b=a
  .subst J;rw[D1] at h;cases h;exact .inl #[p,.head _,rfl]
  .rw[v5 J] at h;rcases qB h with ⟨p',q,e⟩ | e
   .exact .inl #[p',.tail _ q,e]
   .exact .inr e
theorem oj:∀{ps:List (Addr × List V)}{b:Addr}{p:List V},(ps.map (·.1)).Nodup->(b,p)∈ps->L0 H ps b=some (.tup p)
 |(a,p')::r,b,p,nd,h=>by
  show l8 (L0 H r) a (.tup p') b=_;rcases xr.mp h with e | h
  .cases e;exact D1
  .have J:=HR.mp nd;have L:b≠a:=fun e=>J.1 (e▸HW.mpr #[(b,p),h,rfl])
   rw[v5 L];exact oj J.2 h
def Av {fs ex:vL_}{h:Heap}(k:∀b u,h.get? b=some u->h'.get? b=some u) (L:∀b,b<h.objs.size->H' b=H b) (J:∀b u,H b=some u->H' b=some u):Un fs ex H H' h h' where
 keep:=fun b u q _ _ _=>k b u q
 slot:=fun b u q _ _ _=>#[u.slots,k b u q]
 free:=fun b u q n _=>by rw[L b (xu q)];exact n
 there:=fun b u q _=>#[u,k b u q]
 tups:=fun b xs q=>J b _ q
 frzs:=fun b u xs q=>J b _ q
 tbls:=fun b ps q=>#[#v[],by rw[J b _ q];simp]
def D5 (xs ys:List V):List (List V):=List.zipWith (fun x y=>[x,y]) xs ys
def Dn {p:List V}(e:(D5 xs ys)[j]? = some p):∃x y,xs[j]? = some x/\ys[j]? = some y/\p=[x,y]:=by
 unfold D5 at e;rw[List.getElem?_zipWith] at e;cases J:xs[j]? with
 |none=>rw[J] at e;simp at e
 |some x=>
  cases L:ys[j]? with
  |none=>rw[J,L] at e;simp at e
  |some y=>rw[J,L] at e;simp at e;exact#[x,y,rfl,rfl,e.symm]
def Sq (K:vF_) (H:Hp) (a:Addr) (xs:List V):Prop:=SqL K H a xs\/SqT K H a xs
def mK (K:vF_):List V->Hp->VK->Prop:=fun J H Q=>∃p q xs ys,J=[.ref p,.ref q]/\Sq K H p xs/\Sq K H q ys /\
 ∀S as,(S::as).Nodup->(∀a∈S::as,H a=none)->as.length=(D5 xs ys).length->Q (.ref S) (l8 (L0 H (as.zip (D5 xs ys))) S (.lst (as.map V.ref)))
def oH (I:Inv X pins σ H s) {p:Addr}(h:Sq X.K H p xs):∃(t:Bool) (its:vV_),Vals xs its/\RwB t s.heap p its.toArray/\xs.length<=sizeLine:=by
 rcases h with h | h
 .obtain⟨its,r,⟨o,n,e,c,_,d⟩,z⟩:=I.list h;exact#[false,its,r,#[o,e,c,n,d],z]
 .obtain⟨its,r,⟨o,e,c,n,d⟩,z⟩:=I.tuple h;exact#[true,its,r,#[o,e,c,n,d],z]
def oE {J:vL_}{ps:List (List V)}(h:J.length=ps.length):(J.zip ps).map (·.1)=J:=by
 rw[List.map_fst_zip ∅]
def Inv.lz {it jt:vV_}{J:vL_}{c:Nat}(I:Inv X pins σ H s) (rx:Vals xs it) (ry:Vals ys jt) (zx:xs.length<=sizeLine) (Z:LZ s.heap h' S it.toArray jt.toArray J c) :
  (S::J).Nodup/\(∀a∈S::J,H a=none)/\J.length=(D5 xs ys).length/\Inv X pins σ (l8 (L0 H (J.zip (D5 xs ys))) S (.lst (J.map V.ref))) { s with heap:=h' }:=by
 have hl:J.length=(D5 xs ys).length:=by
  have e:=Z.len;simp only[HC] at e;rw[e,D5,List.length_zipWith,rx.length,ry.length]
 have fr:∀a∈S::J,s.heap.objs.size<=a:=fun a L=>by
  rcases xr.mp L with e | e
  .rw[e];exact Z.low
  .exact(Z.new a e).1
 have nn:∀a∈S::J,H a=none:=fun a L=>I.hok.fresh (fr a L)
 have nd:(S::J).Nodup:=HR.mpr #[fun h=>(Z.new S h).2 rfl,Z.nd];have ky:=oE hl;have ndz:((J.zip (D5 xs ys)).map (·.1)).Nodup:=by rw[ky];exact Z.nd
 have U:∀q∈J.zip (D5 xs ys),q.1∈J:=fun q M=>(Je M).1
 refine#[nd,nn,hl,?_];have hs:∀b u,H b=some u->l8 (L0 H (J.zip (D5 xs ys))) S (.lst (J.map V.ref)) b=some u:=fun b u e=>by
  have n:∀a∈S::J,a≠b:=fun a L z=>by rw[z] at L;rw[nn b L] at e;cases e
  rw[v5 (Hz (n S (.head _))),cE fun q M=>n _ (.tail _ (U q M))];exact e
 refine I.un (t':=s.toks) (Av Z.keep (fun b W=>?_) hs) fun b u e=>?_
 .have n:∀a∈S::J,a≠b:=fun a L z=>absurd (Hw W (z▸fr a L)) (Ir _)
  rw[v5 (Hz (n S (.head _))),cE fun q M=>n _ (.tail _ (U q M))]
 .by_cases W:b=S
  .subst W;rw[D1] at e;cases e;refine#[?_,J.map Value.ref,c,?_,Z.lst]
   .rw[Hr,hl,D5,List.length_zipWith];exact Ht (JE ..) zx
   .have:∀l:List Addr,Vals (l.map V.ref) (l.map Value.ref):=fun l=>by
     induction l with
     |nil=>exact .nil
     |cons a r ih=>exact .cons rfl ih
    exact this J
  .rw[v5 W] at e;rcases qB e with ⟨p,hp,rfl⟩ | e0
   .obtain⟨j,hj⟩:=Jn.mp hp;obtain⟨L,Y⟩:=LL.mp hj;obtain⟨x,y,ex,ey,rfl⟩:=Dn Y;obtain⟨x',y',ex',ey',q⟩:=Z.at' j b L;obtain⟨u1,f1,g1⟩:=rx.get ex;obtain⟨u2,f2,g2⟩:=ry.get ey;have e1:u1=x':=by simpa [f1] using ex'
    have e2:u2=y':=by simpa [f2] using ey'
    subst e1;subst e2;exact#[show 2<=sizeLine by decide,[u1,u2],.cons g1 (.cons g2 .nil),#[_,q,rfl,_,rfl]]
   .exact(I.hok b u e0).stay (fun c v _ q=>Z.keep c v q) (fun c q=>hs c _ q) fun c xs q=>hs c _ q
section
variable {p p':Pos}{t:TA}
def yP (hc:X.calm=true) (U:Gl X "list") (hml:X.mg "list" = none) (Y:Gl X "zip") (M:X.mg "zip" = none) (ha:PA X (e::es) t)
  (he:starEach (e::es) X.env=(false,eval e X.env)::starEach es X.env:=by rfl) (hpl:(backTo pos' (starEach es X.env)).any (·.1)=false:=by rfl)
  (L:starEach [.Call (.Name "zip" p') (e::es) [] pos'] X.env=[(false,eval (.Call (.Name "zip" p') (e::es) [] pos') X.env)]:=by rfl) :
  PE X (.Call (.Name "list" p) [.Call (.Name "zip" p') (e::es) [] pos'] [] pos) (dh (mK X.K) t):=by
 intro pins s σ H Q I h;refine Jy (Z9 I U hml (show bootBuiltins ("list" : Str)=some (.type "list") by decide +kernel) ?_ #[] #[]);refine Jx ?_ L rfl;rw[L];show wpAny _ _ (spliced [(false,eval (.Call (.Name "zip" p') (e::es) [] pos') X.env)]) _ _ s;refine Calls.spliced_cons ?_;refine Jy (Z9 I Y M (show bootBuiltins ("zip" : Str)=some (.type "zip") by decide +kernel) ?_ #[] #[]);refine Jx (t9 (ha pos' pins s σ H _ I h) fun us s1 ⟨vs,H1,W,J,q1⟩=>?_) he hpl;obtain⟨a,b,xs,ys,rfl,qa,qb,k⟩:=q1;obtain⟨u1,u2,rfl,e1,e2⟩:∃u1 u2,us=[u1,u2]/\u1=Value.ref a/\u2=Value.ref b:=by
  cases J with
  |cons h1 J=>
   cases J with
   |cons h2 J=>cases J;exact#[_,_,rfl,h1,h2]
 subst e1;subst e2;obtain⟨ta,it,rx,wa,za⟩:=oH W qa;obtain⟨tb,jt,ry,wb,zb⟩:=oH W qb;refine DX wa wb fun h1 Z1 k1 _=>?_
 refine Calls.spliced_nil ?_;refine DR (h₀:=s1.heap) (I.ok.hd hc) Z1 k1 rfl (by simpa [<-rx.length] using za) fun S h2 as c Z=>?_
 obtain⟨nd,nn,hl,I2⟩:=Inv.lz W rx ry za Z;exact#[.ref S,_,I2,rfl,k S as nd nn hl]
end
def Z0:D->Option (List D)
 |.tup ds=>some ds
 |.lst ds=>some ds
 |_=>none
def cV (x y:D):D:=.tup [x,y]
def aM:List D->Option (List D)
 |[a,b]=>(Z0 a).bind fun xs=>(Z0 b).map fun ys=>List.zipWith cV xs ys
 |_=>none
theorem oy {K:vF_}{s:DS}(I:GI K g σ H fa O s):∀(ps:List (Addr × List V)),(ps.map (·.1)).Nodup->(∀q∈ps,H q.1=none)->GI K g σ (L0 H ps) fa O s/\StE fa O H fa O (L0 H ps)
 |[],_,_=>#[I,StE.refl]
 |(a,p)::r,nd,h=>by
  have J:=HR.mp nd;obtain⟨U,s1⟩:=oy I r J.2 fun q L=>h q (.tail _ L)
  have M:L0 H r a=none:=by
   rw[cE fun q L z=>J.1 (HW.mpr #[q,L,z])];exact h _ (.head _)
  exact#[U.new M,s1.trans (F7 M)]
theorem mx {K:vF_}:∀{ds es:vD_}{xs ys:List V}{as:vL_},Reps K N fa H ds xs->Reps K N fa H es ys->as.length=(D5 xs ys).length->(∀q∈as.zip (D5 xs ys),H q.1=some (.tup q.2)) ->
  Reps K N fa H (List.zipWith cV ds es) (as.map V.ref)
 |[],es,xs,ys,as,h,q,l,k=>by
  simp only[Reps] at h;subst h;simp only[D5,LM,JZ] at l;rw[JG l];simp only[LM,Ij,Reps]
 |d::r,[],xs,ys,as,h,q,l,k=>by
  simp only[Reps] at q;subst q;simp only[D5,LO,JZ] at l;rw[JG l];simp only[LO,Ij,Reps]
 |d::r,e::f,xs,ys,as,h,q,l,k=>by
  simp only[Reps] at h q;obtain⟨x,J,rfl,h1,h2⟩:=h;obtain⟨y,L,rfl,U,W⟩:=q;cases as with
  |nil=>simp[D5] at l
  |cons a as=>
   have M:(a::as).zip (D5 (x::J) (y::L))=(a,[x,y])::as.zip (D5 J L):=rfl;rw[M] at k;simp only[LQ,Hu,Reps];refine#[_,_,rfl,?_,mx h2 W (by simpa [D5] using l) fun q Y=>k q (.tail _ Y)];simp only[cV,Rep,Reps];exact#[a,[x,y],rfl,SqT.of (k _ (.head _)),x,[y],rfl,h1,y,[],rfl,U,rfl]
def sJ {K:vF_}{v:V}(r:RepB K N fa H d v) (e:Z0 d=some ds):∃a xs,v = .ref a/\Sq K H a xs/\Reps K N fa H ds xs:=by
 cases d with
 |tup es=>
  cases e;simp only[RepB,Rep] at r;obtain⟨a,ys,rfl,q,w⟩:=r;exact#[a,ys,rfl,.inr q,w]
 |lst es=>
  cases e;obtain⟨a,ys,rfl,_,q,w⟩:=r;exact#[a,ys,rfl,.inl (SqL.of q),w]
 |_=>cases e
def zv {K:vF_}:eu K (mK K) aM:=by
 intro g σ H fa O s xs ds es Q I rs e k
 match ds,e with
 |[d1,d2],e=>
  refine S9 (show (Z0 d1).bind (fun xs=>(Z0 d2).map fun ys=>List.zipWith cV xs ys)=some es from e) fun xs1 e1 e=>?_
  refine K7 e fun ys1 e2 e=>?_
  subst e;simp only[U1] at rs;obtain⟨x,zs,rfl,r1,y,zs',rfl,r2,rfl⟩:=rs;obtain⟨a,M,rfl,q1,w1⟩:=sJ r1 e1;obtain⟨b,us,rfl,q2,w2⟩:=sJ r2 e2;refine#[a,b,M,us,rfl,q1,q2,fun S L nd Z hl=>?_];have Y:=HR.mp nd;have ky:=oE hl;have W:∀q∈L.zip (D5 M us),q.1∈L:=fun q J=>(Je J).1
  have U:((L.zip (D5 M us)).map (·.1)).Nodup:=by rw[ky];exact Y.2
  obtain⟨I1,s1⟩:=oy I (L.zip (D5 M us)) U fun q J=>Z _ (.tail _ (W q J))
  have hS:L0 H (L.zip (D5 M us)) S=none:=by
   rw[cE fun q J (z:q.1=S)=>Y.1 (by rw[<-z];exact W q J)];exact Z S (.head _)
  have rp:=mx (Reps.stp I s1.stp w1) (Reps.stp I s1.stp w2) hl fun q J=>oj (b:=q.1) (p:=q.2) U J
  exact k S (L.map V.ref) _ (s1.trans (F7 hS)) (T1 I1 hS rp) (Z S (.head _))
section
variable {p p':Pos}{t:DA}
def uy (Z:X.calm=true) (U:Gl X "list") (Y:X.mg "list" = none) (M:Gl X "zip") (J:X.mg "zip" = none) (ha:BAO X g (e::es) t)
  (he:starEach (e::es) X.env=(false,eval e X.env)::starEach es X.env:=by rfl) (W:(backTo pos' (starEach es X.env)).any (·.1)=false:=by rfl)
  (L:starEach [.Call (.Name "zip" p') (e::es) [] pos'] X.env=[(false,eval (.Call (.Name "zip" p') (e::es) [] pos') X.env)]:=by rfl) :
  FO X g (.Call (.Name "list" p) [.Call (.Name "zip" p') (e::es) [] pos'] [] pos) (X2 aM t):=
 FO.w (yP Z U Y M J ha.pe he W L) (tT zv)
end
section
variable {y:Str}{px py pp:Pos}{kt:Nat}
def Dd (J:X.calm=true) (k:CompOk X scope cl (x::y::caps) 2 idx) (hi:IO X g (.Tuple [.Name x px,.Name y py] kt pp) iter fi) (M:(x::y::caps).Nodup)
  (U:∀C s0 H0 ex,(A6 X (x::y::caps) scope cl C s0 H0 ex).env.scope.names.lookup x=some .local) (L:∀C s0 H0 ex,(A6 X (x::y::caps) scope cl C s0 H0 ex).env.scope.names.lookup y=some .local)
  (W:∀C s0 H0 ex g',bL (A6 X (x::y::caps) scope cl C s0 H0 ex) g' ifs fc) (Z:∀C s0 H0 ex g',EO (A6 X (x::y::caps) scope cl C s0 H0 ex) g' elt fe) (Y:∀x,foldedSetIterable iter X.env x=pure x:=by intro _;rfl) :
  FO X g (.ListComp elt [#[.Tuple [.Name x px,.Name y py] kt pp,iter,ifs,0]] scope pos) (cg idx fi fc fe):=
 Bb (G:=ur X.K 2 (kD (R3 0) (kD (R3 1) qO))) J k hi (fun C s0 H0 ex=>qx (X:=A6 X (x::y::caps) scope cl C s0 H0 ex) (n:=2) J (lq (X:=A6 X (x::y::caps) scope cl C s0 H0 ex) (J5 (X:=A6 X (x::y::caps) scope cl C s0 H0 ex) (i:=0) M rfl (Or.inl (U C s0 H0 ex)) (Or.inr (U C s0 H0 ex))) (lq (X:=A6 X (x::y::caps) scope cl C s0 H0 ex) (J5 (X:=A6 X (x::y::caps) scope cl C s0 H0 ex) (i:=1) M rfl (Or.inl (L C s0 H0 ex)) (Or.inr (L C s0 H0 ex))) tm)))
  (fun a x y σ H Q h q=>#[a,[x,y],rfl,h,rfl,x,[y],rfl,y,[],rfl,rfl,q]) W Z Y
end
def PC (X:Cx) (e:Expr) (te:TE):Prop:=∀(i:Nat) (y:Str) (py spos:Pos),X.N.Nodup->X.N[i]? = some y->T7 X.env.scope y->swapsWith e (some (.Name y py)) spos.line X.env=pure true->(X.fn y=true\/X.env.scope.names.lookup y=some .local)->PS X (.Assign [.Name y py] e spos) (bZ te (R3 i))
structure CO (X:Cx) (g:Gh) (e:Expr) (f:DA):Prop where
 pe:PC X e (liftF X.K g f)
theorem CO.w {f:DA}{t:TE}(h:PC X e t) (w:∀σ H Q,liftF X.K g f σ H Q->t σ H Q):CO X g e f:=
 #[fun i y py J h1 h2 M U L pins s σ H D I q=>h i y py J h1 h2 M U L pins s σ H D I (w σ H _ q)]
def vf (M:X.calm=true) (k:CompOk X scope cl N' 1 idx) (hi:IO X g tg iter fi) (Y:∀C s0 H0 ex,PG (A6 X N' scope cl C s0 H0 ex) tg (R3 0))
  (ht:∀C s0 H0 ex g',bL (A6 X N' scope cl C s0 H0 ex) g' ifs fc) (he:∀C s0 H0 ex g',EO (A6 X N' scope cl C s0 H0 ex) g' elt fe) (L:∀x,foldedSetIterable iter X.env x=pure x:=by intro _;rfl) :
  CO X g (.ListComp elt [#[tg,iter,ifs,0]] scope pos) (B6 idx fi fc fe):=
 CO.w (fun i y py J h1 h2 Z W U=>zH (tc:=fun σ H Q=>∃g',liftT X.K g' fc σ H Q) (te:=fun σ H Q=>∃g',liftE X.K g' fe σ H Q) h1 h2 Z M k hi.pe Y (fun C s0 H0 ex pins s σ H Q I ⟨g',h⟩=>ht C s0 H0 ex g' pins s σ H Q I h) (fun C s0 H0 ex pins s σ H Q I ⟨g',h⟩=>(he C s0 H0 ex g').pe pins s σ H Q I h) L W U) (oV k)
def Gd {e:Expr}{i:Nat}{x:Str}{f:DA}{pos':Pos}(U:X.N.Nodup) (hi:X.N[i]? = some x) (hx:T7 X.env.scope x) (Y:CO X g e f) (hs:swapsWith e (some (.Name x pos')) pos.line X.env=pure true:=by rfl) (Z:X.fn x=true\/X.env.scope.names.lookup x=some .local:=by first | exact .inl rfl | exact .inr rfl | assumption) :
  SO X g (.Assign [.Name x pos'] e pos) (J3 i f):=SO.w (Y.pe i x pos' pos U hi hx hs Z) fun E σ H hQ=>by
 refine hQ.elim fun fa O s fl s' I q k=>?_
 refine A1 q fun ds s1 h1 h2=>?_
 by_cases hl:i<s1.sl.length
 .simp only[] at h2;rw[fI hl] at h2;cases h2;refine#[fa,O,s,ds,s1,I,h1,fun p xs H1 f1 O1 J L M=>?_];have np:p ∉ O1:=fun z=>by
   obtain⟨ys,e⟩:=I.owned (J.sub p z);rw[M] at e;cases e
  obtain⟨P,sub,W⟩:=L.put i hl (I.st.mon p M) np;refine k _ H1 f1 P #[fun b hb=>?_,J.fe,fun b u e _ n=>J.same b u e n,J.mon] W;rcases sub b hb with y | y
  .exact .inr (by rw[y];exact M)
  .exact .inl (J.sub b y)
 .simp only[] at h2;rw[gV hl] at h2;cases h2
def X9:DM:=fun _=>none
def Ha {st:Stmt}:SO X g st X9:=#[fun _ _ _ _ _ _ ⟨_,_,_,_,_,_,q,_⟩=>by cases q]
def BZ {α:Type _}{P:List α->Prop}(h:∀a1:α,P [a1]):∀us:List α,us.length=1->P us:=by
 intro us e
 match us,e with | [a1],_=>exact h a1
def uR {α:Type _}{P:List α->Prop}(h:∀a1 a2:α,P [a1,a2]):∀us:List α,us.length=2->P us:=by
 intro us e
 match us,e with | [a1,a2],_=>exact h a1 a2
def zC {α:Type _}{P:List α->Prop}(h:∀a1 a2 a3:α,P [a1,a2,a3]):∀us:List α,us.length=3->P us:=by
 intro us e
 match us,e with | [a1,a2,a3],_=>exact h a1 a2 a3
structure GF (K:vF_) (mg:vG_) (n:Str) (st:Stmt) (f:Addr) (fd:FuncData):Prop where
 F:Fun K n n st f fd
 m:mg n=some (.ref f)
section
variable {K:vF_}{h:Heap}{n:Str}{st:Stmt}{f:Addr}
def gf_mk (X:K.In h) (G:h.Ns mainGlobals mg) {od Z:vA_}{M L Y J U:Value}(a:PySem.W.nsIn K mainGlobals n=some (some (.ref f))) (l:K.lookup f=some #[oc,od,.func (PySem.W.fnOf n n (S7 st) (K9 st) (C9 st) .none M L Y Z J U),osl])
  (c:PySem.W.codeIn K J n=true) (k:PySem.W.keepIn K (.ref f)=true):GF K mg n st f (PySem.W.fnOf n n (S7 st) (K9 st) (C9 st) .none M L Y Z J U):=#[wB l c k,IB X G a]
def Ew (F:Fun K n n st f fd) (q:∀(kV doc pm:Value) (an:vA_) (cdv ct:Value) (s:Shared) (v:Value),BindsTo s (PySem.W.fnOf n n (S7 st) (K9 st) (C9 st) .none kV doc pm an cdv ct) #[[v],[]] [(x,v)]):∀(s:Shared) (v:Value),BindsTo s fd #[[v],[]] [(x,v)]:=by
 obtain⟨U,L,kV,doc,pm,an,cdv,ct,osl,rfl,M,J⟩:=F.ex;exact fun s v=>q kV doc pm an cdv ct s v
def blt_mk (X:K.In h) (G:h.Ns mainGlobals mg) (z0:PySem.W.nsIn K mainGlobals "len" = some none) (z1:PySem.W.nsIn K mainGlobals "range" = some none) (z2:PySem.W.nsIn K mainGlobals "abs" = some none) (z3:PySem.W.nsIn K mainGlobals "tuple" = some none) (z4:PySem.W.nsIn K mainGlobals "list" = some none) (z5:PySem.W.nsIn K mainGlobals "int" = some none) (z6:PySem.W.nsIn K mainGlobals "bool" = some none) (z7:PySem.W.nsIn K mainGlobals "str" = some none) (z8:PySem.W.nsIn K mainGlobals "repr" = some none) (z9:PySem.W.nsIn K mainGlobals "all" = some none) (U:PySem.W.nsIn K mainGlobals "isinstance" = some none) (Z:PySem.W.nsIn K mainGlobals "zip" = some none) (M:PySem.W.nsIn K mainGlobals "enumerate" = some none) (z13:PySem.W.nsIn K mainGlobals "min" = some none) (J:PySem.W.nsIn K mainGlobals "max" = some none) (L:PySem.W.nsIn K mainGlobals "reversed" = some none) (z16:PySem.W.nsIn K mainGlobals "any" = some none) (Y:PySem.W.nsIn K mainGlobals "sum" = some none) (z18:PySem.W.nsIn K mainGlobals "sorted" = some none):Blt mg:=#[HJ X G z0,HJ X G z1,HJ X G z2,HJ X G z3,HJ X G z4,HJ X G z5,HJ X G z6,HJ X G z7,HJ X G z8,HJ X G z9,HJ X G U,HJ X G Z,HJ X G M,HJ X G z13,HJ X G J,HJ X G L,HJ X G z16,HJ X G Y,HJ X G z18]
def AA {w:World}{N ps:List Str}{k:Nat}{b:DM}(F:GF K mg n st f fd) (q:∀(kV doc pm:Value) (an:vA_) (cdv ct:Value) (us:vV_),us.length=ps.length->bindArgs (PySem.W.fnOf n n (S7 st) (K9 st) (C9 st) .none kV doc pm an cdv ct) #[us,[]]=pure (ps.zip us)) (S:FnScope N ps (C9 st))
  (J:∀(cdv:Value) (A:Around) (outer:List Env) (s:Shared) (H:Hp) (E:XK) (g:Gh),Room k (A.deeper (PyProof.Rows.envOfC n (C9 st) s.heap.objs.size f cdv))->SSO (Q4 O8 P w K mg base N n (C9 st) f cdv A outer s H E).nox g (K9 st) b) :
  Cal P w K mg base (k+1) n ps (t7 N.length b):=Cz F.F F.m (F.F.binds q) S J
end
end DL
namespace DL
open PySem PySem.Spec L2 PyProof.Rows
section
variable {a:Expr}{fa:DE}{r:R2}
def gf {name:Str}{id:String}{apos cpos:Pos}(W:Slot "str" name id) (Z:typeOf (.builtin id)=pure (.type "method_descriptor")) (hm:bh X id (fun x xs H Q=>∃y,xs=[y]/\r x y H Q)) (hr:B8 X.K r p) (hp:∀d1 d2 d,p d1 d2=some d->∃z,d1 = .str z)
  (ha:BO X g a fa) (he:BO X g e fe) (M:attributeBase a name X.env (eval a X.env)=eval a X.env:=by rfl)
  (U:((backTo cpos (starEach [e] X.env)).all (fun x=>!x.1)&&(backToKw cpos (keywordEach [] X.env)).all (fun x=>x.1.isSome)
   && decide ([e].length+([]:List Keyword).length+(if ([]:List Keyword).isEmpty then 0 else 1)<30))=true:=by rfl)
  (L:(apos.endLine == cpos.line)=true:=by rfl) (hs:starEach [e] X.env=(false,eval e X.env)::starEach [] X.env:=by rfl) (J:(backTo cpos (starEach [] X.env)).any (·.1)=false:=by rfl) :
  EO X g (.Call (.Attribute a name apos) [e] [] cpos) (a6 p fa fe):=
 EO.w (rj PySem.F.plainAttrs_str W Z hm ha.pe (ba he.pe bR hs) M U L hs J) fun σ H Q hQ=>by
  refine hQ.elim fun f0 O s d s' I q k=>?_
  refine A1 q fun x s1 h1 q=>?_
  refine A1 q fun y s2 h2 q=>?_
  refine K7 q fun d' h3 h=>?_
  simp only[Hy] at h;obtain⟨e1,e2⟩:=h;subst e1;subst e2;obtain⟨z,rfl⟩:=hp _ _ _ h3;refine#[f0,O,s,_,s1,I,h1,fun v H1 f1 O1 a1 I1 Y=>?_];have r1':=Y;have ev:v = .str z:=by simp only[RepB,Rep] at Y;exact Y.1
  subst ev;refine#[rfl,f1,O1,s1,_,s2,I1,h2,fun u H2 f2 O2 a2 I2 r2=>?_];exact#[u,rfl,hr g σ H2 f2 O2 s2 _ u _ y d' Q I2 (RepB.stp I1 a2 r1') r2 h3 fun w H3 a3 I3 r3=>k w H3 f2 O2 ((a1.trans a2).trans a3) I3 r3]
def aW:D->D->Option D
 |.str x,.str y=>some (.bl (Txt.startswith x y))
 |_,_=>none
def om:R2:=fun x y H Q=>∃z w,x = .str z/\y = .str w/\Q (.bl (Txt.startswith z w)) H
def Gw:bh X "str.startswith" (fun x xs H Q=>∃y,xs=[y]/\om x y H Q):=by
 intro pins s σ H x xs v us Q I J L h;obtain⟨y,rfl,z,w,rfl,rfl,q⟩:=h;obtain⟨t,rfl⟩:=J;cases L with
 |cons U M=>
  cases M;obtain⟨u,rfl⟩:=U;exact SC.startswith #[.bl _,H,I,rfl,q]
def yK {K:vF_}:B8 K om aW:=by
 intro g σ H fa O s x y d1 d2 d Q I L J e k;cases d1 with
 |str z=>
  cases d2 with
  |str w=>
   cases e;simp only[RepB,Rep] at L J;exact#[z,w,L.1,J.1,k _ H StE.refl I (by simp only[Rep])]
  |_=>cases e
 |_=>cases e
def fJ:D->D->Option D
 |.str x,.int i=>if PadOk i/\(Txt.zfill x i).length<=sizeLine then some (.str (Txt.zfill x i)) else none
 |_,_=>none
def rB:R2:=fun x y H Q=>∃z i,x = .str z/\y = .int i/\PadOk i=true/\Q (.str (Txt.zfill z i)) H
def vP:bh X "str.zfill" (fun x xs H Q=>∃y,xs=[y]/\rB x y H Q):=by
 intro pins s σ H x xs v us Q I J L h;obtain⟨y,rfl,z,w,rfl,rfl,U,q⟩:=h;obtain⟨t,rfl⟩:=J;cases L with
 |cons W M=>
  cases M;obtain⟨u,rfl⟩:=W;exact SC.zfill U fun t' k=>#[.str _,H,I.kept (t':=k) fun _ _ q=>q,#[_,rfl],q]
def xf {K:vF_}:B8 K rB fJ:=by
 intro g σ H fa O s x y d1 d2 d Q I L J e k;cases d1 with
 |str z=>
  cases d2 with
  |int w=>
   have e:(if PadOk w/\(Txt.zfill z w).length<=sizeLine then some (D.str (Txt.zfill z w)) else none)=some d:=e;by_cases h:PadOk w/\(Txt.zfill z w).length<=sizeLine
   .rw[fI h] at e;cases e;simp only[RepB,Rep] at L J;exact#[z,w,L.1,J,h.1,k _ H StE.refl I (by simp only[Rep];exact#[trivial,h.2])]
   .rw[gV h] at e;cases e
  |_=>cases e
 |_=>cases e
end
section
variable {K:vF_}
def X0:List D->Option (List Str)
 |[]=>some []
 |.str x::r=>(X0 r).map (x :: ·)
 |_::_=>none
theorem qN :∀{ds:vD_}{ys:List Str}{xs:List V},X0 ds=some ys->Reps K N fa H ds xs->xs=ys.map V.str
 |[],ys,xs,h,r=>by
  cases h;have r:xs=[]:=by simpa only[Reps] using r
  exact r
 |.str x::ds,ys,xs,h,r=>by
  have h:(X0 ds).map (x :: ·)=some ys:=h;obtain⟨zs,h1,rfl⟩:=Ip.mp h;simp only[Reps,Rep] at r;obtain⟨v,L,rfl,⟨rfl,_⟩,J⟩:=r;rw[qN h1 J];rfl
 |.non::_,_,_,h,_ | .bl _::_,_,_,h,_ | .int _::_,_,_,h,_ | .tup _::_,_,_,h,_ | .lst _::_,_,_,h,_ | .feed::_,_,_,h,_ | .scr _::_,_,_,h,_ | .fn _::_,_,_,h,_ | .exc _ _::_,_,_,h,_=>by cases h
theorem tD:∀{ys:List Str}{us:vV_},Vals (ys.map V.str) us->∃l:List (Str × Tok),us=strValues l/\l.map (·.1)=ys
 |[],us,h=>by cases h;exact#[[],rfl,rfl]
 |y::ys,us,h=>by
  cases h with
  |cons r t=>
   obtain⟨u,rfl⟩:=r;obtain⟨l,L,J⟩:=tD t;exact#[(y,u)::l,by rw[L];rfl,by rw[<-J];rfl]
theorem se:∀l:List (Str × Tok),Vals ((l.map (·.1)).map V.str) (strValues l)
 |[]=>.nil
 |p::l=>.cons #[p.2,rfl] (se l)
def O5:D->D->Option D
 |.str x,.lst ds=>(X0 ds).bind fun ys=>if JoinOk x ys=true then some (.str (Txt.join x ys)) else none
 |_,_=>none
def uD (K:vF_):R2:=fun x y H Q=>∃z a ys,x = .str z/\y = .ref a/\SqL K H a (ys.map V.str)/\JoinOk z ys=true/\Q (.str (Txt.join z ys)) H
def AK:bh X "str.join" (fun x xs H Q=>∃y,xs=[y]/\uD X.K x y H Q):=by
 intro pins s σ H x xs v us Q I J L h;obtain⟨y,rfl,z,a,ys,rfl,rfl,U,Y,q⟩:=h;obtain⟨t,rfl⟩:=J;cases L with
 |cons ry Z=>
  cases Z;cases ry;obtain⟨M,W,p,hz⟩:=I.list U;obtain⟨l,rfl,rfl⟩:=tD W;exact SC.join p.isList rfl Y fun t' k=>#[.str _,H,I.kept (t':=k) fun _ _ q=>q,#[_,rfl],q]
def xY:B8 K (uD K) O5:=by
 intro g σ H fa O s x y d1 d2 d Q I L J e k;cases d1 with
 |str z=>
  cases d2 with
  |lst ds=>
   have e:((X0 ds).bind fun ys=>if JoinOk z ys=true then some (D.str (Txt.join z ys)) else none)=some d:=e;refine S9 e fun ys h1 h2=>?_
   by_cases h:JoinOk z ys=true
   .rw[fI h] at h2;cases h2;simp only[RepB,Rep] at L J;obtain⟨a,xs,rfl,_,q,w⟩:=J;have:=qN h1 w;subst this;exact#[z,a,ys,L.1,rfl,SqL.of q,h,k _ H StE.refl I (by simp only[Rep];exact#[trivial,joinOk_length h])]
   .rw[gV h] at h2;cases h2
  |_=>cases e
 |_=>cases e
def M5:D->D->Option D
 |.str x,.str y=>if 1<=y.length/\x.length+2<=sizeLine then some (.lst ((Txt.split x y).map .str)) else none
 |_,_=>none
def mF:R2:=fun x y H Q=>∃z w,x = .str z/\y = .str w/\1<=w.length/\z.length+2<=sizeLine/\∀p,H p=none->Q (.ref p) (l8 H p (.lst ((Txt.split z w).map V.str)))
def jw {Q:VK}{l:List (Str × Tok)}{ys:List Str}(k:Tok) (I:Inv X pins σ H s) (e:l.map (·.1)=ys) (hl:ys.length<=sizeLine) (q:∀p,H p=none->Q (.ref p) (l8 H p (.lst (ys.map V.str)))) :
  EP X pins σ Q (.ref s.heap.objs.size) { s with heap:=s.heap.push { cls:=.type "list",data:=.seq (strValues l).toArray },toks:=k }:=by
 subst e;refine#[.ref s.heap.objs.size,_,I.laid (t':=k) (o:=.lst ((l.map (·.1)).map V.str)) (fun b J q=>xo _ q) (iR _) ?_,rfl,q _ (I.hok.fresh (iR _))];exact#[by rw[Hr];exact hl,_,0,se l,HG _ rfl]
def yy:bh X "str.split" (fun x xs H Q=>∃y,xs=[y]/\mF x y H Q):=by
 intro pins s σ H x xs v us Q I M U h;obtain⟨y,rfl,z,w,rfl,rfl,hw,W,q⟩:=h;obtain⟨t,rfl⟩:=M;cases U with
 |cons Z Y=>
  cases Y;obtain⟨u,rfl⟩:=Z;have hl:(Txt.split z w).length<=sizeLine:=Ht (split_le z w) W;have L:(w.length == 0)=false:=by simp;omega
  cases h1:(decide (z.length<w.length)||decide (Builtin.Str.strKind z<Builtin.Str.strKind w))
  .cases J:(Builtin.Str.occurrences z w 0 z.length (z.length+1)).isEmpty
   .have e:Txt.split z w=Builtin.Str.partsBetween z (Builtin.Str.occurrences z w 0 z.length (z.length+1)) w.length:=(gV (Lg h1)).trans (gV (Lg J));refine Ji Ko (Jh _ _ _) Lh (Li _ _) (meets_str_split_sep z w t u h1 L J ∅ (by rw[<-e];exact hl)) ?_;show wants _ _ _ { s with toks:=_,heap:=s.heap.push { cls:=.type "list",data:=.seq (strsFrom s.toks (Builtin.Str.partsBetween z (Builtin.Str.occurrences z w 0 z.length (z.length+1)) w.length)).toArray } };rw[strsFrom_eq];exact jw _ I ((numbered_texts _ _).trans e.symm) hl q
   .exact Ji Ko (Jh _ _ _) Lh (Li _ _) (meets_str_split_not_found z w t u h1 L J)
     (jw (l:=[(z,t)]) s.toks I ((gV (Lg h1)).trans (fI J)).symm hl q)
  .exact Ji Ko (Jh _ _ _) Lh (Li _ _) (meets_str_split_cannot_occur z w t u h1)
    (jw (l:=[(z,t)]) s.toks I (fI h1).symm hl q)
theorem tI :∀{ys:List Str},(∀y∈ys,y.length<=sizeLine)->Reps K N fa H (ys.map D.str) (ys.map V.str)
 |[],_=>by simp only[Ij,Reps]
 |y::ys,h=>by
  simp only[Hu,Reps,Rep];exact#[_,_,rfl,#[rfl,h y (HD ..)],tI fun z J=>h z (HB _ J)]
def yn:B8 K mF M5:=by
 intro g σ H fa O s x y d1 d2 d Q I W U e k;cases d1 with
 |str z=>
  cases d2 with
  |str w=>
   have e:(if 1<=w.length/\z.length+2<=sizeLine then some (D.lst ((Txt.split z w).map .str)) else none)=some d:=e;by_cases h:1<=w.length/\z.length+2<=sizeLine
   .rw[fI h] at e;cases e;simp only[RepB,Rep] at W U;refine#[z,w,W.1,U.1,h.1,h.2,fun p M=>?_];have R:Reps K (NN g.F fa O) fa H ((Txt.split z w).map D.str) ((Txt.split z w).map V.str):=tI fun y Y=>Ht (part_short Y) ∅
    have J:StE fa O H fa O (l8 H p (.lst ((Txt.split z w).map V.str))):=F7 M;have L:=T1 I M R;refine k _ _ J L.gi ?_;simp only[Rep];exact#[p,_,rfl,ck I J L.gi M L.nf,D1,Reps.stp I J.stp R]
   .rw[gV h] at e;cases e
  |_=>cases e
 |_=>cases e
def eW:D->D->Option D
 |.str x,.int i=>(n8 x.cps.toList i).map fun c=>.str #[#v[c]]
 |_,_=>none
def Aq:B8 K mM eW:=by
 intro g σ H fa O s x y d1 d2 d Q I J L e k;cases d1 with
 |str z=>
  cases d2 with
  |int i=>
   have e:((n8 z.cps.toList i).map fun c=>D.str #[#v[c]])=some d:=e;obtain⟨c,h1,rfl⟩:=Ip.mp e;simp only[RepB,Rep] at J L;exact#[z,i,c,J.1,L,J.2,h1,k _ H StE.refl I (by simp only[Rep];exact#[trivial,by simp[Str.length,sizeLine]])]
  |_=>cases e
 |_=>cases e
def ae:D->D->Option D
 |.str x,.str y=>some (.bl (!(Builtin.Str.occurrences y x 0 y.length 1).isEmpty))
 |_,_=>none
def FP:B8 K (fun x y H Q=>∃i j,x = .str i/\y = .str j/\Q (.bl (!(Builtin.Str.occurrences j i 0 j.length 1).isEmpty)) H) ae:=by
 intro g σ H fa O s x y d1 d2 d Q I L J e k;cases d1 with
 |str z=>
  cases d2 with
  |str w=>
   cases e;simp only[RepB,Rep] at L J;exact#[z,w,L.1,J.1,k _ H StE.refl I (by simp only[Rep])]
  |_=>cases e
 |_=>cases e
def nZ:D->Option D
 |.str x=>if x.length<=640 then (intText? x).map .int else none
 |_=>none
def BF:CallR X (.type "int") (fun xs H Q=>∃x n,xs=[.str x]/\x.length<=640/\intText? x=some n/\Q (.int n) H):=by
 intro pins s σ H xs us Q I r h;obtain⟨x,n,rfl,hl,J,q⟩:=h;obtain⟨u,rfl,t,rfl⟩:=P2 r;exact PySem.W.KIN.call_text J hl #[.int n,H,I.tok _,#[_,rfl],q]
def yV:M9 K (fun xs H Q=>∃x n,xs=[.str x]/\x.length<=640/\intText? x=some n/\Q (.int n) H) (one nZ):=W6 fun g σ H fa O s x d1 d Q I r e k=>by
 cases d1 with
 |str z=>
  have e:(if z.length<=640 then (intText? z).map D.int else none)=some d:=e;by_cases h:z.length<=640
  .rw[fI h] at e;obtain⟨n,h1,rfl⟩:=Ip.mp e;simp only[RepB,Rep] at r;exact#[z,n,by rw[r.1],h,h1,k _ H StE.refl I (by simp only[Rep])]
  .rw[gV h] at e;cases e
 |_=>cases e
def zF:V->Option Int->Option Int->Hp->VK->Prop:=fun x lo hi H Q=>∃z,x = .str z/\z.length<=sizeLine/\Q (.str (Txt.slice z lo hi)) H
def DQ:L2.SlR X zF:=by
 intro pins s σ H x v vl Z lo hi sl Q I W M pl U h;obtain⟨z,rfl,Y,q⟩:=h;obtain⟨t,rfl⟩:=W;have J:∀t' k,EP X pins σ Q (.str (Txt.slice z lo hi) t') { s with toks:=k }:=fun t' k=>#[.str _,H,I.kept (t':=k) fun _ _ q=>q,#[_,rfl],q]
 have L:=Ht (Txt.slice_le z lo hi) Y;refine#["str",_,F.slot_str_getitem.lookup,Jh _ _ _,?_];cases pl with
 |none=>
  cases U with
  |none=>exact Kp (l:=none) (u:=none) (st:=none) M rfl (Kq #[L,J])
  |int j u=>exact Kp (l:=none) (u:=some (j,u)) (st:=none) M rfl (Kq #[L,J])
 |int i w=>
  cases U with
  |none=>exact Kp (l:=some (i,w)) (u:=none) (st:=none) M rfl (Kq #[L,J])
  |int j u=>exact Kp (l:=some (i,w)) (u:=some (j,u)) (st:=none) M rfl (Kq #[L,J])
def kr (f:DE) (lo hi:DO):DE:=fun s=>(f s).bind fun x=>(lo x.2).bind fun l=>(hi l.2).bind fun h=>match x.1 with
 |.str z=>some (.str (Txt.slice z l.1 h.1),h.2)
 |_=>none
def EY {x r:D}{F:Str->Str}{t z:DS}(e:(match x with
 |.str w=>some (D.str (F w),t)
 |_=>none)=some (r,z)):t=z/\∃w,x = .str w/\r = .str (F w):=by
 cases x with
 |str w=>cases e;exact#[rfl,w,rfl,rfl]
 |_=>cases e
def CZ {a:Expr}{fa:DE}{lo hi:Option Expr}(M:BO X g a fa) (hl:OO X g lo fl) (L:OO X g hi fh):EO X g (.Subscript a (.Slice lo hi none p2) pos) (kr fa fl fh):=
 EO.w (lJ DQ M.pe hl.pe L.pe) fun σ H Q hQ=>by
  refine hQ.elim fun f0 O s d s' I e k=>?_
  refine A1 e fun x s1 h1 e=>?_
  refine A1 e fun l s2 h2 e=>?_
  refine A1 e fun h Z U e=>?_
  obtain⟨rfl,w,rfl,rfl⟩:=EY (F:=fun w=>Txt.slice w l h) e;refine#[f0,O,s,_,s1,I,h1,fun v H1 f1 O1 Y W J=>#[f1,O1,s1,l,s2,W,h2,fun H2 f2 O2 a2 I2=>#[f2,O2,s2,h,Z,I2,U,fun H3 f3 O3 a3 I3=>?_]]];simp only[RepB,Rep] at J;exact#[w,J.1,J.2,k _ H3 f3 O3 (Y.trans (a2.trans a3)) I3 (by simp only[Rep];exact#[trivial,Ht (Txt.slice_le w l h) J.2])]
def jm (x:Str):It:=#[fun i _=>i<x.cps.size,fun i H v H'=>H'=H/\∃c,x.cps[i]? = some c/\v = .str #[#v[c]],fun i _=>x.cps.size<=i]
def sQ {w:World}{K:vF_}{ty:String}(M:ty = "str_ascii_iterator" \/ ty = "str_iterator") (x:Str) (t:Tok) (it:Addr):Turn P w K tg (jm x) [it] it (fun i h=>h.IsStrIter it ty x t i) where
 mem:=by simp
 obj:=fun i h st b J=>by
  have e:b=it:=by simpa using J
  subst e;obtain⟨o,e,c,d⟩:=st;exact#[o,e,fun v z=>by rw[d] at z;cases z]
 keep:=fun i h h' st k=>by
  obtain⟨o,e,r⟩:=st;exact#[o,k it (by simp) o e,r]
 item:=by
  intro X hP hw hK hc i pins s σ H E I hf st U;subst hP hw hK;have U:i<x.cps.size:=U;obtain⟨f0,f1,f2,f3,f4,f5⟩:=hf it (by simp);have hx:x.cps[i]? = some x.cps[i]:=by simp[U]
  have Y:∀h',h'.IsStrIter it ty x t (i+1)->(∀b o,b≠it->s.heap.get? b=some o->h'.get? b=some o)->∃u,(some (Value.str #[#v[x.cps[i]]] s.toks))=some u /\
    wpAny (model X.prog X.w) X.A (letOwnedTupleGo tg (.ref it) u) (fun _ s2=>∃y H',Inv X pins σ H' s2/\RelV y u/\(jm x).yld i H y H'/\s2.heap.IsStrIter it ty x t (i+1)/\∀b∈[it],H' b=none) E { s with heap:=h',toks:=s.toks+1 }:=by
   intro h' Z sb;have I1:Inv X pins σ H { s with heap:=h',toks:=s.toks+1 }:=I.turned (t':=s.toks+1) (fun b o J e=>sb b o J e) f0 f1 f3 f4 f5;obtain⟨o,e,c,d⟩:=id Z;exact#[_,rfl,gA (s:={ s with heap:=h',toks:=s.toks+1 }) e c d (by rcases M with rfl | rfl <;> decide) #[.str #[#v[x.cps[i]]],H,I1,#[_,rfl],#[rfl,_,hx,rfl],Z,fun b J=>(hf b J).1]]
  rcases M with rfl | rfl
  .exact wpAny_pyNext_ascii_item st hx fun h' L W=>Y h' L fun b o J e=>W.extBut b o J e
  .exact wpAny_pyNext_wide_item st hx fun h' L W=>Y h' L fun b o J e=>W.extBut b o J e
 done:=by
  intro X hP hw hK hc i pins s σ H E I hf st U;subst hP hw hK;have U:x.cps[i]? = none:=Lf (show x.cps.size<=i from U);obtain⟨f0,f1,f2,f3,f4,f5⟩:=hf it (by simp);rcases M with rfl | rfl
  .exact wpAny_pyNext_ascii_end (I.ok.hd hc) st U fun h' eb=>#[rfl,I.turned (t':=s.toks) (fun b o J e=>eb b o J e) f0 f1 f3 f4 f5]
  .exact wpAny_pyNext_wide_end (I.ok.hd hc) st U fun h' eb=>#[rfl,I.turned (t':=s.toks) (fun b o J e=>eb b o J e) f0 f1 f3 f4 f5]
 self:=fun _ _ _ _ _ st h=>by
  rcases M with rfl | rfl
  .exact wpAny_pyIter_striter_ascii st h
  .exact wpAny_pyIter_striter_wide st h
def Ba (tl:TE):TI:=fun σ H R=>tl σ H fun x H1=>∃z,x = .str z/\R (jm z) H1
def Ee {l:Expr}(hl:PE X l tl):PI X tg l (Ba tl):=by
 intro pins s σ H R I h;refine t9 (hl pins s σ H _ I h) fun v s1 ⟨x,H1,J,U,W⟩=>?_
 obtain⟨z,rfl,q⟩:=W;obtain⟨t,rfl⟩:=U;have fp:∀b∈[s1.heap.objs.size],P8 X pins H1 b:=fun b M=>by
  have e:b=s1.heap.objs.size:=by simpa using M
  subst e;exact J.fpOk (iR _) (J.hok.fresh (iR _))
 cases L:z.cps.all (· < 128)
 .exact wpAny_pyIter_wide L #[s1.heap.objs.size,[s1.heap.objs.size],_,_,H1,rfl,J.kept (t':=s1.toks) fun b o e=>xo _ e,sQ (.inr rfl) z t _,#[_,HG _ rfl,rfl,rfl],fp,q]
 .exact wpAny_pyIter_ascii L #[s1.heap.objs.size,[s1.heap.objs.size],_,_,H1,rfl,J.kept (t':=s1.toks) fun b o e=>xo _ e,sQ (.inl rfl) z t _,#[_,HG _ rfl,rfl,rfl],fp,q]
def cw (f:DE):DA:=fun s=>(f s).bind fun x=>match x.1 with
 |.str z=>some (z.cps.toList.map fun c=>.str #[#v[c]],x.2)
 |_=>none
def yR {f:DE}(h:EO X g iter f):IO X g tg iter (cw f):=IO.w (Ee h.pe) fun σ H R Y=>by
 refine Y.elim fun fa O s ds s' I e hz k=>?_
 refine A1 e fun d s1 h1 h2=>?_
 refine#[fa,O,s,d,s1,I,h1,fun v H1 f1 O1 W U r=>?_];cases d with
 |str z=>
  cases h2;simp only[Rep] at r;refine#[z,r.1,k _ H1 f1 O1 W U fun N' fa' H' c _ i=>#[fun d M=>?_,fun hl=>?_]]
  .rw[Io] at M;obtain⟨n,J,rfl⟩:=Ip.mp M;have J:z.cps[i]? = some n:=by simpa using J
   refine#[(Array.getElem?_eq_some_iff.mp J).1,fun y H'' Z=>?_];obtain⟨e1,c',L,rfl⟩:=Z;rw[J] at L;cases L;exact#[e1,by simp only[Rep];exact#[trivial,by simp[Str.length,sizeLine]]]
  .have:z.cps.size<=i:=by simpa using hl
   exact this
 |_=>cases h2
section
variable {a:Expr}{fa:DE}
def Gi (h:O5 d1 d2=some d):∃z,d1 = .str z:=by
 cases d1 with
 |str z=>exact#[z,rfl]
 |_=>cases h
def dc {apos cpos:Pos}(Z:BO X g a fa) (Y:BO X g e fe) (L:attributeBase a "join" X.env (eval a X.env)=eval a X.env:=by rfl)
  (U:((backTo cpos (starEach [e] X.env)).all (fun x=>!x.1)&&(backToKw cpos (keywordEach [] X.env)).all (fun x=>x.1.isSome)
   && decide ([e].length+([]:List Keyword).length+(if ([]:List Keyword).isEmpty then 0 else 1)<30))=true:=by rfl)
  (M:(apos.endLine == cpos.line)=true:=by rfl) (W:starEach [e] X.env=(false,eval e X.env)::starEach [] X.env:=by rfl) (J:(backTo cpos (starEach [] X.env)).any (·.1)=false:=by rfl) :
  EO X g (.Call (.Attribute a "join" apos) [e] [] cpos) (a6 O5 fa fe):=
 gf F.slot_str_join F.type_str_join AK xY (fun _ _ _ h=>Gi h) Z Y L U M W J
def wH (h:M5 d1 d2=some d):∃z,d1 = .str z:=by
 cases d1 with
 |str z=>exact#[z,rfl]
 |_=>cases h
def eR {apos cpos:Pos}(Z:BO X g a fa) (Y:BO X g e fe) (L:attributeBase a "split" X.env (eval a X.env)=eval a X.env:=by rfl)
  (U:((backTo cpos (starEach [e] X.env)).all (fun x=>!x.1)&&(backToKw cpos (keywordEach [] X.env)).all (fun x=>x.1.isSome)
   && decide ([e].length+([]:List Keyword).length+(if ([]:List Keyword).isEmpty then 0 else 1)<30))=true:=by rfl)
  (M:(apos.endLine == cpos.line)=true:=by rfl) (W:starEach [e] X.env=(false,eval e X.env)::starEach [] X.env:=by rfl) (J:(backTo cpos (starEach [] X.env)).any (·.1)=false:=by rfl) :
  EO X g (.Call (.Attribute a "split" apos) [e] [] cpos) (a6 M5 fa fe):=
 gf Ko F.type_str_split yy yn (fun _ _ _ h=>wH h) Z Y L U M W J
def GB (h:aW d1 d2=some d):∃z,d1 = .str z:=by
 cases d1 with
 |str z=>exact#[z,rfl]
 |_=>cases h
def xM {apos cpos:Pos}(Z:BO X g a fa) (Y:BO X g e fe) (L:attributeBase a "startswith" X.env (eval a X.env)=eval a X.env:=by rfl)
  (U:((backTo cpos (starEach [e] X.env)).all (fun x=>!x.1)&&(backToKw cpos (keywordEach [] X.env)).all (fun x=>x.1.isSome)
   && decide ([e].length+([]:List Keyword).length+(if ([]:List Keyword).isEmpty then 0 else 1)<30))=true:=by rfl)
  (M:(apos.endLine == cpos.line)=true:=by rfl) (W:starEach [e] X.env=(false,eval e X.env)::starEach [] X.env:=by rfl) (J:(backTo cpos (starEach [] X.env)).any (·.1)=false:=by rfl) :
  EO X g (.Call (.Attribute a "startswith" apos) [e] [] cpos) (a6 aW fa fe):=
 gf F.slot_str_startswith F.type_str_startswith Gw yK (fun _ _ _ h=>GB h) Z Y L U M W J
def xS (h:fJ d1 d2=some d):∃z,d1 = .str z:=by
 cases d1 with
 |str z=>exact#[z,rfl]
 |_=>cases h
def Dw {apos cpos:Pos}(Z:BO X g a fa) (Y:BO X g e fe) (L:attributeBase a "zfill" X.env (eval a X.env)=eval a X.env:=by rfl)
  (U:((backTo cpos (starEach [e] X.env)).all (fun x=>!x.1)&&(backToKw cpos (keywordEach [] X.env)).all (fun x=>x.1.isSome)
   && decide ([e].length+([]:List Keyword).length+(if ([]:List Keyword).isEmpty then 0 else 1)<30))=true:=by rfl)
  (M:(apos.endLine == cpos.line)=true:=by rfl) (W:starEach [e] X.env=(false,eval e X.env)::starEach [] X.env:=by rfl) (J:(backTo cpos (starEach [] X.env)).any (·.1)=false:=by rfl) :
  EO X g (.Call (.Attribute a "zfill" apos) [e] [] cpos) (a6 fJ fa fe):=
 gf F.slot_str_zfill F.type_str_zfill vP xf (fun _ _ _ h=>xS h) Z Y L U M W J
end
end
end DL
namespace DL
open PySem PySem.Spec L2
def u5 {K:vF_}{n:Str}{st:Stmt}{f:Addr}{w:World}{ps:List Str}{k:Nat}{b:DM}(L:List Str) (F:GF K mg n st f fd) (q:∀(kV doc pm:Value) (an:vA_) (cdv ct:Value) (us:vV_),us.length=ps.length->bindArgs (PySem.W.fnOf n n (S7 st) (K9 st) (C9 st) .none kV doc pm an cdv ct) #[us,[]]=pure (ps.zip us)) (S:FnScope (ps++L) ps (C9 st))
  (J:(ps++L).Nodup->∀(cdv:Value) (A:Around) (outer:List Env) (s:Shared) (H:Hp) (E:XK) (g:Gh),Room k (A.deeper (PyProof.Rows.envOfC n (C9 st) s.heap.objs.size f cdv))->SSO (Q4 O8 P w K mg base (ps++L) n (C9 st) f cdv A outer s H E).nox g (K9 st) b) :
  Cal P w K mg base (k+1) n ps (t7 (ps++L).length b):=AA F q S (J S.nd)
end DL
namespace T
open PySem PySem.Spec L2 DL
abbrev xX:DM:=(c8 (d5 (a6 j6 (a6 fJ (d8 (one P9) (a0 (a6 B7 (dL 1) (a6 P6 (b0 10) (b0 60))) a7)) (b0 60)) (dL 2)) (d0 2)) (d5 (a6 G2 (dL 1) (a6 P6 (b0 10) (b0 60))) (d0 1)))
def kI:DM:=(c8 (d5 (d8 (one K6) (a0 (dL 0) a7)) (d0 1)) (c8 (d5 (dC (.str "")) (d0 2)) (c8 (M1 (dB (a6 (i8 (fun i j=>decide (j<=i))) (dL 1) (a6 P6 (b0 10) (b0 60)))) (xX)) (d6 (a6 j6 (a6 j6 (j9 (dB (a6 (i8 (fun i j=>decide (i<j))) (dL 0) (b0 0))) (dC (.str "-")) (dC (.str ""))) (d8 (one P9) (a0 (dL 1) a7))) (dL 2))))))
def bb:a8:=t7 3 (kI)
def gO (J:a8):DM:=(c8 (e8 (dB (a6 u6 (k0 0 1) (b0 1))) (d6 (a9 J (a0 (k0 0 0) a7))) f9) (d6 (a6 j6 (a6 j6 (a9 J (a0 (k0 0 0) a7)) (dC (.str "/"))) (a9 J (a0 (k0 0 1) a7)))))
def uw (J:a8):a8:=t7 1 (gO J)
def gQ (J:a8) (L:a8) (M:a8):DM:=(d6 (a6 j6 (a6 j6 (a9 J (a0 (a9 L (a0 (dV 0) a7)) a7)) (dC (.str ","))) (a9 J (a0 (a9 M (a0 (dV 0) a7)) a7))))
def nv (J:a8) (L:a8) (M:a8):a8:=t7 1 (gQ J L M)
def eV:DM:=(d6 (j9 (dB (a6 u6 (k0 0 1) (b0 1))) (d8 (one P9) (a0 (k0 0 0) a7)) (a6 j6 (a6 j6 (d8 (one P9) (a0 (k0 0 0) a7)) (dC (.str "/"))) (d8 (one P9) (a0 (k0 0 1) a7)))))
def L7:a8:=t7 1 (eV)
def jv (L:a8) (J:a8):DM:=(d6 (a6 O5 (dC (.str ",")) (i5 (B6 [] (D9 (a9 L (a0 (dV 0) a7))) w6 (a9 J (a0 (dV 0) a7))))))
def rK (L:a8) (J:a8):a8:=t7 1 (jv L J)
def kl (J:a8):DM:=(d6 (a6 O5 (dC (.str " ")) (i5 (Y0 aC (i5 (i6 (a0 (a6 c7 (i5 (i6 (a0 (dC (.str "open")) (a0 (dC (.str "closed")) a7)))) (d8 (one iL) (a0 (k0 0 0) a7))) a7))) (i5 (B6 [] (D9 (k0 0 1)) w6 (a9 J (a0 (dV 0) a7))))))))
def mr (J:a8):a8:=t7 1 (kl J)
def jl (J:a8):DM:=(d6 (a6 O5 (dC (.str " ")) (i5 (i6 (a0 (dC (.str "wide")) (a0 (a9 J (a0 (k0 0 0) a7)) (a0 (k0 0 1) (a0 (k0 0 2) (a0 (k0 0 3) (a0 (a9 J (a0 (k0 0 4) a7)) a7))))))))))
def um (J:a8):a8:=t7 1 (jl J)
def lB (J:a8):DM:=(d6 (a6 O5 (dC (.str " ")) (i5 (Y0 aC (i5 (Y0 aC (i5 (i6 (a0 (dC (.str "wide")) (a0 (a9 J (a0 (k0 0 0) a7)) a7)))) (i5 (X2 (one tu) (a0 (T5 (dL 0) (M8 (b0 1)) (M8 (b0 4))) a7))))) (i5 (i6 (a0 (a9 J (a0 (k0 0 4) a7)) a7)))))))
def oX (J:a8):a8:=t7 1 (lB J)
def kz:DM:=(c8 (e8 (j7 (dB (a6 u6 (dL 0) (dC (.str "")))) (dB (a6 (i8 (fun i j=>decide (j<i))) (d8 (one j5) (a0 (dL 0) a7)) (b0 4)))) (d6 (dC .non)) f9) (c8 (e8 (k6 (j4 (d8 (one M0) (a0 (i5 (B6 [] (cw (dV 0)) w6 (a6 ae (dL 0) (dC (.str "0123456789"))))) a7)))) (d6 (dC .non)) f9) (c8 (e8 (l4 (dB (a6 u6 (a6 eW (dL 0) (b0 0)) (dC (.str "0")))) (dB (a6 o9 (dL 0) (dC (.str "0"))))) (d6 (dC .non)) f9) (d6 (d8 (one nZ) (a0 (dL 0) a7))))))
def T6:a8:=t7 1 (kz)
def dD (J:a8):DM:=(c8 (e8 (k6 (j4 (a6 aW (dL 0) (dC (.str "-"))))) (d6 (a9 J (a0 (dV 0) a7))) f9) (c8 (d5 (a9 J (a0 (kr (dL 0) (M8 (b0 1)) P5) a7)) (d0 1)) (d6 (j9 (j7 (dB (a6 az (dL 1) (dC .non))) (dB (a6 u6 (dL 1) (b0 0)))) (dC .non) (j8 k9 (dL 1))))))
def uE (J:a8):a8:=t7 2 (dD J)
def cu (M:a8) (J:a8) (L:a8):DM:=(c8 (d5 (a6 M5 (dL 0) (dC (.str "/"))) (d0 1)) (c8 (d5 (a9 L (a0 (k0 1 0) a7)) (d0 2)) (c8 (e8 (dB (a6 u6 (d8 (one j5) (a0 (dL 1) a7)) (b0 1))) (d6 (j9 (dB (a6 az (dL 2) (dC .non))) (dC .non) (d9 (a0 (dV 2) (a0 (b0 1) a7))))) f9) (c8 (d5 (a9 J (a0 (k0 1 1) a7)) (d0 3)) (c8 (e8 (j7 (dB (a6 (i8 (fun i j=>decide (j<i))) (d8 (one j5) (a0 (dL 1) a7)) (b0 2))) (j7 (dB (a6 u6 (dL 3) (b0 1))) (k6 (j4 (a9 M (a0 (d9 (a0 (dV 2) (a0 (dV 3) a7))) a7)))))) (d6 (dC .non)) f9) (d6 (d9 (a0 (dV 2) (a0 (dV 3) a7)))))))))
def oU (M:a8) (J:a8) (L:a8):a8:=t7 4 (cu M J L)
def X8 (J:a8):DM:=(c8 (d5 (j9 (dB (a6 U3 (dL 1) (dC (.tup [(.int 0),(.int 4)])))) (a9 J (a0 (dV 2) a7)) (dV 2)) (d0 3)) (d6 (a6 j6 (a6 j6 (T5 (dL 0) P5 (M8 (dL 1))) (d9 (a0 (dV 3) a7))) (T5 (dL 0) (M8 (a6 j6 (dL 1) (b0 1))) P5))))
def uC (J:a8):a8:=t7 4 (X8 J)
abbrev dZ (m0p:a8) (m0q:a8):DM:=(c8 (d5 (a9 m0q (a0 (dV 2) (a0 (a6 l7 (dL 3) (b0 1)) (a0 (a6 c7 (dL 1) (dL 3)) a7)))) (d0 2)) (e8 (k6 (j4 (a9 m0p (a0 (dV 2) a7)))) X9 f9))
def kO (L:a8) (J:a8):DM:=(c8 (d5 (a6 M5 (dL 0) (dC (.str " "))) (d0 1)) (c8 (e8 (dB (a6 o9 (k0 1 0) (dC (.str "wide")))) X9 f9) (c8 (d5 (dC (.tup [(.tup [(.int 1),(.int 1)]),(.str "both"),(.str "cut"),(.str "cut"),(.tup [(.int 1),(.int 1)])])) (d0 2)) (c8 (Y3 (a0 (b0 1) (a0 (d8 (one j5) (a0 (dL 1) a7)) a7)) (d0 3) (dZ L J)) (c8 (e8 (dB (a6 (i8 (fun i j=>decide (i<=j))) (d8 (one j5) (a0 (dL 1) a7)) (d8 (one j5) (a0 (dL 2) a7)))) X9 f9) (d6 (dV 2)))))))
def oi (L:a8) (J:a8):a8:=t7 4 (kO L J)
abbrev fg (m02:a8):DM:=(e8 (j7 (dB (a6 (i8 (fun i j=>decide (j<i))) (d8 (one K6) (a0 (k0 2 0) a7)) (b0 9999))) (dB (a6 (i8 (fun i j=>decide (j<i))) (k0 2 1) (b0 9999)))) (d6 (dC (.bl false))) f9)
abbrev dE (m02:a8):DM:=(R0 (a9 m02 (a0 (dV 1) a7)) (d0 2) (fg m02))
def gx (J:a8):DM:=(c8 (R0 (k0 0 1) (d0 1) (dE J)) (d6 (dC (.bl true))))
def me (J:a8):a8:=t7 3 (gx J)
def jR (J:a8):DM:=(d6 (a6 O5 (dC (.str " ")) (i5 (Y0 aC (i5 (i6 (a0 (j9 (j4 (k0 0 0)) (dC (.str "closed")) (dC (.str "open"))) a7))) (i5 (B6 [] (D9 (k0 0 1)) w6 (a9 J (a0 (dV 0) a7))))))))
def ux (J:a8):a8:=t7 1 (jR J)
def cR (L:a8) (J:a8):DM:=(c8 (J3 1 (B6 [] (D9 (a6 M5 (dL 0) (dC (.str ",")))) w6 (a9 J (a0 (dV 0) a7)))) (c8 (e8 (j7 (dB (a6 o9 (d8 (one j5) (a0 (dL 1) a7)) (b0 2))) (dB (a6 U3 (dC .non) (dL 1)))) (d6 (dC .non)) f9) (d6 (a9 L (a0 (k0 1 0) (a0 (k0 1 1) a7))))))
def oK (L:a8) (J:a8):a8:=t7 2 (cR L J)
abbrev jZ (m0r:a8):DM:=(c8 (d5 (a9 m0r (a0 (a6 c7 (dL 0) (dL 2)) a7)) (d0 3)) (c8 (e8 (j7 (dB (a6 az (dL 3) (dC .non))) (dB (a6 u6 (dL 2) (b0 10)))) X9 f9) (K3 1 (dV 3))))
def eM (J:a8):DM:=(c8 (J3 1 (i6 a7)) (c8 (Y3 (a0 (b0 1) (a0 (d8 (one j5) (a0 (dL 0) a7)) a7)) (d0 2) (jZ J)) (d6 (dV 1))))
def qz (J:a8):a8:=t7 4 (eM J)
def lL (L:a8) (J:a8):DM:=(c8 (d5 (a6 M5 (dL 0) (dC (.str " "))) (d0 1)) (c8 (e8 (l4 (dB (a6 o9 (k0 1 0) (dC (.str "open")))) (dB (a6 o9 (k0 1 0) (dC (.str "closed"))))) X9 f9) (c8 (d5 (a6 u6 (k0 1 0) (dC (.str "closed"))) (d0 2)) (c8 (d5 (a9 J (a0 (dV 1) a7)) (d0 3)) (c8 (e8 (dB (a6 (i8 (fun i j=>decide (i<j))) (d8 (one j5) (a0 (dL 3) a7)) (j9 (j4 (dL 2)) (b0 3) (b0 2)))) X9 f9) (c8 (d5 (d9 (a0 (dV 2) (a0 (d8 (one K8) (a0 (dL 3) a7)) a7))) (d0 4)) (c8 (e8 (k6 (j4 (a9 L (a0 (dV 4) a7)))) X9 f9) (d6 (dV 4)))))))))
def ow (J:a8) (L:a8):a8:=t7 5 (lL J L)
abbrev gm (m0a:a8) (m0s:a8) (m0t:a8) (m0u:a8) (m0v:a8) (m0w:a8) (m0m:a8) (m09:a8) (m08:a8) (m0x:a8) (m01:a8) (m04:a8) (m06:a8) (m0y:a8) (mo:a8) (m03:a8) (m0z:a8) (m0A:a8):DM:=(c8 (d5 (a9 m0z (a0 (dV 1) (a0 (b0 4) a7))) (d0 3)) (c8 (e8 (dB (a6 u6 (a6 B7 (dL 2) (b0 2)) (b0 1))) (d5 (d9 (a0 (dC (.bl false)) (a0 (d8 (one K8) (a0 (i5 (B6 [1] (ai (a0 (a6 j6 (b0 2) (a9 mo (a0 (dV 1) (a0 (b0 5) a7)))) a7)) w6 (a9 m03 (a0 (dV 1) a7)))) a7)) a7))) (d0 3)) f9) (c8 (d5 (a9 m0y (a0 (dV 1) a7)) (d0 4)) (c8 (d5 (a9 m06 (a0 (dV 1) a7)) (d0 5)) (c8 (d5 (d8 (one B5) (a0 (d9 (a0 (dV 3) (a0 (dV 4) a7))) a7)) (d0 6)) (c8 (e8 (dB (a6 o9 (i5 (i6 (a0 (a9 m01 (a0 (dV 5) a7)) (a0 (a9 m0x (a0 (dV 4) a7)) a7)))) (i5 (i6 (a0 (a9 m04 (a0 (dV 5) a7)) (a0 (a9 m0m (a0 (dV 4) a7)) a7)))))) (d6 (dC (.bl false))) f9) (c8 (e8 (dB (a6 o9 (a9 m09 (a0 (a6 c7 (k0 3 1) (b0 0)) a7)) (a9 m08 (a0 (a6 c7 (k0 3 1) (b0 0)) a7)))) (d6 (dC (.bl false))) f9) (c8 (e8 (dB (a6 o9 (d8 (one B5) (a0 (a9 m0w (a0 (a9 m0m (a0 (dV 4) a7)) a7)) a7)) (d8 (one B5) (a0 (dL 4) a7)))) (d6 (dC (.bl false))) f9) (e8 (j4 (a9 m0a (a0 (dV 3) a7))) (c8 (d5 (a9 m0v (a0 (dV 3) a7)) (d0 7)) (c8 (e8 (j7 (dB (a6 o9 (a9 m0u (a0 (dV 3) a7)) (dL 7))) (dB (a6 o9 (d8 (one B5) (a0 (d9 (a0 (dV 3) (a0 (dV 4) a7))) a7)) (dL 6)))) (d6 (dC (.bl false))) f9) (e8 (l4 (j4 (a9 m0t (a0 (dV 3) a7))) (dB (a6 o9 (d8 (one B5) (a0 (a9 m0s (a0 (dV 7) a7)) a7)) (d8 (one B5) (a0 (dL 3) a7))))) (d6 (dC (.bl false))) f9))) f9)))))))))
def kb (m0a:a8) (m0s:a8) (m0t:a8) (Y:a8) (m0v:a8) (m0w:a8) (L:a8) (m09:a8) (m08:a8) (m0x:a8) (Z:a8) (m04:a8) (W:a8) (m0y:a8) (mo:a8) (U:a8) (M:a8) (J:a8):DM:=(c8 (d5 (a9 J (a0 (dV 0) a7)) (d0 1)) (c8 (Y3 (a0 (b0 8) a7) (d0 2) (gm m0a m0s m0t Y m0v m0w L m09 m08 m0x Z m04 W m0y mo U M J)) (d6 (dC (.bl true)))))
def ji (m0a:a8) (Z:a8) (m0t:a8) (W:a8) (m0v:a8) (m0w:a8) (J:a8) (m09:a8) (m08:a8) (m0x:a8) (Y:a8) (m04:a8) (U:a8) (m0y:a8) (mo:a8) (M:a8) (L:a8) (m0A:a8):a8:=t7 8 (kb m0a Z m0t W m0v m0w J m09 m08 m0x Y m04 U m0y mo M L m0A)
def lM:DM:=(d6 (ib 0))
def bI:a8:=t7 1 (lM)
def V6:DM:=(c8 (d5 (a6 j6 (D7 0 "turn") (b0 1)) (d0 2)) (c8 (O0 0 "turn" (dV 2)) (c8 (e8 (dB (a6 (i8 (fun i j=>decide (j<i))) (D7 0 "left") (b0 0))) (c8 (d5 (a6 B7 (D7 0 "left") (dL 1)) (d0 3)) (c8 (O0 0 "left" (a6 G2 (D7 0 "left") (dL 1))) (d6 (dV 3)))) f9) (c8 (d5 (D7 0 "cells") (d0 4)) (c8 (d5 (j9 (dB (a6 (i8 (fun i j=>decide (j<i))) (d8 (one j5) (a0 (dL 4) a7)) (b0 0))) (a6 c7 (dL 4) (a6 B7 (D7 0 "at") (d8 (one j5) (a0 (dL 4) a7)))) (b0 0)) (d0 5)) (c8 (O0 0 "at" (a6 j6 (D7 0 "at") (b0 1))) (c8 (e8 (l4 (dB (a6 (i8 (fun i j=>decide (j<=i))) (dL 5) (a6 P6 (b0 10) (b0 18)))) (dB (a6 (i8 (fun i j=>decide (i<=j))) (D7 0 "at") (d8 (one j5) (a0 (dL 4) a7))))) (c8 (O0 0 "left" (a6 G2 (dL 5) (dL 1))) (d6 (a6 B7 (dL 5) (dL 1)))) f9) (c8 (d5 (a6 B7 (a6 o8 (a6 j6 (a6 j6 (a6 j6 (a6 B7 (dL 5) (b0 1000003)) (a6 o8 (a6 o8 (b0 31) (dL 2)) (dL 2))) (a6 o8 (b0 7) (dL 2))) (b0 11)) (b0 48271)) (b0 2147483647)) (d0 6)) (c8 (d5 (a6 B7 (a6 j6 (a6 o8 (a6 G2 (dL 6) (b0 64)) (b0 69621)) (a6 o8 (b0 7919) (dL 2))) (b0 2147483587)) (d0 6)) (d6 (a6 B7 (a6 G2 (dL 6) (b0 64)) (dL 1))))))))))))
def C2:a8:=t7 7 (V6)
abbrev uW:DM:=(c8 (d5 (a6 B7 (dL 2) (dL 3)) (d0 4)) (c8 (d5 (dV 3) (d0 2)) (d5 (dV 4) (d0 3))))
def eN:DM:=(c8 (d5 (d8 (one K6) (a0 (dL 0) a7)) (d0 2)) (c8 (d5 (d8 (one K6) (a0 (dL 1) a7)) (d0 3)) (c8 (M1 (dB (a6 o9 (dL 3) (b0 0))) (uW)) (d6 (dV 2)))))
def K2:a8:=t7 5 (eN)
abbrev dF (m0B:a8):DM:=(d5 (a9 m0B (a0 (dV 1) (a0 (dV 2) a7))) (d0 1))
def eY (J:a8):DM:=(c8 (d5 (b0 0) (d0 1)) (c8 (R0 (dV 0) (d0 2) (dF J)) (d6 (dV 1))))
def U8 (J:a8):a8:=t7 3 (eY J)
def iH (J:a8):DM:=(c8 (d5 (a9 J (a0 (dV 0) a7)) (d0 1)) (c8 (e8 (dB (a6 (i8 (fun i j=>decide (i<j))) (a6 c7 (dL 0) (j8 k9 (b0 1))) (b0 0))) (d5 (j8 k9 (dL 1)) (d0 1)) f9) (d6 (d8 (one K8) (a0 (i5 (B6 [1] (D9 (dV 0)) w6 (a6 G2 (dL 0) (dL 1)))) a7)))))
def sL (J:a8):a8:=t7 2 (iH J)
def jh (J:a8):DM:=(d6 (a9 J (a0 (d9 (a0 (dV 0) (a0 (dV 1) a7))) a7)))
def uf (J:a8):a8:=t7 2 (jh J)
abbrev zf:DM:=(m5 2 3 (a0 (dV 3) (a0 (a6 B7 (dL 2) (dL 3)) a7)))
def fH:DM:=(c8 (d5 (d8 (one K6) (a0 (dL 0) a7)) (d0 2)) (c8 (d5 (d8 (one K6) (a0 (dL 1) a7)) (d0 3)) (c8 (M1 (dB (a6 (i8 (fun i j=>decide (j<i))) (dL 3) (b0 0))) (zf)) (c8 (e8 (dB (a6 (i8 (fun i j=>decide (i<j))) (dL 1) (b0 0))) (d5 (a6 l7 (b0 0) (dL 2)) (d0 2)) f9) (d6 (d9 (a0 (a6 G2 (dL 0) (dL 2)) (a0 (a6 G2 (dL 1) (dL 2)) a7))))))))
def rq:a8:=t7 4 (fH)
def gY (J:a8):DM:=(c8 (d5 (a6 j6 (a6 o8 (k0 0 0) (k0 1 1)) (a6 o8 (k0 1 0) (k0 0 1))) (d0 2)) (d6 (a9 J (a0 (dV 2) (a0 (a6 o8 (k0 0 1) (k0 1 1)) a7)))))
def oO (J:a8):a8:=t7 3 (gY J)
def gE:DM:=(d6 (d9 (a0 (a6 l7 (b0 0) (k0 0 0)) (a0 (k0 0 1) a7))))
def aA:a8:=t7 1 (gE)
def jK:DM:=(d6 (m8 (j8 (J9 "int") (dL 0)) (n9 (j8 (J9 "bool") (dL 0)))))
def bo:a8:=t7 1 (jK)
def cQ (L:a8) (J:a8):DM:=(c8 (e8 (j7 (k6 (j4 (j8 (J9 "tuple") (dL 0)))) (dB (a6 o9 (d8 (one j5) (a0 (dL 0) a7)) (dL 1)))) (d6 (dC (.bl false))) f9) (c8 (e8 (k6 (j4 (d8 (one M0) (a0 (i5 (B6 [] (D9 (dV 0)) w6 (a9 J (a0 (dV 0) a7)))) a7)))) (d6 (dC (.bl false))) f9) (d6 (m8 (a6 (i8 (fun i j=>decide (j<=i))) (a6 c7 (dL 0) (j8 k9 (b0 1))) (b0 1)) (a6 u6 (a9 L (a0 (dV 0) a7)) (b0 1))))))
def nF (L:a8) (J:a8):a8:=t7 2 (cQ L J)
def fQ (J:a8):DM:=(d6 (a9 J (a0 (dV 0) (a0 (b0 2) a7))))
def nr (J:a8):a8:=t7 1 (fQ J)
def dM (J:a8):DM:=(d6 (a9 J (a0 (a6 o8 (k0 0 0) (k0 1 0)) (a0 (a6 o8 (k0 0 1) (k0 1 1)) a7))))
def pB (J:a8):a8:=t7 2 (dM J)
def eD:DM:=(d6 (a6 (i8 (fun i j=>decide (i<j))) (a6 o8 (k0 0 0) (k0 1 1)) (a6 o8 (k0 1 0) (k0 0 1))))
def eT:a8:=t7 2 (eD)
def gI (J:a8):DM:=(d6 (a9 J (a0 (d9 (a0 (a6 o8 (k0 0 0) (k0 1 1)) (a0 (a6 o8 (k0 1 0) (k0 0 1)) (a0 (a6 o8 (k0 0 1) (k0 1 1)) a7)))) a7)))
def cx (J:a8):a8:=t7 2 (gI J)
def dH (J:a8) (mo:a8):DM:=(c8 (d5 (a9 mo (a0 (dV 0) (a0 (a6 c7 (i5 (i6 (a0 (b0 7) (a0 (b0 13) (a0 (b0 30) a7))))) (a9 mo (a0 (dV 0) (a0 (b0 3) a7)))) a7))) (d0 1)) (c8 (d5 (a6 c7 (i5 (i6 (a0 (b0 1) (a0 (b0 1) (a0 (b0 1) (a0 (b0 2) (a0 (b0 3) (a0 (b0 4) a7)))))))) (a9 mo (a0 (dV 0) (a0 (b0 6) a7)))) (d0 2)) (d6 (a9 J (a0 (a6 o8 (dL 1) (a6 l7 (b0 1) (a6 o8 (b0 2) (a9 mo (a0 (dV 0) (a0 (b0 2) a7)))))) (a0 (dV 2) a7))))))
def lY (J:a8) (mo:a8):a8:=t7 3 (dH J mo)
def fK (J:a8):DM:=(d6 (a9 J (a0 (dV 0) (a0 (b0 3) a7))))
def rL (J:a8):a8:=t7 1 (fK J)
def fv (J:a8):DM:=(c8 (d5 (a6 o8 (k0 0 1) (k0 1 1)) (d0 2)) (c8 (d5 (a9 J (a0 (a6 o8 (k0 0 0) (k0 1 1)) (a0 (dV 2) a7))) (d0 3)) (c8 (d5 (a9 J (a0 (a6 o8 (k0 1 0) (k0 0 1)) (a0 (dV 2) a7))) (d0 4)) (c8 (d5 (a9 J (a0 (k0 3 1) (a0 (k0 4 1) a7))) (d0 5)) (c8 (d5 (a6 o8 (k0 3 1) (k0 5 1)) (d0 2)) (d6 (d9 (a0 (a6 o8 (k0 3 0) (a6 G2 (dL 2) (k0 3 1))) (a0 (a6 o8 (k0 4 0) (a6 G2 (dL 2) (k0 4 1))) (a0 (dV 2) a7))))))))))
def qw (J:a8):a8:=t7 6 (fv J)
def ij (L:a8) (J:a8):DM:=(d6 (a9 L (a0 (a9 J (a0 (dV 0) a7)) (a0 (a9 J (a0 (dV 0) a7)) a7))))
def nk (L:a8) (J:a8):a8:=t7 1 (ij L J)
def cJ:DM:=(c8 (d5 (a6 o8 (k0 0 0) (k0 1 2)) (d0 2)) (c8 (d5 (a6 o8 (k0 1 0) (k0 0 2)) (d0 3)) (c8 (e8 (dB (a6 o9 (dL 2) (dL 3))) (d6 (a6 (i8 (fun i j=>decide (i<j))) (dL 2) (dL 3))) f9) (d6 (a6 (i8 (fun i j=>decide (i<j))) (a6 o8 (k0 0 1) (k0 1 2)) (a6 o8 (k0 1 1) (k0 0 2)))))))
def gW:a8:=t7 4 (cJ)
def gF (J:a8):DM:=(d6 (a9 J (a0 (k0 0 0) (a0 (k0 0 2) a7))))
def gc (J:a8):a8:=t7 1 (gF J)
def fk (J:a8):DM:=(d6 (a9 J (a0 (k0 0 1) (a0 (k0 0 2) a7))))
def gL (J:a8):a8:=t7 1 (fk J)
def eh (J:a8):DM:=(d6 (d9 (a0 (a9 J (a0 (k0 0 0) (a0 (k0 0 2) a7))) (a0 (a9 J (a0 (k0 0 1) (a0 (k0 0 2) a7))) a7))))
def nR (J:a8):a8:=t7 1 (eh J)
def fW (M:a8) (J:a8) (L:a8):DM:=(c8 (d5 (a9 L (a0 (dV 0) a7)) (m6 2 (l5 (d0 3) (l5 (d0 4) m7)))) (d6 (a9 M (a0 (a9 J (a0 (dV 3) (a0 (dV 1) a7))) (a0 (a9 J (a0 (dV 4) (a0 (dV 2) a7))) a7)))))
def pP (M:a8) (L:a8) (J:a8):a8:=t7 5 (fW M L J)
def bj:DM:=(c8 (e8 (dB (a6 (i8 (fun i j=>decide (j<i))) (dL 0) (b0 0))) (d6 (b0 1)) f9) (c8 (e8 (dB (a6 (i8 (fun i j=>decide (i<j))) (dL 0) (b0 0))) (d6 (j8 k9 (b0 1))) f9) (d6 (b0 0))))
def dR:a8:=t7 1 (bj)
def eC (J:a8):DM:=(c8 (d5 (a6 o8 (k0 0 0) (a6 l7 (a6 o8 (k0 1 1) (k0 2 2)) (a6 o8 (k0 2 1) (k0 1 2)))) (d0 3)) (c8 (d5 (a6 l7 (dL 3) (a6 o8 (k0 0 1) (a6 l7 (a6 o8 (k0 1 0) (k0 2 2)) (a6 o8 (k0 2 0) (k0 1 2))))) (d0 3)) (c8 (d5 (a6 j6 (dL 3) (a6 o8 (k0 0 2) (a6 l7 (a6 o8 (k0 1 0) (k0 2 1)) (a6 o8 (k0 2 0) (k0 1 1))))) (d0 3)) (d6 (a9 J (a0 (dV 3) a7))))))
def rO (J:a8):a8:=t7 4 (eC J)
def ic (mo:a8) (J:a8):DM:=(c8 (d5 (a9 J (a0 (a6 c7 (i5 (i6 (a0 (b0 1) (a0 (b0 1) (a0 (b0 1) (a0 (b0 5) (a0 (b0 2) (a0 (b0 3) (a0 (b0 13) a7))))))))) (a9 mo (a0 (dV 0) (a0 (b0 7) a7)))) (a0 (a6 c7 (i5 (i6 (a0 (b0 1) (a0 (b0 2) (a0 (b0 5) (a0 (b0 4) a7)))))) (a9 mo (a0 (dV 0) (a0 (b0 4) a7)))) a7))) (d0 1)) (c8 (d5 (a6 c7 (i5 (i6 (a0 (dC (.str "both")) (a0 (dC (.str "both")) (a0 (dC (.str "left")) (a0 (dC (.str "right")) a7)))))) (a9 mo (a0 (dV 0) (a0 (b0 4) a7)))) (d0 2)) (c8 (d5 (a6 c7 (i5 (i6 (a0 (dC (.str "cut")) (a0 (dC (.str "square")) (a0 (dC (.str "round")) a7))))) (a9 mo (a0 (dV 0) (a0 (b0 3) a7)))) (d0 3)) (c8 (d5 (a6 c7 (i5 (i6 (a0 (dC (.str "cut")) (a0 (dC (.str "pointed")) (a0 (dC (.str "pointed")) (a0 (dC (.str "round")) a7)))))) (a9 mo (a0 (dV 0) (a0 (b0 4) a7)))) (d0 4)) (d6 (d9 (a0 (dV 1) (a0 (dV 2) (a0 (dV 3) (a0 (dV 4) (a0 (a6 c7 (i5 (i6 (a0 (d9 (a0 (b0 1) (a0 (b0 1) a7))) (a0 (d9 (a0 (b0 2) (a0 (b0 1) a7))) (a0 (d9 (a0 (b0 4) (a0 (b0 1) a7))) (a0 (d9 (a0 (b0 3) (a0 (b0 2) a7))) (a0 (d9 (a0 (b0 20) (a0 (b0 1) a7))) a7))))))) (a9 mo (a0 (dV 0) (a0 (b0 5) a7)))) a7)))))))))))
def sH (mo:a8) (J:a8):a8:=t7 5 (ic mo J)
def J8 (J:a8) (L:a8):DM:=(c8 (e8 (j7 (k6 (j4 (j8 (J9 "tuple") (dL 0)))) (dB (a6 o9 (d8 (one j5) (a0 (dL 0) a7)) (b0 5)))) (d6 (dC (.bl false))) f9) (c8 (e8 (j7 (k6 (j4 (a9 L (a0 (k0 0 0) a7)))) (k6 (j4 (a9 L (a0 (k0 0 4) a7))))) (d6 (dC (.bl false))) f9) (c8 (e8 (j7 (dB (a6 aH (k0 0 1) (dC (.tup [(.str "both"),(.str "left"),(.str "right")])))) (j7 (dB (a6 aH (k0 0 2) (dC (.tup [(.str "cut"),(.str "square"),(.str "round")])))) (dB (a6 aH (k0 0 3) (dC (.tup [(.str "cut"),(.str "pointed"),(.str "round")])))))) (d6 (dC (.bl false))) f9) (d6 (m8 (a9 J (a0 (d9 (a0 (b0 0) (a0 (b0 1) a7))) (a0 (k0 0 0) a7))) (n9 (a9 J (a0 (k0 0 4) (a0 (d9 (a0 (b0 1) (a0 (b0 1) a7))) a7)))))))))
def qI (J:a8) (L:a8):a8:=t7 1 (J8 J L)
def dY (J:a8):DM:=(c8 (e8 (k6 (j4 (j8 (J9 "tuple") (k0 0 1)))) (d6 (dC (.bl false))) f9) (c8 (d5 (j9 (j4 (k0 0 0)) (b0 3) (b0 2)) (d0 1)) (c8 (d5 (j9 (j4 (k0 0 0)) (b0 8) (b0 9)) (d0 2)) (c8 (e8 (j7 (dB (a6 (i8 (fun i j=>decide (i<j))) (d8 (one j5) (a0 (k0 0 1) a7)) (dL 1))) (dB (a6 (i8 (fun i j=>decide (j<i))) (d8 (one j5) (a0 (k0 0 1) a7)) (dL 2)))) (d6 (dC (.bl false))) f9) (d6 (d8 (one M0) (a0 (i5 (B6 [] (D9 (k0 0 1)) w6 (a9 J (a0 (dV 0) a7)))) a7)))))))
def tq (J:a8):a8:=t7 3 (dY J)
def gK:DM:=(c8 (e8 (j4 (dL 1)) (d6 (i5 (X2 aM (a0 (dL 0) (a0 (a6 j6 (T5 (dL 0) (M8 (b0 1)) P5) (T5 (dL 0) P5 (M8 (b0 1)))) a7))))) f9) (d6 (i5 (X2 aM (a0 (dL 0) (a0 (T5 (dL 0) (M8 (b0 1)) P5) a7))))))
def R5:a8:=t7 2 (gK)
def dX (J:a8):DM:=(d6 (d8 (one K8) (a0 (a9 J (a0 (k0 0 1) (a0 (k0 0 0) a7))) a7)))
def oC (J:a8):a8:=t7 1 (dX J)
def je (J:a8):DM:=(d6 (d8 (one M0) (a0 (i5 (cg [] (D9 (a9 J (a0 (dV 0) a7))) w6 (a6 o9 (dL 0) (dL 1)))) a7)))
def nX (J:a8):a8:=t7 1 (je J)
def cU (J:a8) (L:a8):DM:=(d6 (m8 (a6 u6 (a9 L (a0 (dV 0) (a0 (dV 1) (a0 (dV 2) a7)))) (b0 0)) (a6 u6 (a9 J (a0 (dV 0) (a0 (dV 1) a7))) (a9 J (a0 (dV 1) (a0 (dV 2) a7))))))
def nH (J:a8) (L:a8):a8:=t7 3 (cU J L)
abbrev fj (m0C:a8) (m0b:a8) (m0c:a8):DM:=(e8 (j4 (a9 m0C (a0 (k0 1 0) (a0 (k0 1 1) (a0 (k0 2 1) a7))))) (d6 (dC (.bl false))) f9)
def fS (M:a8) (J:a8) (L:a8):DM:=(c8 (R0 (a9 J (a0 (a9 L (a0 (dV 0) a7)) (a0 (k0 0 0) a7))) (m6 2 (l5 (d0 1) (l5 (d0 2) m7))) (fj M J L)) (d6 (dC (.bl true))))
def lS (L:a8) (J:a8) (M:a8):a8:=t7 3 (fS L J M)
def Y8 (J:a8) (M:a8) (L:a8):DM:=(c8 (e8 (j7 (k6 (j4 (j8 (J9 "tuple") (dL 0)))) (j7 (dB (a6 o9 (d8 (one j5) (a0 (dL 0) a7)) (b0 2))) (k6 (j4 (j8 (J9 "bool") (k0 0 0)))))) (d6 (dC (.bl false))) f9) (d6 (m8 (a9 L (a0 (dV 0) a7)) (m8 (a9 M (a0 (dV 0) a7)) (a9 J (a0 (dV 0) a7))))))
def nJ (J:a8) (M:a8) (L:a8):a8:=t7 1 (Y8 J M L)
def kJ (J:a8) (L:a8) (mo:a8):DM:=(c8 (d5 (a6 c7 (i5 (i6 (a0 (d9 (a0 (b0 1) (a0 (b0 0) (a0 (b0 1) a7)))) (a0 (d9 (a0 (b0 1) (a0 (b0 0) (a0 (b0 1) a7)))) (a0 (d9 (a0 (b0 3) (a0 (b0 4) (a0 (b0 5) a7)))) (a0 (d9 (a0 (b0 4) (a0 (b0 3) (a0 (b0 5) a7)))) (a0 (d9 (a0 (b0 5) (a0 (b0 12) (a0 (b0 13) a7)))) (a0 (d9 (a0 (b0 8) (a0 (b0 15) (a0 (b0 17) a7)))) a7)))))))) (a9 mo (a0 (dV 0) (a0 (b0 6) a7)))) (m6 3 (l5 (d0 1) (l5 (d0 2) (l5 (d0 3) m7))))) (c8 (e8 (dB (a6 u6 (a9 mo (a0 (dV 0) (a0 (b0 2) a7))) (b0 0))) (m5 1 2 (a0 (dV 2) (a0 (dV 1) a7))) f9) (c8 (d5 (a6 o8 (dL 1) (a6 l7 (b0 1) (a6 o8 (b0 2) (a9 mo (a0 (dV 0) (a0 (b0 2) a7)))))) (d0 1)) (c8 (d5 (a6 o8 (dL 2) (a6 l7 (b0 1) (a6 o8 (b0 2) (a9 mo (a0 (dV 0) (a0 (b0 2) a7)))))) (d0 2)) (c8 (d5 (a6 o8 (a6 c7 (i5 (i6 (a0 (b0 1) (a0 (b0 2) (a0 (b0 3) (a0 (b0 4) (a0 (b0 6) a7))))))) (a9 mo (a0 (dV 0) (a0 (b0 5) a7)))) (a6 c7 (i5 (i6 (a0 (b0 1) (a0 (dV 3) a7)))) (a9 mo (a0 (dV 0) (a0 (b0 2) a7))))) (d0 4)) (c8 (d5 (a9 L (a0 (dV 4) (a0 (a6 c7 (i5 (i6 (a0 (b0 1) (a0 (dV 3) (a0 (a6 o8 (b0 2) (dL 3)) a7))))) (a9 mo (a0 (dV 0) (a0 (b0 3) a7)))) a7))) (d0 4)) (d6 (i5 (B6 [4] (D9 (d9 (a0 (dV 1) (a0 (dV 2) (a0 (dV 3) a7))))) w6 (a9 J (a0 (d9 (a0 (dV 0) (a0 (b0 1) a7))) (a0 (dV 1) a7))))))))))))
def lF (J:a8) (L:a8) (mo:a8):a8:=t7 5 (kJ J L mo)
def cX (mo:a8) (J:a8) (L:a8) (W:a8) (M:a8) (U:a8):DM:=(c8 (d5 (a9 M (a0 (dV 0) a7)) (d0 1)) (c8 (d5 (a9 U (a0 (dV 0) a7)) (d0 2)) (c8 (e8 (dB (a6 u6 (a9 mo (a0 (dV 0) (a0 (b0 2) a7))) (b0 0))) (c8 (d5 (a9 M (a0 (dV 0) a7)) (d0 3)) (e8 (dB (a6 o9 (a9 L (a0 (k0 1 0) (a0 (k0 3 1) a7))) (a9 L (a0 (k0 1 1) (a0 (k0 3 0) a7))))) (c8 (d5 (a9 J (a0 (dV 2) (a0 (k0 1 0) (a0 (k0 1 1) a7)))) (d0 4)) (c8 (d5 (a9 J (a0 (dV 2) (a0 (k0 3 0) (a0 (k0 3 1) a7)))) (d0 5)) (d6 (d9 (a0 (dC (.bl true)) (a0 (d9 (a0 (dV 2) (a0 (dV 4) (a0 (a9 J (a0 (dV 4) (a0 (k0 3 0) (a0 (k0 3 1) a7)))) (a0 (dV 5) a7))))) a7)))))) f9)) f9) (c8 (d5 (a9 W (a0 (a6 j6 (b0 1) (a9 mo (a0 (dV 0) (a0 (b0 3) a7)))) (a0 (a6 j6 (b0 1) (a9 mo (a0 (dV 0) (a0 (b0 2) a7)))) a7))) (d0 6)) (c8 (m5 7 8 (a0 (a9 L (a0 (dV 6) (a0 (d9 (a0 (b0 3) (a0 (b0 1) a7))) a7))) (a0 (a9 L (a0 (dV 6) (a0 (d9 (a0 (b0 4) (a0 (b0 1) a7))) a7))) a7))) (c8 (J3 9 (i6 (a0 (dV 2) (a0 (a9 J (a0 (dV 2) (a0 (dV 7) (a0 (d9 (a0 (b0 0) (a0 (b0 1) a7))) a7)))) (a0 (a9 J (a0 (dV 2) (a0 (dV 7) (a0 (dV 8) a7)))) (a0 (a9 J (a0 (dV 2) (a0 (d9 (a0 (b0 0) (a0 (b0 1) a7))) (a0 (dV 8) a7)))) a7)))))) (c8 (d5 (a6 c7 (i5 (i6 (a0 (d9 (a0 (b0 0) (a0 (b0 1) (a0 (b0 2) a7)))) (a0 (d9 (a0 (b0 0) (a0 (b0 2) (a0 (b0 1) a7)))) (a0 (d9 (a0 (b0 0) (a0 (b0 2) (a0 (b0 1) (a0 (b0 3) a7))))) (a0 (d9 (a0 (b0 0) (a0 (b0 1) (a0 (b0 3) (a0 (b0 2) a7))))) (a0 (d9 (a0 (b0 3) (a0 (b0 1) (a0 (b0 0) a7)))) a7))))))) (a9 mo (a0 (dV 0) (a0 (b0 5) a7)))) (d0 10)) (d6 (d9 (a0 (dC (.bl true)) (a0 (d8 (one K8) (a0 (i5 (gw [9] (B6 [9] (D9 (dV 10)) w6 (a6 c7 (dL 1) (dL 0))))) a7)) a7)))))))))))
def ox (mo:a8) (U:a8) (M:a8) (W:a8) (L:a8) (J:a8):a8:=t7 11 (cX mo U M W L J)
def hV (L:a8) (J:a8):DM:=(c8 (d5 (a9 J (a0 (k0 0 0) (a0 (k0 1 1) a7))) (d0 2)) (c8 (d5 (a9 J (a0 (k0 0 1) (a0 (k0 1 0) a7))) (d0 3)) (c8 (d5 (a9 L (a0 (a9 J (a0 (k0 0 0) (a0 (k0 1 0) a7))) (a0 (a9 J (a0 (k0 0 1) (a0 (k0 1 1) a7))) a7))) (d0 4)) (d6 (m8 (a6 u6 (dL 2) (dL 3)) (a6 (i8 (fun i j=>decide (j<i))) (k0 4 0) (b0 0)))))))
def oa (J:a8) (L:a8):a8:=t7 5 (hV J L)
abbrev lG (m0D:a8) (m05:a8) (mo:a8) (m0n:a8) (m07:a8) (m03:a8):DM:=(c8 (d5 (a9 m07 (a0 (dV 0) a7)) (d0 5)) (c8 (e8 (l4 (dB (a6 o9 (dL 3) (i5 (i6 a7)))) (dB (a6 u6 (a9 mo (a0 (dV 0) (a0 (b0 8) a7))) (b0 0)))) (J3 5 (i6 (a0 (a9 m0n (a0 (a6 c7 (a6 c7 (dL 3) (j8 k9 (b0 1))) (b0 0)) a7)) (a0 (a9 m0n (a0 (a6 c7 (a6 c7 (dL 3) (j8 k9 (b0 1))) (b0 1)) a7)) (a0 (a6 c7 (a6 c7 (dL 3) (j8 k9 (b0 1))) (b0 2)) a7))))) f9) (e8 (j7 (dB (a6 u6 (dL 3) (i5 (i6 a7)))) (k6 (j4 (a9 m0D (a0 (a6 c7 (dL 3) (j8 k9 (b0 1))) (a0 (dV 5) a7)))))) (c8 (K3 3 (dV 5)) (K3 2 (a9 m05 (a0 (a6 c7 (dL 2) (j8 k9 (b0 1))) (a0 (k0 5 0) (a0 (k0 5 1) a7)))))) f9)))
def fF (L:a8) (W:a8) (mo:a8) (U:a8) (M:a8) (J:a8):DM:=(c8 (J3 2 (i6 (a0 (a9 J (a0 (dV 0) a7)) a7))) (c8 (J3 3 (i6 a7)) (c8 (Y3 (a0 (a6 j6 (b0 1) (a9 mo (a0 (dV 0) (a0 (a6 l7 (dL 1) (b0 1)) a7)))) a7) (d0 4) (lG L W mo U M J)) (d6 (d9 (a0 (dC (.bl false)) (a0 (d8 (one K8) (a0 (dL 2) a7)) a7)))))))
def nB (J:a8) (W:a8) (mo:a8) (U:a8) (M:a8) (L:a8):a8:=t7 6 (fF J W mo U M L)
def fq (mo:a8) (L:a8) (J:a8):DM:=(d6 (j9 (dB (a6 u6 (a9 mo (a0 (dV 0) (a0 (b0 4) a7))) (b0 0))) (a9 L (a0 (dV 0) a7)) (a9 J (a0 (dV 0) (a0 (dV 1) a7)))))
def og (mo:a8) (L:a8) (J:a8):a8:=t7 2 (fq mo L J)
end T
namespace DL
open PySem L2
def E3 (c:Nat):List Nat->List (List Nat)
 |[]=>[[]]
 |x::r=>if x=c then []::E3 c r else match E3 c r with
  |[]=>[[x]]
  |a::s=>(x::a)::s
def jn (c:Nat):List (List Nat)->List Nat
 |[]=>[]
 |[a]=>a
 |a::b::r=>a++c::jn c (b::r)
def lT (c:Nat):∀l,E3 c l≠[]
 |[]=>by simp[E3]
 |x::r=>by
  unfold E3;split
  .simp
  .split <;> simp
theorem eF (c:Nat) (r:List Nat):∀a:List Nat,c ∉ a->E3 c (a++c::r)=a::E3 c r
 |[],_=>by simp[E3]
 |x::a,h=>by
  have h1:x≠c:=fun z=>h (by simp[z])
  have h2:c ∉ a:=fun z=>h (HB _ z)
  rw[KU,E3,gV h1,eF c r a h2]
theorem dj (c:Nat):∀a:List Nat,c ∉ a->E3 c a=[a]
 |[],_=>rfl
 |x::a,h=>by
  have h1:x≠c:=fun z=>h (by simp[z])
  have h2:c ∉ a:=fun z=>h (HB _ z)
  rw[E3,gV h1,dj c a h2]
theorem eP (c:Nat):∀ps:List (List Nat),ps≠[]->(∀p∈ps,c ∉ p)->E3 c (jn c ps)=ps
 |[],h,_=>absurd rfl h
 |[a],_,h=>dj c a (h a (by simp))
 |a::b::r,_,h=>by
  rw[jn,eF c _ a (h a (by simp)),eP c (b::r) (by simp) fun p J=>h p (HB _ J)]
def N0 (a b:Str):(a++b).cps.toList=a.cps.toList++b.cps.toList:=by
 rw[Str.cps_append];simp
def aF {a b:Str}(h:a.cps.toList=b.cps.toList):a=b:=Str.ext' (Array.toList_inj.mp h)
def d7 (l:List Nat):Str:=#[l.toArray]
def aO (l:List Nat):(d7 l).cps.toList=l:=rfl
def gh (x:Str):d7 x.cps.toList=x:=aF rfl
def bQ (x:Str):x.cps.toList.length=x.length:=JU
theorem jx (c:Nat):∀ss:List Str,(Str.join #[#v[c]] ss).cps.toList=jn c (ss.map fun x=>x.cps.toList)
 |[]=>rfl
 |[x]=>rfl
 |x::y::r=>by
  show (x++#[#v[c]]++Str.join #[#v[c]] (y::r)).cps.toList=_;rw[N0,N0,jx c (y::r)];simp[jn]
def Hj (c:Nat) (J:List Str):Txt.join #[#v[c]] J=d7 (jn c (J.map fun x=>x.cps.toList)):=by
 show Builtin.Str.glued _ _=_;rw[StrLaws.glued_eq_join];exact aF (jx c J)
def Bc (x:Str) (c:Nat):Txt.split x #[#v[c]]=(E3 c x.cps.toList).map d7:=by
 have h1:=congrArg (fun y:Str=>y.cps.toList) (StrLaws.join_split x #[#v[c]]);simp only[jx] at h1;have h2:=eP c ((Txt.split x #[#v[c]]).map fun x=>x.cps.toList) (fun z=>by
  have:=PyProof.Rows.split_pos x #[#v[c]];rw[List.map_eq_nil_iff.mp z] at this;exact absurd this #[]) (fun p J=>by
  obtain⟨q,L,rfl⟩:=HW.mp J;exact StrLaws.split_free x c q L)
 rw[h1] at h2;rw[h2,IC];exact(List.map_id' _).symm.trans (Lj fun q _=>(gh q).symm)
def dg (m:Nat):List Nat:=(Nat.toDigits 10 m).map Char.toNat
def gU {m:Nat}(h:m<10):dg m=[48+m]:=by
 unfold dg;rw[Nat.toDigits_of_lt_base h];have:∀d:Nat,d<10->(Nat.digitChar d).toNat=48+d:=by decide
 simp[this m h]
def mE {m:Nat}(h:10<=m):dg m=dg (m / 10)++dg (m % 10):=by
 have J:m % 10<10:=Nat.mod_lt m #[];have t:Nat.toDigits 10 (m / 10)++Nat.toDigits 10 (m % 10)=Nat.toDigits 10 (10*(m / 10)+m % 10):=Nat.toDigits_append_toDigits #[] ∅ J;rw[Nat.div_add_mod] at t;unfold dg;rw[<-t,Kr]
def eE (m:Nat):∀c∈dg m,48<=c/\c<=57:=by
 induction m using Nat.strongRecOn with
 |_ m L=>
  by_cases h:m<10
  .rw[gU h];intro c J;rw[IU.mp J];omega
  .rw[mE ∅];intro c J;rcases Im.mp J with z | z
   .exact L (m / 10) ∅ c z
   .exact L (m % 10) ∅ c z
def nQ (m:Nat) (L:m≠0):∃c r,dg m=c::r/\c≠48:=by
 induction m using Nat.strongRecOn with
 |_ m J=>
  by_cases h:m<10
  .exact#[48+m,[],gU h,by omega]
  .obtain⟨c,r,e,q⟩:=J (m / 10) ∅ ∅;exact#[c,r++dg (m % 10),by rw[mE ∅,e];rfl,q]
def Ho (m:Nat):PySem.NumText.digitsVal (dg m)=m:=PySem.W.KIN.val_back m
def yA (m:Nat):dg m≠[]:=by
 by_cases h:m=0
 .subst h;rw[gU #[]];simp
 .obtain⟨c,r,e,_⟩:=nQ m h;rw[e];simp
def zd {k m:Nat}(J:1<=k) (h:m<10 ^ k):(dg m).length<=k:=by
 unfold dg;rw[Hr];exact PyProof.Rows.digits10_le J h
def E1 (i:Int):Str:=(toString i:String)
def nL (i:Int):List Nat:=if i<0 then 45::dg i.natAbs else dg i.natAbs
def kC (m:Nat):(E1 (m:Int)).cps.toList=dg m:=PySem.W.KIN.signs_num m
def fy (i:Int):(E1 i).cps.toList=nL i:=by
 unfold nL;by_cases h:i<0
 .rw[fI h];have e:E1 i=("-" : Str)++E1 (i.natAbs:Int):=by
   unfold E1;rw[PyProof.Rows.toString_neg h,show (0:Int) - i=(i.natAbs:Int) by omega];exact aF (by rw[N0,Ks,Ks,Ks,String.toList_append,Kr])
  rw[e,N0,kC];rfl
 .rw[gV h];have e:=kC i.natAbs;rw[show (i.natAbs:Int)=i by omega] at e;exact e
def aS {k:Nat}(L:0<k) (h:n<2 ^ k):n.log2<k:=by
 by_cases J:n=0
 .subst J;simpa using L
 .exact(Nat.log2_lt J).mpr h
def cf {i:Int}(h:i.natAbs<2 ^ 200):A8 i=true:=by
 have:=aS #[] h;exact xl ∅
def uN {j:Int}(J:j≠0) (h:j.natAbs<2 ^ 200):G4 j=true:=by
 have:=aS #[] h;unfold G4;rw[xl J,IZ];exact xl ∅
def mV (i:Int):A5 (.int i)=true:=by simp[A5,D.plain,D.py,SeqAt.shaped,PyData.canLay0,PyData.depth]
def F0 (i j:Int):o9 (.int i) (.int j)=some (.bl (!decide (i=j))):=by
 simp only[o9,mV,Ig,HI,D.py,PyData.eqv,JH]
def F9 (i j:Int):u6 (.int i) (.int j)=some (.bl (decide (i=j))):=by
 simp only[u6,mV,Ig,HI,D.py,PyData.eqv,JH]
def de (x y:Str):o9 (.str x) (.str y)=some (.bl (!decide (x=y))):=rfl
def jW (x y:Str):u6 (.str x) (.str y)=some (.bl (decide (x=y))):=rfl
def GR {i:Int}(h:i.natAbs.log2<1920):(PySem.Str.ofString (toString i)).length<=1921:=PyProof.Rows.int_text_len_1921 h
def zA (h:W5 d=true):B5 d=some (.str d.py.shown):=by unfold B5;rw[fI h]
def qT (f:FS) (h:f.kind=0):f.get "at" = some (.int f.pos):=by unfold FS.get;rw[fI h,gV (by decide +kernel),fI rfl]
def tG {α:Type}{xs:List α}{i:Int}(J:0<=i) (h1:i<xs.length):n8 xs i=xs[i.toNat]?:=by
 unfold n8 L8;rw[fI J,fI h1];rfl
def T2 {a b:Int}(h:0<b):0<=a.fmod b/\a.fmod b<b:=by
 rw[Lk a ∅];exact#[Int.emod_nonneg a ∅,Int.emod_lt_of_pos a h]
def i9 {a b:DM}{s:DS}(h:a s=some (.next,s1)):c8 a b s=b s1:=by simp[c8,h,m9]
def E2 {a b:DM}{s:DS}(h:a s=some (.ret d,s1)):c8 a b s=some (.ret d,s1):=by simp[c8,h,m9]
def Dg {f:DE}{s:DS}(h:f s=some (d,s1)):d5 f (d0 i) s=some (.next,{ s1 with sl:=s1.sl.set i (.v d) }):=by simp[d5,h,d0]
def C0 {a:DA}{s:DS}{xs:vD_}{fs:vO_}(J:a s=some (xs,s1)) (L:m xs s1.fs=some (d,fs)):a9 m a s=some (d,{ s1 with fs:=fs }):=by
 unfold a9;rw[J,Hq,L];rfl
def c9 {a b:DE}{s:DS}{x y z:D}(h1:a s=some (x,s1)) (h2:b s1=some (y,s2)) (J:p x y=some z):a6 p a b s=some (z,s2):=by
 unfold a6;rw[h1,Hq,h2,Hq,J];rfl
def l0 {a:DE}{b:DA}{s:DS}{x:D}{xs:vD_}(h1:a s=some (x,s1)) (h2:b s1=some (xs,s2)):a0 a b s=some (x::xs,s2):=by
 unfold a0;rw[h1,Hq,h2];rfl
def u4 {f:DE}{t:D->DS->Option DS}{s:DS}(h1:f s=some (d,s1)) (h2:t d s1=some s2):d5 f t s=some (.next,s2):=by
 unfold d5;rw[h1,Hq,h2];rfl
def C4 {a b:DM}{s:DS}(h:c s=some (true,s1)):e8 c a b s=a s1:=by simp[e8,h]
def aP {a b:DM}{s:DS}(h:c s=some (false,s1)):e8 c a b s=b s1:=by simp[e8,h]
def u7 {f:DE}{s:DS}(h:f s=some (d,s1)):d6 f s=some (.ret d,s1):=by simp[d6,h]
def x8 {f:DE}{s:DS}{b:Bool}(h:f s=some (.bl b,s1)):dB f s=some (b,s1):=by simp[dB,h]
def p9 {b:DM}{fs:vO_}{s:DS}(h:b #[ds.map .v++List.replicate (n - ds.length) .no,fs]=some (.ret d,s)):t7 n b ds fs=some (d,s.fs):=by simp[t7,h]
def u9 {a:DA}{fs:vO_}{xs:vD_}(J:a #[sl,fs]=some (xs,#[sl,fs])) (L:m xs fs=some (d,fs)):a9 m a #[sl,fs]=some (d,#[sl,fs]):=C0 (s1:=#[sl,fs]) J L
def F6 {a:DA}{fs:vO_}{xs:vD_}(J:a #[sl,fs]=some (xs,#[sl,fs])) (L:m xs fs=some (d,fs')):a9 m a #[sl,fs]=some (d,#[sl,fs']):=C0 (s1:=#[sl,fs]) J L
def eQ {a:DA}{fs J:vO_}{xs:vD_}(L:a #[sl,fs]=some (xs,#[sl',fs'])) (M:m xs fs'=some (d,J)):a9 m a #[sl,fs]=some (d,#[sl',J]):=C0 (s1:=#[sl',fs']) L M
def zq {a b c:DE}{s J:DS}{x y z:D}(h1:a s=some (x,s1)) (h2:b s1=some (y,s2)) (L:c s2=some (z,J)):d9 (a0 a (a0 b (a0 c a7))) s=some (.tup [x,y,z],J):=by
 unfold d9;rw[l0 h1 (l0 h2 (l0 L rfl)),Hq];exact fI (e:=(none:Option (D × DS))) (show 3<=sizeLine by decide)
def Q0 {t:D->DS->Option DS}{b:DM}{r:vD_}{s:DS}(h1:t d s=some s1) (h2:b s1=some (.next,s2)):C5 t b (d::r) s=C5 t b r s2:=by
 rw[C5,h1,Hq,h2];rfl
def Y1 {a b:DE}{s:DS}{x y:D}(h1:a s=some (x,s1)) (h2:b s1=some (y,s2)):d9 (a0 a (a0 b a7)) s=some (.tup [x,y],s2):=by
 unfold d9;rw[l0 h1 (l0 h2 rfl),Hq];exact fI (e:=(none:Option (D × DS))) (show 2<=sizeLine by decide)
def M4 {f:DE}{s:DS}{b:Bool}(h:f s=some (.bl b,s1)):j4 f s=some (b,s1):=by
 unfold j4;rw[h];rfl
def V4 {a:DT}{s:DS}{b:Bool}(h:a s=some (b,s1)):k6 a s=some (!b,s1):=by
 unfold k6;rw[h];rfl
def iw {a b:DT}{s:DS}{r:Option (Bool × DS)}(h1:a s=some (true,s1)) (h2:b s1=r):l4 a b s=r:=by
 unfold l4;rw[h1,Hq,fI rfl];exact h2
def ez {a b:DT}{s:DS}(h1:a s=some (false,s1)):l4 a b s=some (false,s1):=by
 unfold l4;rw[h1,Hq,gV Hx]
def Y4 {a b:DT}{s:DS}(h1:a s=some (true,s1)):j7 a b s=some (true,s1):=by
 unfold j7;rw[h1,Hq,fI rfl]
def F2 {a b:DT}{s:DS}{r:Option (Bool × DS)}(h1:a s=some (false,s1)) (h2:b s1=r):j7 a b s=r:=by
 unfold j7;rw[h1,Hq,gV Hx];exact h2
def C3 {a:DM}{s:DS}(h:c s=some (false,s1)):e8 c a f9 s=some (.next,s1):=by
 rw[aP h];rfl
def gN {f:DA}{s:DS}(h:f s=some (ds,s1)) (hi:i<s1.sl.length):J3 i f s=some (.next,{ s1 with sl:=s1.sl.set i (.own ds) }):=by
 unfold J3;rw[h,Hq,fI hi]
def D4 {f:DA}{s:DS}(h:f s=some (ds,s1)):i5 f s=some (.lst ds,s1):=by
 unfold i5;rw[h];rfl
def dI {p:D->D->Option (List D)}{a b:DE}{s:DS}{x y:D}{z:vD_}(h1:a s=some (x,s1)) (h2:b s1=some (y,s2)) (J:p x y=some z):Y0 p a b s=some (z,s2):=by
 unfold Y0;rw[h1,Hq,h2,Hq,J];rfl
def af {s:DS}{R:vD_}(h:fi s=some (ds,s1)) (hz:ds.length<=sizeLine) (c:A9 (fun d=>some (.v d::F8 idx s1.sl)) fc fe ds s1.fs=some (R,s1.fs)):B6 idx fi fc fe s=some (R,s1):=by
 unfold B6;rw[h,Hq,fI hz,c];rfl
def iX {f:DE}{s:DS}{J:vD_}(L:s.sl[i]? = some (.own J)) (h:f s=some (d,s1)) (h1:s1.sl[i]? = some (.own ds)) (hl:ds.length<sizeLine):K3 i f s=some (.next,{ s1 with sl:=s1.sl.set i (.own (ds++[d])) }):=by
 unfold K3;rw[L];show (f s).bind _=_;rw[h,Hq];show (match s1.sl[i]? with | some (.own ds)=>_ | _=>_)=_;rw[h1];exact fI hl
def gJ {a:DE}{s:DS}{x:D}(h:a s=some (x,s1)):i6 (a0 a a7) s=some ([x],s1):=by
 unfold i6;rw[l0 h rfl,Hq];exact fI (e:=(none:Option (List D × DS))) (show 1<=sizeLine by decide)
def fP {a b:DE}{s:DS}{x y:D}(h:a s=some (x,s1)) (h2:b s1=some (y,s2)):i6 (a0 a (a0 b a7)) s=some ([x,y],s2):=by
 unfold i6;rw[l0 h (l0 h2 rfl),Hq];exact fI (e:=(none:Option (List D × DS))) (show 2<=sizeLine by decide)
def C7 {p:D->Option D}{a:DE}{s:DS}{x:D}(h:a s=some (x,s1)) (J:p x=some d):d8 (one p) (a0 a a7) s=some (d,s1):=by
 unfold d8;rw[l0 h rfl,Hq];show (p x).map _=_;rw[J];rfl
def R8 {a b:DE}{s:DS}(h:c s=some (true,s1)):j9 c a b s=a s1:=by
 unfold j9;rw[h];rfl
def W9 {a b:DE}{s:DS}(h:c s=some (false,s1)):j9 c a b s=b s1:=by
 unfold j9;rw[h];rfl
def fr (p:Rat):D:=.tup [.int p.num,.int p.den]
def Sz (k:Nat) (p:Rat):Prop:=p.num.natAbs<2 ^ k/\p.den<2 ^ k
def Sz.mono {k:Nat}{p:Rat}(h:Sz k p) (hl:k<=l):Sz l p:=
 #[Hw h.1 (JI #[] hl),Hw h.2 (JI #[] hl)]
def fu {a b:Int}(J:b≠0):(Rat.divInt a b).num.natAbs<=a.natAbs/\(Rat.divInt a b).den<=b.natAbs:=by
 constructor
 .rw[Ll,Int.natAbs_ediv_of_dvd (Int.dvd_mul_of_dvd_right (Kt ..))];rw[Lm,Int.natAbs_sign_of_ne_zero J,Nat.one_mul];exact Ku _ _
 .rw[Ln,gV J];exact Ku _ _
def Sz.of_divInt {k:Nat}{a b:Int}(J:b≠0) (h1:a.natAbs<2 ^ k) (h2:b.natAbs<2 ^ k):Sz k (Rat.divInt a b):=
 #[Ie (fu J).1 h1,Ie (fu J).2 h2]
def oD {a b k:Nat}(h1:a<2 ^ k) (h2:b<2 ^ l):a*b<2 ^ (k+l):=by
 rw[Nat.pow_add];exact Nat.mul_lt_mul_of_lt_of_lt h1 h2
def Ci {a b k:Nat}(h1:a<2 ^ k) (h2:b<2 ^ k):a+b<2 ^ (k+1):=by
 rw[Nat.pow_succ];omega
def Bd (k:Nat) (i:Int):Prop:=i.natAbs<2 ^ k
def Bd.mono {k:Nat}{i:Int}(h:Bd k i) (hl:k<=l):Bd l i:=Hw h (JI #[] hl)
def Bd.mul {k:Nat}{i j:Int}(h1:Bd k i) (h2:Bd l j):Bd (k+l) (i*j):=by
 unfold Bd;rw[Lm];exact oD h1 h2
def Bd.add {k:Nat}{i j:Int}(h1:Bd k i) (h2:Bd l j):Bd (max k l+1) (i+j):=
 Ie (Int.natAbs_add_le i j) (Ci (h1.mono (Nat.le_max_left ..)) (h2.mono (Nat.le_max_right ..)))
def Bd.neg {k:Nat}{i:Int}(h1:Bd k i):Bd k (-i):=by unfold Bd;rw[Lo];exact h1
def Bd.sub {k:Nat}{i j:Int}(h1:Bd k i) (h2:Bd l j):Bd (max k l+1) (i - j):=by rw[Int.sub_eq_add_neg];exact h1.add h2.neg
theorem Bd.gcd {k:Nat}{i:Int}{j:Int}(h:Bd k j) (J:j≠0):Bd k (Int.gcd i j:Int):=by
 have:Int.gcd i j<=j.natAbs:=Nat.le_of_dvd ∅ (Nat.gcd_dvd_right i.natAbs j.natAbs);exact Ie this h
def Bd.bits {k:Nat}{i:Int}(h:Bd k i) (J:k<=8000):A8 i=true:=by
 have:=aS (k:=8000) #[] (h.mono J);exact xl ∅
def Bd.div {k:Nat}{i:Int}(h:Bd k i) (L:i≠0) (J:k<=8000):G4 i=true:=by
 have:=aS (k:=8000) #[] (h.mono J);unfold G4;rw[xl L,IZ];exact xl ∅
theorem Sz.num {k:Nat}{p:Rat}(h:Sz k p):Bd k p.num:=h.1
theorem Sz.den {k:Nat}{p:Rat}(h:Sz k p):Bd k (p.den:Int):=h.2
def J7 (p:Rat):(p.den:Int)≠0:=by have:=p.den_nz;omega
def den_pos (p:Rat):(0:Int)<p.den:=by have:=p.den_nz;omega
def fX (p:Rat):p=Rat.divInt p.num p.den:=(JJ p).symm
theorem Sz.mul {k:Nat}{p:Rat}(h1:Sz k p) (h2:Sz l q):Sz (k+l) (p*q):=by
 rw[fX p,fX q,Rat.divInt_mul_divInt];exact Sz.of_divInt (Lp (J7 p) (J7 q)) (Bd.mul h1.num h2.num) (Bd.mul h1.den h2.den)
theorem Sz.add {k:Nat}{p:Rat}(h1:Sz k p) (h2:Sz l q):Sz (k+l+1) (p+q):=by
 rw[fX p,fX q,Rat.divInt_add_divInt _ _ (J7 p) (J7 q)];refine Sz.of_divInt (Lp (J7 p) (J7 q)) ?_ (Bd.mono (Bd.mul h1.den h2.den) ∅);have L:=Bd.mul h1.num h2.den;have J:=Bd.mul h2.num h1.den;exact Bd.mono (Bd.add L J) ∅
def Sz.neg {k:Nat}{p:Rat}(h:Sz k p):Sz k (-p):=#[by rw[Rat.neg_num,Lo];exact h.1,h.2]
def Sz.int {k:Nat}{i:Int}(h:Bd k i) (J:1<=k):Sz k (i:Rat):=#[h,Hw (by decide:1<2 ^ 1) (JI #[] J)]
def Sz.lit {k:Nat}{p:Rat}(h:decide (p.num.natAbs<2 ^ k/\p.den<2 ^ k)=true):Sz k p:=by unfold Sz;exact HS h
def sr {a b:Int}(J:0<b):(Rat.divInt a b).num=a / (Int.gcd a b:Int):=by
 rw[Ll,Kv,LR J,Int.one_mul]
def nW {a b:Int}(J:0<b):((Rat.divInt a b).den:Int)=b / (Int.gcd a b:Int):=by
 rw[Ln,gV ∅,Kv];rw[JK,Int.natAbs_of_nonneg ∅]
def EL {a b:Int}(J:0<b):fr (Rat.divInt a b) = .tup [.int (a / (Int.gcd a b:Int)),.int (b / (Int.gcd a b:Int))]:=by
 unfold fr;rw[sr J,nW J]
abbrev Pt:=Rat × Rat
abbrev vT_:=List Pt
def pL (a:Pt):Int:=((Nat.lcm a.1.den a.2.den:Nat):Int)
def pX (a:Pt):Int:=a.1.num*((Nat.lcm a.1.den a.2.den / a.1.den:Nat):Int)
def pY (a:Pt):Int:=a.2.num*((Nat.lcm a.1.den a.2.den / a.2.den:Nat):Int)
def pt (a:Pt):D:=.tup [.int (pX a),.int (pY a),.int (pL a)]
theorem lcm_pos (p q:Rat):0<Nat.lcm p.den q.den:=Nat.lcm_pos (by have:=p.den_nz;omega) (by have:=q.den_nz;omega)
def pg (a:Pt):0<pL a:=by have:=lcm_pos a.1 a.2;unfold pL;omega
def bT (a:Pt):pL a≠0:=by have:=pg a;omega
def J6 (a:Pt):(0:Rat)<(pL a:Rat):=Ib.mpr (pg a)
def iZ (a:Pt):(pL a:Rat)≠0:=fun h=>bT a (Jo.mp h)
def gb (p:Rat):(p.num:Rat)=p*((p.den:Int):Rat):=by
 have e:=JJ p;rw[Ja] at e;have J:((p.den:Int):Rat)≠0:=fun h=>J7 p (Jo.mp h)
 have:(p.num:Rat) / ((p.den:Int):Rat)*((p.den:Int):Rat)=(p.num:Rat):=Rat.div_mul_cancel J;rw[e] at this;exact this.symm
theorem Y7 (a:Pt):(pX a:Rat)=a.1*(pL a:Rat):=by
 unfold pX pL;obtain⟨c,J⟩:=Nat.dvd_lcm_left a.1.den a.2.den;have L:=a.1.den_nz;have e:Nat.lcm a.1.den a.2.den / a.1.den=c:=LU ∅ J;rw[e,J,Jp,HA,HA,gb];grind
theorem X7 (a:Pt):(pY a:Rat)=a.2*(pL a:Rat):=by
 unfold pY pL;obtain⟨c,J⟩:=Nat.dvd_lcm_right a.1.den a.2.den;have L:=a.2.den_nz;have e:Nat.lcm a.1.den a.2.den / a.2.den=c:=LU ∅ J;rw[e,J,Jp,HA,HA,gb];grind
theorem tO {x d:Int}{p:Rat}(W:0<d) (h:(x:Rat)=p*(d:Rat)):∃c:Int,d=p.den*c/\x=p.num*c:=by
 have h1:x*p.den=p.num*d:=by
  have e:=gb p;have:((x*p.den:Int):Rat)=((p.num*d:Int):Rat):=by
   rw[HA,HA,h,e];grind
  exact JL.mp this
 have U:(p.den:Int)∣p.num*d:=#[x,by rw[<-h1,Jq]]
 have J:p.den∣p.num.natAbs*d.natAbs:=by
  have:=Int.natAbs_dvd_natAbs.mpr U
  rwa [Lm,Jb] at this
 have L:p.den∣d.natAbs:=Nat.Coprime.dvd_of_dvd_mul_left (Nat.Coprime.symm p.reduced) J;obtain⟨c,M⟩:(p.den:Int)∣d:=Int.dvd_natAbs.mp (Kw.mpr L);refine#[c,M,?_];have Y:=den_pos p;have:(p.den:Int)*x=p.den*(p.num*c):=by rw[Jq,h1,M];grind
 exact Int.eq_of_mul_eq_mul_left ∅ this
theorem iW {x y d:Int}{a:Pt}(Y:0<d) (hg:Int.gcd (Int.gcd x y:Int) d=1) (W:(x:Rat)=a.1*(d:Rat)) (M:(y:Rat)=a.2*(d:Rat)):x=pX a/\y=pY a/\d=pL a:=by
 obtain⟨c1,e1,f1⟩:=tO Y W;obtain⟨c2,e2,f2⟩:=tO Y M;obtain⟨D,rfl⟩:=Int.eq_ofNat_of_zero_le (show 0<=d by omega);have dl:Nat.lcm a.1.den a.2.den∣D:=Nat.lcm_dvd (Kw.mp #[c1,e1]) (Kw.mp #[c2,e2]);obtain⟨m,L⟩:=dl;have key:∀z:Int,∀r:Rat,(z:Rat)=r*((D:Int):Rat)->∀w:Int,(w:Rat)=r*(pL a:Rat)->z=w*m:=by
  intro z r h1 w h2;have:(z:Rat)=((w*m:Int):Rat):=by
   rw[h1,HA,h2,L];have:(((Nat.lcm a.1.den a.2.den*m:Nat):Int):Rat)=(pL a:Rat)*((m:Int):Rat):=by
    rw[Jp,HA];rfl
   rw[this];grind
  exact JL.mp this
 have J:=key x a.1 W (pX a) (Y7 a);have Z:=key y a.2 M (pY a) (X7 a);have U:(D:Int)=pL a*m:=by rw[L,Jp];rfl
 have m1:(m:Int)∣1:=by
  have h:(m:Int)∣(Int.gcd (Int.gcd x y:Int) (D:Int):Int):=by
   refine Int.dvd_coe_gcd (Int.dvd_coe_gcd ?_ ?_) ?_
   .exact#[pX a,by rw[J,Jq]]
   .exact#[pY a,by rw[Z,Jq]]
   .exact#[pL a,by rw[U,Jq]]
  rwa [hg] at h
 have m2:m=1:=Nat.eq_one_of_dvd_one (Kw.mp m1);subst m2;exact#[by rw[J];simp,by rw[Z];simp,by rw[U];simp]
structure Ps (k:Nat) (a:Pt):Prop where
 x:Bd k (pX a)
 y:Bd k (pY a)
 l:Bd k (pL a)
def Ps.of {k:Nat}{a:Pt}(h1:Sz k a.1) (h2:Sz l a.2):Ps (k+l) a:=by
 have hl:Nat.lcm a.1.den a.2.den<=a.1.den*a.2.den:=Nat.le_of_dvd (Nat.mul_pos (by have:=a.1.den_nz;omega) (by have:=a.2.den_nz;omega)) (Nat.lcm_dvd_mul ..);have b:=oD h1.2 h2.2;have J:Nat.lcm a.1.den a.2.den / a.1.den<=a.2.den:=by
  rw[LV (by have:=a.1.den_nz;omega)];omega
 have L:Nat.lcm a.1.den a.2.den / a.2.den<=a.1.den:=by
  rw[LV (by have:=a.2.den_nz;omega),KP a.2.den];omega
 refine#[?_,?_,?_]
 .exact Bd.mul h1.num (show Bd l ((_:Nat):Int) from Ie J h2.2)
 .have:=Bd.mul h2.num (show Bd k ((_:Nat):Int) from Ie L h1.2);rw[JD];exact this
 .exact Ie hl b
def w8 (a b c:Pt):Rat:=(b.1 - a.1)*(c.2 - a.2) - (b.2 - a.2)*(c.1 - a.1)
def W4 (r:Rat):Int:=if 0<r then 1 else if r<0 then -1 else 0
def df (n:Int):Int:=if 0<n then 1 else if n<0 then -1 else 0
def yc {n:Int}{c r:Rat}(J:0<c) (h:(n:Rat)=c*r):df n=W4 r:=by
 unfold df W4;have h1:0<n↔0<r:=by
  rw[<-Ib,h];exact Jc J
 have h2:n<0↔r<0:=by
  rw[<-Rat.intCast_neg_iff,h];exact Rat.mul_neg_iff_of_pos_left J
 simp only[h1,h2]
def P7 (a b:Pt):Bool:=decide (a.1<b.1)||(decide (a.1=b.1)&&decide (a.2<b.2))
structure Ok (k n:Nat) (d:D):Prop where
 pl:d.plain=true
 sh:d.py.showable=true
 la:d.py.canLay0=true
 dp:d.py.depth<=k
 le:d.py.leavesShort 1921=true
 bu:d.py.bulk<=n
structure OkL (k n:Nat) (ds:vD_):Prop where
 pl:D.plains ds=true
 sh:PyData.showableAll (D.pys ds)=true
 la:PyData.canLayAll0 (D.pys ds)=true
 dp:PyData.depthAll (D.pys ds)<=k
 le:PyData.leavesShortAll 1921 (D.pys ds)=true
 bu:PyData.bulkAll (D.pys ds)<=n
def Ok.mono {k k' J:Nat}(h:Ok k n d) (M:k<=k') (L:n<=J):Ok k' J d:=#[h.pl,h.sh,h.la,Ht h.dp M,h.le,Ht h.bu L]
def OkL.mono {k k' J:Nat}(h:OkL k n ds) (M:k<=k') (L:n<=J):OkL k' J ds:=#[h.pl,h.sh,h.la,Ht h.dp M,h.le,Ht h.bu L]
theorem Ok.non:Ok 0 0 .non:=#[rfl,rfl,rfl,iR _,rfl,iR _]
theorem Ok.bl (b:Bool):Ok 0 0 (.bl b):=#[rfl,rfl,rfl,iR _,rfl,iR _]
theorem Ok.int {i:Int}(h:Bd 1920 i):Ok 0 0 (.int i):=by
 have hl:i.natAbs.log2<1920:=aS #[] h;refine#[rfl,?_,rfl,iR _,?_,iR _]
 .simp only[D.py,PyData.showable];exact xl hl
 .simp only[D.py,PyData.leavesShort,PyData.shown];exact xl (GR hl)
theorem Ok.str (h:PyData.strOk x=true):Ok 0 x.length (.str x):=by
 refine#[rfl,rfl,?_,iR _,?_,iR _]
 .simp only[D.py,PyData.canLay0];exact h
 .exact PyData.leavesShort_of_canLay0 1921 (.str x) (by simp only[PyData.canLay0];exact h) rfl
def OkL.nil:OkL 0 0 []:=#[rfl,rfl,rfl,iR _,rfl,iR _]
def OkL.cons {k m:Nat}(h:Ok k n d) (J:OkL l m ds):OkL (max k l) (n+1+m) (d::ds):=by
 refine#[?_,?_,?_,?_,?_,?_]
 .simp only[D.plains,h.pl,J.pl,Ig]
 .simp only[D.pys,PyData.showableAll,h.sh,J.sh,Ig]
 .simp only[D.pys,PyData.canLayAll0,h.la,J.la,Ig]
 .have:=h.dp;have:=J.dp;simp only[D.pys,PyData.depthAll];omega
 .simp only[D.pys,PyData.leavesShortAll,h.le,J.le,Ig]
 .have:=h.bu;have:=J.bu;simp only[D.pys,PyData.bulkAll];omega
theorem Ok.tup {k:Nat}(h:OkL k n ds):Ok (k+1) n (.tup ds):=by
 refine#[?_,?_,?_,?_,?_,?_]
 .simp only[D.plain,h.pl]
 .simp only[D.py,PyData.showable,h.sh]
 .simp only[D.py,PyData.canLay0,h.la]
 .have:=h.dp;simp only[D.py,PyData.depth];omega
 .simp only[D.py,PyData.leavesShort,h.le]
 .have:=h.bu;simp only[D.py,PyData.bulk];omega
theorem Ok.lst {k:Nat}(h:OkL k n ds):Ok (k+1) n (.lst ds):=by
 refine#[?_,?_,?_,?_,?_,?_]
 .simp only[D.plain,h.pl]
 .simp only[D.py,PyData.showable,h.sh]
 .simp only[D.py,PyData.canLay0,h.la]
 .have:=h.dp;simp only[D.py,PyData.depth];omega
 .simp only[D.py,PyData.leavesShort,h.le]
 .have:=h.bu;simp only[D.py,PyData.bulk];omega
theorem OkL.all {k:Nat}:∀{ds:vD_},(∀d∈ds,Ok k n d)->OkL k (ds.length*(n+1)) ds
 |[],_=>OkL.nil.mono ∅ ∅
 |d::r,h=>by
  have:=(OkL.cons (h d (HD ..)) (OkL.all (ds:=r) fun x J=>h x (HB _ J)))
  refine this.mono ∅ ?_;rw[Hv,Nat.add_mul,Nat.one_mul];omega
def Ok.show {k n:Nat}{d:D}(h:Ok k n d) (L:k<=64:=by decide) (J:n<=8000:=by decide):W5 d=true:=by
 have e:=PyData.shown_le_bulk 1921 #[] d.py h.le;have M:(1921+2)*d.py.bulk<=1923*8000:=Nat.mul_le_mul #[] (Ht h.bu J);have:d.py.shown.length<=sizeLine:=by rw[Ih];omega
 simp only[W5,h.pl,h.sh,h.la,IZ,JM,xl this,xl (Ht h.dp L)]
def Ok.eq {k n:Nat}{d:D}(h:Ok k n d) (J:k<=64:=by decide):A5 d=true:=by
 simp only[A5,h.pl,SeqAt.shaped,h.la,IZ,xl (Ht h.dp J)]
def Ok.repr {k n:Nat}{d:D}(h:Ok k n d) (J:k<=64:=by decide) (L:n<=8000:=by decide):B5 d=some (.str d.py.shown):=zA (h.show J L)
theorem Ok.fr {k:Nat}{p:Rat}(h:Sz k p) (J:k<=1920:=by decide):Ok 1 2 (fr p):=Ok.tup ((OkL.cons (Ok.int (h.num.mono J)) (OkL.cons (Ok.int (h.den.mono J)) OkL.nil)))
theorem Ok.pt {k:Nat}{a:Pt}(h:Ps k a) (J:k<=1920:=by decide):Ok 1 3 (pt a):=Ok.tup ((OkL.cons (Ok.int (h.x.mono J)) (OkL.cons (Ok.int (h.y.mono J)) (OkL.cons (Ok.int (h.l.mono J)) OkL.nil))))
def y9 (ds:vD_) (i:Int):c7 (.tup ds) (.int i)=n8 ds i:=rfl
def v7 (ds:vD_) (i:Int):c7 (.lst ds) (.int i)=n8 ds i:=rfl
def w9 (p:Rat):c7 (DL.fr p) (.int 0)=some (.int p.num):=rfl
def v8 (p:Rat):c7 (DL.fr p) (.int 1)=some (.int p.den):=rfl
def y8 (a:Pt):c7 (DL.pt a) (.int 0)=some (.int (pX a)):=rfl
def A0 (a:Pt):c7 (DL.pt a) (.int 1)=some (.int (pY a)):=rfl
def y0 (a:Pt):c7 (DL.pt a) (.int 2)=some (.int (pL a)):=rfl
theorem CK {a b:Pt}(h1:pX a=pX b) (h2:pY a=pY b) (J:pL a=pL b):a=b:=by
 have L:=Y7 a;have W:=Y7 b;have M:=X7 a;have U:=X7 b
 have n:=iZ b;rw[h1,J] at L;rw[h2,J] at M;exact IG (by grind) (by grind)
def Am {k l:Nat}{a b:Pt}(W:Ps k a) (U:Ps l b) (M:k<=1920:=by decide) (hl:l<=1920:=by decide):o9 (pt a) (pt b)=some (.bl (!decide (a=b))):=by
 have Y:=(Ok.pt W M).eq;have L:=(Ok.pt U hl).eq;unfold pt at *;simp only[o9,Y,L,Ig,HI,D.py,D.pys,PyData.eqv,PyData.eqvAll,JH,JM];congr 3;rw[HZ];simp only[Hs,HK];constructor
 .rintro⟨h1,h2,J⟩;exact CK h1 h2 J
 .rintro rfl;exact#[rfl,rfl,rfl]
def rA {k l:Nat}{p q:Rat}(U:Sz k p) (M:Sz l q) (L:k<=1920:=by decide) (hl:l<=1920:=by decide):u6 (fr p) (fr q)=some (.bl (decide (p=q))):=by
 have W:=(Ok.fr U L).eq;have J:=(Ok.fr M hl).eq;unfold fr at *;simp only[u6,W,J,Ig,HI,D.py,D.pys,PyData.eqv,PyData.eqvAll,JH,JM];congr 2;rw[HZ];simp only[Hs,HK];constructor
 .rintro⟨h1,h2⟩;exact Rat.ext h1 ∅
 .rintro rfl;exact#[rfl,rfl]
def M7 (x:Str):Prop:=∀c∈x.cps.toList,c<128
mutual
def Th (b:Nat):Nat->D->Prop
 |_,.non=>True
 |_,.bl _=>True
 |_,.int i=>Bd b i
 |_,.str x=>M7 x
 |k+1,.tup ds=>Ths b k ds
 |k+1,.lst ds=>Ths b k ds
 |_,_=>False
def Ths (b:Nat):Nat->List D->Prop
 |_,[]=>True
 |k,d::r=>Th b k d/\Ths b k r
end
def bk (d:D):Nat:=d.py.bulk
def N6 (ds:vD_):Nat:=PyData.bulkAll (D.pys ds)
def cv:N6 []=0:=rfl
def E8 (d:D) (r:vD_):N6 (d::r)=bk d+1+N6 r:=by simp only[N6,bk,D.pys,PyData.bulkAll]
def L9 (ds:vD_):bk (.tup ds)=N6 ds:=by simp only[N6,bk,D.py,PyData.bulk]
def AY (ds:vD_):bk (.lst ds)=N6 ds:=by simp only[N6,bk,D.py,PyData.bulk]
def yt (i:Bool):bk (.bl i)=0:=rfl
def aV (x:Str):bk (.str x)=x.length:=rfl
theorem iP:∀ds:List D,ds.length<=N6 ds
 |[]=>iR _
 |d::r=>by have:=iP r;rw[E8,Hv];omega
def fB (h:d∈ds):bk d+1<=N6 ds:=by
 induction ds with
 |nil=>cases h
 |cons x r J=>
  rw[E8];rcases xr.mp h with z | z
  .subst z;omega
  .have:=J z;omega
section
variable {b b' k k':Nat}
mutual
theorem Th.mono (J:b<=b'):∀{k k':Nat}(d:D),k<=k'->Th b k d->Th b' k' d
 |k,k',.non,_,_=>by unfold Th;trivial
 |k,k',.bl _,_,_=>by unfold Th;trivial
 |k,k',.int i,_,h=>by unfold Th at *;exact Bd.mono h J
 |k,k',.str x,_,h=>by unfold Th at *;exact h
 |0,k',.tup ds,_,h=>by unfold Th at h;exact h.elim
 |k+1,0,.tup ds,hk,h=>by omega
 |k+1,k'+1,.tup ds,hk,h=>by unfold Th at *;exact Ths.mono J ds ∅ h
 |0,k',.lst ds,_,h=>by unfold Th at h;exact h.elim
 |k+1,0,.lst ds,hk,h=>by omega
 |k+1,k'+1,.lst ds,hk,h=>by unfold Th at *;exact Ths.mono J ds ∅ h
 |k,k',.feed,_,h=>by unfold Th at h;exact h.elim
 |k,k',.scr _,_,h=>by unfold Th at h;exact h.elim
theorem Ths.mono (J:b<=b'):∀{k k':Nat}(ds:vD_),k<=k'->Ths b k ds->Ths b' k' ds
 |k,k',[],_,_=>by unfold Ths;trivial
 |k,k',d::r,hk,h=>by unfold Ths at *;exact#[Th.mono J d hk h.1,Ths.mono J r hk h.2]
end
theorem Ths.mem:∀{ds:vD_}{d:D},Ths b k ds->d∈ds->Th b k d
 |x::r,d,h,m=>by
  unfold Ths at h;rcases xr.mp m with z | z
  .subst z;exact h.1
  .exact Ths.mem h.2 z
theorem Ths.of:∀{ds:vD_},(∀d∈ds,Th b k d)->Ths b k ds
 |[],_=>by unfold Ths;trivial
 |d::r,h=>by unfold Ths;exact#[h d (HD ..),Ths.of fun x J=>h x (HB _ J)]
def Hk (h:M7 x):PyData.strOk x=true:=by
 unfold PyData.strOk;rw[Array.all_eq_true_iff_forall_mem];intro c J;have:=h c (Array.mem_toList_iff.mpr J);exact xl ∅
mutual
theorem Th.ok (J:b<=1920):∀{k:Nat}(d:D),Th b k d->Ok k (bk d) d
 |k,.non,_=>Ok.non.mono ∅ (HV _)
 |k,.bl i,_=>(Ok.bl i).mono ∅ (HV _)
 |k,.int i,h=>by unfold Th at h;exact(Ok.int (Bd.mono h J)).mono ∅ (HV _)
 |k,.str x,h=>by unfold Th at h;exact(Ok.str (Hk h)).mono ∅ (iR _)
 |0,.tup ds,h=>by unfold Th at h;exact h.elim
 |k+1,.tup ds,h=>by unfold Th at h;rw[L9];exact Ok.tup (Ths.ok J ds h)
 |0,.lst ds,h=>by unfold Th at h;exact h.elim
 |k+1,.lst ds,h=>by unfold Th at h;rw[AY];exact Ok.lst (Ths.ok J ds h)
 |k,.feed,h=>by unfold Th at h;exact h.elim
 |k,.scr _,h=>by unfold Th at h;exact h.elim
theorem Ths.ok (J:b<=1920):∀{k:Nat}(ds:vD_),Ths b k ds->OkL k (N6 ds) ds
 |k,[],_=>OkL.nil.mono ∅ (HV _)
 |k,d::r,h=>by
  unfold Ths at h;rw[E8];exact(OkL.cons (Th.ok J d h.1) (Ths.ok J r h.2)).mono ∅ (iR _)
end
end
def oF {y:Str}(L:M7 x) (M:M7 y):M7 (x++y):=by
 intro c J;rw[PySem.Str.cps_append,Array.toList_append,Im] at J;rcases J with h | h
 .exact L c h
 .exact M c h
def yg (i:Int):M7 (PySem.Str.ofString (toString i)):=by
 intro c L;rw[Ks] at L;obtain⟨M,J,rfl⟩:=HW.mp L;exact int_ascii i M J
def vN {b:Nat}{i:Int}(h:Bd b i) (J:0<b):(PySem.Str.ofString (toString i)).length<=b+1:=by
 rw[ofString_length];exact int_text_length_le10 J (Hw h (Nat.pow_le_pow_left #[] _))
def Hi (ds:vD_) (n:Nat) (h:n<=ds.length):M3 ds none (some (n:Int))=ds.take n:=by
 unfold M3 HT.sIx;have h1:¬ (n:Int)<0:=by omega
 simp only[h1,Ii,Lb,Kc,IM];rw[Le h]
def Bw (ds:vD_) (n:Nat) (h:n<=ds.length):M3 ds (some (n:Int)) none=ds.drop n:=by
 unfold M3 HT.sIx;have h1:¬ (n:Int)<0:=by omega
 simp only[h1,Ii,IM];rw[Le h];exact LY (by rw[KO];omega)
end DL
namespace T
open PySem L2 DL
abbrev gT:DT:=dB (a6 o9 (dL 3) (b0 0))
abbrev gB:DM:=c8 (d5 (a6 B7 (dL 2) (dL 3)) (d0 4)) (c8 (d5 (dV 3) (d0 2)) (d5 (dV 4) (d0 3)))
def lW (a b:Sl) (g r:Int) (x:Sl) (fs:vO_):gT #[[a,b,.v (.int g),.v (.int r),x],fs]=some (!decide (r=0),#[[a,b,.v (.int g),.v (.int r),x],fs]):=by
 simp[dB,a6,dL,dC,b0,k0,F0]
def wD (a b:Sl) (g r:Int) (x:Sl) (fs:vO_) (h:r≠0):gB #[[a,b,.v (.int g),.v (.int r),x],fs] =
  some (.next,#[[a,b,.v (.int r),.v (.int (g.fmod r)),.v (.int (g.fmod r))],fs]):=by
 simp[c8,m9,d5,a6,dL,dV,d0,B7,h]
def xU (a b:Sl) (fs:vO_) (r:Nat):∀(g:Nat) (x:Sl),∃y,M1 gT gB #[[a,b,.v (.int g),.v (.int r),x],fs]=some (.next,#[[a,b,.v (.int (Nat.gcd g r)),.v (.int 0),y],fs]):=by
 induction r using Nat.strongRecOn with
 |ind r L=>
  intro g x;by_cases h:r=0
  .subst h;refine#[x,?_];rw[Nat.gcd_zero_right];exact iI (by rw[lW];rfl)
  .have e:((g:Int).fmod (r:Int))=((g % r:Nat):Int):=by rw[Lk _ ∅];rfl
   obtain⟨y,J⟩:=L (g % r) (Nat.mod_lt _ ∅) r (.v (.int ((g:Int).fmod (r:Int))));refine#[y,?_];have M:Nat.gcd g r=Nat.gcd r (g % r):=by rw[Kx g r,Nat.gcd_rec,Kx]
   rw[M];refine sO (s1:=#[[a,b,.v (.int g),.v (.int r),x],fs]) (by rw[lW,iU ∅];rfl) (wD _ _ _ _ _ _ ∅) ?_;rw[e] at J ⊢;exact J
def gu (a:Int):(if a<0 then -a else a)=((a.natAbs:Nat):Int):=by split <;> omega
def ED (a b:Int) (fs:vO_):K2 [.int a,.int b] fs=some (.int (Int.gcd a b),fs):=by
 obtain⟨y,J⟩:=xU (.v (.int a)) (.v (.int b)) fs b.natAbs a.natAbs .no;refine p9 (s:=#[[.v (.int a),.v (.int b),.v (.int (Int.gcd a b)),.v (.int 0),y],fs]) ?_;show eN #[[.v (.int a),.v (.int b),.no,.no,.no],fs]=_;unfold eN;rw[i9 (s1:=#[[.v (.int a),.v (.int b),.v (.int a.natAbs),.no,.no],fs]) (by simp[d5,d8,a0,a7,dL,one,K6,d0,gu])];rw[i9 (s1:=#[[.v (.int a),.v (.int b),.v (.int a.natAbs),.v (.int b.natAbs),.no],fs]) (by simp[d5,d8,a0,a7,dL,one,K6,d0,gu])];rw[i9 J];exact u7 (by simp[dV,Int.gcd])
def rh (a:Int):Int.gcd 0 a=a.natAbs:=by simp[Int.gcd]
def rX (a b:Int):Int.gcd ((a.natAbs:Nat):Int) b=Int.gcd a b:=by simp[Int.gcd]
def cO (P:D) (J x:Int) (x2:Sl) (r:vD_) (fs:vO_):C5 (d0 2) (dF K2) (.int x::r) #[[.v P,.v (.int J),x2],fs]=C5 (d0 2) (dF K2) r #[[.v P,.v (.int (Int.gcd J x)),.v (.int x)],fs]:=Q0 (s1:=#[[.v P,.v (.int J),.v (.int x)],fs]) rfl (u4 (u9 rfl (ED J x fs)) rfl)
def uK {g:Int}{fs:vO_}(h:C5 (d0 2) (dF K2) ds #[[.v (.tup ds),.v (.int 0),.no],fs]=some (.next,#[[.v (.tup ds),.v (.int g),x2],fs])):U8 K2 [.tup ds] fs=some (.int g,fs):=by
 refine p9 (s:=#[[.v (.tup ds),.v (.int g),x2],fs]) ?_;show eY K2 #[[.v (.tup ds),.no,.no],fs]=_;unfold eY;have J:R0 (dV 0) (d0 2) (dF K2) #[[.v (.tup ds),.v (.int 0),.no],fs]=some (.next,#[[.v (.tup ds),.v (.int g),x2],fs]):=h;rw[i9 (s1:=#[[.v (.tup ds),.v (.int 0),.no],fs]) (u4 rfl rfl),i9 J];exact u7 rfl
def nD (a b:Int) (fs:vO_):U8 K2 [.tup [.int a,.int b]] fs=some (.int (Int.gcd a b),fs):=uK (x2:=.v (.int b)) (by
 rw[cO,cO,rh,rX];rfl)
def qg (a b c:Int) (fs:vO_):U8 K2 [.tup [.int a,.int b,.int c]] fs=some (.int (Int.gcd (Int.gcd a b:Int) c),fs):=uK (x2:=.v (.int c)) (by
 rw[cO,cO,cO,rh,rX];rfl)
def Q6 {a g c:Int}(J:g≠0) (e:a=g*c):a.fdiv g=c:=by subst e;exact Int.mul_fdiv_cancel_left c J
theorem ng (a b:Int) (M:b≠0):let g:Int:=if b<0 then -(Int.gcd a b:Int) else (Int.gcd a b:Int)
  g≠0/\a.fdiv g=(Rat.divInt a b).num/\b.fdiv g=((Rat.divInt a b).den:Int):=by
 intro g;have Z:0<Int.gcd a b:=Ky a M;obtain⟨c,L⟩:=Kz a b;obtain⟨d,W⟩:=Kt a b;have U:(Rat.divInt a b).num=if b<0 then -c else c:=by
  rw[Ll,Kv];split
  .rename_i h;rw[Int.sign_eq_neg_one_of_neg h];refine KA ∅ ?_;grind
  .rename_i h;rw[LR ∅,Int.one_mul];exact KA ∅ L
 have Y:((Rat.divInt a b).den:Int)=if b<0 then -d else d:=by
  rw[Ln,gV M,Kv,JK];split
  .refine KA ∅ ?_;grind
  .refine KA ∅ ?_;grind
 rw[U,Y];by_cases h:b<0
 .have J:g = -(Int.gcd a b:Int):=fI h;rw[J,fI h,fI h];exact#[by omega,Q6 ∅ (by grind),Q6 ∅ (by grind)]
 .have J:g=(Int.gcd a b:Int):=gV h;rw[J,gV h,gV h];exact#[by omega,Q6 ∅ L,Q6 ∅ W]
def lC {k:Nat}{a b:Int}(J:b≠0) (h:Bd k b) (L:k<=8000):G4 (if b<0 then -(Int.gcd a b:Int) else (Int.gcd a b:Int))=true:=by
 have M:0<Int.gcd a b:=Ky a J;split
 .exact(Bd.gcd h J).neg.div ∅ L
 .exact(Bd.gcd h J).div ∅ L
def bz:(2:Nat)<=sizeLine:=by decide
def Gz:(3:Nat)<=sizeLine:=by decide
def jr (a b:D):n8 [a,b] (-1)=some b:=Z6 [a] b
def jB (a b c:D):n8 [a,b,c] (-1)=some c:=Z6 [a,b] c
def L5 (a b:D):n8 [a,b] 0=some a:=rfl
def W8 (a b:D):n8 [a,b] 1=some b:=rfl
def cj (a b c:D):n8 [a,b,c] 0=some a:=rfl
def dy (a b c:D):n8 [a,b,c] 1=some b:=rfl
def cb (a b c:D):n8 [a,b,c] 2=some c:=rfl
abbrev FL:a8:=sL (U8 K2)
abbrev FF:a8:=uf FL
theorem nN {J:Int}(L:G4 J=true) (fs:vO_):∀xs:List Int,A9 (fun d=>some [.v d,.v (.int J)]) w6 (a6 G2 (dL 0) (dL 1)) (xs.map .int) fs=some (xs.map (fun x=>.int (x.fdiv J)),fs)
 |[]=>rfl
 |x::r=>by
  have e:a6 G2 (dL 0) (dL 1) #[[.v (.int x),.v (.int J)],fs]=some (.int (x.fdiv J),#[[.v (.int x),.v (.int J)],fs]):=c9 rfl rfl (fI L);have M:=nN L fs r;rw[Hu,A9,Hq];show ((a6 G2 (dL 0) (dL 1) #[[.v (.int x),.v (.int J)],fs]).bind _)=_;rw[e,Hq];show (A9 _ w6 _ (r.map .int) fs).map _=_;rw[M];rfl
def Fh {d g:Int}(h:n8 ds (-1)=some (.int d)) (fs:vO_):e8 (dB (a6 (i8 (fun i j=>decide (i<j))) (a6 c7 (dL 0) (j8 k9 (b0 1))) (b0 0))) (d5 (j8 k9 (dL 1)) (d0 1)) f9 #[[.v (.tup ds),.v (.int g)],fs]=some (.next,#[[.v (.tup ds),.v (.int (if d<0 then -g else g))],fs]):=by
 have t:dB (a6 (i8 (fun i j=>decide (i<j))) (a6 c7 (dL 0) (j8 k9 (b0 1))) (b0 0)) #[[.v (.tup ds),.v (.int g)],fs]=some (decide (d<0),#[[.v (.tup ds),.v (.int g)],fs]):=x8 (c9 (c9 rfl rfl (show c7 (.tup ds) (.int (-1))=some (.int d) from h)) rfl rfl);by_cases J:d<0
 .rw[xl J] at t;rw[fI J,C4 t];rfl
 .rw[iU J] at t;rw[gV J,aP t];rfl
def qy {xs:List Int}{d g:Int}(fs:vO_) (hl:xs.length<=10) (M:U8 K2 [.tup (xs.map .int)] fs=some (.int g,fs)) (h:n8 (xs.map D.int) (-1)=some (.int d)) (L:G4 (if d<0 then -g else g)=true):FL [.tup (xs.map .int)] fs=some (.tup (xs.map fun x=>.int (x.fdiv (if d<0 then -g else g))),fs):=by
 have W:=Fh (g:=g) h fs;have J:=nN L fs xs;have U:(xs.map D.int).length<=sizeLine:=Ht (by rw[Hr];exact hl) (show 10<=sizeLine by decide);generalize xs.map D.int=ds at *;generalize (if d<0 then -g else g)=gg at *;refine p9 (s:=#[[.v (.tup ds),.v (.int gg)],fs]) ?_;show iH (U8 K2) #[[.v (.tup ds),.no],fs]=_;unfold iH;rw[i9 (s1:=#[[.v (.tup ds),.v (.int g)],fs]) (u4 (u9 rfl M) rfl),i9 W];exact u7 (C7 (p:=K8) (D4 (af (idx:=[1]) (ds:=ds) (s1:=#[[.v (.tup ds),.v (.int gg)],fs]) rfl U J)) rfl)
def zI {k:Nat}(a b:Int) (fs:vO_) (J:b≠0) (h:Bd k b) (L:k<=8000):FL [.tup [.int a,.int b]] fs=some (fr (Rat.divInt a b),fs):=by
 obtain⟨M,p1,p2⟩:=ng a b J;have e:=qy (xs:=[a,b]) (d:=b) fs (show 2<=10 by decide) (nD a b fs) (jr _ _) (lC (a:=a) J h L);unfold fr;rw[<-p1,<-p2];exact e
def mT {k:Nat}(a b:Int) (fs:vO_) (L:b≠0) (h:Bd k b) (J:k<=8000):FF [.int a,.int b] fs=some (fr (Rat.divInt a b),fs):=by
 refine p9 (s:=#[[.v (.int a),.v (.int b)],fs]) ?_;show jh FL #[[.v (.int a),.v (.int b)],fs]=_;exact u7 (u9 (l0 (Y1 rfl rfl) rfl) (zI a b fs L h J))
abbrev uP:DT:=dB (a6 (i8 (fun i j=>decide (j<i))) (dL 3) (b0 0))
abbrev Ec:DM:=m5 2 3 (a0 (dV 3) (a0 (a6 B7 (dL 2) (dL 3)) a7))
def Ef (a b:Sl) (fs:vO_) (r:Nat):∀(g:Nat),M1 uP Ec #[[a,b,.v (.int g),.v (.int r)],fs]=some (.next,#[[a,b,.v (.int (Nat.gcd g r)),.v (.int 0)],fs]):=by
 induction r using Nat.strongRecOn with
 |ind r J=>
  intro g;by_cases h:r=0
  .subst h;rw[Nat.gcd_zero_right];exact iI (by simp![c7])
  .have e:((g:Int).fmod (r:Int))=((g % r:Nat):Int):=by rw[Lk _ ∅];rfl
   have U:=J (g % r) (Nat.mod_lt _ ∅) r;have M:Nat.gcd g r=Nat.gcd r (g % r):=by rw[Kx g r,Nat.gcd_rec,Kx]
   rw[M];have W:¬ (r:Int)=0:=by omega
   have L:(0:Int)<r:=by omega
   refine sO (s1:=#[[a,b,.v (.int g),.v (.int r)],fs]) (s2:=#[[a,b,.v (.int r),.v (.int ((g % r:Nat):Int))],fs]) (by simp![c7];omega) ?_ U;rw[<-e];simp[m5,a0,a7,dV,a6,dL,B7,h]
abbrev LF:a8:=rq
abbrev LS:a8:=oO LF
abbrev LP:a8:=pB LF
def N8 {k:Nat}(a b:Int) (fs:vO_) (L:b≠0) (h:Bd k b) (U:k<=8000):LF [.int a,.int b] fs=some (fr (Rat.divInt a b),fs):=by
 obtain⟨Y,p1,p2⟩:=ng a b L;have M:=lC (a:=a) L h U;have W:=Ef (.v (.int a)) (.v (.int b)) fs b.natAbs a.natAbs;refine p9 (s:=#[[.v (.int a),.v (.int b),.v (.int (if b<0 then -(Int.gcd a b:Int) else (Int.gcd a b:Int))),.v (.int 0)],fs]) ?_;show fH #[[.v (.int a),.v (.int b),.no,.no],fs]=_;unfold fH;rw[i9 (s1:=#[[.v (.int a),.v (.int b),.v (.int a.natAbs),.no],fs]) (by simp![c7,K6,gu])];rw[i9 (s1:=#[[.v (.int a),.v (.int b),.v (.int a.natAbs),.v (.int b.natAbs)],fs]) (by simp![c7,K6,gu])];rw[i9 W];rw[i9 (s1:=#[[.v (.int a),.v (.int b),.v (.int (if b<0 then -(Int.gcd a b:Int) else (Int.gcd a b:Int))),.v (.int 0)],fs]) (by
  by_cases J:b<0
  .simp![c7,J,Int.gcd]
  .simp![c7,J,Int.gcd])]
 generalize Z:(if b<0 then -(Int.gcd a b:Int) else (Int.gcd a b:Int))=gg at *;refine u7 ?_;unfold fr;rw[<-p1,<-p2];simp![c7,G2,M,bz]
def BC (p q:Rat):p+q=Rat.divInt (p.num*q.den+q.num*p.den) (p.den*q.den):=by
 rw[Rat.add_def',<-Rat.divInt_ofNat];rfl
def zW (p q:Rat):p*q=Rat.divInt (p.num*q.num) (p.den*q.den):=by
 rw[Rat.mul_def',<-Rat.divInt_ofNat];rfl
def cc (p q:Rat):(p.den:Int)*q.den≠0:=Lp (J7 p) (J7 q)
def js {k:Nat}(p q:Rat) (fs:vO_) (h1:Sz k p) (h2:Sz l q) (U:k+l<=8000):LS [fr p,fr q] fs=some (fr (p+q),fs):=by
 have L:=h1.num.bits ∅;have M:=h1.den.bits ∅;have W:=h2.num.bits ∅;have J:=h2.den.bits ∅;have e:=N8 (p.num*q.den+q.num*p.den) (p.den*q.den) fs (cc p q) (Bd.mul h1.den h2.den) U;rw[<-BC] at e;refine p9 (s:=#[[.v (fr p),.v (fr q),.v (.int (p.num*q.den+q.num*p.den))],fs]) ?_;show gY LF #[[.v (fr p),.v (fr q),.no],fs]=_;simp![gY,c7,fr,L5,W8,o8,L,M,W,J,e]
def U0 {k:Nat}(p q:Rat) (fs:vO_) (h1:Sz k p) (h2:Sz l q) (U:k+l<=8000):LP [fr p,fr q] fs=some (fr (p*q),fs):=by
 have L:=h1.num.bits ∅;have M:=h1.den.bits ∅;have W:=h2.num.bits ∅;have J:=h2.den.bits ∅;have e:=N8 (p.num*q.num) (p.den*q.den) fs (cc p q) (Bd.mul h1.den h2.den) U;rw[<-zW] at e;refine p9 (s:=#[[.v (fr p),.v (fr q)],fs]) ?_;show dM LF #[[.v (fr p),.v (fr q)],fs]=_;simp![dM,c7,fr,L5,W8,o8,L,M,W,J,e]
def pd (p:Rat) (fs:vO_):aA [fr p] fs=some (fr (-p),fs):=by
 refine p9 (s:=#[[.v (fr p)],fs]) ?_;show gE #[[.v (fr p)],fs]=_;simp![gE,c7,fr,L5,W8,bz]
def qe (a:Int) (n:Nat):a.fdiv (n:Int)=a / (n:Int):=Ma a ∅
def aR (a:Int) {b:Int}(h:b≠0):B7 (.int a) (.int b)=some (.int (a.fmod b)):=by simp[B7,h]
def bw (a:Int) {b:Int}(h:G4 b=true):G2 (.int a) (.int b)=some (.int (a.fdiv b)):=by simp[G2,h]
def D6 {a b:Int}(h1:A8 a=true) (h2:A8 b=true):o8 (.int a) (.int b)=some (.int (a*b)):=by simp[o8,h1,h2]
def iC {s:DS}{r:Option (Fl × DS)}(h:fe s=some (d,s1)) (e:O0 i key (fun _=>some (d,s1)) s=r):O0 i key fe s=r:=by
 rw[<-e];unfold O0;rw[h]
def Af (f:FS) (J:Int) (hm:0<J) (hm2:J<2 ^ 100) (ht:0<=f.turn) (ht2:f.turn<2 ^ 40) (hk:f.kind=0) :
  ∃r f',C2 [.feed,.int J] (some f)=some (.int r,some f')/\0<=r/\r<J/\f'.turn=f.turn+1/\f'.kind=0:=by
 have dm:G4 J=true:=uN ∅ ∅;have hne:J≠0:=by omega
 obtain⟨U,ps,W,L,kd⟩:=f;simp only at ht ht2 hk ⊢;subst hk;by_cases hl:0<W
 .refine#[W.fmod J,#[U,ps,W.fdiv J,L+1,0],?_,(T2 hm).1,(T2 hm).2,rfl,rfl];refine p9 (s:=#[[.v .feed,.v (.int J),.v (.int (L+1)),.v (.int (W.fmod J)),.no,.no,.no],some #[U,ps,W.fdiv J,L+1,0]]) ?_;show V6 #[[.v .feed,.v (.int J),.no,.no,.no,.no,.no],some #[U,ps,W,L,0]]=_;unfold V6;rw[i9 (s1:=#[[.v .feed,.v (.int J),.v (.int (L+1)),.no,.no,.no,.no],some #[U,ps,W,L,0]]) (u4 (c9 rfl rfl rfl) rfl),i9 (s1:=#[[.v .feed,.v (.int J),.v (.int (L+1)),.no,.no,.no,.no],some #[U,ps,W,L+1,0]]) rfl];have c0:dB (a6 (i8 (fun i j=>decide (j<i))) (D7 0 "left") (b0 0)) #[[.v .feed,.v (.int J),.v (.int (L+1)),.no,.no,.no,.no],some #[U,ps,W,L+1,0]]=some (true,#[[.v .feed,.v (.int J),.v (.int (L+1)),.no,.no,.no,.no],some #[U,ps,W,L+1,0]]):=by
   rw[<-xl hl];rfl
  refine E2 ?_;rw[C4 c0,i9 (s1:=#[[.v .feed,.v (.int J),.v (.int (L+1)),.v (.int (W.fmod J)),.no,.no,.no],some #[U,ps,W,L+1,0]]) (u4 (c9 rfl rfl (aR W hne)) rfl),
   i9 (s1:=#[[.v .feed,.v (.int J),.v (.int (L+1)),.v (.int (W.fmod J)),.no,.no,.no],some #[U,ps,W.fdiv J,L+1,0]]) (iC (c9 rfl rfl (bw W dm)) rfl)]
  rfl
 ·-- the Z
  have Z:∃c:Int,∀a b e x y z:Sl,j9 (dB (a6 (i8 (fun i j=>decide (j<i))) (d8 (one j5) (a0 (dL 4) a7)) (b0 0))) (a6 c7 (dL 4) (a6 B7 (D7 0 "at") (d8 (one j5) (a0 (dL 4) a7)))) (b0 0) #[[.v .feed,a,b,e,.v (.lst (U.map .int)),x,y],some #[U,ps,W,L+1,0]] =
    some (.int c,#[[.v .feed,a,b,e,.v (.lst (U.map .int)),x,y],some #[U,ps,W,L+1,0]]):=by
   by_cases hc:0<U.length
   .have hi:=T2 (a:=ps) (b:=(U.length:Int)) ∅;obtain⟨c,hg⟩:∃c:Int,n8 (U.map D.int) (ps.fmod (U.length:Int))=some (.int c):=by
     have:(ps.fmod (U.length:Int)).toNat<U.length:=by omega
     refine#[U[(ps.fmod (U.length:Int)).toNat],?_];rw[tG hi.1 (by rw[Hr];exact hi.2),Io,Ia this];rfl
    refine#[c,fun a b e x y z=>?_];have hn:U≠[]:=by intro z;rw[z] at hc;simp at hc
    simp! only[j9,D7,qT,B7,c7,hn,hc,hg]
   .refine#[0,fun a b e x y z=>?_];have hz:U=[]:=JG ∅;subst hz;simp! only[j9]
  obtain⟨c,hcell⟩:=Z;have hc1:=T2 (a:=c) (b:=1000003) #[];have pre:∀rest:DM,c8 (d5 (a6 j6 (D7 0 "turn") (b0 1)) (d0 2)) (c8 (O0 0 "turn" (dV 2)) (c8 (e8 (dB (a6 (i8 (fun i j=>decide (j<i))) (D7 0 "left") (b0 0))) (c8 (d5 (a6 B7 (D7 0 "left") (dL 1)) (d0 3)) (c8 (O0 0 "left" (a6 G2 (D7 0 "left") (dL 1))) (d6 (dV 3)))) f9)
    (c8 (d5 (D7 0 "cells") (d0 4)) (c8 (d5 (j9 (dB (a6 (i8 (fun i j=>decide (j<i))) (d8 (one j5) (a0 (dL 4) a7)) (b0 0))) (a6 c7 (dL 4) (a6 B7 (D7 0 "at") (d8 (one j5) (a0 (dL 4) a7)))) (b0 0)) (d0 5)) (c8 (O0 0 "at" (a6 j6 (D7 0 "at") (b0 1))) rest)))))
    #[[.v .feed,.v (.int J),.no,.no,.no,.no,.no],some #[U,ps,W,L,0]]=rest #[[.v .feed,.v (.int J),.v (.int (L+1)),.no,.v (.lst (U.map .int)),.v (.int c),.no],some #[U,ps+1,W,L+1,0]]:=fun rest=>by
   rw[i9 (s1:=#[[.v .feed,.v (.int J),.v (.int (L+1)),.no,.no,.no,.no],some #[U,ps,W,L,0]]) (u4 (c9 rfl rfl rfl) rfl)];rw[i9 (s1:=#[[.v .feed,.v (.int J),.v (.int (L+1)),.no,.no,.no,.no],some #[U,ps,W,L+1,0]]) rfl];rw[i9 (s1:=#[[.v .feed,.v (.int J),.v (.int (L+1)),.no,.no,.no,.no],some #[U,ps,W,L+1,0]]) (by
    have c0:dB (a6 (i8 (fun i j=>decide (j<i))) (D7 0 "left") (b0 0)) #[[.v .feed,.v (.int J),.v (.int (L+1)),.no,.no,.no,.no],some #[U,ps,W,L+1,0]]=some (false,#[[.v .feed,.v (.int J),.v (.int (L+1)),.no,.no,.no,.no],some #[U,ps,W,L+1,0]]):=by
     rw[<-iU hl];rfl
    rw[aP c0];rfl)]
   rw[i9 (s1:=#[[.v .feed,.v (.int J),.v (.int (L+1)),.no,.v (.lst (U.map .int)),.no,.no],some #[U,ps,W,L+1,0]]) rfl];rw[i9 (Dg (hcell _ _ _ _ _ .no))];rw[i9 (s1:=#[[.v .feed,.v (.int J),.v (.int (L+1)),.no,.v (.lst (U.map .int)),.v (.int c),.no],some #[U,ps+1,W,L+1,0]]) (iC (c9 rfl rfl rfl) rfl)]
  have Y:l4 (dB (a6 (i8 (fun i j=>decide (j<=i))) (dL 5) (a6 P6 (b0 10) (b0 18)))) (dB (a6 (i8 (fun i j=>decide (i<=j))) (D7 0 "at") (d8 (one j5) (a0 (dL 4) a7)))) #[[.v .feed,.v (.int J),.v (.int (L+1)),.no,.v (.lst (U.map .int)),.v (.int c),.no],some #[U,ps+1,W,L+1,0]] =
    some (decide (1000000000000000000<=c)&&decide (ps+1<=(U.length:Int)),#[[.v .feed,.v (.int J),.v (.int (L+1)),.no,.v (.lst (U.map .int)),.v (.int c),.no],some #[U,ps+1,W,L+1,0]]):=by
   by_cases h1:1000000000000000000<=c
   .simp! only[l4,P6,D7,qT,h1]
   .simp[l4,dB,a6,dL,dC,b0,k0,P6,i8,h1]
  by_cases hb:(decide (1000000000000000000<=c)&&decide (ps+1<=(U.length:Int)))=true
  .refine#[c.fmod J,#[U,ps+1,c.fdiv J,L+1,0],p9 (s:=#[[.v .feed,.v (.int J),.v (.int (L+1)),.no,.v (.lst (U.map .int)),.v (.int c),.no],some #[U,ps+1,c.fdiv J,L+1,0]]) ?_,(T2 hm).1,(T2 hm).2,rfl,rfl];show V6 #[[.v .feed,.v (.int J),.no,.no,.no,.no,.no],some #[U,ps,W,L,0]]=_;unfold V6;rw[pre];rw[hb] at Y;refine E2 ?_;rw[C4 Y];rw[i9 (s1:=#[[.v .feed,.v (.int J),.v (.int (L+1)),.no,.v (.lst (U.map .int)),.v (.int c),.no],some #[U,ps+1,c.fdiv J,L+1,0]]) (iC (c9 rfl rfl (bw c dm)) rfl)];exact u7 (c9 rfl rfl (aR c hne))
  .have q:∃M:Int,d5 (a6 B7 (a6 o8 (a6 j6 (a6 j6 (a6 j6 (a6 B7 (dL 5) (b0 1000003)) (a6 o8 (a6 o8 (b0 31) (dL 2)) (dL 2))) (a6 o8 (b0 7) (dL 2))) (b0 11)) (b0 48271)) (b0 2147483647)) (d0 6)
     #[[.v .feed,.v (.int J),.v (.int (L+1)),.no,.v (.lst (U.map .int)),.v (.int c),.no],some #[U,ps+1,W,L+1,0]]=some (.next,#[[.v .feed,.v (.int J),.v (.int (L+1)),.no,.v (.lst (U.map .int)),.v (.int c),.v (.int M)],some #[U,ps+1,W,L+1,0]])/\0<=M/\M<2147483647:=by
    have b1:A8 31=true:=by decide
    have b2:A8 (L+1)=true:=cf ∅;have p1:(L+1)*31<=2 ^ 40*31:=Int.mul_le_mul_of_nonneg_right ∅ #[];have b3:A8 (31*(L+1))=true:=cf ∅;have p2:0<=31*(L+1)*(L+1):=Int.mul_nonneg ∅ ∅;have p3:31*(L+1)*(L+1)<=31*2 ^ 40*2 ^ 40:=Int.mul_le_mul ∅ ∅ ∅ #[];have b4:A8 (c.fmod 1000003+31*(L+1)*(L+1)+7*(L+1)+11)=true:=cf ∅;have b5:A8 48271=true:=by decide
    have b6:A8 7=true:=by decide
    refine#[((c.fmod 1000003+31*(L+1)*(L+1)+7*(L+1)+11)*48271).fmod 2147483647,?_,T2 #[]];exact u4 (c9 (c9 (c9 (c9 (c9 (c9 rfl rfl (aR c #[])) (c9 (c9 rfl rfl (D6 b1 b2)) rfl (D6 b3 b2)) rfl) (c9 rfl rfl (D6 b6 b2)) rfl) rfl rfl) rfl (D6 b4 b5)) rfl (aR _ #[])) rfl
   obtain⟨M,e1,m1,m2⟩:=q;have hM:=Ma M (show (0:Int)<=64 by decide);have b7:A8 (M.fdiv 64)=true:=cf (by rw[hM];omega);have b8:A8 69621=true:=by decide
   have b9:A8 7919=true:=by decide
   have b10:A8 (L+1)=true:=cf ∅;have d64:G4 64=true:=by decide
   refine#[(((M.fdiv 64*69621+7919*(L+1)).fmod 2147483587).fdiv 64).fmod J,#[U,ps+1,W,L+1,0],p9 (s:=#[[.v .feed,.v (.int J),.v (.int (L+1)),.no,.v (.lst (U.map .int)),.v (.int c),.v (.int ((M.fdiv 64*69621+7919*(L+1)).fmod 2147483587))],some #[U,ps+1,W,L+1,0]]) ?_,(T2 hm).1,(T2 hm).2,rfl,rfl];show V6 #[[.v .feed,.v (.int J),.no,.no,.no,.no,.no],some #[U,ps,W,L,0]]=_;unfold V6;rw[pre];have hb':(decide (1000000000000000000<=c)&&decide (ps+1<=(U.length:Int)))=false:=by simpa using hb
   rw[hb'] at Y;rw[i9 (by rw[aP Y];rfl)];rw[i9 e1];rw[i9 (s1:=#[[.v .feed,.v (.int J),.v (.int (L+1)),.no,.v (.lst (U.map .int)),.v (.int c),.v (.int ((M.fdiv 64*69621+7919*(L+1)).fmod 2147483587))],some #[U,ps+1,W,L+1,0]]) (u4 (c9 (c9 (c9 (c9 rfl rfl (bw M d64)) rfl (D6 b7 b8)) (c9 rfl rfl (D6 b9 b10)) rfl) rfl (aR _ #[])) rfl)];exact u7 (c9 (c9 rfl rfl (bw _ d64)) rfl (aR _ hne))
def Fd (n:Nat) (f:FS):Prop:=0<=f.turn/\f.turn<=n/\f.kind=0
def Fd.mono {m:Nat}(h:Fd n f) (J:n<=m):Fd m f:=#[h.1,by have:=h.2.1;omega,h.2.2]
def D2 {n:Nat}{f:FS}(J:Int) (h:Fd n f) (M:0<J:=by first | decide | omega) (Y:n<2 ^ 30:=by omega) (L:J<2 ^ 100:=by first | decide | omega) :
  ∃r f',C2 [.feed,.int J] (some f)=some (.int r,some f')/\0<=r/\r<J/\Fd (n+1) f':=by
 obtain⟨r,f',e,U,h1,h2,W⟩:=Af f J M L h.1 (by have:=h.2.1;omega) h.2.2;exact#[r,f',e,U,h1,by have:=h.1;omega,by have:=h.2.1;omega,W]
def vC (J:List Int) (h:J.length<=63):bI [.scr J] none=some (.feed,some #[J,0,0,0,0]):=by
 refine p9 (s:=#[[.v (.scr J)],some #[J,0,0,0,0]]) ?_;show lM #[[.v (.scr J)],none]=_;simp[lM,d6,ib]
def Fd.zero (J:List Int):Fd 0 #[J,0,0,0,0]:=#[by simp,by simp,rfl]
theorem yx (x y d:Int) (hd:d≠0):let G:Nat:=Int.gcd (Int.gcd x y:Int) d
  let g:Int:=if d<0 then -(G:Int) else (G:Int)
  g≠0/\x.fdiv g=pX (Rat.divInt x d,Rat.divInt y d)/\y.fdiv g=pY (Rat.divInt x d,Rat.divInt y d)/\d.fdiv g=pL (Rat.divInt x d,Rat.divInt y d):=by
 intro G g;have g0:0<G:=Ky _ hd;obtain⟨J,W⟩:=Kt (Int.gcd x y:Int) d;have h1:=Kz (Int.gcd x y:Int) d;obtain⟨L,ex⟩:=Int.dvd_trans h1 (Kz ..);obtain⟨M,U⟩:=Int.dvd_trans h1 (Kt ..)
 replace W:d=(G:Int)*J:=W
 replace ex:x=(G:Int)*L:=ex
 replace U:y=(G:Int)*M:=U
 have Y:Int.gcd (Int.gcd L M:Int) J=1:=by
  have e1:Int.gcd x y=G*Int.gcd L M:=by
   have:=Int.gcd_mul_left (m:=(G:Int)) (n:=L) (k:=M);rw[<-ex,<-U] at this;exact this
  have e2:Int.gcd (Int.gcd x y:Int) d=G*Int.gcd (Int.gcd L M:Int) J:=by
   have:=Int.gcd_mul_left (m:=(G:Int)) (n:=(Int.gcd L M:Int)) (k:=J);rw[<-W,<-Jp,<-e1] at this;exact this
  have e3:G*Int.gcd (Int.gcd L M:Int) J=G*1:=by rw[<-e2,Nat.mul_one]
  exact Nat.eq_of_mul_eq_mul_left g0 e3
 have hdr:(d:Rat)≠0:=fun h=>hd (Jo.mp h)
 have hGr:((G:Int):Rat)≠0:=fun h=>by have:=Jo.mp h;omega
 have vx:∀z z':Int,z=(G:Int)*z'->(z':Rat)=Rat.divInt z d*(J:Rat):=fun z z' e=>by
  rw[Ja];have Z:(d:Rat)=((G:Int):Rat)*(J:Rat):=by rw[<-HA];exact congrArg _ W
  have ez':(z:Rat)=((G:Int):Rat)*(z':Rat):=by rw[<-HA];exact congrArg _ e
  have hd'r:(J:Rat)≠0:=fun h=>hdr (by rw[Z,h];grind)
  rw[ez',Z];grind
 by_cases h:d<0
 .have eg:g = -(G:Int):=fI h;have dn:0 < -J:=by
   rcases Int.lt_or_le J 0 with z | z
   .omega
   .have:0<=(G:Int)*J:=Int.mul_nonneg ∅ z;omega
  obtain⟨q1,q2,q3⟩:=iW (x:=-L) (y:=-M) (d:=-J) (a:=(Rat.divInt x d,Rat.divInt y d)) dn (by
   have:Int.gcd (-L) (-M)=Int.gcd L M:=by simp[Int.gcd]
   rw[this];have:Int.gcd (Int.gcd L M:Int) (-J)=Int.gcd (Int.gcd L M:Int) J:=by simp[Int.gcd]
   rw[this];exact Y) (by rw[Jr,Jr,vx x L ex];grind) (by rw[Jr,Jr,vx y M U];grind)
  rw[eg,<-q1,<-q2,<-q3];exact#[by omega,Q6 ∅ (by grind),Q6 ∅ (by grind),Q6 ∅ (by grind)]
 .have eg:g=(G:Int):=gV h;have dp:0<J:=by
   rcases Int.lt_or_le 0 J with z | z
   .exact z
   .have:(G:Int)*J<=G*0:=Int.mul_le_mul_of_nonneg_left z ∅;omega
  obtain⟨q1,q2,q3⟩:=iW (x:=L) (y:=M) (d:=J) (a:=(Rat.divInt x d,Rat.divInt y d)) dp Y (vx x L ex) (vx y M U);rw[eg,<-q1,<-q2,<-q3];exact#[by omega,Q6 ∅ ex,Q6 ∅ U,Q6 ∅ W]
def yG {k:Nat}{x y d:Int}(J:d≠0) (h:Bd k d) (L:k<=8000):G4 (if d<0 then -(Int.gcd (Int.gcd x y:Int) d:Int) else (Int.gcd (Int.gcd x y:Int) d:Int))=true:=lC (a:=(Int.gcd x y:Int)) J h L
def DD {k:Nat}(x y d:Int) (fs:vO_) (J:d≠0) (h:Bd k d) (M:k<=8000):FL [.tup [.int x,.int y,.int d]] fs=some (pt (Rat.divInt x d,Rat.divInt y d),fs):=by
 obtain⟨U,p1,p2,L⟩:=yx x y d J;have e:=qy (xs:=[x,y,d]) (d:=d) fs (show 3<=10 by decide) (qg x y d fs) (jB _ _ _) (yG (x:=x) (y:=y) J h M);unfold pt;rw[<-p1,<-p2,<-L];exact e
def uG (p q:Rat):Rat.divInt (p.num*q.den) (p.den*q.den)=p:=by
 rw[Rat.divInt_mul_right (J7 q),JJ]
def oB (p q:Rat):Rat.divInt (q.num*p.den) (p.den*q.den)=q:=by
 rw[Jq (p.den:Int),Rat.divInt_mul_right (J7 p),JJ]
def Fp {k:Nat}(p q:Rat) (fs:vO_) (h1:Sz k p) (h2:Sz l q) (U:k+l<=8000):cx FL [fr p,fr q] fs=some (pt (p,q),fs):=by
 have L:=h1.num.bits ∅;have M:=h1.den.bits ∅;have W:=h2.num.bits ∅;have J:=h2.den.bits ∅;have e:=DD (p.num*q.den) (q.num*p.den) (p.den*q.den) fs (cc p q) (Bd.mul h1.den h2.den) U;rw[uG,oB] at e;refine p9 (s:=#[[.v (fr p),.v (fr q)],fs]) ?_;show gI FL #[[.v (fr p),.v (fr q)],fs]=_;simp![gI,c7,fr,L5,W8,o8,L,M,W,J,Gz,e]
abbrev LA:a8:=qw LF
def eU (p:Rat):c7 (fr p) (.int 0)=some (.int p.num):=rfl
def R7 (p:Rat):c7 (fr p) (.int 1)=some (.int p.den):=rfl
def qF {k:Nat}(p q:Rat) (fs:vO_) (h1:Sz k p) (h2:Sz l q) (hk:k+l<=8000):LA [fr p,fr q] fs=some (pt (p,q),fs):=by
 have Y:=h1.num.bits ∅;have L:=h1.den.bits ∅;have b3:=h2.num.bits ∅;have U:=h2.den.bits ∅;have e1:=N8 (p.num*q.den) (p.den*q.den) fs (cc p q) (Bd.mul h1.den h2.den) hk;have Z:=N8 (q.num*p.den) (p.den*q.den) fs (cc p q) (Bd.mul h1.den h2.den) hk;have e3:=N8 (p.den:Int) (q.den:Int) fs (J7 q) h2.den ∅;rw[uG] at e1;rw[oB] at Z;have hq:=q.den_nz;have hp:=p.den_nz;have dq:((Rat.divInt (p.den:Int) (q.den:Int)).den:Int)=(q.den / Nat.gcd p.den q.den:Nat):=by
  rw[nW (den_pos q),JK];rfl
 have el:(p.den:Int)*(q.den / Nat.gcd p.den q.den:Nat)=pL (p,q):=by
  show _=((Nat.lcm p.den q.den:Nat):Int);rw[<-Jp,Nat.lcm,Nat.mul_div_assoc _ (Nat.gcd_dvd_right ..)]
 have d1:=h1.den.div (J7 p) ∅;have d2:=h2.den.div (J7 q) ∅;have P:=Ps.of (a:=(p,q)) h1 h2;have s1:(pL (p,q)).fdiv (p.den:Int)=((Nat.lcm p.den q.den / p.den:Nat):Int):=by rw[qe,JK];rfl
 have s2:(pL (p,q)).fdiv (q.den:Int)=((Nat.lcm p.den q.den / q.den:Nat):Int):=by rw[qe,JK];rfl
 have J:Nat.lcm p.den q.den<2 ^ (k+l):=P.l;have W:A8 ((Rat.divInt (p.den:Int) (q.den:Int)).den:Int)=true:=by
  have:=(fu (a:=(p.den:Int)) (J7 q)).2;exact(show Bd l _ from Ie this h2.2).bits ∅
 have M:A8 ((Nat.lcm p.den q.den / p.den:Nat):Int)=true:=(show Bd (k+l) ((_:Nat):Int) from Ie (Ku ..) J).bits ∅;have c2:A8 ((Nat.lcm p.den q.den / q.den:Nat):Int)=true:=(show Bd (k+l) ((_:Nat):Int) from Ie (Ku ..) J).bits ∅;generalize Rat.divInt (p.den:Int) (q.den:Int)=w at *;refine p9 (s:=#[[.v (fr p),.v (fr q),.v (.int (pL (p,q))),.v (fr p),.v (fr q),.v (fr w)],fs]) ?_;show fv LF #[[.v (fr p),.v (fr q),.no,.no,.no,.no],fs]=_;unfold fv;rw[dq] at W;rw[<-s1] at M;rw[<-s2] at c2;rw[i9 (s1:=#[[.v (fr p),.v (fr q),.v (.int (p.den*q.den)),.no,.no,.no],fs]) (u4 (c9 (c9 rfl rfl (R7 p)) (c9 rfl rfl (R7 q)) (D6 L U)) rfl),
  i9 (s1:=#[[.v (fr p),.v (fr q),.v (.int (p.den*q.den)),.v (fr p),.no,.no],fs]) (u4 (u9 (l0 (c9 (c9 rfl rfl (eU p)) (c9 rfl rfl (R7 q)) (D6 Y U)) (l0 rfl rfl)) e1) rfl),
  i9 (s1:=#[[.v (fr p),.v (fr q),.v (.int (p.den*q.den)),.v (fr p),.v (fr q),.no],fs]) (u4 (u9 (l0 (c9 (c9 rfl rfl (eU q)) (c9 rfl rfl (R7 p)) (D6 b3 L)) (l0 rfl rfl)) Z) rfl),
  i9 (s1:=#[[.v (fr p),.v (fr q),.v (.int (p.den*q.den)),.v (fr p),.v (fr q),.v (fr w)],fs]) (u4 (u9 (l0 (c9 rfl rfl (R7 p)) (l0 (c9 rfl rfl (R7 q)) rfl)) e3) rfl),
  i9 (s1:=#[[.v (fr p),.v (fr q),.v (.int (pL (p,q))),.v (fr p),.v (fr q),.v (fr w)],fs]) (u4 (c9 (c9 rfl rfl (R7 p)) (c9 rfl rfl ((R7 w).trans (congrArg (fun z=>some (D.int z)) dq))) ((D6 L W).trans (congrArg (fun z=>some (D.int z)) el))) rfl)]
 refine u7 ?_;unfold pt pX pY;rw[<-s1,<-s2];exact zq (c9 (c9 rfl rfl (eU p)) (c9 rfl (c9 rfl rfl (R7 p)) (bw _ d1)) (D6 Y M)) (c9 (c9 rfl rfl (eU q)) (c9 rfl (c9 rfl rfl (R7 q)) (bw _ d2)) (D6 b3 c2)) rfl
def px_div (a:Pt):Rat.divInt (pX a) (pL a)=a.1:=by
 rw[Ja,Y7,Rat.mul_div_cancel (iZ a)]
def py_div (a:Pt):Rat.divInt (pY a) (pL a)=a.2:=by
 rw[Ja,X7,Rat.mul_div_cancel (iZ a)]
def GA {k:Nat}(a:Pt) (fs:vO_) (h:Ps k a) (J:k<=8000):gc FF [pt a] fs=some (fr a.1,fs):=by
 have e:=mT (pX a) (pL a) fs (bT a) h.l J;rw[px_div] at e;refine p9 (s:=#[[.v (pt a)],fs]) ?_;show gF FF #[[.v (pt a)],fs]=_;simp![gF,c7,pt,cj,dy,cb,e]
def Ds {k:Nat}(a:Pt) (fs:vO_) (h:Ps k a) (J:k<=8000):gL FF [pt a] fs=some (fr a.2,fs):=by
 have e:=mT (pY a) (pL a) fs (bT a) h.l J;rw[py_div] at e;refine p9 (s:=#[[.v (pt a)],fs]) ?_;show fk FF #[[.v (pt a)],fs]=_;simp![fk,c7,pt,cj,dy,cb,e]
abbrev LX:a8:=nR LF
def iG {k:Nat}(a:Pt) (fs:vO_) (h:Ps k a) (J:k<=8000):LX [pt a] fs=some (.tup [fr a.1,fr a.2],fs):=by
 have e:=N8 (pX a) (pL a) fs (bT a) h.l J;have e':=N8 (pY a) (pL a) fs (bT a) h.l J;rw[px_div] at e;rw[py_div] at e';refine p9 (s:=#[[.v (pt a)],fs]) ?_;show eh LF #[[.v (pt a)],fs]=_;simp![eh,c7,pt,cj,dy,cb,e,e',bz]
abbrev LG:a8:=pP LA LS LX
def ak {k m:Nat}(a:Pt) (x y:Rat) (fs:vO_) (h1:Sz k a.1) (h2:Sz l a.2) (J:Sz m x) (L:Sz n y) (M:k+l+m+n+2<=8000):LG [pt a,fr x,fr y] fs=some (pt (a.1+x,a.2+y),fs):=by
 refine p9 (s:=#[[.v (pt a),.v (fr x),.v (fr y),.v (fr a.1),.v (fr a.2)],fs]) ?_;show fW LA LS LX #[[.v (pt a),.v (fr x),.v (fr y),.no,.no],fs]=_;simp![fW,c7,iG a fs (Ps.of h1 h2) ∅,js a.1 x _ h1 J ∅,js a.2 y _ h2 L ∅,qF (a.1+x) (a.2+y) _ (h1.add J) (h2.add L) ∅]
end T
namespace DL
def F3 (x y:Rat):Prop:=0<x\/(x=0/\0<y)
theorem sG (a b:Pt):P7 a b=true↔F3 (b.1 - a.1) (b.2 - a.2):=by
 unfold P7 F3;rw[Lq,Hs,HK,HK,HK];constructor
 .rintro(h | ⟨h1,h2⟩)
  .left;grind
  .right;constructor <;> grind
 .rintro(h | ⟨h1,h2⟩)
  .left;grind
  .right;constructor <;> grind
theorem BB (x y:Rat) (h:¬ (x=0/\y=0)):F3 x y\/F3 (-x) (-y):=by
 unfold F3;grind
theorem Gj (x y:Rat) (h:F3 x y):¬ F3 (-x) (-y):=by
 unfold F3 at *;grind
def qp {x y s:Rat}(J:0<s):F3 (s*x) (s*y)↔F3 x y:=by
 unfold F3;have h1:0<s*x↔0<x:=Jc J;have h2:0<s*y↔0<y:=Jc J;have L:s*x=0↔x=0:=by
  rw[Js];constructor
  .rintro(h | h)
   .rw[h] at J;exact absurd J JN
   .exact h
  .exact fun h=>.inr h
 rw[h1,h2,L]
theorem sm:¬ F3 0 0:=by unfold F3;grind
theorem uH {x y:Rat}(h:F3 x y) (s:Rat):F3 (s*x) (s*y)↔0<s:=by
 constructor
 .intro q;rcases Rat.le_total (a:=s) (b:=0) with z | z
  .rcases(Rat.le_iff_lt_or_eq).mp z with z | z
   .have:F3 (-s*x) (-s*y):=(qp (by grind)).mpr h;rw[Rat.neg_mul,Rat.neg_mul] at this;exact absurd this (Gj _ _ q)
   .rw[z,KC,KC] at q;exact absurd q sm
  .rcases(Rat.le_iff_lt_or_eq).mp z with z | z
   .exact z
   .rw[<-z,KC,KC] at q;exact absurd q sm
 .intro J;exact(qp J).mpr h
def T3 (a b:Pt) (s:Rat):Pt:=(a.1+s*(b.1 - a.1),a.2+s*(b.2 - a.2))
theorem Du {a b c:Pt}(J:a≠b) (h:w8 a b c=0):∃s,c=T3 a b s:=by
 unfold w8 at h;by_cases h1:b.1 - a.1=0
 .have h2:b.2 - a.2≠0:=fun z=>J (IG (by grind) (by grind))
  refine#[(c.2 - a.2) / (b.2 - a.2),?_];unfold T3;refine IG ?_ ?_
  .show c.1=_;have:(b.2 - a.2)*(c.1 - a.1)=0:=by grind
   rcases Js.mp this with z | z
   .exact absurd z h2
   .grind
  .show c.2=_;grind
 .refine#[(c.1 - a.1) / (b.1 - a.1),?_];unfold T3;refine IG ?_ ?_
  .show c.1=_;grind
  .show c.2=_;have e:(b.1 - a.1)*(c.2 - a.2)=(b.2 - a.2)*(c.1 - a.1):=by grind
   have:c.2 - a.2=(c.1 - a.1) / (b.1 - a.1)*(b.2 - a.2):=by grind
   grind
def G3 (a b:Pt):Rat:=(a.1 - b.1)*(a.1 - b.1)+(a.2 - b.2)*(a.2 - b.2)
theorem jP (x:Rat):0<=x*x:=by
 rcases Rat.le_total (a:=0) (b:=x) with h | h
 .exact Rat.mul_nonneg h h
 .have:=Rat.mul_nonneg (a:=-x) (b:=-x) (by grind) (by grind);grind
def tf {x:Rat}(h:x≠0):0<x*x:=Rat.lt_of_le_of_ne (jP x) (fun z=>h (by
 rcases Js.mp z.symm with q | q <;> exact q))
theorem GY {a b:Pt}(J:a≠b):0<G3 a b:=by
 unfold G3;by_cases h1:a.1 - b.1=0
 .have h2:a.2 - b.2≠0:=fun z=>J (IG (by grind) (by grind))
  have:=tf h2;have:=jP (a.1 - b.1);grind
 .have:=tf h1;have:=jP (a.2 - b.2);grind
end DL
namespace T
open PySem L2 DL
def FI (n:Int) (fs:vO_):dR [.int n] fs=some (.int (df n),fs):=by
 refine p9 (s:=#[[.v (.int n)],fs]) ?_;show bj #[[.v (.int n)],fs]=_;unfold df;by_cases h1:0<n
 .simp![bj,c7,h1]
 .by_cases h2:n<0
  .simp![bj,c7,h1,h2]
  .simp![bj,c7,h1,h2]
abbrev kg:a8:=rO dR
def Fc {a b c:Rat}(J:0<a) (M:0<b) (L:0<c):0<a*b*c:=HP (HP J M) L
theorem CD (a b c:Pt):df (pX a*(pY b*pL c - pY c*pL b) - pY a*(pX b*pL c - pX c*pL b)+pL a*(pX b*pY c - pX c*pY b))=W4 (w8 a b c):=by
 refine yc (Fc (J6 a) (J6 b) (J6 c)) ?_;simp only[KD,Lr,HA,Y7,X7,w8];grind
def Ej {k:Nat}(a b c:Pt) (fs:vO_) (M:Ps k a) (L:Ps k b) (J:Ps k c) (hk:k<=2000):kg [pt a,pt b,pt c] fs=some (.int (W4 (w8 a b c)),fs):=by
 have a1:=M.x.bits ∅;have a2:=M.y.bits ∅;have a3:=M.l.bits ∅;have W:=L.x.bits ∅;have Y:=L.y.bits ∅;have b3:=L.l.bits ∅;have U:=J.x.bits ∅;have c2:=J.y.bits ∅;have Z:=J.l.bits ∅;have d1:=((L.y.mul J.l).sub (J.y.mul L.l)).bits ∅;have d2:=((L.x.mul J.l).sub (J.x.mul L.l)).bits ∅;have d3:=((L.x.mul J.y).sub (J.x.mul L.y)).bits ∅;rw[<-CD];refine p9 (s:=#[[.v (pt a),.v (pt b),.v (pt c),.v (.int (pX a*(pY b*pL c - pY c*pL b) - pY a*(pX b*pL c - pX c*pL b)+pL a*(pX b*pY c - pX c*pY b)))],fs]) ?_;show eC dR #[[.v (pt a),.v (pt b),.v (pt c),.no],fs]=_;unfold eC;have x:∀p:Pt,c7 (pt p) (.int 0)=some (.int (pX p)):=fun _=>rfl
 have y:∀p:Pt,c7 (pt p) (.int 1)=some (.int (pY p)):=fun _=>rfl
 have l:∀p:Pt,c7 (pt p) (.int 2)=some (.int (pL p)):=fun _=>rfl
 rw[i9 (s1:=#[[.v (pt a),.v (pt b),.v (pt c),.v (.int (pX a*(pY b*pL c - pY c*pL b)))],fs]) (u4 (c9 (c9 rfl rfl (x a)) (c9 (c9 (c9 rfl rfl (y b)) (c9 rfl rfl (l c)) (D6 Y Z)) (c9 (c9 rfl rfl (y c)) (c9 rfl rfl (l b)) (D6 c2 b3)) rfl) (D6 a1 d1)) rfl),
  i9 (s1:=#[[.v (pt a),.v (pt b),.v (pt c),.v (.int (pX a*(pY b*pL c - pY c*pL b) - pY a*(pX b*pL c - pX c*pL b)))],fs]) (u4 (c9 rfl (c9 (c9 rfl rfl (y a)) (c9 (c9 (c9 rfl rfl (x b)) (c9 rfl rfl (l c)) (D6 W Z)) (c9 (c9 rfl rfl (x c)) (c9 rfl rfl (l b)) (D6 U b3)) rfl) (D6 a2 d2)) rfl) rfl),
  i9 (s1:=#[[.v (pt a),.v (pt b),.v (pt c),.v (.int (pX a*(pY b*pL c - pY c*pL b) - pY a*(pX b*pL c - pX c*pL b)+pL a*(pX b*pY c - pX c*pY b)))],fs]) (u4 (c9 rfl (c9 (c9 rfl rfl (l a)) (c9 (c9 (c9 rfl rfl (x b)) (c9 rfl rfl (y c)) (D6 W c2)) (c9 (c9 rfl rfl (x c)) (c9 rfl rfl (y b)) (D6 U Y)) rfl) (D6 a3 d3)) rfl) rfl)]
 exact u7 (u9 (l0 rfl rfl) (FI _ fs))
theorem ua {x y:Int}{p c:Rat}(J:0<c) (L:(x:Rat)=c*p) (M:(y:Rat)=c*q):(x<y↔p<q)/\(x=y↔p=q):=by
 constructor
 .rw[<-Rat.intCast_lt_intCast,L,M];exact Rat.mul_lt_mul_left J
 .rw[<-JL,L,M];constructor
  .intro h;have:c≠0:=fun z=>by rw[z] at J;exact absurd J JN
   grind
  .intro h;rw[h]
theorem Bm (a b:Pt):(pX a*pL b<pX b*pL a↔a.1<b.1)/\(pX a*pL b=pX b*pL a↔a.1=b.1):=
 ua (HP (J6 a) (J6 b)) (by rw[HA,Y7];grind) (by rw[HA,Y7];grind)
theorem Fi (a b:Pt):(pY a*pL b<pY b*pL a↔a.2<b.2)/\(pY a*pL b=pY b*pL a↔a.2=b.2):=
 ua (HP (J6 a) (J6 b)) (by rw[HA,X7];grind) (by rw[HA,X7];grind)
def rF {k:Nat}(a b:Pt) (fs:vO_) (L:Ps k a) (J:Ps k b) (hk:k<=2000):gW [pt a,pt b] fs=some (.bl (P7 a b),fs):=by
 have a1:=L.x.bits ∅;have W:=L.y.bits ∅;have M:=L.l.bits ∅;have Z:=J.x.bits ∅;have b2:=J.y.bits ∅;have Y:=J.l.bits ∅;obtain⟨x1,U⟩:=Bm a b;obtain⟨y1,y2⟩:=Fi a b;refine p9 (s:=#[[.v (pt a),.v (pt b),.v (.int (pX a*pL b)),.v (.int (pX b*pL a))],fs]) ?_;show cJ #[[.v (pt a),.v (pt b),.no,.no],fs]=_;by_cases h:a.1=b.1
 .have h':=U.mpr h;have n1:¬ a.1<b.1:=by rw[h];exact JN
  simp![cJ,c7,pt,cj,dy,cb,o8,a1,W,M,Z,b2,Y,F0,h',P7,n1,h,y1]
 .have h':¬ pX a*pL b=pX b*pL a:=fun z=>h (U.mp z)
  simp![cJ,c7,pt,cj,dy,cb,o8,a1,W,M,Z,b2,Y,F0,h',P7,h,x1]
end T
namespace DL
open PySem L2
theorem dS {t:D->DS->Option DS}{b:DM}(P:Nat->DS->Prop):∀(ds:vD_) (n:Nat) (s:DS),P n s->(∀i d s,ds[i]? = some d->P (n+i) s->∃s1 s2,t d s=some s1/\(b s1=some (.next,s2)\/b s1=some (.cont,s2))/\P (n+i+1) s2) ->
  ∃s',C5 t b ds s=some (.next,s')/\P (n+ds.length) s'
 |[],n,s,h,_=>#[s,rfl,h]
 |d::r,n,s,h,k=>by
  obtain⟨s1,s2,M,J,h2⟩:=k 0 d s rfl h;obtain⟨s',W,U⟩:=dS P r (n+1) s2 h2 (fun i L s Y Z=>by
   have:=k (i+1) L s (by simpa using Y) (by rwa [show n+1+i=n+(i+1) by omega] at Z)
   rwa [show n+(i+1)+1=n+1+i+1 by omega] at this)
  refine#[s',?_,by rw[Hv,show n+(r.length+1)=n+1+r.length by omega];exact U];rw[C5,M];rcases J with J | J <;> simp[J,W]
def eL {f:DA}{t:D->DS->Option DS}{b:DM}{s:DS}{xs:vD_}(h1:f s=some (xs,s1)) (h2:K4 xs=some ds):Y3 f t b s=C5 t b ds s1:=by
 simp only[Y3,h1,Hq,h2]
def uF {f:DE}{t:D->DS->Option DS}{b:DM}{s:DS}(h1:f s=some (.lst ds,s1)):R0 f t b s=C5 t b ds s1:=by
 simp only[R0,h1,Hq]
def jO {lo:Int}(h:(C1 lo n)[i]? = some d):d = .int (lo+i)/\i<n:=by
 have hi:i<n:=by have:=(HQ.mp h).1;rwa [Z2] at this
 rw[gC hi] at h;cases h;exact#[rfl,hi]
def jT (h:n<2 ^ 30):K4 [.int (n:Int)]=some (C1 0 n):=by
 have:-(2 ^ 62)<=(n:Int)/\(n:Int)<2 ^ 62:=by omega
 simp only[K4,fI this,IM]
end DL
namespace T
open PySem L2 DL
abbrev LN:a8:=lY LF C2
def Y6 {k:Nat}{i:Int}(h:i.natAbs<2 ^ k):Bd k i:=h
def zG {r:Int}(J:0<=r) (h1:r<3):∃m:Int,n8 [D.int 7,D.int 13,D.int 30] r=some (.int m)/\0<m/\m<=30:=by
 have:r=0\/r=1\/r=2:=by omega
 rcases this with rfl | rfl | rfl
 .exact#[7,rfl,by decide,by decide]
 .exact#[13,rfl,by decide,by decide]
 .exact#[30,rfl,by decide,by decide]
def Bf {r:Int}(J:0<=r) (h1:r<6):∃d:Int,n8 [D.int 1,D.int 1,D.int 1,D.int 2,D.int 3,D.int 4] r=some (.int d)/\0<d/\d<=4:=by
 have:r=0\/r=1\/r=2\/r=3\/r=4\/r=5:=by omega
 rcases this with rfl | rfl | rfl | rfl | rfl | rfl
 .exact#[1,rfl,by decide,by decide]
 .exact#[1,rfl,by decide,by decide]
 .exact#[1,rfl,by decide,by decide]
 .exact#[2,rfl,by decide,by decide]
 .exact#[3,rfl,by decide,by decide]
 .exact#[4,rfl,by decide,by decide]
def Dl {r m q:Int}(M:0<=r) (h1:r<m) (L:m<=30) (U:0<=q) (J:q<2):Bd 5 (r*(1 - 2*q))/\Bd 5 r/\Bd 5 q/\Bd 5 (1 - 2*q):=by
 unfold Bd;have:q=0\/q=1:=by omega
 rcases this with rfl | rfl <;> omega
def Dp {d:Int}(J:0<d) (h1:d<=4):Bd 5 d/\d≠0:=#[show d.natAbs<2 ^ 5 by omega,by omega]
def FZ {m:Int}(h:m<=30):m<2 ^ 100:=by omega
def hU {n i:Nat}(h:n<2 ^ 29) (hi:i<=100:=by decide):n+i<2 ^ 30:=by omega
def kn (h:Fd n f) (L:n<2 ^ 29):∃p f',LN [.feed] (some f)=some (fr p,some f')/\Sz 5 p/\Fd (n+4) f':=by
 obtain⟨r1,f1,e1,a1,a2,h1⟩:=D2 3 h #[] (hU (i:=0) L) #[];obtain⟨m,q1,q2,Y⟩:=zG a1 a2;obtain⟨J,Z,e2,b1,b2,h2⟩:=D2 m h1 q2 (hU L) (FZ Y);obtain⟨r3,f3,e3,c1,c2,h3⟩:=D2 6 h2 #[] (hU (i:=2) L) #[];obtain⟨d,u1,u2,u3⟩:=Bf c1 c2;obtain⟨r4,M,e4,d1,d2,h4⟩:=D2 2 h3 #[] (hU (i:=3) L) #[];obtain⟨bn,z3,z2,z4⟩:=Dl b1 b2 Y d1 d2;obtain⟨U,W⟩:=Dp u2 u3;have g:=N8 (J*(1 - 2*r4)) d (some M) W U #[];refine#[_,M,p9 (s:=#[[.v .feed,.v (.int J),.v (.int d)],some M]) ?_,Sz.of_divInt W bn U,h4];show dH LF C2 #[[.v .feed,.no,.no],some f]=_;unfold dH;rw[i9 (s1:=#[[.v .feed,.v (.int J),.no],some Z]) (u4 (eQ (l0 rfl (l0 (c9 (s1:=#[[.v .feed,.no,.no],some f]) rfl (F6 rfl e1) q1) rfl)) e2) rfl),
  i9 (s1:=#[[.v .feed,.v (.int J),.v (.int d)],some f3]) (u4 (c9 (s1:=#[[.v .feed,.v (.int J),.no],some Z]) rfl (F6 rfl e3) u1) rfl)]
 exact u7 (eQ (l0 (c9 rfl (c9 rfl (c9 rfl (F6 rfl e4) (D6 #[] (z2.bits #[]))) rfl) (D6 (z3.bits #[]) (z4.bits #[]))) rfl) g)
abbrev G7:a8:=nk LA LN
structure PtS (k:Nat) (a:Pt):Prop where
 x:Sz k a.1
 y:Sz k a.2
def PtS.ps {k:Nat}{a:Pt}(h:PtS k a):Ps (k+k) a:=Ps.of h.x h.y
theorem PtS.mono {k:Nat}{a:Pt}(h:PtS k a) (hl:k<=l):PtS l a:=#[h.x.mono hl,h.y.mono hl]
def ki (h:Fd n f) (U:n<2 ^ 28):∃a f',G7 [.feed] (some f)=some (pt a,some f')/\PtS 5 a/\Fd (n+8) f':=by
 obtain⟨p,f1,L,s1,h1⟩:=kn h ∅;obtain⟨q,J,M,s2,h2⟩:=kn h1 ∅;refine#[(p,q),J,p9 (s:=#[[.v .feed],some J]) ?_,#[s1,s2],h2];show ij LA LN #[[.v .feed],some f]=_;simp![ij,c7,L,M,qF p q _ s1 s2 ∅]
def G5 (C:String) (ds:vD_):J9 C (.tup ds)=some (.bl (B1 "tuple" C)):=rfl
def Cd (C:String) (ds:vD_):J9 C (.lst ds)=some (.bl (B1 "list" C)):=rfl
def Ce (C:String) (i:Int):J9 C (.int i)=some (.bl (B1 "int" C)):=rfl
def gy (C:String) (i:Bool):J9 C (.bl i)=some (.bl (B1 "bool" C)):=rfl
def vA (C:String) (i:Str):J9 C (.str i)=some (.bl (B1 "str" C)):=rfl
def wK (C:String):J9 C .non=some (.bl (B1 "NoneType" C)):=rfl
end T
namespace DL
open PySem L2
theorem kj {idx:List Nat}{g:D->D}(caps:List Sl) (fs:vO_):∀(ds:vD_),(∀d∈ds,∃s,fe #[.v d::caps,fs]=some (g d,s)/\s.fs=fs)->A9 (fun d=>some (.v d::caps)) w6 fe ds fs=some (ds.map g,fs)
 |[],_=>rfl
 |d::r,h=>by
  obtain⟨s,e,q⟩:=h d (HD ..);have J:=kj (idx:=idx) caps fs r fun x L=>h x (HB _ L)
  simp[A9,w6,e,q,J]
theorem jV (p:D->Bool):∀ds:List D,N2 (ds.map fun d=>.bl (p d))=some (ds.all p)
 |[]=>rfl
 |d::r=>by simp[N2,jV p r]
def qR (h:ds.length=2):∃a b,ds=[a,b]:=by
 match ds,h with
 |[a,b],_=>exact#[a,b,rfl]
def DG (h:ds.length=3):∃a b c,ds=[a,b,c]:=by
 match ds,h with
 |[a,b,c],_=>exact#[a,b,c,rfl]
def whole:D->Bool
 |.int _=>true
 |_=>false
def cG (h:whole d=true):∃i,d = .int i:=by
 cases d with
 |int i=>exact#[i,rfl]
 |_=>cases h
def B9:D->Bool
 |.tup [.int a,.int b]=>decide (1<=b)&&decide (Int.gcd a b=1)
 |_=>false
def E6:D->Bool
 |.tup [.int x,.int y,.int d]=>decide (1<=d)&&decide (Int.gcd (Int.gcd x y:Int) d=1)
 |_=>false
def thing:D->Bool
 |.feed=>false
 |.scr _=>false
 |.fn _=>false
 |.exc _ _=>false
 |_=>true
theorem Th.thing {b k:Nat}(h:Th b k d):thing d=true:=by
 cases d with
 |feed=>unfold Th at h;exact h.elim
 |scr _=>unfold Th at h;exact h.elim
 |fn _=>unfold Th at h;exact h.elim
 |exc _ _=>unfold Th at h;exact h.elim
 |_=>rfl
end DL
namespace T
open PySem L2 DL
def EM (d:D) (fs:vO_) (h:thing d=true):bo [d] fs=some (.bl (whole d),fs):=by
 refine p9 (s:=#[[.v d],fs]) ?_;show jK #[[.v d],fs]=_;cases d with
 |feed=>cases h
 |scr _=>cases h
 |fn _=>cases h
 |exc _ _=>cases h
 |non=>rfl
 |bl _=>rfl
 |int _=>rfl
 |str _=>rfl
 |tup _=>simp![jK,y9,v7,w9,v8,y8,A0,y0,G5,B1,whole]
 |lst _=>rfl
abbrev au:a8:=nF (U8 K2) bo
def E5 (J:Nat):D->Bool
 |.tup ds=>decide (ds.length=J)&&ds.all whole&&(match ds with
  |[.int a,.int b]=>decide (1<=b)&&decide (Int.gcd a b=1)
  |[.int x,.int y,.int d]=>decide (1<=d)&&decide (Int.gcd (Int.gcd x y:Int) d=1)
  |_=>false)
 |_=>false
def ma (d:D) (n:Nat) (fs:vO_) (hn:n=2\/n=3) (h:thing d=true) (hs:∀ds,d = .tup ds->(∀x∈ds,thing x=true)/\ds.length<=sizeLine):au [d,.int n] fs=some (.bl (E5 n d),fs):=by
 refine p9 (s:=#[[.v d,.v (.int n)],fs]) ?_;show cQ (U8 K2) bo #[[.v d,.v (.int n)],fs]=_;cases d with
 |feed=>cases h
 |scr _=>cases h
 |fn _=>cases h
 |exc _ _=>cases h
 |non=>rfl
 |bl _=>rfl
 |int _=>rfl
 |str _=>rfl
 |lst _=>rfl
 |tup ds=>
  obtain⟨ht,hl⟩:=hs ds rfl;have cm:A9 (fun d=>some (.v d::[])) w6 (a9 bo (a0 (dV 0) a7)) ds fs=some (ds.map (fun d=>.bl (whole d)),fs):=kj (idx:=[]) [] fs ds fun x hx=>#[#[[.v x],fs],by simp![y9,v7,w9,v8,y8,A0,y0,EM x fs (ht x hx)],rfl]
  have Y:=jV whole ds;by_cases Z:ds.length=n
  .by_cases L:ds.all whole=true
   .have J:(ds.length:Int)=(n:Int):=by omega
    have W:∀rest:DM,c8 (e8 (j7 (k6 (j4 (j8 (J9 "tuple") (dL 0)))) (dB (a6 o9 (d8 (one j5) (a0 (dL 0) a7)) (dL 1)))) (d6 (dC (.bl false))) f9) (c8 (e8 (k6 (j4 (d8 (one M0) (a0 (i5 (B6 [] (D9 (dV 0)) w6 (a9 bo (a0 (dV 0) a7)))) a7)))) (d6 (dC (.bl false))) f9) rest) #[[.v (.tup ds),.v (.int n)],fs]=rest #[[.v (.tup ds),.v (.int n)],fs]:=fun rest=>by
     rw[i9 (s1:=#[[.v (.tup ds),.v (.int n)],fs]) (by simp![y9,v7,w9,v8,y8,A0,y0,G5,B1,F0,J])];rw[i9 (s1:=#[[.v (.tup ds),.v (.int n)],fs]) (by simp![y9,v7,w9,v8,y8,A0,y0,B6,D9,hl,F8,cm,M0,Y,L])]
    unfold cQ;rw[W];rcases hn with rfl | rfl
    .obtain⟨d1,d2,rfl⟩:=qR Z
     .simp only[Jt,List.all_nil,JM,Hs] at L;obtain⟨a,rfl⟩:=cG L.1;obtain⟨c,rfl⟩:=cG L.2;refine u7 ?_;by_cases M:1<=c
      .simp![y9,v7,w9,v8,y8,A0,y0,jr,M,nD,F9,E5,whole];omega
      .simp![y9,v7,w9,v8,y8,A0,y0,jr,M,E5,whole]
    .obtain⟨d1,d2,d3,rfl⟩:=DG Z
     .simp only[Jt,List.all_nil,JM,Hs] at L;obtain⟨a,rfl⟩:=cG L.1;obtain⟨c,rfl⟩:=cG L.2.1;obtain⟨e,rfl⟩:=cG L.2.2;refine u7 ?_;by_cases M:1<=e
      .simp![y9,v7,w9,v8,y8,A0,y0,jB,M,qg,F9,E5,whole];omega
      .simp![y9,v7,w9,v8,y8,A0,y0,jB,M,E5,whole]
   .have U:ds.all whole=false:=by simpa using L
    have J:(ds.length:Int)=(n:Int):=by omega
    have:E5 n (.tup ds)=false:=by simp only[E5,U,Bool.and_false,Iu]
    rw[this];unfold cQ;rw[i9 (s1:=#[[.v (.tup ds),.v (.int n)],fs]) (by simp![y9,v7,w9,v8,y8,A0,y0,G5,B1,F0,J])];refine E2 ?_;rw[U] at Y;simp![y9,v7,w9,v8,y8,A0,y0,B6,D9,hl,F8,cm,M0,Y]
  .have J:¬ (ds.length:Int)=(n:Int):=by omega
   have:E5 n (.tup ds)=false:=by simp only[E5,iU Z,Iu]
   rw[this];unfold cQ;refine E2 ?_;simp![y9,v7,w9,v8,y8,A0,y0,G5,B1,F0,J]
def Bg (d:D):E5 2 d=B9 d:=by
 cases d with
 |tup ds=>
  match ds with
  |[]=>rfl
  |[d1]=>cases d1 <;> rfl
  |[d1,d2]=>
   cases d1 with
   |int x=>
    cases d2 with
    |int y=>simp[E5,B9,whole]
    |_=>simp[E5,B9,whole]
   |_=>simp[E5,B9,whole]
  |[d1,d2,d3]=>cases d1 <;> simp[E5,B9]
  |d1::d2::d3::d4::r=>simp[E5,B9]
 |_=>rfl
def wI (d:D):E5 3 d=E6 d:=by
 cases d with
 |tup ds=>
  match ds with
  |[]=>rfl
  |[d1]=>cases d1 <;> rfl
  |[d1,d2]=>simp[E5,E6]
  |[d1,d2,d3]=>
   cases d1 with
   |int x=>
    cases d2 with
    |int y=>
     cases d3 with
     |int z=>simp[E5,E6,whole]
     |_=>simp[E5,E6,whole]
    |_=>simp[E5,E6,whole]
   |_=>simp[E5,E6,whole]
  |d1::d2::d3::d4::r=>simp[E5,E6]
 |_=>rfl
abbrev V2:a8:=nr au
abbrev du:a8:=rL au
def Th.subs {b k:Nat}(h:Th b k d) (L:bk d<=1000000):∀ds,d = .tup ds->(∀x∈ds,thing x=true)/\ds.length<=sizeLine:=fun ds e=>by
 subst e;refine#[fun x J=>?_,?_]
 .cases k with
  |zero=>unfold Th at h;exact h.elim
  |succ k=>unfold Th at h;exact(Ths.mem h J).thing
 .have:=iP ds;rw[L9] at L;rw[Ih];omega
def jD {b k:Nat}(d:D) (fs:vO_) (h:Th b k d) (J:bk d<=1000000):V2 [d] fs=some (.bl (B9 d),fs):=by
 refine p9 (s:=#[[.v d],fs]) ?_;show fQ au #[[.v d],fs]=_;have e:=ma d 2 fs (.inl rfl) h.thing (Th.subs h J);rw[Bg] at e;have e':au [d,.int 2] fs=some (.bl (B9 d),fs):=e;simp![fQ,y9,v7,w9,v8,y8,A0,y0,e']
def yr {b k:Nat}(d:D) (fs:vO_) (h:Th b k d) (J:bk d<=1000000):du [d] fs=some (.bl (E6 d),fs):=by
 refine p9 (s:=#[[.v d],fs]) ?_;show fK au #[[.v d],fs]=_;have e:=ma d 3 fs (.inr rfl) h.thing (Th.subs h J);rw[wI] at e;have e':au [d,.int 3] fs=some (.bl (E6 d),fs):=e;simp![fK,y9,v7,w9,v8,y8,A0,y0,e']
def Ac {k b:Nat}{a:Pt}(h:Ps k a) (J:k<=b):Th b 1 (pt a):=by
 unfold pt Th;exact Ths.of (by
  intro d L;simp only[xr,HM,HN] at L;rcases L with rfl | rfl | rfl
  .unfold Th;exact h.x.mono J
  .unfold Th;exact h.y.mono J
  .unfold Th;exact h.l.mono J)
def Cw (a:Pt):bk (pt a)=3:=rfl
end T
namespace DL
open PySem L2
def A2 {α:Type}(c:Bool) (l:List α):List (α × α):=l.zip (if c then l.drop 1++l.take 1 else l.drop 1)
def R9 (p:D × D):D:=.tup [p.1,p.2]
def G6:D->Pt
 |.tup [.int x,.int y,.int d]=>(Rat.divInt x d,Rat.divInt y d)
 |_=>(0,0)
def FK {x y d:Int}(Y:1<=d) (M:Int.gcd (Int.gcd x y:Int) d=1):D.tup [.int x,.int y,.int d]=pt (Rat.divInt x d,Rat.divInt y d):=by
 have J:(d:Rat)≠0:=fun h=>by have:=Jo.mp h;omega
 have v:∀z:Int,(z:Rat)=Rat.divInt z d*(d:Rat):=fun z=>by rw[Ja,Rat.div_mul_cancel J]
 obtain⟨U,L,W⟩:=iW (a:=(Rat.divInt x d,Rat.divInt y d)) ∅ M (v x) (v y);unfold pt;rw[<-U,<-L,<-W]
def pZ (h:E6 d=true):d=pt (G6 d):=by
 cases d with
 |tup ds=>
  match ds,h with
  |[.int x,.int y,.int c],h=>
   simp only[E6,Hs,HK] at h;exact FK h.1 h.2
 |_=>cases h
def xR (h:ds.all E6=true):ds=(ds.map G6).map pt:=by
 rw[IC];have:∀d∈ds,(pt∘G6) d=d:=fun d J=>(pZ (Iq.mp h d J)).symm
 exact(List.map_id'' (f:=pt∘G6) |> fun _=>(Lj this).trans (List.map_id _)).symm
def eZ {α β:Type}(f:α->β) (c:Bool) (l:List α):A2 c (l.map f)=(A2 c l).map fun p=>(f p.1,f p.2):=by
 unfold A2;cases c
 .simp only[IY,Ii];rw[<-List.map_drop,List.zip_map];rfl
 .simp only[HI];rw[<-List.map_drop,<-List.map_take,<-Kr,List.zip_map];rfl
def uL {α:Type}(c:Bool) (l:List α):(A2 c l).length<=l.length:=by
 unfold A2;rw[List.length_zip];exact JE ..
def cK {α:Type}{c:Bool}{l:List α}{p:α × α}(h:p∈A2 c l):p.1∈l/\p.2∈l:=by
 unfold A2 at h;obtain⟨h1,h2⟩:=Je (a:=p.1) (b:=p.2) h;refine#[h1,?_];cases c
 .simp only[IY,Ii] at h2;exact List.mem_of_mem_drop h2
 .simp only[HI] at h2;rcases Im.mp h2 with h | h
  .exact List.mem_of_mem_drop h
  .exact List.mem_of_mem_take h
theorem kZ:∀(xs ys:vD_),List.zipWith cV xs ys=(xs.zip ys).map R9
 |[],_=>by simp
 |_::_,[]=>by simp
 |x::xs,y::ys=>by
  rw[LQ,List.zip_cons_cons,Hu,kZ xs ys];rfl
def nV (a:Pt):G6 (pt a)=a:=by
 show (Rat.divInt (pX a) (pL a),Rat.divInt (pY a) (pL a))=a;rw[T.px_div,T.py_div]
def J0 (a b c:Pt):Bool:=decide (w8 a b c=0)&&(P7 a b == P7 b c)
def N3 (c:Bool) (ps:vT_):Bool:=(A2 c ps).all (fun p=>!decide (p.1=p.2))&&(A2 c (A2 c ps)).all fun q=>!J0 q.1.1 q.1.2 q.2.2
def lo (c:Bool):Nat:=if c then 3 else 2
def hi (c:Bool):Nat:=if c then 8 else 9
def U7:D->Bool
 |.tup [.bl c,.tup ds]=>(decide (lo c<=ds.length)&&decide (ds.length<=hi c))&&(ds.all E6&&N3 c (ds.map G6))
 |_=>false
def rT (ds:vD_):M3 ds (some 1) none=ds.drop 1:=by
 cases ds with
 |nil=>rfl
 |cons d r=>exact Bw (d::r) 1 (by simp)
def Bx (ds:vD_):M3 ds none (some 1)=ds.take 1:=by
 cases ds with
 |nil=>rfl
 |cons d r=>exact Hi (d::r) 1 (by simp)
theorem mS {idx:List Nat}{sl:List Sl}{fe:DE}{g:D × D->D}(fs:vO_):∀(qs:List (D × D)),(∀q∈qs,∃s,fe #[.v q.1 :: .v q.2::F8 idx sl,fs]=some (g q,s)/\s.fs=fs)->A9 (bO idx sl) w6 fe (qs.map R9) fs=some (qs.map g,fs)
 |[],_=>rfl
 |q::r,h=>by
  obtain⟨s,e,J⟩:=h q (HD ..);have L:=mS (idx:=idx) (sl:=sl) fs r fun x M=>h x (HB _ M)
  simp[A9,w6,bO,R9,e,J,L]
theorem qD {α:Type}(p:α->Bool):∀ds:List α,N2 (ds.map fun d=>.bl (p d))=some (ds.all p)
 |[]=>rfl
 |d::r=>by simp[N2,qD p r]
theorem yL (r:Rat):(W4 r=0)↔r=0:=by
 unfold W4;constructor
 .intro h;split at h
  .cases h
  .split at h
   .cases h
   .grind
 .intro h;subst h;simp
end DL
namespace T
open PySem L2 DL
def oA (ds:vD_) (c:Bool) (fs:vO_) (hl:ds.length+1<=sizeLine):R5 [.tup ds,.bl c] fs=some (.lst ((A2 c ds).map R9),fs):=by
 refine p9 (s:=#[[.v (.tup ds),.v (.bl c)],fs]) ?_;show gK #[[.v (.tup ds),.v (.bl c)],fs]=_;have h1:ds.length - 1+min 1 ds.length<=sizeLine:=by omega
 cases c
 .simp![gK,y9,v7,w9,v8,y8,A0,y0,T5,M8,P5,X2,aM,Z0,rT,A2,kZ]
 .simp![gK,y9,v7,w9,v8,y8,A0,y0,T5,M8,P5,X2,aM,Z0,rT,Bx,A2,kZ,h1]
abbrev V0:a8:=oC R5
def qu (ds:vD_) (c:Bool) (fs:vO_) (hl:ds.length+1<=sizeLine):V0 [.tup [.bl c,.tup ds]] fs=some (.tup ((A2 c ds).map R9),fs):=by
 refine p9 (s:=#[[.v (.tup [.bl c,.tup ds])],fs]) ?_;show dX R5 #[[.v (.tup [.bl c,.tup ds])],fs]=_;have e:=oA ds c fs hl;simp![dX,y9,v7,w9,v8,y8,A0,y0,L5,W8,e,K8]
abbrev ja:a8:=nX V0
def vg {k:Nat}(ps:vT_) (c:Bool) (fs:vO_) (U:k<=1920) (Y:∀p∈ps,Ps k p) (hl:ps.length+1<=sizeLine):ja [.tup [.bl c,.tup (ps.map pt)]] fs=some (.bl ((A2 c ps).all fun p=>!decide (p.1=p.2)),fs):=by
 refine p9 (s:=#[[.v (.tup [.bl c,.tup (ps.map pt)])],fs]) ?_;show je V0 #[[.v (.tup [.bl c,.tup (ps.map pt)])],fs]=_;have e:=qu (ps.map pt) c fs (by simpa using hl);have M:=mS (idx:=[]) (sl:=[.v (.tup [.bl c,.tup (ps.map pt)])]) (fe:=a6 o9 (dL 0) (dL 1)) (g:=fun q=>.bl (!decide (G6 q.1=G6 q.2))) fs (A2 c (ps.map pt)) (by
  intro q Z;rw[eZ] at Z;obtain⟨p,L,rfl⟩:=HW.mp Z;obtain⟨m1,m2⟩:=cK L;have ne:=Am (Y _ m1) (Y _ m2) U U;exact#[#[.v (pt p.1) :: .v (pt p.2)::F8 [] [.v (.tup [.bl c,.tup (ps.map pt)])],fs],by simp[a6,dL,ne,nV],rfl])
 have J:((A2 c (ps.map pt)).map R9).length<=sizeLine:=by
  rw[Hr];have:=uL c (ps.map pt);simp only[Hr] at this;omega
 have al:(A2 c (ps.map pt)).map (fun q=>D.bl (!decide (G6 q.1=G6 q.2)))=(A2 c ps).map fun p=>.bl (!decide (p.1=p.2)):=by
  rw[eZ,IC];exact Lj fun p _=>by simp[nV]
 rw[al] at M;generalize List.map R9 (A2 c (ps.map pt))=W at *;simp![je,y9,v7,w9,v8,y8,A0,y0,cg,D9,e,J,M,M0,qD]
abbrev bB:a8:=nH gW kg
def EI (x y:Bool):u6 (.bl x) (.bl y)=some (.bl (x == y)):=by cases x <;> cases y <;> rfl
def Cp {k:Nat}(a b c:Pt) (fs:vO_) (W:Ps k a) (M:Ps k b) (U:Ps k c) (hk:k<=1920):bB [pt a,pt b,pt c] fs=some (.bl (J0 a b c),fs):=by
 refine p9 (s:=#[[.v (pt a),.v (pt b),.v (pt c)],fs]) ?_;show cU gW kg #[[.v (pt a),.v (pt b),.v (pt c)],fs]=_;have J:=Ej a b c fs W M U ∅;have Z:=rF a b fs W M ∅;have Y:=rF b c fs M U ∅;have z:=yL (w8 a b c);by_cases h:w8 a b c=0
 .have L:W4 (w8 a b c)=0:=z.mpr h;rw[L] at J;simp![cU,y9,v7,w9,v8,y8,A0,y0,J,Z,Y,F9,EI,J0,h]
 .have L:¬ W4 (w8 a b c)=0:=fun e=>h (z.mp e)
  simp![cU,y9,v7,w9,v8,y8,A0,y0,J,F9,J0,h,L]
def gZ {b k:Nat}(h:Th b k (.tup ds)):∀d∈ds,Th b k d:=fun d J=>by
 cases k with
 |zero=>unfold Th at h;exact h.elim
 |succ k=>unfold Th at h;exact Th.mono (iR _) d ∅ (Ths.mem h J)
def B3 (p:Pt × Pt):D:=.tup [pt p.1,pt p.2]
def Bj (c:Bool) (ps:vT_):(A2 c (ps.map pt)).map R9=(A2 c ps).map B3:=by
 rw[eZ,IC];rfl
abbrev kY:a8:=lS bB R5 V0
theorem sF {k:Nat}(l:D) (fs:vO_) (J:k<=1920):∀(qs:List ((Pt × Pt) × (Pt × Pt))) (x y:Sl),(∀q∈qs,Ps k q.1.1/\Ps k q.1.2/\Ps k q.2.2) ->
  ∃x' y',C5 (m6 2 (l5 (d0 1) (l5 (d0 2) m7))) (fj bB R5 V0) (qs.map fun q=>.tup [B3 q.1,B3 q.2]) #[[.v l,x,y],fs] =
   some (if qs.all (fun q=>!J0 q.1.1 q.1.2 q.2.2) then .next else .ret (.bl false),#[[.v l,x',y'],fs])
 |[],x,y,_=>#[x,y,rfl]
 |q::r,x,y,h=>by
  obtain⟨h1,h2,L⟩:=h q (.head _);have e:=Cp q.1.1 q.1.2 q.2.2 fs h1 h2 L J;obtain⟨x',y',M⟩:=sF l fs J r (.v (B3 q.1)) (.v (B3 q.2)) fun p U=>h p (.tail _ U)
  cases g:J0 q.1.1 q.1.2 q.2.2
  .rw[g] at e;refine#[x',y',?_];have b:fj bB R5 V0 #[[.v l,.v (B3 q.1),.v (B3 q.2)],fs]=some (.next,#[[.v l,.v (B3 q.1),.v (B3 q.2)],fs]):=by
    simp![y9,v7,w9,v8,y8,A0,y0,B3,L5,W8,e]
   simp only[Hu,C5];have t:m6 2 (l5 (d0 1) (l5 (d0 2) m7)) (.tup [B3 q.1,B3 q.2]) #[[.v l,x,y],fs]=some #[[.v l,.v (B3 q.1),.v (B3 q.2)],fs]:=by simp[m6,l5,d0,m7]
   simp only[t,Hq,b,M,Jt,g,Bool.not_false,IZ]
  .rw[g] at e;refine#[.v (B3 q.1),.v (B3 q.2),?_];have b:fj bB R5 V0 #[[.v l,.v (B3 q.1),.v (B3 q.2)],fs]=some (.ret (.bl false),#[[.v l,.v (B3 q.1),.v (B3 q.2)],fs]):=by
    simp![y9,v7,w9,v8,y8,A0,y0,B3,L5,W8,e]
   simp only[Hu,C5];have t:m6 2 (l5 (d0 1) (l5 (d0 2) m7)) (.tup [B3 q.1,B3 q.2]) #[[.v l,x,y],fs]=some #[[.v l,.v (B3 q.1),.v (B3 q.2)],fs]:=by simp[m6,l5,d0,m7]
   simp only[t,Hq,b,Jt,g,Bool.not_true,Iu,IY,Ii]
def wG {k:Nat}(ps:vT_) (c:Bool) (fs:vO_) (hk:k<=1920) (L:∀p∈ps,Ps k p) (hl:ps.length+1<=sizeLine):kY [.tup [.bl c,.tup (ps.map pt)]] fs=some (.bl ((A2 c (A2 c ps)).all fun q=>!J0 q.1.1 q.1.2 q.2.2),fs):=by
 have U:=qu (ps.map pt) c fs (by simpa using hl);rw[Bj] at U;have W:=oA ((A2 c ps).map B3) c fs (by
  have:=uL c ps;simp only[Hr];omega)
 have Z:(A2 c ((A2 c ps).map B3)).map R9=(A2 c (A2 c ps)).map fun q=>.tup [B3 q.1,B3 q.2]:=by
  rw[eZ,IC];rfl
 rw[Z] at W;obtain⟨x',y',J⟩:=sF (.tup [.bl c,.tup (ps.map pt)]) fs hk (A2 c (A2 c ps)) .no .no (fun q hq=>by
  obtain⟨Y,m2⟩:=cK hq;exact#[L _ (cK Y).1,L _ (cK Y).2,L _ (cK m2).2])
 have fe:(a9 R5 (a0 (a9 V0 (a0 (dV 0) a7)) (a0 (k0 0 0) a7))) #[[.v (.tup [.bl c,.tup (ps.map pt)]),.no,.no],fs]=some (.lst ((A2 c (A2 c ps)).map fun q=>.tup [B3 q.1,B3 q.2]),#[[.v (.tup [.bl c,.tup (ps.map pt)]),.no,.no],fs]):=by
  simp![y9,v7,w9,v8,y8,A0,y0,U,W,L5]
 refine p9 (s:=#[[.v (.tup [.bl c,.tup (ps.map pt)]),x',y'],fs]) ?_;show fS bB R5 V0 #[[.v (.tup [.bl c,.tup (ps.map pt)]),.no,.no],fs]=_;unfold fS;cases M:(A2 c (A2 c ps)).all fun q=>!J0 q.1.1 q.1.2 q.2.2
 .rw[M] at J;exact E2 ((uF fe).trans J)
 .rw[M] at J;rw[i9 ((uF fe).trans J)];rfl
abbrev iE:a8:=tq du
def V8 (c:Bool):D->Bool
 |.tup ds=>(decide (lo c<=ds.length)&&decide (ds.length<=hi c))&&ds.all E6
 |_=>false
def BH {b k:Nat}(d:D) (c:Bool) (fs:vO_) (h:Th b k d) (Y:bk d<=1000000):iE [.tup [.bl c,d]] fs=some (.bl (V8 c d),fs):=by
 show t7 3 (dY du) [.tup [.bl c,d]] fs=_;have J:=h.thing;cases d with
 |feed=>cases J
 |scr _=>cases J
 |fn _=>cases J
 |exc _ _=>cases J
 |non=>rfl
 |bl _=>rfl
 |int _=>rfl
 |str _=>rfl
 |lst _=>rfl
 |tup ds=>
  have hn:ds.length<=sizeLine:=by
   have:=iP ds;rw[L9] at Y;rw[Ih];omega
  have cm:=kj (idx:=[]) (fe:=a9 du (a0 (dV 0) a7)) (g:=fun d=>.bl (E6 d)) [] fs ds (by
   intro d Z;have hb:=fB Z;rw[L9] at Y;have e:=yr d fs (gZ h d Z) ∅;exact#[#[[.v d],fs],u9 rfl e,rfl])
  have al:=jV E6 ds;refine p9 (s:=#[[.v (.tup [.bl c,.tup ds]),.v (.int (lo c)),.v (.int (hi c))],fs]) ?_;show dY du #[[.v (.tup [.bl c,.tup ds]),.no,.no],fs]=_;unfold dY;have t2:d5 (j9 (j4 (k0 0 0)) (b0 3) (b0 2)) (d0 1) #[[.v (.tup [.bl c,.tup ds]),.no,.no],fs]=some (.next,#[[.v (.tup [.bl c,.tup ds]),.v (.int (lo c)),.no],fs]):=by cases c <;> rfl
  have t3:d5 (j9 (j4 (k0 0 0)) (b0 8) (b0 9)) (d0 2) #[[.v (.tup [.bl c,.tup ds]),.v (.int (lo c)),.no],fs]=some (.next,#[[.v (.tup [.bl c,.tup ds]),.v (.int (lo c)),.v (.int (hi c))],fs]):=by cases c <;> rfl
  rw[i9 (s1:=#[[.v (.tup [.bl c,.tup ds]),.no,.no],fs]) (C3 (V4 (b:=true) rfl)),i9 t2,i9 t3];have M:dB (a6 (i8 (fun i j=>decide (i<j))) (d8 (one j5) (a0 (k0 0 1) a7)) (dL 1)) #[[.v (.tup [.bl c,.tup ds]),.v (.int (lo c)),.v (.int (hi c))],fs]=some (decide ((ds.length:Int)<(lo c:Int)),#[[.v (.tup [.bl c,.tup ds]),.v (.int (lo c)),.v (.int (hi c))],fs]):=x8 (c9 (C7 (p:=j5) (c9 rfl rfl rfl) rfl) rfl rfl);have U:dB (a6 (i8 (fun i j=>decide (j<i))) (d8 (one j5) (a0 (k0 0 1) a7)) (dL 2)) #[[.v (.tup [.bl c,.tup ds]),.v (.int (lo c)),.v (.int (hi c))],fs]=some (decide ((hi c:Int)<(ds.length:Int)),#[[.v (.tup [.bl c,.tup ds]),.v (.int (lo c)),.v (.int (hi c))],fs]):=x8 (c9 (C7 (p:=j5) (c9 rfl rfl rfl) rfl) rfl rfl);by_cases W:lo c<=ds.length
  .rw[iU (show ¬ (ds.length:Int)<(lo c:Int) by omega)] at M;by_cases g2:ds.length<=hi c
   .rw[iU (show ¬ (hi c:Int)<(ds.length:Int) by omega)] at U;have L:V8 c (.tup ds)=ds.all E6:=by
     show ((decide (lo c<=ds.length)&&decide (ds.length<=hi c))&&ds.all E6)=_;rw[xl W,xl g2];rfl
    rw[L,i9 (C3 (F2 M U))];refine u7 (C7 (p:=M0) (D4 (af (idx:=[]) (ds:=ds) (s1:=#[[.v (.tup [.bl c,.tup ds]),.v (.int (lo c)),.v (.int (hi c))],fs]) rfl hn cm)) ?_);unfold M0;simp only[al,KS]
   .rw[xl (show (hi c:Int)<(ds.length:Int) by omega)] at U;have L:V8 c (.tup ds)=false:=by
     show ((decide (lo c<=ds.length)&&decide (ds.length<=hi c))&&ds.all E6)=_;rw[iU g2,Bool.and_false,Iu]
    rw[L];exact E2 ((C4 (F2 M U)).trans rfl)
  .rw[xl (show (ds.length:Int)<(lo c:Int) by omega)] at M;have L:V8 c (.tup ds)=false:=by
    show ((decide (lo c<=ds.length)&&decide (ds.length<=hi c))&&ds.all E6)=_;rw[iU W,Iu,Iu]
   rw[L];exact E2 ((C4 (Y4 M)).trans rfl)
abbrev Q8:a8:=nJ kY ja iE
def DP {b k:Nat}(h:∀d∈ds,Th b k d) (U:ds.all E6=true):∀p∈ds.map G6,Ps b p:=fun p L=>by
 obtain⟨d,M,rfl⟩:=HW.mp L;have e:=pZ (Iq.mp U d M);have J:=h d M;rw[e] at J;cases k with
 |zero=>unfold pt Th at J;exact J.elim
 |succ k=>
  simp only[pt,Th,Ths] at J;exact#[J.1,J.2.1,J.2.2.1]
def wt {b k:Nat}(d:D) (fs:vO_) (h:Th b k d) (hb:b<=1900) (hs:bk d<=1000000):Q8 [d] fs=some (.bl (U7 d),fs):=by
 refine p9 (s:=#[[.v d],fs]) ?_;show Y8 kY ja iE #[[.v d],fs]=_;have J:=h.thing;cases d with
 |feed=>cases J
 |scr _=>cases J
 |fn _=>cases J
 |exc _ _=>cases J
 |non=>rfl
 |bl _=>rfl
 |int _=>rfl
 |str _=>rfl
 |lst _=>rfl
 |tup ds=>
  by_cases Y:ds.length=2
  .obtain⟨x,y,rfl⟩:=qR Y;have hx:=gZ h x (by simp);have hy:=gZ h y (by simp);have by':bk y<=1000000:=by have:=fB (show y∈[x,y] by simp);rw[L9] at hs;omega
   have W:=hx.thing;cases x with
   |feed=>cases W
   |scr _=>cases W
   |fn _=>cases W
   |exc _ _=>cases W
   |non=>rfl
   |int _=>rfl
   |str _=>rfl
   |lst _=>rfl
   |tup _=>simp![Y8,y9,v7,w9,v8,y8,A0,y0,L5,G5,B1,F0,U7]
   |bl c=>
    have M:=BH y c fs hy by'
    cases L:V8 c y
    .rw[L] at M;have:U7 (.tup [.bl c,y])=false:=by
      cases y with
      |tup es=>
       simp only[V8] at L;simp only[U7,<-Bool.and_assoc,L,Iu]
      |_=>rfl
     rw[this];simp![Y8,y9,v7,w9,v8,y8,A0,y0,L5,G5,gy,B1,F0,M]
    .rw[L] at M;cases y with
     |tup es=>
      simp only[V8,Hs,HK] at L;obtain⟨⟨l1,l2⟩,hp⟩:=L;have en:=xR hp;have pp:=DP (gZ hy) hp;have hl:(es.map G6).length+1<=sizeLine:=by
       rw[Hr,Ih];have:hi c<=9:=by cases c <;> decide
       omega
      have U:=vg (es.map G6) c fs ∅ pp hl;have e3:=wG (es.map G6) c fs ∅ pp hl;rw[<-en] at U e3;have v:U7 (.tup [.bl c,.tup es])=N3 c (es.map G6):=by simp[U7,l1,l2,hp]
      rw[v];cases g:(A2 c (es.map G6)).all fun p=>!decide (p.1=p.2)
      .rw[g] at U;simp only[N3,g,Iu];simp![Y8,y9,v7,w9,v8,y8,A0,y0,L5,G5,gy,B1,F0,M,U]
      .rw[g] at U;simp only[N3,g,IZ];simp![Y8,y9,v7,w9,v8,y8,A0,y0,L5,G5,gy,B1,F0,M,U,e3]
     |_=>simp[V8] at L
  .have Z:¬ (ds.length:Int)=2:=by omega
   have:U7 (.tup ds)=false:=by
    match ds,Y with
    |[],_=>rfl
    |[_],_=>unfold U7;split <;> first | rfl | simp_all
    |[_,_],Y=>exact absurd rfl Y
    |_::_::_::_,_=>unfold U7;split <;> first | rfl | simp_all
   rw[this];simp![Y8,y9,v7,w9,v8,y8,A0,y0,G5,B1,F0,Z]
end T
namespace DL
open PySem L2
def D0 (a b:Pt):Int × Int:=(pX b*pL a - pX a*pL b,pY b*pL a - pY a*pL b)
def kA (u v:Int × Int):Bool:=decide (u.1*v.2=u.2*v.1)&&decide (0<u.1*v.1+u.2*v.2)
theorem dG (a b:Pt):((D0 a b).1:Rat)=((pL a:Rat)*(pL b:Rat))*(b.1 - a.1)/\((D0 a b).2:Rat)=((pL a:Rat)*(pL b:Rat))*(b.2 - a.2):=by
 unfold D0;constructor
 .simp only[Lr,HA,Y7];grind
 .simp only[Lr,HA,X7];grind
theorem yf {a b c:Pt}(J:a≠b) (Y:b≠c):J0 a b c=kA (D0 a b) (D0 b c):=by
 obtain⟨U,e2⟩:=dG a b;obtain⟨f1,f2⟩:=dG b c;have hp:=HP (J6 a) (J6 b);have hq:=HP (J6 b) (J6 c);generalize (pL a:Rat)*(pL b:Rat)=p at *;generalize (pL b:Rat)*(pL c:Rat)=q at *;have M:=HP hp hq;have Z:((D0 a b).1*(D0 b c).2=(D0 a b).2*(D0 b c).1)↔w8 a b c=0:=by
  rw[<-JL,HA,HA,U,e2,f1,f2];unfold w8;constructor
  .intro h;have:(p*q)*((b.1 - a.1)*(c.2 - b.2) - (b.2 - a.2)*(c.1 - b.1))=0:=by grind
   rcases Js.mp this with z | z
   .grind
   .grind
  .intro h;grind
 have c2:(0<(D0 a b).1*(D0 b c).1+(D0 a b).2*(D0 b c).2)↔0<(b.1 - a.1)*(c.1 - b.1)+(b.2 - a.2)*(c.2 - b.2):=by
  rw[<-Ib,KD,HA,HA,U,e2,f1,f2];have:p*(b.1 - a.1)*(q*(c.1 - b.1))+p*(b.2 - a.2)*(q*(c.2 - b.2))=(p*q)*((b.1 - a.1)*(c.1 - b.1)+(b.2 - a.2)*(c.2 - b.2)):=by grind
  rw[this];constructor
  .intro h;exact(Jc M).mp h
  .intro h;exact HP M h
 unfold J0 kA;by_cases L:w8 a b c=0
 .simp only[L,decide_true,IZ,Z.mpr L];rw[HZ,beq_iff_eq,HK,c2];obtain⟨s,rfl⟩:=Du J L;have k1:(T3 a b s).1 - b.1=(s - 1)*(b.1 - a.1):=by unfold T3;grind
  have k2:(T3 a b s).2 - b.2=(s - 1)*(b.2 - a.2):=by unfold T3;grind
  have l1:=sG a b;have l2:=sG b (T3 a b s);rw[k1,k2] at l2 ⊢;have nz:¬ (b.1 - a.1=0/\b.2 - a.2=0):=fun z=>J (IG (by grind) (by grind))
  have tz:s - 1≠0:=fun z=>Y (IG (by rw[z] at k1;grind) (by rw[z] at k2;grind))
  have dp:=GY J;have dd:(b.1 - a.1)*((s - 1)*(b.1 - a.1))+(b.2 - a.2)*((s - 1)*(b.2 - a.2))=G3 a b*(s - 1):=by unfold G3;grind
  rw[dd,Jc dp];generalize b.1 - a.1=x at *;generalize b.2 - a.2=y at *;generalize s - 1=t at *;by_cases W:F3 x y
  .rw[l1.mpr W,<-uH W t,<-l2];exact#[fun h=>h.symm,fun h=>h.symm]
  .have U:P7 a b=false:=by
    cases h:P7 a b
    .rfl
    .exact absurd (l1.mp h) W
   have hn:F3 (-x) (-y):=(BB x y nz).resolve_left W;have l3:F3 (t*x) (t*y)↔0 < -t:=by
    have:=uH hn (-t)
    rwa [show -t * -x=t*x by grind,show -t * -y=t*y by grind] at this
   rw[U];constructor
   .intro h;have:¬ 0 < -t:=fun z=>by have:=l2.mpr (l3.mpr z);rw[<-h] at this;cases this
    grind
   .intro h;cases h2:P7 b (T3 a b s)
    .rfl
    .have:=l3.mp (l2.mp h2);grind
 .have:¬ ((D0 a b).1*(D0 b c).2=(D0 a b).2*(D0 b c).1):=fun z=>L (Z.mp z)
  simp[L,this]
def Z6 {α:Type}{xs:List α}{x:α}(h:xs[xs.length - 1]? = some x):n8 xs (-1)=some x:=by
 have hi:=(HQ.mp h).1;unfold n8 L8;rw[gV ∅,fI ∅];show xs[_]? = _;rw[show ((-1:Int)+xs.length).toNat=xs.length - 1 by omega];exact h
end DL
namespace T
open PySem L2 DL
def EB {i j:Int}(h1:A8 i=true) (h2:A8 j=true):o8 (.int i) (.int j)=some (.int (i*j)):=by simp[o8,h1,h2]
end T
namespace DL
open PySem L2
def FA (i:Int):D.tup [.int i,.int 1]=fr (i:Rat):=rfl
def t6 (w:Rat × Rat × Rat):D:=.lst [fr w.1,fr w.2.1,fr w.2.2]
structure WyS (k:Nat) (w:Rat × Rat × Rat):Prop where
 x:Sz k w.1
 y:Sz k w.2.1
 l:Sz k w.2.2
 nz:¬ (w.1=0/\w.2.1=0)
 ex:w.1*w.1+w.2.1*w.2.1=w.2.2*w.2.2
 lp:0<w.2.2
 dr:∃X Y l:Int,X.natAbs<=15/\Y.natAbs<=15/\0<l/\l<=17/\w.1*(l:Rat)=(X:Rat)*w.2.2/\w.2.1*(l:Rat)=(Y:Rat)*w.2.2
end DL
namespace T
open PySem L2 DL
abbrev U9:a8:=lF LP LF C2
def vk {r:Int}(J:0<=r) (h1:r<6):∃x y l:Int,n8 [D.tup [.int 1,.int 0,.int 1],.tup [.int 1,.int 0,.int 1],.tup [.int 3,.int 4,.int 5],.tup [.int 4,.int 3,.int 5],.tup [.int 5,.int 12,.int 13],.tup [.int 8,.int 15,.int 17]] r=some (.tup [.int x,.int y,.int l])/\0<x/\x<=15/\0<=y/\y<=15/\0<l/\l<=17/\x*x+y*y=l*l:=by
 have:r=0\/r=1\/r=2\/r=3\/r=4\/r=5:=by omega
 rcases this with rfl | rfl | rfl | rfl | rfl | rfl
 .exact#[1,0,1,rfl,by decide]
 .exact#[1,0,1,rfl,by decide]
 .exact#[3,4,5,rfl,by decide]
 .exact#[4,3,5,rfl,by decide]
 .exact#[5,12,13,rfl,by decide]
 .exact#[8,15,17,rfl,by decide]
def wX {r:Int}(J:0<=r) (h1:r<5):∃a:Int,n8 [D.int 1,.int 2,.int 3,.int 4,.int 6] r=some (.int a)/\0<a/\a<=6:=by
 have:r=0\/r=1\/r=2\/r=3\/r=4:=by omega
 rcases this with rfl | rfl | rfl | rfl | rfl
 .exact#[1,rfl,by decide]
 .exact#[2,rfl,by decide]
 .exact#[3,rfl,by decide]
 .exact#[4,rfl,by decide]
 .exact#[6,rfl,by decide]
def tw {i:Int}(h:i.natAbs<2 ^ 10):A8 i=true:=(show Bd 10 i from h).bits ∅
def cT {i:Int}(h:n8 ds i=some d):c7 (.lst ds) (.int i)=some d:=(v7 ds i).trans h
def vU {s:DS}{R:vD_}(h:fi s=some (ds,s1)) (hz:ds.length<=sizeLine) (c:A9 (fun d=>some (.v d::F8 idx s1.sl)) fc fe ds s1.fs=some (R,fs')):B6 idx fi fc fe s=some (R,{ s1 with fs:=fs' }):=by
 unfold B6;rw[h,Hq,fI hz,c];rfl
abbrev mU (m:a8):DM:=e8 (dB (a6 u6 (a9 m (a0 (dV 0) (a0 (b0 2) a7))) (b0 0))) (m5 1 2 (a0 (dV 2) (a0 (dV 1) a7))) f9
def Fw {Y m2 Z:a8}{f1 f2 f3 f4 f5 f6 J:FS}{r1 L U r5 r6 r7 x y l M W a b d:Int}{s v1 v2 v3:D}
  (e1:Z [.feed,.int 6] (some f)=some (.int r1,some f1))
  (q:n8 [D.tup [.int 1,.int 0,.int 1],.tup [.int 1,.int 0,.int 1],.tup [.int 3,.int 4,.int 5],.tup [.int 4,.int 3,.int 5],.tup [.int 5,.int 12,.int 13],.tup [.int 8,.int 15,.int 17]] r1=some (.tup [.int x,.int y,.int l]))
  (sw:mU Z #[[.v .feed,.v (.int x),.v (.int y),.v (.int l),.no],some f1]=some (.next,#[[.v .feed,.v (.int M),.v (.int W),.v (.int l),.no],some f2]))
  (e3:Z [.feed,.int 2] (some f2)=some (.int L,some f3)) (p3:o8 (.int 2) (.int L)=some (.int (2*L))) (q3:o8 (.int M) (.int (1 - 2*L))=some (.int (M*(1 - 2*L))))
  (e4:Z [.feed,.int 2] (some f3)=some (.int U,some f4)) (p4:o8 (.int 2) (.int U)=some (.int (2*U))) (q4:o8 (.int W) (.int (1 - 2*U))=some (.int (W*(1 - 2*U))))
  (e5:Z [.feed,.int 5] (some f4)=some (.int r5,some f5)) (q5:n8 [D.int 1,.int 2,.int 3,.int 4,.int 6] r5=some (.int a))
  (e6:Z [.feed,.int 2] (some f5)=some (.int r6,some f6)) (q6:n8 [D.int 1,.int l] r6=some (.int b)) (p6:o8 (.int a) (.int b)=some (.int (a*b))) (p7:o8 (.int 2) (.int l)=some (.int (2*l)))
  (e7:Z [.feed,.int 3] (some f6)=some (.int r7,some J)) (q7:n8 [D.int 1,.int l,.int (2*l)] r7=some (.int d)) (ef:m2 [.int (a*b),.int d] (some J)=some (s,some J))
  (w1:Y [.tup [.int (M*(1 - 2*L)),.int 1],s] (some J)=some (v1,some J)) (w2:Y [.tup [.int (W*(1 - 2*U)),.int 1],s] (some J)=some (v2,some J)) (w3:Y [.tup [.int l,.int 1],s] (some J)=some (v3,some J)) :
  lF Y m2 Z [.feed] (some f)=some (.lst [v1,v2,v3],some J):=by
 refine p9 (s:=#[[.v .feed,.v (.int (M*(1 - 2*L))),.v (.int (W*(1 - 2*U))),.v (.int l),.v s],some J]) ?_;show kJ Y m2 Z #[[.v .feed,.no,.no,.no,.no],some f]=_;unfold kJ;rw[i9 (s1:=#[[.v .feed,.v (.int x),.v (.int y),.v (.int l),.no],some f1]) (u4 (c9 (s1:=#[[.v .feed,.no,.no,.no,.no],some f]) rfl (C0 rfl e1) (cT q)) rfl)];rw[i9 (s1:=#[[.v .feed,.v (.int M),.v (.int W),.v (.int l),.no],some f2]) sw,
  i9 (s1:=#[[.v .feed,.v (.int (M*(1 - 2*L))),.v (.int W),.v (.int l),.no],some f3]) (u4 (c9 rfl (c9 rfl (c9 rfl (C0 rfl e3) p3) rfl) q3) rfl),
  i9 (s1:=#[[.v .feed,.v (.int (M*(1 - 2*L))),.v (.int (W*(1 - 2*U))),.v (.int l),.no],some f4]) (u4 (c9 rfl (c9 rfl (c9 rfl (C0 rfl e4) p4) rfl) q4) rfl),
  i9 (s1:=#[[.v .feed,.v (.int (M*(1 - 2*L))),.v (.int (W*(1 - 2*U))),.v (.int l),.v (.int (a*b))],some f6]) (u4 (c9 (c9 rfl (C0 rfl e5) (cT q5)) (c9 rfl (C0 rfl e6) (cT q6)) p6) rfl)]
 rw[i9 (s1:=#[[.v .feed,.v (.int (M*(1 - 2*L))),.v (.int (W*(1 - 2*U))),.v (.int l),.v s],some J]) (u4 (C0 (l0 rfl (l0 (c9 (x:=.lst [.int 1,.int l,.int (2*l)]) (s1:=#[[.v .feed,.v (.int (M*(1 - 2*L))),.v (.int (W*(1 - 2*U))),.v (.int l),.v (.int (a*b))],some f6]) (by
  show i5 (i6 _) _=_;unfold i5 i6;rw[l0 rfl (l0 rfl (l0 (c9 rfl rfl p7) rfl))];rfl) (C0 rfl e7) (cT q7)) rfl)) ef) rfl)]
 refine u7 ?_;have c:A9 (fun d=>some (.v d::[.v s])) w6 (a9 Y (a0 (d9 (a0 (dV 0) (a0 (b0 1) a7))) (a0 (dV 1) a7))) [.int (M*(1 - 2*L)),.int (W*(1 - 2*U)),.int l] (some J)=some ([v1,v2,v3],some J):=by
  have st:∀(k:D) (v:D) (r vs:vD_),Y [.tup [k,.int 1],s] (some J)=some (v,some J)->A9 (fun d=>some (.v d::[.v s])) w6 (a9 Y (a0 (d9 (a0 (dV 0) (a0 (b0 1) a7))) (a0 (dV 1) a7))) r (some J)=some (vs,some J) ->
    A9 (fun d=>some (.v d::[.v s])) w6 (a9 Y (a0 (d9 (a0 (dV 0) (a0 (b0 1) a7))) (a0 (dV 1) a7))) (k::r) (some J)=some (v::vs,some J):=fun k v r vs h1 h2=>by
   have h3:a9 Y (a0 (d9 (a0 (dV 0) (a0 (b0 1) a7))) (a0 (dV 1) a7)) #[.v k::[.v s],some J]=some (v,#[.v k::[.v s],some J]):=C0 (s1:=#[.v k::[.v s],some J]) (xs:=[.tup [k,.int 1],s]) rfl h1;rw[A9,Hq,show w6 #[.v k::[.v s],some J]=some (true,#[.v k::[.v s],some J]) from rfl,Hq,fI rfl,h3,Hq,h2];rfl
  exact st _ _ _ _ w1 (st _ _ _ _ w2 (st _ _ _ _ w3 rfl))
 unfold i5;rw[vU (idx:=[4]) (s1:=#[[.v .feed,.v (.int (M*(1 - 2*L))),.v (.int (W*(1 - 2*U))),.v (.int l),.v s],some J]) (ds:=[.int (M*(1 - 2*L)),.int (W*(1 - 2*U)),.int l]) rfl (show 3<=sizeLine by decide) c];rfl
def wR {x y l sx sy:Int}(Y:0<=x/\x<=15) (Z:0<=y/\y<=15) (W:¬ (x=0/\y=0)) (U:x*x+y*y=l*l) (J:sx=1\/sx = -1) (L:sy=1\/sy = -1) :
  (x*sx).natAbs<=15/\(y*sy).natAbs<=15/\¬ (x*sx=0/\y*sy=0)/\(x*sx)*(x*sx)+(y*sy)*(y*sy)=l*l:=by
 have M:sx*sx=1/\sy*sy=1:=#[by rcases J with rfl | rfl <;> rfl,by rcases L with rfl | rfl <;> rfl]
 refine#[by rcases J with rfl | rfl <;> omega,by rcases L with rfl | rfl <;> omega,by rcases J with rfl | rfl <;> rcases L with rfl | rfl <;> omega,?_];have e:∀a b:Int,b*b=1->a*b*(a*b)=a*a:=fun a b h=>by rw[Int.mul_assoc,Int.mul_left_comm b,h,Int.mul_one]
 rw[e x sx M.1,e y sy M.2,U]
theorem Dr {X Y l:Int}{s:Rat}(M:X.natAbs<=15) (L:Y.natAbs<=15) (U:¬ (X=0/\Y=0)) (W:X*X+Y*Y=l*l) (l1:0<l) (l2:l<=17) (Z:Sz 7 s) (sp:0<s):WyS 20 ((X:Rat)*s,(Y:Rat)*s,(l:Rat)*s):=by
 have z:∀i:Int,i.natAbs<2 ^ 7->Sz 20 ((i:Rat)*s):=fun i h=>((Sz.int (k:=7) (Y6 h) #[]).mul Z).mono #[]
 have J:∀i:Int,(i:Rat)*s=0->i=0:=fun i h=>by
  rcases Js.mp h with q | q
  .exact Jo.mp q
  .rw[q] at sp;exact absurd sp JN
 refine#[z X ∅,z Y ∅,z l ∅,fun h=>U #[J X h.1,J Y h.2],?_,HP (Ib.mpr l1) sp,X,Y,l,M,L,l1,l2,by show (X:Rat)*s*(l:Rat)=(X:Rat)*((l:Rat)*s);grind,by show (Y:Rat)*s*(l:Rat)=(Y:Rat)*((l:Rat)*s);grind];have pr:(X:Rat)*X+(Y:Rat)*Y=(l:Rat)*l:=by rw[<-HA,<-HA,<-HA,<-KD,W]
 have e:∀a b c t:Rat,a*a+b*b=c*c->a*t*(a*t)+b*t*(b*t)=c*t*(c*t):=fun a b c t h=>by grind
 exact e _ _ _ _ pr
def Gk {l r:Int}(J:0<=r) (h1:r<2) (l1:0<l) (l2:l<=17):∃b:Int,n8 [D.int 1,D.int l] r=some (.int b)/\0<b/\b<=17:=by
 have:r=0\/r=1:=by omega
 rcases this with rfl | rfl
 .exact#[1,rfl,by decide]
 .exact#[l,rfl,l1,l2]
def wV {l r:Int}(J:0<=r) (h1:r<3) (l1:0<l) (l2:l<=17):∃d:Int,n8 [D.int 1,D.int l,D.int (2*l)] r=some (.int d)/\0<d/\d<=34:=by
 have:r=0\/r=1\/r=2:=by omega
 rcases this with rfl | rfl | rfl
 .exact#[1,rfl,by decide]
 .exact#[l,rfl,l1,by omega]
 .exact#[2*l,rfl,by omega,by omega]
def zj {f1 Z:FS}{r x y l:Int}(W:m [.feed,.int 2] (some f1)=some (.int r,some Z)) (U:0<=x/\x<=15) (J:0<=y/\y<=15) (M:¬ (x=0/\y=0)) (Y:x*x+y*y=l*l) :
  ∃x' y':Int,(0<=x'/\x'<=15)/\(0<=y'/\y'<=15)/\¬ (x'=0/\y'=0)/\x'*x'+y'*y'=l*l/\mU m #[[.v .feed,.v (.int x),.v (.int y),.v (.int l),.no],some f1]=some (.next,#[[.v .feed,.v (.int x'),.v (.int y'),.v (.int l),.no],some Z]):=by
 by_cases L:r=0
 .exact#[y,x,J,U,fun h=>M #[h.2,h.1],by rw[Int.add_comm];exact Y,by simp![c7,W,F9,L]]
 .exact#[x,y,U,J,M,Y,by simp![c7,W,F9,L]]
def fU {i j:Int}(hi:i.natAbs<2 ^ 10) (J:j.natAbs<2 ^ 10):o8 (.int i) (.int j)=some (.int (i*j)):=EB (tw hi) (tw J)
def Cf {a b d:Int}(Y:0<a) (J:a<=6) (M:0<b) (U:b<=17) (d1:0<d) (d2:d<=34) (fs:vO_):LF [.int (a*b),.int d] fs=some (fr (Rat.divInt (a*b) d),fs)/\Sz 7 (Rat.divInt (a*b) d)/\0<Rat.divInt (a*b) d:=by
 have L:0<a*b:=Int.mul_pos Y M;have h1:a*b<=6*17:=Int.mul_le_mul J U ∅ ∅;have W:(a*b).natAbs<2 ^ 7:=by omega
 refine#[N8 (a*b) d fs ∅ (Y6 (k:=7) ∅) ∅,Sz.of_divInt ∅ W ∅,?_];rw[Ja,Rat.div_def];exact HP (Ib.mpr L) (Rat.inv_pos.mpr (Ib.mpr d1))
def kR (X:Int) (s:Rat) (fs:vO_) (h:X.natAbs<=17) (J:Sz 7 s):LP [.tup [.int X,.int 1],fr s] fs=some (fr ((X:Rat)*s),fs):=
 U0 (X:Rat) s fs (Sz.int (k:=7) (Y6 ∅) #[]) J #[]
def aq {n:Nat}(i:Nat) (h:n+7<2 ^ 30) (hi:i<=7:=by decide):n+i<2 ^ 30:=Ie (Nat.add_le_add_left hi n) h
def mZ {r:Int}(J:0<=r) (h1:r<2):o8 (.int 2) (.int r)=some (.int (2*r)):=fU #[] ∅
def mX {x r:Int}(L:0<=x/\x<=15) (J:0<=r) (h1:r<2):o8 (.int x) (.int (1 - 2*r))=some (.int (x*(1 - 2*r))):=fU ∅ ∅
def CL {a b:Int}(M:0<a) (U:a<=6) (L:0<b) (J:b<=17):o8 (.int a) (.int b)=some (.int (a*b)):=fU ∅ ∅
def yN {l:Int}(l1:0<l) (l2:l<=17):o8 (.int 2) (.int l)=some (.int (2*l)):=fU #[] ∅
def Cq {l:Int}(l1:0<l) (l2:l<=17):l.natAbs<=17:=by omega
def rG {r:Int}(J:0<=r) (h1:r<2):1 - 2*r=1\/1 - 2*r = -1:=by omega
def iQ (h:Fd n f) (hn:n<2 ^ 28):∃w f',U9 [.feed] (some f)=some (t6 w,some f')/\WyS 20 w/\Fd (n+7) f':=by
 have J:n+7<2 ^ 30:=by omega
 obtain⟨r1,f1,e1,a1,a2,h1⟩:=D2 6 h #[] (aq 0 J) #[];obtain⟨x,y,l,q,x1,x2,y1,y2,l1,l2,Z⟩:=vk a1 a2;obtain⟨r2,f2,e2,b1,b2,h2⟩:=D2 2 h1 #[] (aq 1 J) #[];obtain⟨r3,f3,e3,c1,c2,h3⟩:=D2 2 h2 #[] (aq 2 J) #[];obtain⟨r4,f4,e4,d1,d2,h4⟩:=D2 2 h3 #[] (aq 3 J) #[];obtain⟨r5,f5,e5,g1,g2,h5⟩:=D2 5 h4 #[] (aq 4 J) #[];obtain⟨r6,f6,e6,i1,i2,h6⟩:=D2 2 h5 #[] (aq 5 J) #[];obtain⟨r7,f7,e7,j1,j2,h7⟩:=D2 3 h6 #[] (aq 6 J) #[];obtain⟨a,qa,U,M⟩:=wX g1 g2;obtain⟨b,qb,L,W⟩:=Gk i1 i2 l1 l2;obtain⟨d,qd,qd1,qd2⟩:=wV j1 j2 l1 l2;obtain⟨x',y',hx',Y,hnz,pz,sw⟩:=zj e2 #[by omega,x2] #[y1,y2] ∅ Z;obtain⟨ub,vb,nz,pq⟩:=wR (sx:=1 - 2*r3) (sy:=1 - 2*r4) hx' Y hnz pz (rG c1 c2) (rG d1 d2);obtain⟨ef,ss,sp⟩:=Cf U M L W qd1 qd2 (some f7);exact#[_,f7,Fw e1 q sw e3 (mZ c1 c2) (mX hx' c1 c2) e4 (mZ d1 d2) (mX Y d1 d2) e5 qa e6 qb (CL U M L W) (yN l1 l2) e7 qd ef
  (kR _ _ _ (Ht ub #[]) ss) (kR _ _ _ (Ht vb #[]) ss) (kR _ _ _ (Cq l1 l2) ss),Dr ub vb nz pq l1 l2 ss sp,h7]
end T
namespace DL
open PySem L2
theorem Z3 {a b c:Pt}(h:w8 a b c≠0):J0 a b c=false/\a≠b/\b≠c:=by
 refine#[by simp[J0,h],fun e=>h ?_,fun e=>h ?_]
 .subst e;unfold w8;grind
 .subst e;unfold w8;grind
def jC {a b c:Pt}(h1:w8 a b c≠0) (h2:w8 b c a≠0) (Y:w8 c a b≠0):N3 true [a,b,c]=true:=by
 obtain⟨J,M,U⟩:=Z3 h1;obtain⟨Z,_,W⟩:=Z3 h2;obtain⟨L,_,_⟩:=Z3 Y;simp[N3,A2,J,Z,L,M,U,W]
def lg {a b c d:Pt}(h1:w8 a b c≠0) (h2:w8 b c d≠0) (M:w8 c d a≠0) (h4:w8 d a b≠0):N3 true [a,b,c,d]=true:=by
 obtain⟨L,Z,n2⟩:=Z3 h1;obtain⟨W,_,J⟩:=Z3 h2;obtain⟨Y,_,n4⟩:=Z3 M;obtain⟨U,_,_⟩:=Z3 h4;simp[N3,A2,L,W,Y,U,Z,n2,J,n4]
theorem CM {a b c:Pt}(J:a≠b) (M:b≠c):J0 a b c=(decide (w8 a b c=0)&&decide (0<(b.1 - a.1)*(c.1 - b.1)+(b.2 - a.2)*(c.2 - b.2))):=by
 rw[yf J M];obtain⟨U,W⟩:=dG a b;obtain⟨f1,Y⟩:=dG b c;have hp:=HP (J6 a) (J6 b);have hq:=HP (J6 b) (J6 c);generalize (pL a:Rat)*(pL b:Rat)=p at *;generalize (pL b:Rat)*(pL c:Rat)=q at *;have L:=HP hp hq;have Z:((D0 a b).1*(D0 b c).2=(D0 a b).2*(D0 b c).1)↔w8 a b c=0:=by
  rw[<-JL,HA,HA,U,W,f1,Y];unfold w8;constructor
  .intro h;have:(p*q)*((b.1 - a.1)*(c.2 - b.2) - (b.2 - a.2)*(c.1 - b.1))=0:=by grind
   rcases Js.mp this with z | z
   .grind
   .grind
  .intro h;grind
 have c2:(0<(D0 a b).1*(D0 b c).1+(D0 a b).2*(D0 b c).2)↔0<(b.1 - a.1)*(c.1 - b.1)+(b.2 - a.2)*(c.2 - b.2):=by
  rw[<-Ib,KD,HA,HA,U,W,f1,Y];have:p*(b.1 - a.1)*(q*(c.1 - b.1))+p*(b.2 - a.2)*(q*(c.2 - b.2))=(p*q)*((b.1 - a.1)*(c.1 - b.1)+(b.2 - a.2)*(c.2 - b.2)):=by grind
  rw[this];exact Jc L
 unfold kA;rw[HZ,Hs,Hs,HK,HK,HK,HK,Z,c2]
structure Open (ps:vT_):Prop where
 ne:∀(j:Nat) a b,ps[j]? = some a->ps[j+1]? = some b->a≠b
 go:∀(j:Nat) a b c,ps[j]? = some a->ps[j+1]? = some b->ps[j+2]? = some c->J0 a b c=false
def bS {α:Type}{l:List α}{p:α × α}(h:(A2 false l)[j]? = some p):l[j]? = some p.1/\l[j+1]? = some p.2:=by
 obtain⟨h1,h2⟩:=LL.mp (show (l.zip (l.drop 1))[j]? = some p from h);rw[List.getElem?_drop,JD] at h2;exact#[h1,h2]
def Open.line {ps:vT_}(h:Open ps):N3 false ps=true:=by
 unfold N3;simp only[Hs,Iq];constructor
 .intro p Y;obtain⟨j,L⟩:=Jn.mp Y;obtain⟨J,M⟩:=bS L;simp[h.ne j _ _ J M]
 .intro q Z;obtain⟨j,L⟩:=Jn.mp Z;obtain⟨J,M⟩:=bS L;obtain⟨r1,W⟩:=bS J;obtain⟨t1,U⟩:=bS M;rw[h.go j _ _ _ r1 W U];rfl
def Open.one (a:Pt):Open [a]:=#[fun j x y h1 h2=>by simp at h2,fun j x y z h1 h2 J=>by simp at h2]
def Open.app {ps:vT_}(h:Open ps) (hn:∀a,ps[ps.length - 1]? = some a->a≠z) (hg:∀a b,2<=ps.length->ps[ps.length - 2]? = some a->ps[ps.length - 1]? = some b->J0 a b z=false):Open (ps++[z]):=by
 have J:∀{j:Nat}{a:Pt},(ps++[z])[j]? = some a->(j<ps.length/\ps[j]? = some a)\/(j=ps.length/\a=z):=fun {j a} e=>by
  by_cases W:j<ps.length
  .exact .inl #[W,by rwa [Jf W] at e]
  .have hl:=(HQ.mp e).1;simp only[Iw,JY] at hl;have U:j=ps.length:=by omega
   rw[JA ∅,U,Nat.sub_self] at e;exact .inr #[U,by simpa using e.symm]
 constructor
 .intro j a b h1 h2;rcases J h2 with ⟨l2,M⟩ | ⟨l2,rfl⟩
  .rcases J h1 with ⟨l1,L⟩ | ⟨l1,_⟩
   .exact h.ne j a b L M
   .omega
  .rcases J h1 with ⟨l1,L⟩ | ⟨l1,_⟩
   .exact hn a (by rw[show ps.length - 1=j by omega];exact L)
   .omega
 .intro j a b c h1 h2 Z;rcases J Z with ⟨Y,e3⟩ | ⟨Y,rfl⟩
  .rcases J h1 with ⟨l1,L⟩ | ⟨l1,_⟩
   .rcases J h2 with ⟨l2,M⟩ | ⟨l2,_⟩
    .exact h.go j a b c L M e3
    .omega
   .omega
  .rcases J h1 with ⟨l1,L⟩ | ⟨l1,_⟩
   .rcases J h2 with ⟨l2,M⟩ | ⟨l2,_⟩
    .exact hg a b ∅ (by rw[show ps.length - 2=j by omega];exact L) (by rw[show ps.length - 1=j+1 by omega];exact M)
    .omega
   .omega
def T8 (u v:Rat × Rat × Rat):Bool:=decide (u.1*v.2.1=u.2.1*v.1)&&decide (0<u.1*v.1+u.2.1*v.2.1)
theorem BI {a:Pt}{u v:Rat × Rat × Rat}(Z:¬ (u.1=0/\u.2.1=0)) (Y:¬ (v.1=0/\v.2.1=0)):J0 a (a.1+u.1,a.2+u.2.1) (a.1+u.1+v.1,a.2+u.2.1+v.2.1)=T8 u v:=by
 have W:a≠(a.1+u.1,a.2+u.2.1):=fun e=>Z (by
  have J:=congrArg Prod.fst e;have L:=congrArg Prod.snd e;simp only at J L;constructor <;> grind)
 have n2:((a.1+u.1,a.2+u.2.1):Pt)≠(a.1+u.1+v.1,a.2+u.2.1+v.2.1):=fun e=>Y (by
  have J:=congrArg Prod.fst e;have L:=congrArg Prod.snd e;simp only at J L;constructor <;> grind)
 rw[CM W n2];unfold T8;rw[HZ,Hs,Hs,HK,HK,HK,HK];have M:w8 a (a.1+u.1,a.2+u.2.1) (a.1+u.1+v.1,a.2+u.2.1+v.2.1)=u.1*v.2.1 - u.2.1*v.1:=by unfold w8;grind
 have U:(a.1+u.1 - a.1)*(a.1+u.1+v.1 - (a.1+u.1))+(a.2+u.2.1 - a.2)*(a.2+u.2.1+v.2.1 - (a.2+u.2.1))=u.1*v.1+u.2.1*v.2.1:=by grind
 rw[M,U];constructor
 .rintro⟨h1,h2⟩;exact#[by grind,h2]
 .rintro⟨h1,h2⟩;exact#[by grind,h2]
end DL
namespace T
open PySem L2 DL
def AB (q:Rat):0<q.num↔0<q:=by
 have J:(0:Rat)<((q.den:Int):Rat):=Ib.mpr (by have:=q.den_pos;omega);rw[<-Ib,gb,Rat.mul_comm];exact Jc J
def wW (a b c:D):n8 [a,b,c] 0=some a:=rfl
def zU (a b c:D):n8 [a,b,c] 1=some b:=rfl
def Ct (a b c:D):n8 [a,b,c] 2=some c:=rfl
abbrev cM:a8:=oa LS LP
def pJ {k:Nat}(u v:Rat × Rat × Rat) (fs:vO_) (L:WyS k u) (J:WyS k v) (hk:k<=200):cM [t6 u,t6 v] fs=some (.bl (T8 u v),fs):=by
 have p1:=U0 u.1 v.2.1 fs L.x J.y ∅;have p2:=U0 u.2.1 v.1 fs L.y J.x ∅;have U:=U0 u.1 v.1 fs L.x J.x ∅;have Y:=U0 u.2.1 v.2.1 fs L.y J.y ∅;have p5:=js (u.1*v.1) (u.2.1*v.2.1) fs (L.x.mul J.x) (L.y.mul J.y) ∅;have M:=rA (L.x.mul J.y) (L.y.mul J.x) ∅ ∅;have Z:(0<(u.1*v.1+u.2.1*v.2.1).num)↔0<u.1*v.1+u.2.1*v.2.1:=AB _;refine p9 (s:=#[[.v (t6 u),.v (t6 v),.v (fr (u.1*v.2.1)),.v (fr (u.2.1*v.1)),.v (fr (u.1*v.1+u.2.1*v.2.1))],fs]) ?_;show hV LS LP #[[.v (t6 u),.v (t6 v),.no,.no,.no],fs]=_;unfold t6 at *;unfold T8;generalize u.1*v.2.1=A at *;generalize u.2.1*v.1=B at *;generalize u.1*v.1+u.2.1*v.2.1=C at *;unfold hV;rw[i9 (s1:=#[[.v (.lst [fr u.1,fr u.2.1,fr u.2.2]),.v (.lst [fr v.1,fr v.2.1,fr v.2.2]),.v (fr A),.no,.no],fs]) (u4 (u9 (l0 (c9 rfl rfl rfl) (l0 (c9 rfl rfl rfl) rfl)) p1) rfl),
  i9 (s1:=#[[.v (.lst [fr u.1,fr u.2.1,fr u.2.2]),.v (.lst [fr v.1,fr v.2.1,fr v.2.2]),.v (fr A),.v (fr B),.no],fs]) (u4 (u9 (l0 (c9 rfl rfl rfl) (l0 (c9 rfl rfl rfl) rfl)) p2) rfl),
  i9 (s1:=#[[.v (.lst [fr u.1,fr u.2.1,fr u.2.2]),.v (.lst [fr v.1,fr v.2.1,fr v.2.2]),.v (fr A),.v (fr B),.v (fr C)],fs]) (u4 (u9 (l0 (u9 (l0 (c9 rfl rfl rfl) (l0 (c9 rfl rfl rfl) rfl)) U) (l0 (u9 (l0 (c9 rfl rfl rfl) (l0 (c9 rfl rfl rfl) rfl)) Y) rfl)) p5) rfl)]
 refine u7 ?_;by_cases h:A=B
 .subst h;simp only[decide_true] at M;have W:decide (0<C.num)=decide (0<C):=by rw[HZ,HK,HK];exact Z
  simp![y9,v7,w9,v8,y8,A0,y0,M,W]
 .rw[iU h] at M;simp![y9,v7,w9,v8,y8,A0,y0,M,h]
def Ay (ds:vD_):PyData.eqv (D.py (.lst ds)) (D.py (.lst []))=decide (ds=[]):=by
 cases ds with
 |nil=>rfl
 |cons d r=>simp[D.py,D.pys,PyData.eqv,PyData.eqvAll]
def Ar {k:Nat}{L:List (Rat × Rat × Rat)}(h:∀w∈L,WyS k w) (J:k<=1920):A5 (.lst (L.map t6))=true:=by
 have:=Ok.lst (OkL.all (k:=2) (n:=9) (ds:=L.map t6) (fun d M=>by
  obtain⟨w,U,rfl⟩:=HW.mp M;have:=h w U;exact(Ok.lst (OkL.cons (Ok.fr this.x J) (OkL.cons (Ok.fr this.y J) (OkL.cons (Ok.fr this.l J) OkL.nil)))).mono #[] #[]))
 exact this.eq
def lH {k:Nat}{J:List (Rat × Rat × Rat)}(h:∀w∈J,WyS k w) (M:k<=1920):o9 (.lst (J.map t6)) (.lst [])=some (.bl (!decide (J=[])))/\u6 (.lst (J.map t6)) (.lst [])=some (.bl (decide (J=[]))):=by
 have h1:=Ar h M;have h2:A5 (.lst [])=true:=rfl;have e:=Ay (J.map t6);have L:(decide (J.map t6=[]))=decide (J=[]):=by rw[HZ];simp
 constructor
 .simp only[o9,h1,h2,Ig,HI,e,L]
 .simp only[u6,h1,h2,Ig,HI,e,L]
abbrev fw:a8:=nB cM LG C2 aA U9 G7
abbrev iu:DM:=lG cM LG C2 aA U9 G7
structure OpI (most:Int) (n i:Nat) (ps:vT_) (ws:List (Rat × Rat × Rat)) (f:FS):Prop where
 op:Open ps
 len:ps.length=ws.length+1
 any:1<=i->1<=ws.length
 few:ps.length<=i+1
 sz:∀p∈ps,PtS (5+21*i) p
 wy:∀w∈ws,WyS 20 w
 rel:∀(j:Nat) w a b,ws[j]? = some w->ps[j]? = some a->ps[j+1]? = some b->b=(a.1+w.1,a.2+w.2.1)
 fd:Fd (n+8*i) f
def A7 (most:Int) (ps:vT_) (M:List (Rat × Rat × Rat)) (J L:Sl) (f:FS):DS:=#[[.v .feed,.v (.int most),.own (ps.map pt),.own (M.map t6),J,L],some f]
def w5 (w:Rat × Rat × Rat) (x:Sl):Prop:=x = .v (t6 w)\/x = .own [fr w.1,fr w.2.1,fr w.2.2]
theorem Ey {i:Nat}{ps:vT_}{J:List (Rat × Rat × Rat)}(w:Rat × Rat × Rat) (hw:WyS 20 w) (U:Sl) (Z:∀w∈J,WyS 20 w) (h:Fd n f) (hn:n<2 ^ 28) :
  ∃w' x' f',e8 (l4 (dB (a6 o9 (dL 3) (i5 (i6 a7)))) (dB (a6 u6 (a9 C2 (a0 (dV 0) (a0 (b0 8) a7))) (b0 0)))) (J3 5 (i6 (a0 (a9 aA (a0 (a6 c7 (a6 c7 (dL 3) (j8 k9 (b0 1))) (b0 0)) a7)) (a0 (a9 aA (a0 (a6 c7 (a6 c7 (dL 3) (j8 k9 (b0 1))) (b0 1)) a7)) (a0 (a6 c7 (a6 c7 (dL 3) (j8 k9 (b0 1))) (b0 2)) a7))))) f9
   (A7 most ps J U (.v (t6 w)) f)=some (.next,A7 most ps J U x' f')/\w5 w' x'/\WyS 20 w'/\Fd (n+1) f':=by
 obtain⟨M,_⟩:=lH Z ∅;by_cases hz:J=[]
 .refine#[w,.v (t6 w),f,?_,.inl rfl,hw,h.mono ∅];rw[xl hz] at M;exact C3 (ez (x8 (c9 (s1:=A7 most ps J U (.v (t6 w)) f) rfl (D4 rfl) M)))
 .obtain⟨r,f',e,a1,a2,h'⟩:=D2 8 h;rw[iU hz] at M;by_cases hr:r=0
  .have hl:J.length - 1<J.length:=by have:=Ls.mpr hz;omega
   obtain⟨u,hu⟩:∃u,J[J.length - 1]? = some u:=#[_,Ia hl]
   have L:=Z u (Iv hu);have la:n8 (J.map t6) (-1)=some (t6 u):=Z6 (by rw[Hr,Io,hu];rfl);have n1:=pd u.1 (some f');have n2:=pd u.2.1 (some f');obtain⟨X,Y,l,q1,q2,q3,q4,q5,q6⟩:=L.dr;refine#[(-u.1,-u.2.1,u.2.2),.own [fr (-u.1),fr (-u.2.1),fr u.2.2],f',?_,.inr rfl,#[L.x.neg,L.y.neg,L.l,fun z=>L.nz (by constructor <;> grind),by have:=L.ex;grind,L.lp,-X,-Y,l,by omega,by omega,q3,q4,by rw[Jr];show -u.1*(l:Rat) = -(X:Rat)*u.2.2;grind,by rw[Jr];show -u.2.1*(l:Rat) = -(Y:Rat)*u.2.2;grind],h'];unfold A7;generalize J.map t6=W at *;generalize ps.map pt=R at *;have s3:(3:Nat)<=sizeLine:=by decide
   unfold t6 at *;simp![y9,v7,w9,v8,y8,A0,y0,M,e,F9,hr,la,wW,zU,Ct,n1,n2,J3,s3]
  .refine#[w,.v (t6 w),f',?_,.inl rfl,hw,h'];exact C3 (iw (s1:=A7 most ps J U (.v (t6 w)) f) (x8 (c9 rfl (D4 rfl) M)) (x8 (c9 (s1:=A7 most ps J U (.v (t6 w)) f') (by unfold A7;exact F6 rfl e) rfl ((F9 r 0).trans (by rw[iU hr])))))
abbrev bK:DM:=e8 (j7 (dB (a6 u6 (dL 3) (i5 (i6 a7)))) (k6 (j4 (a9 cM (a0 (a6 c7 (dL 3) (j8 k9 (b0 1))) (a0 (dV 5) a7)))))) (c8 (K3 3 (dV 5)) (K3 2 (a9 LG (a0 (a6 c7 (dL 2) (j8 k9 (b0 1))) (a0 (k0 5 0) (a0 (k0 5 1) a7)))))) f9
def CC {k:Nat}{ps:vT_}{J:List (Rat × Rat × Rat)}(w:Rat × Rat × Rat) (hw:WyS 20 w) (L M:Sl) (hx:w5 w M) (W:∀w∈J,WyS 20 w) {a:Pt}(ha:ps[ps.length - 1]? = some a) (sa:PtS k a) (hk:k<=1000)
  (h1:ps.length<=1000) (h2:J.length<=1000) (hg:∀u,J[J.length - 1]? = some u->T8 u w=false) :
  bK (A7 most ps J L M f)=some (.next,A7 most (ps++[(a.1+w.1,a.2+w.2.1)]) (J++[w]) L (.v (t6 w)) f):=by
 obtain⟨_,Y⟩:=lH W ∅;have lp:n8 (ps.map pt) (-1)=some (pt a):=Z6 (by rw[Hr,Io,ha];rfl);have gn:=ak a w.1 w.2.1 (some f) sa.x sa.y hw.x hw.y ∅;have l1:(ps.map pt).length<sizeLine:=by rw[Hr,Ih];omega
 have l2:(J.map t6).length<sizeLine:=by rw[Hr,Ih];omega
 have e1:(ps++[(a.1+w.1,a.2+w.2.1)]).map pt=ps.map pt++[pt (a.1+w.1,a.2+w.2.1)]:=by simp
 have e2:(J++[w]).map t6=J.map t6++[t6 w]:=by simp
 have hv:dV 5 (A7 most ps J L M f)=some (t6 w,A7 most ps J L (.v (t6 w)) f):=by rcases hx with rfl | rfl <;> rfl
 have U:∀Z,dV 5 (A7 most ps J L Z f)=some (t6 w,A7 most ps J L (.v (t6 w)) f)->(c8 (K3 3 (dV 5)) (K3 2 (a9 LG (a0 (a6 c7 (dL 2) (j8 k9 (b0 1))) (a0 (k0 5 0) (a0 (k0 5 1) a7)))))) (A7 most ps J L Z f)=some (.next,A7 most (ps++[(a.1+w.1,a.2+w.2.1)]) (J++[w]) L (.v (t6 w)) f):=fun Z hy=>by
  rw[i9 (s1:=#[[.v .feed,.v (.int most),.own (ps.map pt),.own (J.map t6++[t6 w]),L,.v (t6 w)],some f]) (iX (s1:=A7 most ps J L (.v (t6 w)) f) rfl hy rfl l2)];unfold A7;rw[e1,e2];exact iX (s1:=#[[.v .feed,.v (.int most),.own (ps.map pt),.own (J.map t6++[t6 w]),L,.v (t6 w)],some f]) rfl (u9 (l0 (c9 rfl rfl ((v7 _ _).trans lp)) (l0 (c9 rfl rfl rfl) (l0 (c9 rfl rfl rfl) rfl))) gn) rfl l1
 unfold bK;have t1:∀z,u6 (.lst (J.map t6)) (.lst [])=some (.bl z)->dB (a6 u6 (dL 3) (i5 (i6 a7))) (A7 most ps J L M f)=some (z,A7 most ps J L M f):=fun z h=>x8 (c9 rfl (D4 rfl) h)
 by_cases hz:J=[]
 .rw[xl hz] at Y;rw[C4 (Y4 (t1 true Y))];exact U M hv
 .rw[iU hz] at Y;have hl:J.length - 1<J.length:=by have:=Ls.mpr hz;omega
  obtain⟨u,hu⟩:∃u,J[J.length - 1]? = some u:=#[_,Ia hl]
  have la:n8 (J.map t6) (-1)=some (t6 u):=Z6 (by rw[Hr,Io,hu];rfl);have go:=pJ u w (some f) (W u (Iv hu)) hw ∅;rw[hg u hu] at go;rw[C4 (F2 (t1 false Y) (V4 (b:=false) (M4 (eQ (sl':=(A7 most ps J L (.v (t6 w)) f).sl) (l0 (c9 rfl rfl ((v7 _ _).trans la)) (l0 hv rfl)) go))))];exact U _ rfl
def Cy {ps:vT_}{J:List (Rat × Rat × Rat)}(w:Rat × Rat × Rat) (hw:WyS 20 w) (L U:Sl) (hx:w5 w U) (M:∀w∈J,WyS 20 w) {u:Rat × Rat × Rat}(W:J[J.length - 1]? = some u) (hg:T8 u w=true) :
  bK (A7 most ps J L U f)=some (.next,A7 most ps J L (.v (t6 w)) f):=by
 obtain⟨_,Z⟩:=lH M ∅;have hz:J≠[]:=fun z=>by subst z;simp at W
 rw[iU hz] at Z;have la:n8 (J.map t6) (-1)=some (t6 u):=Z6 (by rw[Hr,Io,W];rfl);have Y:=pJ u w (some f) (M u (Iv W)) hw ∅;rw[hg] at Y;have hv:dV 5 (A7 most ps J L U f)=some (t6 w,A7 most ps J L (.v (t6 w)) f):=by rcases hx with rfl | rfl <;> rfl
 unfold bK;rw[aP (F2 (s1:=A7 most ps J L U f) (x8 (c9 rfl (D4 rfl) Z)) (V4 (b:=true) (M4 (eQ (sl':=(A7 most ps J L (.v (t6 w)) f).sl) (l0 (c9 rfl rfl ((v7 _ _).trans la)) (l0 hv rfl)) Y))))];rfl
theorem Fz {ps:vT_}{J:List (Rat × Rat × Rat)}(L x5:Sl) (I:OpI most n i ps J f) (hi:i<40) (hn:n<2 ^ 27) :
  ∃ps' ws' x5' f',iu (A7 most ps J L x5 f)=some (.next,A7 most ps' ws' L x5' f')/\OpI most n (i+1) ps' ws' f':=by
 obtain⟨w0,f1,e1,hw0,h1⟩:=iQ I.fd ∅;obtain⟨w,x',f2,e2,hx,U,h2⟩:=Ey (most:=most) (i:=i) (ps:=ps) w0 hw0 L I.wy h1 ∅;have hl:=I.len;obtain⟨a,ha⟩:∃a,ps[ps.length - 1]? = some a:=#[_,Ia ∅]
 have sa:=I.sz a (Iv ha);have pre:∀r,bK (A7 most ps J L x' f2)=r->iu (A7 most ps J L x5 f)=r:=fun r er=>by
  unfold iu lG;rw[i9 (s1:=A7 most ps J L (.v (t6 w0)) f1) (by unfold A7;exact u4 (F6 rfl e1) rfl),i9 e2];exact er
 have few:=I.few;by_cases hc:∃u,J[J.length - 1]? = some u/\T8 u w=true
 .obtain⟨u,M,hg⟩:=hc;refine#[ps,J,.v (t6 w),f2,pre _ (Cy w U L x' hx I.wy M hg),I.op,I.len,fun _=>?_,by omega,fun p W=>(I.sz p W).mono ∅,I.wy,I.rel,h2.mono ∅];have:=(HQ.mp M).1;omega
 .have hg:∀u,J[J.length - 1]? = some u->T8 u w=false:=fun u M=>by
   cases h:T8 u w
   .rfl
   .exact absurd #[u,M,h] hc
  refine#[ps++[(a.1+w.1,a.2+w.2.1)],J++[w],.v (t6 w),f2,pre _ (CC w U L x' hx I.wy ha sa ∅ ∅ ∅ hg),?_,by simp[hl],fun _=>by simp,by simp;omega,fun p W=>?_,fun v hv=>?_,fun j v b c q1 Z q3=>?_,h2.mono ∅]
  .refine I.op.app (fun b hb e=>U.nz ?_) fun b c h2' hb hc'=>?_
   .rw[ha] at hb;cases hb;have z1:=congrArg Prod.fst e;have z2:=congrArg Prod.snd e;simp only at z1 z2;constructor <;> grind
   .rw[ha] at hc';cases hc';obtain⟨u,M⟩:∃u,J[J.length - 1]? = some u:=#[_,Ia ∅]
    have Y:=M;rw[show J.length - 1=ps.length - 2 by omega] at Y;have rl:=I.rel _ u b a Y hb (by rw[show ps.length - 2+1=ps.length - 1 by omega];exact ha);subst rl;rw[BI (I.wy u (Iv M)).nz U.nz];exact hg u M
  .rcases Im.mp W with W | W
   .exact(I.sz p W).mono ∅
   .have ep:p=(a.1+w.1,a.2+w.2.1):=by simpa using W
    subst ep;exact#[(sa.x.add U.x).mono ∅,(sa.y.add U.y).mono ∅]
  .rcases Im.mp hv with hv | hv
   .exact I.wy v hv
   .have ep:v=w:=by simpa using hv
    subst ep;exact U
  .by_cases hj:j<J.length
   .rw[Jf hj] at q1;rw[Jf ∅] at Z q3;exact I.rel j v b c q1 Z q3
   .have hjl:=(HQ.mp q1).1;simp only[Iw,JY] at hjl;have ej:j=J.length:=by omega
    subst ej;rw[JA ∅,Nat.sub_self] at q1;rw[Jf ∅] at Z;rw[JA ∅,show J.length+1 - ps.length=0 by omega] at q3;rw[show J.length=ps.length - 1 by omega,ha] at Z;cases Z;have e1:w=v:=by simpa using q1
    have e2:(a.1+w.1,a.2+w.2.1)=c:=by simpa using q3
    subst e1;exact e2.symm
structure LnS (c:Bool) (ps:vT_):Prop where
 ok:N3 c ps=true
 lo:lo c<=ps.length
 hi:ps.length<=hi c
 sz:∀p∈ps,PtS 190 p
 ex:∀q∈A2 c ps,∃r:Rat,G3 q.1 q.2=r*r
theorem vO (most:Int) (hm:2<=most/\most<=9) (h:Fd n f) (hn:n<2 ^ 26):∃ps f',fw [.feed,.int most] (some f)=some (.tup [.bl false,.tup (ps.map pt)],some f')/\LnS false ps/\Fd (n+100) f':=by
 obtain⟨J,U,e0,s0,h0⟩:=ki h ∅;obtain⟨r,f1,e1,r1,r2,h1⟩:=D2 (most - 1) h0;obtain⟨m,hmm⟩:∃m:Nat,(1:Int)+r=(m:Int):=#[(1+r).toNat,by omega]
 have rm:K4 [.int ((1:Int)+r)]=some (C1 0 m):=by rw[hmm];exact jT ∅
 obtain⟨s',lp,ps,L,W,M,f',rfl,I⟩:=dS (t:=d0 4) (b:=iu) (fun i s=>∃ps L W M f',s=A7 most ps L W M f'/\OpI most (n+9) i ps L f') (C1 0 m) 0 (A7 most [J] [] .no .no f1)
  #[[J],[],.no,.no,f1,rfl,Open.one J,rfl,fun z=>absurd z ∅,by simp,(fun p hp=>by
   have:p=J:=by simpa using hp
   subst this;exact s0.mono ∅),(fun w Y=>by cases Y),(fun j w a b q=>by simp at q),h1] (by
   rintro i d s hd ⟨ps,L,W,M,f',rfl,I⟩;obtain⟨rfl,hi⟩:=jO hd;rw[JO] at *;obtain⟨ps',Z,x5',f'',e,I'⟩:=Fz (.v (.int ((0:Int)+i))) M I ∅ ∅;exact#[A7 most ps L (.v (.int ((0:Int)+i))) M f',_,rfl,.inl e,ps',Z,_,x5',f'',rfl,I'])
 rw[JO,Z2] at I;have l1:=I.len;have l2:=I.any ∅;have l3:=I.few;refine#[ps,f',p9 (s:=#[[.v .feed,.v (.int most),.own (ps.map pt),.own (L.map t6),W,M],some f']) ?_,#[I.op.line,by show 2<=_;omega,by show _<=9;omega,fun p hp=>(I.sz p hp).mono ∅,fun q hq=>?_],I.fd.mono ∅]
 rotate_left
 .obtain⟨j,hj⟩:=List.getElem?_of_mem hq;obtain⟨q1,q2⟩:=bS hj;have lj:=(HQ.mp q2).1;obtain⟨w,Y⟩:∃w,L[j]? = some w:=#[_,Ia ∅]
  have rl:=I.rel j w q.1 q.2 Y q1 q2;have we:=(I.wy w (Iv Y)).ex;refine#[w.2.2,?_];rw[rl,<-we];unfold G3;grind
 show fF cM LG C2 aA U9 G7 #[[.v .feed,.v (.int most),.no,.no,.no,.no],some f]=_;unfold fF;have rg:(a0 (a6 j6 (b0 1) (a9 C2 (a0 (dV 0) (a0 (a6 l7 (dL 1) (b0 1)) a7)))) a7) (A7 most [J] [] .no .no U)=some ([.int ((1:Int)+r)],A7 most [J] [] .no .no f1):=by
  exact l0 (c9 rfl (F6 (l0 rfl (l0 (c9 rfl rfl rfl) rfl)) e1) rfl) rfl
 have s1:(1:Nat)<=sizeLine:=by decide
 rw[i9 (s1:=#[[.v .feed,.v (.int most),.own [pt J],.no,.no,.no],some U]) (gN (s1:=#[[.v .feed,.v (.int most),.no,.no,.no,.no],some U]) (gJ (F6 rfl e0)) (show 2<6 by decide)),
  i9 (s1:=A7 most [J] [] .no .no U) (gN (s1:=#[[.v .feed,.v (.int most),.own [pt J],.no,.no,.no],some U]) rfl (show 3<6 by decide)),i9 ((eL rg rm).trans lp)]
 exact u7 (Y1 rfl (C7 rfl rfl))
abbrev iy:a8:=ox C2 LG LP LF U9 G7
def aa (p:Pt) (x y:Rat):List Pt:=[p,(p.1+x,p.2+0),(p.1+x,p.2+y),(p.1+0,p.2+y)]
def X1:List (List Int):=[[0,1,2],[0,2,1],[0,2,1,3],[0,1,3,2],[3,1,0]]
def U6 (o:List Int) (p:Pt) (x y:Rat):List Pt:=o.filterMap fun i=>(aa p x y)[i.toNat]?
theorem Df {p:Pt}{x y:Rat}(J:x*y≠0) {o:List Int}(L:o∈X1):N3 true (U6 o p x y)=true/\3<=(U6 o p x y).length/\(U6 o p x y).length<=4:=by
 simp only[X1,xr,HM,HN] at L;rcases L with rfl | rfl | rfl | rfl | rfl
 .exact#[jC (fun z=>J (by simp only[w8] at z;grind)) (fun z=>J (by simp only[w8] at z;grind)) (fun z=>J (by simp only[w8] at z;grind)),Il rfl,Il rfl]
 .exact#[jC (fun z=>J (by simp only[w8] at z;grind)) (fun z=>J (by simp only[w8] at z;grind)) (fun z=>J (by simp only[w8] at z;grind)),Il rfl,Il rfl]
 .exact#[lg (fun z=>J (by simp only[w8] at z;grind)) (fun z=>J (by simp only[w8] at z;grind)) (fun z=>J (by simp only[w8] at z;grind)) (fun z=>J (by simp only[w8] at z;grind)),Il rfl,Il rfl]
 .exact#[lg (fun z=>J (by simp only[w8] at z;grind)) (fun z=>J (by simp only[w8] at z;grind)) (fun z=>J (by simp only[w8] at z;grind)) (fun z=>J (by simp only[w8] at z;grind)),Il rfl,Il rfl]
 .exact#[jC (fun z=>J (by simp only[w8] at z;grind)) (fun z=>J (by simp only[w8] at z;grind)) (fun z=>J (by simp only[w8] at z;grind)),Il rfl,Il rfl]
theorem yF {p:Pt}{x y:Rat}(L:∃r:Rat,x*x+y*y=r*r) {o:List Int}(U:o∈X1):∀q∈A2 true (U6 o p x y),∃r:Rat,G3 q.1 q.2=r*r:=by
 obtain⟨r,L⟩:=L;have d1:∀a b:Pt,(∃s t:Rat,(s=1\/s = -1)/\(t=1\/t = -1)/\a.1 - b.1=s*x/\a.2 - b.2=t*y)->∃r:Rat,G3 a b=r*r:=by
  rintro a b ⟨s,t,Y,ht,W,Z⟩;refine#[r,?_];unfold G3;rw[W,Z,<-L];rcases Y with rfl | rfl <;> rcases ht with rfl | rfl <;> grind
 have d2:∀a b:Pt,a.2=b.2->∃r:Rat,G3 a b=r*r:=by
  intro a b e;refine#[a.1 - b.1,?_];unfold G3;rw[e];grind
 have M:∀a b:Pt,a.1=b.1->∃r:Rat,G3 a b=r*r:=by
  intro a b e;refine#[a.2 - b.2,?_];unfold G3;rw[e];grind
 intro q hq;simp only[X1,xr,HM,HN] at U;rcases U with rfl | rfl | rfl | rfl | rfl <;> (
  have J:=hq;simp[U6,aa,A2] at J;rcases J with rfl | rfl | rfl | rfl
  all_goals first
   | exact d2 _ _ rfl
   | exact M _ _ rfl
   | exact d2 _ _ (by grind)
   | exact M _ _ (by grind)
   | exact d1 _ _ #[1,1,.inl rfl,.inl rfl,by grind,by grind]
   | exact d1 _ _ #[1,-1,.inl rfl,.inr rfl,by grind,by grind]
   | exact d1 _ _ #[-1,1,.inr rfl,.inl rfl,by grind,by grind]
   | exact d1 _ _ #[-1,-1,.inr rfl,.inr rfl,by grind,by grind])
def EX {o:List Int}{p:Pt}{x y:Rat}{q:Pt}(h:q∈U6 o p x y):q∈aa p x y:=by
 obtain⟨i,_,hi⟩:=KH.mp h;exact Iv hi
def yw {r:Int}(J:0<=r) (h1:r<5):∃o∈X1,n8 [D.tup [.int 0,.int 1,.int 2],.tup [.int 0,.int 2,.int 1],.tup [.int 0,.int 2,.int 1,.int 3],.tup [.int 0,.int 1,.int 3,.int 2],.tup [.int 3,.int 1,.int 0]] r=some (.tup (o.map .int)):=by
 have:r=0\/r=1\/r=2\/r=3\/r=4:=by omega
 rcases this with rfl | rfl | rfl | rfl | rfl
 .exact#[[0,1,2],by decide,rfl]
 .exact#[[0,2,1],by decide,rfl]
 .exact#[[0,2,1,3],by decide,rfl]
 .exact#[[0,1,3,2],by decide,rfl]
 .exact#[[3,1,0],by decide,rfl]
def yJ:∀o∈X1,∀i∈o,0<=i/\i<4:=by decide
theorem qC (J:vD_) (fs:vO_):∀o:List Int,(∀i∈o,0<=i/\i<J.length)->A9 (fun d=>some [.v d,.v (.lst J)]) w6 (a6 c7 (dL 1) (dL 0)) (o.map .int) fs=some (o.filterMap fun i=>J[i.toNat]?,fs)
 |[],_=>rfl
 |i::r,h=>by
  have hi:=h i (HD ..);have M:=qC J fs r fun x U=>h x (HB _ U)
  obtain⟨x,ex⟩:∃x,J[i.toNat]? = some x:=#[_,Ia (show i.toNat<J.length by omega)]
  have L:n8 J i=some x:=by rw[<-ex];exact tG hi.1 hi.2
  rw[Hu,A9,JS,ex];simp[w6,a6,dL,v7,L,M]
def Fx {o:List Int}(L:o∈X1) (J:vD_) (M:J.length=4) (fs:vO_):A9 (fun d=>some [.v d,.v (.lst J)]) w6 (a6 c7 (dL 1) (dL 0)) (o.map .int) fs=some (o.filterMap fun i=>J[i.toNat]?,fs):=
 qC J fs o fun i hi=>by have:=yJ o L i hi;omega
def Eg (o:List Int) (p:Pt) (x y:Rat):(o.filterMap fun i=>((aa p x y).map pt)[i.toNat]?)=(U6 o p x y).map pt:=by
 unfold U6;rw[List.map_filterMap];congr 1;funext i;simp
def EV {k:Nat}{p:Rat}(M:Sz k p) (L:Sz l q) (J:k<=1920) (hl:l<=1920):o9 (fr p) (fr q)=some (.bl (!decide (p=q))):=by
 have h1:=(Ok.fr M J).eq;have h2:=(Ok.fr L hl).eq;have e:=rA M L J hl;have e':u6 (fr p) (fr q)=some (.bl (PyData.eqv (fr p).py (fr q).py)):=by
  show (if A5 (fr p)&&A5 (fr q) then some (D.bl (PyData.eqv (fr p).py (fr q).py)) else none)=_;rw[h1,h2];rfl
 rw[e] at e';have U:decide (p=q)=PyData.eqv (fr p).py (fr q).py:=by simpa using e'
 show (if A5 (fr p)&&A5 (fr q) then some (D.bl (!PyData.eqv (fr p).py (fr q).py)) else none)=_;rw[h1,h2,<-U];rfl
def Ai {p q:DE}{s:DS}{x y:D}{w:Bool}(h1:p s=some (x,s1)) (h2:q s1=some (y,s2)) (J:u6 x y=some (.bl w)):dB (a6 u6 p q) s=some (w,s2):=by
 unfold dB;rw[c9 h1 h2 J];rfl
def Hn {p q:DE}{s:DS}{x y:D}{w:Bool}(h1:p s=some (x,s1)) (h2:q s1=some (y,s2)) (J:o9 x y=some (.bl w)):dB (a6 o9 p q) s=some (w,s2):=by
 unfold dB;rw[c9 h1 h2 J];rfl
def sR {f:DA}{s:DS}(h:f s=some (ds,s1)) (hz:ds.length<=sizeLine):d9 f s=some (.tup ds,s1):=by
 unfold d9;rw[h,Hq,fI hz]
abbrev lQ (mD mW mP mG:a8):DM:=e8 (dB (a6 u6 (a9 mD (a0 (dV 0) (a0 (b0 2) a7))) (b0 0))) (c8 (d5 (a9 mW (a0 (dV 0) a7)) (d0 3)) (e8 (dB (a6 o9 (a9 mP (a0 (k0 1 0) (a0 (k0 3 1) a7))) (a9 mP (a0 (k0 1 1) (a0 (k0 3 0) a7))))) (c8 (d5 (a9 mG (a0 (dV 2) (a0 (k0 1 0) (a0 (k0 1 1) a7)))) (d0 4)) (c8 (d5 (a9 mG (a0 (dV 2) (a0 (k0 3 0) (a0 (k0 3 1) a7)))) (d0 5)) (d6 (d9 (a0 (dC (.bl true)) (a0 (d9 (a0 (dV 2) (a0 (dV 4) (a0 (a9 mG (a0 (dV 4) (a0 (k0 3 0) (a0 (k0 3 1) a7)))) (a0 (dV 5) a7))))) a7)))))) f9)) f9
abbrev cS (p:D) (w x3 x4 x5:Sl) (f:FS):DS:=#[[.v .feed,w,.v p,x3,x4,x5,.no,.no,.no,.no,.no],some f]
def qk {U W L M:a8}{f1 J:FS}{p a b c e g A B:D}{w:Bool}(e1:U [.feed,.int 2] (some f)=some (.int 0,some f1)) (e2:W [.feed] (some f1)=some (.lst [d,e,g],some J)) (p1:L [a,e] (some J)=some (A,some J)) (p2:L [b,d] (some J)=some (B,some J)) (pn:o9 A B=some (.bl w)) :
  (w=false->lQ U W L M (cS p (.v (.lst [a,b,c])) .no .no .no f)=some (.next,cS p (.v (.lst [a,b,c])) (.v (.lst [d,e,g])) .no .no J)) /\
  (w=true->∀X Y Z:D,M [p,a,b] (some J)=some (X,some J)->M [p,d,e] (some J)=some (Y,some J)->M [X,d,e] (some J)=some (Z,some J)->lQ U W L M (cS p (.v (.lst [a,b,c])) .no .no .no f)=some (.ret (.tup [.bl true,.tup [p,X,Z,Y]]),cS p (.v (.lst [a,b,c])) (.v (.lst [d,e,g])) (.v X) (.v Y) J)):=by
 have c0:dB (a6 u6 (a9 U (a0 (dV 0) (a0 (b0 2) a7))) (b0 0)) (cS p (.v (.lst [a,b,c])) .no .no .no f)=some (true,cS p (.v (.lst [a,b,c])) .no .no .no f1):=
  Ai (s1:=cS p (.v (.lst [a,b,c])) .no .no .no f1) (C0 (s1:=cS p (.v (.lst [a,b,c])) .no .no .no f) rfl e1) rfl (F9 0 0)
 have c1:dB (a6 o9 (a9 L (a0 (k0 1 0) (a0 (k0 3 1) a7))) (a9 L (a0 (k0 1 1) (a0 (k0 3 0) a7)))) (cS p (.v (.lst [a,b,c])) (.v (.lst [d,e,g])) .no .no J)=some (w,cS p (.v (.lst [a,b,c])) (.v (.lst [d,e,g])) .no .no J):=
  Hn (s1:=cS p (.v (.lst [a,b,c])) (.v (.lst [d,e,g])) .no .no J) (C0 (s1:=cS p (.v (.lst [a,b,c])) (.v (.lst [d,e,g])) .no .no J) (xs:=[a,e]) rfl p1) (C0 (s1:=cS p (.v (.lst [a,b,c])) (.v (.lst [d,e,g])) .no .no J) (xs:=[b,d]) rfl p2) pn
 constructor
 .rintro rfl;show e8 _ _ _ _=_;rw[C4 c0,i9 (s1:=cS p (.v (.lst [a,b,c])) (.v (.lst [d,e,g])) .no .no J) (u4 (C0 (s1:=cS p (.v (.lst [a,b,c])) .no .no .no f1) rfl e2) rfl),aP c1];rfl
 .rintro rfl X Y Z g1 g2 g3;show e8 _ _ _ _=_;rw[C4 c0,i9 (s1:=cS p (.v (.lst [a,b,c])) (.v (.lst [d,e,g])) .no .no J) (u4 (C0 (s1:=cS p (.v (.lst [a,b,c])) .no .no .no f1) rfl e2) rfl),C4 c1,
   i9 (s1:=cS p (.v (.lst [a,b,c])) (.v (.lst [d,e,g])) (.v X) .no J) (u4 (C0 (s1:=cS p (.v (.lst [a,b,c])) (.v (.lst [d,e,g])) .no .no J) (xs:=[p,a,b]) rfl g1) rfl),
   i9 (s1:=cS p (.v (.lst [a,b,c])) (.v (.lst [d,e,g])) (.v X) (.v Y) J) (u4 (C0 (s1:=cS p (.v (.lst [a,b,c])) (.v (.lst [d,e,g])) (.v X) .no J) (xs:=[p,d,e]) rfl g2) rfl)]
  exact u7 (sR (ds:=[.bl true,.tup [p,X,Z,Y]]) (s1:=cS p (.v (.lst [a,b,c])) (.v (.lst [d,e,g])) (.v X) (.v Y) J) (l0 rfl (l0 (sR (ds:=[p,X,Z,Y]) (s1:=cS p (.v (.lst [a,b,c])) (.v (.lst [d,e,g])) (.v X) (.v Y) J) (l0 rfl (l0 rfl (l0 (C0 (s1:=cS p (.v (.lst [a,b,c])) (.v (.lst [d,e,g])) (.v X) (.v Y) J) (xs:=[X,d,e]) rfl g3) (l0 rfl rfl)))) (show 4<=sizeLine by decide)) rfl)) (show 2<=sizeLine by decide))
abbrev bU:DM:=e8 (dB (a6 u6 (a9 C2 (a0 (dV 0) (a0 (b0 2) a7))) (b0 0))) (c8 (d5 (a9 U9 (a0 (dV 0) a7)) (d0 3)) (e8 (dB (a6 o9 (a9 LP (a0 (k0 1 0) (a0 (k0 3 1) a7))) (a9 LP (a0 (k0 1 1) (a0 (k0 3 0) a7))))) (c8 (d5 (a9 LG (a0 (dV 2) (a0 (k0 1 0) (a0 (k0 1 1) a7)))) (d0 4)) (c8 (d5 (a9 LG (a0 (dV 2) (a0 (k0 3 0) (a0 (k0 3 1) a7)))) (d0 5)) (d6 (d9 (a0 (dC (.bl true)) (a0 (d9 (a0 (dV 2) (a0 (dV 4) (a0 (a9 LG (a0 (dV 4) (a0 (k0 3 0) (a0 (k0 3 1) a7)))) (a0 (dV 5) a7))))) a7)))))) f9)) f9
theorem Dj (w:Rat × Rat × Rat) (p:Pt) (J:WyS 20 w) (M:PtS 5 p) (h:Fd n f) (hn:n<2 ^ 27) :
  ∃f',Fd (n+8) f'/\((∃x3,bU #[[.v .feed,.v (t6 w),.v (pt p),.no,.no,.no,.no,.no,.no,.no,.no],some f]=some (.next,#[[.v .feed,.v (t6 w),.v (pt p),x3,.no,.no,.no,.no,.no,.no,.no],some f'])) \/
   ∃ps sl,bU #[[.v .feed,.v (t6 w),.v (pt p),.no,.no,.no,.no,.no,.no,.no,.no],some f]=some (.ret (.tup [.bl true,.tup (ps.map pt)]),#[sl,some f'])/\LnS true ps):=by
 obtain⟨r,f1,e1,r1,r2,h1⟩:=D2 2 h;by_cases hr:r=0
 .obtain⟨v,W,e2,L,h2⟩:=iQ h1 ∅;have p1:=U0 w.1 v.2.1 (some W) J.x L.y ∅;have p2:=U0 w.2.1 v.1 (some W) J.y L.x ∅;have Z:=EV (J.x.mul L.y) (J.y.mul L.x) ∅ ∅;refine#[W,h2.mono ∅,?_];by_cases U:w.1*v.2.1=w.2.1*v.1
  .left;refine#[.v (t6 v),?_];rw[xl U] at Z;subst hr;exact(qk e1 e2 p1 p2 Z).1 rfl
  .right;have g1:=ak p w.1 w.2.1 (some W) M.x M.y J.x J.y ∅;have g2:=ak p v.1 v.2.1 (some W) M.x M.y L.x L.y ∅;have g3:=ak (p.1+w.1,p.2+w.2.1) v.1 v.2.1 (some W) (M.x.add J.x) (M.y.add J.y) L.x L.y ∅;rw[iU U] at Z;have s4:(4:Nat)<=sizeLine:=by decide
   refine#[[p,(p.1+w.1,p.2+w.2.1),(p.1+w.1+v.1,p.2+w.2.1+v.2.1),(p.1+v.1,p.2+v.2.1)],
    [.v .feed,.v (t6 w),.v (pt p),.v (t6 v),.v (pt (p.1+w.1,p.2+w.2.1)),.v (pt (p.1+v.1,p.2+v.2.1)),.no,.no,.no,.no,.no],?_,?_,by show 3<=4;omega,by show 4<=8;omega,?_,?_]
   .subst hr;exact(qk (c:=fr w.2.2) (g:=fr v.2.2) e1 e2 p1 p2 Z).2 rfl _ _ _ g1 g2 g3
   .exact lg (fun z=>U (by simp only[w8] at z;grind)) (fun z=>U (by simp only[w8] at z;grind)) (fun z=>U (by simp only[w8] at z;grind)) (fun z=>U (by simp only[w8] at z;grind))
   .intro q Y;simp only[xr,HM,HN] at Y;rcases Y with rfl | rfl | rfl | rfl
    .exact M.mono ∅
    .exact#[(M.x.add J.x).mono ∅,(M.y.add J.y).mono ∅]
    .exact#[((M.x.add J.x).add L.x).mono ∅,((M.y.add J.y).add L.y).mono ∅]
    .exact#[(M.x.add L.x).mono ∅,(M.y.add L.y).mono ∅]
   .intro q Y;have hq':q=(p,(p.1+w.1,p.2+w.2.1))\/q=((p.1+w.1,p.2+w.2.1),(p.1+w.1+v.1,p.2+w.2.1+v.2.1))\/q=((p.1+w.1+v.1,p.2+w.2.1+v.2.1),(p.1+v.1,p.2+v.2.1))\/q=((p.1+v.1,p.2+v.2.1),p):=by
     simpa [A2] using Y
    have wx:=J.ex;have vx:=L.ex;rcases hq' with rfl | rfl | rfl | rfl
    .exact#[w.2.2,by rw[<-wx];unfold G3;grind]
    .exact#[v.2.2,by rw[<-vx];unfold G3;grind]
    .exact#[w.2.2,by rw[<-wx];unfold G3;grind]
    .exact#[v.2.2,by rw[<-vx];unfold G3;grind]
 .refine#[f1,h1.mono ∅,.inl #[.no,?_]];simp![bU,c7,e1,F9,hr]
abbrev ph (m1 m2 m3 m4:a8):DM:=(c8 (d5 (a9 m4 (a0 (a6 j6 (b0 1) (a9 m1 (a0 (dV 0) (a0 (b0 3) a7)))) (a0 (a6 j6 (b0 1) (a9 m1 (a0 (dV 0) (a0 (b0 2) a7)))) a7))) (d0 6)) (c8 (m5 7 8 (a0 (a9 m3 (a0 (dV 6) (a0 (d9 (a0 (b0 3) (a0 (b0 1) a7))) a7))) (a0 (a9 m3 (a0 (dV 6) (a0 (d9 (a0 (b0 4) (a0 (b0 1) a7))) a7))) a7))) (c8 (J3 9 (i6 (a0 (dV 2) (a0 (a9 m2 (a0 (dV 2) (a0 (dV 7) (a0 (d9 (a0 (b0 0) (a0 (b0 1) a7))) a7)))) (a0 (a9 m2 (a0 (dV 2) (a0 (dV 7) (a0 (dV 8) a7)))) (a0 (a9 m2 (a0 (dV 2) (a0 (d9 (a0 (b0 0) (a0 (b0 1) a7))) (a0 (dV 8) a7)))) a7)))))) (c8 (d5 (a6 c7 (i5 (i6 (a0 (d9 (a0 (b0 0) (a0 (b0 1) (a0 (b0 2) a7)))) (a0 (d9 (a0 (b0 0) (a0 (b0 2) (a0 (b0 1) a7)))) (a0 (d9 (a0 (b0 0) (a0 (b0 2) (a0 (b0 1) (a0 (b0 3) a7))))) (a0 (d9 (a0 (b0 0) (a0 (b0 1) (a0 (b0 3) (a0 (b0 2) a7))))) (a0 (d9 (a0 (b0 3) (a0 (b0 1) (a0 (b0 0) a7)))) a7))))))) (a9 m1 (a0 (dV 0) (a0 (b0 5) a7)))) (d0 10)) (d6 (d9 (a0 (dC (.bl true)) (a0 (d8 (one K8) (a0 (i5 (gw [9] (B6 [9] (D9 (dV 10)) w6 (a6 c7 (dL 1) (dL 0))))) a7)) a7))))))))
def Dc {i j:Nat}{f:DA}{s s1 s2:DS}{a b:D}(h:f s=some ([a,b],s1)) (e:{ s1 with sl:=(s1.sl.set i (.v a)).set j (.v b) }=s2):m5 i j f s=some (.next,s2):=by
 unfold m5;rw[h,<-e];rfl
def Dt {i:Nat}{f:DA}{s s1 s2:DS}{ds:vD_}(h:f s=some (ds,s1)) (hi:i<s1.sl.length) (e:{ s1 with sl:=s1.sl.set i (.own ds) }=s2):J3 i f s=some (.next,s2):=by
 unfold J3;rw[h,Hq,fI hi,<-e]
def Aw {f:DA}{s:DS}(h:f s=some (ds,s1)) (hz:ds.length<=sizeLine):i6 f s=some (ds,s1):=by
 unfold i6;rw[h,Hq,fI hz]
def vW {Y m2 m3 m4:a8}{f4 L W:FS}{r1 r2 r3:Int}{p M x y a b c:D}{J Z:vD_}{w U:Sl}
  (e4:Y [.feed,.int 3] (some f)=some (.int r1,some f4)) (e5:Y [.feed,.int 2] (some f4)=some (.int r2,some L)) (ef:m4 [.int (1+r1),.int (1+r2)] (some L)=some (M,some L))
  (q3:m3 [M,.tup [.int 3,.int 1]] (some L)=some (x,some L)) (q4:m3 [M,.tup [.int 4,.int 1]] (some L)=some (y,some L))
  (g1:m2 [p,x,.tup [.int 0,.int 1]] (some L)=some (a,some L)) (g2:m2 [p,x,y] (some L)=some (b,some L)) (g3:m2 [p,.tup [.int 0,.int 1],y] (some L)=some (c,some L))
  (e6:Y [.feed,.int 5] (some L)=some (.int r3,some W)) (eo:n8 [D.tup [.int 0,.int 1,.int 2],.tup [.int 0,.int 2,.int 1],.tup [.int 0,.int 2,.int 1,.int 3],.tup [.int 0,.int 1,.int 3,.int 2],.tup [.int 3,.int 1,.int 0]] r3=some (.tup J)) (ol:J.length<=sizeLine)
  (oc:A9 (fun d=>some [.v d,.v (.lst [p,a,b,c])]) w6 (a6 c7 (dL 1) (dL 0)) J (some W)=some (Z,some W)) :
  ph Y m2 m3 m4 #[[.v .feed,w,.v p,U,.no,.no,.no,.no,.no,.no,.no],some f]=some (.ret (.tup [.bl true,.tup Z]),#[[.v .feed,w,.v p,U,.no,.no,.v M,.v x,.v y,.v (.lst [p,a,b,c]),.v (.tup J)],some W]):=by
 unfold ph;rw[i9 (s1:=#[[.v .feed,w,.v p,U,.no,.no,.v M,.no,.no,.no,.no],some L]) (u4 (C0 (l0 (c9 rfl (C0 rfl e4) rfl) (l0 (c9 rfl (C0 rfl e5) rfl) rfl)) ef) rfl),
  i9 (s1:=#[[.v .feed,w,.v p,U,.no,.no,.v M,.v x,.v y,.no,.no],some L]) (Dc (l0 (C0 rfl q3) (l0 (C0 rfl q4) rfl)) rfl),
  i9 (s1:=#[[.v .feed,w,.v p,U,.no,.no,.v M,.v x,.v y,.own [p,a,b,c],.no],some L]) (Dt (Aw (ds:=[p,a,b,c]) (s1:=#[[.v .feed,w,.v p,U,.no,.no,.v M,.v x,.v y,.no,.no],some L]) (l0 rfl (l0 (C0 rfl g1) (l0 (C0 rfl g2) (l0 (C0 rfl g3) rfl)))) (show 4<=sizeLine by decide)) (show 9<11 by decide) rfl),
  i9 (s1:=#[[.v .feed,w,.v p,U,.no,.no,.v M,.v x,.v y,.own [p,a,b,c],.v (.tup J)],some W]) (u4 (c9 (s1:=#[[.v .feed,w,.v p,U,.no,.no,.v M,.v x,.v y,.own [p,a,b,c],.no],some L]) rfl (C0 rfl e6) (cT eo)) rfl)]
 refine u7 ?_;simp![c7,gw,cA,eI,B6,D9,ol,F8,aD,oc,K8,bz]
theorem vj (h:Fd n f) (hn:n<2 ^ 26):∃ps f',iy [.feed] (some f)=some (.tup [.bl true,.tup (ps.map pt)],some f')/\LnS true ps/\Fd (n+100) f':=by
 obtain⟨w,f1,e1,hw,h1⟩:=iQ h ∅;obtain⟨p,f2,e2,J,h2⟩:=ki h1 ∅;obtain⟨f3,h3,hA⟩:=Dj w p hw J h2 ∅;have M:∀rest:DM,c8 (d5 (a9 U9 (a0 (dV 0) a7)) (d0 1)) (c8 (d5 (a9 G7 (a0 (dV 0) a7)) (d0 2)) (c8 bU rest)) #[[.v .feed,.no,.no,.no,.no,.no,.no,.no,.no,.no,.no],some f]=c8 bU rest #[[.v .feed,.v (t6 w),.v (pt p),.no,.no,.no,.no,.no,.no,.no,.no],some f2]:=fun rest=>by
  rw[i9 (s1:=#[[.v .feed,.v (t6 w),.no,.no,.no,.no,.no,.no,.no,.no,.no],some f1]) (u4 (F6 rfl e1) rfl),i9 (s1:=#[[.v .feed,.v (t6 w),.v (pt p),.no,.no,.no,.no,.no,.no,.no,.no],some f2]) (u4 (F6 rfl e2) rfl)]
 rcases hA with ⟨x3,U⟩ | ⟨ps,sl,U,hl⟩
 .obtain⟨r1,f4,e4,a1,a2,h4⟩:=D2 3 h3;obtain⟨W,L,e5,b1,b2,h5⟩:=D2 2 h4;have bd:Bd 4 (1+W):=Y6 ∅;have ef:=N8 (1+r1) (1+W) (some L) ∅ bd ∅;have ss:Sz 4 (Rat.divInt (1+r1) (1+W)):=Sz.of_divInt ∅ ∅ ∅;have sp:(0:Rat)<Rat.divInt (1+r1) (1+W):=by
   rw[Ja,Rat.div_def];exact HP (Ib.mpr ∅) (Rat.inv_pos.mpr (Ib.mpr ∅))
  generalize Rat.divInt (1+r1) (1+W)=sc at *;have S3:Sz 4 ((3:Int):Rat):=Sz.int (Y6 #[]) ∅;have S4:Sz 4 ((4:Int):Rat):=Sz.int (Y6 #[]) ∅;have q3:=U0 sc _ (some L) ss S3 ∅;have q4:=U0 sc _ (some L) ss S4 ∅;rw[<-FA] at q3 q4;have sx:Sz 8 (sc*((3:Int):Rat)):=(ss.mul S3).mono ∅;have sy:Sz 8 (sc*((4:Int):Rat)):=(ss.mul S4).mono ∅;have xy:sc*((3:Int):Rat)*(sc*((4:Int):Rat))≠0:=by
   have:(0:Rat)<sc*((3:Int):Rat)*(sc*((4:Int):Rat)):=HP (HP sp (Ib.mpr #[])) (HP sp (Ib.mpr #[]));intro z;rw[z] at this;exact absurd this JN
  have hex:∃r:Rat,sc*((3:Int):Rat)*(sc*((3:Int):Rat))+sc*((4:Int):Rat)*(sc*((4:Int):Rat))=r*r:=by
   refine#[sc*((5:Int):Rat),?_];have U:((3:Int):Rat)=3:=rfl;have e4:((4:Int):Rat)=4:=rfl;have e5:((5:Int):Rat)=5:=rfl;rw[U,e4,e5];grind
  generalize sc*((3:Int):Rat)=x at *;generalize sc*((4:Int):Rat)=y at *;have S0:Sz 4 (0:Rat):=Sz.lit #[];have g1:=ak p x 0 (some L) J.x J.y sx S0 ∅;have g2:=ak p x y (some L) J.x J.y sx sy ∅;have g3:=ak p 0 y (some L) J.x J.y S0 sy ∅;have z0:fr 0=D.tup [.int 0,.int 1]:=rfl;rw[z0] at g1 g3;obtain⟨r3,f6,e6,c1,c2,h6⟩:=D2 5 h5;obtain⟨o,Z,eo⟩:=yw c1 c2;obtain⟨l1,l2,l3⟩:=Df (p:=p) xy Z;have oc:=Fx Z ((aa p x y).map pt) rfl (some f6);rw[Eg] at oc;have ol:(o.map D.int).length<=sizeLine:=by
   rw[Hr,Ih];simp only[X1,xr,HM,HN] at Z;rcases Z with rfl | rfl | rfl | rfl | rfl <;> decide
  refine#[U6 o p x y,f6,p9 (s:=#[[.v .feed,.v (t6 w),.v (pt p),x3,.no,.no,.v (fr sc),.v (fr x),.v (fr y),.v (.lst ((aa p x y).map pt)),.v (.tup (o.map .int))],some f6]) ?_,#[l1,l2,by show _<=8;omega,fun q hq=>?_,yF hex Z],h6.mono ∅]
  .show cX C2 LG LP LF U9 G7 #[[.v .feed,.no,.no,.no,.no,.no,.no,.no,.no,.no,.no],some f]=_;unfold cX;rw[M,i9 U];exact vW e4 e5 ef q3 q4 g1 g2 g3 e6 eo ol oc
  .have Y:=EX hq;simp only[aa,xr,HM,HN] at Y;rcases Y with rfl | rfl | rfl | rfl
   .exact J.mono ∅
   .exact#[(J.x.add sx).mono ∅,(J.y.add S0).mono ∅]
   .exact#[(J.x.add sx).mono ∅,(J.y.add sy).mono ∅]
   .exact#[(J.x.add S0).mono ∅,(J.y.add sy).mono ∅]
 .refine#[ps,f3,p9 (s:=#[sl,some f3]) ?_,hl,h3.mono ∅];show cX C2 LG LP LF U9 G7 #[[.v .feed,.no,.no,.no,.no,.no,.no,.no,.no,.no,.no],some f]=_;unfold cX;rw[M];exact E2 U
abbrev aZ:a8:=og C2 iy fw
def yY (most:Int) (W:2<=most/\most<=9) (h:Fd n f) (Y:n<2 ^ 25):∃c ps f',aZ [.feed,.int most] (some f)=some (.tup [.bl c,.tup (ps.map pt)],some f')/\LnS c ps/\Fd (n+101) f':=by
 obtain⟨r,f1,M,r1,Z,h1⟩:=D2 4 h;by_cases U:r=0
 .obtain⟨ps,J,L,hl,h2⟩:=vj h1 ∅;refine#[true,ps,J,p9 (s:=#[[.v .feed,.v (.int most)],some J]) ?_,hl,h2.mono ∅];show fq C2 iy fw #[[.v .feed,.v (.int most)],some f]=_;exact u7 ((R8 (x8 (c9 (F6 rfl M) rfl ((F9 r 0).trans (by rw[xl U]))))).trans (F6 rfl L))
 .obtain⟨ps,J,L,hl,h2⟩:=vO most W h1 ∅;refine#[false,ps,J,p9 (s:=#[[.v .feed,.v (.int most)],some J]) ?_,hl,h2.mono ∅];show fq C2 iy fw #[[.v .feed,.v (.int most)],some f]=_;exact u7 ((W9 (x8 (c9 (F6 rfl M) rfl ((F9 r 0).trans (by rw[iU U]))))).trans (F6 rfl L))
def vn {i:Int}(h:Bd 190 i):i.natAbs<10 ^ 60:=Hw h #[]
def U5 {i:Int}(h:Bd 190 i):(E1 i).length<=191:=vN h #[]
def iM {i:Int}(h:Bd 190 i):P9 (.int i)=some (.str (E1 i)):=by
 have h1:i.natAbs.log2<1920:=aS (k:=1920) #[] (h.mono #[]);have h2:=U5 h;exact fI #[h1,Ht h2 #[]]
def Dy:P6 (.int 10) (.int 60)=some (.int (10 ^ 60)):=by
 exact fI (e:=(none:Option D)) (show (0:Int)<=60/\(60:Int)<=1000000/\(10:Int).natAbs<2 ^ 64 by decide)
def tM {i:Int}(h:Bd 190 i) (fs:vO_):bb [.int i] fs=some (.str (E1 i),fs):=by
 have Z:=vn h;refine p9 (s:=#[[.v (.int i),.v (.int (if i<0 then -i else i)),.v (.str "")],fs]) ?_;show kI #[[.v (.int i),.no,.no],fs]=_;unfold kI;have a:(if i<0 then -i else i)=(i.natAbs:Int):=by split <;> omega
 rw[i9 (s1:=#[[.v (.int i),.v (.int (if i<0 then -i else i)),.no],fs]) (u4 (C7 (p:=K6) (x:=.int i) rfl rfl) rfl),
  i9 (s1:=#[[.v (.int i),.v (.int (if i<0 then -i else i)),.v (.str "")],fs]) (u4 rfl rfl)]
 rw[a];have U:¬ (10 ^ 60:Int)<=(i.natAbs:Int):=by
  have:((10 ^ 60:Nat):Int)=(10 ^ 60:Int):=by decide +kernel
  omega
 have J:dB (a6 (i8 (fun i j=>decide (j<=i))) (dL 1) (a6 P6 (b0 10) (b0 60))) #[[.v (.int i),.v (.int (i.natAbs:Int)),.v (.str "")],fs]=some (false,#[[.v (.int i),.v (.int (i.natAbs:Int)),.v (.str "")],fs]):=by
  refine x8 (c9 rfl (c9 rfl rfl Dy) ?_);show some (D.bl (decide ((10 ^ 60:Int)<=(i.natAbs:Int))))=_;rw[iU U]
 rw[i9 (iI J)];have M:Bd 190 (i.natAbs:Int):=by unfold Bd;rw[Jb];exact h
 have l1:=U5 M;have W:=U5 h;have L:(if i<0 then ("-" : Str) else "")++E1 (i.natAbs:Int)++("" : Str)=E1 i:=by
  refine aF ?_;rw[N0,N0,kC,fy];unfold nL;split
  .show [45]++_++[]=_;rw[Jd];rfl
  .show []++_++[]=_;rw[Jd];rfl
 refine u7 (c9 (s1:=#[[.v (.int i),.v (.int (i.natAbs:Int)),.v (.str "")],fs]) (x:=.str ((if i<0 then ("-" : Str) else "")++E1 (i.natAbs:Int))) (c9 (s1:=#[[.v (.int i),.v (.int (i.natAbs:Int)),.v (.str "")],fs]) (x:=.str (if i<0 then ("-" : Str) else "")) ?_ (C7 (x:=.int (i.natAbs:Int)) rfl (iM M)) ?_) (y:=.str "") rfl ?_)
 .by_cases c:i<0
  .rw[fI c];exact(R8 (x8 (c9 rfl rfl (show some (D.bl (decide (i<0)))=some (.bl true) by rw[xl c])))).trans rfl
  .rw[gV c];exact(W9 (x8 (c9 rfl rfl (show some (D.bl (decide (i<0)))=some (.bl false) by rw[iU c])))).trans rfl
 .have:(if i<0 then ("-" : Str) else "").length<=1:=by split <;> decide
  exact fI (show _+_<=sizeLine from Ht (Nat.add_le_add this l1) #[])
 .rw[<-L];refine fI (show _+_<=sizeLine from ?_);rw[Ju];have:(if i<0 then ("-" : Str) else "").length<=1:=by split <;> decide
  have Y:("" : Str).length=0:=by decide
  have sl:1000<=sizeLine:=by decide
  omega
def fT (q:Rat):Str:=if q.den=1 then E1 q.num else E1 q.num ++ "/" ++ E1 (q.den:Int)
def Q3 (h:Sz 190 q):(fT q).length<=383:=by
 have h1:=U5 h.num;have h2:=U5 h.den;unfold fT;split
 .omega
 .rw[Ju,Ju];have:("/" : Str).length=1:=by decide
  omega
def Z5:10000<=sizeLine:=by decide
def oS (q:Rat):u6 (.int (q.den:Int)) (.int 1)=some (.bl (decide (q.den=1))):=by
 rw[F9];by_cases c:q.den=1
 .rw[xl c,xl ∅]
 .rw[iU c,iU ∅]
def kq {a b:Str}(c:Str) (J:a.length<=4000) (M:b.length<=4000) (L:c.length=1):j6 (.str a) (.str c)=some (.str (a++c))/\j6 (.str (a++c)) (.str b)=some (.str (a++c++b)):=by
 have:=Z5;refine#[fI ∅,fI ?_];rw[Ju];omega
abbrev Q2:a8:=uw bb
def bW (h:Sz 190 q) (fs:vO_):Q2 [fr q] fs=some (.str (fT q),fs):=by
 refine p9 (s:=#[[.v (fr q)],fs]) ?_;show gO bb #[[.v (fr q)],fs]=_;unfold gO fT;have L:a9 bb (a0 (k0 0 0) a7) #[[.v (fr q)],fs]=some (.str (E1 q.num),#[[.v (fr q)],fs]):=u9 (l0 (c9 rfl rfl (w9 q)) rfl) (tM h.num fs);have U:a9 bb (a0 (k0 0 1) a7) #[[.v (fr q)],fs]=some (.str (E1 (q.den:Int)),#[[.v (fr q)],fs]):=u9 (l0 (c9 rfl rfl (v8 q)) rfl) (tM h.den fs);have J:dB (a6 u6 (k0 0 1) (b0 1)) #[[.v (fr q)],fs]=some (decide (q.den=1),#[[.v (fr q)],fs]):=x8 (c9 (c9 rfl rfl (v8 q)) rfl (oS q));by_cases c:q.den=1
 .rw[xl c] at J;rw[fI c];exact E2 ((C4 J).trans (u7 L))
 .rw[iU c] at J;rw[gV c,i9 (C3 J)];obtain⟨M,W⟩:=kq (a:=E1 q.num) (b:=E1 (q.den:Int)) "/" (by have:=U5 h.num;omega) (by have:=U5 h.den;omega) #[];exact u7 (c9 (c9 L rfl M) U W)
def gD (h:Sz 190 q) (fs:vO_):L7 [fr q] fs=some (.str (fT q),fs):=by
 refine p9 (s:=#[[.v (fr q)],fs]) ?_;show eV #[[.v (fr q)],fs]=_;unfold eV fT;have L:d8 (one P9) (a0 (k0 0 0) a7) #[[.v (fr q)],fs]=some (.str (E1 q.num),#[[.v (fr q)],fs]):=C7 (c9 rfl rfl (w9 q)) (iM h.num);have U:d8 (one P9) (a0 (k0 0 1) a7) #[[.v (fr q)],fs]=some (.str (E1 (q.den:Int)),#[[.v (fr q)],fs]):=C7 (c9 rfl rfl (v8 q)) (iM h.den);have J:dB (a6 u6 (k0 0 1) (b0 1)) #[[.v (fr q)],fs]=some (decide (q.den=1),#[[.v (fr q)],fs]):=x8 (c9 (c9 rfl rfl (v8 q)) rfl (oS q));by_cases c:q.den=1
 .rw[xl c] at J;rw[fI c];exact u7 ((R8 J).trans L)
 .rw[iU c] at J;rw[gV c];obtain⟨M,W⟩:=kq (a:=E1 q.num) (b:=E1 (q.den:Int)) "/" (by have:=U5 h.num;omega) (by have:=U5 h.den;omega) #[];exact u7 ((W9 J).trans (c9 (c9 L rfl M) U W))
def pT (a:Pt):Str:=fT a.1 ++ "," ++ fT a.2
def nI {a:Pt}(h:PtS 190 a):(pT a).length<=800:=by
 have h1:=Q3 h.x;have h2:=Q3 h.y;unfold pT;rw[Ju,Ju];have:("," : Str).length=1:=by decide
 omega
abbrev Y5:a8:=nv Q2 (gc FF) (gL FF)
def nM {a:Pt}(h:PtS 190 a) (fs:vO_):Y5 [pt a] fs=some (.str (pT a),fs):=by
 refine p9 (s:=#[[.v (pt a)],fs]) ?_;show gQ Q2 (gc FF) (gL FF) #[[.v (pt a)],fs]=_;unfold gQ;obtain⟨L,J⟩:=kq (a:=fT a.1) (b:=fT a.2) "," (by have:=Q3 h.x;omega) (by have:=Q3 h.y;omega) #[];exact u7 (c9 (c9 (u9 (l0 (u9 rfl (GA a fs h.ps #[])) rfl) (bW h.x fs)) rfl L) (u9 (l0 (u9 rfl (Ds a fs h.ps #[])) rfl) (bW h.y fs)) J)
abbrev V7:a8:=rK LX L7
theorem tN:∀l:List Str,X0 (l.map D.str)=some l
 |[]=>rfl
 |x::l=>by
  show (X0 (l.map D.str)).map (x :: ·)=_;rw[tN l];rfl
def wF {c:Nat}{l:List Str}(h:∀x∈l,x.length<=1000) (hl:l.length<=20):JoinOk #[#v[c]] l=true:=by
 refine PyProof.Rows.joinOk_of ?_;have h1:=StrLaws.sumLen_le l h;have e:(#[#v[c]]:Str).length=1:=rfl;rw[e];omega
def jc {c:Nat}{l:List Str}(h:∀x∈l,x.length<=1000) (hl:l.length<=20):O5 (.str #[#v[c]]) (.lst (l.map .str))=some (.str (d7 (jn c (l.map fun x=>x.cps.toList)))):=by
 show (X0 (l.map D.str)).bind _=_;rw[tN];show (if JoinOk #[#v[c]] l=true then some (D.str (Txt.join #[#v[c]] l)) else none)=_;rw[fI (wF h hl),Hj]
def nq {a:Pt}(h:PtS 190 a) (fs:vO_):V7 [pt a] fs=some (.str (pT a),fs):=by
 refine p9 (s:=#[[.v (pt a)],fs]) ?_;show jv LX L7 #[[.v (pt a)],fs]=_;unfold jv;have W:D9 (a9 LX (a0 (dV 0) a7)) #[[.v (pt a)],fs]=some ([fr a.1,fr a.2],#[[.v (pt a)],fs]):=by
  unfold D9;rw[u9 rfl (iG a fs h.ps #[])];rfl
 have J:∀q:Rat,Sz 190 q->a9 L7 (a0 (dV 0) a7) #[.v (fr q)::[],fs]=some (.str (fT q),#[[.v (fr q)],fs]):=fun q M=>u9 rfl (gD M fs)
 have U:A9 (fun d=>some (.v d::F8 [] [.v (pt a)])) w6 (a9 L7 (a0 (dV 0) a7)) [fr a.1,fr a.2] fs=some ([.str (fT a.1),.str (fT a.2)],fs):=by
  simp[A9,w6,F8,J _ h.x,J _ h.y]
 refine u7 (c9 rfl (D4 (af W (show 2<=sizeLine by decide) U)) ?_);rw[show ([D.str (fT a.1),D.str (fT a.2)]:vD_)=[fT a.1,fT a.2].map D.str from rfl];refine(jc (c:=44) (l:=[fT a.1,fT a.2]) (fun x L=>?_) (show 2<=20 by decide)).trans ?_
 .have h1:=Q3 h.x;have h2:=Q3 h.y;rcases xr.mp L with rfl | L
  .omega
  .rw[IU.mp L];omega
 .congr 2;refine aF ?_;unfold pT;rw[aO,N0,N0];simp[jn];rfl
def jk {a b:List Nat}:d7 a=d7 b↔a=b:=#[fun h=>by have:=congrArg (fun x:Str=>x.cps.toList) h;exact this,fun h=>by rw[h]]
def K5 (c:Nat):Bool:=decide (48<=c/\c<=57)
def F1 (l:List Nat):Option Nat:=if l=[]\/4<l.length then none else if l.all K5=false then none else if l.head? = some 48/\l≠[48] then none else some (PySem.NumText.digitsVal l)
def oN:Option Nat->D
 |none=>.non
 |some n=>.int (n:Int)
def vp (c:Nat):ae (.str #[#v[c]]) (.str "0123456789")=some (.bl (K5 c)):=by
 show some (D.bl (!(Builtin.Str.occurrences ("0123456789" : Str) #[#v[c]] 0 _ 1).isEmpty))=_;rw[StrLaws.found_one];congr 2;unfold K5;have e:("0123456789" : Str).cps.toList=[48,49,50,51,52,53,54,55,56,57]:=by decide +kernel
 rw[e,HX];simp only[xr,HM,HN];omega
theorem tj:∀l:List Nat,N2 (l.map fun c=>.bl (K5 c))=some (l.all K5)
 |[]=>rfl
 |c::l=>by
  show (N2 (l.map fun c=>.bl (K5 c))).map (fun x=>K5 c&&x)=_;rw[tj l];rfl
theorem pD (fs:vO_):∀l:List Nat,A9 (fun d=>some (.v d::[])) w6 (a6 ae (dL 0) (dC (.str "0123456789"))) (l.map fun c=>.str #[#v[c]]) fs=some (l.map fun c=>.bl (K5 c),fs)
 |[]=>rfl
 |c::l=>by
  have e:a6 ae (dL 0) (dC (.str "0123456789")) #[[.v (.str #[#v[c]])],fs]=some (.bl (K5 c),#[[.v (.str #[#v[c]])],fs]):=c9 rfl rfl (vp c);have J:=pD fs l;simp only[Hu];simp[A9,w6,e,J]
def dP {α:Type}(c:α) (r:List α):n8 (c::r) 0=some c:=by
 simp[n8,L8]
def jY (l:List Nat) (fs:vO_):T6 [.str (d7 l)] fs=some (oN (F1 l),fs):=by
 refine p9 (s:=#[[.v (.str (d7 l))],fs]) ?_;show kz #[[.v (.str (d7 l))],fs]=_;have e0:(("" : Str):Str)=d7 []:=rfl;have e1:("0" : Str)=d7 [48]:=rfl;have L:(d7 l).length=l.length:=rfl;have M:j7 (dB (a6 u6 (dL 0) (dC (.str "")))) (dB (a6 (i8 (fun i j=>decide (j<i))) (d8 (one j5) (a0 (dL 0) a7)) (b0 4))) #[[.v (.str (d7 l))],fs]=some (decide (l=[]\/4<l.length),#[[.v (.str (d7 l))],fs]):=by
  have J:dB (a6 u6 (dL 0) (dC (.str ""))) #[[.v (.str (d7 l))],fs]=some (decide (l=[]),#[[.v (.str (d7 l))],fs]):=by
   refine x8 (c9 rfl rfl ?_);rw[jW,e0,HX.mpr jk]
  have Z:dB (a6 (i8 (fun i j=>decide (j<i))) (d8 (one j5) (a0 (dL 0) a7)) (b0 4)) #[[.v (.str (d7 l))],fs]=some (decide (4<l.length),#[[.v (.str (d7 l))],fs]):=by
   refine x8 (c9 (x:=.int (l.length:Int)) (C7 (x:=.str (d7 l)) rfl rfl) rfl ?_);show some (D.bl (decide ((4:Int)<(l.length:Int))))=_;rw[HX.mpr (show ((4:Int)<(l.length:Int))↔4<l.length by omega)]
  by_cases h:l=[]
  .rw[xl h] at J;rw[Y4 J,xl (.inl h)]
  .rw[iU h] at J;rw[F2 J Z,HX.mpr (show (4<l.length)↔(l=[]\/4<l.length) from #[.inr,fun z=>z.resolve_left h])]
 unfold kz F1;by_cases h1:l=[]\/4<l.length
 .rw[xl h1] at M;rw[fI h1];exact E2 ((C4 M).trans (u7 rfl))
 rw[iU h1] at M;rw[gV h1,i9 (C3 M)];have hl:l.length<=4:=by omega
 have Y:k6 (j4 (d8 (one M0) (a0 (i5 (B6 [] (cw (dV 0)) w6 (a6 ae (dL 0) (dC (.str "0123456789"))))) a7))) #[[.v (.str (d7 l))],fs]=some (!l.all K5,#[[.v (.str (d7 l))],fs]):=by
  have sg:cw (dV 0) #[[.v (.str (d7 l))],fs]=some (l.map fun c=>.str #[#v[c]],#[[.v (.str (d7 l))],fs]):=rfl;have cm:=af (idx:=[]) (fc:=w6) sg (by rw[Hr];exact Ht hl #[]) (pD fs l);have al:d8 (one M0) (a0 (i5 (B6 [] (cw (dV 0)) w6 (a6 ae (dL 0) (dC (.str "0123456789"))))) a7) #[[.v (.str (d7 l))],fs]=some (.bl (l.all K5),#[[.v (.str (d7 l))],fs]):=by
   refine C7 (D4 cm) ?_;show (N2 _).map D.bl=_;rw[tj];rfl
  exact V4 (M4 al)
 by_cases h2:l.all K5=false
 .rw[h2] at Y;rw[fI h2];exact E2 ((C4 Y).trans (u7 rfl))
 rw[gV h2];rw[JP] at h2;rw[h2] at Y;rw[i9 (C3 Y)];obtain⟨c,r,rfl⟩:∃c r,l=c::r:=by
  cases l with
  |nil=>exact absurd (.inl rfl) h1
  |cons c r=>exact#[c,r,rfl]
 have U:l4 (dB (a6 u6 (a6 eW (dL 0) (b0 0)) (dC (.str "0")))) (dB (a6 o9 (dL 0) (dC (.str "0")))) #[[.v (.str (d7 (c::r)))],fs]=some (decide ((c::r).head? = some 48/\c::r≠[48]),#[[.v (.str (d7 (c::r)))],fs]):=by
  have J:dB (a6 u6 (a6 eW (dL 0) (b0 0)) (dC (.str "0"))) #[[.v (.str (d7 (c::r)))],fs]=some (decide ((c::r).head? = some 48),#[[.v (.str (d7 (c::r)))],fs]):=by
   refine x8 (c9 (x:=.str (d7 [c])) (c9 rfl rfl (by show (n8 (c::r) 0).map _=_;rw[dP];rfl)) rfl ?_);rw[jW,e1,HX.mpr (show d7 [c]=d7 [48]↔(c::r).head? = some 48 by rw[jk];simp)]
  have Z:dB (a6 o9 (dL 0) (dC (.str "0"))) #[[.v (.str (d7 (c::r)))],fs]=some (decide (c::r≠[48]),#[[.v (.str (d7 (c::r)))],fs]):=by
   refine x8 (c9 rfl rfl ?_);rw[de,e1,HX.mpr jk,decide_not]
  by_cases h:(c::r).head? = some 48
  .rw[xl h] at J;rw[iw J Z,HX.mpr (show (c::r≠[48])↔((c::r).head? = some 48/\c::r≠[48]) from #[fun z=>#[h,z],And.right])]
  .rw[iU h] at J;rw[ez J,iU (fun z=>h z.1)]
 by_cases W:(c::r).head? = some 48/\c::r≠[48]
 .rw[xl W] at U;rw[fI W];exact E2 ((C4 U).trans (u7 rfl))
 rw[iU W] at U;rw[gV W,i9 (C3 U)];refine u7 (C7 (x:=.str (d7 (c::r))) rfl ?_);have it:=PySem.intText_digits (x:=d7 (c::r)) (fun z hz=>by
  have:=Iq.mp h2 z hz;unfold K5 at this;exact HS this) (by rw[aO];simp) (by rw[L];omega)
 show (if (d7 (c::r)).length<=640 then (intText? (d7 (c::r))).map D.int else none)=_;rw[fI (by rw[L];omega),it];rfl
def kL {m:Nat}(h:m<=9999):F1 (dg m)=some m:=by
 unfold F1;rw[gV (fun z=>z.elim (yA m) fun q=>by have:=zd (k:=4) (m:=m) #[] ∅;omega),
  gV (by rw[JP];exact Iq.mpr fun c L=>xl (eE m c L)),gV,Ho]
 rintro⟨h1,h2⟩;by_cases J:m=0
 .subst J;exact h2 (gU #[])
 .obtain⟨c,r,e,q⟩:=nQ m J;rw[e] at h1;simp at h1;exact q h1
end T
namespace T
open PySem L2 DL
open PySem.NumText in
theorem so:∀(l:List Nat) (a:Nat),l.all K5=true->l.foldl (fun acc c=>acc*10+(c - 48)) a<(a+1)*10 ^ l.length
 |[],a,_=>by simp
 |c::l,a,h=>by
  rw[Jt,Hs] at h;have L:=HS h.1;have J:=so l (a*10+(c - 48)) h.2;rw[List.foldl_cons,Hv,Nat.pow_succ];refine Hw J ?_;rw[KP (10 ^ l.length) 10,<-Nat.mul_assoc];exact Nat.mul_le_mul_right _ ∅
def gR {l:List Nat}(h:F1 l=some n):n<10 ^ 4:=by
 unfold F1 at h;split at h
 .cases h
 .rename_i h1;split at h
  .cases h
  .rename_i h2;split at h
   .cases h
   .cases h;have:=so l 0 (by simpa using h2);refine Hw this ?_;rw[JO,Nat.one_mul];exact JI #[] ∅
def L1 (l:List Nat):Option Int:=if l.head? = some 45 then (F1 l.tail).bind fun n=>if n=0 then none else some (-(n:Int)) else (F1 l).map (fun n:Nat=>(n:Int))
def oI:Option Int->D
 |none=>.non
 |some i=>.int i
def kh {l:List Nat}{i:Int}(h:L1 l=some i):Bd 14 i:=by
 unfold L1 at h;split at h
 .obtain⟨n,h1,h2⟩:=II.mp h;split at h2
  .cases h2
  .cases h2;have:=gR h1;unfold Bd;rw[Lo,Jb];omega
 .obtain⟨n,h1,rfl⟩:=Ip.mp h;have:=gR h1;unfold Bd;rw[Jb];omega
def Fj (l:List Nat):aW (.str (d7 l)) (.str "-")=some (.bl (decide (l.head? = some 45))):=by
 show some (D.bl (decide (0+1<=l.length)&&Builtin.Str.subAt (d7 l) ("-" : Str) 0))=_;rw[StrLaws.subAt_eq];congr 2;show (decide (0+1<=l.length)&&((l.drop 0).take 1 == [45]))=_;cases l with
 |nil=>rfl
 |cons c r=>
  by_cases h:c=45
  .subst h;simp
  .simp[h]
def EC (c:Nat) (r:List Nat):Txt.slice (d7 (c::r)) (some 1) none=d7 r:=by
 have e:StrLaws.sliceText (d7 (c::r)) (some 1) none=_:=StrLaws.sliceText_from (x:=d7 (c::r)) (i:=1) #[by decide,by rw[aO,Hv];omega];refine(show Txt.slice (d7 (c::r)) (some 1) none=StrLaws.sliceText (d7 (c::r)) (some 1) none from rfl).trans (e.trans ?_);refine aF ?_;rw[aO];show List.take _ (List.drop (1:Int).toNat (c::r))=r;rw[show (1:Int).toNat=1 from rfl,List.drop_one,Lu];exact LY (by rw[Hv];omega)
def pR:az .non .non=some (.bl true):=rfl
abbrev cL:a8:=uE T6
def Al (l:List Nat) (fs:vO_):cL [.str (d7 l)] fs=some (oI (L1 l),fs):=by
 have J:k6 (j4 (a6 aW (dL 0) (dC (.str "-")))) #[[.v (.str (d7 l)),.no],fs]=some (!decide (l.head? = some 45),#[[.v (.str (d7 l)),.no],fs]):=V4 (M4 (c9 rfl rfl (Fj l)));unfold L1;by_cases h:l.head? = some 45
 .rw[xl h] at J;rw[fI h];obtain⟨c,r,rfl⟩:∃c r,l=c::r:=by
   cases l with
   |nil=>cases h
   |cons c r=>exact#[c,r,rfl]
  rw[Lu];refine p9 (s:=#[[.v (.str (d7 (c::r))),.v (oN (F1 r))],fs]) ?_;show dD T6 #[[.v (.str (d7 (c::r))),.no],fs]=_;unfold dD;rw[i9 (C3 J)];have sl:kr (dL 0) (M8 (b0 1)) P5 #[[.v (.str (d7 (c::r))),.no],fs]=some (.str (d7 r),#[[.v (.str (d7 (c::r))),.no],fs]):=by
   rw[<-EC c r];rfl
  rw[i9 (s1:=#[[.v (.str (d7 (c::r))),.v (oN (F1 r))],fs]) (u4 (u9 (l0 sl rfl) (jY r fs)) rfl)];cases e:F1 r with
  |none=>exact u7 ((R8 (Y4 (x8 (c9 (x:=.non) (y:=.non) rfl rfl pR)))).trans rfl)
  |some n=>
   have M:dB (a6 az (dL 1) (dC .non)) #[[.v (.str (d7 (c::r))),.v (.int (n:Int))],fs]=some (false,#[[.v (.str (d7 (c::r))),.v (.int (n:Int))],fs]):=x8 (c9 rfl rfl rfl);have L:dB (a6 u6 (dL 1) (b0 0)) #[[.v (.str (d7 (c::r))),.v (.int (n:Int))],fs]=some (decide (n=0),#[[.v (.str (d7 (c::r))),.v (.int (n:Int))],fs]):=by
    refine x8 (c9 rfl rfl ?_);rw[F9,HX.mpr (show ((n:Int)=0)↔n=0 by omega)]
   rw[Hq];by_cases z:n=0
   .rw[xl z] at L;rw[fI z];exact u7 ((R8 (F2 M L)).trans rfl)
   .rw[iU z] at L;rw[gV z];exact u7 ((W9 (F2 M L)).trans rfl)
 .rw[iU h] at J;rw[gV h];refine p9 (s:=#[[.v (.str (d7 l)),.no],fs]) ?_;show dD T6 #[[.v (.str (d7 l)),.no],fs]=_;unfold dD;have w:=jY l fs;have e:oI ((F1 l).map (fun n:Nat=>(n:Int)))=oN (F1 l):=by cases F1 l <;> rfl
  rw[e];exact E2 ((C4 J).trans (u7 (u9 rfl w)))
def tH {i:Int}(h:i.natAbs<=9999):L1 (nL i)=some i:=by
 unfold L1 nL;by_cases c:i<0
 .rw[fI c,fI (show (45::dg i.natAbs).head? = some 45 from rfl),Lu,kL h,Hq,gV ∅];congr 1;omega
 .rw[gV c,gV,kL h]
  .show some (i.natAbs:Int)=_;congr 1;omega
  .intro z;have:=eE i.natAbs 45 (List.mem_of_mem_head? z);omega
end T
namespace T
open PySem L2 DL
def fD:Option Int->Option Nat->Option Rat
 |some t,some n=>if n=1\/B9 (.tup [.int t,.int (n:Int)])=false then none else some (Rat.divInt t (n:Int))
 |_,_=>none
def uz:List (List Nat)->Option Rat
 |[a]=>(L1 a).map (fun t:Int=>(t:Rat))
 |[a,b]=>fD (L1 a) (F1 b)
 |_=>none
def A3 (l:List Nat):Option Rat:=uz (E3 47 l)
def oR:Option Rat->D
 |none=>.non
 |some q=>fr q
def An {t n:Int}(h:B9 (.tup [.int t,.int n])=true):fr (Rat.divInt t n) = .tup [.int t,.int n]:=by
 have h:(decide (1<=n)&&decide (Int.gcd t n=1))=true:=h;rw[Hs] at h;have h1:=HS h.1;have h2:=HS h.2;rw[EL ∅,h2];simp
def iB (q:Rat):B9 (fr q)=true:=by
 show (decide (1<=(q.den:Int))&&decide (Int.gcd q.num (q.den:Int)=1))=true;rw[Hs];exact#[xl (by have:=den_pos q;omega),xl (by have:=q.reduced;exact this)]
def dU {l:List Nat}{c:Nat}(h:l.length+2<=sizeLine):M5 (.str (d7 l)) (.str #[#v[c]])=some (.lst ((E3 c l).map fun p=>.str (d7 p))):=by
 have e:=Bc (d7 l) c;rw[aO] at e;refine(fI (e:=(none:Option D)) (show 1<=(#[#v[c]]:Str).length/\(d7 l).length+2<=sizeLine from #[iR 1,h])).trans ?_;rw[e,IC];rfl
def xV {α:Type}(a b:α) (r:List α):n8 (a::b::r) 1=some b:=by
 unfold n8 L8;simp;rw[fI ∅];rfl
abbrev O7:a8:=oU V2 T6 cL
def Bv {t:Option Int}{n:Option Nat}(L:∀i,t=some i->Bd 14 i) (J:∀k,n=some k->k<10 ^ 4):Th 14 1 (.tup [oI t,oN n]):=by
 simp only[Th,Ths];refine#[?_,?_,trivial]
 .cases t with
  |none=>simp only[oI,Th]
  |some i=>simp only[oI,Th];exact L i rfl
 .cases n with
  |none=>simp only[oN,Th]
  |some k=>
   simp only[oN,Th];have:=J k rfl;unfold Bd;rw[Jb];omega
def BA (t:Option Int) (n:Option Nat):bk (.tup [oI t,oN n])<=1000000:=by
 have h1:bk (oI t)=0:=by cases t <;> rfl
 have h2:bk (oN n)=0:=by cases n <;> rfl
 rw[L9,E8,E8,cv];omega
def lD (l:List Nat) (fs:vO_) (hl:l.length+2<=sizeLine):O7 [.str (d7 l)] fs=some (oR (A3 l),fs):=by
 have sp:=dU (c:=47) hl;have ne:=lT 47 l;unfold A3;generalize E3 47 l=ps at sp ne;cases ps with
 |nil=>exact absurd rfl ne
 |cons a ps=>
  have w:=Al a fs;have tb:∀i,L1 a=some i->Bd 14 i:=fun i h=>kh h
  obtain⟨t,te⟩:∃t,L1 a=t:=#[_,rfl]
  rw[te] at w tb;have hd:∀y,c8 (d5 (a6 M5 (dL 0) (dC (.str "/"))) (d0 1)) (c8 (d5 (a9 cL (a0 (k0 1 0) a7)) (d0 2)) y) #[[.v (.str (d7 l)),.no,.no,.no],fs]=y #[[.v (.str (d7 l)),.v (.lst ((a::ps).map fun p=>.str (d7 p))),.v (oI t),.no],fs]:=fun y=>by
   rw[i9 (s1:=#[[.v (.str (d7 l)),.v (.lst ((a::ps).map fun p=>.str (d7 p))),.no,.no],fs]) (u4 (c9 rfl rfl sp) rfl),
    i9 (s1:=#[[.v (.str (d7 l)),.v (.lst ((a::ps).map fun p=>.str (d7 p))),.v (oI t),.no],fs]) (u4 (u9 (l0 (c9 rfl rfl (by rw[v7,Hu];exact dP _ _)) rfl) w) rfl)]
  have Y:d8 (one j5) (a0 (dL 1) a7) #[[.v (.str (d7 l)),.v (.lst ((a::ps).map fun p=>.str (d7 p))),.v (oI t),.no],fs]=some (.int ((ps.length+1:Nat):Int),#[[.v (.str (d7 l)),.v (.lst ((a::ps).map fun p=>.str (d7 p))),.v (oI t),.no],fs]):=by
   refine C7 (x:=.lst ((a::ps).map fun p=>.str (d7 p))) rfl ?_;show some (D.int (((a::ps).map fun p=>D.str (d7 p)).length:Nat))=_;rw[Hr,Hv]
  have U:dB (a6 u6 (d8 (one j5) (a0 (dL 1) a7)) (b0 1)) #[[.v (.str (d7 l)),.v (.lst ((a::ps).map fun p=>.str (d7 p))),.v (oI t),.no],fs]=some (decide (ps=[]),#[[.v (.str (d7 l)),.v (.lst ((a::ps).map fun p=>.str (d7 p))),.v (oI t),.no],fs]):=by
   refine x8 (c9 Y rfl ?_);rw[F9,HX.mpr (show (((ps.length+1:Nat):Int)=1)↔ps=[] from #[fun z=>JG ∅,fun z=>by rw[z];rfl])]
  cases ps with
  |nil=>
   refine p9 (s:=#[[.v (.str (d7 l)),.v (.lst ([a].map fun p=>.str (d7 p))),.v (oI t),.no],fs]) ?_;show cu V2 T6 cL #[[.v (.str (d7 l)),.no,.no,.no],fs]=_;unfold cu;rw[hd];show _=some (Fl.ret (oR ((L1 a).map (fun t:Int=>(t:Rat)))),_);rw[te];cases t with
   |none=>exact E2 ((C4 U).trans (u7 ((R8 (x8 (c9 (x:=.non) (y:=.non) rfl rfl pR))).trans rfl)))
   |some i=>exact E2 ((C4 U).trans (u7 ((W9 (x8 (c9 (x:=.int i) (y:=.non) rfl rfl rfl))).trans (Y1 rfl rfl))))
  |cons b ps=>
   have v:=jY b fs;have Z:∀n,F1 b=some n->n<10 ^ 4:=fun n h=>gR h
   obtain⟨n,ne'⟩:∃n,F1 b=n:=#[_,rfl]
   rw[ne'] at v Z;have fi:=jD (.tup [oI t,oN n]) fs (Bv tb Z) (BA t n);rw[iU (by simp)] at U;have rest:c8 (d5 (a9 T6 (a0 (k0 1 1) a7)) (d0 3)) (c8 (e8 (j7 (dB (a6 (i8 (fun i j=>decide (j<i))) (d8 (one j5) (a0 (dL 1) a7)) (b0 2))) (j7 (dB (a6 u6 (dL 3) (b0 1))) (k6 (j4 (a9 V2 (a0 (d9 (a0 (dV 2) (a0 (dV 3) a7))) a7)))))) (d6 (dC .non)) f9) (d6 (d9 (a0 (dV 2) (a0 (dV 3) a7))))) #[[.v (.str (d7 l)),.v (.lst ((a::b::ps).map fun p=>.str (d7 p))),.v (oI t),.no],fs] =
     some (.ret (if ps≠[]\/n=some 1\/B9 (.tup [oI t,oN n])=false then .non else .tup [oI t,oN n]),#[[.v (.str (d7 l)),.v (.lst ((a::b::ps).map fun p=>.str (d7 p))),.v (oI t),.v (oN n)],fs]):=by
    rw[i9 (s1:=#[[.v (.str (d7 l)),.v (.lst ((a::b::ps).map fun p=>.str (d7 p))),.v (oI t),.v (oN n)],fs]) (u4 (u9 (l0 (c9 rfl rfl (by rw[v7,Hu,Hu];exact xV _ _ _)) rfl) v) rfl)];have J:dB (a6 (i8 (fun i j=>decide (j<i))) (d8 (one j5) (a0 (dL 1) a7)) (b0 2)) #[[.v (.str (d7 l)),.v (.lst ((a::b::ps).map fun p=>.str (d7 p))),.v (oI t),.v (oN n)],fs]=some (decide (ps≠[]),#[[.v (.str (d7 l)),.v (.lst ((a::b::ps).map fun p=>.str (d7 p))),.v (oI t),.v (oN n)],fs]):=by
     refine x8 (c9 (x:=.int ((ps.length+2:Nat):Int)) (C7 (x:=.lst ((a::b::ps).map fun p=>.str (d7 p))) rfl ?_) rfl ?_)
     .show some (D.int (((a::b::ps).map fun p=>D.str (d7 p)).length:Nat))=_;rw[Hr,Hv,Hv]
     .show some (D.bl (decide ((2:Int)<((ps.length+2:Nat):Int))))=_;rw[HX.mpr (show ((2:Int)<((ps.length+2:Nat):Int))↔ps≠[] from #[fun z y=>by rw[y] at z;simp at z,fun z=>by have:=Ls.mpr z;omega])]
    have L:dB (a6 u6 (dL 3) (b0 1)) #[[.v (.str (d7 l)),.v (.lst ((a::b::ps).map fun p=>.str (d7 p))),.v (oI t),.v (oN n)],fs]=some (decide (n=some 1),#[[.v (.str (d7 l)),.v (.lst ((a::b::ps).map fun p=>.str (d7 p))),.v (oI t),.v (oN n)],fs]):=by
     refine x8 (c9 (x:=oN n) rfl rfl ?_);cases n with
     |none=>rfl
     |some k=>
      show u6 (.int (k:Int)) (.int 1)=_;rw[F9,HX.mpr (show ((k:Int)=1)↔some k=some 1 by simp;omega)]
    have W:k6 (j4 (a9 V2 (a0 (d9 (a0 (dV 2) (a0 (dV 3) a7))) a7))) #[[.v (.str (d7 l)),.v (.lst ((a::b::ps).map fun p=>.str (d7 p))),.v (oI t),.v (oN n)],fs]=some (!B9 (.tup [oI t,oN n]),#[[.v (.str (d7 l)),.v (.lst ((a::b::ps).map fun p=>.str (d7 p))),.v (oI t),.v (oN n)],fs]):=V4 (M4 (u9 (l0 (Y1 rfl rfl) rfl) fi));by_cases h1:ps≠[]
    .rw[xl h1] at J;rw[fI (.inl h1)];exact E2 ((C4 (Y4 J)).trans (u7 rfl))
    .rw[iU h1] at J;by_cases h2:n=some 1
     .rw[xl h2] at L;rw[fI (.inr (.inl h2))];exact E2 ((C4 (F2 J (Y4 L))).trans (u7 rfl))
     .rw[iU h2] at L;by_cases M:B9 (.tup [oI t,oN n])=false
      .rw[M] at W;rw[fI (.inr (.inr M))];exact E2 ((C4 (F2 J (F2 L W))).trans (u7 rfl))
      .rw[JP] at M;rw[M] at W;rw[gV (fun z=>z.elim h1 fun z=>z.elim h2 fun z=>by rw[M] at z;cases z),i9 (C3 (F2 J (F2 L W)))];exact u7 (Y1 rfl rfl)
   refine(p9 (d:=if ps≠[]\/n=some 1\/B9 (.tup [oI t,oN n])=false then .non else .tup [oI t,oN n]) (s:=#[[.v (.str (d7 l)),.v (.lst ((a::b::ps).map fun p=>.str (d7 p))),.v (oI t),.v (oN n)],fs]) ?_).trans ?_
   .show cu V2 T6 cL #[[.v (.str (d7 l)),.no,.no,.no],fs]=_;unfold cu;rw[hd,i9 (C3 U)];exact rest
   .congr 2;cases ps with
    |cons _ _=>rw[fI (.inl (by simp))];rfl
    |nil=>
     show _=oR (fD (L1 a) (F1 b));rw[te,ne'];cases t with
     |none=>rw[fI (.inr (.inr (by cases n <;> rfl)))];rfl
     |some i=>
      cases n with
      |none=>rw[fI (.inr (.inr rfl))];rfl
      |some k=>
       show _=oR (if k=1\/B9 (.tup [.int i,.int (k:Int)])=false then none else some (Rat.divInt i (k:Int)));by_cases z:k=1\/B9 (.tup [.int i,.int (k:Int)])=false
       .rw[fI z,fI (.inr (z.imp (congrArg some) id))];rfl
       .rw[gV z,gV (fun y=>y.elim (fun y=>y rfl) fun y=>y.elim (fun y=>z (.inl (HU y))) fun y=>z (.inr y))];have:B9 (.tup [.int i,.int (k:Int)])=true:=by
         rw[<-JP];exact fun y=>z (.inr y)
        exact(An this).symm
theorem qH (c:Nat):∀l:List Nat,(∀p∈E3 c l,p.length<=l.length)/\(E3 c l).length<=l.length+1
 |[]=>#[fun p J=>by rw[IU.mp J];exact iR _,iR _]
 |x::r=>by
  obtain⟨h1,h2⟩:=qH c r;unfold E3;split
  .refine#[fun p J=>?_,by rw[Hv,Hv];omega];rcases xr.mp J with rfl | J
   .exact HV _
   .have:=h1 p J;rw[Hv];omega
  .split
   .rename_i e;exact absurd e (lT c r)
   .rename_i a s e;rw[e] at h1 h2;refine#[fun p J=>?_,by rw[Hv,Hv];rw[Hv] at h2;omega];rcases xr.mp J with rfl | J
    .have:=h1 a (HD ..);rw[Hv,Hv];omega
    .have:=h1 p (HB _ J);rw[Hv];omega
def gr {l:List Nat}(h:A3 l=some q):Sz 14 q:=by
 unfold A3 uz at h;split at h
 .obtain⟨t,h1,rfl⟩:=Ip.mp h;exact Sz.int (kh h1) #[]
 .unfold fD at h;split at h
  .rename_i t n J L;split at h
   .cases h
   .rename_i z;cases h;have M:=gR L;have:B9 (.tup [.int t,.int (n:Int)])=true:=by
     rw[<-JP];exact fun y=>z (.inr y)
    have:(decide (1<=(n:Int))&&decide (Int.gcd t n=1))=true:=this;rw[Hs] at this;have:=HS this.1;exact Sz.of_divInt ∅ (kh J) (by rw[Jb];omega)
  .cases h
 .cases h
def EW {α:Type}{l:List α}(h:l.length=2):∃a b,l=[a,b]:=by
 cases l with
 |nil=>cases h
 |cons a l=>
  cases l with
  |nil=>cases h
  |cons b l=>
   cases l with
   |nil=>exact#[a,b,rfl]
   |cons c l=>simp at h
def bq:List (Option Rat)->Option Pt
 |[some x,some y]=>some (x,y)
 |_=>none
def eJ (l:List Nat):Option Pt:=bq ((E3 44 l).map A3)
def oP:Option Pt->D
 |none=>.non
 |some p=>pt p
abbrev fZ:a8:=oK (cx FL) O7
theorem oW (fs:vO_):∀ps:List (List Nat),(∀p∈ps,p.length+2<=sizeLine)->A9 (fun d=>some (.v d::[])) w6 (a9 O7 (a0 (dV 0) a7)) (ps.map fun p=>.str (d7 p)) fs=some (ps.map fun p=>oR (A3 p),fs)
 |[],_=>rfl
 |p::ps,h=>by
  have e:a9 O7 (a0 (dV 0) a7) #[[.v (.str (d7 p))],fs]=some (oR (A3 p),#[[.v (.str (d7 p))],fs]):=u9 rfl (lD p fs (h p (HD ..)));have J:=oW fs ps fun q L=>h q (HB _ L)
  simp only[Hu];simp[A9,w6,e,J]
def mw {q:Option Rat}(h:∀r,q=some r->Sz 14 r):Th 14 1 (oR q):=by
 cases q with
 |none=>simp only[oR,Th]
 |some r=>
  have:=h r rfl;simp only[oR,fr,Th,Ths];exact#[this.num,this.den,trivial]
def yO {x y:Option Rat}(J:∀r,x=some r->Sz 14 r) (L:∀r,y=some r->Sz 14 r):U3 .non (.lst [oR x,oR y])=some (.bl (x.isNone||y.isNone)):=by
 have t:Th 14 2 (.lst [oR x,oR y]):=by
  simp only[Th,Ths];exact#[mw J,mw L,trivial]
 have o:=(Th.ok #[] _ t).eq #[];have e:A5 .non=true:=by decide +kernel
 simp only[U3,Z7,e,o,Ig,HI,id];congr 2;cases x <;> cases y <;> simp[ao,oR,fr,D.pys,D.py,PyData.eqv]
def Fn (l:List Nat) (fs:vO_) (hl:l.length+2<=sizeLine):fZ [.str (d7 l)] fs=some (oP (eJ l),fs):=by
 obtain⟨Z,Y⟩:=qH 44 l;have sp:=dU (c:=44) hl;have U:=oW fs (E3 44 l) fun p hp=>by have:=Z p hp;omega
 unfold eJ;generalize E3 44 l=ps at sp U Y;have it:D9 (a6 M5 (dL 0) (dC (.str ","))) #[[.v (.str (d7 l)),.no],fs]=some (ps.map fun p=>.str (d7 p),#[[.v (.str (d7 l)),.no],fs]):=by
  unfold D9;rw[c9 (x:=.str (d7 l)) (y:=.str #[#v[44]]) rfl rfl sp];rfl
 have W:∀y,c8 (J3 1 (B6 [] (D9 (a6 M5 (dL 0) (dC (.str ",")))) w6 (a9 O7 (a0 (dV 0) a7)))) y #[[.v (.str (d7 l)),.no],fs]=y #[[.v (.str (d7 l)),.own (ps.map fun p=>oR (A3 p))],fs]:=fun y=>by
  rw[i9 (s1:=#[[.v (.str (d7 l)),.own (ps.map fun p=>oR (A3 p))],fs]) (gN (af (idx:=[]) (fc:=w6) (s1:=#[[.v (.str (d7 l)),.no],fs]) it (by rw[Hr];omega) U) (show 1<2 by decide))]
 have J:dB (a6 o9 (d8 (one j5) (a0 (dL 1) a7)) (b0 2)) #[[.v (.str (d7 l)),.own (ps.map fun p=>oR (A3 p))],fs]=some (!decide (ps.length=2),#[[.v (.str (d7 l)),.own (ps.map fun p=>oR (A3 p))],fs]):=by
  refine x8 (c9 (x:=.int (ps.length:Int)) (C7 (x:=.lst (ps.map fun p=>oR (A3 p))) rfl ?_) rfl ?_)
  .show some (D.int ((ps.map fun p=>oR (A3 p)).length:Nat))=_;rw[Hr]
  .rw[F0,HX.mpr (show ((ps.length:Int)=2)↔ps.length=2 by omega)]
 by_cases h2:ps.length=2
 .obtain⟨a,b,rfl⟩:=EW h2;rw[xl h2] at J;have ni:=yO (x:=A3 a) (y:=A3 b) (fun r h=>gr h) fun r h=>gr h
  have q:dB (a6 U3 (dC .non) (dL 1)) #[[.v (.str (d7 l)),.own ([a,b].map fun p=>oR (A3 p))],fs]=some ((A3 a).isNone||(A3 b).isNone,#[[.v (.str (d7 l)),.own ([a,b].map fun p=>oR (A3 p))],fs]):=x8 (c9 rfl rfl ni);refine p9 (s:=#[[.v (.str (d7 l)),.own ([a,b].map fun p=>oR (A3 p))],fs]) ?_;show cR (cx FL) O7 #[[.v (.str (d7 l)),.no],fs]=_;unfold cR;rw[W];show _=some (Fl.ret (oP (bq [A3 a,A3 b])),_);cases L:A3 a with
  |none=>
   rw[L,show ((none:Option Rat).isNone||(A3 b).isNone)=true from rfl] at q;exact E2 ((C4 (F2 J q)).trans (u7 rfl))
  |some x=>
   cases M:A3 b with
   |none=>
    simp only[Hu,L,M] at q J ⊢;exact E2 ((C4 (F2 J q)).trans (u7 rfl))
   |some y=>
    simp only[Hu,L,M] at q J ⊢;rw[i9 (C3 (F2 J q))];exact u7 (u9 (l0 (c9 rfl rfl rfl) (l0 (c9 rfl rfl rfl) rfl)) (Fp x y fs (gr L) (gr M) #[]))
 .rw[iU h2] at J;refine p9 (s:=#[[.v (.str (d7 l)),.own (ps.map fun p=>oR (A3 p))],fs]) ?_;show cR (cx FL) O7 #[[.v (.str (d7 l)),.no],fs]=_;unfold cR;rw[W];have e:bq (ps.map A3)=none:=by
   match ps,h2 with
   |[],_=>rfl
   |[a],_=>show bq [A3 a]=none;cases A3 a <;> rfl
   |[a,b],h=>exact absurd rfl h
   |a::b::c::r,_=>show bq (A3 a::A3 b::A3 c::r.map A3)=none;cases A3 a <;> cases A3 b <;> rfl
  rw[e];exact E2 ((C4 (Y4 J)).trans (u7 rfl))
def dA {c:Nat}(h:c≠45) (h2:¬ (48<=c/\c<=57)) (i:Int):c ∉ nL i:=by
 unfold nL;split
 .intro z;rcases xr.mp z with z | z
  .exact h z
  .exact h2 (eE _ _ z)
 .exact fun z=>h2 (eE _ _ z)
def fL (q:Rat):List Nat:=if q.den=1 then nL q.num else nL q.num++47::nL (q.den:Int)
def Y2 (q:Rat):(fT q).cps.toList=fL q:=by
 unfold fT fL;split
 .exact fy _
 .rw[N0,N0,fy,fy];show nL q.num++[47]++nL (q.den:Int)=_;simp
def Sh (q:Rat):Prop:=q.num.natAbs<=9999/\q.den<=9999
def ip (h:Sh q):A3 (fL q)=some q:=by
 unfold A3 fL;have J:=dA (c:=47) #[] #[] q.num;have L:=dA (c:=47) #[] #[] (q.den:Int);by_cases c:q.den=1
 .rw[fI c,dj 47 _ J];show (L1 (nL q.num)).map (fun t:Int=>(t:Rat))=_;rw[tH h.1];show some ((q.num:Int):Rat)=some q;congr 1;exact Rat.ext rfl c.symm
 .rw[gV c,eF 47 _ _ J,dj 47 _ L];show fD (L1 (nL q.num)) (F1 (nL (q.den:Int)))=_;have e:nL (q.den:Int)=dg q.den:=by unfold nL;rw[gV ∅,Jb]
  rw[tH h.1,e,kL h.2];show (if q.den=1\/B9 (fr q)=false then none else some (Rat.divInt q.num (q.den:Int)))=_;rw[gV (fun z=>z.elim c fun z=>by rw[iB q] at z;cases z),JJ]
def bD {c:Nat}(h:c≠45) (h1:c≠47) (h2:¬ (48<=c/\c<=57)) (q:Rat):c ∉ fL q:=by
 unfold fL;split
 .exact dA h h2 _
 .intro z;rcases Im.mp z with z | z
  .exact dA h h2 _ z
  .rcases xr.mp z with z | z
   .exact h1 z
   .exact dA h h2 _ z
def L6 (a:Pt):List Nat:=fL a.1++44::fL a.2
def my (a:Pt):(pT a).cps.toList=L6 a:=by
 unfold pT L6;rw[N0,N0,Y2,Y2];show fL a.1++[44]++fL a.2=_;simp
def yd {a:Pt}(h:Sh a.1/\Sh a.2):eJ (L6 a)=some a:=by
 unfold eJ L6;rw[eF 44 _ _ (bD #[] #[] #[] _),dj 44 _ (bD #[] #[] #[] _)];show bq [A3 (fL a.1),A3 (fL a.2)]=_;rw[ip h.1,ip h.2];rfl
def AR (a:Pt):32 ∉ L6 a:=by
 unfold L6;intro z;rcases Im.mp z with z | z
 .exact bD #[] #[] #[] _ z
 .rcases xr.mp z with z | z
  .exact absurd z #[]
  .exact bD #[] #[] #[] _ z
section
variable {a b:DM}{c':DT}{e e':DE}{f:DA}{s:DS}{x y w:D}{xs:vD_}{r:Option (Fl × DS)}{q:Option (D × DS)}{v:Option (Bool × DS)}{fs:vO_}{p1:D->Option D}{pl:List D->Option D}{t:D->DS->Option DS}{B:Bool}
def FJ (h:f s=some (ds,s1)) (l:Nat.ble ds.length sizeLine=true):i6 f s=some (ds,s1):=by simp[i6,h,Il l]
end
end T
namespace DL
open PySem L2
def nK (h:B9 d=true):∃n m:Int,d = .tup [.int n,.int m]/\1<=m:=by
 cases d with
 |tup ds=>
  match ds,h with
  |[.int n,.int m],h=>
   simp only[B9,Hs,HK] at h;exact#[n,m,rfl,h.1]
 |_=>cases h
def ly:D->Bool
 |.tup [.int n,.int _]=>decide (0<n)
 |_=>false
end DL
namespace T
open PySem L2 DL
def Th.part {b k:Nat}(h:Th b k (.tup ds)):∀d∈ds,Th b k d:=fun d J=>by
 cases k with
 |zero=>unfold Th at h;exact h.elim
 |succ k=>unfold Th at h;exact Th.mono (iR _) d ∅ (Ths.mem h J)
def Th.ints {b k:Nat}{n m:Int}(h:Th b k (.tup [.int n,.int m])):Bd b n/\Bd b m:=by
 have h1:=Th.part h (.int n) (by simp);have h2:=Th.part h (.int m) (by simp);unfold Th at h1 h2;exact#[h1,h2]
def nY (a b c d:Int) (fs:vO_) (h1:A8 a=true) (h2:A8 b=true) (J:A8 c=true) (L:A8 d=true):eT [.tup [.int a,.int b],.tup [.int c,.int d]] fs=some (.bl (decide (a*d<c*b)),fs):=by
 refine p9 (s:=#[[.v (.tup [.int a,.int b]),.v (.tup [.int c,.int d])],fs]) ?_;show eD #[[.v (.tup [.int a,.int b]),.v (.tup [.int c,.int d])],fs]=_;simp![eD,y9,v7,w9,v8,y8,A0,y0,L5,W8,o8,h1,h2,J,L]
end T
namespace DL
open PySem L2
def E7 (d:D) (a b c:Str):Bool:=match d with
 |.str x=>decide (a=x)||(decide (b=x)||decide (c=x))
 |_=>false
def xD (d:D) (a b c:Str) (h:thing d=true):ao d [.str a,.str b,.str c]=E7 d a b c:=by
 cases d with
 |feed=>cases h
 |scr _=>cases h
 |fn _=>cases h
 |exc _ _=>cases h
 |_=>simp[ao,E7,D.pys,D.py,PyData.eqv,JH]
def pC:D->Bool
 |.tup [.int n,.int m]=>decide (m<=n)
 |_=>false
def K0:D->Bool
 |.tup [h,s,e,j,b]=>B9 h&&(B9 b&&(E7 s "both" "left" "right" && (E7 e "cut" "square" "round" && (E7 j "cut" "pointed" "round" && (ly h&&pC b)))))
 |_=>false
def Ae (h:ds.length=5):∃a b c d e,ds=[a,b,c,d,e]:=by
 match ds,h with
 |[a,b,c,d,e],_=>exact#[a,b,c,d,e,rfl]
end DL
namespace T
open PySem L2 DL
def GG:A5 (.tup [.str "both",.str "left",.str "right"])=true:=by decide +kernel
def AI:A5 (.tup [.str "cut",.str "square",.str "round"])=true:=by decide +kernel
def wO:A5 (.tup [.str "cut",.str "pointed",.str "round"])=true:=by decide +kernel
def jS {a b c:Str}(h:A5 d=true) (L:thing d=true) (J:A5 (.tup [.str a,.str b,.str c])=true):aH d (.tup [.str a,.str b,.str c])=some (.bl (!E7 d a b c)):=by
 simp only[aH,Z7,h,J,Ig,HI,xD d a b c L]
abbrev Y9:a8:=qI eT V2
def Bh (a b c d e:D):n8 [a,b,c,d,e] 0=some a/\n8 [a,b,c,d,e] 1=some b/\n8 [a,b,c,d,e] 2=some c/\n8 [a,b,c,d,e] 3=some d/\n8 [a,b,c,d,e] 4=some e:=#[rfl,rfl,rfl,rfl,rfl]
def yQ {b k:Nat}(d:D) (fs:vO_) (h:Th b k d) (hb:b<=1900) (hk:k<=64) (hs:bk d<=1000000):Y9 [d] fs=some (.bl (K0 d),fs):=by
 refine p9 (s:=#[[.v d],fs]) ?_;show J8 eT V2 #[[.v d],fs]=_;have M:=h.thing;cases d with
 |feed=>cases M
 |scr _=>cases M
 |fn _=>cases M
 |exc _ _=>cases M
 |non=>simp![J8,y9,v7,w9,v8,y8,A0,y0,wK,B1,K0]
 |bl _=>simp![J8,y9,v7,w9,v8,y8,A0,y0,gy,B1,K0]
 |int _=>simp![J8,y9,v7,w9,v8,y8,A0,y0,Ce,B1,K0]
 |str _=>simp![J8,y9,v7,w9,v8,y8,A0,y0,vA,B1,K0]
 |lst _=>simp![J8,y9,v7,w9,v8,y8,A0,y0,Cd,B1,K0]
 |tup ds=>
  by_cases hz:ds.length=5
  .obtain⟨x,s,e,j,y,rfl⟩:=Ae hz;obtain⟨W,i1,i2,i3,i4⟩:=Bh x s e j y;have hp:=Th.part h;have hx:=hp x (by simp);have hss:=hp s (by simp);have he:=hp e (by simp);have hj:=hp j (by simp);have hy:=hp y (by simp);have bx:bk x<=1000000:=by have:=fB (show x∈[x,s,e,j,y] by simp);rw[L9] at hs;omega
   have by':bk y<=1000000:=by have:=fB (show y∈[x,s,e,j,y] by simp);rw[L9] at hs;omega
   have p1:=jD x fs hx bx;have p2:=jD y fs hy by'
   have Y:=jS ((Th.ok ∅ _ hss).eq hk) hss.thing GG;have n2:=jS ((Th.ok ∅ _ he).eq hk) he.thing AI;have n3:=jS ((Th.ok ∅ _ hj).eq hk) hj.thing wO;cases J:B9 x
   .rw[J] at p1;simp![J8,y9,v7,w9,v8,y8,A0,y0,G5,B1,F0,W,p1,K0,J]
   .cases L:B9 y
    .rw[J] at p1;rw[L] at p2;simp![J8,y9,v7,w9,v8,y8,A0,y0,G5,B1,F0,W,i4,p1,p2,K0,J,L]
    .rw[J] at p1;rw[L] at p2;cases U:E7 s "both" "left" "right"
     .rw[U] at Y;simp![J8,y9,v7,w9,v8,y8,A0,y0,G5,B1,F0,W,i1,i4,p1,p2,Y,K0,J,L,U]
     .rw[U] at Y;cases Z:E7 e "cut" "square" "round"
      .rw[Z] at n2;simp![J8,y9,v7,w9,v8,y8,A0,y0,G5,B1,F0,W,i1,i2,i4,p1,p2,Y,n2,K0,J,L,U,Z]
      .rw[Z] at n2;cases c5:E7 j "cut" "pointed" "round"
       .rw[c5] at n3;simp![J8,y9,v7,w9,v8,y8,A0,y0,G5,B1,F0,W,i1,i2,i3,i4,p1,p2,Y,n2,n3,K0,J,L,U,Z,c5]
       .rw[c5] at n3;obtain⟨n,m,rfl,hm⟩:=nK J;obtain⟨u,v,rfl,hv⟩:=nK L;obtain⟨bn,bm⟩:=Th.ints hx;obtain⟨bu,bv⟩:=Th.ints hy;have z0:A8 0=true:=by decide
        have z1:A8 1=true:=by decide
        have q1:=nY 0 1 n m fs z0 z1 (bn.bits ∅) (bm.bits ∅);have q2:=nY u v 1 1 fs (bu.bits ∅) (bv.bits ∅) z1 z1;simp only[Int.zero_mul,Int.mul_one,Int.one_mul] at q1 q2;by_cases w1:0<n
        .rw[xl w1] at q1;have e2:(!decide (u<v))=decide (v<=u):=by rw[HZ];simp
         simp![J8,y9,v7,w9,v8,y8,A0,y0,G5,B1,F0,W,i1,i2,i3,i4,p1,p2,Y,n2,n3,K0,J,L,U,Z,c5,bz,q1,q2,ly,pC,w1,e2]
        .rw[iU w1] at q1;simp![J8,y9,v7,w9,v8,y8,A0,y0,G5,B1,F0,W,i1,i2,i3,i4,p1,p2,Y,n2,n3,K0,J,L,U,Z,c5,bz,q1,ly,w1]
  .have hz':¬ (ds.length:Int)=5:=by omega
   have:K0 (.tup ds)=false:=by
    match ds,hz with
    |[],_=>rfl
    |[_],_=>rfl
    |[_,_],_=>rfl
    |[_,_,_],_=>rfl
    |[_,_,_,_],_=>rfl
    |[_,_,_,_,_],hz=>exact absurd rfl hz
    |_::_::_::_::_::_::_,_=>rfl
   rw[this];simp![J8,y9,v7,w9,v8,y8,A0,y0,G5,B1,F0,hz']
structure RuG (h m:Rat) (s e j:Str):Prop where
 hs:Sh h
 hp:0<h.num
 ms:Sh m
 mg:(m.den:Int)<=m.num
 s3:E7 (.str s) "both" "left" "right" = true
 e3:E7 (.str e) "cut" "square" "round" = true
 j3:E7 (.str j) "cut" "pointed" "round" = true
def B0 (h:D) (s e j:Str) (m:D):D:=.tup [h,.str s,.str e,.str j,m]
def xA {s a b c:Str}(h:E7 (.str s) a b c=true):s=a\/s=b\/s=c:=by
 unfold E7 at h;rw[Lq,Lq] at h;exact h.imp (fun z=>(HS z).symm) fun z=>z.imp (fun z=>(HS z).symm) fun z=>(HS z).symm
structure Wrd (s:Str):Prop where
 a:M7 s
 l:s.length<=10
 n:32 ∉ s.cps.toList
def S8 {s:Str}(h:(s.cps.toList.all fun c=>decide (c<128)&&decide (c≠32))&&decide (s.length<=10)):Wrd s:=by
 rw[Hs] at h;have h1:=Iq.mp h.1;refine#[fun c J=>?_,HS h.2,fun J=>?_]
 .have:=h1 c J;rw[Hs] at this;exact HS this.1
 .have:=h1 32 J;simp at this
def jN {s a b c:Str}(h:E7 (.str s) a b c=true) (J:Wrd a) (M:Wrd b) (L:Wrd c):Wrd s:=by
 rcases xA h with rfl | rfl | rfl
 .exact J
 .exact M
 .exact L
section
variable {h m:Rat}{s e j:Str}(R:RuG h m s e j)
include R
theorem RuG.ws:Wrd s:=jN R.s3 (S8 (by decide +kernel)) (S8 (by decide +kernel)) (S8 (by decide +kernel))
theorem RuG.we:Wrd e:=jN R.e3 (S8 (by decide +kernel)) (S8 (by decide +kernel)) (S8 (by decide +kernel))
theorem RuG.wj:Wrd j:=jN R.j3 (S8 (by decide +kernel)) (S8 (by decide +kernel)) (S8 (by decide +kernel))
end
def Sh.sz (h:Sh q):Sz 14 q:=#[by have:=h.1;omega,by have:=h.2;omega]
def C6 (h m:Rat) (s e j:Str):List Str:=["wide",fT h,s,e,j,fT m]
def L3 (h m:Rat) (s e j:Str):List Nat:=jn 32 ((C6 h m s e j).map fun x=>x.cps.toList)
def sD {h m:Rat}{s e j:Str}(R:RuG h m s e j):∀x∈C6 h m s e j,x.length<=400:=by
 have h1:=Q3 (R.hs.sz.mono #[]);have h2:=Q3 (R.ms.sz.mono #[]);have L:=R.ws.l;have U:=R.we.l;have M:=R.wj.l;intro x J;unfold C6 at J;simp only[xr,HM,HN] at J;rcases J with rfl | rfl | rfl | rfl | rfl | rfl
 .decide
 all_goals omega
def pN {h m:Rat}{s e j:Str}(R:RuG h m s e j):O5 (.str " ") (.lst ((C6 h m s e j).map D.str))=some (.str (d7 (L3 h m s e j))):=
 jc (c:=32) (fun x J=>Ht (sD R x J) #[]) (show 6<=20 by decide)
section
variable {h m:Rat}{s e j:Str}(R:RuG h m s e j) (fs:vO_)
include R
abbrev bC:a8:=um Q2
theorem uO:bC [B0 (fr h) s e j (fr m)] fs=some (.str (d7 (L3 h m s e j)),fs):=by
 have J:=bW (R.hs.sz.mono (show 14<=190 by decide)) fs;have L:=bW (R.ms.sz.mono (show 14<=190 by decide)) fs;refine p9 (s:=#[[.v (B0 (fr h) s e j (fr m))],fs]) ?_;show jl Q2 #[[.v (B0 (fr h) s e j (fr m))],fs]=_;unfold jl;refine u7 (c9 rfl (D4 (ds:=(C6 h m s e j).map D.str) ?_) (pN R));exact FJ (l0 rfl (l0 (u9 (l0 (c9 rfl rfl rfl) rfl) J) (l0 (c9 rfl rfl rfl) (l0 (c9 rfl rfl rfl) (l0 (c9 rfl rfl rfl) (l0 (u9 (l0 (c9 rfl rfl rfl) rfl) L) rfl)))))) rfl
abbrev ag:a8:=oX L7
theorem Gy:ag [B0 (fr h) s e j (fr m)] fs=some (.str (d7 (L3 h m s e j)),fs):=by
 have J:=gD (R.hs.sz.mono (show 14<=190 by decide)) fs;have L:=gD (R.ms.sz.mono (show 14<=190 by decide)) fs;refine p9 (s:=#[[.v (B0 (fr h) s e j (fr m))],fs]) ?_;show lB L7 #[[.v (B0 (fr h) s e j (fr m))],fs]=_;unfold lB;refine u7 (c9 rfl (D4 (ds:=(C6 h m s e j).map D.str) ?_) (pN R));refine dI (x:=.lst [.str "wide",.str (fT h),.str s,.str e,.str j]) (D4 (dI (x:=.lst [.str "wide",.str (fT h)]) (D4 (fP rfl (u9 (l0 (c9 rfl rfl rfl) rfl) J))) (y:=.lst [.str s,.str e,.str j]) (D4 ?_) rfl)) (y:=.lst [.str (fT m)]) (D4 (gJ (u9 (l0 (c9 rfl rfl rfl) rfl) L))) rfl;rfl
end
abbrev V9:a8:=uC O7
def xE (a b c d e:D) {l:List Nat}(hl:l.length+2<=sizeLine) (fs:vO_):V9 [.tup [a,b,c,d,e],.int 0,.str (d7 l)] fs=some (.tup [oR (A3 l),b,c,d,e],fs):=by
 have w:=lD l fs hl;generalize oR (A3 l)=y at w;refine p9 (s:=#[[.v (.tup [a,b,c,d,e]),.v (.int 0),.v (.str (d7 l)),.v y],fs]) ?_;show X8 O7 #[[.v (.tup [a,b,c,d,e]),.v (.int 0),.v (.str (d7 l)),.no],fs]=_;unfold X8;have i:dB (a6 U3 (dL 1) (dC (.tup [(.int 0),(.int 4)]))) #[[.v (.tup [a,b,c,d,e]),.v (.int 0),.v (.str (d7 l)),.no],fs]=some (true,#[[.v (.tup [a,b,c,d,e]),.v (.int 0),.v (.str (d7 l)),.no],fs]):=x8 (c9 rfl rfl rfl);rw[i9 (s1:=#[[.v (.tup [a,b,c,d,e]),.v (.int 0),.v (.str (d7 l)),.v y],fs]) (u4 ((R8 i).trans (u9 rfl w)) rfl)];rfl
def Be (a b c d e:D) {l:List Nat}(hl:l.length+2<=sizeLine) (fs:vO_):V9 [.tup [a,b,c,d,e],.int 4,.str (d7 l)] fs=some (.tup [a,b,c,d,oR (A3 l)],fs):=by
 have w:=lD l fs hl;generalize oR (A3 l)=y at w;refine p9 (s:=#[[.v (.tup [a,b,c,d,e]),.v (.int 4),.v (.str (d7 l)),.v y],fs]) ?_;show X8 O7 #[[.v (.tup [a,b,c,d,e]),.v (.int 4),.v (.str (d7 l)),.no],fs]=_;unfold X8;have i:dB (a6 U3 (dL 1) (dC (.tup [(.int 0),(.int 4)]))) #[[.v (.tup [a,b,c,d,e]),.v (.int 4),.v (.str (d7 l)),.no],fs]=some (true,#[[.v (.tup [a,b,c,d,e]),.v (.int 4),.v (.str (d7 l)),.no],fs]):=x8 (c9 rfl rfl rfl);rw[i9 (s1:=#[[.v (.tup [a,b,c,d,e]),.v (.int 4),.v (.str (d7 l)),.v y],fs]) (u4 ((R8 i).trans (u9 rfl w)) rfl)];rfl
def jf (a b c d e:D) (x:Str) (k:Int) (J:k=1\/k=2\/k=3) (fs:vO_):V9 [.tup [a,b,c,d,e],.int k,.str x] fs=some (.tup (if k=1 then [a,.str x,c,d,e] else if k=2 then [a,b,.str x,d,e] else [a,b,c,.str x,e]),fs):=by
 refine p9 (s:=#[[.v (.tup [a,b,c,d,e]),.v (.int k),.v (.str x),.v (.str x)],fs]) ?_;show X8 O7 #[[.v (.tup [a,b,c,d,e]),.v (.int k),.v (.str x),.no],fs]=_;unfold X8;have i:dB (a6 U3 (dL 1) (dC (.tup [(.int 0),(.int 4)]))) #[[.v (.tup [a,b,c,d,e]),.v (.int k),.v (.str x),.no],fs]=some (false,#[[.v (.tup [a,b,c,d,e]),.v (.int k),.v (.str x),.no],fs]):=by
  rcases J with rfl | rfl | rfl <;> exact x8 (c9 rfl rfl rfl)
 rw[i9 (s1:=#[[.v (.tup [a,b,c,d,e]),.v (.int k),.v (.str x),.v (.str x)],fs]) (u4 ((W9 i).trans rfl) rfl)];rcases J with rfl | rfl | rfl <;> rfl
def vV {k b:Nat}{ps:vT_}(c:Bool) (h:∀p∈ps,PtS k p) (M:2*k<=b):Th b 2 (.tup (ps.map pt))/\Th b 3 (.tup [.bl c,.tup (ps.map pt)]):=by
 have h1:Th b 2 (.tup (ps.map pt)):=by
  unfold Th;exact Ths.of (fun d J=>by
   obtain⟨p,L,rfl⟩:=HW.mp J;exact Ac (h p L).ps ∅)
 refine#[h1,?_];unfold Th;simp only[Ths,and_true];exact#[by unfold Th;trivial,h1]
theorem nU:∀ps:List Pt,N6 (ps.map pt)=4*ps.length
 |[]=>rfl
 |p::r=>by
  rw[Hu,E8,nU r,Cw,Hv];omega
def Ad (c:Bool) (ps:vT_):bk (.tup [.bl c,.tup (ps.map pt)])=4*ps.length+2:=by
 rw[L9,E8,E8,cv,L9,nU,yt];omega
def Lw (c:Bool) (ps:vT_):D:=.tup [.bl c,.tup (ps.map pt)]
def wC (c:Bool):Str:=if c then "closed" else "open"
def wL (c:Bool):List Nat:=(wC c).cps.toList
def C8 (c:Bool) (ps:vT_):List Nat:=jn 32 (wL c::ps.map L6)
def qA (c:Bool):(wC c).length<=6:=by cases c <;> decide
theorem kU {fs:vO_}:∀ps:List Pt,(∀p∈ps,m [pt p] fs=some (.str (pT p),fs))->A9 (fun d=>some (.v d::[])) w6 (a9 m (a0 (dV 0) a7)) (ps.map pt) fs=some ((ps.map pT).map D.str,fs)
 |[],_=>rfl
 |p::ps,h=>by
  have e:a9 m (a0 (dV 0) a7) #[[.v (pt p)],fs]=some (.str (pT p),#[[.v (pt p)],fs]):=u9 rfl (h p (HD ..));have J:=kU ps fun q L=>h q (HB _ L)
  simp only[Hu];simp[A9,w6,e,J]
def qS {c:Bool}{ps:vT_}(h:∀p∈ps,PtS 190 p) (hl:ps.length<=9):O5 (.str " ") (.lst (D.str (wC c)::(ps.map pT).map D.str))=some (.str (d7 (C8 c ps))):=by
 refine(jc (c:=32) (l:=wC c::ps.map pT) (fun x J=>?_) (by rw[Hv,Hr];omega)).trans ?_
 .rcases xr.mp J with rfl | J
  .have:=qA c;omega
  .obtain⟨p,L,rfl⟩:=HW.mp J;have:=nI (h p L);omega
 .unfold C8;rw[Hu,IC];have:((fun x:Str=>x.cps.toList)∘pT)=L6:=funext my;rw[this];rfl
def sU (x:D) (ys:vD_) (h:ys.length<=9):aC (.lst [x]) (.lst ys)=some (x::ys):=fI (show 1+ys.length<=sizeLine from Ht (show _<=10 by omega) #[])
section
variable {c:Bool}{ps:vT_}(h:∀p∈ps,PtS 190 p) (hl:ps.length<=9) (fs:vO_)
include h hl
theorem rz:D9 (k0 0 1) #[[.v (Lw c ps)],fs]=some (ps.map pt,#[[.v (Lw c ps)],fs]):=rfl
abbrev bE:a8:=ux Y5
theorem GJ:bE [Lw c ps] fs=some (.str (d7 (C8 c ps)),fs):=by
 refine p9 (s:=#[[.v (Lw c ps)],fs]) ?_;show jR Y5 #[[.v (Lw c ps)],fs]=_;unfold jR;have J:=af (idx:=[]) (fc:=w6) (s1:=#[[.v (Lw c ps)],fs]) (rz h hl fs) (by rw[Hr];exact Ht hl #[]) (kU ps fun p L=>nM (h p L) fs);have w:j9 (j4 (k0 0 0)) (dC (.str "closed")) (dC (.str "open")) #[[.v (Lw c ps)],fs]=some (.str (wC c),#[[.v (Lw c ps)],fs]):=by
  cases c with
  |true=>exact(R8 (M4 (c9 (x:=Lw true ps) rfl rfl rfl))).trans rfl
  |false=>exact(W9 (M4 (c9 (x:=Lw false ps) rfl rfl rfl))).trans rfl
 refine u7 (c9 rfl (D4 (dI (D4 (gJ w)) (D4 J) (sU _ _ (by rw[Hr,Hr];exact hl)))) (qS h hl))
abbrev aG:a8:=mr V7
theorem xp:aG [Lw c ps] fs=some (.str (d7 (C8 c ps)),fs):=by
 refine p9 (s:=#[[.v (Lw c ps)],fs]) ?_;show kl V7 #[[.v (Lw c ps)],fs]=_;unfold kl;have J:=af (idx:=[]) (fc:=w6) (s1:=#[[.v (Lw c ps)],fs]) (rz h hl fs) (by rw[Hr];exact Ht hl #[]) (kU ps fun p L=>nq (h p L) fs);have w:a6 c7 (i5 (i6 (a0 (dC (.str "open")) (a0 (dC (.str "closed")) a7)))) (d8 (one iL) (a0 (k0 0 0) a7)) #[[.v (Lw c ps)],fs]=some (.str (wC c),#[[.v (Lw c ps)],fs]):=by
  refine c9 (x:=.lst [.str "open",.str "closed"]) (D4 (fP rfl rfl)) (y:=.int (if c then 1 else 0)) (C7 (x:=.bl c) (c9 (x:=Lw c ps) rfl rfl rfl) rfl) ?_;cases c <;> rfl
 refine u7 (c9 rfl (D4 (dI (D4 (gJ w)) (D4 J) (sU _ _ (by rw[Hr,Hr];exact hl)))) (qS h hl))
end
def V1 (q:Rat):Bool:=decide (q.num.natAbs<=9999)&&decide (q.den<=9999)
def lX (h:V1 q=true):Sh q:=by
 unfold V1 at h;rw[Hs] at h;exact#[HS h.1,HS h.2]
def cy (L:Sl) (a:Sl) (q:Rat) (fs:vO_):fg LX #[[L,a,.v (fr q)],fs]=if V1 q then some (.next,#[[L,a,.v (fr q)],fs]) else some (.ret (.bl false),#[[L,a,.v (fr q)],fs]):=by
 unfold fg V1;have J:dB (a6 (i8 (fun i j=>decide (j<i))) (d8 (one K6) (a0 (k0 2 0) a7)) (b0 9999)) #[[L,a,.v (fr q)],fs]=some (!decide (q.num.natAbs<=9999),#[[L,a,.v (fr q)],fs]):=by
  refine x8 (c9 (C7 (p:=K6) (x:=.int q.num) (c9 rfl rfl (w9 q)) rfl) rfl ?_);show some (D.bl (decide ((9999:Int)<(if q.num<0 then -q.num else q.num))))=_;rw[<-decide_not,HX.mpr];split <;> omega
 have M:dB (a6 (i8 (fun i j=>decide (j<i))) (k0 2 1) (b0 9999)) #[[L,a,.v (fr q)],fs]=some (!decide (q.den<=9999),#[[L,a,.v (fr q)],fs]):=by
  refine x8 (c9 (c9 rfl rfl (v8 q)) rfl ?_);show some (D.bl (decide ((9999:Int)<(q.den:Int))))=_;rw[<-decide_not,HX.mpr];omega
 by_cases h1:q.num.natAbs<=9999
 .rw[xl h1] at J ⊢;by_cases h2:q.den<=9999
  .rw[xl h2] at M ⊢;exact C3 (F2 J M)
  .rw[iU h2] at M ⊢;exact(C4 (F2 J M)).trans (u7 rfl)
 .rw[iU h1] at J ⊢;exact(C4 (Y4 J)).trans (u7 rfl)
def fN {t:D->DS->Option DS}{b:DM}{x:D}{r:vD_}{s:DS}(h1:t d s=some s1) (h2:b s1=some (.ret x,s2)):C5 t b (d::r) s=some (.ret x,s2):=by simp[C5,h1,h2]
def Z4 (p:Pt):Bool:=V1 p.1&&V1 p.2
abbrev aI:a8:=me LX
theorem sZ (L:Sl) (fs:vO_):∀(ps:vT_) (x y:Sl),(∀p∈ps,PtS 190 p)->∃x' y',C5 (d0 1) (dE LX) (ps.map pt) #[[L,x,y],fs]=some (if ps.all Z4 then .next else .ret (.bl false),#[[L,x',y'],fs])
 |[],x,y,_=>#[x,y,rfl]
 |p::ps,x,y,h=>by
  have Y:=h p (HD ..);have M:a9 LX (a0 (dV 1) a7) #[[L,.v (pt p),y],fs]=some (.tup [fr p.1,fr p.2],#[[L,.v (pt p),y],fs]):=u9 rfl (iG p fs Y.ps #[]);have J:∀r,C5 (d0 2) (fg LX) [fr p.1,fr p.2] #[[L,.v (pt p),y],fs]=r->dE LX #[[L,.v (pt p),y],fs]=r:=fun r e=>by
   unfold dE R0;rw[M];exact e
  rw[Hu,Jt];unfold Z4;by_cases h1:V1 p.1=true
  .by_cases h2:V1 p.2=true
   .obtain⟨x',y',W⟩:=sZ L fs ps (.v (pt p)) (.v (fr p.2)) fun q U=>h q (HB _ U)
    refine#[x',y',?_];rw[h1,h2];have b:=J (some (.next,#[[L,.v (pt p),.v (fr p.2)],fs])) (by
     rw[Q0 (s1:=#[[L,.v (pt p),.v (fr p.1)],fs]) rfl ((cy L _ p.1 fs).trans (fI h1)),Q0 (s1:=#[[L,.v (pt p),.v (fr p.2)],fs]) rfl ((cy L _ p.2 fs).trans (fI h2))];rfl)
    rw[Q0 (s1:=#[[L,.v (pt p),y],fs]) rfl b];exact W
   .have b:=J (some (.ret (.bl false),#[[L,.v (pt p),.v (fr p.2)],fs])) (by
     rw[Q0 (s1:=#[[L,.v (pt p),.v (fr p.1)],fs]) rfl ((cy L _ p.1 fs).trans (fI h1))];exact fN (s1:=#[[L,.v (pt p),.v (fr p.2)],fs]) rfl ((cy L _ p.2 fs).trans (gV h2)))
    rw[Lv] at h2;refine#[.v (pt p),.v (fr p.2),?_];rw[h1,h2];exact fN (s1:=#[[L,.v (pt p),y],fs]) rfl b
  .have b:=J (some (.ret (.bl false),#[[L,.v (pt p),.v (fr p.1)],fs])) (fN (s1:=#[[L,.v (pt p),.v (fr p.1)],fs]) rfl ((cy L _ p.1 fs).trans (gV h1)));rw[Lv] at h1;refine#[.v (pt p),.v (fr p.1),?_];rw[h1];exact fN (s1:=#[[L,.v (pt p),y],fs]) rfl b
def wM {c:Bool}{ps:vT_}(h:∀p∈ps,PtS 190 p) (fs:vO_):aI [Lw c ps] fs=some (.bl (ps.all Z4),fs):=by
 obtain⟨x,y,e⟩:=sZ (.v (Lw c ps)) fs ps .no .no h;refine p9 (s:=#[[.v (Lw c ps),x,y],fs]) ?_;show gx LX #[[.v (Lw c ps),.no,.no],fs]=_;unfold gx;have J:R0 (k0 0 1) (d0 1) (dE LX) #[[.v (Lw c ps),.no,.no],fs]=_:=e;by_cases a:ps.all Z4=true
 .rw[a] at J ⊢;rw[i9 J];exact u7 rfl
 .rw[Lv] at a;rw[a] at J ⊢;exact E2 J
def Wd (c:Bool) (ps:vT_):List D:=(wL c::ps.map L6).map fun p=>.str (d7 p)
def sA (c:Bool) (ps:vT_):(Wd c ps).length=ps.length+1:=by
 unfold Wd;rw[Hr,Hv,Hr]
def xI {c:Bool}{ps:vT_}{p:Pt}(h:ps[i]? = some p):c7 (.lst (Wd c ps)) (.int (1+(i:Int)))=some (.str (d7 (L6 p))):=by
 have hi:=(HQ.mp h).1;show n8 (Wd c ps) _=_;unfold n8;have:L8 (Wd c ps).length (1+(i:Int))=some (i+1):=by
  rw[sA];unfold L8;rw[fI ∅,fI ∅];congr 1;omega
 rw[this];show (Wd c ps)[i+1]? = _;unfold Wd;rw[Hu,KY,IC,Io,h];rfl
def rM {p:Pt}(h:PtS 190 p):(L6 p).length<=800:=by
 have:=nI h;rw[<-bQ,my] at this;exact this
def vi {b:Int}(J:0<=b) (h1:b<2 ^ 30):K4 [.int 1,.int b]=some (C1 1 (b - 1).toNat):=fI #[by decide,by decide,by omega,by omega]
abbrev kf:a8:=qz fZ
def xt {c:Bool}{ps:vT_}(h:∀p∈ps,Z4 p=true) (hz:∀p∈ps,PtS 190 p) (hl:ps.length<=9) (fs:vO_):kf [.lst (Wd c ps)] fs=some (.lst (ps.map pt),fs):=by
 obtain⟨s',W,L,J,rfl⟩:=dS (t:=d0 2) (b:=jZ fZ) (fun i s=>∃L J,s=#[[.v (.lst (Wd c ps)),.own ((ps.take i).map pt),L,J],fs]) (C1 1 ps.length) 0 #[[.v (.lst (Wd c ps)),.own [],.no,.no],fs]
  #[.no,.no,rfl] (by
   rintro i d s hd ⟨L,J,rfl⟩;obtain⟨rfl,hi⟩:=jO hd;rw[JO] at *;obtain⟨p,hp⟩:∃p,ps[i]? = some p:=#[_,Ia hi]
   have U:=Iv hp;have M:=h p U;unfold Z4 at M;rw[Hs] at M;refine#[#[[.v (.lst (Wd c ps)),.own ((ps.take i).map pt),.v (.int (1+(i:Int))),J],fs],#[[.v (.lst (Wd c ps)),.own ((ps.take i).map pt++[pt p]),.v (.int (1+(i:Int))),.v (pt p)],fs],rfl,.inl ?_,.v (.int (1+(i:Int))),.v (pt p),?_]
   .unfold jZ;have e:=Fn (L6 p) fs (by have:=rM (hz p U);have:=Z5;omega);rw[yd #[lX M.1,lX M.2]] at e;rw[i9 (s1:=#[[.v (.lst (Wd c ps)),.own ((ps.take i).map pt),.v (.int (1+(i:Int))),.v (pt p)],fs]) (u4 (u9 (l0 (c9 rfl rfl (xI hp)) rfl) e) rfl)];have q1:dB (a6 az (dL 3) (dC .non)) #[[.v (.lst (Wd c ps)),.own ((ps.take i).map pt),.v (.int (1+(i:Int))),.v (pt p)],fs]=some (false,#[[.v (.lst (Wd c ps)),.own ((ps.take i).map pt),.v (.int (1+(i:Int))),.v (pt p)],fs]):=x8 (c9 rfl rfl rfl);have Y:dB (a6 u6 (dL 2) (b0 10)) #[[.v (.lst (Wd c ps)),.own ((ps.take i).map pt),.v (.int (1+(i:Int))),.v (pt p)],fs]=some (false,#[[.v (.lst (Wd c ps)),.own ((ps.take i).map pt),.v (.int (1+(i:Int))),.v (pt p)],fs]):=by
     refine x8 (c9 rfl rfl ?_);rw[F9,iU ∅]
    rw[i9 (C3 (F2 q1 Y))];exact iX (s1:=#[[.v (.lst (Wd c ps)),.own ((ps.take i).map pt),.v (.int (1+(i:Int))),.v (pt p)],fs]) rfl rfl rfl (by rw[Hr,JW];have:=Z5;omega)
   .have:ps.take (i+1)=ps.take i++[p]:=by
     rw[List.take_succ,hp];rfl
    rw[this,Kr];rfl)
 rw[JO,Z2,Lc] at W;refine p9 (s:=#[[.v (.lst (Wd c ps)),.v (.lst (ps.map pt)),L,J],fs]) ?_;show eM fZ #[[.v (.lst (Wd c ps)),.no,.no,.no],fs]=_;unfold eM;rw[i9 (s1:=#[[.v (.lst (Wd c ps)),.own [],.no,.no],fs]) (gN (s1:=#[[.v (.lst (Wd c ps)),.no,.no,.no],fs]) rfl (show 1<4 by decide))];have Z:K4 [.int 1,.int ((ps.length+1:Nat):Int)]=some (C1 1 ps.length):=by
  rw[vi ∅ ∅];congr 2;omega
 have ar:(a0 (b0 1) (a0 (d8 (one j5) (a0 (dL 0) a7)) a7)) #[[.v (.lst (Wd c ps)),.own [],.no,.no],fs]=some ([.int 1,.int ((ps.length+1:Nat):Int)],#[[.v (.lst (Wd c ps)),.own [],.no,.no],fs]):=by
  refine l0 rfl (l0 (C7 (x:=.lst (Wd c ps)) rfl ?_) rfl);show some (D.int ((Wd c ps).length:Nat))=_;rw[sA]
 rw[i9 ((eL ar Z).trans W)];exact u7 rfl
theorem kG {c B:Nat}:∀ps:List (List Nat),(∀p∈ps,p.length<=B)->(jn c ps).length<=ps.length*(B+1)
 |[],_=>HV _
 |[a],h=>by have:=h a (HD ..);show a.length<=_;rw[JY];omega
 |a::b::r,h=>by
  have h1:=h a (HD ..);have h2:=kG (c:=c) (b::r) fun p J=>h p (HB _ J)
  rw[jn,Iw,Hv,Hv,Nat.succ_mul];omega
def Et {c:Bool}{ps:vT_}(hz:∀p∈ps,PtS 190 p) (hl:ps.length<=9):M5 (.str (d7 (C8 c ps))) (.str " ")=some (.lst (Wd c ps)):=by
 have b:(C8 c ps).length<=(wL c::ps.map L6).length*801:=kG _ fun p J=>by
  rcases xr.mp J with rfl | J
  .have:=qA c;rw[<-bQ] at this;unfold wL;omega
  .obtain⟨q,L,rfl⟩:=HW.mp J;exact rM (hz q L)
 rw[Hv,Hr] at b;refine(dU (c:=32) (by have:=Z5;omega)).trans ?_;unfold C8 Wd;rw[eP 32 _ (by simp) fun p J=>?_];rcases xr.mp J with rfl | J
 .cases c <;> decide +kernel
 .obtain⟨q,L,rfl⟩:=HW.mp J;exact AR q
abbrev bp:a8:=ow Q8 kf
def wk {c:Bool}{ps:vT_}(h:∀p∈ps,Z4 p=true) (hz:∀p∈ps,PtS 190 p) (hl:ps.length<=9) (h2:lo c<=ps.length) (fs:vO_) (il:Q8 [Lw c ps] fs=some (.bl true,fs)):bp [.str (d7 (C8 c ps))] fs=some (Lw c ps,fs):=by
 refine p9 (s:=#[[.v (.str (d7 (C8 c ps))),.v (.lst (Wd c ps)),.v (.bl c),.v (.lst (ps.map pt)),.v (Lw c ps)],fs]) ?_;show lL Q8 kf #[[.v (.str (d7 (C8 c ps))),.no,.no,.no,.no],fs]=_;unfold lL;have J:c7 (.lst (Wd c ps)) (.int 0)=some (.str (wC c)):=by
  show n8 (Wd c ps) 0=_;unfold Wd;rw[Hu,dP];unfold wL;rw[gh]
 have n1:o9 (.str (wC c)) (.str "open")=some (.bl c):=by
  rw[de];congr 2;cases c <;> decide +kernel
 have n2:o9 (.str (wC c)) (.str "closed")=some (.bl !c):=by
  rw[de];congr 2;cases c <;> decide +kernel
 have M:u6 (.str (wC c)) (.str "closed")=some (.bl c):=by
  rw[jW];congr 2;cases c <;> decide +kernel
 rw[i9 (s1:=#[[.v (.str (d7 (C8 c ps))),.v (.lst (Wd c ps)),.no,.no,.no],fs]) (u4 (c9 rfl rfl (Et hz hl)) rfl)];have U:l4 (dB (a6 o9 (k0 1 0) (dC (.str "open")))) (dB (a6 o9 (k0 1 0) (dC (.str "closed")))) #[[.v (.str (d7 (C8 c ps))),.v (.lst (Wd c ps)),.no,.no,.no],fs]=some (false,#[[.v (.str (d7 (C8 c ps))),.v (.lst (Wd c ps)),.no,.no,.no],fs]):=by
  have L:dB (a6 o9 (k0 1 0) (dC (.str "open"))) #[[.v (.str (d7 (C8 c ps))),.v (.lst (Wd c ps)),.no,.no,.no],fs]=some (c,#[[.v (.str (d7 (C8 c ps))),.v (.lst (Wd c ps)),.no,.no,.no],fs]):=x8 (c9 (c9 rfl rfl J) rfl n1);have q2:dB (a6 o9 (k0 1 0) (dC (.str "closed"))) #[[.v (.str (d7 (C8 c ps))),.v (.lst (Wd c ps)),.no,.no,.no],fs]=some (!c,#[[.v (.str (d7 (C8 c ps))),.v (.lst (Wd c ps)),.no,.no,.no],fs]):=x8 (c9 (c9 rfl rfl J) rfl n2);cases c with
  |false=>exact ez L
  |true=>exact iw L q2
 rw[i9 (C3 U),i9 (s1:=#[[.v (.str (d7 (C8 c ps))),.v (.lst (Wd c ps)),.v (.bl c),.no,.no],fs]) (u4 (c9 (c9 rfl rfl J) rfl M) rfl),
  i9 (s1:=#[[.v (.str (d7 (C8 c ps))),.v (.lst (Wd c ps)),.v (.bl c),.v (.lst (ps.map pt)),.no],fs]) (u4 (u9 rfl (xt h hz hl fs)) rfl)]
 have Y:dB (a6 (i8 (fun i j=>decide (i<j))) (d8 (one j5) (a0 (dL 3) a7)) (j9 (j4 (dL 2)) (b0 3) (b0 2))) #[[.v (.str (d7 (C8 c ps))),.v (.lst (Wd c ps)),.v (.bl c),.v (.lst (ps.map pt)),.no],fs]=some (false,#[[.v (.str (d7 (C8 c ps))),.v (.lst (Wd c ps)),.v (.bl c),.v (.lst (ps.map pt)),.no],fs]):=by
  have Z:j9 (j4 (dL 2)) (b0 3) (b0 2) #[[.v (.str (d7 (C8 c ps))),.v (.lst (Wd c ps)),.v (.bl c),.v (.lst (ps.map pt)),.no],fs]=some (.int (lo c:Nat),#[[.v (.str (d7 (C8 c ps))),.v (.lst (Wd c ps)),.v (.bl c),.v (.lst (ps.map pt)),.no],fs]):=by
   cases c with
   |true=>exact(R8 (M4 rfl)).trans rfl
   |false=>exact(W9 (M4 rfl)).trans rfl
  refine x8 (c9 (x:=.int (ps.length:Nat)) (C7 (x:=.lst (ps.map pt)) rfl ?_) Z ?_)
  .show some (D.int ((ps.map pt).length:Nat))=_;rw[Hr]
  .show some (D.bl (decide ((ps.length:Int)<((lo c:Nat):Int))))=_;rw[iU ∅]
 rw[i9 (C3 Y),i9 (s1:=#[[.v (.str (d7 (C8 c ps))),.v (.lst (Wd c ps)),.v (.bl c),.v (.lst (ps.map pt)),.v (Lw c ps)],fs]) (u4 (Y1 rfl (C7 (p:=K8) (x:=.lst (ps.map pt)) rfl rfl)) rfl)];have W:k6 (j4 (a9 Q8 (a0 (dV 4) a7))) #[[.v (.str (d7 (C8 c ps))),.v (.lst (Wd c ps)),.v (.bl c),.v (.lst (ps.map pt)),.v (Lw c ps)],fs]=some (false,#[[.v (.str (d7 (C8 c ps))),.v (.lst (Wd c ps)),.v (.bl c),.v (.lst (ps.map pt)),.v (Lw c ps)],fs]):=V4 (M4 (u9 rfl il));rw[i9 (C3 W)];exact u7 rfl
def GX {h m:Rat}{s e j:Str}(R:RuG h m s e j):M5 (.str (d7 (L3 h m s e j))) (.str " ")=some (.lst ((C6 h m s e j).map D.str)):=by
 have b:(L3 h m s e j).length<=((C6 h m s e j).map fun x=>x.cps.toList).length*401:=kG _ fun p L=>by
  obtain⟨x,J,rfl⟩:=HW.mp L;rw[bQ];exact sD R x J
 have M:((C6 h m s e j).map fun x=>x.cps.toList).length=6:=rfl;rw[M] at b;refine(dU (c:=32) (by have:=Z5;omega)).trans ?_;unfold L3;rw[eP 32 _ (by simp[C6]) fun p L=>?_]
 .rw[IC];rfl
 .obtain⟨x,J,rfl⟩:=HW.mp L;unfold C6 at J;simp only[xr,HM,HN] at J;rcases J with rfl | rfl | rfl | rfl | rfl | rfl
  .decide +kernel
  .rw[Y2];exact bD #[] #[] #[] _
  .exact R.ws.n
  .exact R.we.n
  .exact R.wj.n
  .rw[Y2];exact bD #[] #[] #[] _
def G9:D:=.tup [.int 1,.int 1]
def cP {h m:Rat}{s e j:Str}(R:RuG h m s e j) (fs:vO_):Y9 [B0 (fr h) s e j (fr m)] fs=some (.bl true,fs):=by
 have t:Th 14 2 (B0 (fr h) s e j (fr m)):=by
  have h1:=R.hs.sz;have h2:=R.ms.sz;simp only[B0,fr,Th,Ths];exact#[#[h1.num,h1.den,trivial],R.ws.a,R.we.a,R.wj.a,#[h2.num,h2.den,trivial],trivial]
 have b:bk (B0 (fr h) s e j (fr m))<=1000000:=by
  have L:=R.ws.l;have W:=R.we.l;have U:=R.wj.l;have J:bk (fr h)=2:=rfl;have M:bk (fr m)=2:=rfl;unfold B0;rw[L9,E8,E8,E8,E8,E8,cv,aV,aV,aV];omega
 refine(yQ _ fs t #[] #[] b).trans ?_;have g:K0 (B0 (fr h) s e j (fr m))=true:=by
  show (B9 (fr h)&&(B9 (fr m)&&(E7 (.str s) "both" "left" "right" && (E7 (.str e) "cut" "square" "round" && (E7 (.str j) "cut" "pointed" "round" && (decide (0<h.num)&&decide ((m.den:Int)<=m.num)))))))=true;rw[iB,iB,R.s3,R.e3,R.j3,xl R.hp,xl R.mg];rfl
 rw[g]
def eK:Sh 1:=#[by decide,by decide]
section
variable {h m:Rat}{s e j:Str}(R:RuG h m s e j) (fs:vO_)
include R
theorem RuG.g1:RuG h 1 "both" "cut" "cut" := #[R.hs,R.hp,eK,by decide,by decide +kernel,by decide +kernel,by decide +kernel]
theorem RuG.g2:RuG h 1 s "cut" "cut" := #[R.hs,R.hp,eK,by decide,R.s3,by decide +kernel,by decide +kernel]
theorem RuG.g3:RuG h 1 s e "cut" := #[R.hs,R.hp,eK,by decide,R.s3,R.e3,by decide +kernel]
theorem RuG.g4:RuG h 1 s e j:=#[R.hs,R.hp,eK,by decide,R.s3,R.e3,R.j3]
end
def cZ {W:vD_}{a b w:D}{k k1:Int}{fs:vO_}(J:k - 1=k1) (L:n8 W k=some w) (e:V9 [a,.int k1,w] fs=some (b,fs)) (g:Y9 [b] fs=some (.bl true,fs)) :
  dZ Y9 V9 #[[T,.v (.lst W),.v a,.v (.int k)],fs]=some (.next,#[[T,.v (.lst W),.v b,.v (.int k)],fs]):=by
 unfold dZ;rw[i9 (s1:=#[[T,.v (.lst W),.v b,.v (.int k)],fs]) (u4 (u9 (l0 rfl (l0 (c9 (x:=.int k) rfl rfl (show l7 (.int k) (.int 1)=some (.int k1) by rw[<-J];rfl)) (l0 (c9 (x:=.lst W) rfl rfl L) rfl))) e) rfl)];exact C3 (V4 (M4 (u9 rfl g)))
abbrev bF:a8:=oi Y9 V9
def GD {h m:Rat}{s e j:Str}(R:RuG h m s e j) (fs:vO_):bF [.str (d7 (L3 h m s e j))] fs=some (B0 (fr h) s e j (fr m),fs):=by
 have l1:(fL h).length+2<=sizeLine:=by
  have:=Q3 (R.hs.sz.mono (show 14<=190 by decide));rw[<-bQ,Y2] at this;have:=Z5;omega
 have l2:(fL m).length+2<=sizeLine:=by
  have:=Q3 (R.ms.sz.mono (show 14<=190 by decide));rw[<-bQ,Y2] at this;have:=Z5;omega
 have Z:D.str (fT h) = .str (d7 (fL h)):=by rw[<-Y2,gh]
 have t2:D.str (fT m) = .str (d7 (fL m)):=by rw[<-Y2,gh]
 have J:=xE G9 (.str "both") (.str "cut") (.str "cut") G9 l1 fs;rw[ip R.hs,<-Z] at J;have U:=jf (fr h) (.str "both") (.str "cut") (.str "cut") G9 s 1 (.inl rfl) fs;have w3:=jf (fr h) (.str s) (.str "cut") (.str "cut") G9 e 2 (.inr (.inl rfl)) fs;have W:=jf (fr h) (.str s) (.str e) (.str "cut") G9 j 3 (.inr (.inr rfl)) fs;have L:=Be (fr h) (.str s) (.str e) (.str j) G9 l2 fs;rw[ip R.ms,<-t2] at L;refine p9 (s:=#[[.v (.str (d7 (L3 h m s e j))),.v (.lst ((C6 h m s e j).map D.str)),.v (B0 (fr h) s e j (fr m)),.v (.int 5)],fs]) ?_;show kO Y9 V9 #[[.v (.str (d7 (L3 h m s e j))),.no,.no,.no],fs]=_;unfold kO;have sp:=GX R;generalize D.str (d7 (L3 h m s e j))=TX at *;rw[i9 (s1:=#[[.v TX,.v (.lst ((C6 h m s e j).map D.str)),.no,.no],fs]) (u4 (c9 rfl rfl sp) rfl)];have M:dB (a6 o9 (k0 1 0) (dC (.str "wide"))) #[[.v TX,.v (.lst ((C6 h m s e j).map D.str)),.no,.no],fs]=some (false,#[[.v TX,.v (.lst ((C6 h m s e j).map D.str)),.no,.no],fs]):=by
  refine x8 (c9 (x:=.str "wide") (c9 rfl rfl rfl) rfl ?_);rw[de,xl rfl];rfl
 rw[i9 (C3 M),i9 (s1:=#[[.v TX,.v (.lst ((C6 h m s e j).map D.str)),.v (B0 G9 "both" "cut" "cut" G9),.no],fs]) (u4 rfl rfl)];have Y:K4 [.int 1,.int 6]=some [.int 1,.int 2,.int 3,.int 4,.int 5]:=rfl;have lp:C5 (d0 3) (dZ Y9 V9) [.int 1,.int 2,.int 3,.int 4,.int 5] #[[.v TX,.v (.lst ((C6 h m s e j).map D.str)),.v (B0 G9 "both" "cut" "cut" G9),.no],fs]=some (.next,#[[.v TX,.v (.lst ((C6 h m s e j).map D.str)),.v (B0 (fr h) s e j (fr m)),.v (.int 5)],fs]):=by
  rw[Q0 (s1:=#[[.v TX,.v (.lst ((C6 h m s e j).map D.str)),.v (B0 G9 "both" "cut" "cut" G9),.v (.int 1)],fs]) rfl (cZ (k1:=0) rfl rfl J (cP R.g1 fs)),
   Q0 (s1:=#[[.v TX,.v (.lst ((C6 h m s e j).map D.str)),.v (B0 (fr h) "both" "cut" "cut" G9),.v (.int 2)],fs]) rfl (cZ (k1:=1) rfl rfl U (cP R.g2 fs)),
   Q0 (s1:=#[[.v TX,.v (.lst ((C6 h m s e j).map D.str)),.v (B0 (fr h) s "cut" "cut" G9),.v (.int 3)],fs]) rfl (cZ (k1:=2) rfl rfl w3 (cP R.g3 fs)),
   Q0 (s1:=#[[.v TX,.v (.lst ((C6 h m s e j).map D.str)),.v (B0 (fr h) s e "cut" G9),.v (.int 4)],fs]) rfl (cZ (k1:=3) rfl rfl W (cP R.g4 fs)),
   Q0 (s1:=#[[.v TX,.v (.lst ((C6 h m s e j).map D.str)),.v (B0 (fr h) s e j G9),.v (.int 5)],fs]) rfl (cZ (k1:=4) rfl rfl L (cP R fs))]
  rfl
 rw[i9 ((eL (xs:=[.int 1,.int 6]) rfl Y).trans lp)];have c2:dB (a6 (i8 (fun i j=>decide (i<=j))) (d8 (one j5) (a0 (dL 1) a7)) (d8 (one j5) (a0 (dL 2) a7))) #[[.v TX,.v (.lst ((C6 h m s e j).map D.str)),.v (B0 (fr h) s e j (fr m)),.v (.int 5)],fs]=some (false,#[[.v TX,.v (.lst ((C6 h m s e j).map D.str)),.v (B0 (fr h) s e j (fr m)),.v (.int 5)],fs]):=rfl;rw[i9 (C3 c2)];exact u7 rfl
abbrev gj:a8:=sH C2 LF
def zY (hf:Fd n f) (hn:n<2 ^ 28):∃h s e j m f',gj [.feed] (some f)=some (B0 (fr h) s e j (fr m),some f')/\RuG h m s e j/\Fd (n+6) f':=by
 obtain⟨L,f1,e1,a1,a2,h1⟩:=D2 7 hf;obtain⟨Z,f2,e2,b1,b2,h2⟩:=D2 4 h1;obtain⟨W,f3,e3,c1,c2,h3⟩:=D2 4 h2;obtain⟨r4,f4,e4,d1,d2,h4⟩:=D2 3 h3;obtain⟨Y,f5,e5,g1,g2,h5⟩:=D2 4 h4;obtain⟨U,f6,e6,i1,i2,h6⟩:=D2 5 h5;obtain⟨t,ht,t1,t2⟩:∃t:Int,n8 [D.int 1,D.int 1,D.int 1,D.int 5,D.int 2,D.int 3,D.int 13] L=some (.int t)/\1<=t/\t<=13:=by
  have:L=0\/L=1\/L=2\/L=3\/L=4\/L=5\/L=6:=by omega
  rcases this with rfl | rfl | rfl | rfl | rfl | rfl | rfl <;> exact#[_,rfl,by decide,by decide]
 obtain⟨u,hm,m1,m2⟩:∃m:Int,n8 [D.int 1,D.int 2,D.int 5,D.int 4] Z=some (.int m)/\1<=m/\m<=5:=by
  have:Z=0\/Z=1\/Z=2\/Z=3:=by omega
  rcases this with rfl | rfl | rfl | rfl <;> exact#[_,rfl,by decide,by decide]
 obtain⟨s,hs,s3⟩:∃s:Str,n8 [D.str "both",D.str "both",D.str "left",D.str "right"] W=some (.str s)/\E7 (.str s) "both" "left" "right" = true:=by
  have:W=0\/W=1\/W=2\/W=3:=by omega
  rcases this with rfl | rfl | rfl | rfl <;> exact#[_,rfl,by decide +kernel]
 obtain⟨e,he,ee3⟩:∃s:Str,n8 [D.str "cut",D.str "square",D.str "round"] r4=some (.str s)/\E7 (.str s) "cut" "square" "round" = true:=by
  have:r4=0\/r4=1\/r4=2:=by omega
  rcases this with rfl | rfl | rfl <;> exact#[_,rfl,by decide +kernel]
 obtain⟨j,hj,j3⟩:∃s:Str,n8 [D.str "cut",D.str "pointed",D.str "pointed",D.str "round"] Y=some (.str s)/\E7 (.str s) "cut" "pointed" "round" = true:=by
  have:Y=0\/Y=1\/Y=2\/Y=3:=by omega
  rcases this with rfl | rfl | rfl | rfl <;> exact#[_,rfl,by decide +kernel]
 obtain⟨q,hq,sq,gq⟩:∃q:Rat,n8 [D.tup [.int 1,.int 1],D.tup [.int 2,.int 1],D.tup [.int 4,.int 1],D.tup [.int 3,.int 2],D.tup [.int 20,.int 1]] U=some (fr q)/\Sh q/\(q.den:Int)<=q.num:=by
  have fl:∀a b:Int,(Rat.divInt a b).num=a->((Rat.divInt a b).den:Int)=b->D.tup [.int a,.int b]=fr (Rat.divInt a b):=fun a b h1 h2=>by unfold fr;rw[h1,h2]
  have:U=0\/U=1\/U=2\/U=3\/U=4:=by omega
  rcases this with rfl | rfl | rfl | rfl | rfl
  .exact#[Rat.divInt 1 1,congrArg some (fl 1 1 (by decide +kernel) (by decide +kernel)),#[by decide +kernel,by decide +kernel],by decide +kernel]
  .exact#[Rat.divInt 2 1,congrArg some (fl 2 1 (by decide +kernel) (by decide +kernel)),#[by decide +kernel,by decide +kernel],by decide +kernel]
  .exact#[Rat.divInt 4 1,congrArg some (fl 4 1 (by decide +kernel) (by decide +kernel)),#[by decide +kernel,by decide +kernel],by decide +kernel]
  .exact#[Rat.divInt 3 2,congrArg some (fl 3 2 (by decide +kernel) (by decide +kernel)),#[by decide +kernel,by decide +kernel],by decide +kernel]
  .exact#[Rat.divInt 20 1,congrArg some (fl 20 1 (by decide +kernel) (by decide +kernel)),#[by decide +kernel,by decide +kernel],by decide +kernel]
 have bt:Bd 4 t:=Y6 ∅;have bm:Bd 4 u:=Y6 ∅;have lf:=N8 t u (some f2) ∅ bm #[];have hsz:Sh (Rat.divInt t u):=by
  have:=fu (a:=t) (b:=u) ∅;exact#[by omega,by omega]
 have hp:0<(Rat.divInt t u).num:=by
  rw[sr ∅];have g0:0<Int.gcd t u:=Ky t ∅;exact Int.ediv_pos_of_pos_of_dvd ∅ ∅ (Kz ..)
 generalize Rat.divInt t u=h at *;refine#[h,s,e,j,q,f6,p9 (s:=#[[.v .feed,.v (fr h),.v (.str s),.v (.str e),.v (.str j)],some f6]) ?_,#[hsz,hp,sq,gq,s3,ee3,j3],h6];show ic C2 LF #[[.v .feed,.no,.no,.no,.no],some f]=_;unfold B0;generalize D.str s=S at *;generalize D.str e=EE at *;generalize D.str j=J at *;generalize fr q=M at *;have q2:(2:Nat)<=sizeLine:=by decide
 have q3:(3:Nat)<=sizeLine:=by decide
 have q4:(4:Nat)<=sizeLine:=by decide
 have q5:(5:Nat)<=sizeLine:=by decide
 have q7:(7:Nat)<=sizeLine:=by decide
 simp![ic,y9,v7,w9,v8,y8,A0,y0,q2,q3,q4,q5,q7,e1,ht,e2,hm,lf,e3,hs,e4,he,e5,hj,e6,hq]
def Fq :∀(m:Nat) (lo:Nat) {f:FS},Fd n f->n+8*m<2 ^ 27->∀us:List D,us.length=m->∃(ps:vT_) (f':FS),A9 (fun d=>some (.v d::[.v .feed])) w6 (a9 G7 (a0 (dV 1) a7)) us (some f)=some (ps.map pt,some f')/\ps.length=m/\(∀p∈ps,PtS 5 p)/\Fd (n+8*m) f':=by
 intro m;induction m generalizing n with
 |zero=>
  intro lo f h U us J;have:us=[]:=JG J;subst this;exact#[[],f,rfl,rfl,fun p L=>(by cases L),h.mono ∅]
 |succ m Y=>
  intro lo f h U us J
  match us,J with
  |d::r,J=>
   obtain⟨a,f1,M,s1,h1⟩:=ki h ∅;obtain⟨ps,f2,Z,l2,s2,h2⟩:=Y (n:=n+8) lo h1 ∅ r (by simpa using J);refine#[a::ps,f2,?_,by simp[l2],fun p L=>?_,h2.mono ∅]
   .have W:a9 G7 (a0 (dV 1) a7) #[[.v d,.v .feed],some f]=some (pt a,#[[.v d,.v .feed],some f1]):=F6 rfl M;rw[A9,Hq,show w6 #[[.v d,.v .feed],some f]=some (true,#[[.v d,.v .feed],some f]) from rfl,Hq,fI rfl,W,Hq,Z];rfl
   .rcases xr.mp L with z | z
    .subst z;exact s1
    .exact s2 p z
def bV (w:Str):o9 (.str w) (.str w)=some (.bl false):=by rw[de];simp
def BJ {il rl sh lt llt rr lrt plt lpt rt ft lnt:a8}{L R Q P0:D}{Z Y tP W a b c:Str}(fs:vO_) (J M x2 x6 U:Sl)
  (h1:ft [Q] fs=some (.str Z,fs)) (h2:lnt [Q] fs=some (.str Z,fs)) (h3:rt [R] fs=some (.str Y,fs)) (h4:lrt [R] fs=some (.str Y,fs)) (h5:plt [P0] fs=some (.str tP,fs)) (h6:lpt [P0] fs=some (.str tP,fs))
  (h7:rr [.str Y] fs=some (R,fs)) (h8:il [L] fs=some (.bl isl,fs)) (h9:lt [L] fs=some (.str W,fs)) (h10:llt [L] fs=some (.str W,fs)) (h11:sh [L] fs=some (.bl shb,fs)) (h12:isl=true->shb=true->rl [.str W] fs=some (L,fs))
  (r1:B5 (.tup [L,R])=some (.str a)) (r2:B5 R=some (.str b)) (r3:B5 L=some (.str c)) (n1:o9 (.lst [.str Z,.str Y]) (.lst [.str Z,.str Y])=some (.bl false)) (x:D) (i1:c7 L (.int 1)=some x) (i2:c7 x (.int 0)=some P0) :
  ∃y7,(c8 (d5 (d8 (one B5) (a0 (d9 (a0 (dV 3) (a0 (dV 4) a7))) a7)) (d0 6)) (c8 (e8 (dB (a6 o9 (i5 (i6 (a0 (a9 ft (a0 (dV 5) a7)) (a0 (a9 rt (a0 (dV 4) a7)) a7)))) (i5 (i6 (a0 (a9 lnt (a0 (dV 5) a7)) (a0 (a9 lrt (a0 (dV 4) a7)) a7)))))) (d6 (dC (.bl false))) f9) (c8 (e8 (dB (a6 o9 (a9 plt (a0 (a6 c7 (k0 3 1) (b0 0)) a7)) (a9 lpt (a0 (a6 c7 (k0 3 1) (b0 0)) a7)))) (d6 (dC (.bl false))) f9) (c8 (e8 (dB (a6 o9 (d8 (one B5) (a0 (a9 rr (a0 (a9 lrt (a0 (dV 4) a7)) a7)) a7)) (d8 (one B5) (a0 (dL 4) a7)))) (d6 (dC (.bl false))) f9) (e8 (j4 (a9 il (a0 (dV 3) a7))) (c8 (d5 (a9 llt (a0 (dV 3) a7)) (d0 7)) (c8 (e8 (j7 (dB (a6 o9 (a9 lt (a0 (dV 3) a7)) (dL 7))) (dB (a6 o9 (d8 (one B5) (a0 (d9 (a0 (dV 3) (a0 (dV 4) a7))) a7)) (dL 6)))) (d6 (dC (.bl false))) f9) (e8 (l4 (j4 (a9 sh (a0 (dV 3) a7))) (dB (a6 o9 (d8 (one B5) (a0 (a9 rl (a0 (dV 7) a7)) a7)) (d8 (one B5) (a0 (dL 3) a7))))) (d6 (dC (.bl false))) f9))) f9)))))
   #[[J,M,x2,.v L,.v R,.v Q,x6,U],fs]=some (.next,#[[J,M,x2,.v L,.v R,.v Q,.v (.str a),y7],fs]):=by
 have kp:∀y6 y7,d8 (one B5) (a0 (d9 (a0 (dV 3) (a0 (dV 4) a7))) a7) #[[J,M,x2,.v L,.v R,.v Q,y6,y7],fs]=some (.str a,#[[J,M,x2,.v L,.v R,.v Q,y6,y7],fs]):=fun y6 y7=>C7 (Y1 rfl rfl) r1
 have c1:dB (a6 o9 (i5 (i6 (a0 (a9 ft (a0 (dV 5) a7)) (a0 (a9 rt (a0 (dV 4) a7)) a7)))) (i5 (i6 (a0 (a9 lnt (a0 (dV 5) a7)) (a0 (a9 lrt (a0 (dV 4) a7)) a7))))) #[[J,M,x2,.v L,.v R,.v Q,.v (.str a),U],fs]=some (false,#[[J,M,x2,.v L,.v R,.v Q,.v (.str a),U],fs]):=
  x8 (c9 (D4 (fP (u9 rfl h1) (u9 rfl h3))) (D4 (fP (u9 rfl h2) (u9 rfl h4))) n1)
 have ix:a6 c7 (k0 3 1) (b0 0) #[[J,M,x2,.v L,.v R,.v Q,.v (.str a),U],fs]=some (P0,#[[J,M,x2,.v L,.v R,.v Q,.v (.str a),U],fs]):=c9 (c9 rfl rfl i1) rfl i2;have c2:dB (a6 o9 (a9 plt (a0 (a6 c7 (k0 3 1) (b0 0)) a7)) (a9 lpt (a0 (a6 c7 (k0 3 1) (b0 0)) a7))) #[[J,M,x2,.v L,.v R,.v Q,.v (.str a),U],fs]=some (false,#[[J,M,x2,.v L,.v R,.v Q,.v (.str a),U],fs]):=
  x8 (c9 (u9 (l0 ix rfl) h5) (u9 (l0 ix rfl) h6) (bV tP))
 have c3:dB (a6 o9 (d8 (one B5) (a0 (a9 rr (a0 (a9 lrt (a0 (dV 4) a7)) a7)) a7)) (d8 (one B5) (a0 (dL 4) a7))) #[[J,M,x2,.v L,.v R,.v Q,.v (.str a),U],fs]=some (false,#[[J,M,x2,.v L,.v R,.v Q,.v (.str a),U],fs]):=
  x8 (c9 (C7 (u9 (l0 (u9 rfl h4) rfl) h7) r2) (C7 rfl r2) (bV b))
 rw[i9 (s1:=#[[J,M,x2,.v L,.v R,.v Q,.v (.str a),U],fs]) (u4 (kp _ _) rfl),i9 (C3 c1),i9 (C3 c2),i9 (C3 c3)];have ci:j4 (a9 il (a0 (dV 3) a7)) #[[J,M,x2,.v L,.v R,.v Q,.v (.str a),U],fs]=some (isl,#[[J,M,x2,.v L,.v R,.v Q,.v (.str a),U],fs]):=M4 (u9 rfl h8);cases isl with
 |false=>exact#[U,C3 ci]
 |true=>
  refine#[.v (.str W),(C4 ci).trans ?_];rw[i9 (s1:=#[[J,M,x2,.v L,.v R,.v Q,.v (.str a),.v (.str W)],fs]) (u4 (u9 rfl h10) rfl)];have c4:dB (a6 o9 (a9 lt (a0 (dV 3) a7)) (dL 7)) #[[J,M,x2,.v L,.v R,.v Q,.v (.str a),.v (.str W)],fs]=some (false,#[[J,M,x2,.v L,.v R,.v Q,.v (.str a),.v (.str W)],fs]):=x8 (c9 (u9 rfl h9) rfl (bV W));have c5:dB (a6 o9 (d8 (one B5) (a0 (d9 (a0 (dV 3) (a0 (dV 4) a7))) a7)) (dL 6)) #[[J,M,x2,.v L,.v R,.v Q,.v (.str a),.v (.str W)],fs]=some (false,#[[J,M,x2,.v L,.v R,.v Q,.v (.str a),.v (.str W)],fs]):=x8 (c9 (kp _ _) rfl (bV a));rw[i9 (C3 (F2 c4 c5))];have c6:j4 (a9 sh (a0 (dV 3) a7)) #[[J,M,x2,.v L,.v R,.v Q,.v (.str a),.v (.str W)],fs]=some (shb,#[[J,M,x2,.v L,.v R,.v Q,.v (.str a),.v (.str W)],fs]):=M4 (u9 rfl h11);cases shb with
  |false=>exact C3 (ez c6)
  |true=>exact C3 (iw c6 (x8 (c9 (C7 (u9 rfl (h12 rfl rfl)) r3) (C7 rfl r3) (bV c))))
abbrev sE:DM:=gm Q8 bp aI bE aG bF ag Y5 V7 bC Q2 L7 LN gj C2 G7 aZ bI
def xn {c:Bool}{ps:vT_}{h m:Rat}{s e j:Str}(hz:∀p∈ps,PtS 190 p) (hl:ps.length<=9) (h2:lo c<=ps.length) (R:RuG h m s e j) (hq:Sz 5 q) (fs:vO_) (U x1 x2 x6 x7:Sl) :
  ∃y6 y7,(c8 (d5 (d8 (one B5) (a0 (d9 (a0 (dV 3) (a0 (dV 4) a7))) a7)) (d0 6)) (c8 (e8 (dB (a6 o9 (i5 (i6 (a0 (a9 Q2 (a0 (dV 5) a7)) (a0 (a9 bC (a0 (dV 4) a7)) a7)))) (i5 (i6 (a0 (a9 L7 (a0 (dV 5) a7)) (a0 (a9 ag (a0 (dV 4) a7)) a7)))))) (d6 (dC (.bl false))) f9) (c8 (e8 (dB (a6 o9 (a9 Y5 (a0 (a6 c7 (k0 3 1) (b0 0)) a7)) (a9 V7 (a0 (a6 c7 (k0 3 1) (b0 0)) a7)))) (d6 (dC (.bl false))) f9) (c8 (e8 (dB (a6 o9 (d8 (one B5) (a0 (a9 bF (a0 (a9 ag (a0 (dV 4) a7)) a7)) a7)) (d8 (one B5) (a0 (dL 4) a7)))) (d6 (dC (.bl false))) f9) (e8 (j4 (a9 Q8 (a0 (dV 3) a7))) (c8 (d5 (a9 aG (a0 (dV 3) a7)) (d0 7)) (c8 (e8 (j7 (dB (a6 o9 (a9 bE (a0 (dV 3) a7)) (dL 7))) (dB (a6 o9 (d8 (one B5) (a0 (d9 (a0 (dV 3) (a0 (dV 4) a7))) a7)) (dL 6)))) (d6 (dC (.bl false))) f9) (e8 (l4 (j4 (a9 aI (a0 (dV 3) a7))) (dB (a6 o9 (d8 (one B5) (a0 (a9 bp (a0 (dV 7) a7)) a7)) (d8 (one B5) (a0 (dL 3) a7))))) (d6 (dC (.bl false))) f9))) f9)))))
   #[[U,x1,x2,.v (Lw c ps),.v (B0 (fr h) s e j (fr m)),.v (fr q),x6,x7],fs]=some (.next,#[[U,x1,x2,.v (Lw c ps),.v (B0 (fr h) s e j (fr m)),.v (fr q),y6,y7],fs]):=by
 have tl:Th 380 3 (Lw c ps):=(vV c hz #[]).2;have bl:bk (Lw c ps)<=40:=by unfold Lw;rw[Ad c ps];omega
 have tr:Th 380 2 (B0 (fr h) s e j (fr m)):=by
  have h1:=R.hs.sz.mono (show 14<=380 by decide);have h2:=R.ms.sz.mono (show 14<=380 by decide);simp only[B0,fr,Th,Ths];exact#[#[h1.num,h1.den,trivial],R.ws.a,R.we.a,R.wj.a,#[h2.num,h2.den,trivial],trivial]
 have br:bk (B0 (fr h) s e j (fr m))<=60:=by
  have h3:=R.ws.l;have h4:=R.we.l;have h5:=R.wj.l;have e1:bk (fr h)=2:=rfl;have e2:bk (fr m)=2:=rfl;unfold B0;rw[L9,E8,E8,E8,E8,E8,cv,aV,aV,aV];omega
 have tb:Th 380 4 (.tup [Lw c ps,B0 (fr h) s e j (fr m)]):=by
  rw[Th,Ths,Ths,Ths];exact#[tl,Th.mono #[] _ #[] tr,trivial]
 have r1:=(Th.ok #[] _ tb).repr #[] (by rw[L9,E8,E8,cv];omega);have r2:=(Th.ok #[] _ tr).repr #[] ∅;have r3:=(Th.ok #[] _ tl).repr #[] ∅;have il:=wt (Lw c ps) fs tl #[] ∅;have L:M7 (fT q)/\M7 (d7 (L3 h m s e j)):=by
  have Y:∀i:Int,M7 (E1 i):=yg;have W:∀r:Rat,M7 (fT r):=fun r=>by
   unfold fT;split
   .exact Y _
   .exact oF (oF (Y _) (show ∀c∈(("/" : Str)).cps.toList,c<128 by decide)) (Y _)
  refine#[W q,?_];have jA:∀l:List (List Nat),(∀p∈l,∀c∈p,c<128)->∀c∈jn 32 l,c<128:=by
   intro l;induction l with
   |nil=>intro _ c M;cases M
   |cons a l ih=>
    intro H c M;cases l with
    |nil=>exact H a (HD ..) c M
    |cons b r=>
     rcases Im.mp M with z | z
     .exact H a (HD ..) c z
     .rcases xr.mp z with z | z
      .subst z;decide
      .exact ih (fun p hp=>H p (HB _ hp)) c z
  unfold M7;rw[aO];refine jA _ fun p hp=>?_
  obtain⟨x,Z,rfl⟩:=HW.mp hp;unfold C6 at Z;simp only[xr,HM,HN] at Z;rcases Z with rfl | rfl | rfl | rfl | rfl | rfl
  .decide
  .exact W h
  .exact R.ws.a
  .exact R.we.a
  .exact R.wj.a
  .exact W m
 have tn:Th 380 1 (.lst [.str (fT q),.str (d7 (L3 h m s e j))]):=by
  simp only[Th,Ths];exact#[L.1,L.2,trivial]
 have n1:o9 (.lst [.str (fT q),.str (d7 (L3 h m s e j))]) (.lst [.str (fT q),.str (d7 (L3 h m s e j))])=some (.bl false):=by
  have o:=Th.ok #[] _ tn;have e:=o.eq #[];show (if A5 _&&A5 _ then some (D.bl (!PyData.eqv _ _)) else none)=_;rw[e,SeqAt.eqv_refl _ o.la];rfl
 obtain⟨p0,pr,rfl⟩:∃p0 pr,ps=p0::pr:=by
  cases ps with
  |nil=>cases c <;> simp[lo] at h2
  |cons a r=>exact#[a,r,rfl]
 have J:=hz p0 (HD ..);obtain⟨y7,key⟩:=BJ (il:=Q8) (rl:=bp) (sh:=aI) (lt:=bE) (llt:=aG) (rr:=bF) (lrt:=ag) (plt:=Y5) (lpt:=V7) (rt:=bC) (ft:=Q2) (lnt:=L7) fs U x1 x2 x6 x7 (bW (hq.mono #[]) fs) (gD (hq.mono #[]) fs) (uO R fs) (Gy R fs) (nM J fs) (nq J fs) (GD R fs) il (GJ hz hl fs) (xp hz hl fs) (wM hz fs)
  (fun a b=>wk (Iq.mp b) hz hl h2 fs (by rw[il,a])) r1 r2 r3 n1 (.tup ((p0::pr).map pt)) rfl (by rw[Hu];exact dP _ _)
 exact#[_,y7,key]
def FD (h:Fd n f) (hn:n<2 ^ 25) (M x2 Y L J U W:Sl) :
  ∃ps f',d5 (d9 (a0 (dC (.bl false)) (a0 (d8 (one K8) (a0 (i5 (B6 [1] (ai (a0 (a6 j6 (b0 2) (a9 C2 (a0 (dV 1) (a0 (b0 5) a7)))) a7)) w6 (a9 G7 (a0 (dV 1) a7)))) a7)) a7))) (d0 3) #[[M,.v .feed,x2,Y,L,J,U,W],some f] =
   some (.next,#[[M,.v .feed,x2,.v (Lw false ps),L,J,U,W],some f'])/\2<=ps.length/\ps.length<=9/\(∀p∈ps,PtS 190 p)/\Fd (n+100) f':=by
 obtain⟨r,f1,e1,r1,r2,h1⟩:=D2 5 h;obtain⟨m,hm⟩:∃m:Nat,2+r=(m:Int):=#[(2+r).toNat,by omega]
 obtain⟨ps,Z,e2,l2,s2,h2⟩:=Fq m 0 h1 ∅ (C1 0 m) (by unfold C1;rw[Hr,List.length_range]);have rg:K4 [.int (m:Int)]=some (C1 0 m):=jT ∅;have hz:(C1 0 m).length<=sizeLine:=by unfold C1;rw[Hr,List.length_range,Ih];omega
 have ha:a0 (a6 j6 (b0 2) (a9 C2 (a0 (dV 1) (a0 (b0 5) a7)))) a7 #[[M,.v .feed,x2,Y,L,J,U,W],some f]=some ([.int (m:Int)],#[[M,.v .feed,x2,Y,L,J,U,W],some f1]):=by
  rw[<-hm];exact l0 (c9 rfl (F6 rfl e1) rfl) rfl
 have hr:ai (a0 (a6 j6 (b0 2) (a9 C2 (a0 (dV 1) (a0 (b0 5) a7)))) a7) #[[M,.v .feed,x2,Y,L,J,U,W],some f]=some (C1 0 m,#[[M,.v .feed,x2,Y,L,J,U,W],some f1]):=by
  unfold ai;rw[ha,Hq];show (K4 [.int (m:Int)]).map _=_;rw[rg];rfl
 have hc:B6 [1] (ai (a0 (a6 j6 (b0 2) (a9 C2 (a0 (dV 1) (a0 (b0 5) a7)))) a7)) w6 (a9 G7 (a0 (dV 1) a7)) #[[M,.v .feed,x2,Y,L,J,U,W],some f]=some (ps.map pt,#[[M,.v .feed,x2,Y,L,J,U,W],some Z]):=by
  unfold B6;rw[hr,Hq];simp only[fI hz];have cp:F8 [1] [M,Sl.v .feed,x2,Y,L,J,U,W]=[.v .feed]:=rfl;rw[cp,e2];rfl
 refine#[ps,Z,?_,by omega,by omega,fun p hp=>(s2 p hp).mono #[],h2.mono ∅];exact u4 (Y1 rfl (C7 (D4 hc) rfl)) rfl
def Dq (k:Int) (h:Fd n f) (hn:n<2 ^ 24) (L x3 Y W M U:Sl) :
  ∃y3 y4 y5 y6 y7 f',sE #[[L,.v .feed,.v (.int k),x3,Y,W,M,U],some f]=some (.next,#[[L,.v .feed,.v (.int k),y3,y4,y5,y6,y7],some f'])/\Fd (n+300) f':=by
 obtain⟨c,ps,f1,e1,hl,h1⟩:=yY 4 #[] h ∅;have mm:B7 (.int k) (.int 2)=some (.int (k.fmod 2)):=by simp[B7]
 have st1:d5 (a9 aZ (a0 (dV 1) (a0 (b0 4) a7))) (d0 3) #[[L,.v .feed,.v (.int k),x3,Y,W,M,U],some f]=some (.next,#[[L,.v .feed,.v (.int k),.v (Lw c ps),Y,W,M,U],some f1]):=by
  have e1':aZ [.feed,.int 4] (some f)=some (Lw c ps,some f1):=e1;exact u4 (F6 rfl e1') rfl
 have st2:∃c' J Z,e8 (dB (a6 u6 (a6 B7 (dL 2) (b0 2)) (b0 1))) (d5 (d9 (a0 (dC (.bl false)) (a0 (d8 (one K8) (a0 (i5 (B6 [1] (ai (a0 (a6 j6 (b0 2) (a9 C2 (a0 (dV 1) (a0 (b0 5) a7)))) a7)) w6 (a9 G7 (a0 (dV 1) a7)))) a7)) a7))) (d0 3)) f9 #[[L,.v .feed,.v (.int k),.v (Lw c ps),Y,W,M,U],some f1]=some (.next,#[[L,.v .feed,.v (.int k),.v (Lw c' J),Y,W,M,U],some Z])/\(∀p∈J,PtS 190 p)/\J.length<=9/\lo c'<=J.length/\Fd (n+201) Z:=by
  have cd:∀b,decide (k.fmod 2=1)=b->dB (a6 u6 (a6 B7 (dL 2) (b0 2)) (b0 1)) #[[L,.v .feed,.v (.int k),.v (Lw c ps),Y,W,M,U],some f1]=some (b,#[[L,.v .feed,.v (.int k),.v (Lw c ps),Y,W,M,U],some f1]):=fun b hb=>x8 (c9 (c9 rfl rfl mm) rfl ((F9 _ 1).trans (by rw[hb])))
  by_cases hk:k.fmod 2=1
  .obtain⟨qs,Z,e2,l1,l2,s2,h2⟩:=FD h1 ∅ L (.v (.int k)) (.v (Lw c ps)) Y W M U;exact#[false,qs,Z,(C4 (cd true (xl hk))).trans e2,s2,l2,l1,h2.mono ∅]
  .exact#[c,ps,f1,C3 (cd false (iU hk)),hl.sz,by have:=hl.hi;cases c <;> simp[hi] at this <;> omega,hl.lo,h1.mono ∅]
 obtain⟨c',J,Z,e2,z2,l2,o2,h2⟩:=st2;obtain⟨hf,s,e,j,m,f3,e3,R,h3⟩:=zY h2 ∅;obtain⟨q,f4,e4,sq,h4⟩:=kn h3 ∅;obtain⟨y6,y7,e5⟩:=xn z2 l2 o2 R sq (some f4) L (.v .feed) (.v (.int k)) M U;refine#[.v (Lw c' J),.v (B0 (fr hf) s e j (fr m)),.v (fr q),y6,y7,f4,?_,h4.mono ∅];show gm _ _ _ _ _ _ _ _ _ _ _ _ _ _ _ _ _ _ _=_;unfold gm;rw[i9 st1,i9 e2,i9 (s1:=#[[L,.v .feed,.v (.int k),.v (Lw c' J),.v (B0 (fr hf) s e j (fr m)),W,M,U],some f3]) (u4 (F6 rfl e3) rfl),
  i9 (s1:=#[[L,.v .feed,.v (.int k),.v (Lw c' J),.v (B0 (fr hf) s e j (fr m)),.v (fr q),M,U],some f4]) (u4 (F6 rfl e4) rfl)]
 exact e5
def math (J:List Int) (hl:J.length<=63):∃fs',ji Q8 bp aI bE aG bF ag Y5 V7 bC Q2 L7 LN gj C2 G7 aZ bI [.scr J] none=some (.bl true,fs'):=by
 obtain⟨s',e,Z,L,U,M,W,Y,f',rfl,hf⟩:=dS (t:=d0 2) (b:=sE) (fun i s=>∃Z L U M W Y f,s=#[[.v (.scr J),.v .feed,Z,L,U,M,W,Y],some f]/\Fd (300*i) f) (C1 0 8) 0
  #[[.v (.scr J),.v .feed,.no,.no,.no,.no,.no,.no],some #[J,0,0,0,0]] #[_,_,_,_,_,_,_,rfl,Fd.zero J] (by
   rintro i d s hd ⟨Z,L,U,M,W,Y,f,rfl,hf⟩;obtain⟨rfl,hi⟩:=jO hd;obtain⟨y3,y4,y5,y6,y7,f',e,h'⟩:=Dq (0+(i:Int)) hf ∅ (.v (.scr J)) L U M W Y;exact#[_,_,rfl,.inl e,_,_,_,_,_,_,f',rfl,h'.mono ∅])
 have r8:K4 [.int 8]=some (C1 0 8):=jT (n:=8) #[];refine#[_,p9 (s:=#[[.v (.scr J),.v .feed,Z,L,U,M,W,Y],some f']) ?_];show kb _ _ _ _ _ _ _ _ _ _ _ _ _ _ _ _ _ _ #[[.v (.scr J),.no,.no,.no,.no,.no,.no,.no],none]=_;unfold kb;rw[i9 (s1:=#[[.v (.scr J),.v .feed,.no,.no,.no,.no,.no,.no],some #[J,0,0,0,0]]) (u4 (F6 rfl (vC J hl)) rfl)];rw[i9 (s1:=#[[.v (.scr J),.v .feed,Z,L,U,M,W,Y],some f']) (by rw[eL (xs:=[.int 8]) rfl r8];exact e)];exact u7 rfl
end T
namespace T
open PySem PySem.Spec L2 DL
local macro_rules | `(tactic| wtm_at "c")=>`(tactic| first | with_reducible exact DZ | with_reducible exact Ap | with_reducible exact zc | with_reducible exact DC | with_reducible exact Ca | (with_reducible apply uk);exact cH (by assumption) | (with_reducible apply Bi);exact cH (by assumption) | (with_reducible apply BS);exact cH (by assumption) | (with_reducible apply yz);exact cH (by assumption))
local macro_rules | `(tactic| wtm_at "o")=>`(tactic| first | with_reducible exact uh | with_reducible exact xc | with_reducible exact yk | with_reducible exact FT | with_reducible exact wZ | with_reducible exact GC | with_reducible exact aY)
local macro_rules | `(tactic| wtm_at "q")=>`(tactic| first | with_reducible exact oM | with_reducible exact ym | with_reducible exact yM | with_reducible exact xZ | with_reducible exact vB | with_reducible exact xC | with_reducible exact bH)
local macro_rules | `(tactic| wtm_at "r")=>`(tactic| first | with_reducible exact yE _ | with_reducible exact rE | with_reducible exact CW | with_reducible exact vL | with_reducible exact Bk | with_reducible exact Ge)
local macro_rules | `(tactic| wtm_at "k")=>`(tactic| first | with_reducible exact uV | with_reducible exact yB | with_reducible exact uS | with_reducible exact yj | with_reducible exact gv | with_reducible exact(dt rfl) | (focus (with_reducible apply BE);exact vo (by assumption);exact(by assumption:Room _ _).gd))
local macro_rules | `(tactic| wtm_at "m")=>`(tactic| first | with_reducible exact xj | with_reducible exact DY | with_reducible exact Cs | with_reducible exact EK | with_reducible exact dQ | with_reducible exact bG | with_reducible exact Gm)
local macro_rules | `(tactic| wtm_at "b")=>`(tactic| first | exact Blt.abs (by assumption) | exact Blt.all (by assumption) | exact Blt.bool (by assumption) | exact Blt.int (by assumption) | exact Blt.isinstance (by assumption) | exact Blt.len (by assumption) | exact Blt.list (by assumption) | exact Blt.range (by assumption) | exact Blt.repr (by assumption) | exact Blt.str (by assumption) | exact Blt.tuple (by assumption) | exact Blt.zip (by assumption))
local macro_rules | `(tactic| wtm_at "t")=>`(tactic| first | exact GL | exact cD | exact jE | exact lK | exact Ak | exact nS | exact Hf | exact Bq | exact W3)
local macro_rules | `(tactic| wtm_at "n")=>`(tactic| first | exact pM | (refine uv ?_);wtm_at "n")
local macro_rules | `(tactic| wtm_at "l")=>`(tactic| first | exact Or.inl rfl | exact Or.inr rfl)
local macro_rules | `(tactic| wtm_at "x")=>`(tactic| first | exact rfl | exact Or.inl rfl | exact Or.inr rfl | decide | (intro _;rfl))
local macro_rules | `(tactic| wtm_at "S")=>`(tactic| first | (focus (with_reducible apply P4);all_goals wtm_at "x") | (focus (with_reducible apply D3);wtm_at "s";all_goals wtm_at "x") | (focus (with_reducible apply A4);wtm_at "s";wtm_at "S";all_goals wtm_at "x"))
local macro_rules | `(tactic| wtm_at "s")=>`(tactic| first | (focus (with_reducible apply aj);assumption;exact rfl;wtm_at "l";wtm_at "E";all_goals wtm_at "x") | (focus (with_reducible apply E4);wtm_at "E";all_goals wtm_at "x") | (focus (with_reducible apply N9);wtm_at "T";wtm_at "S";wtm_at "S";all_goals wtm_at "x") | (focus (with_reducible apply zg);wtm_at "E";wtm_at "G";all_goals wtm_at "x") | (focus (with_reducible apply EZ);exact pv _;wtm_at "E";all_goals wtm_at "x") | (focus (with_reducible apply Gg);assumption;exact rfl;wtm_at "l";wtm_at "F";all_goals wtm_at "x") | (focus (with_reducible apply BL);exact Jv;exact rfl;wtm_at "E";wtm_at "G";wtm_at "S";all_goals wtm_at "x") | (focus (with_reducible apply pw);exact Jv;wtm_at "T";wtm_at "S";all_goals wtm_at "x") | (focus (with_reducible apply tE);exact Jv;exact rfl;exact rfl;exact Blt.range (by assumption);wtm_at "E";wtm_at "G";wtm_at "S";all_goals wtm_at "x") | (focus (with_reducible apply Dm);exact Jv;exact rfl;exact rfl;exact Blt.range (by assumption);wtm_at "E";wtm_at "E";wtm_at "G";wtm_at "S";all_goals wtm_at "x") | (focus (with_reducible apply Ha);all_goals wtm_at "x") | (focus (with_reducible apply GP);exact mR (by assumption);exact pv _;wtm_at "E";all_goals wtm_at "x") | (focus (with_reducible apply zB);exact rfl;assumption;exact rfl;exact rfl;decide;exact rfl;exact rfl;wtm_at "A";exact rfl;all_goals wtm_at "x"))
local macro_rules | `(tactic| wtm_at "B")=>`(tactic| first | (focus (with_reducible apply J4);exact pv _;all_goals wtm_at "x") | (focus (with_reducible apply EO.b);wtm_at "E";all_goals wtm_at "x"))
local macro_rules | `(tactic| wtm_at "E")=>`(tactic| first | (focus (with_reducible apply bM);exact pv _;all_goals wtm_at "x") | (focus (with_reducible apply et);all_goals wtm_at "x") | (focus (with_reducible apply sC);exact Ga;exact De;wtm_at "B";wtm_at "B";exact fun _ _=>rfl;all_goals wtm_at "x") | (focus (with_reducible apply si);rotate_left;wtm_at "q";rotate_right;wtm_at "o";wtm_at "B";wtm_at "B";all_goals wtm_at "x") | (focus (with_reducible apply mJ);assumption;assumption;(first | decide | exact iR _ | exact Ht (by decide) (Nat.le_add_right _ _));exact rfl;wtm_at "A";wtm_at "n";all_goals wtm_at "x") | (focus (with_reducible apply kE);wtm_at "A";all_goals wtm_at "x") | (focus (with_reducible apply xm);decide +kernel;all_goals wtm_at "x") | (focus (with_reducible apply GZ);all_goals wtm_at "x") | (focus (with_reducible apply U4);all_goals wtm_at "x") | (focus (with_reducible apply Cn);exact CS;exact Dx;wtm_at "B";all_goals wtm_at "x") | (focus (with_reducible apply FO.v);wtm_at "F";all_goals wtm_at "x") | (focus (with_reducible apply lR);rotate_left;wtm_at "r";rotate_right;wtm_at "c";wtm_at "B";wtm_at "B";(first | exact jb _ | exact rfl);all_goals wtm_at "x") | (focus (with_reducible apply xa);wtm_at "T";wtm_at "E";wtm_at "E";all_goals wtm_at "x") | (focus (with_reducible apply Ed);wtm_at "B";wtm_at "O";wtm_at "O";all_goals wtm_at "x") | (focus (with_reducible apply oG);wtm_at "E";all_goals wtm_at "x") | (focus (with_reducible apply EU);assumption;exact rfl;all_goals wtm_at "x") | (focus (with_reducible apply bX);rotate_left;wtm_at "m";rotate_right;wtm_at "k";exact rfl;wtm_at "b";wtm_at "t";wtm_at "a";all_goals wtm_at "x") | (focus (with_reducible apply cF);rotate_left;wtm_at "m";rotate_right;wtm_at "k";exact rfl;wtm_at "b";wtm_at "t";wtm_at "a";all_goals wtm_at "x") | (focus (with_reducible apply uM);exact mR (by assumption);exact pv _;all_goals wtm_at "x") | (focus (with_reducible apply mv);wtm_at "E";all_goals wtm_at "x") | (focus (with_reducible apply tQ);wtm_at "E";wtm_at "E";all_goals wtm_at "x"))
local macro_rules | `(tactic| wtm_at "A")=>`(tactic| first | (focus (with_reducible apply ac);wtm_at "E";wtm_at "A";all_goals wtm_at "x") | (focus (with_reducible apply aB);all_goals wtm_at "x"))
local macro_rules | `(tactic| wtm_at "a")=>`(tactic| first | (focus (with_reducible apply bc);wtm_at "B";wtm_at "a";all_goals wtm_at "x") | (focus (with_reducible apply X5);all_goals wtm_at "x"))
local macro_rules | `(tactic| wtm_at "T")=>`(tactic| first | (focus (with_reducible apply mC);rotate_left;wtm_at "r";rotate_right;wtm_at "c";wtm_at "B";wtm_at "B";(first | exact jb _ | exact rfl);all_goals wtm_at "x") | (focus (with_reducible apply WO.t);wtm_at "W";all_goals wtm_at "x") | (focus (with_reducible apply T4);wtm_at "T";all_goals wtm_at "x") | (focus (with_reducible apply U2);wtm_at "B";all_goals wtm_at "x"))
local macro_rules | `(tactic| wtm_at "W")=>`(tactic| first | (focus (with_reducible apply sj);wtm_at "T";wtm_at "W";all_goals wtm_at "x") | (focus (with_reducible apply CA);wtm_at "T";all_goals wtm_at "x") | (focus (with_reducible apply cW);wtm_at "T";wtm_at "W";all_goals wtm_at "x") | (focus (with_reducible apply qU);wtm_at "T";all_goals wtm_at "x"))
local macro_rules | `(tactic| wtm_at "O")=>`(tactic| first | (focus (with_reducible apply rb);all_goals wtm_at "x") | (focus (with_reducible apply zO);wtm_at "B";all_goals wtm_at "x"))
local macro_rules | `(tactic| wtm_at "F")=>`(tactic| first | (focus (with_reducible apply vq);wtm_at "A";all_goals wtm_at "x") | (focus (with_reducible apply cY);rotate_left;wtm_at "q";rotate_right;wtm_at "o";wtm_at "B";wtm_at "B";all_goals wtm_at "x"))
local macro_rules | `(tactic| wtm_at "G")=>`(tactic| first | (focus (with_reducible apply zR);wtm_at "h";all_goals wtm_at "x") | (focus (with_reducible apply Fs);exact rfl;wtm_at "g";all_goals wtm_at "x"))
local macro_rules | `(tactic| wtm_at "h")=>`(tactic| first | (focus (with_reducible apply J5);assumption;exact rfl;wtm_at "l";all_goals wtm_at "x"))
local macro_rules | `(tactic| wtm_at "g")=>`(tactic| first | (focus (with_reducible apply yT);wtm_at "G";wtm_at "g";all_goals wtm_at "x") | (focus (with_reducible apply yX);all_goals wtm_at "x"))
local macro_rules | `(tactic| wtm_at "R")=>`(tactic| first | (refine D3 ?_;wtm_at "s") | (refine A4 ?_ ?_;wtm_at "s";wtm_at "S"))
local macro_rules | `(tactic| wtm_at "p")=>`(tactic| first | exact fun _ _ _ _ _ _=>BZ fun _=>rfl | exact fun _ _ _ _ _ _=>uR fun _ _=>rfl | exact fun _ _ _ _ _ _=>zC fun _ _ _=>rfl | exact fun _ _ _ _ _ _=>on4 fun _ _ _ _=>rfl | exact fun _ _ _ _ _ _=>on5 fun _ _ _ _ _=>rfl | exact fun _ _ _ _ _ _=>on0 rfl)
local macro_rules | `(tactic| wtm_at "f")=>`(tactic| exact⟨rfl,rfl,rfl,by decide +kernel,rfl,by decide +kernel,by decide +kernel⟩)
local macro_rules | `(tactic| wtm_at "M")=>`(tactic| (intro nd _ _ _ _ _ _ _ hr;wtm_at "R"))
def i7 (i:Nat):Stmt:=PySem.Challenge.pw_widelines_k70_texts.main.body.getD i (.Pass #[0,0,0,0])
section
variable (P:Program) (w:World) (K:vF_) (mg:vG_) (base:Heap)
abbrev oz:=Cal P w K mg base 1 "_law_feed" ["_law_script"]
abbrev S6:=Cal P w K mg base 1 "_law_fraction" ["_law_top", "_law_bottom"]
abbrev X4:=Cal P w K mg base 1 "_law_draw" ["_law_feed_here", "_law_many"]
abbrev gH:=Cal P w K mg base 2 "_law_product" ["_law_one", "_law_other"]
abbrev jG:=Cal P w K mg base 3 "_law_way" ["_law_feed_here"]
abbrev jz:=Cal P w K mg base 2 "_law_at" ["_law_x", "_law_y"]
abbrev ka:=Cal P w K mg base 2 "_law_number" ["_law_feed_here"]
abbrev dJ:=Cal P w K mg base 3 "_law_place" ["_law_feed_here"]
abbrev eB:=Cal P w K mg base 2 "_law_xy" ["_law_one"]
abbrev jy:=Cal P w K mg base 2 "_law_sum" ["_law_one", "_law_other"]
abbrev kH:=Cal P w K mg base 3 "_law_gone" ["_law_one", "_law_x", "_law_y"]
abbrev sY:=Cal P w K mg base 4 "_law_closed_line" ["_law_feed_here"]
abbrev ri:=Cal P w K mg base 1 "_law_minus" ["_law_one"]
abbrev qf:=Cal P w K mg base 3 "_law_goes_on" ["_law_first", "_law_second"]
abbrev rQ:=Cal P w K mg base 4 "_law_open_line" ["_law_feed_here", "_law_most"]
abbrev oY:=Cal P w K mg base 5 "_law_line" ["_law_feed_here", "_law_most"]
abbrev qY:=Cal P w K mg base 2 "_law_rule" ["_law_feed_here"]
abbrev qQ:=Cal P w K mg base 1 "divisor_of_two" ["one", "other"]
abbrev jM:=Cal P w K mg base 2 "divisor" ["parts"]
abbrev rN:=Cal P w K mg base 1 "is_whole" ["thing"]
abbrev jH:=Cal P w K mg base 3 "is_lowest" ["thing", "size"]
abbrev rP:=Cal P w K mg base 4 "is_place" ["thing"]
abbrev rW:=Cal P w K mg base 5 "are_places" ["thing"]
abbrev jq:=Cal P w K mg base 1 "neighbours" ["row", "closed"]
abbrev ke:=Cal P w K mg base 2 "pieces" ["line"]
abbrev pb:=Cal P w K mg base 3 "goes_somewhere" ["line"]
abbrev pO:=Cal P w K mg base 1 "sign" ["number"]
abbrev md:=Cal P w K mg base 2 "turn" ["a", "b", "c"]
abbrev qE:=Cal P w K mg base 1 "is_lesser" ["one", "other"]
abbrev ui:=Cal P w K mg base 3 "goes_on" ["a", "b", "c"]
abbrev tU:=Cal P w K mg base 4 "turns_everywhere" ["line"]
abbrev lu:=Cal P w K mg base 6 "is_line" ["thing"]
abbrev rf:=Cal P w K mg base 1 "whole_text" ["number"]
abbrev gs:=Cal P w K mg base 2 "fraction_text" ["one"]
abbrev jd:=Cal P w K mg base 3 "lowest" ["parts"]
abbrev iY:=Cal P w K mg base 4 "fraction" ["top", "bottom"]
abbrev mL:=Cal P w K mg base 5 "up" ["one"]
abbrev rY:=Cal P w K mg base 5 "across" ["one"]
abbrev lx:=Cal P w K mg base 6 "place_text" ["one"]
abbrev dN:=Cal P w K mg base 1 "_law_number_text" ["_law_one"]
abbrev kP:=Cal P w K mg base 3 "_law_place_text" ["_law_one"]
abbrev mB:=Cal P w K mg base 4 "_law_line_text" ["_law_line_here"]
abbrev pV:=Cal P w K mg base 3 "rule_text" ["rule"]
abbrev qt:=Cal P w K mg base 2 "_law_rule_text" ["_law_rule_here"]
abbrev lh:=Cal P w K mg base 1 "read_figures" ["text"]
abbrev lU:=Cal P w K mg base 2 "read_whole" ["text"]
abbrev kQ:=Cal P w K mg base 4 "is_fraction" ["thing"]
abbrev kN:=Cal P w K mg base 5 "read_fraction" ["word"]
abbrev ny:=Cal P w K mg base 6 "with_part" ["rule", "number", "word"]
abbrev tX:=Cal P w K mg base 1 "is_below" ["one", "other"]
abbrev sS:=Cal P w K mg base 5 "is_rule" ["thing"]
abbrev pS:=Cal P w K mg base 7 "read_rule" ["text"]
abbrev sT:=Cal P w K mg base 3 "_law_is_short" ["_law_line_here"]
abbrev mi:=Cal P w K mg base 7 "line_text" ["line"]
abbrev uJ:=Cal P w K mg base 4 "place" ["x", "y"]
abbrev qr:=Cal P w K mg base 6 "read_place" ["word"]
abbrev oo:=Cal P w K mg base 7 "read_places" ["words"]
abbrev ue:=Cal P w K mg base 8 "read_line" ["text"]
end
variable {f:Addr}
section
variable {P:Program}{w:World}{K:vF_}
def CV (B:Blt mg) (F:GF K mg "_law_feed" (i7 53) f fd):oz P w K mg base (bI):=
 u5 [] F (by wtm_at "p") (by wtm_at "f") fun L _ _ _ _ _ _ g J=>
 (D3 (E4 (zX (pv 0))))
def CJ (B:Blt mg) (F:GF K mg "_law_fraction" (i7 55) f fd):S6 P w K mg base (rq):=
 u5 ["_law_one", "_law_other"] F (by wtm_at "p") (by wtm_at "f") (by unfold fH;wtm_at "M")
def Fe (B:Blt mg) (F:GF K mg "_law_draw" (i7 54) f fd):X4 P w K mg base (C2):=
 u5 ["_law_count", "_law_digit", "_law_cells", "_law_cell", "_law_mixed"] F (by wtm_at "p") (by wtm_at "f") (by unfold V6;wtm_at "M")
def xv {J:a8}(L:S6 P w K mg base J) (B:Blt mg) (F:GF K mg "_law_product" (i7 57) f fd):gH P w K mg base (pB J):=
 u5 [] F (by wtm_at "p") (by wtm_at "f") (by unfold dM;wtm_at "M")
def yC {J:a8}(L:gH P w K mg base m00) (M:S6 P w K mg base J) (Y:X4 P w K mg base mo) (B:Blt mg) (F:GF K mg "_law_way" (i7 65) f fd):jG P w K mg base (lF m00 J mo):=
 u5 ["_law_p", "_law_q", "_law_h", "_law_share"] F (by wtm_at "p") (by wtm_at "f") fun W _ _ _ _ _ _ g U=>
 (A4 (by wtm_at "s") (A4 (by wtm_at "s") (A4 (by wtm_at "s") (A4 (by wtm_at "s") (A4 (by wtm_at "s") (A4 (by wtm_at "s") (D3 (E4 (FO.v (R6 (N':=["_law_one", "_law_share"]) (idx:=[4]) rfl (O9 (by rfl) (.cons rfl .nil) (by decide +kernel) rfl (by decide +kernel) (by rfl) (.cons rfl (by first | exact Or.inl rfl | exact Or.inr rfl) (by first | exact Or.inl rfl | exact Or.inr rfl) .nil)) (Q1 (by wtm_at "E")) (fun _ _ _ _=>J5 (i:=0) (show List.Nodup (["_law_one", "_law_share"]:List Str) by decide +kernel) rfl (Or.inl rfl)) (fun _ _ _ _ _=>N4) (fun _ _ _ _ _=>(by wtm_at "E"))))))))))))
def Co {J:a8}(L:S6 P w K mg base J) (B:Blt mg) (F:GF K mg "_law_at" (i7 59) f fd):jz P w K mg base (qw J):=
 u5 ["_law_bottom", "_law_top", "_law_other", "_law_part_of_both"] F (by wtm_at "p") (by wtm_at "f") (by unfold fv;wtm_at "M")
def Eo {J:a8}(L:S6 P w K mg base J) (M:X4 P w K mg base mo) (B:Blt mg) (F:GF K mg "_law_number" (i7 63) f fd):ka P w K mg base (lY J mo):=
 u5 ["_law_top", "_law_bottom"] F (by wtm_at "p") (by wtm_at "f") (by unfold dH;wtm_at "M")
def zD (J:jz P w K mg base m0k) (L:ka P w K mg base m06) (B:Blt mg) (F:GF K mg "_law_place" (i7 64) f fd):dJ P w K mg base (nk m0k m06):=
 u5 [] F (by wtm_at "p") (by wtm_at "f") (by unfold ij;wtm_at "M")
def xW {J:a8}(L:S6 P w K mg base J) (B:Blt mg) (F:GF K mg "_law_xy" (i7 60) f fd):eB P w K mg base (nR J):=
 u5 [] F (by wtm_at "p") (by wtm_at "f") (by unfold eh;wtm_at "M")
def wq {J:a8}(L:S6 P w K mg base J) (B:Blt mg) (F:GF K mg "_law_sum" (i7 56) f fd):jy P w K mg base (oO J):=
 u5 ["_law_top"] F (by wtm_at "p") (by wtm_at "f") (by unfold gY;wtm_at "M")
def vS (J:jz P w K mg base m0k) (M:jy P w K mg base m0f) (L:eB P w K mg base m02) (B:Blt mg) (F:GF K mg "_law_gone" (i7 61) f fd):kH P w K mg base (pP m0k m0f m02):=
 u5 ["_law_first", "_law_second"] F (by wtm_at "p") (by wtm_at "f") (by unfold fW;wtm_at "M")
def Eu {J:a8}(Cl:X4 P w K mg base mo) (W:kH P w K mg base m05) (M:gH P w K mg base m00) (Y:S6 P w K mg base J) (L:jG P w K mg base m07) (U:dJ P w K mg base m03) (B:Blt mg) (F:GF K mg "_law_closed_line" (i7 68) f fd):sY P w K mg base (ox mo m05 m00 J m07 m03):=
 u5 ["_law_first", "_law_start", "_law_second", "_law_knee", "_law_last", "_law_side", "_law_three", "_law_four", "_law_some", "_law_order"] F (by wtm_at "p") (by wtm_at "f") fun nd _ _ _ _ _ _ g Z=>
 (A4 (by wtm_at "s") (A4 (by wtm_at "s") (A4 (by wtm_at "s") (A4 (by wtm_at "s") (A4 (by wtm_at "s") (A4 (by wtm_at "s") (A4 (by wtm_at "s") (D3 (E4 (kE (ac U4 (ac (cF gv dQ (by rfl) B.tuple W3 (bc (EO.b (FO.v (yh [9] (R6 (N':=["_law_at_here", "_law_some"]) (idx:=[9]) rfl (O9 (by rfl) (.cons rfl .nil) (by decide +kernel) rfl (by decide +kernel) (by rfl) (.cons rfl (by first | exact Or.inl rfl | exact Or.inr rfl) (by first | exact Or.inl rfl | exact Or.inr rfl) .nil)) (Q1 (bM (pv 10))) (fun _ _ _ _=>J5 (i:=0) (show List.Nodup (["_law_at_here", "_law_some"]:List Str) by decide +kernel) rfl (Or.inl rfl)) (fun _ _ _ _ _=>N4) (fun _ _ _ _ _=>(by wtm_at "E")))))) X5)) aB))))))))))))
def ES (B:Blt mg) (F:GF K mg "_law_minus" (i7 58) f fd):ri P w K mg base (aA):=
 u5 [] F (by wtm_at "p") (by wtm_at "f") (by unfold gE;wtm_at "M")
def yp (J:jy P w K mg base m0f) (L:gH P w K mg base m00) (B:Blt mg) (F:GF K mg "_law_goes_on" (i7 66) f fd):qf P w K mg base (oa m0f m00):=
 u5 ["_law_one", "_law_other", "_law_with_it"] F (by wtm_at "p") (by wtm_at "f") (by unfold hV;wtm_at "M")
def xF (U:qf P w K mg base m0D) (W:kH P w K mg base m05) (Y:X4 P w K mg base mo) (M:ri P w K mg base m0n) (L:jG P w K mg base m07) (J:dJ P w K mg base m03) (B:Blt mg) (F:GF K mg "_law_open_line" (i7 67) f fd):rQ P w K mg base (nB m0D m05 mo m0n m07 m03):=
 u5 ["_law_found", "_law_ways", "_law_k", "_law_way_here"] F (by wtm_at "p") (by wtm_at "f") (by unfold fF;wtm_at "M")
def Dv (M:X4 P w K mg base mo) (J:sY P w K mg base m0S) (L:rQ P w K mg base m0T) (B:Blt mg) (F:GF K mg "_law_line" (i7 69) f fd):oY P w K mg base (og mo m0S m0T):=
 u5 [] F (by wtm_at "p") (by wtm_at "f") (by unfold fq;wtm_at "M")
def zN {J:a8}(M:X4 P w K mg base mo) (L:S6 P w K mg base J) (B:Blt mg) (F:GF K mg "_law_rule" (i7 70) f fd):qY P w K mg base (sH mo J):=
 u5 ["_law_half", "_law_side", "_law_ending", "_law_joining"] F (by wtm_at "p") (by wtm_at "f") (by unfold ic;wtm_at "M")
def Em (B:Blt mg) (F:GF K mg "divisor_of_two" (i7 5) f fd):qQ P w K mg base (K2):=
 u5 ["greater", "rest", "left_over"] F (by wtm_at "p") (by wtm_at "f") (by unfold eN;wtm_at "M")
def zh (J:qQ P w K mg base m0B) (B:Blt mg) (F:GF K mg "divisor" (i7 6) f fd):jM P w K mg base (U8 m0B):=
 u5 ["shared", "part"] F (by wtm_at "p") (by wtm_at "f") (by unfold eY;wtm_at "M")
def CQ (B:Blt mg) (F:GF K mg "is_whole" (i7 4) f fd):rN P w K mg base (bo):=
 u5 [] F (by wtm_at "p") (by wtm_at "f") fun L _ _ _ _ _ _ g J=>
 (D3 (E4 (tQ (Z8 Eb (by rfl) B.isinstance (by rfl) B.int lK (J4 (pv 0))) (mv (oG (Z8 uI (by rfl) B.isinstance (by rfl) B.bool jE (J4 (pv 0))))))))
def vH (J:jM P w K mg base m0h) (L:rN P w K mg base m0L) (B:Blt mg) (F:GF K mg "is_lowest" (i7 7) f fd):jH P w K mg base (nF m0h m0L):=
 u5 [] F (by wtm_at "p") (by wtm_at "f") fun U _ _ _ _ _ _ g M=>
 (A4 (N9 (WO.t (cW (T4 (U2 (EO.b (Z8 fm (by rfl) B.isinstance (by rfl) B.tuple W3 (J4 (pv 0)))))) (by wtm_at "W"))) (D3 (E4 U4)) P4) (A4 (N9 (T4 (U2 (EO.b (bX (dt rfl) bG (by rfl) B.all cD (bc (EO.b (FO.v (R6 (N':=["part"]) (idx:=[]) rfl (O9 (by rfl) .nil (by decide +kernel) rfl (by decide +kernel) (by rfl) .nil) (Q1 (bM (pv 0))) (fun _ _ _ _=>J5 (i:=0) (show List.Nodup (["part"]:List Str) by decide +kernel) rfl (Or.inl rfl)) (fun _ _ _ _ _=>N4) (fun _ _ _ _ _=>(by wtm_at "E"))))) X5))))) (D3 (E4 U4)) P4) (by wtm_at "S")))
def Bt (J:jH P w K mg base m0j) (B:Blt mg) (F:GF K mg "is_place" (i7 13) f fd):rP P w K mg base (rL m0j):=
 u5 [] F (by wtm_at "p") (by wtm_at "f") (by unfold fK;wtm_at "M")
def FR (J:rP P w K mg base m0N) (B:Blt mg) (F:GF K mg "are_places" (i7 28) f fd):rW P w K mg base (tq m0N):=
 u5 ["fewest", "most"] F (by wtm_at "p") (by wtm_at "f") fun M _ _ _ _ _ _ g L=>
 (A4 (N9 (T4 (U2 (EO.b (Z8 fm (by rfl) B.isinstance (by rfl) B.tuple W3 (by wtm_at "B"))))) (D3 (E4 U4)) P4) (A4 (by wtm_at "s") (A4 (by wtm_at "s") (A4 (by wtm_at "s") (D3 (E4 (bX (dt rfl) bG (by rfl) B.all cD (bc (EO.b (FO.v (R6 (N':=["one"]) (idx:=[]) rfl (O9 (by rfl) .nil (by decide +kernel) rfl (by decide +kernel) (by rfl) .nil) (Q1 (by wtm_at "E")) (fun _ _ _ _=>J5 (i:=0) (show List.Nodup (["one"]:List Str) by decide +kernel) rfl (Or.inl rfl)) (fun _ _ _ _ _=>N4) (fun _ _ _ _ _=>(by wtm_at "E"))))) X5))))))))
def AU (B:Blt mg) (F:GF K mg "neighbours" (i7 21) f fd):jq P w K mg base (R5):=
 u5 [] F (by wtm_at "p") (by wtm_at "f") fun L _ _ _ _ _ _ g J=>
 (A4 (N9 (by wtm_at "T") (D3 (E4 (FO.v (uy rfl (by rfl) B.list (by rfl) B.zip (by wtm_at "a"))))) P4) (D3 (E4 (FO.v (uy rfl (by rfl) B.list (by rfl) B.zip (by wtm_at "a"))))))
def wg (J:jq P w K mg base m0b) (B:Blt mg) (F:GF K mg "pieces" (i7 32) f fd):ke P w K mg base (oC m0b):=
 u5 [] F (by wtm_at "p") (by wtm_at "f") (by unfold dX;wtm_at "M")
def zJ (J:ke P w K mg base m0c) (B:Blt mg) (F:GF K mg "goes_somewhere" (i7 29) f fd):pb P w K mg base (nX m0c):=
 u5 [] F (by wtm_at "p") (by wtm_at "f") fun M _ _ _ _ _ _ g L=>
 (D3 (E4 (bX (dt rfl) bG (by rfl) B.all cD (bc (EO.b (FO.v (Dd (caps:=[]) (idx:=[]) rfl (CH (by rfl) .nil (by decide +kernel) rfl (by decide +kernel) (by rfl) .nil) (Q1 (by wtm_at "E")) (show List.Nodup (["a", "b"]:List Str) by decide +kernel) (fun _ _ _ _=>rfl) (fun _ _ _ _=>rfl) (fun _ _ _ _ _=>N4) (fun _ _ _ _ _=>(by wtm_at "E"))))) X5))))
def Cc (B:Blt mg) (F:GF K mg "sign" (i7 18) f fd):pO P w K mg base (dR):=
 u5 [] F (by wtm_at "p") (by wtm_at "f") (by unfold bj;wtm_at "M")
def uX (J:pO P w K mg base m0M) (B:Blt mg) (F:GF K mg "turn" (i7 19) f fd):md P w K mg base (rO m0M):=
 u5 ["spread"] F (by wtm_at "p") (by wtm_at "f") (by unfold eC;wtm_at "M")
def FN (B:Blt mg) (F:GF K mg "is_lesser" (i7 17) f fd):qE P w K mg base (gW):=
 u5 ["here", "there"] F (by wtm_at "p") (by wtm_at "f") (by unfold cJ;wtm_at "M")
def GV (J:qE P w K mg base m0F) (L:md P w K mg base m0O) (B:Blt mg) (F:GF K mg "goes_on" (i7 22) f fd):ui P w K mg base (nH m0F m0O):=
 u5 [] F (by wtm_at "p") (by wtm_at "f") (by unfold cU;wtm_at "M")
def Bz (J:ui P w K mg base m0C) (L:jq P w K mg base m0b) (M:ke P w K mg base m0c) (B:Blt mg) (F:GF K mg "turns_everywhere" (i7 30) f fd):tU P w K mg base (lS m0C m0b m0c):=
 u5 ["one", "other"] F (by wtm_at "p") (by wtm_at "f") (by unfold fS;wtm_at "M")
def vX (L:tU P w K mg base m0P) (M:pb P w K mg base m0Q) (J:rW P w K mg base m0R) (B:Blt mg) (F:GF K mg "is_line" (i7 27) f fd):lu P w K mg base (nJ m0P m0Q m0R):=
 u5 [] F (by wtm_at "p") (by wtm_at "f") fun W _ _ _ _ _ _ g U=>
 (A4 (N9 (WO.t (cW (T4 (U2 (EO.b (Z8 fm (by rfl) B.isinstance (by rfl) B.tuple W3 (J4 (pv 0)))))) (cW (by wtm_at "T") (qU (T4 (U2 (EO.b (Z8 uI (by rfl) B.isinstance (by rfl) B.bool jE (by wtm_at "B"))))))))) (D3 (E4 U4)) P4) (by wtm_at "S"))
def Ax (B:Blt mg) (F:GF K mg "whole_text" (i7 40) f fd):rf P w K mg base (bb):=
 u5 ["rest", "told"] F (by wtm_at "p") (by wtm_at "f") fun J _ _ _ _ _ _ g L=>
 (A4 (by wtm_at "s") (A4 (by wtm_at "s") (A4 (pw Jv (by wtm_at "T") (A4 (aj (i:=2) J rfl (by first | exact Or.inl rfl | exact Or.inr rfl) (si uh oM (EO.b (Dw (by wtm_at "B") (EO.b et))) (J4 (pv 2)))) (by wtm_at "S"))) (by wtm_at "S"))))
def Hl (J:rf P w K mg base m0o) (B:Blt mg) (F:GF K mg "fraction_text" (i7 39) f fd):gs P w K mg base (uw m0o):=
 u5 [] F (by wtm_at "p") (by wtm_at "f") (by unfold gO;wtm_at "M")
def FC (J:jM P w K mg base m0h) (B:Blt mg) (F:GF K mg "lowest" (i7 8) f fd):jd P w K mg base (sL m0h):=
 u5 ["shared"] F (by wtm_at "p") (by wtm_at "f") fun M _ _ _ _ _ _ g L=>
 (A4 (by wtm_at "s") (A4 (by wtm_at "s") (D3 (E4 (cF gv dQ (by rfl) B.tuple W3 (bc (EO.b (FO.v (R6 (N':=["part", "shared"]) (idx:=[1]) rfl (O9 (by rfl) (.cons rfl .nil) (by decide +kernel) rfl (by decide +kernel) (by rfl) (.cons rfl (by first | exact Or.inl rfl | exact Or.inr rfl) (by first | exact Or.inl rfl | exact Or.inr rfl) .nil)) (Q1 (bM (pv 0))) (fun _ _ _ _=>J5 (i:=0) (show List.Nodup (["part", "shared"]:List Str) by decide +kernel) rfl (Or.inl rfl)) (fun _ _ _ _ _=>N4) (fun _ _ _ _ _=>(by wtm_at "E"))))) X5))))))
def zu (J:jd P w K mg base m0i) (B:Blt mg) (F:GF K mg "fraction" (i7 10) f fd):iY P w K mg base (uf m0i):=
 u5 [] F (by wtm_at "p") (by wtm_at "f") (by unfold jh;wtm_at "M")
def AQ (J:iY P w K mg base m0l) (B:Blt mg) (F:GF K mg "up" (i7 16) f fd):mL P w K mg base (gL m0l):=
 u5 [] F (by wtm_at "p") (by wtm_at "f") (by unfold fk;wtm_at "M")
def AV (J:iY P w K mg base m0l) (B:Blt mg) (F:GF K mg "across" (i7 15) f fd):rY P w K mg base (gc m0l):=
 u5 [] F (by wtm_at "p") (by wtm_at "f") (by unfold gF;wtm_at "M")
def Fm (L:gs P w K mg base m01) (J:rY P w K mg base m0G) (M:mL P w K mg base m0H) (B:Blt mg) (F:GF K mg "place_text" (i7 41) f fd):lx P w K mg base (nv m01 m0G m0H):=
 u5 [] F (by wtm_at "p") (by wtm_at "f") (by unfold gQ;wtm_at "M")
def DU (B:Blt mg) (F:GF K mg "_law_number_text" (i7 71) f fd):dN P w K mg base (L7):=
 u5 [] F (by wtm_at "p") (by wtm_at "f") (by unfold eV;wtm_at "M")
def xw (J:eB P w K mg base m02) (L:dN P w K mg base m04) (B:Blt mg) (F:GF K mg "_law_place_text" (i7 72) f fd):kP P w K mg base (rK m02 m04):=
 u5 [] F (by wtm_at "p") (by wtm_at "f") fun U _ _ _ _ _ _ g M=>
 (D3 (E4 (dc (by wtm_at "B") (EO.b (FO.v (R6 (N':=["_law_number_here"]) (idx:=[]) rfl (O9 (by rfl) .nil (by decide +kernel) rfl (by decide +kernel) (by rfl) .nil) (Q1 (by wtm_at "E")) (fun _ _ _ _=>J5 (i:=0) (show List.Nodup (["_law_number_here"]:List Str) by decide +kernel) rfl (Or.inl rfl)) (fun _ _ _ _ _=>N4) (fun _ _ _ _ _=>(by wtm_at "E"))))))))
def yI (J:kP P w K mg base m08) (B:Blt mg) (F:GF K mg "_law_line_text" (i7 73) f fd):mB P w K mg base (mr m08):=
 u5 [] F (by wtm_at "p") (by wtm_at "f") fun M _ _ _ _ _ _ g L=>
 (D3 (E4 (dc (by wtm_at "B") (EO.b (FO.v (cY aY bH (by wtm_at "B") (EO.b (FO.v (R6 (N':=["_law_one"]) (idx:=[]) rfl (O9 (by rfl) .nil (by decide +kernel) rfl (by decide +kernel) (by rfl) .nil) (Q1 (by wtm_at "E")) (fun _ _ _ _=>J5 (i:=0) (show List.Nodup (["_law_one"]:List Str) by decide +kernel) rfl (Or.inl rfl)) (fun _ _ _ _ _=>N4) (fun _ _ _ _ _=>(by wtm_at "E")))))))))))
def Gb (J:gs P w K mg base m01) (B:Blt mg) (F:GF K mg "rule_text" (i7 43) f fd):pV P w K mg base (um m01):=
 u5 [] F (by wtm_at "p") (by wtm_at "f") fun M _ _ _ _ _ _ g L=>
 (D3 (E4 (dc (by wtm_at "B") (by wtm_at "B"))))
def Es (J:dN P w K mg base m04) (B:Blt mg) (F:GF K mg "_law_rule_text" (i7 74) f fd):qt P w K mg base (oX m04):=
 u5 [] F (by wtm_at "p") (by wtm_at "f") fun M _ _ _ _ _ _ g L=>
 (D3 (E4 (dc (by wtm_at "B") (EO.b (FO.v (cY aY bH (EO.b (FO.v (cY aY bH (by wtm_at "B") (EO.b (FO.v (xg xk GW (by rfl) B.list nS (by wtm_at "a"))))))) (by wtm_at "B")))))))
def FU (L:Con K mg "FIGURES" (.str "0123456789")) (M:Con K mg "MOST_FIGURES" (.int 4)) (B:Blt mg) (F:GF K mg "read_figures" (i7 44) f fd):lh P w K mg base (T6):=
 u5 [] F (by wtm_at "p") (by wtm_at "f") fun U _ _ _ _ _ _ g J=>
 (A4 (by wtm_at "s") (A4 (N9 (T4 (U2 (EO.b (bX (dt rfl) bG (by rfl) B.all cD (bc (EO.b (FO.v (R6 (N':=["figure"]) (idx:=[]) rfl (O9 (by rfl) .nil (by decide +kernel) rfl (by decide +kernel) (by rfl) .nil) (yR (bM (pv 0))) (fun _ _ _ _=>J5 (i:=0) (show List.Nodup (["figure"]:List Str) by decide +kernel) rfl (Or.inl rfl)) (fun _ _ _ _ _=>N4) (fun _ _ _ _ _=>(lR xT FP (J4 (pv 0)) (by wtm_at "B") (by rfl)))))) X5))))) (by wtm_at "S") P4) (A4 (N9 (WO.t (sj (mC (uk (cH J)) rE (EO.b (sC Gv Aq (J4 (pv 0)) (EO.b et) (fun _ _=>rfl))) (by wtm_at "B") (jb _)) (by wtm_at "W"))) (by wtm_at "S") P4) (D3 (E4 (cF BF yV (by rfl) B.int lK (by wtm_at "a")))))))
def zw (J:lh P w K mg base m0d) (B:Blt mg) (F:GF K mg "read_whole" (i7 45) f fd):lU P w K mg base (uE m0d):=
 u5 ["number"] F (by wtm_at "p") (by wtm_at "f") fun M _ _ _ _ _ _ g L=>
 (A4 (N9 (T4 (U2 (EO.b (xM (J4 (pv 0)) (by wtm_at "B"))))) (by wtm_at "S") P4) (A4 (aj (i:=1) M rfl (by first | exact Or.inl rfl | exact Or.inr rfl) (mJ J _ L #[] (by rfl) (ac (CZ (J4 (pv 0)) (by wtm_at "O") rb) aB) (uv pM))) (by wtm_at "S")))
def xJ (J:jH P w K mg base m0j) (B:Blt mg) (F:GF K mg "is_fraction" (i7 9) f fd):kQ P w K mg base (nr m0j):=
 u5 [] F (by wtm_at "p") (by wtm_at "f") (by unfold fQ;wtm_at "M")
def CN (J:kQ P w K mg base m0e) (M:lh P w K mg base m0d) (U:lU P w K mg base m0I) (B:Blt mg) (F:GF K mg "read_fraction" (i7 46) f fd):kN P w K mg base (oU m0e m0d m0I):=
 u5 ["parts", "top", "bottom"] F (by wtm_at "p") (by wtm_at "f") fun L _ _ _ _ _ _ g W=>
 (A4 (aj (i:=1) L rfl (by first | exact Or.inl rfl | exact Or.inr rfl) (eR (J4 (pv 0)) (by wtm_at "B"))) (by wtm_at "S"))
def GU (L:kN P w K mg base m0g) (J:Con K mg "FRACTION_PARTS" (.tup [(.int 0),(.int 4)])) (B:Blt mg) (F:GF K mg "with_part" (i7 51) f fd):ny P w K mg base (uC m0g):=
 u5 ["part"] F (by wtm_at "p") (by wtm_at "f") (by unfold X8;wtm_at "M")
def Bp (B:Blt mg) (F:GF K mg "is_below" (i7 11) f fd):tX P w K mg base (eT):=
 u5 [] F (by wtm_at "p") (by wtm_at "f") (by unfold eD;wtm_at "M")
def vE (M:tX P w K mg base m0E) (L:kQ P w K mg base m0e) (J:Con K mg "JOININGS" (.tup [(.str "cut"),(.str "pointed"),(.str "round")])) (W:Con K mg "ENDINGS" (.tup [(.str "cut"),(.str "square"),(.str "round")])) (U:Con K mg "SIDES" (.tup [(.str "both"),(.str "left"),(.str "right")])) (B:Blt mg) (F:GF K mg "is_rule" (i7 31) f fd):sS P w K mg base (qI m0E m0e):=
 u5 [] F (by wtm_at "p") (by wtm_at "f") fun Z _ _ _ _ _ _ g Y=>
 (A4 (N9 (WO.t (cW (T4 (U2 (EO.b (Z8 fm (by rfl) B.isinstance (by rfl) B.tuple W3 (J4 (pv 0)))))) (by wtm_at "W"))) (D3 (E4 U4)) P4) (by wtm_at "S"))
def yD (J:sS P w K mg base m0p) (M:ny P w K mg base m0q) (U:Con K mg "ANY_RULE" (.tup [(.tup [(.int 1),(.int 1)]),(.str "both"),(.str "cut"),(.str "cut"),(.tup [(.int 1),(.int 1)])])) (B:Blt mg) (F:GF K mg "read_rule" (i7 50) f fd):pS P w K mg base (oi m0p m0q):=
 u5 ["words", "rule", "number"] F (by wtm_at "p") (by wtm_at "f") fun L _ _ _ _ _ _ g W=>
 (A4 (aj (i:=1) L rfl (by first | exact Or.inl rfl | exact Or.inr rfl) (eR (J4 (pv 0)) (by wtm_at "B"))) (by wtm_at "S"))
def AL (J:eB P w K mg base m02) (B:Blt mg) (F:GF K mg "_law_is_short" (i7 75) f fd):sT P w K mg base (me m02):=
 u5 ["_law_one", "_law_number_here"] F (by wtm_at "p") (by wtm_at "f") (by unfold gx;wtm_at "M")
def Ab (J:lx P w K mg base m09) (B:Blt mg) (F:GF K mg "line_text" (i7 42) f fd):mi P w K mg base (ux m09):=
 u5 [] F (by wtm_at "p") (by wtm_at "f") fun M _ _ _ _ _ _ g L=>
 (D3 (E4 (dc (by wtm_at "B") (EO.b (FO.v (cY aY bH (by wtm_at "B") (EO.b (FO.v (R6 (N':=["one"]) (idx:=[]) rfl (O9 (by rfl) .nil (by decide +kernel) rfl (by decide +kernel) (by rfl) .nil) (Q1 (by wtm_at "E")) (fun _ _ _ _=>J5 (i:=0) (show List.Nodup (["one"]:List Str) by decide +kernel) rfl (Or.inl rfl)) (fun _ _ _ _ _=>N4) (fun _ _ _ _ _=>(by wtm_at "E")))))))))))
def vy (J:jd P w K mg base m0i) (B:Blt mg) (F:GF K mg "place" (i7 14) f fd):uJ P w K mg base (cx m0i):=
 u5 [] F (by wtm_at "p") (by wtm_at "f") (by unfold gI;wtm_at "M")
def Cv (J:uJ P w K mg base m0J) (M:kN P w K mg base m0g) (B:Blt mg) (F:GF K mg "read_place" (i7 47) f fd):qr P w K mg base (oK m0J m0g):=
 u5 ["parts"] F (by wtm_at "p") (by wtm_at "f") fun L _ _ _ _ _ _ g U=>
 (A4 (Gd (i:=1) L rfl (by first | exact Or.inl rfl | exact Or.inr rfl) (vf (N':=["part"]) (idx:=[]) rfl (O9 (by rfl) .nil (by decide +kernel) rfl (by decide +kernel) (by rfl) .nil) (Q1 (eR (J4 (pv 0)) (by wtm_at "B"))) (fun _ _ _ _=>J5 (i:=0) (show List.Nodup (["part"]:List Str) by decide +kernel) rfl (Or.inl rfl)) (fun _ _ _ _ _=>N4) (fun _ _ _ _ _=>(by wtm_at "E")))) (by wtm_at "S"))
def wd (J:qr P w K mg base m0r) (L:Con K mg "TENTH_PLACE" (.int 10)) (B:Blt mg) (F:GF K mg "read_places" (i7 49) f fd):oo P w K mg base (qz m0r):=
 u5 ["told", "number", "one"] F (by wtm_at "p") (by wtm_at "f") (by unfold eM;wtm_at "M")
def yb (M:lu P w K mg base m0a) (J:oo P w K mg base m0K) (B:Blt mg) (F:GF K mg "read_line" (i7 48) f fd):ue P w K mg base (ow m0a m0K):=
 u5 ["words", "closed", "places", "line"] F (by wtm_at "p") (by wtm_at "f") fun L _ _ _ _ _ _ g U=>
 (A4 (aj (i:=1) L rfl (by first | exact Or.inl rfl | exact Or.inr rfl) (eR (J4 (pv 0)) (by wtm_at "B"))) (by wtm_at "S"))
def u0:FnScope ["_law_script", "_law_feed_here", "_law_k", "_law_line_here", "_law_rule_here", "_law_number_here", "_law_kept", "_law_text"] ["_law_script"] (C9 (i7 76)):=by wtm_at "f"
def DK (C0l:lu P w K mg base m0a) (Y:ue P w K mg base m0s) (C0T:sT P w K mg base m0t) (C0U:mi P w K mg base m0u) (C0V:mB P w K mg base m0v) (C0W:pS P w K mg base m0w) (C0X:qt P w K mg base m0m) (C0k:lx P w K mg base m09) (C0h:kP P w K mg base m08) (U:pV P w K mg base m0x) (C03:gs P w K mg base m01) (C04:dN P w K mg base m04) (W:ka P w K mg base m06) (L:qY P w K mg base m0y) (Cl:X4 P w K mg base mo) (Z:dJ P w K mg base m03) (C10:oY P w K mg base m0z) (C11:oz P w K mg base m0A) {f:Addr}(B:Blt mg) (F:Fun K "law" "law" (i7 76) f fd):eG P w K mg base 9 f fd ["_law_script"] (ji m0a m0s m0t m0u m0v m0w m0m m09 m08 m0x m01 m04 m06 m0y mo m03 m0z m0A):=
 uc F u0 fun M A J s H E g hr=>
  have nd:=u0.nd
  (A4 (by wtm_at "s") (A4 (tE Jv rfl (by rfl) B.range et (by wtm_at "G") (A4 (by wtm_at "s") (A4 (N9 (by wtm_at "T") (D3 (aj (i:=3) nd rfl (by first | exact Or.inl rfl | exact Or.inr rfl) (kE (ac U4 (ac (cF gv dQ (by rfl) B.tuple W3 (bc (EO.b (FO.v (R6 (N':=["_law_j", "_law_feed_here"]) (idx:=[1]) rfl (O9 (by rfl) (.cons rfl .nil) (by decide +kernel) rfl (by decide +kernel) (by rfl) (.cons rfl (by first | exact Or.inl rfl | exact Or.inr rfl) (by first | exact Or.inl rfl | exact Or.inr rfl) .nil)) (zE (by rfl) B.range (by wtm_at "E")) (fun _ _ _ _=>J5 (i:=0) (show List.Nodup (["_law_j", "_law_feed_here"]:List Str) by decide +kernel) rfl (Or.inl rfl)) (fun _ _ _ _ _=>N4) (fun _ _ _ _ _=>(by wtm_at "E"))))) X5)) aB))))) P4) (by wtm_at "S")))) (D3 (E4 U4))))
end
end T
namespace T
open PySem PySem.Spec L2 DL
abbrev whole:a8:=ji Q8 bp aI bE aG bF ag Y5 V7 bC Q2 L7 LN gj C2 G7 aZ bI
set_option autoImplicit true in
set_option relaxedAutoImplicit true in
def all_mk {l:PySem.W.OpenLaw}{w:World}{K:vF_}{h:Heap}{fa:Addr}(X:K.In h) (G:h.Ns mainGlobals mg) (hfa:mg "law" = some (.ref fa))
  (g1:GF K mg "_law_feed" (i7 53) jf1 jd1)
  (g2:GF K mg "_law_fraction" (i7 55) jf2 jd2)
  (g3:GF K mg "_law_draw" (i7 54) jf3 jd3)
  (g4:GF K mg "_law_product" (i7 57) jf4 jd4)
  (g5:GF K mg "_law_way" (i7 65) jf5 jd5)
  (g6:GF K mg "_law_at" (i7 59) jf6 jd6)
  (g7:GF K mg "_law_number" (i7 63) jf7 jd7)
  (g8:GF K mg "_law_place" (i7 64) jf8 jd8)
  (g9:GF K mg "_law_xy" (i7 60) jf9 jd9)
  (g10:GF K mg "_law_sum" (i7 56) jf10 jd10)
  (g11:GF K mg "_law_gone" (i7 61) jf11 jd11)
  (g12:GF K mg "_law_closed_line" (i7 68) jf12 jd12)
  (g13:GF K mg "_law_minus" (i7 58) jf13 jd13)
  (g14:GF K mg "_law_goes_on" (i7 66) jf14 jd14)
  (g15:GF K mg "_law_open_line" (i7 67) jf15 jd15)
  (g16:GF K mg "_law_line" (i7 69) jf16 jd16)
  (g17:GF K mg "_law_rule" (i7 70) jf17 jd17)
  (g18:GF K mg "divisor_of_two" (i7 5) jf18 jd18)
  (g19:GF K mg "divisor" (i7 6) jf19 jd19)
  (g20:GF K mg "is_whole" (i7 4) jf20 jd20)
  (g21:GF K mg "is_lowest" (i7 7) jf21 jd21)
  (g22:GF K mg "is_place" (i7 13) jf22 jd22)
  (g23:GF K mg "are_places" (i7 28) jf23 jd23)
  (g24:GF K mg "neighbours" (i7 21) jf24 jd24)
  (g25:GF K mg "pieces" (i7 32) jf25 jd25)
  (g26:GF K mg "goes_somewhere" (i7 29) jf26 jd26)
  (g27:GF K mg "sign" (i7 18) jf27 jd27)
  (g28:GF K mg "turn" (i7 19) jf28 jd28)
  (g29:GF K mg "is_lesser" (i7 17) jf29 jd29)
  (g30:GF K mg "goes_on" (i7 22) jf30 jd30)
  (g31:GF K mg "turns_everywhere" (i7 30) jf31 jd31)
  (g32:GF K mg "is_line" (i7 27) jf32 jd32)
  (g33:GF K mg "whole_text" (i7 40) jf33 jd33)
  (g34:GF K mg "fraction_text" (i7 39) jf34 jd34)
  (g35:GF K mg "lowest" (i7 8) jf35 jd35)
  (g36:GF K mg "fraction" (i7 10) jf36 jd36)
  (g37:GF K mg "up" (i7 16) jf37 jd37)
  (g38:GF K mg "across" (i7 15) jf38 jd38)
  (g39:GF K mg "place_text" (i7 41) jf39 jd39)
  (g40:GF K mg "_law_number_text" (i7 71) jf40 jd40)
  (g41:GF K mg "_law_place_text" (i7 72) jf41 jd41)
  (g42:GF K mg "_law_line_text" (i7 73) jf42 jd42)
  (g43:GF K mg "rule_text" (i7 43) jf43 jd43)
  (g44:GF K mg "_law_rule_text" (i7 74) jf44 jd44)
  (g45:GF K mg "read_figures" (i7 44) jf45 jd45)
  (g46:GF K mg "read_whole" (i7 45) jf46 jd46)
  (g47:GF K mg "is_fraction" (i7 9) jf47 jd47)
  (g48:GF K mg "read_fraction" (i7 46) jf48 jd48)
  (g49:GF K mg "with_part" (i7 51) jf49 jd49)
  (g50:GF K mg "is_below" (i7 11) jf50 jd50)
  (g51:GF K mg "is_rule" (i7 31) jf51 jd51)
  (g52:GF K mg "read_rule" (i7 50) jf52 jd52)
  (g53:GF K mg "_law_is_short" (i7 75) jf53 jd53)
  (g54:GF K mg "line_text" (i7 42) jf54 jd54)
  (g55:GF K mg "place" (i7 14) jf55 jd55)
  (g56:GF K mg "read_place" (i7 47) jf56 jd56)
  (g57:GF K mg "read_places" (i7 49) jf57 jd57)
  (g58:GF K mg "read_line" (i7 48) jf58 jd58)
  (g59:GF K mg "law" (i7 76) jf59 jd59)
  (g_FIGURES:PySem.W.nsIn K mainGlobals "FIGURES" = some (some (.str "0123456789" t_FIGURES_1)))
  (M:PySem.W.nsIn K mainGlobals "MOST_FIGURES" = some (some (.int 4 t_MOST_FIGURES_1)))
  (L:PySem.W.nsIn K mainGlobals "FRACTION_PARTS" = some (some (.ref p_FRACTION_PARTS_1)))
  (J:K.lookup p_FRACTION_PARTS_1=some #[.type "tuple",od_FRACTION_PARTS_1,.seq (List.toArray [(.int 0 t_FRACTION_PARTS_2),(.int 4 t_FRACTION_PARTS_3)]) n_FRACTION_PARTS_1,sl_FRACTION_PARTS_1])
  (g_JOININGS:PySem.W.nsIn K mainGlobals "JOININGS" = some (some (.ref p_JOININGS_1)))
  (Y:K.lookup p_JOININGS_1=some #[.type "tuple",od_JOININGS_1,.seq (List.toArray [(.str "cut" t_JOININGS_2),(.str "pointed" t_JOININGS_3),(.str "round" t_JOININGS_4)]) n_JOININGS_1,sl_JOININGS_1])
  (g_ENDINGS:PySem.W.nsIn K mainGlobals "ENDINGS" = some (some (.ref p_ENDINGS_1)))
  (L_ENDINGS_1:K.lookup p_ENDINGS_1=some #[.type "tuple",od_ENDINGS_1,.seq (List.toArray [(.str "cut" t_ENDINGS_2),(.str "square" t_ENDINGS_3),(.str "round" t_ENDINGS_4)]) n_ENDINGS_1,sl_ENDINGS_1])
  (g_SIDES:PySem.W.nsIn K mainGlobals "SIDES" = some (some (.ref p_SIDES_1)))
  (L_SIDES_1:K.lookup p_SIDES_1=some #[.type "tuple",od_SIDES_1,.seq (List.toArray [(.str "both" t_SIDES_2),(.str "left" t_SIDES_3),(.str "right" t_SIDES_4)]) n_SIDES_1,sl_SIDES_1])
  (g_ANY_RULE:PySem.W.nsIn K mainGlobals "ANY_RULE" = some (some (.ref p_ANY_RULE_1)))
  (L_ANY_RULE_1:K.lookup p_ANY_RULE_1=some #[.type "tuple",od_ANY_RULE_1,.seq (List.toArray [(.ref p_ANY_RULE_2),(.str "both" t_ANY_RULE_5),(.str "cut" t_ANY_RULE_6),(.str "cut" t_ANY_RULE_7),(.ref p_ANY_RULE_8)]) n_ANY_RULE_1,sl_ANY_RULE_1])
  (L_ANY_RULE_2:K.lookup p_ANY_RULE_2=some #[.type "tuple",od_ANY_RULE_2,.seq (List.toArray [(.int 1 t_ANY_RULE_3),(.int 1 t_ANY_RULE_4)]) n_ANY_RULE_2,sl_ANY_RULE_2])
  (Z:K.lookup p_ANY_RULE_8=some #[.type "tuple",od_ANY_RULE_8,.seq (List.toArray [(.int 1 t_ANY_RULE_9),(.int 1 t_ANY_RULE_10)]) n_ANY_RULE_8,sl_ANY_RULE_8])
  (U:PySem.W.nsIn K mainGlobals "TENTH_PLACE" = some (some (.int 10 t_TENTH_PLACE_1)))
  (B:Blt mg) :
  ∃fd:FuncData,(∀(s:Shared) (v:Value),BindsTo s fd #[[v],[]] [("_law_script",v)])/\∀base:Heap,K.In base->base.Ns mainGlobals mg->FnOk l.prog w K mg base O8 9 fa fd ["_law_script"] (bf K 1 whole):=by
 have e:=hfa.symm.trans g59.m;cases e;refine#[jd59,Ew g59.F fun _ _ _ _ _ _ _ _=>.of_eq rfl,fun base _ _=>?_];have C0D:Con K mg "FIGURES" (.str "0123456789"):=#[_,IB X G g_FIGURES,(L4 _ _ (by decide +kernel))]
 have C0E:Con K mg "MOST_FIGURES" (.int 4):=#[_,IB X G M,(W2 _ _)]
 have C0G:Con K mg "FRACTION_PARTS" (.tup [(.int 0),(.int 4)]):=#[_,IB X G L,(ah J (E9 (W2 _ _) (E9 (W2 _ _) aw)) (show 2<=sizeLine by decide))]
 have C0I:Con K mg "JOININGS" (.tup [(.str "cut"),(.str "pointed"),(.str "round")]):=#[_,IB X G g_JOININGS,(ah Y (E9 (L4 _ _ (by decide +kernel)) (E9 (L4 _ _ (by decide +kernel)) (E9 (L4 _ _ (by decide +kernel)) aw))) (show 3<=sizeLine by decide))]
 have C0J:Con K mg "ENDINGS" (.tup [(.str "cut"),(.str "square"),(.str "round")]):=#[_,IB X G g_ENDINGS,(ah L_ENDINGS_1 (E9 (L4 _ _ (by decide +kernel)) (E9 (L4 _ _ (by decide +kernel)) (E9 (L4 _ _ (by decide +kernel)) aw))) (show 3<=sizeLine by decide))]
 have C0K:Con K mg "SIDES" (.tup [(.str "both"),(.str "left"),(.str "right")]):=#[_,IB X G g_SIDES,(ah L_SIDES_1 (E9 (L4 _ _ (by decide +kernel)) (E9 (L4 _ _ (by decide +kernel)) (E9 (L4 _ _ (by decide +kernel)) aw))) (show 3<=sizeLine by decide))]
 have C0N:Con K mg "ANY_RULE" (.tup [(.tup [(.int 1),(.int 1)]),(.str "both"),(.str "cut"),(.str "cut"),(.tup [(.int 1),(.int 1)])]):=#[_,IB X G g_ANY_RULE,(ah L_ANY_RULE_1 (E9 (ah L_ANY_RULE_2 (E9 (W2 _ _) (E9 (W2 _ _) aw)) (show 2<=sizeLine by decide)) (E9 (L4 _ _ (by decide +kernel)) (E9 (L4 _ _ (by decide +kernel)) (E9 (L4 _ _ (by decide +kernel)) (E9 (ah Z (E9 (W2 _ _) (E9 (W2 _ _) aw)) (show 2<=sizeLine by decide)) aw))))) (show 5<=sizeLine by decide))]
 have C0Q:Con K mg "TENTH_PLACE" (.int 10):=#[_,IB X G U,(W2 _ _)]
 have C11:=CV (P:=l.prog) (w:=w) (base:=base) B g1;have Ch:=CJ (P:=l.prog) (w:=w) (base:=base) B g2;have Cl:=Fe (P:=l.prog) (w:=w) (base:=base) B g3;have C00:=xv Ch B g4;have C0a:=yC C00 Ch Cl B g5;have C06:=Co Ch B g6;have C07:=Eo Ch Cl B g7;have C02:=zD C06 C07 B g8;have C01:=xW Ch B g9;have C08:=wq Ch B g10;have C09:=vS C06 C08 C01 B g11;have C0o:=Eu Cl C09 C00 Ch C0a C02 B g12;have C0n:=ES (P:=l.prog) (w:=w) (base:=base) B g13;have C0m:=yp C08 C00 B g14;have C0p:=xF C0m C09 Cl C0n C0a C02 B g15;have C10:=Dv Cl C0o C0p B g16;have C0Z:=zN Cl Ch B g17;have C0q:=Em (P:=l.prog) (w:=w) (base:=base) B g18;have C0b:=zh C0q B g19;have C0r:=CQ (P:=l.prog) (w:=w) (base:=base) B g20;have C0c:=vH C0b C0r B g21;have C0s:=Bt C0c B g22;have C0z:=FR C0s B g23;have C0d:=AU (P:=l.prog) (w:=w) (base:=base) B g24;have C0e:=wg C0d B g25;have C0y:=zJ C0e B g26;have C0t:=Cc (P:=l.prog) (w:=w) (base:=base) B g27;have C0v:=uX C0t B g28;have C0u:=FN (P:=l.prog) (w:=w) (base:=base) B g29;have C0w:=GV C0u C0v B g30;have C0x:=Bz C0w C0d C0e B g31;have C0l:=vX C0x C0y C0z B g32;have C0A:=Ax (P:=l.prog) (w:=w) (base:=base) B g33;have C03:=Hl C0A B g34;have C0f:=FC C0b B g35;have C0g:=zu C0f B g36;have C0C:=AQ C0g B g37;have C0B:=AV C0g B g38;have C0k:=Fm C03 C0B C0C B g39;have C04:=DU (P:=l.prog) (w:=w) (base:=base) B g40;have C0h:=xw C01 C04 B g41;have C0V:=yI C0h B g42;have C0Y:=Gb C03 B g43;have C0X:=Es C04 B g44;have C05:=FU (P:=l.prog) (w:=w) (base:=base) C0D C0E B g45;have C0F:=zw C05 B g46;have C0i:=xJ C0c B g47;have C0j:=CN C0i C05 C0F B g48;have C0M:=GU C0j C0G B g49;have C0H:=Bp (P:=l.prog) (w:=w) (base:=base) B g50;have C0L:=vE C0H C0i C0I C0J C0K B g51;have C0W:=yD C0L C0M C0N B g52;have C0T:=AL C01 B g53;have C0U:=Ab C0k B g54;have C0O:=vy C0f B g55;have C0P:=Cv C0O C0j B g56;have C0R:=wd C0P C0Q B g57;have C0S:=yb C0l C0R B g58;exact DK C0l C0S C0T C0U C0V C0W C0X C0k C0h C0Y C03 C04 C07 C0Z Cl C02 C10 C11 B g59.F
end T
abbrev GK:=@DL.gf_mk
end
open PySem PySem.W PyProof.Rows
set_option maxRecDepth 100000 in
set_option maxHeartbeats 0 in
theorem PySem.Challenge.cw_widelines_k70_texts_holds : PySem.Challenge.rw_widelines_k70_texts.Holds := by
 w_on; o_law; k_head; (case hw=>w_witness2)
 k_fill
 refine DL.walkD (l:=PySem.Challenge.rw_widelines_k70_texts) (m:=T.whole) (k:=9) rfl rfl ⟨rfl,by decide,by decide,rfl⟩ (fun w h Y=>PySem.W.kIn_of Y) ?F T.math
 case F=>
  intro w mg fa h KX G hmg
  refine' T.all_mk KX G hmg (GK KX G ?_ ?_ ?_ ?_) (GK KX G ?_ ?_ ?_ ?_) (GK KX G ?_ ?_ ?_ ?_) (GK KX G ?_ ?_ ?_ ?_) (GK KX G ?_ ?_ ?_ ?_) (GK KX G ?_ ?_ ?_ ?_) (GK KX G ?_ ?_ ?_ ?_) (GK KX G ?_ ?_ ?_ ?_) (GK KX G ?_ ?_ ?_ ?_) (GK KX G ?_ ?_ ?_ ?_) (GK KX G ?_ ?_ ?_ ?_) (GK KX G ?_ ?_ ?_ ?_) (GK KX G ?_ ?_ ?_ ?_) (GK KX G ?_ ?_ ?_ ?_) (GK KX G ?_ ?_ ?_ ?_) (GK KX G ?_ ?_ ?_ ?_) (GK KX G ?_ ?_ ?_ ?_) (GK KX G ?_ ?_ ?_ ?_) (GK KX G ?_ ?_ ?_ ?_) (GK KX G ?_ ?_ ?_ ?_) (GK KX G ?_ ?_ ?_ ?_) (GK KX G ?_ ?_ ?_ ?_) (GK KX G ?_ ?_ ?_ ?_) (GK KX G ?_ ?_ ?_ ?_) (GK KX G ?_ ?_ ?_ ?_) (GK KX G ?_ ?_ ?_ ?_) (GK KX G ?_ ?_ ?_ ?_) (GK KX G ?_ ?_ ?_ ?_) (GK KX G ?_ ?_ ?_ ?_) (GK KX G ?_ ?_ ?_ ?_) (GK KX G ?_ ?_ ?_ ?_) (GK KX G ?_ ?_ ?_ ?_) (GK KX G ?_ ?_ ?_ ?_) (GK KX G ?_ ?_ ?_ ?_) (GK KX G ?_ ?_ ?_ ?_) (GK KX G ?_ ?_ ?_ ?_) (GK KX G ?_ ?_ ?_ ?_) (GK KX G ?_ ?_ ?_ ?_) (GK KX G ?_ ?_ ?_ ?_) (GK KX G ?_ ?_ ?_ ?_) (GK KX G ?_ ?_ ?_ ?_) (GK KX G ?_ ?_ ?_ ?_) (GK KX G ?_ ?_ ?_ ?_) (GK KX G ?_ ?_ ?_ ?_) (GK KX G ?_ ?_ ?_ ?_) (GK KX G ?_ ?_ ?_ ?_) (GK KX G ?_ ?_ ?_ ?_) (GK KX G ?_ ?_ ?_ ?_) (GK KX G ?_ ?_ ?_ ?_) (GK KX G ?_ ?_ ?_ ?_) (GK KX G ?_ ?_ ?_ ?_) (GK KX G ?_ ?_ ?_ ?_) (GK KX G ?_ ?_ ?_ ?_) (GK KX G ?_ ?_ ?_ ?_) (GK KX G ?_ ?_ ?_ ?_) (GK KX G ?_ ?_ ?_ ?_) (GK KX G ?_ ?_ ?_ ?_) (GK KX G ?_ ?_ ?_ ?_) (GK KX G ?_ ?_ ?_ ?_) ?_ ?_ ?_ ?_ ?_ ?_ ?_ ?_ ?_ ?_ ?_ ?_ ?_ ?_ ?_ (DL.blt_mk KX G ?_ ?_ ?_ ?_ ?_ ?_ ?_ ?_ ?_ ?_ ?_ ?_ ?_ ?_ ?_ ?_ ?_ ?_ ?_)
  all_goals try k_is
