import PyProof.Rows.All
import Wide.All
import OpenK.AllK
import Wide.FinOn
import Lean
import PyProof.EqAt
import PyProof.EqKinds
import PyProof.TupleCall
import PySem.Challenge.RW_widelines_k16_papers_of_places_judged
inductive PySem.W.Fast|tw12888789921690300604|tw4265736865970556855|tw33734703968478741|tw2391422518971804798|tw5048368850646861938|tw1755734733182512399|tw2431274342680977295|tw17076572779983314295|tw3885498636334120780|tw6930449770921441368|tw8716504492143557558|tw15019104762166449198|tw14723411073639861152|tw8556852136230475883|tw13519283032815903788|tw12570445567736334037|tw14176096428407082397|tw12617853316139310114|tw8679143384259552649|tw15690256214940380055|tw17501700241079111854|tw9319982978545580558|tw3861909041171490018|tw6319105304475020064|tw11187874972241840607|tw6683387978845266223|tw10892781576094190187|tw14842339945645613385|tw9022755587263951113|tw13184647771672413221|tw9501724880659944444|tw17663275930764337846|tw2722293193430071819|tw8784981492181552635|tw8028338286184213840|tw16993401512744348748|tw11700702272074111366|tw163423253908553832|tw7422248439646727616|tw7795480028790221275|tw9852340975206855885|tw6593194976833938488|tw14716347126317196427|tw9774766304305143969|tw991625740912198271|tw8982175722784980531|tw6529114830730883352|tw11965430970335320211|tw8636101787033248418|tw15831312807342844211|tw16600763787139044482|tw3690444914998570551|tw9469423245068204805|tw6147520150761536459|tw10134538336350700419|tw9369511708758082081|tw3873184514297507528|tw13266340167483354434|tw8560979536814793468|tw12656603514769388574|tw11081182391047333088|tw15789908991720450082|tw18396549992303378747|tw3276089668727706307|tw2491870824061584056|tw17993432699082676386|tw7258271291413250748|tw10766717668204219137|tw8610401637466066679|tw13949387640970734379|tw14641030429775901755|tw4999645605853722043|tw3180456564158865251|tw17279724589143692859|tw1902282172334349191|tw2942079404512323906|tw16599465605438448155|tw8395659164668887629|tw5685656280332353333|tw13771937788193048519|tw16562350345671261996|tw6069034623355482338|tw887142749669516802|tw8967558853313914298|tw7035132939483935975|tw1095300949960557000|tw13322777090483332739|tw4445697752574739613|tw4444773886409125308|tw2039227877926289702|tw9865881380326404068|tw3615519854721448234|tw11051390403099815459|tw3596703124752742620|tw15568739232281448391|tw174720333660913055|tw4916277947382925648|tw1037800475766818774|tw11190016235703283247|tw11287866230881832738|tw1925196877097473682|tw8865314600912237623|tw14945598491993223288|tw12849299888194799689|tw4993597832643408375|tw17558202428828115582|tw1056271037581363549|tw13188565725352006027|tw11996941615139752187|tw17077833025074672334|tw8742766504679539119|tw12573919802236252458|tw6229548401959481641|tw6726572809470192815|tw17662063974988047354|tw9235744417399649407|tw4069038378258063155|tw9663742518507674403|tw8354249400561437707|tw6650915386527753223|tw4654656858629089850|tw13326095067638974858|tw17121940494094649228|tw7157885407992262897|tw283622779181445068|tw13543266554431986556|tw10208429403719055181|tw16676868037151824403|tw15307489710871470396|tw5645238336544749280|tw11719769304405993127|tw10412040970315093810|tw6573743401230790015|tw5972288261177993452|tw2671741484485554741|tw4157156694284431677|tw1547837857770457227|tw7783056957939622034|tw6376255402393953814|tw670237198153916608|tw6886831226502751411|tw18215300392284810835|tw16508859012190965285|tw14541814782122201186|tw15173444980674882742|tw6632360457602044775|tw4257851405396649318|tw14853595387830811858|tw4172566765124172417|tw9207020740965125728|tw4246623780647736619|tw16777374599696532876|tw12325742177869850409|tw18180105141231828182|tw3230291353629352964|tw12725068188629933667|tw6510000137851650656|tw4230517927963105854|tw9703406490378115234|tw4341802634543407429|tw3387395772714286010|tw13870512907254473983|tw6007393184787931456|tw1595475620241958004|tw13164180998205502401|tw2484871080601753479|tw16609880222745884061|tw1497876284572205526|tw2152201995666137974|tw3246233179936144122|tw13532763015752529019|tw2044764077263935008|tw16030239167427214509|tw16402571449140119356|tw8594790759618839084|tw16811219079309190884|tw12244834862169691513|tw2210358063279324036|tw4549105119231561909|tw17726217780386400346|tw17023561282123220941|tw10717830447480849133|tw5068947230539525158|tw15464990403991893680|tw14724752277054408306|tw13040612487390406379|tw9799319800758997333|tw8702414700276991425|tw2894670483025964372|tw9051703482710757971|tw207989543178569886|tw14644532630435539830|tw10964486210047091191|tw14886539045999133529|tw14296871701020669052|tw11144824336419340151|tw9311506494788153175|tw1900401972110686677|tw17380967685846978069|tw13359829852807065696|tw11054487379569715744|tw6467391829190300674|tw17658511114571775308|tw1560757669192239369|tw14674045327428050725|tw437160954133872089|tw1965831440878505630|tw16823213518918200482|tw11070676648997114082|tw9517276865545515316|tw8599157528675011254|tw827125963922929514|tw7673932351306492867|tw6713879894022841577|tw6466986613657157241|tw6279075752630197290|tw4047318832648343770|tw3452500446910749923|tw2488653281142152584|tw18187378838611803343
local macro_rules | `(tactic| omega) => `(tactic| first | with_reducible assumption | decide | omega +splitMinMax)
theorem PySem.W.Fast.te4265736865970556855 : True := True.intro
set_option Elab.async false
set_option linter.all false
set_option maxRecDepth 100000
set_option bootstrap.genMatcherCode false
set_option genSizeOf false
set_option autoImplicit true
set_option relaxedAutoImplicit true
set_option maxHeartbeats 4000000
noncomputable section
section
set_option compiler.extract_closed false
set_option hygiene false in
local macro_rules | `(tactic|simp! [$a,*])=>`(tactic|simp[A0,A1,B0,B1,B2,B9,C0,Pw,Px,a8,a9,c8,d8,dB,dC,dL,dV,f9,i0,i4,i5,i6,i8,i9,j3,j4,j6,j7,j8,j9,l7,n8,o7,one,p9,t7,t9,u9,v7,w4,w6,$a,*])
set_option hygiene false in
local macro_rules | `(tactic|simp! [])=>`(tactic|simp[A0,A1,B0,B1,B2,B9,C0,Pw,Px,a8,a9,c8,d8,dB,dC,dL,dV,f9,i0,i4,i5,i6,i8,i9,j3,j4,j6,j7,j8,j9,l7,n8,o7,one,p9,t7,t9,u9,v7,w4,w6])
set_option hygiene false in
local macro_rules | `(tactic|simp! only [$a,*])=>`(tactic|simp[Pw,Px,a8,a9,c8,dB,dC,dL,i5,i6,i9,one,$a,*])
set_option hygiene false in
local macro_rules | `(tactic|simp! only [])=>`(tactic|simp[Pw,Px,a8,a9,c8,dB,dC,dL,i5,i6,i9,one])
local macro_rules | `(∅)=>`(by omega)
local macro_rules | `(#v[$a,*])=>`(List.toArray [$a,*])
local macro_rules | `(#[])=>`(by decide) | `(#[$a,*])=>`(⟨$a,*⟩)
def gV:=@PySem.wpAny_bind
def iO:=@if_pos
def iR:=@if_neg
def iU:=@PySem.wpAny_pure
def tx:=@Nat.le_refl
def xl:=@Option.bind_some
def xo:=@List.mem_cons
def xu:=@PySem.Heap.lt_size
def JH:=@List.mem_cons_of_mem
def JI:=@PySem.Heap.get?_push_of_some
def JJ:=@decide_eq_true
def JK:=@List.mem_singleton
def JL:=@List.mem_cons_self
def JM:=@decide_eq_false
def JN:=@Nat.le_trans
def JO:=@List.length_cons
def JP:=@List.mem_append
def JQ:=@Bool.false_ne_true
def JR:=@List.length_map
def JS:=@List.map_cons
def JT:=@Ne.symm
def JU:=@Prod.mk.injEq
def JV:=@PySem.wpAny_field
def JW:=@Nat.lt_of_lt_of_le
def JX:=@PySem.wpAny_mono
def JY:=@List.size_toArray
def JZ:=@List.not_mem_nil
def Ka:=@or_false
def Kb:=@Option.some.inj
def Kc:=@Nat.ne_of_lt
def Kd:=@List.mem_append_right
def Ke:=@List.length_append
def Kf:=@List.getElem?_eq_getElem
def Kg:=@PySem.Heap.get?_push_size
def Kh:=@if_true
def Ki:=@Bool.and_eq_true
def Kj:=@Option.some.injEq
def Kk:=@PySem.sizeLine_eq
def Kl:=@PySem.W.mg_none_of
def Km:=@List.length_drop
def Kn:=@Bool.not_eq_true
def Ko:=@Nat.zero_le
def Kp:=@Prod.ext
def Kq:=@PySem.wpAny_loadPart_at
def Kr:=@List.getElem?_eq_some_iff
def Ks:=@List.nodup_cons
def Kt:=@List.mem_append_left
def Ku:=@Int.toNat_natCast
def Kv:=@of_decide_eq_true
def Kw:=@Nat.ne_of_gt
def Kx:=@List.length_take
def Ky:=@Nat.lt_of_le_of_lt
def Kz:=@Rat.mul_pos
def KA:=@Nat.lt_irrefl
def KC:=@List.mem_of_getElem?
def KD:=@PySem.Heap.get?_update_other
def KG:=@PySem.wpAny_holding
def KH:=@PySem.wpAny_newObj_type
def KI:=@List.getElem?_map
def KJ:=@List.map_nil
def KL:=@if_false
def KN:=@PyProof.Rows.slot_tuple_getitem
def KO:=@PySem.wpAny_call_entry
def KP:=@List.foldl_cons
def KQ:=@List.set_cons_succ
def KR:=@List.mem_map
def KS:=@Bool.true_and
def KU:=@Rat.intCast_mul
def KW:=@decide_eq_true_iff
def KY:=@Rat.le_refl
def KZ:=@PySem.wpAny_rule
def La:=@List.append_nil
def Lb:=@PySem.wpAny_callSpecial?_slot
def Lc:=@PySem.wpAny_seqItems
def Ld:=@Bool.eq_iff_iff
def Le:=@PySem.Heap.get?_update_self
def Lf:=@List.nil_append
def Lg:=@Bool.and_self
def Lh:=@Rat.mul_eq_zero
def Li:=@Rat.lt_irrefl
def Lj:=@List.pairwise_cons
def Lk:=@Nat.le_of_lt
def Ll:=@List.length_singleton
def Lm:=@List.length_nil
def Ln:=@PySem.F.slot_zip_next
def Lo:=@PySem.W.looks_findIn
def Lp:=@Rat.le_of_lt
def Lq:=@List.getElem?_append_left
def Lr:=@PySem.wpAny_typeOf
def Ls:=@List.reverse_cons
def Lu:=@PySem.Heap.size_push
def Lv:=@Option.bind_eq_some_iff
def Lw:=@List.set_cons_zero
def Lx:=@List.all_eq_true
def Ly:=@Rat.mul_nonneg
def Lz:=@Sum.inr.inj
def LB:=@List.filterMap_cons
def LD:=@List.getElem?_set_ne
def LH:=@PySem.wpAny_Name
def LI:=@PySem.wpAny_standAt
def LJ:=@PySem.wpAny_passesOwn
def LK:=@PySem.wpAny_Call_Name_kw
def LL:=@List.of_mem_zip
def LM:=@List.getElem?_append_right
def LQ:=@List.replicate_succ
def LR:=@PySem.W.kia_one
def LU:=@PySem.wpAny_setField_rec
def LV:=@Bool.false_eq_true
def LY:=@List.getElem?_of_mem
def Ma:=@List.getElem_mem
def Mb:=@List.mem_of_mem_drop
def Mc:=@List.getElem?_set_self
def Md:=@PySem.wpAny_truthy_bool
def Me:=@PySem.wpAny_execs_nil
def Mf:=@PyProof.Rows.slicePart_none
def Mg:=@Nat.add_comm
def Mh:=@List.find?_cons
def Mi:=@PySem.wpAny_setField
def Mj:=@PySem.wpAny_attempt
def Mk:=@Array.getElem?_eq_getElem
def Ml:=@Rat.zero_mul
def Mm:=@List.mem_of_mem_take
def Mn:=@Rat.not_lt
def Mo:=@Nat.zero_add
def Mp:=@PySem.PassesOwn.never
def Mq:=@PySem.wpAny_loadName_local
def Mr:=@PyProof.Rows.callWith_type1
def Ms:=@PySem.wpAny_call
def Mt:=@PySem.codeAny_mono
def Mu:=@PySem.mem_of_lookup
def Mv:=@List.flatten_cons
def Mw:=@Option.map_eq_some_iff
def Mx:=@Nat.le_succ
def My:=@List.cons_append
def Mz:=@List.getElem?_cons_succ
def MA:=@PySem.wpAny_pyIter_tuple
def MB:=@decide_eq_true_eq
def MC:=@PySem.Obj.data_mapFields
def MD:=@PySem.wpAny_onRaise
def ME:=@PySem.W.mg_of
def MF:=@PySem.W.looks_subIn
def MG:=@Bool.beq_eq_decide_eq
def MH:=@Int.natCast_ediv
def MI:=@Nat.mod_lt
def MJ:=@Rat.intCast_pos
def MK:=@Rat.le_total
def ML:=@List.mem_reverse
def MM:=@List.take_append_drop
def MN:=@List.getLast?_cons_cons
def MO:=@beq_eq_false_iff_ne
def MP:=@PySem.Paired.length
def MQ:=@List.mem_filter
def MR:=@Array.length_toList
def MS:=@PySem.wpAny_execs_cons
def MT:=@PySem.wpAny_bindName
def MU:=@PySem.wpAny_sequenceKey
def MV:=@PyProof.Rows.entry_tuple_getitem
def MW:=@PyProof.Rows.args_tuple_getitem
def MX:=@List.append_assoc
def MY:=@List.any_cons
def MZ:=@Bool.false_or
def Na:=@Nat.le_of_not_lt
def Nb:=@Nat.le_of_eq
def Nc:=@Option.map_some
def Nd:=@List.Sublist.refl
def Nf:=@List.nodup_nil
def Ng:=@Nat.sub_zero
def Nh:=@PySem.F.slot_tuple_iterator_next
def Ni:=@PySem.Obj.isFreed_of_fields
def Nj:=@List.forIn_cons
def Nk:=@List.forIn_nil
def Nl:=@PySem.wpAny_letGo
def Nm:=@PySem.F.entry_zip_next
def Nn:=@PySem.F.args_zip_next_1
def Np:=@PySem.F.plain_extend_loop
def Nq:=@PySem.wpAny_updateSeq
def Nr:=@List.mem_iff_getElem?
def Nt:=@List.getElem?_zip_eq_some
def Nu:=@List.eq_nil_of_length_eq_zero
def Nv:=@PySem.codeAny_call_builtin
def Nw:=@PySem.F.attr_ValueError
def Ny:=@PySem.wpAny_loadPart
def Nz:=@Nat.pow_le_pow_right
def NA:=@Nat.div_le_self
def NB:=@Rat.num_divInt_den
def NC:=@Int.ediv_eq_of_eq_mul_right
def ND:=@Rat.divInt_eq_div
def NF:=@Rat.mul_lt_mul_left
def NG:=@of_decide_eq_false
def NH:=@List.cons.injEq
def NI:=@Int.eq_ofNat_of_zero_le
def NJ:=@List.map_map
def NK:=@Int.zero_add
def NL:=@PySem.Heap.get?_none_of_le
def NM:=@Bool.false_and
def NO:=@PySem.W.callWith_K
def NP:=@List.getElem?_take_of_lt
def NQ:=@PySem.noFill_tuple_add
def NR:=@PySem.F.slot_tuple_add
def NS:=@PySem.F.entry_tuple_add
def NT:=@PySem.F.args_tuple_add_2
def NU:=@PySem.Heap.IsSliceOf.new
def NV:=@Bool.true_or
def NW:=@PySem.wpAny_specialOf
def NX:=@List.drop_zero
def NY:=@List.take_length
def NZ:=@List.lookup_cons
def Oa:=@List.zipIdx_cons
def Ob:=@PySem.wpAny_updateSeq_pair
def Oc:=@PySem.wpAny_isInstance
def Od:=@PySem.codeAny_builtin
def Oe:=@List.nodup_append
def Of:=@Nat.min_le_left
def Og:=@Nat.min_eq_left
def Oh:=@Nat.min_eq_right
def Oi:=@List.pairwise_map
def Oj:=@PySem.F.typeOf_object_class
def Ol:=@PySem.Code.quiet_builtin
def Om:=@PySem.wpAny_isSubtype_exc
def Oo:=@List.set_set
def Oq:=@Int.fmod_eq_emod_of_nonneg
def Ot:=@Rat.den_divInt
def Ou:=@Int.mul_ne_zero
def Ov:=@Int.gcd_comm
def Ow:=@Rat.intCast_eq_zero_iff
def Ox:=@Int.natCast_mul
def Oy:=@Rat.mul_pos_iff_of_pos_left
def Oz:=@Rat.intCast_add
def OA:=@Rat.intCast_sub
def OB:=@List.dropWhile_subset
def OC:=@List.pairwise_append
def OD:=@Rat.mul_le_mul_of_nonneg_right
def OE:=@List.mem_map_of_mem
def OF:=@Bool.and_true
def OG:=@Rat.mul_zero
def OH:=@List.length_zip
def OI:=@Option.getD_some
def OJ:=@List.length_range
def OK:=@PySem.W.cellsFrom_some
def OL:=@Option.isSome_iff_exists
def OM:=@List.length_replicate
def OP:=@List.drop_eq_getElem_cons
def OQ:=@List.drop_eq_nil_of_le
def OS:=@List.eq_nil_iff_forall_not_mem
def OT:=@List.range_succ_eq_map
def OU:=@PySem.F.entry_tuple_iterator_next
def OV:=@PySem.F.args_tuple_iterator_next_1
def OW:=@PySem.F.entry_extend_loop
def OX:=@Array.getElem?_eq_none
def OY:=@PySem.F.slot_zip_iter
def OZ:=@PyProof.Rows.zipApart_new
def Pa:=@List.zipWith_nil_left
def Pb:=@List.zipWith_nil_right
def Pc:=@List.zipWith_cons_cons
def Pd:=@PySem.plainObj_wpAny_Assign_Attribute
def Pe:=@Array.getElem?_eq_some_iff
def Pf:=@Int.gcd_pos_of_ne_zero_right
def Pg:=@Int.fdiv_eq_ediv_of_nonneg
def Ph:=@Nat.div_eq_of_eq_mul_right
def Pj:=@Nat.div_le_iff_le_mul_add_pred
def Pk:=@Rat.intCast_lt_intCast
def Pl:=@List.takeWhile_append_dropWhile
def Pm:=@List.pairwise_singleton
def Pn:=@List.pairwise_reverse
def Po:=@List.mem_of_mem_head?
def Pp:=@List.getLast?_eq_some_iff
def Pq:=@Classical.byContradiction
def Pr:=@decide_eq_false_iff_not
def Pu:=@List.length_filter_le
abbrev vQ_:=PySem.Value→PySem.Shared→Prop
abbrev vF_:=PySem.W.Frag
abbrev vP_:=List (PySem.Addr × PySem.Obj)
abbrev vA_:=Option PySem.Addr
abbrev vL_:=List PySem.Addr
abbrev vV_:=List PySem.Value
abbrev vG_:=PySem.Str→Option PySem.Value
abbrev vR_:=Array PySem.Value
abbrev vB_:=PySem.Addr→Prop
abbrev vS_:=Array (Option PySem.Value)
def gB_ {P:Prop}(h:∀G:Prop,(P->G)->G):P:=h P id
variable {s s':PySem.Shared}{A:PySem.Around}{pins:vP_}{x c qual name key c':PySem.Str}{i j t':Nat}{es ifs elts rest:List PySem.Expr}{prog q:PySem.Program}{fd:PySem.FuncData}{e tg iter elt:PySem.Expr}{E Q:vQ_}{h base h':PySem.Heap}{scope:PySem.Scope}{fa od fa' an:vA_}{a f C dx C':PySem.Addr}{cl:List (PySem.Str × PySem.Addr)}{idx:List Nat}{N:vB_}{body:List PySem.Stmt}{u cdv oc:PySem.Value}{mg:vG_}{XP:(PySem.Str->Option PySem.Value)->PySem.Heap->Prop}{us its:vV_}{pos' p2 p1 cpos:PySem.Pos}{cs N' ns loose caps cs':List PySem.Str}{O fp:vL_}{items vs:vR_}{G:Prop}{env:PySem.Env}{YP:PySem.World->PySem.Heap->Prop}{outer:List PySem.Env}{kw:List (PySem.Str × PySem.Value)}{osl:vS_}{cd:PySem.ClassData}{g':Array PySem.GenState}{col:Option Bool}
namespace L2
open PySem PySem.Spec PyProof.Rows
abbrev n9:=Sum Int Str
def cG:n9->Value->Bool
 |.inl k,v=>Value.isInt k v
 |.inr x,v=>Value.isStrOf x v
def Fs (w:World):n9->Int
 |.inl k=>hashInt k
 |.inr x=>hashStr w x
def Z8:∀{k:n9}{v:Value},cG k v=true->(∃i t,k=Sum.inl i/\v=Value.int i t)\/(∃x t,k=Sum.inr x/\v=Value.str x t)
 |.inl i,v,h=>by
  obtain⟨t,e⟩:=Value.isInt_shape (k:=i) (v:=v) h;exact .inl #[i,t,rfl,e]
 |.inr x,v,h=>by
  obtain⟨t,e⟩:=Value.isStrOf_shape (x:=x) (v:=v) h;exact .inr #[x,t,rfl,e]
def Ec (i:Int) (t:Tok):cG (.inl i) (.int i t)=true:=by simp[cG,Value.isInt]
def BC (x:Str) (t:Tok):cG (.inr x) (.str x t)=true:=by simp[cG,Value.isStrOf]
def Dh (a b:Int):decide ((Sum.inl a:n9)=Sum.inl b)=(a == b):=by
 by_cases e:a=b
 .subst e;simp
 .have h:¬ (Sum.inl a:n9)=Sum.inl b:=fun q=>e (Sum.inl.inj q)
  rw[JM h];exact(MO.mpr e).symm
def Ei (a b:Str):decide ((Sum.inr a:n9)=Sum.inr b)=decide (a=b):=by
 by_cases e:a=b
 .subst e;simp
 .have h:¬ (Sum.inr a:n9)=Sum.inr b:=fun q=>e (Lz q)
  rw[JM h,JM e]
def Jo (a:Int) (b:Str):decide ((Sum.inl a:n9)=Sum.inr b)=false:=JM (fun q=>nomatch q)
def GP (a:Str) (b:Int):decide ((Sum.inr a:n9)=Sum.inl b)=false:=JM (fun q=>nomatch q)
def O5 (prog:Program) (w:World):PySem.KeyKind prog w n9 where
 is:=cG
 hash:=Fs w
 inj:=fun v a b Y J=>by
  rcases Z8 Y with ⟨i,t,rfl,rfl⟩ | ⟨x,t,rfl,rfl⟩
  .rcases Z8 J with ⟨j,u,rfl,e⟩ | ⟨y,u,rfl,e⟩
   .injection e with e1 _;rw[e1]
   .exact nomatch e
  .rcases Z8 J with ⟨j,u,rfl,e⟩ | ⟨y,u,rfl,e⟩
   .exact nomatch e
   .injection e with e1 _;rw[e1]
 byValue:=fun k v h=>by
  rcases Z8 h with ⟨i,t,rfl,rfl⟩ | ⟨x,t,rfl,rfl⟩ <;> rfl
 pyHash:=fun B h=>by
  rcases Z8 B with ⟨i,t,rfl,rfl⟩ | ⟨x,t,rfl,rfl⟩
  .exact wpAny_pyHash_int h
  .exact wpAny_pyHash_str h
 eqBool:=fun U B h=>by
  rcases Z8 U with ⟨i,t,rfl,rfl⟩ | ⟨x,t,rfl,rfl⟩
  .rcases Z8 B with ⟨j,u,rfl,rfl⟩ | ⟨y,u,rfl,rfl⟩
   .rw[Dh] at h;exact wpAny_eqBool_int h
   .rw[Jo] at h;exact SeqAt.EqAt.int_str i t y u _ _ _ _ h
  .rcases Z8 B with ⟨j,u,rfl,rfl⟩ | ⟨y,u,rfl,rfl⟩
   .rw[GP] at h;exact SeqAt.EqAt.str_int x t j u _ _ _ _ h
   .rw[Ei] at h;exact wpAny_eqBool_str h
 «strs»:=fun k x t v h=>by
  rcases Z8 h with ⟨i,u,rfl,e⟩ | ⟨y,u,rfl,e⟩
  .exact nomatch e
  .injection e with e1 _;subst e1;cases v <;> rfl
def GY (prog:Program) (w:World) (i:Int) (t:Tok):(O5 prog w).is (.inl i) (.int i t)=true:=Ec i t
def EA (prog:Program) (w:World) (x:Str) (t:Tok):(O5 prog w).is (.inr x) (.str x t)=true:=BC x t
inductive V where
 | non | bl (b:Bool) | int (i:Int) | str (x:Str) | byt (b:Array UInt8) | flt (b:UInt64) | ref (a:Addr) | ty (n:String)
 deriving DecidableEq
variable {xs ys:List V}{kvs:List (List n9 × V)}{f':Int->Int->V}
def RelV:V->Value->Prop
 |.non,u=>u=Value.none
 |.bl b,u=>u=Value.bool b
 |.int i,u=>∃t,u=Value.int i t
 |.str x,u=>∃t,u=Value.str x t
 |.byt b,u=>∃t,u=Value.bytes b t
 |.flt b,u=>∃t,u=Value.float b t
 |.ref a,u=>u=Value.ref a
 |.ty n,u=>u=Value.type n
abbrev Vals:List V->List Value->Prop:=Paired RelV
theorem Vals.length (r:Vals xs us):xs.length=us.length:=MP r
theorem Vals.get:∀{xs:List V}{us:vV_}{i:Nat}{x:V},Vals xs us->xs[i]? = some x->∃u,us[i]? = some u/\RelV x u
 |_,_,_,_,.nil,e=>by simp at e
 |_,_,0,_,.cons r _,e=>by simp at e;subst e;exact#[_,rfl,r]
 |_,_,i+1,x,.cons _ t,e=>by
  obtain⟨u,h1,h2⟩:=Vals.get (i:=i) (x:=x) t (by simpa using e);exact#[u,by simpa using h1,h2]
theorem Vals.set {x:V}(r:RelV x u):∀{xs:List V}{us:vV_}(i:Nat),Vals xs us->Vals (xs.set i x) (us.set i u)
 |_,_,_,.nil=>.nil
 |_,_,0,.cons _ t=>.cons r t
 |_,_,i+1,.cons q t=>.cons q (Vals.set r i t)
def Vals.append:∀{xs ys:List V}{us ws:vV_},Vals xs us->Vals ys ws->Vals (xs++ys) (us++ws):=by
 intro xs ys us ws h s;induction h with
 |nil=>exact s
 |cons r t B=>exact .cons r B
theorem Vals.take:∀{xs:List V}{us:vV_}(n:Nat),Vals xs us->Vals (xs.take n) (us.take n)
 |_,_,0,_=>.nil
 |_,_,_+1,.nil=>.nil
 |_,_,n+1,.cons r t=>.cons r (Vals.take n t)
theorem Vals.drop:∀{xs:List V}{us:vV_}(n:Nat),Vals xs us->Vals (xs.drop n) (us.drop n)
 |_,_,0,r=>r
 |_,_,_+1,.nil=>.nil
 |_,_,n+1,.cons _ t=>Vals.drop n t
def RelO:Option V->Option Value->Prop
 |some v,some u=>RelV v u
 |none,none=>True
 |_,_=>False
def KV {κ:Type}:List (κ × V)->List (κ × Value)->Prop:=Paired fun (p:κ × V) (q:κ × Value)=>p.1=q.1/\RelV p.2 q.2
def kV:n9->V
 |.inl i=>.int i
 |.inr x=>.str x
inductive HO where
 | lst (xs:List V)
 | tup (xs:List V)
 | dK (kvs:List (n9 × V)) | dT (kvs:List (List n9 × V))
 | set (S:Int->Bool) (n:Nat)
 | ins (C dx:Addr) (fs:List (Str × V))
 | own (x:Addr)
 | xd (fs:List (Str × V))
 | met (f x:Addr)
 | rng (lo hi:Int)
 | frz (o:Obj) (u:HO)
 | tbl (ps:vR_)
 | ext (φ:Heap->Prop)
abbrev Hp:=Addr->Option HO
variable {H H' H1:Hp}
def j5 (H:Hp) (a:Addr) (o:HO):Hp:=fun b=>if b=a then some o else H b
def D2 {o:HO}:j5 H a o a=some o:=by unfold j5;rw[iO rfl]
def m9 {b:Addr}{o:HO}(h:b≠a):j5 H a o b=H b:=by unfold j5;rw[iR h]
def Du {b:Addr}{o u:HO}(h:H a=some o) (h':H b=some u) (d:o≠u):a≠b:=by
 intro e;subst e;rw[h] at h';exact d (Kb h')
def F1 {b:Addr}{o:HO}(h:H a=some o) (h':H b=none):a≠b:=by
 intro e;subst e;rw[h] at h';cases h'
section
variable (P:Program) (w:World)
def ObjOk (H:Hp) (h:Heap) (a:Addr):HO->Prop
 |.lst xs=>xs.length<=sizeLine/\∃(its:vV_) (n:Nat),Vals xs its/\h.get? a=some { cls:=.type "list",data:=.seq its.toArray n }
 |.tup xs=>xs.length<=sizeLine/\∃its:List Value,Vals xs its/\IsTup h a its.toArray
 |.dK kvs=>kvs.length<=sizeLine/\(a == sysModules)=false/\∃vs,KV kvs vs/\h.DictOf (O5 P w) a vs
 |.dT kvs=>kvs.length<=sizeLine/\(a == sysModules)=false/\∃xs:List (List n9 × Addr × Value),
   Paired (fun (p:List n9 × V) (q:List n9 × Addr × Value)=>p.1=q.1/\H q.2.1=some (.tup (p.1.map kV))/\RelV p.2 q.2.2) kvs xs /\
   ∃o es ep,h.get? a=some o/\o.ExactDict/\o.data = .dict es ep/\es.toList=xs.map (entryOfKey (tupleKind (O5 P w)))/\(xs.map (·.1)).Nodup
 |.set S n=>h.SetOf (intKind P w) a S n
 |.ins C dx fs=>H dx=some (.own a)/\fs.length<=1000/\dx≠a/\h.get? a=some (PySem.W.instObj C dx) /\
   ∃mA,h.Ns1 dx mA/\(∀f,RelO (fs.lookup f) (mA f))/\PySem.Within mA (fs.map (·.1))
 |.own _=>∃o,h.get? a=some o
 |.xd fs=>∃mA,h.Ns1 a mA/\∀f,RelO (fs.lookup f) (mA f)
 |.rng lo hi=>∃t u v,h.get? a=some { cls:=.type "range",data:=.fields #v[.int lo t,.int hi u,.int 1 v] }
 |.frz o u=>h.get? a=some o/\ObjOk H h a u
 |.tbl ps=>h.get? a=some { cls:=.none,data:=.fields ps }
 |.met f x=>h.get? a=some (PySem.W.methodObj (.ref f) (.ref x))
 |.ext φ=>φ h/\(∃o,h.get? a=some o)/\∀h1 h2:Heap,φ h1->(∀o,h1.get? a=some o->h2.get? a=some o)->φ h2
def HOk (H:Hp) (h:Heap):Prop:=∀a o,H a=some o->ObjOk P w H h a o
end
section
variable {P:Program}{w:World}{o:HO}
theorem ObjOk.lt (x:ObjOk P w H h a o):a<h.objs.size:=by
 cases o with
 |lst xs=>obtain⟨_,_,_,_,e⟩:=x;exact xu e
 |tup xs=>obtain⟨_,_,_,p⟩:=x;exact p.lt
 |dK kvs=>obtain⟨_,_,_,_,o,_,_,e,_⟩:=x;exact xu e
 |dT kvs=>obtain⟨_,_,_,_,o,_,_,e,_⟩:=x;exact xu e
 |set S n=>obtain⟨o,_,_,_,e,_⟩:=x;exact xu e
 |ins C dx fs=>obtain⟨_,_,_,e,_⟩:=x;exact xu e
 |own y=>obtain⟨_,e⟩:=x;exact xu e
 |xd fs=>obtain⟨_,⟨_,_,_,e,_⟩,_⟩:=x;exact xu e
 |rng lo hi=>obtain⟨_,_,_,e⟩:=x;exact xu e
 |frz B u=>obtain⟨e,_⟩:=x;exact xu e
 |tbl ps=>exact xu (show h.get? a=some _ from x)
 |met f y=>exact xu (show h.get? a=some _ from x)
 |ext φ=>obtain⟨_,⟨_,e⟩,_⟩:=x;exact xu e
def Paired.mapP {α β:Type}{F G:α->β->Prop}:∀{l₁:List α}{l₂:List β},Paired F l₁ l₂->(∀a b,F a b->G a b)->Paired G l₁ l₂:=by
 intro l₁ l₂ h f;induction h with
 |nil=>exact .nil
 |cons r t B=>exact .cons (f _ _ r) B
def ObjOk.stay (x:ObjOk P w H h a o) (k:∀b u,(b=a\/H b=some (.own a))->h.get? b=some u->h'.get? b=some u)
  (ho:∀b,H b=some (.own a)->H' b=some (.own a)) (ht:∀b xs,H b=some (.tup xs)->H' b=some (.tup xs)):ObjOk P w H' h' a o:=by
 induction o with
 |lst xs=>obtain⟨z,its,n,r,e⟩:=x;exact#[z,its,n,r,k _ _ (.inl rfl) e]
 |tup xs=>obtain⟨z,its,r,B,e,c⟩:=x;exact#[z,its,r,B,k _ _ (.inl rfl) e,c]
 |dK kvs=>obtain⟨z,y,vs,r,B,es,J,e,c⟩:=x;exact#[z,y,vs,r,B,es,J,k _ _ (.inl rfl) e,c]
 |dT kvs=>
  obtain⟨z,y,xs,r,B,es,J,e,c⟩:=x;exact#[z,y,xs,Paired.mapP r fun p q z=>#[z.1,ht _ _ z.2.1,z.2.2],B,es,J,k _ _ (.inl rfl) e,c]
 |set S n=>obtain⟨B,es,J,t,e,c⟩:=x;exact#[B,es,J,t,k _ _ (.inl rfl) e,c]
 |ins C dx fs=>
  obtain⟨d,z,Z,e,mA,⟨od,es,J,Y,c⟩,r⟩:=x;exact#[ho _ d,z,Z,k _ _ (.inl rfl) e,mA,#[od,es,J,k _ _ (.inr d) Y,c],r]
 |own y=>obtain⟨B,e⟩:=x;exact#[B,k _ _ (.inl rfl) e]
 |xd fs=>obtain⟨mA,⟨od,es,J,e,c⟩,r⟩:=x;exact#[mA,#[od,es,J,k _ _ (.inl rfl) e,c],r]
 |rng lo hi=>obtain⟨t,u,v,e⟩:=x;exact#[t,u,v,k _ _ (.inl rfl) e]
 |frz B u U=>obtain⟨e,q⟩:=x;exact#[k _ _ (.inl rfl) e,U q]
 |tbl ps=>
  have e:h.get? a=some { cls:=.none,data:=.fields ps }:=x;show h'.get? a=some { cls:=.none,data:=.fields ps };exact k a _ (.inl rfl) e
 |met f y=>
  have e:h.get? a=some (PySem.W.methodObj (.ref f) (.ref y)):=x;show h'.get? a=some (PySem.W.methodObj (.ref f) (.ref y));exact k a _ (.inl rfl) e
 |ext φ=>obtain⟨p,⟨o,e⟩,st⟩:=x;exact#[st _ _ p fun o q=>k _ _ (.inl rfl) q,#[o,k _ _ (.inl rfl) e],st]
theorem HOk.lt (x:HOk P w H h) (e:H a=some o):a<h.objs.size:=(x a o e).lt
def HOk.fresh (x:HOk P w H h) (e:h.objs.size<=a):H a=none:=by
 cases q:H a with
 |none=>rfl
 |some u=>exact absurd (JW (x.lt q) e) (KA _)
def HOk.kept (x:HOk P w H h) (k:∀b u,h.get? b=some u->h'.get? b=some u):HOk P w H h':=fun a o e=>
 (x a o e).stay (fun b u _ q=>k b u q) (fun _ q=>q) fun _ _ q=>q
def HOk.laid (x:HOk P w H h) (k:∀b u,h.get? b=some u->h'.get? b=some u) (Y:h.objs.size<=a) (B:ObjOk P w (j5 H a o) h' a o):HOk P w (j5 H a o) h':=fun b u e=>by
 have J:=x.fresh Y;by_cases U:b=a
 .subst U;rw[D2] at e;cases e;exact B
 .rw[m9 U] at e;exact(x b u e).stay (fun c v _ q=>k c v q) (fun c q=>by rw[m9 (F1 q J)];exact q) fun c xs q=>by rw[m9 (F1 q J)];exact q
end
def Rd (H:Hp) (a:Addr) (u:HO):Prop:=H a=some u\/∃o,H a=some (.frz o u)
def Rd.ok {w:World}{u:HO}(r:Rd H a u) (x:HOk P w H h):ObjOk P w H h a u:=by
 rcases r with r | ⟨o,r⟩
 .exact x a u r
 .obtain⟨_,q⟩:=x a _ r;exact q
def ej:Option HO->Prop
 |some (.lst _)=>True
 |some (.dK _)=>True
 |some (.dT _)=>True
 |some (.set _ _)=>True
 |some (.ins _ _ _)=>True
 |some (.ext _)=>True
 |_=>False
section
variable {P:Program}{w:World}{x e:Addr}{o':HO}
def HOk.write (ok:HOk P w H h) (Z:ej (H x)) (he:e=x\/H e=some (.own x)) (k:∀b u,b≠e->h.get? b=some u->h'.get? b=some u) (heo:∃u,h'.get? e=some u)
  (new:ObjOk P w (j5 H x o') h' x o'):HOk P w (j5 H x o') h':=fun b u q=>by
 have J:∀c y,H c=some (.own y)->c≠x:=fun c y r z=>by subst z;rw[r] at Z;exact Z
 have U:∀c xs,H c=some (.tup xs)->c≠x:=fun c xs r z=>by subst z;rw[r] at Z;exact Z
 by_cases Y:b=x
 .subst Y;rw[D2] at q;cases q;exact new
 .rw[m9 Y] at q;by_cases B:b=e
  .have q':H b=some (.own x):=by
    rcases he with z | z
    .exact absurd (B.trans z) Y
    .rw[B];exact z
   rw[q] at q';cases q';obtain⟨v,hv⟩:=heo;exact#[v,by rw[B];exact hv]
  .refine(ok b u q).stay (fun c v hc r=>k c v ?_ r) (fun c r=>by rw[m9 (J c b r)];exact r) fun c xs r=>by rw[m9 (U c xs r)];exact r
   rcases hc with rfl | hc
   .exact B
   .rintro rfl;rcases he with z | z
    .exact J c b hc z
    .rw[hc] at z;cases z;exact Y rfl
end
structure Un (fs ex:vL_) (H H':Hp) (h h':Heap):Prop where
 keep:∀b o,h.get? b=some o->H b=none->b ∉ fs->b ∉ ex->h'.get? b=some o
 slot:∀b o,h.get? b=some o->H b=none->b∈fs->b ∉ ex->∃sl,h'.get? b=some { o with slots:=sl }
 free:∀b o,h.get? b=some o->H b=none->b ∉ ex->H' b=none
 there:∀b o,h.get? b=some o->b ∉ ex->∃o',h'.get? b=some o'
 tups:∀b xs,H b=some (.tup xs)->H' b=some (.tup xs)
 frzs:∀b o u,H b=some (.frz o u)->H' b=some (.frz o u)
 tbls:∀b ps,H b=some (.tbl ps)->∃more,H' b=some (.tbl (ps++more))
section
variable {fs fs' ex ex':vL_}{H2:Hp}{h1 h2:Heap}{x e:Addr}{o:HO}
def Un.any (u:Un fs ex H H1 h h1) {b:Addr}{ob:Obj}(q:h.get? b=some ob) (n:H b=none) (J:b ∉ ex):∃sl,h1.get? b=some { ob with slots:=sl }:=by
 by_cases B:b∈fs
 .exact u.slot b ob q n B J
 .exact#[ob.slots,u.keep b ob q n B J]
def Un.kept (k:∀b u,h.get? b=some u->h'.get? b=some u):Un fs ex H H h h':=
 #[fun b B q _ _ _=>k b B q,fun b B q _ _ _=>#[B.slots,k b B q],fun _ _ _ n _=>n,fun b B q _=>#[B,k b B q],fun _ _ q=>q,fun _ _ _ q=>q,fun _ ps q=>#[#v[],by rw[q];simp]]
def Un.refl:Un fs ex H H h h:=Un.kept fun _ _ q=>q
def Un.laid (k:∀b u,h.get? b=some u->h'.get? b=some u) (J:h.objs.size<=a) (B:H a=none):Un fs ex H (j5 H a o) h h' where
 keep:=fun b u q _ _ _=>k b u q
 slot:=fun b u q _ _ _=>#[u.slots,k b u q]
 free:=fun b u q n _=>by rw[m9 (Kc (JW (xu q) J))];exact n
 there:=fun b u q _=>#[u,k b u q]
 tups:=fun b xs q=>by rw[m9 (F1 q B)];exact q
 frzs:=fun b u xs q=>by rw[m9 (F1 q B)];exact q
 tbls:=fun b ps q=>#[#v[],by rw[m9 (F1 q B),q];simp]
def Un.write (J:ej (H x)) (he:e=x\/H e=some (.own x)) (k:∀b u,b≠e->h.get? b=some u->h'.get? b=some u) (Y:∃u,h'.get? e=some u):Un fs ex H (j5 H x o) h h':=by
 have hx:∀b,H b=none->b≠x:=fun b n z=>by subst z;rw[n] at J;exact J
 have Z:∀b,H b=none->b≠e:=fun b n z=>by
  subst z;rcases he with r | r
  .exact hx b n r
  .rw[n] at r;cases r
 have U:∀b u,H b=some u->¬ ej (some u)->b≠x:=fun b u q nm z=>by subst z;rw[q] at J;exact nm J
 refine#[fun b u q n _ _=>k b u (Z b n) q,fun b u q n _ _=>#[u.slots,k b u (Z b n) q],fun b u q n _=>by rw[m9 (hx b n)];exact n,fun b u q _=>?_,
  fun b xs q=>by rw[m9 (U b _ q fun z=>z)];exact q,fun b u xs q=>by rw[m9 (U b _ q fun z=>z)];exact q,fun b ps q=>#[#v[],by rw[m9 (U b _ q fun z=>z),q];simp]]
 by_cases B:b=e
 .subst B;exact Y
 .exact#[u,k b u B q]
end
def dy (h:Heap) (H:Hp):List Addr:=(List.range h.objs.size).filter fun a=>(H a).isSome
def Z4 (h:Heap) (H:Hp):Heap:=PySem.W.hideAll h (dy h H)
def Ar (h:Heap) (H:Hp):(Z4 h H).objs.size=h.objs.size:=PySem.W.hideAll_size _ _
def HL {b:Addr}{o:Obj}(e:h.get? b=some o) (n:H b=none):(Z4 h H).get? b=some o:=
 PySem.W.hideAll_get _ e fun B=>by
  have q:(H b).isSome=true:=(MQ.mp B).2;rw[n] at q;simp at q
def zf {b:Addr}{o:Obj}(e:(Z4 h H).get? b=some o):h.get? b=some o/\H b=none:=by
 have B:h.get? b=some o:=PySem.W.of_hideAll (dy h H) e;refine#[B,?_];cases q:H b with
 |none=>rfl
 |some x=>
  have J:b∈dy h H:=MQ.mpr #[List.mem_range.mpr (xu B),by simp[q]];have z:(Z4 h H).get? b=none:=PySem.W.hideAll_none (dy h H) J;rw[z] at e;cases e
structure Mod (K:vF_) (mg:vG_) (base:Heap):Prop where
 kin:K.In base
 glob:base.Ns mainGlobals mg
 blt:∃mb,base.Ns builtinsNs mb/\∀x:Str,x ≠ "__name__" -> mb x=bootBuiltins x
 nolimit:base.NoLimit
structure Cx where
 prog:Program
 w:World
 K:PySem.W.Frag
 mg:Str->Option Value
 base:Heap
 A:Around
 N:List Str
 s₀:Shared
 H₀:Hp
 env:Env
 outer:List Env
 stack:List Env
 ex:List Addr
 fn:Str->Bool
 calm:Bool
 pn:List (Addr × Obj)
 xe:Value->Shared->Prop
variable {X:Cx}
def F9 (l:List Env):List Addr:=l.filterMap (·.frame)
abbrev Cx.fs (X:Cx):List Addr:=F9 X.outer
def mD (B:Scope) (x:Str):Prop:=B.names.lookup x=some .local\/B.names.lookup x=some .cell\/B.names.lookup x=some .free
def W5 (B:Scope) (x:Str):Prop:=B.names.lookup x=some .local\/B.names.lookup x=some .cell
def Ct (env:Env) (h:Heap) (m:vG_) (x:Str) (u:Value):Prop:=
 (env.kindOf x=some .local/\m x=some u)\/((env.kindOf x=some .cell\/env.kindOf x=some .free)/\∃c,env.cells.lookup x=some c/\h.IsCell c (some u))
structure Cx.Ok (X:Cx):Prop where
 mod:Mod X.K X.mg X.base
 kind:X.env.scope.kind = .function
 glob:X.env.globals=mainGlobals
 blt:X.env.builtins=builtinsNs
 above:X.s₀.heap.objs.size<=X.env.locals
 inj:∀x y c,X.env.cells.lookup x=some c->X.env.cells.lookup y=some c->x=y
 has:∀x,(X.env.kindOf x=some .cell\/X.env.kindOf x=some .free)->∃c,X.env.cells.lookup x=some c
 cab:∀x c,X.fn x=true->X.env.cells.lookup x=some c->X.s₀.heap.objs.size<=c
 hd:X.calm=true->X.A.handled=none
 frames:X.A.frames=some X.stack
 stk:X.stack=X.outer\/(X.stack=X.env::X.outer/\X.env.frame=some X.env.locals)
 exf:∀b∈X.ex,b≠X.env.locals/\∀x c,X.env.cells.lookup x=some c->c≠b
 bs:∀b o,X.base.get? b=some o->X.s₀.heap.get? b=some o/\X.H₀ b=none
 bsz:X.base.objs.size<=X.s₀.heap.objs.size
 noex:∀b o,X.base.get? b=some o->b ∉ X.ex
 exfs:∀b∈X.ex,b ∉ X.fs
 funs:X.s₀.heap.FunFrames X.base X.outer
 frf:∀b∈X.fs,X.H₀ b=none
structure Inv (X:Cx) (pins:vP_) (σ:List (Option V)) (H:Hp) (s:Shared):Prop where
 ok:X.Ok
 os:s.os=X.s₀.os
 bare:AllBare s.gens
 base:Un X.fs X.ex X.H₀ H X.s₀.heap s.heap
 loc:∃m,s.heap.Ns X.env.locals m/\∀(i:Nat) (x:Str) (v:V),X.N[i]? = some x->σ[i]? = some (some v)->mD X.env.scope x->∃u,RelV v u/\Ct X.env s.heap m x u
 cell:∀x c,X.env.cells.lookup x=some c->∃v,s.heap.IsCell c v
 free:H X.env.locals=none
 freeC:∀x c,X.env.cells.lookup x=some c->H c=none
 pin:∀p∈X.pn++pins,s.heap.get? p.1=some p.2/\H p.1=none/\p.1≠X.env.locals/\p.1 ∉ X.fs/\∀v,p.2.data ≠ .cell v
 hok:HOk X.prog X.w H s.heap
 len:σ.length=X.N.length
section
variable {σ:List (Option V)}
def Cx.Ok.nofr (B:X.Ok) {b:Addr}{o:Obj}(e:X.base.get? b=some o):b ∉ X.fs:=fun J=>by
 have:=(B.funs.mem J).1;rw[e] at this;cases this
theorem Inv.bs (I:Inv X pins σ H s):∀b o,X.base.get? b=some o->s.heap.get? b=some o/\H b=none:=fun b o e=>
 #[I.base.keep b o (I.ok.bs b o e).1 (I.ok.bs b o e).2 (I.ok.nofr e) (I.ok.noex b o e),I.base.free b o (I.ok.bs b o e).1 (I.ok.bs b o e).2 (I.ok.noex b o e)]
def Inv.bk (I:Inv X pins σ H s):∀b o,X.base.get? b=some o->s.heap.get? b=some o:=fun b o e=>(I.bs b o e).1
theorem Inv.mod (I:Inv X pins σ H s):Mod X.K X.mg X.base:=I.ok.mod
def Inv.kIn (I:Inv X pins σ H s):X.K.In s.heap:=I.ok.mod.kin.keeps I.bk
theorem Inv.nolimit (I:Inv X pins σ H s):s.heap.NoLimit:=I.ok.mod.nolimit.keeps I.bk
theorem Inv.lt (I:Inv X pins σ H s):X.env.locals<s.heap.objs.size:=let ⟨_,hn,_⟩:=I.loc;hn.lt
def Inv.sz (I:Inv X pins σ H s):X.s₀.heap.objs.size<=s.heap.objs.size:=JN I.ok.above (Lk I.lt)
def Inv.nofs (I:Inv X pins σ H s) (h:s.heap.objs.size<=a):a ∉ X.fs:=fun J=>by
 obtain⟨_,o,B,_⟩:=I.ok.funs.mem J;exact absurd (JW (xu B) (JN I.sz h)) (KA _)
def Inv.cne (I:Inv X pins σ H s):∀x c,X.env.cells.lookup x=some c->c≠X.env.locals:=fun x c e z=>by
 obtain⟨v,o,U,Y⟩:=I.cell x c e;obtain⟨m,⟨o',es,Z,B,J,_⟩,_⟩:=I.loc;rw[z,B] at U;cases U;rw[J] at Y;cases Y
theorem Inv.funs (I:Inv X pins σ H s):s.heap.FunFrames X.base X.outer:=by
 have U:∀(l:List Env),(∀b∈F9 l,b∈X.fs)->X.s₀.heap.FunFrames X.base l->s.heap.FunFrames X.base l:=by
  intro l;induction l with
  |nil=>intro _ _;trivial
  |cons env r ih=>
   intro Z hl;obtain⟨hk,⟨L,o,Y,hn,ho,hd⟩,hr⟩:=hl;have J:L∈X.fs:=Z L (by unfold F9;rw[LB,Y];exact JL);obtain⟨sl,e⟩:=I.base.slot L o ho (I.ok.frf L J) J fun z=>I.ok.exfs L z J
   exact#[hk,#[L,_,Y,hn,e,hd],ih (fun b B=>Z b (by unfold F9;rw[LB,Y];exact JH _ B)) hr]
 exact U X.outer (fun _ B=>B) I.ok.funs
theorem Inv.stack (I:Inv X pins σ H s):s.heap.FunFrames X.base X.stack:=by
 rcases I.ok.stk with e | ⟨e,hf⟩
 .rw[e];exact I.funs
 .rw[e];obtain⟨m,B,_⟩:=I.loc;refine .cons (by rw[I.ok.kind];decide) hf B ?_ I.funs;exact NL (JN I.ok.bsz I.ok.above)
def Inv.stkSub (I:Inv X pins σ H s):∀b∈F9 X.stack,b∈X.env.locals::X.fs:=fun b B=>by
 rcases I.ok.stk with e | ⟨e,hf⟩
 .rw[e] at B;exact JH _ B
 .rw[e] at B;unfold F9 at B;rw[LB,hf] at B;exact B
def Inv.stkFree (I:Inv X pins σ H s):∀b∈F9 X.stack,H b=none:=fun b B=>by
 rcases xo.mp (I.stkSub b B) with e | B
 .rw[e];exact I.free
 .obtain⟨_,o,J,_⟩:=I.ok.funs.mem B;exact I.base.free b o J (I.ok.frf b B) fun z=>I.ok.exfs b z B
def Inv.step {g':Array GenState}{t':Nat}{ch:vL_}(I:Inv X pins σ H s)
  (U:∀b∈ch,(b∈X.ex\/X.s₀.heap.objs.size<=b)/\b≠X.env.locals/\(∀x c,X.env.cells.lookup x=some c->c≠b)/\∀p∈X.pn++pins,p.1≠b)
  (keep:∀b o,b≠X.env.locals->b ∉ X.fs->b ∉ ch->s.heap.get? b=some o->H b=none->h'.get? b=some o)
  (slot:∀b o,b≠X.env.locals->b∈X.fs->b ∉ ch->s.heap.get? b=some o->H b=none->∃sl,h'.get? b=some { o with slots:=sl }) (free:∀b o,b ∉ ch->s.heap.get? b=some o->H b=none->H' b=none)
  (there:∀b o,b ∉ ch->s.heap.get? b=some o->∃o',h'.get? b=some o')
  (tups:∀b xs,H b=some (.tup xs)->H' b=some (.tup xs)) (frzs:∀b o u,H b=some (.frz o u)->H' b=some (.frz o u)) (tbls:∀b ps,H b=some (.tbl ps)->∃more,H' b=some (.tbl (ps++more)))
  (ns:∀m,s.heap.Ns X.env.locals m->h'.Ns X.env.locals m) (hok:HOk X.prog X.w H' h') (hg:AllBare g') :
  Inv X pins σ H' { s with heap:=h',gens:=g',drawn:=d',toks:=t' }:=by
 have jA:∀b o,X.s₀.heap.get? b=some o->b≠X.env.locals:=fun b o e=>Kc (JW (xu e) I.ok.above)
 have neC:∀b o,X.s₀.heap.get? b=some o->b ∉ X.ex->b ∉ ch:=fun b o e B hb=>by
  rcases(U b hb).1 with z | z
  .exact B z
  .exact absurd (JW (xu e) z) (KA _)
 have J:∀x c,X.env.cells.lookup x=some c->∀v,s.heap.IsCell c v->h'.IsCell c v:=fun x c e v hQ__=>by
  obtain⟨o,ho,hd⟩:=hQ__;have Y:c ∉ ch:=fun z=>(U c z).2.2.1 x c e rfl
  by_cases hc:c∈X.fs
  .obtain⟨sl,q⟩:=slot c o (I.cne x c e) hc Y ho (I.freeC x c e);exact#[_,q,hd]
  .exact#[o,keep c o (I.cne x c e) hc Y ho (I.freeC x c e),hd]
 refine#[I.ok,I.os,hg,#[fun b o e n hb B=>?_,fun b o e n hb B=>?_,fun b o e n B=>?_,fun b o e B=>?_,fun b xs e=>tups b xs (I.base.tups b xs e),fun b o xs e=>frzs b o xs (I.base.frzs b o xs e),fun b ps e=>?_],?_,fun x c e=>?_,?_,fun x c e=>?_,fun p hp=>?_,hok,I.len]
 .exact keep b o (jA b o e) hb (neC b o e B) (I.base.keep b o e n hb B) (I.base.free b o e n B)
 .obtain⟨sl,Z⟩:=I.base.slot b o e n hb B;obtain⟨sl',e2⟩:=slot b _ (jA b o e) hb (neC b o e B) Z (I.base.free b o e n B);exact#[sl',e2]
 .obtain⟨o',Z⟩:=I.base.there b o e B;exact free b o' (neC b o e B) Z (I.base.free b o e n B)
 .obtain⟨o',Z⟩:=I.base.there b o e B;exact there b o' (neC b o e B) Z
 .obtain⟨m1,Z⟩:=I.base.tbls b ps e;obtain⟨m2,e2⟩:=tbls b _ Z;exact#[m1++m2,by rw[e2,Array.append_assoc]]
 .obtain⟨m,hn,hl⟩:=I.loc;refine#[m,ns m hn,fun i x v Z e2 e3=>?_];obtain⟨u,r,l⟩:=hl i x v Z e2 e3;refine#[u,r,?_];rcases l with l | ⟨k,c,e,z⟩
  .exact .inl l
  .exact .inr #[k,c,e,J x c e _ z]
 .obtain⟨v,z⟩:=I.cell x c e;exact#[v,J x c e v z]
 .obtain⟨m,⟨o,_,_,ho,_⟩,_⟩:=I.loc;exact free _ o (fun z=>(U _ z).2.1 rfl) ho I.free
 .obtain⟨v,o,ho,hd⟩:=I.cell x c e;exact free c o (fun z=>(U c z).2.2.1 x c e rfl) ho (I.freeC x c e)
 .obtain⟨e,n,ne,nf,d⟩:=I.pin p hp;have Y:p.1 ∉ ch:=fun z=>(U p.1 z).2.2.2 p hp rfl
  exact#[keep p.1 p.2 ne nf Y e n,free p.1 p.2 Y e n,ne,nf,d]
def Inv.un {t':Nat}(I:Inv X pins σ H s) (u:Un X.fs [] H H' s.heap h') (U:HOk X.prog X.w H' h'):Inv X pins σ H' { s with heap:=h',toks:=t' }:=by
 obtain⟨m,⟨o,es,ep,ho,r⟩,_⟩:=id I.loc;obtain⟨sl,hL⟩:=u.any ho I.free (by simp);exact I.step (g':=s.gens) (d':=s.drawn) (ch:=[]) (fun _ z=>nomatch z) (fun b o _ J _ e n=>u.keep b o e n J (by simp)) (fun b o _ J _ e n=>u.slot b o e n J (by simp)) (fun b o _ e n=>u.free b o e n (by simp)) (fun b o _ e=>u.there b o e (by simp)) u.tups u.frzs u.tbls (fun m' hm=>by
  obtain⟨o',Y,Z,B,r'⟩:=hm;rw[ho] at B;cases B;exact#[_,Y,Z,hL,r']) U I.bare
def Inv.call {t':Nat}{ch:vL_}(I:Inv X pins σ H s) (u:Un (F9 X.stack) ch H H' s.heap h') (Y:HOk X.prog X.w H' h') (hg:AllBare g')
  (U:∀b∈ch,(b∈X.ex\/X.s₀.heap.objs.size<=b)/\b≠X.env.locals/\(∀x c,X.env.cells.lookup x=some c->c≠b)/\∀p∈X.pn++pins,p.1≠b) :
  Inv X pins σ H' { s with heap:=h',gens:=g',drawn:=d',toks:=t' }:=by
 obtain⟨m,⟨o,es,ep,ho,r⟩,_⟩:=id I.loc;obtain⟨sl,hL⟩:=u.any ho I.free fun z=>(U _ z).2.1 rfl
 exact I.step (ch:=ch) U (fun b o hL hb B e n=>u.keep b o e n (fun z=>(xo.mp (I.stkSub b z)).elim hL hb) B) (fun b o _ _ B e n=>u.any e n B) (fun b o B e n=>u.free b o e n B) (fun b o B e=>u.there b o e B) u.tups u.frzs u.tbls (fun m' hm=>by
  obtain⟨o',Z,ep',J,r'⟩:=hm;rw[ho] at J;cases J;exact#[_,Z,ep',hL,r']) Y hg
def Inv.turned {t':Nat}{it:Addr}(I:Inv X pins σ H s) (k:∀b o,b≠it->s.heap.get? b=some o->h'.get? b=some o) (Z:H it=none) (U:it≠X.env.locals)
  (h1:it∈X.ex\/X.s₀.heap.objs.size<=it) (h2:∀x c,X.env.cells.lookup x=some c->c≠it) (h3:∀p∈X.pn++pins,p.1≠it):Inv X pins σ H { s with heap:=h',toks:=t' }:=by
 have J:∀b u,H b=some u->b≠it:=fun b u e z=>by rw[z,Z] at e;cases e
 refine I.step (g':=s.gens) (d':=s.drawn) (ch:=[it]) (fun b hb=>?_) (fun b o _ _ B e _=>k b o (fun z=>B (by simp[z])) e) (fun b o _ _ B e _=>#[o.slots,k b o (fun z=>B (by simp[z])) e]) (fun _ _ _ _ n=>n)
  (fun b o B e=>#[o,k b o (fun z=>B (by simp[z])) e]) (fun _ _ e=>e) (fun _ _ _ e=>e) (fun b ps e=>#[#v[],by rw[e];simp]) (fun m Y=>?_) (fun b u e=>?_) I.bare
 .have e:b=it:=by simpa using hb
  subst e;exact#[h1,U,h2,h3]
 .obtain⟨o,es,ep,ho,r⟩:=Y;exact#[o,es,ep,k _ o (JT U) ho,r]
 .refine(I.hok b u e).stay (fun c v B q=>k c v ?_ q) (fun _ q=>q) fun _ _ q=>q
  rcases B with z | z
  .rw[z];exact J b u e
  .exact J c _ z
def Inv.tok (I:Inv X pins σ H s) (t:Nat):Inv X pins σ H { s with toks:=t }:=I.un (h':=s.heap) (t':=t) Un.refl I.hok
theorem Inv.kept {t':Nat}(I:Inv X pins σ H s) (k:∀b u,s.heap.get? b=some u->h'.get? b=some u):Inv X pins σ H { s with heap:=h',toks:=t' }:=I.un (Un.kept k) (I.hok.kept k)
theorem Inv.laid {o:HO}{t':Nat}(I:Inv X pins σ H s) (k:∀b u,s.heap.get? b=some u->h'.get? b=some u) (B:s.heap.objs.size<=a) (J:ObjOk X.prog X.w (j5 H a o) h' a o) :
  Inv X pins σ (j5 H a o) { s with heap:=h',toks:=t' }:=I.un (Un.laid k B (I.hok.fresh B)) (I.hok.laid k B J)
theorem Inv.write {x e:Addr}{o:HO}{t':Nat}(I:Inv X pins σ H s) (Y:ej (H x)) (U:e=x\/H e=some (.own x)) (k:∀b u,b≠e->s.heap.get? b=some u->h'.get? b=some u) (B:∃u,h'.get? e=some u)
  (J:ObjOk X.prog X.w (j5 H x o) h' x o):Inv X pins σ (j5 H x o) { s with heap:=h',toks:=t' }:=I.un (Un.write Y U k B) (I.hok.write Y U k B J)
def Inv.weak {Z:List (Option V)}(I:Inv X pins σ H s) (B:Z.length=σ.length) (w:∀(i:Nat) v,Z[i]? = some (some v)->σ[i]? = some (some v)):Inv X pins Z H s:=
 #[I.ok,I.os,I.bare,I.base,let ⟨m,hn,hl'⟩:=I.loc;#[m,hn,fun i x v J U Y=>hl' i x v J (w i v U) Y],I.cell,I.free,I.freeC,I.pin,I.hok,B.trans I.len]
def Inv.pins_of {pins':vP_}(I:Inv X pins σ H s) (h:∀p∈pins',s.heap.get? p.1=some p.2/\H p.1=none/\p.1≠X.env.locals/\p.1 ∉ X.fs/\∀v,p.2.data ≠ .cell v):Inv X pins' σ H s:=
 #[I.ok,I.os,I.bare,I.base,I.loc,I.cell,I.free,I.freeC,fun p B=>(JP.mp B).elim (fun z=>I.pin p (Kt _ z)) (h p),I.hok,I.len]
def nA {N:List Str}(U:N.Nodup) (a:N[i]? = some x) (b:N[j]? = some x):i=j:=by
 obtain⟨h1,J⟩:=Kr.mp a;obtain⟨h2,B⟩:=Kr.mp b;exact(List.getElem_inj U).mp (J.trans B.symm)
def AM {A:Around}{E:vQ_}{i:Nat}{x:Str}{v:V}{u:Value}{Q:Unit->Shared->Prop}(I:Inv X pins σ H s) (hN:X.N.Nodup) (hi:X.N[i]? = some x) (Z:W5 X.env.scope x) (r:RelV v u)
  (h:∀s',Inv X pins (σ.set i (some v)) H s'->(∃a,Heap.SameBut a s.heap s'.heap/\(a=X.env.locals\/X.env.cells.lookup x=some a))->Q () s') (hf:X.fn x=true\/X.env.scope.names.lookup x=some .local:=by first | exact .inl rfl | exact .inr rfl | assumption):wpAny M A (storeName X.env x u) Q E s:=by
 obtain⟨m,hn,hl⟩:=id I.loc;have hcls:(X.env.scope.kind == .class||(X.env.scope.kind == .module&&X.env.locals != X.env.globals))=false:=by rw[I.ok.kind];rfl
 have hiσ:i<σ.length:=by rw[I.len];exact(Kr.mp hi).1
 have cne:=I.cne;have J:∀{a:Addr}{h':Heap},(∃o,s.heap.get? a=some o/\H a=none)->Heap.SameBut a s.heap h'->HOk X.prog X.w H h':=fun {a h'} ha B b ob e=>by
  obtain⟨_,_,hfree⟩:=ha;refine(I.hok b ob e).stay (fun c w' Y q=>(B.2 c ?_).trans q) (fun _ q=>q) fun _ _ q=>q
  rintro rfl;rcases Y with rfl | Y
  .rw[hfree] at e;cases e
  .rw[hfree] at Y;cases Y
 rcases Z with hk | hk
 .refine wpAny_storeName_local hk hn (fun h' hn' B=>?_) hcls;obtain⟨oL,_,_,hoL,_⟩:=id hn;refine h _ #[I.ok,I.os,I.bare,#[fun b o e n hb Z=>?_,fun b o e n hb Z=>?_,I.base.free,fun b o e Z=>?_,I.base.tups,I.base.frzs,I.base.tbls],#[_,hn',fun j y v' U e2 e3=>?_],fun y c e=>?_,I.free,I.freeC,fun p hp=>?_,J #[oL,hoL,I.free] B,by simpa using I.len] #[_,B,.inl rfl]
  .exact(B.2 b (Kc (JW (xu e) I.ok.above))).trans (I.base.keep b o e n hb Z)
  .obtain⟨sl,U⟩:=I.base.slot b o e n hb Z;exact#[sl,(B.2 b (Kc (JW (xu e) I.ok.above))).trans U]
  .obtain⟨o',U⟩:=I.base.there b o e Z;exact#[o',(B.2 b (Kc (JW (xu e) I.ok.above))).trans U]
  .by_cases hj:j=i
   .subst hj;rw[hi] at U;cases U;rw[Mc hiσ] at e2;cases e2;exact#[u,r,.inl #[hk,by simp]]
   .rw[LD (JT hj)] at e2;obtain⟨u',r',q⟩:=hl j y v' U e2 e3;refine#[u',r',?_];rcases q with ⟨k,e⟩ | ⟨k,c,e,z⟩
    .refine .inl #[k,?_];have:y≠x:=fun e=>hj (nA hN U (e▸hi))
     simp[this,e]
    .exact .inr #[k,c,e,z.sameBut B (cne y c e)]
  .obtain⟨w',z⟩:=I.cell y c e;exact#[w',z.sameBut B (cne y c e)]
  .obtain⟨e,n,ne,nf,d⟩:=I.pin p hp;exact#[(B.2 p.1 ne).trans e,n,ne,nf,d]
 .have hfn:X.fn x=true:=by
   rcases hf with z | z
   .exact z
   .rw[z] at hk;cases hk
  obtain⟨c,Y⟩:=I.ok.has x (.inl hk);obtain⟨w',z⟩:=I.cell x c Y;refine wpAny_storeName_cell I.ok.kind hk Y z (fun h' hc' B=>?_);obtain⟨oc,hoc,hocd⟩:=id z;refine h { s with heap:=h' } #[I.ok,I.os,I.bare,#[fun b o e n hb Z=>?_,fun b o e n hb Z=>?_,I.base.free,fun b o e Z=>?_,I.base.tups,I.base.frzs,I.base.tbls],#[m,hn.sameBut B (JT (cne x c Y)),fun j y v' U e2 e3=>?_],fun y c' e=>?_,I.free,I.freeC,fun p hp=>?_,J #[oc,hoc,I.freeC x c Y] B,by simpa using I.len] #[c,B,.inr Y]
  .exact(B.2 b (Kc (JW (xu e) (I.ok.cab x c hfn Y)))).trans (I.base.keep b o e n hb Z)
  .obtain⟨sl,U⟩:=I.base.slot b o e n hb Z;exact#[sl,(B.2 b (Kc (JW (xu e) (I.ok.cab x c hfn Y)))).trans U]
  .obtain⟨o',U⟩:=I.base.there b o e Z;exact#[o',(B.2 b (Kc (JW (xu e) (I.ok.cab x c hfn Y)))).trans U]
  .by_cases hj:j=i
   .subst hj;rw[hi] at U;cases U;rw[Mc hiσ] at e2;cases e2;exact#[u,r,.inr #[.inl hk,c,Y,hc']]
   .rw[LD (JT hj)] at e2;obtain⟨u',r',q⟩:=hl j y v' U e2 e3;refine#[u',r',?_];rcases q with q | ⟨k,c',e,z'⟩
    .exact .inl q
    .refine .inr #[k,c',e,z'.sameBut B ?_];rintro rfl;exact hj (nA hN U (I.ok.inj _ _ _ e Y▸hi))
  .by_cases hcc:c'=c
   .subst hcc;exact#[_,hc']
   .obtain⟨w2,z2⟩:=I.cell y c' e;exact#[w2,z2.sameBut B hcc]
  .obtain⟨e,n,ne,nf,d⟩:=I.pin p hp;refine#[(B.2 p.1 ?_).trans e,n,ne,nf,d];intro q;rw[q,hoc] at e;have q':oc=p.2:=Kb e;exact d w' (by rw[<-q'];exact hocd)
def cP {A:Around}{E:vQ_}{i:Nat}{x:Str}{v:V}{u:Value}{Q:Unit->Shared->Prop}(I:Inv X pins σ H s) (Y:X.N.Nodup) (hi:X.N[i]? = some x) (U:W5 X.env.scope x) (r:RelV v u)
  (h:∀s',Inv X pins (σ.set i (some v)) H s'->Q () s') (J:X.fn x=true\/X.env.scope.names.lookup x=some .local:=by first | exact .inl rfl | exact .inr rfl | assumption):wpAny M A (storeName X.env x u) Q E s:=
 AM I Y hi U r (fun s' B _=>h s' B) J
def Inv.call' {ch:vL_}(I:Inv X pins σ H s) (Y:s'.os=s.os) (u:Un (F9 X.stack) ch H H' s.heap s'.heap) (B:HOk X.prog X.w H' s'.heap) (U:AllBare s'.gens)
  (J:∀b∈ch,(b∈X.ex\/X.s₀.heap.objs.size<=b)/\b≠X.env.locals/\(∀x c,X.env.cells.lookup x=some c->c≠b)/\∀p∈X.pn++pins,p.1≠b):Inv X pins σ H' s':=by
 obtain⟨h',g',d',t',o'⟩:=s';have e:o'=s.os:=Y;subst e;exact I.call (g':=g') (t':=t') (d':=d') u B U J
end
abbrev XK:=Value->Option Addr->Hp->Prop
abbrev St:=List (Option V)
variable {σ:St}
abbrev VK:=V->Hp->Prop
variable {r:List V->Hp->VK->Prop}
abbrev TE:=St->Hp->VK->Prop
variable {te:TE}{trs:List (TE × TE)}
abbrev TT:=St->Hp->(Bool->Hp->Prop)->Prop
variable {tc:TT}
abbrev TA:=St->Hp->(List V->Hp->Prop)->Prop
variable {ta:TA}
structure Ends where
 nx:St->Hp->Prop
 rt:VK
 bk:St->Hp->Prop:=fun _ _=>False
 ct:St->Hp->Prop:=fun _ _=>False
abbrev TS:=Ends->St->Hp->Prop
variable {tb:TS}
def EP (X:Cx) (pins:vP_) (σ:St) (Q:VK) (u:Value) (s':Shared):Prop:=∃v H',Inv X pins σ H' s'/\RelV v u/\Q v H'
def TP (X:Cx) (pins:vP_) (σ:St) (Q:Bool->Hp->Prop) (b:Bool) (s':Shared):Prop:=∃H',Inv X pins σ H' s'/\Q b H'
def AP (X:Cx) (pins:vP_) (σ:St) (Q:List V->Hp->Prop) (us:vV_) (s':Shared):Prop:=∃vs H',Inv X pins σ H' s'/\Vals vs us/\Q vs H'
def SP (X:Cx) (pins:vP_) (D:Ends) (f:Flow) (s':Shared):Prop:=
 match f with
 |.next=>∃σ' H',Inv X pins σ' H' s'/\D.nx σ' H'
 |.brk=>∃σ' H',Inv X pins σ' H' s'/\D.bk σ' H'
 |.cont=>∃σ' H',Inv X pins σ' H' s'/\D.ct σ' H'
 |.ret u=>∃v σ' H',Inv X pins σ' H' s'/\RelV v u/\D.rt v H'
def PE (X:Cx) (e:Expr) (t:TE):Prop:=
 ∀(pins:vP_) (s:Shared) (σ:St) (H:Hp) (Q:VK),Inv X pins σ H s->t σ H Q->wpAny (model X.prog X.w) X.A (eval e X.env) (EP X pins σ Q) X.xe s
def PT (X:Cx) (e:Expr) (t:TT):Prop:=
 ∀(pins:vP_) (s:Shared) (σ:St) (H:Hp) (Q:Bool->Hp->Prop),Inv X pins σ H s->t σ H Q->wpAny (model X.prog X.w) X.A (isTrue e X.env (eval e X.env)) (TP X pins σ Q) X.xe s
def PW (X:Cx) (e:Expr) (t:TT):Prop:=
 ∀(whole:Sem Value) (pins:vP_) (s:Shared) (σ:St) (H:Hp) (Q:Bool->Hp->Prop),Inv X pins σ H s->t σ H Q->wpAny (model X.prog X.w) X.A (isTrue e X.env whole) (TP X pins σ Q) X.xe s
def PW.pt {t:TT}(h:PW X e t):PT X e t:=h _
def PA (X:Cx) (es:List Expr) (t:TA):Prop:=
 ∀(pos:Pos) (pins:vP_) (s:Shared) (σ:St) (H:Hp) (Q:List V->Hp->Prop),Inv X pins σ H s->t σ H Q->wpAny (model X.prog X.w) X.A (spliced (backTo pos (starEach es X.env))) (AP X pins σ Q) X.xe s
def PS (X:Cx) (st:Stmt) (t:TS):Prop:=
 ∀(pins:vP_) (s:Shared) (σ:St) (H:Hp) (D:Ends),Inv X pins σ H s->t D σ H->wpAny (model X.prog X.w) X.A (exec st X.env) (SP X pins D) X.xe s
def PSs (X:Cx) (st:List Stmt) (t:TS):Prop:=
 ∀(pins:vP_) (s:Shared) (σ:St) (H:Hp) (D:Ends),Inv X pins σ H s->t D σ H->wpAny (model X.prog X.w) X.A (execs st X.env) (SP X pins D) X.xe s
def l6 {α:Type}{t:Sem α}{Q Q':α->Shared->Prop}(h:wpAny M A t Q E s) (B:∀a s,Q a s->Q' a s):wpAny M A t Q' E s:=JX h B fun _ _ x=>x
section
def W6 (i:Nat):TE:=fun σ H Q=>∃v,σ[i]? = some (some v)/\Q v H
def tC (v:V):TE:=fun _ H Q=>Q v H
def Fx {i:Nat}{x:Str}{pos:Pos}(hN:X.N[i]? = some x) (hv:mD X.env.scope x) (Y:(x == ("__debug__" : Str))=false:=by decide) (Z:(x == ("__classdict__" : Str))=false:=by decide):PE X (.Name x pos) (W6 i):=by
 intro pins s σ H Q I h;obtain⟨v,e,h⟩:=h;obtain⟨m,hn,hl⟩:=I.loc;obtain⟨u,r,l⟩:=hl i x v hN e hv;have J:EP X pins σ Q u s:=#[v,H,I,r,h]
 rcases l with ⟨U,hm⟩ | ⟨U,c,hc,B⟩
 .exact LH (Mq I.ok.kind U hn hm J) Y
 .rcases U with U | U
  .exact LH (wpAny_loadName_cell I.ok.kind U hc B J) Y
  .exact LH (wpAny_loadName_free I.ok.kind U hc B J Z) Y
def eZ {i j pos}:PE X (.Constant (.int i) j pos) (tC (.int i)):=fun _ _ _ H _ I h=>wpAny_Constant_int #[.int i,H,I.tok _,#[_,rfl],h]
def ym {b j pos}:PE X (.Constant (.bool b) j pos) (tC (.bl b)):=fun _ _ _ H _ I h=>Constant_bool #[.bl b,H,I,rfl,h]
def GB {j pos}:PE X (.Constant .none j pos) (tC .non):=fun _ _ _ H _ I h=>Constant_none #[.non,H,I,rfl,h]
def cb {x j pos}:PE X (.Constant (.str x) j pos) (tC (.str x)):=fun _ _ _ H _ I h=>Calls.Constant_str #[.str x,H,I.tok _,#[_,rfl],h]
def Gl (X:Cx) (x:Str):Prop:=X.env.kindOf x=some .globalImplicit
def dS {E:vQ_}{pins:vP_}{s:Shared}{H:Hp}{x:Str}{u:Value}{pos:Pos}{Q:vQ_}(I:Inv X pins σ H s) (B:Gl X x) (J:X.mg x=some u) (h:Q u s)
  (U:(x == ("__debug__" : Str))=false:=by decide):wpAny (model X.prog X.w) X.A (eval (.Name x pos) X.env) Q E s:=
 Calls.Name_function_global I.ok.kind B (Calls.loadGlobal_global (by rw[I.ok.glob];exact I.mod.glob.keeps I.bk) J h) U
def bX {E:vQ_}{pins:vP_}{s:Shared}{H:Hp}{x:Str}{u:Value}{pos:Pos}{Q:vQ_}(I:Inv X pins σ H s) (B:Gl X x) (J:X.mg x=none) (Y:bootBuiltins x=some u) (h:Q u s)
  (U:x ≠ "__name__" := by decide) (Z:(x == ("__debug__" : Str))=false:=by decide):wpAny (model X.prog X.w) X.A (eval (.Name x pos) X.env) Q E s:=by
 obtain⟨mb,h1,h2⟩:=I.mod.blt;exact Calls.Name_function_global I.ok.kind B (Calls.loadGlobal_builtin (by rw[I.ok.glob];exact I.mod.glob.keeps I.bk) J (by rw[I.ok.blt];exact h1.keeps I.bk) ((h2 x U).trans Y) h) Z
def sI {x:Str}{v:V}{u:Value}{pos:Pos}(B:Gl X x) (J:X.mg x=some u) (r:RelV v u) (U:(x == ("__debug__" : Str))=false:=by decide):PE X (.Name x pos) (tC v):=
 fun _ _ _ H _ I h=>dS I B J #[v,H,I,r,h] U
def qm {x:Str}{v:V}{u:Value}{pos:Pos}(B:Gl X x) (J:X.mg x=none) (Y:bootBuiltins x=some u) (r:RelV v u) (U:x ≠ "__name__" := by decide) (Z:(x == ("__debug__" : Str))=false:=by decide):PE X (.Name x pos) (tC v):=
 fun _ _ _ H _ I h=>bX I B J Y #[v,H,I,r,h] U Z
variable {a b:Expr}{ta tb:TE}{pos:Pos}
variable {tA tB':TT}
def zB (t u:TT):TT:=fun σ H Q=>t σ H fun c H1=>if c=true then u σ H1 Q else Q false H1
def Fw (t u:TT):TT:=fun σ H Q=>t σ H fun c H1=>if c=true then Q true H1 else u σ H1 Q
def IC (t:TT):TT:=fun σ H Q=>t σ H fun c H1=>Q (!c) H1
def zr (B:PT X a tA):PW X (.BoolOp .And [a] pos) tA:=by
 intro J pins s σ H Q I h;refine isTrue_and (l6 (B pins s σ H Q I h) fun c s1 e=>?_);cases c with
 |true=>exact isTrue_and_nil e
 |false=>exact e
def Ga (B:PT X a tA):PW X (.BoolOp .Or [a] pos) tA:=by
 intro J pins s σ H Q I h;refine isTrue_or (l6 (B pins s σ H Q I h) fun c s1 e=>?_);cases c with
 |false=>exact isTrue_or_nil e
 |true=>exact e
def AG (U:PT X a tA) (Z:PW X (.BoolOp .And (b::rest) pos) tB'):PW X (.BoolOp .And (a::b::rest) pos) (zB tA tB'):=by
 intro Y pins s σ H Q I h;refine isTrue_and (l6 (U pins s σ H _ I h) fun c s1 ⟨H1,B,J⟩=>?_);cases c with
 |true=>exact Z Y pins s1 σ H1 Q B J
 |false=>exact#[H1,B,J]
def Eg (U:PT X a tA) (Z:PW X (.BoolOp .Or (b::rest) pos) tB'):PW X (.BoolOp .Or (a::b::rest) pos) (Fw tA tB'):=by
 intro Y pins s σ H Q I h;refine isTrue_or (l6 (U pins s σ H _ I h) fun c s1 ⟨H1,B,J⟩=>?_);cases c with
 |true=>exact#[H1,B,J]
 |false=>exact Z Y pins s1 σ H1 Q B J
def FK (B:PT X a tA):PT X (.UnaryOp .Not a pos) (IC tA):=by
 intro pins s σ H Q I h;exact isTrue_not (B pins s σ H (fun c H1=>Q (!c) H1) I h)
def Ft (ta tb:TE):TE:=fun σ H Q=>ta σ H fun x H1=>∃c,x = .bl c/\if c=true then tb σ H1 Q else Q (.bl false) H1
def GC (ta tb:TE):TE:=fun σ H Q=>ta σ H fun x H1=>∃c,x = .bl c/\if c=true then Q (.bl true) H1 else tb σ H1 Q
def Eh (ta:TE):TE:=fun σ H Q=>ta σ H fun x H1=>∃c,x = .bl c/\Q (.bl (!c)) H1
def Fj {op} {t:TE}(h:PE X a t):PE X (.BoolOp op [a] pos) t:=fun pins s σ H Q I B=>BoolOp_one (h pins s σ H Q I B)
def Hk (Y:PE X a ta) (Z:PE X (.BoolOp .And (b::rest) pos) tb):PE X (.BoolOp .And (a::b::rest) pos) (Ft ta tb):=by
 intro pins s σ H Q I h;refine BoolOp_and (l6 (Y pins s σ H _ I h) fun v s1 ⟨x,H1,J,U,B⟩=>?_);obtain⟨c,rfl,B⟩:=B;cases U;refine Md ?_;cases c with
 |true=>exact Z pins s1 σ H1 Q J B
 |false=>exact#[.bl false,H1,J,rfl,B]
def HK (Y:PE X a ta) (Z:PE X (.BoolOp .Or (b::rest) pos) tb):PE X (.BoolOp .Or (a::b::rest) pos) (GC ta tb):=by
 intro pins s σ H Q I h;refine BoolOp_or (l6 (Y pins s σ H _ I h) fun v s1 ⟨x,H1,J,U,B⟩=>?_);obtain⟨c,rfl,B⟩:=B;cases U;refine Md ?_;cases c with
 |false=>exact Z pins s1 σ H1 Q J B
 |true=>exact#[.bl true,H1,J,rfl,B]
def Em (U:PE X a ta):PE X (.UnaryOp .Not a pos) (Eh ta):=by
 intro pins s σ H Q I h;refine UnaryOp_ (l6 (U pins s σ H _ I h) fun v s1 ⟨x,H1,Y,J,B⟩=>?_);obtain⟨c,rfl,B⟩:=B;cases J;exact not_of (Md #[.bl (!c),H1,Y,rfl,B])
def IZ (t:TT) (ta tb:TE):TE:=fun σ H Q=>t σ H fun c H1=>if c=true then ta σ H1 Q else tb σ H1 Q
def Jh {c:Expr}(Z:PT X c tA) (U:PE X a ta) (Y:PE X b tb):PE X (.IfExp c a b pos) (IZ tA ta tb):=by
 intro pins s σ H Q I h;refine wpAny_IfExp (l6 (Z pins s σ H _ I h) fun d s1 ⟨H1,B,J⟩=>?_);cases d with
 |true=>exact U pins s1 σ H1 Q B J
 |false=>exact Y pins s1 σ H1 Q B J
end
def SqL (K:vF_) (H:Hp) (a:Addr) (xs:List V):Prop:=
 Rd H a (.lst xs) \/
  ∃(o:Obj) (its:vR_) (n:Nat),K.lookup a=some o/\o.cls = .type "list" /\ o.dict=none/\o.data = .seq its n/\its.size<=sizeLine/\Vals xs its.toList
def SqT (K:vF_) (H:Hp) (a:Addr) (xs:List V):Prop:=
 Rd H a (.tup xs) \/
  ∃(o:Obj) (its:vR_) (n:Nat),K.lookup a=some o/\o.cls = .type "tuple" /\ o.data = .seq its n/\its.size<=sizeLine/\Vals xs its.toList
def EN:Value->Option V
 |.none=>some .non
 |.bool b=>some (.bl b)
 |.int i _=>some (.int i)
 |.str x _=>some (.str x)
 |.bytes b _=>some (.byt b)
 |.float b _=>some (.flt b)
 |.ref a=>some (.ref a)
 |.type n=>some (.ty n)
 |_=>none
def RelV.abs {x:V}(r:RelV x u):EN u=some x:=by
 cases x with
 |non=>cases r;rfl
 |bl _=>cases r;rfl
 |int _=>obtain⟨t,rfl⟩:=r;rfl
 |str _=>obtain⟨t,rfl⟩:=r;rfl
 |byt _=>obtain⟨t,rfl⟩:=r;rfl
 |flt _=>obtain⟨t,rfl⟩:=r;rfl
 |ref _=>cases r;rfl
 |ty _=>cases r;rfl
def RelV.inj {x y:V}(r:RelV x u) (q:RelV y u):x=y:=Kb (r.abs.symm.trans q.abs)
theorem Vals.inj:∀{xs ys:List V}{us:vV_},Vals xs us->Vals ys us->xs=ys:=by
 intro xs ys us h;induction h generalizing ys with
 |nil=>
  intro h2;cases h2;rfl
 |cons r t J=>
  intro h2;cases h2 with
  |cons B t'=>rw[r.inj B,J t']
def SqL.of {K:vF_}(h:H a=some (.lst xs)):SqL K H a xs:=.inl (.inl h)
def SqT.of {K:vF_}(h:H a=some (.tup xs)):SqT K H a xs:=.inl (.inl h)
def Inv.list (I:Inv X pins σ H s) (h:SqL X.K H a xs):∃its:List Value,Vals xs its/\PlainL s.heap a its.toArray/\xs.length<=sizeLine:=by
 rcases h with h | ⟨o,its,n,hk,hc,hd,hs,hz,r⟩
 .obtain⟨z,its,n,r,e⟩:=h.ok I.hok;exact#[its,r,#[_,n,e,rfl,rfl,rfl],z]
 .refine#[its.toList,r,#[o,n,I.kIn a o hk,hc,hd,by simpa using hs],?_];have e:=r.length;simp only[MR] at e;omega
def Inv.tuple (I:Inv X pins σ H s) (h:SqT X.K H a xs):∃its:List Value,Vals xs its/\IsTup s.heap a its.toArray/\xs.length<=sizeLine:=by
 rcases h with h | ⟨o,its,n,hk,hc,hs,hz,r⟩
 .obtain⟨z,its,r,p⟩:=h.ok I.hok;exact#[its,r,p,z]
 .refine#[its.toList,r,#[o,I.kIn a o hk,hc,n,by simpa using hs],?_];have e:=r.length;simp only[MR] at e;omega
def Inv.list_inj (I:Inv X pins σ H s) (h:SqL X.K H a xs) (h':SqL X.K H a ys):xs=ys:=by
 obtain⟨its,r,⟨o,n,e,_,_,d⟩,_⟩:=I.list h;obtain⟨B,Y,⟨o',Z,J,_,_,U⟩,_⟩:=I.list h';rw[e] at J;cases J;rw[d] at U;injection U with d1 _;have:its=B:=by simpa using congrArg Array.toList d1
 subst this;exact r.inj Y
def Inv.tuple_inj (I:Inv X pins σ H s) (h:SqT X.K H a xs) (h':SqT X.K H a ys):xs=ys:=by
 obtain⟨its,r,⟨o,e,_,n,d⟩,_⟩:=I.tuple h;obtain⟨B,Y,⟨o',J,_,Z,U⟩,_⟩:=I.tuple h';rw[e] at J;cases J;rw[d] at U;injection U with d1 _;have:its=B:=by simpa using congrArg Array.toList d1
 subst this;exact r.inj Y
abbrev Cx.wish (X:Cx) (E:vQ_):Cx:={ X with xe:=E }
abbrev Cx.nox (X:Cx):Cx:=X.wish fun _ _=>False
theorem Cx.Ok.wish (B:X.Ok) (E:vQ_):(X.wish E).Ok:=
 #[B.mod,B.kind,B.glob,B.blt,B.above,B.inj,B.has,B.cab,B.hd,B.frames,B.stk,B.exf,B.bs,B.bsz,B.noex,B.exfs,B.funs,B.frf]
def Cx.Ok.unwish (B:(X.wish E).Ok):X.Ok:=
 #[B.mod,B.kind,B.glob,B.blt,B.above,B.inj,B.has,B.cab,B.hd,B.frames,B.stk,B.exf,B.bs,B.bsz,B.noex,B.exfs,B.funs,B.frf]
theorem Inv.wish (I:Inv X pins σ H s) (E:vQ_):Inv (X.wish E) pins σ H s:=#[I.ok.wish E,I.os,I.bare,I.base,I.loc,I.cell,I.free,I.freeC,I.pin,I.hok,I.len]
theorem Inv.unwish (I:Inv (X.wish E) pins σ H s):Inv X pins σ H s:=#[I.ok.unwish,I.os,I.bare,I.base,I.loc,I.cell,I.free,I.freeC,I.pin,I.hok,I.len]
theorem SP.unwish {D:Ends}{f:Flow}(h:SP (X.wish E) pins D f s'):SP X pins D f s':=by
 cases f with
 |next=>obtain⟨σ',H',I,q⟩:=h;exact#[σ',H',I.unwish,q]
 |brk=>obtain⟨σ',H',I,q⟩:=h;exact#[σ',H',I.unwish,q]
 |cont=>obtain⟨σ',H',I,q⟩:=h;exact#[σ',H',I.unwish,q]
 |ret u=>obtain⟨v,σ',H',I,r,q⟩:=h;exact#[v,σ',H',I.unwish,r,q]
theorem PSs.nox {st:List Stmt}{t:TS}(h:PSs X.nox st t):PSs X st t:=fun pins s σ H D I B=>
 JX (h pins s σ H D (I.wish _) B) (fun _ _ q=>q.unwish) fun _ _ z=>False.elim z
section
variable {st:Stmt}{rest:List Stmt}{t u:TS}{pos:Pos}
def AJ:TS:=fun D σ H=>D.nx σ H
def zj (t u:TS):TS:=fun D σ H=>t { D with nx:=u D } σ H
def Gk:PSs X [] AJ:=fun _ _ σ H _ I h=>Me #[σ,H,I,h]
def yD (h1:PS X st t) (h2:PSs X rest u):PSs X (st::rest) (zj t u):=by
 intro pins s σ H D I h;refine MS (l6 (h1 pins s σ H { D with nx:=u D } I h) fun f s1 q=>?_);cases f with
 |next=>
  obtain⟨σ',H',B,q⟩:=q;exact h2 pins s1 σ' H' D B q
 |ret v=>exact q
 |brk=>exact q
 |cont=>exact q
def II (h1:PS X st t):PSs X [st] t:=by
 intro pins s σ H D I h;refine MS (l6 (h1 pins s σ H D I h) fun f s1 q=>?_);cases f with
 |next=>exact Me q
 |ret v=>exact q
 |brk=>exact q
 |cont=>exact q
def Inv.quiet (I:Inv X pins σ H s):interactive X.env=false:=by simp[interactive,I.ok.kind]
def CA (te:TE):TS:=fun D σ H=>te σ H fun _ H1=>D.nx σ H1
def EF (J:PE X e te) (U:swapsWith e none pos.line X.env=pure false:=by rfl):PS X (.Expr e pos) (CA te):=by
 intro pins s σ H D I h;exact wpAny_Expr_any (l6 (J pins s σ H _ I h) fun v s1 ⟨x,H1,B,Z,Y⟩=>#[σ,H1,B,Y]) I.quiet U
def yB (te:TE):TS:=fun D σ H=>te σ H D.rt
def tD (U:PE X e te):PS X (.Return (some e) pos) (yB te):=by
 intro pins s σ H D I h;exact wpAny_Return_some (l6 (U pins s σ H _ I h) fun v s1 ⟨x,H1,J,B,Y⟩=>#[x,σ,H1,J,B,Y])
def Hv (c:TT) (t u:TS):TS:=fun D σ H=>c σ H fun b H1=>if b=true then t D σ H1 else u D σ H1
def Es {c:Expr}{a b:List Stmt}(Z:PT X c tc) (U:PSs X a t) (Y:PSs X b u):PS X (.If c a b pos) (Hv tc t u):=by
 intro pins s σ H D I h;refine wpAny_If (l6 (Z pins s σ H _ I h) fun d s1 ⟨H1,B,J⟩=>?_);cases d with
 |true=>exact U pins s1 σ H1 D B J
 |false=>exact Y pins s1 σ H1 D B J
end
abbrev TG:=V->St->Hp->(St->Hp->Prop)->Prop
abbrev W3:=List V->St->Hp->(St->Hp->Prop)->Prop
def PG (X:Cx) (B:Expr) (t:TG):Prop:=
 ∀(pins:vP_) (s:Shared) (σ:St) (H:Hp) (v:V) (u:Value) (Q:St->Hp->Prop),Inv X pins σ H s->RelV v u->t v σ H Q ->
  wpAny (model X.prog X.w) X.A (assign B X.env u) (fun _ s'=>∃σ' H',Inv X pins σ' H' s'/\Q σ' H') X.xe s
def aB (X:Cx) (B:List Expr) (t:W3):Prop:=
 ∀(pins:vP_) (s:Shared) (σ:St) (H:Hp) (vs:List V) (us:vV_) (Q:St->Hp->Prop),Inv X pins σ H s->Vals vs us->t vs σ H Q ->
  wpAny (model X.prog X.w) X.A (assignInOrder ((assignEach B X.env).map (·.2)) us) (fun _ s'=>∃σ' H',Inv X pins σ' H' s'/\Q σ' H') X.xe s
abbrev kb:=V->V->V->Hp->(Hp->Prop)->Prop
def uh (X:Cx) (t:kb):Prop:=
 ∀(pins:vP_) (s:Shared) (σ:St) (H:Hp) (o i v:V) (ov iv u:Value) (Q:Hp->Prop),Inv X pins σ H s->RelV o ov->RelV i iv->RelV v u->t o i v H Q ->
  wpAny (model X.prog X.w) X.A (setItem ov iv u) (fun _ s'=>∃H',Inv X pins σ H' s'/\Q H') X.xe s
section
variable {pos:Pos}
def V9 (i:Nat):TG:=fun v σ H Q=>Q (σ.set i (some v)) H
def U8 {i:Nat}{x:Str}(Y:X.N.Nodup) (hi:X.N[i]? = some x) (U:W5 X.env.scope x) (J:X.fn x=true\/X.env.scope.names.lookup x=some .local:=by first | exact .inl rfl | exact .inr rfl | assumption):PG X (.Name x pos) (V9 i):=by
 intro pins s σ H v u Q I r h;exact wpAny_assign_Name (cP I Y hi U r (fun s' B=>#[_,H,B,h]) J)
def qU:W3:=fun vs σ H Q=>vs=[]/\Q σ H
def nF (t:TG) (u:W3):W3:=fun vs σ H Q=>∃v r,vs=v::r/\t v σ H fun σ' H'=>u r σ' H' Q
def ur:aB X [] qU:=by
 intro pins s σ H vs us Q I r h;obtain⟨e,h⟩:=h;subst e;cases r;exact assignInOrder_nil #[σ,H,I,h]
def lu {e:Expr}{es:List Expr}{t:TG}{u:W3}(h1:PG X e t) (h2:aB X es u)
  (Y:(assignEach (e::es) X.env).map (·.2)=assign e X.env::(assignEach es X.env).map (·.2):=by rfl):aB X (e::es) (nF t u):=by
 intro pins s σ H vs us Q I r h;obtain⟨v,vr,J,h⟩:=h;subst J;cases r with
 |cons r B=>
  rw[Y];refine assignInOrder_cons (l6 (h1 pins s σ H _ _ _ I r h) fun _ s1 ⟨σ1,H1,Z,U⟩=>?_);exact h2 pins s1 σ1 H1 _ _ Q Z B U
def sv (K:vF_) (n:Nat) (t:W3):TG:=fun v σ H Q=>∃a xs,v = .ref a/\SqT K H a xs/\xs.length=n/\t xs σ H Q
def su {es:List Expr}{k:Nat}{t:W3}{n:Nat}(hc:X.calm=true) (h:aB X es t)
  (Y:(assignEach es X.env).length=n:=by rfl) (J:(assignEach es X.env).findIdx? (·.1)=none:=by rfl):PG X (.Tuple es k pos) (sv X.K n t):=by
 intro pins s σ H v u Q I r B;obtain⟨a,xs,e1,hq,Z,B⟩:=B;subst e1;cases r;obtain⟨its,U,ht,hz⟩:=I.tuple hq;refine assign_Tuple_tuple (I.ok.hd hc) ht (by simp[Y,<-Z,U.length]) J fun h' hx=>?_
 have I1:Inv X pins σ H { s with heap:=h' }:=I.kept (t':=s.toks) fun b o e=>hx b o (Kc (xu e)) e
 exact h pins _ σ H xs _ Q I1 (by simpa using U) B
def Bi (to J:TE) (t:kb):TG:=fun v σ H Q=>to σ H fun o H1=>J σ H1 fun i H2=>t o i v H2 fun B=>Q σ B
def Cy {o i:Expr}{to B:TE}{t:kb}(ho:PE X o to) (hi:PE X i B) (Z:uh X t)
  (U:∀v,assign (.Subscript o i pos) X.env v=(do
   let ov <-holding [v] (eval o X.env)
   let iv <-holding [v,ov] (eval i X.env)
   standAt pos
   holding [v,ov,iv] (setItem ov iv v)
   release [v,ov,iv] []):=by intro _;rfl):PG X (.Subscript o i pos) (Bi to B t):=by
 intro pins s σ H v u Q I r h;rw[U];refine gV (KG (l6 (ho pins s σ H _ I h) fun ov s1 ⟨x,H1,I1,J,Y⟩=>?_));refine gV (KG (l6 (hi pins s1 σ H1 _ I1 Y) fun iv s2 ⟨y,H2,I2,r2,q2⟩=>?_));refine gV (LI (gV (KG (l6 (Z pins s2 σ H2 x y v ov iv u _ I2 J r2 r q2) fun _ s3 ⟨H3,I3,q3⟩=>?_))));exact wpAny_release #[σ,H3,I3,q3]
def fq (te:TE) (g:TG):TS:=fun D σ H=>te σ H fun x H1=>g x σ H1 D.nx
def uX {tg e:Expr}{te:TE}(Z:PE X e te) (hg:PG X tg g) (J:swapsWithSole [tg] e pos.line X.env=pure false:=by rfl) (B:swappedStores [tg] e X.env=pure none:=by rfl)
  (h1:(assignEach [tg] X.env).map (·.2)=[assign tg X.env]:=by rfl):PS X (.Assign [tg] e pos) (fq te g):=by
 intro pins s σ H D I h;refine wpAny_Assign_stores (l6 (Z pins s σ H _ I h) fun v s1 ⟨x,H1,Y,r1,U⟩=>?_) J B;rw[h1];exact l6 (hg pins s1 σ H1 x v _ Y r1 U) fun _ s2 q=>q
def jN {i:Nat}{x:Str}{e:Expr}{te:TE}{pos':Pos}(hN:X.N.Nodup) (hi:X.N[i]? = some x) (B:W5 X.env.scope x) (he:PE X e te) (U:swapsWith e (some (.Name x pos')) pos.line X.env=pure false:=by rfl) (Z:X.fn x=true\/X.env.scope.names.lookup x=some .local:=by first | exact .inl rfl | exact .inr rfl | assumption) :
  PS X (.Assign [.Name x pos'] e pos) (fq te (V9 i)):=by
 intro pins s σ H D I h;refine wpAny_Assign_Name (l6 (he pins s σ H _ I h) fun v s1 ⟨y,H1,Y,r1,J⟩=>?_) U;exact cP Y hN hi B r1 (fun s2 I2=>#[_,H1,I2,J]) Z
def wZ (i j:Nat) (ta:TA):TS:=fun D σ H=>ta σ H fun vs H1=>∃v w,vs=[v,w]/\D.nx ((σ.set i (some v)).set j (some w)) H1
def Hj {i j:Nat}{x y:Str}{a b:Expr}{ta:TA}{px py pt:Pos}{kt k2 pt2} (hc:X.calm=true) (hN:X.N.Nodup) (hi:X.N[i]? = some x) (hj:X.N[j]? = some y) (B:i≠j)
  (hx:X.env.scope.names.lookup x=some .local) (Y:X.env.scope.names.lookup y=some .local) (ha:PA X [a,b] ta)
  (hw:swappedStores [.Tuple [.Name x px,.Name y py] kt pt] (.Tuple [a,b] k2 pt2) X.env=pure (some [x,y]))
  (hs:swapsWithSole [.Tuple [.Name x px,.Name y py] kt pt] (.Tuple [a,b] k2 pt2) pos.line X.env=pure false:=by rfl) :
  PS X (.Assign [.Tuple [.Name x px,.Name y py] kt pt] (.Tuple [a,b] k2 pt2) pos) (wZ i j ta):=by
 intro pins s σ H D I h;rw[exec_Assign_arm];refine gV (LI ?_);rw[hs];refine gV (iU ?_);rw[iR #[]];refine gV (Tuple_ (l6 (ha _ pins s σ H _ I h) fun us s1 ⟨vs,H1,I1,r1,U⟩=>?_));obtain⟨v,w,e1,U⟩:=U;subst e1;obtain⟨u1,u2,rfl,rv,rw'⟩:∃u1 u2,us=[u1,u2]/\RelV v u1/\RelV w u2:=by
  cases r1 with
  |cons p q=>
   cases q with
   |cons p' q'=>
    cases q';exact#[_,_,rfl,p,p']
 refine KH ?_ (by show 2<=sizeLine;decide);have I2:Inv X pins σ H1 { s1 with heap:=s1.heap.push { cls:=.type "tuple",data:=.seq [u1,u2].toArray } }:=I1.kept (t':=s1.toks) fun b o e=>JI _ e
 rw[hw];refine gV (iU ?_);show wpAny (model X.prog X.w) X.A (do rule "assign.swapped-stores";let items <-unpackItems (.ref s1.heap.objs.size) 2 none;assignInOrder [fun v=>bindName X.env y v,fun v=>bindName X.env x v] items.reverse;pure Flow.next) _ _ _;refine gV (KZ (gV (unpackItems_tuple (items:=#v[u1,u2]) (I.ok.hd hc) (IsTup.new s1.heap _) fun h' J=>?_)));have I3:=I2.kept (h':=h') (t':=s1.toks) fun b o e=>J b o (Kc (xu e)) e
 show wpAny _ _ (assignInOrder [fun v=>bindName X.env y v,fun v=>bindName X.env x v] [u2,u1] >>= fun _=>pure Flow.next) _ _ _;refine gV (assignInOrder_cons (MT (cP I3 hN hj (.inl Y) rw' (fun s2 I4=>?_) (.inr Y))));refine assignInOrder_cons (MT (cP I4 hN hi (.inl hx) rv (fun s3 Z=>assignInOrder_nil (iU ?_)) (.inr hx)));rw[List.set_comm _ _ (JT B)] at Z;exact#[_,H1,Z,U]
end
section
variable {pos:Pos}
def AN (c:TT) (tb:TS):TS:=fun D σ H=>∃W:Nat->St->Hp->Prop,(∃m,W m σ H)/\∀m σ H,W m σ H ->
 c σ H fun b H1=>if b=true then ∃N:St->Hp->Prop,(∀σ' H',N σ' H'->∃m',m'<m/\W m' σ' H')/\tb { D with nx:=N,ct:=N,bk:=D.nx } σ H1 else D.nx σ H1
def Br {c:Expr}(hp:PassesOwn (model X.prog X.w) X.A X.env X.xe) (hc:PT X c tc) (hb:PSs X body tb):PS X (.While c body [] pos) (AN tc tb):=by
 intro pins s σ H D I h;obtain⟨W,⟨m0,w0⟩,B⟩:=h;refine wpAny_While (codeAny_whileLoop (fun n s'=>∃σ' H',Inv X pins σ' H' s'/\W n σ' H') ?_ m0 #[σ,H,I,w0]);rintro n s1 ⟨σ1,H1,I1,w1⟩;refine LJ hp (l6 (hc pins s1 σ1 H1 _ I1 (B n σ1 H1 w1)) fun b s2 ⟨H2,I2,U⟩=>?_);cases b with
 |true=>
  obtain⟨N,hN,U⟩:=U;rw[iO rfl];refine LJ hp (l6 (hb pins s2 σ1 H2 _ I2 U) fun f s3 Y=>?_);cases f with
  |next=>
   obtain⟨σ3,J,I3,n3⟩:=Y;obtain⟨m',hm,Z⟩:=hN σ3 J n3;exact#[m',hm,σ3,J,I3,Z]
  |cont=>
   obtain⟨σ3,J,I3,n3⟩:=Y;obtain⟨m',hm,Z⟩:=hN σ3 J n3;exact#[m',hm,σ3,J,I3,Z]
  |brk=>exact Y
  |ret v=>exact Y
 |false=>
  rw[iR JQ];exact Me #[σ1,H2,I2,U]
end
structure It where
 go:Nat->Hp->Prop
 yld:Nat->Hp->V->Hp->Prop
 stop:Nat->Hp->Prop
def R5 (X:Cx) (pins:vP_) (H:Hp) (b:Addr):Prop:=
 H b=none/\b≠X.env.locals/\b ∉ X.fs/\(b∈X.ex\/X.s₀.heap.objs.size<=b)/\(∀x c,X.env.cells.lookup x=some c->c≠b)/\∀p∈X.pn++pins,p.1≠b
def Inv.fpOk {b:Addr}(I:Inv X pins σ H s) (B:s.heap.objs.size<=b) (J:H' b=none):R5 X pins H' b:=by
 refine#[J,Kw (JW I.lt B),I.nofs B,.inr (JN I.sz B),fun x c e z=>?_,fun p U z=>?_]
 .obtain⟨v,q⟩:=I.cell x c e;exact absurd (JW q.lt (by rw[z];exact B)) (KA _)
 .exact absurd (JW (xu (I.pin p U).1) (by rw[z];exact B)) (KA _)
structure Turn (P:Program) (w:World) (K:vF_) (tg:Expr) (J:It) (fp:vL_) (it:Addr) (tn:Nat->Heap->Prop):Prop where
 mem:it∈fp
 obj:∀i h,tn i h->∀b∈fp,∃o,h.get? b=some o/\∀v,o.data ≠ .cell v
 keep:∀i h h',tn i h->(∀b∈fp,∀o,h.get? b=some o->h'.get? b=some o)->tn i h'
 item:∀(X:Cx),X.prog=P->X.w=w->X.K=K->X.calm=true->∀(i:Nat) (pins:vP_) (s:Shared) (σ:St) (H:Hp) (E:vQ_),Inv X pins σ H s->(∀b∈fp,R5 X pins H b)->tn i s.heap->J.go i H ->
  wpAny (model P w) X.A (pyNext (.ref it)) (fun r s1=>∃u,r=some u /\
   wpAny (model P w) X.A (letOwnedTupleGo tg (.ref it) u) (fun _ s2=>∃x H',Inv X pins σ H' s2/\RelV x u/\J.yld i H x H'/\tn (i+1) s2.heap/\∀b∈fp,H' b=none) E s1) E s
 done:∀(X:Cx),X.prog=P->X.w=w->X.K=K->X.calm=true->∀(i:Nat) (pins:vP_) (s:Shared) (σ:St) (H:Hp) (E:vQ_),Inv X pins σ H s->(∀b∈fp,R5 X pins H b)->tn i s.heap->J.stop i H ->
  wpAny (model P w) X.A (pyNext (.ref it)) (fun r s1=>r=none/\Inv X pins σ H s1) E s
 self:∀(A:Around) (i:Nat) (s:Shared) (Q:vQ_) (E:vQ_),tn i s.heap->Q (.ref it) s->wpAny (model P w) A (pyIter (.ref it)) Q E s
abbrev TI:=St->Hp->(It->Hp->Prop)->Prop
def vw (X:Cx) (pins:vP_) (σ:St) (tg:Expr) (R:It->Hp->Prop) (B:Value) (s2:Shared):Prop:=
 ∃(it:Addr) (fp:vL_) (tn:Nat->Heap->Prop) (J:It) (H':Hp),B = .ref it/\Inv X pins σ H' s2/\Turn X.prog X.w X.K tg J fp it tn/\tn 0 s2.heap/\(∀b∈fp,R5 X pins H' b)/\R J H'
def PI (X:Cx) (tg iter:Expr) (wi:TI):Prop:=
 ∀(pins:vP_) (s:Shared) (σ:St) (H:Hp) (R:It->Hp->Prop),Inv X pins σ H s->wi σ H R ->
  wpAny (model X.prog X.w) X.A (eval iter X.env) (fun v s1=>wpAny (model X.prog X.w) X.A (pyIter v) (vw X pins σ tg R) X.xe s1) X.xe s
def lN {it:Addr}{o:Obj}{Q:Unit->Shared->Prop}(J:s.heap.get? it=some o) (Y:o.cls = .type n) (Z:o.data = .fields vs)
    (U:["enumerate", "zip", "dict_itemiterator", "dict_reverseitemiterator", "odict_iterator", "itertools.zip_longest", "itertools.pairwise"].contains n=false) (B:Q () s):wpAny M A (letOwnedTupleGo tg (.ref it) u) Q E s:=by
  unfold letOwnedTupleGo;cases tg <;> first
    | exact iU B
    | (cases u <;> first
        | exact iU B
        | (refine gV (wpAny_load J ?_)
           rw[Y,Z];show wpAny M A (if (["enumerate", "zip", "dict_itemiterator", "dict_reverseitemiterator", "odict_iterator", "itertools.zip_longest", "itertools.pairwise"].contains n&&vs[0]? == some (rawInt _))=true then _ else _) Q E s;rw[iR (by intro h;rw[U,NM] at h;cases h)];exact iU B))
def eG (K:vF_) (a:Addr):It:=
 #[fun i H=>∃xs x,SqL K H a xs/\xs[i]? = some x,fun i H x H'=>H'=H/\∀xs,SqL K H a xs->xs[i]? = some x,fun i H=>∃xs,SqL K H a xs/\xs.length<=i]
def ft (K:vF_) (a:Addr):It:=
 #[fun i H=>∃xs x,SqT K H a xs/\xs[i]? = some x,fun i H x H'=>H'=H/\∀xs,SqT K H a xs->xs[i]? = some x,fun i H=>∃xs,SqT K H a xs/\xs.length<=i]
def bF (lo:Int) (n:Nat):It:=#[fun i _=>i<n,fun i H x H'=>H'=H/\x = .int (lo+i),fun i _=>n<=i]
def zF {w:World}{K:vF_}(a it:Addr):Turn P w K tg (eG K a) [it] it (fun i h=>h.IsListIter it a i) where
 mem:=by simp
 obj:=fun i h st b B=>by
  have e:b=it:=by simpa using B
  subst e;obtain⟨o,e,c,d⟩:=st;exact#[o,e,fun v z=>by rw[d] at z;cases z]
 keep:=fun i h h' st k=>st.at fun o e=>k it (by simp) o e
 item:=by
  intro X hP hw hK hc i pins s σ H E I U st hg;subst hP hw hK;obtain⟨xs,x,Y,hx⟩:=hg;obtain⟨its,rv,p,hz⟩:=I.list Y;obtain⟨u,hu,ru⟩:=rv.get hx;obtain⟨f0,f1,f2,f3,f4,Z⟩:=U it (by simp);refine wpAny_pyNext_list_item st p.isList (x:=u) (by simpa using hu) fun h' J sb=>?_
  have I1:Inv X pins σ H { s with heap:=h' }:=I.turned (t':=s.toks) (fun b o B e=>(sb.2 b B).trans e) f0 f1 f3 f4 Z;obtain⟨o,e,c,d⟩:=id J;exact#[u,rfl,lN (s:={ s with heap:=h' }) e c d #[] #[x,H,I1,ru,#[rfl,fun ys hy=>by rw[I.list_inj hy Y];exact hx],J,fun b B=>(U b B).1]]
 done:=by
  intro X hP hw hK hc i pins s σ H E I U st hg;subst hP hw hK;obtain⟨xs,Y,hx⟩:=hg;obtain⟨its,rv,p,hz⟩:=I.list Y;obtain⟨f0,f1,f2,f3,f4,Z⟩:=U it (by simp);have hl:=rv.length;exact wpAny_pyNext_list_end (I.ok.hd hc) st p.isList (by simp;omega) fun h' eb=>#[rfl,I.turned (t':=s.toks) (fun b o B e=>eb b o B e) f0 f1 f3 f4 Z]
 self:=fun _ _ _ _ _ st h=>wpAny_pyIter_listiter st h
def Bp {w:World}{K:vF_}(a it:Addr):Turn P w K tg (ft K a) [it] it (fun i h=>h.IsTupleIter it a i) where
 mem:=by simp
 obj:=fun i h st b B=>by
  have e:b=it:=by simpa using B
  subst e;obtain⟨o,e,c,d⟩:=st;exact#[o,e,fun v z=>by rw[d] at z;cases z]
 keep:=fun i h h' st k=>st.at fun o e=>k it (by simp) o e
 item:=by
  intro X hP hw hK hc i pins s σ H E I U st hg;subst hP hw hK;obtain⟨xs,x,Y,hx⟩:=hg;obtain⟨its,rv,p,hz⟩:=I.tuple Y;obtain⟨u,hu,ru⟩:=rv.get hx;obtain⟨f0,f1,f2,f3,f4,Z⟩:=U it (by simp);refine wpAny_pyNext_tuple_item st (show s.heap.IsTuple a its.toArray from p) (x:=u) (by simpa using hu) fun h' J sb=>?_
  have I1:Inv X pins σ H { s with heap:=h' }:=I.turned (t':=s.toks) (fun b o B e=>(sb.2 b B).trans e) f0 f1 f3 f4 Z;obtain⟨o,e,c,d⟩:=id J;exact#[u,rfl,lN (s:={ s with heap:=h' }) e c d #[] #[x,H,I1,ru,#[rfl,fun ys hy=>by rw[I.tuple_inj hy Y];exact hx],J,fun b B=>(U b B).1]]
 done:=by
  intro X hP hw hK hc i pins s σ H E I U st hg;subst hP hw hK;obtain⟨xs,Y,hx⟩:=hg;obtain⟨its,rv,p,hz⟩:=I.tuple Y;obtain⟨f0,f1,f2,f3,f4,Z⟩:=U it (by simp);have hl:=rv.length;exact wpAny_pyNext_tuple_end (I.ok.hd hc) st (show s.heap.IsTuple a its.toArray from p) (by simp;omega) fun h' eb=>#[rfl,I.turned (t':=s.toks) (fun b o B e=>eb b o B e) f0 f1 f3 f4 Z]
 self:=fun _ _ _ _ _ st h=>wpAny_pyIter_tupleiter st h
def CF {w:World}{K:vF_}(it:Addr) (lo:Int) (n:Nat):Turn P w K tg (bF lo n) [it] it (fun i h=>IsRangeIter h it (lo+(i:Nat)*1) ((n:Int) - (i:Nat)) 1) where
 mem:=by simp
 obj:=fun i h st b B=>by
  have e:b=it:=by simpa using B
  subst e;exact#[_,st,fun v z=>by
   have z':Data.fields _=Data.cell v:=z;cases z']
 keep:=fun i h h' st k=>k it (by simp) _ st
 item:=by
  intro X hP Z hK hc i pins s σ H E I U st hg;subst hP Z hK;obtain⟨f0,f1,f2,f3,f4,Y⟩:=U it (by simp);have W:=Walks.range (prog:=X.prog) (w:=X.w) (I.ok.hd hc) it lo 1 n;refine W.item i s _ _ hg st fun v h' tk hv J kk=>?_
  obtain⟨t,rfl⟩:=hv;have I1:Inv X pins σ H { s with heap:=h',toks:=tk }:=I.turned (fun b o B e=>kk b o (by simpa using B) e) f0 f1 f3 f4 Y;refine#[_,rfl,lN (s:={ s with heap:=h',toks:=tk }) (n := "range_iterator") J rfl rfl #[] #[.int (lo+i),H,I1,#[t,?_],#[rfl,rfl],J,fun b B=>(U b B).1]];rw[Int.mul_one]
 done:=by
  intro X hP Z hK hc i pins s σ H E I U st hg;subst hP Z hK;obtain⟨f0,f1,f2,f3,f4,Y⟩:=U it (by simp);exact wpAny_pyNext_range_end (I.ok.hd hc) st (by have:n<=i:=hg;omega) fun h' eb=>#[rfl,I.turned (t':=s.toks) (fun b o B e=>eb b o B e) f0 f1 f3 f4 Y]
 self:=fun _ _ _ _ _ st h=>wpAny_pyIter_rangeiter st h
def HZ {R:It->Hp->Prop}{lo hi:Int}{t u v:Tok}{B:Nat}(I:Inv X pins σ H s) (h1:-(2 ^ 62)<=lo) (h2:lo<2 ^ 62) (Z:-(2 ^ 62)<=hi) (h4:hi<2 ^ 62)
  (q:R (bF lo (hi - lo).toNat) H):wpAny (model X.prog X.w) X.A (pyIter (.ref s.heap.objs.size)) (vw X pins σ tg R) E { s with heap:=s.heap.push { cls:=.type "range",data:=.fields #v[.int lo t,.int hi u,.int 1 v] },toks:=B }:=by
 refine wpAny_pyIter_range (IsRange.new ..) (small_one h1 h2 Z h4) ?_;have J:Inv X pins σ H { s with heap:=s.heap.push { cls:=.type "range",data:=.fields #v[.int lo t,.int hi u,.int 1 v] },toks:=B }:=I.kept fun b o e=>JI _ e
 refine#[(s.heap.push { cls:=.type "range",data:=.fields #v[.int lo t,.int hi u,.int 1 v] }).objs.size,[(s.heap.push { cls:=.type "range",data:=.fields #v[.int lo t,.int hi u,.int 1 v] }).objs.size],_,_,H,rfl,
  J.kept (t':=B) fun b o e=>JI _ e,CF _ lo (hi - lo).toNat,?_,fun b U=>?_,q]
 .have Y:lo+((0:Nat):Int)*1=lo:=by simp
  have e2:(((hi - lo).toNat:Nat):Int) - ((0:Nat):Int)=Builtin.Range.rangeSize lo hi 1:=by rw[rangeSize_one];split <;> omega
  show IsRangeIter _ _ (lo+((0:Nat):Int)*1) ((((hi - lo).toNat:Nat):Int) - ((0:Nat):Int)) 1;rw[Y,e2];exact Kg _ rfl
 .have e:b=(s.heap.push { cls:=.type "range",data:=.fields #v[.int lo t,.int hi u,.int 1 v] }).objs.size:=by simpa using U
  subst e;exact J.fpOk (tx _) (J.hok.fresh (tx _))
def An (ta:TA):TI:=fun σ H R=>ta σ H fun vs H1=>∃j:Int,vs=[.int j] /\ -(2 ^ 62)<=j/\j<2 ^ 62/\R (bF 0 j.toNat) H1
def rz {a:Expr}{ta:TA}{p pos:Pos}(hg:Gl X "range") (Z:X.mg "range" = none) (Y:PA X [a] ta) (hs:starEach [a] X.env=[(false,eval a X.env)]:=by rfl):PI X tg (.Call (.Name "range" p) [a] [] pos) (An ta):=by
 intro pins s σ H R I h;refine Call_ (bX I hg Z boot_range (Mr (l6 (Y pos pins s σ H _ I h) fun us s1 ⟨vs,H1,I1,J,B⟩=>?_) hs rfl));obtain⟨j,e,B,q2,q⟩:=B;subst e;cases J with
 |cons r U=>
  cases U;obtain⟨t,rfl⟩:=r;exact call_range_1 (HZ I1 ∅ ∅ B q2 (by simpa using q))
def Fb (wi:TI) (g:TG) (tb:TS):TS:=fun D σ H=>wi σ H fun J H1=>∃W:Nat->Nat->St->Hp->Prop,(∃m,W 0 m σ H1)/\∀i m σ H,W i m σ H ->
 (J.stop i H/\D.nx σ H)\/(J.go i H/\∃N:St->Hp->Prop,(∀σ' H',N σ' H'->∃m',m'<m/\W (i+1) m' σ' H')/\∀x H',J.yld i H x H'->g x σ H' fun σ2 H2=>tb { D with nx:=N,ct:=N,bk:=D.nx } σ2 H2)
def eY (fp:vL_) (h:Heap):List (Addr × Obj):=fp.filterMap fun b=>(h.get? b).map fun o=>(b,o)
def eS {b:Addr}{o:Obj}(B:b∈fp) (e:h.get? b=some o):(b,o)∈eY fp h:=List.mem_filterMap.mpr #[b,B,by rw[e];rfl]
def Fm (J:p∈eY fp h):p.1∈fp/\h.get? p.1=some p.2:=by
 obtain⟨b,B,e⟩:=List.mem_filterMap.mp J;cases q:h.get? b with
 |none=>rw[q] at e;cases e
 |some o=>
  rw[q] at e;have U:(b,o)=p:=Kb e;subst U;exact#[B,q]
def Inv.pinned (I:Inv X pins σ H s) (Z:∀b∈fp,R5 X pins H b) (Y:∀b∈fp,∃o,s.heap.get? b=some o/\∀v,o.data ≠ .cell v):Inv X (pins++eY fp s.heap) σ H s:=
 I.pins_of fun p hp=>(JP.mp hp).elim (fun z=>I.pin p (Kd _ z)) fun z=>by
  obtain⟨B,e⟩:=Fm z;obtain⟨f0,f1,U,_⟩:=Z p.1 B;obtain⟨o,J,d⟩:=Y p.1 B;rw[e] at J;cases J;exact#[e,f0,f1,U,d]
def Inv.unpinned {B:vP_}(I:Inv X (pins++B) σ H s):Inv X pins σ H s:=I.pins_of fun p J=>I.pin p (Kd _ (Kt _ J))
def mF {iter:Expr}{body:List Stmt}{tb:TS}{pos:Pos}(hp:PassesOwn (model X.prog X.w) X.A X.env X.xe) (hc:X.calm=true) (hi:PI X tg iter wi) (hg:PG X tg g) (B:PSs X body tb)
  (hs:∀x,foldedSetIterable iter X.env x=pure x:=by intro _;rfl):PS X (.For tg iter body [] pos) (Fb wi g tb):=by
 intro pins s σ H D I h;refine wpAny_For (l6 (hi pins s σ H _ I h) fun v s1 h1=>l6 h1 fun itv s2 h2=>?_) hs;refine gB_ fun G_ g_=>?_
 obtain⟨it,fp,tn,J,H2,e,I2,T,st2,f2,W,⟨m0,w0⟩,turn⟩:=h2;apply g_;subst e;have stat:∀{H':Hp},(∀b∈fp,H' b=none)->∀b∈fp,R5 X pins H' b:=fun hn b B=>#[hn b B,(f2 b B).2]
 refine codeAny_forLoop_any (fun n s'=>∃i σ' H',Inv X pins σ' H' s'/\tn i s'.heap/\(∀b∈fp,H' b=none)/\W i n σ' H') ?_ m0 #[0,σ,H2,I2,st2,fun b B=>(f2 b B).1,w0];rintro n s3 ⟨i,σ3,H3,I3,st3,fr3,w3⟩;rcases turn i n σ3 H3 w3 with ⟨stop,qn⟩ | ⟨go,N,hN,step⟩
 .refine LJ hp (l6 (T.done X rfl rfl rfl hc i pins s3 σ3 H3 X.xe I3 (stat fr3) st3 stop) fun r s4 ⟨hr,I4⟩=>?_);subst hr;exact Me #[σ3,H3,I4,qn]
 .refine LJ hp (l6 (T.item X rfl rfl rfl hc i pins s3 σ3 H3 X.xe I3 (stat fr3) st3 go) fun r s4 ⟨u,hr,h4⟩=>?_);subst hr;refine LJ hp (l6 h4 fun _ s5 ⟨x,H5,I5,r5,y5,st5,fr5⟩=>?_);have I5':=I5.pinned (stat fr5) (T.obj _ _ st5);refine LJ hp (l6 (hg _ s5 σ3 H5 x u _ I5' r5 (step x H5 y5)) fun _ s6 ⟨σ6,H6,I6,q6⟩=>?_);refine LJ hp (l6 (B _ s6 σ6 H6 _ I6 q6) fun f s7 q7=>?_);have Z:∀{σ7:St}{U:Hp},Inv X (pins++eY fp s5.heap) σ7 U s7->N σ7 U->∃m,m<n/\∃i σ' H',Inv X pins σ' H' s7/\tn i s7.heap/\(∀b∈fp,H' b=none)/\W i m σ' H':=fun {σ7 U} Y n7=>by
   obtain⟨m',hm,w7⟩:=hN σ7 U n7;refine#[m',hm,i+1,σ7,U,Y.unpinned,T.keep _ _ _ st5 fun b B o e=>(Y.pin (b,o) (Kd _ (Kd _ (eS B e)))).1,fun b B=>?_,w7];obtain⟨o,e,d⟩:=T.obj _ _ st5 b B;exact(Y.pin (b,o) (Kd _ (Kd _ (eS B e)))).2.1
  cases f with
  |next=>obtain⟨σ7,U,Y,n7⟩:=q7;exact Z Y n7
  |cont=>obtain⟨σ7,U,Y,n7⟩:=q7;exact Z Y n7
  |brk=>obtain⟨σ7,U,Y,q7⟩:=q7;exact#[σ7,U,Y.unpinned,q7]
  |ret v=>obtain⟨x7,σ7,U,Y,r7,q7⟩:=q7;exact#[x7,σ7,U,Y.unpinned,r7,q7]
def BU {K:vF_}{a:Addr}{xs:List V}{g:TG}{tb:TS}{D:Ends}{H:Hp}(B:Nat->St->Hp->Prop) (h0:B 0 σ H) (Z:∀i σ H,i<=xs.length->B i σ H->SqL K H a xs)
  (U:∀i x σ H,xs[i]? = some x->B i σ H->g x σ H fun σ2 H2=>tb { D with nx:=B (i+1),ct:=B (i+1),bk:=D.nx } σ2 H2) (Y:∀σ H,B xs.length σ H->D.nx σ H) :
  ∃W:Nat->Nat->St->Hp->Prop,(∃m,W 0 m σ H)/\∀i m σ H,W i m σ H ->
   ((eG K a).stop i H/\D.nx σ H)\/((eG K a).go i H/\∃N:St->Hp->Prop,(∀σ' H',N σ' H'->∃m',m'<m/\W (i+1) m' σ' H')/\∀x H',(eG K a).yld i H x H'->g x σ H' fun σ2 H2=>tb { D with nx:=N,ct:=N,bk:=D.nx } σ2 H2):=by
 refine#[fun i m σ H=>m=xs.length - i/\i<=xs.length/\B i σ H,#[xs.length,by simp,Ko _,h0],?_];rintro i m σ H ⟨rfl,hi,p⟩;have q:=Z i σ H hi p;by_cases J:i<xs.length
 .refine .inr #[#[xs,xs[i],q,by simp[J]],B (i+1),fun σ' H' p'=>#[xs.length - (i+1),by omega,rfl,J,p'],fun x H' y=>?_];obtain⟨e,y⟩:=y;subst e;exact U i x σ _ (y xs q) p
 .have e:i=xs.length:=by omega
  subst e;exact .inl #[#[xs,q,tx _],Y σ H p]
def jQ {K:vF_}{a:Addr}{xs:List V}{g:TG}{tb:TS}{D:Ends}{H:Hp}(B:Nat->St->Hp->Prop) (h0:B 0 σ H) (Z:∀i σ H,i<=xs.length->B i σ H->SqT K H a xs)
  (U:∀i x σ H,xs[i]? = some x->B i σ H->g x σ H fun σ2 H2=>tb { D with nx:=B (i+1),ct:=B (i+1),bk:=D.nx } σ2 H2) (Y:∀σ H,B xs.length σ H->D.nx σ H) :
  ∃W:Nat->Nat->St->Hp->Prop,(∃m,W 0 m σ H)/\∀i m σ H,W i m σ H ->
   ((ft K a).stop i H/\D.nx σ H)\/((ft K a).go i H/\∃N:St->Hp->Prop,(∀σ' H',N σ' H'->∃m',m'<m/\W (i+1) m' σ' H')/\∀x H',(ft K a).yld i H x H'->g x σ H' fun σ2 H2=>tb { D with nx:=N,ct:=N,bk:=D.nx } σ2 H2):=by
 refine#[fun i m σ H=>m=xs.length - i/\i<=xs.length/\B i σ H,#[xs.length,by simp,Ko _,h0],?_];rintro i m σ H ⟨rfl,hi,p⟩;have q:=Z i σ H hi p;by_cases J:i<xs.length
 .refine .inr #[#[xs,xs[i],q,by simp[J]],B (i+1),fun σ' H' p'=>#[xs.length - (i+1),by omega,rfl,J,p'],fun x H' y=>?_];obtain⟨e,y⟩:=y;subst e;exact U i x σ _ (y xs q) p
 .have e:i=xs.length:=by omega
  subst e;exact .inl #[#[xs,q,tx _],Y σ H p]
def Fn {lo:Int}{n:Nat}{g:TG}{tb:TS}{D:Ends}{H:Hp}(J:Nat->St->Hp->Prop) (U:J 0 σ H)
  (Z:∀i σ H,i<n->J i σ H->g (.int (lo+i)) σ H fun σ2 H2=>tb { D with nx:=J (i+1),ct:=J (i+1),bk:=D.nx } σ2 H2) (Y:∀σ H,J n σ H->D.nx σ H) :
  ∃W:Nat->Nat->St->Hp->Prop,(∃m,W 0 m σ H)/\∀i m σ H,W i m σ H ->
   ((bF lo n).stop i H/\D.nx σ H)\/((bF lo n).go i H/\∃N:St->Hp->Prop,(∀σ' H',N σ' H'->∃m',m'<m/\W (i+1) m' σ' H')/\∀x H',(bF lo n).yld i H x H'->g x σ H' fun σ2 H2=>tb { D with nx:=N,ct:=N,bk:=D.nx } σ2 H2):=by
 refine#[fun i m σ H=>m=n - i/\i<=n/\J i σ H,#[n,by simp,Ko _,U],?_];rintro i m σ H ⟨rfl,hi,p⟩;by_cases B:i<n
 .refine .inr #[B,J (i+1),fun σ' H' p'=>#[n - (i+1),by omega,rfl,B,p'],fun x H' y=>?_];obtain⟨e,y⟩:=y;subst e y;exact Z i σ _ B p
 .have e:i=n:=by omega
  subst e;exact .inl #[tx _,Y σ H p]
abbrev R2:=V->V->Hp->VK->Prop
def OpR (X:Cx) (f:Value->Value->Sem Value) (r:R2):Prop:=
 ∀(pins:vP_) (s:Shared) (σ:St) (H:Hp) (x y:V) (v u:Value) (Q:VK),Inv X pins σ H s->RelV x v->RelV y u->r x y H Q ->
  wpAny (model X.prog X.w) X.A (f v u) (EP X pins σ Q) X.xe s
def gS (X:Cx) (f:Value->Sem Value) (r:V->Hp->VK->Prop):Prop:=
 ∀(pins:vP_) (s:Shared) (σ:St) (H:Hp) (x:V) (v:Value) (Q:VK),Inv X pins σ H s->RelV x v->r x H Q ->
  wpAny (model X.prog X.w) X.A (f v) (EP X pins σ Q) X.xe s
def CallR (X:Cx) (f:Value) (r:List V->Hp->VK->Prop):Prop:=
 ∀(pins:vP_) (s:Shared) (σ:St) (H:Hp) (xs:List V) (us:vV_) (Q:VK),Inv X pins σ H s->Vals xs us->r xs H Q ->
  wpAny (model X.prog X.w) X.A (call f us) (EP X pins σ Q) X.xe s
def Il (X:Cx) (r:V->Hp->(Bool->Hp->Prop)->Prop):Prop:=
 ∀(pins:vP_) (s:Shared) (σ:St) (H:Hp) (x:V) (v:Value) (Q:Bool->Hp->Prop),Inv X pins σ H s->RelV x v->r x H Q ->
  wpAny (model X.prog X.w) X.A (truthy v) (TP X pins σ Q) X.xe s
def cx (r:R2) (ta tb:TE):TE:=fun σ H Q=>ta σ H fun x H1=>tb σ H1 fun y H2=>r x y H2 Q
def Ce (r:V->Hp->VK->Prop) (ta:TE):TE:=fun σ H Q=>ta σ H fun x H1=>r x H1 Q
def rI (C:Int->Int->Prop) (g:Int->Int->V):R2:=fun x y H Q=>∃i j,x = .int i/\y = .int j/\C i j/\Q (g i j) H
def S9 (g:Int->Int->V):R2:=fun x y H Q=>∃i j,x = .int i/\y = .int j/\Q (g i j) H
def rU (g:Int->V):V->Hp->VK->Prop:=fun x H Q=>∃i,x = .int i/\Q (g i) H
section
variable {a b c:Expr}{ta tb tc:TE}{pos:Pos}
def mQ (J:PE X a ta) (Z:PE X b tb) {R:V->V->Hp->Prop}(I:Inv X pins σ H s)
  (h:ta σ H fun x H1=>tb σ H1 fun y H2=>R x y H2) {f:Value->Value->Sem Value}
  (hf:∀v u s2 x y H2,Inv X pins σ H2 s2->RelV x v->RelV y u->R x y H2->wpAny (model X.prog X.w) X.A (f v u) Q X.xe s2) :
  wpAny (model X.prog X.w) X.A (eval a X.env) (fun v s₁=>wpAny (model X.prog X.w) X.A (eval b X.env) (fun u s₂=>wpAny (model X.prog X.w) X.A (f v u) Q X.xe s₂) X.xe s₁) X.xe s:=by
 refine l6 (J pins s σ H _ I h) fun v s1 ⟨x,H1,Y,B,q1⟩=>?_
 refine l6 (Z pins s1 σ H1 _ Y q1) fun u s2 ⟨y,H2,U,r2,q2⟩=>?_
 exact hf v u s2 x y H2 U B r2 q2
def pd {B:Operator}{r:R2}(ho:OpR X (binaryOp B) r) (J:PE X a ta) (U:PE X b tb):PE X (.BinOp a B b pos) (cx r ta tb):=by
 intro pins s σ H Q I h;exact wpAny_BinOp (mQ J U I h fun v u s2 x y H2 Z Y ry q=>ho pins s2 σ H2 x y v u Q Z Y ry q)
def Gf {B:UnaryOp}{r:V->Hp->VK->Prop}(Y:gS X (unaryOp B) r) (U:PE X a ta):PE X (.UnaryOp B a pos) (Ce r ta):=by
 intro pins s σ H Q I h;exact UnaryOp_ (l6 (U pins s σ H _ I h) fun v s1 ⟨x,H1,Z,J,q1⟩=>Y pins s1 σ H1 x v Q Z J q1)
def gn {f:Value->Value->Sem Value}{C:Int->Int->Prop}{g:Int->Int->Int}
  (B:∀(i j:Int) (t u:Tok) (s:Shared) (Q:vQ_) (E:vQ_),C i j->Q (.int (g i j) s.toks) { s with toks:=s.toks+1 }->wpAny (model X.prog X.w) X.A (f (.int i t) (.int j u)) Q E s) :
  OpR X f (rI C fun i j=>.int (g i j)):=by
 intro pins s σ H x y v u Q I U Y h;obtain⟨i,j,rfl,rfl,J,q⟩:=h;obtain⟨t,rfl⟩:=U;obtain⟨t',rfl⟩:=Y;exact B i j t t' s _ _ J #[.int (g i j),H,I.tok _,#[_,rfl],q]
def vV {f:Value->Value->Sem Value}{g:Int->Int->Int}
  (B:∀(i j:Int) (t u:Tok) (s:Shared) (Q:vQ_) (E:vQ_),Q (.int (g i j) s.toks) { s with toks:=s.toks+1 }->wpAny (model X.prog X.w) X.A (f (.int i t) (.int j u)) Q E s) :
  OpR X f (S9 fun i j=>.int (g i j)):=by
 intro pins s σ H x y v u Q I J U h;obtain⟨i,j,rfl,rfl,q⟩:=h;obtain⟨t,rfl⟩:=J;obtain⟨t',rfl⟩:=U;exact B i j t t' s _ _ #[.int (g i j),H,I.tok _,#[_,rfl],q]
def iC {f:Value->Value->Sem Value}{g:Int->Int->Bool}
  (B:∀(i j:Int) (t u:Tok) (s:Shared) (Q:vQ_) (E:vQ_),Q (.bool (g i j)) s->wpAny (model X.prog X.w) X.A (f (.int i t) (.int j u)) Q E s) :
  OpR X f (S9 fun i j=>.bl (g i j)):=by
 intro pins s σ H x y v u Q I J U h;obtain⟨i,j,rfl,rfl,q⟩:=h;obtain⟨t,rfl⟩:=J;obtain⟨t',rfl⟩:=U;exact B i j t t' s _ _ #[.bl (g i j),H,I,rfl,q]
def oj (i j:Int):Prop:=0<=j/\j<=1000000/\i.natAbs<2 ^ 64
def op_add:OpR X (binaryOp .Add) (S9 fun i j=>.int (i+j)):=vV fun _ _ _ _ _ _ _ q=>add_int q
def HM:OpR X (binaryOp .Sub) (S9 fun i j=>.int (i - j)):=vV fun _ _ _ _ _ _ _ q=>sub_int q
def Ff:OpR X (binaryOp .Mod) (rI (fun _ j=>j≠0) fun i j=>.int (i.fmod j)):=gn fun _ _ _ _ _ _ _ B q=>mod_int' B q
def AU:OpR X (binaryOp .Pow) (rI oj fun i j=>.int (i ^ j.toNat)):=gn fun _ _ _ _ _ _ _ B q=>pow_int_small B.1 B.2.1 B.2.2 q
def CC {f:Value->Sem Value}{g:Int->Int}
  (B:∀(i:Int) (t:Tok) (s:Shared) (Q:vQ_) (E:vQ_),Q (.int (g i) s.toks) { s with toks:=s.toks+1 }->wpAny (model X.prog X.w) X.A (f (.int i t)) Q E s) :
  gS X f (rU fun i=>.int (g i)):=by
 intro pins s σ H x v Q I J h;obtain⟨i,rfl,q⟩:=h;obtain⟨t,rfl⟩:=J;exact B i t s _ _ #[.int (g i),H,I.tok _,#[_,rfl],q]
def Bw:gS X (unaryOp .USub) (rU fun i=>.int (-i)):=CC fun _ _ _ _ _ q=>neg_int q
end
def qj:V->V->Bool
 |.non,.non=>true | .non,.int _=>true | .int _,.non=>true | .non,.bl _=>true | .bl _,.non=>true | .non,.str _=>true | .str _,.non=>true
 |.int _,.int _=>true | .bl _,.bl _=>true | .str _,.str _=>true | .byt _,.byt _=>true
 |.int _,.str _=>true | .str _,.int _=>true | .bl _,.str _=>true | .str _,.bl _=>true
 |_,_=>false
def ki:R2:=fun x y H Q=>qj x y=true/\Q (.bl (decide (x=y))) H
def mB:R2:=fun x y H Q=>qj x y=true/\Q (.bl (!decide (x=y))) H
def rP {i j:Int}:decide (V.int i=V.int j)=(i == j):=by
 rw[Ld];simp
def uc {i j:Bool}:decide (V.bl i=V.bl j)=(i == j):=by
 rw[Ld];simp
def vU {i j:Str}:decide (V.str i=V.str j)=(i == j):=by
 rw[Ld];simp
def tH {i j:Array UInt8}:decide (V.byt i=V.byt j)=(i.toList == j.toList):=by
 rw[Ld];cases i;cases j;simp
section
variable {a b c:Expr}{ta tb tc:TE}{pos:Pos}
def D4 {Q:VK}{k k':Bool}(I:Inv X pins σ H s) (q:Q (.bl k) H) (e:k=k'):EP X pins σ Q (.bool k') s:=by
 subst e;exact#[.bl k,H,I,rfl,q]
def op_eq:OpR X (compareOp .Eq) ki:=by
 intro pins s σ H x y v u Q I U B h;obtain⟨J,q⟩:=h;cases x with
 |non=>
  cases U;cases y with
  |non=>cases B;exact PySem.EqNone.eq_none_none (D4 I q (by simp))
  |bl j=>cases B;exact PySem.EqNone.eq_none_bool (D4 I q (by simp))
  |int j=>obtain⟨t',rfl⟩:=B;exact PySem.EqNone.eq_none_int (D4 I q (by simp))
  |str j=>obtain⟨t',rfl⟩:=B;exact PySem.EqNone.eq_none_str (D4 I q (by simp))
  |_=>exact absurd (show false=true from J) JQ
 |bl i=>
  cases U;cases y with
  |non=>cases B;exact PySem.EqNone.eq_bool_none (D4 I q (by simp))
  |bl j=>cases B;exact eq_bool (D4 I q uc)
  |str j=>obtain⟨t',rfl⟩:=B;exact PySem.EqMixed.eq_bool_str (D4 I q (by simp))
  |_=>exact absurd (show false=true from J) JQ
 |int i=>
  obtain⟨t,rfl⟩:=U;cases y with
  |non=>cases B;exact PySem.EqNone.eq_int_none (D4 I q (by simp))
  |int j=>obtain⟨t',rfl⟩:=B;exact eq_int (D4 I q rP)
  |str j=>obtain⟨t',rfl⟩:=B;exact PySem.EqMixed.eq_int_str (D4 I q (by simp))
  |_=>exact absurd (show false=true from J) JQ
 |str i=>
  obtain⟨t,rfl⟩:=U;cases y with
  |non=>cases B;exact PySem.EqNone.eq_str_none (D4 I q (by simp))
  |bl j=>cases B;exact PySem.EqMixed.eq_str_bool (D4 I q (by simp))
  |int j=>obtain⟨t',rfl⟩:=B;exact PySem.EqMixed.eq_str_int (D4 I q (by simp))
  |str j=>obtain⟨t',rfl⟩:=B;exact eq_str (D4 I q vU)
  |_=>exact absurd (show false=true from J) JQ
 |byt i=>
  obtain⟨t,rfl⟩:=U;cases y with
  |byt j=>obtain⟨t',rfl⟩:=B;exact PySem.W.eq_bytes (D4 I q tH)
  |_=>exact absurd (show false=true from J) JQ
 |_=>cases y <;> exact absurd (show false=true from J) JQ
def op_ne:OpR X (compareOp .NotEq) mB:=by
 intro pins s σ H x y v u Q I U B h;obtain⟨J,q⟩:=h;cases x with
 |non=>
  cases U;cases y with
  |non=>cases B;exact PySem.EqNone.ne_none_none (D4 I q (by simp))
  |bl j=>cases B;exact PySem.EqNone.ne_none_bool (D4 I q (by simp))
  |int j=>obtain⟨t',rfl⟩:=B;exact PySem.EqNone.ne_none_int (D4 I q (by simp))
  |str j=>obtain⟨t',rfl⟩:=B;exact PySem.EqNone.ne_none_str (D4 I q (by simp))
  |_=>exact absurd (show false=true from J) JQ
 |bl i=>
  cases U;cases y with
  |non=>cases B;exact PySem.EqNone.ne_bool_none (D4 I q (by simp))
  |bl j=>cases B;exact ne_bool (D4 I q (congrArg not uc))
  |str j=>obtain⟨t',rfl⟩:=B;exact PySem.EqMixed.ne_bool_str (D4 I q (by simp))
  |_=>exact absurd (show false=true from J) JQ
 |int i=>
  obtain⟨t,rfl⟩:=U;cases y with
  |non=>cases B;exact PySem.EqNone.ne_int_none (D4 I q (by simp))
  |int j=>obtain⟨t',rfl⟩:=B;exact ne_int (D4 I q (congrArg not rP))
  |str j=>obtain⟨t',rfl⟩:=B;exact PySem.EqMixed.ne_int_str (D4 I q (by simp))
  |_=>exact absurd (show false=true from J) JQ
 |str i=>
  obtain⟨t,rfl⟩:=U;cases y with
  |non=>cases B;exact PySem.EqNone.ne_str_none (D4 I q (by simp))
  |bl j=>cases B;exact PySem.EqMixed.ne_str_bool (D4 I q (by simp))
  |int j=>obtain⟨t',rfl⟩:=B;exact PySem.EqMixed.ne_str_int (D4 I q (by simp))
  |str j=>obtain⟨t',rfl⟩:=B;exact ne_str (D4 I q (congrArg not vU))
  |_=>exact absurd (show false=true from J) JQ
 |byt i=>
  obtain⟨t,rfl⟩:=U;cases y with
  |byt j=>obtain⟨t',rfl⟩:=B;exact PySem.W.ne_bytes (D4 I q (congrArg not tH))
  |_=>exact absurd (show false=true from J) JQ
 |_=>cases y <;> exact absurd (show false=true from J) JQ
def sk:OpR X (compareOp .Lt) (S9 fun i j=>.bl (decide (i<j))):=iC fun _ _ _ _ _ _ _ q=>lt_int q
def uu:OpR X (compareOp .LtE) (S9 fun i j=>.bl (decide (i<=j))):=iC fun _ _ _ _ _ _ _ q=>le_int q
def zL:OpR X (compareOp .Gt) (S9 fun i j=>.bl (decide (j<i))):=iC fun _ _ _ _ _ _ _ q=>gt_int q
def HQ:OpR X (compareOp .GtE) (S9 fun i j=>.bl (decide (j<=i))):=iC fun _ _ _ _ _ _ _ q=>ge_int q
def Fz:OpR X (compareOp .Is) (fun x y H Q=>y = .non/\Q (.bl (decide (x = .non))) H):=by
 intro pins s σ H x y v u Q I B J h;obtain⟨rfl,q⟩:=h;cases J;refine is_none_gen (D4 I q ?_);cases x <;> first
  | (cases B;rfl)
  | (obtain⟨t,rfl⟩:=B;rfl)
def OpR.or {f:Value->Value->Sem Value}{r B:R2}(h:OpR X f r) (h':OpR X f B):OpR X f (fun x y H Q=>r x y H Q\/B x y H Q):=by
 intro pins s σ H x y v u Q I J U q;rcases q with q | q
 .exact h pins s σ H x y v u Q I J U q
 .exact h' pins s σ H x y v u Q I J U q
def wD (b:Expr) {B:CmpOp}(h:B ≠ .In:=by decide) (h2:B ≠ .NotIn:=by decide):behindInMarks B b=false:=by
 have U:(B == CmpOp.In)=false:=by cases B <;> first | rfl | exact absurd rfl h
 have J:(B == CmpOp.NotIn)=false:=by cases B <;> first | rfl | exact absurd rfl h2
 cases b <;> simp[behindInMarks,U,J]
def FV {B:CmpOp}{r:R2}(ho:OpR X (compareOp B) r) (J:PE X a ta) (Y:PE X b tb) (U:behindInMarks B b=false):PE X (.Compare a [B] [b] pos) (cx r ta tb):=by
 intro pins s σ H Q I h;exact wpAny_Compare1 (mQ J Y I h fun v u s2 x y H2 I2 Z ry q=>ho pins s2 σ H2 x y v u Q I2 Z ry q) U
def FH (t:TE):TT:=fun σ H Q=>t σ H fun x H'=>∃k,x = .bl k/\Q k H'
def Gw {B:CmpOp}{r:R2}(ho:OpR X (compareOp B) r) (U:PE X a ta) (Z:PE X b tb) (Y:behindInMarks B b=false):PT X (.Compare a [B] [b] pos) (FH (cx r ta tb)):=by
 intro pins s σ H Q I h;refine wpAny_isTrue_Compare1 (l6 (U pins s σ H _ I h) fun v s1 ⟨x,H1,I1,J,q1⟩=>l6 (Z pins s1 σ H1 _ I1 q1) fun u s2 ⟨y,H2,I2,r2,q2⟩=>
  l6 (ho pins s2 σ H2 x y v u _ I2 J r2 q2) fun c s3 ⟨z,H3,I3,r3,k,e,q3⟩=>?_) Y
 subst e;cases r3;exact Md #[H3,I3,q3]
def uJ (r J:R2) (ta tb tc:TE):TE:=fun σ H Q=>ta σ H fun x H1=>tb σ H1 fun y H2=>r x y H2 fun z B=>∃k,z = .bl k /\
 (if k=true then tc σ B fun Y U=>J y Y U Q else Q (.bl false) B)
def BQ {J B:CmpOp}{r Y:R2}(ho:OpR X (compareOp J) r) (U:OpR X (compareOp B) Y) (ha:PE X a ta) (hb:PE X b tb) (hc:PE X c tc)
  (hm:lastMarks [J,B] [b,c]=false:=by with_unfolding_all rfl):PE X (.Compare a [J,B] [b,c] pos) (uJ r Y ta tb tc):=by
 intro pins s σ H Q I h;refine Compare_chain (l6 (ha pins s σ H _ I h) fun v s1 ⟨x,H1,I1,r1,q1⟩=>chain_link (l6 (hb pins s1 σ H1 _ I1 q1) fun u s2 ⟨y,H2,I2,Z,q2⟩=>
  l6 (ho pins s2 σ H2 x y v u _ I2 r1 Z q2) fun d s3 ⟨z,H3,I3,r3,k,e,q3⟩=>?_)) hm
 subst e;cases r3;refine Md ?_;cases k with
 |false=>exact ite_ff #[.bl false,H3,I3,rfl,q3]
 |true=>exact ite_tt (chain_last (l6 (hc pins s3 σ H3 _ I3 q3) fun w' s4 ⟨z',H4,I4,r4,q4⟩=>U pins s4 σ H4 y z' u w' Q I4 Z r4 q4))
def tI (K:vF_) (x:V) (H:Hp) (k:Bool):Prop:=
 match x with
 |.non=>k=false
 |.bl b=>k=b
 |.int i=>k=(i != 0)
 |.str y=>y.length<=sizeLine/\k=((y.length:Int) != 0)
 |.byt y=>y.size<=sizeLine/\k=((y.size:Int) != 0)
 |.ref p=>(∃xs,SqL K H p xs/\k = !xs.isEmpty)\/(∃xs,SqT K H p xs/\k = !xs.isEmpty)\/∃kvs,H p=some (.dK kvs)/\k = !kvs.isEmpty
 |_=>False
def EK {κ:Type}{kvs:List (κ × V)}{vs:List (κ × Value)}(r:KV kvs vs):(!vs.isEmpty) = !kvs.isEmpty:=by
 cases r <;> rfl
def tq (r:Vals xs its):(!its.toArray.isEmpty) = !xs.isEmpty:=by
 cases r <;> simp
def di:(sizeLine:Nat)<2 ^ 63:=by rw[Kk];decide
def JG:Il X (fun x H Q=>∃k,tI X.K x H k/\Q k H):=by
 intro pins s σ H x v Q I U h;obtain⟨k,e,q⟩:=h;have hl:=di;have hs:sizeLine=16777216:=Kk;cases x with
 |non=>
  cases U;have B:k=false:=e;subst B;exact truthy_none #[H,I,q]
 |bl b=>
  cases U;have B:k=b:=e;subst B;exact Md #[H,I,q]
 |int i=>
  obtain⟨t,rfl⟩:=U;have B:k=(i != 0):=e;subst B;exact PySem.P.truthy_int #[H,I,q]
 |str y=>
  obtain⟨t,rfl⟩:=U;obtain⟨hy,B⟩:y.length<=sizeLine/\k=((y.length:Int) != 0):=e;subst B;exact PySem.P.truthy_str ∅ #[H,I.tok _,q]
 |byt y=>
  obtain⟨t,rfl⟩:=U;obtain⟨hy,B⟩:y.size<=sizeLine/\k=((y.size:Int) != 0):=e;subst B;exact PySem.W.truthy_bytes ∅ #[H,I.tok _,q]
 |ref p=>
  cases U;have B:(∃xs,SqL X.K H p xs/\k = !xs.isEmpty)\/(∃xs,SqT X.K H p xs/\k = !xs.isEmpty)\/∃kvs,H p=some (.dK kvs)/\k = !kvs.isEmpty:=e;rcases B with ⟨xs,Y,B⟩ | ⟨xs,Y,B⟩ | ⟨kvs,Y,B⟩
  .subst B;obtain⟨its,r,Z,hz⟩:=I.list Y;have J:=r.length;exact wpAny_truthy_list Z.isList (by simp only[JY];omega) #[H,I.tok _,by rw[tq r];exact q]
  .subst B;obtain⟨its,r,Z,hz⟩:=I.tuple Y;have J:=r.length;exact truthy_tuple Z (by simp only[JY];omega) #[H,I.tok _,by rw[tq r];exact q]
  .subst B;obtain⟨hz,hS,vs,r,m⟩:kvs.length<=sizeLine/\(p == sysModules)=false/\∃vs,KV kvs vs/\s.heap.DictOf (O5 X.prog X.w) p vs:=I.hok p _ Y;have J:kvs.length=vs.length:=MP r;exact wpAny_truthy_dict hS m ∅ #[H,I.tok _,by rw[EK r];exact q]
 |_=>exact(show False from e).elim
def Jz (J:PE X a ta) (Y:∀whole,isTrue a X.env whole=(do let v <-whole;standAt a.pos;holding [v] (truthy v))) :
  PT X a (fun σ H Q=>ta σ H fun x H'=>∃k,tI X.K x H' k/\Q k H'):=by
 intro pins s σ H Q I h;exact isTrue_plain (l6 (J pins s σ H _ I h) fun v s1 ⟨x,H1,U,B,Z⟩=>JG pins s1 σ H1 x v Q U B Z) (Y _)
def AD:OpR X (binaryOp .Add) (fun x y H Q=>∃i j,x = .str i/\y = .str j/\i.length+j.length<=sizeLine/\Q (.str (i++j)) H):=by
 intro pins s σ H x y v u Q I J U h;obtain⟨i,j,rfl,rfl,B,q⟩:=h;obtain⟨t,rfl⟩:=J;obtain⟨t',rfl⟩:=U;exact add_str (fun t' Y=>#[.str (i++j),H,I.tok _,#[_,rfl],q]) B
def Y1 {x:V}(r:Vals [x] us):∃u,us=[u]/\RelV x u:=by
 cases r with
 |cons B J=>cases J;exact#[_,rfl,B]
def mZ {x y:V}(r:Vals [x,y] us):∃u w',us=[u,w']/\RelV x u/\RelV y w':=by
 cases r with
 |cons B U=>
  cases U with
  |cons J Y=>cases Y;exact#[_,_,rfl,B,J]
def Dr:CallR X (.builtin "abs") (fun xs H Q=>∃i,xs=[.int i]/\Q (.int (if i<0 then -i else i)) H):=by
 intro pins s σ H xs us Q I r h;obtain⟨i,rfl,q⟩:=h;obtain⟨u,rfl,t,rfl⟩:=Y1 r;exact call_abs_int fun u B=>#[.int (if i<0 then -i else i),H,I.tok _,#[_,rfl],q]
def zX:CallR X (.type "int") (fun xs H Q=>(∃i,xs=[.int i]/\Q (.int i) H)\/∃k,xs=[.bl k]/\Q (.int (if k then 1 else 0)) H):=by
 intro pins s σ H xs us Q I r h;rcases h with ⟨i,rfl,q⟩ | ⟨k,rfl,q⟩
 .obtain⟨u,rfl,t,rfl⟩:=Y1 r;exact call_int_int #[.int i,H,I,#[_,rfl],q]
 .obtain⟨u,rfl,B⟩:=Y1 r;cases B;exact call_int_bool #[.int (if k then 1 else 0),H,I.tok _,#[_,rfl],q]
def CD:CallR X (.type "str") (fun xs H Q=>∃i,xs=[.int i]/\i.natAbs.log2<1920/\Q (.str (toString i)) H):=by
 intro pins s σ H xs us Q I r h;obtain⟨i,rfl,B,q⟩:=h;obtain⟨u,rfl,t,rfl⟩:=Y1 r;exact PySem.P.str_of_int B #[.str _,H,I.tok _,#[_,rfl],q]
end
def RelO.some_of {v:V}{o:Option Value}(r:RelO (some v) o):∃u,o=some u/\RelV v u:=by
 cases o with
 |none=>exact(show False from r).elim
 |some u=>exact#[u,rfl,r]
section
variable {fs:List (Str × V)}{f:Str}{v:V}
def Ge {w:World}{f:Str}{pos:Pos}(B:attributeBase e f env (eval e env)=eval e env)
  (h:wpAny (model prog w) A (eval e env) (fun o s₁=>wpAny (model prog w) A (getAttr o f true) Q E s₁) E s):wpAny (model prog w) A (eval (.Attribute e f pos) env) Q E s:=
 Attribute_any_ h (by rw[arm_eval_Attribute,B])
end
structure Room (k:Nat) (A:Around):Prop where
 hd:A.handled=none
 dp:A.depth+3*k+5<recursionLimit
 un:A.units+16*k+200<cLine
 gd:A.guards=some []
def Room.mono {k:Nat}(r:Room k A) (h:j<=k):Room j A:=#[r.hd,by have:=r.dp;omega,by have:=r.un;omega,r.gd]
theorem Room.deeper {k:Nat}(r:Room (k+1) A) (env:Env):Room k (A.deeper env):=
 #[r.hd,by have:=r.dp;show A.depth+1+3*k+5<_;omega,by have:=r.un;show A.units+3+16*k+200<_;omega,r.gd]
def zo :(A.under (.builtin "type.__call__" #[.ref C::us,kw])).depth=A.depth+1:=by
 first | rfl | simp[Around.under,Code.weight,Code.isCreation,Code.isGuard,Code.isCaller,Code.frames,Code.isFrame,guardIds]
def Gs :(A.under (.builtin "type.__call__" #[.ref C::us,kw])).units=A.units+1:=by
 first | rfl | simp[Around.under,Code.cUnits,Code.frames,Code.isFrame]
def Room.make {k:Nat}(r:Room (k+1) A) (C:Addr) (us:vV_) (kw:List (Str × Value)):Room k (A.under (.builtin "type.__call__" #[.ref C::us,kw])):=
 #[r.hd,by have:=r.dp;rw[zo];omega,by have:=r.un;rw[Gs];omega,by have:=r.gd;simp[Around.under,Code.guards,Code.isGuard,guardIds,pushGuards,this]]
theorem Room.depth {k:Nat}(r:Room k A):A.depth<recursionLimit:=by have:=r.dp;omega
theorem Room.units {k:Nat}(r:Room k A):A.units+64<cLine:=by have:=r.un;omega
def uv:TA:=fun _ H Q=>Q [] H
def jJ (ta:TE) (B:TA):TA:=fun σ H Q=>ta σ H fun x H1=>B σ H1 fun xs H2=>Q (x::xs) H2
section
variable {t:TA}{pos:Pos}
def aq:PA X [] uv:=fun _ _ _ _ H Q I h=>Calls.spliced_nil #[[],H,I,.nil,h]
def S5 (J:PE X e te) (hr:PA X es t) (U:starEach (e::es) X.env=(false,eval e X.env)::starEach es X.env:=by rfl):PA X (e::es) (jJ te t):=by
 intro pos pins s σ H Q I h;rw[U];show wpAny _ _ (spliced ((false,eval e X.env)::backTo pos (starEach es X.env))) _ _ s;refine Calls.spliced_cons (l6 (J pins s σ H _ I h) fun u s1 ⟨x,H1,I1,B,Y⟩=>?_);exact l6 (hr pos pins s1 σ H1 _ I1 Y) fun us s2 ⟨xs,H2,I2,r2,Z⟩=>#[x::xs,H2,I2,.cons B r2,Z]
def AL (t:TA):TE:=fun σ H Q=>t σ H fun xs H1=>xs.length<=sizeLine/\∀p,H1 p=none->Q (.ref p) (j5 H1 p (.tup xs))
def Hf (t:TA):TE:=fun σ H Q=>t σ H fun xs H1=>xs.length<=sizeLine/\∀p,H1 p=none->Q (.ref p) (j5 H1 p (.lst xs))
def sL {x1} (h:PA X es t):PE X (.Tuple es x1 pos) (AL t):=by
 intro pins s σ H Q I U;refine wpAny_Tuple_spliced (l6 (h pos pins s σ H _ I U) fun us s1 ⟨xs,H1,B,r,z,q⟩=>#[by rw[<-r.length];exact z,?_]);have J:H1 s1.heap.objs.size=none:=B.hok.fresh (tx _);refine#[.ref s1.heap.objs.size,j5 H1 s1.heap.objs.size (.tup xs),B.laid (t':=s1.toks) (fun b u e=>JI _ e) (tx _) ?_,rfl,q _ J];exact#[z,us,r,#[_,Kg _ rfl,rfl,_,rfl]]
def Aq (h:PA X es t):PE X (.List es pos) (Hf t):=by
 intro pins s σ H Q I U;refine wpAny_List_spliced (l6 (h pos pins s σ H _ I U) fun us s1 ⟨xs,H1,B,r,z,q⟩=>#[by rw[<-r.length];exact z,?_]);have J:H1 s1.heap.objs.size=none:=B.hok.fresh (tx _);refine#[.ref s1.heap.objs.size,j5 H1 s1.heap.objs.size (.lst xs),B.laid (t':=s1.toks) (fun b u e=>JI _ e) (tx _) ?_,rfl,q _ J];exact#[z,us,0,r,Kg _ rfl]
end
abbrev Sp:=List V->Hp->VK->XK->Prop
variable {sp:Sp}
abbrev R9:=List Env->Hp->Shared->XK->Value->Shared->Prop
variable {CX:R9}
structure Env0 (P:Program) (w:World) (K:vF_) (mg:vG_) (base:Heap) (A:Around) (outer:List Env) (s:Shared) (H:Hp):Prop where
 frames:A.frames=some outer
 mod:Mod K mg base
 bs:∀b o,base.get? b=some o->s.heap.get? b=some o/\H b=none
 bsz:base.objs.size<=s.heap.objs.size
 funs:s.heap.FunFrames base outer
 frf:∀b∈F9 outer,H b=none
 hok:HOk P w H s.heap
 bare:AllBare s.gens
def CE (outer:List Env) (P:Program) (w:World) (H:Hp) (s:Shared) (Q:VK) (u:Value) (s':Shared):Prop:=
 ∃v H',s'.os=s.os/\AllBare s'.gens/\Un (F9 outer) [] H H' s.heap s'.heap/\HOk P w H' s'.heap/\RelV v u/\Q v H'
def CR (CX:R9) (outer:List Env) (P:Program) (w:World) (H:Hp) (s:Shared) (Q:VK) (E:XK) (r:Result) (s':Shared):Prop:=
 match r with
 |.ok (.ret u)=>CE outer P w H s Q u s'
 |.ok _=>False
 |.error e=>CX outer H s E e s'
structure FnOk (P:Program) (w:World) (K:vF_) (mg:vG_) (base:Heap) (CX:R9) (k:Nat) (f:Addr) (fd:FuncData) (ps:List Str) (sp:Sp):Prop where
 len:∀vs H Q E,sp vs H Q E->vs.length=ps.length
 run:∀(A:Around) (outer:List Env) (s:Shared) (H:Hp) (args:Args) (us:vV_) (vs:List V) (Q:VK) (E:XK),Room k A->Env0 P w K mg base A outer s H->BindsTo s fd args (ps.zip us)->Vals vs us->sp vs H Q E ->
  codeAny (model P w) A (.call (.ref f) args) (CR CX outer P w H s Q E) s
def Inv.env0 (I:Inv X pins σ H s):Env0 X.prog X.w X.K X.mg X.base X.A X.stack s H:=
 #[I.ok.frames,I.ok.mod,I.bs,JN I.ok.bsz I.sz,I.stack,I.stkFree,I.hok,I.bare]
def Inv.after {Q:VK}(I:Inv X pins σ H s) (h:CE X.stack X.prog X.w H s Q u s'):EP X pins σ Q u s':=by
 obtain⟨v,H',os,B,Y,U,r,q⟩:=h;obtain⟨Z,g,d,t,J⟩:=s';obtain rfl:J=s.os:=os;exact#[v,H',I.call (h':=Z) (g':=g) (d':=d) (t':=t) (ch:=[]) Y U B (fun b z=>absurd z (by simp)),r,q]
def pF (sp:Sp) (dvs:List V) (E:XK) (t:TA):TE:=fun σ H Q=>t σ H fun vs H1=>sp (vs++dvs) H1 Q E
def Binds (K:vF_) (fd:FuncData) (ps:List Str) (ds:vV_):Prop:=
 ∀(s:Shared) (us:vV_),K.In s.heap->(us++ds).length=ps.length->BindsTo s fd #[us,[]] (ps.zip (us++ds))
def Binds.all {K:vF_}{ps:List Str}(h:∀us:List Value,us.length=ps.length->bindArgs fd #[us,[]]=pure (ps.zip us)):Binds K fd ps []:=fun s us _ B=>by
 rw[La] at B ⊢;exact .of_eq (h us B)
def lQ (CX:R9) (X:Cx) (E:XK):Prop:=∀(pins:vP_) (σ:St) (H:Hp) (s:Shared) (e:Value) (s':Shared),Inv X pins σ H s->CX X.stack H s E e s'->X.xe e s'
section
variable {k:Nat}{ps:List Str}{dvs:List V}{ds:vV_}{E:XK}{m:Str}{p pos apos:Pos}{o:Expr}{ta:TE}{t:TA}
def Cn {Q:VK}{vs:List V}(F:FnOk X.prog X.w X.K X.mg X.base CX k f fd ps sp) (Y:Room k X.A) (U:Binds X.K fd ps ds) (hd:Vals dvs ds) (hx:lQ CX X E)
  (I:Inv X pins σ H s) (r:Vals vs us) (h:sp (vs++dvs) H Q E):wpAny (model X.prog X.w) X.A (call (.ref f) us) (EP X pins σ Q) X.xe s:=by
 have J:Vals (vs++dvs) (us++ds):=r.append hd;have Z:(us++ds).length=ps.length:=by rw[<-J.length];exact F.len _ _ _ _ h
 refine Ms (Mt (F.run X.A X.stack s H #[us,[]] (us++ds) (vs++dvs) Q E Y I.env0 (U s us I.kIn Z) J h) fun r s' B=>?_);cases r with
 |error e=>exact hx pins σ H s e s' I B
 |ok fl=>
  cases fl with
  |ret u=>exact I.after B
  |next=>exact False.elim B
  |brk=>exact False.elim B
  |cont=>exact False.elim B
def xN (F:FnOk X.prog X.w X.K X.mg X.base CX k f fd ps sp) (hr:Room k X.A) (hg:Gl X x) (Y:X.mg x=some (.ref f)) (hk:PySem.W.keepIn X.K (.ref f)=true) (Z:Binds X.K fd ps ds) (hd:Vals dvs ds) (hx:lQ CX X E)
  (ha:PA X (e::es) t) (J:(x == ("__debug__" : Str))=false:=by decide) (he:starEach (e::es) X.env=(false,eval e X.env)::starEach es X.env:=by rfl) (B:(backTo pos (starEach es X.env)).any (·.1)=false:=by rfl) :
  PE X (.Call (.Name x p) (e::es) [] pos) (pF sp dvs E t):=by
 intro pins s σ H Q I h;refine LK (dS I hg Y ?_ J);refine NO (h₀:=X.base) I.ok.mod.kin hk (l6 (ha pos pins s σ H _ I h) fun us s1 ⟨vs,H1,U,r,q⟩=>#[U.kIn,?_]) he B;exact Cn F hr Z hd hx U r q
end
structure FnScope (N P:List Str) (sc:Scope):Prop where
 kind:sc.kind = .function
 co:sc.isCoroutine=false
 gen:sc.isGenerator=false
 nd:N.Nodup
 pre:N.take P.length=P
 par:∀x∈P,sc.names.lookup x=some .local\/sc.names.lookup x=some .cell
 nofree:∀y∈sc.names,y.2 ≠ .free
theorem oq {B:Str->Option NameKind}:∀{binds:List (Str × Value)}{m:vG_},(∀v,(x,v) ∉ binds)->bindL B binds m x=m x
 |[],_,_=>rfl
 |(n,v)::r,m,h=>by
  unfold bindL;rw[oq fun w J=>h w (JH _ J)];split
  .have:x≠n:=by rintro rfl;exact h v JL
   simp[this]
  .rfl
theorem rZ {B:Str->Option NameKind}:∀{binds:List (Str × Value)}{m:vG_},(∀v,(x,v) ∉ binds)->bindC B binds m x=m x
 |[],_,_=>rfl
 |(n,v)::r,m,h=>by
  unfold bindC;rw[rZ fun w J=>h w (JH _ J)];split
  .rfl
  .have:x≠n:=by rintro rfl;exact h v JL
   simp[this]
theorem eL {B:Str->Option NameKind}{v:Value}:∀{P:List Str}{vs:vV_}{i:Nat}{m:vG_},P.Nodup->P[i]? = some x->vs[i]? = some v->B x=some .local ->
  bindL B (P.zip vs) m x=some v
 |[],_,_,_,_,h,_,_=>by simp at h
 |_::_,[],_,_,_,_,h,_=>by simp at h
 |p::P,w::vs,0,m,nd,h1,h2,hk=>by
  simp at h1 h2;subst h1;subst h2;show bindL B ((p,w)::P.zip vs) m p=_;unfold bindL;rw[oq fun v J=>(Ks.mp nd).1 (LL J).1,iO hk];simp
 |p::P,w::vs,i+1,m,nd,h1,h2,hk=>by
  show bindL B ((p,w)::P.zip vs) m x=_;unfold bindL;exact eL (i:=i) (Ks.mp nd).2 (by simpa using h1) (by simpa using h2) hk
theorem wG {B:Str->Option NameKind}{v:Value}:∀{P:List Str}{vs:vV_}{i:Nat}{m:vG_},P.Nodup->P[i]? = some x->vs[i]? = some v->B x≠some .local ->
  bindC B (P.zip vs) m x=some v
 |[],_,_,_,_,h,_,_=>by simp at h
 |_::_,[],_,_,_,_,h,_=>by simp at h
 |p::P,w::vs,0,m,nd,h1,h2,hk=>by
  simp at h1 h2;subst h1;subst h2;show bindC B ((p,w)::P.zip vs) m p=_;unfold bindC;rw[rZ fun v J=>(Ks.mp nd).1 (LL J).1,iR hk];simp
 |p::P,w::vs,i+1,m,nd,h1,h2,hk=>by
  show bindC B ((p,w)::P.zip vs) m x=_;unfold bindC;exact wG (i:=i) (Ks.mp nd).2 (by simpa using h1) (by simpa using h2) hk
def start (N:List Str) (vs:List V):St:=vs.map some++List.replicate (N.length - vs.length) none
def O7 (CX:R9) (P:Program) (w:World) (K:vF_) (mg:vG_) (base:Heap) (N:List Str) (qual:Str) (scope:Scope) (f:Addr) (cd:Value) (A:Around) (outer:List Env) (s:Shared) (H:Hp) (E:XK):Cx where
 prog:=P
 w:=w
 K:=K
 mg:=mg
 base:=base
 A:=A.deeper (envOfC qual scope s.heap.objs.size f cd)
 N:=N
 s₀:=s
 H₀:=H
 env:=envOfC qual scope s.heap.objs.size f cd
 outer:=outer
 stack:=envOfC qual scope s.heap.objs.size f cd::outer
 ex:=[]
 calm:=true
 fn:=fun _=>true
 pn:=[]
 xe:=fun e s'=>wpAny (model P w) (A.deeper (envOfC qual scope s.heap.objs.size f cd)) (leaving (envOfC qual scope s.heap.objs.size f cd) e) (fun _ B=>CX outer H s E e B) (fun J B=>CX outer H s E J B) s'
def vd {B:Scope}{n:Nat}(h:B.names.lookup x=some .cell):∃c,(cellsFrom n B.names []).lookup x=some c:=by
 have q:=OK B.names n [] (.inl h);exact OL.mp q
def Hi {w:World}{K:vF_}{N ps:List Str}{cd:Value}{s1:Shared}{E:XK}{vs:List V}
  (S:FnScope N ps scope) (hd:A.handled=none) (B:Env0 P w K mg base A outer s H) (hl:vs.length=ps.length) (r:Vals vs us)
  (x:InCallC s s.heap.objs.size (bindL (envOfC qual scope s.heap.objs.size f cd).kindOf (ps.zip us) fun _=>none) (cellsFrom (s.heap.objs.size+1) scope.names []) (bindC (envOfC qual scope s.heap.objs.size f cd).kindOf (ps.zip us) fun _=>none) s1) :
  Inv (O7 CX P w K mg base N qual scope f cd A outer s H E) [] (start N vs) H s1:=by
 have hpl:ps.length<=N.length:=by have:=congrArg List.length S.pre;rw[Kx] at this;omega
 obtain⟨h1,tk,rfl,hk⟩:=x.done;have U:∀b:Addr,b ∉ (O7 CX P w K mg base N qual scope f cd A outer s H E).ex:=fun b z=>absurd (show b∈([]:vL_) from z) (by simp)
 refine#[#[B.mod,S.kind,rfl,rfl,tx _,fun y z c h1 h2=>?_,fun y J=>?_,fun y c _ h=>?_,fun _=>hd,Around.frames_deeper B.frames,.inr #[rfl,rfl],fun b z=>absurd z (U b),B.bs,B.bsz,fun b _ _=>U b,fun b z=>absurd z (U b),B.funs,B.frf],
  rfl,B.bare,Un.kept hk,#[_,x.toInCall.ns,fun i y v h1 h2 h3=>?_],fun y c h=>#[_,x.cell y c h],B.hok.fresh (tx _),fun y c h=>?_,fun p Y=>absurd (show p∈([]:vP_) from Y) (by simp),B.hok.kept hk,?_]
 .exact name_of_addr x.apart (Mu h1) (Mu h2)
 .have J:scope.names.lookup y=some .cell\/scope.names.lookup y=some .free:=J;rcases J with J | J
  .exact vd J
  .exact absurd rfl (S.nofree _ (Mu J))
 .exact Lk (x.above y c (Mu h))
 .have hi:i<vs.length:=by
   unfold start at h2;by_cases hi:i<vs.length
   .exact hi
   .rw[LM (by simpa using hi)] at h2;rw[List.getElem?_replicate] at h2;split at h2 <;> cases h2
  have ha:vs[i]? = some v:=by
   unfold start at h2;rw[Lq (by simpa using hi),KI] at h2;cases e:vs[i]? with
   |none=>rw[e] at h2;cases h2
   |some a=>rw[e] at h2;cases h2;rfl
  obtain⟨u,hu,rv⟩:=r.get ha;have Y:ps[i]? = some y:=by
   rw[<-S.pre,NP ∅];exact h1
  have Z:ps.Nodup:=by rw[<-S.pre];exact S.nd.sublist (List.take_sublist _ _)
  refine#[u,rv,?_];rcases S.par y (KC Y) with k | k
  .exact .inl #[k,eL Z Y hu k]
  .obtain⟨c,e⟩:=vd (n:=s.heap.objs.size+1) k;refine .inr #[.inl k,c,e,?_];have q:=x.cell y c e;rw[wG Z Y hu (by show scope.names.lookup y≠_;rw[k];decide)] at q;exact q
 .exact B.hok.fresh (Lk (x.above y c (Mu h)))
 .unfold start;show _=N.length;rw[Ke,JR,OM];omega
def we {CX:R9}{w:World}{K:vF_}{mg:vG_}{base:Heap}{k:Nat}{f:Addr}{name qual:Str}{body:List Stmt}{scope:Scope}{dV kV doc pm cdv ct oc:Value}{an od:vA_}
  {osl:vS_}{N ps:List Str}{sp:Sp}(lk:K.lookup f=some #[oc,od,.func (PySem.W.fnOf name qual params body scope dV kV doc pm an cdv ct),osl]) (hcd:PySem.W.codeIn K cdv qual=true) (S:FnScope N ps scope)
  (Z:∀vs H Q E,sp vs H Q E->vs.length=ps.length)
  (U:∀(A:Around) (outer:List Env) (s:Shared) (H:Hp) (vs:List V) (Q:VK) (E:XK),Room k (A.deeper (envOfC qual scope s.heap.objs.size f cdv))->sp vs H Q E ->
   ∃t,PSs (O7 CX P w K mg base N qual scope f cdv A outer s H E) body t/\t { nx:=fun _ H'=>Q .non H',rt:=Q } (start N vs) H) :
  FnOk P w K mg base CX (k+1) f (PySem.W.fnOf name qual params body scope dV kV doc pm an cdv ct) ps sp:=by
 refine#[Z,fun A outer s H args us vs Q E hr e0 hb r hsp=>?_];have hl:=Z _ _ _ _ hsp;have KX:K.In s.heap:=e0.mod.kin.keeps fun b o e=>(e0.bs b o e).1
 have lim:s.heap.NoLimit:=e0.mod.nolimit.keeps fun b o e=>(e0.bs b o e).1
 have B:∀y∈ps.zip us,scope.names.lookup y.1=some .local\/(scope.names.lookup y.1=some .cell/\((cellsFrom (s.heap.objs.size+1) scope.names []).lookup y.1).isSome=true):=fun ⟨n,v⟩ hy=>by
  rcases S.par n (LL hy).1 with q | q
  .exact .inl q
  .exact .inr #[q,OK _ _ _ (.inl q)]
 refine codeAny_call_function hr.depth (KX _ _ lk) rfl S.co S.gen rfl (PySem.W.codeRec_of KX hcd) (hb _ _ _ _ ?_);refine wpAny_newFunctionEnv_cells S.kind B fun env he s1 x=>?_
 subst he;refine#[lim.keeps x.toInCall.keep,codeAny_func ?_];obtain⟨t,ht,hq⟩:=U A outer s H vs Q E (hr.deeper _) hsp;have I:Inv (O7 CX P w K mg base N qual scope f cdv A outer s H E) [] (start N vs) H s1:=Hi S hr.hd e0 hl r x;refine JX (ht [] s1 (start N vs) H _ I hq) (fun fl s' Y=>?_) fun e s' Y=>Y
 have fin:∀{σ':St}{H':Hp}{v:V}{u:Value},Inv (O7 CX P w K mg base N qual scope f cdv A outer s H E) [] σ' H' s'->RelV v u->Q v H'->CE outer P w H s Q u s':=
  fun {σ' H' v u} J rv q=>#[v,H',J.os,J.bare,J.base,J.hok,rv,q]
 cases fl with
 |ret u=>
  obtain⟨v,σ',H',J,rv,q⟩:=Y;exact fin J rv q
 |next=>
  obtain⟨σ',H',J,q⟩:=Y;exact fin (v:=V.non) (u:=Value.none) J rfl q
 |brk=>
  obtain⟨_,_,_,q⟩:=Y;exact False.elim q
 |cont=>
  obtain⟨_,_,_,q⟩:=Y;exact False.elim q
section
variable {p pos:Pos}{t:TA}{id T:String}
def dH (r:List V->Hp->VK->Prop) (t:TA):TE:=fun σ H Q=>t σ H fun vs H1=>r vs H1 Q
def fB (hc:CallR X (.builtin id) r) (hg:Gl X x) (U:X.mg x=none) (hv:bootBuiltins x=some (.builtin id)) (ha:PA X (e::es) t) (hn:x ≠ "__name__" := by decide) (J:(x == ("__debug__" : Str))=false:=by decide)
  (he:starEach (e::es) X.env=(false,eval e X.env)::starEach es X.env:=by rfl) (B:(backTo pos (starEach es X.env)).any (·.1)=false:=by rfl):PE X (.Call (.Name x p) (e::es) [] pos) (dH r t):=by
 intro pins s σ H Q I h;refine LK (bX I hg U hv ?_ hn J);exact PyProof.Rows.callWith_builtin1 (l6 (ha pos pins s σ H _ I h) fun us s1 ⟨vs,H1,Z,r1,Y⟩=>hc pins s1 σ H1 vs us Q Z r1 Y) he B
def qS (hc:CallR X (.type T) r) (hg:Gl X x) (U:X.mg x=none) (hv:bootBuiltins x=some (.type T)) (ha:PA X (e::es) t) (hn:x ≠ "__name__" := by decide) (J:(x == ("__debug__" : Str))=false:=by decide)
  (he:starEach (e::es) X.env=(false,eval e X.env)::starEach es X.env:=by rfl) (B:(backTo pos (starEach es X.env)).any (·.1)=false:=by rfl):PE X (.Call (.Name x p) (e::es) [] pos) (dH r t):=by
 intro pins s σ H Q I h;refine LK (bX I hg U hv ?_ hn J);exact Mr (l6 (ha pos pins s σ H _ I h) fun us s1 ⟨vs,H1,Z,r1,Y⟩=>hc pins s1 σ H1 vs us Q Z r1 Y) he B
end
end L2
variable {xs ys:List L2.V}{kvs:List (List L2.n9 × L2.V)}{f':Int->Int->L2.V}{H H' H1:L2.Hp}{X:L2.Cx}{σ:L2.St}{r:List L2.V->L2.Hp->L2.VK->Prop}{te:L2.TE}{trs:List (L2.TE × L2.TE)}{tc:L2.TT}{ta:L2.TA}{tb:L2.TS}{sp:L2.Sp}{CX:L2.R9}
namespace HT
open PySem PyProof.Rows
section
variable {w:World}
def cat_tup {t b:Addr}{vs B:vV_}{Q:vQ_}(ht:IsTup s.heap t vs.toArray) (hb:IsTup s.heap b B.toArray) (hv:vs≠[])
  (h1:B=[]->Q (.ref t) s) (h2:B≠[]->Q (.ref s.heap.objs.size) { s with heap:=s.heap.push { cls:=.type "tuple",data:=.seq (vs++B).toArray } })
  (hsz:vs.length+B.length<=sizeLine):wpAny (model prog w) A (binaryOp .Add (.ref t) (.ref b)) Q E s:=by
 refine gB_ fun G_ g_=>?_
 obtain⟨⟨cls,dd,data,sl⟩,ho,hc,n,hd⟩:=id ht;obtain⟨⟨cls2,dd2,data2,Z⟩,J,Y,n2,U⟩:=id hb;simp only at hc hd Y U;apply g_;subst hc hd Y U;have e:vs.toArray++B.toArray=(vs++B).toArray:=by simp
 by_cases hw:B=[]
 .exact concat_meets #[_,ho,rfl] #[_,J,rfl] NQ seq_tuple_add NR NS (NT _ _)
   (tuple_addW1 t b vs.toArray B.toArray n n2 dd dd2 sl Z (by simpa using hv) (by simp[hw])) #[ho,J,h1 hw]
 .refine concat_meets #[_,ho,rfl] #[_,J,rfl] NQ seq_tuple_add NR NS (NT _ _)
   (tuple_addW2 t b vs.toArray B.toArray n n2 dd dd2 sl Z (by simpa using hv) (by simpa using hw) (by rw[JY,JY];exact hsz)) #[ho,J,?_]
  rw[e];exact h2 hw
def sIx (n d:Nat):Option Int->Nat
 |none=>d
 |some v=>if v<0 then (v+(n:Int)).toNat else min v.toNat n
def sIx_nat (n d k:Nat):sIx n d (some (k:Int))=min k n:=by
 show (if (k:Int)<0 then ((k:Int)+(n:Int)).toNat else min (k:Int).toNat n)=min k n;rw[iR ∅,Ku]
def yQ (n d:Nat) (J:d<=n) (o:Option Int):sIx n d o<=n:=by
 cases o with
 |none=>exact J
 |some v=>
  show (if v<0 then (v+(n:Int)).toNat else min v.toNat n)<=n;by_cases B:v<0
  .rw[iO B];omega
  .rw[iR B];exact Nat.min_le_right _ _
def sH (v:Int) (n d:Nat):(if v<0 then max (v+(n:Int)) 0 else min v (n:Int))=((sIx n d (some v):Nat):Int):=by
 show (if v<0 then max (v+(n:Int)) 0 else min v (n:Int))=(((if v<0 then (v+(n:Int)).toNat else min v.toNat n):Nat):Int);by_cases B:v<0
 .simp only[iO B];omega
 .simp only[iR B];omega
def vt (lo hi:Option Int) (n:Nat):Builtin.Slice.sliceAdjust lo hi 1 (n:Int)=(((sIx n 0 lo:Nat):Int),((sIx n n hi:Nat):Int)):=by
 have h1:¬ ((1:Int)<0):=by omega
 unfold Builtin.Slice.sliceAdjust;simp only[h1,KL];refine Kp ?_ ?_
 .cases lo with
  |none=>rfl
  |some v=>exact sH v n 0
 .cases hi with
  |none=>rfl
  |some v=>exact sH v n n
def tW (i j:Nat):Builtin.Slice.slicePlaces (i:Int) (j:Int) 1=j - i:=by
 unfold Builtin.Slice.slicePlaces;have h1:(1:Int)>0:=by omega
 simp only[h1,Kh,Int.ediv_one];split <;> omega
def wI {v:Value}{o:Option Int}{Q:Option Int->Shared->Prop}(p:IsPart v o) (h:Q o s):wpAny (model prog w) A (Builtin.Slice.slicePartIndex v) Q E s:=by
 cases p with
 |none=>exact Mf h
 |int i t=>exact slicePart_int h
def uD {lo hi:Option Int}{n:Nat}{Q:Int × Int × Nat->Shared->Prop}(Z:s.heap.IsSliceOf sl vl vu .none) (Y:IsPart vl lo) (pu:IsPart vu hi)
  (h:Q (((sIx n 0 lo:Nat):Int),1,sIx n n hi - sIx n 0 lo) s):wpAny (model prog w) A (Builtin.Slice.sliceApplied (.ref sl) (pure (n:Int))) Q E s:=by
 obtain⟨os,B,U,J⟩:=id Z;unfold Builtin.Slice.sliceApplied Builtin.Slice.sliceFields;refine gV (gV (JV B J (x:=vl) rfl (gV (JV B J (x:=vu) rfl (gV (JV B J (x:=.none) rfl (iU ?_)))))));refine gV (Mf ?_);show wpAny _ _ (if ((1:Int) == 0)=true then _ else _) _ _ s;rw[iR #[]];refine gV (wI Y (gV (wI pu (gV (iU ?_)))));show wpAny _ _ (match Builtin.Slice.sliceAdjust lo hi 1 (n:Int) with | (lo,hi)=>pure (lo,(1:Int),Builtin.Slice.slicePlaces lo hi 1)) _ _ s;rw[vt lo hi n];show wpAny _ _ (pure (((sIx n 0 lo:Nat):Int),(1:Int),Builtin.Slice.slicePlaces ((sIx n 0 lo:Nat):Int) ((sIx n n hi:Nat):Int) 1)) _ _ s;rw[tW];exact iU h
def Hb (xs:vR_) (i k:Nat):((List.range k).filterMap fun (m:Nat)=>xs[((i:Int)+(m:Int)*1).toNat]?).toArray=((xs.toList.drop i).take k).toArray:=by
 have e:(fun (m:Nat)=>xs[((i:Int)+(m:Int)*1).toNat]?)=fun m=>xs[i+m]?:=by
  funext m;have:((i:Int)+(m:Int)*1).toNat=i+m:=by omega
  rw[this]
 rw[e];have:=pick_run xs i k;rw[List.filterMap_map] at this;have B:((fun x=>xs[x]?)∘fun x=>i+x)=fun m=>xs[i+m]?:=rfl
 rw[B] at this;rw[this]
def getItem_tuple_cut {t sl:Addr}{items:vR_}{lo hi:Option Int}{Q:vQ_}(J:IsTup s.heap t items) (hs:s.heap.IsSliceOf sl vl vu .none) (pl:IsPart vl lo) (pu:IsPart vu hi)
  (hw:¬ (sIx items.size 0 lo=0/\sIx items.size items.size hi=items.size))
  (h:Q (.ref s.heap.objs.size) { s with heap:=s.heap.push { cls:=.type "tuple",data:=.seq ((items.toList.drop (sIx items.size 0 lo)).take (sIx items.size items.size hi - sIx items.size 0 lo)).toArray } })
  (hsz:items.size<=sizeLine):wpAny (model prog w) A (getItem (.ref t) (.ref sl)) Q E s:=by
 have B:sizeOk (.seq ((items.toList.drop (sIx items.size 0 lo)).take (sIx items.size items.size hi - sIx items.size 0 lo)).toArray):=by
  show ((items.toList.drop (sIx items.size 0 lo)).take (sIx items.size items.size hi - sIx items.size 0 lo)).toArray.size<=sizeLine;rw[JY,Kx,Km,MR];omega
 have hj:sIx items.size items.size hi<=items.size:=yQ _ _ (tx _) hi;obtain⟨os,Z,Y,hds⟩:=id hs;have U:s.TypeIs (.ref sl) "slice" := #[os,Z,Y]
 unfold getItem
 try with_reducible refine KG ?_
 first | refine gV (iU ?_) | skip
 refine gV (MU J.typeIs #[] ?_);refine gV (Lb (name:=Str.ofString "__getitem__") J.typeIs KN
  (KO KN J.typeIs MV ?_ (MW _ _)))
 show wpAny _ _ (Builtin.Tuple.tupleItemsOf (.ref t) >>= _) _ _ s;refine gV (tupleItemsOf_ J ?_);refine gV (Lr U ?_);rw[iO #[]];refine gV (uD hs pl pu ?_);have hno:¬ ((((sIx items.size 0 lo:Nat):Int) == 0&&(1:Int) == 1&&(sIx items.size items.size hi - sIx items.size 0 lo) == items.size)=true):=by
  intro q;rw[Ki,Ki] at q;have q1:((sIx items.size 0 lo:Nat):Int)=0:=eq_of_beq q.1.1;have q2:sIx items.size items.size hi - sIx items.size 0 lo=items.size:=eq_of_beq q.2;exact hw #[by omega,by omega]
 show wpAny _ _ (if (((sIx items.size 0 lo:Nat):Int) == 0&&(1:Int) == 1&&(sIx items.size items.size hi - sIx items.size 0 lo) == items.size)=true then _ else _) _ _ s;rw[iR hno,Hb]
 first
  | exact gV (m:=Builtin.Tuple.tupleExact _) (KH (iU #[_,rfl,iU h]) B)
  | exact gV (m:=Builtin.Tuple.tupleExact _) (KH (gV (iU (iU #[_,rfl,iU h]))) B)
  | exact gV (gV (m:=Builtin.Tuple.tupleExact _) (KH (iU (iU #[_,rfl,iU h])) B))
  | exact gV (gV (m:=Builtin.Tuple.tupleExact _) (KH (iU #[_,rfl,iU h]) B))
end
end HT
namespace L2
open PySem PySem.Spec PyProof.Rows
abbrev TO:=St->Hp->(Option Int->Hp->Prop)->Prop
def PO (X:Cx) (e:Option Expr) (t:TO):Prop:=
 ∀(pins:vP_) (s:Shared) (σ:St) (H:Hp) (Q:Option Int->Hp->Prop),Inv X pins σ H s->t σ H Q ->
  wpAny (model X.prog X.w) X.A (evalPart e X.env) (fun u s'=>∃o H',Inv X pins σ H' s'/\IsPart u o/\Q o H') X.xe s
def yn:TO:=fun _ H Q=>Q none H
def AB (t:TE):TO:=fun σ H Q=>t σ H fun x H1=>∃i,x = .int i/\Q (some i) H1
section
variable {lo hi:Option Expr}{tl th:TO}{pos:Pos}
def wc:PO X none yn:=by
 intro pins s σ H Q I h;rw[evalPart_none];exact iU #[none,H,I,.none,h]
def om (h:PE X e te):PO X (some e) (AB te):=by
 intro pins s σ H Q I J;rw[evalPart_some];refine l6 (h pins s σ H _ I J) fun u s1 ⟨x,H1,U,B,Y⟩=>?_
 obtain⟨i,rfl,q⟩:=Y;obtain⟨t,rfl⟩:=B;exact#[some i,H1,U,.int i t,q]
def SlR (X:Cx) (r:V->Option Int->Option Int->Hp->VK->Prop):Prop:=
 ∀(pins:vP_) (s:Shared) (σ:St) (H:Hp) (x:V) (v vl vu:Value) (lo hi:Option Int) (sl:Addr) (Q:VK),Inv X pins σ H s->RelV x v->s.heap.IsSliceOf sl vl vu .none->IsPart vl lo->IsPart vu hi->r x lo hi H Q ->
  ∃T id,typeLookup (.type T) "__getitem__" = pure (some (.builtin id))/\s.TypeIs v T/\wpAny (model X.prog X.w) X.A (getItem v (.ref sl)) (EP X pins σ Q) X.xe s
def SlR.or {r B:V->Option Int->Option Int->Hp->VK->Prop}(h:SlR X r) (h':SlR X B):SlR X (fun x lo hi H Q=>r x lo hi H Q\/B x lo hi H Q):=by
 intro pins s σ H x v vl vu lo hi sl Q I Y U J Z q;rcases q with q | q
 .exact h pins s σ H x v vl vu lo hi sl Q I Y U J Z q
 .exact h' pins s σ H x v vl vu lo hi sl Q I Y U J Z q
def BM (r:V->Option Int->Option Int->Hp->VK->Prop) (te:TE) (tl th:TO):TE:=fun σ H Q=>te σ H fun x H1=>tl σ H1 fun l H2=>th σ H2 fun u B=>r x l u B Q
def oB {r:V->Option Int->Option Int->Hp->VK->Prop}(hr:SlR X r) (he:PE X e te) (hl:PO X lo tl) (hu:PO X hi th):PE X (.Subscript e (.Slice lo hi none p2) pos) (BM r te tl th):=by
 intro pins s σ H Q I h;refine Subscript_ (l6 (he pins s σ H _ I h) fun v s1 ⟨x,H1,I1,r1,q1⟩=>?_);refine wpAny_Slice (l6 (hl pins s1 σ H1 _ I1 q1) fun J s2 ⟨l,H2,I2,pl,q2⟩=>l6 (hu pins s2 σ H2 _ I2 q2) fun B s3 ⟨u,U,I3,pu,q3⟩=>?_);rw[evalPart_none];refine iU ?_;have I4:Inv X pins σ U { s3 with heap:=s3.heap.push { cls:=.type "slice",data:=.fields #v[J,B,.none] } }:=I3.kept (t':=s3.toks) fun b ob q=>JI _ q
 obtain⟨T,id,Y,Z,hg⟩:=hr pins { s3 with heap:=s3.heap.push { cls:=.type "slice",data:=.fields #v[J,B,.none] } } σ U x v J B l u s3.heap.objs.size Q I4 r1 (NU ..) pl pu q3;show wpAny (model X.prog X.w) X.A (subscriptTail e (.Slice lo hi none p2) v (.ref s3.heap.objs.size)) (EP X pins σ Q) X.xe { s3 with heap:=s3.heap.push { cls:=.type "slice",data:=.fields #v[J,B,.none] } };exact tail_any (ops:=[.ref s3.heap.objs.size,v]) Z Y hg (by with_unfolding_all rfl)
def S0 (xs:List V) (lo hi:Option Int):List V:=(xs.drop (HT.sIx xs.length 0 lo)).take (HT.sIx xs.length xs.length hi - HT.sIx xs.length 0 lo)
def oP (xs:List V) (lo hi:Option Int):(S0 xs lo hi).length<=xs.length:=by
 unfold S0;rw[Kx,Km];omega
def Dq (K:vF_):V->Option Int->Option Int->Hp->VK->Prop:=fun x lo hi H Q=>∃a xs,x = .ref a/\SqT K H a xs /\
 ¬ (HT.sIx xs.length 0 lo=0/\HT.sIx xs.length xs.length hi=xs.length)/\∀p,H p=none->Q (.ref p) (j5 H p (.tup (S0 xs lo hi)))
def IU:SlR X (Dq X.K):=by
 intro pins s σ H x v vl vu lo hi sl Q I rx hs Y pu h;obtain⟨a,xs,rfl,hx,Z,q⟩:=h;cases rx;obtain⟨its,r,U,J⟩:=I.tuple hx;have B:its.toArray.size=xs.length:=by rw[JY];exact r.length.symm
 refine#["tuple",_,KN.lookup,U.typeIs,?_];refine HT.getItem_tuple_cut U hs Y pu (by rw[B];exact Z) ?_ (by rw[B];exact J);rw[B];refine#[.ref s.heap.objs.size,_,I.laid (t':=s.toks) (o:=.tup (S0 xs lo hi)) (fun b ob q=>JI _ q) (tx _) ?_,rfl,q _ (I.hok.fresh (tx _))];exact#[JN (oP xs lo hi) J,_,(r.drop (HT.sIx xs.length 0 lo)).take (HT.sIx xs.length xs.length hi - HT.sIx xs.length 0 lo),IsTup.new _ _]
def uQ (K:vF_):R2:=fun x y H Q=>∃a b xs ys,x = .ref a/\y = .ref b/\SqT K H a xs/\SqT K H b ys/\xs≠[]/\xs.length+ys.length<=sizeLine /\
 (ys=[]->Q (.ref a) H)/\(ys≠[]->∀p,H p=none->Q (.ref p) (j5 H p (.tup (xs++ys))))
def Vals.nil_iff (r:Vals xs us):us=[]↔xs=[]:=by
 cases r with
 |nil=>simp
 |cons _ _=>simp
def Bh:OpR X (binaryOp .Add) (uQ X.K):=by
 intro pins s σ H x y v u Q I rx ry h;obtain⟨a,b,xs,ys,rfl,rfl,Z,hb,hx,U,q1,q2⟩:=h;cases rx;cases ry;obtain⟨its,J,p1,_⟩:=I.tuple Z;obtain⟨Y,B,p2,_⟩:=I.tuple hb;refine HT.cat_tup p1 p2 (fun z=>hx (J.nil_iff.mp z)) (fun z=>#[.ref a,H,I,rfl,q1 (B.nil_iff.mp z)]) (fun z=>?_) (by rw[<-J.length,<-B.length];exact U);refine#[.ref s.heap.objs.size,_,I.laid (t':=s.toks) (o:=.tup (xs++ys)) (fun b ob q=>JI _ q) (tx _) ?_,rfl,q2 (fun w=>z (B.nil_iff.mpr w)) _ (I.hok.fresh (tx _))];exact#[by rw[Ke];exact U,_,J.append B,IsTup.new _ _]
end
def V0 (n:Nat) (i:Int):Option Nat:=if 0<=i then (if i<n then some i.toNat else none) else if -(n:Int)<=i then some (i+n).toNat else none
def D8 {α:Type}(xs:List α) (i:Int):Option α:=(V0 xs.length i).bind fun j=>xs[j]?
def sM {n:Nat}{i:Int}(h:V0 n i=some j):seqIndex? i n=some j/\j<n /\ -(n:Int)<=i/\i<n:=by
 unfold V0 at h;by_cases B:0<=i
 .rw[iO B] at h;by_cases h1:i<n
  .rw[iO h1] at h;have e:i.toNat=j:=Kb h;exact#[by rw[seqIndex_of B h1,e],by omega,by omega,h1]
  .rw[iR h1] at h;cases h
 .rw[iR B] at h;by_cases h1:-(n:Int)<=i
  .rw[iO h1] at h;have e:(i+n).toNat=j:=Kb h;exact#[by rw[seqIndex_neg ∅ h1,e],by omega,h1,by omega]
  .rw[iR h1] at h;cases h
def rF {α:Type}{xs:List α}{i:Int}{v:α}(h:D8 xs i=some v):∃j,seqIndex? i xs.length=some j/\xs[j]? = some v/\j<xs.length /\ -(xs.length:Int)<=i/\i<xs.length:=by
 unfold D8 at h;cases e:V0 xs.length i with
 |none=>rw[e] at h;cases h
 |some j=>
  rw[e] at h;obtain⟨h1,h2,B,J⟩:=sM e;exact#[j,h1,h,h2,B,J]
def dY {α:Type}{xs:List α}{v:α}(h:xs[j]? = some v):D8 xs (j:Int)=some v:=by
 have B:j<xs.length:=(Kr.mp h).1;have e:V0 xs.length (j:Int)=some j:=by
  unfold V0;rw[iO ∅,iO ∅];simp
 unfold D8;rw[e];exact h
def rh (b:Expr):Prop:=∀o i,subscripted b false o i=operate [o,i] (getItem o i)
def IxR (X:Cx) (r:R2):Prop:=
 ∀(value slice:Expr) (pins:vP_) (s:Shared) (σ:St) (H:Hp) (x y:V) (v u:Value) (Q:VK),Inv X pins σ H s->RelV x v->RelV y u->r x y H Q ->
  subscripted slice false v u=operate [v,u] (getItem v u)->wpAny (model X.prog X.w) X.A (subscriptTail value slice v u) (EP X pins σ Q) X.xe s
def lV (X:Cx) (id:String) (r:V->List V->Hp->VK->Prop):Prop:=
 ∀(pins:vP_) (s:Shared) (σ:St) (H:Hp) (x:V) (xs:List V) (v:Value) (us:vV_) (Q:VK),Inv X pins σ H s->RelV x v->Vals xs us->r x xs H Q ->
  wpAny (model X.prog X.w) X.A (call (.builtin id) (v::us)) (EP X pins σ Q) X.xe s
section
variable {a b:Expr}{ta tb:TE}{pos:Pos}
def IxR.or {r J:R2}(h:IxR X r) (h':IxR X J):IxR X (fun x y H Q=>r x y H Q\/J x y H Q):=by
 intro value B pins s σ H x y v u Q I U Z q Y;rcases q with q | q
 .exact h value B pins s σ H x y v u Q I U Z q Y
 .exact h' value B pins s σ H x y v u Q I U Z q Y
def Fc {r:R2}(hr:IxR X r) (B:PE X a ta) (J:PE X b tb) (U:rh b):PE X (.Subscript a b pos) (cx r ta tb):=by
 intro pins s σ H Q I h;exact Subscript_ (mQ B J I h fun v u s2 x y H2 Z Y ry q=>hr a b pins s2 σ H2 x y v u Q Z Y ry q (U _ _))
def nk (K:vF_):R2:=fun x y H Q=>∃p xs i v,x = .ref p/\y = .int i/\SqL K H p xs/\D8 xs i=some v/\Q v H
def kx (K:vF_):R2:=fun x y H Q=>∃p xs i v,x = .ref p/\y = .int i/\SqT K H p xs/\D8 xs i=some v/\Q v H
def ix_list:IxR X (nk X.K):=by
 intro value U pins s σ H x y v u Q I rx ry h hs;obtain⟨p,xs,i,z,rfl,rfl,hq,he,q⟩:=h;cases rx;obtain⟨t,rfl⟩:=ry;obtain⟨its,r,Z,hz⟩:=I.list hq;obtain⟨j,h1,h2,h3,h4,h5⟩:=rF he;obtain⟨w,ew,J⟩:=r.get h2;have hl:=r.length;have hn:=di;have B:EP X pins σ Q w s:=#[z,H,I,J,q]
 by_cases h0:0<=i
 .have Y:i.toNat=j:=by
   rw[seqIndex_of h0 h5] at h1;exact Kb h1
  exact item_listR Z.isList h0 ∅ (by rw[Y];simpa using ew) B hs
 .have Y:(i+(its.toArray.size:Int)).toNat=j:=by
   rw[seqIndex_neg ∅ h4] at h1;rw[JY,<-hl];exact Kb h1
  exact subscriptTail_builtinR (x:=w) Z.isList.typeIs slot_list_getitem.lookup
   (wpAny_getItem_list_neg (Q:=fun r s'=>r=w/\EP X pins σ Q r s') Z.isList ∅ (by rw[JY] <;> omega) ∅ (by rw[Y];simpa using ew) #[rfl,B]) hs
def xh:IxR X (kx X.K):=by
 intro value U pins s σ H x y v u Q I rx ry h Z;obtain⟨p,xs,i,z,rfl,rfl,hq,he,q⟩:=h;cases rx;obtain⟨t,rfl⟩:=ry;obtain⟨its,r,Y,hz⟩:=I.tuple hq;obtain⟨j,h1,h2,h3,h4,h5⟩:=rF he;obtain⟨w,ew,B⟩:=r.get h2;have hl:=r.length;have hn:=di;have J:EP X pins σ Q w s:=#[z,H,I,B,q]
 exact subscriptTail_builtinR (x:=w) Y.typeIs slot_tuple_getitem.lookup
  (getItem_tuple (j:=j) (Q:=fun r s'=>r=w/\EP X pins σ Q r s') Y ∅ ∅ (by rw[JY,<-hl];exact h1) (by simpa using ew) #[rfl,J]) Z
def Ax (its:vV_) (n j:Nat) (u:Value):Obj.mapSeq (·.setIfInBounds j u) { cls:=.type "list",data:=.seq its.toArray n }={ cls:=.type "list",data:=.seq (its.set j u).toArray n }:=by
 simp[Obj.mapSeq]
theorem Inv.lst (I:Inv X pins σ H s) (h:H p=some (.lst xs)) :
  ∃(its:vV_) (n:Nat),Vals xs its/\s.heap.get? p=some { cls:=.type "list",data:=.seq its.toArray n }/\xs.length<=sizeLine:=by
 obtain⟨z,its,n,r,e⟩:=I.hok p _ h;exact#[its,n,r,e,z]
def Inv.lstUpd {pins:vP_}{H:Hp}{s:Shared}{xs ys:List V}{its its':vV_}{n B:Nat}{f:Obj->Obj}(I:Inv X pins σ H s) (h:H p=some (.lst xs))
  (U:s.heap.get? p=some { cls:=.type "list",data:=.seq its.toArray n }) (J:f { cls:=.type "list",data:=.seq its.toArray n }={ cls:=.type "list",data:=.seq its'.toArray B }) (r:Vals ys its') (hz:ys.length<=sizeLine) (t:Nat) :
  Inv X pins σ (j5 H p (.lst ys)) { s with heap:=s.heap.update p f,toks:=t }:=by
 have e:(s.heap.update p f).get? p=some { cls:=.type "list",data:=.seq its'.toArray B }:=by
  rw[Le f U (by rw[J] <;> rfl),J]
 refine I.write (x:=p) (e:=p) (by rw[h];trivial) (.inl rfl) (fun b u Y q=>(KD _ _ (JT Y)).trans q) #[_,e] ?_;exact#[hz,its',B,r,e]
def EL:V->V->V->Hp->(Hp->Prop)->Prop:=fun o i v H Q=>∃p xs k j,o = .ref p/\i = .int k/\H p=some (.lst xs)/\V0 xs.length k=some j/\Q (j5 H p (.lst (xs.set j v)))
def yR:uh X EL:=by
 intro pins s σ H o i v ov iv u Q I ro ri rv h;obtain⟨p,xs,k,j,rfl,rfl,Z,hj,q⟩:=h;cases ro;obtain⟨t,rfl⟩:=ri;obtain⟨its,n,r,B,hz⟩:=I.lst Z;obtain⟨h1,h2,Y,h4⟩:=sM hj;have J:=r.length;have hn:=di;have I':Inv X pins σ (j5 H p (.lst (xs.set j v))) { s with heap:=s.heap.update p (Obj.mapSeq (·.setIfInBounds j u)) }:=
  I.lstUpd Z B (Ax its n j u) (r.set rv j) (by rw[List.length_set];exact hz) s.toks
 by_cases h0:0<=k
 .have U:k.toNat=j:=by
   rw[seqIndex_of h0 h4] at h1;exact Kb h1
  exact PySem.W.ki_setAt B h0 ∅ (by rw[JY,<-J];exact h4) (by rw[U];exact#[_,I',q])
 .have U:(k+(its.toArray.size:Int)).toNat=j:=by
   rw[seqIndex_neg ∅ Y] at h1;rw[JY,<-J];exact Kb h1
  exact PySem.W.ki_setBack B ∅ (by rw[JY,<-J];exact Y) ∅ (by rw[U];exact#[_,I',q])
def Er (lo hi:Option Int) (n:Nat):(sliceBounds lo hi none n).1=((HT.sIx n 0 lo:Nat):Int)/\(sliceBounds lo hi none n).2.1=((HT.sIx n n hi:Nat):Int)/\(sliceBounds lo hi none n).2.2=1:=by
 have key:∀i:Int,(sliceBounds (some i) none none n).1=((HT.sIx n 0 (some i):Nat):Int):=fun i=>by
  simp only[sliceBounds,HT.sIx,Option.getD_none,show (1:Int)>0 by decide,Kh];by_cases h:i<0
  .simp only[h,Kh] <;> omega
  .simp only[h,KL] <;> omega
 refine#[?_,?_,rfl]
 .cases lo with
  |none=>simp[sliceBounds,HT.sIx]
  |some i=>exact key i
 .cases hi with
  |none=>simp[sliceBounds,HT.sIx]
  |some i=>exact key i
def BL (its:vV_) (lo hi:Option Int):slicePick its.toArray lo hi none=((its.drop (HT.sIx its.length 0 lo)).take (HT.sIx its.length its.length hi - HT.sIx its.length 0 lo)).toArray:=by
 obtain⟨h1,h2,B⟩:=Er lo hi its.toArray.size;unfold slicePick;rw[h1,h2,B];simp only[sliceRange_one,pick_run,JY] <;> rfl
def EZ (K:vF_):V->Option Int->Option Int->Hp->VK->Prop:=fun x lo hi H Q=>∃a xs,x = .ref a/\SqL K H a xs/\∀p,H p=none->Q (.ref p) (j5 H p (.lst (S0 xs lo hi)))
def vb:SlR X (EZ X.K):=by
 intro pins s σ H x v vl vu lo hi sl Q I rx Z U pu h;obtain⟨a,xs,rfl,hx,q⟩:=h;cases rx;obtain⟨its,r,J,Y⟩:=I.list hx;have B:=r.length;refine#["list",_,slot_list_getitem.lookup,J.isList.typeIs,?_];refine wpAny_getItem_list_slice J.isList Z U pu .none (by simp) ?_ (by rw[JY] <;> omega);rw[BL,<-B];refine#[.ref s.heap.objs.size,_,I.laid (t':=s.toks) (o:=.lst (S0 xs lo hi)) (fun b ob q=>JI _ q) (tx _) ?_,rfl,q _ (I.hok.fresh (tx _))];exact#[JN (oP xs lo hi) Y,_,0,(r.drop (HT.sIx xs.length 0 lo)).take (HT.sIx xs.length xs.length hi - HT.sIx xs.length 0 lo),Kg _ rfl]
def call_len_seq:CallR X (.builtin "len") (fun xs H Q=>∃p ys,xs=[.ref p]/\(SqL X.K H p ys\/SqT X.K H p ys)/\Q (.int ys.length) H):=by
 intro pins s σ H xs us Q I r h;obtain⟨p,ys,rfl,J,q⟩:=h;obtain⟨u,rfl,rx⟩:=Y1 r;cases rx;have hn:=di;rcases J with J | J
 .obtain⟨its,U,Y,Z⟩:=I.list J;have B:=U.length;exact Calls.call_len_list Y.isList (by simp only[JY] <;> omega) #[.int ys.length,H,I.tok _,#[s.toks+1,by rw[JY,B]],q]
 .obtain⟨its,U,Y,Z⟩:=I.tuple J;have B:=U.length;exact len_tuple Y (by simp only[JY] <;> omega) #[.int ys.length,H,I.tok _,#[s.toks+1,by rw[JY,B]],q]
def Fi:CallR X (.builtin "len") (fun xs H Q=>∃z,xs=[.str z]/\z.length<=sizeLine/\Q (.int z.length) H):=by
 intro pins s σ H xs us Q I r h;obtain⟨z,rfl,J,q⟩:=h;obtain⟨u,rfl,t,rfl⟩:=Y1 r;have B:=di;exact len_str ∅ #[.int z.length,H,I.tok _,#[_,rfl],q]
def CallR.or {f:Value}{B:List V->Hp->VK->Prop}(h:CallR X f r) (h':CallR X f B):CallR X f (fun xs H Q=>r xs H Q\/B xs H Q):=by
 intro pins s σ H xs us Q I J q;rcases q with q | q
 .exact h pins s σ H xs us Q I J q
 .exact h' pins s σ H xs us Q I J q
def zW:CallR X (.type "list") (fun xs H Q=>∃p ys,xs=[.ref p]/\(SqL X.K H p ys\/SqT X.K H p ys)/\∀l,H l=none->Q (.ref l) (j5 H l (.lst ys))):=by
 intro pins s σ H xs us Q I r h;obtain⟨p,ys,rfl,hq,q⟩:=h;obtain⟨u,rfl,rx⟩:=Y1 r;cases rx;have Y:∀(its:vV_),Vals ys its->ys.length<=sizeLine->∀(h':Heap) (c':Nat),(∀b o',s.heap.get? b=some o'->h'.get? b=some o') ->
   h'.get? s.heap.objs.size=some { cls:=.type "list",dict:=none,data:=.seq its.toArray c',slots:=#v[] }->EP X pins σ Q (.ref s.heap.objs.size) { s with heap:=h' }:=fun its B J h' c' Z e=>
  #[.ref s.heap.objs.size,_,I.laid (t':=s.toks) Z (tx _) (show ObjOk X.prog X.w _ h' _ (.lst ys) from #[J,its,c',B,e]),rfl,q _ (I.hok.fresh (tx _))]
 rcases hq with hq | hq
 .obtain⟨its,B,pl,J⟩:=I.list hq;have U:=B.length;obtain⟨o,ho,hc,n,hd⟩:=pl.isList;exact call_list_seq p (.inl rfl) ho hc hd (fun h' c' Z e=>Y its B J h' c' Z e) (by simp only[JY] <;> omega)
 .obtain⟨its,B,pl,J⟩:=I.tuple hq;have U:=B.length;obtain⟨o,ho,hc,n,hd⟩:=pl;exact call_list_seq p (.inr rfl) ho hc hd (fun h' c' Z e=>Y its B J h' c' Z e) (by simp only[JY] <;> omega)
def wH:CallR X (.type "tuple") (fun xs H Q=>∃p ys,xs=[.ref p]/\((SqL X.K H p ys/\∀l,H l=none->Q (.ref l) (j5 H l (.tup ys)))\/(SqT X.K H p ys/\Q (.ref p) H))):=by
 intro pins s σ H xs us Q I r h;obtain⟨p,ys,rfl,h⟩:=h;obtain⟨u,rfl,rx⟩:=Y1 r;cases rx;rcases h with ⟨U,q⟩ | ⟨U,q⟩
 .obtain⟨its,B,J,Y⟩:=I.list U;have Z:=B.length;refine call_tuple_list J.isList (fun h' kp=>?_) (by simp only[JY] <;> omega);have I1:Inv X pins σ H { s with heap:=h' }:=I.kept (t':=s.toks) kp;have I2:Inv X pins σ (j5 H h'.objs.size (.tup ys)) { s with heap:=h'.push { cls:=.type "tuple",data:=.seq its.toArray } }:=
   I1.laid (t':=s.toks) (fun b o e=>JI _ e) (tx _) (show ObjOk X.prog X.w _ _ _ (.tup ys) from #[Y,its,B,IsTup.new _ _])
  exact#[.ref h'.objs.size,_,I2,rfl,q _ (I1.hok.fresh (tx _))]
 .obtain⟨its,B,J,Y⟩:=I.tuple U;exact call_tuple_same J #[.ref p,H,I,rfl,q]
def mO (K:vF_) (T:String) (x:V) (H:Hp):Prop:=match x with
 |.str _=>T = "str"
 |.int _=>T = "int"
 |.ref p=>(T = "list" /\ ∃xs,SqL K H p xs)\/(T = "tuple" /\ ∃o,K.lookup p=some o/\o.cls = .type "tuple" /\ o.dict=none) \/
   (T = "dict" /\ ((∃kvs,H p=some (.dK kvs))\/∃kvs,H p=some (.dT kvs)))\/(T = "set" /\ ∃S n,H p=some (.set S n))
 |_=>False
def pw {x:V}{v:Value}(I:Inv X pins σ H s) (r:RelV x v) (ty:mO X.K T x H) :
  s.TypeIs v T/\∀a,v = .ref a->∃ob,s.heap.get? a=some ob/\ob.dict=none:=by
 cases x with
 |str z=>
  obtain⟨t,rfl⟩:=r;cases (show T = "str" from ty);exact#[typeIs_str s z t,fun _ e=>nomatch e]
 |int i=>
  obtain⟨t,rfl⟩:=r;cases (show T = "int" from ty);exact#[typeIs_int s i t,fun _ e=>nomatch e]
 |ref p=>
  cases r;rcases ty with ⟨rfl,xs,hq⟩ | ⟨rfl,o,B,Z,J⟩ | ⟨rfl,B⟩ | ⟨rfl,S,n,B⟩
  .obtain⟨its,_,Y,_⟩:=I.list hq;refine#[Y.isList.typeIs,fun a e=>?_];cases e;obtain⟨o,n,e,c,J,_⟩:=Y;exact#[o,e,J]
  .refine#[#[o,I.kIn p o B,Z],fun a e=>?_];cases e;exact#[o,I.kIn _ o B,J]
  .have z:∃o,s.heap.get? p=some o/\o.ExactDict:=by
    rcases B with ⟨kvs,B⟩ | ⟨kvs,B⟩
    .obtain⟨_,_,_,_,o,_,_,e,ex,_⟩:=I.hok p _ B;exact#[o,e,ex]
    .obtain⟨_,_,_,_,o,_,_,e,ex,_⟩:=I.hok p _ B;exact#[o,e,ex]
   obtain⟨o,e,ex⟩:=z;refine#[#[o,e,ex.1],fun a U=>?_];cases U;exact#[o,e,ex.2.1]
  .obtain⟨o,_,_,_,e,ex,_⟩:=I.hok p _ B;refine#[#[o,e,ex.1],fun a U=>?_];cases U;exact#[o,e,ex.2.1]
 |_=>exact False.elim ty
def HU (K:vF_) (T:String) (r:V->List V->Hp->VK->Prop) (to:TE):TE:=fun σ H Q=>to σ H fun x H1=>mO K T x H1/\r x [] H1 Q
def Ds (K:vF_) (T:String) (r:V->List V->Hp->VK->Prop) (to:TE) (t:TA):TE:=fun σ H Q=>to σ H fun x H1=>mO K T x H1/\t σ H1 fun xs H2=>r x xs H2 Q
variable {o:Expr}{to:TE}{t:TA}{apos:Pos}{T id:String}{r:V->List V->Hp->VK->Prop}
def zQ (pa:PlainAttrs T) (U:Slot T name id) (Y:typeOf (.builtin id)=pure (.type "method_descriptor")) (hm:lV X id r) (ho:PE X o to)
  (B:attributeBase o name X.env (eval o X.env)=eval o X.env:=by rfl) (J:(apos.endLine == cpos.line)=true:=by rfl):PE X (.Call (.Attribute o name apos) [] [] cpos) (HU X.K T r to):=by
 intro pins s σ H Q I h;refine wpAny_Call_method0_late B J (l6 (ho pins s σ H _ I h) fun v s1 ⟨x,H1,I1,Z,ty,q1⟩=>?_);obtain⟨h1,h2⟩:=pw I1 Z ty;exact#[T,id,pa,U,Y,h1,h2,Calls.callWith_builtin rfl (PySem.evalArgs_none (hm pins s1 σ H1 x [] v [] Q I1 Z .nil q1))]
def Hy (pa:PlainAttrs T) (Y:Slot T name id) (hty:typeOf (.builtin id)=pure (.type "method_descriptor")) (hm:lV X id r) (ho:PE X o to) (ha:PA X (e::es) t)
  (J:attributeBase o name X.env (eval o X.env)=eval o X.env:=by rfl)
  (Z:((backTo cpos (starEach (e::es) X.env)).all (fun x=>!x.1)&&(backToKw cpos (keywordEach [] X.env)).all (fun x=>x.1.isSome)
   && decide ((e::es).length+([]:List Keyword).length+(if ([]:List Keyword).isEmpty then 0 else 1)<30))=true:=by rfl)
  (U:(apos.endLine == cpos.line)=true:=by rfl) (hs:starEach (e::es) X.env=(false,eval e X.env)::starEach es X.env:=by rfl) (B:(backTo cpos (starEach es X.env)).any (·.1)=false:=by rfl) :
  PE X (.Call (.Attribute o name apos) (e::es) [] cpos) (Ds X.K T r to t):=by
 intro pins s σ H Q I h;refine wpAny_Call_method_late J Z U rfl (l6 (ho pins s σ H _ I h) fun v s1 ⟨x,H1,I1,r1,ty,q1⟩=>?_);obtain⟨h1,h2⟩:=pw I1 r1 ty;refine#[T,id,pa,Y,hty,h1,h2,?_];have hA:=ha cpos pins s1 σ H1 _ I1 q1;rw[hs] at hA ⊢;refine Calls.callWith_builtin (by show (false||(backTo cpos (starEach es X.env)).any (·.1))=false;rw[B] <;> rfl) (Calls.evalArgs_plain ?_);exact l6 hA fun us s2 ⟨vs,H2,I2,r2,q2⟩=>hm pins s2 σ H2 x vs v us Q I2 r1 r2 q2
end
def HS (X:Cx) (id:String) (r:V->List V->Hp->VK->Prop):Prop:=
 ∀(pins:vP_) (s:Shared) (σ:St) (H:Hp) (x:V) (xs:List V) (v:Value) (us:vV_) (Q:VK),Inv X pins σ H s->RelV x v->Vals xs us->r x xs H Q ->
  wpAny (model X.prog X.w) X.A (call (.builtin id) (v::us)) (EP X pins σ Q) X.xe s
def Vals.one:∀{x:V}{us:vV_},Vals [x] us->∃u,us=[u]/\RelV x u:=by
 intro x us h;cases h with
 |cons r t=>
  cases t;exact#[_,rfl,r]
theorem Vals.reverse (h:Vals xs us):Vals xs.reverse us.reverse:=by
 induction h with
 |nil=>exact .nil
 |cons r t B=>rw[Ls,Ls];exact Vals.append B (.cons r .nil)
theorem Vals.rep (h:Vals xs us):∀k:Nat,Vals (List.replicate k xs).flatten (List.replicate k us).flatten
 |0=>.nil
 |k+1=>by
  rw[LQ,LQ,Mv,Mv];exact Vals.append h (Vals.rep h k)
theorem rT (its:vV_):∀(k:Nat) (acc:vV_),
  List.foldl (fun x1 x2=>x1++x2) acc.toArray (List.replicate k its.toArray)=(acc++(List.replicate k its).flatten).toArray
 |0,acc=>by simp
 |k+1,acc=>by
  have e:acc.toArray++its.toArray=(acc++its).toArray:=by simp
  have B:(acc++its)++(List.replicate k its).flatten=acc++(List.replicate (k+1) its).flatten:=by
   rw[LQ,Mv,MX]
  rw[<-B,<-rT its k (acc++its),<-e,LQ,KP]
section
variable {l b:Addr}{zs:List V}
def Inv.lset {its its':vV_}{n:Nat}{f:Array Value->Array Value}{t':Nat}(I:Inv X pins σ H s) (Z:H l=some (.lst xs))
  (e:s.heap.get? l=some { cls:=.type "list",data:=.seq its.toArray n }) (Y:f its.toArray=its'.toArray) (U:Vals ys its') (hz:ys.length<=sizeLine) :
  Inv X pins σ (j5 H l (.lst ys)) { s with heap:=s.heap.update l (Obj.mapSeq f),toks:=t' }:=by
 have q:=PySem.IsL.update e f;rw[Y] at q;refine I.write (x:=l) (e:=l) (by rw[Z];exact trivial) (.inl rfl) (fun b' u J B=>(KD s.heap (Obj.mapSeq f) (JT J)).trans B) #[_,q] ?_;exact#[hz,its',_,U,q]
def Inv.lnew {t':Nat}(I:Inv X pins σ H s) (B:Vals ys its) (hz:ys.length<=sizeLine) :
  Inv X pins σ (j5 H s.heap.objs.size (.lst ys)) { s with heap:=s.heap.push { cls:=.type "list",data:=.seq its.toArray },toks:=t' }:=
 I.laid (fun _ _ q=>JI _ q) (tx _) #[hz,its,0,B,Kg _ rfl]
theorem Inv.fresh (I:Inv X pins σ H s):H s.heap.objs.size=none:=I.hok.fresh (tx _)
def Inv.lstM (I:Inv X pins σ H s) (B:H l=some (.lst xs)):xs.length<=sizeLine/\∃(its:vV_) (n:Nat),Vals xs its/\xs.length=its.length/\s.heap.get? l=some { cls:=.type "list",data:=.seq its.toArray n }:=by
 obtain⟨z,its,n,r,e⟩:=I.hok l _ B;exact#[z,its,n,r,r.length,e]
def EY {n:Nat}(h:n<=sizeLine):Builtin.List.listTooLong n=false:=by
 unfold Builtin.List.listTooLong;exact JM ∅
end
def GR:V->List V->Hp->VK->Prop:=fun x vs H Q=>∃l xs y,x = .ref l/\vs=[y]/\H l=some (.lst xs)/\xs.length<sizeLine/\Q .non (j5 H l (.lst (xs++[y])))
def oY:HS X "list.append" GR:=by
 intro pins s σ H x vs v us Q I U J h;obtain⟨l,xs,y,rfl,rfl,B,Z,q⟩:=h;cases U;obtain⟨u,rfl,Y⟩:=J.one;obtain⟨z,its,n,r,hl,e⟩:=I.lstM B;refine call_meets F.slot_list_append #[_,e,rfl] F.entry_list_append (F.args_list_append_2 _ _) (PySem.list_append l its.toArray n u (by rw[JY];omega)) #[e,?_];refine#[.non,_,I.lset (its':=its++[u]) B e (by simp) (r.append (.cons Y .nil)) ?_,rfl,q];rw[Ke,Ll];omega
def kn:R2:=fun x y H Q=>∃l b xs zs,x = .ref l/\y = .ref b/\H l=some (.lst xs)/\H b=some (.lst zs)/\xs.length+zs.length<=sizeLine/\∀p,H p=none->Q (.ref p) (j5 H p (.lst (xs++zs)))
def mx:OpR X (binaryOp .Add) kn:=by
 intro pins s σ H x y v u Q I Y ry h;obtain⟨l,b,xs,zs,rfl,rfl,hH,J,hz,q⟩:=h;cases Y;cases ry;obtain⟨z,its,n,r,hl,e⟩:=I.lstM hH;obtain⟨z2,B,n2,Z,hl2,e2⟩:=I.lstM J;refine PySem.P.add_list e e2 ?_ (by rw[JY,JY];omega);have U:its.toArray++B.toArray=(its++B).toArray:=by simp
 rw[U];exact#[.ref _,_,I.lnew (t':=s.toks) (r.append Z) (by rw[Ke];omega),rfl,q _ I.fresh]
def rj:R2:=fun x y H Q=>∃l k xs,x = .ref l/\y = .int k/\H l=some (.lst xs) /\ -(2 ^ 63)<=k/\k<2 ^ 63/\xs.length*k.toNat<=sizeLine /\
 ∀p,H p=none->Q (.ref p) (j5 H p (.lst (List.replicate k.toNat xs).flatten))
def CZ {α:Type}(xs:List α) (k:Nat):(List.replicate k xs).flatten.length=k*xs.length:=by
 induction k with
 |zero=>simp
 |succ k B=>rw[LQ,Mv,Ke,B,Nat.succ_mul,Mg]
def Iy:OpR X (binaryOp .Mult) rj:=by
 intro pins s σ H x y v u Q I rx ry h;obtain⟨l,k,xs,rfl,rfl,hH,h1,h2,hz,q⟩:=h;cases rx;obtain⟨t,rfl⟩:=ry;obtain⟨z,its,n,r,hl,e⟩:=I.lstM hH;have J:its.toArray.size*k.toNat<=sizeLine:=by rw[JY,<-hl];exact hz
 have hcap:¬ its.toArray.size*k.toNat>(2 ^ 63 - 1) / 8:=by
  have:(sizeLine:Nat)<=(2 ^ 63 - 1) / 8:=by decide
  omega
 have Y:¬ (!Builtin.List.listFitsIndex k)=true:=by
  rw[fitsIndex_both h1 h2];exact JQ
 have B:¬ Builtin.List.listTooLong (its.toArray.size*k.toNat)=true:=by
  rw[EY J];exact JQ
 have Z:List.foldl (fun x1 x2=>x1++x2) #v[] (List.replicate (if its.toArray.isEmpty=true then 0 else k.toNat) its.toArray)=(List.replicate k.toNat its).flatten.toArray:=by
  have f0:∀m:Nat,List.foldl (fun x1 x2=>x1++x2) #v[] (List.replicate m its.toArray)=(List.replicate m its).flatten.toArray:=fun m=>by
   have:=rT its m [];rw[Lf] at this;exact this
  rw[f0];cases its with
  |nil=>simp
  |cons a r'=>rw[iR (by simp)]
 refine wpAny_binaryOp_repeat_ref (T := "list") (U := "int") #[] #[_,e,rfl] (fun s'=>typeIs_int s' k t) noFill_list_mul F.fills_int_mul F.slot_int_rmul repeat_list F.slot_int_index.lookup
  (call_meets F.slot_int_rmul (typeIs_int s k t) F.entry_int_rmul (F.args_int_rmul_2 _ _) (int___rmul___int_list k t l its.toArray n)
   #[e,rfl,#[_,e,rfl],call_meets F.slot_list_mul #[_,e,rfl] F.entry_list_mul (F.args_list_mul_2 _ _) (AutoListH.list___mul___list_int_3 l its.toArray n k t Y hcap B) #[e,?_]])
 rw[Z];exact#[.ref _,_,I.lnew (t':=s.toks) (r.rep k.toNat) (by rw[CZ,Nat.mul_comm];exact hz),rfl,q _ I.fresh]
section
variable {κ:Type}[DecidableEq κ]
def L5 (kvs:List (κ × V)) (k:κ):Option V:=(kvs.find? fun B=>decide (B.1=k)).map (·.2)
def D9 (kvs:List (κ × V)) (k:κ) (v:V):List (κ × V):=
 if (kvs.any fun B=>decide (B.1=k))=true then kvs.map (fun B=>if B.1=k then (B.1,v) else B) else kvs++[(k,v)]
def fW {k:κ}:L5 ([]:List (κ × V)) k=none:=rfl
def bV {p:κ × V}{r:List (κ × V)}{k:κ}(e:p.1=k):L5 (p::r) k=some p.2:=by simp[L5,Mh,e]
def O8 {p:κ × V}{r:List (κ × V)}{k:κ}(e:¬ p.1=k):L5 (p::r) k=L5 r k:=by simp[L5,Mh,e]
theorem jw (k:κ):∀kvs:List (κ × V),(kvs.any fun kv=>decide (kv.1=k))=(L5 kvs k).isSome
 |[]=>rfl
 |p::r=>by
  rw[MY];by_cases e:p.1=k
  .simp only[bV e,JJ e,NV,Option.isSome_some]
  .rw[O8 e,JM e,MZ];exact jw k r
def kK (kvs:List (κ × V)) (k:κ) (v:V):(D9 kvs k v).length<=kvs.length+1:=by
 unfold D9;split
 .rw[JR];omega
 .rw[Ke,JO,Lm];omega
def gr {kvs:List (κ × V)}{k:κ}(v:V) (h:L5 kvs k=none):D9 kvs k v=kvs++[(k,v)]:=by
 unfold D9;rw[jw,h];exact iR #[]
def RelO.isSome_eq {o:Option V}{u:Option Value}(r:RelO o u):o.isSome=u.isSome:=by
 cases o with
 |none=>cases u with
  |none=>rfl
  |some _=>exact(show False from r).elim
 |some _=>cases u with
  |none=>exact(show False from r).elim
  |some _=>rfl
def KV.val {kvs:List (κ × V)}{vs:List (κ × Value)}(r:KV kvs vs) (k:κ):RelO (L5 kvs k) (valueAt vs k):=by
 unfold KV at r;induction r with
 |nil=>exact True.intro
 |@cons p q ps qs h t ih=>
  obtain⟨h1,h2⟩:=h;by_cases e:p.1=k
  .have B:q.1=k:=h1.symm.trans e;have b:valueAt (q::qs) k=some q.2:=by simp[valueAt,Mh,B]
   rw[bV e,b];exact h2
  .have B:¬ q.1=k:=fun z=>e (h1.trans z)
   have b:valueAt (q::qs) k=valueAt qs k:=by simp[valueAt,Mh,B]
   rw[O8 e,b];exact ih
theorem KV.any {kvs:List (κ × V)}{vs:List (κ × Value)}(r:KV kvs vs) (k:κ):(kvs.any fun kv=>decide (kv.1=k))=vs.any fun kv=>decide (kv.1=k):=by
 unfold KV at r;induction r with
 |nil=>rfl
 |cons h t B=>rw[MY,MY,B,h.1]
def KV.repl {kvs:List (κ × V)}{vs:List (κ × Value)}(r:KV kvs vs) (k:κ) (B:RelV y u) :
  KV (kvs.map fun kv=>if kv.1=k then (kv.1,y) else kv) (vs.map fun kv=>if kv.1=k then (kv.1,u) else kv):=by
 unfold KV at r ⊢;induction r with
 |nil=>exact .nil
 |@cons p q ps qs h t ih=>
  rw[JS,JS];refine .cons ?_ ih;obtain⟨h1,h2⟩:=h;by_cases e:p.1=k
  .rw[iO e,iO (h1.symm.trans e)];exact#[h1,B]
  .rw[iR e,iR (fun z=>e (h1.trans z))];exact#[h1,h2]
def KV.put {kvs:List (κ × V)}{vs:List (κ × Value)}(r:KV kvs vs) (k:κ) (B:RelV y u):KV (D9 kvs k y) (stored vs k u):=by
 unfold D9 stored;rw[r.any k];by_cases e:(vs.any fun J=>decide (J.1=k))=true
 .rw[iO e,iO e];exact r.repl k B
 .rw[iR e,iR e];exact Paired.snoc r #[rfl,B]
theorem KV.length {kvs:List (κ × V)}{vs:List (κ × Value)}(r:KV kvs vs):kvs.length=vs.length:=MP r
end
def iH {w:World}{k:n9}(r:RelV (kV k) u):(O5 P w).is k u=true:=by
 cases k with
 |inl i=>obtain⟨t,e⟩:=(show ∃t,u=Value.int i t from r);subst e;exact GY P w i t
 |inr x=>obtain⟨t,e⟩:=(show ∃t,u=Value.str x t from r);subst e;exact EA P w x t
theorem uF {w:World}:∀{ks:List n9}{us:vV_},Vals (ks.map kV) us->ItemsAre (O5 P w) ks us
 |[],_,r=>by rw[KJ] at r;cases r;exact .nil
 |k::ks,_,r=>by
  rw[JS] at r;cases r with
  |cons h t=>exact .cons (iH h) (uF t)
abbrev KT (H:Hp):List (List n9 × V)->List (List n9 × Addr × Value)->Prop:=Paired fun p q=>p.1=q.1/\H q.2.1=some (.tup (p.1.map kV))/\RelV p.2 q.2.2
def KT.val {xs:List (List n9 × Addr × Value)}(r:KT H kvs xs) (k:List n9):RelO (L5 kvs k) ((atKey xs k).map (·.2)):=by
 induction r with
 |nil=>exact True.intro
 |@cons p q ps qs h t ih=>
  obtain⟨h1,_,h2⟩:=h;by_cases e:p.1=k
  .have B:q.1=k:=h1.symm.trans e;have b:atKey (q::qs) k=some q.2:=by simp[atKey,Mh,B]
   rw[bV e,b];exact h2
  .have B:¬ q.1=k:=fun z=>e (h1.trans z)
   have b:atKey (q::qs) k=atKey qs k:=by simp[atKey,Mh,B]
   rw[O8 e,b];exact ih
def KT.repl {xs:List (List n9 × Addr × Value)}(r:KT H kvs xs) (k:List n9) (B:RelV y u) :
  KT H (kvs.map fun kv=>if kv.1=k then (kv.1,y) else kv) (xs.map (putAt k u)):=by
 induction r with
 |nil=>exact .nil
 |@cons p q ps qs h t ih=>
  rw[JS,JS];refine .cons ?_ ih;obtain⟨h1,h2,J⟩:=h;unfold putAt;by_cases e:p.1=k
  .rw[iO e,iO (h1.symm.trans e)];exact#[h1,h2,B]
  .rw[iR e,iR (fun z=>e (h1.trans z))];exact#[h1,h2,J]
def KT.put {xs:List (List n9 × Addr × Value)}(r:KT H kvs xs) (k:List n9) {b:Addr}(J:H b=some (.tup (k.map kV))) (B:RelV y u) :
  KT H (D9 kvs k y) (storedH xs k b u):=by
 have e:(kvs.any fun U=>decide (U.1=k))=(atKey xs k).isSome:=by
  rw[jw,(r.val k).isSome_eq,Option.isSome_map]
 unfold D9 storedH;rw[e];by_cases q:(atKey xs k).isSome=true
 .rw[iO q,iO q];exact r.repl k B
 .rw[iR q,iR q];exact Paired.snoc r #[rfl,J,B]
def KT.keeps {xs:List (List n9 × Addr × Value)}(r:KT H kvs xs) (B:∀b ys,H b=some (.tup ys)->H' b=some (.tup ys)):KT H' kvs xs:=
 Paired.mapP r fun _ _ z=>#[z.1,B _ _ z.2.1,z.2.2]
section
variable {P:Program}{w:World}
def qP {u:HO}(ok:HOk P w H h) (e:Rd H a u):ObjOk P w H h a u:=e.ok ok
def mE {kvs:List (n9 × V)}(B:HOk P w H h) (e:Rd H a (.dK kvs)):kvs.length<=sizeLine/\(a == sysModules)=false/\∃vs,KV kvs vs/\h.DictOf (O5 P w) a vs:=
 show ObjOk P w H h a (.dK kvs) from qP B e
def rO {kvs:List (n9 × V)}(B:HOk P w H h) (e:H a=some (.dK kvs)):kvs.length<=sizeLine/\(a == sysModules)=false/\∃vs,KV kvs vs/\h.DictOf (O5 P w) a vs:=mE B (.inl e)
def kL {B:List n9}(J:HOk P w H h) (e:H a=some (.tup (B.map kV))):(tupleKind (O5 P w)).is h B a:=by
 obtain⟨_,its,r,o,h1,h2,n,U⟩:=(show ObjOk P w H h a (.tup (B.map kV)) from J a _ e)
 exact#[o,its.toArray,n,h1,h2,U,by simpa using uF r]
def kW (U:HOk P w H h) (e:Rd H a (.dT kvs)):kvs.length<=sizeLine/\(a == sysModules)=false /\
  ∃xs,KT H kvs xs/\h.DictOfH (tupleKind (O5 P w)) a xs:=by
 obtain⟨z,y,xs,r,o,es,Y,h1,h2,h3,h4,Z⟩:=(show ObjOk P w H h a (.dT kvs) from qP U e)
 refine#[z,y,xs,r,o,es,Y,h1,h2,h3,h4,fun x B=>?_,Z];have J:∀{l:List (List n9 × V)}{m:List (List n9 × Addr × Value)},KT H l m->∀x∈m,(tupleKind (O5 P w)).is h x.1 x.2.1:=by
  intro l m q;induction q with
  |nil=>intro x B;exact nomatch B
  |@cons p q ps qs hq t ih=>
   intro x B;rcases xo.mp B with e | B
   .subst e;exact kL U (by rw[<-hq.1];exact hq.2.1)
   .exact ih x B
 exact J r x B
def Ij (B:HOk P w H h) (e:H a=some (.dT kvs)):kvs.length<=sizeLine/\(a == sysModules)=false /\
  ∃xs,KT H kvs xs/\h.DictOfH (tupleKind (O5 P w)) a xs:=kW B (.inl e)
end
def DGet (H:Hp) (a:Addr) (y:V) (r:Option V):Prop:=
 (∃kvs k,Rd H a (.dK kvs)/\y=kV k/\r=L5 kvs k)\/∃kvs k b,Rd H a (.dT kvs)/\y = .ref b/\H b=some (.tup (k.map kV))/\r=L5 kvs k
def DPut (H:Hp) (a:Addr) (y v:V) (H':Hp):Prop:=
 (∃kvs k,H a=some (.dK kvs)/\y=kV k/\kvs.length<sizeLine/\H'=j5 H a (.dK (D9 kvs k v))) \/
 ∃kvs k b,H a=some (.dT kvs)/\y = .ref b/\H b=some (.tup (k.map kV))/\kvs.length<sizeLine/\H'=j5 H a (.dT (D9 kvs k v))
theorem DGet.k {kvs:List (n9 × V)}{k:n9}(e:H a=some (.dK kvs)):DGet H a (kV k) (L5 kvs k):=.inl #[kvs,k,.inl e,rfl,rfl]
theorem DPut.k {kvs:List (n9 × V)}{k:n9}{v:V}(e:H a=some (.dK kvs)) (B:kvs.length<sizeLine):DPut H a (kV k) v (j5 H a (.dK (D9 kvs k v))):=.inl #[kvs,k,e,rfl,B,rfl]
section
variable {y v:V}{r:Value}{o:Option V}
def Inv.big (I:Inv X pins σ H s):sysModules<s.heap.objs.size:=by
 have h:mainGlobals<s.heap.objs.size:=(I.mod.glob.keeps I.bk).lt;exact Nat.lt_trans #[] h
def Bl (hu:A.units+1<cLine) (I:Inv X pins σ H s) (g:DGet H a y (some v)) (ry:RelV y u) (h:∀w' s',Inv X pins σ H s'->RelV v w'->Q w' s') :
  wpAny (model X.prog X.w) A (getItem (.ref a) u) Q E s:=by
 rcases g with ⟨kvs,k,e,Z,l⟩ | ⟨kvs,k,b,e,Z,eb,l⟩
 .subst Z;obtain⟨z,hd,vs,J,dd⟩:=mE I.hok e;obtain⟨w',U,B⟩:=RelO.some_of (v:=v) (o:=valueAt vs k) (by rw[l];exact J.val k);exact wpAny_getItem_of (iH ry) dd.mapOf U (h w' _ (I.tok _) B)
 .subst Z;cases (show u=Value.ref b from ry);obtain⟨z,hd,xs,J,dd⟩:=kW I.hok e;obtain⟨w',U,B⟩:=RelO.some_of (v:=v) (o:=(atKey xs k).map (·.2)) (by rw[l];exact J.val k);obtain⟨p,hp,Y⟩:=Mw.mp U;refine wpAny_getItem_heap (tupleKind_room_in1 hu) (kL I.hok eb) dd hp ?_;rw[Y];exact h w' _ (I.tok _) B
def mJ {t':Nat}(I:Inv X pins σ H s) (Z:ej (H a)) (Y:Heap.SameBut a s.heap h') (U:∃q,h'.get? a=some q) (B:ObjOk X.prog X.w (j5 H a ob) h' a ob) :
  Inv X pins σ (j5 H a ob) { s with heap:=h',toks:=t' }:=
 I.write (x:=a) (e:=a) Z (.inl rfl) (fun b q J z=>(Y.2 b J).trans z) U B
def rb {w:World}{kvs:List (n9 × V)}{vs:List (n9 × Value)}(z:kvs.length<=sizeLine) (J:(a == sysModules)=false) (B:KV kvs vs) (dd:h'.DictOf (O5 P w) a vs) :
  ObjOk P w H' h' a (.dK kvs):=#[z,J,vs,B,dd]
def Ho {Q:Unit->Shared->Prop}(hu:A.units+1<cLine) (I:Inv X pins σ H s) (g:DPut H a y v H') (ry:RelV y u) (rv:RelV v r) (h:∀s',Inv X pins σ H' s'->Q () s') :
  wpAny (model X.prog X.w) A (setItem (.ref a) u r) Q E s:=by
 rcases g with ⟨kvs,k,e,ey,l,Y⟩ | ⟨kvs,k,b,e,ey,eb,l,Y⟩
 .subst ey Y;obtain⟨z,hd,vs,B,dd⟩:=rO I.hok e;have Z:vs.length<=sizeLine:=by rw[<-B.length];exact z
  have hl:(D9 kvs k v).length<=sizeLine:=by have:=kK kvs k v;omega
  refine wpAny_setItem_pairs (hsz:=Z) (iH ry) dd fun h' J hs=>h _ ?_
  have he:∃q,h'.get? a=some q:=let ⟨q,_,_,U,_⟩:=J;#[q,U]
  exact mJ I (by rw[e];exact True.intro) hs he (rb hl hd (B.put k rv) J)
 .subst ey Y;cases (show u=Value.ref b from ry);obtain⟨z,hd,xs,B,dd⟩:=Ij I.hok e;have Z:xs.length<=sizeLine:=by rw[<-MP B];exact z
  have hl:(D9 kvs k v).length<=sizeLine:=by have:=kK kvs k v;omega
  refine wpAny_setItem_heap (hsz:=Z) (tupleKind_room_in1 hu) (kL I.hok eb) dd fun h' J hs=>h _ ?_
  obtain⟨q,es,ep,U,h2,h3,h4,_,h5⟩:=J;refine mJ I (by rw[e];exact True.intro) hs #[q,U] #[hl,hd,_,(B.put k eb rv).keeps fun c ys ec=>?_,q,es,ep,U,h2,h3,h4,h5];rw[m9 (Du ec e (fun z=>nomatch z))];exact ec
end
def wg (i:Expr):Prop:=∀ov iv,subscripted i false ov iv=operate [ov,iv] (getItem ov iv)
def DY {w:World}{pos:Pos}{T id:String}
  (Z:typeLookup (.type T) "__getitem__" = pure (some (.builtin id))) (hs:wg slice)
  (h:wpAny (model prog w) A (eval value env) (fun o s₁=>wpAny (model prog w) A (eval slice env) (fun i s₂=>s₂.TypeIs o T/\wpAny (model prog w) A (getItem o i) Q E s₂) E s₁) E s) :
  wpAny (model prog w) A (eval (.Subscript value slice pos) env) Q E s:=by
 refine Subscript_ (JX h (fun o s₁ h₁=>JX h₁ (fun i s₂ J=>?_) fun _ _ x=>x) fun _ _ x=>x);obtain⟨U,J⟩:=J;unfold subscriptTail;refine gV ?_;rw[getitemInPython_of_ne U.not_modules];refine gV (NW U Z ?_);have B:wpAny (model prog w) A (subscripted slice false o i) (fun r Y=>wpAny (model prog w) A (letTemporaryGo value o r >>= fun _=>pure r) Q E Y) E s₂:=by
  rw[hs o i];exact wpAny_operating (JX J (fun r Y h₃=>gV (wpAny_letTemporaryGo (iU h₃))) fun _ _ x=>x)
 first
  | exact iU (gV B)
  | exact gV (iU (gV B))
  | exact gV B
def Bf {o:Option V}(I:Inv X pins σ H s) (g:DGet H a y o):s.TypeIs (.ref a) "dict":= by
 rcases g with ⟨kvs,k,e,_,_⟩ | ⟨kvs,k,b,e,_,_,_⟩
 .obtain⟨_,_,vs,_,dd⟩:=mE I.hok e;exact dd.typeIs
 .obtain⟨_,_,xs,_,dd⟩:=kW I.hok e;exact dd.typeIs
def Jb (td ty:TE):TE:=fun σ H Q=>td σ H fun x H1=>ty σ H1 fun y H2=>∃a v,x = .ref a/\DGet H2 a y (some v)/\Q v H2
def Jn (td ty tv:TE):TS:=fun D σ H=>tv σ H fun v H1=>td σ H1 fun x H2=>ty σ H2 fun y B=>∃a H4,x = .ref a/\DPut B a y v H4/\D.nx σ H4
section
variable {o i value:Expr}{pos tpos:Pos}{td ty tv:TE}
def Bj (U:X.A.units+1<cLine) (ho:PE X o td) (hi:PE X i ty) (Z:wg i):PE X (.Subscript o i pos) (Jb td ty):=by
 intro pins s σ H Q I h;refine DY PySem.F.slot_dict_getitem.lookup Z (l6 (ho pins s σ H _ I h) fun u s1 ⟨x,H1,I1,rx,Y⟩=>l6 (hi pins s1 σ H1 _ I1 Y) fun iv s2 ⟨y,H2,J,ry,a,v,ex,g,q2⟩=>?_);subst ex;obtain rfl:u=Value.ref a:=rx;exact#[Bf J g,Bl U J g ry fun w' s3 I3 B=>#[v,H2,I3,B,q2]]
def HN (hu:X.A.units+1<cLine) (J:PE X o td) (hi:PE X i ty) (Z:PE X value tv) (hs:swapsWith value (some (.Subscript o i pos')) pos.line X.env=pure false) :
  PS X (.Assign [.Subscript o i pos'] value pos) (Jn td ty tv):=by
 intro pins s σ H D I h;refine wpAny_Assign_Subscript (l6 (Z pins s σ H _ I h) fun r s1 ⟨v,H1,U,rv,q1⟩=>l6 (J pins s1 σ H1 _ U q1) fun u s2 ⟨x,H2,I2,B,q2⟩=>l6 (hi pins s2 σ H2 _ I2 q2) fun iv s3 ⟨y,H3,I3,ry,a,H4,ex,g,Y⟩=>?_) hs;subst ex;obtain rfl:u=Value.ref a:=B;exact Ho hu I3 g ry rv fun s4 I4=>#[σ,H4,I4,Y]
end
def Jl {w:World}(h:Heap) (B:sysModules<h.objs.size):ObjOk P w H (h.push { cls:=.type "dict",data:=.dict #v[] }) h.objs.size (.dK []):=
 #[Ko _,MO.mpr (JT (Kc B)),[],.nil,Heap.DictOf.new h]
def kG:List (TE × TE)->St->Hp->(List (V × V)->Hp->Prop)->Prop
 |[],_,H,Q=>Q [] H
 |(tk,tv)::r,σ,H,Q=>tk σ H fun x H1=>tv σ H1 fun y H2=>kG r σ H2 fun ps B=>Q ((x,y)::ps) B
abbrev VV:List (V × V)->List (Value × Value)->Prop:=Paired fun p q=>RelV p.1 q.1/\RelV p.2 q.2
def gw (X:Cx) (pos:Pos) (J:List (Option Expr)) (B:List Expr) (trs:List (TE × TE)):Prop:=
 ∀(pins:vP_) (s:Shared) (σ:St) (H:Hp) (Q:List (V × V)->Hp->Prop),Inv X pins σ H s->kG trs σ H Q ->
  wpAny (model X.prog X.w) X.A (evalPairs (pairTrees J B X.env pos)) (fun vs s'=>∃ps H',Inv X pins σ H' s'/\VV ps vs/\Q ps H') X.xe s
def yC {pos:Pos}:gw X pos [] [] []:=fun pins s σ H Q I h=>pairTrees_nil_walk #[[],H,I,.nil,h]
def jy {pos:Pos}{k v:Expr}{vs:List Expr}{J tv:TE}(hk:PE X k J) (U:PE X v tv) (hr:gw X pos ks vs trs) :
  gw X pos (some k::ks) (v::vs) ((J,tv)::trs):=fun pins s σ H Q I h=>
 pairTrees_cons_walk (l6 (hk pins s σ H _ I h) fun u s1 ⟨x,H1,I1,rx,Y⟩=>l6 (U pins s1 σ H1 _ I1 Y) fun w2 s2 ⟨y,H2,I2,ry,Z⟩=>
  l6 (hr pins s2 σ H2 _ I2 Z) fun ws s3 ⟨ps,H3,I3,B,q3⟩=>#[(x,y)::ps,H3,I3,.cons #[rx,ry] B,q3])
def cV (kvs B:List (n9 × V)):List (n9 × V):=B.foldl (fun J U=>D9 J U.1 U.2) kvs
def KV.merge:∀{more:List (n9 × V)}{rs:List (n9 × Value)}{kvs:List (n9 × V)}{vs:List (n9 × Value)},KV more rs->KV kvs vs->KV (cV kvs more) (merged vs rs):=by
 intro more rs kvs vs r;unfold KV at r;induction r generalizing kvs vs with
 |nil=>intro q;exact q
 |@cons p q ps qs h t ih=>
  intro B;have e:KV (D9 kvs p.1 p.2) (stored vs q.1 q.2):=by
   have:=B.put p.1 h.2;rw[<-h.1];exact this
  exact ih e
theorem uG:∀(more kvs:List (n9 × V)),(cV kvs more).length<=kvs.length+more.length
 |[],kvs=>by show kvs.length<=kvs.length+0;omega
 |p::r,kvs=>by
  have h1:=uG r (D9 kvs p.1 p.2);have h2:=kK kvs p.1 p.2;show (cV (D9 kvs p.1 p.2) r).length<=_;rw[JO];omega
theorem uo {w:World}:∀{kvs:List (n9 × V)}{ws:List (Value × Value)},VV (kvs.map fun kv=>(kV kv.1,kv.2)) ws->∃rs,Carries (O5 P w) ws rs/\KV kvs rs
 |[],_,r=>by rw[KJ] at r;cases r;exact#[[],True.intro,.nil]
 |p::kvs,_,r=>by
  rw[JS] at r;cases r with
  |@cons a b as bs h t=>
   obtain⟨rs,c,q⟩:=uo (P:=P) (w:=w) t;obtain⟨J,B⟩:=b;exact#[(p.1,B)::rs,#[iH h.1,rfl,c],.cons #[rfl,h.2] q]
def yy (trs:List (TE × TE)):TE:=fun σ H Q=>∀p,H p=none->kG trs σ (j5 H p (.dK [])) fun ps H2=>H2 p=some (.dK [])/\∃kvs:List (n9 × V),ps=kvs.map (fun B=>(kV B.1,B.2))/\kvs.length<=15/\Q (.ref p) (j5 H2 p (.dK (cV [] kvs)))
def Jm {pos:Pos}{B:List (Option Expr)}{J:List Expr}(h:gw X pos B J trs) (U:B.all (·.isSome)=true) (hl:B.length=J.length) (h0:B≠[])
  (Z:B.length<=15):PE X (.Dict B J pos) (yy trs):=by
 intro pins s σ H Q I q;have hn:=I.hok.fresh (tx s.heap.objs.size);have I1:=I.laid (a:=s.heap.objs.size) (o:=.dK []) (h':=s.heap.push { cls:=.type "dict",data:=.dict #v[] }) (t':=s.toks) (fun _ _ q=>JI _ q) (tx _) (Jl s.heap I.big);refine wpAny_Dict_walk (knd:=O5 X.prog X.w) U hl h0 Z (l6 (h pins _ σ _ _ I1 (q _ hn)) fun ws s2 ⟨ps,H2,I2,rel,e,kvs,ep,lk,q2⟩=>?_);subst ep;obtain⟨rs,c,rk⟩:=uo (P:=X.prog) (w:=X.w) rel;obtain⟨z,hd,vs0,r0,dd⟩:=rO I2.hok e;cases r0;refine#[rs,c,dd,fun h' Y hs=>#[.ref s.heap.objs.size,_,?_,rfl,q2]];have hz:(cV [] kvs).length<=sizeLine:=by
  have h1:=uG kvs [];rw[Lm] at h1;rw[Kk];omega
 have he:∃q,h'.get? s.heap.objs.size=some q:=let ⟨q,_,_,hq,_⟩:=Y;#[q,hq]
 exact mJ I2 (by rw[e];exact True.intro) hs he (rb hz hd (rk.merge .nil) Y)
end L2
namespace Att
open PySem PySem.W PySem.Calls PyProof.Rows
def CV :∀(ns:List Int) (vs:vV_),WellAll P h vs (ns.map WData.int)->IntsAre vs ns:=by
 intro ns;induction ns with
 |nil=>
  intro vs w;rw[KJ] at w;cases w;exact .nil
 |cons n ns B=>
  intro vs w;rw[JS] at w;cases w with
  |cons a b=>
   cases a;exact .cons _ _ (B _ b)
def ET {l:OpenLaw}{n:Nat}(hn:l.most=some n) {B:vV_}
  (J:l.row.toRowW.claim.pre args=true) (hwl:WellAll P h B args) :
  ∃a vs ns,B=[Value.ref a]/\args=[WData.list (ns.map WData.int)]/\h.get? a=some { cls:=.type "list",data:=.seq vs.toArray }/\IntsAre vs ns/\ns.length<=n:=by
 have hsh:WShape.hasAll [] args [.list .int]=true:=(pre_splitW J).1;have hc:l.pre.holds [] { args:=args }=true:=(pre_splitW J).2;obtain⟨d,r,rfl,h1,h2⟩:=hasAllW_cons hsh;obtain rfl:=hasAllW_nil h2;obtain⟨xs,rfl,h3⟩:=hasW_list h1;obtain⟨ns,rfl⟩:=items_int h3;have U:ns.length<=n:=by
  unfold OpenLaw.pre at hc;have h4:(WTm.not (.lt (.lit (.int (n:Int))) (.len (.arg 0)))).holds [] { args:=[.list (ns.map .int)] }=true:=by
   have h4:=(holds_andW hc).1;rw[hn] at h4;exact h4
  have Z:=condW_of h4 (w_not (w_lt w_lit (w_len_list (w_arg rfl))));rw[JR] at Z;refine Na fun q=>?_
  have q':(n:Int)<((ns.length:Nat):Int):=by omega
  first
   | (rw[JJ q'] at Z;exact absurd Z #[])
   | (simp at Z;omega)
 cases hwl with
 |cons w1 w2=>
  cases w2;cases w1 with
  |list ho Y=>exact#[_,_,ns,rfl,rfl,ho,CV ns _ Y,U]
def zN (l:OpenLaw) (args:List WData):l.row.toRowW.claim.post args (.bool true) args=true:=
 postW_of (r:=l.row.toRowW) (X:=(true == true))
  (show WShape.has [] (.bool true) .bool=true by first | rfl | decide | simp[WShape.has,WShape.arms,WShape.armsAll])
  (show (WTm.eq .res (.lit (.bool true))).value [] { args:=args,res:=some (.bool true),after:=args }=some (.bool (true == true)) from w_eq_bool (w_res rfl) w_lit) rfl
def attach_call {l:OpenLaw}{n:Nat}{q:Program}{loose:List Str}{XP:(Str->Option Value)->Heap->Prop}{YP:World->Heap->Prop}{d:DefRec}
  (hn:l.most=some n) (hdf:d.params.defaults=[])
  (call:∀(w:World) (s₀ s₁:Shared) (mg mb:vG_) (fa:Addr) (o:Obj) (pm cd doc:Value) (a:Addr) (vs:vV_) (ns:List Int),
   Ground q loose [] XP w s₀ mg mb s₁.heap->YP w s₁.heap ->
   s₁.heap.get? fa=some o->o.data = .func (docDef d.name d.params d.body d.scope pm cd doc)->s₁.heap.CodeRec cd d.name->mg d.name=some (.ref fa) ->
   s₁.heap.get? a=some { cls:=.type "list",data:=.seq vs.toArray }->IntsAre vs ns->ns.length<=n->s₁.gens = #v[] ->
   codeAny (model l.prog w) callerA (.call (.ref fa) #[[.ref a],[]]) (fun r s'=>r = .ok (.ret (.bool true))/\OldK s₁.heap s'.heap/\s'.os=s₁.os/\AllBare s'.gens) s₁) :
  WalkO q loose XP YP l.row.toRowW d [] (fun f vs=>PySem.call f vs):=by
 intro w s₀ s₁ mg mb G Y fa o pm cd doc dV kV ho hd hcd hD hmg hg args vals as J hlay hrd hwl hlo;obtain rfl:dV = .none:=Dflts.none hD hdf;obtain rfl:kV = .none:=Dflts.noKw hD;obtain⟨a,vs,ns,rfl,rfl,U,B,Z⟩:=ET hn J hwl;refine enter_call (Mt (call w s₀ s₁ mg mb fa o pm cd doc a vs ns G Y ho (fd_plain hd) hcd hmg U B Z hg) fun r s' hq=>?_);obtain⟨rfl,h2,h3,h4⟩:=hq;exact#[.inl #[.bool true,.bool true,[],rfl,fun _=>rfl,.bool true,zN l _,fun _=>#[List.Pairwise.nil,fun _ hm=>(nomatch hm)]],h2,h3,h4]
end Att
namespace L2
open PySem PySem.Spec PyProof.Rows
theorem ub:∀{vs:vV_}{ns:List Int},IntsAre vs ns->Vals (ns.map V.int) vs
 |_,_,.nil=>.nil
 |_,_,.cons n t h=>.cons #[t,rfl] (ub h)
def lO (H:Hp):Prop:=∀b,H b=none\/∃o xs,H b=some (.frz o (.lst xs))
def yJ {w:World}{K:vF_}{mg mb:vG_}{CX:R9}{k:Nat}{fa a:Addr}{fd:FuncData}{x:Str}{sp:Sp}{B:Shared}{vs:vV_}{ns:List Int}
  (KX:K.In B.heap) (hns:B.heap.Ns mainGlobals mg) (U:B.heap.Ns builtinsNs mb) (hbb:∀x:Str,x ≠ "__name__" -> mb x=bootBuiltins x) (hlim:B.heap.NoLimit) (hg:B.gens = #v[])
  (ha:B.heap.get? a=some { cls:=.type "list",data:=.seq vs.toArray }) (hi:IntsAre vs ns) (hl:ns.length<=sizeLine) (hr:Room k callerA)
  (F:∀base:Heap,K.In base->base.Ns mainGlobals mg->FnOk P w K mg base CX k fa fd [x] sp) (hbind:∀(s:Shared) (u:Value),BindsTo s fd #[[u],[]] [(x,u)])
  (hsp:∀H:Hp,lO H->SqL K H a (ns.map V.int)->sp [.ref a] H (fun v _=>v = .bl true) fun _ _ _=>False)
  (hCX:∀H e s',CX [] H B (fun _ _ _=>False) e s'->False) :
  codeAny (model P w) callerA (.call (.ref fa) #[[.ref a],[]]) (fun r s'=>r = .ok (.ret (.bool true))/\OldK B.heap s'.heap/\s'.os=B.os/\AllBare s'.gens) B:=by
 have rv:=ub hi;have lenV:=hi.length;have Z:∀H:Hp,lO H->SqL K H a (ns.map V.int)->HOk P w H B.heap->(∀b,H b≠none->b=a)->(H a≠none->K.lookup a=none) ->
   codeAny (model P w) callerA (.call (.ref fa) #[[.ref a],[]]) (fun r s'=>r = .ok (.ret (.bool true))/\OldK B.heap s'.heap/\s'.os=B.os/\AllBare s'.gens) B:=by
  intro H hO hS hok hA hK;have J:∀{b:Addr}{o:Obj},B.heap.get? b=some o->H b=none->(Z4 B.heap H).get? b=some o:=fun e n=>HL e n
  have noA:∀{b:Addr}{o:Obj}{es:Array DictEntry}{ep:Nat},B.heap.get? b=some o->o.data = .dict es ep->H b=none:=fun {b o es ep} e d=>by
   cases q:H b with
   |none=>rfl
   |some u=>
    have e':b=a:=hA b (by rw[q];simp);subst e';rw[ha] at e;cases e;have d':Data.seq vs.toArray _=Data.dict es ep:=d;cases d'
  have Y:∀{b:Addr}{m:vG_},B.heap.Ns b m->(Z4 B.heap H).Ns b m:=fun {b m} ⟨o,es,ep,e,d,r⟩=>#[o,es,ep,J e (noA e d),d,r]
  have hKb:K.In (Z4 B.heap H):=fun b o e=>J (KX b o e) (by
   cases q:H b with
   |none=>rfl
   |some u=>
    have e':b=a:=hA b (by rw[q];simp);subst e';rw[hK (by rw[q];simp)] at e;cases e)
  have hM:Mod K mg (Z4 B.heap H):=#[hKb,Y hns,#[mb,Y U,hbb],let ⟨mc,h1,h2⟩:=hlim;#[mc,Y h1,h2]]
  have e0:Env0 P w K mg (Z4 B.heap H) callerA [] B H:=#[rfl,hM,fun b o e=>zf e,Nb (Ar _ _),trivial,fun b U=>absurd (show b∈([]:vL_) from U) (by simp),hok,.of_eq hg]
  refine Mt ((F _ hKb (Y hns)).run callerA [] B H #[[.ref a],[]] [.ref a] [.ref a] _ _ hr e0 (hbind B (.ref a)) (.cons rfl .nil) (hsp H hO hS)) fun r s' h=>?_
  cases r with
  |error e=>exact(hCX H e s' h).elim
  |ok fl=>
   cases fl with
   |next=>exact False.elim h
   |brk=>exact False.elim h
   |cont=>exact False.elim h
   |ret u=>
    obtain⟨v,H',os,bare,un,hok',r',q⟩:=h;have q':v = .bl true:=q;subst q';obtain rfl:u=Value.bool true:=r';refine#[rfl,OldK.of_keep fun b o e=>?_,os,bare];cases q:H b with
    |none=>exact un.keep b o e q (by intro z;exact absurd (show b∈([]:vL_) from z) (by simp)) (by simp)
    |some u=>
     rcases hO b with z | ⟨ob,xs,z⟩
     .rw[q] at z;cases z
     .have z2:=un.frzs b ob _ z;obtain⟨e1,_⟩:=hok b _ z;obtain⟨e2,_⟩:=hok' b _ z2;rw[e] at e1;cases e1;exact e2
 cases hk:K.lookup a with
 |some o=>
  have e:=KX a o hk;rw[ha] at e;cases e;refine Z (fun _=>none) (fun _=>.inl rfl) (.inr #[_,vs.toArray,_,hk,rfl,rfl,rfl,by rw[JY,lenV];exact hl,by simpa using rv]) (fun b u z=>by have z':(none:Option HO)=some u:=z;cases z') (fun b z=>absurd rfl z) fun z=>absurd rfl z
 |none=>
  refine Z (fun b=>if b=a then some (.frz { cls:=.type "list",data:=.seq vs.toArray } (.lst (ns.map V.int))) else none) (fun b=>?_) (.inl (.inr #[{ cls:=.type "list",data:=.seq vs.toArray },iO rfl])) (fun b u z=>?_) (fun b z=>?_) fun _=>hk
  .by_cases U:b=a
   .exact .inr #[_,_,iO U]
   .exact .inl (iR U)
  .by_cases U:b=a
   .have z':=(iO U).symm.trans z;cases z';subst U;exact#[ha,by rw[JR];exact hl,vs,_,rv,ha]
   .have z':=(iR U).symm.trans z;cases z'
  .by_cases U:b=a
   .exact U
   .exact absurd (iR U) z
def walk_of {l:PySem.W.OpenLaw}{n k:Nat}{d:DefRec}{K:Params->PySem.W.Frag}{CX:World->R9}{sp:World->Sp}
  (hn:l.most=some n) (hn2:n<=sizeLine) (hdf:d.params.defaults=[]) (hr:Room k callerA)
  (hY:∀(w:World) (h:Heap),YP w h->(K w.params).In h)
  (F:∀(w:World) (mg:vG_) (fa:Addr) (h:Heap),(K w.params).In h->h.Ns mainGlobals mg->mg d.name=some (.ref fa) ->
   ∃fd:FuncData,(∀(s:Shared) (u:Value),BindsTo s fd #[[u],[]] [(x,u)]) /\
    ∀base:Heap,(K w.params).In base->base.Ns mainGlobals mg->FnOk l.prog w (K w.params) mg base (CX w) k fa fd [x] (sp w))
  (hsp:∀(w:World) (H:Hp) (a:Addr) (ns:List Int),ns.length<=n->lO H->SqL (K w.params) H a (ns.map V.int)->sp w [.ref a] H (fun v _=>v = .bl true) fun _ _ _=>False)
  (hCX:∀(w:World) (H:Hp) (s:Shared) (e:Value) (s':Shared),CX w [] H s (fun _ _ _=>False) e s'->False) :
  PySem.W.WalkO q loose XP YP l.row.toRowW d [] (fun f vs=>PySem.call f vs):=by
 refine Att.attach_call hn hdf fun w s₀ s₁ mg mb fa o pm cd doc a vs ns G Y ho hd hcd Z U J B hg=>?_
 have KX:=hY w _ Y;obtain⟨fd,hb,hF⟩:=F w mg fa _ KX G.T.g Z;exact yJ KX G.T.g G.T.b G.T.builtins G.T.nolimit hg U J (JN B hn2) hr hF hb (fun H hO hS=>hsp w H a ns B hO hS) fun H e s'=>hCX w H s₁ e s'
def X4 (s:Stmt):Arguments:=match s with
 |.FunctionDef _ a _ _ _ _ _ _ _ _=>a
 |_=>{ posonlyargs:=[],args:=[],vararg:=none,kwonlyargs:=[],kw_defaults:=[],kwarg:=none,defaults:=[] }
def N6 (s:Stmt):List Stmt:=match s with
 |.FunctionDef _ _ b _ _ _ _ _ _ _=>b
 |_=>[]
def B8 (s:Stmt):Scope:=match s with
 |.FunctionDef _ _ _ _ _ _ sc _ _ _=>sc
 |_=>{ kind:=.function,names:=[],isGenerator:=false,isCoroutine:=false }
abbrev U9:R9:=fun _ _ _ _ _ _=>False
abbrev E0:XK:=fun _ _ _=>False
def Cu :lQ U9 X E0:=fun _ _ _ _ _ _ _ h=>h.elim
structure Fun (K:vF_) (x qual:Str) (st:Stmt) (f:Addr) (fd:FuncData):Prop where
 ex:∃(oc:Value) (od:vA_) (kV doc pm:Value) (an:vA_) (cdv ct:Value) (osl:vS_),
  fd=PySem.W.fnOf x qual (X4 st) (N6 st) (B8 st) .none kV doc pm an cdv ct/\K.lookup f=some #[oc,od,.func fd,osl]/\PySem.W.codeIn K cdv qual=true
 kp:PySem.W.keepIn K (.ref f)=true
section
variable {P:Program}{w:World}{K:vF_}
def Fun.ok {x qual:Str}{st:Stmt}{f:Addr}{fd:FuncData}{N ps:List Str}{k:Nat}{sp:Sp}(F:Fun K x qual st f fd) (S:FnScope N ps (B8 st)) (J:∀vs H Q E,sp vs H Q E->vs.length=ps.length)
  (B:∀(cdv:Value) (A:Around) (outer:List Env) (s:Shared) (H:Hp) (vs:List V) (Q:VK) (E:XK),Room k (A.deeper (envOfC qual (B8 st) s.heap.objs.size f cdv))->sp vs H Q E ->
   ∃t,PSs (O7 U9 P w K mg base N qual (B8 st) f cdv A outer s H E).nox (N6 st) t/\t { nx:=fun _ H'=>Q .non H',rt:=Q } (start N vs) H):FnOk P w K mg base U9 (k+1) f fd ps sp:=by
 refine gB_ fun G_ Z=>?_
 obtain⟨oc,od,kV,doc,pm,an,cdv,ct,osl,rfl,lk,U⟩:=F.ex;apply Z;refine we lk U S J fun A outer s H vs Q E hr Y=>?_
 obtain⟨t,h,q⟩:=B cdv A outer s H vs Q E hr Y;exact#[t,h.nox,q]
def Fun.binds {st:Stmt}{ps:List Str}(F:Fun K x qual st f fd)
  (h:∀(kV doc pm:Value) (an:vA_) (cdv ct:Value) (us:vV_),us.length=ps.length->bindArgs (PySem.W.fnOf x qual (X4 st) (N6 st) (B8 st) .none kV doc pm an cdv ct) #[us,[]]=pure (ps.zip us)):Binds K fd ps []:=by
 refine gB_ fun U B=>?_
 obtain⟨oc,od,kV,doc,pm,an,cdv,ct,osl,rfl,Y,J⟩:=F.ex;apply B;exact .all (h kV doc pm an cdv ct)
def ED {st:Stmt}{kV doc pm ct:Value}(l:K.lookup f=some #[oc,od,.func (PySem.W.fnOf x qual (X4 st) (N6 st) (B8 st) .none kV doc pm an cdv ct),osl])
  (c:PySem.W.codeIn K cdv qual=true) (k:PySem.W.keepIn K (.ref f)=true):Fun K x qual st f (PySem.W.fnOf x qual (X4 st) (N6 st) (B8 st) .none kV doc pm an cdv ct):=#[#[oc,od,kV,doc,pm,an,cdv,ct,osl,rfl,l,c],k]
end
def wO {k:Nat}(B:Room k A):A.units+1<cLine:=Ky (Nat.add_le_add_left (by decide:1<=64) _) B.units
def zg {n:Nat}(h:n<=1000):n<sizeLine:=Ky h #[]
def pv (i:Nat) {x:Str}{pos:Pos}(U:X.N[i]? = some x:=by rfl) (J:mD X.env.scope x:=by first | exact Or.inl rfl | exact Or.inr (Or.inl rfl) | exact Or.inr (Or.inr rfl)) (Y:(x == ("__debug__" : Str))=false:=by decide)
  (B:(x == ("__classdict__" : Str))=false:=by decide):PE X (.Name x pos) (W6 i):=Fx U J Y B
def vY {A B:Prop}(h:B):if false=true then A else B:=by
 rw[iR JQ];exact h
def sS {A B:Prop}(h:A):if true=true then A else B:=by
 rw[iO rfl];exact h
def B5 (X:Cx) (N':List Str) (scope:Scope) (cl:List (Str × Addr)) (C:Addr) (s0:Shared) (H0:Hp) (ex:vL_):Cx:=
 { X with N:=N',env:=compEnvC scope cl C X.env,s₀:=s0,H₀:=H0,outer:=X.stack,stack:=X.stack,ex:=ex,fn:=fun _=>false,pn:=[],xe:=fun _ _=>False }
def dF (X:Cx) (ifs:List Expr) (t:TT):Prop:=
 ∀(pins:vP_) (s:Shared) (σ:St) (H:Hp) (Q:Bool->Hp->Prop),Inv X pins σ H s->t σ H Q ->
  wpAny (model X.prog X.w) X.A (forIn ifs true fun c r=>if r=true then do let ok <-isTrue c X.env (eval c X.env);pure (ForInStep.yield ok) else pure (ForInStep.yield r)) (TP X pins σ Q) X.xe s
def Je:TT:=fun _ H Q=>Q true H
def zm :dF X [] Je:=fun pins s σ H Q I h=>wpAny_tests_nil #[H,I,h]
def Iv {c:Expr}{t:TT}(h:PT X c t):dF X [c] t:=fun pins s σ H Q I q=>wpAny_tests_one (h pins s σ H Q I q)
def F3 (n:Nat) (idx:List Nat) (σ:St):St:=List.replicate n none++idx.map fun i=>(σ[i]?).join
def cj (n:Nat) (idx:List Nat) (wi:TI) (g:TG) (tc:TT) (te:TE):TE:=fun σ H Q=>wi σ H fun J H1=>∀D,H1 D=none ->
 ∃W:Nat->Nat->Hp->Prop,(∃m,W 0 m (j5 H1 D (.lst [])))/\∀i m H,W i m H ->
  (J.stop i H/\Q (.ref D) H)\/(J.go i H/\∀x H',J.yld i H x H'->g x (F3 n idx σ) H' fun σ2 H2=>(σ2.length=(F3 n idx σ).length/\∀(j:Nat) (v:V),(F3 n idx σ)[j]? = some (some v)->σ2[j]? = some (some v))/\tc σ2 H2 fun b B=>
   if b=true then te σ2 B fun v U=>∃ys,U D=some (.lst ys)/\ys.length<sizeLine/\∃m',m'<m/\W (i+1) m' (j5 U D (.lst (ys++[v]))) else ∃m',m'<m/\W (i+1) m' B)
structure CompOk (X:Cx) (scope:Scope) (cl:List (Str × Addr)) (N':List Str) (n:Nat) (idx:List Nat):Prop where
 clos:closureFor scope X.env=pure cl
 sub:∀x c,cl.lookup x=some c->X.env.cells.lookup x=some c
 cell:∀y∈scope.names,y.2 ≠ .cell
 kind:scope.kind = .function
 names:∀y∈scope.names,y.2 = .local->scope.names.lookup y.1=some .local
 has:∀x,((relabel scope X.env).names.lookup x=some .cell\/(relabel scope X.env).names.lookup x=some .free)->∃c,cl.lookup x=some c
 len:N'.length=n+idx.length
 cap:∀(j i:Nat) (y:Str),idx[j]? = some i->N'[n+j]? = some y->X.N[i]? = some y/\(X.env.scope.names.lookup y=some .cell\/X.env.scope.names.lookup y=some .free)/\((relabel scope X.env).names.lookup y=some .cell\/(relabel scope X.env).names.lookup y=some .free)
section
variable {n:Nat}{pos:Pos}{wi:TI}{g:TG}
def Dc (σ:St):(F3 n idx σ).length=n+idx.length:=by simp[F3]
def Gx {v:V}(h:(F3 n idx σ)[j]? = some (some v)):∃k i,j=n+k/\idx[k]? = some i/\σ[i]? = some (some v):=by
 unfold F3 at h;by_cases B:j<n
 .rw[Lq (by simpa using B)] at h;simp[B] at h
 .rw[LM (by simpa using Na B)] at h;simp only[OM,KI] at h;refine#[j - n,?_];cases e:idx[j - n]? with
  |none=>rw[e] at h;simp at h
  |some i=>
   rw[e] at h;simp only[Nc,Kj] at h;exact#[i,by omega,rfl,by simpa using Option.join_eq_some_iff.mp h]
def JE (k:CompOk X scope cl N' n idx) {pins:vP_}{s2:Shared}{fp:vL_}{C:Addr}{h4:Heap}{t4:Nat}{m:vG_}(I:Inv X pins σ H2 s2) (f:∀b∈fp,R5 X pins H2 b) (fo:∀b∈fp,b<s2.heap.objs.size)
  (hC:s2.heap.objs.size+1<=C) (ns:h4.Ns C m) (J:∀b o,s2.heap.get? b=some o->h4.get? b=some o) (hD:h4.get? s2.heap.objs.size=some { cls:=.type "list",data:=.seq ([]:vV_).toArray }) :
  Inv (B5 X N' scope cl C s2 H2 fp) [] (F3 n idx σ) (j5 H2 s2.heap.objs.size (.lst [])) { s2 with heap:=h4,toks:=t4 }:=by
 have fresh:H2 s2.heap.objs.size=none:=I.hok.fresh (tx _);have fC:H2 C=none:=I.hok.fresh ∅;have B:∀x c,(B5 X N' scope cl C s2 H2 fp).env.cells.lookup x=some c->X.env.cells.lookup x=some c:=fun x c e=>k.sub x c e
 have Y:∀x c,X.env.cells.lookup x=some c->c<s2.heap.objs.size:=fun x c e=>by
  obtain⟨v,q⟩:=I.cell x c e;exact q.lt
 have ok:(B5 X N' scope cl C s2 H2 fp).Ok:={
  mod:=I.ok.mod
  kind:=k.kind
  glob:=I.ok.glob
  blt:=I.ok.blt
  above:=by show s2.heap.objs.size<=C;omega
  inj:=fun x y c e1 e2=>I.ok.inj x y c (B x c e1) (B y c e2)
  has:=fun x h=>k.has x h
  cab:=fun x c h _=>by cases h
  hd:=I.ok.hd
  frames:=I.ok.frames
  stk:=.inl rfl
  exf:=fun b Z=>#[Kc (JW (fo b Z) (by show s2.heap.objs.size<=C;omega)),fun x c e z=>(f b Z).2.2.2.2.1 x c (B x c e) z]
  bs:=fun b o e=>I.bs b o e
  bsz:=JN I.ok.bsz I.sz
  noex:=fun b o e Z=>by
   rcases(f b Z).2.2.2.1 with z | z
   .exact I.ok.noex b o e z
   .exact absurd (JW (xu e) (JN I.ok.bsz z)) (KA _)
  exfs:=fun b Z z=>by
   rcases xo.mp (I.stkSub b z) with y | y
   .exact(f b Z).2.1 y
   .exact(f b Z).2.2.1 y
  funs:=I.stack
  frf:=I.stkFree }
 refine#[ok,rfl,I.bare,Un.laid J (tx _) fresh,#[m,ns,fun j y v e1 e2 e3=>?_],fun x c e=>?_,?_,fun x c e=>?_,fun p hp=>(by cases hp),I.hok.laid J (tx _) #[Ko _,[],_,.nil,hD],?_]
 .obtain⟨kk,i,rfl,hk,hv⟩:=Gx e2;obtain⟨hN,ok,U⟩:=k.cap kk i y hk e1;obtain⟨c,hc⟩:=k.has y U;obtain⟨m0,_,hl⟩:=I.loc;have hc':=k.sub y c hc;obtain⟨u,r,l⟩:=hl i y v hN hv (by rcases ok with z | z;exact .inr (.inl z);exact .inr (.inr z));refine#[u,r,.inr #[U,c,hc,?_]];rcases l with ⟨z,_⟩ | ⟨_,c',e',q⟩
  .have z':X.env.scope.names.lookup y=some .local:=z;rcases ok with w | w <;> · rw[w] at z';cases z'
  .rw[hc'] at e';cases e';obtain⟨o,ho,hd⟩:=q;exact#[o,J _ o ho,hd]
 .obtain⟨v,q⟩:=I.cell x c (B x c e);obtain⟨o,ho,hd⟩:=q;exact#[v,o,J c o ho,hd]
 .show j5 H2 s2.heap.objs.size (.lst []) C=none;rw[m9 (Kw hC)];exact fC
 .have:=Y x c (B x c e);rw[m9 (Kc this)];exact I.freeC x c (B x c e)
 .rw[Dc,<-k.len];rfl
def yN {w:World}{R:Result->Shared->Prop}{pos:Pos}{it B:Value}(I:Nat->Shared->Prop)
  (J:∀n s,I n s->wpAny (model prog w) A (pyNext it) (fun r s1=>match r with
   |none=>R (.ok .next) s1
   |some v=>wpAny (model prog w) A (letOwnedTupleGo target it v) (fun _ s1'=>wpAny (model prog w) A (assign target env v) (fun _ s2=>
     wpAny (model prog w) A (forIn ifs true fun c r=>if r=true then do let ok <-isTrue c env (eval c env);pure (ForInStep.yield ok) else pure (ForInStep.yield r)) (fun ok s3=>
      if ok=true then wpAny (model prog w) A (eval elt env) (fun x s4=>
       wpAny (model prog w) A (call (.builtin "list.append") [B,x]) (fun _ s5=>∃m,m<n/\I m s5) (notedBy (model prog w) A env fun e s'=>R (.error e) s') s4) (notedBy (model prog w) A env fun e s'=>R (.error e) s') s3
      else ∃m,m<n/\I m s3) (notedBy (model prog w) A env fun e s'=>R (.error e) s') s2) (notedBy (model prog w) A env fun e s'=>R (.error e) s') s1') (notedBy (model prog w) A env fun e s'=>R (.error e) s') s1) (notedBy (model prog w) A env fun e s'=>R (.error e) s') s)
  (n:Nat) (h:I n s) :
  codeAny (model prog w) A (.compLoop (.ListComp elt [#[target,iter,ifs,0]] scope pos) 0 it B env) R s:=by
 refine codeAny_loop rfl I (fun n s hI=>?_) n h;show wpAny _ A ((compTurn (.ListComp elt [#[target,iter,ifs,0]] scope pos) 0 it B env).onRaise (fun x=>do noteFrame x env;theTreesLotGoes x)) _ _ s;refine wpAny_noted ?_;rw[compTurn_list];refine gV (LI (gV (JX (J n s hI) (fun r s₁ Y=>?_) fun _ _ h'=>h')));cases r with
 |none=>exact iU Y
 |some v=>
  refine gV (JX Y (fun _ s1' U=>?_) fun _ _ h'=>h');refine gV (JX U (fun _ s₂ h₂=>gV (JX h₂ (fun ok s₃ Z=>?_) fun _ _ h'=>h')) fun _ _ h'=>h');cases ok with
  |false=>exact iU #[rfl,Z]
  |true=>
   exact gV (gV (JX Z (fun x s₄ h₄=>gV (JX h₄ (fun _ s₅ h₅=>iU (iU #[rfl,h₅])) fun _ _ h'=>h')) fun _ _ h'=>h'))
end
section
variable {n:Nat}{pos:Pos}{wi:TI}{g:TG}
def tX {use:Option (Value->Sem Unit)}{Q':vQ_}(hc:X.calm=true) (k:CompOk X scope cl N' n idx) (hi:PI X tg iter wi)
  (hg:∀C s0 H0 ex,PG (B5 X N' scope cl C s0 H0 ex) tg g) (ht:∀C s0 H0 ex,dF (B5 X N' scope cl C s0 H0 ex) ifs tc) (he:∀C s0 H0 ex,PE (B5 X N' scope cl C s0 H0 ex) elt te)
  (hs:∀x,foldedSetIterable iter X.env x=pure x) {Q:VK}(I0:Inv X pins σ H s) (h:cj n idx wi g tc te σ H Q)
  (last:∀(C D:Addr) (s':Shared) (H':Hp) (m:vG_),Inv X pins σ H' s'->R5 X pins H' C->s'.heap.Ns C m->Q (.ref D) H'->compPost (model X.prog X.w) X.A X.xe use Q' (.ref D) C (.ok .next) s') :
  wpAny (model X.prog X.w) X.A (comprehension (.ListComp elt [#[tg,iter,ifs,0]] scope pos) scope X.env pos2 (newList []) false (eval iter X.env) use) Q' X.xe s:=by
 refine wpAny_comprehension_free (use:=use) rfl hs k.clos k.kind k.names (l6 (hi pins s σ H _ I0 h) fun v s1 h1=>l6 h1 fun itv s2 h2=>?_);obtain⟨it,fp,tn,J,H2,e,I2,T,st2,f2,hW⟩:=h2;subst e;have fo2:∀b∈fp,b<s2.heap.objs.size:=fun b U=>by
  obtain⟨o,e,_⟩:=T.obj _ _ st2 b U;exact xu e
 obtain⟨W,⟨m0,w0⟩,turn⟩:=hW s2.heap.objs.size (I2.hok.fresh (tx _));refine KH (wpAny_newFunctionEnv k.cell (by intro y hy;simp at hy) (fun h4 Y hsb4=>?_) k.kind)
 dsimp only at Y hsb4 ⊢
 generalize hH3:s2.heap.push { cls:=.type "list",dict:=none,data:=.seq ([]:vV_).toArray }=h3 at Y hsb4 ⊢;have Z:h3.objs.size=s2.heap.objs.size+1:=by rw[<-hH3,Lu]
 have k34:∀b o,b≠h3.objs.size->h3.get? b=some o->h4.get? b=some o:=fun b o nb e=>hsb4.extBut b o nb (JI _ e)
 have keep:∀b o,s2.heap.get? b=some o->h4.get? b=some o:=fun b o e=>k34 b o (Kc (by rw[Z];exact Nat.lt_succ_of_lt (xu e))) (by rw[<-hH3];exact JI _ e)
 have hD:h4.get? s2.heap.objs.size=some { cls:=.type "list",data:=.seq ([]:vV_).toArray }:=k34 _ _ (Kc (by rw[Z];exact Nat.lt_succ_self _)) (by rw[<-hH3];exact Kg _ rfl);have I4:=JE k I2 f2 fo2 (Nb Z.symm) Y keep hD (t4:=s2.toks+([]:List (Str × Value)).length);have stat:∀{H':Hp},(∀b∈fp,H' b=none)->∀b∈fp,R5 (B5 X N' scope cl h3.objs.size s2 H2 fp) [] H' b:=fun hn b U=>
  #[hn b U,Kc (by rw[Z];exact Nat.lt_succ_of_lt (fo2 b U)),fun z=>(xo.mp (I2.stkSub b z)).elim (f2 b U).2.1 (f2 b U).2.2.1,.inl U,fun x c e=>(f2 b U).2.2.2.2.1 x c (k.sub x c e),fun p hp=>(by cases hp)]
 have fr4:∀b∈fp,j5 H2 s2.heap.objs.size (.lst []) b=none:=fun b U=>by rw[m9 (Kc (fo2 b U))];exact(f2 b U).1
 have fin:∀(s':Shared) (H':Hp),Inv (B5 X N' scope cl h3.objs.size s2 H2 fp) [] (F3 n idx σ) H' s'->Q (.ref s2.heap.objs.size) H' ->
   compPost (model X.prog X.w) X.A X.xe use Q' (.ref s2.heap.objs.size) h3.objs.size (.ok .next) s':=fun s' H' I' q=>by
  obtain⟨m',hn',_⟩:=I'.loc;have B:=I'.base;refine last _ _ s' H' m' ?_ (I2.fpOk (by rw[Z];exact Mx _) I'.free) hn' q;refine I2.call' (s':=s') (ch:=fp) (show s'.os=s2.os from I'.os) #[fun b o e nn U hx=>B.keep b o e nn U hx,fun b o e nn U hx=>B.slot b o e nn U hx,B.free,fun b o e hx=>B.there b o e hx,B.tups,B.frzs,B.tbls] I'.hok I'.bare fun b U=>?_
  obtain⟨p1,p2,p3,p4,p5,p6⟩:=f2 b U;exact#[p4,p2,p5,p6]
 have loop:∀s4:Shared,s4={ s2 with heap:=h4,toks:=s2.toks+([]:List (Str × Value)).length } ->
   codeAny (model X.prog X.w) X.A (.compLoop (.ListComp elt [#[tg,iter,ifs,0]] scope pos) 0 (.ref it) (.ref s2.heap.objs.size) (compEnvC scope cl h3.objs.size X.env)) (compPost (model X.prog X.w) X.A X.xe use Q' (.ref s2.heap.objs.size) h3.objs.size) s4:=by
  rintro s4 rfl;refine yN (fun m s'=>∃i H',Inv (B5 X N' scope cl h3.objs.size s2 H2 fp) [] (F3 n idx σ) H' s'/\tn i s'.heap/\(∀b∈fp,H' b=none)/\W i m H') ?_ m0 #[0,_,I4,T.keep _ _ _ st2 (fun b _ o e=>keep b o e),fr4,w0];rintro m s3 ⟨i,H3,I3,st3,fr3,w3⟩;rcases turn i m H3 w3 with ⟨stop,q⟩ | ⟨go,step⟩
  .refine JX (T.done (B5 X N' scope cl h3.objs.size s2 H2 fp) rfl rfl rfl hc i [] s3 _ H3 (fun _ _=>False) I3 (stat fr3) st3 stop) (fun r s5 ⟨hr,I5⟩=>?_) fun _ _ z=>z.elim
   subst hr;exact fin s5 H3 I5 q
  .refine JX (T.item (B5 X N' scope cl h3.objs.size s2 H2 fp) rfl rfl rfl hc i [] s3 _ H3 (fun _ _=>False) I3 (stat fr3) st3 go) (fun r s5 ⟨u,hr,h5⟩=>?_) fun _ _ z=>z.elim
   subst hr;refine JX h5 (fun _ s6 ⟨x,H6,I6,r6,y6,st6,fr6⟩=>?_) fun _ _ z=>z.elim
   have I6':=I6.pinned (stat fr6) (T.obj _ _ st6);have again:∀{σ7:St}{H7:Hp}{s7:Shared},Inv (B5 X N' scope cl h3.objs.size s2 H2 fp) ([]++eY fp s6.heap) σ7 H7 s7->σ7.length=(F3 n idx σ).length->(∀(j:Nat) v,(F3 n idx σ)[j]? = some (some v)->σ7[j]? = some (some v))->(∃m',m'<m/\W (i+1) m' H7) ->
     ∃m',m'<m/\∃i H',Inv (B5 X N' scope cl h3.objs.size s2 H2 fp) [] (F3 n idx σ) H' s7/\tn i s7.heap/\(∀b∈fp,H' b=none)/\W i m' H':=fun {σ7 H7 s7} I7 hl hw ⟨m',hm,w7⟩=>by
    refine#[m',hm,i+1,H7,(I7.unpinned).weak hl.symm hw,T.keep _ _ _ st6 fun b U o e=>(I7.pin (b,o) (Kd _ (Kd _ (eS U e)))).1,fun b U=>?_,w7];obtain⟨o,e,d⟩:=T.obj _ _ st6 b U;exact(I7.pin (b,o) (Kd _ (Kd _ (eS U e)))).2.1
   refine JX (hg _ _ _ _ _ s6 _ H6 x u _ I6' r6 (step x H6 y6)) (fun _ s7 ⟨σ7,H7,I7,⟨hl,hw⟩,q7⟩=>?_) fun _ _ z=>z.elim
   refine JX (ht _ _ _ _ _ s7 σ7 H7 _ I7 q7) (fun ok s8 ⟨H8,I8,q8⟩=>?_) fun _ _ z=>z.elim
   cases ok with
   |false=>
    rw[iR JQ] at q8 ⊢;exact again I8 hl hw q8
   |true=>
    rw[iO rfl] at q8 ⊢;refine JX (he _ _ _ _ _ s8 σ7 H8 _ I8 q8) (fun v9 s9 ⟨x9,H9,I9,r9,ys,e9,l9,q9⟩=>?_) fun _ _ z=>z.elim
    refine JX (oY (X:=B5 X N' scope cl h3.objs.size s2 H2 fp) _ s9 σ7 H9 (.ref s2.heap.objs.size) [x9] (.ref s2.heap.objs.size) [v9] (fun _ H'=>H'=j5 H9 s2.heap.objs.size (.lst (ys++[x9]))) I9 rfl (.cons r9 .nil) #[s2.heap.objs.size,ys,x9,rfl,rfl,e9,l9,rfl]) (fun _ s10 ⟨_,H10,I10,_,e10⟩=>?_) fun _ _ z=>z.elim
    subst e10;exact again I10 hl hw q9
 exact codeAny_compStart_list (loop _ rfl) (T.self _ 0 _ _ _ (T.keep _ _ _ st2 (fun b _ o e=>keep b o e)) (loop _ rfl))
def oO (hc:X.calm=true) (k:CompOk X scope cl N' n idx) (hi:PI X tg iter wi)
  (hg:∀C s0 H0 ex,PG (B5 X N' scope cl C s0 H0 ex) tg g) (ht:∀C s0 H0 ex,dF (B5 X N' scope cl C s0 H0 ex) ifs tc) (he:∀C s0 H0 ex,PE (B5 X N' scope cl C s0 H0 ex) elt te)
  (Z:∀x,foldedSetIterable iter X.env x=pure x:=by intro _;rfl):PE X (.ListComp elt [#[tg,iter,ifs,0]] scope pos) (cj n idx wi g tc te):=by
 intro pins s σ H Q I0 h;rw[eval_ListComp];refine tX (use:=none) (Q':=EP X pins σ Q) hc k hi hg ht he Z I0 h ?_;intro C Y s' H' m IX B U q;exact#[m,U,fun h' J=>#[.ref Y,H',IX.turned (t':=s'.toks) (it:=C) (h':=h') (fun b o nb e=>(J.2 b nb).trans e) B.1 B.2.1 B.2.2.2.1 B.2.2.2.2.1 B.2.2.2.2.2,rfl,q]]
def Ic {i:Nat}{py B:Pos}(hN:X.N.Nodup) (hi':X.N[i]? = some y) (hx:W5 X.env.scope y) (hc:X.calm=true) (k:CompOk X scope cl N' n idx) (hi:PI X tg iter wi)
  (hg:∀C s0 H0 ex,PG (B5 X N' scope cl C s0 H0 ex) tg g) (ht:∀C s0 H0 ex,dF (B5 X N' scope cl C s0 H0 ex) ifs tc) (he:∀C s0 H0 ex,PE (B5 X N' scope cl C s0 H0 ex) elt te)
  (hs:∀x,foldedSetIterable iter X.env x=pure x:=by intro _;rfl) (U:swapsWith (.ListComp elt [#[tg,iter,ifs,0]] scope pos) (some (.Name y py)) B.line X.env=pure true:=by rfl)
  (hf:X.fn y=true\/X.env.scope.names.lookup y=some .local:=by first | exact .inl rfl | exact .inr rfl | assumption) :
  PS X (.Assign [.Name y py] (.ListComp elt [#[tg,iter,ifs,0]] scope pos) B) (fq (cj n idx wi g tc te) (V9 i)):=by
 intro pins s σ H D I h;rw[exec_Assign_Name_used _ _ _ _ U];refine gV (LI (gV ?_));show wpAny _ X.A (do let _ <-comprehension (.ListComp elt [#[tg,iter,ifs,0]] scope pos) scope X.env _ (newList []) false (eval iter X.env) (some (assign (.Name y py) X.env))) _ _ s;refine gV (JX (tX (use:=some (assign (.Name y py) X.env)) (Q':=fun _ s'=>SP X pins D .next s') hc k hi hg ht he hs I h ?_) (fun _ s' hq=>iU (iU hq)) fun _ _ e=>e);intro C D' s' H' m IX J hn q;show wpAny _ X.A (assign (.Name y py) X.env (.ref D')) _ _ _;obtain⟨o,es,ep,ho,hd,hr⟩:=hn;have IP:=IX.pinned (fp:=[C]) (fun b Y=>by rw[JK.mp Y];exact J) (fun b Y=>by rw[JK.mp Y];exact#[o,ho,fun v z=>by rw[hd] at z;cases z]);refine JX (U8 hN hi' hx hf _ s' σ H' (.ref D') (.ref D') D.nx IP rfl q) (fun _ Z ⟨σ2,H2,I2,q2⟩=>?_) fun _ _ e=>e
 have pn:=I2.pin (C,o) (Kd _ (Kd _ (eS (JK.mpr rfl) ho)));refine#[m,#[o,es,ep,pn.1,hd,hr],fun h' hsb=>#[σ2,H2,?_,q2]];have It:=I2.unpinned.turned (t':=Z.toks) (it:=C) (h':=h') (fun b o nb e=>(hsb.2 b nb).trans e) pn.2.1 J.2.1 J.2.2.2.1 J.2.2.2.2.1 J.2.2.2.2.2;exact It
end
end L2
namespace DL
open PySem PySem.Spec L2
def v3 {α β γ:Type}{o:Option (α × β)}{f:α × β->Option γ}{r:γ}(h:o.bind f=some r) (k:∀x y,o=some (x,y)->f (x,y)=some r->G):G:=by
 obtain⟨⟨x,y⟩,a,b⟩:=Lv.mp h;exact k x y a b
def V1 {α γ:Type}{o:Option α}{f:α->Option γ}{r:γ}(h:o.bind f=some r) (k:∀x,o=some x->f x=some r->G):G:=by
 obtain⟨x,a,b⟩:=Lv.mp h;exact k x a b
def mapP {α β γ:Type}{o:Option (α × β)}{f:α × β->γ}{r:γ}(h:o.map f=some r) (k:∀x y,o=some (x,y)->f (x,y)=r->G):G:=by
 obtain⟨⟨x,y⟩,a,b⟩:=Mw.mp h;exact k x y a b
def M6 {α γ:Type}{o:Option α}{f:α->γ}{r:γ}(h:o.map f=some r) (k:∀x,o=some x->f x=r->G):G:=by
 obtain⟨x,a,b⟩:=Mw.mp h;exact k x a b
inductive D where
 | non | bl (b:Bool) | int (i:Int) | str (x:Str) | tup (ds:List D) | lst (ds:List D)
 | feed | scr (ns:List Int) | fn (x:Str) | exc (c:Str) (ds:List D)
variable {d y:D}{p':D->D->Option D}
abbrev vD_:=List D
variable {ds:vD_}
mutual
def D.py:D->PyData
 |.non=>.none
 |.bl b=>.bool b
 |.int i=>.int i
 |.str x=>.str x
 |.tup ds=>.tuple (D.pys ds)
 |.lst ds=>.list (D.pys ds)
 |.feed=>.none
 |.scr _=>.none
 |.fn _=>.none
 |.exc _ _=>.none
def D.pys:List D->List PyData
 |[]=>[]
 |d::r=>D.py d::D.pys r
end
mutual
def D.plain:D->Bool
 |.non=>true
 |.bl _=>true
 |.int _=>true
 |.str _=>true
 |.tup ds=>D.plains ds
 |.lst ds=>D.plains ds
 |.feed=>false
 |.scr _=>false
 |.fn _=>false
 |.exc _ _=>false
def D.plains:List D->Bool
 |[]=>true
 |d::r=>D.plain d&&D.plains r
end
structure FS where
 cells:List Int
 pos:Int
 left:Int
 turn:Int
 kind:Nat
abbrev vO_:=Option FS
variable {fs':vO_}
def Az (c:Addr) (f:FS):List V:=if f.kind=1 then [V.ref c,V.int f.pos,V.int f.left] else [V.ref c,V.int f.pos,V.int f.left,V.int f.turn]
def cO (c:Addr) (f:FS):HO:=if f.kind=0 then .dK [(Sum.inr ("cells" : Str),V.ref c),(Sum.inr ("at" : Str),V.int f.pos),(Sum.inr ("left" : Str),V.int f.left),(Sum.inr ("turn" : Str),V.int f.turn)] else .lst (Az c f)
def kJ {c:Addr}{f:FS}(h:f.kind=0):cO c f = .dK [(Sum.inr ("cells" : Str),V.ref c),(Sum.inr ("at" : Str),V.int f.pos),(Sum.inr ("left" : Str),V.int f.left),(Sum.inr ("turn" : Str),V.int f.turn)]:=iO h
def zd {c:Addr}{f:FS}(h:cO c f = .tup xs):False:=by unfold cO at h;split at h <;> cases h
def EH {c:Addr}{f:FS}{o:Obj}{u:HO}(h:cO c f = .frz o u):False:=by unfold cO at h;split at h <;> cases h
def FeedR (N:vB_) (H:Hp):Option Addr->Option FS->Prop
 |none,none=>True
 |some a,some f=>f.cells.length<=63/\∃c,H a=some (cO c f)/\¬ N c/\H c=some (.lst (f.cells.map V.int))
 |_,_=>False
def SqF (K:vF_) (H:Hp) (a:Addr) (xs:List V):Prop:=
 (∃o,H a=some (.frz o (.lst xs))) \/
  ∃(o:Obj) (its:vR_) (n:Nat),K.lookup a=some o/\o.cls = .type "list" /\ o.dict=none/\o.data = .seq its n/\its.size<=sizeLine/\Vals xs its.toList
def SqF.sq {K:vF_}(h:SqF K H a xs):SqL K H a xs:=by
 rcases h with ⟨o,h⟩ | h
 .exact .inl (.inr #[o,h])
 .exact .inr h
def fnm:List Str:=["word", "at"]
def ExO (H:Hp) (a C:Addr) (xs:List V):Prop:=∃o,H a=some (.frz o (.own a))/\o.cls = .ref C/\(∃vs,o.data = .fields vs)/\xs.length<=2/\(xs=[]\/∃dx od,o.dict=some dx/\H dx=some (.frz od (.xd (fnm.zip xs))))
mutual
def Rep (K:vF_) (N:vB_) (fa:vA_) (H:Hp):D->V->Prop
 |.non,v=>v = .non
 |.bl b,v=>v = .bl b
 |.int i,v=>v = .int i
 |.str x,v=>v = .str x/\x.length<=sizeLine
 |.tup ds,v=>∃a xs,v = .ref a/\SqT K H a xs/\Reps K N fa H ds xs
 |.lst ds,v=>∃a xs,v = .ref a/\¬ N a/\H a=some (.lst xs)/\Reps K N fa H ds xs
 |.feed,v=>∃a,fa=some a/\v = .ref a
 |.scr ns,v=>ns.length<=63/\∃a,v = .ref a/\SqF K H a (ns.map V.int)
 |.fn x,v=>∃a,v = .ref a/\PySem.W.nsIn K mainGlobals x=some (some (.ref a))
 |.exc c ds,v=>∃a C xs,v = .ref a/\PySem.W.nsIn K mainGlobals c=some (some (.ref C))/\ExO H a C xs/\Reps K N fa H ds xs
def Reps (K:vF_) (N:vB_) (fa:vA_) (H:Hp):List D->List V->Prop
 |[],xs=>xs=[]
 |d::r,xs=>∃x ys,xs=x::ys/\Rep K N fa H d x/\Reps K N fa H r ys
end
def RepB (K:vF_) (N:vB_) (fa:vA_) (H:Hp):D->V->Prop
 |.lst ds,v=>∃a xs,v = .ref a/\fa≠some a/\H a=some (.lst xs)/\Reps K N fa H ds xs
 |d,v=>Rep K N fa H d v
def Y2 (K:vF_) (N:vB_) (fa:vA_) (H:Hp):List D->List V->Prop
 |[],xs=>xs=[]
 |d::r,xs=>∃x ys,xs=x::ys/\RepB K N fa H d x/\Y2 K N fa H r ys
def uT (K:vF_) (H:Hp) (a:Addr):Sum (List V) (Obj × HO)->Prop
 |.inl xs=>SqF K H a xs
 |.inr p=>H a=some (.frz p.1 p.2)
structure Car (K:vF_) (N:vB_) (fa:vA_) (H:Hp) (N':vB_) (fa':vA_) (H':Hp):Prop where
 ls:∀b xs,¬ N b->H b=some (.lst xs)->H' b=some (.lst xs)/\¬ N' b
 tp:∀b xs,SqT K H b xs->SqT K H' b xs
 fz:∀b xs,uT K H b xs->uT K H' b xs
 fe:∀a,fa=some a->fa'=some a
section
variable {K:vF_}{N':vB_}
def ExO.go (c:Car K N fa H N' fa' H') (h:ExO H a C xs):ExO H' a C xs:=by
 obtain⟨o,e,q,r,l,z⟩:=h;refine#[o,c.fz a (.inr (o,_)) e,q,r,l,z.imp id ?_];rintro⟨dx,od,y,w⟩;exact#[dx,od,y,c.fz dx (.inr (od,_)) w]
mutual
theorem Rep.go (c:Car K N fa H N' fa' H'):∀(d:D) (v:V),Rep K N fa H d v->Rep K N' fa' H' d v
 |.non,v,h=>by simpa only[Rep] using h
 |.bl b,v,h=>by simpa only[Rep] using h
 |.int i,v,h=>by simpa only[Rep] using h
 |.str x,v,h=>by simpa only[Rep] using h
 |.tup ds,v,h=>by
  simp only[Rep] at h ⊢;obtain⟨a,xs,e,q,r⟩:=h;exact#[a,xs,e,c.tp a xs q,Reps.go c ds xs r]
 |.lst ds,v,h=>by
  simp only[Rep] at h ⊢;obtain⟨a,xs,e,n,q,r⟩:=h;obtain⟨B,J⟩:=c.ls a xs n q;exact#[a,xs,e,J,B,Reps.go c ds xs r]
 |.feed,v,h=>by
  simp only[Rep] at h ⊢;obtain⟨a,e,q⟩:=h;exact#[a,c.fe a e,q]
 |.scr ns,v,h=>by
  simp only[Rep] at h ⊢;obtain⟨l,a,e,q⟩:=h;exact#[l,a,e,c.fz a (.inl _) q]
 |.fn x,v,h=>by simpa only[Rep] using h
 |.exc x ds,v,h=>by
  simp only[Rep] at h ⊢;obtain⟨a,C,xs,e,n,q,r⟩:=h;exact#[a,C,xs,e,n,q.go c,Reps.go c ds xs r]
theorem Reps.go (c:Car K N fa H N' fa' H'):∀(ds:vD_) (xs:List V),Reps K N fa H ds xs->Reps K N' fa' H' ds xs
 |[],xs,h=>by simpa only[Reps] using h
 |d::r,xs,h=>by
  simp only[Reps] at h ⊢;obtain⟨x,ys,e,h1,h2⟩:=h;exact#[x,ys,e,Rep.go c d x h1,Reps.go c r ys h2]
end
def Rep.b (B:∀a,fa=some a->N a) {v:V}(h:Rep K N fa H d v):RepB K N fa H d v:=by
 cases d with
 |lst ds=>
  simp only[Rep] at h;obtain⟨a,xs,e,n,q,r⟩:=h;exact#[a,xs,e,fun z=>n (B a z),q,r]
 |_=>simpa only[RepB] using h
def W7 (K:vF_) (N:vB_) (fa:vA_) (H:Hp):D->V->Prop
 |.lst ds,v=>∃a xs,v = .ref a/\H a=some (.lst xs)/\Reps K N fa H ds xs
 |d,v=>Rep K N fa H d v
def Rep.o {v:V}(h:Rep K N fa H d v):W7 K N fa H d v:=by
 cases d with
 |lst ds=>
  simp only[Rep] at h;obtain⟨a,xs,e,_,q,r⟩:=h;exact#[a,xs,e,q,r]
 |_=>simpa only[W7] using h
def RepB.o {v:V}(h:RepB K N fa H d v):W7 K N fa H d v:=by
 cases d with
 |lst ds=>
  obtain⟨a,xs,e,_,q,r⟩:=h;exact#[a,xs,e,q,r]
 |_=>simpa only[W7,RepB] using h
theorem Reps.length:∀{ds:vD_}{xs:List V},Reps K N fa H ds xs->xs.length=ds.length
 |[],xs,h=>by simp only[Reps] at h;subst h;rfl
 |d::r,xs,h=>by
  simp only[Reps] at h;obtain⟨x,ys,e,h1,h2⟩:=h;subst e;simp[Reps.length h2]
theorem Reps.get:∀{ds:vD_}{xs:List V}{i:Nat}{d:D},Reps K N fa H ds xs->ds[i]? = some d->∃x,xs[i]? = some x/\Rep K N fa H d x
 |[],xs,i,d,h,e=>by simp at e
 |d::r,xs,0,d',h,e=>by
  simp only[Reps] at h;obtain⟨x,ys,B,h1,h2⟩:=h;simp at e;subst B;subst e;exact#[x,rfl,h1]
 |d::r,xs,i+1,d',h,e=>by
  simp only[Reps] at h;obtain⟨x,ys,B,h1,h2⟩:=h;subst B;obtain⟨y,J,U⟩:=Reps.get h2 (by simpa using e);exact#[y,by simpa using J,U]
def Reps.get':∀{ds:vD_}{xs:List V}{i:Nat}{x:V},Reps K N fa H ds xs->xs[i]? = some x->∃d,ds[i]? = some d/\Rep K N fa H d x:=fun {ds xs i x} h e=>by
 have U:=h.length;have hi:i<xs.length:=(Kr.mp e).1;obtain⟨y,B,J⟩:=Reps.get h (Kf (show i<ds.length by omega));rw[e] at B;cases B;exact#[_,Kf (show i<ds.length by omega),J]
theorem Reps.append:∀{ds es:vD_}{xs ys:List V},Reps K N fa H ds xs->Reps K N fa H es ys->Reps K N fa H (ds++es) (xs++ys)
 |[],es,xs,ys,h,q=>by simp only[Reps] at h;subst h;simpa using q
 |d::r,es,xs,ys,h,q=>by
  simp only[Reps] at h;obtain⟨x,zs,B,h1,h2⟩:=h;subst B;simp only[My,Reps];exact#[x,_,rfl,h1,Reps.append h2 q]
def Reps.one {x:V}(h:Rep K N fa H d x):Reps K N fa H [d] [x]:=by
 simp only[Reps];exact#[x,[],rfl,h,rfl]
def Reps.nil:Reps K N fa H [] []:=by simp only[Reps]
theorem Reps.take:∀{ds:vD_}{xs:List V}(n:Nat),Reps K N fa H ds xs->Reps K N fa H (ds.take n) (xs.take n)
 |_,_,0,_=>by simp only[List.take_zero,Reps]
 |[],xs,n+1,h=>by simp only[Reps] at h;subst h;simp only[List.take_nil,Reps]
 |d::r,xs,n+1,h=>by
  simp only[Reps] at h;obtain⟨x,zs,B,h1,h2⟩:=h;subst B;simp only[List.take_succ_cons,Reps];exact#[x,_,rfl,h1,Reps.take n h2]
theorem Reps.drop:∀{ds:vD_}{xs:List V}(n:Nat),Reps K N fa H ds xs->Reps K N fa H (ds.drop n) (xs.drop n)
 |_,_,0,h=>by simpa using h
 |[],xs,n+1,h=>by simp only[Reps] at h;subst h;simp only[List.drop_nil,Reps]
 |d::r,xs,n+1,h=>by
  simp only[Reps] at h;obtain⟨x,zs,B,h1,h2⟩:=h;subst B;simpa using Reps.drop n h2
theorem Reps.ints:∀{ns:List Int},Reps K N fa H (ns.map D.int) (ns.map V.int)
 |[]=>by simp only[KJ,Reps]
 |n::r=>by
  simp only[JS,Reps,Rep];exact#[_,_,rfl,rfl,Reps.ints]
theorem Reps.reverse:∀{ds:vD_}{xs:List V},Reps K N fa H ds xs->Reps K N fa H ds.reverse xs.reverse
 |[],xs,h=>by simp only[Reps] at h;subst h;simp only[List.reverse_nil,Reps]
 |d::r,xs,h=>by
  simp only[Reps] at h;obtain⟨x,zs,B,h1,h2⟩:=h;subst B;simp only[Ls];exact Reps.append (Reps.reverse h2) (Reps.one h1)
end
inductive Sl where
 | no | v (d:D) | own (ds:vD_)
variable {sl:List Sl}{mk:List Sl->D->Option (List Sl)}
structure DS where
 sl:List Sl
 fs:Option FS
variable {s1 s2:DS}
def NN (F:vB_) (fa:vA_) (O:vL_):Addr->Prop:=fun b=>F b\/b∈O\/fa=some b
def SlR (K:vF_) (N:vB_) (fa:vA_) (H:Hp):List Sl->List (Option V)->List Addr->Prop
 |[],σ,O=>σ=[]/\O=[]
 |.no::r,σ,O=>∃v τ,σ=v::τ/\SlR K N fa H r τ O
 |.v d::r,σ,O=>∃u τ,σ=some u::τ/\Rep K N fa H d u/\SlR K N fa H r τ O
 |.own ds::r,σ,O=>∃a xs τ P,σ=some (.ref a)::τ/\O=a::P/\H a=some (.lst xs)/\Reps K N fa H ds xs/\SlR K N fa H r τ P
structure Stp (fa:vA_) (O:vL_) (H:Hp) (fa':vA_) (O':vL_) (H':Hp):Prop where
 sub:∀b∈O',b∈O\/H b=none
 fe:fa'=fa\/(fa=none/\∀a,fa'=some a->H a=none)
 same:∀b u,H b=some u->b ∉ O->fa≠some b->H' b=some u
 mon:∀b,H' b=none->H b=none
structure StE (fa:vA_) (O:vL_) (H:Hp) (fa':vA_) (O':vL_) (H':Hp):Prop where
 sub:∀b∈O',b∈O
 fe:fa'=fa\/(fa=none/\∀a,fa'=some a->H a=none)
 same:∀b u,H b=some u->fa≠some b->H' b=some u
 mon:∀b,H' b=none->H b=none
structure DI (K:vF_) (F:vB_) (H0:Hp) (fa0:vA_) (σ:St) (H:Hp) (fa:vA_) (O:vL_) (s:DS):Prop where
 nd:O.Nodup
 sl:SlR K (NN F fa O) fa H s.sl σ O
 fr:∀b∈O,H0 b=none
 st:Stp fa0 [] H0 fa [] H
 tr:∀b,F b->H0 b≠none
 ff:∀a,fa0=some a->F a
 fd:FeedR (NN F fa O) H fa s.fs
 nf:∀a,fa=some a->a ∉ O
section
variable {fa'':vA_}{O' O'':vL_}{H'':Hp}
def StE.stp (h:StE fa O H fa' O' H'):Stp fa O H fa' O' H':=#[fun b B=>.inl (h.sub b B),h.fe,fun b u e _ n=>h.same b u e n,h.mon]
def StE.refl:StE fa O H fa O H:=#[fun _ h=>h,.inl rfl,fun _ _ e _=>e,fun _ h=>h]
theorem Stp.refl:Stp fa O H fa O H:=StE.refl.stp
theorem StE.trans (a:StE fa O H fa' O' H') (b:StE fa' O' H' fa'' O'' H''):StE fa O H fa'' O'' H'':=by
 refine#[fun c B=>a.sub c (b.sub c B),?_,fun c u e n=>?_,fun c h=>a.mon c (b.mon c h)]
 .rcases a.fe with e | ⟨e,h⟩
  .rcases b.fe with e' | ⟨e',h'⟩
   .exact .inl (e'.trans e)
   .exact .inr #[e▸e',fun c z=>a.mon c (h' c z)]
  .rcases b.fe with e' | ⟨e',h'⟩
   .exact .inr #[e,fun c z=>h c (e'▸z)]
   .exact .inr #[e,fun c z=>a.mon c (h' c z)]
 .refine b.same c u (a.same c u e n) fun z=>?_
  rcases a.fe with q | ⟨q,h⟩
  .rw[q] at z;exact n z
  .rw[h c z] at e;cases e
theorem Stp.trans (a:Stp fa O H fa' O' H') (b:Stp fa' O' H' fa'' O'' H''):Stp fa O H fa'' O'' H'':=by
 refine#[fun c B=>?_,?_,fun c u e B n=>?_,fun c h=>a.mon c (b.mon c h)]
 .rcases b.sub c B with q | q
  .exact a.sub c q
  .exact .inr (a.mon c q)
 .rcases a.fe with e | ⟨e,h⟩
  .rcases b.fe with e' | ⟨e',h'⟩
   .exact .inl (e'.trans e)
   .exact .inr #[e▸e',fun c z=>a.mon c (h' c z)]
  .rcases b.fe with e' | ⟨e',h'⟩
   .exact .inr #[e,fun c z=>h c (e'▸z)]
   .exact .inr #[e,fun c z=>a.mon c (h' c z)]
 .refine b.same c u (a.same c u e B n) (fun z=>?_) fun z=>?_
  .rcases a.sub c z with q | q
   .exact B q
   .rw[q] at e;cases e
  .rcases a.fe with q | ⟨q,h⟩
   .rw[q] at z;exact n z
   .rw[h c z] at e;cases e
def Stp.fa_keep (a:Stp fa O H fa' O' H') {x:Addr}(h:fa=some x):fa'=some x:=by
 rcases a.fe with e | ⟨e,_⟩
 .rw[e,h]
 .rw[h] at e;cases e
variable {K:vF_}{F:vB_}{H0:Hp}{fa0:vA_}{s:DS}
def FeedR.no_frz {fs:vO_}{o:Obj}{u:HO}(h:FeedR N H fa fs) (e:fa=some a) (q:H a=some (.frz o u)):False:=by
 subst e;cases fs with
 |none=>exact h
 |some f=>
  obtain⟨_,c,h1,_⟩:=h;rw[h1] at q;exact EH (Kb q)
def FeedR.no_tup {fs:vO_}(h:FeedR N H fa fs) (e:fa=some a) (z:Rd H a (.tup xs)):False:=by
 rcases z with z | ⟨o,z⟩
 .subst e;cases fs with
  |none=>exact h
  |some f=>
   obtain⟨_,c,h1,_⟩:=h;rw[h1] at z;exact zd (Kb z)
 .exact h.no_frz e z
def FeedR.tracked {fs:vO_}(h:FeedR N H fa fs) (e:fa=some a):H a≠none:=by
 subst e;cases fs with
 |none=>exact h.elim
 |some f=>
  obtain⟨_,c,h1,_⟩:=h;rw[h1];simp
def SqT.stp' (a:Stp fa O H fa' O' H') (U:∀x,fa=some x->∀xs,¬ Rd H x (.tup xs)) (Y:∀x∈O,∀xs,¬ Rd H x (.tup xs)) {b:Addr}(h:SqT K H b xs):SqT K H' b xs:=by
 rcases h with h | h
 .refine .inl ?_;have J:b ∉ O:=fun z=>Y b z xs h
  have B:fa≠some b:=fun z=>U b z xs h
  rcases h with h | ⟨o,h⟩
  .exact .inl (a.same _ _ h J B)
  .exact .inr #[o,a.same _ _ h J B]
 .exact .inr h
theorem SlR.owned:∀{sl:List Sl}{N:vB_}{σ:List (Option V)}{O:vL_},SlR K N fa H sl σ O->∀b∈O,∃xs,H b=some (.lst xs)
 |[],N,σ,O,h,b,hb=>by simp only[SlR] at h;rw[h.2] at hb;cases hb
 |.no::r,N,σ,O,h,b,hb=>by
  simp only[SlR] at h;obtain⟨v,τ,_,h⟩:=h;exact SlR.owned h b hb
 |.v d::r,N,σ,O,h,b,hb=>by
  simp only[SlR] at h;obtain⟨v,τ,_,_,h⟩:=h;exact SlR.owned h b hb
 |.own ds::r,N,σ,O,h,b,hb=>by
  simp only[SlR] at h;obtain⟨a,xs,τ,P,_,rfl,e,_,h⟩:=h;rcases xo.mp hb with z | z
  .subst z;exact#[xs,e]
  .exact SlR.owned h b z
theorem DI.owned (I:DI K F H0 fa0 σ H fa O s) {b:Addr}(B:b∈O):∃xs,H b=some (.lst xs):=SlR.owned I.sl b B
def DI.trF (I:DI K F H0 fa0 σ H fa O s) {b:Addr}(B:F b):H b≠none:=fun z=>I.tr b B (I.st.mon b z)
def DI.nn_tracked (I:DI K F H0 fa0 σ H fa O s) {b:Addr}(h:NN F fa O b):H b≠none:=by
 rcases h with h | h | h
 .exact I.trF h
 .obtain⟨xs,e⟩:=I.owned h;rw[e];simp
 .exact I.fd.tracked h
def DI.nf_step (I:DI K F H0 fa0 σ H fa O s) (h:fa'=fa\/(fa=none/\∀a,fa'=some a->H a=none)):∀a,fa'=some a->a ∉ O:=fun a e m=>by
 rcases h with z | ⟨z,y⟩
 .rw[z] at e;exact I.nf a e m
 .obtain⟨xs,q⟩:=I.owned m;rw[y a e] at q;cases q
def DI.car (I:DI K F H0 fa0 σ H fa O s) (a:Stp fa O H fa' O' H'):Car K (NN F fa O) fa H (NN F fa' O') fa' H':=by
 have Z:∀x xs,H x=some (.lst xs)->∀ys,¬ Rd H x (.tup ys):=fun x xs e ys z=>by
  rcases z with z | ⟨o,z⟩ <;> · rw[e] at z;cases z
 refine#[fun b xs n q=>?_,fun b xs q=>?_,fun b xs q=>?_,fun x e=>a.fa_keep e]
 .have Y:b ∉ O:=fun z=>n (.inr (.inl z))
  have U:fa≠some b:=fun z=>n (.inr (.inr z))
  have B:H b≠none:=by rw[q];simp
  refine#[a.same _ _ q Y U,fun z=>?_]
  .rcases z with z | z | z
   .exact n (.inl z)
   .rcases a.sub b z with y | y
    .exact Y y
    .exact B y
   .rcases a.fe with e | ⟨e,h⟩
    .rw[e] at z;exact U z
    .exact B (h b z)
 .refine SqT.stp' a (fun x e ys z=>?_) (fun x hx ys=>?_) q
  .exact I.fd.no_tup e z
  .obtain⟨xs,e⟩:=I.owned hx;exact Z x xs e ys
 .have J:∀o u,H b=some (.frz o u)->H' b=some (.frz o u):=fun o u q=>by
   refine a.same _ _ q (fun z=>?_) fun z=>?_
   .obtain⟨ys,e⟩:=I.owned z;rw[e] at q;cases q
   .exact I.fd.no_frz z q
  cases xs with
  |inl xs=>exact q.imp (fun ⟨o,q⟩=>#[o,J _ _ q]) id
  |inr p=>exact J _ _ q
end
structure Gh where
 F:Addr->Prop
 H0:Hp
 fa0:Option Addr
 xq:L2.St->XK
variable {g:Gh}
abbrev GI (K:vF_) (g:Gh):=DI K g.F g.H0 g.fa0
section
variable {K:vF_}{N':vB_}{σ:L2.St}{O':vL_}{s:DS}
theorem SlR.go (c:Car K N fa H N' fa' H'):∀{sl:List Sl}{σ:List (Option V)}{O:vL_},(∀a xs,a∈O->H a=some (.lst xs)->H' a=some (.lst xs))->SlR K N fa H sl σ O->SlR K N' fa' H' sl σ O
 |[],σ,O,_,h=>by simpa only[SlR] using h
 |.no::r,σ,O,ho,h=>by
  simp only[SlR] at h ⊢;obtain⟨v,τ,e,h⟩:=h;exact#[v,τ,e,SlR.go c ho h]
 |.v d::r,σ,O,ho,h=>by
  simp only[SlR] at h ⊢;obtain⟨u,τ,e,q,h⟩:=h;exact#[u,τ,e,Rep.go c d u q,SlR.go c ho h]
 |.own ds::r,σ,O,ho,h=>by
  simp only[SlR] at h ⊢;obtain⟨a,xs,τ,P,e,rfl,B,q,h⟩:=h;exact#[a,xs,τ,P,e,rfl,ho a xs (JL ..) B,Reps.go c ds xs q,SlR.go c (fun b ys J=>ho b ys (JH _ J)) h]
theorem SlR.val:∀{sl:List Sl}{σ:List (Option V)}{O:vL_}{i:Nat}{d:D},SlR K N fa H sl σ O->sl[i]? = some (.v d)->∃u,σ[i]? = some (some u)/\Rep K N fa H d u
 |[],σ,O,i,d,h,e=>by simp at e
 |.no::r,σ,O,i,d,h,e=>by
  simp only[SlR] at h;obtain⟨v,τ,rfl,h⟩:=h;cases i with
  |zero=>simp at e
  |succ i=>simpa using SlR.val h (by simpa using e)
 |.v d'::r,σ,O,i,d,h,e=>by
  simp only[SlR] at h;obtain⟨u,τ,rfl,q,h⟩:=h;cases i with
  |zero=>simp at e;subst e;exact#[u,rfl,q]
  |succ i=>simpa using SlR.val h (by simpa using e)
 |.own ds::r,σ,O,i,d,h,e=>by
  simp only[SlR] at h;obtain⟨a,xs,τ,P,rfl,rfl,B,q,h⟩:=h;cases i with
  |zero=>simp at e
  |succ i=>simpa using SlR.val h (by simpa using e)
theorem SlR.own:∀{sl:List Sl}{σ:List (Option V)}{O:vL_}{i:Nat}{ds:vD_},SlR K N fa H sl σ O->sl[i]? = some (.own ds)->∃a xs,σ[i]? = some (some (.ref a))/\a∈O/\H a=some (.lst xs)/\Reps K N fa H ds xs
 |[],σ,O,i,d,h,e=>by simp at e
 |.no::r,σ,O,i,d,h,e=>by
  simp only[SlR] at h;obtain⟨v,τ,rfl,h⟩:=h;cases i with
  |zero=>simp at e
  |succ i=>simpa using SlR.own h (by simpa using e)
 |.v d'::r,σ,O,i,d,h,e=>by
  simp only[SlR] at h;obtain⟨u,τ,rfl,q,h⟩:=h;cases i with
  |zero=>simp at e
  |succ i=>simpa using SlR.own h (by simpa using e)
 |.own ds::r,σ,O,i,d,h,e=>by
  simp only[SlR] at h;obtain⟨a,xs,τ,P,rfl,rfl,J,q,h⟩:=h;cases i with
  |zero=>simp at e;subst e;exact#[a,xs,rfl,JL ..,J,q]
  |succ i=>
   obtain⟨b,ys,U,m,B,Y⟩:=SlR.own h (by simpa using e);exact#[b,ys,by simpa using U,JH _ m,B,Y]
theorem SlR.len:∀{sl:List Sl}{σ:List (Option V)}{O:vL_},SlR K N fa H sl σ O->σ.length=sl.length
 |[],σ,O,h=>by simp only[SlR] at h;rw[h.1];rfl
 |.no::r,σ,O,h=>by
  simp only[SlR] at h;obtain⟨v,τ,rfl,h⟩:=h;simp[SlR.len h]
 |.v d'::r,σ,O,h=>by
  simp only[SlR] at h;obtain⟨u,τ,rfl,q,h⟩:=h;simp[SlR.len h]
 |.own ds::r,σ,O,h=>by
  simp only[SlR] at h;obtain⟨a,xs,τ,P,rfl,rfl,B,q,h⟩:=h;simp[SlR.len h]
theorem SlR.put:∀{sl:List Sl}{σ:List (Option V)}{O:vL_}(i:Nat) {d:D}{u:V},SlR K N fa H sl σ O->Rep K N fa H d u ->
  ∃P,P.Sublist O/\SlR K N fa H (sl.set i (.v d)) (σ.set i (some u)) P/\(O.Nodup->∀a,sl[i]?.isSome=true->(∃ds,sl[i]? = some (.own ds))->σ[i]? = some (some (.ref a))->a ∉ P)
 |[],σ,O,i,d,u,h,q=>by
  simp only[SlR] at h;refine#[O,Nd _,?_,fun _ a z=>by simp at z];rw[h.1,h.2];simp[SlR]
 |.no::r,σ,O,i,d,u,h,q=>by
  simp only[SlR] at h;obtain⟨v,τ,rfl,h⟩:=h;cases i with
  |zero=>exact#[O,Nd _,by simp only[Lw,SlR];exact#[u,τ,rfl,q,h],fun _ a _ z=>by obtain⟨ds,z⟩:=z;simp at z]
  |succ i=>
   obtain⟨P,B,h1,h2⟩:=SlR.put i h q;exact#[P,B,by simp only[KQ,SlR];exact#[v,_,rfl,h1],by simpa using h2]
 |.v d'::r,σ,O,i,d,u,h,q=>by
  simp only[SlR] at h;obtain⟨v,τ,rfl,Y,h⟩:=h;cases i with
  |zero=>exact#[O,Nd _,by simp only[Lw,SlR];exact#[u,τ,rfl,q,h],fun _ a _ z=>by obtain⟨ds,z⟩:=z;simp at z]
  |succ i=>
   obtain⟨P,B,h1,h2⟩:=SlR.put i h q;exact#[P,B,by simp only[KQ,SlR];exact#[v,_,rfl,Y,h1],by simpa using h2]
 |.own ds::r,σ,O,i,d,u,h,q=>by
  simp only[SlR] at h;obtain⟨a,xs,τ,P,rfl,rfl,ha,Y,h⟩:=h;cases i with
  |zero=>
   refine#[P,List.sublist_cons_self ..,by simp only[Lw,SlR];exact#[u,τ,rfl,q,h],fun nd b _ _ e=>?_];simp at e;subst e;exact(Ks.mp nd).1
  |succ i=>
   obtain⟨P',B,h1,h2⟩:=SlR.put i h q;refine#[a::P',B.cons_cons a,by simp only[KQ,SlR];exact#[a,xs,_,P',rfl,rfl,ha,Y,h1],fun nd b e1 U Z=>?_];have J:=Ks.mp nd;have n1:=h2 J.2 b (by simpa using e1) (by simpa using U) (by simpa using Z);intro z;rcases xo.mp z with z | z
   .subst z;obtain⟨dz,U⟩:=U;obtain⟨b',_,e4,m,_⟩:=SlR.own h (i:=i) (by simpa using U);rw[Mz] at Z;rw[Z] at e4;cases e4;exact J.1 m
   .exact n1 z
theorem SlR.putN:∀{sl:List Sl}{σ:List (Option V)}{O:vL_}(i:Nat) {ds:vD_}{p:Addr}{xs:List V},SlR K N fa H sl σ O->i<sl.length->p ∉ O->O.Nodup->H p=some (.lst xs)->Reps K N fa H ds xs ->
  ∃P,(∀b∈P,b=p\/b∈O)/\P.Nodup/\SlR K N fa H (sl.set i (.own ds)) (σ.set i (some (.ref p))) P
 |[],σ,O,i,ds,p,xs,h,hi,hp,nd,e,q=>by simp at hi
 |.no::r,σ,O,i,ds,p,xs,h,hi,hp,nd,e,q=>by
  simp only[SlR] at h;obtain⟨v,τ,rfl,h⟩:=h;cases i with
  |zero=>exact#[p::O,fun b B=>xo.mp B,Ks.mpr #[hp,nd],by simp only[Lw,SlR];exact#[p,xs,τ,O,rfl,rfl,e,q,h]]
  |succ i=>
   obtain⟨P,h1,h2,U⟩:=SlR.putN i h (by simpa using hi) hp nd e q;exact#[P,h1,h2,by simp only[KQ,SlR];exact#[v,_,rfl,U]]
 |.v d'::r,σ,O,i,ds,p,xs,h,hi,hp,nd,e,q=>by
  simp only[SlR] at h;obtain⟨v,τ,rfl,Y,h⟩:=h;cases i with
  |zero=>exact#[p::O,fun b B=>xo.mp B,Ks.mpr #[hp,nd],by simp only[Lw,SlR];exact#[p,xs,τ,O,rfl,rfl,e,q,h]]
  |succ i=>
   obtain⟨P,h1,h2,U⟩:=SlR.putN i h (by simpa using hi) hp nd e q;exact#[P,h1,h2,by simp only[KQ,SlR];exact#[v,_,rfl,Y,U]]
 |.own ds'::r,σ,O,i,ds,p,xs,h,hi,hp,nd,e,q=>by
  simp only[SlR] at h;obtain⟨a,ys,τ,P,rfl,rfl,ha,Y,h⟩:=h;have J:=Ks.mp nd;cases i with
  |zero=>
   refine#[p::P,fun b B=>(xo.mp B).imp id fun z=>JH _ z,Ks.mpr #[fun z=>hp (JH _ z),J.2],?_];simp only[Lw,SlR];exact#[p,xs,τ,P,rfl,rfl,e,q,h]
  |succ i=>
   obtain⟨Z,h1,h2,U⟩:=SlR.putN i h (by simpa using hi) (fun z=>hp (JH _ z)) J.2 e q;refine#[a::Z,fun b B=>?_,Ks.mpr #[fun z=>?_,h2],by simp only[KQ,SlR];exact#[a,ys,_,Z,rfl,rfl,ha,Y,U]]
   .rcases xo.mp B with z | z
    .exact .inr (by rw[z];exact JL ..)
    .exact(h1 b z).imp id fun y=>JH _ y
   .rcases h1 a z with y | y
    .exact hp (by rw[y];exact JL ..)
    .exact J.1 y
theorem SlR.rew:∀{sl:List Sl}{σ:List (Option V)}{O:vL_}{i:Nat}{ds es:vD_}{a:Addr}{ys:List V},SlR K N fa H sl σ O->O.Nodup->(∀b∈O,N b)->sl[i]? = some (.own ds)->σ[i]? = some (some (.ref a))->H' a=some (.lst ys) ->
  Car K N fa H N fa H'->(∀b u,b≠a->H b=some u->H' b=some u)->Reps K N fa H' es ys->SlR K N fa H' (sl.set i (.own es)) σ O
 |[],σ,O,i,ds,es,a,ys,h,nd,hN,e1,e2,e3,c,k,q=>by simp at e1
 |.no::r,σ,O,i,ds,es,a,ys,h,nd,hN,e1,e2,e3,c,k,q=>by
  simp only[SlR] at h;obtain⟨v,τ,rfl,h⟩:=h;cases i with
  |zero=>simp at e1
  |succ i=>simp only[KQ,SlR];exact#[v,τ,rfl,SlR.rew h nd hN (by simpa using e1) (by simpa using e2) e3 c k q]
 |.v d'::r,σ,O,i,ds,es,a,ys,h,nd,hN,e1,e2,e3,c,k,q=>by
  simp only[SlR] at h;obtain⟨v,τ,rfl,U,h⟩:=h;cases i with
  |zero=>simp at e1
  |succ i=>simp only[KQ,SlR];exact#[v,τ,rfl,Rep.go c _ _ U,SlR.rew h nd hN (by simpa using e1) (by simpa using e2) e3 c k q]
 |.own ds'::r,σ,O,i,ds,es,a,ys,h,nd,hN,e1,e2,e3,c,k,q=>by
  simp only[SlR] at h;obtain⟨b,zs,τ,P,rfl,rfl,Z,U,h⟩:=h;have B:=Ks.mp nd;cases i with
  |zero=>
   simp at e2;subst e2;simp only[Lw,SlR];exact#[b,ys,τ,P,rfl,rfl,e3,q,SlR.go c (fun x xs J z=>k x _ (fun y=>B.1 (y▸J)) z) h]
  |succ i=>
   have nb:b≠a:=fun z=>by
    obtain⟨a',_,Y,m,_⟩:=SlR.own h (i:=i) (by simpa using e1);rw[Mz] at e2;rw[e2] at Y;cases Y;exact B.1 (z▸m)
   simp only[KQ,SlR];exact#[b,zs,τ,P,rfl,rfl,k b _ nb Z,Reps.go c _ _ U,SlR.rew h B.2 (fun x J=>hN x (JH _ J)) (by simpa using e1) (by simpa using e2) e3 c k q]
theorem RepB.stp {v:V}(I:GI K g σ H fa O s) (a:StE fa O H fa' O' H') (h:RepB K (NN g.F fa O) fa H d v):RepB K (NN g.F fa' O') fa' H' d v:=by
 have c:=I.car a.stp;cases d with
 |lst ds=>
  obtain⟨x,xs,e,B,q,r⟩:=h;refine#[x,xs,e,fun z=>?_,a.same _ _ q B,Reps.go c ds xs r];rcases a.fe with y | ⟨_,y⟩
  .rw[y] at z;exact B z
  .rw[y x z] at q;cases q
 |_=>
  simp only[RepB] at h ⊢;exact Rep.go c _ _ h
def Rep.stp {v:V}(I:GI K g σ H fa O s) (a:Stp fa O H fa' O' H') (h:Rep K (NN g.F fa O) fa H d v):Rep K (NN g.F fa' O') fa' H' d v:=Rep.go (I.car a) d v h
def Reps.stp (I:GI K g σ H fa O s) (a:Stp fa O H fa' O' H') (h:Reps K (NN g.F fa O) fa H ds xs):Reps K (NN g.F fa' O') fa' H' ds xs:=Reps.go (I.car a) ds xs h
def E6 {o:HO}(h:H p=none):StE fa O H fa O (j5 H p o):=
 #[fun _ h=>h,.inl rfl,fun b u e _=>by rw[m9 (F1 e h)];exact e,fun b z=>by
  by_cases B:b=p
  .subst B;exact h
  .rw[m9 B] at z;exact z]
def FeedR.car {fs:vO_}(c:Car K N fa H N' fa H') (h:∀a,fa=some a->H' a=H a) (f:FeedR N H fa fs):FeedR N' H' fa fs:=by
 cases fa with
 |none=>cases fs <;> simpa only[FeedR] using f
 |some a=>
  cases fs with
  |none=>simpa only[FeedR] using f
  |some x=>
   simp only[FeedR] at f ⊢;obtain⟨l,b,h1,h2,B⟩:=f;obtain⟨q,n⟩:=c.ls b _ h2 B;exact#[l,b,by rw[h a rfl];exact h1,n,q]
def FeedR.same_new {fs:vO_}{o:HO}(f:FeedR N H fa fs) (h:H p=none):∀a,fa=some a->j5 H p o a=H a:=fun a e=>m9 fun z=>f.tracked e (z▸h)
def DI.new {o:HO}(I:GI K g σ H fa O s) (h:H p=none):GI K g σ (j5 H p o) fa O s:=by
 have a:StE fa O H fa O (j5 H p o):=E6 h;refine#[I.nd,SlR.go (I.car a.stp) (fun b xs B e=>?_) I.sl,I.fr,I.st.trans ((E6 (O:=[]) h).stp),I.tr,I.ff,I.fd.car (I.car a.stp) (I.fd.same_new h),I.nf];rw[m9 (F1 e h)];exact e
end
abbrev DE:=DS->Option (D × DS)
variable {fe:DE}
abbrev DT:=DS->Option (Bool × DS)
variable {fc:DT}
abbrev DA:=DS->Option (List D × DS)
variable {fi:DA}
inductive Fl where
 | next | brk | cont | ret (d:D) | thr (c:Str) (ds:vD_)
abbrev DM:=DS->Option (Fl × DS)
structure NewL (K:vF_) (g:Gh) (σ:L2.St) (H:Hp) (fa:vA_) (O:vL_) (s:DS) (p:Addr) (xs:List V) (ds:vD_):Prop where
 gi:GI K g σ H fa O s
 ls:H p=some (.lst xs)
 sl:SlR K (fun b=>NN g.F fa O b\/b=p) fa H s.sl σ O
 fd:FeedR (fun b=>NN g.F fa O b\/b=p) H fa s.fs
 rs:Reps K (fun b=>NN g.F fa O b\/b=p) fa H ds xs
 nf:fa≠some p
section
variable (K:vF_) (g:Gh)
def liftE (f:DE):TE:=fun σ H Q=>∃fa O s d s',GI K g σ H fa O s/\f s=some (d,s') /\
 ∀v H' fa' O',StE fa O H fa' O' H'->GI K g σ H' fa' O' s'->Rep K (NN g.F fa' O') fa' H' d v->Q v H'
def liftB (f:DE):TE:=fun σ H Q=>∃fa O s d s',GI K g σ H fa O s/\f s=some (d,s') /\
 ∀v H' fa' O',StE fa O H fa' O' H'->GI K g σ H' fa' O' s'->RepB K (NN g.F fa' O') fa' H' d v->Q v H'
def liftF (f:DA):TE:=fun σ H Q=>∃fa O s ds s',GI K g σ H fa O s/\f s=some (ds,s') /\
 ∀p xs H' fa' O',StE fa O H fa' O' H'->NewL K g σ H' fa' O' s' p xs ds->H p=none->Q (.ref p) H'
def liftT (f:DT):TT:=fun σ H Q=>∃fa O s d s',GI K g σ H fa O s/\f s=some (d,s') /\
 ∀H' fa' O',StE fa O H fa' O' H'->GI K g σ H' fa' O' s'->Q d H'
def liftA (f:DA):TA:=fun σ H Q=>∃fa O s ds s',GI K g σ H fa O s/\f s=some (ds,s') /\
 ∀vs H' fa' O',StE fa O H fa' O' H'->GI K g σ H' fa' O' s'->Reps K (NN g.F fa' O') fa' H' ds vs->Q vs H'
def liftBA (f:DA):TA:=fun σ H Q=>∃fa O s ds s',GI K g σ H fa O s/\f s=some (ds,s') /\
 ∀vs H' fa' O',StE fa O H fa' O' H'->GI K g σ H' fa' O' s'->Y2 K (NN g.F fa' O') fa' H' ds vs->Q vs H'
def FlK (E:Ends) (fa:vA_) (O:vL_) (H:Hp) (fl:Fl) (s':DS):Prop:=
 match fl with
 |.next=>∀σ' H' fa' O',Stp fa O H fa' O' H'->GI K g σ' H' fa' O' s'->E.nx σ' H'
 |.brk=>∀σ' H' fa' O',Stp fa O H fa' O' H'->GI K g σ' H' fa' O' s'->E.bk σ' H'
 |.cont=>∀σ' H' fa' O',Stp fa O H fa' O' H'->GI K g σ' H' fa' O' s'->E.ct σ' H'
 |.ret d=>∀σ' v H' fa' O',Stp fa O H fa' O' H'->GI K g σ' H' fa' O' s'->Rep K (NN g.F fa' O') fa' H' d v->E.rt v H'
 |.thr c ds=>∀σ' C dx od xs H' fa' O',Stp fa O H fa' O' H'->GI K g σ' H' fa' O' s'->PySem.W.nsIn K mainGlobals c=some (some (.ref C))->H' dx=some (.frz od (.xd (fnm.zip xs)))->Reps K (NN g.F fa' O') fa' H' ds xs->g.xq σ' (.ref C) (some dx) H'
def liftS (f:DM):TS:=fun E σ H=>∃fa O s fl s',GI K g σ H fa O s/\f s=some (fl,s')/\FlK K g E fa O H fl s'
end
section
variable {K:vF_}{σ:L2.St}
def liftE.elim {f:DE}{Q:VK}(h:liftE K g f σ H Q) (k:∀fa O s d s',GI K g σ H fa O s->f s=some (d,s')->(∀v H' fa' O',StE fa O H fa' O' H'->GI K g σ H' fa' O' s'->Rep K (NN g.F fa' O') fa' H' d v->Q v H')->G):G:=by
 obtain⟨fa,O,s,d,s',a,b,c⟩:=h;exact k fa O s d s' a b c
def liftB.elim {f:DE}{Q:VK}(h:liftB K g f σ H Q) (k:∀fa O s d s',GI K g σ H fa O s->f s=some (d,s')->(∀v H' fa' O',StE fa O H fa' O' H'->GI K g σ H' fa' O' s'->RepB K (NN g.F fa' O') fa' H' d v->Q v H')->G):G:=by
 obtain⟨fa,O,s,d,s',a,b,c⟩:=h;exact k fa O s d s' a b c
def liftF.elim {f:DA}{Q:VK}(h:liftF K g f σ H Q) (k:∀fa O s d s',GI K g σ H fa O s->f s=some (d,s')->(∀p xs H' fa' O',StE fa O H fa' O' H'->NewL K g σ H' fa' O' s' p xs d->H p=none->Q (.ref p) H')->G):G:=by
 obtain⟨fa,O,s,d,s',a,b,c⟩:=h;exact k fa O s d s' a b c
def liftT.elim {f:DT}{Q:Bool->Hp->Prop}(h:liftT K g f σ H Q) (k:∀fa O s d s',GI K g σ H fa O s->f s=some (d,s')->(∀H' fa' O',StE fa O H fa' O' H'->GI K g σ H' fa' O' s'->Q d H')->G):G:=by
 obtain⟨fa,O,s,d,s',a,b,c⟩:=h;exact k fa O s d s' a b c
def liftA.elim {f:DA}{Q:List V->Hp->Prop}(h:liftA K g f σ H Q) (k:∀fa O s d s',GI K g σ H fa O s->f s=some (d,s')->(∀vs H' fa' O',StE fa O H fa' O' H'->GI K g σ H' fa' O' s'->Reps K (NN g.F fa' O') fa' H' d vs->Q vs H')->G):G:=by
 obtain⟨fa,O,s,d,s',a,b,c⟩:=h;exact k fa O s d s' a b c
def liftBA.elim {f:DA}{Q:List V->Hp->Prop}(h:liftBA K g f σ H Q) (k:∀fa O s d s',GI K g σ H fa O s->f s=some (d,s')->(∀vs H' fa' O',StE fa O H fa' O' H'->GI K g σ H' fa' O' s'->Y2 K (NN g.F fa' O') fa' H' d vs->Q vs H')->G):G:=by
 obtain⟨fa,O,s,d,s',a,b,c⟩:=h;exact k fa O s d s' a b c
def liftS.elim {f:DM}{E:Ends}(h:liftS K g f E σ H) (k:∀fa O s d s',GI K g σ H fa O s->f s=some (d,s')->(FlK K g E fa O H d s')->G):G:=by
 obtain⟨fa,O,s,d,s',a,b,c⟩:=h;exact k fa O s d s' a b c
end
structure EO (X:Cx) (g:Gh) (e:Expr) (f:DE):Prop where
 pe:PE X e (liftE X.K g f)
structure BO (X:Cx) (g:Gh) (e:Expr) (f:DE):Prop where
 pe:PE X e (liftB X.K g f)
structure FO (X:Cx) (g:Gh) (e:Expr) (f:DA):Prop where
 pe:PE X e (liftF X.K g f)
structure TO (X:Cx) (g:Gh) (e:Expr) (f:DT):Prop where
 pe:PT X e (liftT X.K g f)
structure WO (X:Cx) (g:Gh) (e:Expr) (f:DT):Prop where
 pe:PW X e (liftT X.K g f)
structure AO (X:Cx) (g:Gh) (es:List Expr) (f:DA):Prop where
 pe:PA X es (liftA X.K g f)
structure BAO (X:Cx) (g:Gh) (es:List Expr) (f:DA):Prop where
 pe:PA X es (liftBA X.K g f)
structure SO (X:Cx) (g:Gh) (st:Stmt) (f:DM):Prop where
 pe:PS X st (liftS X.K g f)
structure SSO (X:Cx) (g:Gh) (st:List Stmt) (f:DM):Prop where
 pe:PSs X st (liftS X.K g f)
section
variable {f:DE}
def jK {t t':TE}(h:PE X e t) (w:∀σ H Q,t' σ H Q->t σ H Q):PE X e t':=fun pins s σ H Q I q=>h pins s σ H Q I (w σ H Q q)
def BB {t t':TT}(h:PT X e t) (w:∀σ H Q,t' σ H Q->t σ H Q):PT X e t':=fun pins s σ H Q I q=>h pins s σ H Q I (w σ H Q q)
def yG {t t':TT}(h:PW X e t) (w:∀σ H Q,t' σ H Q->t σ H Q):PW X e t':=fun B pins s σ H Q I q=>h B pins s σ H Q I (w σ H Q q)
def oX {t t':TA}(h:PA X es t) (w:∀σ H Q,t' σ H Q->t σ H Q):PA X es t':=fun pos pins s σ H Q I q=>h pos pins s σ H Q I (w σ H Q q)
def AZ {st:Stmt}{t t':TS}(h:PS X st t) (w:∀E σ H,t' E σ H->t E σ H):PS X st t':=fun pins s σ H E I q=>h pins s σ H E I (w E σ H q)
def Aa {st:List Stmt}{t t':TS}(h:PSs X st t) (w:∀E σ H,t' E σ H->t E σ H):PSs X st t':=fun pins s σ H E I q=>h pins s σ H E I (w E σ H q)
theorem EO.w {f:DE}{t:TE}(h:PE X e t) (w:∀σ H Q,liftE X.K g f σ H Q->t σ H Q):EO X g e f:=#[jK h w]
theorem BO.w {f:DE}{t:TE}(h:PE X e t) (w:∀σ H Q,liftB X.K g f σ H Q->t σ H Q):BO X g e f:=#[jK h w]
theorem FO.w {f:DA}{t:TE}(h:PE X e t) (w:∀σ H Q,liftF X.K g f σ H Q->t σ H Q):FO X g e f:=#[jK h w]
theorem TO.w {f:DT}{t:TT}(h:PT X e t) (w:∀σ H Q,liftT X.K g f σ H Q->t σ H Q):TO X g e f:=#[BB h w]
theorem WO.w {f:DT}{t:TT}(h:PW X e t) (w:∀σ H Q,liftT X.K g f σ H Q->t σ H Q):WO X g e f:=#[yG h w]
theorem AO.w {f:DA}{t:TA}(h:PA X es t) (w:∀σ H Q,liftA X.K g f σ H Q->t σ H Q):AO X g es f:=#[oX h w]
theorem BAO.w {f:DA}{t:TA}(h:PA X es t) (w:∀σ H Q,liftBA X.K g f σ H Q->t σ H Q):BAO X g es f:=#[oX h w]
theorem SO.w {st:Stmt}{f:DM}{t:TS}(h:PS X st t) (w:∀E σ H,liftS X.K g f E σ H->t E σ H):SO X g st f:=#[AZ h w]
theorem SSO.w {st:List Stmt}{f:DM}{t:TS}(h:PSs X st t) (w:∀E σ H,liftS X.K g f E σ H->t E σ H):SSO X g st f:=#[Aa h w]
theorem EO.b (h:EO X g e f):BO X g e f:=BO.w h.pe fun σ H Q ⟨fa,O,s,d,s',I,e,k⟩=>#[fa,O,s,d,s',I,e,fun v H' fa' O' a B r=>k v H' fa' O' a B (r.b fun _ z=>.inr (.inr z))]
noncomputable def j8 (f:DA):DE:=fun s=>(f s).map fun p=>(.lst p.1,p.2)
def gE {K:vF_}{O':vL_}{s s':DS}(I:GI K g σ H fa O s) (a:StE fa O H fa' O' H') (J:GI K g σ H' fa' O' s') (e:H p=none) (B:fa'≠some p):¬ NN g.F fa' O' p:=by
 rintro(z | z | z)
 .exact I.trF z e
 .obtain⟨ys,q⟩:=I.owned (a.sub p z);rw[e] at q;cases q
 .exact B z
def FO.v {f:DA}(h:FO X g e f):EO X g e (j8 f):=EO.w h.pe fun σ H Q J=>by
 refine J.elim fun fa O s d s' I e k=>?_
 simp only[j8] at e;cases q:f s with
 |none=>rw[q] at e;cases e
 |some p=>
  obtain⟨ds,s1⟩:=p;rw[q] at e;simp only[Nc,Kj,JU] at e;obtain⟨B,U⟩:=e;subst B;subst U;refine#[fa,O,s,ds,s1,I,q,fun p xs H' fa' O' a L B=>k _ H' fa' O' a L.gi ?_];simp only[Rep];exact#[p,xs,rfl,gE I a L.gi B L.nf,L.ls,Reps.go #[fun b ys n q=>#[q,fun z=>n (.inl z)],fun _ _ q=>q,fun _ _ q=>q,fun _ q=>q] ds xs L.rs]
end
def gW {K:vF_}{s:DS}{o:HO}(I:GI K g σ H fa O s) (B:H p=none):Car K (NN g.F fa O) fa H (fun b=>NN g.F fa O b\/b=p) fa (j5 H p o):=by
 have c:=I.car (E6 (fa:=fa) (O:=O) (o:=o) B).stp;refine#[fun b xs n q=>?_,c.tp,c.fz,c.fe];obtain⟨J,U⟩:=c.ls b xs n q;refine#[J,?_];rintro(z | z)
 .exact U z
 .subst z;rw[B] at q;cases q
def ak {K:vF_}{s:DS}(I:GI K g σ H fa O s) (B:H p=none) (r:Reps K (NN g.F fa O) fa H ds xs):NewL K g σ (j5 H p (.lst xs)) fa O s p xs ds:=
 #[I.new B,D2,SlR.go (gW I B) (fun b ys _ e=>by rw[m9 (F1 e B)];exact e) I.sl,I.fd.car (gW I B) (I.fd.same_new B),Reps.go (gW I B) ds xs r,fun z=>I.fd.tracked z B]
def dC (d:D):DE:=fun s=>some (d,s)
def dV (i:Nat):DE:=fun s=>match s.sl[i]? with
 |some (.v d)=>some (d,s)
 |some (.own ds)=>some (.lst ds,{ s with sl:=s.sl.set i (.v (.lst ds)) })
 |_=>none
def dL (i:Nat):DE:=fun s=>match s.sl[i]? with
 |some (.v d)=>some (d,s)
 |some (.own ds)=>some (.lst ds,s)
 |_=>none
def O0 {pos:Pos}(h:PE X (.Name x pos) (W6 i)):BO X g (.Name x pos) (dL i):=BO.w h fun σ H Q J=>by
 refine J.elim fun fa O s d s' I e k=>?_
 simp only[dL] at e;cases q:s.sl[i]? with
 |none=>rw[q] at e;cases e
 |some z=>
  rw[q] at e;cases z with
  |no=>cases e
  |v Y=>
   cases e;obtain⟨u,B,r⟩:=SlR.val I.sl q;exact#[u,B,k u H fa O StE.refl I (r.b fun _ z=>.inr (.inr z))]
  |own ds=>
   cases e;obtain⟨a,xs,B,m,U,r⟩:=SlR.own I.sl q;exact#[_,B,k _ H fa O StE.refl I #[a,xs,rfl,fun z=>I.nf a z m,U,r]]
def S4 {pos:Pos}(h:PE X (.Name x pos) (W6 i)):EO X g (.Name x pos) (dV i):=EO.w h fun σ H Q hQ=>by
 refine hQ.elim fun fa O s d s' I e k=>?_
 simp only[dV] at e;cases q:s.sl[i]? with
 |none=>rw[q] at e;cases e
 |some z=>
  rw[q] at e;cases z with
  |no=>cases e
  |v d'=>
   cases e;obtain⟨u,B,r⟩:=SlR.val I.sl q;exact#[u,B,k u H fa O StE.refl I r]
  |own ds=>
   cases e;obtain⟨a,xs,B,m,e2,r⟩:=SlR.own I.sl q;have i':i<s.sl.length:=(Kr.mp q).1
   let N1:Addr->Prop:=fun b=>NN g.F fa O b/\b≠a
   have U:Car X.K (NN g.F fa O) fa H N1 fa H:=#[fun b ys n z=>#[z,fun y=>n y.1],fun _ _ z=>z,fun _ _ z=>z,fun _ z=>z]
   have S1:=SlR.go U (fun _ _ _ z=>z) I.sl;have R1:Rep X.K N1 fa H (.lst ds) (.ref a):=by
    simp only[Rep];exact#[a,xs,rfl,fun z=>z.2 rfl,e2,Reps.go U ds xs r]
   obtain⟨P,hs,S2,hn⟩:=SlR.put i S1 R1;have na:a ∉ P:=hn I.nd a (by rw[q];rfl) #[ds,q] B;have eσ:σ.set i (some (V.ref a))=σ:=by
    apply List.ext_getElem?;intro j;by_cases Z:j=i
    .subst Z;rw[B,Mc (Kr.mp B).1]
    .rw[LD (JT Z)]
   rw[eσ] at S2;have sub:∀b∈P,b∈O:=fun b J=>hs.subset J
   have a1:StE fa O H fa P H:=#[sub,.inl rfl,fun _ _ z _=>z,fun _ z=>z]
   have Y:Car X.K N1 fa H (NN g.F fa P) fa H:=#[fun b ys n z=>#[z,fun y=>n #[by
     rcases y with y | y | y
     .exact .inl y
     .exact .inr (.inl (sub b y))
     .exact .inr (.inr y),fun w=>by
     subst w;rcases y with y | y | y
     .exact I.tr b y (I.fr b m)
     .exact na y
     .exact I.nf b y m]],fun _ _ z=>z,fun _ _ z=>z,fun _ z=>z]
   refine#[_,B,k _ H fa P a1 #[hs.nodup I.nd,SlR.go Y (fun _ _ _ z=>z) S2,fun b J=>I.fr b (sub b J),I.st,I.tr,I.ff,(I.fd.car U fun _ _=>rfl).car Y fun _ _=>rfl,fun b z y=>I.nf b z (sub b y)] (Rep.go Y _ _ R1)]
def jj {v:V}(h:PE X e (tC v)) (r:∀K N fa H,Rep K N fa H d v):EO X g e (dC d):=EO.w h fun σ H Q B=>by
 refine B.elim fun fa O s Y s' I q k=>?_
 simp only[dC,Kj,JU] at q;obtain⟨J,U⟩:=q;subst J;subst U;exact k v H fa O StE.refl I (r _ _ _ _)
def gT {i j pos}:EO X g (.Constant (.int i) j pos) (dC (.int i)):=jj eZ fun _ _ _ _=>by simp only[Rep]
def jb {i j pos}:EO X g (.Constant (.bool i) j pos) (dC (.bl i)):=jj ym fun _ _ _ _=>by simp only[Rep]
def zA {j pos}:EO X g (.Constant .none j pos) (dC .non):=jj GB fun _ _ _ _=>by simp only[Rep]
def Dt {x j pos} (B:x.length<=sizeLine):EO X g (.Constant (.str x) j pos) (dC (.str x)):=jj cb fun _ _ _ _=>by simp only[Rep];exact#[trivial,B]
def F4 (K:vF_) (r:R2) (p:D->D->Option D):Prop:=
 ∀(g:Gh) (σ:L2.St) (H:Hp) (fa:vA_) (O:vL_) (s:DS) (x y:V) (d1 d2 d:D) (Q:VK),GI K g σ H fa O s->RepB K (NN g.F fa O) fa H d1 x->RepB K (NN g.F fa O) fa H d2 y->p d1 d2=some d ->
  (∀v H',StE fa O H fa O H'->GI K g σ H' fa O s->Rep K (NN g.F fa O) fa H' d v->Q v H')->r x y H Q
def sV (K:vF_) (r:V->Hp->VK->Prop) (p:D->Option D):Prop:=
 ∀(g:Gh) (σ:L2.St) (H:Hp) (fa:vA_) (O:vL_) (s:DS) (x:V) (d1 d:D) (Q:VK),GI K g σ H fa O s->RepB K (NN g.F fa O) fa H d1 x->p d1=some d ->
  (∀v H',StE fa O H fa O H'->GI K g σ H' fa O s->Rep K (NN g.F fa O) fa H' d v->Q v H')->r x H Q
def mz (K:vF_) (r:R2) (p:D->D->Option (List D)):Prop:=
 ∀(g:Gh) (σ:L2.St) (H:Hp) (fa:vA_) (O:vL_) (s:DS) (x y:V) (d1 d2:D) (ds:vD_) (Q:VK),GI K g σ H fa O s->RepB K (NN g.F fa O) fa H d1 x->RepB K (NN g.F fa O) fa H d2 y->p d1 d2=some ds ->
  (∀q xs H',StE fa O H fa O H'->NewL K g σ H' fa O s q xs ds->H q=none->Q (.ref q) H')->r x y H Q
def S6 (K:vF_) (r:List V->Hp->VK->Prop) (p:List D->Option D):Prop:=
 ∀(g:Gh) (σ:L2.St) (H:Hp) (fa:vA_) (O:vL_) (s:DS) (xs:List V) (ds:vD_) (d:D) (Q:VK),GI K g σ H fa O s->Y2 K (NN g.F fa O) fa H ds xs->p ds=some d ->
  (∀v H',StE fa O H fa O H'->GI K g σ H' fa O s->Rep K (NN g.F fa O) fa H' d v->Q v H')->r xs H Q
def jz (K:vF_) (r:List V->Hp->VK->Prop) (p:List D->Option (List D)):Prop:=
 ∀(g:Gh) (σ:L2.St) (H:Hp) (fa:vA_) (O:vL_) (s:DS) (xs:List V) (ds es:vD_) (Q:VK),GI K g σ H fa O s->Y2 K (NN g.F fa O) fa H ds xs->p ds=some es ->
  (∀q ys H',StE fa O H fa O H'->NewL K g σ H' fa O s q ys es->H q=none->Q (.ref q) H')->r xs H Q
noncomputable def c8 (p:D->D->Option D) (a b:DE):DE:=fun s=>(a s).bind fun x=>(b x.2).bind fun y=>(p x.1 y.1).map fun d=>(d,y.2)
def Q0 (p:D->D->Option (List D)) (a b:DE):DA:=fun s=>(a s).bind fun x=>(b x.2).bind fun y=>(p x.1 y.1).map fun d=>(d,y.2)
noncomputable def j4 (p:D->Option D) (a:DE):DE:=fun s=>(a s).bind fun x=>(p x.1).map fun d=>(d,x.2)
def qF {α:Type}{p:D->D->Option α}{a b:DE}{s s':DS}{d:α}(h:((a s).bind fun x=>(b x.2).bind fun y=>(p x.1 y.1).map fun d=>(d,y.2))=some (d,s')):∃x s1 y,a s=some (x,s1)/\b s1=some (y,s')/\p x y=some d:=by
 refine v3 h fun x s1 h1 h=>?_
 refine v3 h fun y s2 h2 h=>?_
 refine M6 h fun Y J h=>?_
 simp only[JU] at h;obtain⟨U,B⟩:=h;subst U;subst B;exact#[x,s1,y,h1,h2,J]
section
variable {a b:Expr}{fa fb:DE}{pos:Pos}{r:R2}{p:D->D->Option D}
def gQ {r:R2}{p:D->D->Option D}(hr:F4 X.K r p) (σ:L2.St) (H:Hp) (Q:VK) (h:liftE X.K g (c8 p fa fb) σ H Q):cx r (liftB X.K g fa) (liftB X.K g fb) σ H Q:=by
 refine gB_ fun G_ g_=>?_
 obtain⟨f0,O,s,d,s',I,e,k⟩:=h;obtain⟨x,s1,y,h1,h2,h3⟩:=qF e;apply g_;refine#[f0,O,s,x,s1,I,h1,fun v H1 f1 O1 a1 U Z=>#[f1,O1,s1,y,s',U,h2,fun u H2 B J Y I2 r2=>?_]];exact hr g σ H2 B J s' v u x y d Q I2 (RepB.stp U Y Z) r2 h3 fun z H3 a3 I3 r3=>k z H3 B J (a1.trans (Y.trans a3)) I3 r3
def BH {r:R2}{p:D->D->Option (List D)}(hr:mz X.K r p) (σ:L2.St) (H:Hp) (Q:VK) (h:liftF X.K g (Q0 p fa fb) σ H Q):cx r (liftB X.K g fa) (liftB X.K g fb) σ H Q:=by
 refine gB_ fun G_ g_=>?_
 obtain⟨f0,O,s,d,s',I,e,k⟩:=h;obtain⟨x,s1,y,h1,h2,h3⟩:=qF e;apply g_;refine#[f0,O,s,x,s1,I,h1,fun v H1 f1 O1 Y J r1=>#[f1,O1,s1,y,s',J,h2,fun u H2 U Z B I2 r2=>?_]];exact hr g σ H2 U Z s' v u x y d Q I2 (RepB.stp J B r1) r2 h3 fun q xs H3 a3 L e1=>k q xs H3 U Z (Y.trans (B.trans a3)) L (Y.mon _ (B.mon _ e1))
def GU {B:Operator}(U:OpR X (binaryOp B) r) (Z:F4 X.K r p) (J:BO X g a fa) (Y:BO X g b fb):EO X g (.BinOp a B b pos) (c8 p fa fb):=EO.w (pd U J.pe Y.pe) (gQ Z)
def ql {B:Operator}{p:D->D->Option (List D)}(U:OpR X (binaryOp B) r) (Z:mz X.K r p) (J:BO X g a fa) (Y:BO X g b fb):FO X g (.BinOp a B b pos) (Q0 p fa fb):=FO.w (pd U J.pe Y.pe) (BH Z)
def Gy {B:CmpOp}(U:OpR X (compareOp B) r) (hr:F4 X.K r p) (J:BO X g a fa) (Z:BO X g b fb) (Y:behindInMarks B b=false):EO X g (.Compare a [B] [b] pos) (c8 p fa fb):=EO.w (FV U J.pe Z.pe Y) (gQ hr)
def xY {r:R2}(J:IxR X r) (Y:F4 X.K r p) (B:BO X g a fa) (U:BO X g b fb) (Z:rh b):EO X g (.Subscript a b pos) (c8 p fa fb):=EO.w (Fc J B.pe U.pe Z) (gQ Y)
def GQ {B:UnaryOp}{r:V->Hp->VK->Prop}{p:D->Option D}(ho:gS X (unaryOp B) r) (hr:sV X.K r p) (Z:BO X g a fa):EO X g (.UnaryOp B a pos) (j4 p fa):=EO.w (Gf ho Z.pe) fun σ H Q U=>by
 refine U.elim fun f0 O s d s' I e k=>?_
 refine v3 e fun x s1 h1 h=>?_
 refine M6 h fun Y h3 h=>?_
 simp only[JU] at h;obtain⟨e1,e2⟩:=h;subst e1;subst e2;exact#[f0,O,s,x,s1,I,h1,fun v H1 f1 O1 a1 I1 J=>hr g σ H1 f1 O1 s1 v x Y Q I1 J h3 fun z H3 a3 I3 r3=>k z H3 f1 O1 (a1.trans a3) I3 r3]
noncomputable def dB (f:DE):DT:=fun s=>(f s).bind fun x=>match x.1 with | .bl b=>some (b,x.2) | _=>none
def jf {f:DE}{s s':DS}{b:Bool}(h:dB f s=some (b,s')):f s=some (.bl b,s'):=by
 refine v3 h fun x s1 h1 h=>?_
 cases x with
 |bl c=>simp only[Kj,JU] at h;rw[h1,h.1,h.2]
 |_=>cases h
def DN {B:CmpOp}(Y:OpR X (compareOp B) r) (hr:F4 X.K r p) (ha:BO X g a fa) (U:BO X g b fb) (J:behindInMarks B b=false):TO X g (.Compare a [B] [b] pos) (dB (c8 p fa fb)):=
 TO.w (Gw Y ha.pe U.pe J) fun σ H Q ⟨f0,O,s,d,s',I,e,k⟩=>gQ hr σ H _ #[f0,O,s,.bl d,s',I,jf e,fun v H' f1 O1 a Z r=>by
  simp only[Rep] at r;exact#[d,r,k H' f1 O1 a Z]]
def C0:D->Option Bool
 |.non=>some false
 |.bl b=>some b
 |.int i=>some (i != 0)
 |.str x=>some ((x.length:Int) != 0)
 |.tup ds=>some (!ds.isEmpty)
 |.lst ds=>some (!ds.isEmpty)
 |_=>none
noncomputable def l7 (f:DE):DT:=fun s=>(f s).bind fun x=>(C0 x.1).map fun b=>(b,x.2)
def qC {α β:Type}{xs:List α}{ys:List β}(h:xs.length=ys.length):xs.isEmpty=ys.isEmpty:=by cases xs <;> cases ys <;> simp_all
def R3 {e:Expr}{f:DE}(h:BO X g e f) (he:∀whole,isTrue e X.env whole=(do let v <-whole;standAt e.pos;holding [v] (truthy v)):=by intro _;rfl):TO X g e (l7 f):=
 TO.w (Jz h.pe he) fun σ H Q J=>by
  refine J.elim fun Z O s d s' I e k=>?_
  obtain⟨⟨x,s1⟩,h1,h.pe⟩:=Lv.mp e;obtain⟨U,B,h.pe⟩:=Mw.mp h.pe;simp only[JU] at h.pe;obtain⟨Y,e2⟩:=h.pe;subst Y;subst e2;refine#[Z,O,s,x,s1,I,h1,fun v H' f1 O1 a I1 r=>#[U,?_,k H' f1 O1 a I1]];cases x with
  |non=>simp only[RepB,Rep] at r;subst r;cases B;rfl
  |bl b=>simp only[RepB,Rep] at r;subst r;cases B;rfl
  |int i=>simp only[RepB,Rep] at r;subst r;cases B;rfl
  |str x=>simp only[RepB,Rep] at r;obtain⟨r,l⟩:=r;subst r;cases B;exact#[l,rfl]
  |tup ds=>
   simp only[RepB,Rep] at r;obtain⟨c,xs,r,q,w⟩:=r;subst r;cases B;exact .inr (.inl #[xs,q,by rw[qC w.length]])
  |lst ds=>
   obtain⟨c,xs,r,_,q,w⟩:=r;subst r;cases B;exact .inl #[xs,SqL.of q,by rw[qC w.length]]
  |feed=>cases B
  |scr _=>cases B
  |fn _=>cases B
  |exc _ _=>cases B
noncomputable def t7 (a b:DT):DT:=fun s=>(a s).bind fun x=>if x.1=true then b x.2 else some (false,x.2)
noncomputable def o7 (a b:DT):DT:=fun s=>(a s).bind fun x=>if x.1=true then some (true,x.2) else b x.2
def t9 (a:DT):DT:=fun s=>(a s).map fun x=>(!x.1,x.2)
noncomputable def w6 (a b:DE):DE:=fun s=>(dB a s).bind fun x=>if x.1=true then b x.2 else some (.bl false,x.2)
def B9 (a b:DE):DE:=fun s=>(dB a s).bind fun x=>if x.1=true then some (.bl true,x.2) else b x.2
def B0 (a:DE):DE:=fun s=>(dB a s).map fun x=>(.bl (!x.1),x.2)
variable {ta tb:DT}
def oM (h:TO X g a ta):WO X g (.BoolOp .And [a] pos) ta:=#[zr h.pe]
def lF (h:TO X g a ta):WO X g (.BoolOp .Or [a] pos) ta:=#[Ga h.pe]
def nN (U:TO X g a ta) (hb:WO X g (.BoolOp .And (b::rest) pos) tb):WO X g (.BoolOp .And (a::b::rest) pos) (t7 ta tb):=WO.w (AG U.pe hb.pe) fun σ H Q Y=>by
 refine Y.elim fun f0 O s d s' I e k=>?_
 refine v3 e fun x s1 h1 h=>?_
 refine#[f0,O,s,x,s1,I,h1,fun H1 f1 O1 B J=>?_];cases x with
 |true=>rw[iO rfl] at h ⊢;exact#[f1,O1,s1,d,s',J,h,fun H2 Z O2 a2 I2=>k H2 Z O2 (B.trans a2) I2]
 |false=>
  rw[iR JQ] at h ⊢;simp only[Kj,JU] at h;obtain⟨e1,e2⟩:=h;subst e1;subst e2;exact k H1 f1 O1 B J
def dU (U:TO X g a ta) (hb:WO X g (.BoolOp .Or (b::rest) pos) tb):WO X g (.BoolOp .Or (a::b::rest) pos) (o7 ta tb):=WO.w (Eg U.pe hb.pe) fun σ H Q Y=>by
 refine Y.elim fun f0 O s d s' I e k=>?_
 refine v3 e fun x s1 h1 h=>?_
 refine#[f0,O,s,x,s1,I,h1,fun H1 f1 O1 B J=>?_];cases x with
 |false=>rw[iR JQ] at h ⊢;exact#[f1,O1,s1,d,s',J,h,fun H2 Z O2 a2 I2=>k H2 Z O2 (B.trans a2) I2]
 |true=>
  rw[iO rfl] at h ⊢;simp only[Kj,JU] at h;obtain⟨e1,e2⟩:=h;subst e1;subst e2;exact k H1 f1 O1 B J
def WO.t {f:DT}(h:WO X g e f):TO X g e f:=#[h.pe.pt]
def cK (B:TO X g a ta):TO X g (.UnaryOp .Not a pos) (t9 ta):=TO.w (FK B.pe) fun σ H Q J=>by
 refine J.elim fun Z O s d s' I e k=>?_
 refine mapP e fun x s1 h1 h=>?_
 simp only[JU] at h;obtain⟨U,e2⟩:=h;subst U;subst e2;exact#[Z,O,s,x,s1,I,h1,fun H1 f1 O1 Y I1=>k H1 f1 O1 Y I1]
def iM {op} {f:DE}(h:EO X g a f):EO X g (.BoolOp op [a] pos) f:=#[Fj h.pe]
def cH (U:EO X g a fa) (hb:EO X g (.BoolOp .And (b::rest) pos) fb):EO X g (.BoolOp .And (a::b::rest) pos) (w6 fa fb):=EO.w (Hk U.pe hb.pe) fun σ H Q Y=>by
 refine Y.elim fun f0 O s d s' I e k=>?_
 refine v3 e fun x s1 h1 h=>?_
 refine#[f0,O,s,_,s1,I,jf h1,fun v H1 f1 O1 B J r=>#[x,by simpa only[Rep] using r,?_]];cases x with
 |true=>rw[iO rfl] at h ⊢;exact#[f1,O1,s1,d,s',J,h,fun v H2 Z O2 a2 I2=>k v H2 Z O2 (B.trans a2) I2]
 |false=>
  rw[iR JQ] at h ⊢;simp only[Kj,JU] at h;obtain⟨e1,e2⟩:=h;subst e1;subst e2;exact k _ H1 f1 O1 B J (by simp only[Rep])
def xv (U:EO X g a fa) (hb:EO X g (.BoolOp .Or (b::rest) pos) fb):EO X g (.BoolOp .Or (a::b::rest) pos) (B9 fa fb):=EO.w (HK U.pe hb.pe) fun σ H Q Y=>by
 refine Y.elim fun f0 O s d s' I e k=>?_
 refine v3 e fun x s1 h1 h=>?_
 refine#[f0,O,s,_,s1,I,jf h1,fun v H1 f1 O1 B J r=>#[x,by simpa only[Rep] using r,?_]];cases x with
 |false=>rw[iR JQ] at h ⊢;exact#[f1,O1,s1,d,s',J,h,fun v H2 Z O2 a2 I2=>k v H2 Z O2 (B.trans a2) I2]
 |true=>
  rw[iO rfl] at h ⊢;simp only[Kj,JU] at h;obtain⟨e1,e2⟩:=h;subst e1;subst e2;exact k _ H1 f1 O1 B J (by simp only[Rep])
def nH (B:EO X g a fa):EO X g (.UnaryOp .Not a pos) (B0 fa):=EO.w (Em B.pe) fun σ H Q J=>by
 refine J.elim fun Z O s d s' I e k=>?_
 refine mapP e fun x s1 h1 h=>?_
 simp only[JU] at h;obtain⟨U,e2⟩:=h;subst U;subst e2;exact#[Z,O,s,_,s1,I,jf h1,fun v H1 f1 O1 Y I1 r=>#[x,by simpa only[Rep] using r,k _ H1 f1 O1 Y I1 (by simp only[Rep])]]
noncomputable def v7 (c:DT) (a b:DE):DE:=fun s=>(c s).bind fun x=>if x.1=true then a x.2 else b x.2
def JC {c:Expr}(hc:TO X g c fc) (ha:EO X g a fa) (hb:EO X g b fb):EO X g (.IfExp c a b pos) (v7 fc fa fb):=EO.w (Jh hc.pe ha.pe hb.pe) fun σ H Q hQ=>by
 refine hQ.elim fun f0 O s d s' I e k=>?_
 refine v3 e fun x s1 h1 h=>?_
 refine#[f0,O,s,x,s1,I,h1,fun H1 f1 O1 Z I1=>?_];cases x with
 |false=>rw[iR JQ] at h ⊢;exact#[f1,O1,s1,d,s',I1,h,fun v H2 B J Y U=>k v H2 B J (Z.trans Y) U]
 |true=>rw[iO rfl] at h ⊢;exact#[f1,O1,s1,d,s',I1,h,fun v H2 B J Y U=>k v H2 B J (Z.trans Y) U]
def a9:DA:=fun s=>some ([],s)
def a8 (a:DE) (r:DA):DA:=fun s=>(a s).bind fun x=>(r x.2).map fun y=>(x.1::y.1,y.2)
def eF {a:DE}{r:DA}{s s':DS}(h:a8 a r s=some (ds,s')):∃d s1 es,a s=some (d,s1)/\r s1=some (es,s')/\ds=d::es:=by
 refine v3 h fun x s1 h1 h=>?_
 refine mapP h fun y s2 h2 h=>?_
 simp only[JU] at h;exact#[x,s1,y,h1,by rw[h2,h.2],h.1.symm]
variable {fr:DA}
def dZ:AO X g [] a9:=AO.w aq fun σ H Q J=>by
 refine J.elim fun Y O s d s' I e k=>?_
 simp only[a9,Kj,JU] at e;obtain⟨U,B⟩:=e;subst U;subst B;exact k [] H Y O StE.refl I (by simp only[Reps])
def nv (ha:EO X g a fa) (hr:AO X g es fr) (hs:starEach (a::es) X.env=(false,eval a X.env)::starEach es X.env:=by rfl):AO X g (a::es) (a8 fa fr):=AO.w (S5 ha.pe hr.pe hs) fun σ H Q Y=>by
 refine Y.elim fun f0 O s ds s' I e k=>?_
 obtain⟨d,s1,es,h1,h2,h3⟩:=eF e;subst h3;refine#[f0,O,s,d,s1,I,h1,fun v H1 f1 O1 a1 B U=>#[f1,O1,s1,es,s',B,h2,fun vs H2 Z O2 J I2 r2=>?_]];refine k (v::vs) H2 Z O2 (a1.trans J) I2 ?_;simp only[Reps];exact#[v,vs,rfl,Rep.stp B J.stp U,r2]
def wL:BAO X g [] a9:=BAO.w aq fun σ H Q J=>by
 refine J.elim fun Y O s d s' I e k=>?_
 simp only[a9,Kj,JU] at e;obtain⟨U,B⟩:=e;subst U;subst B;exact k [] H Y O StE.refl I (by simp only[Y2])
def yW (ha:BO X g a fa) (hr:BAO X g es fr) (hs:starEach (a::es) X.env=(false,eval a X.env)::starEach es X.env:=by rfl):BAO X g (a::es) (a8 fa fr):=BAO.w (S5 ha.pe hr.pe hs) fun σ H Q Y=>by
 refine Y.elim fun f0 O s ds s' I e k=>?_
 obtain⟨d,s1,es,h1,h2,h3⟩:=eF e;subst h3;refine#[f0,O,s,d,s1,I,h1,fun v H1 f1 O1 a1 B U=>#[f1,O1,s1,es,s',B,h2,fun vs H2 Z O2 J I2 r2=>?_]];exact k (v::vs) H2 Z O2 (a1.trans J) I2 #[v,vs,rfl,RepB.stp B J U,r2]
noncomputable def i4 (f:DA):DE:=fun s=>(f s).bind fun x=>if x.1.length<=sizeLine then some (.tup x.1,x.2) else none
noncomputable def j9 (f:DA):DA:=fun s=>(f s).bind fun x=>if x.1.length<=sizeLine then some (x.1,x.2) else none
def nU {x1} (h:AO X g es fr):EO X g (.Tuple es x1 pos) (i4 fr):=EO.w (sL h.pe) fun σ H Q hQ=>by
 refine hQ.elim fun f0 O s d s' I e k=>?_
 obtain⟨⟨ds,s1⟩,h1,h.pe⟩:=Lv.mp e;by_cases B:ds.length<=sizeLine
 .rw[iO B] at h.pe;simp only[Kj,JU] at h.pe;obtain⟨e1,e2⟩:=h.pe;subst e1;subst e2;refine#[f0,O,s,ds,s1,I,h1,fun vs H1 f1 O1 a1 Y J=>#[by rw[J.length];exact B,fun p U=>?_]];have Z:StE f1 O1 H1 f1 O1 (j5 H1 p (.tup vs)):=E6 U;refine k _ _ f1 O1 (a1.trans Z) (Y.new U) ?_;simp only[Rep];exact#[p,vs,rfl,SqT.of D2,Reps.stp Y Z.stp J]
 .rw[iR B] at h.pe;cases h.pe
def mj (h:AO X g es fr):FO X g (.List es pos) (j9 fr):=FO.w (Aq h.pe) fun σ H Q Z=>by
 refine Z.elim fun f0 O s d s' I e k=>?_
 obtain⟨⟨ds,s1⟩,h1,h.pe⟩:=Lv.mp e;by_cases B:ds.length<=sizeLine
 .rw[iO B] at h.pe;simp only[Kj,JU] at h.pe;obtain⟨e1,e2⟩:=h.pe;subst e1;subst e2;refine#[f0,O,s,ds,s1,I,h1,fun vs H1 f1 O1 Y I1 U=>#[by rw[U.length];exact B,fun p J=>?_]];have a2:StE f1 O1 H1 f1 O1 (j5 H1 p (.lst vs)):=E6 J;exact k p vs _ f1 O1 (Y.trans a2) (ak I1 J U) (Y.mon _ J)
 .rw[iR B] at h.pe;cases h.pe
end
section
variable {K:vF_}{σ:L2.St}{O':vL_}{s s':DS}
def NN.mono {F:vB_}{P:vL_}(h:∀b∈P,b∈O) {b:Addr}(z:NN F fa P b):NN F fa O b:=by
 rcases z with z | z | z
 .exact .inl z
 .exact .inr (.inl (h b z))
 .exact .inr (.inr z)
def rB {F:vB_}(h:∀b,NN F fa O b->N b):Car K N fa H (NN F fa O) fa H:=#[fun b xs n q=>#[q,fun z=>n (h b z)],fun _ _ q=>q,fun _ _ q=>q,fun _ q=>q]
theorem DI.put (I:GI K g σ H fa O s) (i:Nat) {v:V}(r:Rep K (NN g.F fa O) fa H d v):∃P,(∀b∈P,b∈O)/\GI K g (σ.set i (some v)) H fa P { s with sl:=s.sl.set i (.v d) }:=by
 obtain⟨P,J,S,_⟩:=SlR.put i I.sl r;have sub:∀b∈P,b∈O:=fun b B=>J.subset B
 have c:Car K (NN g.F fa O) fa H (NN g.F fa P) fa H:=rB fun b=>NN.mono sub
 exact#[P,sub,J.nodup I.nd,SlR.go c (fun _ _ _ z=>z) S,fun b B=>I.fr b (sub b B),I.st,I.tr,I.ff,I.fd.car c fun _ _=>rfl,fun b z y=>I.nf b z (sub b y)]
def br {P:vL_}(h:∀b∈P,b∈O):StE fa O H fa P H:=#[h,.inl rfl,fun _ _ e _=>e,fun _ e=>e]
def NewL.put (L:NewL K g σ H fa O s p xs ds) (i:Nat) (hi:i<s.sl.length) (J:g.H0 p=none) (U:p ∉ O):∃P,(∀b∈P,b=p\/b∈O)/\GI K g (σ.set i (some (.ref p))) H fa P { s with sl:=s.sl.set i (.own ds) }:=by
 obtain⟨P,h1,h2,S⟩:=SlR.putN i L.sl hi U L.gi.nd L.ls L.rs;have c:Car K (fun b=>NN g.F fa O b\/b=p) fa H (NN g.F fa P) fa H:=rB fun b z=>by
  rcases z with z | z | z
  .exact .inl (.inl z)
  .rcases h1 b z with y | y
   .exact .inr y
   .exact .inl (.inr (.inl y))
  .exact .inl (.inr (.inr z))
 refine#[P,h1,h2,SlR.go c (fun _ _ _ z=>z) S,fun b B=>?_,L.gi.st,L.gi.tr,L.gi.ff,L.fd.car c fun _ _=>rfl,fun b z B=>?_]
 .rcases h1 b B with y | y
  .rw[y];exact J
  .exact L.gi.fr b y
 .rcases h1 b B with y | y
  .rw[y] at z;exact L.nf z
  .exact L.gi.nf b z y
theorem DI.rew (I:GI K g σ H fa O s) {es:vD_}(Y:s.sl[i]? = some (.own ds)) (U:σ[i]? = some (some (.ref a))) (m:a∈O) (Z:H a=some (.lst xs)) (r:Reps K (NN g.F fa O) fa H es ys) :
  GI K g σ (j5 H a (.lst ys)) fa O { s with sl:=s.sl.set i (.own es) }/\Stp fa O H fa O (j5 H a (.lst ys)):=by
 have J:Stp fa O H fa O (j5 H a (.lst ys)):=#[fun b B=>.inl B,.inl rfl,fun b u e n _=>by
  rw[m9 (show b≠a from fun z=>n (by rw[z];exact m))];exact e,fun b z=>by
  by_cases B:b=a
  .subst B;rw[D2] at z;cases z
  .rw[m9 B] at z;exact z]
 have c:=I.car J;have k:∀b u,b≠a->H b=some u->j5 H a (.lst ys) b=some u:=fun b u n e=>by rw[m9 n];exact e
 refine#[#[I.nd,SlR.rew I.sl I.nd (fun b B=>.inr (.inl B)) Y U D2 c k (Reps.go c es ys r),I.fr,?_,I.tr,I.ff,I.fd.car c fun b B=>?_,I.nf],J]
 .refine#[fun b B=>(by cases B),I.st.fe,fun b u e n f=>?_,fun b z=>I.st.mon b (J.mon b z)];refine k b u (fun z=>?_) (I.st.same b u e n f);rw[z,I.fr a m] at e;cases e
 .refine m9 fun z=>?_
  subst z;exact I.nf _ B m
end
def FlK.shift {K:vF_}{E:Ends}{O':vL_}{s:DS}(a:Stp fa O H fa' O' H') (h:FlK K g E fa O H fl s):FlK K g E fa' O' H' fl s:=by
 cases fl with
 |next=>exact fun σ' H2 J B Y U=>h σ' H2 J B (a.trans Y) U
 |brk=>exact fun σ' H2 J B Y U=>h σ' H2 J B (a.trans Y) U
 |cont=>exact fun σ' H2 J B Y U=>h σ' H2 J B (a.trans Y) U
 |ret d=>exact fun σ' v H2 J B Y U=>h σ' v H2 J B (a.trans Y) U
 |thr c ds=>exact fun σ' C dx od xs H2 J B Y U=>h σ' C dx od xs H2 J B (a.trans Y) U
def j7:DM:=fun s=>some (.next,s)
def B1 (b:DM) (x:Fl × DS):Option (Fl × DS):=match x.1 with
 |.next=>b x.2
 |.brk=>some (.brk,x.2)
 |.cont=>some (.cont,x.2)
 |.ret d=>some (.ret d,x.2)
 |.thr c ds=>some (.thr c ds,x.2)
noncomputable def f9 (a b:DM):DM:=fun s=>(a s).bind (B1 b)
section
variable {st:Stmt}{rest:List Stmt}{pos:Pos}{a b:DM}{f:DE}
def K5:SSO X g [] j7:=SSO.w Gk fun E σ H B=>by
 refine B.elim fun fa O s fl s' I e k=>?_
 cases e;exact k σ H fa O Stp.refl I
def E3 (h:SO X g st a):SSO X g [st] a:=#[II h.pe]
def A9 (h:SO X g st a) (Y:SSO X g rest b):SSO X g (st::rest) (f9 a b):=SSO.w (yD h.pe Y.pe) fun E σ H B=>by
 refine B.elim fun fa O s fl s' I e k=>?_
 refine v3 e fun f1 s1 h1 h2=>?_
 refine#[fa,O,s,f1,s1,I,h1,?_];cases f1 with
 |next=>exact fun σ' H' f1 O1 J U=>#[f1,O1,s1,fl,s',U,h2,k.shift J]
 |brk=>cases h2;exact k
 |cont=>cases h2;exact k
 |ret d=>cases h2;exact k
 |thr c ds=>cases h2;exact k
noncomputable def i8 (f:DE):DM:=fun s=>(f s).map fun x=>(.ret x.1,x.2)
def T6 (Y:EO X g e f):SO X g (.Return (some e) pos) (i8 f):=SO.w (tD Y.pe) fun E σ H B=>by
 refine B.elim fun fa O s fl s' I q k=>?_
 refine mapP q fun d s1 h1 h2=>?_
 cases h2;exact#[fa,O,s,d,s1,I,h1,fun v H' f1 O1 J U r=>k σ v H' f1 O1 J.stp U r]
noncomputable def j6 (c:DT) (a b:DM):DM:=fun s=>(c s).bind fun x=>if x.1=true then a x.2 else b x.2
def K3 {c:Expr}(hc:TO X g c fc) (U:SSO X g la a) (Z:SSO X g lb b):SO X g (.If c la lb pos) (j6 fc a b):=SO.w (Es hc.pe U.pe Z.pe) fun E σ H Y=>by
 refine Y.elim fun fa O s fl s' I e k=>?_
 refine v3 e fun x s1 h1 h=>?_
 refine#[fa,O,s,x,s1,I,h1,fun H1 f1 O1 B J=>?_];cases x with
 |false=>rw[iR JQ] at h ⊢;exact#[f1,O1,s1,fl,s',J,h,k.shift B.stp]
 |true=>rw[iO rfl] at h ⊢;exact#[f1,O1,s1,fl,s',J,h,k.shift B.stp]
def liftG (K:vF_) (g:Gh) (t:D->DS->Option DS):TG:=fun v σ H Q=>∃fa O s d s',GI K g σ H fa O s/\Rep K (NN g.F fa O) fa H d v/\t d s=some s'/\∀σ' H' fa' O',Stp fa O H fa' O' H'->GI K g σ' H' fa' O' s'->Q σ' H'
def liftGs (K:vF_) (g:Gh) (t:List D->DS->Option DS):W3:=fun vs σ H Q=>∃fa O s ds s',GI K g σ H fa O s/\Reps K (NN g.F fa O) fa H ds vs/\t ds s=some s'/\∀σ' H' fa' O',Stp fa O H fa' O' H'->GI K g σ' H' fa' O' s'->Q σ' H'
section
variable {K:vF_}{σ:L2.St}{Q:L2.St->Hp->Prop}
def liftG.elim {t:D->DS->Option DS}{v:V}(h:liftG K g t v σ H Q) (k:∀fa O s d s',GI K g σ H fa O s->Rep K (NN g.F fa O) fa H d v->t d s=some s'->(∀σ' H' fa' O',Stp fa O H fa' O' H'->GI K g σ' H' fa' O' s'->Q σ' H')->G):G:=by
 obtain⟨fa,O,s,d,s',a,r,b,c⟩:=h;exact k fa O s d s' a r b c
def liftGs.elim {t:List D->DS->Option DS}{v:List V}(h:liftGs K g t v σ H Q) (k:∀fa O s d s',GI K g σ H fa O s->Reps K (NN g.F fa O) fa H d v->t d s=some s'->(∀σ' H' fa' O',Stp fa O H fa' O' H'->GI K g σ' H' fa' O' s'->Q σ' H')->G):G:=by
 obtain⟨fa,O,s,d,s',a,r,b,c⟩:=h;exact k fa O s d s' a r b c
end
structure GO (X:Cx) (g:Gh) (e:Expr) (t:D->DS->Option DS):Prop where
 pe:PG X e (liftG X.K g t)
structure GsO (X:Cx) (g:Gh) (es:List Expr) (t:List D->DS->Option DS):Prop where
 pe:aB X es (liftGs X.K g t)
def i0 (i:Nat) (d:D):DS->Option DS:=fun s=>some { s with sl:=s.sl.set i (.v d) }
def zS {t t':TG}(h:PG X e t) (w:∀v σ H Q,t' v σ H Q->t v σ H Q):PG X e t':=fun pins s σ H v u Q I r q=>h pins s σ H v u Q I r (w v σ H Q q)
def FT {t t':W3}(h:aB X es t) (w:∀v σ H Q,t' v σ H Q->t v σ H Q):aB X es t':=fun pins s σ H v u Q I r q=>h pins s σ H v u Q I r (w v σ H Q q)
theorem GO.w {f:D->DS->Option DS}{t:TG}(h:PG X e t) (w:∀v σ H Q,liftG X.K g f v σ H Q->t v σ H Q):GO X g e f:=#[zS h w]
theorem GsO.w {f:List D->DS->Option DS}{t:W3}(h:aB X es t) (w:∀v σ H Q,liftGs X.K g f v σ H Q->t v σ H Q):GsO X g es f:=#[FT h w]
def xC (h:PG X (.Name x pos) (V9 i)):GO X g (.Name x pos) (i0 i):=GO.w h fun v σ H Q B=>by
 refine B.elim fun fa O s d s' I r e k=>?_
 cases e;obtain⟨P,sub,J⟩:=I.put i r;exact k _ H fa P (br sub).stp J
def A1:List D->DS->Option DS
 |[],s=>some s
 |_::_,_=>none
def p9 (t:D->DS->Option DS) (u:List D->DS->Option DS):List D->DS->Option DS
 |[],_=>none
 |d::r,s=>(t d s).bind (u r)
def GV:GsO X g [] A1:=GsO.w ur fun v σ H Q B=>by
 refine B.elim fun fa O s ds s' I r e k=>?_
 cases ds with
 |nil=>cases e;simp only[Reps] at r;exact#[r,k σ H fa O Stp.refl I]
 |cons d J=>cases e
def xH {es:List Expr}{t:D->DS->Option DS}{u:List D->DS->Option DS}(h:GO X g e t) (hr:GsO X g es u) (Z:(assignEach (e::es) X.env).map (·.2)=assign e X.env::(assignEach es X.env).map (·.2):=by rfl):GsO X g (e::es) (p9 t u):=
 GsO.w (lu h.pe hr.pe Z) fun v σ H Q U=>by
  refine U.elim fun fa O s ds s' I r e k=>?_
  cases ds with
  |nil=>cases e
  |cons d J=>
   refine V1 e fun s1 h1 h2=>?_
   simp only[Reps] at r;obtain⟨x,ys,rfl,rx,ry⟩:=r;exact#[x,ys,rfl,fa,O,s,d,s1,I,rx,h1,fun σ1 H1 f1 O1 B I1=>#[f1,O1,s1,J,s',I1,Reps.stp I B ry,h2,fun σ2 H2 Y O2 a2 I2=>k σ2 H2 Y O2 (B.trans a2) I2]]
def A0 (n:Nat) (u:List D->DS->Option DS) (d:D) (s:DS):Option DS:=match d with
 |.tup ds=>if ds.length=n then u ds s else none
 |_=>none
def ya {es:List Expr}{k:Nat}{n:Nat}{u:List D->DS->Option DS}(Z:X.calm=true) (h:GsO X g es u) (Y:(assignEach es X.env).length=n:=by rfl) (B:(assignEach es X.env).findIdx? (·.1)=none:=by rfl):GO X g (.Tuple es k pos) (A0 n u):=
 GO.w (su Z h.pe Y B) fun v σ H Q U=>by
  refine U.elim fun fa O s d s' I r e k=>?_
  cases d with
  |tup ds=>
   simp only[A0] at e;by_cases J:ds.length=n
   .rw[iO J] at e;simp only[Rep] at r;obtain⟨a,xs,rfl,q,w⟩:=r;exact#[a,xs,rfl,q,by rw[w.length];exact J,fa,O,s,ds,s',I,w,e,k]
   .rw[iR J] at e;cases e
  |_=>cases e
noncomputable def j3 (f:DE) (t:D->DS->Option DS):DM:=fun s=>(f s).bind fun x=>(t x.1 x.2).map fun s'=>(.next,s')
def qo {f:DE}{t:D->DS->Option DS}(E:Ends) (σ:L2.St) (H:Hp) (h:liftS X.K g (j3 f t) E σ H):fq (liftE X.K g f) (liftG X.K g t) E σ H:=by
 obtain⟨fa,O,s,fl,s',I,q,k⟩:=h;refine v3 q fun d s1 h1 h2=>?_
 refine M6 h2 fun s2 Y U=>?_
 cases U;exact#[fa,O,s,d,s1,I,h1,fun v H1 f1 O1 J I1 r=>#[f1,O1,s1,d,_,I1,r,Y,fun σ2 H2 B Z a2 I2=>k σ2 H2 B Z (J.stp.trans a2) I2]]
def Bs {tg:Expr}{t:D->DS->Option DS}(U:EO X g e f) (B:GO X g tg t) (Y:swapsWithSole [tg] e pos.line X.env=pure false:=by rfl) (J:swappedStores [tg] e X.env=pure none:=by rfl)
  (h1:(assignEach [tg] X.env).map (·.2)=[assign tg X.env]:=by rfl):SO X g (.Assign [tg] e pos) (j3 f t):=SO.w (uX U.pe B.pe Y J h1) qo
def kM {i:Nat}{x:Str}{pos':Pos}(U:X.N.Nodup) (hi:X.N[i]? = some x) (Z:W5 X.env.scope x) (he:EO X g e f) (hs:swapsWith e (some (.Name x pos')) pos.line X.env=pure false:=by rfl) (hf:X.fn x=true\/X.env.scope.names.lookup x=some .local:=by first | exact .inl rfl | exact .inr rfl | assumption) :
  SO X g (.Assign [.Name x pos'] e pos) (j3 f (i0 i)):=SO.w (jN U hi Z he.pe hs hf) fun E σ H h=>by
 obtain⟨fa,O,s,d,s1,I,h1,k⟩:=qo E σ H h;refine#[fa,O,s,d,s1,I,h1,fun v H1 f1 O1 Y I1 r=>?_];obtain⟨B,O2,s2,d2,s3,I2,r2,e2,k2⟩:=k v H1 f1 O1 Y I1 r;cases e2;obtain⟨P,sub,J⟩:=I2.put i r2;exact k2 _ H1 B P (br sub).stp J
noncomputable def E4 (i:Nat) (f:DA):DM:=fun s=>(f s).bind fun x=>if i<x.2.sl.length then some (.next,{ x.2 with sl:=x.2.sl.set i (.own x.1) }) else none
def jL {i:Nat}{x:Str}{f:DA}{pos':Pos}(hN:X.N.Nodup) (hi:X.N[i]? = some x) (hx:W5 X.env.scope x) (he:FO X g e f) (hs:swapsWith e (some (.Name x pos')) pos.line X.env=pure false:=by rfl) (hf:X.fn x=true\/X.env.scope.names.lookup x=some .local:=by first | exact .inl rfl | exact .inr rfl | assumption) :
  SO X g (.Assign [.Name x pos'] e pos) (E4 i f):=SO.w (jN hN hi hx he.pe hs hf) fun E σ H Y=>by
 refine Y.elim fun fa O s fl s' I q k=>?_
 refine v3 q fun ds s1 h1 h2=>?_
 by_cases J:i<s1.sl.length
 .simp only[] at h2;rw[iO J] at h2;cases h2;refine#[fa,O,s,ds,s1,I,h1,fun p xs H1 f1 O1 B L U=>?_];have np:p ∉ O1:=fun z=>by
   obtain⟨ys,e⟩:=I.owned (B.sub p z);rw[U] at e;cases e
  obtain⟨P,sub,I'⟩:=L.put i J (I.st.mon p U) np;refine k _ H1 f1 P #[fun b Z=>?_,B.fe,fun b u e _ n=>B.same b u e n,B.mon] I';rcases sub b Z with y | y
  .exact .inr (by rw[y];exact U)
  .exact .inl (B.sub b y)
 .simp only[] at h2;rw[iR J] at h2;cases h2
noncomputable def Z2 (i:Nat) (f:DE):DM:=fun s=>match s.sl[i]? with
 |some (.own _)=>(f s).bind fun x=>match x.2.sl[i]? with
  |some (.own ds)=>if ds.length<sizeLine then some (.next,{ x.2 with sl:=x.2.sl.set i (.own (ds++[x.1])) }) else none
  |_=>none
 |_=>none
def De {i:Nat}{x:Str}{p1 p2 p3 p4:Pos}(hv:PE X (.Name x p1) (W6 i)) (he:EO X g e f) (J:attributeBase (.Name x p1) ("append" : Str) X.env (eval (.Name x p1) X.env)=eval (.Name x p1) X.env:=by rfl)
  (hfew:((backTo p3 (starEach [e] X.env)).all (fun x=>!x.1)&&(backToKw p3 (keywordEach [] X.env)).all (fun x=>x.1.isSome)
   && decide ([e].length+([]:List Keyword).length+(if ([]:List Keyword).isEmpty then 0 else 1)<30))=true:=by rfl)
  (U:(p2.endLine == p3.line)=true:=by rfl) (hs:starEach [e] X.env=(false,eval e X.env)::starEach [] X.env:=by rfl) (B:(backTo p3 (starEach [] X.env)).any (·.1)=false:=by rfl)
  (hsw:swapsWith (.Call (.Attribute (.Name x p1) ("append" : Str) p2) [e] [] p3) none p4.line X.env=pure false:=by rfl) :
  SO X g (.Expr (.Call (.Attribute (.Name x p1) ("append" : Str) p2) [e] [] p3) p4) (Z2 i f):=
 SO.w (EF (Hy PySem.F.plainAttrs_list PySem.F.slot_list_append PySem.F.type_list_append oY hv (S5 he.pe aq hs) J hfew U hs B) hsw) fun E σ H hQ=>by
  refine hQ.elim fun fa O s fl s' I q k=>?_
  cases Z:s.sl[i]? with
  |none=>simp only[Z2,Z] at q;cases q
  |some z=>
  cases z with
  |no=>simp only[Z2,Z] at q;cases q
  |v _=>simp only[Z2,Z] at q;cases q
  |own ds0=>
  simp only[Z2,Z] at q;obtain⟨a,xs0,e1,m,e2,_⟩:=SlR.own I.sl Z;refine v3 q fun d s1 h1 h2=>?_
  cases Y:s1.sl[i]? with
  |none=>simp only[Y] at h2;cases h2
  |some z=>
   cases z with
   |no=>simp only[Y] at h2;cases h2
   |v _=>simp only[Y] at h2;cases h2
   |own ds=>
    simp only[Y] at h2;by_cases hl:ds.length<sizeLine
    .rw[iO hl] at h2;cases h2;refine#[_,e1,.inl #[rfl,xs0,SqL.of e2],fa,O,s,d,s1,I,h1,fun v H1 f1 O1 a1 I1 r=>?_];obtain⟨b,xs,e3,m1,e4,r1⟩:=SlR.own I1.sl Y;rw[e1] at e3;cases e3;obtain⟨I2,a2⟩:=I1.rew Y e1 m1 e4 (Reps.append r1 (Reps.one r));exact#[a,xs,v,rfl,rfl,e4,by rw[r1.length];exact hl,k σ _ f1 O1 (a1.stp.trans a2) I2]
    .rw[iR hl] at h2;cases h2
end
noncomputable def C6 (t:D->DS->Option DS) (b:DM):List D->DS->Option (Fl × DS)
 |[],s=>some (.next,s)
 |d::r,s=>(t d s).bind fun s1=>(b s1).bind fun x=>match x.1 with
  |.next=>C6 t b r x.2
  |.cont=>C6 t b r x.2
  |.brk=>some (.next,x.2)
  |.ret v=>some (.ret v,x.2)
  |.thr c ds=>some (.thr c ds,x.2)
def Y8 (K:vF_) (g:Gh) (f1:vA_) (O1:vL_) (H1:Hp) (t:D->DS->Option DS) (b:DM) (ds:vD_) (fl:Fl) (sf:DS) (i:Nat):L2.St->Hp->Prop:=fun σ' H'=>
 ∃fa' O' s',Stp f1 O1 H1 fa' O' H'/\GI K g σ' H' fa' O' s'/\C6 t b (ds.drop i) s'=some (fl,sf)
section
variable {K:vF_}{f1:vA_}{O1:vL_}{t:D->DS->Option DS}{b:DM}{fl:Fl}{sf:DS}{E:Ends}{σ':L2.St}
def uk {α:Type}{l:List α}{d:α}(h:l[i]? = some d):l.drop i=d::l.drop (i+1):=by
 obtain⟨hi,e⟩:=Kr.mp h;rw[OP hi,e]
def hV (hk:FlK K g E f1 O1 H1 fl sf) {x:V}(hd:ds[i]? = some d) (hr:∀fa' O',Stp f1 O1 H1 fa' O' H'->Rep K (NN g.F fa' O') fa' H' d x) (h:Y8 K g f1 O1 H1 t b ds fl sf i σ' H') :
  liftG K g t x σ' H' fun σ2 H2=>liftS K g b { E with nx:=Y8 K g f1 O1 H1 t b ds fl sf (i+1),ct:=Y8 K g f1 O1 H1 t b ds fl sf (i+1),bk:=E.nx } σ2 H2:=by
 obtain⟨fa',O',s',st,I,e⟩:=h;rw[uk hd,C6] at e;refine V1 e fun s1 h1 h2=>?_
 refine v3 h2 fun fb s2 h3 h4=>?_
 refine#[fa',O',s',d,s1,I,hr fa' O' st,h1,fun σ2 H2 f2 O2 a2 I2=>#[f2,O2,s1,fb,s2,I2,h3,?_]];cases fb with
 |next=>exact fun σ3 Z J B U Y=>#[J,B,s2,st.trans (a2.trans U),Y,h4]
 |cont=>exact fun σ3 Z J B U Y=>#[J,B,s2,st.trans (a2.trans U),Y,h4]
 |brk=>cases h4;exact fun σ3 Z J B U Y=>hk σ3 Z J B (st.trans (a2.trans U)) Y
 |ret v=>cases h4;exact fun σ3 v Z J B U Y r=>hk σ3 v Z J B (st.trans (a2.trans U)) Y r
 |thr c es=>cases h4;exact fun σ3 C dx od xs Z J B U Y=>hk σ3 C dx od xs Z J B (st.trans (a2.trans U)) Y
def gY (J:FlK K g E f1 O1 H1 fl sf) {n:Nat}(B:ds.length<=n) (h:Y8 K g f1 O1 H1 t b ds fl sf n σ' H'):E.nx σ' H':=by
 obtain⟨fa',O',s',st,I,e⟩:=h;rw[OQ B,C6] at e;cases e;exact J σ' H' fa' O' st I
end
noncomputable def R4 (f:DE) (t:D->DS->Option DS) (b:DM):DM:=fun s=>(f s).bind fun x=>match x.1 with
 |.lst ds=>C6 t b ds x.2
 |.tup ds=>C6 t b ds x.2
 |_=>none
section
variable {f:DE}{t:D->DS->Option DS}{b:DM}{pos:Pos}
def Dm (K:vF_) (tl:TE):TI:=fun σ H R=>tl σ H fun x H1=>∃a,x = .ref a/\(((∃xs,SqL K H1 a xs)/\R (eG K a) H1)\/((∃xs,SqT K H1 a xs)/\R (ft K a) H1))
def vS {tl:TE}(hl:PE X l tl):PI X tg l (Dm X.K tl):=by
 intro pins s σ H R I h;refine l6 (hl pins s σ H _ I h) fun v s1 ⟨x,H1,B,Y,q1⟩=>?_
 obtain⟨a,e,q⟩:=q1;subst e;cases Y;rcases q with ⟨⟨xs,U⟩,q⟩ | ⟨⟨xs,U⟩,q⟩
 .obtain⟨its,rv,p,Z⟩:=B.list U;refine wpAny_pyIter_list p.isList ?_;refine#[s1.heap.objs.size,[s1.heap.objs.size],_,_,H1,rfl,B.kept (t':=s1.toks) fun b o e=>JI _ e,zF a _,#[_,Kg _ rfl,rfl,rfl],fun b J=>?_,q];have e:b=s1.heap.objs.size:=by simpa using J
  subst e;exact B.fpOk (tx _) (B.hok.fresh (tx _))
 .obtain⟨its,rv,p,Z⟩:=B.tuple U;refine MA (show s1.heap.IsTuple a its.toArray from p) ?_;refine#[s1.heap.objs.size,[s1.heap.objs.size],_,_,H1,rfl,B.kept (t':=s1.toks) fun b o e=>JI _ e,Bp a _,#[_,Kg _ rfl,rfl,rfl],fun b J=>?_,q];have e:b=s1.heap.objs.size:=by simpa using J
  subst e;exact B.fpOk (tx _) (B.hok.fresh (tx _))
def uR (hp:PassesOwn (model X.prog X.w) X.A X.env X.xe) (hc:X.calm=true) (he:EO X g iter f) (hg:GO X g tg t) (hb:SSO X g body b) (hs:∀x,foldedSetIterable iter X.env x=pure x:=by intro _;rfl) :
  SO X g (.For tg iter body [] pos) (R4 f t b):=SO.w (mF hp hc (vS he.pe) hg.pe hb.pe hs) fun E σ H Z=>by
 refine Z.elim fun fa O s fl sf I q k=>?_
 refine v3 q fun d s1 h1 h2=>?_
 refine#[fa,O,s,d,s1,I,h1,fun v H1 f1 O1 a1 B r=>?_];have k1:=k.shift a1.stp;cases d with
 |lst ds=>
  simp only[Rep] at r;obtain⟨a,xs,rfl,na,q,w⟩:=r;refine#[a,rfl,.inl #[#[xs,SqL.of q],BU (xs:=xs) (Y8 X.K g f1 O1 H1 t b ds fl sf) #[f1,O1,s1,Stp.refl,B,h2] ?_ ?_ ?_]]
  .rintro i σ' H' _ ⟨fa',O',s',st,I',e⟩;exact SqL.of ((B.car st).ls a xs na q).1
  .intro i x σ' H' J h;obtain⟨d,Y,U⟩:=Reps.get' w J;exact hV k1 Y (fun fa' O' st=>Rep.stp B st U) h
  .intro σ' H' h;exact gY k1 (Nb w.length.symm) h
 |tup ds=>
  simp only[Rep] at r;obtain⟨a,xs,rfl,q,w⟩:=r;refine#[a,rfl,.inr #[#[xs,q],jQ (xs:=xs) (Y8 X.K g f1 O1 H1 t b ds fl sf) #[f1,O1,s1,Stp.refl,B,h2] ?_ ?_ ?_]]
  .rintro i σ' H' _ ⟨fa',O',s',st,I',e⟩;exact(B.car st).tp a xs q
  .intro i x σ' H' J h;obtain⟨d,Y,U⟩:=Reps.get' w J;exact hV k1 Y (fun fa' O' st=>Rep.stp B st U) h
  .intro σ' H' h;exact gY k1 (Nb w.length.symm) h
 |_=>cases h2
def A2 (lo:Int) (n:Nat):List D:=(List.range n).map fun (i:Nat)=>D.int (lo+(i:Int))
def mW {lo:Int}{n:Nat}(h:i<n):(A2 lo n)[i]? = some (.int (lo+(i:Int))):=by simp[A2,h]
def Q1 (lo:Int) (n:Nat):(A2 lo n).length=n:=by simp[A2]
def N4:List D->Option (List D)
 |[.int j]=>if -(2 ^ 62)<=j/\j<2 ^ 62 then some (A2 0 j.toNat) else none
 |[.int i,.int j]=>if -(2 ^ 62)<=i/\i<2 ^ 62 /\ -(2 ^ 62)<=j/\j<2 ^ 62 then some (A2 i (j - i).toNat) else none
 |_=>none
noncomputable def X9 (f:DA) (t:D->DS->Option DS) (b:DM):DM:=fun s=>(f s).bind fun x=>(N4 x.1).bind fun ds=>C6 t b ds x.2
def wB {es:vD_}{a:D}(h:N4 ds=some es) (l:ds=[a]):∃j:Int,a = .int j /\ -(2 ^ 62)<=j/\j<2 ^ 62/\es=A2 0 j.toNat:=by
 subst l;cases a with
 |int j=>
  have h:(if -(2 ^ 62)<=j/\j<2 ^ 62 then some (A2 0 j.toNat) else none)=some es:=h;by_cases B:-(2 ^ 62)<=j/\j<2 ^ 62
  .rw[iO B] at h;cases h;exact#[j,rfl,B.1,B.2,rfl]
  .rw[iR B] at h;cases h
 |_=>cases h
def kU {a:Expr}{fa:DE}{p cpos:Pos}(hp:PassesOwn (model X.prog X.w) X.A X.env X.xe) (hc:X.calm=true) (J:Gl X "range") (Z:X.mg "range" = none) (ha:EO X g a fa) (hg:GO X g tg t) (hb:SSO X g body b)
  (B:starEach [a] X.env=[(false,eval a X.env)]:=by rfl) (hs:∀x,foldedSetIterable (.Call (.Name "range" p) [a] [] cpos) X.env x=pure x:=by intro _;rfl) :
  SO X g (.For tg (.Call (.Name "range" p) [a] [] cpos) body [] pos) (X9 (a8 fa a9) t b):=
 SO.w (mF hp hc (rz J Z (nv ha dZ B).pe B) hg.pe hb.pe hs) fun E σ H Y=>by
  refine Y.elim fun fa O s fl sf I q k=>?_
  refine v3 q fun ds s1 h1 h2=>?_
  refine V1 h2 fun es h3 h4=>?_
  obtain⟨d,s2,rs,e1,e2,U⟩:=eF h1;cases e2;obtain⟨j,rfl,j1,j2,rfl⟩:=wB h3 U;refine#[fa,O,s,ds,s1,I,h1,fun vs H1 f1 O1 a1 I1 r=>?_];have k1:=k.shift a1.stp;rw[U] at r;simp only[Reps,Rep] at r;obtain⟨x,ys,rfl,rfl,rfl⟩:=r;refine#[j,rfl,j1,j2,Fn (lo:=0) (n:=j.toNat) (Y8 X.K g f1 O1 H1 t b (A2 0 j.toNat) fl sf) #[f1,O1,s1,Stp.refl,I1,h4] ?_ ?_]
  .intro i σ' H' hi h;exact hV k1 (mW hi) (fun fa' O' st=>by simp only[Rep]) h
  .intro σ' H' h;exact gY k1 (by rw[Q1];exact tx _) h
def M3 (c:DT) (b:DM):Nat->DS->Option (Fl × DS)
 |0,_=>none
 |n+1,s=>(c s).bind fun x=>if x.1=true then (b x.2).bind fun y=>match y.1 with
   |.next=>M3 c b n y.2
   |.cont=>M3 c b n y.2
   |.brk=>some (.next,y.2)
   |.ret v=>some (.ret v,y.2)
   |.thr c ds=>some (.thr c ds,y.2)
  else some (.next,x.2)
open Classical in
def Q7 (c:DT) (b:DM):DM:=fun s=>if h:∃n r,M3 c b n s=some r then M3 c b h.choose s else none
theorem mL {c:DT}{b:DM}:∀(n:Nat) {s:DS}{r:Fl × DS},M3 c b n s=some r->M3 c b (n+1) s=some r
 |0,s,r,h=>by cases h
 |n+1,s,r,h=>by
  rw[M3] at h ⊢;refine v3 h fun x s1 h1 h2=>?_
  refine Lv.mpr #[(x,s1),h1,?_];cases x with
  |false=>exact h2
  |true=>
   simp only[Kh] at h2 ⊢;refine v3 h2 fun y s2 J B=>?_
   refine Lv.mpr #[(y,s2),J,?_];cases y with
   |next=>exact mL n B
   |cont=>exact mL n B
   |brk=>exact B
   |ret v=>exact B
   |thr c ds=>exact B
def tG {c:DT}{b:DM}{n m:Nat}(B:n<=m) {s:DS}{r:Fl × DS}(h:M3 c b n s=some r):M3 c b m s=some r:=by
 induction B with
 |refl=>exact h
 |step _ J=>exact mL _ J
def tS {c:DT}{b:DM}{n:Nat}{s:DS}{r:Fl × DS}(h:M3 c b n s=some r):Q7 c b s=some r:=by
 have B:∃n r,M3 c b n s=some r:=#[n,r,h]
 unfold Q7;rw[dif_pos B];obtain⟨Y,h'⟩:=B.choose_spec;have U:=tG (Nat.le_max_left n B.choose) h;have J:=tG (Nat.le_max_right n B.choose) h';rw[U] at J;rw[h',J]
def rQ {c:DT}{b:DM}{s:DS}{r:Fl × DS}(h:Q7 c b s=some r):∃n,M3 c b n s=some r:=by
 unfold Q7 at h;by_cases B:∃n r,M3 c b n s=some r
 .rw[dif_pos B] at h;exact#[_,h]
 .rw[dif_neg B] at h;cases h
def aL {c:DT}{b:DM}{s:DS}{r:Fl × DS}(h1:c s=some (true,s1)) (h2:b s1=some (.next,s2)) (B:Q7 c b s2=some r):Q7 c b s=some r:=by
 obtain⟨n,h⟩:=rQ B;refine tS (n:=n+1) ?_;rw[M3,h1];simp only[xl,Kh,h2];exact h
def eM {c:DT}{b:DM}{s:DS}(h1:c s=some (false,s1)):Q7 c b s=some (.next,s1):=by
 refine tS (n:=1) ?_;rw[M3,h1];simp
def IE {c:Expr}(hp:PassesOwn (model X.prog X.w) X.A X.env X.xe) (hc:TO X g c fc) (hb:SSO X g body b):SO X g (.While c body [] pos) (Q7 fc b):=SO.w (Br hp hc.pe hb.pe) fun E σ H hQ=>by
 refine hQ.elim fun fa O s fl sf I q k=>?_
 obtain⟨n,h⟩:=rQ q;refine#[fun m σ' H'=>∃fa' O' s',Stp fa O H fa' O' H'/\GI X.K g σ' H' fa' O' s'/\M3 fc b m s'=some (fl,sf),#[n,fa,O,s,Stp.refl,I,h],?_];rintro m σ1 H1 ⟨f1,O1,s1,a1,I1,h1⟩;cases m with
 |zero=>cases h1
 |succ m=>
  rw[M3] at h1;refine v3 h1 fun x s2 h2 h3=>?_
  refine#[f1,O1,s1,x,s2,I1,h2,fun H2 f2 O2 a2 I2=>?_];cases x with
  |false=>rw[iR JQ] at h3 ⊢;cases h3;exact k σ1 H2 f2 O2 (a1.trans a2.stp) I2
  |true=>
   rw[iO rfl] at h3 ⊢;refine v3 h3 fun y s3 h4 h5=>?_
   refine#[fun σ' H'=>∃fa' O' s',Stp fa O H fa' O' H'/\GI X.K g σ' H' fa' O' s'/\M3 fc b m s'=some (fl,sf),fun σ' H' z=>#[m,Nat.lt_succ_self m,z],f2,O2,s2,y,s3,I2,h4,?_];have B:=a1.trans a2.stp;cases y with
   |next=>exact fun σ3 H3 Y U Z J=>#[Y,U,s3,B.trans Z,J,h5]
   |cont=>exact fun σ3 H3 Y U Z J=>#[Y,U,s3,B.trans Z,J,h5]
   |brk=>cases h5;exact fun σ3 H3 Y U Z J=>k σ3 H3 Y U (B.trans Z) J
   |ret v=>cases h5;exact fun σ3 v H3 Y U Z J r=>k σ3 v H3 Y U (B.trans Z) J r
   |thr c es=>cases h5;exact fun σ3 C dx od xs H3 Y U Z J=>k σ3 C dx od xs H3 Y U (B.trans Z) J
end
abbrev c9:=List D->Option FS->Option (D × Option FS)
variable {m mo:c9}
def dI (K:vF_) (n:Nat) (m:c9):Sp:=fun vs H Q _=>∃(F:vB_) (fa:vA_) (ds:vD_) (fs:vO_) (d:D) (fs':vO_),
 (∀b,F b->H b≠none)/\(∀a,fa=some a->F a)/\Reps K F fa H ds vs/\FeedR F H fa fs/\m ds fs=some (d,fs')/\ds.length=n /\
  ∀v H' fa',Stp fa [] H fa' [] H'->FeedR (fun b=>F b\/fa'=some b) H' fa' fs'->Rep K (fun b=>F b\/fa'=some b) fa' H' d v->Q v H'
abbrev fD (P:Program) (w:World) (K:vF_) (mg:vG_) (base:Heap) (k:Nat) (f:Addr) (fd:FuncData) (ps:List Str) (m:c9):Prop:=FnOk P w K mg base U9 k f fd ps (dI K ps.length m)
noncomputable def B3 (n:Nat) (b:DM):c9:=fun ds fs=>(b #[ds.map .v++List.replicate (n - ds.length) .no,fs]).bind fun x=>match x.1 with
 |.ret d=>some (d,x.2.fs)
 |.next=>some (.non,x.2.fs)
 |_=>none
theorem pM {K:vF_}:∀n:Nat,SlR K N fa H (List.replicate n .no) (List.replicate n none) []
 |0=>by simp[SlR]
 |n+1=>by
  simp only[LQ,SlR];exact#[_,_,rfl,pM n]
theorem my {K:vF_}{n:Nat}:∀{ds:vD_}{vs:List V},Reps K N fa H ds vs->SlR K N fa H (ds.map .v++List.replicate n .no) (vs.map some++List.replicate n none) []
 |[],vs,h=>by simp only[Reps] at h;subst h;simpa using pM n
 |d::r,vs,h=>by
  simp only[Reps] at h;obtain⟨x,ys,rfl,h1,h2⟩:=h;simp only[JS,My,SlR];exact#[x,_,rfl,h1,my h2]
section
variable {P:Program}{w:World}{K:vF_}
def wu {st:Stmt}{N ps:List Str}{k:Nat}{b:DM}(F:Fun K x qual st f fd) (S:FnScope N ps (B8 st))
  (J:∀(cdv:Value) (A:Around) (outer:List Env) (s:Shared) (H:Hp) (E:XK) (g:Gh),Room k (A.deeper (PyProof.Rows.envOfC qual (B8 st) s.heap.objs.size f cdv))->SSO (O7 U9 P w K mg base N qual (B8 st) f cdv A outer s H E).nox g (N6 st) b) :
  fD P w K mg base (k+1) f fd ps (B3 N.length b):=by
 refine F.ok S (fun vs H Q E h=>?_) (fun cdv A outer s H vs Q E hr h=>?_)
 .obtain⟨F,fa,ds,fs,d,fs',_,_,r,_,_,hl,_⟩:=h;rw[r.length];exact hl
 refine gB_ fun G_ g_=>?_
 obtain⟨F,fa,ds,fs,d,fs',tr,ff,r,fd,e,hl,q⟩:=h;apply g_;refine#[_,(J cdv A outer s H E #[F,H,fa,fun _=>E0] hr).pe,?_];refine v3 e fun fl s' h1 h2=>?_
 have hN:∀b,NN F fa [] b->F b:=fun b z=>by
  rcases z with z | z | z
  .exact z
  .cases z
  .exact ff b z
 have c:Car K F fa H (NN F fa []) fa H:=#[fun b xs n q=>#[q,fun z=>n (hN b z)],fun _ _ q=>q,fun _ _ q=>q,fun _ q=>q]
 have el:(L2.start N vs)=vs.map some++List.replicate (N.length - ds.length) none:=by rw[L2.start,r.length]
 have I:GI K #[F,H,fa,fun _=>E0] (L2.start N vs) H fa [] #[ds.map .v++List.replicate (N.length - ds.length) .no,fs]:=by
  refine#[Nf,?_,fun b Z=>(by cases Z),Stp.refl,tr,ff,fd.car c fun _ _=>rfl,fun _ _ z=>(by cases z)];rw[el];exact my (Reps.go c ds vs r)
 have U:∀{fa':vA_}{O':vL_}{H':Hp}{σ':L2.St}{v:V}{dd:D},Stp fa [] H fa' O' H'->GI K #[F,H,fa,fun _=>E0] σ' H' fa' O' s'->Rep K (NN F fa' O') fa' H' dd v->dd=d->s'.fs=fs'->Q v H':=by
  intro fa' O' H' σ' v dd B Y r1 e1 e2;subst e1;subst e2;have c1:Car K (NN F fa' O') fa' H' (fun b=>F b\/fa'=some b) fa' H':=#[fun b xs n q=>#[q,fun z=>n (by
   rcases z with z | z
   .exact .inl z
   .exact .inr (.inr z))],fun _ _ q=>q,fun _ _ q=>q,fun _ q=>q]
  exact q v H' fa' #[fun b Z=>(by cases Z),B.fe,B.same,B.mon] (Y.fd.car c1 fun _ _=>rfl) (Rep.go c1 _ _ r1)
 refine#[fa,[],_,fl,s',I,h1,?_];cases fl with
 |next=>
  simp only[Kj,JU] at h2;exact fun σ' H' fa' O' B Y=>U B Y (v:=.non) (dd:=.non) (by simp only[Rep]) h2.1 h2.2
 |ret dd=>
  simp only[Kj,JU] at h2;exact fun σ' v H' fa' O' B Y r1=>U B Y r1 h2.1 h2.2
 |brk=>cases h2
 |cont=>cases h2
 |thr _ _=>cases h2
end
noncomputable def d8 (m:c9) (f:DA):DE:=fun s=>(f s).bind fun x=>(m x.1 x.2.fs).map fun y=>(y.1,{ x.2 with fs:=y.2 })
section
variable {k:Nat}{ps:List Str}{p pos:Pos}{t:DA}
def yx {n:Nat}(hn:∀s ds s',t s=some (ds,s')->ds.length=n) (σ:L2.St) (H:Hp) (Q:VK) (h:liftE X.K g (d8 m t) σ H Q):pF (dI X.K n m) [] E0 (liftA X.K g t) σ H Q:=by
 obtain⟨fa,O,s,d,s',I,q,k⟩:=h;refine v3 q fun ds s1 h1 h2=>?_
 refine mapP h2 fun d1 fs1 h3 h4=>?_
 simp only[JU] at h4;obtain⟨e1,e2⟩:=h4;subst e1;subst e2;refine#[fa,O,s,ds,s1,I,h1,fun vs H1 f1 O1 a1 B r=>?_];show dI X.K n m (vs++[]) H1 Q E0;rw[La];refine#[NN g.F f1 O1,f1,ds,s1.fs,d1,fs1,fun b J=>B.nn_tracked J,fun a ha=>.inr (.inr ha),r,B.fd,h3,hn s ds s1 h1,fun v H2 U Y fd2 r2=>?_];have Z:StE f1 O1 H1 U O1 H2:=#[fun b J=>J,Y.fe,fun b u e n=>Y.same b u e (by simp) n,Y.mon]
 have c:=B.car Z.stp;have c2:Car X.K (fun b=>NN g.F f1 O1 b\/U=some b) U H2 (NN g.F U O1) U H2:=#[fun b xs n q=>#[q,fun z=>n (by
   rcases z with z | z | z
   .exact .inl (.inl z)
   .exact .inl (.inr (.inl z))
   .exact .inr z)],fun _ _ q=>q,fun _ _ q=>q,fun _ q=>q]
 refine k v H2 U O1 (a1.trans Z) #[B.nd,SlR.go c (fun b xs J e=>?_) B.sl,B.fr,B.st.trans #[fun b J=>(by cases J),Y.fe,fun b u e n z=>Y.same b u e n z,Y.mon],B.tr,B.ff,fd2.car c2 fun _ _=>rfl,B.nf_step Z.fe] (Rep.go c2 _ _ r2);exact Z.same b _ e fun z=>B.nf b z J
def JA (F:fD X.prog X.w X.K X.mg X.base k f fd ps m) (hr:Room k X.A) (Y:Gl X x) (Z:X.mg x=some (.ref f)) (hk:PySem.W.keepIn X.K (.ref f)=true) (hb:Binds X.K fd ps [])
  (U:AO X g (e::es) t) (hn:∀s ds s',t s=some (ds,s')->ds.length=ps.length) (B:(x == ("__debug__" : Str))=false:=by decide) (he:starEach (e::es) X.env=(false,eval e X.env)::starEach es X.env:=by rfl) (J:(backTo pos (starEach es X.env)).any (·.1)=false:=by rfl) :
  EO X g (.Call (.Name x p) (e::es) [] pos) (d8 m t):=EO.w (xN F hr Y Z hk hb .nil Cu U.pe B he J) (yx hn)
def W0:∀s ds s',a9 s=some (ds,s')->ds.length=0:=fun s ds s' h=>by cases h;rfl
def G1 {a:DE}{r:DA}{n:Nat}(h:∀s ds s',r s=some (ds,s')->ds.length=n):∀s ds s',a8 a r s=some (ds,s')->ds.length=n+1:=fun s ds s' q=>by
 obtain⟨d,s1,es,h1,h2,B⟩:=eF q;subst B;simp[h _ _ _ h2]
end
def kR (K:vF_) (N:vB_) (fa:vA_) (H1:Hp) (J:It) (ds:vD_):Prop:=∀N' fa' H',Car K N fa H1 N' fa' H'->(∀b u,H1 b=some u->fa≠some b->H' b=some u)->∀i:Nat,
 (∀d,ds[i]? = some d->J.go i H'/\∀x H'',J.yld i H' x H''->H''=H'/\Rep K N' fa' H' d x)/\(ds.length<=i->J.stop i H')
def liftI (K:vF_) (g:Gh) (f:DA):TI:=fun σ H R=>∃fa O s ds s',GI K g σ H fa O s/\f s=some (ds,s')/\ds.length<=sizeLine /\
 ∀J H' fa' O',StE fa O H fa' O' H'->GI K g σ H' fa' O' s'->kR K (NN g.F fa' O') fa' H' J ds->R J H'
section
variable {K:vF_}{σ:L2.St}
def liftI.elim {f:DA}{R:It->Hp->Prop}(h:liftI K g f σ H R) (k:∀fa O s ds s',GI K g σ H fa O s->f s=some (ds,s')->ds.length<=sizeLine->(∀J H' fa' O',StE fa O H fa' O' H'->GI K g σ H' fa' O' s'->kR K (NN g.F fa' O') fa' H' J ds->R J H')->G):G:=by
 obtain⟨fa,O,s,d,s',a,r,b,c⟩:=h;exact k fa O s d s' a r b c
end
structure IO (X:Cx) (g:Gh) (tg iter:Expr) (f:DA):Prop where
 pe:PI X tg iter (liftI X.K g f)
def dR (f:DE):DA:=fun s=>(f s).bind fun x=>match x.1 with
 |.lst ds=>some (ds,x.2)
 |.tup ds=>some (ds,x.2)
 |_=>none
def G8 (f:DA):DA:=fun s=>(f s).bind fun x=>(N4 x.1).map fun ds=>(ds,x.2)
section
variable {f:DE}
def Ir {t t':TI}(h:PI X tg iter t) (w:∀σ H R,t' σ H R->t σ H R):PI X tg iter t':=fun pins s σ H R I q=>h pins s σ H R I (w σ H R q)
theorem IO.w {f:DA}{t:TI}(h:PI X tg iter t) (w:∀σ H R,liftI X.K g f σ H R->t σ H R):IO X g tg iter f:=#[Ir h w]
def kQ (h:EO X g iter f):IO X g tg iter (dR f):=IO.w (vS h.pe) fun σ H R hQ=>by
 refine hQ.elim fun fa O s ds s' I e hz k=>?_
 refine v3 e fun d s1 h1 h2=>?_
 refine#[fa,O,s,d,s1,I,h1,fun v H1 f1 O1 a1 I1 r=>?_];cases d with
 |lst es=>
  cases h2;simp only[Rep] at r;obtain⟨a,xs,rfl,na,q,w⟩:=r;refine#[a,rfl,.inl #[#[xs,SqL.of q],k _ H1 f1 O1 a1 I1 fun N' fa' H' c _ i=>#[fun d Y=>?_,fun hl=>?_]]]
  .obtain⟨x,B,U⟩:=Reps.get w Y;have J:=(c.ls a xs na q).1;refine#[#[xs,x,SqL.of J,B],fun y H'' Z=>?_];obtain⟨e1,e2⟩:=Z;have:=e2 xs (SqL.of J);rw[B] at this;cases this;exact#[e1,Rep.go c d x U]
  .exact#[xs,SqL.of (c.ls a xs na q).1,by rw[w.length];exact hl]
 |tup es=>
  cases h2;simp only[Rep] at r;obtain⟨a,xs,rfl,q,w⟩:=r;refine#[a,rfl,.inr #[#[xs,q],k _ H1 f1 O1 a1 I1 fun N' fa' H' c _ i=>#[fun d Y=>?_,fun hl=>?_]]]
  .obtain⟨x,B,U⟩:=Reps.get w Y;have J:=c.tp a xs q;refine#[#[xs,x,J,B],fun y H'' Z=>?_];obtain⟨e1,e2⟩:=Z;have:=e2 xs J;rw[B] at this;cases this;exact#[e1,Rep.go c d x U]
  .exact#[xs,c.tp a xs q,by rw[w.length];exact hl]
 |_=>cases h2
def BE {K:vF_}(lo:Int) (n:Nat):kR K N fa H1 (bF lo n) (A2 lo n):=fun N' fa' H' c _ i=>#[fun d B=>by
 have hi:i<n:=by have:=(Kr.mp B).1;rwa [Q1] at this
 rw[mW hi] at B;cases B;refine#[hi,fun x H'' U=>?_];obtain⟨Z,Y⟩:=U;subst Y;exact#[Z,by simp only[Rep]],fun J=>by rw[Q1] at J;exact J]
def eW {a:Expr}{fa:DE}{p cpos:Pos}(J:Gl X "range") (Z:X.mg "range" = none) (ha:EO X g a fa) (B:starEach [a] X.env=[(false,eval a X.env)]:=by rfl) :
  IO X g tg (.Call (.Name "range" p) [a] [] cpos) (G8 (a8 fa a9)):=IO.w (rz J Z (nv ha dZ B).pe B) fun σ H R Y=>by
 refine Y.elim fun fa O s es s' I q hz k=>?_
 refine v3 q fun ds s1 h1 h2=>?_
 refine M6 h2 fun es' h3 h4=>?_
 cases h4;obtain⟨d,s2,rs,e1,e2,U⟩:=eF h1;cases e2;obtain⟨j,rfl,j1,j2,rfl⟩:=wB h3 U;refine#[fa,O,s,ds,_,I,h1,fun vs H1 f1 O1 a1 I1 r=>?_];rw[U] at r;simp only[Reps,Rep] at r;obtain⟨x,ys,rfl,rfl,rfl⟩:=r;exact#[j,rfl,j1,j2,k _ H1 f1 O1 a1 I1 (BE 0 j.toNat)]
end
def dD (sl:List Sl) (i:Nat):Sl:=match sl[i]? with
 |some (Sl.v d)=>Sl.v d
 |_=>Sl.no
def X6 (idx:List Nat) (sl:List Sl):List Sl:=idx.map (dD sl)
noncomputable def D3 (mk:D->Option (List Sl)) (fc:DT) (fe:DE):List D->Option FS->Option (List D × Option FS)
 |[],fs=>some ([],fs)
 |d::r,fs=>(mk d).bind fun sl=>(fc #[sl,fs]).bind fun c=>if c.1=true then (fe c.2).bind fun y=>(D3 mk fc fe r y.2.fs).map fun z=>(y.1::z.1,z.2) else D3 mk fc fe r c.2.fs
noncomputable def K6 (idx:List Nat) (fi:DA) (fc:DT) (fe:DE):DA:=fun s=>(fi s).bind fun x=>if x.1.length<=sizeLine then (D3 (fun d=>some (.v d::X6 idx x.2.sl)) fc fe x.1 x.2.fs).map fun y=>(y.1,{ x.2 with fs:=y.2 }) else none
def FF (g:Gh) (fa:vA_) (O:vL_) (p:Addr):Addr->Prop:=fun b=>NN g.F fa O b\/b=p
structure CI (K:vF_) (g:Gh) (f1:vA_) (O1:vL_) (Hd:Hp) (p:Addr) (fa:vA_) (H:Hp) (ys:List V) (res:vD_) (fs:vO_):Prop where
 st:Stp f1 [p] Hd fa [p] H
 ls:H p=some (.lst ys)
 rs:Reps K (FF g fa O1 p) fa H res ys
 fd:FeedR (FF g fa O1 p) H fa fs
 nf:fa≠some p
section
variable {K:vF_}{f1:vA_}{O1:vL_}{Hd:Hp}{p:Addr}{res:vD_}{fs:vO_}
def CI.nofa (c:CI K g f1 O1 Hd p fa H ys res fs):fa≠some p:=c.nf
def DC (U:∀xs,fa≠none->∀a,fa=some a->¬ Rd H a (.tup xs)) (B:∀a,fa=some a->∀o u,¬ H a=some (.frz o u)) (a:StE fa [] H fa' [] H'):Car K (FF g fa O1 p) fa H (FF g fa' O1 p) fa' H':=by
 refine#[fun b xs n q=>#[a.same b _ q fun z=>n (.inl (.inr (.inr z))),fun z=>?_],fun b xs q=>?_,fun b xs q=>?_,fun x e=>a.stp.fa_keep e]
 .rcases z with (z | z | z) | z
  .exact n (.inl (.inl z))
  .exact n (.inl (.inr (.inl z)))
  .rcases a.fe with e | ⟨e,h⟩
   .exact n (.inl (.inr (.inr (e▸z))))
   .rw[h b z] at q;cases q
  .exact n (.inr z)
 .refine SqT.stp' a.stp (fun x e ys=>U ys (by rw[e];simp) x e) (fun x J=>by cases J) q
 .cases xs with
  |inl xs=>exact q.imp (fun ⟨o,q⟩=>#[o,a.same _ _ q fun z=>B b z _ _ q]) id
  |inr p=>exact a.same _ _ q fun z=>B b z _ _ q
def yw (h:FeedR N H fa fs):∀xs,fa≠none->∀a,fa=some a->¬ Rd H a (.tup xs):=fun xs _ a e z=>h.no_tup e z
def CI.step (c:CI K g f1 O1 Hd p fa H ys res fs) (a:StE fa [] H fa' [] H') {g':Gh}{s':DS}(U:∀b,FF g fa' O1 p b->NN g'.F fa' [] b) (I:GI K g' σ H' fa' [] s'):CI K g f1 O1 Hd p fa' H' ys res s'.fs:=by
 have B:Car K (FF g fa O1 p) fa H (FF g fa' O1 p) fa' H':=DC (yw c.fd) (fun x e o u=>c.fd.no_frz e) a;refine#[c.st.trans #[fun b J=>.inl J,a.fe,fun b u e _ n=>a.same b u e n,a.mon],a.same p _ c.ls c.nofa,Reps.go B _ _ c.rs,I.fd.car (K:=K) #[fun b xs n q=>#[q,fun z=>n (U b z)],fun _ _ q=>q,fun _ _ q=>q,fun _ q=>q] fun _ _=>rfl,fun z=>?_];rcases a.fe with y | ⟨_,y⟩
 .rw[y] at z;exact c.nf z
 .have:=c.ls;rw[y p z] at this;cases this
def CI.app (c:CI K g f1 O1 Hd p fa H ys res fs) {v:V}(Z:∀b,FF g fa O1 p b->N b) (r:Rep K N fa H d v):CI K g f1 O1 Hd p fa (j5 H p (.lst (ys++[v]))) (ys++[v]) (res++[d]) fs:=by
 have J:Car K (FF g fa O1 p) fa H (FF g fa O1 p) fa (j5 H p (.lst (ys++[v]))):=by
  refine#[fun b xs n q=>#[by rw[m9 (fun z=>n (.inr z))];exact q,n],fun b xs q=>?_,fun b xs q=>?_,fun _ q=>q]
  .rcases q with (q | ⟨o,q⟩) | q
   .exact .inl (.inl (by rw[m9 (fun z=>by rw[z,c.ls] at q;cases q)];exact q))
   .exact .inl (.inr #[o,by rw[m9 (fun z=>by rw[z,c.ls] at q;cases q)];exact q])
   .exact .inr q
  .have U:∀o u,H b=some (.frz o u)->j5 H p (.lst (ys++[v])) b=some (.frz o u):=fun o u q=>by rw[m9 (fun z=>by rw[z,c.ls] at q;cases q)];exact q
   cases xs with
   |inl xs=>exact q.imp (fun ⟨o,q⟩=>#[o,U _ _ q]) id
   |inr p=>exact U _ _ q
 have Y:Car K N fa H (FF g fa O1 p) fa H:=#[fun b xs n q=>#[q,fun z=>n (Z b z)],fun _ _ q=>q,fun _ _ q=>q,fun _ q=>q]
 refine#[c.st.trans #[fun b B=>.inl B,.inl rfl,fun b u e n _=>by rw[m9 (fun z=>n (by simp[z]))];exact e,fun b z=>?_],D2,?_,c.fd.car J fun a e=>m9 fun z=>c.nofa (z▸e),c.nf]
 .by_cases B:b=p
  .subst B;rw[D2] at z;cases z
  .rw[m9 B] at z;exact z
 .exact Reps.append (Reps.go J _ _ c.rs) (Reps.one (Rep.go J _ _ (Rep.go Y _ _ r)))
end
section
variable {pos:Pos}
def cM (X:Cx) (g:Gh) (ifs:List Expr) (f:DT):Prop:=dF X ifs (liftT X.K g f)
def L8:DT:=fun s=>some (true,s)
def fG:cM X g [] L8:=fun pins s σ H Q I ⟨fa,O,s0,d,s',G,e,k⟩=>zm pins s σ H Q I (by cases e;exact k H fa O StE.refl G)
def kY {c:Expr}{f:DT}(h:TO X g c f):cM X g [c] f:=Iv h.pe
theorem sY {K:vF_}(h:SlR K N fa H sl σ O):∀idx:List Nat,SlR K N fa H (X6 idx sl) (idx.map fun i=>(σ[i]?).join) []
 |[]=>by simp[X6,SlR]
 |i::r=>by
  have B:=sY h r;have J:∀e:sl[i]? = none\/(∃z,sl[i]? = some z/\∀d,z ≠ .v d),dD sl i = .no:=fun e=>by
   unfold dD;rcases e with e | ⟨z,e,n⟩
   .rw[e]
   .rw[e];cases z with
    |v d=>exact absurd rfl (n d)
    |no=>rfl
    |own ds=>rfl
  show SlR K N fa H (dD sl i::X6 r sl) ((σ[i]?).join::r.map fun i=>(σ[i]?).join) [];cases e:sl[i]? with
  |none=>
   rw[J (.inl e)];simp only[SlR];exact#[_,_,rfl,B]
  |some z=>
   cases z with
   |no=>
    rw[J (.inr #[_,e,fun d z=>by cases z])];simp only[SlR];exact#[_,_,rfl,B]
   |own ds=>
    rw[J (.inr #[_,e,fun d z=>by cases z])];simp only[SlR];exact#[_,_,rfl,B]
   |v d=>
    obtain⟨u,U,q⟩:=SlR.val h e;have Y:dD sl i = .v d:=by unfold dD;rw[e]
    rw[Y];simp only[SlR];exact#[u,_,by rw[U];rfl,q,B]
def yO (mk:List Sl->D->Option (List Sl)) (fi:DA) (fc:DT) (fe:DE):DA:=fun s=>(fi s).bind fun x=>if x.1.length<=sizeLine then (D3 (mk x.2.sl) fc fe x.1 x.2.fs).map fun y=>(y.1,{ x.2 with fs:=y.2 }) else none
def qQ {n:Nat}{G:TG}(hG:∀(N:vB_) (fa:vA_) (sl:List Sl) (d:D) (sl0:List Sl) (x:V) (σ:L2.St) (H:Hp) (Q:L2.St->Hp->Prop),mk sl d=some sl0->Rep X.K N fa H d x->SlR X.K N fa H (X6 idx sl) (idx.map fun i=>(σ[i]?).join) [] ->
  (∀σ':L2.St,(σ'.length=(F3 n idx σ).length/\∀(j:Nat) (v:V),(F3 n idx σ)[j]? = some (some v)->σ'[j]? = some (some v))->SlR X.K N fa H sl0 σ' []->Q σ' H)->G x (F3 n idx σ) H Q):∀σ H Q,liftF X.K g (yO mk fi fc fe) σ H Q->cj n idx (liftI X.K g fi) G (fun σ H Q=>∃g',liftT X.K g' fc σ H Q) (fun σ H Q=>∃g',liftE X.K g' fe σ H Q) σ H Q:=by
 intro σ H Q ⟨fa,O,s,res,s',I,e,kk⟩;refine v3 e fun ds s1 h1 h2=>?_
 by_cases hz:ds.length<=sizeLine
 .simp only[iO hz] at h2;refine mapP h2 fun out fsf h3 h4=>?_
  simp only[JU] at h4;obtain⟨e1,e2⟩:=h4;subst e1;subst e2;refine#[fa,O,s,ds,s1,I,h1,hz,fun J H1 f1 O1 a1 B J1 p hp=>?_];have Y:∀{fa':vA_}{H':Hp},Stp f1 [p] (j5 H1 p (.lst [])) fa' [p] H'->StE f1 O1 H1 fa' O1 H':=fun {fa' H'} a=>by
   refine#[fun _ h=>h,?_,fun b u e n=>?_,fun b z=>(E6 (fa:=f1) (O:=O1) hp).mon b (a.mon b z)]
   .rcases a.fe with e | ⟨e,h⟩
    .exact .inl e
    .exact .inr #[e,fun x z=>(E6 (fa:=f1) (O:=O1) hp).mon x (h x z)]
   .have nb:b≠p:=F1 e hp;exact a.same b u (by rw[m9 nb];exact e) (by simp[nb]) n
  have carP:∀{fa':vA_}{H':Hp},Stp f1 [p] (j5 H1 p (.lst [])) fa' [p] H'->Car X.K (NN g.F f1 O1) f1 H1 (FF g fa' O1 p) fa' H':=fun {fa' H'} a=>by
   have c:=B.car (Y a).stp;refine#[fun b xs n q=>?_,c.tp,c.fz,c.fe];obtain⟨q',n'⟩:=c.ls b xs n q;refine#[q',?_];rintro(z | z)
   .exact n' z
   .subst z;rw[hp] at q;cases q
  refine#[fun i m H'=>m=ds.length - i/\i<=ds.length/\∃fa' ys U rest fs',CI X.K g f1 O1 (j5 H1 p (.lst [])) p fa' H' ys U fs'/\D3 (mk s1.sl) fc fe (ds.drop i) fs'=some (rest,fsf)/\U++rest=out/\ys.length<=i,?_,?_]
  .refine#[ds.length,by simp,Ko _,f1,[],[],out,s1.fs,#[Stp.refl,D2,Reps.nil,?_,fun z=>B.fd.tracked z hp],by simpa using h3,rfl,tx _];exact B.fd.car (gW B hp) (B.fd.same_new hp)
  .rintro i m H' ⟨rfl,hil,fa',ys,U,rest,fs',c,hd,ho,hy⟩;have Hcar:=carP c.st;obtain⟨jgo,jstop⟩:=J1 _ _ _ Hcar (fun b u e n=>(Y c.st).same b u e n) i;by_cases hlt:i<ds.length
   .have hdi:ds[i]? = some ds[i]:=Kf hlt;obtain⟨go,yl⟩:=jgo _ hdi;refine .inr #[go,fun x H'' hx=>?_];obtain⟨e1,rx⟩:=yl x H'' hx;subst e1;rw[uk hdi,D3] at hd;refine V1 hd fun sl0 hm hd=>?_
    refine v3 hd fun b sb h5 h6=>?_
    have hNN:∀b,NN (FF g fa' O1 p) fa' [] b->FF g fa' O1 p b:=fun b z=>by
     rcases z with z | z | z
     .exact z
     .cases z
     .exact .inl (.inr (.inr z))
    have cN:Car X.K (FF g fa' O1 p) fa' H'' (NN (FF g fa' O1 p) fa' []) fa' H'':=#[fun b xs n q=>#[q,fun z=>n (hNN b z)],fun _ _ q=>q,fun _ _ q=>q,fun _ q=>q]
    have dy:∀b,FF g fa' O1 p b->H'' b≠none:=fun b z=>by
     rcases z with (z | z | z) | z
     .exact fun w=>B.trF z ((Y c.st).mon b w)
     .obtain⟨xs,e⟩:=B.owned z;exact fun w=>by have:=(Y c.st).mon b w;rw[e] at this;cases this
     .exact c.fd.tracked z
     .rw[z,c.ls];simp
    refine hG (NN (FF g fa' O1 p) fa' []) fa' s1.sl ds[i] sl0 x σ H'' _ hm (Rep.go cN _ _ rx) (SlR.go cN (fun a xs ha=>by cases ha) (sY (SlR.go Hcar (fun a xs ha e=>(Y c.st).same a _ e fun z=>B.nf a z ha) B.sl) idx)) fun σ1 hσ hsl=>#[hσ,?_]
    have G0:GI X.K #[FF g fa' O1 p,H'',fa',fun _=>E0] σ1 H'' fa' [] #[sl0,fs']:=#[Nf,hsl,fun b hb=>(by cases hb),Stp.refl,dy,fun a ha=>.inl (.inr (.inr ha)),c.fd.car cN fun _ _=>rfl,fun _ _ z=>(by cases z)]
    refine#[#[FF g fa' O1 p,H'',fa',fun _=>E0],fa',[],_,b,sb,G0,h5,fun H3 f3 O3 a3 I3=>?_];have eO:O3=[]:=OS.mpr fun z hz=>by have:=a3.sub z hz;cases this
    subst eO;have hF3:∀b,FF g f3 O1 p b->NN (FF g fa' O1 p) f3 [] b:=fun b z=>by
     rcases z with (z | z | z) | z
     .exact .inl (.inl (.inl z))
     .exact .inl (.inl (.inr (.inl z)))
     .exact .inr (.inr z)
     .exact .inl (.inr z)
    have c3:=c.step a3 hF3 I3;cases b with
    |false=>
     rw[iR JQ] at h6;refine vY ?_;exact#[ds.length - (i+1),by omega,rfl,hlt,f3,ys,U,rest,sb.fs,c3,h6,ho,Nat.le_succ_of_le hy]
    |true=>
     rw[iO rfl] at h6;refine sS ?_;refine v3 h6 fun dd sd h7 h8=>?_
     refine mapP h8 fun rest2 fs2 h9 h10=>?_
     simp only[JU] at h10;refine#[#[FF g fa' O1 p,H'',fa',fun _=>E0],f3,[],sb,dd,sd,I3,h7,fun v H4 f4 O4 a4 I4 r4=>?_];have eO:O4=[]:=OS.mpr fun z hz=>by have:=a4.sub z hz;cases this
     subst eO;have hF4:∀b,FF g f4 O1 p b->NN (FF g fa' O1 p) f4 [] b:=fun b z=>by
      rcases z with (z | z | z) | z
      .exact .inl (.inl (.inl z))
      .exact .inl (.inl (.inr (.inl z)))
      .exact .inr (.inr z)
      .exact .inl (.inr z)
     have c4:=c3.step a4 hF4 I4;refine#[ys,c4.ls,by omega,ds.length - (i+1),by omega,rfl,hlt,f4,ys++[v],U++[dd],rest2,sd.fs,c4.app hF4 r4,by rw[h9,h10.2],?_,by simp;omega];rw[<-ho,<-h10.1];simp
   .refine .inl #[jstop (Na hlt),?_];rw[OQ (Na hlt),D3] at hd;simp only[Kj,JU] at hd;obtain⟨hd1,hd2⟩:=hd;subst hd1;subst hd2;rw[La] at ho;subst ho;have aE:=Y c.st;have car1:=B.car aE.stp;have Z:∀a xs,a∈O1->H1 a=some (.lst xs)->H' a=some (.lst xs):=fun a xs ha e=>aE.same a _ e fun z=>B.nf a z ha
    refine kk p ys H' fa' O1 (a1.trans aE) #[#[B.nd,SlR.go car1 Z B.sl,B.fr,B.st.trans #[fun b hb=>(by cases hb),aE.fe,fun b u e _ n=>aE.same b u e n,aE.mon],B.tr,B.ff,?_,B.nf_step aE.fe],c.ls,SlR.go Hcar Z B.sl,c.fd,c.rs,c.nf] (a1.mon p hp);exact c.fd.car (K:=X.K) #[fun b xs n q=>#[q,fun z=>n (.inl z)],fun _ _ q=>q,fun _ _ q=>q,fun _ q=>q] fun _ _=>rfl
 .simp only[iR hz] at h2;cases h2
def uI (k:CompOk X scope cl N' 1 idx):∀σ H Q,liftF X.K g (K6 idx fi fc fe) σ H Q->cj 1 idx (liftI X.K g fi) (V9 0) (fun σ H Q=>∃g',liftT X.K g' fc σ H Q) (fun σ H Q=>∃g',liftE X.K g' fe σ H Q) σ H Q:=
 qQ (mk:=fun sl d=>some (.v d::X6 idx sl)) fun N fa sl d sl0 x σ H Q J Y hc U=>by
  cases J;refine U _ #[by simp,fun j v B=>?_] ?_
  .cases j with
   |zero=>simp[F3] at B
   |succ j=>rw[LD (by simp)];exact B
  .have Z:(F3 1 idx σ).set 0 (some x)=some x::idx.map fun i=>(σ[i]?).join:=by simp[F3]
   rw[Z];simp only[SlR];exact#[x,_,rfl,Y,hc]
def ug (J:X.calm=true) (k:CompOk X scope cl N' 1 idx) (hi:IO X g tg iter fi) (U:∀C s0 H0 ex,PG (B5 X N' scope cl C s0 H0 ex) tg (V9 0))
  (Y:∀C s0 H0 ex g',cM (B5 X N' scope cl C s0 H0 ex) g' ifs fc) (Z:∀C s0 H0 ex g',EO (B5 X N' scope cl C s0 H0 ex) g' elt fe) (B:∀x,foldedSetIterable iter X.env x=pure x:=by intro _;rfl) :
  FO X g (.ListComp elt [#[tg,iter,ifs,0]] scope pos) (K6 idx fi fc fe):=by
 exact FO.w (oO (tc:=fun σ H Q=>∃g',liftT X.K g' fc σ H Q) (te:=fun σ H Q=>∃g',liftE X.K g' fe σ H Q) J k hi.pe U (fun C s0 H0 ex pins s σ H Q I ⟨g',h⟩=>Y C s0 H0 ex g' pins s σ H Q I h) (fun C s0 H0 ex pins s σ H Q I ⟨g',h⟩=>(Z C s0 H0 ex g').pe pins s σ H Q I h) B) (uI k)
end
end DL
variable {d y:DL.D}{p':DL.D->DL.D->Option DL.D}{ds:DL.vD_}{fs':DL.vO_}{sl:List DL.Sl}{mk:List DL.Sl->DL.D->Option (List DL.Sl)}{s1 s2:DL.DS}{g:DL.Gh}{fe:DL.DE}{fc:DL.DT}{fi:DL.DA}{m mo:DL.c9}
namespace HT2
open PySem PyProof.Rows
def cat_tup0 {w:World}{t b:Addr}{ws:vV_}(ht:IsTup s.heap t ([]:vV_).toArray) (hb:IsTup s.heap b ws.toArray)
  (h:Q (.ref b) s):wpAny (model prog w) A (binaryOp .Add (.ref t) (.ref b)) Q E s:=by
 refine gB_ fun G_ g_=>?_
 obtain⟨⟨cls,dd,data,sl⟩,ho,hc,n,hd⟩:=id ht;obtain⟨⟨cls2,dd2,Y,Z⟩,B,U,n2,J⟩:=id hb;simp only at hc hd U J;apply g_;subst hc hd U J;exact concat_meets #[_,ho,rfl] #[_,B,rfl] NQ seq_tuple_add NR NS (NT _ _)
  (tuple_addW0 t b _ ws.toArray n n2 dd dd2 sl Z (by simp)) #[ho,B,h]
end HT2
namespace DL
open PySem PySem.Spec L2
def D6 (i:Int):Bool:=decide (i.natAbs.log2<1000000)
def nY {i:Int}(h:D6 i=true):Builtin.Int.intBits i<=2 ^ 20:=by
 have h1:i.natAbs.log2<1000000:=Kv h;unfold Builtin.Int.intBits;split
 .exact Ko _
 .have e:(2:Nat) ^ 20=1048576:=by decide
  rw[e];omega
def Q4 (j:Int):Bool:=decide (j≠0)&&decide (j.natAbs.log2<9000)
def op_mulB:OpR X (binaryOp .Mult) (rI (fun i j=>D6 i=true/\D6 j=true) fun i j=>.int (i*j)):=gn fun _ _ _ _ _ _ _ B q=>PyProof.Rows.mul_int q (IntMulOk.of_bits (nY B.1) (nY B.2))
def xV:OpR X (binaryOp .FloorDiv) (rI (fun _ j=>Q4 j=true) fun i j=>.int (i.fdiv j)):=gn fun i j _ _ _ _ _ J q=>by
 have B:Q4 j=true:=J;unfold Q4 at B;rw[Ki] at B;exact PyProof.Rows.floordiv_int (Kv B.1) q (.inl (PyProof.noPylong_of_log2 (Kv B.2)))
def va (K:vF_):R2:=fun x y H Q=>∃a b ys,x = .ref a/\y = .ref b/\SqT K H a []/\SqT K H b ys/\Q (.ref b) H
def op_catT0:OpR X (binaryOp .Add) (va X.K):=by
 intro pins s σ H x y v u Q I rx ry h;obtain⟨a,b,ys,rfl,rfl,Y,Z,q⟩:=h;cases rx;cases ry;obtain⟨its,U,ht,_⟩:=I.tuple Y;obtain⟨J,r2,B,_⟩:=I.tuple Z;cases U;exact HT2.cat_tup0 ht B #[.ref b,H,I,rfl,q]
def vK (K:vF_):R2:=fun x y H Q=>(S9 (fun i j=>.int (i+j)) x y H Q\/(∃i j,x = .str i/\y = .str j/\i.length+j.length<=sizeLine/\Q (.str (i++j)) H))\/((va K x y H Q\/uQ K x y H Q)\/kn x y H Q)
def HE:OpR X (binaryOp .Add) (vK X.K):=(op_add.or AD).or ((op_catT0.or Bh).or mx)
def pR:R2:=fun x y H Q=>rI (fun i j=>D6 i=true/\D6 j=true) (fun i j=>.int (i*j)) x y H Q\/rj x y H Q
def Cg:OpR X (binaryOp .Mult) pR:=op_mulB.or Iy
def n8:D->D->Option D
 |.int i,.int j=>some (.int (i+j))
 |.str x,.str y=>if x.length+y.length<=sizeLine then some (.str (x++y)) else none
 |.tup xs,.tup ys=>if xs.length+ys.length<=sizeLine then some (.tup (xs++ys)) else none
 |.lst xs,.lst ys=>if xs.length+ys.length<=sizeLine then some (.lst (xs++ys)) else none
 |_,_=>none
def u9:D->D->Option D
 |.int i,.int j=>some (.int (i - j))
 |_,_=>none
def u6:D->D->Option D
 |.int i,.int j=>if D6 i&&D6 j then some (.int (i*j)) else none
 |.lst xs,.int k=>if -(2 ^ 63)<=k/\k<2 ^ 63/\xs.length*k.toNat<=sizeLine then some (.lst (List.replicate k.toNat xs).flatten) else none
 |_,_=>none
def R6:D->D->Option D
 |.int i,.int j=>if Q4 j then some (.int (i.fdiv j)) else none
 |_,_=>none
def F5:D->D->Option D
 |.int i,.int j=>if j≠0 then some (.int (i.fmod j)) else none
 |_,_=>none
def bb:D->D->Option D
 |.int i,.int j=>if 0<=j/\j<=1000000/\i.natAbs<2 ^ 64 then some (.int (i ^ j.toNat)) else none
 |_,_=>none
def w4:D->Option D
 |.int i=>some (.int (-i))
 |_=>none
def i9 (p:Int->Int->Bool):D->D->Option D
 |.int i,.int j=>some (.bl (p i j))
 |_,_=>none
def cL:D->D->Option D
 |.non,.non=>some (.bl true)
 |.feed,.non=>none
 |.scr _,.non=>none
 |.fn _,.non=>none
 |.exc _ _,.non=>none
 |_,.non=>some (.bl false)
 |_,_=>none
def vI {K:vF_}(r:Reps K N fa H ds xs):xs=[]↔ds=[]:=by
 have:=r.length;cases xs <;> cases ds <;> simp_all
theorem Reps.flat {K:vF_}(r:Reps K N fa H ds xs):∀k:Nat,Reps K N fa H (List.replicate k ds).flatten (List.replicate k xs).flatten
 |0=>by simp[Reps]
 |k+1=>by
  simp only[LQ,Mv];exact Reps.append r (Reps.flat r k)
section
variable {K:vF_}
def Ep:F4 K (vK K) n8:=by
 intro g σ H fa O s x y d1 d2 d Q I Y U e k;cases d1 with
 |int i=>
  cases d2 with
  |int j=>
   cases e;simp only[RepB,Rep] at Y U;exact .inl (.inl #[i,j,Y,U,k _ H StE.refl I (by simp only[Rep])])
  |_=>cases e
 |str a=>
  cases d2 with
  |str b=>
   have e:(if a.length+b.length<=sizeLine then some (D.str (a++b)) else none)=some d:=e;by_cases h:a.length+b.length<=sizeLine
   .rw[iO h] at e;cases e;simp only[RepB,Rep] at Y U;refine .inl (.inr #[a,b,Y.1,U.1,h,k _ H StE.refl I ?_]);simp only[Rep];exact#[trivial,by rw[strLen_append];exact h]
   .rw[iR h] at e;cases e
  |_=>cases e
 |tup Z=>
  cases d2 with
  |tup bs=>
   have e:(if Z.length+bs.length<=sizeLine then some (D.tup (Z++bs)) else none)=some d:=e;by_cases h:Z.length+bs.length<=sizeLine
   .rw[iO h] at e;cases e;simp only[RepB,Rep] at Y U;obtain⟨a,xs,rfl,qa,B⟩:=Y;obtain⟨b,ys,rfl,qb,J⟩:=U;by_cases hx:xs=[]
    .have ha:=(vI B).mp hx;subst hx;subst ha;refine .inr (.inl (.inl #[a,b,ys,rfl,rfl,qa,qb,k _ H StE.refl I ?_]));simp only[Rep,Lf];exact#[b,ys,rfl,qb,J]
    .refine .inr (.inl (.inr #[a,b,xs,ys,rfl,rfl,qa,qb,hx,by rw[B.length,J.length];exact h,fun hy=>?_,fun hy p hp=>?_]))
     .have hb:=(vI J).mp hy;subst hy;subst hb;refine k _ H StE.refl I ?_;simp only[Rep,La];exact#[a,xs,rfl,qa,B]
     .have a2:StE fa O H fa O (j5 H p (.tup (xs++ys))):=E6 hp;refine k _ _ a2 (I.new hp) ?_;simp only[Rep];exact#[p,_,rfl,SqT.of D2,Reps.stp I a2.stp (Reps.append B J)]
   .rw[iR h] at e;cases e
  |_=>cases e
 |lst Z=>
  cases d2 with
  |lst bs=>
   have e:(if Z.length+bs.length<=sizeLine then some (D.lst (Z++bs)) else none)=some d:=e;by_cases h:Z.length+bs.length<=sizeLine
   .rw[iO h] at e;cases e;obtain⟨a,xs,rfl,_,qa,B⟩:=Y;obtain⟨b,ys,rfl,_,qb,J⟩:=U;refine .inr (.inr #[a,b,xs,ys,rfl,rfl,qa,qb,by rw[B.length,J.length];exact h,fun p hp=>?_]);have a2:StE fa O H fa O (j5 H p (.lst (xs++ys))):=E6 hp;have L:=ak I hp (Reps.append B J);refine k _ _ a2 L.gi ?_;simp only[Rep];exact#[p,_,rfl,gE I a2 L.gi hp L.nf,D2,Reps.stp I a2.stp (Reps.append B J)]
   .rw[iR h] at e;cases e
  |_=>cases e
 |_=>cases e
def S8:D->D->Option (List D)
 |.lst xs,.lst ys=>if xs.length+ys.length<=sizeLine then some (xs++ys) else none
 |_,_=>none
def uK:mz K kn S8:=by
 intro g σ H fa O s x y d1 d2 ds Q I Y r2 e k;cases d1 with
 |lst as=>
  cases d2 with
  |lst bs=>
   simp only[S8] at e;by_cases h:as.length+bs.length<=sizeLine
   .rw[iO h] at e;cases e;obtain⟨a,xs,rfl,_,qa,J⟩:=Y;obtain⟨b,ys,rfl,_,Z,U⟩:=r2;refine#[a,b,xs,ys,rfl,rfl,qa,Z,by rw[J.length,U.length];exact h,fun p B=>?_];exact k p _ _ (E6 B) (ak I B (Reps.append J U)) B
   .rw[iR h] at e;cases e
  |_=>cases e
 |_=>cases e
def lh {C:Int->Int->Prop}{f:Int->Int->D}{p:D->D->Option D}(U:∀d1 d2 d,p d1 d2=some d->∃i j,d1 = .int i/\d2 = .int j/\C i j/\d=f i j) (Y:∀N fa H i j,Rep K N fa H (f i j) (f' i j)):F4 K (rI C f') p:=by
 intro g σ H fa O s x y d1 d2 d Q I B J e k;obtain⟨i,j,rfl,rfl,c,rfl⟩:=U d1 d2 d e;simp only[RepB,Rep] at B J;exact#[i,j,B,J,c,k _ H StE.refl I (Y _ _ _ _ _)]
def ue {f:Int->Int->D}{p:D->D->Option D}(U:∀d1 d2 d,p d1 d2=some d->∃i j,d1 = .int i/\d2 = .int j/\d=f i j) (Y:∀N fa H i j,Rep K N fa H (f i j) (f' i j)):F4 K (S9 f') p:=by
 intro g σ H fa O s x y d1 d2 d Q I B J e k;obtain⟨i,j,rfl,rfl,rfl⟩:=U d1 d2 d e;simp only[RepB,Rep] at B J;exact#[i,j,B,J,k _ H StE.refl I (Y _ _ _ _ _)]
def kO (F:Int->Int->Option D):D->D->Option D
 |.int i,.int j=>F i j
 |_,_=>none
def qT {F:Int->Int->Option D}(e:kO F d1 d2=some d):∃i j,d1 = .int i/\d2 = .int j/\F i j=some d:=by
 cases d1 with
 |int i=>
  cases d2 with
  |int j=>exact#[i,j,rfl,rfl,e]
  |_=>cases e
 |_=>cases e
def lD {C:Int->Int->Prop}[∀i j,Decidable (C i j)] {f:Int->Int->D}(e:kO (fun i j=>if C i j then some (f i j) else none) d1 d2=some d):∃i j,d1 = .int i/\d2 = .int j/\C i j/\d=f i j:=by
 obtain⟨i,j,h1,h2,B⟩:=qT e;by_cases h:C i j
 .have B:(if C i j then some (f i j) else none)=some d:=B;rw[iO h] at B;exact#[i,j,h1,h2,h,(Kb B).symm]
 .have B:(if C i j then some (f i j) else none)=some d:=B;rw[iR h] at B;cases B
def uL {f:Int->Int->D}(e:kO (fun i j=>some (f i j)) d1 d2=some d):∃i j,d1 = .int i/\d2 = .int j/\d=f i j:=by
 obtain⟨i,j,h1,h2,B⟩:=qT e;exact#[i,j,h1,h2,(Kb B).symm]
def FP:F4 K (S9 fun i j=>.int (i - j)) u9:=ue (f:=fun i j=>.int (i - j)) (fun J B d e=>uL (f:=fun i j=>.int (i - j)) e) fun _ _ _ _ _=>by simp only[Rep]
def mK (p:Int->Int->Bool):F4 K (S9 fun i j=>.bl (p i j)) (i9 p):=ue (f:=fun i j=>.bl (p i j)) (fun J B d e=>uL (f:=fun i j=>.bl (p i j)) e) fun _ _ _ _ _=>by simp only[Rep]
def FA:F4 K pR u6:=by
 intro g σ H fa O s x y d1 d2 d Q I J B e k;cases d1 with
 |int i=>
  cases d2 with
  |int j=>
   have e:(if D6 i&&D6 j then some (D.int (i*j)) else none)=some d:=e;by_cases h:(D6 i&&D6 j)=true
   .rw[iO h] at e;cases e;rw[Ki] at h;simp only[RepB,Rep] at J B;exact .inl #[i,j,J,B,h,k _ H StE.refl I (by simp only[Rep])]
   .rw[iR h] at e;cases e
  |_=>cases e
 |lst as=>
  cases d2 with
  |int j=>
   simp only[u6] at e;by_cases h:-(2 ^ 63)<=j/\j<2 ^ 63/\as.length*j.toNat<=sizeLine
   .rw[iO h] at e;cases e;obtain⟨a,xs,rfl,_,qa,U⟩:=J;simp only[RepB,Rep] at B;subst B;refine .inr #[a,j,xs,rfl,rfl,qa,h.1,h.2.1,by rw[U.length];exact h.2.2,fun p Y=>?_];have Z:StE fa O H fa O (j5 H p (.lst (List.replicate j.toNat xs).flatten)):=E6 Y;have L:=ak I Y (U.flat j.toNat);refine k _ _ Z L.gi ?_;simp only[Rep];exact#[p,_,rfl,gE I Z L.gi Y L.nf,D2,Reps.stp I Z.stp (U.flat j.toNat)]
   .rw[iR h] at e;cases e
  |_=>cases e
 |_=>cases e
def HY:F4 K (rI (fun _ j=>Q4 j=true) fun i j=>.int (i.fdiv j)) R6:=lh (f:=fun i j=>.int (i.fdiv j)) (fun B J d e=>lD (C:=fun _ j=>Q4 j=true) (f:=fun i j=>.int (i.fdiv j)) e) fun _ _ _ _ _=>by simp only[Rep]
def yi:F4 K (rI (fun _ j=>j≠0) fun i j=>.int (i.fmod j)) F5:=lh (f:=fun i j=>.int (i.fmod j)) (fun B J d e=>lD (C:=fun _ j=>j≠0) (f:=fun i j=>.int (i.fmod j)) e) fun _ _ _ _ _=>by simp only[Rep]
def wY:F4 K (rI oj fun i j=>.int (i ^ j.toNat)) bb:=lh (f:=fun i j=>.int (i ^ j.toNat)) (fun J B d e=>lD (C:=fun i j=>0<=j/\j<=1000000/\i.natAbs<2 ^ 64) (f:=fun i j=>.int (i ^ j.toNat)) e) fun _ _ _ _ _=>by simp only[Rep]
def Ah:sV K (rU fun i=>.int (-i)) w4:=by
 intro g σ H fa O s x J d Q I B e k;cases J with
 |int i=>cases e;simp only[RepB,Rep] at B;exact#[i,B,k _ H StE.refl I (by simp only[Rep])]
 |_=>cases e
def pN:D->Bool
 |.non=>true
 |_=>false
def AE {x:V}(r:RepB K N fa H d x):decide (x = .non)=pN d:=by
 cases d with
 |non=>simp only[RepB,Rep] at r;subst r;rfl
 |bl b=>simp only[RepB,Rep] at r;subst r;rfl
 |int i=>simp only[RepB,Rep] at r;subst r;rfl
 |str x=>simp only[RepB,Rep] at r;obtain⟨r,_⟩:=r;subst r;rfl
 |tup ds=>simp only[RepB,Rep] at r;obtain⟨a,xs,rfl,_⟩:=r;rfl
 |lst ds=>obtain⟨a,xs,rfl,_⟩:=r;rfl
 |feed=>simp only[RepB,Rep] at r;obtain⟨a,_,rfl⟩:=r;rfl
 |scr ns=>simp only[RepB,Rep] at r;obtain⟨_,a,rfl,_⟩:=r;rfl
 |fn x=>simp only[RepB,Rep] at r;obtain⟨a,rfl,_⟩:=r;rfl
 |exc c ds=>simp only[RepB,Rep] at r;obtain⟨a,C,xs,rfl,_⟩:=r;rfl
def zV:F4 K (fun x y H Q=>y = .non/\Q (.bl (decide (x = .non))) H) cL:=by
 intro g σ H fa O s x y B U d Q I Y J e k;have h2:U = .non:=by cases B <;> cases U <;> first | rfl | cases e
 subst h2;simp only[RepB,Rep] at J;refine#[J,k _ H StE.refl I ?_];rw[AE Y];cases B <;> first | (cases e;simp[Rep,pN];done) | cases e
end
section
variable {σ:L2.St}
mutual
theorem cY (I:Inv X pins σ H s):∀(d:D) (v:V) (u:Value),W7 X.K N fa H d v->RelV v u->d.plain=true->∃as,Reads s.heap u d.py as
 |.non,v,u,r,ru,_=>by
  simp only[W7,Rep] at r;subst r;cases ru;simp only[D.py];exact#[[],.none]
 |.bl b,v,u,r,ru,_=>by
  simp only[W7,Rep] at r;subst r;cases ru;simp only[D.py];exact#[[],.bool b]
 |.int i,v,u,r,ru,_=>by
  simp only[W7,Rep] at r;subst r;obtain⟨t,rfl⟩:=ru;simp only[D.py];exact#[[],.int i t]
 |.str x,v,u,r,ru,_=>by
  simp only[W7,Rep] at r;obtain⟨r,_⟩:=r;subst r;obtain⟨t,rfl⟩:=ru;simp only[D.py];exact#[[],.str x t]
 |.tup ds,v,u,r,ru,hp=>by
  simp only[W7,Rep] at r;obtain⟨a,xs,rfl,q,w⟩:=r;cases ru;obtain⟨its,J,⟨o,h1,h2,n,U⟩,_⟩:=I.tuple q;obtain⟨as,B⟩:=nI I ds xs its w J (by simpa only[D.plain] using hp);simp only[D.py];exact#[as,.tuple h1 h2 U (by simpa using B)]
 |.lst ds,v,u,r,ru,hp=>by
  obtain⟨a,xs,rfl,q,w⟩:=r;cases ru;obtain⟨its,J,⟨o,n,h1,h2,U,Y⟩,_⟩:=I.list (SqL.of q);obtain⟨as,B⟩:=nI I ds xs its w J (by simpa only[D.plain] using hp);simp only[D.py];exact#[_,.list h1 h2 Y (by simpa using B)]
 |.feed,v,u,r,ru,hp=>by simp only[D.plain] at hp;cases hp
 |.scr _,v,u,r,ru,hp=>by simp only[D.plain] at hp;cases hp
 |.fn _,v,u,r,ru,hp=>by simp only[D.plain] at hp;cases hp
 |.exc _ _,v,u,r,ru,hp=>by simp only[D.plain] at hp;cases hp
theorem nI (I:Inv X pins σ H s):∀(ds:vD_) (xs:List V) (us:vV_),Reps X.K N fa H ds xs->Vals xs us->D.plains ds=true->∃as,ReadsAll s.heap us (D.pys ds) as
 |[],xs,us,r,ru,_=>by
  simp only[Reps] at r;subst r;cases ru;simp only[D.pys];exact#[[],.nil]
 |d::ds,xs,us,r,ru,hp=>by
  simp only[Reps] at r;obtain⟨x,ys,rfl,B,U⟩:=r;cases ru with
  |cons q J=>
   simp only[D.plains,Ki] at hp;obtain⟨as,h1⟩:=cY I d x _ B.o q hp.1;obtain⟨bs,h2⟩:=nI I ds ys _ U J hp.2;simp only[D.pys];exact#[_,.cons h1 h2]
end
end
def D0 (d:D):Bool:=d.plain&&SeqAt.shaped d.py
def pEq (J B:D):Option D:=match J,B with
 |.str x,.str y=>some (.bl (decide (x=y)))
 |J,B=>if D0 J&&D0 B then some (.bl (PyData.eqv J.py B.py)) else none
def r8 (J B:D):Option D:=match J,B with
 |.str x,.str y=>some (.bl (!decide (x=y)))
 |J,B=>if D0 J&&D0 B then some (.bl (!PyData.eqv J.py B.py)) else none
def du (K:vF_) (f:Bool->Bool):R2:=fun x y H Q=>∃N fa d1 d2,RepB K N fa H d1 x/\RepB K N fa H d2 y/\D0 d1=true/\D0 d2=true/\Q (.bl (f (PyData.eqv d1.py d2.py))) H
section
variable {K:vF_}
def yM (Y:X.A.units+64<cLine):OpR X (compareOp .Eq) (du X.K id):=by
 intro pins s σ H x y v u Q I rx ry h;obtain⟨N,fa,Z,d2,U,r2,J,B,q⟩:=h;unfold D0 at J B;rw[Ki] at J B;obtain⟨as,h1⟩:=cY I Z x v U.o rx J.1;obtain⟨bs,h2⟩:=cY I d2 y u r2.o ry B.1;exact PyProof.Rows.eq_dataH h1 h2 J.2 B.2 Y #[.bl _,H,I,rfl,q]
def Ba (Y:X.A.units+64<cLine):OpR X (compareOp .NotEq) (du X.K not):=by
 intro pins s σ H x y v u Q I rx ry h;obtain⟨N,fa,Z,d2,U,r2,J,B,q⟩:=h;unfold D0 at J B;rw[Ki] at J B;obtain⟨as,h1⟩:=cY I Z x v U.o rx J.1;obtain⟨bs,h2⟩:=cY I d2 y u r2.o ry B.1;exact PyProof.Rows.ne_dataH h1 h2 J.2 B.2 Y #[.bl _,H,I,rfl,q]
def AQ (B:X.A.units+64<cLine):OpR X (compareOp .Eq) (fun x y H Q=>ki x y H Q\/du X.K id x y H Q):=op_eq.or (yM B)
def EI (B:X.A.units+64<cLine):OpR X (compareOp .NotEq) (fun x y H Q=>mB x y H Q\/du X.K not x y H Q):=op_ne.or (Ba B)
def GA {J B:D}(h:pEq J B=some d):(∃x y,J = .str x/\B = .str y/\d = .bl (decide (x=y)))\/(D0 J=true/\D0 B=true/\d = .bl (PyData.eqv J.py B.py)):=by
 unfold pEq at h;split at h
 .cases h;exact .inl #[_,_,rfl,rfl,rfl]
 .split at h
  .rename_i q;rw[Ki] at q;cases h;exact .inr #[q.1,q.2,rfl]
  .cases h
def FR {J B:D}(h:r8 J B=some d):(∃x y,J = .str x/\B = .str y/\d = .bl (!decide (x=y)))\/(D0 J=true/\D0 B=true/\d = .bl (!PyData.eqv J.py B.py)):=by
 unfold r8 at h;split at h
 .cases h;exact .inl #[_,_,rfl,rfl,rfl]
 .split at h
  .rename_i q;rw[Ki] at q;cases h;exact .inr #[q.1,q.2,rfl]
  .cases h
def sP (x y:Str):decide (V.str x=V.str y)=decide (x=y):=by
 by_cases h:x=y
 .subst h;simp
 .rw[JM h,JM fun z=>h (V.str.inj z)]
def HR:F4 K (fun x y H Q=>ki x y H Q\/du K id x y H Q) pEq:=by
 intro g σ H fa O s x y U Y d Q I B J e k;rcases GA e with ⟨a,b,rfl,rfl,rfl⟩ | ⟨h1,h2,rfl⟩
 .simp only[RepB,Rep] at B J;obtain⟨rfl,_⟩:=B;obtain⟨rfl,_⟩:=J;exact .inl #[rfl,k _ H StE.refl I (by simp only[Rep,sP])]
 .exact .inr #[_,_,U,Y,B,J,h1,h2,k _ H StE.refl I (by simp only[Rep,id])]
def FE:F4 K (fun x y H Q=>mB x y H Q\/du K not x y H Q) r8:=by
 intro g σ H fa O s x y U Y d Q I B J e k;rcases FR e with ⟨a,b,rfl,rfl,rfl⟩ | ⟨h1,h2,rfl⟩
 .simp only[RepB,Rep] at B J;obtain⟨rfl,_⟩:=B;obtain⟨rfl,_⟩:=J;exact .inl #[rfl,k _ H StE.refl I (by simp only[Rep,sP])]
 .exact .inr #[_,_,U,Y,B,J,h1,h2,k _ H StE.refl I (by simp only[Rep])]
def d6:D->D->Option D
 |.tup ds,.int i=>D8 ds i
 |.lst ds,.int i=>D8 ds i
 |_,_=>none
abbrev Pw(i:Int):DE:=dC (.int i)
abbrev Px(i:Nat)(j:Int):DE:=c8 d6 (dL i) (Pw j)
def ou {i:Int}(r:Reps K N fa H ds xs) (h:D8 ds i=some d):∃v,D8 xs i=some v/\Rep K N fa H d v:=by
 unfold D8 at h ⊢;rw[r.length];cases e:V0 ds.length i with
 |none=>rw[e] at h;cases h
 |some j=>
  rw[e] at h;simp only[xl] at h ⊢;exact Reps.get r h
def CS:F4 K (fun x y H Q=>nk K x y H Q\/kx K x y H Q) d6:=by
 intro g σ H fa O s x y d1 Z d Q I J B e k;cases d1 with
 |tup ds=>
  cases Z with
  |int i=>
   simp only[RepB,Rep] at J B;obtain⟨a,xs,rfl,q,w⟩:=J;obtain⟨v,U,Y⟩:=ou w (show D8 ds i=some d from e);exact .inr #[a,xs,i,v,rfl,B,q,U,k v H StE.refl I Y]
  |_=>cases e
 |lst ds=>
  cases Z with
  |int i=>
   obtain⟨a,xs,rfl,_,q,w⟩:=J;simp only[RepB,Rep] at B;obtain⟨v,U,Y⟩:=ou w (show D8 ds i=some d from e);exact .inl #[a,xs,i,v,rfl,B,SqL.of q,U,k v H StE.refl I Y]
  |_=>cases e
 |_=>cases e
def xt:IxR X (fun x y H Q=>nk X.K x y H Q\/kx X.K x y H Q):=ix_list.or xh
end
noncomputable def i5 (p:List D->Option D) (f:DA):DE:=fun s=>(f s).bind fun x=>(p x.1).map fun d=>(d,x.2)
def W2 (p:List D->Option (List D)) (f:DA):DA:=fun s=>(f s).bind fun x=>(p x.1).map fun d=>(d,x.2)
section
variable {p pos:Pos}{t:DA}{id T:String}{pr:List D->Option D}{pf:List D->Option (List D)}
def qk (hr:S6 X.K r pr) (σ:L2.St) (H:Hp) (Q:VK) (h:liftE X.K g (i5 pr t) σ H Q):dH r (liftBA X.K g t) σ H Q:=by
 obtain⟨Z,O,s,d,s',I,e,k⟩:=h;refine v3 e fun ds s1 h1 h=>?_
 refine M6 h fun J h3 h=>?_
 simp only[JU] at h;obtain⟨U,e2⟩:=h;subst U;subst e2;exact#[Z,O,s,ds,s1,I,h1,fun vs H1 f1 O1 Y I1 B=>hr g σ H1 f1 O1 s1 vs ds J Q I1 B h3 fun z H3 a3 I3 r3=>k z H3 f1 O1 (Y.trans a3) I3 r3]
def oK (hr:jz X.K r pf) (σ:L2.St) (H:Hp) (Q:VK) (h:liftF X.K g (W2 pf t) σ H Q):dH r (liftBA X.K g t) σ H Q:=by
 obtain⟨Z,O,s,d,s',I,e,k⟩:=h;refine v3 e fun ds s1 h1 h=>?_
 refine M6 h fun U h3 h=>?_
 simp only[JU] at h;obtain⟨Y,e2⟩:=h;subst Y;subst e2;exact#[Z,O,s,ds,s1,I,h1,fun vs H1 f1 O1 B I1 J=>hr g σ H1 f1 O1 s1 vs ds U Q I1 J h3 fun q ys H3 a3 L e3=>k q ys H3 f1 O1 (B.trans a3) L (B.mon _ e3)]
def Ca (hc:CallR X (.builtin id) r) (hr:S6 X.K r pr) (Y:Gl X x) (Z:X.mg x=none) (hv:bootBuiltins x=some (.builtin id)) (U:BAO X g (e::es) t) (hn:x ≠ "__name__" := by decide) (B:(x == ("__debug__" : Str))=false:=by decide)
  (he:starEach (e::es) X.env=(false,eval e X.env)::starEach es X.env:=by rfl) (J:(backTo pos (starEach es X.env)).any (·.1)=false:=by rfl):EO X g (.Call (.Name x p) (e::es) [] pos) (i5 pr t):=
 EO.w (fB hc Y Z hv U.pe hn B he J) (qk hr)
def vm (hc:CallR X (.type T) r) (hr:S6 X.K r pr) (Y:Gl X x) (Z:X.mg x=none) (hv:bootBuiltins x=some (.type T)) (U:BAO X g (e::es) t) (hn:x ≠ "__name__" := by decide) (B:(x == ("__debug__" : Str))=false:=by decide)
  (he:starEach (e::es) X.env=(false,eval e X.env)::starEach es X.env:=by rfl) (J:(backTo pos (starEach es X.env)).any (·.1)=false:=by rfl):EO X g (.Call (.Name x p) (e::es) [] pos) (i5 pr t):=
 EO.w (qS hc Y Z hv U.pe hn B he J) (qk hr)
def Et (hc:CallR X (.type T) r) (hr:jz X.K r pf) (Y:Gl X x) (Z:X.mg x=none) (hv:bootBuiltins x=some (.type T)) (U:BAO X g (e::es) t) (hn:x ≠ "__name__" := by decide) (B:(x == ("__debug__" : Str))=false:=by decide)
  (he:starEach (e::es) X.env=(false,eval e X.env)::starEach es X.env:=by rfl) (J:(backTo pos (starEach es X.env)).any (·.1)=false:=by rfl):FO X g (.Call (.Name x p) (e::es) [] pos) (W2 pf t):=
 FO.w (qS hc Y Z hv U.pe hn B he J) (oK hr)
end
def tw {K:vF_}(r:Y2 K N fa H [d] xs):∃x,xs=[x]/\RepB K N fa H d x:=by
 obtain⟨x,ys,rfl,J,B⟩:=r;simp only[Y2] at B;subst B;exact#[x,rfl,J]
def one {α:Type}(p:D->Option α):List D->Option α
 |[d]=>p d
 |_=>none
def vA {α:Type}{p:D->Option α}{a:α}(h:one p ds=some a):∃d,ds=[d]/\p d=some a:=by
 cases ds with
 |nil=>cases h
 |cons d r=>
  cases r with
  |nil=>exact#[d,rfl,h]
  |cons _ _=>cases h
def i6:D->Option D
 |.tup ds=>some (.int (ds.length:Nat))
 |.lst ds=>some (.int (ds.length:Nat))
 |.str x=>some (.int (x.length:Nat))
 |_=>none
def eJ:D->Option D
 |.int i=>some (.int (if i<0 then -i else i))
 |_=>none
def cT:D->Option D
 |.int i=>some (.int i)
 |.bl b=>some (.int (if b then 1 else 0))
 |_=>none
def fg:D->Option D
 |.int i=>if i.natAbs.log2<1920/\(toString i:Str).length<=sizeLine then some (.str (toString i)) else none
 |_=>none
def bK:D->Option D
 |.tup ds=>some (.tup ds)
 |.lst ds=>some (.tup ds)
 |_=>none
def gJ:D->Option (List D)
 |.tup ds=>some ds
 |.lst ds=>some ds
 |_=>none
def aF (d:D):Bool:=d.plain&&d.py.showable&&d.py.canLay0&&decide (d.py.depth<=64)&&decide (d.py.shown.length<=sizeLine)
def S3 (d:D):Option D:=if aF d then some (.str d.py.shown) else none
section
variable {K:vF_}
def Aj:CallR X (.builtin "len") (fun xs H Q=>(∃p ys,xs=[.ref p]/\(SqL X.K H p ys\/SqT X.K H p ys)/\Q (.int ys.length) H)\/(∃z,xs=[.str z]/\z.length<=sizeLine/\Q (.int z.length) H)):=call_len_seq.or Fi
def bW {p:D->Option D}(h:∀(g:Gh) (σ:L2.St) (H:Hp) (fa:vA_) (O:vL_) (s:DS) (x:V) (d1 d:D) (Q:VK),GI K g σ H fa O s->RepB K (NN g.F fa O) fa H d1 x->p d1=some d ->
  (∀v H',StE fa O H fa O H'->GI K g σ H' fa O s->Rep K (NN g.F fa O) fa H' d v->Q v H')->r [x] H Q):S6 K r (one p):=by
 intro g σ H fa O s xs ds d Q I U e k;obtain⟨d1,rfl,B⟩:=vA e;obtain⟨x,rfl,J⟩:=tw U;exact h g σ H fa O s x d1 d Q I J B k
def IW:S6 K (fun xs H Q=>(∃p ys,xs=[.ref p]/\(SqL K H p ys\/SqT K H p ys)/\Q (.int ys.length) H)\/(∃z,xs=[.str z]/\z.length<=sizeLine/\Q (.int z.length) H)) (one i6):=bW fun g σ H fa O s x B d Q I r e k=>by
 cases B with
 |tup es=>
  cases e;simp only[RepB,Rep] at r;obtain⟨a,ys,rfl,q,w⟩:=r;exact .inl #[a,ys,rfl,.inr q,k _ H StE.refl I (by rw[w.length];simp only[Rep])]
 |lst es=>
  cases e;obtain⟨a,ys,rfl,_,q,w⟩:=r;exact .inl #[a,ys,rfl,.inl (SqL.of q),k _ H StE.refl I (by rw[w.length];simp only[Rep])]
 |str z=>
  cases e;simp only[RepB,Rep] at r;obtain⟨rfl,l⟩:=r;exact .inr #[z,rfl,l,k _ H StE.refl I (by simp only[Rep])]
 |_=>cases e
def IT:S6 K (fun xs H Q=>∃i,xs=[.int i]/\Q (.int (if i<0 then -i else i)) H) (one eJ):=bW fun g σ H fa O s x B d Q I r e k=>by
 cases B with
 |int i=>
  cases e;simp only[RepB,Rep] at r;subst r;exact#[i,rfl,k _ H StE.refl I (by simp only[Rep])]
 |_=>cases e
def FC:S6 K (fun xs H Q=>(∃i,xs=[.int i]/\Q (.int i) H)\/∃k,xs=[.bl k]/\Q (.int (if k then 1 else 0)) H) (one cT):=bW fun g σ H fa O s x B d Q I r e k=>by
 cases B with
 |int i=>
  cases e;simp only[RepB,Rep] at r;subst r;exact .inl #[i,rfl,k _ H StE.refl I (by simp only[Rep])]
 |bl b=>
  cases e;simp only[RepB,Rep] at r;subst r;exact .inr #[b,rfl,k _ H StE.refl I (by simp only[Rep])]
 |_=>cases e
def EC:S6 K (fun xs H Q=>∃i,xs=[.int i]/\i.natAbs.log2<1920/\Q (.str (toString i)) H) (one fg):=bW fun g σ H fa O s x B d Q I r e k=>by
 cases B with
 |int i=>
  simp only[fg] at e;split at e
  .rename_i h;cases e;simp only[RepB,Rep] at r;subst r;exact#[i,rfl,h.1,k _ H StE.refl I (by simp only[Rep];exact#[trivial,h.2])]
  .cases e
 |_=>cases e
def sR:S6 K (fun xs H Q=>∃p ys,xs=[.ref p]/\((SqL K H p ys/\∀l,H l=none->Q (.ref l) (j5 H l (.tup ys)))\/(SqT K H p ys/\Q (.ref p) H))) (one bK):=bW fun g σ H fa O s x U d Q I r e k=>by
 cases U with
 |tup es=>
  cases e;simp only[RepB,Rep] at r;obtain⟨a,ys,rfl,q,w⟩:=r;exact#[a,ys,rfl,.inr #[q,k _ H StE.refl I (by simp only[Rep];exact#[a,ys,rfl,q,w])]]
 |lst es=>
  cases e;obtain⟨a,ys,rfl,_,q,w⟩:=r;refine#[a,ys,rfl,.inl #[SqL.of q,fun p B=>?_]];have J:StE fa O H fa O (j5 H p (.tup ys)):=E6 B;refine k _ _ J (I.new B) ?_;simp only[Rep];exact#[p,ys,rfl,SqT.of D2,Reps.stp I J.stp w]
 |_=>cases e
def Bt:jz K (fun xs H Q=>∃p ys,xs=[.ref p]/\(SqL K H p ys\/SqT K H p ys)/\∀l,H l=none->Q (.ref l) (j5 H l (.lst ys))) (one gJ):=by
 intro g σ H fa O s xs ds es Q I Z e k;obtain⟨Y,rfl,J⟩:=vA e;obtain⟨x,rfl,r⟩:=tw Z;cases Y with
 |tup U=>
  cases J;simp only[RepB,Rep] at r;obtain⟨a,ys,rfl,q,w⟩:=r;exact#[a,ys,rfl,.inr q,fun p B=>k p ys _ (E6 B) (ak I B w) B]
 |lst U=>
  cases J;obtain⟨a,ys,rfl,_,q,w⟩:=r;exact#[a,ys,rfl,.inl (SqL.of q),fun p B=>k p ys _ (E6 B) (ak I B w) B]
 |_=>cases J
def vG (K:vF_):List V->Hp->VK->Prop:=fun xs H Q=>∃N fa d x,xs=[x]/\RepB K N fa H d x/\aF d=true/\Q (.str d.py.shown) H
def BZ (hu:X.A.units+66<cLine) (hg:X.A.guards=some []):CallR X (.builtin "repr") (vG X.K):=by
 intro pins s σ H xs us Q I r h;obtain⟨N,fa,d,x,rfl,B,ok,q⟩:=h;obtain⟨u,rfl,U⟩:=Y1 r;unfold aF at ok;simp only[Ki,MB] at ok;obtain⟨⟨⟨⟨hp,hs⟩,hl⟩,hd⟩,hz⟩:=ok;obtain⟨as,ra⟩:=cY I d x u B.o U hp;have J:∀(h':Heap) (Y:Nat) (t:Tok),(∀b o,s.heap.get? b=some o->h'.get? b=some o)->EP X pins σ Q (.str d.py.shown t) { s with heap:=h',toks:=Y }:=fun h' Y t Z=>#[.str d.py.shown,H,I.kept Z,#[t,rfl],q]
 cases d with
 |non=>
  simp only[RepB,Rep] at B;subst B;cases U;exact P.repr_of_none (J s.heap _ _ fun _ _ e=>e)
 |bl b=>
  simp only[RepB,Rep] at B;subst B;cases U;have:=J s.heap (s.toks+1) s.toks fun _ _ e=>e
  refine P.repr_of_bool ?_;cases b <;> simpa only[D.py,PyData.shown] using this
 |int i=>
  simp only[RepB,Rep] at B;subst B;obtain⟨t,rfl⟩:=U;have:=J s.heap (s.toks+1) s.toks fun _ _ e=>e
  simp only[D.py,PyData.showable,MB] at hs;exact P.repr_of_int hs (by simpa only[D.py,PyData.shown] using this)
 |str z=>
  simp only[RepB,Rep] at B;obtain⟨B,_⟩:=B;subst B;obtain⟨t,rfl⟩:=U;have:=J s.heap (s.toks+1) s.toks fun _ _ e=>e
  exact P.repr_of_str (by simpa only[D.py,PyData.shown] using this) (by simpa only[D.py,PyData.shown] using hz)
 |tup ds=>
  simp only[RepB,Rep] at B;obtain⟨a,ys,rfl,_⟩:=B;cases U;exact repr_of_reads' ra hs (PyData.noDict_hsm (PyData.hasDict_of_canLay _ hl)) hg ∅ (fun _ _ e=>e) (fun h' t Y Z=>J h' Y t Z) hz
 |lst ds=>
  obtain⟨a,ys,rfl,_⟩:=B;cases U;exact repr_of_reads' ra hs (PyData.noDict_hsm (PyData.hasDict_of_canLay _ hl)) hg ∅ (fun _ _ e=>e) (fun h' t Y Z=>J h' Y t Z) hz
 |feed=>cases hp
 |scr _=>cases hp
 |fn _=>cases hp
 |exc _ _=>cases hp
def Bv:S6 K (vG K) (one S3):=bW fun g σ H fa O s x B d Q I r e k=>by
 unfold S3 at e;by_cases h:aF B=true
 .rw[iO h] at e;cases e;refine#[_,_,B,x,rfl,r,h,k _ H StE.refl I ?_];simp only[Rep];unfold aF at h;simp only[Ki,MB] at h;exact#[trivial,h.2]
 .rw[iR h] at e;cases e
end
end DL
namespace DL
open PySem PySem.Spec L2
def FS.get (key:Str) (f:FS):Option D:=
 if f.kind=0 then if key = "cells" then some (.lst (f.cells.map .int)) else if key = "at" then some (.int f.pos) else if key = "left" then some (.int f.left) else if key = "turn" then some (.int f.turn) else none else none
def FS.put (key:Str) (n:Int) (f:FS):Option FS:=
 if f.kind=0 then if key = "at" then some { f with pos:=n } else if key = "left" then some { f with left:=n } else if key = "turn" then some { f with turn:=n } else none else none
def F7 (i:Nat) (key:Str):DE:=fun s=>match s.sl[i]? with
 |some (.v .feed)=>s.fs.bind fun f=>(f.get key).map fun d=>(d,s)
 |_=>none
def V2 (i:Nat) (key:Str) (fe:DE):DM:=fun s=>(fe s).bind fun x=>match x.2.sl[i]?,x.1 with
 |some (.v .feed),.int n=>x.2.fs.bind fun f=>(f.put key n).map fun f'=>(.next,{ x.2 with fs:=some f' })
 |_,_=>none
def iq (i:Nat):DE:=fun s=>match s.sl[i]?,s.fs with
 |some (.v (.scr ns)),none=>some (.feed,{ s with fs:=some #[ns,0,0,0,0] })
 |_,_=>none
abbrev N9 (c:Addr) (f:FS):List (n9 × V):=[(Sum.inr ("cells" : Str),V.ref c),(Sum.inr ("at" : Str),V.int f.pos),(Sum.inr ("left" : Str),V.int f.left),(Sum.inr ("turn" : Str),V.int f.turn)]
def jI:¬ (Sum.inr ("cells" : Str):n9)=Sum.inr ("at" : Str):=by intro h;exact absurd (Lz h) (by decide +kernel)
def nG:¬ (Sum.inr ("cells" : Str):n9)=Sum.inr ("left" : Str):=by intro h;exact absurd (Lz h) (by decide +kernel)
def mf:¬ (Sum.inr ("cells" : Str):n9)=Sum.inr ("turn" : Str):=by intro h;exact absurd (Lz h) (by decide +kernel)
def gG:¬ (Sum.inr ("at" : Str):n9)=Sum.inr ("left" : Str):=by intro h;exact absurd (Lz h) (by decide +kernel)
def gH:¬ (Sum.inr ("at" : Str):n9)=Sum.inr ("turn" : Str):=by intro h;exact absurd (Lz h) (by decide +kernel)
def gX:¬ (Sum.inr ("left" : Str):n9)=Sum.inr ("turn" : Str):=by intro h;exact absurd (Lz h) (by decide +kernel)
def zH (c:Addr) (f:FS):L5 (N9 c f) (Sum.inr ("cells" : Str))=some (.ref c):=bV rfl
def rW (c:Addr) (f:FS):L5 (N9 c f) (Sum.inr ("at" : Str))=some (.int f.pos):=by rw[O8 jI,bV rfl]
def pU (c:Addr) (f:FS):L5 (N9 c f) (Sum.inr ("left" : Str))=some (.int f.left):=by rw[O8 nG,O8 gG,bV rfl]
def vC (c:Addr) (f:FS):L5 (N9 c f) (Sum.inr ("turn" : Str))=some (.int f.turn):=by rw[O8 mf,O8 gH,O8 gX,bV rfl]
def nK {kvs:List (n9 × V)}{k:n9}{v x:V}(h:L5 kvs k=some x):D9 kvs k v=kvs.map (fun kv=>if kv.1=k then (kv.1,v) else kv):=by
 unfold D9;rw[iO (by rw[jw,h];rfl)]
def CH (c:Addr) (f:FS) (n:Int):D9 (N9 c f) (Sum.inr ("at" : Str)) (.int n)=N9 c { f with pos:=n }:=by
 rw[nK (rW c f)];simp only[JS,KJ,iR jI,iR (JT gG),iR (JT gH),Kh]
def IQ (c:Addr) (f:FS) (n:Int):D9 (N9 c f) (Sum.inr ("left" : Str)) (.int n)=N9 c { f with left:=n }:=by
 rw[nK (pU c f)];simp only[JS,KJ,iR nG,iR gG,iR (JT gX),Kh]
def HC (c:Addr) (f:FS) (n:Int):D9 (N9 c f) (Sum.inr ("turn" : Str)) (.int n)=N9 c { f with turn:=n }:=by
 rw[nK (vC c f)];simp only[JS,KJ,iR mf,iR gH,iR gX,Kh]
def FS.get_val {f:FS}(h:f.get key=some d) (c:Addr):∃v,L5 (N9 c f) (Sum.inr key)=some v/\((v = .ref c/\d = .lst (f.cells.map .int))\/∃i,v = .int i/\d = .int i)/\f.kind=0:=by
 unfold FS.get at h;split at h
 case isFalse=>cases h
 rename_i B;split at h
 .rename_i e;subst e;cases h;exact#[_,zH c f,.inl #[rfl,rfl],B]
 split at h
 .rename_i e;subst e;cases h;exact#[_,rW c f,.inr #[_,rfl,rfl],B]
 split at h
 .rename_i e;subst e;cases h;exact#[_,pU c f,.inr #[_,rfl,rfl],B]
 split at h
 .rename_i e;subst e;cases h;exact#[_,vC c f,.inr #[_,rfl,rfl],B]
 .cases h
def FS.put_val {f f':FS}{n:Int}(h:f.put key n=some f') (c:Addr):D9 (N9 c f) (Sum.inr key) (.int n)=N9 c f'/\f'.cells=f.cells/\f.kind=0/\f'.kind=0:=by
 unfold FS.put at h;split at h
 case isFalse=>cases h
 rename_i B;split at h
 .rename_i e;subst e;cases h;exact#[CH c f n,rfl,B,B]
 split at h
 .rename_i e;subst e;cases h;exact#[IQ c f n,rfl,B,B]
 split at h
 .rename_i e;subst e;cases h;exact#[HC c f n,rfl,B,B]
 .cases h
section
variable {pos:Pos}
def yr (hu:X.A.units+1<cLine) (hv:PE X (.Name x p1) (W6 i)):EO X g (.Subscript (.Name x p1) (.Constant (.str key) j p2) pos) (F7 i key):=
 EO.w (Bj hu hv cb (fun _ _=>rfl)) fun σ H Q Z=>by
  refine Z.elim fun fa O s d s' I e k=>?_
  unfold F7 at e;cases q:s.sl[i]? with
  |none=>rw[q] at e;cases e
  |some z=>
   rw[q] at e;cases z with
   |no=>cases e
   |own _=>cases e
   |v Y=>
    cases Y with
    |feed=>
     refine V1 e fun f h1 h2=>?_
     refine M6 h2 fun d' h3 h4=>?_
     cases h4;obtain⟨u,e1,r⟩:=SlR.val I.sl q;simp only[Rep] at r;obtain⟨a,J,rfl⟩:=r;have fd:=I.fd;rw[h1,J] at fd;obtain⟨_,c,U,nc,lc⟩:=fd;obtain⟨v,B,hd,hk⟩:=FS.get_val h3 c;rw[kJ hk] at U;refine#[_,e1,a,v,rfl,?_,k v H fa O StE.refl I ?_]
     .have:=DGet.k (k:=Sum.inr key) U;rw[B] at this;exact this
     .rcases hd with ⟨rfl,rfl⟩ | ⟨n,rfl,rfl⟩
      .simp only[Rep];exact#[c,_,rfl,by rw[J];exact nc,lc,Reps.ints]
      .simp only[Rep]
    |_=>cases e
def xX {e:Expr}{fe:DE}(hu:X.A.units+1<cLine) (hv:PE X (.Name x p1) (W6 i)) (he:EO X g e fe) (hs:swapsWith e (some (.Subscript (.Name x p1) (.Constant (.str key) j p2) pos')) pos.line X.env=pure false:=by rfl) :
  SO X g (.Assign [.Subscript (.Name x p1) (.Constant (.str key) j p2) pos'] e pos) (V2 i key fe):=
 SO.w (HN hu hv cb he.pe hs) fun E σ H hQ=>by
  refine hQ.elim fun fa O s fl s' I q k=>?_
  refine v3 q fun d s1 h1 h2=>?_
  simp only[] at h2;cases q1:s1.sl[i]? with
  |none=>rw[q1] at h2;cases h2
  |some z=>
   rw[q1] at h2;cases z with
   |no=>cases h2
   |own _=>cases h2
   |v dz=>
    cases dz with
    |feed=>
     cases d with
     |int n=>
      simp only[] at h2;refine V1 h2 fun f h3 h4=>?_
      refine M6 h4 fun f' h5 h6=>?_
      cases h6;refine#[fa,O,s,.int n,s1,I,h1,fun v H1 f1 O1 a1 B r=>?_];simp only[Rep] at r;subst r;obtain⟨u,e1,ru⟩:=SlR.val B.sl q1;simp only[Rep] at ru;obtain⟨a,ha,rfl⟩:=ru;have fd:=B.fd;rw[h3,ha] at fd;obtain⟨Y,c,hc,nc,lc⟩:=fd;obtain⟨Z,J,hk,hk'⟩:=FS.put_val h5 c;rw[kJ hk] at hc;have hp:=DPut.k (k:=Sum.inr key) (v:=.int n) hc (by show 4<sizeLine;decide);rw[Z] at hp;refine#[_,e1,a,_,rfl,hp,?_];have a2:StE f1 O1 H1 f1 O1 (j5 H1 a (.dK (N9 c f'))):=#[fun _ h=>h,.inl rfl,fun b w e nb=>by rw[m9 (fun z=>nb (by rw[z];exact ha))];exact e,fun b z=>by
       by_cases U:b=a
       .subst U;rw[D2] at z;cases z
       .rw[m9 U] at z;exact z]
      have cr:=B.car a2.stp;refine k σ _ f1 O1 (a1.stp.trans a2.stp) #[B.nd,SlR.go cr (fun b xs U e=>a2.same b _ e fun z=>B.nf b z U) B.sl,B.fr,?_,B.tr,B.ff,?_,B.nf]
      .refine#[fun b U=>(by cases U),B.st.fe,fun b w e _ nb=>?_,fun b z=>B.st.mon b (a2.mon b z)];refine a2.same b w (B.st.same b w e (by simp) nb) fun z=>?_
       rcases B.st.fe with y | ⟨y,y2⟩
       .rw[y] at z;exact nb z
       .rw[y2 b z] at e;cases e
      .rw[ha];refine#[by rw[J];exact Y,c,by rw[kJ hk',D2],nc,?_];rw[m9 (fun z=>by rw[z,hc] at lc;cases lc),J];exact lc
     |_=>cases h2
    |_=>cases h2
def BI (xs:List V) (h:xs.length<=63):S0 xs none (some 63)=xs:=by
 unfold S0;have J:HT.sIx xs.length 0 none=0:=rfl;have B:HT.sIx xs.length xs.length (some 63)=xs.length:=by
  have:=HT.sIx_nat xs.length xs.length 63;rw[show ((63:Nat):Int)=63 from rfl] at this;rw[this];omega
 rw[J,B,NX,Ng,NY]
def IM (q:Addr):cV [] [(Sum.inr ("cells" : Str),V.ref q),(Sum.inr ("at" : Str),V.int 0),(Sum.inr ("left" : Str),V.int 0),(Sum.inr ("turn" : Str),V.int 0)]=N9 q #[[],0,0,0,0]:=by
 show D9 (D9 (D9 (D9 ([]:List (n9 × V)) (Sum.inr ("cells" : Str)) (V.ref q)) (Sum.inr ("at" : Str)) (V.int 0)) (Sum.inr ("left" : Str)) (V.int 0)) (Sum.inr ("turn" : Str)) (V.int 0)=_;have J:D9 ([]:List (n9 × V)) (Sum.inr ("cells" : Str)) (V.ref q)=[(Sum.inr ("cells" : Str),V.ref q)]:=gr _ fW;have B:D9 ([(Sum.inr ("cells" : Str),V.ref q)]:List (n9 × V)) (Sum.inr ("at" : Str)) (V.int 0)=[(Sum.inr ("cells" : Str),V.ref q),(Sum.inr ("at" : Str),V.int 0)]:=gr _ (by rw[O8 jI,fW]);have U:D9 ([(Sum.inr ("cells" : Str),V.ref q),(Sum.inr ("at" : Str),V.int 0)]:List (n9 × V)) (Sum.inr ("left" : Str)) (V.int 0)=[(Sum.inr ("cells" : Str),V.ref q),(Sum.inr ("at" : Str),V.int 0),(Sum.inr ("left" : Str),V.int 0)]:=gr _ (by rw[O8 nG,O8 gG,fW]);rw[J,B,U];exact gr _ (by rw[O8 mf,O8 gH,O8 gX,fW])
def Hs {k1 k2 k3 k4 j63 j0 j1 j2:Nat}(hv:PE X (.Name x p1) (W6 i)) :
  EO X g (.Dict [some (.Constant (.str ("cells" : Str)) k1 q1),some (.Constant (.str ("at" : Str)) k2 q2),some (.Constant (.str ("left" : Str)) k3 q3),some (.Constant (.str ("turn" : Str)) k4 q4)]
   [.Subscript (.Name x p1) (.Slice none (some (.Constant (.int 63) j63 q5)) none q6) q7,.Constant (.int 0) j0 q8,.Constant (.int 0) j1 q9,.Constant (.int 0) j2 q10] pos) (iq i):=
 EO.w (Jm (jy cb (oB vb hv wc (om eZ)) (jy cb eZ (jy cb eZ (jy cb eZ yC)))) rfl rfl (by simp) (by show 4<=15;decide)) fun σ H Q hQ=>by
  refine hQ.elim fun fa O s d s' I e k=>?_
  unfold iq at e;cases q:s.sl[i]? with
  |none=>rw[q] at e;cases e
  |some z=>
   rw[q] at e;cases z with
   |no=>cases e
   |own _=>cases e
   |v dz=>
    cases dz with
    |scr ns=>
     cases hf:s.fs with
     |some f=>rw[hf] at e;cases e
     |none=>
      rw[hf] at e;cases e;obtain⟨u,e1,r⟩:=SlR.val I.sl q;simp only[Rep] at r;obtain⟨Z,a,rfl,sq⟩:=r;have fd:=I.fd;rw[hf] at fd;have fan:fa=none:=by cases fa with | none=>rfl | some _=>exact fd.elim
      subst fan;intro p hp;have sq1:SqF X.K (j5 H p (.dK [])) a (ns.map V.int):=by
       rcases sq with ⟨o,sq⟩ | sq
       .exact .inl #[o,by rw[m9 (F1 sq hp)];exact sq]
       .exact .inr sq
      refine#[_,e1,63,rfl,a,_,rfl,sq1.sq,fun c hc=>?_];rw[BI _ (by rw[JR];exact Z)];have J:c≠p:=fun z=>by rw[z,D2] at hc;cases hc
      have B:H c=none:=by rw[m9 J] at hc;exact hc
      refine#[by rw[m9 (JT J),D2],[(Sum.inr ("cells" : Str),V.ref c),(Sum.inr ("at" : Str),V.int 0),(Sum.inr ("left" : Str),V.int 0),(Sum.inr ("turn" : Str),V.int 0)],rfl,by show 4<=15;decide,?_];rw[IM];have Y:∀b u,H b=some u->b≠p/\b≠c:=fun b u e=>#[F1 e hp,F1 e B]
      have U:StE none O H (some p) O (j5 (j5 (j5 H p (.dK [])) c (.lst (ns.map V.int))) p (.dK (N9 c #[[],0,0,0,0]))):=by
       refine#[fun _ h=>h,.inr #[rfl,fun b z=>by cases z;exact hp],fun b u e _=>?_,fun b z=>?_]
       .obtain⟨n1,n2⟩:=Y b u e;rw[m9 n1,m9 n2,m9 n1];exact e
       .by_cases h1:b=p
        .subst h1;exact hp
        .by_cases h2:b=c
         .subst h2;exact B
         .rw[m9 h1,m9 h2,m9 h1] at z;exact z
      have cr:=I.car U.stp;refine k _ _ (some p) O U #[I.nd,SlR.go cr (fun b xs hb e=>U.same b _ e (by simp)) I.sl,I.fr,I.st.trans #[fun b hb=>(by cases hb),U.fe,fun b u e _ n=>U.same b u e n,U.mon],I.tr,I.ff,?_,I.nf_step U.fe] (by simp only[Rep];exact#[p,rfl,rfl]);refine#[Z,c,D2,?_,?_]
      .rintro(z | z | z)
       .exact I.trF z B
       .obtain⟨xs,e⟩:=I.owned z;rw[B] at e;cases e
       .exact J (Kb z).symm
      .rw[m9 J,D2]
    |_=>cases e
end
structure Cal (P:Program) (w:World) (K:vF_) (mg:vG_) (base:Heap) (k:Nat) (x:Str) (ps:List Str) (m:c9):Prop where
 ex:∃(f:Addr) (fd:FuncData),fD P w K mg base k f fd ps m/\mg x=some (.ref f)/\PySem.W.keepIn K (.ref f)=true/\Binds K fd ps []
structure Blt (mg:vG_):Prop where
 len:mg "len" = none
 range:mg "range" = none
 abs:mg "abs" = none
 tuple:mg "tuple" = none
 list:mg "list" = none
 int:mg "int" = none
 bool:mg "bool" = none
 str:mg "str" = none
 repr:mg "repr" = none
 all:mg "all" = none
 isinstance:mg "isinstance" = none
 zip:mg "zip" = none
 enumerate:mg "enumerate" = none
 min:mg "min" = none
 max:mg "max" = none
 reversed:mg "reversed" = none
 any:mg "any" = none
 sum:mg "sum" = none
 sorted:mg "sorted" = none
section
variable {k:Nat}{ps:List Str}{p pos:Pos}{t:DA}
def CQ (C:Cal X.prog X.w X.K X.mg X.base k x ps m) (k':Nat) (hr:Room k' X.A) (hk:k<=k') (hg:Gl X x)
  (Y:AO X g (e::es) t) (hn:∀s ds s',t s=some (ds,s')->ds.length=ps.length) (U:(x == ("__debug__" : Str))=false:=by decide) (he:starEach (e::es) X.env=(false,eval e X.env)::starEach es X.env:=by rfl) (B:(backTo pos (starEach es X.env)).any (·.1)=false:=by rfl) :
  EO X g (.Call (.Name x p) (e::es) [] pos) (d8 m t):=by
 obtain⟨f,fd,F,Z,J,hb⟩:=C.ex;exact JA F (hr.mono hk) hg Z J hb Y hn U he B
end
def Fv {w:World}{K:vF_}{st:Stmt}{N ps:List Str}{k:Nat}{b:DM}(F:Fun K x x st f fd) (J:mg x=some (.ref f)) (U:Binds K fd ps []) (S:FnScope N ps (B8 st))
  (B:∀(cdv:Value) (A:Around) (outer:List Env) (s:Shared) (H:Hp) (E:XK) (g:Gh),Room k (A.deeper (PyProof.Rows.envOfC x (B8 st) s.heap.objs.size f cdv))->SSO (O7 U9 P w K mg base N x (B8 st) f cdv A outer s H E).nox g (N6 st) b) :
  Cal P w K mg base (k+1) x ps (B3 N.length b):=#[f,fd,wu F S B,J,F.kp,U]
def qB {k:Nat}(B:Room k A):A.units+64<cLine:=by have:=B.un;omega
def Ag {k:Nat}(B:Room k A):A.units+66<cLine:=by have:=B.un;omega
def Fe:bootBuiltins ("len" : Str)=some (.builtin "len"):=by decide +kernel
def Gp:bootBuiltins ("abs" : Str)=some (.builtin "abs"):=by decide +kernel
def xQ:bootBuiltins ("repr" : Str)=some (.builtin "repr"):=by decide +kernel
def gm:bootBuiltins ("isinstance" : Str)=some (.builtin "isinstance"):=by decide +kernel
def aR:bootBuiltins ("tuple" : Str)=some (.type "tuple"):=by decide +kernel
def sD:bootBuiltins ("list" : Str)=some (.type "list"):=by decide +kernel
def gy:bootBuiltins ("int" : Str)=some (.type "int"):=by decide +kernel
def jl:bootBuiltins ("bool" : Str)=some (.type "bool"):=by decide +kernel
def lL:bootBuiltins ("str" : Str)=some (.type "str"):=by decide +kernel
theorem gh {κ:Type}[BEq κ] [LawfulBEq κ] {β:Type}:∀{l:List (κ × β)}{x:κ}{v:β},l.lookup x=some v->(x,v)∈l
 |[],_,_,h=>by simp at h
 |(a,b)::r,x,v,h=>by
  rw[NZ] at h;cases e:x == a with
  |true=>
   rw[e] at h;cases h;rw[eq_of_beq e];exact JL ..
  |false=>
   rw[e] at h;exact JH _ (gh h)
def hasAll (B:List (Str × NameKind)) (cl:List (Str × Addr)):Bool:=B.all fun p=>!(p.2 == .cell||p.2 == .free)||(cl.lookup p.1).isSome
def pZ {B:List (Str × NameKind)}(h:hasAll B cl=true):∀x,(B.lookup x=some .cell\/B.lookup x=some .free)->∃c,cl.lookup x=some c:=fun x U=>by
 have key:∀J,B.lookup x=some J->(J == NameKind.cell||J == NameKind.free)=true->∃c,cl.lookup x=some c:=fun J e q=>by
  have m:=gh e;have z:=Lx.mp h _ m;simp only[q,Bool.not_true,MZ] at z;exact OL.mp z
 rcases U with e | e
 .exact key _ e rfl
 .exact key _ e rfl
inductive CapL (X:Cx) (scope:Scope):List Nat->List Str->Prop where
 | nil:CapL X scope [] []
 | cons {i:Nat}{y:Str}{r:List Nat}{ys:List Str}(h1:X.N[i]? = some y) (h2:X.env.scope.names.lookup y=some .cell\/X.env.scope.names.lookup y=some .free)
   (h3:(relabel scope X.env).names.lookup y=some .cell\/(relabel scope X.env).names.lookup y=some .free) (t:CapL X scope r ys):CapL X scope (i::r) (y::ys)
def CapL.len :∀{idx:List Nat}{ys:List Str},CapL X scope idx ys->ys.length=idx.length
:= by
 intro idx ys h;induction h with
 |nil=>rfl
 |cons _ _ _ t ih=>rw[JO,JO,ih]
def CapL.at :∀{idx:List Nat}{ys:List Str},CapL X scope idx ys->∀(j i:Nat) (y:Str),idx[j]? = some i->ys[j]? = some y ->
  X.N[i]? = some y/\(X.env.scope.names.lookup y=some .cell\/X.env.scope.names.lookup y=some .free)/\((relabel scope X.env).names.lookup y=some .cell\/(relabel scope X.env).names.lookup y=some .free)
:= by
 intro idx ys h;induction h with
 |nil=>intro j i y h;cases h
 |cons h1 h2 h3 t ih=>
  intro j i y e1 e2;cases j with
  |zero=>
   cases e1;cases e2;exact#[h1,h2,h3]
  |succ j=>exact ih j i y e1 e2
inductive SubL (cells:List (Str × Addr)):List (Str × Addr)->Prop where
 | nil:SubL cells []
 | cons {x:Str}{c:Addr}{r:List (Str × Addr)}(h:cells.lookup x=some c) (t:SubL cells r):SubL cells ((x,c)::r)
def SubL.mem {B:List (Str × Addr)}:∀{cl:List (Str × Addr)},SubL B cl->∀x c,(x,c)∈cl->B.lookup x=some c
:= by
 intro cl h;induction h with
 |nil=>intro x c h;cases h
 |cons e t ih=>
  intro x c h;rcases xo.mp h with z | z
  .cases z;exact e
  .exact ih x c z
def bg (J:closureFor scope X.env=pure cl) (sub:SubL X.env.cells cl) (cell:∀y∈scope.names,y.2 ≠ .cell) (kind:scope.kind = .function)
  (names:∀y∈scope.names,y.2 = .local->scope.names.lookup y.1=some .local) (U:hasAll (relabel scope X.env).names cl=true) (B:CapL X scope idx caps):CompOk X scope cl (x::caps) 1 idx:=
 #[J,fun y c e=>sub.mem y c (gh e),cell,kind,names,pZ U,by rw[JO,B.len,Mg],fun j i y Z Y=>B.at j i y Z (by rw[Mg] at Y;simpa using Y)]
def B2 (i j:Nat) (f:DA):DM:=fun s=>(f s).bind fun x=>match x.1 with
 |[a,b]=>some (.next,{ x.2 with sl:=(x.2.sl.set i (.v a)).set j (.v b) })
 |_=>none
def HV {i j:Nat}{x y:Str}{a b:Expr}{f:DA}{px py pt pos:Pos}{kt k2 pt2} (hc:X.calm=true) (hN:X.N.Nodup) (hi:X.N[i]? = some x) (hj:X.N[j]? = some y) (J:i≠j)
  (hx:X.env.scope.names.lookup x=some .local) (hy:X.env.scope.names.lookup y=some .local) (ha:AO X g [a,b] f)
  (hw:swappedStores [.Tuple [.Name x px,.Name y py] kt pt] (.Tuple [a,b] k2 pt2) X.env=pure (some [x,y]))
  (hs:swapsWithSole [.Tuple [.Name x px,.Name y py] kt pt] (.Tuple [a,b] k2 pt2) pos.line X.env=pure false:=by rfl) :
  SO X g (.Assign [.Tuple [.Name x px,.Name y py] kt pt] (.Tuple [a,b] k2 pt2) pos) (B2 i j f):=SO.w (Hj hc hN hi hj J hx hy ha.pe hw hs) fun E σ H Z=>by
 refine Z.elim fun fa O s fl s' I q k=>?_
 refine v3 q fun ds s1 h1 h2=>?_
 refine#[fa,O,s,ds,s1,I,h1,fun vs H1 f1 O1 a1 U r=>?_]
 match ds,h2,r with
 |[d1,d2],h2,r=>
  simp only[Kj,JU] at h2;obtain⟨e1,e2⟩:=h2;subst e1;subst e2;simp only[Reps] at r;obtain⟨v,ys,rfl,rv,u,zs,rfl,ru,rfl⟩:=r;refine#[v,u,rfl,?_];obtain⟨P,sub,I2⟩:=U.put i rv;have Y:StE f1 O1 H1 f1 P H1:=br sub;obtain⟨P3,B,I3⟩:=I2.put j (Rep.stp U Y.stp ru);exact k _ H1 f1 P3 (a1.stp.trans (Y.stp.trans (br B).stp)) I3
def walkD {l:PySem.W.OpenLaw}{d:DefRec}{K:Params->PySem.W.Frag}{k:Nat}(hn:l.most=some 63) (J:d.params.defaults=[]) (Z:Room k callerA)
  (hY:∀(w:World) (h:Heap),YP w h->(K w.params).In h)
  (F:∀(w:World) (mg:vG_) (fa:Addr) (h:Heap),(K w.params).In h->h.Ns mainGlobals mg->mg d.name=some (.ref fa) ->
   ∃fd:FuncData,(∀(s:Shared) (u:Value),BindsTo s fd #[[u],[]] [("_law_script",u)])/\∀base:Heap,(K w.params).In base->base.Ns mainGlobals mg->FnOk l.prog w (K w.params) mg base U9 k fa fd ["_law_script"] (dI (K w.params) 1 m))
  (B:∀ns:List Int,ns.length<=63->∃fs',m [.scr ns] none=some (.bl true,fs')) :
  PySem.W.WalkO q loose XP YP l.row.toRowW d [] (fun f vs=>PySem.call f vs):=
 L2.walk_of (n:=63) (k:=k) (x := "_law_script") (CX:=fun _=>U9) (sp:=fun w=>dI (K w.params) 1 m) hn #[] J Z hY F (fun w H a ns U Y hS=>by
  obtain⟨fs',e⟩:=B ns U;refine#[fun _=>False,none,[.scr ns],none,.bl true,fs',fun b z=>z.elim,fun a z=>(by cases z),?_,trivial,e,rfl,fun v H' fa' _ _ r=>by simpa only[Rep] using r];simp only[Reps,Rep];refine#[_,_,rfl,#[U,a,rfl,?_],rfl];rcases hS with (z | ⟨o,z⟩) | z
  .rcases Y a with y | ⟨o,xs,y⟩ <;> · rw[z] at y;cases y
  .exact .inl #[o,z]
  .exact .inr z) fun _ _ _ _ _ z=>z
def vT:D->Option String
 |.non=>some "NoneType"
 |.bl _=>some "bool"
 |.int _=>some "int"
 |.str _=>some "str"
 |.tup _=>some "tuple"
 |.lst _=>some "list"
 |_=>none
def K0 (T C:String):Bool:=T == C||(T == "bool" && C == "int")
def C5 (C:String) (d:D):Option D:=(vT d).map fun T=>.bl (K0 T C)
def dj (K:vF_) (C:String):Prop:=∀T,T = "NoneType" \/ T = "bool" \/ T = "int" \/ T = "str" \/ T = "tuple" \/ T = "list" -> PySem.W.kitOne K (.type T) (.type C)=some (K0 T C)
def mh {K:vF_}:dj K "int" := by rintro T (rfl | rfl | rfl | rfl | rfl | rfl) <;> rfl
def lH {K:vF_}:dj K "bool" := by rintro T (rfl | rfl | rfl | rfl | rfl | rfl) <;> rfl
def vE {K:vF_}:dj K "str" := by rintro T (rfl | rfl | rfl | rfl | rfl | rfl) <;> rfl
def cA {K:vF_}:dj K "tuple" := by rintro T (rfl | rfl | rfl | rfl | rfl | rfl) <;> rfl
def En (K:vF_) (C:String):List V->Hp->VK->Prop:=fun xs H Q=>∃N fa d T x,xs=[x,.ty C]/\RepB K N fa H d x/\vT d=some T/\Q (.bl (K0 T C)) H
def CP {C:String}(Y:dj X.K C):CallR X (.builtin "isinstance") (En X.K C):=by
 intro pins s σ H xs us Q I r h;obtain⟨N,fa,d,T,x,rfl,J,U,q⟩:=h;obtain⟨u,c,rfl,Z,rc⟩:=mZ r;cases (show c=Value.type C from rc);have B:∀tk,EP X pins σ Q (.bool (K0 T C)) { s with toks:=tk }:=fun tk=>#[.bl (K0 T C),H,I.tok tk,rfl,q]
 cases d with
 |non=>
  cases U;simp only[RepB,Rep] at J;subst J;cases Z;exact LR PySem.W.kitx_none I.kIn True.intro (Y _ (by simp)) (fun z=>nomatch z) B
 |bl b=>
  cases U;simp only[RepB,Rep] at J;subst J;cases Z;exact LR PySem.W.kitx_bool I.kIn True.intro (Y _ (by simp)) (fun z=>nomatch z) B
 |int i=>
  cases U;simp only[RepB,Rep] at J;subst J;obtain⟨t,rfl⟩:=Z;exact LR PySem.W.kitx_int I.kIn True.intro (Y _ (by simp)) (fun z=>nomatch z) B
 |str i=>
  cases U;simp only[RepB,Rep] at J;obtain⟨J,_⟩:=J;subst J;obtain⟨t,rfl⟩:=Z;exact LR PySem.W.kitx_str I.kIn True.intro (Y _ (by simp)) (fun z=>nomatch z) B
 |tup ds=>
  cases U;simp only[RepB,Rep] at J;obtain⟨a,ys,rfl,sq,_⟩:=J;cases Z;obtain⟨its,_,⟨o,h1,h2,_⟩,_⟩:=I.tuple sq;exact LR PySem.W.kitx_tuple I.kIn #[o,h1,h2] (Y _ (by simp)) (fun z=>nomatch z) B
 |lst ds=>
  cases U;obtain⟨a,ys,rfl,_,sq,_⟩:=J;cases Z;obtain⟨its,_,⟨o,n,h1,h2,_⟩,_⟩:=I.list (SqL.of sq);exact LR PySem.W.kitx_list I.kIn #[o,h1,h2] (Y _ (by simp)) (fun z=>nomatch z) B
 |feed=>cases U
 |scr _=>cases U
 |fn _=>cases U
 |exc _ _=>cases U
section
variable {a b c:Expr}{fa fb fc:DE}{pos:Pos}
def R0 {C:String}{p p2:Pos}(hk:dj X.K C) (hg:Gl X "isinstance") (hm:X.mg "isinstance" = none) (Y:Gl X cn) (J:X.mg cn=none) (U:bootBuiltins cn=some (.type C)) (ha:BO X g a fa)
  (hn:cn ≠ "__name__" := by decide) (hd:(cn == ("__debug__" : Str))=false:=by decide) (Z:starEach [.Name cn p2] X.env=(false,eval (.Name cn p2) X.env)::starEach [] X.env:=by rfl)
  (he:starEach [a,.Name cn p2] X.env=(false,eval a X.env)::starEach [.Name cn p2] X.env:=by rfl) (B:(backTo pos (starEach [.Name cn p2] X.env)).any (·.1)=false:=by rfl) :
  EO X g (.Call (.Name "isinstance" p) [a,.Name cn p2] [] pos) (j4 (C5 C) fa):=
 EO.w (fB (CP hk) hg hm gm (S5 ha.pe (S5 (qm (v:=.ty C) Y J U rfl hn hd) aq Z) he) #[] #[] he B) fun σ H Q hQ=>by
  refine hQ.elim fun f0 O s d s' I e k=>?_
  refine v3 e fun x s1 h1 h=>?_
  refine M6 h fun d' h3 h=>?_
  simp only[JU] at h;obtain⟨e1,e2⟩:=h;subst e1;subst e2;refine M6 h3 fun T h4 h5=>?_
  subst h5;exact#[f0,O,s,x,s1,I,h1,fun v H1 f1 O1 a1 I1 r1=>#[_,_,x,T,v,rfl,r1,h4,k _ H1 f1 O1 a1 I1 (by simp only[Rep])]]
def bD (p p':D->D->Option D) (fa fb fc:DE):DE:=fun s=>(fa s).bind fun x=>(fb x.2).bind fun y=>(p x.1 y.1).bind fun z=>match z with
 |.bl true=>(fc y.2).bind fun w=>(p' y.1 w.1).map fun d=>(d,w.2)
 |.bl false=>some (.bl false,y.2)
 |_=>none
def xF {r r':R2}(hr:F4 X.K r p) (hr':F4 X.K r' p') (σ:L2.St) (H:Hp) (Q:VK) (h:liftE X.K g (bD p p' fa fb fc) σ H Q):uJ r r' (liftB X.K g fa) (liftB X.K g fb) (liftB X.K g fc) σ H Q:=by
 obtain⟨f0,O,s,d,s',I,e,k⟩:=h;refine v3 e fun x s1 h1 e=>?_
 refine v3 e fun y s2 h2 e=>?_
 refine V1 e fun z h3 e=>?_
 refine#[f0,O,s,x,s1,I,h1,fun v H1 f1 O1 a1 I1 r1=>#[f1,O1,s1,y,s2,I1,h2,fun u H2 U O2 a2 I2 r2=>?_]];refine hr g σ H2 U O2 s2 v u x y z _ I2 (RepB.stp I1 a2 r1) r2 h3 fun zz H3 Z J r3=>?_
 cases z with
 |bl b=>
  simp only[Rep] at r3;subst r3;refine#[b,rfl,?_];cases b with
  |false=>
   simp only[Kj,JU] at e;obtain⟨Y,B⟩:=e;subst Y;subst B;exact vY (k _ H3 U O2 (a1.trans (a2.trans Z)) J (by simp only[Rep]))
  |true=>
   refine v3 e fun w s3 h4 e=>?_
   refine M6 e fun d' h5 e=>?_
   simp only[JU] at e;obtain⟨Y,B⟩:=e;subst Y;subst B;refine sS #[U,O2,s2,w,s3,J,h4,fun w' H4 f4 O4 a4 I4 r4=>?_];exact hr' g σ H4 f4 O4 s3 u w' y w d' Q I4 (RepB.stp J a4 (RepB.stp I2 Z r2)) r4 h5 fun q H5 a5 I5 r5=>k q H5 f4 O4 (a1.trans (a2.trans (Z.trans (a4.trans a5)))) I5 r5
 |_=>cases e
def BX {Y B:CmpOp}{r Z:R2}{p p':D->D->Option D}(ho:OpR X (compareOp Y) r) (hr:F4 X.K r p) (J:OpR X (compareOp B) Z) (U:F4 X.K Z p') (ha:BO X g a fa) (hb:BO X g b fb) (hc:BO X g c fc)
  (hm:lastMarks [Y,B] [b,c]=false:=by with_unfolding_all rfl):EO X g (.Compare a [Y,B] [b,c] pos) (bD p p' fa fb fc):=EO.w (BQ ho J ha.pe hb.pe hc.pe hm) (xF hr U)
abbrev DO:=DS->Option (Option Int × DS)
def liftO (K:vF_) (g:Gh) (f:DO):L2.TO:=fun σ H Q=>∃fa O s d s',GI K g σ H fa O s/\f s=some (d,s')/\∀H' fa' O',StE fa O H fa' O' H'->GI K g σ H' fa' O' s'->Q d H'
def liftO.elim {K:vF_}{σ:L2.St}{f:DO}{Q:Option Int->Hp->Prop}(h:liftO K g f σ H Q) (k:∀fa O s d s',GI K g σ H fa O s->f s=some (d,s')->(∀H' fa' O',StE fa O H fa' O' H'->GI K g σ H' fa' O' s'->Q d H')->G):G:=by
 obtain⟨fa,O,s,d,s',a,b,c⟩:=h;exact k fa O s d s' a b c
structure OO (X:Cx) (g:Gh) (e:Option Expr) (f:DO):Prop where
 pe:PO X e (liftO X.K g f)
def L9:DO:=fun s=>some (none,s)
def K9 (f:DE):DO:=fun s=>(f s).bind fun x=>match x.1 with | .int i=>some (some i,x.2) | _=>none
def zP {e:Option Expr}{t t':L2.TO}(h:PO X e t) (w:∀σ H Q,t' σ H Q->t σ H Q):PO X e t':=fun pins s σ H Q I q=>h pins s σ H Q I (w σ H Q q)
theorem OO.w {e:Option Expr}{f:DO}{t:L2.TO}(h:PO X e t) (w:∀σ H Q,liftO X.K g f σ H Q->t σ H Q):OO X g e f:=#[zP h w]
def xW:OO X g none L9:=OO.w wc fun σ H Q B=>by
 refine B.elim fun J O s d s' I e k=>?_
 cases e;exact k H J O StE.refl I
def Af (h:BO X g a fa):OO X g (some a) (K9 fa):=OO.w (om h.pe) fun σ H Q J=>by
 refine J.elim fun Z O s d s' I e k=>?_
 refine v3 e fun x s1 h1 e=>?_
 cases x with
 |int i=>
  simp only[Kj,JU] at e;obtain⟨U,e2⟩:=e;subst U;subst e2;exact#[Z,O,s,.int i,s1,I,h1,fun v H1 f1 O1 Y I1 B=>#[i,by simpa only[RepB,Rep] using B,k H1 f1 O1 Y I1]]
 |_=>cases e
def E2 (xs:vD_) (lo hi:Option Int):List D:=(xs.drop (HT.sIx xs.length 0 lo)).take (HT.sIx xs.length xs.length hi - HT.sIx xs.length 0 lo)
def ku {K:vF_}{fa:vA_}(r:Reps K N fa H ds xs) (lo hi:Option Int):Reps K N fa H (E2 ds lo hi) (S0 xs lo hi):=by
 unfold E2 S0;rw[r.length];exact(r.drop _).take _
end
end DL
namespace HT2
open PySem PyProof.Rows HT
section
variable {w:World}
def getItem_tuple_whole {t sl:Addr}{lo hi:Option Int}(B:IsTup s.heap t items) (hs:s.heap.IsSliceOf sl vl vu .none) (pl:IsPart vl lo) (pu:IsPart vu hi)
  (hw:sIx items.size 0 lo=0/\sIx items.size items.size hi=items.size) (h:Q (.ref t) s):wpAny (model prog w) A (getItem (.ref t) (.ref sl)) Q E s:=by
 obtain⟨os,Y,Z,hds⟩:=id hs;have U:s.TypeIs (.ref sl) "slice" := #[os,Y,Z]
 unfold getItem
 try with_reducible refine KG ?_
 first | refine gV (iU ?_) | skip
 refine gV (MU B.typeIs #[] ?_);refine gV (Lb (name:=Str.ofString "__getitem__") B.typeIs KN
  (KO KN B.typeIs MV ?_ (MW _ _)))
 show wpAny _ _ (Builtin.Tuple.tupleItemsOf (.ref t) >>= _) _ _ s;refine gV (tupleItemsOf_ B ?_);refine gV (Lr U ?_);rw[iO #[]];refine gV (uD hs pl pu ?_);have J:(((sIx items.size 0 lo:Nat):Int) == 0&&(1:Int) == 1&&(sIx items.size items.size hi - sIx items.size 0 lo) == items.size)=true:=by
  rw[hw.1,hw.2];simp
 show wpAny _ _ (if (((sIx items.size 0 lo:Nat):Int) == 0&&(1:Int) == 1&&(sIx items.size items.size hi - sIx items.size 0 lo) == items.size)=true then _ else _) _ _ s;rw[iO J];refine gV (m:=Builtin.Tuple.tupleIsExact _) (gV (Lr B.typeIs (iU ?_)));rw[iO #[]]
 first
  | exact gV (KZ (gV (iU (iU #[_,rfl,iU h]))))
  | exact gV (KZ (iU #[_,rfl,iU h]))
  | exact gV (KZ (gV (iU #[_,rfl,iU h])))
end
end HT2
namespace DL
open PySem PySem.Spec L2
section
variable {a:Expr}{fa:DE}{pos:Pos}
def Ik (K:vF_):V->Option Int->Option Int->Hp->VK->Prop:=fun x lo hi H Q=>∃a xs,x = .ref a/\SqT K H a xs/\(HT.sIx xs.length 0 lo=0/\HT.sIx xs.length xs.length hi=xs.length)/\Q (.ref a) H
def xP:L2.SlR X (Ik X.K):=by
 intro pins s σ H x v vl vu lo hi sl Q I rx Z U pu h;obtain⟨a,xs,rfl,hx,Y,q⟩:=h;cases rx;obtain⟨its,r,J,hz⟩:=I.tuple hx;have B:its.toArray.size=xs.length:=by rw[JY];exact r.length.symm
 refine#["tuple",_,KN.lookup,J.typeIs,?_];exact HT2.getItem_tuple_whole J Z U pu (by rw[B];exact Y) #[.ref a,H,I,rfl,q]
def El {xs:vD_}{lo hi:Option Int}(h:HT.sIx xs.length 0 lo=0/\HT.sIx xs.length xs.length hi=xs.length):E2 xs lo hi=xs:=by
 unfold E2;rw[h.1,h.2,NX,Ng,NY]
noncomputable def J9 (f:DE) (lo hi:DO):DE:=fun s=>(f s).bind fun x=>(lo x.2).bind fun l=>(hi l.2).bind fun h=>match x.1 with
 |.tup ds=>some (.tup (E2 ds l.1 h.1),h.2)
 |.lst ds=>some (.lst (E2 ds l.1 h.1),h.2)
 |_=>none
def IH {x r:D}{F:List D->List D}{t z:DS}(e:(match x with
 |.tup ds=>some (D.tup (F ds),t)
 |.lst ds=>some (D.lst (F ds),t)
 |_=>none)=some (r,z)):t=z/\((∃ds,x = .lst ds/\r = .lst (F ds))\/∃ds,x = .tup ds/\r = .tup (F ds)):=by
 cases x with
 |tup ds=>cases e;exact#[rfl,.inr #[ds,rfl,rfl]]
 |lst ds=>cases e;exact#[rfl,.inl #[ds,rfl,rfl]]
 |_=>cases e
def zp {lo hi:Option Expr}{fl fh:DO}(ha:BO X g a fa) (hl:OO X g lo fl) (hh:OO X g hi fh):EO X g (.Subscript a (.Slice lo hi none p2) pos) (J9 fa fl fh):=
 EO.w (oB (L2.SlR.or (L2.SlR.or IU xP) vb) ha.pe hl.pe hh.pe) fun σ H Q hQ=>by
  refine hQ.elim fun f0 O s d s' I e k=>?_
  refine v3 e fun x s1 h1 e=>?_
  refine v3 e fun l s2 h2 e=>?_
  refine v3 e fun h s3 h3 e=>?_
  obtain⟨rfl,c⟩:=IH (F:=fun ds=>E2 ds l h) e;refine#[f0,O,s,x,s1,I,h1,fun v H1 f1 O1 a1 I1 r1=>#[f1,O1,s1,l,s2,I1,h2,fun H2 f2 O2 a2 I2=>#[f2,O2,s2,h,s3,I2,h3,fun H3 J B a3 U=>?_]]];have r3:=RepB.stp I2 a3 (RepB.stp I1 a2 r1);rcases c with ⟨ds,rfl,rfl⟩ | ⟨ds,rfl,rfl⟩
  .obtain⟨c,xs,rfl,_,q,w⟩:=r3;refine .inr #[c,xs,rfl,SqL.of q,fun p Y=>?_];have Z:StE J B H3 J B (j5 H3 p (.lst (S0 xs l h))):=E6 Y;have L:=ak U Y (ku w l h);refine k _ _ J B (a1.trans (a2.trans (a3.trans Z))) L.gi ?_;simp only[Rep];exact#[p,_,rfl,gE U Z L.gi Y L.nf,D2,Reps.stp U Z.stp (ku w l h)]
  .simp only[RepB,Rep] at r3;obtain⟨c,xs,rfl,q,w⟩:=r3;by_cases hw:HT.sIx xs.length 0 l=0/\HT.sIx xs.length xs.length h=xs.length
   .refine .inl (.inr #[c,xs,rfl,q,hw,k _ H3 J B (a1.trans (a2.trans a3)) U ?_]);rw[w.length] at hw;rw[El hw];simp only[Rep];exact#[c,xs,rfl,q,w]
   .refine .inl (.inl #[c,xs,rfl,q,hw,fun p Y=>?_]);have Z:StE J B H3 J B (j5 H3 p (.tup (S0 xs l h))):=E6 Y;refine k _ _ J B (a1.trans (a2.trans (a3.trans Z))) (U.new Y) ?_;simp only[Rep];exact#[p,_,rfl,SqT.of D2,Reps.stp U Z.stp (ku w l h)]
end
end DL
namespace HT3
open PySem PyProof.Rows HT
section
variable {w:World}
def Ac (n:Nat):Builtin.Slice.sliceAdjust none none (-1) (n:Int)=((n:Int) - 1,-1):=by
 have h1:((-1:Int)<0):=by omega
 unfold Builtin.Slice.sliceAdjust;simp only[h1,Kh]
def FL (n:Nat):Builtin.Slice.slicePlaces ((n:Int) - 1) (-1) (-1)=n:=by
 unfold Builtin.Slice.slicePlaces;have h1:¬ ((-1:Int)>0):=by omega
 simp only[h1,KL];have e:-(-1:Int)=1:=rfl;rw[e,Int.ediv_one];split <;> omega
def He {sl:Addr}{t:Tok}{n:Nat}{Q:Int × Int × Nat->Shared->Prop}(Y:s.heap.IsSliceOf sl .none .none (.int (-1) t))
  (h:Q ((n:Int) - 1,-1,n) s):wpAny (model prog w) A (Builtin.Slice.sliceApplied (.ref sl) (pure (n:Int))) Q E s:=by
 obtain⟨os,B,U,J⟩:=id Y;unfold Builtin.Slice.sliceApplied Builtin.Slice.sliceFields;refine gV (gV (JV B J (x:=.none) rfl (gV (JV B J (x:=.none) rfl (gV (JV B J (x:=.int (-1) t) rfl (iU ?_)))))));refine gV (slicePart_int ?_);show wpAny _ _ (if ((-1:Int) == 0)=true then _ else _) _ _ s;rw[iR #[]];refine gV (Mf (gV (Mf (gV (iU ?_)))));show wpAny _ _ (match Builtin.Slice.sliceAdjust none none (-1) (n:Int) with | (lo,hi)=>pure (lo,(-1:Int),Builtin.Slice.slicePlaces lo hi (-1))) _ _ s;rw[Ac n];show wpAny _ _ (pure ((n:Int) - 1,(-1:Int),Builtin.Slice.slicePlaces ((n:Int) - 1) (-1) (-1))) _ _ s;rw[FL];exact iU h
def EX (xs:vR_):((List.range xs.size).filterMap fun (m:Nat)=>xs[(((xs.size:Int) - 1)+(m:Int)*(-1)).toNat]?).toArray=xs.toList.reverse.toArray:=by
 congr 1;have e:((List.range xs.size).filterMap fun (m:Nat)=>xs[(((xs.size:Int) - 1)+(m:Int)*(-1)).toNat]?)=((List.range xs.size).filterMap fun (m:Nat)=>xs.toList.reverse[m]?):=by
  have Z:∀(l:List Nat) (f g:Nat->Option Value),(∀m∈l,f m=g m)->l.filterMap f=l.filterMap g:=by
   intro l f g;induction l with
   |nil=>intro _;rfl
   |cons a r U=>intro h;rw[LB,LB,h a (JL ..),U fun m J=>h m (JH _ J)]
  refine Z _ _ _ fun m J=>?_
  have B:m<xs.size:=List.mem_range.mp J;have:(((xs.size:Int) - 1)+(m:Int)*(-1)).toNat=xs.size - 1 - m:=by omega
  rw[this,List.getElem?_reverse (by simpa using B)];simp
 rw[e];have Y:xs.size=xs.toList.reverse.length:=by simp
 rw[Y];generalize xs.toList.reverse=l;clear e Y;induction l with
 |nil=>rfl
 |cons a r U=>
  rw[JO,OT,LB];simp only[List.getElem?_cons_zero,List.filterMap_map];congr 1
def getItem_tuple_rev {t sl:Addr}{items:vR_}{tk:Tok}{Q:vQ_}(J:IsTup s.heap t items) (hs:s.heap.IsSliceOf sl .none .none (.int (-1) tk))
  (h:Q (.ref s.heap.objs.size) { s with heap:=s.heap.push { cls:=.type "tuple",data:=.seq items.toList.reverse.toArray } })
  (hsz:items.size<=sizeLine):wpAny (model prog w) A (getItem (.ref t) (.ref sl)) Q E s:=by
 have B:sizeOk (.seq items.toList.reverse.toArray):=by
  show items.toList.reverse.toArray.size<=sizeLine;rw[JY,List.length_reverse,MR];exact hsz
 obtain⟨os,Z,Y,hds⟩:=id hs;have U:s.TypeIs (.ref sl) "slice" := #[os,Z,Y]
 unfold getItem
 try with_reducible refine KG ?_
 first | refine gV (iU ?_) | skip
 refine gV (MU J.typeIs #[] ?_);refine gV (Lb (name:=Str.ofString "__getitem__") J.typeIs KN
  (KO KN J.typeIs MV ?_ (MW _ _)))
 show wpAny _ _ (Builtin.Tuple.tupleItemsOf (.ref t) >>= _) _ _ s;refine gV (tupleItemsOf_ J ?_);refine gV (Lr U ?_);rw[iO #[]];refine gV (He hs ?_);have hno:¬ ((((items.size:Int) - 1) == 0&&(-1:Int) == 1&&items.size == items.size)=true):=by
  intro q;rw[Ki,Ki] at q;exact absurd q.1.2 #[]
 show wpAny _ _ (if (((items.size:Int) - 1) == 0&&(-1:Int) == 1&&items.size == items.size)=true then _ else _) _ _ s;rw[iR hno,EX]
 first
  | exact gV (m:=Builtin.Tuple.tupleExact _) (KH (iU #[_,rfl,iU h]) B)
  | exact gV (m:=Builtin.Tuple.tupleExact _) (KH (gV (iU (iU #[_,rfl,iU h]))) B)
  | exact gV (gV (m:=Builtin.Tuple.tupleExact _) (KH (iU (iU #[_,rfl,iU h])) B))
  | exact gV (gV (m:=Builtin.Tuple.tupleExact _) (KH (iU #[_,rfl,iU h]) B))
def BD {sl:Addr}{t:Tok}{n:Nat}{Q:Int × Int × Nat->Shared->Prop}(Y:s.heap.IsSliceOf sl .none .none (.int 1 t))
  (h:Q (0,1,n) s):wpAny (model prog w) A (Builtin.Slice.sliceApplied (.ref sl) (pure (n:Int))) Q E s:=by
 obtain⟨os,B,U,J⟩:=id Y;unfold Builtin.Slice.sliceApplied Builtin.Slice.sliceFields;refine gV (gV (JV B J (x:=.none) rfl (gV (JV B J (x:=.none) rfl (gV (JV B J (x:=.int 1 t) rfl (iU ?_)))))));refine gV (slicePart_int ?_);show wpAny _ _ (if ((1:Int) == 0)=true then _ else _) _ _ s;rw[iR #[]];refine gV (Mf (gV (Mf (gV (iU ?_)))));show wpAny _ _ (match Builtin.Slice.sliceAdjust none none 1 (n:Int) with | (lo,hi)=>pure (lo,(1:Int),Builtin.Slice.slicePlaces lo hi 1)) _ _ s;rw[vt none none n];show wpAny _ _ (pure (((sIx n 0 none:Nat):Int),(1:Int),Builtin.Slice.slicePlaces ((sIx n 0 none:Nat):Int) ((sIx n n none:Nat):Int) 1)) _ _ s;rw[tW];exact iU h
def getItem_tuple_one {t sl:Addr}{tk:Tok}(B:IsTup s.heap t items) (hs:s.heap.IsSliceOf sl .none .none (.int 1 tk)) (h:Q (.ref t) s):wpAny (model prog w) A (getItem (.ref t) (.ref sl)) Q E s:=by
 obtain⟨os,Y,Z,hds⟩:=id hs;have U:s.TypeIs (.ref sl) "slice" := #[os,Y,Z]
 unfold getItem
 try with_reducible refine KG ?_
 first | refine gV (iU ?_) | skip
 refine gV (MU B.typeIs #[] ?_);refine gV (Lb (name:=Str.ofString "__getitem__") B.typeIs KN
  (KO KN B.typeIs MV ?_ (MW _ _)))
 show wpAny _ _ (Builtin.Tuple.tupleItemsOf (.ref t) >>= _) _ _ s;refine gV (tupleItemsOf_ B ?_);refine gV (Lr U ?_);rw[iO #[]];refine gV (BD hs ?_);have J:((0:Int) == 0&&(1:Int) == 1&&items.size == items.size)=true:=by simp
 show wpAny _ _ (if ((0:Int) == 0&&(1:Int) == 1&&items.size == items.size)=true then _ else _) _ _ s;rw[iO J];refine gV (m:=Builtin.Tuple.tupleIsExact _) (gV (Lr B.typeIs (iU ?_)));rw[iO #[]]
 first
  | exact gV (KZ (gV (iU (iU #[_,rfl,iU h]))))
  | exact gV (KZ (iU #[_,rfl,iU h]))
  | exact gV (KZ (gV (iU #[_,rfl,iU h])))
end
end HT3
namespace DL
open PySem PySem.Spec L2 PyProof.Rows
section
variable {a st:Expr}{fa fs:DE}{pos:Pos}
def Av (K:vF_) (te B:TE):TE:=fun σ H Q=>te σ H fun x H1=>B σ H1 fun y H2=>(y = .int (-1)/\∃p xs,x = .ref p/\SqT K H2 p xs/\∀l,H2 l=none->Q (.ref l) (j5 H2 l (.tup xs.reverse)))\/(y = .int 1/\∃p xs,x = .ref p/\SqT K H2 p xs/\Q (.ref p) H2)
def JB (he:PE X a te) (hs:PE X st ts):PE X (.Subscript a (.Slice none none (some st) p2) pos) (Av X.K te ts):=by
 intro pins s σ H Q I h;refine Subscript_ (l6 (he pins s σ H _ I h) fun v s1 ⟨x,H1,I1,r1,q1⟩=>?_);refine wpAny_Slice ?_;rw[evalPart_none];refine iU (iU ?_);rw[evalPart_some];refine l6 (hs pins s1 σ H1 _ I1 q1) fun u s3 ⟨y,H3,I3,r3,q3⟩=>?_
 rcases q3 with ⟨rfl,p,xs,rfl,hx,q⟩ | ⟨rfl,p,xs,rfl,hx,q⟩
 case inr=>
  obtain⟨B,rfl⟩:=r3;cases r1;have J:Inv X pins σ H3 { s3 with heap:=s3.heap.push { cls:=.type "slice",data:=.fields #v[.none,.none,.int 1 B] } }:=I3.kept (t':=s3.toks) fun b ob q=>JI _ q
  obtain⟨its,r,Y,Z⟩:=J.tuple hx;show wpAny (model X.prog X.w) X.A (subscriptTail a (.Slice none none (some st) p2) (.ref p) (.ref s3.heap.objs.size)) (EP X pins σ Q) X.xe { s3 with heap:=s3.heap.push { cls:=.type "slice",data:=.fields #v[.none,.none,.int 1 B] } };refine tail_any (ops:=[.ref p,.ref s3.heap.objs.size]) Y.typeIs KN.lookup ?_ (by with_unfolding_all rfl);exact HT3.getItem_tuple_one Y (NU ..) #[.ref p,H3,J,rfl,q]
 obtain⟨B,rfl⟩:=r3;cases r1;have J:Inv X pins σ H3 { s3 with heap:=s3.heap.push { cls:=.type "slice",data:=.fields #v[.none,.none,.int (-1) B] } }:=I3.kept (t':=s3.toks) fun b ob q=>JI _ q
 obtain⟨its,r,Y,Z⟩:=J.tuple hx;have U:its.toArray.size=xs.length:=by rw[JY];exact r.length.symm
 show wpAny (model X.prog X.w) X.A (subscriptTail a (.Slice none none (some st) p2) (.ref p) (.ref s3.heap.objs.size)) (EP X pins σ Q) X.xe { s3 with heap:=s3.heap.push { cls:=.type "slice",data:=.fields #v[.none,.none,.int (-1) B] } };refine tail_any (ops:=[.ref p,.ref s3.heap.objs.size]) Y.typeIs KN.lookup ?_ (by with_unfolding_all rfl);refine HT3.getItem_tuple_rev Y (NU ..) ?_ (by rw[U];exact Z);refine#[.ref (s3.heap.push { cls:=.type "slice",data:=.fields #v[.none,.none,.int (-1) B] }).objs.size,_,J.laid (t':=s3.toks) (o:=.tup xs.reverse) (fun b ob q=>JI _ q) (tx _) ?_,rfl,q _ (J.hok.fresh (tx _))];exact#[by rw[List.length_reverse];exact Z,_,r.reverse,IsTup.new _ _]
def iJ (f h:DE):DE:=fun s=>(f s).bind fun x=>(h x.2).bind fun y=>match x.1,y.1 with
 |.tup ds,.int i=>if i = -1 then some (.tup ds.reverse,y.2) else if i=1 then some (.tup ds,y.2) else none
 |_,_=>none
def HG {x y r:D}{t:DS}{z:DS}(e:(match x,y with
 |.tup ds,.int i=>if i = -1 then some (D.tup ds.reverse,t) else if i=1 then some (.tup ds,t) else none
 |_,_=>none)=some (r,z)):∃ds i,x = .tup ds/\y = .int i/\t=z/\((i = -1/\r = .tup ds.reverse)\/(i=1/\r = .tup ds)):=by
 cases x with
 |tup ds=>
  cases y with
  |int i=>
   have e:(if i = -1 then some (D.tup ds.reverse,t) else if i=1 then some (.tup ds,t) else none)=some (r,z):=e;by_cases hi:i = -1
   .rw[iO hi] at e;cases e;exact#[ds,i,rfl,rfl,rfl,.inl #[hi,rfl]]
   .rw[iR hi] at e;by_cases h1:i=1
    .rw[iO h1] at e;cases e;exact#[ds,i,rfl,rfl,rfl,.inr #[h1,rfl]]
    .rw[iR h1] at e;cases e
  |_=>cases e
 |_=>cases e
def Bq (ha:BO X g a fa) (hs:BO X g st fs):EO X g (.Subscript a (.Slice none none (some st) p2) pos) (iJ fa fs):=EO.w (JB ha.pe hs.pe) fun σ H Q hQ=>by
 refine hQ.elim fun f0 O s d s' I e k=>?_
 refine v3 e fun x s1 h1 e=>?_
 refine v3 e fun y s2 h2 e=>?_
 obtain⟨ds,i,rfl,rfl,rfl,c⟩:=HG e;refine#[f0,O,s,_,s1,I,h1,fun v H1 f1 O1 Z I1 r1=>#[f1,O1,s1,_,s2,I1,h2,fun u H2 B J Y U r2=>?_]];have r3:=RepB.stp I1 Y r1;simp only[RepB,Rep] at r2 r3;subst r2;obtain⟨c',xs,rfl,q,w⟩:=r3;rcases c with ⟨rfl,rfl⟩ | ⟨rfl,rfl⟩
 .refine .inl #[rfl,c',xs,rfl,q,fun l hl=>?_];have a4:StE B J H2 B J (j5 H2 l (.tup xs.reverse)):=E6 hl;refine k _ _ B J (Z.trans (Y.trans a4)) (U.new hl) ?_;simp only[Rep];exact#[l,_,rfl,SqT.of D2,Reps.stp U a4.stp (Reps.reverse w)]
 .refine .inr #[rfl,c',xs,rfl,q,k _ _ B J (Z.trans Y) U ?_];simp only[Rep];exact#[c',xs,rfl,q,w]
def HF:lV X "str.upper" (fun x xs H Q=>∃z,x = .str z/\xs=[]/\(Txt.upper z).length<=sizeLine/\Q (.str (Txt.upper z)) H):=by
 intro pins s σ H x xs v us Q I B J h;obtain⟨z,rfl,rfl,U,q⟩:=h;obtain⟨t,rfl⟩:=B;cases J;refine SC.upper (by unfold Builtin.Str.tooLong;exact JM ∅) ?_;exact#[.str (Txt.upper z),H,I.kept (t':=s.toks+1) fun _ _ q=>q,#[_,rfl],q]
def iA:D->Option D
 |.str x=>if (Txt.upper x).length<=sizeLine then some (.str (Txt.upper x)) else none
 |_=>none
def AA {apos cpos:Pos}(ha:BO X g a fa) (B:attributeBase a ("upper" : Str) X.env (eval a X.env)=eval a X.env:=by rfl) (J:(apos.endLine == cpos.line)=true:=by rfl) :
  EO X g (.Call (.Attribute a ("upper" : Str) apos) [] [] cpos) (j4 iA fa):=EO.w (zQ F.plainAttrs_str F.slot_str_upper F.type_str_upper HF ha.pe B J) fun σ H Q hQ=>by
 refine hQ.elim fun f0 O s d s' I e k=>?_
 refine v3 e fun x s1 h1 h=>?_
 refine M6 h fun d' U h=>?_
 simp only[JU] at h;obtain⟨e1,e2⟩:=h;subst e1;subst e2;refine#[f0,O,s,x,s1,I,h1,fun v H1 f1 O1 a1 I1 Z=>?_];cases x with
 |str z=>
  simp only[iA] at U;by_cases Y:(Txt.upper z).length<=sizeLine
  .rw[iO Y] at U;cases U;simp only[RepB,Rep] at Z;obtain⟨rfl,_⟩:=Z;exact#[rfl,z,rfl,rfl,Y,k _ H1 f1 O1 a1 I1 (by simp only[Rep];exact#[trivial,Y])]
  .rw[iR Y] at U;cases U
 |_=>cases U
end
def Ih {w:World}{K:vF_}{k:Nat}{ps:List Str}:fD P w K mg base k f fd ps (fun _ _=>none):=by
 refine#[fun vs H Q E h=>?_,fun A outer s H B us vs Q E _ _ _ _ h=>?_] <;> (obtain⟨F,fa,ds,fs,d,fs',_,_,_,_,e,_⟩:=h;cases e)
end DL
namespace DL
open PySem PySem.Spec L2
def noStar:Expr->Bool
 |.Starred _ _=>false
 |_=>true
def pA {a:Expr}(h:noStar a=true):starEach (a::es) env=(false,eval a env)::starEach es env:=by
 cases a <;> first | rfl | (cases h)
section
variable {a:Expr}{fa:DE}{fr:DA}
def ac (J:EO X g a fa) (B:AO X g es fr) (U:noStar a=true:=by rfl):AO X g (a::es) (a8 fa fr):=nv J B (pA U)
def bc (J:BO X g a fa) (B:BAO X g es fr) (U:noStar a=true:=by rfl):BAO X g (a::es) (a8 fa fr):=yW J B (pA U)
end
def ox:D->D->Option D
 |.bl a,.bl b=>some (.bl (a == b))
 |_,_=>none
def Bc :OpR X (compareOp .Is) (fun x y H Q=>∃a b,x = .bl a/\y = .bl b/\Q (.bl (a == b)) H):=by
 intro pins s σ H x y v u Q I B J h;obtain⟨a,b,rfl,rfl,q⟩:=h;cases B;cases J;exact PyProof.Rows.is_bool #[.bl _,H,I,rfl,q]
def AY {K:vF_}:F4 K (fun x y H Q=>∃a b,x = .bl a/\y = .bl b/\Q (.bl (a == b)) H) ox:=by
 intro g σ H fa O s x y Y U d Q I B J e k;cases Y with
 |bl a=>
  cases U with
  |bl b=>
   cases e;simp only[RepB,Rep] at B J;exact#[a,b,B,J,k _ H StE.refl I (by simp only[Rep])]
  |_=>cases e
 |_=>cases U <;> cases e
def mk2 (idx:List Nat) (sl:List Sl):D->Option (List Sl)
 |.tup [a,b]=>some (.v a :: .v b::X6 idx sl)
 |_=>none
def Cf {r:List Sl}(h:mk2 idx sl d=some r):∃a b,d = .tup [a,b]/\r = .v a :: .v b::X6 idx sl:=by
 cases d with
 |tup ds=>
  match ds,h with
  |[a,b],h=>cases h;exact#[a,b,rfl,rfl]
 |_=>cases h
noncomputable def dJ (idx:List Nat) (fi:DA) (fc:DT) (fe:DE):DA:=fun s=>(fi s).bind fun x=>if x.1.length<=sizeLine then (D3 (mk2 idx x.2.sl) fc fe x.1 x.2.fs).map fun y=>(y.1,{ x.2 with fs:=y.2 }) else none
section
variable {pos:Pos}
def DJ {G:TG}(k:CompOk X scope cl N' 2 idx)
  (hG:∀(a:Addr) (x y:V) (σ:L2.St) (H:Hp) (Q:L2.St->Hp->Prop),SqT X.K H a [x,y]->Q ((σ.set 0 (some x)).set 1 (some y)) H->G (.ref a) σ H Q):∀σ H Q,liftF X.K g (dJ idx fi fc fe) σ H Q->cj 2 idx (liftI X.K g fi) G (fun σ H Q=>∃g',liftT X.K g' fc σ H Q) (fun σ H Q=>∃g',liftE X.K g' fe σ H Q) σ H Q:=
 qQ (mk:=mk2 idx) fun N fa sl d sl0 x σ H Q hm Y hc kk=>by
  obtain⟨da,db,rfl,rfl⟩:=Cf hm;simp only[Rep,Reps] at Y;obtain⟨ad,Z,rfl,J,u,ys0,rfl,ru,w,ys1,rfl,B,rfl⟩:=Y;refine hG ad u w _ _ _ J (kk _ #[by simp,fun j v U=>?_] ?_)
  .cases j with
   |zero=>simp[F3] at U
   |succ j=>
    cases j with
    |zero=>simp[F3] at U
    |succ j=>rw[LD (by simp),LD (by simp)];exact U
  .have eb:((F3 2 idx σ).set 0 (some u)).set 1 (some w)=some u::some w::idx.map fun i=>(σ[i]?).join:=by simp[F3]
   rw[eb];simp only[SlR];exact#[u,_,rfl,ru,w,_,rfl,B,hc]
def Cp {G:TG}(J:X.calm=true) (k:CompOk X scope cl N' 2 idx) (hi:IO X g tg iter fi) (U:∀C s0 H0 ex,PG (B5 X N' scope cl C s0 H0 ex) tg G)
  (Z:∀(a:Addr) (x y:V) (σ:L2.St) (H:Hp) (Q:L2.St->Hp->Prop),SqT X.K H a [x,y]->Q ((σ.set 0 (some x)).set 1 (some y)) H->G (.ref a) σ H Q)
  (Y:∀C s0 H0 ex g',cM (B5 X N' scope cl C s0 H0 ex) g' ifs fc) (he:∀C s0 H0 ex g',EO (B5 X N' scope cl C s0 H0 ex) g' elt fe) (B:∀x,foldedSetIterable iter X.env x=pure x:=by intro _;rfl) :
  FO X g (.ListComp elt [#[tg,iter,ifs,0]] scope pos) (dJ idx fi fc fe):=by
 exact FO.w (oO (tc:=fun σ H Q=>∃g',liftT X.K g' fc σ H Q) (te:=fun σ H Q=>∃g',liftE X.K g' fe σ H Q) J k hi.pe U (fun C s0 H0 ex pins s σ H Q I ⟨g',h⟩=>Y C s0 H0 ex g' pins s σ H Q I h) (fun C s0 H0 ex pins s σ H Q I ⟨g',h⟩=>(he C s0 H0 ex g').pe pins s σ H Q I h) B) (DJ k Z)
def zt {y:Str}(J:closureFor scope X.env=pure cl) (sub:SubL X.env.cells cl) (cell:∀y∈scope.names,y.2 ≠ .cell) (kind:scope.kind = .function)
  (names:∀y∈scope.names,y.2 = .local->scope.names.lookup y.1=some .local) (U:hasAll (relabel scope X.env).names cl=true) (B:CapL X scope idx caps):CompOk X scope cl (x::y::caps) 2 idx:=
 #[J,fun y c e=>sub.mem y c (gh e),cell,kind,names,pZ U,by rw[JO,JO,B.len];omega,fun j i y Z Y=>B.at j i y Z (by
  rw[show 2+j=j+1+1 by omega] at Y;simpa using Y)]
end
def RwIt (h:Heap) (i l:Addr) (xs:vR_) (k:Nat):Prop:=(h.IsListIter i l k/\h.IsList l xs)\/(h.IsTupleIter i l k/\h.IsTuple l xs)
section
variable {i l:Addr}{xs:vR_}{k:Nat}
def RwIt.at (x:RwIt h i l xs k) (J:∀o,h.get? i=some o->h'.get? i=some o) (B:∀o,h.get? l=some o->h'.get? l=some o):RwIt h' i l xs k:=by
 rcases x with ⟨⟨o,q,r⟩,⟨p,u,v⟩⟩ | ⟨⟨o,q,r⟩,⟨p,u,v⟩⟩
 .exact .inl #[#[o,J o q,r],#[p,B p u,v]]
 .exact .inr #[#[o,J o q,r],#[p,B p u,v]]
def RwIt.lt (x:RwIt h i l xs k):i<h.objs.size:=by
 rcases x with ⟨⟨o,q,r⟩,_⟩ | ⟨⟨o,q,r⟩,_⟩ <;> exact xu q
end
section
variable {w:World}
def nextOf_tup_item {it t:Addr}{i:Nat}{items:vR_}{x:Value}{Q:vQ_}(B:s.heap.IsTupleIter it t i) (ht:s.heap.IsTuple t items) (hx:items[i]? = some x)
  (hQ:∀h',h'.IsTupleIter it t (i+1)->Heap.SameBut it s.heap h'->Q x { s with heap:=h' }):wpAny (model prog w) A (Builtin.SmallTypes.nextOf (.ref it)) Q E s:=by
 obtain⟨o,U,hc,J⟩:=id B;obtain⟨ol,Z,_,nl,Y⟩:=ht;unfold Builtin.SmallTypes.nextOf;refine gV (Lb (name:=Str.ofString "__next__") B.typeIs Nh (KO Nh B.typeIs OU ?_ (OV _)));show wpAny _ _ (field (.ref it) 0 >>= _) _ _ s;refine gV (JV U J (x:=.ref t) rfl ?_);show wpAny _ _ (if (Value.ref t == Value.none)=true then _ else _) _ _ s;rw[iR (show ¬ ((Value.ref t == Value.none)=true) from JQ)];show wpAny _ _ (field (.ref it) 1 >>= _) _ _ s;refine gV (JV U J (x:=.int i 0) rfl ?_);show wpAny _ _ (seqItems? (.ref t) >>= _) _ _ s;refine gV (Lc Z Y ?_);simp only[Ku,hx];refine gV (Mi U J (by simp) (iU #[x,rfl,iU (hQ _ ?_ (Heap.SameBut.update ..))]));exact#[_,Le _ U (Ni (MC J _)),(Obj.cls_mapFields ..).trans hc,by rw[MC J];simp[rawInt]]
def nextOf_tup_end {it t:Addr}{i:Nat}{items:vR_}{Q:vQ_}(hh:A.handled=none) (B:s.heap.IsTupleIter it t i) (ht:s.heap.IsTuple t items) (hx:items[i]? = none)
  (hE:∀h' e,Heap.ExtBut it s.heap h'->(∃o,h'.get? e=some o/\o.cls = .type "StopIteration")->E (.ref e) { s with heap:=h' }):wpAny (model prog w) A (Builtin.SmallTypes.nextOf (.ref it)) Q E s:=by
 obtain⟨o,J,hc,Z⟩:=id B;obtain⟨ol,Y,_,nl,U⟩:=ht;unfold Builtin.SmallTypes.nextOf;refine gV (Lb (name:=Str.ofString "__next__") B.typeIs Nh (KO Nh B.typeIs OU ?_ (OV _)));show wpAny _ _ (field (.ref it) 0 >>= _) _ _ s;refine gV (JV J Z (x:=.ref t) rfl ?_);show wpAny _ _ (if (Value.ref t == Value.none)=true then _ else _) _ _ s;rw[iR (show ¬ ((Value.ref t == Value.none)=true) from JQ)];show wpAny _ _ (field (.ref it) 1 >>= _) _ _ s;refine gV (JV J Z (x:=.int i 0) rfl ?_);show wpAny _ _ (seqItems? (.ref t) >>= _) _ _ s;refine gV (Lc Y U ?_);simp only[Ku,hx];refine gV (KZ (gV (Mi J Z (by simp) ?_)));show wpAny _ _ (newExc (.type "StopIteration") [] >>= _) _ _ _;refine gV ?_;simp only[newExc,newTuple];refine gV (KH ?_ (by size_fits));refine gV (m:=firstArgMember _ _) (wpAny_of_eq (a:=Value.none) (by first | rfl | (simp only[firstArgMember];rfl)) ?_);refine KH ?_ (by size_fits);simp only[raiseNew];refine gV (wpAny_handled ?_)
 first | rw[show A.in1.handled=none from hh] | rw[hh]
 refine gV (iU (wpAny_throw ?_));exact hE _ _ (((Heap.SameBut.update ..).extBut.push _).push _) #[_,Kg _ rfl,rfl]
def dh {it l:Addr}{i:Nat}{xs:vR_}{x:Value}{Q:vQ_}(r:RwIt s.heap it l xs i) (U:l≠it) (Y:xs[i]? = some x)
  (Z:∀h',RwIt h' it l xs (i+1)->Heap.SameBut it s.heap h'->Q x { s with heap:=h' }):wpAny (model prog w) A (Builtin.SmallTypes.nextOf (.ref it)) Q E s:=by
 rcases r with ⟨a,b⟩ | ⟨a,b⟩
 .exact wpAny_nextOf_list_item a b Y fun h' J B=>Z h' (.inl #[J,b.extBut B.extBut U]) B
 .exact nextOf_tup_item a b Y fun h' J B=>Z h' (.inr #[J,b.extBut B.extBut U]) B
def iV {it l:Addr}{i:Nat}{xs:vR_}{Q:vQ_}(B:A.handled=none) (r:RwIt s.heap it l xs i) (U:xs[i]? = none)
  (J:∀h' e,Heap.ExtBut it s.heap h'->(∃o,h'.get? e=some o/\o.cls = .type "StopIteration")->E (.ref e) { s with heap:=h' }):wpAny (model prog w) A (Builtin.SmallTypes.nextOf (.ref it)) Q E s:=by
 rcases r with ⟨a,b⟩ | ⟨a,b⟩
 .exact wpAny_nextOf_list_end B a b U J
 .exact nextOf_tup_end B a b U J
abbrev L6 (h:Heap) (z TI TO:Addr) (f0 f1:Value):Prop:=h.get? z=some { cls:=.type "zip",dict:=none,data:=.fields #v[f0,f1,.bool false,.ref TI,.ref TO],slots:=#v[] }
variable {z TI TO i1 i2 l1 l2:Addr}{xs ys:vR_}{k:Nat}
def Ip {x y a b:Value}{Q:vQ_}(D:ZipApart z TI TO i1 i2 l1 l2)
  (hz:L6 s.heap z TI TO .none (.bool false)) (hTI:IsPair s.heap TI (.ref i1) (.ref i2)) (hTO:IsPair s.heap TO a b) (h1:RwIt s.heap i1 l1 xs k) (h2:RwIt s.heap i2 l2 ys k) (hx:xs[k]? = some x) (hy:ys[k]? = some y)
  (hQ:∀h',L6 h' z TI TO (rawInt s.heap.objs.size) (.bool false)->RwIt h' i1 l1 xs (k+1)->RwIt h' i2 l2 ys (k+1)->IsPair h' s.heap.objs.size x y ->
   (∀c o,c≠z->c≠TO->c≠i1->c≠i2->s.heap.get? c=some o->h'.get? c=some o)->IsPair h' TO x y->Q (.ref s.heap.objs.size) { s with heap:=h' }) :
  wpAny (model prog w) A (Builtin.«zip.__next__» #[[.ref z],[]]) (fun fin s'=>∃v,fin = .done (.ret v)/\Q v s') E s:=by
 show wpAny _ _ (field (.ref z) 2 >>= _) _ _ _;refine gV (JV hz rfl (x:=.bool false) rfl ?_);show wpAny _ _ (field (.ref z) 3 >>= _) _ _ _;refine gV (JV hz rfl (x:=.ref TI) rfl ?_);refine gV (Lc hTI rfl ?_);show wpAny _ _ (Builtin.SmallTypes.ownedTupleIsFree (.ref z) >>= _) _ _ _;refine gV ?_;unfold Builtin.SmallTypes.ownedTupleIsFree;refine gV (JV hz rfl (x:=.none) rfl (iU ?_));simp only[Kh];refine gV (KZ ?_);refine gV (JV hz rfl (x:=.ref TO) rfl ?_);refine gV (LU hz (by simp) fun g1 z1 k1=>?_)
 replace z1:L6 g1 z TI TO .ellipsis (.bool false):=z1
 refine gV ?_;simp only[Oa,List.zipIdx_nil,Nj,Nk];refine gV (gV (MD ?_));show wpAny _ _ (Builtin.SmallTypes.nextOf (.ref i1) >>= _) _ _ _;refine gV (dh (h1.at (fun o e=>k1.extBut _ o D.i1z e) fun o e=>k1.extBut _ o D.l1z e) D.l1i1 hx fun g2 r2 k2=>iU ?_);have o2:IsPair g2 TO a b:=k2.extBut _ _ D.TOi1 (k1.extBut _ _ D.TOz hTO);refine gV (Lc o2 rfl ?_);refine gV (Ob o2 fun g3 o3 k3=>?_)
 replace o3:IsPair g3 TO x b:=o3
 refine gV (Nl (iU ?_));refine gV (gV (MD ?_));show wpAny _ _ (Builtin.SmallTypes.nextOf (.ref i2) >>= _) _ _ _;refine gV (dh (h2.at (fun o e=>k3.extBut _ o D.TOi2.symm (k2.extBut _ o D.i12.symm (k1.extBut _ o D.i2z e))) fun o e=>k3.extBut _ o D.l2TO (k2.extBut _ o D.l2i1 (k1.extBut _ o D.l2z e))) D.l2i2 hy fun g4 r4 Y=>iU ?_);have o4:IsPair g4 TO x b:=Y.extBut _ _ D.TOi2 o3;refine gV (Lc o4 rfl ?_);refine gV (Ob o4 fun B o5 k5=>?_)
 replace o5:IsPair B TO x y:=o5
 refine gV (Nl (iU (iU ?_)));refine gV (Lc o5 rfl ?_);refine gV (wpAny_newTuple ?_);have sz:B.objs.size=s.heap.objs.size:=by rw[k5.1,Y.1,k3.1,k2.1,k1.1]
 have z5:L6 B z TI TO .ellipsis (.bool false):=k5.extBut _ _ D.TOz.symm (Y.extBut _ _ D.i2z.symm (k3.extBut _ _ D.TOz.symm (k2.extBut _ _ D.i1z.symm z1)));have q5:∀c o,c≠z->c≠TO->c≠i1->c≠i2->s.heap.get? c=some o->B.get? c=some o:=fun c o J Z c3 c4 e=>
  k5.extBut _ _ Z (Y.extBut _ _ c4 (k3.extBut _ _ Z (k2.extBut _ _ c3 (k1.extBut _ _ J e))))
 have p1:RwIt B i1 l1 xs (k+1):=r2.at (fun o e=>k5.extBut _ o D.TOi1.symm (Y.extBut _ o D.i12 (k3.extBut _ o D.TOi1.symm e))) fun o e=>k5.extBut _ o D.l1TO (Y.extBut _ o D.l1i2 (k3.extBut _ o D.l1TO e))
 have p2:RwIt B i2 l2 ys (k+1):=r4.at (fun o e=>k5.extBut _ o D.TOi2.symm e) fun o e=>k5.extBut _ o D.l2TO e
 have zl:z<B.objs.size:=xu z5;show wpAny _ _ (Builtin.SmallTypes.ownedTupleHandOut (.ref z) (.ref B.objs.size) >>= _) _ _ _;refine gV ?_;unfold Builtin.SmallTypes.ownedTupleHandOut;have z6:L6 (B.push { cls:=.type "tuple",data:=.seq #v[x,y] }) z TI TO .ellipsis (.bool false):=JI _ z5;refine gV (LU z6 (by simp) fun g7 z7 k7=>?_)
 replace z7:L6 g7 z TI TO (rawInt B.objs.size) (.bool false):=z7
 refine LU z7 (by simp) fun g8 z8 k8=>?_
 replace z8:L6 g8 z TI TO (rawInt B.objs.size) (.bool false):=z8
 have U:∀c o,c≠z->B.get? c=some o->g8.get? c=some o:=fun c o J e=>k8.extBut _ _ J (k7.extBut _ _ J (JI _ e))
 have t8:IsPair g8 B.objs.size x y:=k8.extBut _ _ (Kw zl) (k7.extBut _ _ (Kw zl) (Kg _ rfl));rw[sz] at z8 t8;refine iU #[_,rfl,?_];show Q (.ref B.objs.size) _;rw[sz];exact hQ g8 z8 (p1.at (fun o e=>U _ o D.i1z e) fun o e=>U _ o D.l1z e) (p2.at (fun o e=>U _ o D.i2z e) fun o e=>U _ o D.l2z e) t8 (fun c o J Z c3 c4 e=>U c o J (q5 c o J Z c3 c4 e)) (U _ _ D.TOz o5)
def IG {a b:Value}{Q:Fin->Shared->Prop}(hh:A.handled=none) (D:ZipApart z TI TO i1 i2 l1 l2)
  (hz:L6 s.heap z TI TO .none (.bool false)) (hTI:IsPair s.heap TI (.ref i1) (.ref i2)) (hTO:IsPair s.heap TO a b) (h1:RwIt s.heap i1 l1 xs k) (h2:RwIt s.heap i2 l2 ys k) (Z:xs[k]? = none\/ys[k]? = none)
  (hE:∀h' e,(∀c o,c≠z->c≠TO->c≠i1->c≠i2->s.heap.get? c=some o->h'.get? c=some o)->(∃o,h'.get? e=some o/\o.cls = .type "StopIteration")->E (.ref e) { s with heap:=h' }) :
  wpAny (model prog w) A (Builtin.«zip.__next__» #[[.ref z],[]]) Q E s:=by
 show wpAny _ _ (field (.ref z) 2 >>= _) _ _ _;refine gV (JV hz rfl (x:=.bool false) rfl ?_);show wpAny _ _ (field (.ref z) 3 >>= _) _ _ _;refine gV (JV hz rfl (x:=.ref TI) rfl ?_);refine gV (Lc hTI rfl ?_);show wpAny _ _ (Builtin.SmallTypes.ownedTupleIsFree (.ref z) >>= _) _ _ _;refine gV ?_;unfold Builtin.SmallTypes.ownedTupleIsFree;refine gV (JV hz rfl (x:=.none) rfl (iU ?_));simp only[Kh];refine gV (KZ ?_);refine gV (JV hz rfl (x:=.ref TO) rfl ?_);refine gV (LU hz (by simp) fun g1 z1 k1=>?_)
 replace z1:L6 g1 z TI TO .ellipsis (.bool false):=z1
 refine gV ?_;simp only[Oa,List.zipIdx_nil,Nj,Nk];refine gV (gV (MD ?_));show wpAny _ _ (Builtin.SmallTypes.nextOf (.ref i1) >>= _) _ _ _;cases hx:xs[k]? with
 |none=>
  refine gV (iV hh (h1.at (fun o e=>k1.extBut _ o D.i1z e) fun o e=>k1.extBut _ o D.l1z e) hx fun g2 e k2 he=>?_);obtain⟨oe,B,J⟩:=he;have z2:L6 g2 z TI TO .ellipsis (.bool false):=k2 _ _ D.i1z.symm z1;have U:e≠z:=fun x=>by subst x;rw[z2] at B;cases B;simp at J
  exact LU z2 (by simp) fun g3 _ k3=>hE g3 e (fun c o Y _ c3 _ x=>k3.extBut _ _ Y (k2 _ _ c3 (k1.extBut _ _ Y x))) #[oe,k3.extBut _ _ U B,J]
 |some x=>
  have hy:ys[k]? = none:=by
   rcases Z with h | h
   .rw[hx] at h;cases h
   .exact h
  refine gV (dh (h1.at (fun o e=>k1.extBut _ o D.i1z e) fun o e=>k1.extBut _ o D.l1z e) D.l1i1 hx fun g2 r2 k2=>iU ?_);have o2:IsPair g2 TO a b:=k2.extBut _ _ D.TOi1 (k1.extBut _ _ D.TOz hTO);refine gV (Lc o2 rfl ?_);refine gV (Ob o2 fun g3 o3 k3=>?_);refine gV (Nl (iU ?_));refine gV (gV (MD ?_));show wpAny _ _ (Builtin.SmallTypes.nextOf (.ref i2) >>= _) _ _ _;refine gV (iV hh (h2.at (fun o e=>k3.extBut _ o D.TOi2.symm (k2.extBut _ o D.i12.symm (k1.extBut _ o D.i2z e))) fun o e=>k3.extBut _ o D.l2TO (k2.extBut _ o D.l2i1 (k1.extBut _ o D.l2z e))) hy fun g4 e k4 he=>?_);obtain⟨oe,B,J⟩:=he;have z4:L6 g4 z TI TO .ellipsis (.bool false):=k4 _ _ D.i2z.symm (k3.extBut _ _ D.TOz.symm (k2.extBut _ _ D.i1z.symm z1));have U:e≠z:=fun x=>by subst x;rw[z4] at B;cases B;simp at J
  exact LU z4 (by simp) fun g5 _ k5=>hE g5 e (fun c o Y c2 c3 c4 x=>k5.extBut _ _ Y (k4 _ _ c4 (k3.extBut _ _ c2 (k2.extBut _ _ c3 (k1.extBut _ _ Y x))))) #[oe,k5.extBut _ _ U B,J]
end
section
variable {w:World}
variable {z TI TO i1 i2 l1 l2:Addr}{xs ys:vR_}{k:Nat}
def BP {o:Obj}{Q:Option Obj->Shared->Prop}(B:s.heap.get? a=some o) (h:Q (some o) s):wpAny (model prog w) A (loadIfAlive a) Q E s:=by
 have h':Q (s.heap.get? a) s:=by rw[B];exact h
 exact fun _ _ _=>h'
def sx {T:Addr}{f:Bool}{Z:Obj}{Q:Bool->Shared->Prop}(hz:L6 s.heap z TI TO (rawInt T) (.bool f)) (Y:s.heap.get? T=some Z)
  (B:∀h',L6 h' z TI TO (rawInt T) (.bool true)->Heap.SameBut z s.heap h'->Q false { s with heap:=h' }):wpAny (model prog w) A (Builtin.SmallTypes.ownedTupleIsFree (.ref z)) Q E s:=by
 unfold Builtin.SmallTypes.ownedTupleIsFree;refine gV (JV hz rfl (x:=rawInt T) rfl ?_);show wpAny _ _ (loadIfAlive ((T:Int).toNat) >>= _) _ _ _;rw[Ku];refine gV (BP Y ?_);simp only[Option.isNone_some,LV,KL];refine gV (JV hz rfl (x:=.bool f) rfl ?_);cases f with
 |true=>
  rw[iR (show ¬ ((Value.bool true != Value.bool true)=true) from JQ)];exact iU (B s.heap hz (Heap.SameBut.refl _ _))
 |false=>
  rw[iO (show (Value.bool false != Value.bool true)=true from rfl)];exact gV (LU hz (by simp) fun g U J=>iU (B g U J))
def Bb {x y:Value}{T:Addr}{f:Bool}{oT:Obj}{Q:vQ_}(D:ZipApart z TI TO i1 i2 l1 l2)
  (hz:L6 s.heap z TI TO (rawInt T) (.bool f)) (hT:s.heap.get? T=some oT) (J:IsPair s.heap TI (.ref i1) (.ref i2)) (h1:RwIt s.heap i1 l1 xs k) (h2:RwIt s.heap i2 l2 ys k) (hx:xs[k]? = some x) (hy:ys[k]? = some y)
  (hQ:∀h',L6 h' z TI TO (rawInt T) (.bool true)->RwIt h' i1 l1 xs (k+1)->RwIt h' i2 l2 ys (k+1)->IsPair h' s.heap.objs.size x y ->
   (∀c o,c≠z->c≠TO->c≠i1->c≠i2->s.heap.get? c=some o->h'.get? c=some o)->Q (.ref s.heap.objs.size) { s with heap:=h' }) :
  wpAny (model prog w) A (Builtin.«zip.__next__» #[[.ref z],[]]) (fun fin s'=>∃v,fin = .done (.ret v)/\Q v s') E s:=by
 show wpAny _ _ (field (.ref z) 2 >>= _) _ _ _;refine gV (JV hz rfl (x:=.bool false) rfl ?_);show wpAny _ _ (field (.ref z) 3 >>= _) _ _ _;refine gV (JV hz rfl (x:=.ref TI) rfl ?_);refine gV (Lc J rfl ?_);show wpAny _ _ (Builtin.SmallTypes.ownedTupleIsFree (.ref z) >>= _) _ _ _;refine gV (sx hz hT fun g1 z1 k1=>?_);simp only[LV,KL];simp only[List.forIn_toArray,Nj,Nk];refine gV (gV (gV (KG ?_)));show wpAny _ _ (Builtin.SmallTypes.nextOf (.ref i1) >>= _) _ _ _;refine gV (dh (h1.at (fun o e=>k1.extBut _ o D.i1z e) fun o e=>k1.extBut _ o D.l1z e) D.l1i1 hx fun g2 r2 k2=>iU ?_);refine iU ?_;refine gV (gV (KG ?_));show wpAny _ _ (Builtin.SmallTypes.nextOf (.ref i2) >>= _) _ _ _;refine gV (dh (h2.at (fun o e=>k2.extBut _ o D.i12.symm (k1.extBut _ o D.i2z e)) fun o e=>k2.extBut _ o D.l2i1 (k1.extBut _ o D.l2z e)) D.l2i2 hy fun Y r4 B=>iU ?_);refine iU (iU ?_);show wpAny _ _ (newTuple [x,y] >>= _) _ _ _;refine gV (wpAny_newTuple (items:=[x,y]) ?_ (show 2<=sizeLine by decide));have sz:Y.objs.size=s.heap.objs.size:=by rw[B.1,k2.1,k1.1]
 have q4:∀c o,c≠z->c≠i1->c≠i2->s.heap.get? c=some o->Y.get? c=some o:=fun c o U Z c4 e=>B.extBut _ _ c4 (k2.extBut _ _ Z (k1.extBut _ _ U e))
 refine iU #[_,rfl,?_];show Q (.ref Y.objs.size) _;rw[sz];refine hQ _ (JI _ (B.extBut _ _ D.i2z.symm (k2.extBut _ _ D.i1z.symm z1)))
  (r2.at (fun o e=>JI _ (B.extBut _ o D.i12 e)) fun o e=>JI _ (B.extBut _ o D.l1i2 e))
  (r4.at (fun o e=>JI _ e) fun o e=>JI _ e) ?_ fun c o U c2 Z c4 e=>JI _ (q4 c o U Z c4 e)
 rw[<-sz];exact Kg _ rfl
def zZ {T:Addr}{f:Bool}{oT:Obj}{Q:Fin->Shared->Prop}(hh:A.handled=none) (D:ZipApart z TI TO i1 i2 l1 l2)
  (hz:L6 s.heap z TI TO (rawInt T) (.bool f)) (hT:s.heap.get? T=some oT) (J:IsPair s.heap TI (.ref i1) (.ref i2)) (h1:RwIt s.heap i1 l1 xs k) (h2:RwIt s.heap i2 l2 ys k) (B:xs[k]? = none\/ys[k]? = none)
  (hE:∀h' e,(∀c o,c≠z->c≠TO->c≠i1->c≠i2->s.heap.get? c=some o->h'.get? c=some o)->(∃o,h'.get? e=some o/\o.cls = .type "StopIteration")->E (.ref e) { s with heap:=h' }) :
  wpAny (model prog w) A (Builtin.«zip.__next__» #[[.ref z],[]]) Q E s:=by
 show wpAny _ _ (field (.ref z) 2 >>= _) _ _ _;refine gV (JV hz rfl (x:=.bool false) rfl ?_);show wpAny _ _ (field (.ref z) 3 >>= _) _ _ _;refine gV (JV hz rfl (x:=.ref TI) rfl ?_);refine gV (Lc J rfl ?_);show wpAny _ _ (Builtin.SmallTypes.ownedTupleIsFree (.ref z) >>= _) _ _ _;refine gV (sx hz hT fun g1 z1 k1=>?_);simp only[LV,KL];simp only[List.forIn_toArray,Nj,Nk];refine gV (gV (gV (KG ?_)));show wpAny _ _ (Builtin.SmallTypes.nextOf (.ref i1) >>= _) _ _ _;cases Y:xs[k]? with
 |none=>
  refine gV (iV hh (h1.at (fun o e=>k1.extBut _ o D.i1z e) fun o e=>k1.extBut _ o D.l1z e) Y fun g2 e k2 he=>?_);exact hE g2 e (fun c o U _ Z _ x=>k2 _ _ Z (k1.extBut _ _ U x)) he
 |some x=>
  have hy:ys[k]? = none:=by
   rcases B with h | h
   .rw[Y] at h;cases h
   .exact h
  refine gV (dh (h1.at (fun o e=>k1.extBut _ o D.i1z e) fun o e=>k1.extBut _ o D.l1z e) D.l1i1 Y fun g2 r2 k2=>iU ?_);refine iU ?_;refine gV (gV (KG ?_));show wpAny _ _ (Builtin.SmallTypes.nextOf (.ref i2) >>= _) _ _ _;refine gV (iV hh (h2.at (fun o e=>k2.extBut _ o D.i12.symm (k1.extBut _ o D.i2z e)) fun o e=>k2.extBut _ o D.l2i1 (k1.extBut _ o D.l2z e)) hy fun g4 e k4 he=>?_);exact hE g4 e (fun c o U c2 Z c4 x=>k4 _ _ c4 (k2.extBut _ _ Z (k1.extBut _ _ U x))) he
structure ZSt (h:Heap) (z TI TO i1 i2 l1 l2 S:Addr) (xs ys:vR_) (k:Nat):Prop where
 ti:IsPair h TI (.ref i1) (.ref i2)
 r1:RwIt h i1 l1 xs k
 r2:RwIt h i2 l2 ys k
 zz:(L6 h z TI TO .none (.bool false)/\∃a b,IsPair h TO a b)\/∃(T:Addr) (f:Bool) (oT:Obj),L6 h z TI TO (rawInt T) (.bool f)/\h.get? T=some oT/\T≠z/\T≠TO/\T≠i1/\T≠i2/\T≠S
def GJ {x y:Value}{Q:Option Value->Shared->Prop}(D:ZipApart z TI TO i1 i2 l1 l2) (st:ZSt s.heap z TI TO i1 i2 l1 l2 S xs ys k) (hS:S<s.heap.objs.size) (hTO:TO<s.heap.objs.size) (hx:xs[k]? = some x) (hy:ys[k]? = some y)
  (hQ:∀h',ZSt h' z TI TO i1 i2 l1 l2 S xs ys (k+1)->IsPair h' s.heap.objs.size x y->(∀c o,c ∉ [z,TO,i1,i2]->s.heap.get? c=some o->h'.get? c=some o)->Q (some (.ref s.heap.objs.size)) { s with heap:=h' }) :
  wpAny (model prog w) A (pyNext (.ref z)) Q E s:=by
 obtain⟨Z,r1,r2,zz⟩:=st;have K:∀{h':Heap},(∀c o,c≠z->c≠TO->c≠i1->c≠i2->s.heap.get? c=some o->h'.get? c=some o)->∀c o,c ∉ [z,TO,i1,i2]->s.heap.get? c=some o->h'.get? c=some o:=fun k c o U e=>by
  simp only[xo,JZ,Ka,not_or] at U;exact k c o U.1 U.2.1 U.2.2.1 U.2.2.2 e
 unfold pyNext;rcases zz with ⟨B,a,b,ho⟩ | ⟨T,f,oT,B,hT,t1,t2,t3,t4,t5⟩
 .have Y:s.TypeIs (.ref z) "zip" := #[_,B,rfl]
  exact gV (Mj (Lb (name:=Str.ofString "__next__") Y Ln (KO Ln Y Nm
   (Ip D B Z ho r1 r2 hx hy fun h' a1 a2 a3 a4 J _=>iU (hQ h' #[J _ _ D.TIz D.TITO D.TIi1 D.TIi2 Z,a2,a3,.inr #[_,_,_,a1,a4,Kw (xu B),Kw hTO,Kw r1.lt,Kw r2.lt,Kw hS]] a4 (K J))) (Nn _))))
 .have Y:s.TypeIs (.ref z) "zip" := #[_,B,rfl]
  exact gV (Mj (Lb (name:=Str.ofString "__next__") Y Ln (KO Ln Y Nm
   (Bb D B hT Z r1 r2 hx hy fun h' a1 a2 a3 a4 J=>iU (hQ h' #[J _ _ D.TIz D.TITO D.TIi1 D.TIi2 Z,a2,a3,.inr #[T,true,oT,a1,J _ _ t1 t2 t3 t4 hT,t1,t2,t3,t4,t5]] a4 (K J))) (Nn _))))
def CN {Q:Option Value->Shared->Prop}(hh:A.handled=none) (D:ZipApart z TI TO i1 i2 l1 l2) (st:ZSt s.heap z TI TO i1 i2 l1 l2 S xs ys k) (J:xs[k]? = none\/ys[k]? = none)
  (hQ:∀h',(∀c o,c ∉ [z,TO,i1,i2]->s.heap.get? c=some o->h'.get? c=some o)->Q none { s with heap:=h' }):wpAny (model prog w) A (pyNext (.ref z)) Q E s:=by
 obtain⟨ti,r1,r2,zz⟩:=st;have K:∀{h':Heap},(∀c o,c≠z->c≠TO->c≠i1->c≠i2->s.heap.get? c=some o->h'.get? c=some o)->∀c o,c ∉ [z,TO,i1,i2]->s.heap.get? c=some o->h'.get? c=some o:=fun k c o B e=>by
  simp only[xo,JZ,Ka,not_or] at B;exact k c o B.1 B.2.1 B.2.2.1 B.2.2.2 e
 unfold pyNext;rcases zz with ⟨U,a,b,Y⟩ | ⟨T,f,oT,U,hT,t1,t2,t3,t4,t5⟩
 .have Z:s.TypeIs (.ref z) "zip" := #[_,U,rfl]
  refine gV (Mj (Lb (name:=Str.ofString "__next__") Z Ln (KO Ln Z Nm (IG hh D U ti Y r1 r2 J fun h' e hk he=>?_) (Nn _))));obtain⟨o,Y,B⟩:=he;refine gV (Oc (T := "StopIteration") (b:=true) #[o,Y,B] isSubtype_stop ?_);exact iU (hQ _ (K hk))
 .have Z:s.TypeIs (.ref z) "zip" := #[_,U,rfl]
  refine gV (Mj (Lb (name:=Str.ofString "__next__") Z Ln (KO Ln Z Nm (zZ hh D U hT ti r1 r2 J fun h' e hk he=>?_) (Nn _))));obtain⟨o,Y,B⟩:=he;refine gV (Oc (T := "StopIteration") (b:=true) #[o,Y,B] isSubtype_stop ?_);exact iU (hQ _ (K hk))
end
structure LW (prog:Program) (w:World) (A:Around) (I S:Addr) (wr:vL_) (n:Nat) (P:Nat->Value->Heap->Prop) (St:Nat->Heap->Prop):Prop where
 item:∀(i:Nat) (s:Shared) (Q:Option Value->Shared->Prop) (E:vQ_),i<n->St i s.heap->S<s.heap.objs.size ->
  (∀v h',P i v h'->St (i+1) h'->(∀j u,P j u s.heap->u≠v)->(∀b o,b ∉ wr->s.heap.get? b=some o->h'.get? b=some o)->Q (some v) { s with heap:=h' })->wpAny (model prog w) A (pyNext (.ref I)) Q E s
 done:∀(s:Shared) (Q:Option Value->Shared->Prop) (E:vQ_),St n s.heap->(∀h',(∀b o,b ∉ wr->s.heap.get? b=some o->h'.get? b=some o)->Q none { s with heap:=h' })->wpAny (model prog w) A (pyNext (.ref I)) Q E s
 stay:∀i h h',St i h->(∀b o,b≠S->h.get? b=some o->h'.get? b=some o)->St i h'
 pay:∀i v h h',P i v h->(∀b o,b≠S->b ∉ wr->h.get? b=some o->h'.get? b=some o)->P i v h'
 self:∀(A:Around) (s:Shared) (Q:vQ_) (E:vQ_),St 0 s.heap->Q (.ref I) s->wpAny (model prog w) A (pyIter (.ref I)) Q E s
 out:S ∉ wr
section
variable {w:World}{I S:Addr}{wr:vL_}{n:Nat}{P:Nat->Value->Heap->Prop}{St:Nat->Heap->Prop}{R:Result->Shared->Prop}
def eV (P:Nat->Value->Heap->Prop) (h:Heap) (B:vR_) (i:Nat):Prop:=B.size=i/\(∀j v,B[j]? = some v->P j v h)/\B.toList.Nodup
abbrev aj (h:Heap) (S:Addr) (acc:vR_) (c:Nat):Prop:=h.get? S=some { cls:=.type "list",dict:=none,data:=.seq acc c,slots:=#v[] }
def EB (W:LW prog w A.in1 I S wr n P St) (hn:n<=sizeLine) (res:Value) {h₁:Heap}
  (hR:∀h' acc c,(∀b o,b≠S->b ∉ wr->h₁.get? b=some o->h'.get? b=some o)->aj h' S acc c->eV P h' acc n->R (.ok (.ret res)) { s with heap:=h' }) :
  ∀(k i:Nat) (h:Heap) (c:Nat) (acc:vR_),n - i=k->i<=n->St i h->(∀b o,b≠S->b ∉ wr->h₁.get? b=some o->h.get? b=some o)->aj h S acc c->eV P h acc i ->
   codeAny (model prog w) A (.builtin "list.extend.loop" #[[.ref S,.ref I,res],[]]) R { s with heap:=h }:=by
 intro k;induction k with
 |zero=>
  intro i h c acc hk hi Y kp hS J;have e:i=n:=by omega
  subst e;refine Od OW ?_;rw[Around.under_plainId Np _];show wpAny _ A.in1 (pyNext (.ref I) >>= _) _ _ _;refine gV (W.done { s with heap:=h } _ _ Y fun h' U=>?_);exact iU (hR h' acc c (fun b o h1 h2 e=>U b o h2 (kp b o h1 h2 e)) (U S _ W.out hS) #[J.1,fun j v e=>W.pay j v h h' (J.2.1 j v e) fun b o _ h2 e=>U b o h2 e,J.2.2])
 |succ k ih=>
  intro i h c acc hk hi Y kp hS J;have hlt:i<n:=by omega
  refine Od OW ?_;rw[Around.under_plainId Np _];show wpAny _ A.in1 (pyNext (.ref I) >>= _) _ _ _;refine gV (W.item i { s with heap:=h } _ _ hlt Y (xu hS) fun v h' hP hst' hne U=>?_)
  dsimp only at U hne ⊢
  have hS':aj h' S acc c:=U S _ W.out hS;have up:∀b o,b≠S->h'.get? b=some o->(h'.update S (Obj.mapSeq (·.push v))).get? b=some o:=fun b o hb e=>(KD _ _ (JT hb)).trans e
  show wpAny _ A.in1 (updateSeq S (·.push v) >>= _) _ _ _;refine gV ?_;have B:=J.1;refine Nq hS' rfl (iU #[plainId_quiet Np _,ih (i+1) _ _ (acc.push v) ∅ hlt (W.stay _ h' _ hst' up)
   (fun b o h1 h2 e=>up b o h1 (U b o h2 (kp b o h1 h2 e))) (Le _ hS' rfl) #[by rw[Array.size_push,B],fun j x Z=>?_,?_]]) (by rw[B];omega) (by show (acc.push v).size<=sizeLine+1;rw[Array.size_push,B];omega)
  .rw[Array.getElem?_push] at Z;split at Z
   .rename_i e;cases Z;rw[e,B];exact W.pay i v h' _ hP fun b o h1 _ e=>up b o h1 e
   .exact W.pay j x h _ (J.2.1 j x Z) fun b o h1 h2 e=>up b o h1 (U b o h2 e)
  .rw[Array.toList_push];refine Oe.mpr #[J.2.2,by simp,fun a ha b hb=>?_];have e:b=v:=by simpa using hb
   subst e;obtain⟨j,Z⟩:=Nr.mp ha;exact hne j a (J.2.1 j a (by simpa using Z))
def DG (W:LW prog w A.in1 I S wr n P St) (hn:n<=sizeLine) (Y:s.TypeIs (.ref I) T) (hl:(Value.type T == Value.type "list")=false) (ht:(Value.type T == Value.type "tuple")=false)
  (nl:typeLookup (.type T) "__len__" = pure none) (nh:typeLookup (.type T) "__length_hint__" = pure none) (B:St 0 s.heap) (Z:S≠I) (res:Value) (c₀:Nat) (hS:aj s.heap S #v[] c₀)
  (hR:∀h' acc c,(∀b o,b≠S->b ∉ wr->s.heap.get? b=some o->h'.get? b=some o)->aj h' S acc c->eV P h' acc n->R (.ok (.ret res)) { s with heap:=h' }) :
  wpAny (model prog w) A.in1 (Builtin.List.listExtendWith (.ref S) (.ref I) res)
   (fun fin s'=>match fin with | .done f=>R (.ok f) s' | .again c'=>c'.quiet=true/\codeAny (model prog w) A c' R s') (fun e s'=>R (.error e) s') s:=by
 have key:∀(h:Heap) (c₁:Nat),(∀b o,b≠S->s.heap.get? b=some o->h.get? b=some o)->aj h S #v[] c₁ ->
   codeAny (model prog w) A (.builtin "list.extend.loop" #[[.ref S,.ref I,res],[]]) R { s with heap:=h }:=fun h c₁ hk hS₁=>
  EB (h₁:=s.heap) W hn res hR n 0 h c₁ #v[] (Ng _) (Ko _) (W.stay 0 _ h B hk) (fun b o h1 _ e=>hk b o h1 e) hS₁ #[rfl,fun j v e=>by simp at e,by simp]
 unfold Builtin.List.listExtendWith;refine gV (Lr Y ?_);have h1:Builtin.List.listSameRef (.ref S) (.ref I)=false:=by simp[Builtin.List.listSameRef,Z]
 simp only[h1,hl,ht,Bool.or_false,LV,KL];refine gV (W.self _ _ _ _ B ?_);refine gV (KG ?_);unfold Builtin.List.listLengthHint;refine gV (NW Y nl ?_);show wpAny _ A.in1 (specialOf (Value.ref I) (Str.ofString "__length_hint__") >>= _) _ _ _;refine gV (NW Y nh ?_);refine iU ?_;show wpAny _ A.in1 (rule "list.extend.makes-room" >>= fun _=>Builtin.List.listTouch (.ref S) >>= fun _=>
  again (.builtin "list.extend.loop" #[[.ref S,.ref I,res],[]])) _ _ _
 refine gV (KZ ?_);refine gV ?_;show wpAny _ A.in1 (updateSeq S (·.push .none) >>= fun _=>updateSeq S (·.pop)) _ _ _;refine gV (Nq hS rfl ?_);have J:=Le (Obj.mapSeq (·.push Value.none)) hS rfl;refine Nq (hz:=by seq_fits) J rfl ?_;have U:=Le (Obj.mapSeq (·.pop)) J rfl;refine iU #[plainId_quiet Np _,key _ _ (fun b o hb e=>?_) U];exact(KD _ _ (JT hb)).trans ((KD _ _ (JT hb)).trans e)
def zh {E:vQ_}{Q:vQ_}(W:LW prog w A.in1.in1 I s.heap.objs.size wr n P St) (hn:n<=sizeLine) (hT:s.TypeIs (.ref I) T) (hl:(Value.type T == Value.type "list")=false) (ht:(Value.type T == Value.type "tuple")=false)
  (nl:typeLookup (.type T) "__len__" = pure none) (nh:typeLookup (.type T) "__length_hint__" = pure none) (hst:St 0 s.heap)
  (hQ:∀h' acc c,(∀b o,b ∉ wr->s.heap.get? b=some o->h'.get? b=some o)->aj h' s.heap.objs.size acc c->eV P h' acc n->Q (.ref s.heap.objs.size) { s with heap:=h' }) :
  wpAny (model prog w) A (call (.type "list") [.ref I]) Q E s:=by
 refine callType_codes (Q₁:=fun J s₁=>J = .ref s.heap.objs.size/\s₁={ s with heap:=s.heap.push { cls:=.type "list",data:=.seq #v[] } }) PySem.F.called_list (PySem.F.typeCall_list_1 _) PySem.F.entry_list_init
  (code_list_new _ #[rfl,rfl]) fun J s₁ h₁=>?_
 obtain⟨rfl,rfl⟩:=h₁;have Y:(s.heap.push { cls:=.type "list",data:=.seq #v[] }).get? s.heap.objs.size=some { cls:=.type "list",data:=.seq #v[] }:=Kg _ rfl;obtain⟨oI,U,hcI⟩:=id hT;have hI:I<s.heap.objs.size:=xu U;refine#[#[_,Y,rfl],PySem.F.args_list_init_2 _ _,?_];show wpAny _ _ (do let old <-Builtin.List.listItems (.ref s.heap.objs.size);Builtin.List.listUpdate (.ref s.heap.objs.size) (fun _=>#v[]);letGo old.toList.reverse;Builtin.List.listExtendWith (.ref s.heap.objs.size) (.ref I) .none) _ _ _;refine gV ?_;unfold Builtin.List.listItems;refine gV (Lc Y rfl (iU ?_));show wpAny _ _ (updateSeq s.heap.objs.size (fun _=>#v[]) >>= fun _=>letGo (#v[]:vR_).toList.reverse >>= fun _=>Builtin.List.listExtendWith (.ref s.heap.objs.size) (.ref I) .none) _ _ _;refine gV (Nq Y rfl ?_);have hS₂:=Le (Obj.mapSeq (fun _=>(#v[]:vR_))) Y rfl;have B:∀b o,b≠s.heap.objs.size->s.heap.get? b=some o->((s.heap.push { cls:=.type "list",data:=.seq #v[] }).update s.heap.objs.size (Obj.mapSeq (fun _=>(#v[]:vR_)))).get? b=some o:=
  fun b o hb e=>(KD _ _ (JT hb)).trans (JI _ e)
 refine gV (Nl ?_);refine DG (A:=A.in1) W hn #[oI,B I _ (Kc hI) U,hcI] hl ht nl nh (W.stay 0 s.heap _ hst B) (Kw hI) .none _ hS₂ fun h' acc c hk Z hG=>?_
 exact#[rfl,hQ h' acc c (fun b o h2 e=>hk b o (Kc (xu e)) h2 (B b o (Kc (xu e)) e)) Z hG]
end
def Gd:typeLookup (.type "zip") "__len__" = pure none:=by rw[typeLookup_type,builtinLookup_eq_fast];kernel_rfl
def Ez:typeLookup (.type "zip") "__length_hint__" = pure none:=by rw[typeLookup_type,builtinLookup_eq_fast];kernel_rfl
def DX {w:World}{z TI TO i1 i2 l1 l2 S:Addr}{xs ys:vR_}(hh:A.handled=none) (D:ZipApart z TI TO i1 i2 l1 l2) (hTO:TO<S) (hS:S ∉ [z,TI,TO,i1,i2,l1,l2]) (top:∀b∈[z,TO,i1,i2],b<S) :
  LW prog w A z S [z,TO,i1,i2] (min xs.size ys.size) (fun j v h=>∃a x y,v = .ref a/\S<=a/\a≠S/\xs[j]? = some x/\ys[j]? = some y/\IsPair h a x y) (fun k h=>ZSt h z TI TO i1 i2 l1 l2 S xs ys k) where
 item:=fun i s Q E hi st hs J=>by
  have Y:i<xs.size:=JW hi (Of ..);have Z:i<ys.size:=JW hi (Nat.min_le_right ..);exact GJ D st hs (Nat.lt_trans hTO hs) (Mk Y) (Mk Z) fun h' a1 a2 a3=>J _ h' #[_,_,_,rfl,Lk hs,Kw hs,Mk Y,Mk Z,a2] a1 (fun j u ⟨a,x,y,e,_,_,_,_,q⟩ z=>by
   rw[e] at z;cases z;exact absurd (xu q) (KA _)) a3
 done:=fun s Q E st J=>by
  have U:xs[min xs.size ys.size]? = none\/ys[min xs.size ys.size]? = none:=by
   rcases Nat.le_total xs.size ys.size with h | h
   .exact .inl (by rw[Og h];exact OX (tx _))
   .exact .inr (by rw[Oh h];exact OX (tx _))
  exact CN hh D st U J
 stay:=fun i h h' st k=>by
  simp only[xo,JZ,Ka,not_or] at hS;obtain⟨n1,n2,n3,n4,n5,n6,n7⟩:=hS;obtain⟨ti,r1,r2,zz⟩:=st;refine#[k _ _ (JT n2) ti,r1.at (fun o e=>k _ o (JT n4) e) (fun o e=>k _ o (JT n6) e),r2.at (fun o e=>k _ o (JT n5) e) (fun o e=>k _ o (JT n7) e),?_];rcases zz with ⟨B,a,b,ho⟩ | ⟨T,f,oT,B,hT,t1,t2,t3,t4,t5⟩
  .exact .inl #[k _ _ (JT n1) B,a,b,k _ _ (JT n3) ho]
  .exact .inr #[T,f,oT,k _ _ (JT n1) B,k _ _ t5 hT,t1,t2,t3,t4,t5]
 pay:=fun i v h h' p k=>by
  obtain⟨a,x,y,e,ha,na,hx,hy,q⟩:=p;refine#[a,x,y,e,ha,na,hx,hy,k _ _ na (fun hb=>?_) q];exact absurd (JW (top a hb) ha) (KA _)
 self:=fun A s Q E st J=>by
  have tz:s.TypeIs (.ref z) "zip":= by
   rcases st.zz with ⟨B,_⟩ | ⟨T,f,oT,B,_⟩ <;> exact#[_,B,rfl]
  refine wpAny_pyIter_slot tz OY (KO OY tz PySem.F.entry_zip_iter ?_ (PySem.F.args_zip_iter_1 _));show wpAny _ _ (ret (.ref z)) _ _ s;exact iU #[_,rfl, "zip",_,tz,Ln.lookup,J]
 out:=fun h=>hS (by
  simp only[xo,JZ,Ka] at h ⊢;rcases h with h | h | h | h <;> simp[h])
def X5 (t:Bool) (l:Addr):Obj:={ cls:=.type (if t then "tuple_iterator" else "list_iterator"),data:=.fields #v[.ref l,.int 0 0] }
def RwB (t:Bool) (h:Heap) (l:Addr) (xs:vR_):Prop:=if t then h.IsTuple l xs else h.IsList l xs
section
variable {w:World}
def sE {t:Bool}{xs:vR_}{Q:vQ_}(h:RwB t s.heap l xs) (B:Q (.ref s.heap.objs.size) { s with heap:=s.heap.push (X5 t l) }):wpAny (model prog w) A (pyIter (.ref l)) Q E s:=by
 cases t with
 |true=>exact MA h B
 |false=>exact wpAny_pyIter_list h B
end
abbrev ik (h:Heap) (t1:Bool) (l1:Addr):Heap:=h.push (X5 t1 l1)
abbrev iT (h:Heap) (t1 t2:Bool) (l1 l2:Addr):Heap:=(ik h t1 l1).push (X5 t2 l2)
abbrev jx (h:Heap) (t1 t2:Bool) (l1 l2:Addr):Heap:=(iT h t1 t2 l1 l2).push { cls:=.type "tuple",data:=.seq #v[.ref h.objs.size,.ref (ik h t1 l1).objs.size] }
abbrev gC (h:Heap) (t1 t2:Bool) (l1 l2:Addr):Heap:=(jx h t1 t2 l1 l2).push { cls:=.type "tuple",data:=.seq #v[.none,.none] }
abbrev ao (h:Heap) (t1 t2:Bool) (l1 l2:Addr):Heap:=(gC h t1 t2 l1 l2).push { cls:=.type "zip",data:=.fields #v[.none,.bool false,.bool false,.ref (iT h t1 t2 l1 l2).objs.size,.ref (jx h t1 t2 l1 l2).objs.size] }
theorem RwB.push {t:Bool}{xs:vR_}(x:RwB t h l xs) (o:Obj):RwB t (h.push o) l xs:=by
 cases t with
 |true=>exact Heap.IsTuple.push x o
 |false=>exact Heap.IsList.push x o
def FZ (B J:Bool) (l1 l2:Addr) (xs ys:vR_) :
  Meets (Builtin.«zip.__new__» #[[.type "zip",.ref l1,.ref l2],[]]) (fun _ R s=>RwB B s.heap l1 xs/\RwB J s.heap l2 ys /\
   R (.ok (.ret (.ref (gC s.heap B J l1 l2).objs.size))) { s with heap:=ao s.heap B J l1 l2 }):=
 .of_wp fun prog w A R s h=>by
  obtain⟨hp,g,d,tk,os⟩:=s;obtain⟨hl1,U,h⟩:=h;have hsub:=sub_zip;have Z:RwB B (Shared.heap #[hp,g,d,tk,os]) l1 xs:=hl1;have Y:RwB J (Shared.heap #[hp.push (X5 B l1),g,d,tk,os]) l2 ys:=RwB.push U _
  wp_walk using sE Z,sE Y
  exact#[_,rfl,h]
section
variable {w:World}
def RwB.it {t:Bool}{i l:Addr}{xs:vR_}(x:RwB t h l xs) (e:h.get? i=some (X5 t l)):RwIt h i l xs 0:=by
 cases t with
 |true=>exact .inr #[#[_,e,rfl,rfl],x]
 |false=>exact .inl #[#[_,e,rfl,rfl],x]
def RwB.at {t:Bool}{xs:vR_}(x:RwB t h l xs) (e:∀o,h.get? l=some o->h'.get? l=some o):RwB t h' l xs:=by
 cases t with
 |true=>obtain⟨o,q,r⟩:=x;exact#[o,e o q,r]
 |false=>obtain⟨o,q,r⟩:=x;exact#[o,e o q,r]
def RwB.lt {t:Bool}{xs:vR_}(x:RwB t h l xs):l<h.objs.size:=by
 cases t with
 |true=>obtain⟨o,q,r⟩:=x;exact xu q
 |false=>obtain⟨o,q,r⟩:=x;exact xu q
def tM (h:Heap) (m:Nat) (xs ys:vR_):Prop:=∃l1 l2,ZipApart (m+4) (m+2) (m+3) m (m+1) l1 l2/\l1<m/\l2<m/\h.objs.size=m+5/\∀S,m+5<=S->ZSt h (m+4) (m+2) (m+3) m (m+1) l1 l2 S xs ys 0
def yf (h:Heap) (m:Nat) (B J:Bool) (l1 l2:Addr):Prop:=ZipApart (m+4) (m+2) (m+3) m (m+1) l1 l2/\h.get? m=some (X5 B l1)/\h.get? (m+1)=some (X5 J l2)/\IsPair h (m+2) (.ref m) (.ref (m+1))/\L6 h (m+4) (m+2) (m+3) .none (.bool false)/\∃a b,IsPair h (m+3) a b
def Fo {B J:Bool}{xs ys:vR_}{Q:vQ_}(h1:RwB B s.heap l1 xs) (h2:RwB J s.heap l2 ys)
  (h:∀h',tM h' s.heap.objs.size xs ys->(∀c o,s.heap.get? c=some o->h'.get? c=some o)->yf h' s.heap.objs.size B J l1 l2->Q (.ref (s.heap.objs.size+4)) { s with heap:=h' }) :
  wpAny (model prog w) A (call (.type "zip") [.ref l1,.ref l2]) Q E s:=by
 refine callType_new PySem.F.called_zip #[] (PySem.F.typeCall_zip_2 _ _) (PySem.F.newCall_zip_2 _ _) (fun obj=>PySem.F.args_object_init_3 obj _ _) PySem.F.entry_zip_new
  (FZ B J l1 l2 xs ys) #[h1,h2,?_]
 have z1:(ik s.heap B l1).objs.size=s.heap.objs.size+1:=Lu ..;have Y:(iT s.heap B J l1 l2).objs.size=s.heap.objs.size+2:=by rw[Lu,z1]
 have z3:(jx s.heap B J l1 l2).objs.size=s.heap.objs.size+3:=by rw[Lu,Y]
 have z4:(gC s.heap B J l1 l2).objs.size=s.heap.objs.size+4:=by rw[Lu,z3]
 have z5:(ao s.heap B J l1 l2).objs.size=s.heap.objs.size+5:=by rw[Lu,z4]
 have fr:∀t l,(X5 t l).isFreed=false:=fun t l=>rfl
 have U:(ao s.heap B J l1 l2).get? (gC s.heap B J l1 l2).objs.size=some _:=Kg _ rfl;have g4:(ao s.heap B J l1 l2).get? (jx s.heap B J l1 l2).objs.size=some _:=JI _ (Kg _ rfl);have g3:(ao s.heap B J l1 l2).get? (iT s.heap B J l1 l2).objs.size=some _:=JI _ (JI _ (Kg _ rfl));have g2:(ao s.heap B J l1 l2).get? (ik s.heap B l1).objs.size=some (X5 J l2):=JI _ (JI _ (JI _ (Kg _ (fr _ _))));have g1:(ao s.heap B J l1 l2).get? s.heap.objs.size=some (X5 B l1):=JI _ (JI _ (JI _ (JI _ (Kg _ (fr _ _)))));show _/\_;rw[Y,z3,z4] at U;rw[z1,Y] at g3;rw[z3] at g4;rw[z1] at g2;rw[z4];have Z:∀c o,s.heap.get? c=some o->(ao s.heap B J l1 l2).get? c=some o:=fun c o x=>
  JI _ (JI _ (JI _ (JI _ (JI _ x))))
 refine#[#[_,U,rfl],h _ #[l1,l2,OZ h1.lt h2.lt,h1.lt,h2.lt,z5,fun S hS=>#[g3,(h1.at fun o e=>Z _ o e).it g1,(h2.at fun o e=>Z _ o e).it g2,.inl #[U,_,_,g4]]] Z #[OZ h1.lt h2.lt,g1,g2,g3,U,_,_,g4]]
structure LZ (h h':Heap) (S:Addr) (xs ys:vR_) (as:vL_) (c:Nat):Prop where
 keep:∀b o,h.get? b=some o->h'.get? b=some o
 low:h.objs.size<=S
 lst:aj h' S (as.map Value.ref).toArray c
 len:as.length=min xs.size ys.size
 new:∀a∈as,h.objs.size<=a/\a≠S
 nd:as.Nodup
 at':∀(j:Nat) a,as[j]? = some a->∃x y,xs[j]? = some x/\ys[j]? = some y/\IsPair h' a x y
def HJ {P:Nat->Value->Heap->Prop}{B:vR_}{n:Nat}(g:eV P h B n) (hp:∀j v,P j v h->∃a,v = .ref a):∃as:List Addr,B=(as.map Value.ref).toArray:=by
 have:∀l:List Value,(∀v∈l,∃a,v=Value.ref a)->∃as:List Addr,l=as.map Value.ref:=by
  intro l;induction l with
  |nil=>exact fun _=>#[[],rfl]
  |cons v r Y=>
   intro J;obtain⟨a,e⟩:=J v (.head _);obtain⟨as,e'⟩:=Y fun u U=>J u (.tail _ U)
   exact#[a::as,by rw[e,e'];rfl]
 obtain⟨as,e⟩:=this B.toList fun v J=>by
  obtain⟨j,Z⟩:=Nr.mp J;exact hp j v (g.2.1 j v (by simpa using Z))
 exact#[as,by rw[<-e,Array.toArray_toList]]
def Jt {m:Nat}{h₀:Heap}{xs ys:vR_}{Q:vQ_}(hh:A.handled=none) (Z:tM s.heap m xs ys) (k₀:∀c o,h₀.get? c=some o->s.heap.get? c=some o) (hm:h₀.objs.size=m) (hn:xs.size<=sizeLine)
  (hQ:∀S h' as c,LZ h₀ h' S xs ys as c->Q (.ref S) { s with heap:=h' }):wpAny (model prog w) A (call (.type "list") [.ref (m+4)]) Q E s:=by
 obtain⟨l1,l2,D,b1,b2,sz,st⟩:=Z;have B:=st s.heap.objs.size ∅;have tz:s.TypeIs (.ref (m+4)) "zip":= by
  rcases B.zz with ⟨hz,_⟩ | ⟨T,f,oT,hz,_⟩ <;> exact#[_,hz,rfl]
 refine zh (T := "zip") (DX (A:=A.in1.in1) hh D (show (m+3:Nat)<s.heap.objs.size by omega) (by
  simp only[xo,JZ,Ka,not_or];have ms:m<=s.heap.objs.size:=by omega
  exact#[show (s.heap.objs.size:Nat)≠m+4 by omega,show (s.heap.objs.size:Nat)≠m+2 by omega,show (s.heap.objs.size:Nat)≠m+3 by omega,show (s.heap.objs.size:Nat)≠m by omega,show (s.heap.objs.size:Nat)≠m+1 by omega,
   Kw (JW b1 ms),Kw (JW b2 ms)]) (by
  simp only[xo,JZ,Ka];intro b U;have Y:∀j,j<=4->m+j<s.heap.objs.size:=fun j _=>by omega
  rcases U with e | e | e | e
  .rw[e];exact Y 4 ∅
  .rw[e];exact Y 3 ∅
  .rw[e];exact Y 0 ∅
  .rw[e];exact Y 1 ∅)) (JN (Of ..) hn) tz #[] #[] Gd Ez B fun h' acc c k l g=>?_
 obtain⟨as,ea⟩:=HJ g fun j v ⟨a,_,_,e,_⟩=>#[a,e]
 subst ea;refine hQ _ h' as c #[fun b o e=>k b o (fun U=>?_) (k₀ b o e),by omega,l,by simpa using g.1,fun a ha=>?_,?_,fun j a e=>?_]
 .have hl:b<m:=hm▸xu e;simp only[xo,JZ,Ka] at U;have J:∀j:Nat,¬ (m+j<m):=fun j=>by omega
  rcases U with e | e | e | e
  .exact J 4 (e▸hl)
  .exact J 3 (e▸hl)
  .exact J 0 (e▸hl)
  .exact J 1 (e▸hl)
 .obtain⟨j,hj⟩:=Nr.mp ha;obtain⟨a',x,y,e,q1,q2,_⟩:=g.2.1 j (.ref a) (by simp[hj]);cases e;exact#[JN (show (h₀.objs.size:Nat)<=s.heap.objs.size by omega) q1,q2]
 .have nd:=g.2.2;simp only[List.toList_toArray] at nd;exact(Oi.mp nd).imp fun h e=>h (by rw[e])
 .obtain⟨a',x,y,e',q1,q2,q3,q4,q5⟩:=g.2.1 j (.ref a) (by simp[e]);cases e';exact#[x,y,q3,q4,q5]
end
def Q3 (H:Hp):List (Addr × List V)->Hp
 |[]=>H
 |(a,p)::r=>j5 (Q3 H r) a (.tup p)
theorem eu:∀{ps:List (Addr × List V)}{b:Addr},(∀q∈ps,q.1≠b)->Q3 H ps b=H b
 |[],b,h=>rfl
 |(a,p)::r,b,h=>by
  show j5 (Q3 H r) a (.tup p) b=H b;rw[m9 (JT (h _ (.head _)))];exact eu fun q B=>h q (.tail _ B)
theorem sX:∀{ps:List (Addr × List V)}{b:Addr}{u:HO},Q3 H ps b=some u->(∃p,(b,p)∈ps/\u = .tup p)\/H b=some u
 |[],b,u,h=>.inr h
 |(a,p)::r,b,u,h=>by
  replace h:j5 (Q3 H r) a (.tup p) b=some u:=h
  by_cases B:b=a
  .subst B;rw[D2] at h;cases h;exact .inl #[p,.head _,rfl]
  .rw[m9 B] at h;rcases sX h with ⟨p',q,e⟩ | e
   .exact .inl #[p',.tail _ q,e]
   .exact .inr e
theorem qf:∀{ps:List (Addr × List V)}{b:Addr}{p:List V},(ps.map (·.1)).Nodup->(b,p)∈ps->Q3 H ps b=some (.tup p)
 |(a,p')::r,b,p,nd,h=>by
  show j5 (Q3 H r) a (.tup p') b=_;rcases xo.mp h with e | h
  .cases e;exact D2
  .have B:=Ks.mp nd;have J:b≠a:=fun e=>B.1 (e▸KR.mpr #[(b,p),h,rfl])
   rw[m9 J];exact qf B.2 h
def BW {fs ex:vL_}(k:∀b u,h.get? b=some u->h'.get? b=some u) (J:∀b,b<h.objs.size->H' b=H b) (B:∀b u,H b=some u->H' b=some u):Un fs ex H H' h h' where
 keep:=fun b u q _ _ _=>k b u q
 slot:=fun b u q _ _ _=>#[u.slots,k b u q]
 free:=fun b u q n _=>by rw[J b (xu q)];exact n
 there:=fun b u q _=>#[u,k b u q]
 tups:=fun b xs q=>B b _ q
 frzs:=fun b u xs q=>B b _ q
 tbls:=fun b ps q=>#[#v[],by rw[B b _ q];simp]
def E9 (xs ys:List V):List (List V):=List.zipWith (fun x y=>[x,y]) xs ys
def Dz (e:(E9 xs ys)[j]? = some p):∃x y,xs[j]? = some x/\ys[j]? = some y/\p=[x,y]:=by
 unfold E9 at e;rw[List.getElem?_zipWith] at e;cases B:xs[j]? with
 |none=>rw[B] at e;simp at e
 |some x=>
  cases J:ys[j]? with
  |none=>rw[B,J] at e;simp at e
  |some y=>rw[B,J] at e;simp at e;exact#[x,y,rfl,rfl,e.symm]
def Sq (K:vF_) (H:Hp) (a:Addr) (xs:List V):Prop:=SqL K H a xs\/SqT K H a xs
def sG (K:vF_):List V->Hp->VK->Prop:=fun vs H Q=>∃p q xs ys,vs=[.ref p,.ref q]/\Sq K H p xs/\Sq K H q ys /\
 ∀S as,(S::as).Nodup->(∀a∈S::as,H a=none)->as.length=(E9 xs ys).length->Q (.ref S) (j5 (Q3 H (as.zip (E9 xs ys))) S (.lst (as.map V.ref)))
def qu (I:Inv X pins σ H s) (h:Sq X.K H p xs):∃(t:Bool) (its:vV_),Vals xs its/\RwB t s.heap p its.toArray/\xs.length<=sizeLine:=by
 rcases h with h | h
 .obtain⟨its,r,⟨o,n,e,c,_,d⟩,z⟩:=I.list h;exact#[false,its,r,#[o,e,c,n,d],z]
 .obtain⟨its,r,⟨o,e,c,n,d⟩,z⟩:=I.tuple h;exact#[true,its,r,#[o,e,c,n,d],z]
def qJ {B:vL_}{ps:List (List V)}(h:B.length=ps.length):(B.zip ps).map (·.1)=B:=by
 rw[List.map_fst_zip ∅]
def Inv.lz {it jt:vV_}{B:vL_}{c:Nat}(I:Inv X pins σ H s) (rx:Vals xs it) (ry:Vals ys jt) (zx:xs.length<=sizeLine) (Z:LZ s.heap h' S it.toArray jt.toArray B c) :
  (S::B).Nodup/\(∀a∈S::B,H a=none)/\B.length=(E9 xs ys).length/\Inv X pins σ (j5 (Q3 H (B.zip (E9 xs ys))) S (.lst (B.map V.ref))) { s with heap:=h' }:=by
 have hl:B.length=(E9 xs ys).length:=by
  have e:=Z.len;simp only[JY] at e;rw[e,E9,List.length_zipWith,rx.length,ry.length]
 have fr:∀a∈S::B,s.heap.objs.size<=a:=fun a J=>by
  rcases xo.mp J with e | e
  .rw[e];exact Z.low
  .exact(Z.new a e).1
 have nn:∀a∈S::B,H a=none:=fun a J=>I.hok.fresh (fr a J)
 have nd:(S::B).Nodup:=Ks.mpr #[fun h=>(Z.new S h).2 rfl,Z.nd];have ky:=qJ hl;have ndz:((B.zip (E9 xs ys)).map (·.1)).Nodup:=by rw[ky];exact Z.nd
 have U:∀q∈B.zip (E9 xs ys),q.1∈B:=fun q Y=>(LL Y).1
 refine#[nd,nn,hl,?_];have hs:∀b u,H b=some u->j5 (Q3 H (B.zip (E9 xs ys))) S (.lst (B.map V.ref)) b=some u:=fun b u e=>by
  have n:∀a∈S::B,a≠b:=fun a J z=>by rw[z] at J;rw[nn b J] at e;cases e
  rw[m9 (JT (n S (.head _))),eu fun q Y=>n _ (.tail _ (U q Y))];exact e
 refine I.un (t':=s.toks) (BW Z.keep (fun b hb=>?_) hs) fun b u e=>?_
 .have n:∀a∈S::B,a≠b:=fun a J z=>absurd (JW hb (z▸fr a J)) (KA _)
  rw[m9 (JT (n S (.head _))),eu fun q Y=>n _ (.tail _ (U q Y))]
 .by_cases hb:b=S
  .subst hb;rw[D2] at e;cases e;refine#[?_,B.map Value.ref,c,?_,Z.lst]
   .rw[JR,hl,E9,List.length_zipWith];exact JN (Of ..) zx
   .have:∀l:List Addr,Vals (l.map V.ref) (l.map Value.ref):=fun l=>by
     induction l with
     |nil=>exact .nil
     |cons a r ih=>exact .cons rfl ih
    exact this B
  .rw[m9 hb] at e;rcases sX e with ⟨p,hp,rfl⟩ | e0
   .obtain⟨j,hj⟩:=Nr.mp hp;obtain⟨J,hpj⟩:=Nt.mp hj;obtain⟨x,y,ex,ey,rfl⟩:=Dz hpj;obtain⟨x',y',ex',ey',q⟩:=Z.at' j b J;obtain⟨u1,f1,g1⟩:=rx.get ex;obtain⟨u2,f2,g2⟩:=ry.get ey;have e1:u1=x':=by simpa [f1] using ex'
    have e2:u2=y':=by simpa [f2] using ey'
    subst e1;subst e2;exact#[show 2<=sizeLine by decide,[u1,u2],.cons g1 (.cons g2 .nil),#[_,q,rfl,_,rfl]]
   .exact(I.hok b u e0).stay (fun c v _ q=>Z.keep c v q) (fun c q=>hs c _ q) fun c xs q=>hs c _ q
section
variable {p p' pos:Pos}{t:TA}
def Gn (hc:X.calm=true) (hgl:Gl X "list") (Y:X.mg "list" = none) (hgz:Gl X "zip") (hmz:X.mg "zip" = none) (ha:PA X (e::es) t)
  (he:starEach (e::es) X.env=(false,eval e X.env)::starEach es X.env:=by rfl) (U:(backTo pos' (starEach es X.env)).any (·.1)=false:=by rfl)
  (B:starEach [.Call (.Name "zip" p') (e::es) [] pos'] X.env=[(false,eval (.Call (.Name "zip" p') (e::es) [] pos') X.env)]:=by rfl) :
  PE X (.Call (.Name "list" p) [.Call (.Name "zip" p') (e::es) [] pos'] [] pos) (dH (sG X.K) t):=by
 intro pins s σ H Q I h;refine LK (bX I hgl Y (show bootBuiltins ("list" : Str)=some (.type "list") by decide +kernel) ?_ #[] #[]);refine Mr ?_ B rfl;rw[B];show wpAny _ _ (spliced [(false,eval (.Call (.Name "zip" p') (e::es) [] pos') X.env)]) _ _ s;refine Calls.spliced_cons ?_;refine LK (bX I hgz hmz (show bootBuiltins ("zip" : Str)=some (.type "zip") by decide +kernel) ?_ #[] #[]);refine Mr (l6 (ha pos' pins s σ H _ I h) fun us s1 ⟨vs,H1,I1,J,q1⟩=>?_) he U;refine gB_ fun G_ g_=>?_
 obtain⟨a,b,xs,ys,rfl,qa,qb,k⟩:=q1;obtain⟨u1,u2,rfl,e1,e2⟩:∃u1 u2,us=[u1,u2]/\u1=Value.ref a/\u2=Value.ref b:=by
  cases J with
  |cons h1 J=>
   cases J with
   |cons h2 J=>cases J;exact#[_,_,rfl,h1,h2]
 apply g_;subst e1;subst e2;obtain⟨ta,it,rx,wa,za⟩:=qu I1 qa;obtain⟨tb,jt,ry,wb,zb⟩:=qu I1 qb;refine Fo wa wb fun h1 Z1 k1 _=>?_
 refine Calls.spliced_nil ?_;refine Jt (h₀:=s1.heap) (I.ok.hd hc) Z1 k1 rfl (by simpa [<-rx.length] using za) fun S h2 as c Z=>?_
 obtain⟨nd,nn,hl,I2⟩:=Inv.lz I1 rx ry za Z;exact#[.ref S,_,I2,rfl,k S as nd nn hl]
end
def aU:D->Option (List D)
 |.tup ds=>some ds
 |.lst ds=>some ds
 |_=>none
def eP (x y:D):D:=.tup [x,y]
def cz:List D->Option (List D)
 |[a,b]=>(aU a).bind fun xs=>(aU b).map fun ys=>List.zipWith eP xs ys
 |_=>none
theorem oa {K:vF_}{s:DS}(I:GI K g σ H fa O s):∀(ps:List (Addr × List V)),(ps.map (·.1)).Nodup->(∀q∈ps,H q.1=none)->GI K g σ (Q3 H ps) fa O s/\StE fa O H fa O (Q3 H ps)
 |[],_,_=>#[I,StE.refl]
 |(a,p)::r,nd,h=>by
  have B:=Ks.mp nd;obtain⟨Y,s1⟩:=oa I r B.2 fun q J=>h q (.tail _ J)
  have U:Q3 H r a=none:=by
   rw[eu fun q J z=>B.1 (KR.mpr #[q,J,z])];exact h _ (.head _)
  exact#[Y.new U,s1.trans (E6 U)]
theorem uN {K:vF_}:∀{ds es:vD_}{xs ys:List V}{as:vL_},Reps K N fa H ds xs->Reps K N fa H es ys->as.length=(E9 xs ys).length->(∀q∈as.zip (E9 xs ys),H q.1=some (.tup q.2)) ->
  Reps K N fa H (List.zipWith eP ds es) (as.map V.ref)
 |[],es,xs,ys,as,h,q,l,k=>by
  simp only[Reps] at h;subst h;simp only[E9,Pa,Lm] at l;rw[Nu l];simp only[Pa,KJ,Reps]
 |d::r,[],xs,ys,as,h,q,l,k=>by
  simp only[Reps] at q;subst q;simp only[E9,Pb,Lm] at l;rw[Nu l];simp only[Pb,KJ,Reps]
 |d::r,e::f,xs,ys,as,h,q,l,k=>by
  simp only[Reps] at h q;obtain⟨x,B,rfl,h1,h2⟩:=h;obtain⟨y,J,rfl,Z,q2⟩:=q;cases as with
  |nil=>simp[E9] at l
  |cons a as=>
   have U:(a::as).zip (E9 (x::B) (y::J))=(a,[x,y])::as.zip (E9 B J):=rfl;rw[U] at k;simp only[Pc,JS,Reps];refine#[_,_,rfl,?_,uN h2 q2 (by simpa [E9] using l) fun q Y=>k q (.tail _ Y)];simp only[eP,Rep,Reps];exact#[a,[x,y],rfl,SqT.of (k _ (.head _)),x,[y],rfl,h1,y,[],rfl,Z,rfl]
def qW {K:vF_}{v:V}(r:RepB K N fa H d v) (e:aU d=some ds):∃a xs,v = .ref a/\Sq K H a xs/\Reps K N fa H ds xs:=by
 cases d with
 |tup es=>
  cases e;simp only[RepB,Rep] at r;obtain⟨a,ys,rfl,q,w⟩:=r;exact#[a,ys,rfl,.inr q,w]
 |lst es=>
  cases e;obtain⟨a,ys,rfl,_,q,w⟩:=r;exact#[a,ys,rfl,.inl (SqL.of q),w]
 |_=>cases e
def HX {K:vF_}:jz K (sG K) cz:=by
 intro g σ H fa O s xs ds es Q I rs e k
 match ds,e with
 |[d1,d2],e=>
  refine V1 (show (aU d1).bind (fun xs=>(aU d2).map fun ys=>List.zipWith eP xs ys)=some es from e) fun xs1 e1 e=>?_
  refine M6 e fun ys1 e2 e=>?_
  subst e;simp only[Y2] at rs;obtain⟨x,zs,rfl,r1,y,zs',rfl,r2,rfl⟩:=rs;obtain⟨a,vs,rfl,q1,w1⟩:=qW r1 e1;obtain⟨b,us,rfl,q2,w2⟩:=qW r2 e2;refine#[a,b,vs,us,rfl,q1,q2,fun S J nd nn hl=>?_];have U:=Ks.mp nd;have ky:=qJ hl;have Y:∀q∈J.zip (E9 vs us),q.1∈J:=fun q B=>(LL B).1
  have Z:((J.zip (E9 vs us)).map (·.1)).Nodup:=by rw[ky];exact U.2
  obtain⟨I1,s1⟩:=oa I (J.zip (E9 vs us)) Z fun q B=>nn _ (.tail _ (Y q B))
  have hS:Q3 H (J.zip (E9 vs us)) S=none:=by
   rw[eu fun q B (z:q.1=S)=>U.1 (by rw[<-z];exact Y q B)];exact nn S (.head _)
  have rp:=uN (Reps.stp I s1.stp w1) (Reps.stp I s1.stp w2) hl fun q B=>qf (b:=q.1) (p:=q.2) Z B
  exact k S (J.map V.ref) _ (s1.trans (E6 hS)) (ak I1 hS rp) (nn S (.head _))
section
variable {p p' pos:Pos}{t:DA}
def wM (hc:X.calm=true) (J:Gl X "list") (hml:X.mg "list" = none) (B:Gl X "zip") (U:X.mg "zip" = none) (ha:BAO X g (e::es) t)
  (he:starEach (e::es) X.env=(false,eval e X.env)::starEach es X.env:=by rfl) (Z:(backTo pos' (starEach es X.env)).any (·.1)=false:=by rfl)
  (Y:starEach [.Call (.Name "zip" p') (e::es) [] pos'] X.env=[(false,eval (.Call (.Name "zip" p') (e::es) [] pos') X.env)]:=by rfl) :
  FO X g (.Call (.Name "list" p) [.Call (.Name "zip" p') (e::es) [] pos'] [] pos) (W2 cz t):=
 FO.w (Gn hc J hml B U ha.pe he Z Y) (oK HX)
end
section
variable {pos:Pos}{y:Str}{px py pp:Pos}{kt:Nat}
def xD (Y:X.calm=true) (k:CompOk X scope cl (x::y::caps) 2 idx) (hi:IO X g (.Tuple [.Name x px,.Name y py] kt pp) iter fi) (U:(x::y::caps).Nodup)
  (B:∀C s0 H0 ex,(B5 X (x::y::caps) scope cl C s0 H0 ex).env.scope.names.lookup x=some .local) (J:∀C s0 H0 ex,(B5 X (x::y::caps) scope cl C s0 H0 ex).env.scope.names.lookup y=some .local)
  (ht:∀C s0 H0 ex g',cM (B5 X (x::y::caps) scope cl C s0 H0 ex) g' ifs fc) (he:∀C s0 H0 ex g',EO (B5 X (x::y::caps) scope cl C s0 H0 ex) g' elt fe) (Z:∀x,foldedSetIterable iter X.env x=pure x:=by intro _;rfl) :
  FO X g (.ListComp elt [#[.Tuple [.Name x px,.Name y py] kt pp,iter,ifs,0]] scope pos) (dJ idx fi fc fe):=
 Cp (G:=sv X.K 2 (nF (V9 0) (nF (V9 1) qU))) Y k hi (fun C s0 H0 ex=>su (X:=B5 X (x::y::caps) scope cl C s0 H0 ex) (n:=2) Y (lu (X:=B5 X (x::y::caps) scope cl C s0 H0 ex) (U8 (X:=B5 X (x::y::caps) scope cl C s0 H0 ex) (i:=0) U rfl (Or.inl (B C s0 H0 ex)) (Or.inr (B C s0 H0 ex))) (lu (X:=B5 X (x::y::caps) scope cl C s0 H0 ex) (U8 (X:=B5 X (x::y::caps) scope cl C s0 H0 ex) (i:=1) U rfl (Or.inl (J C s0 H0 ex)) (Or.inr (J C s0 H0 ex))) ur)))
  (fun a x y σ H Q h q=>#[a,[x,y],rfl,h,rfl,x,[y],rfl,y,[],rfl,rfl,q]) ht he Z
end
def PC (X:Cx) (e:Expr) (te:TE):Prop:=∀(i:Nat) (y:Str) (py spos:Pos),X.N.Nodup->X.N[i]? = some y->W5 X.env.scope y->swapsWith e (some (.Name y py)) spos.line X.env=pure true->(X.fn y=true\/X.env.scope.names.lookup y=some .local)->PS X (.Assign [.Name y py] e spos) (fq te (V9 i))
structure CO (X:Cx) (g:Gh) (e:Expr) (f:DA):Prop where
 pe:PC X e (liftF X.K g f)
theorem CO.w {f:DA}{t:TE}(h:PC X e t) (w:∀σ H Q,liftF X.K g f σ H Q->t σ H Q):CO X g e f:=
 #[fun i y py B h1 h2 U Y J pins s σ H D I q=>h i y py B h1 h2 U Y J pins s σ H D I (w σ H _ q)]
section
variable {pos:Pos}
def fK (U:X.calm=true) (k:CompOk X scope cl N' 1 idx) (hi:IO X g tg iter fi) (hg:∀C s0 H0 ex,PG (B5 X N' scope cl C s0 H0 ex) tg (V9 0))
  (ht:∀C s0 H0 ex g',cM (B5 X N' scope cl C s0 H0 ex) g' ifs fc) (he:∀C s0 H0 ex g',EO (B5 X N' scope cl C s0 H0 ex) g' elt fe) (J:∀x,foldedSetIterable iter X.env x=pure x:=by intro _;rfl) :
  CO X g (.ListComp elt [#[tg,iter,ifs,0]] scope pos) (K6 idx fi fc fe):=
 CO.w (fun i y py B h1 h2 Z h4 Y=>Ic (tc:=fun σ H Q=>∃g',liftT X.K g' fc σ H Q) (te:=fun σ H Q=>∃g',liftE X.K g' fe σ H Q) h1 h2 Z U k hi.pe hg (fun C s0 H0 ex pins s σ H Q I ⟨g',h⟩=>ht C s0 H0 ex g' pins s σ H Q I h) (fun C s0 H0 ex pins s σ H Q I ⟨g',h⟩=>(he C s0 H0 ex g').pe pins s σ H Q I h) J h4 Y) (uI k)
def fA {e:Expr}{i:Nat}{x:Str}{f:DA}{pos':Pos}(hN:X.N.Nodup) (hi:X.N[i]? = some x) (hx:W5 X.env.scope x) (he:CO X g e f) (hs:swapsWith e (some (.Name x pos')) pos.line X.env=pure true:=by rfl) (hf:X.fn x=true\/X.env.scope.names.lookup x=some .local:=by first | exact .inl rfl | exact .inr rfl | assumption) :
  SO X g (.Assign [.Name x pos'] e pos) (E4 i f):=SO.w (he.pe i x pos' pos hN hi hx hs hf) fun E σ H Y=>by
 refine Y.elim fun fa O s fl s' I q k=>?_
 refine v3 q fun ds s1 h1 h2=>?_
 by_cases J:i<s1.sl.length
 .simp only[] at h2;rw[iO J] at h2;cases h2;refine#[fa,O,s,ds,s1,I,h1,fun p xs H1 f1 O1 B L U=>?_];have np:p ∉ O1:=fun z=>by
   obtain⟨ys,e⟩:=I.owned (B.sub p z);rw[U] at e;cases e
  obtain⟨P,sub,I'⟩:=L.put i J (I.st.mon p U) np;refine k _ H1 f1 P #[fun b Z=>?_,B.fe,fun b u e _ n=>B.same b u e n,B.mon] I';rcases sub b Z with y | y
  .exact .inr (by rw[y];exact U)
  .exact .inl (B.sub b y)
 .simp only[] at h2;rw[iR J] at h2;cases h2
end
end DL
namespace DL
open PySem PySem.Spec L2 PyProof.Rows
def aH:List D->Option (List Int)
 |[]=>some []
 |.int i::r=>(aH r).map fun l=>i::l
 |_::_=>none
def P4:List Int->Int
 |[]=>0
 |i::r=>r.foldl min i
def bI:D->Option D
 |.lst ds=>(aH ds).bind fun B=>if 0<B.length then some (.int (P4 B)) else none
 |_=>none
theorem rm:∀is:List Int,aH (is.map D.int)=some is
 |[]=>rfl
 |i::r=>by rw[JS,aH,rm r];rfl
theorem sj:∀{ds:vD_}{is:List Int},aH ds=some is->ds=is.map D.int
 |[],is,h=>by cases h;rfl
 |.int i::r,is,h=>by
  rw[aH] at h;refine M6 h fun l h1 h2=>?_
  rw[<-h2,sj h1];rfl
 |.bl _::r,is,h=>by cases h
 |.non::r,is,h=>by cases h
 |.str _::r,is,h=>by cases h
 |.tup _::r,is,h=>by cases h
 |.lst _::r,is,h=>by cases h
 |.feed::r,is,h=>by cases h
 |.scr _::r,is,h=>by cases h
 |.fn _::r,is,h=>by cases h
 |.exc _ _::r,is,h=>by cases h
theorem uW:∀(l:List Int) (i:Int),(l.foldl min i=i\/l.foldl min i∈l)/\l.foldl min i<=i/\∀x∈l,l.foldl min i<=x
 |[],i=>#[.inl rfl,Int.le_refl _,fun x B=>by cases B]
 |y::r,i=>by
  obtain⟨a,b,c⟩:=uW r (min i y);rw[KP];refine#[?_,by omega,fun x B=>?_]
  .rcases a with a | a
   .rw[a];rcases Int.le_total i y with h | h
    .exact .inl (Int.min_eq_left h)
    .exact .inr (by rw[Int.min_eq_right h];exact JL ..)
   .exact .inr (JH _ a)
  .rcases xo.mp B with rfl | B
   .omega
   .exact c x B
def qi {l:List Int}(h:0<l.length):P4 l∈l/\∀x∈l,P4 l<=x:=by
 cases l with
 |nil=>cases h
 |cons i r=>
  obtain⟨a,b,c⟩:=uW r i;refine#[?_,fun x B=>?_]
  .rcases a with a | a
   .show r.foldl min i∈_;rw[a];exact JL ..
   .exact JH _ a
  .rcases xo.mp B with rfl | B
   .exact b
   .exact c x B
theorem sJ:∀{is:List Int}{us:vV_},Vals (is.map V.int) us->∃ps:List (Int × Tok),us=(intItems ps.toArray).toList/\ps.map (·.1)=is
 |[],_,.nil=>#[[],by simp[intItems],rfl]
 |i::r,_,.cons q t=>by
  obtain⟨ps,J,B⟩:=sJ t;obtain⟨k,U⟩:=(show ∃k,_=Value.int i k from q)
  exact#[(i,k)::ps,by rw[U,J];simp[intItems],by rw[JS,B]]
def qG {ps:List (Int × Tok)}{is:List Int}(h:ps.map (·.1)=is) {x:Int}(B:is[j]? = some x):numAt ps.toArray j=x:=by
 rw[<-h,KI] at B;unfold numAt;rw[List.getElem?_toArray,B];rfl
theorem wW {val:Nat->Int}:∀k:Nat,argBest (fun i j=>decide (val i<val j)) k<=k/\∀j,j<=k->val (argBest (fun i j=>decide (val i<val j)) k)<=val j
 |0=>#[tx _,fun j B=>by
  have e:j=0:=Nat.le_zero.mp B;subst e;exact Int.le_refl _]
 |k+1=>by
  obtain⟨a,b⟩:=wW (val:=val) k;unfold argBest;by_cases c:val (k+1)<val (argBest (fun i j=>decide (val i<val j)) k)
  .rw[iO (JJ c)];refine#[tx _,fun j B=>?_];by_cases e:j=k+1
   .subst e;exact Int.le_refl _
   .have:=b j ∅;omega
  .rw[iR (by rw[JM c];exact JQ)];refine#[by omega,fun j B=>?_];by_cases e:j=k+1
   .subst e;omega
   .exact b j ∅
def IJ:bootBuiltins ("min" : Str)=some (.builtin "min"):=by decide +kernel
section
variable {K:vF_}
def kT (K:vF_) (f:List Int->Int) (c:List Int->Prop):List V->Hp->VK->Prop:=fun xs H Q=>∃(a:Addr) (is:List Int),xs=[.ref a]/\SqL K H a (is.map V.int)/\c is/\Q (.int (f is)) H
def Jg (hc:X.calm=true):CallR X (.builtin "min") (kT X.K P4 fun is=>0<is.length):=by
 intro pins s σ H xs us Q I r h;obtain⟨a,is,rfl,hq,B,q⟩:=h;obtain⟨u,rfl,ru⟩:=Y1 r;cases ru;obtain⟨its,Z,p,_⟩:=I.list hq;obtain⟨ps,e,U⟩:=sJ Z;have hl:s.heap.IsList a (intItems ps.toArray):=by
  have:=p.isList;rw[e] at this;simpa using this
 have hn:ps.toArray.size=is.length:=by rw[<-U];simp
 refine min_intList (I.ok.hd hc) hl (by rw[hn];exact B) fun v h' tk hv J=>?_
 obtain⟨t,rfl⟩:=intItems_at hv;obtain⟨b1,b2⟩:=wW (val:=numAt ps.toArray) (ps.toArray.size - 1);have e1:numAt ps.toArray (argBest (fun i j=>decide (numAt ps.toArray i<numAt ps.toArray j)) (ps.toArray.size - 1))=P4 is:=by
  generalize argBest (fun i j=>decide (numAt ps.toArray i<numAt ps.toArray j)) (ps.toArray.size - 1)=k at *;obtain⟨m1,m2⟩:=qi B;have J:is[k]? = some (is[k]'∅):=Kf ∅;have k1:=qG U J;have k2:=m2 _ (KC J);obtain⟨j,Y⟩:=LY m1;have k3:=b2 j (by have:=(Kr.mp Y).1;omega);rw[qG U Y] at k3;omega
 rw[e1];exact#[.int _,H,I.kept J,#[t,rfl],q]
theorem tY :∀{is:List Int}{xs:List V},Reps K N fa H (is.map D.int) xs->xs=is.map V.int
 |[],xs,h=>by simpa only[KJ,Reps] using h
 |b::r,xs,h=>by
  simp only[JS,Reps,Rep] at h;obtain⟨x,ys,rfl,rfl,h⟩:=h;rw[tY h];rfl
def EM {p:D->Option D}{f:List Int->Int}{c:List Int->Prop}(B:∀d1 d,p d1=some d->∃is:List Int,d1 = .lst (is.map D.int)/\c is/\d = .int (f is)):S6 K (kT K f c) (one p):=bW fun g σ H fa O s x d1 d Q I r e k=>by
 obtain⟨is,rfl,J,rfl⟩:=B _ _ e;obtain⟨a,ys,rfl,_,q,w⟩:=r;have:=tY w;subst this;exact#[a,is,rfl,SqL.of q,J,k _ H StE.refl I (by simp only[Rep])]
def CM:S6 K (kT K P4 fun is=>0<is.length) (one bI):=EM fun B d e=>by
 cases B with
 |lst es=>
  refine V1 (show (aH es).bind (fun is=>if 0<is.length then some (D.int (P4 is)) else none)=some d from e) fun is h1 h2=>?_
  by_cases h:0<is.length
  .rw[iO h] at h2;cases h2;exact#[is,by rw[sj h1],h,rfl]
  .rw[iR h] at h2;cases h2
 |_=>cases e
end
end DL
namespace L2
open PySem PySem.Spec PyProof.Rows
section
variable {σ:List (Option V)}
def Inv.turned2 {t':Nat}{b:Addr}(I:Inv X pins σ H s) (k:∀c o,c≠a->c≠b->s.heap.get? c=some o->h'.get? c=some o) (fa:R5 X pins H a) (fb:R5 X pins H b):Inv X pins σ H { s with heap:=h',toks:=t' }:=by
 have Y:∀c u,H c=some u->c≠a:=fun c u e z=>by rw[z,fa.1] at e;cases e
 have U:∀c u,H c=some u->c≠b:=fun c u e z=>by rw[z,fb.1] at e;cases e
 refine I.step (g':=s.gens) (d':=s.drawn) (ch:=[a,b]) (fun c B=>?_) (fun c o _ _ B e _=>k c o (fun z=>B (by simp[z])) (fun z=>B (by simp[z])) e) (fun c o _ _ B e _=>#[o.slots,k c o (fun z=>B (by simp[z])) (fun z=>B (by simp[z])) e]) (fun _ _ _ _ n=>n)
  (fun c o B e=>#[o,k c o (fun z=>B (by simp[z])) (fun z=>B (by simp[z])) e]) (fun _ _ e=>e) (fun _ _ _ e=>e) (fun c ps e=>#[#v[],by rw[e];simp]) (fun m Z=>?_) (fun c u e=>?_) I.bare
 .simp only[xo,JZ,Ka] at B;rcases B with rfl | rfl
  .exact#[fa.2.2.2.1,fa.2.1,fa.2.2.2.2.1,fa.2.2.2.2.2]
  .exact#[fb.2.2.2.1,fb.2.1,fb.2.2.2.2.1,fb.2.2.2.2.2]
 .obtain⟨o,es,ep,ho,r⟩:=Z;exact#[o,es,ep,k _ o (JT fa.2.1) (JT fb.2.1) ho,r]
 .refine(I.hok c u e).stay (fun d v J q=>k d v ?_ ?_ q) (fun _ q=>q) fun _ _ q=>q
  .rcases J with z | z
   .rw[z];exact Y c u e
   .exact Y d _ z
  .rcases J with z | z
   .rw[z];exact U c u e
   .exact U d _ z
end
def Iz:bootBuiltins ("enumerate" : Str)=some (.type "enumerate"):=by decide +kernel
end L2
namespace DL
open PySem PySem.Spec L2 PyProof.Rows
def aD (ds:vD_):List D:=ds.zipIdx.map fun p=>.tup [.int (p.2:Int),p.1]
def yd (h:ds[i]? = some d):(aD ds)[i]? = some (.tup [.int (i:Int),d]):=by
 unfold aD;rw[KI,List.getElem?_zipIdx,h];simp
def hZ (s:DS) (i:Nat):Option (List D):=match s.sl[i]? with
 |some (.own ds)=>some ds
 |_=>none
def Hz {s:DS}(h:hZ s i=some ds):s.sl[i]? = some (.own ds):=by
 unfold hZ at h;cases q:s.sl[i]? with
 |none=>rw[q] at h;cases h
 |some z=>
  rw[q] at h;cases z with
  |own ds=>cases h;rfl
  |no=>cases h
  |v _=>cases h
end DL
namespace DL
open PySem PySem.Spec L2
def DH {α:Type _}{P:List α->Prop}(h:∀a1:α,P [a1]):∀us:List α,us.length=1->P us:=by
 intro us e
 match us,e with | [a1],_=>exact h a1
def on2 {α:Type _}{P:List α->Prop}(h:∀a1 a2:α,P [a1,a2]):∀us:List α,us.length=2->P us:=by
 intro us e
 match us,e with | [a1,a2],_=>exact h a1 a2
def on3 {α:Type _}{P:List α->Prop}(h:∀a1 a2 a3:α,P [a1,a2,a3]):∀us:List α,us.length=3->P us:=by
 intro us e
 match us,e with | [a1,a2,a3],_=>exact h a1 a2 a3
structure GF (K:vF_) (mg:vG_) (n:Str) (st:Stmt) (f:Addr) (fd:FuncData):Prop where
 F:Fun K n n st f fd
 m:mg n=some (.ref f)
section
variable {K:vF_}{n:Str}{st:Stmt}
def gf_mk (X:K.In h) (G:h.Ns mainGlobals mg) {kV doc pm ct:Value}(a:PySem.W.nsIn K mainGlobals n=some (some (.ref f))) (l:K.lookup f=some #[oc,od,.func (PySem.W.fnOf n n (X4 st) (N6 st) (B8 st) .none kV doc pm an cdv ct),osl])
  (c:PySem.W.codeIn K cdv n=true) (k:PySem.W.keepIn K (.ref f)=true):GF K mg n st f (PySem.W.fnOf n n (X4 st) (N6 st) (B8 st) .none kV doc pm an cdv ct):=#[ED l c k,ME X G a]
def GL (F:Fun K n n st f fd) (q:∀(kV doc pm:Value) (an:vA_) (cdv ct:Value) (s:Shared) (v:Value),BindsTo s (PySem.W.fnOf n n (X4 st) (N6 st) (B8 st) .none kV doc pm an cdv ct) #[[v],[]] [(x,v)]):∀(s:Shared) (v:Value),BindsTo s fd #[[v],[]] [(x,v)]:=by
 refine gB_ fun U B=>?_
 obtain⟨oc,od,kV,doc,pm,an,cdv,ct,osl,rfl,Y,J⟩:=F.ex;apply B;exact fun s v=>q kV doc pm an cdv ct s v
def blt_mk (X:K.In h) (G:h.Ns mainGlobals mg) (z0:PySem.W.nsIn K mainGlobals "len" = some none) (z1:PySem.W.nsIn K mainGlobals "range" = some none) (z2:PySem.W.nsIn K mainGlobals "abs" = some none) (z3:PySem.W.nsIn K mainGlobals "tuple" = some none) (z4:PySem.W.nsIn K mainGlobals "list" = some none) (z5:PySem.W.nsIn K mainGlobals "int" = some none) (z6:PySem.W.nsIn K mainGlobals "bool" = some none) (z7:PySem.W.nsIn K mainGlobals "str" = some none) (z8:PySem.W.nsIn K mainGlobals "repr" = some none) (z9:PySem.W.nsIn K mainGlobals "all" = some none) (Z:PySem.W.nsIn K mainGlobals "isinstance" = some none) (U:PySem.W.nsIn K mainGlobals "zip" = some none) (B:PySem.W.nsIn K mainGlobals "enumerate" = some none) (z13:PySem.W.nsIn K mainGlobals "min" = some none) (z14:PySem.W.nsIn K mainGlobals "max" = some none) (z15:PySem.W.nsIn K mainGlobals "reversed" = some none) (Y:PySem.W.nsIn K mainGlobals "any" = some none) (J:PySem.W.nsIn K mainGlobals "sum" = some none) (z18:PySem.W.nsIn K mainGlobals "sorted" = some none):Blt mg:=#[Kl X G z0,Kl X G z1,Kl X G z2,Kl X G z3,Kl X G z4,Kl X G z5,Kl X G z6,Kl X G z7,Kl X G z8,Kl X G z9,Kl X G Z,Kl X G U,Kl X G B,Kl X G z13,Kl X G z14,Kl X G z15,Kl X G Y,Kl X G J,Kl X G z18]
def vq {w:World}{N ps:List Str}{k:Nat}{b:DM}(F:GF K mg n st f fd) (q:∀(kV doc pm:Value) (an:vA_) (cdv ct:Value) (us:vV_),us.length=ps.length->bindArgs (PySem.W.fnOf n n (X4 st) (N6 st) (B8 st) .none kV doc pm an cdv ct) #[us,[]]=pure (ps.zip us)) (S:FnScope N ps (B8 st))
  (B:∀(cdv:Value) (A:Around) (outer:List Env) (s:Shared) (H:Hp) (E:XK) (g:Gh),Room k (A.deeper (PyProof.Rows.envOfC n (B8 st) s.heap.objs.size f cdv))->SSO (O7 U9 P w K mg base N n (B8 st) f cdv A outer s H E).nox g (N6 st) b) :
  Cal P w K mg base (k+1) n ps (B3 N.length b):=Fv F.F F.m (F.F.binds q) S B
end
end DL
namespace DL
open PySem PySem.Spec L2 PyProof.Rows
section
variable {n:Nat}{pos p3 p4:Pos}
def zy {α:Type}(xs:List α) (v:α) {n:Nat}(h:n<xs.length):xs.set n v=xs.take n++v::xs.drop (n+1):=by
 rw[List.set_eq_take_append_cons_drop,iO h]
end
end DL
namespace L2
open PySem PySem.Spec PyProof.Rows
open AutoSeq1 (wpAny_loadPart')
abbrev eQ (l:Addr):Obj:={ cls:=.type "tuple_iterator",data:=.fields #v[.ref l,.int 0 0] }
abbrev kH (a:Addr):Obj:={ cls:=.type "enumerate",data:=.fields #v[.none,.bool false,.ref a,rawInt 0,.none,.none] }
def Co (l:Addr) (its:vR_) (n:Nat) (Y:vA_) (sl:vS_) :
  Meets (Builtin.«enumerate.__new__» #[[.type "enumerate",.ref l],[]]) (fun _ R s=>s.heap.get? l=some { cls:=.type "tuple",dict:=Y,data:=.seq its n,slots:=sl } /\
   R (.ok (.ret (.ref (s.heap.push (eQ l)).objs.size))) { s with heap:=(s.heap.push (eQ l)).push (kH s.heap.objs.size) }):=
 .of_wp fun prog w A R s q=>by
  obtain⟨Z,g,d,tk,os⟩:=s;obtain⟨B,q⟩:=q;have hu:=sub_enumerate;have J:Heap.IsTuple (Shared.heap #[Z,g,d,tk,os]) l its:=#[_,B,rfl,n,rfl]
  wp_walk using wpAny_loadPart' B
  refine wpAny_stack_any fun U=>iU ?_
  split
  .rename_i c _ _ _ _ _;cases (c == Value.type "enumerate")
   .wp_walk using wpAny_loadPart' B,MA J
    exact#[_,rfl,q]
   .wp_walk using wpAny_loadPart' B,MA J
    exact#[_,rfl,q]
  .wp_walk using wpAny_loadPart' B,MA J
   exact#[_,rfl,q]
section
variable {w:World}
def zE {its:vR_}{Q:vQ_}(hT:s.heap.IsTuple l its)
  (h:∀h',IsEnum h' (s.heap.objs.size+1) s.heap.objs.size 0 .none->h'.IsTupleIter s.heap.objs.size l 0 ->
   (∀b o,s.heap.get? b=some o->h'.get? b=some o)->Q (.ref (s.heap.objs.size+1)) { s with heap:=h' }):wpAny (model prog w) A (call (.type "enumerate") [.ref l]) Q E s:=by
 obtain⟨⟨c,Z,dt,sl⟩,hl,J,n,B⟩:=hT
 replace J:c = .type "tuple" := J
 replace B:dt = .seq its n:=B
 subst J B;refine callType_new F.called_enumerate #[] (F.typeCall_enumerate_1 _) (F.newCall_enumerate_1 _) (fun o=>F.args_object_init_2 o _) F.entry_enumerate_new (Co l its n Z sl) #[hl,?_];have U:(s.heap.push (eQ l)).objs.size=s.heap.objs.size+1:=Lu ..;show _/\_;rw[U];have Y:IsEnum ((s.heap.push (eQ l)).push (kH s.heap.objs.size)) (s.heap.objs.size+1) s.heap.objs.size 0 .none:=by
  have z:=Kg (s.heap.push (eQ l)) (o:=kH s.heap.objs.size) rfl;rw[U] at z;exact z
 exact#[#[_,Y,rfl],h _ Y #[_,JI _ (Kg _ rfl),rfl,rfl] fun b o x=>JI _ (JI _ x)]
def Bx {it l:Addr}{its:vR_}(hh:A.handled=none) (B:l≠it):Draws prog w A it [it,l] its.size (fun i x=>its[i]? = some x) (fun i h=>h.IsTupleIter it l i/\h.IsTuple l its) where
 live:=fun i h st=>by obtain⟨o,q,_⟩:=st.1;exact#[o,q]
 frame:=fun i h h' st k=>by
  obtain⟨⟨o,q,r⟩,⟨o',q',U⟩⟩:=st;exact#[#[o,k it (by simp) o q,r],#[o',k l (by simp) o' q',U]]
 item:=fun i s Q E hi st Y=>DL.nextOf_tup_item st.1 st.2 (Mk hi) fun h' a J=>Y _ h' s.toks (Mk hi) #[a,st.2.extBut J.extBut B] J
 done:=fun s Q E st Z=>DL.nextOf_tup_end hh st.1 st.2 (by simp) Z
end
def fL (K:vF_) (a:Addr):It:=
 #[fun i H=>∃xs x,SqT K H a xs/\xs[i]? = some x,fun i H v H'=>∃p x,H p=none/\v = .ref p/\H'=j5 H p (.tup [.int (i:Int),x])/\∀xs,SqT K H a xs->xs[i]? = some x,fun i H=>∃xs,SqT K H a xs/\xs.length<=i]
def ID {w:World}{K:vF_}{x1} {pos:Pos}(a e it:Addr) (Z:e≠it):Turn P w K (.Tuple elts x1 pos) (fL K a) [e,it] e (fun i h=>(∃old,IsEnum h e it ((i:Nat):Int) old)/\h.IsTupleIter it a i) where
 mem:=by simp
 obj:=fun i h st b Y=>by
  obtain⟨⟨old,B⟩,hi⟩:=st;simp only[xo,JZ,Ka] at Y;rcases Y with rfl | rfl
  .exact#[_,B,fun v z=>by
    have z':Data.fields _=Data.cell v:=z;cases z']
  .obtain⟨o,q,c,d⟩:=hi;exact#[o,q,fun v z=>by rw[d] at z;cases z]
 keep:=fun i h h' st k=>by
  obtain⟨⟨old,B⟩,o,q,r⟩:=st;exact#[#[old,k e (by simp) _ B],o,k it (by simp) o q,r]
 item:=by
  intro X hP hw hK hc i pins s σ H E I hf st hg;subst hP hw hK;obtain⟨xs,x,hq,hx⟩:=hg;obtain⟨⟨old,B⟩,U⟩:=st;obtain⟨its,rv,p,hz⟩:=I.tuple hq;obtain⟨u,hu,ru⟩:=rv.get hx;have fe:=hf e (by simp);have fi:=hf it (by simp);have hes:e<s.heap.objs.size:=xu B;have his:it<s.heap.objs.size:=by obtain⟨o,q,_⟩:=id U;exact xu q
  have hai:a≠it:=fun z=>by
   obtain⟨o,q,c,_⟩:=id U;obtain⟨o',q',c',_⟩:=id p;rw[z,q] at q';cases q';rw[c] at c';exact absurd c' #[]
  have hea:e≠a:=fun z=>by
   obtain⟨o',q',c',_⟩:=id p;rw[<-z] at q';have he':=B.symm.trans q';cases he';exact absurd (show Value.type "enumerate" = Value.type "tuple" from c') #[]
  have hil:i<its.toArray.size:=by
   rw[JY];exact(Kr.mp hu).1
  refine wpAny_pyNext_enum_itemD (Bx (l:=a) (its:=its.toArray) (I.ok.hd hc) hai) B #[U,p] hil Z (by simp[Z,hea]) fun v h₁ tk hv heo hit₁ ht₁ hz₁ hk₁=>?_
  have ev:v=u:=by
   have hv:its[i]? = some v:=by simpa using hv
   rw[hu] at hv;exact(Kb hv).symm
  subst ev;refine#[_,rfl,wpAny_letOwnedTupleGo_enum heo fun h₂ he₂ J=>?_]
  replace J:Heap.SameBut e h₁ h₂:=J
  have hn:H s.heap.objs.size=none:=I.hok.fresh (tx _);have I1:Inv X pins σ (j5 H s.heap.objs.size (.tup [.int (i:Int),x])) { s with heap:=s.heap.push { cls:=.type "tuple",data:=.seq #v[.int i tk,v] },toks:=tk }:=
   I.laid (t':=tk) (fun b o q=>JI _ q) (tx _) #[by show 2<=sizeLine;decide,[.int i tk,v],.cons #[_,rfl] (.cons ru .nil),#[_,Kg _ rfl,rfl,_,rfl]]
  have up:∀b,b<s.heap.objs.size->R5 X pins H b->R5 X pins (j5 H s.heap.objs.size (.tup [.int (i:Int),x])) b:=fun b Y f=>#[by rw[m9 (Kc Y)];exact f.1,f.2]
  have I2:=I1.turned2 (h':=h₂) (t':=tk+1) (a:=e) (b:=it) (fun c o ce ci q=>by
   rcases Heap.get?_push_cases q with ⟨rfl,rfl⟩ | q1
   .exact(J.2 _ ce).trans ht₁
   .exact(J.2 _ ce).trans (hk₁ c o ce ci q1)) (up e hes fe) (up it his fi)
  refine#[.ref s.heap.objs.size,_,I2,rfl,#[_,x,hn,rfl,rfl,fun ys hy=>by rw[I.tuple_inj hy hq];exact hx],#[#[v,?_],?_],fun b Y=>?_]
  .have:((i+1:Nat):Int)=(i:Int)+1:=by push_cast;rfl
   rw[this];exact he₂
  .obtain⟨o,q,r⟩:=hit₁.1;exact#[o,J.extBut _ _ (JT Z) q,r]
  .simp only[xo,JZ,Ka] at Y;rcases Y with rfl | rfl
   .exact(up _ hes fe).1
   .exact(up _ his fi).1
 done:=by
  intro X hP hw hK hc i pins s σ H E I hf st hg;subst hP hw hK;obtain⟨xs,hq,hx⟩:=hg;obtain⟨⟨old,B⟩,U⟩:=st;obtain⟨its,rv,p,hz⟩:=I.tuple hq;obtain⟨f0,f1,f2,f3,f4,f5⟩:=hf it (by simp);have hl:=rv.length;unfold pyNext;refine gV (Mj (Lb (name:=Str.ofString "__next__") #[_,B,rfl] F.slot_enumerate_next (KO F.slot_enumerate_next #[_,B,rfl] F.entry_enumerate_next ?_ (F.args_enumerate_next_1 _))));show wpAny _ _ (field (.ref e) 2 >>= fun v=>_) _ _ _;refine gV (JV B rfl (x:=.ref it) rfl ?_);refine gV (DL.nextOf_tup_end (I.ok.hd hc) U p (by simp;omega) fun h' y eb hy=>?_);obtain⟨o,ho,hcl⟩:=hy;refine gV (Oc (T := "StopIteration") (b:=true) #[o,ho,hcl] isSubtype_stop ?_);exact iU #[rfl,I.turned (t':=s.toks) (fun b o Y q=>eb b o Y q) f0 f1 f3 f4 f5]
 self:=fun _ _ _ _ _ st h=>by obtain⟨⟨old,B⟩,_⟩:=st;exact wpAny_pyIter_enum B h
def zO (K:vF_) (ta:TA):TI:=fun σ H R=>ta σ H fun vs H1=>∃a,vs=[.ref a]/\(∃xs,SqT K H1 a xs)/\R (fL K a) H1
def Dk {a:Expr}{ta:TA}{p pos pt:Pos}{elts:List Expr}{x1} (hg:Gl X "enumerate") (hm:X.mg "enumerate" = none) (ha:PA X [a] ta) (hs:starEach [a] X.env=[(false,eval a X.env)]:=by rfl):PI X (.Tuple elts x1 pt) (.Call (.Name "enumerate" p) [a] [] pos) (zO X.K ta):=by
 intro pins s σ H R I h;refine Call_ (bX I hg hm Iz (Mr (l6 (ha pos pins s σ H _ I h) fun us s1 ⟨vs,H1,B,r1,q1⟩=>?_) hs rfl));obtain⟨l,e,⟨xs,hq⟩,q⟩:=q1;subst e;cases r1 with
 |cons r Z=>
  cases Z;cases r;obtain⟨its,rv,pp,hz⟩:=B.tuple hq;refine zE pp fun h' Y J hk=>wpAny_pyIter_enum Y ?_
  refine#[s1.heap.objs.size+1,[s1.heap.objs.size+1,s1.heap.objs.size],_,_,H1,rfl,B.kept (t':=s1.toks) hk,ID l (s1.heap.objs.size+1) s1.heap.objs.size (Nat.succ_ne_self _),#[#[_,Y],J],fun b U=>?_,q];simp only[xo,JZ,Ka] at U;rcases U with rfl | rfl
  .exact B.fpOk (Mx _) (B.hok.fresh (Mx _))
  .exact B.fpOk (tx _) (B.hok.fresh (tx _))
def yu {K:vF_}{a:Addr}{xs:List V}{g:TG}{tb:TS}{D:Ends}{H:Hp}(B:Nat->St->Hp->Prop) (h0:B 0 σ H) (Z:∀i σ H,i<=xs.length->B i σ H->SqT K H a xs)
  (U:∀i x p σ H,xs[i]? = some x->H p=none->B i σ H->g (.ref p) σ (j5 H p (.tup [.int (i:Int),x])) fun σ2 H2=>tb { D with nx:=B (i+1),ct:=B (i+1),bk:=D.nx } σ2 H2) (Y:∀σ H,B xs.length σ H->D.nx σ H) :
  ∃W:Nat->Nat->St->Hp->Prop,(∃m,W 0 m σ H)/\∀i m σ H,W i m σ H ->
   ((fL K a).stop i H/\D.nx σ H)\/((fL K a).go i H/\∃N:St->Hp->Prop,(∀σ' H',N σ' H'->∃m',m'<m/\W (i+1) m' σ' H')/\∀x H',(fL K a).yld i H x H'->g x σ H' fun σ2 H2=>tb { D with nx:=N,ct:=N,bk:=D.nx } σ2 H2):=by
 refine#[fun i m σ H=>m=xs.length - i/\i<=xs.length/\B i σ H,#[xs.length,by simp,Ko _,h0],?_];rintro i m σ H ⟨rfl,hi,p⟩;have q:=Z i σ H hi p;by_cases J:i<xs.length
 .refine .inr #[#[xs,xs[i],q,by simp[J]],B (i+1),fun σ' H' p'=>#[xs.length - (i+1),by omega,rfl,J,p'],fun v H' y=>?_];obtain⟨pp,x,hp,rfl,rfl,y⟩:=y;exact U i x pp σ _ (y xs q) hp p
 .have e:i=xs.length:=by omega
  subst e;exact .inl #[#[xs,q,tx _],Y σ H p]
end L2
namespace DL
open PySem PySem.Spec L2 PyProof.Rows
def cy (f:DA) (t:D->DS->Option DS) (b:DM):DM:=fun s=>(f s).bind fun x=>match x.1 with
 |[.tup ds]=>C6 t b (aD ds) x.2
 |_=>none
def GG {f:DA}{t:D->DS->Option DS}{b:DM}{s:DS}{r:Fl × DS}(q:cy f t b s=some r):∃ds s1,f s=some ([.tup ds],s1)/\C6 t b (aD ds) s1=some r:=by
 refine v3 q fun xs s1 h1 h2=>?_
 cases xs with
 |nil=>cases h2
 |cons d xs=>
  cases xs with
  |cons _ _=>cases d <;> cases h2
  |nil=>
   cases d with
   |tup ds=>exact#[ds,s1,h1,h2]
   |_=>cases h2
def xp {f:DA}{t:D->DS->Option DS}{b:DM}{s:DS}(h:f s=some ([.tup ds],s1)):cy f t b s=C6 t b (aD ds) s1:=by
 unfold cy;rw[h,xl]
section
variable {f:DA}{t:D->DS->Option DS}{b:DM}{pos pt:Pos}{x1:Nat}
def Cq (hp:PassesOwn (model X.prog X.w) X.A X.env X.xe) (hc:X.calm=true) (Y:Gl X "enumerate") (hm:X.mg "enumerate" = none) (he:AO X g [e] f) (hg:GO X g (.Tuple elts x1 pt) t) (hb:SSO X g body b)
  (U:starEach [e] X.env=[(false,eval e X.env)]:=by rfl) (hs:∀x,foldedSetIterable (.Call (.Name "enumerate" p1) [e] [] p2) X.env x=pure x:=by intro _;rfl) :
  SO X g (.For (.Tuple elts x1 pt) (.Call (.Name "enumerate" p1) [e] [] p2) body [] pos) (cy f t b):=SO.w (mF hp hc (Dk Y hm he.pe U) hg.pe hb.pe hs) fun E σ H hQ=>by
 refine hQ.elim fun fa O s fl sf I q k=>?_
 obtain⟨ds,s1,h1,h2⟩:=GG q;refine#[fa,O,s,_,s1,I,h1,fun vs H1 f1 O1 a1 J r=>?_];have k1:=k.shift a1.stp
 .simp only[Reps,Rep] at r;obtain⟨v,ys,rfl,⟨a,xs,rfl,q,w⟩,rfl⟩:=r;refine#[a,rfl,#[xs,q],yu (xs:=xs) (Y8 X.K g f1 O1 H1 t b (aD ds) fl sf) #[f1,O1,s1,Stp.refl,J,h2] ?_ ?_ ?_]
  .rintro i σ' H' _ ⟨fa',O',s',st,Z,e⟩;exact(J.car st).tp a xs q
  .intro i x p σ' H' hx B h;obtain⟨d,hd,rd⟩:=Reps.get' w hx;have h':Y8 X.K g f1 O1 H1 t b (aD ds) fl sf i σ' (j5 H' p (.tup [.int (i:Int),x])):=by
    obtain⟨fa',O',s',st,Z,e⟩:=h;exact#[fa',O',s',st.trans (E6 B).stp,Z.new B,e]
   refine hV k1 (yd hd) (fun fa' O' st=>?_) h';simp only[Rep,Reps];exact#[p,[.int (i:Int),x],rfl,SqT.of D2,_,_,rfl,rfl,_,_,rfl,Rep.stp J st rd,rfl]
  .intro σ' H' h;refine gY k1 ?_ h;unfold aD;rw[JR,List.length_zipIdx,w.length];exact tx _
end
end DL
namespace L2
open PySem PySem.W PySem.Spec PySem.Builtin PySem.Builtin.ObjectAttr
section
variable {w:World}{g:Array GenState}{d:Drawn}{t:Nat}{os:OsState}{K:vF_}{x:Addr}{o:Obj}{mA:vG_}{v:Value}
def ER {tk:Tok}{Q:Fin->Shared->Prop}(X:K.In h) (U:h.get? x=some o) (Y:o.cls = .ref C) (hd:o.data = .fields vs) (B:o.dict=some dx) (hn:h.Ns dx mA) (hv:mA name=some v) (f0:hasDictIn K C=true)
  (Z:findIn K (.ref C) name=some none) (hq:Q (.done (.ret v)) #[h,g,d,t,os]) :
  wpAny (model prog w) A (Builtin.«object.__getattribute__» #[[.ref x,.str name tk],[]]) Q E #[h,g,d,t,os]:=by
 have L:=Lo (M:=model prog w) X Z;unfold Builtin.«object.__getattribute__»
 repeat (any_goals (first | assumption | (with_reducible refine Kq U ?_;rw[Y]) | with_reducible refine L.at ?_ | wp_step))
 obtain⟨cd,J,hdc⟩:=any_some f0;have LC:=looks_clsIn (M:=model prog w) X J;rw[hd];unfold instanceDict
 repeat (first | (with_reducible refine Kq U ?_;rw[Y]) | with_reducible refine LC.at ?_ | wp_step)
 rw[B]
 repeat (first | (with_reducible refine wpAny_nsGet hn ?_;rw[hv]) | wp_step)
 exact hq
def qR {Q:Unit->Shared->Prop}(X:K.In h) (B:subIn K (.ref C) (.type "BaseException")=some true) (U:h.get? x=some o) (Y:o.cls = .ref C) (J:Q () #[h,g,d,t,os]) :
  wpAny M A (checkBuiltinCall "BaseException.__getattribute__" #[[.ref x,nameV],[]]) Q E #[h,g,d,t,os]:=by
 have L:=MF (M:=M) X B;have k1:builtinKind "BaseException.__getattribute__" = some .slot:=by decide +kernel
 have k2:splitId "BaseException.__getattribute__" = some ("BaseException", "__getattribute__"):=by decide +kernel
 have Z:=F.args_bexc_ga (.ref x) nameV;simp only[checkBuiltinCall,k1,k2];refine gV ?_;unfold isInstance
 repeat (first | (with_reducible refine Kq U ?_;rw[Y]) | with_reducible refine L.at ?_ | wp_step)
 exact J
def Jf {tk:Tok}{R:Result->Shared->Prop}(X:K.In h) (J:h.get? x=some o) (U:o.cls = .ref C) (hd:o.data = .fields vs) (B:o.dict=some dx) (Z:h.Ns dx mA) (hv:mA name=some v) (f0:hasDictIn K C=true)
  (Y:findIn K (.ref C) name=some none) (f4:subIn K (.ref C) (.type "BaseException")=some true) (hq:R (.ok (.ret v)) #[h,g,d,t,os]) :
  codeAny (model prog w) A (.call (.builtin "BaseException.__getattribute__") #[[.ref x,.str name tk],[]]) R #[h,g,d,t,os]:=
 Nv Nw.ga.plain F.entry_bexc_ga (qR X f4 J U (ER X J U hd B Z hv f0 Y hq))
def Ig {tk:Tok}(X:K.In h) (J:h.get? x=some o) (U:o.cls = .ref C) (hd:o.data = .fields vs) (B:o.dict=some dx) (hn:h.Ns dx mA) (hv:mA name=some v) (f0:hasDictIn K C=true)
  (f1:findIn K (.ref C) "__getattribute__" = some (some (.builtin "BaseException.__getattribute__"))) (f2:findIn K (.ref C) "__getattr__" = some none) (f3:findIn K (.ref C) name=some none) (f4:subIn K (.ref C) (.type "BaseException")=some true) (Y:∀id,v ≠ .builtin id) (hq:Q v #[h,g,d,t,os]) :
  wpAny (model prog w) A (getAttrBy (.ref x) (.str name tk) fill expr) Q E #[h,g,d,t,os]:=by
 have Z:=Lo (M:=model prog w) X f1;have L2:=Lo (M:=model prog w) X f2;have b3:=Nw.ga.bind (.ref x);have y0:(expr&&onTheHeap (Value.builtin "BaseException.__getattribute__"))=false:=by cases expr <;> rfl
 have y2:(Value.builtin "BaseException.__getattribute__" == Value.builtin "object.__getattribute__")=false:=by decide +kernel
 have y1:(onTheHeap (Value.ref C)&&Value.builtin "BaseException.__getattribute__" == Value.builtin "object.__getattribute__")=false:=by rw[y2];rfl
 repeat (any_goals (first | assumption | (with_reducible refine Kq J ?_;rw[U]) | with_reducible refine Z.at ?_ | with_reducible refine L2.at ?_ | wp_step))
 refine Jf X J U hd B hn hv f0 f3 f4 ?_
 repeat (any_goals (first | assumption | wp_step))
 cases v <;> first | exact iU hq | exact absurd rfl (Y _)
def xZ (X:K.In h) (hx:h.get? x=some o) (hc:o.cls = .ref C) (hd:o.data = .fields vs) (B:o.dict=some dx) (Z:h.Ns dx mA) (hv:mA name=some v) (f0:hasDictIn K C=true)
  (f1:findIn K (.ref C) "__getattribute__" = some (some (.builtin "BaseException.__getattribute__"))) (U:findIn K (.ref C) "__getattr__" = some none) (J:findIn K (.ref C) name=some none) (f4:subIn K (.ref C) (.type "BaseException")=some true) (Y:∀id,v ≠ .builtin id) (hq:Q v #[h,g,d,t+1,os]) :
  wpAny (model prog w) A (getAttr (.ref x) name expr) Q E #[h,g,d,t,os]:=by
 unfold getAttr
 repeat (any_goals (first | assumption | with_reducible apply Ig X hx hc hd B Z hv f0 f1 U J f4 Y | wp_step))
def IL {R:Result->Shared->Prop}(X:K.In h) (B:h.get? x=some o) (J:o.cls = .ref C) (U:subIn K (.ref C) (.type "object")=some true) (Z:R (.ok (.ret (.ref C))) #[h,g,d,t,os]) :
  codeAny (model prog w) A (.call (.builtin "getset_descriptor.__get__") #[[.builtin "object.__class__",.ref x,.ref C],[]]) R #[h,g,d,t,os]:=by
 have Y:(#[h,g,d,t,os]:Shared).TypeIs (.builtin "object.__class__") "getset_descriptor" := Oj;have L:=MF (M:=model prog w) X (show subIn K (.ref C) (.type (".".intercalate ("object.__class__".cutAt '.').dropLast))=some true by rw[F.owner_object_class];exact U);refine Nv F.slot_gs_get.plain F.entry_gs_get (F.slot_gs_get.check _ _ _ _ _ _ _ _ Y (F.args_gs_get _ _ _) ?_)
 repeat (any_goals (first | assumption | (with_reducible refine Kq B ?_;rw[J]) | with_reducible refine L.at ?_ | wp_step))
 refine#[Ol _ (by decide +kernel),Od F.entry_object_class ?_]
 repeat (any_goals (first | assumption | (with_reducible refine Kq B ?_;rw[J]) | wp_step))
def IY {Z:Tok}{Q:Fin->Shared->Prop}(X:K.In h) (J:h.get? x=some o) (B:o.cls = .ref C) (U:subIn K (.ref C) (.type "object")=some true) (Y:findIn K (.ref C) "__class__" = some (some (.builtin "object.__class__"))) (hq:Q (.done (.ret (.ref C))) #[h,g,d,t,os]) :
  wpAny (model prog w) A (Builtin.«object.__getattribute__» #[[.ref x,.str "__class__" Z],[]]) Q E #[h,g,d,t,os]:=by
 have L:=Lo (M:=model prog w) X Y;have b5:=Oj;have b6:=F.slot_gs_get.lookup;have b7:=F.slot_gs_set.lookup;have bT:(#[h,g,d,t,os]:Shared).TypeIs (.builtin "object.__class__") "getset_descriptor" := Oj
 repeat (any_goals (first | assumption | (with_reducible refine Kq J ?_;rw[B]) | with_reducible refine L.at ?_ | wp_step))
 refine IL X J B U ?_
 repeat (any_goals (first | assumption | wp_step))
def zu {Z:Tok}(X:K.In h) (B:h.get? x=some o) (J:o.cls = .ref C) (U:subIn K (.ref C) (.type "object")=some true) (f6:findIn K (.ref C) "__class__" = some (some (.builtin "object.__class__")))
  (f1:findIn K (.ref C) "__getattribute__" = some (some (.builtin "BaseException.__getattribute__"))) (Y:findIn K (.ref C) "__getattr__" = some none) (f4:subIn K (.ref C) (.type "BaseException")=some true) (hq:Q (.ref C) #[h,g,d,t,os]) :
  wpAny (model prog w) A (getAttrBy (.ref x) (.str "__class__" Z) false) Q E #[h,g,d,t,os]:=by
 have L1:=Lo (M:=model prog w) X f1;have L2:=Lo (M:=model prog w) X Y;have b3:=Nw.ga.bind (.ref x);have y2:(Value.builtin "BaseException.__getattribute__" == Value.builtin "object.__getattribute__")=false:=by decide +kernel
 have y1:(onTheHeap (Value.ref C)&&Value.builtin "BaseException.__getattribute__" == Value.builtin "object.__getattribute__")=false:=by rw[y2];rfl
 repeat (any_goals (first | assumption | (with_reducible refine Kq B ?_;rw[J]) | with_reducible refine L1.at ?_ | with_reducible refine L2.at ?_ | wp_step))
 refine Nv Nw.ga.plain F.entry_bexc_ga (qR X f4 B J (IY X B J U f6 ?_))
 repeat (any_goals (first | assumption | wp_step))
def DB {Q:Option Value->Shared->Prop}(X:K.In h) (Y:h.get? x=some o) (Z:o.cls = .ref C) (B:subIn K (.ref C) (.type "object")=some true) (f6:findIn K (.ref C) "__class__" = some (some (.builtin "object.__class__")))
  (f1:findIn K (.ref C) "__getattribute__" = some (some (.builtin "BaseException.__getattribute__"))) (J:findIn K (.ref C) "__getattr__" = some none) (U:subIn K (.ref C) (.type "BaseException")=some true) (hq:Q (some (.ref C)) #[h,g,d,t+1,os]) :
  wpAny (model prog w) A (getAttr? (.ref x) "__class__") Q E #[h,g,d,t,os]:=by
 unfold getAttr? getAttrBy?
 repeat (any_goals (first | assumption | with_reducible apply zu X Y Z B f6 f1 J U | wp_step))
structure XC (K:vF_) (C:Addr):Prop where
 f0:hasDictIn K C=true
 f1:findIn K (.ref C) "__getattribute__" = some (some (.builtin "BaseException.__getattribute__"))
 f2:findIn K (.ref C) "__getattr__" = some none
 f4:subIn K (.ref C) (.type "BaseException")=some true
 f5:subIn K (.ref C) (.type "object")=some true
 f6:findIn K (.ref C) "__class__" = some (some (.builtin "object.__class__"))
def XC.look (c:XC K C):∃oc od cd sl,K.lookup C=some #[oc,od,.cls cd,sl]/\cd.hasDict=true:=by
 obtain⟨cd,e,q⟩:=any_some c.f0;unfold clsIn at e;split at e
 .rename_i oc od B sl z;cases e;exact#[oc,od,_,sl,z,q]
 .cases e
def XC.kit (c:XC K C):KitX K (.ref x) (.ref C) (fun h=>∃o,h.get? x=some o/\o.cls = .ref C) where
 ty:=fun M h _ B=>by
  obtain⟨o,e,q⟩:=B;intro A' U Z s' k z;unfold typeOf;refine gV (Ny (k _ _ e) (iU ?_));rw[q];exact z
 it:=fun M h X _=>by
  obtain⟨oc,od,cd,sl,e,_⟩:=c.look;intro A' U Z s' k z;unfold isType loadHead;exact gV (Ny (k _ _ (X _ _ e)) (iU z))
 ne:=fun h Y dd its n sl X e=>by
  obtain⟨oc,od,cd,J,q,_⟩:=c.look;refine Bool.eq_false_iff.mpr fun z=>?_
  have r:C=Y:=Value.ref.inj (beq_iff_eq.mp z);rw[<-r,X _ _ q] at e;cases e
 ca:=fun {_ _ _ _ _ s} X p k=>by
  obtain⟨h,g,d,t,os⟩:=s;obtain⟨o,e,q⟩:=p;exact DB X e q c.f5 c.f6 c.f1 c.f2 c.f4 k
end
abbrev aQ:String := "ValueError.__new__"
abbrev bxF:=PySem.F.excBase_ValueError
section
variable {M:Model}{w:World}{g:Array GenState}{d:Drawn}{t:Nat}{os:OsState}{K:vF_}{N fI:Addr}{rest:vV_}
variable {nm q:Str}{bs bm:vV_}{hdct:Bool}{sn:List Str}{sub:vV_}{ab:Bool}{dd:vA_}{k0 k1 k2 k3 k5:Option Value}
def yH {Q:Unit->Shared->Prop}(B:h.get? C=some (excClassObj nm q C N bs bm hdct sn sub ab col dd k0 k1 k2 k3 k5 aQ)) (J:(Value.ref C::bm).contains (.type "ValueError")=true) (z:Q () #[h,g,d,t,os]) :
  wpAny M A (checkBuiltinCall aQ #[.ref C::rest,[]]) Q E #[h,g,d,t,os]:=by
 have st:=bxF.noStar;simp only[checkBuiltinCall,bxF.newKind,bxF.newSplit,bxF.newRow]
 repeat (first | refine wpAny_staticBase_exc B ?_ | refine wpAny_madeBy_exc B ?_ | (refine Om B ?_;rw[J]) | refine Kq B ?_ | simp only[bne_self_eq_false,LV,KL] | wp_step)
 exact z
def CU {R:Result->Shared->Prop}(B:h.get? C=some (excClassObj nm q C N bs bm hdct sn sub ab col dd k0 k1 k2 k3 k5 aQ)) (U:(Value.ref C::bm).contains (.type "ValueError")=true) (Z:(Value.ref C::bm).contains (.type "AttributeError")=false)
  (Y:(Value.ref C::bm).contains (.type "NameError")=false) (hr:rest.length<=sizeLine)
  (z:R (.ok (.ret (.ref (h.objs.size+1)))) #[(h.push { cls:=.type "tuple",data:=.seq rest.toArray }).push { cls:=.ref C,data:=.fields #v[.ref h.objs.size,.none,.none,.none,.bool false,.none] },g,d,t,os]) :
  codeAny (model prog w) A (.builtin aQ #[.ref C::rest,[]]) R #[h,g,d,t,os]:=by
 have he:=bxF.ends;refine codeAny_builtinAt bxF.entry ?_;unfold Builtin.«BaseException.__new__»;refine wpAt_bind ?_;show wpAt _ _ _ (stack >>= _) _ _ _;refine wpAt_bind (wpAt_stack fun p J=>wpAt_of_wpAny ?_)
 wp_walk
 refine wpAt_of_wpAny ?_;rw[bxF.owner]
 repeat (first | (with_reducible refine Om B ?_;first | rw[U] | rw[Z] | rw[Y]) | with_reducible refine wpAny_madeHere_exc bxF.canon B ?_ | with_reducible refine Kq B ?_ | wp_step)
 show R _ _;rw[Lu];exact z
def IA {oI:Obj}{Q:Fin->Shared->Prop}(X:K.In h) (lk:K.lookup C=some (excClassObj nm q C N bs bm hdct sn sub ab col dd k0 k1 k2 k3 k5 aQ)) (b1:(Value.ref C::bm).contains (.type "ValueError")=true) (b2:(Value.ref C::bm).contains (.type "AttributeError")=false)
  (b3:(Value.ref C::bm).contains (.type "NameError")=false) (hi:findIn K (.ref C) "__init__" = some (some (.ref fI))) (lI:K.lookup fI=some oI) (cI:oI.cls = .type "function") (hr:rest.length<=sizeLine)
  (z:∀h' e,Heap.MadeExcOf h h' e (.ref C) rest->h.objs.size<=e->wpAny (model prog w) A (call (.ref fI) (.ref e::rest)) (fun r s'=>r = .none/\Q (.done (.ret (.ref e))) s') E #[h',g,d,t,os]) :
  wpAny (model prog w) A (Builtin.«type.__call__» #[.ref C::rest,[]]) Q E #[h,g,d,t,os]:=by
 have B:=X _ _ lk
 repeat (first | with_reducible refine wpAny_madeBy_exc B ?_ | with_reducible refine Kq B ?_ | wp_step)
 refine codeAny_call_builtin_code (Ol _ bxF.quiet) (yH B b1 ?_);refine CU B b1 b2 b3 hr ?_;generalize U:(h.push { cls:=.type "tuple",data:=.seq rest.toArray }).push { cls:=.ref C,data:=.fields #v[.ref h.objs.size,.none,.none,.none,.bool false,.none] }=h1;have kp:∀b o,h.get? b=some o->h1.get? b=some o:=fun b o e=>by rw[<-U];exact JI _ (JI _ e)
 have Z:K.In h1:=X.keeps kp;have J:=Z _ _ lk;have ge:h1.get? (h.objs.size+1)=some { cls:=.ref C,data:=.fields #v[.ref h.objs.size,.none,.none,.none,.bool false,.none] }:=by rw[<-U];heap_get
 have gt:h1.get? h.objs.size=some { cls:=.type "tuple",data:=.seq rest.toArray }:=by rw[<-U];exact JI _ (Heap.get?_push_at rfl rfl)
 have bC:(Value.ref C::bm).contains (.ref C)=true:=by simp
 have L:=Lo (M:=model prog w) Z hi;show wpAny _ _ _ _ _ _;unfold isInstance
 repeat (first | with_reducible refine L.at ?_ | with_reducible refine Kq ge ?_ | (with_reducible refine Om J ?_;rw[bC]) | wp_step)
 unfold bindSpecial;refine gV (Lr (T := "function") #[_,Z _ _ lI,cI] ?_);rw[iO #[]];refine iU (gV (JX (z h1 _ #[kp,NL (Mx _),h.objs.size,ge,NL (tx _),gt] (Mx _)) (fun r s' Y=>?_) fun _ _ y=>y));obtain⟨rfl,Y⟩:=Y
 wp_walk
 exact Y
def yv {U:Obj}(X:K.In h) (J:K.lookup C=some (excClassObj nm q C N bs bm hdct sn sub ab col dd k0 k1 k2 k3 k5 aQ)) (Y:(Value.ref C::bm).contains (.type "ValueError")=true) (b2:(Value.ref C::bm).contains (.type "AttributeError")=false)
  (b3:(Value.ref C::bm).contains (.type "NameError")=false) (hi:findIn K (.ref C) "__init__" = some (some (.ref fI))) (lI:K.lookup fI=some U) (cI:U.cls = .type "function") (Z:rest.length<=sizeLine)
  (z:∀h' e,Heap.MadeExcOf h h' e (.ref C) rest->h.objs.size<=e->wpAny (model prog w) (A.under (.builtin "type.__call__" #[.ref C::rest,[]])) (call (.ref fI) (.ref e::rest)) (fun r s'=>r = .none/\Q (.ref e) s') E #[h',g,d,t,os]) :
  wpAny (model prog w) A (call (.ref C) rest) Q E #[h,g,d,t,os]:=by
 have B:=X _ _ J;have y1:=tc_lookup;have y2:=tc_bind (.ref C);have yT:(#[h,g,d,t,os]:Shared).TypeIs (.ref C) "type" := #[_,B,rfl]
 refine Ms (codeAny_of_tree ?_);show wpAny _ _ (callAny (.ref C) _) _ _ _
 repeat (any_goals (first | with_reducible refine Kq B ?_ | assumption | wp_step))
 refine#[rfl,codeAny_call_builtin_at (Ol _ (by decide +kernel)) entry_typeCall (wpAny_check_type_call_sub B (IA X J Y b2 b3 hi lI cI Z fun h' e m n=>?_))];exact z h' e m n
end
def Z6:List Value:=[.type "ValueError",.type "Exception",.type "BaseException",.type "object"]
def IS (B:Value):refuseLoop B "__setattr__" Z6=pure ():=by kernel_rfl
section
variable {w:World}{g:Array GenState}{d:Drawn}{t:Nat}{os:OsState}{K:vF_}{x W:Addr}{o:Obj}{mA:vG_}{v:Value}
def Bn {tk:Tok}{Q:Fin->Shared->Prop}(X:K.In h) (hc:clsIn K C=some cd) (hm:cd.mro = .ref C :: .ref W::Z6) (hk:cd.hasDict=true) (f3:findIn K (.ref C) name=some none) (I:h.Inst x C mA)
  (hq:∀h' tk',h'.Inst x C (fun y=>if y=name then some v else mA y) ->
   (∀b u,b≠x->(∀o0 dx,h.get? x=some o0->o0.dict=some dx->b≠dx)->h.get? b=some u->h'.get? b=some u) ->
   (∀o0,h.get? x=some o0->∃o1,h'.get? x=some o1/\o1.cls=o0.cls/\o1.data=o0.data/\o1.slots=o0.slots/\(∀dx,o0.dict=some dx->o1.dict=some dx)/\(o0.dict=none->∃dx,o1.dict=some dx/\h.objs.size<=dx))->Q (.done (.ret .none)) #[h',g,d,tk',os])
  (hw:Within mA ns) (hz:ns.length<=1000) :
  wpAny (model prog w) A (Builtin.«object.__setattr__» #[[.ref x,.str name tk,v],[]]) Q E #[h,g,d,t,os]:=by
 obtain⟨o,B,J,U,hd⟩:=I;have L1:=Lo (M:=model prog w) X f3;have L2:=looks_clsIn (M:=model prog w) X hc;have L3:Looks (model prog w) h (mroOf (.ref C)) cd.mro:=L2.andThen .now;have lx:Looks (model prog w) h (typeOf (.ref x)) (.ref C):=by
  intro A' Q' E' s' k z;unfold typeOf;refine gV (Ny (k _ _ B) (iU ?_));rw[J];exact z
 have rf:refuseLoop (.ref x) "__setattr__" cd.mro=pure ():=by rw[hm,refuseLoop_ref,refuseLoop_ref];exact IS _
 rw[osa_eq,refuse_eq];refine gV (gV (lx.at (gV (L3.at ?_))));rw[rf];refine iU (gV (lx.at (gV (L1.at (gV (iU ?_))))));show wpAny _ _ (storeInOwnDict (.ref x) (.ref C) (.str name tk) name v false) _ _ _;unfold storeInOwnDict
 repeat (first | (with_reducible refine Kq B ?_;rw[J]) | with_reducible refine L2.at ?_ | wp_step)
 rcases hd with ⟨dn,mn⟩ | ⟨dx,de,ne,nd⟩
 .rw[dn,iR (by simp[typeHasDict])];split
  .rename_i z;cases z
  split
  .rename_i z;exact absurd z (U _)
  .have nx:x≠h.objs.size:=Kc (xu B);have gx:(h.push { cls:=.type "dict",data:=.dict #v[] }).get? x=some o:=JI _ B;refine gV (wpAny_alloc' (gV (wpAny_update' gx (iU ?_))));generalize eh:((h.push { cls:=.type "dict",data:=.dict #v[] }).update x fun o=>{ cls:=o.cls,dict:=some h.objs.size,data:=o.data,slots:=o.slots })=h1;have g1:h1.get? h.objs.size=some { cls:=.type "dict",data:=.dict #v[] }:=by rw[<-eh];exact(Heap.get?_update_ne _ _ _ _ nx.symm).trans (Heap.get?_push_at rfl rfl)
   have gx1:h1.get? x=some { cls:=o.cls,dict:=some h.objs.size,data:=o.data,slots:=o.slots }:=by
    rw[<-eh];refine Le _ gx ?_;have fr:=(Heap.get?_some_iff.mp B).2;obtain⟨oc,od,dt,sl⟩:=o;cases dt <;> first | rfl | exact fr
   have gk:∀b u,b≠x->h.get? b=some u->h1.get? b=some u:=fun b u Z e=>by rw[<-eh];exact(Heap.get?_update_ne _ _ _ _ Z).trans (JI _ e)
   have n1:h1.Ns h.objs.size (fun _=>none):=#[_,#v[],_,g1,rfl,fun e he=>absurd he (by simp),fun _=>rfl]
   show wpAny _ _ (storeInDict h.objs.size (.str name tk) name v) _ _ _;unfold storeInDict newKeyGuard;refine gV (iU (gV (wpAny_nsSet1 (Heap.Ns1.of_empty n1) fun h' n' Y=>?_)));obtain⟨oD,es,ep,go,gd,gc⟩:=n'.count (Within.cons name v Within.nil);refine gV (wpAny_lookBehind go (by rw[gd];exact pastItsLine_dict (JN gc (by rw[JO,Lm,Kk];omega))) ?_)
   wp_walk
   have gx':=(Y.2 x nx).trans gx1;refine hq h' _ #[_,gx',J,U,.inr #[h.objs.size,rfl,nx.symm,?_]] (fun b u Z _ e=>(Y.2 b (Kc (xu e))).trans (gk b u Z e)) fun o0 e0=>?_
   .obtain⟨o',es',ep',e1,e2,e3,e4,e5⟩:=n';exact#[o',es',ep',e1,e2,e3,e4,fun y=>by rw[e5 y];by_cases hy:y=name <;> simp[hy,mn]]
   .obtain rfl:o=o0:=Kb (B.symm.trans e0);exact#[_,gx',rfl,rfl,rfl,(fun dx e=>by rw[dn] at e;cases e),fun _=>#[_,rfl,tx _]]
 .rw[de];refine iU ?_;show wpAny _ _ (storeInDict dx (.str name tk) name v) _ _ _;unfold storeInDict newKeyGuard;refine gV (iU (gV (wpAny_nsSet1 nd fun h' n' Y=>?_)));obtain⟨oD,es,ep,go,gd,gc⟩:=n'.count (Within.cons name v hw);refine gV (wpAny_lookBehind go (by rw[gd];exact pastItsLine_dict (JN gc (by rw[JO,Kk];omega))) ?_)
  wp_walk
  exact hq h' _ #[o,(Y.2 x ne.symm).trans B,J,U,.inr #[dx,de,ne,n']] (fun b u _ Z e=>(Y.2 b (Z o dx B de)).trans e) fun o0 e0=>#[o0,(Y.2 x ne.symm).trans e0,rfl,rfl,rfl,(fun _ e=>e),fun z=>by rw[B] at e0;cases e0;rw[de] at z;cases z]
def pQ {Q:Unit->Shared->Prop}(X:K.In h) (Z:clsIn K C=some cd) (U:cd.mro = .ref C :: .ref W::Z6) (hk:cd.hasDict=true) (f3:findIn K (.ref C) name=some none)
  (f7:findIn K (.ref C) "__setattr__" = some (some (.builtin "object.__setattr__"))) (I:h.Inst x C mA)
  (hq:∀h' tk',h'.Inst x C (fun y=>if y=name then some v else mA y) ->
   (∀b u,b≠x->(∀o0 dx,h.get? x=some o0->o0.dict=some dx->b≠dx)->h.get? b=some u->h'.get? b=some u) ->
   (∀o0,h.get? x=some o0->∃o1,h'.get? x=some o1/\o1.cls=o0.cls/\o1.data=o0.data/\o1.slots=o0.slots/\(∀dx,o0.dict=some dx->o1.dict=some dx)/\(o0.dict=none->∃dx,o1.dict=some dx/\h.objs.size<=dx))->Q () #[h',g,d,tk',os])
  (hw:Within mA ns) (hz:ns.length<=1000):wpAny (model prog w) A (setAttr (.ref x) name v) Q E #[h,g,d,t,os]:=by
 obtain⟨o,hx,J,hnc,hd⟩:=id I;have Y:Looks (model prog w) h (typeOf (.ref x)) (.ref C):=by
  intro A' Q' E' s' k z;unfold typeOf;refine gV (Ny (k _ _ hx) (iU ?_));rw[J];exact z
 have L7:=Lo (M:=model prog w) X f7;have B:=PySem.F.store_object;refine gV (wpAny_mkText (gV (gV (gV (Y.at (L7.at (KG ?_)))))));rw[B.slot.bind];have sub:Looks (model prog w) h (isInstance (.ref x) (.type "object")) true:=Y.andThen (looks_mroIn X (by unfold mroIn;rw[Z,xl,U];rfl));refine gV (iU (gV (Ms ?_)));refine Nv B.slot.plain B.entry (@check_slot (model prog w) _ _ #[h,g,d,t+1,os] "object.__setattr__" "object" "__setattr__" (.ref x) [.str name t,v] [] _ B.kind B.split sub (B.args (.ref x) (.str name t) v) ?_);refine Bn X Z U hk f3 I (fun h' tk' I' k1 k2=>?_) hw hz;exact iU (iU (hq h' tk' I' k1 k2))
end
end L2
namespace L2
open PySem PySem.W PySem.Spec PySem.Builtin PySem.Builtin.ObjectAttr PyProof.Rows
structure XK1 (K:vF_) (C W:Addr):Prop where
 xc:XC K C
 ob:∃nm q N bs hdct sn sub ab col dd k0 k1 k2 k3 k5,K.lookup C=some (excClassObj nm q C N bs (.ref W::Z6) hdct sn sub ab col dd k0 k1 k2 k3 k5 aQ)
 sa:findIn K (.ref C) "__setattr__" = some (some (.builtin "object.__setattr__"))
def XK1.cls {K:vF_}{W:Addr}(c:XK1 K C W):∃cd,clsIn K C=some cd/\cd.mro = .ref C :: .ref W::Z6/\cd.hasDict=true:=by
 refine gB_ fun Y U=>?_
 obtain⟨nm,q,N,bs,hdct,sn,sub,ab,col,dd,k0,k1,k2,k3,k5,e⟩:=c.ob;obtain⟨oc,od,cd,sl,B,J⟩:=c.xc.look;rw[e] at B;apply U;cases B;exact#[_,by unfold clsIn;rw[e],rfl,J]
section
variable {P:Program}{w:World}{K:vF_}{e W fI:Addr}{u0 u1:Value}{R:Result->Shared->Prop}
variable {params:Arguments}{kV doc pm ct:Value}
def zq {ps:List Str}{us:vV_}(hr:A.depth<recursionLimit) (X:K.In s.heap) (B:s.heap.NoLimit) (lk:K.lookup fI=some #[oc,od,.func (PySem.W.fnOf name qual params body scope .none kV doc pm an cdv ct),osl])
  (J:PySem.W.codeIn K cdv qual=true) (k1:scope.kind = .function) (k2:scope.isCoroutine=false) (k3:scope.isGenerator=false) (hp:∀x∈ps,scope.names.lookup x=some .local)
  (Y:bindArgs (PySem.W.fnOf name qual params body scope .none kV doc pm an cdv ct) #[us,[]]=pure (ps.zip us))
  (z:∀h' tk,(∀b o,s.heap.get? b=some o->h'.get? b=some o)->h'.Ns s.heap.objs.size (bindL (envOfC qual scope s.heap.objs.size fI cdv).kindOf (ps.zip us) fun _=>none) ->
   wpAny (model P w) (A.deeper (envOfC qual scope s.heap.objs.size fI cdv)) (execs body (envOfC qual scope s.heap.objs.size fI cdv)) (fun fl s'=>match fl with | .ret v=>R (.ok (.ret v)) s' | .next=>R (.ok (.ret .none)) s' | _=>False)
    (fun _ _=>False) { s with heap:=h',toks:=tk }) :
  codeAny (model P w) A (.call (.ref fI) #[us,[]]) R s:=by
 refine codeAny_call_function hr (X _ _ lk) rfl k2 k3 rfl (PySem.W.codeRec_of X J) (wpAny_of_eq Y ?_);refine wpAny_newFunctionEnv_cells k1 (fun y Z=>.inl (hp y.1 (LL (a:=y.1) (b:=y.2) Z).1)) fun env he s1 x=>?_
 subst he;obtain⟨h1,tk,rfl,U⟩:=x.done;refine#[B.keeps U,codeAny_func ?_];refine JX (z h1 tk U x.toInCall.ns) (fun fl s' q=>?_) fun _ _ q=>q.elim
 cases fl <;> first | exact q | exact q.elim
structure Mdx (K:vF_) (h h':Heap) (e dx C:Addr) (vs:vR_) (mA:vG_):Prop where
 kp:∀b u,b≠e->h.get? b=some u->h'.get? b=some u
 at_:∃o,h'.get? e=some o/\o.cls = .ref C/\o.data = .fields vs/\o.dict=some dx
 ne:dx≠e
 nw:h.objs.size<=dx
 ns:h'.Ns1 dx mA
def bA (h:scope.names.lookup x=some .local):(envOfC qual scope L f cdv).kindOf x=some .local:=h
def ES {vs:vR_}{p1 p2 p3 p4 p5 p6 p7 p8:Pos}(c:XK1 K C W) (hw:findIn K (.ref C) "word" = some none) (ha:findIn K (.ref C) "at" = some none) (hr:A.depth<recursionLimit) (X:K.In s.heap) (lim:s.heap.NoLimit)
  (lk:K.lookup fI=some #[oc,od,.func (PySem.W.fnOf name qual params [.Assign [.Attribute (.Name "self" p1) "word" p2] (.Name "word" p3) p4,.Assign [.Attribute (.Name "self" p5) "at" p6] (.Name "at" p7) p8] scope .none kV doc pm an cdv ct),osl]) (hcd:PySem.W.codeIn K cdv qual=true)
  (k1:scope.kind = .function) (k2:scope.isCoroutine=false) (k3:scope.isGenerator=false) (hp:∀x∈(["self", "word", "at"]:List Str),scope.names.lookup x=some .local)
  (hb:bindArgs (PySem.W.fnOf name qual params [.Assign [.Attribute (.Name "self" p1) "word" p2] (.Name "word" p3) p4,.Assign [.Attribute (.Name "self" p5) "at" p6] (.Name "at" p7) p8] scope .none kV doc pm an cdv ct) #[[.ref e,u0,u1],[]]=pure ((["self", "word", "at"]:List Str).zip [.ref e,u0,u1]))
  (hx:s.heap.get? e=some { cls:=.ref C,data:=.fields vs }) (hK:K.lookup e=none)
  (z:∀h' tk dx,Mdx K s.heap h' e dx C vs (fun y=>if y = "at" then some u1 else if y = "word" then some u0 else none)->R (.ok (.ret .none)) { s with heap:=h',toks:=tk }) :
  codeAny (model P w) A (.call (.ref fI) #[[.ref e,u0,u1],[]]) R s:=by
 obtain⟨cd,c1,c2,c3⟩:=c.cls;have ks:=hp "self" (by simp);have ka:=hp "at" (by simp);have kw:=hp "word" (by simp);refine zq hr X lim lk hcd k1 k2 k3 hp hb fun h1 tk Y hn=>?_
 have q1:(bindL (envOfC qual scope s.heap.objs.size fI cdv).kindOf ((["self", "word", "at"]:List Str).zip [Value.ref e,u0,u1]) fun _=>none) "self" = some (.ref e):=eL (i:=0) #[] rfl rfl (bA ks);have q2:(bindL (envOfC qual scope s.heap.objs.size fI cdv).kindOf ((["self", "word", "at"]:List Str).zip [Value.ref e,u0,u1]) fun _=>none) "word" = some u0:=eL (i:=1) #[] rfl rfl (bA kw);have q3:(bindL (envOfC qual scope s.heap.objs.size fI cdv).kindOf ((["self", "word", "at"]:List Str).zip [Value.ref e,u0,u1]) fun _=>none) "at" = some u1:=eL (i:=2) #[] rfl rfl (bA ka);have I0:h1.Inst e C (fun _=>none):=#[_,Y _ _ hx,rfl,(fun c z=>by cases z),.inl #[rfl,fun _=>rfl]]
 refine MS (Pd (LH (Mq k1 (bA kw) hn q2 (LH (Mq k1 (bA ks) hn q1 (pQ (X.keeps Y) c1 c2 c3 hw c.sa I0 (fun h2 tk2 I2 kp2 st2=>?_) Within.nil #[])) #[])) #[]));obtain⟨o1,g1,g2,g3,_,_,g6⟩:=st2 _ (Y _ _ hx);obtain⟨dx,g7,g8⟩:=g6 rfl;have nL:s.heap.objs.size≠e:=fun z=>by have:=xu hx;rw[<-z] at this;exact KA _ this
 have U:∀b u,b≠e->h1.get? b=some u->h2.get? b=some u:=fun b u nb B=>kp2 b u nb (fun o0 d0 e0 f0=>by rw[Y _ _ hx] at e0;cases e0;cases f0) B
 have Z:h2.Ns s.heap.objs.size (bindL (envOfC qual scope s.heap.objs.size fI cdv).kindOf ((["self", "word", "at"]:List Str).zip [Value.ref e,u0,u1]) fun _=>none):=by
  obtain⟨o,es,ep,e1,e2⟩:=hn;exact#[o,es,ep,U _ _ nL e1,e2]
 have X2:K.In h2:=fun b o B=>U b o (fun z=>by rw[z,hK] at B;cases B) ((X.keeps Y) _ _ B)
 refine MS (Pd (LH (Mq k1 (bA ka) Z q3 (LH (Mq k1 (bA ks) Z q1 (pQ X2 c1 c2 c3 ha c.sa I2 (fun h3 tk3 I3 kp3 st3=>?_) (Within.cons "word" u0 Within.nil) #[])) #[])) #[]));refine Me ?_;obtain⟨o3,y1,y2,y3,_,y5,_⟩:=st3 _ g1;have y7:=y5 _ g7;obtain⟨o2,r1,r2,r3,J⟩:=I3;rw[y1] at r1;cases r1;rcases J with ⟨J,_⟩ | ⟨d2,J,r5,r6⟩
 .rw[y7] at J;cases J
 .rw[y7] at J;cases J;have nd:s.heap.objs.size<=dx:=JN (Lk hn.lt) g8;refine z _ _ dx #[fun b u nb B=>kp3 b u nb (fun o0 d0 e0 f0=>?_) (U b u nb (Y _ _ B)),#[_,y1,r2,y3.trans g3,y7],r5,nd,r6];rw[g1] at e0;cases e0;rw[g7] at f0;cases f0;rintro rfl;exact absurd (JW (xu B) nd) (KA _)
end
def oy (p1 p2 p3 p4 Y B J U:Pos):List Stmt:=[.Assign [.Attribute (.Name "self" p1) "word" p2] (.Name "word" p3) p4,.Assign [.Attribute (.Name "self" Y) "at" B] (.Name "at" J) U]
structure XD (K:vF_) (C W fI:Addr) (ps:List Str) (body:List Stmt):Prop where
 k1:XK1 K C W
 hi:PySem.W.findIn K (.ref C) "__init__" = some (some (.ref fI))
 fn:∃(oc:Value) (od:vA_) (name qual:Str) (params:Arguments) (scope:Scope) (kV doc pm:Value) (an:vA_) (cdv ct:Value) (osl:vS_),
  K.lookup fI=some #[oc,od,.func (PySem.W.fnOf name qual params body scope .none kV doc pm an cdv ct),osl]/\oc = .type "function" /\ PySem.W.codeIn K cdv qual=true/\scope.kind = .function/\scope.isCoroutine=false/\scope.isGenerator=false /\
  (∀x∈("self" :: ps:List Str),scope.names.lookup x=some .local)/\∀us:List Value,us.length=ps.length+1->bindArgs (PySem.W.fnOf name qual params body scope .none kV doc pm an cdv ct) #[us,[]]=pure (("self" :: ps:List Str).zip us)
 no:∀x∈ps,PySem.W.findIn K (.ref C) x=some none
structure Mdn (h h':Heap) (e dx C:Addr) (mA:vG_):Prop where
 kp:∀b u,h.get? b=some u->h'.get? b=some u
 ne:dx≠e
 n1:h.objs.size<=e
 n2:h.objs.size<=dx
 at_:∃o,h'.get? e=some o/\o.cls = .ref C/\(∃t0,o.data = .fields #v[.ref t0,.none,.none,.none,.bool false,.none])/\o.dict=some dx
 ns:h'.Ns1 dx mA
def IK (C W:Addr):(Value.ref C :: .ref W::Z6).contains (.type "ValueError")=true/\(Value.ref C :: .ref W::Z6).contains (.type "AttributeError")=false/\(Value.ref C :: .ref W::Z6).contains (.type "NameError")=false:=#[rfl,rfl,rfl]
def yq {K:vF_}{e:Addr}(X:K.In h) (n:h.objs.size<=e):K.lookup e=none:=by
 cases q:K.lookup e with
 |none=>rfl
 |some o=>exact absurd (JW (xu (X _ _ q)) n) (KA _)
def sO {b e:Addr}{u:Obj}(q:h.get? b=some u) (n:h.objs.size<=e):b≠e:=fun z=>by rw[z] at q;exact absurd (JW (xu q) n) (KA _)
section
variable {P:Program}{w:World}{K:vF_}{W fI:Addr}{u0 u1:Value}{k:Nat}
def FQ {ps:List Str}{body:List Stmt}{us:vV_}(c:XD K C W fI ps body) (Z:us.length<=sizeLine) (X:K.In s.heap)
  (z:∀h1 e,(∀b u,s.heap.get? b=some u->h1.get? b=some u)->s.heap.objs.size<=e->s.heap.objs.size<=h1.objs.size->(∃t0,h1.get? e=some { cls:=.ref C,data:=.fields #v[.ref t0,.none,.none,.none,.bool false,.none] }) ->
   wpAny (model P w) (A.under (.builtin "type.__call__" #[.ref C::us,[]])) (call (.ref fI) (.ref e::us)) (fun r s'=>r = .none/\Q (.ref e) s') E { s with heap:=h1 }):wpAny (model P w) A (call (.ref C) us) Q E s:=by
 refine gB_ fun G_ Y=>?_
 obtain⟨nm,q,N,bs,hdct,sn,sub,ab,col,dd,k0,k1,k2,k3,k5,lk⟩:=c.k1.ob;obtain⟨oc,od,name,qual,params,scope,kV,doc,pm,an,cdv,ct,osl,lf,rfl,_⟩:=c.fn;obtain⟨J,U,b3⟩:=IK C W;obtain⟨h,g,d,t,os⟩:=s;apply Y;refine yv X lk J U b3 c.hi lf rfl Z fun h1 e m n=>?_
 obtain⟨t0,B,_⟩:=m.there;exact z h1 e m.keeps n (Lk (Ky n (xu B))) #[t0,B]
def mk2 {p1 p2 p3 p4 p5 p6 p7 p8:Pos}(c:XD K C W fI ["word", "at"] (oy p1 p2 p3 p4 p5 p6 p7 p8)) (Y:Room (k+1) A) (X:K.In s.heap) (B:s.heap.NoLimit)
  (z:∀h' tk e dx,Mdn s.heap h' e dx C (fun y=>if y = "at" then some u1 else if y = "word" then some u0 else none)->Q (.ref e) { s with heap:=h',toks:=tk }):wpAny (model P w) A (call (.ref C) [u0,u1]) Q E s:=by
 refine FQ c (show 2<=sizeLine by decide) X fun h1 e kp ne sz ⟨t0,hx⟩=>?_
 refine gB_ fun G_ U=>?_
 obtain⟨oc,od,name,qual,params,scope,kV,doc,pm,an,cdv,ct,osl,lf,_,f1,Z,f3,f4,f5,f6⟩:=c.fn;apply U;refine Ms (ES (s:={ s with heap:=h1 }) c.k1 (c.no _ (by simp)) (c.no _ (by simp)) (Y.make C _ _).depth (X.keeps kp) (B.keeps kp) lf f1 Z f3 f4 f5 (f6 _ rfl) hx ?_ fun h2 tk dx m=>?_)
 .exact yq X ne
 .exact#[rfl,z h2 tk e dx #[fun b u J=>m.kp b u (sO J ne) (kp b u J),m.ne,ne,JN sz m.nw,let ⟨o,y1,y2,y3,y4⟩:=m.at_;#[o,y1,y2,#[t0,y3],y4],m.ns]]
end
end L2
namespace DL
open PySem PySem.Spec L2
structure Rf2 (K:vF_) (mg:vG_) (c:Str):Prop where
 ex:∃C W fI p1 p2 p3 p4 p5 p6 p7 p8,mg c=some (.ref C)/\PySem.W.nsIn K mainGlobals c=some (some (.ref C))/\PySem.W.keepIn K (.ref C)=true/\XD K C W fI ["word", "at"] (oy p1 p2 p3 p4 p5 p6 p7 p8)
section
variable {p pos:Pos}{a b:Expr}{fa fb:DE}{t:DA}{k:Nat}
def yh {B x1:V}(Y:Vals [B,x1] [u0,u1]) (f:Str):RelO ((fnm.zip [B,x1]).lookup f) (if f = "at" then some u1 else if f = "word" then some u0 else none):=by
 have r0:RelV B u0:=by cases Y with | cons r _=>exact r
 have Z:RelV x1 u1:=by
  cases Y with | cons _ q=>
  cases q with | cons r _=>exact r
 show RelO (([(("word" : Str),B),("at",x1)]:List (Str × V)).lookup f) _;by_cases U:f = "word"
 .subst U;exact r0
 .rw[NZ,MO.mpr U];by_cases J:f = "at"
  .subst J;exact Z
  .rw[NZ,MO.mpr J];simp only[iR U,iR J];trivial
def sN {α:Type}:∀{l:List α},l.length=2->∃x y,l=[x,y]
 |[x,y],_=>#[x,y,rfl]
end
def kj (f:Str):Option Nat:=if f = "word" then some 0 else if f = "at" then some 1 else none
def kB (cs:List Str) (f:Str):D->Option D
 |.exc c ds=>if cs.contains c=true then (kj f).bind fun i=>ds[i]? else none
 |_=>none
def U7 (c c':Str):Bool:=c == c'||c' == "WideError"
def iQ (cs:List Str) (c':Str):D->Option D
 |.exc c _=>if cs.contains c=true then some (.bl (U7 c c')) else none
 |_=>none
def lY (cs:List Str):D->Option D
 |.exc c _=>if cs.contains c=true then some (.bl true) else none
 |_=>none
structure RfX (K:vF_) (mg:vG_) (cs':List Str) (c:Str):Prop where
 ex:∃C,PySem.W.nsIn K mainGlobals c=some (some (.ref C))/\XC K C/\PySem.W.kitOne K (.ref C) (.type "ValueError")=some true/\(∀x∈fnm,PySem.W.findIn K (.ref C) x=some none) /\
  ∀c'∈cs',∃C',mg c'=some (.ref C')/\PySem.W.kitOne K (.ref C) (.ref C')=some (U7 c c')
section
variable {a:Expr}{fa:DE}{pos:Pos}
def kc {e:Addr}(I:Inv X pins σ H s) (h:ExO H e C xs) :
  ∃o,s.heap.get? e=some o/\o.cls = .ref C/\(∃vs,o.data = .fields vs)/\(xs=[]\/∃dx mA,o.dict=some dx/\s.heap.Ns1 dx mA/\∀f,RelO ((fnm.zip xs).lookup f) (mA f)):=by
 obtain⟨o,e1,B,U,_,e4⟩:=h;refine#[o,(I.hok _ _ e1).1,B,U,e4.imp id ?_];rintro⟨dx,od,Y,d2⟩;obtain⟨_,mA,J,Z⟩:=I.hok _ _ d2;exact#[dx,mA,Y,J,Z]
def wQ {f:Str}(R:∀c∈cs,RfX X.K X.mg cs' c) (ha:EO X g a fa) (hb:attributeBase a f X.env (eval a X.env)=eval a X.env):EO X g (.Attribute a f pos) (j4 (kB cs f) fa):=by
 refine#[fun pins s σ H Q I h=>?_];refine h.elim fun fa0 O s0 d s1 G0 e0 q=>?_
 refine v3 e0 fun x s2 h1 h2=>?_
 refine M6 h2 fun d' J h4=>?_
 cases h4;refine Ge hb (l6 (ha.pe pins s σ H (fun v H1=>∃f1 O1,StE fa0 O H f1 O1 H1/\GI X.K g σ H1 f1 O1 s2/\Rep X.K (NN g.F f1 O1) f1 H1 x v) I #[fa0,O,s0,x,s2,G0,h1,fun v H1 f1 O1 a1 a2 a3=>#[f1,O1,a1,a2,a3]]) fun u s3 ⟨v,H1,Z,rv,f1,O1,b1,b2,b3⟩=>?_);cases x with
 |exc c ds=>
  have J:(if cs.contains c=true then (kj f).bind fun i=>ds[i]? else none)=some d:=J;by_cases hc:cs.contains c=true
  .rw[iO hc] at J;obtain⟨i,i1,i2⟩:=Lv.mp J;simp only[Rep] at b3;obtain⟨e,C,xs,rfl,n1,eo,rs⟩:=b3;cases rv;obtain⟨C2,m1,m2,m3,m4,m5⟩:=(R c (by simpa using hc)).ex;rw[n1] at m1;cases m1;obtain⟨o,o1,o2,⟨vs,o3⟩,o4⟩:=kc Z eo;obtain⟨Y,U,y2⟩:=Reps.get rs i2;rcases o4 with rfl | ⟨dx,mA,z1,z2,z3⟩
   .cases U
   have fi:f∈fnm/\((fnm.zip xs).lookup f)=some Y:=by
    unfold kj at i1;by_cases w1:f = "word"
    .subst w1;rw[iO rfl] at i1;cases i1;cases xs with
     |nil=>cases U
     |cons x1 r=>cases U;exact#[by simp[fnm],rfl]
    .rw[iR w1] at i1;by_cases w2:f = "at"
     .subst w2;rw[iO rfl] at i1;cases i1;cases xs with
      |nil=>cases U
      |cons x1 r=>
       cases r with
       |nil=>cases U
       |cons x2 r=>cases U;exact#[by simp[fnm],rfl]
     .rw[iR w2] at i1;cases i1
   have B:=z3 f;rw[fi.2] at B;cases mv:mA f with
   |none=>rw[mv] at B;exact B.elim
   |some u0=>
    rw[mv] at B;have B:RelV Y u0:=B;obtain⟨hh,gg,dd,tt,oo⟩:=s3;refine xZ Z.kIn o1 o2 o3 z1 z2.ns mv m2.f0 m2.f1 m2.f2 (m4 f fi.1) m2.f4 (fun id z=>?_) #[Y,H1,Z.tok _,B,q Y H1 f1 O1 b1 b2 y2];subst z;cases Y <;> first | (obtain⟨_,z⟩:=B;cases z) | cases B
  .rw[iR hc] at J;cases J
 |_=>cases J
def Bo {e:Addr}{c:Value}{b:Bool}{Q:VK}(I:Inv X pins σ H s) (h:ExO H e C xs) (Y:XC X.K C) (k:PySem.W.kitOne X.K (.ref C) c=some b) (q:Q (.bl b) H) :
  wpAny (model X.prog X.w) X.A (call (.builtin "isinstance") [.ref e,c]) (EP X pins σ Q) X.xe s:=by
 obtain⟨o,J,B,_⟩:=kc I h;exact LR Y.kit I.kIn #[o,J,B] k (fun z=>nomatch z) fun U=>#[.bl b,H,I.tok U,rfl,q]
def rV {c:Value}{v:V}(B:∀u,RelV v u->u=c):CallR X (.builtin "isinstance") (fun xs H Q=>∃e C b ys,xs=[.ref e,v]/\ExO H e C ys/\XC X.K C/\PySem.W.kitOne X.K (.ref C) c=some b/\Q (.bl b) H):=by
 intro pins s σ H xs us Q I r h;refine gB_ fun G_ Y=>?_
 obtain⟨e,C,b,ys,rfl,h1,h2,U,q⟩:=h;obtain⟨u,c0,rfl,Z,J⟩:=mZ r;apply Y;cases Z;cases B _ J;exact Bo I h1 h2 U q
def rD {p:D->Option D}{c:Value}{v:V}{f:Str->Bool}(hp:∀d b,p d=some b->∃c0 ds,d = .exc c0 ds/\c0∈cs/\b = .bl (f c0)) (R:∀c0∈cs,∃C,PySem.W.nsIn X.K mainGlobals c0=some (some (.ref C))/\XC X.K C/\PySem.W.kitOne X.K (.ref C) c=some (f c0))
  (σ:L2.St) (H:Hp) (Q:VK) (J:liftE X.K g (j4 p fa) σ H Q):dH (fun xs H Q=>∃e C b ys,xs=[.ref e,v]/\ExO H e C ys/\XC X.K C/\PySem.W.kitOne X.K (.ref C) c=some b/\Q (.bl b) H) (jJ (liftE X.K g fa) (jJ (tC v) uv)) σ H Q:=by
 refine J.elim fun f0 O s d s' I e k=>?_
 refine v3 e fun x s1 h1 h=>?_
 refine M6 h fun d' U h=>?_
 cases h;obtain⟨c0,ds,rfl,m,rfl⟩:=hp _ _ U;refine#[f0,O,s,_,s1,I,h1,fun y H1 f1 O1 a1 Y B=>?_];simp only[Rep] at B;obtain⟨a,C,xs,rfl,n1,Z,rs⟩:=B;obtain⟨C2,m1,m2,m3⟩:=R c0 m;rw[n1] at m1;cases m1;exact#[a,C,_,xs,rfl,Z,m2,m3,k _ H1 f1 O1 a1 Y (by simp only[Rep])]
def IB (d b:D) (h:iQ cs c' d=some b):∃c0 ds,d = .exc c0 ds/\c0∈cs/\b = .bl (U7 c0 c'):=by
 cases d with
 |exc c ds=>
  have h:(if cs.contains c=true then some (.bl (U7 c c')) else none)=some b:=h;by_cases z:cs.contains c=true
  .rw[iO z] at h;cases h;exact#[c,ds,rfl,by simpa using z,rfl]
  .rw[iR z] at h;cases h
 |_=>cases h
def yj (d b:D) (h:lY cs d=some b):∃c0 ds,d = .exc c0 ds/\c0∈cs/\b = .bl ((fun _=>true) c0):=by
 cases d with
 |exc c ds=>
  have h:(if cs.contains c=true then some (.bl true) else none)=some b:=h;by_cases z:cs.contains c=true
  .rw[iO z] at h;cases h;exact#[c,ds,rfl,by simpa using z,rfl]
  .rw[iR z] at h;cases h
 |_=>cases h
def Jr {c':Str}{C':Addr}{p p2:Pos}(R:∀c∈cs,RfX X.K X.mg cs' c) (hc:c'∈cs') (hg:Gl X "isinstance") (hm:X.mg "isinstance" = none) (Y:Gl X c') (B:X.mg c'=some (.ref C')) (ha:EO X g a fa)
  (hd:(c' == ("__debug__" : Str))=false:=by decide) (Z:starEach [.Name c' p2] X.env=(false,eval (.Name c' p2) X.env)::starEach [] X.env:=by rfl)
  (he:starEach [a,.Name c' p2] X.env=(false,eval a X.env)::starEach [.Name c' p2] X.env:=by rfl) (U:(backTo pos (starEach [.Name c' p2] X.env)).any (·.1)=false:=by rfl) :
  EO X g (.Call (.Name "isinstance" p) [a,.Name c' p2] [] pos) (j4 (iQ cs c') fa):=
 EO.w (fB (rV (c:=.ref C') (v:=.ref C') fun u r=>r) hg hm gm (S5 ha.pe (S5 (sI (v:=.ref C') Y B rfl hd) aq Z) he) #[] #[] he U)
  (rD (f:=fun J=>U7 J c') IB fun J m=>by
   obtain⟨C,m1,m2,m3,m4,m5⟩:=(R J m).ex;obtain⟨C2,z1,z2⟩:=m5 c' hc;rw[B] at z1;cases z1;exact#[C,m1,m2,z2])
def Ef {p p2:Pos}(R:∀c∈cs,RfX X.K X.mg cs' c) (hg:Gl X "isinstance") (hm:X.mg "isinstance" = none) (B:Gl X "ValueError") (Y:X.mg "ValueError" = none) (ha:EO X g a fa)
  (J:starEach [.Name "ValueError" p2] X.env=(false,eval (.Name "ValueError" p2) X.env)::starEach [] X.env:=by rfl)
  (Z:starEach [a,.Name "ValueError" p2] X.env=(false,eval a X.env)::starEach [.Name "ValueError" p2] X.env:=by rfl) (U:(backTo pos (starEach [.Name "ValueError" p2] X.env)).any (·.1)=false:=by rfl) :
  EO X g (.Call (.Name "isinstance" p) [a,.Name "ValueError" p2] [] pos) (j4 (lY cs) fa):=
 EO.w (fB (rV (c:=.type "ValueError") (v:=.ty "ValueError") fun u r=>r) hg hm gm (S5 ha.pe (S5 (qm (v:=.ty "ValueError") B Y (by rfl) rfl #[] #[]) aq J) Z) #[] #[] Z U)
  (rD (f:=fun _=>true) yj fun c0 m=>by
   obtain⟨C,m1,m2,m3,_⟩:=(R c0 m).ex;exact#[C,m1,m2,m3])
end
structure RfA (K:vF_) (mg:vG_) (cs cs':List Str):Prop where
 rx:∀c∈cs,RfX K mg cs' c
 mm:∀c∈cs',∃C,mg c=some (.ref C)
 ve:mg "ValueError" = none
section
variable {p pos:Pos}{a:Expr}{t:DA}{fa:DE}
def Hl {c':Str}{p p2:Pos}(R:RfA X.K X.mg cs cs') (B:cs'.contains c'=true) (hg:Gl X "isinstance") (hm:X.mg "isinstance" = none) (J:Gl X c') (Z:EO X g a fa)
  (hd:(c' == ("__debug__" : Str))=false:=by decide) (U:starEach [.Name c' p2] X.env=(false,eval (.Name c' p2) X.env)::starEach [] X.env:=by rfl)
  (he:starEach [a,.Name c' p2] X.env=(false,eval a X.env)::starEach [.Name c' p2] X.env:=by rfl) (Y:(backTo pos (starEach [.Name c' p2] X.env)).any (·.1)=false:=by rfl) :
  EO X g (.Call (.Name "isinstance" p) [a,.Name c' p2] [] pos) (j4 (iQ cs c') fa):=by
 have B:c'∈cs':=by simpa using B
 obtain⟨C,e⟩:=R.mm c' B;exact Jr R.rx B hg hm J e Z hd U he Y
end
section
variable {K:vF_}{W fI:Addr}
def xc_mk (Y:PySem.W.hasDictIn K C=true) (f1:PySem.W.findIn K (.ref C) "__getattribute__" = some (some (.builtin "BaseException.__getattribute__"))) (J:PySem.W.findIn K (.ref C) "__getattr__" = some none)
  (U:PySem.W.subIn K (.ref C) (.type "BaseException")=some true) (B:PySem.W.subIn K (.ref C) (.type "object")=some true) (Z:PySem.W.findIn K (.ref C) "__class__" = some (some (.builtin "object.__class__"))):XC K C:=#[Y,f1,J,U,B,Z]
def xk1_mk {nm q:Str}{N:Addr}{bs:vV_}{sn:List Str}{sub:vV_}{dd:vA_}(x:XC K C) (B:K.lookup C=some (excClassObj nm q C N bs (.ref W::Z6) hdct sn sub ab col dd k0 k1 k2 k3 k5 aQ))
  (J:PySem.W.findIn K (.ref C) "__setattr__" = some (some (.builtin "object.__setattr__"))):XK1 K C W:=#[x,#[nm,q,N,bs,hdct,sn,sub,ab,col,dd,k0,k1,k2,k3,k5,B],J]
def rf2_mk (X:K.In h) (G:h.Ns mainGlobals mg) {kV doc pm:Value}(a:PySem.W.nsIn K mainGlobals c=some (some (.ref C))) (J:PySem.W.keepIn K (.ref C)=true)
  (x:XK1 K C W) (hi:PySem.W.findIn K (.ref C) "__init__" = some (some (.ref fI))) (Z:PySem.W.findIn K (.ref C) "word" = some none) (U:PySem.W.findIn K (.ref C) "at" = some none)
  (Y:K.lookup fI=some #[.type "function",od,.func (PySem.W.fnOf name qual params [.Assign [.Attribute (.Name "self" p1) "word" p2] (.Name "word" p3) p4,.Assign [.Attribute (.Name "self" p5) "at" p6] (.Name "at" p7) p8] scope .none kV doc pm an cdv ct),osl]) (cd:PySem.W.codeIn K cdv qual=true)
  (s1:scope.kind = .function/\scope.isCoroutine=false/\scope.isGenerator=false/\∀x∈(["self", "word", "at"]:List Str),scope.names.lookup x=some .local)
  (s2:∀us:List Value,us.length=3->bindArgs (PySem.W.fnOf name qual params [.Assign [.Attribute (.Name "self" p1) "word" p2] (.Name "word" p3) p4,.Assign [.Attribute (.Name "self" p5) "at" p6] (.Name "at" p7) p8] scope .none kV doc pm an cdv ct) #[us,[]]=pure ((["self", "word", "at"]:List Str).zip us)):Rf2 K mg c:=
 #[C,W,fI,p1,p2,p3,p4,p5,p6,p7,p8,ME X G a,a,J,x,hi,#[_,od,name,qual,params,scope,kV,doc,pm,an,cdv,ct,osl,Y,rfl,cd,s1.1,s1.2.1,s1.2.2.1,s1.2.2.2,s2],fun y B=>by
  rcases xo.mp B with rfl | B
  .exact Z
  .rcases JK.mp B with rfl
   exact U]
def rfx_mk (a:PySem.W.nsIn K mainGlobals c=some (some (.ref C))) (x:XC K C) (v:PySem.W.kitOne K (.ref C) (.type "ValueError")=some true) (J:PySem.W.findIn K (.ref C) "word" = some none) (U:PySem.W.findIn K (.ref C) "at" = some none)
  (m:∀c'∈cs',∃C',mg c'=some (.ref C')/\PySem.W.kitOne K (.ref C) (.ref C')=some (U7 c c')):RfX K mg cs' c:=#[C,a,x,v,fun y B=>by
  rcases xo.mp B with rfl | B
  .exact J
  .rcases JK.mp B with rfl
   exact U,m]
def mem0 {P:Str->Prop}:∀c∈([]:List Str),P c:=fun _ h=>by cases h
def memC {P:Str->Prop}(h:P c) (r:∀c∈l,P c):∀x∈c::l,P x:=fun x B=>by
 rcases xo.mp B with rfl | B
 .exact h
 .exact r x B
def kit_mk (X:K.In h) (G:h.Ns mainGlobals mg) {b:Bool}(a:PySem.W.nsIn K mainGlobals c'=some (some (.ref C'))) (k:PySem.W.kitOne K (.ref C) (.ref C')=some b):∃C',mg c'=some (.ref C')/\PySem.W.kitOne K (.ref C) (.ref C')=some b:=#[C',ME X G a,k]
def cls_mk (X:K.In h) (G:h.Ns mainGlobals mg) (a:PySem.W.nsIn K mainGlobals c=some (some (.ref C))):∃C,mg c=some (.ref C):=#[C,ME X G a]
def rfa_mk (X:K.In h) (G:h.Ns mainGlobals mg) (v:PySem.W.nsIn K mainGlobals "ValueError" = some none) (a:∀c∈cs,RfX K mg cs' c) (b:∀c∈cs',∃C,mg c=some (.ref C)):RfA K mg cs cs':=#[a,b,Kl X G v]
end
end DL
namespace L2
open PySem PySem.W PySem.Spec PySem.Builtin PyProof.Rows
structure Fly (n:Nat) (H:Hp) (h:Heap) (e C dx:Addr):Prop where
 en:n<=e
 eh:H e=none
 ob:∃oe vs,h.get? e=some oe/\oe.cls = .ref C/\oe.dict=some dx/\oe.data = .fields vs/\1<vs.size /\
  (vs[1]? = some .none\/∃T oT ts,vs[1]? = some (.ref T)/\n<=T/\H T=none/\T≠e/\h.get? T=some oT/\oT.data = .fields ts/\ts[3]? = some .none)
structure Noted (n:Nat) (H:Hp) (l:List Env) (h h':Heap) (e C dx:Addr):Prop where
 fl:Fly n H h' e C dx
 kl:∃ch:List Addr,(∀b∈ch,n<=b/\H b=none)/\∀b o,b ∉ ch->b ∉ F9 l->h.get? b=some o->h'.get? b=some o
 sl:∀b o,b∈F9 l->h.get? b=some o->∃sl,h'.get? b=some { o with slots:=sl }
 th:∀b o,h.get? b=some o->∃o',h'.get? b=some o'
def Noted.kp {n:Nat}{e:Addr}(z:Noted n H l h h' e C dx) (b:Addr) (o:Obj) (c:b<n\/H b≠none) (B:b ∉ F9 l) (q:h.get? b=some o):h'.get? b=some o:=by
 obtain⟨ch,U,Y⟩:=z.kl;refine Y b o (fun m=>?_) B q;obtain⟨J,Z⟩:=U b m;rcases c with c | c
 .exact absurd c (Nat.not_lt.mpr J)
 .exact c Z
def FY (f:Array Value->Array Value) (o:Obj):(Obj.mapFields f o).dict=o.dict:=by
 unfold Obj.mapFields;split <;> rfl
section
variable {M:Model}{L e:Addr}{n0:Nat}{Q:Unit->Shared->Prop}
def tN {oe:Obj}{vs:vR_}(hfr:A.frames=some (env::outer)) (hl:s.heap.FunFrames base (env::outer)) (hf:env.frame=some L) (hb:n0<=s.heap.objs.size) (hH:∀a,s.heap.objs.size<=a->H a=none)
  (en:n0<=e) (eh:H e=none) (he:s.heap.get? e=some oe) (hc:oe.cls = .ref C) (hx:oe.dict=some dx) (hd:oe.data = .fields vs) (Y:1<vs.size)
  (h:∀h',Noted n0 H (env::outer) s.heap h' e C dx->(∀b o,b ∉ F9 (env::outer)->b≠e->s.heap.get? b=some o->h'.get? b=some o)->Q () { s with heap:=h' }) :
  wpAny M A (do let a <-frameOf env;let pl <-entryPlaceOf L hadNext;let b <-EntryCells.newEntry head a .none (rawInt L) .none pl;setField (.ref e) 1 b) (fun _ s'=>wpAny M A (setFlight (.ref e) none) Q E s') E s:=by
 have ne:e ∉ F9 (env::outer):=fun m=>by
  obtain⟨_,o,ho,J⟩:=hl.mem m;rw[he] at ho;cases ho;exact J vs hd
 refine gV (wpAny_frameOf_fun hfr hl hf fun h1 k1=>?_);refine gV (wpAny_entryPlaceOf fun pl hp=>?_);unfold EntryCells.newEntry newFields;refine gV (KH ?_ (hp.sizeOk5 _ _ _ _ _));generalize eT:({ cls:=.type "traceback",dict:=none,data:=.fields ([head,.ref L,.none,rawInt L,.none]++(if pl.isEmpty then List.replicate 6 Value.none else pl)).toArray }:Obj)=oT;have dT:oT.data = .fields ([head,.ref L,.none,rawInt L,.none]++(if pl.isEmpty then List.replicate 6 Value.none else pl)).toArray:=by rw[<-eT]
 have e1:h1.get? e=some oe:=(k1.2.1 e ne).trans he;have U:h1.objs.size≠e:=Kw (xu e1);have e2:=JI oT e1;refine Mi e2 hd Y ?_;have d3:=MC hd (·.setIfInBounds 1 (Value.ref h1.objs.size));have Z:=Le (Obj.mapFields (·.setIfInBounds 1 (Value.ref h1.objs.size))) e2 (Ni d3);have t3:=(KD (h1.push oT) (Obj.mapFields (·.setIfInBounds 1 (Value.ref h1.objs.size))) U.symm).trans (Kg h1 (by rw[<-eT];rfl));unfold setFlight;refine gV (JV Z d3 (x:=.ref h1.objs.size) (by simp[Y]) ?_);rw[iO (show (Value.ref h1.objs.size != Value.none)=true from by simp)];refine Mi t3 dT (by simp only[JY,Ke,JO,Lm];omega) ?_;generalize B:(((h1.push oT).update e (Obj.mapFields (·.setIfInBounds 1 (Value.ref h1.objs.size)))).update h1.objs.size (Obj.mapFields (·.setIfInBounds 3 ((none:vA_).elim Value.none fun f=>rawInt f))))=h4;have kp:∀b o,b≠e->h1.get? b=some o->h4.get? b=some o:=fun b o nb q=>by
  rw[<-B,KD _ _ (Kw (xu q)),KD _ _ (JT nb)];exact JI _ q
 have kq:∀b o,b ∉ F9 (env::outer)->b≠e->s.heap.get? b=some o->h4.get? b=some o:=fun b o J nb q=>kp b o nb ((k1.2.1 b J).trans q)
 have sT:h1.objs.size=s.heap.objs.size:=k1.1.symm▸rfl;have d5:=MC dT (·.setIfInBounds 3 ((none:vA_).elim Value.none fun f=>rawInt f));refine h h4 #[#[en,eh,_,_,?_,?_,?_,d3,by simpa using Y,.inr #[h1.objs.size,_,_,by simp[Y],(by rw[sT];exact hb),hH _ (by rw[sT];exact tx _),U,?_,d5,?_]],#[[e],fun b m=>by rw[JK.mp m];exact#[en,eh],fun b o m J q=>kq b o J (fun y=>m (by simp[y])) q],fun b o m q=>?_,fun b o q=>?_] kq
 .rw[<-B,KD _ _ U];exact Z
 .rw[Obj.cls_mapFields];exact hc
 .rw[FY];exact hx
 .rw[<-B];exact Le _ t3 (Ni d5)
 .rcases hp with rfl | ⟨_,_,_,_,_,_,_,rfl⟩ <;> simp
 .obtain⟨sl,q1⟩:=k1.2.2 b o q;exact#[sl,kp b _ (fun y=>ne (y▸m)) q1]
 .by_cases y:b=e
  .subst y;have ge:h4.get? b=some (Obj.mapFields (·.setIfInBounds 1 (Value.ref h1.objs.size)) oe):=by rw[<-B,KD _ _ U];exact Z
   exact#[_,ge]
  .obtain⟨sl,q1⟩:=k1.2.2 b o q;exact#[_,kp b _ y q1]
def vL (U:A.frames=some (env::outer)) (hl:s.heap.FunFrames base (env::outer)) (hf:env.frame=some L) (hb:n0<=s.heap.objs.size) (hH:∀a,s.heap.objs.size<=a->H a=none) (f:Fly n0 H s.heap e C dx)
  (h:∀h',Noted n0 H (env::outer) s.heap h' e C dx->Q () { s with heap:=h' }):wpAny M A (noteFrame (.ref e) env) (fun _ s'=>wpAny M A (setFlight (.ref e) none) Q E s') E s:=by
 obtain⟨en,eh,oe,vs,Y,e2,e3,Z,e5,z⟩:=f;unfold noteFrame;simp only[hf];rcases z with z | ⟨T,oT,ts,z1,z2,z3,z4,z5,z6,z7⟩
 .refine gV (JV Y Z z ?_);rw[iR #[]];exact tN U hl hf hb hH en eh Y e2 e3 Z e5 fun h' n _=>h h' n
 .refine gV (JV Y Z z1 ?_);rw[iO (show (Value.ref T != Value.none)=true from by simp)];refine gV (JV z5 z6 z7 ?_);rw[iR (show ¬ ((Value.none == rawInt L)=true) from by simp[rawInt])];refine gV (Mi z5 z6 (Pe.mp z7).1 ?_);have J:∀b,b≠T->(s.heap.update T (Obj.mapFields (·.setIfInBounds 3 Value.none))).get? b=s.heap.get? b:=fun b nb=>KD _ _ (JT nb)
  have nT:T ∉ F9 (env::outer):=fun m=>by
   obtain⟨_,o,ho,B⟩:=hl.mem m;rw[z5] at ho;cases ho;exact B ts z6
  have tT:=Le (Obj.mapFields (·.setIfInBounds 3 Value.none)) z5 (Ni (MC z6 _));have sz:(s.heap.update T (Obj.mapFields (·.setIfInBounds 3 Value.none))).objs.size=s.heap.objs.size:=Heap.size_update _ _ _;refine tN (s:={ s with heap:=s.heap.update T (Obj.mapFields (·.setIfInBounds 3 Value.none)) }) U (hl.of_keeps fun b o q B=>#[o,(J b fun y=>?_).trans q,rfl]) hf (by rw[sz];exact hb) (fun a q=>hH a (by rw[sz] at q;exact q)) en eh ((J e (JT z4)).trans Y) e2 e3 Z e5 fun h' n kq=>h h' #[n.fl,#[[e,T],fun b m=>?_,fun b o m B q=>kq b o B (fun y=>m (by simp[y])) ((J b fun y=>m (by simp[y])).trans q)],fun b o m q=>n.sl b o m ((J b fun y=>nT (y▸m)).trans q),fun b o q=>?_]
  .rw[y,z5] at q;cases q;exact B ts z6
  .rcases xo.mp m with rfl | m
   .exact#[en,eh]
   .rw[JK.mp m];exact#[z2,z3]
  .by_cases y:b=T
   .subst y;exact n.th _ _ tT
   .exact n.th b o ((J b y).trans q)
end
end L2
namespace L2
open PySem PySem.W PySem.Spec PyProof.Rows
def Z3 (P:Program) (w:World):R9:=fun outer H0 s0 E ev s'=>∃e C dx H',ev = .ref e/\Fly s0.heap.objs.size H' s'.heap e C dx/\s'.os=s0.os/\AllBare s'.gens/\Un (F9 outer) [] H0 H' s0.heap s'.heap/\HOk P w H' s'.heap/\E (.ref C) (some dx) H'
def Fly.less {n m:Nat}{e:Addr}(f:Fly n H h e C dx) (l:m<=n):Fly m H h e C dx:=by
 obtain⟨J,eh,oe,vs,Y,Z,e3,e4,U,z⟩:=f;refine#[JN l J,eh,oe,vs,Y,Z,e3,e4,U,z.imp id ?_];rintro⟨T,oT,ts,z1,B,z⟩;exact#[T,oT,ts,z1,JN l B,z]
section
variable {e:Addr}{n:Nat}
theorem Noted.hok (I:Inv X pins σ H s) (J:∀b∈F9 l,H b=none) (z:Noted n H l s.heap h' e C dx):HOk X.prog X.w H h':=fun b u q=>by
 refine(I.hok b u q).stay (fun c v B r=>z.kp c v (.inr ?_) (fun m=>?_) r) (fun _ r=>r) fun _ _ r=>r
 .rcases B with rfl | B
  .rw[q];simp
  .rw[B];simp
 .have:=J c m;rcases B with rfl | B
  .rw[q] at this;cases this
  .rw[B] at this;cases this
def Ai (I:Inv X pins σ H s) (hx:X.ex=[]) (hs:X.stack=X.env::X.outer) (z:Noted X.s₀.heap.objs.size H X.stack s.heap h' e C dx):Un X.fs [] X.H₀ H X.s₀.heap h':=by
 have B:=I.base;rw[hx] at B;have sub:∀b∈X.fs,b∈F9 X.stack:=fun b m=>by
  rw[hs];unfold F9;rw[LB];split
  .exact m
  .exact JH _ m
 have Z:∀b o,X.s₀.heap.get? b=some o->b ∉ X.fs->b ∉ F9 X.stack:=fun b o q U m=>by
  rcases xo.mp (I.stkSub b m) with y | y
  .exact absurd (JW (xu q) (by rw[y];exact I.ok.above)) (KA _)
  .exact U y
 refine#[fun b o q m U J=>z.kp b o (.inl (xu q)) (Z b o q U) (B.keep b o q m U J),fun b o q m U J=>?_,fun b o q m J=>B.free b o q m J,fun b o q J=>?_,B.tups,B.frzs,B.tbls]
 .obtain⟨sl,r⟩:=B.slot b o q m U J;obtain⟨Y,r2⟩:=z.sl b _ (sub b U) r;exact#[Y,r2]
 .obtain⟨o1,r⟩:=B.there b o q J;exact z.th b o1 r
end
section
variable {P:Program}{w:World}{K:vF_}{N:List Str}{cd:Value}{s0:Shared}{H0:Hp}{E:XK}{e:Addr}
def Ap (I:Inv (O7 (Z3 P w) P w K mg base N qual scope f cd A outer s0 H0 E) pins σ H s) (z:Fly s0.heap.objs.size H s.heap e C dx) (q:E (.ref C) (some dx) H):(O7 (Z3 P w) P w K mg base N qual scope f cd A outer s0 H0 E).xe (.ref e) s:=by
 show wpAny (model P w) (A.deeper (envOfC qual scope s0.heap.objs.size f cd)) (leaving (envOfC qual scope s0.heap.objs.size f cd) (.ref e)) _ _ s;unfold leaving;refine gV (vL (H:=H) (base:=base) (n0:=s0.heap.objs.size) I.ok.frames I.stack rfl I.sz (fun a l=>I.hok.fresh l) z fun h' y=>?_);exact#[e,C,dx,H,rfl,y.fl,I.os,I.bare,Ai I rfl rfl y,y.hok I I.stkFree,q]
end
section
variable {E:XK}{ev:Value}{e:Addr}{n:Nat}
def Inv.noted {s1:Shared}{t':Nat}(Z:Inv X pins σ H1 s1) (I:Inv X pins σ H s) (z:Noted s1.heap.objs.size H X.stack s.heap h' e C dx):Inv X pins σ H { s with heap:=h',toks:=t' }:=by
 obtain⟨ch,B,c2⟩:=z.kl;refine I.call (g':=s.gens) (d':=s.drawn) (t':=t') (ch:=ch) #[fun b o q _ Y nc=>c2 b o nc Y q,fun b o q _ m _=>z.sl b o m q,fun _ _ _ m _=>m,fun b o q _=>z.th b o q,fun _ _ q=>q,fun _ _ _ q=>q,fun b ps q=>#[#v[],by simpa using q]] (z.hok I I.stkFree) I.bare fun b m=>?_
 obtain⟨_,U,_,f4,J,f6⟩:=Z.fpOk (H':=H) (B b m).1 (B b m).2;exact#[f4,U,J,f6]
def Inv.thrown (I:Inv X pins σ H s) (h:Z3 X.prog X.w X.stack H s E ev s'):∃e C dx H',ev = .ref e/\Inv X pins σ H' s'/\Fly s.heap.objs.size H' s'.heap e C dx/\E (.ref C) (some dx) H':=by
 refine gB_ fun G_ Z=>?_
 obtain⟨e,C,dx,H',rfl,fl,os,ba,Y,J,q⟩:=h;obtain⟨U,g,d,t,B⟩:=s';obtain rfl:B=s.os:=os;apply Z;exact#[e,C,dx,H',rfl,I.call (h':=U) (g':=g) (d':=d) (t':=t) (ch:=[]) Y J ba (fun b z=>absurd z (by simp)),fl,q]
end
section
variable {w:World}{K:vF_}
def xG {x:Sem Value}{Q:Flow->Shared->Prop}{B:Obj}(lk:K.lookup C=some B) (cC:B.cls = .type "type") (f4:subIn K (.ref C) (.type "BaseException")=some true) (U:A.handled=none)
  (h:wpAny (model prog w) A x (fun v s1=>∃e oe,v = .ref e/\K.In s1.heap/\s1.heap.get? e=some oe/\oe.cls = .ref C/\(∃t0,oe.data = .fields #v[.ref t0,.none,.none,.none,.bool false,.none])/\E (.ref e) s1) E s):wpAny (model prog w) A (raiseStmt env (some x) none) Q E s:=by
 unfold raiseStmt;refine gV (JX h (fun v s1 z=>?_) fun _ _ y=>y);refine gB_ fun G_ g_=>?_
 obtain⟨e,⟨oc,od,dt,sl⟩,rfl,X,he,Z,⟨t0,hd⟩,Y⟩:=z;apply g_;cases Z;cases hd;obtain⟨hp,g,d,tk,os⟩:=s1;have J:=X _ _ lk;have L:=MF (M:=model prog w) X f4
 repeat (first | with_reducible refine Kq he ?_ | with_reducible refine L.at ?_ | (with_reducible refine Kq J ?_;rw[cC]) | wp_step)
 exact wpAny_raiseNew_none U Y
def xf {x:Expr}{pos:Pos}{Q:Flow->Shared->Prop}{B:Obj}(Y:K.lookup C=some B) (U:B.cls = .type "type") (Z:subIn K (.ref C) (.type "BaseException")=some true) (J:A.handled=none)
  (h:wpAny (model prog w) A (eval x env) (fun v s1=>∃e oe,v = .ref e/\K.In s1.heap/\s1.heap.get? e=some oe/\oe.cls = .ref C/\(∃t0,oe.data = .fields #v[.ref t0,.none,.none,.none,.bool false,.none])/\E (.ref e) s1) E s):wpAny (model prog w) A (exec (.Raise (some x) none pos) env) Q E s:=by
 rw[arm_exec_Raise];simp only[evalOpt,Option.map];refine gV (LI (xG (K:=K) (C:=C) Y U Z J ?_));refine gV (JX h (fun v s3 z=>?_) fun _ _ y=>y);exact gV (LI (iU z))
end
end L2
namespace DL
open PySem PySem.Spec L2
abbrev Rx:=Sum D (Str × List D)
abbrev F6:=List D->Option FS->Option (Rx × Option FS)
def sF (K:vF_) (N:vB_) (fa:vA_) (H:Hp) (c:Str) (es:vD_) (G:Addr->Addr->Prop):Prop:=∀C dx od xs,PySem.W.nsIn K mainGlobals c=some (some (.ref C))->H dx=some (.frz od (.xd (fnm.zip xs)))->Reps K N fa H es xs->G C dx
def Dg (K:vF_) (n:Nat) (m:F6):Sp:=fun vs H Q E=>∃(F:vB_) (fa:vA_) (ds:vD_) (fs:vO_) (r:Rx) (fs':vO_),
 (∀b,F b->H b≠none)/\(∀a,fa=some a->F a)/\Reps K F fa H ds vs/\FeedR F H fa fs/\m ds fs=some (r,fs')/\ds.length=n /\
  (∀d,r = .inl d->∀v H' fa',Stp fa [] H fa' [] H'->FeedR (fun b=>F b\/fa'=some b) H' fa' fs'->Rep K (fun b=>F b\/fa'=some b) fa' H' d v->Q v H') /\
  (∀c es,r = .inr (c,es)->∀H' fa',Stp fa [] H fa' [] H'->FeedR (fun b=>F b\/fa'=some b) H' fa' fs'->sF K (fun b=>F b\/fa'=some b) fa' H' c es fun C dx=>E (.ref C) (some dx) H')
abbrev oQ (P:Program) (w:World) (K:vF_) (mg:vG_) (base:Heap) (k:Nat) (f:Addr) (fd:FuncData) (ps:List Str) (m:F6):Prop:=FnOk P w K mg base (Z3 P w) k f fd ps (Dg K ps.length m)
structure CalX (P:Program) (w:World) (K:vF_) (mg:vG_) (base:Heap) (k:Nat) (x:Str) (ps:List Str) (m:F6):Prop where
 ex:∃(f:Addr) (fd:FuncData),oQ P w K mg base k f fd ps m/\mg x=some (.ref f)/\PySem.W.keepIn K (.ref f)=true/\Binds K fd ps []
noncomputable def V5 (n:Nat) (b:DM):F6:=fun ds fs=>(b #[ds.map .v++List.replicate (n - ds.length) .no,fs]).bind fun x=>match x.1 with
 |.ret d=>some (.inl d,x.2.fs)
 |.next=>some (.inl .non,x.2.fs)
 |.thr c es=>some (.inr (c,es),x.2.fs)
 |_=>none
structure Rz (X:Cx) (g:Gh):Prop where
 go:∀(pins:vP_) (σ:L2.St) (H H1:Hp) (s s1:Shared) (e C dx:Addr),Inv X pins σ H1 s1->Inv X pins σ H s->Fly s1.heap.objs.size H s.heap e C dx->g.xq σ (.ref C) (some dx) H->X.xe (.ref e) s
def Rz.pass (R:Rz X g) (pins:vP_) (σ:L2.St) (H:Hp) (s:Shared) (ev:Value) (s':Shared) (I:Inv X pins σ H s) (h:Z3 X.prog X.w X.stack H s (g.xq σ) ev s'):X.xe ev s':=by
 obtain⟨e,C,dx,H',rfl,J,fl,q⟩:=I.thrown h;exact R.go pins σ H' H s' s e C dx I J fl q
section
variable {P:Program}{w:World}{K:vF_}
def xR {st:Stmt}{N ps:List Str}{k:Nat}{b:DM}(F:Fun K x qual st f fd) (S:FnScope N ps (B8 st))
  (U:∀(cdv:Value) (A:Around) (outer:List Env) (s:Shared) (H:Hp) (E:XK) (g:Gh),Rz (O7 (Z3 P w) P w K mg base N qual (B8 st) f cdv A outer s H E) g->Room k (A.deeper (PyProof.Rows.envOfC qual (B8 st) s.heap.objs.size f cdv)) ->
   SSO (O7 (Z3 P w) P w K mg base N qual (B8 st) f cdv A outer s H E) g (N6 st) b):oQ P w K mg base (k+1) f fd ps (V5 N.length b):=by
 refine gB_ fun G_ g_=>?_
 obtain⟨oc,od,kV,doc,pm,an,cdv,ct,osl,rfl,lk,hcd⟩:=F.ex;apply g_;refine we lk hcd S (fun vs H Q E h=>?_) (fun A outer s H vs Q E hr h=>?_)
 .obtain⟨F,fa,ds,fs,d,fs',_,_,r,_,_,hl,_⟩:=h;rw[r.length];exact hl
 obtain⟨F,fa,ds,fs,rr,fs',tr,ff,r,fd,e,hl,q,qx⟩:=h;refine#[_,(U cdv A outer s H E #[F,H,fa,fun _=>E] #[fun pins σ H H1 s s1 e C dx J I z y=>Ap I (z.less J.sz) y] hr).pe,?_];refine v3 e fun fl s' h1 h2=>?_
 have hN:∀b,NN F fa [] b->F b:=fun b z=>by
  rcases z with z | z | z
  .exact z
  .cases z
  .exact ff b z
 have c:Car K F fa H (NN F fa []) fa H:=#[fun b xs n q=>#[q,fun z=>n (hN b z)],fun _ _ q=>q,fun _ _ q=>q,fun _ q=>q]
 have el:(L2.start N vs)=vs.map some++List.replicate (N.length - ds.length) none:=by rw[L2.start,r.length]
 have I:GI K #[F,H,fa,fun _=>E] (L2.start N vs) H fa [] #[ds.map .v++List.replicate (N.length - ds.length) .no,fs]:=by
  refine#[Nf,?_,fun b Z=>(by cases Z),Stp.refl,tr,ff,fd.car c fun _ _=>rfl,fun _ _ z=>(by cases z)];rw[el];exact my (Reps.go c ds vs r)
 have Y:∀{fa':vA_}{O':vL_}{H':Hp},Car K (NN F fa' O') fa' H' (fun b=>F b\/fa'=some b) fa' H':=fun {fa' O' H'}=>#[fun b xs n q=>#[q,fun z=>n (by
   rcases z with z | z
   .exact .inl z
   .exact .inr (.inr z))],fun _ _ q=>q,fun _ _ q=>q,fun _ q=>q]
 have sc:∀{fa':vA_}{O':vL_}{H':Hp},Stp fa [] H fa' O' H'->Stp fa [] H fa' [] H':=fun B=>#[fun b Z=>(by cases Z),B.fe,B.same,B.mon]
 refine#[fa,[],_,fl,s',I,h1,?_];cases fl with
 |next=>
  simp only[Kj,JU] at h2;exact fun σ' H' fa' O' B J=>q _ h2.1.symm .non H' fa' (sc B) (h2.2▸J.fd.car Y fun _ _=>rfl) (by simp only[Rep])
 |ret dd=>
  simp only[Kj,JU] at h2;exact fun σ' v H' fa' O' B J r1=>q _ h2.1.symm v H' fa' (sc B) (h2.2▸J.fd.car Y fun _ _=>rfl) (Rep.go Y _ _ r1)
 |thr c es=>
  simp only[Kj,JU] at h2;exact fun σ' C dx od xs H' fa' O' B J n1 n2 r1=>qx _ _ h2.1.symm H' fa' (sc B) (h2.2▸J.fd.car Y fun _ _=>rfl) C dx od xs n1 n2 (Reps.go Y _ _ r1)
 |brk=>cases h2
 |cont=>cases h2
end
noncomputable def V3 (c:Str) (t:DA):DM:=fun s=>(t s).map fun x=>(.thr c x.1,x.2)
section
variable {p pos:Pos}{a b:Expr}{t:DA}{k:Nat}
def Dy {e W fI:Addr}{mA:vG_}{U:Nat}{s0:DS}{ps:List Str}(R:Rz X g) (xd:XD X.K C W fI ps body) (I:Inv X pins σ H s) (m:Mdn s.heap h' e dx C mA) (r:∀f,RelO ((fnm.zip xs).lookup f) (mA f))
  (hn:PySem.W.nsIn X.K mainGlobals c=some (some (.ref C))) (G:GI X.K g σ H fa O s0) (rs:Reps X.K (NN g.F fa O) fa H ds xs)
  (q:∀C dx od xs H',StE fa O H fa O H'->GI X.K g σ H' fa O s0->PySem.W.nsIn X.K mainGlobals c=some (some (.ref C))->H' dx=some (.frz od (.xd (fnm.zip xs)))->Reps X.K (NN g.F fa O) fa H' ds xs->g.xq σ (.ref C) (some dx) H') :
  ∃e' oe,(Value.ref e:Value) = .ref e'/\X.K.In h'/\h'.get? e'=some oe/\oe.cls = .ref C/\(∃t0,oe.data = .fields #v[.ref t0,.none,.none,.none,.bool false,.none])/\X.xe (.ref e') { s with heap:=h',toks:=U }:=by
 obtain⟨o,B,Y,⟨t0,Z⟩,e4⟩:=m.at_;obtain⟨od,es,ep,d1,d2⟩:=id m.ns;have n1:H e=none:=I.hok.fresh m.n1;have n2:H dx=none:=I.hok.fresh m.n2;have J:Inv X pins σ (j5 H dx (.frz od (.xd (fnm.zip xs)))) { s with heap:=h',toks:=U }:=by
  refine I.un #[fun b u q _ _ _=>m.kp b u q,fun b u q _ _ _=>#[u.slots,m.kp b u q],fun b u q n _=>?_,fun b u q _=>#[u,m.kp b u q],fun b ys q=>?_,fun b u v q=>?_,fun b ps q=>#[#v[],?_]] fun b u q=>?_
  .rw[m9 (sO q m.n2)];exact n
  .rw[m9 (F1 q n2)];exact q
  .rw[m9 (F1 q n2)];exact q
  .rw[m9 (F1 q n2)];simpa using q
  .by_cases h2:b=dx
   .subst h2;rw[D2] at q;cases q;exact#[d1,mA,m.ns,r]
   .rw[m9 h2] at q;exact(I.hok b u q).stay (fun c v _ z=>m.kp c v z) (fun c z=>by rw[m9 (F1 z n2)];exact z) fun c ys z=>by rw[m9 (F1 z n2)];exact z
 refine#[e,o,rfl,I.kIn.keeps m.kp,B,Y,#[t0,Z],R.go pins σ _ _ _ _ e C dx I J #[m.n1,?_,o,_,B,Y,e4,Z,(show 1<6 by decide),.inl rfl] (q C dx od xs _ (E6 n2) (G.new n2) hn D2 (rs.stp G (E6 n2).stp))];rw[m9 m.ne.symm];exact n1
def dv (R:Rz X g) (Rc:Rf2 X.K X.mg c) (hr:Room (k+1) X.A) (hc:X.calm=true) (hg:Gl X c) (ha:AO X g [a,b] t) (hl:∀s ds s',t s=some (ds,s')->ds.length=2) (Y:(c == ("__debug__" : Str))=false:=by decide)
  (U:(backTo pos (starEach [b] X.env)).any (·.1)=false:=by rfl) (he:starEach [a,b] X.env=(false,eval a X.env)::starEach [b] X.env:=by rfl):SO X g (.Raise (some (.Call (.Name c p) [a,b] [] pos)) none pos') (V3 c t):=by
 refine#[fun pins s σ H Dd I h=>?_];refine gB_ fun G_ g_=>?_
 obtain⟨C,W,fI,p1,p2,p3,p4,p5,p6,p7,p8,hm,hn,hk,J⟩:=Rc.ex;apply g_;refine h.elim fun fa0 O s0 fl s1 G0 e0 q=>?_
 obtain⟨⟨ds,s2⟩,Z,t2⟩:=Mw.mp e0;cases t2;obtain⟨nm,q',N,bs,hdct,sn,sub,ab,col,dd,k0,k1,k2,k3,k5,lk⟩:=J.k1.ob;refine xf (K:=X.K) (C:=C) lk rfl J.k1.xc.f4 (I.ok.hd hc) ?_;refine LK (dS I hg hm ?_ Y);refine NO (h₀:=X.base) I.ok.mod.kin hk (l6 (ha.pe pos pins s σ H (fun vs H1=>∃f1 O1,StE fa0 O H f1 O1 H1/\GI X.K g σ H1 f1 O1 s2/\Reps X.K (NN g.F f1 O1) f1 H1 ds vs) I #[fa0,O,s0,ds,s2,G0,Z,fun vs H1 f1 O1 a1 a2 a3=>#[f1,O1,a1,a2,a3]]) fun us s3 ⟨vs,H1,B,rv,f1,O1,b1,b2,b3⟩=>#[B.kIn,?_]) he U;have l1:=hl _ _ _ Z;have l2:=b3.length;have l3:=rv.length;obtain⟨x0,x1,rfl⟩:∃x0 x1,vs=[x0,x1]:=sN (by rw[l2,l1]);obtain⟨u0,u1,rfl⟩:∃u0 u1,us=[u0,u1]:=sN (by rw[<-l3];rfl);refine L2.mk2 J hr B.kIn B.nolimit fun h' tk e dx m=>?_
 exact Dy (c:=c) R J B m (yh rv) hn b2 b3 fun C dx od xs H' c1 c2 c3 c4 c5=>q σ C dx od xs H' f1 O1 (b1.trans c1).stp c2 c3 c4 c5
end
abbrev aP:=DS->Option (Rx × DS)
def oG (K:vF_) (g:Gh) (f:aP):TE:=fun σ H Q=>∃fa O s r s',GI K g σ H fa O s/\f s=some (r,s') /\
 (∀d,r = .inl d->∀v H' fa' O',StE fa O H fa' O' H'->GI K g σ H' fa' O' s'->Rep K (NN g.F fa' O') fa' H' d v->Q v H') /\
 (∀c es,r = .inr (c,es)->∀H' fa' O',StE fa O H fa' O' H'->GI K g σ H' fa' O' s'->sF K (NN g.F fa' O') fa' H' c es fun C dx=>g.xq σ (.ref C) (some dx) H')
structure XO (X:Cx) (g:Gh) (e:Expr) (f:aP):Prop where
 pe:PE X e (oG X.K g f)
def XO.w {f:aP}{t:TE}(h:PE X e t) (k:∀σ H Q,oG X.K g f σ H Q->t σ H Q):XO X g e f:=#[fun pins s σ H Q I q=>h pins s σ H Q I (k σ H Q q)]
def aV (m:F6) (t:DA):aP:=fun s=>(t s).bind fun x=>(m x.1 x.2.fs).map fun y=>(y.1,{ x.2 with fs:=y.2 })
section
variable {k:Nat}{ps:List Str}{m:F6}{p pos:Pos}{t:DA}
def CJ {E:L2.St->XK}{CX:R9}{f:Addr}{fd:FuncData}{sp:Sp}{ta:TA}(F:FnOk X.prog X.w X.K X.mg X.base CX k f fd ps sp) (hr:Room k X.A) (hg:Gl X x) (hm:X.mg x=some (.ref f)) (hk:PySem.W.keepIn X.K (.ref f)=true) (hb:Binds X.K fd ps [])
  (hx:∀(pins:vP_) (σ:L2.St) (H:Hp) (s:Shared) (e:Value) (s':Shared),Inv X pins σ H s->CX X.stack H s (E σ) e s'->X.xe e s')
  (ha:PA X (e::es) ta) (Z:(x == ("__debug__" : Str))=false:=by decide) (he:starEach (e::es) X.env=(false,eval e X.env)::starEach es X.env:=by rfl) (Y:(backTo pos (starEach es X.env)).any (·.1)=false:=by rfl) :
  PE X (.Call (.Name x p) (e::es) [] pos) (fun σ H Q=>ta σ H fun vs H1=>sp vs H1 Q (E σ)):=by
 intro pins s σ H Q I h;refine LK (dS I hg hm ?_ Z);refine NO (h₀:=X.base) I.ok.mod.kin hk (l6 (ha pos pins s σ H _ I h) fun us s1 ⟨vs,H1,J,r,q⟩=>#[J.kIn,?_]) he Y;have hl:(us++[]).length=ps.length:=by rw[La,<-r.length];exact F.len _ _ _ _ q
 have B:=hb s1 us J.kIn hl;rw[La] at B;refine Ms (Mt (F.run X.A X.stack s1 H1 #[us,[]] us vs Q (E σ) hr J.env0 B r q) fun rr s' U=>?_);cases rr with
 |error ev=>exact hx pins σ H1 s1 ev s' J U
 |ok fl=>
  cases fl with
  |ret u=>exact J.after U
  |next=>exact False.elim U
  |brk=>exact False.elim U
  |cont=>exact False.elim U
def kD (C:CalX X.prog X.w X.K X.mg X.base k x ps m) (R:Rz X g) (k':Nat) (hr:Room k' X.A) (hk:k<=k') (hg:Gl X x) (ha:AO X g (e::es) t) (hn:∀s ds s',t s=some (ds,s')->ds.length=ps.length)
  (hdb:(x == ("__debug__" : Str))=false:=by decide) (he:starEach (e::es) X.env=(false,eval e X.env)::starEach es X.env:=by rfl) (hpl:(backTo pos (starEach es X.env)).any (·.1)=false:=by rfl):XO X g (.Call (.Name x p) (e::es) [] pos) (aV m t):=by
 obtain⟨f,fd,F,hm,hkp,Z⟩:=C.ex;refine XO.w (CJ F (hr.mono hk) hg hm hkp Z R.pass ha.pe hdb he hpl) fun σ H Q h=>?_
 obtain⟨fa,O,s,r,s',I,q,k1,k2⟩:=h;refine v3 q fun ds s1 h1 h2=>?_
 refine mapP h2 fun r1 fs1 h3 h4=>?_
 simp only[JU] at h4;obtain⟨e1,e2⟩:=h4;subst e1;subst e2;refine#[fa,O,s,ds,s1,I,h1,fun vs H1 f1 O1 a1 U r=>?_];have st:∀{B:vA_}{H2:Hp},Stp f1 [] H1 B [] H2->StE f1 O1 H1 B O1 H2:=fun J=>#[fun b Z=>Z,J.fe,fun b u e n=>J.same b u e (by simp) n,J.mon]
 have c2:∀{B:vA_}{H2:Hp},Car X.K (fun b=>NN g.F f1 O1 b\/B=some b) B H2 (NN g.F B O1) B H2:=fun {B H2}=>#[fun b xs n q=>#[q,fun z=>n (by
   rcases z with z | z | z
   .exact .inl (.inl z)
   .exact .inl (.inr (.inl z))
   .exact .inr z)],fun _ _ q=>q,fun _ _ q=>q,fun _ q=>q]
 have gi:∀{B:vA_}{H2:Hp},Stp f1 [] H1 B [] H2->FeedR (fun b=>NN g.F f1 O1 b\/B=some b) H2 B fs1->GI X.K g σ H2 B O1 { s1 with fs:=fs1 }:=fun {B H2} J Y=>by
  have a3:=st J;refine#[U.nd,SlR.go (U.car a3.stp) (fun b xs Z e=>?_) U.sl,U.fr,U.st.trans #[fun b Z=>(by cases Z),J.fe,fun b u e n z=>J.same b u e n z,J.mon],U.tr,U.ff,Y.car c2 fun _ _=>rfl,U.nf_step a3.fe];exact a3.same b _ e fun z=>U.nf b z Z
 exact#[NN g.F f1 O1,f1,ds,s1.fs,r1,fs1,fun b Z=>U.nn_tracked Z,fun a ha=>.inr (.inr ha),r,U.fd,h3,hn s ds s1 h1,fun d ed v H2 B J Y r2=>k1 d ed v H2 B O1 (a1.trans (st J)) (gi J Y) (Rep.go c2 _ _ r2),
  fun c es ec H2 B J Y C dx od xs n1 n2 r2=>k2 c es ec H2 B O1 (a1.trans (st J)) (gi J Y) C dx od xs n1 n2 (Reps.go c2 _ _ r2)]
noncomputable def fk (f:aP):DM:=fun s=>(f s).map fun x=>match x.1 with
 |.inl d=>(.ret d,x.2)
 |.inr (c,es)=>(.thr c es,x.2)
def qA {f:aP}(he:XO X g e f):SO X g (.Return (some e) pos) (fk f):=SO.w (tD he.pe) fun E σ H Y=>by
 refine Y.elim fun fa O s fl s' I q k=>?_
 refine mapP q fun r s1 h1 h2=>?_
 refine#[fa,O,s,r,s1,I,h1,fun d Z v H' f1 O1 J U B=>?_,fun c es ec H' f1 O1 J U C dx od xs n1 n2 B=>?_]
 .subst Z;cases h2;exact k σ v H' f1 O1 J.stp U B
 .subst ec;cases h2;exact k σ C dx od xs H' f1 O1 J.stp U n1 n2 B
noncomputable def fV (f:aP) (t:D->DS->Option DS):DM:=fun s=>(f s).bind fun x=>match x.1 with
 |.inl d=>(t d x.2).map fun s'=>(.next,s')
 |.inr (c,es)=>some (.thr c es,x.2)
def Gm {f:aP}{i:Nat}{x:Str}{pos':Pos}(hN:X.N.Nodup) (hi:X.N[i]? = some x) (Z:W5 X.env.scope x) (he:XO X g e f) (hs:swapsWith e (some (.Name x pos')) pos.line X.env=pure false:=by rfl) (hf:X.fn x=true\/X.env.scope.names.lookup x=some .local:=by first | exact .inl rfl | exact .inr rfl | assumption) :
  SO X g (.Assign [.Name x pos'] e pos) (fV f (i0 i)):=SO.w (jN hN hi Z he.pe hs hf) fun E σ H Y=>by
 refine Y.elim fun fa O s fl s' I q k=>?_
 refine v3 q fun r s1 h1 h2=>?_
 refine#[fa,O,s,r,s1,I,h1,fun d ed v H' f1 O1 J U B=>?_,fun c es ec H' f1 O1 J U C dx od xs n1 n2 B=>?_]
 .subst ed;cases h2;obtain⟨P,sub,I'⟩:=U.put i B;exact k _ H' f1 P (J.stp.trans (br sub).stp) I'
 .subst ec;cases h2;exact k σ C dx od xs H' f1 O1 J.stp U n1 n2 B
end
end DL
namespace L2
open PySem PySem.W PySem.Spec PyProof.Rows
section
variable {w:World}{g:Array GenState}{d:Drawn}{t:Nat}{os:OsState}{K:vF_}{e:Addr}{oe:Obj}{b:Bool}{Q:Bool->Shared->Prop}
def Gq {sl:vS_}(X:K.In h) (Y:h.get? e=some oe) (hc:oe.cls = .ref C) (Z:K.lookup C'=some #[.type "type",od,.cls cd,sl]) (f4:subIn K (.ref C') (.type "BaseException")=some true) (U:subIn K (.ref C) (.ref C')=some b) (z:Q b #[h,g,d,t,os]) :
  wpAny (model prog w) A (excMatches (.ref e) (.ref C')) Q E #[h,g,d,t,os]:=by
 have B:=X _ _ Z;have L2:=MF (M:=model prog w) X f4;have L3:=MF (M:=model prog w) X U;have J:isSubtype (.type "type") (.type "tuple")=pure false:=tc_notTuple;unfold excMatches isInstance
 repeat (any_goals (first | assumption | with_reducible refine Kq B ?_ | with_reducible refine L2.at ?_ | with_reducible refine L3.at ?_ | (with_reducible refine Kq Y ?_;rw[hc]) | wp_step))
 cases b <;> (repeat (any_goals (first | assumption | wp_step)))
end
section
variable {w:World}{R:Result->Shared->Prop}
def zG {e:Value}{pos:Pos}
  (h:wpAny (model prog w) A (setFlight e none) (fun _ s1=>wpAny (model prog w) A (storeName env n e) (fun _ s2=>wpAny (model prog w) A (execs (b0::body) env) (fun f s3=>R (.ok f) s3) (fun _ _=>False) s2) (fun _ _=>False) s1) (fun _ _=>False) s) :
  codeAny (model prog w) A (.handlers e [.ExceptHandler none (some n) (b0::body) pos] env) R s:=by
 refine codeAny_of_tree ?_;show wpAny _ A (do return Fin.done (<-(handleWith e env [.ExceptHandler none (some n) (b0::body) pos]).onRaise (fun x=>do noteFrame x env;theTreesLotGoes x))) _ _ s;refine gV (wpAny_noted ?_);unfold handleWith;refine gV (LI (gV (JX h (fun _ s1 h1=>gV (MT (JX h1 (fun _ s2 h2=>?_) fun _ _ x=>x.elim))) fun _ _ x=>x.elim)));refine gV (Mj (JX h2 (fun f s3 B=>iU (iU B)) fun _ _ x=>x.elim))
end
section
variable {M:Model}{s1:Shared}{e:Addr}{Q:Unit->Shared->Prop}
def Hc (Z:Inv X pins σ H1 s1) (I:Inv X pins σ H s) (f:Fly s1.heap.objs.size H s.heap e C dx) (z:∀h',Inv X pins σ H { s with heap:=h' }->(∀o,s.heap.get? e=some o->h'.get? e=some o)->Q () { s with heap:=h' }):wpAny M A (setFlight (.ref e) none) Q E s:=by
 obtain⟨en,eh,oe,vs,B,e2,e3,J,e5,y⟩:=f;unfold setFlight;rcases y with y | ⟨T,oT,ts,z1,z2,z3,z4,z5,z6,z7⟩
 .refine gV (JV B J y ?_);rw[iR #[]];exact iU (z s.heap I fun o q=>q)
 .refine gV (JV B J z1 ?_);rw[iO (show (Value.ref T != Value.none)=true from by simp)];refine Mi z5 z6 (Pe.mp z7).1 (z _ ?_ fun o q=>(KD _ _ z4).trans q);obtain⟨f1,Y,f3,f4,U,f6⟩:=Z.fpOk (H':=H) z2 z3;exact I.turned (t':=s.toks) (it:=T) (fun b o nb q=>(KD _ _ (JT nb)).trans q) z3 Y f4 U f6
end
abbrev Cx.tr (X:Cx) (pn:vP_) (xe:vQ_):Cx:={ X with pn:=pn,xe:=xe }
abbrev Cx.hd (X:Cx) (e:Addr):Cx:={ X with A:=X.A.mark (some (.ref e)),calm:=false,xe:=fun _ _=>False }
section
variable {pins':vP_}{xe:vQ_}{e:Addr}
theorem Cx.Ok.tr {J:vP_}(B:X.Ok):(X.tr J xe).Ok:=#[B.mod,B.kind,B.glob,B.blt,B.above,B.inj,B.has,B.cab,B.hd,B.frames,B.stk,B.exf,B.bs,B.bsz,B.noex,B.exfs,B.funs,B.frf]
def Cx.Ok.untr {J:vP_}(B:(X.tr J xe).Ok):X.Ok:=#[B.mod,B.kind,B.glob,B.blt,B.above,B.inj,B.has,B.cab,B.hd,B.frames,B.stk,B.exf,B.bs,B.bsz,B.noex,B.exfs,B.funs,B.frf]
theorem Inv.tr (I:Inv X pins σ H s):Inv (X.tr (X.pn++pins) xe) [] σ H s:=#[I.ok.tr,I.os,I.bare,I.base,I.loc,I.cell,I.free,I.freeC,fun p B=>I.pin p (by simpa using B),I.hok,I.len]
theorem Inv.untr (I:Inv (X.tr (X.pn++pins) xe) pins' σ H s):Inv X pins σ H s:=#[I.ok.untr,I.os,I.bare,I.base,I.loc,I.cell,I.free,I.freeC,fun p B=>I.pin p (Kt _ B),I.hok,I.len]
def Cx.Ok.hd' (B:X.Ok):(X.hd e).Ok:=#[B.mod,B.kind,B.glob,B.blt,B.above,B.inj,B.has,B.cab,(fun z=>by cases z),B.frames,B.stk,B.exf,B.bs,B.bsz,B.noex,B.exfs,B.funs,B.frf]
theorem Inv.hd (I:Inv X pins σ H s):Inv (X.hd e) pins σ H s:=#[I.ok.hd',I.os,I.bare,I.base,I.loc,I.cell,I.free,I.freeC,I.pin,I.hok,I.len]
def Inv.unhd (B:X.Ok) (I:Inv (X.hd e) pins σ H s):Inv X pins σ H s:=#[B,I.os,I.bare,I.base,I.loc,I.cell,I.free,I.freeC,I.pin,I.hok,I.len]
theorem SP.untr {D:Ends}{f:Flow}(h:SP (X.tr (X.pn++pins) xe) pins' D f s'):SP X pins D f s':=by
 cases f with
 |next=>obtain⟨σ',H',I,q⟩:=h;exact#[σ',H',I.untr,q]
 |brk=>obtain⟨σ',H',I,q⟩:=h;exact#[σ',H',I.untr,q]
 |cont=>obtain⟨σ',H',I,q⟩:=h;exact#[σ',H',I.untr,q]
 |ret u=>obtain⟨v,σ',H',I,r,q⟩:=h;exact#[v,σ',H',I.untr,r,q]
end
section
variable {s1:Shared}
def Jy {v:V}{Q:Unit->Shared->Prop}(I:Inv X pins σ H s) (hN:X.N.Nodup) (hi:X.N[i]? = some x) (hx:X.env.scope.names.lookup x=some .local) (hv:σ[i]? = some (some v))
  (z:∀s',Inv X pins (σ.set i none) H s'->Q () s'):wpAny M A (unbindName X.env x) Q E s:=by
 obtain⟨m,hn,hl⟩:=id I.loc;obtain⟨u,r,l⟩:=hl i x v hi hv (.inl hx);have mv:m x=some u:=by
  rcases l with ⟨_,q⟩ | ⟨q,_⟩
  .exact q
  .have q:X.env.scope.names.lookup x=some .cell\/X.env.scope.names.lookup x=some .free:=q;rw[hx] at q;rcases q with q | q <;> cases q
 obtain⟨oL,_,_,hoL,_⟩:=id hn;have nl:∀b o,X.s₀.heap.get? b=some o->b≠X.env.locals:=fun b o q=>Kc (JW (xu q) I.ok.above)
 refine wpAny_unbindName_local hx hn mv (by rw[I.ok.kind];rfl) fun h' u' hn' J=>?_
 refine z _ #[I.ok,I.os,I.bare,#[fun b o q n Y B=>(J.2 b (nl b o q)).trans (I.base.keep b o q n Y B),fun b o q n Y B=>?_,I.base.free,fun b o q B=>?_,I.base.tups,I.base.frzs,I.base.tbls],#[_,hn',fun j y v' U Z e3=>?_],fun y c q=>?_,I.free,I.freeC,fun p hp=>?_,fun b ob q=>?_,by simpa using I.len]
 .obtain⟨sl,U⟩:=I.base.slot b o q n Y B;exact#[sl,(J.2 b (nl b o q)).trans U]
 .obtain⟨o',U⟩:=I.base.there b o q B;exact#[o',(J.2 b (nl b o q)).trans U]
 .by_cases hj:j=i
  .subst hj;rw[Mc (by rw[I.len];exact(Kr.mp hi).1)] at Z;cases Z
  .rw[LD (JT hj)] at Z;obtain⟨u2,r2,q⟩:=hl j y v' U Z e3;refine#[u2,r2,?_];rcases q with ⟨k,q⟩ | ⟨k,c,q,w⟩
   .have ny:y≠x:=fun e=>hj (nA hN U (e▸hi))
    exact .inl #[k,by simp[ny,q]]
   .exact .inr #[k,c,q,w.sameBut J (I.cne y c q)]
 .obtain⟨w,q2⟩:=I.cell y c q;exact#[w,q2.sameBut J (I.cne y c q)]
 .obtain⟨e,n,B,Y,d⟩:=I.pin p hp;exact#[(J.2 p.1 B).trans e,n,B,Y,d]
 .refine(I.hok b ob q).stay (fun c w hc y=>(J.2 c ?_).trans y) (fun _ y=>y) fun _ _ y=>y
  rintro rfl;have fr:=I.free;rcases hc with rfl | hc
  .rw[fr] at q;cases q
  .rw[fr] at hc;cases hc
def Inv.freeze {e:Addr}(I1:Inv X pins σ H1 s1) (I:Inv X pins σ H s) (en:s1.heap.objs.size<=e) (B:H e=none) (U:s.heap.get? e=some oe):Inv X pins σ (j5 H e (.frz oe (.own e))) s:=by
 obtain⟨f1,Z,f3,f4,Y,f6⟩:=I1.fpOk (H':=H) en B;refine I.call' (ch:=[e]) rfl #[fun b o q _ _ _=>q,fun b o q _ _ _=>#[o.slots,q],fun b o q n ne=>?_,fun b o q _=>#[o,q],fun b ys q=>?_,fun b u v q=>?_,fun b ps q=>#[#v[],?_]] (fun b u q=>?_) I.bare fun b m=>?_
 .rw[m9 (fun z=>ne (by simp[z]))];exact n
 .rw[m9 (F1 q B)];exact q
 .rw[m9 (F1 q B)];exact q
 .rw[m9 (F1 q B)];simpa using q
 .by_cases J:b=e
  .subst J;rw[D2] at q;cases q;exact#[U,oe,U]
  .rw[m9 J] at q;exact(I.hok b u q).stay (fun c v _ y=>y) (fun c y=>by rw[m9 (F1 y B)];exact y) fun c ys y=>by rw[m9 (F1 y B)];exact y
 .rw[JK.mp m];exact#[f4,Z,Y,f6]
end
end L2
namespace DL
open PySem PySem.Spec L2
structure Ck (K:vF_) (mg:vG_) (cs:List Str) (cn:Str):Prop where
 ex:∃C' od cd sl,mg cn=some (.ref C')/\K.lookup C'=some #[.type "type",od,.cls cd,sl]/\PySem.W.subIn K (.ref C') (.type "BaseException")=some true/\∀c∈cs,∃C,PySem.W.nsIn K mainGlobals c=some (some (.ref C))/\PySem.W.subIn K (.ref C) (.ref C')=some true
noncomputable def dP (cs:List Str) (i:Nat) (b h:DM):DM:=fun s=>(b s).bind fun x=>match x.1 with
 |.thr c ds=>if cs.contains c=true/\ds.length<=2 then (h { x.2 with sl:=x.2.sl.set i (.v (.exc c ds)) }).bind fun y=>match y.1 with
   |.next=>some (.next,{ y.2 with sl:=y.2.sl.set i .no })
   |_=>none
  else none
 |fl=>some (fl,x.2)
theorem SlR.toNo {K:vF_}(v:Option V):∀{sl:List Sl}{σ:List (Option V)}{O:vL_}{i:Nat}{d:D},SlR K N fa H sl σ O->sl[i]? = some (.v d)->SlR K N fa H (sl.set i .no) (σ.set i v) O
 |[],σ,O,i,d,h,e=>by simp at e
 |.no::r,σ,O,i,d,h,e=>by
  simp only[SlR] at h;obtain⟨u,τ,rfl,h⟩:=h;cases i with
  |zero=>simp at e
  |succ i=>simp only[KQ,SlR];exact#[u,_,rfl,SlR.toNo v h (by simpa using e)]
 |.v d'::r,σ,O,i,d,h,e=>by
  simp only[SlR] at h;obtain⟨u,τ,rfl,q,h⟩:=h;cases i with
  |zero=>simp only[Lw,SlR];exact#[v,τ,rfl,h]
  |succ i=>simp only[KQ,SlR];exact#[u,_,rfl,q,SlR.toNo v h (by simpa using e)]
 |.own ds::r,σ,O,i,d,h,e=>by
  simp only[SlR] at h;obtain⟨a,xs,τ,P,rfl,rfl,B,q,h⟩:=h;cases i with
  |zero=>simp at e
  |succ i=>simp only[KQ,SlR];exact#[a,xs,_,P,rfl,rfl,B,q,SlR.toNo v h (by simpa using e)]
def DI.drop {K:vF_}{σ:L2.St}{s:DS}(I:GI K g σ H fa O s) (hi:i<s.sl.length) (v:Option V):∃P,(∀b∈P,b∈O)/\GI K g (σ.set i v) H fa P { s with sl:=s.sl.set i .no }:=by
 obtain⟨P,sub,J⟩:=I.put i (d:=.non) (v:=.non) (by simp only[Rep]);refine#[P,sub,J.nd,?_,J.fr,J.st,J.tr,J.ff,J.fd,J.nf];have:=SlR.toNo v J.sl (i:=i) (d:=.non) (Mc hi);rw[Oo,Oo] at this;exact this
section
variable {cn:Str}{p pos:Pos}{b0:Stmt}{suite:List Stmt}{b h:DM}
def DD {s0:DS}(U:∀(pn:vP_) (xe:vQ_) (g1:Gh),Rz (X.tr pn xe) g1->g1.F=g.F->g1.H0=g.H0->g1.fa0=g.fa0->SSO (X.tr pn xe) g1 body b) (I:Inv X pins σ H s) (G:GI X.K g σ H fa O s0)
  (e:b s0=some (fl,s1)) (Y:∀c ds,fl ≠ .thr c ds) (k:FlK X.K g Dn fa O H fl s1):wpAny (model X.prog X.w) X.A (exec (.Try body [hs] [] [] pos) X.env) (SP X pins Dn) X.xe s:=by
 have Z:Rz (X.tr (X.pn++pins) fun _ _=>False) #[g.F,g.H0,g.fa0,fun _=>E0]:=#[fun pins' σ' H' H1 s' s1 e C dx J1 J fl q=>q]
 have B:=(U (X.pn++pins) (fun _ _=>False) #[g.F,g.H0,g.fa0,fun _=>E0] Z rfl rfl rfl).pe [] s σ H Dn I.tr #[fa,O,s0,fl,s1,G,e,by
  cases fl with
  |thr c ds=>exact absurd rfl (Y c ds)
  |next=>exact k
  |brk=>exact k
  |cont=>exact k
  |ret d=>exact k]
 refine wpAny_Try_except (JX B (fun f s' z=>?_) fun ev s' z=>z.elim);have z:=z.untr;cases f with
 |next=>exact Me z
 |brk=>exact z
 |cont=>exact z
 |ret u=>exact z
def AX {s0:DS}(hb:∀(pn:vP_) (xe:vQ_) (g1:Gh),Rz (X.tr pn xe) g1->g1.F=g.F->g1.H0=g.H0->g1.fa0=g.fa0->SSO (X.tr pn xe) g1 body b) (hs:X.stack=X.env::X.outer) (hf:X.env.frame=some X.env.locals)
  (I:Inv X pins σ H s) (G:GI X.K g σ H fa O s0) (e:b s0=some (.thr c ds,s1))
  (z:∀(e C dx:Addr) (σ':L2.St) (H' H1:Hp) (sa sb:Shared) (od:Obj) (xs:List V) (fa':vA_) (O':vL_),Inv X pins σ' H1 sa->Inv X pins σ' H' sb->Fly sa.heap.objs.size H' sb.heap e C dx->Stp fa O H fa' O' H'->GI X.K g σ' H' fa' O' s1->PySem.W.nsIn X.K mainGlobals c=some (some (.ref C)) ->
   H' dx=some (.frz od (.xd (fnm.zip xs)))->Reps X.K (NN g.F fa' O') fa' H' ds xs->wpAny (model X.prog X.w) X.A (handleBy (.ref e) X.env [hn]) (SP X pins Dn) X.xe sb) :
  wpAny (model X.prog X.w) X.A (exec (.Try body [hn] [] [] pos) X.env) (SP X pins Dn) X.xe s:=by
 generalize U:(fun (σ':L2.St) (cv:Value) (odx:vA_) (H':Hp)=>∃C dx od xs fa' O',cv = .ref C/\odx=some dx/\Stp fa O H fa' O' H'/\GI X.K g σ' H' fa' O' s1/\PySem.W.nsIn X.K mainGlobals c=some (some (.ref C))/\H' dx=some (.frz od (.xd (fnm.zip xs)))/\Reps X.K (NN g.F fa' O') fa' H' ds xs)=xq;generalize Y:(fun (ev:Value) (s':Shared)=>∃e C dx σ' H' H1 sa,ev = .ref e/\Inv X pins σ' H1 sa/\Inv X pins σ' H' s'/\Fly sa.heap.objs.size H' s'.heap e C dx/\xq σ' (.ref C) (some dx) H')=xe;have R1:Rz (X.tr (X.pn++pins) xe) #[g.F,g.H0,g.fa0,xq]:=#[fun pins' σ' H' H1 s' sa e C dx Z J fl q=>by
  show xe _ _;rw[<-Y];exact#[e,C,dx,σ',H',H1,sa,rfl,Z.untr,J.untr,fl,q]]
 have B:=(hb (X.pn++pins) xe #[g.F,g.H0,g.fa0,xq] R1 rfl rfl rfl).pe [] s σ H #[fun _ _=>False,fun _ _=>False,fun _ _=>False,fun _ _=>False] I.tr #[fa,O,s0,_,s1,G,e,fun σ' C dx od xs H' fa' O' a1 I1 n1 n2 r1=>by
  show xq _ _ _ _;rw[<-U];exact#[C,dx,od,xs,fa',O',rfl,rfl,a1,I1,n1,n2,r1]]
 refine wpAny_Try_except (JX B (fun f s' y=>?_) fun ev s' y=>?_)
 .cases f with
  |next=>obtain⟨_,_,_,q⟩:=y;exact q.elim
  |brk=>obtain⟨_,_,_,q⟩:=y;exact q.elim
  |cont=>obtain⟨_,_,_,q⟩:=y;exact q.elim
  |ret u=>obtain⟨_,_,_,_,_,q⟩:=y;exact q.elim
 .have y:xe ev s':=y;rw[<-Y] at y;obtain⟨e,C,dx,σ',H',H1,sa,rfl,Z,J,fl,q⟩:=y;rw[<-U] at q;obtain⟨C2,dx2,od,xs,fa',O',q1,q2,a1,I1,n1,n2,r1⟩:=q;cases q1;cases q2;obtain⟨oe,vs,g1,_⟩:=id fl.ob;have sz:sa.heap.objs.size<=s'.heap.objs.size:=JN fl.en (Lk (xu g1));refine vL (H:=H') (base:=X.base) (n0:=sa.heap.objs.size) (outer:=X.outer) (by rw[J.ok.frames,hs]) (by have:=J.stack;rw[hs] at this;exact this) hf sz (fun a l=>J.hok.fresh l) fl fun h' y=>?_
  have y':Noted sa.heap.objs.size H' X.stack s'.heap h' e C dx:=by rw[hs];exact y
  exact z e C dx σ' H' H1 sa { s' with heap:=h' } od xs fa' O' Z (Z.noted (t':=s'.toks) J y') y.fl a1 I1 n1 n2 r1
def zK {nm:Option Str}{pins:vP_}{H:Hp}{s:Shared}{e C dx:Addr}{c:Str}{n:Nat}{Q:Flow->Shared->Prop}(J:Ck X.K X.mg cs cn) (hc:c∈cs) (hg:Gl X cn) (I:Inv X pins σ H s) (f:Fly n H s.heap e C dx) (Z:PySem.W.nsIn X.K mainGlobals c=some (some (.ref C)))
  (z:codeAny (model X.prog X.w) (X.A.mark (some (.ref e))) (.handlers (.ref e) [.ExceptHandler none nm (b0::suite) pos'] X.env) (fun r s2=>match r with
     |.ok fl=>(match nm with
      |none=>Q fl s2
      |some x=>wpAny (model X.prog X.w) X.A (do bindName X.env x .none;unbindBehindTheSuite X.env x pos') (fun _ s3=>Q fl s3) X.xe s2)
     |.error _=>False) s) (hd:(cn == ("__debug__" : Str))=false:=by decide) :
  wpAny (model X.prog X.w) X.A (handleBy (.ref e) X.env [.ExceptHandler (some (.Name cn p)) nm (b0::suite) pos']) Q X.xe s:=by
 obtain⟨C',od,cd,sl,U,lk,f4,B⟩:=J.ex;obtain⟨C2,m1,m2⟩:=B c hc;rw[Z] at m1;cases m1;obtain⟨oe,vs,Y,g2,_⟩:=id f.ob;refine wpAny_handleBy_cons (codeAny_handlers_test ?_) (by intro q;cases q);refine dS (X:=X.hd e) (I.hd (e:=e)) hg U ?_ hd;obtain⟨hh,gg,d0,tt,oo⟩:=s;refine Gq I.kIn Y g2 lk f4 m2 ?_;refine Mt z fun r s2 y=>?_
 cases r with
 |error x=>exact y.elim
 |ok fl=>exact y
def Gr {i:Nat}{x:Str}(hb:∀(pn:vP_) (xe:vQ_) (g1:Gh),Rz (X.tr pn xe) g1->g1.F=g.F->g1.H0=g.H0->g1.fa0=g.fa0->SSO (X.tr pn xe) g1 body b) (hh:∀e:Addr,SSO (X.hd e) g (b0::suite) h) (K1:Ck X.K X.mg cs cn) (hg:Gl X cn)
  (hN:X.N.Nodup) (hi:X.N[i]? = some x) (hx:X.env.scope.names.lookup x=some .local) (hs:X.stack=X.env::X.outer:=by rfl) (hf:X.env.frame=some X.env.locals:=by rfl)
  (hd:(cn == ("__debug__" : Str))=false:=by decide):SO X g (.Try body [.ExceptHandler (some (.Name cn p)) (some x) (b0::suite) pos'] [] [] pos) (dP cs i b h):=by
 refine#[fun pins s σ H Dn I q=>?_];refine q.elim fun fa O s0 fl s1 G e0 k=>?_
 refine v3 e0 fun U sb h1 h2=>?_
 by_cases Z:∀c ds,U ≠ .thr c ds
 .refine DD hb I G h1 Z ?_;cases U with
  |thr c ds=>exact absurd rfl (Z c ds)
  |next=>cases h2;exact k
  |brk=>cases h2;exact k
  |cont=>cases h2;exact k
  |ret d=>cases h2;exact k
 .cases U with
  |thr c ds=>
   have h2:(if cs.contains c=true/\ds.length<=2 then (h { sb with sl:=sb.sl.set i (.v (.exc c ds)) }).bind fun y=>match y.1 with
    |.next=>some (.next,{ y.2 with sl:=y.2.sl.set i .no })
    |_=>none else none)=some (fl,s1):=h2
   by_cases hc:cs.contains c=true/\ds.length<=2
   .rw[iO hc] at h2;refine v3 h2 fun fy sy h3 h4=>?_
    obtain⟨rfl,h5⟩:fy = .next/\(Fl.next,({ sy with sl:=sy.sl.set i .no }:DS))=(fl,s1):=by
     cases fy with
     |next=>exact#[rfl,Kb h4]
     |brk=>cases h4
     |cont=>cases h4
     |ret d=>cases h4
     |thr c ds=>cases h4
    cases h5;refine AX hb hs hf I G h1 fun e C dx σ' H' H1 sa sb' od xs fa' O' J1 J fl a1 I1 n1 n2 r1=>?_
    refine zK (cs:=cs) K1 (by simpa using hc.1) hg J fl n1 (zG (JX (Hc (E:=fun _ _=>False) J1 J fl fun h' J2 ke=>?_) (fun _ _ y=>y) fun _ _ y=>y)) hd;obtain⟨oe,vs,g1,g2,g3,g4,_⟩:=id fl.ob;have J3:=J1.freeze J2 fl.en fl.eh (ke _ g1);have G3:=I1.new (o:=.frz oe (.own e)) fl.eh;have nd:dx≠e:=fun y=>by rw[y,fl.eh] at n2;cases n2
    have rx:Rep X.K (NN g.F fa' O') fa' (j5 H' e (.frz oe (.own e))) (.exc c ds) (.ref e):=by
     simp only[Rep];have rr:=r1.stp I1 (E6 (O:=O') (fa:=fa') (o:=.frz oe (.own e)) fl.eh).stp;exact#[e,C,xs,rfl,n1,#[oe,D2,g2,#[_,g4],by rw[r1.length];exact hc.2,.inr #[dx,od,g3,by rw[m9 nd];exact n2]],rr]
    obtain⟨P,sub,G4⟩:=G3.put i rx;have A4:Stp fa O H fa' P (j5 H' e (.frz oe (.own e))):=a1.trans ((E6 (O:=O') (fa:=fa') (o:=.frz oe (.own e)) fl.eh).stp.trans (br sub).stp);refine cP (X:=X.hd e) (v:=.ref e) (J3.hd (e:=e)) hN hi (.inl hx) rfl (fun s4 J4=>?_) (.inr hx);refine JX ((hh e).pe pins s4 _ _ #[fun σ3 B=>∃Y O3,Stp fa O H Y O3 B/\GI X.K g σ3 B Y O3 sy,fun _ _=>False,fun _ _=>False,fun _ _=>False] J4 #[fa',P,_,.next,sy,G4,h3,fun σ3 B Y O3 a3 I3=>#[Y,O3,A4.trans a3,I3]]) (fun f s5 y=>?_) fun _ _ y=>y
    cases f with
    |brk=>obtain⟨_,_,_,q⟩:=y;exact q.elim
    |cont=>obtain⟨_,_,_,q⟩:=y;exact q.elim
    |ret u=>obtain⟨_,_,_,_,_,q⟩:=y;exact q.elim
    |next=>
     obtain⟨σ3,B,J5,Y,O3,a3,I3⟩:=y;have J6:Inv X pins σ3 B s5:=J5.unhd J.ok;have l3:i<σ3.length:=by rw[J6.len];exact(Kr.mp hi).1
     refine gV (MT (cP (v:=.non) J6 hN hi (.inl hx) rfl (fun s6 J7=>?_) (.inr hx)));unfold unbindBehindTheSuite;refine MD (Jy (v:=.non) J7 hN hi hx (Mc l3) fun s7 J8=>?_);rw[Oo] at J8;obtain⟨P2,sub2,I4⟩:=I3.drop (i:=i) (by rw[<-I3.sl.len];exact l3) none;exact#[_,B,J8,k _ B Y P2 (a3.trans (br sub2).stp) I4]
   .rw[iR hc] at h2;cases h2
  |next=>exact absurd (fun c ds z=>by cases z) Z
  |brk=>exact absurd (fun c ds z=>by cases z) Z
  |cont=>exact absurd (fun c ds z=>by cases z) Z
  |ret d=>exact absurd (fun c ds z=>by cases z) Z
end
section
variable {a:Expr}{p pos:Pos}{fa:DE}
structure PNs (X:Cx) (es:List Expr) (ns:List Str):Prop where
 ex:∃Cs:List Addr,PA X es (fun _ H Q=>Q (Cs.map V.ref) H)/\Paired (fun n C=>X.mg n=some (.ref C)) ns Cs
def Fh:PNs X [] []:=#[[],aq,.nil]
def dW {es:List Expr}{ns:List Str}{p2:Pos}(Y:Gl X n) (B:∃C,X.mg n=some (.ref C)) (r:PNs X es ns) (U:(n == ("__debug__" : Str))=false:=by decide) (J:starEach (.Name n p2::es) X.env=(false,eval (.Name n p2) X.env)::starEach es X.env:=by rfl):PNs X (.Name n p2::es) (n::ns):=by
 obtain⟨C,B⟩:=B;obtain⟨Z,h1,h2⟩:=r.ex;exact#[C::Z,S5 (sI (v:=.ref C) Y B rfl U) h1 J,.cons B h2]
def ExO.new {a J:Addr}{o:HO}(h:ExO H a C xs) (B:H J=none):ExO (j5 H J o) a C xs:=by
 obtain⟨oe,U,Z,e3,e4,e5⟩:=h;refine#[oe,by rw[m9 (F1 U B)];exact U,Z,e3,e4,e5.imp id ?_];rintro⟨dx,od,d1,Y⟩;exact#[dx,od,d1,by rw[m9 (F1 Y B)];exact Y]
def rL (cs ns:List Str):D->Option D
 |.exc c _=>if cs.contains c=true then some (.bl (ns.any (U7 c))) else none
 |_=>none
theorem tE (m:∀c'∈cs',∃C',X.mg c'=some (.ref C')/\PySem.W.kitOne X.K (.ref C) (.ref C')=some (U7 c c')):∀{ns:List Str}{Cs:vL_},Paired (fun n C=>X.mg n=some (.ref C)) ns Cs->(∀n∈ns,n∈cs')->PySem.W.kitAny X.K (.ref C) (Cs.map Value.ref)=some (ns.any (U7 c))
 |_,_,.nil,_=>rfl
 |n::ns,C1::Cs,.cons hm r,h=>by
  obtain⟨U,m1,m2⟩:=m n (h n (JL ..));rw[hm] at m1;cases m1;have J:=tE m r fun x B=>h x (JH _ B)
  show (match PySem.W.kitOne X.K (.ref C) (.ref C1) with | some true=>some true | some false=>PySem.W.kitAny X.K (.ref C) (Cs.map Value.ref) | none=>none)=_;rw[m2,MY];cases U7 c n with
  |true=>rfl
  |false=>exact J
def yc {Cs:vL_}:CallR X (.builtin "isinstance") (fun xs H Q=>∃e C b ys tp,xs=[.ref e,.ref tp]/\ExO H e C ys/\H tp=some (.tup (Cs.map V.ref))/\XC X.K C/\PySem.W.kitAny X.K (.ref C) (Cs.map Value.ref)=some b/\Q (.bl b) H):=by
 intro pins s σ H xs us Q I r h;refine gB_ fun G_ g_=>?_
 obtain⟨e,C,b,ys,tp,rfl,h1,h2,Z,h4,q⟩:=h;obtain⟨u,c0,rfl,ru,rc⟩:=mZ r;apply g_;cases ru;cases rc;obtain⟨o,U,o2,_⟩:=kc I h1;obtain⟨_,its,vi,J,t1,t2,B⟩:=I.hok _ _ h2;have ei:∀{l:vL_}{us:vV_},Vals (l.map V.ref) us->us=l.map Value.ref:=by
  intro l;induction l with
  |nil=>intro us v;cases v;rfl
  |cons a l ih=>
   intro us v;cases v with
   |cons r v=>cases r;rw[ih v];rfl
 have:=ei vi;subst this;obtain⟨oc,od,dt,sl⟩:=J;obtain⟨n,B⟩:=B;cases t2;cases B;exact PySem.W.kia_tup Z.kit I.kIn #[o,U,o2] t1 h4 (fun z=>nomatch z) fun Y=>#[.bl b,H,I.tok Y,rfl,q]
def zU {ns:List Str}{es:List Expr}{x1:Nat}{p2:Pos}(R:RfA X.K X.mg cs cs') (T:PNs X es ns) (hn:ns.all (cs'.contains ·)=true) (hl:ns.length<=1000) (hg:Gl X "isinstance") (hm:X.mg "isinstance" = none) (ha:EO X g a fa)
  (J:starEach [.Tuple es x1 p2] X.env=(false,eval (.Tuple es x1 p2) X.env)::starEach [] X.env:=by rfl) (he:starEach [a,.Tuple es x1 p2] X.env=(false,eval a X.env)::starEach [.Tuple es x1 p2] X.env:=by rfl) (U:(backTo pos (starEach [.Tuple es x1 p2] X.env)).any (·.1)=false:=by rfl) :
  EO X g (.Call (.Name "isinstance" p) [a,.Tuple es x1 p2] [] pos) (j4 (rL cs ns) fa):=by
 obtain⟨Cs,h1,h2⟩:=T.ex;refine EO.w (fB (yc (Cs:=Cs)) hg hm gm (S5 ha.pe (S5 (sL h1) aq J) he) #[] #[] he U) fun σ H Q hQ=>?_
 refine hQ.elim fun f0 O s d s' I e k=>?_
 refine v3 e fun x s1 h3 h=>?_
 refine M6 h fun d' B h=>?_
 cases h;cases x with
 |exc c ds=>
  have B:(if cs.contains c=true then some (.bl (ns.any (U7 c))) else none)=some d:=B;by_cases hc:cs.contains c=true
  .rw[iO hc] at B;cases B;refine#[f0,O,s,_,s1,I,h3,fun y H1 f1 O1 a1 I1 r1=>?_];simp only[Rep] at r1;obtain⟨b,C,xs,rfl,n1,eo,rs⟩:=r1;obtain⟨C2,m1,m2,m3,m4,m5⟩:=(R.rx c (by simpa using hc)).ex;rw[n1] at m1;cases m1;have lC:(Cs.map V.ref).length<=sizeLine:=by
    rw[JR,<-h2.length];exact Lk (zg hl)
   refine#[lC,fun tp Y=>?_];refine#[b,C,_,xs,tp,rfl,eo.new Y,D2,m2,tE m5 h2 (fun n Z=>by
    have:=Lx.mp hn n Z;simpa using this),k _ _ f1 O1 (a1.trans (E6 Y)) (I1.new Y) (by simp only[Rep])]
  .rw[iR hc] at B;cases B
 |_=>cases B
end
section
variable {K:vF_}{n:Str}{st:Stmt}
def nJ {w:World}{N ps:List Str}{k:Nat}{b:DM}(F:GF K mg n st f fd) (q:∀(kV doc pm:Value) (an:vA_) (cdv ct:Value) (us:vV_),us.length=ps.length->bindArgs (PySem.W.fnOf n n (X4 st) (N6 st) (B8 st) .none kV doc pm an cdv ct) #[us,[]]=pure (ps.zip us)) (S:FnScope N ps (B8 st))
  (B:∀(cdv:Value) (A:Around) (outer:List Env) (s:Shared) (H:Hp) (E:XK) (g:Gh),Rz (O7 (Z3 P w) P w K mg base N n (B8 st) f cdv A outer s H E) g->Room k (A.deeper (PyProof.Rows.envOfC n (B8 st) s.heap.objs.size f cdv)) ->
   SSO (O7 (Z3 P w) P w K mg base N n (B8 st) f cdv A outer s H E) g (N6 st) b):CalX P w K mg base (k+1) n ps (V5 N.length b):=#[f,fd,xR F.F S B,F.m,F.F.kp,F.F.binds q]
def ck_mk (X:K.In h) (G:h.Ns mainGlobals mg) {sl:vS_}(a:PySem.W.nsIn K mainGlobals cn=some (some (.ref C'))) (B:K.lookup C'=some #[.type "type",od,.cls cd,sl]) (J:PySem.W.subIn K (.ref C') (.type "BaseException")=some true)
  (m:∀c∈cs,∃C,PySem.W.nsIn K mainGlobals c=some (some (.ref C))/\PySem.W.subIn K (.ref C) (.ref C')=some true):Ck K mg cs cn:=#[C',od,cd,sl,ME X G a,B,J,m]
def sub_mk (a:PySem.W.nsIn K mainGlobals c=some (some (.ref C))) (k:PySem.W.subIn K (.ref C) (.ref C')=some true):∃C,PySem.W.nsIn K mainGlobals c=some (some (.ref C))/\PySem.W.subIn K (.ref C) (.ref C')=some true:=#[C,a,k]
end
end DL
namespace DL
open PySem PySem.Spec L2 PyProof.Rows
def jm (s:DS) (j:Nat):Option Nat:=match s.sl[j]? with
 |some (.v (.int v))=>if 0<=v then some v.toNat else none
 |_=>none
def jc (i j:Nat) (f:DE):DM:=fun s=>(f s).bind fun x=>(hZ x.2 i).bind fun ds=>(jm x.2 j).bind fun n=>if n<ds.length then some (.next,{ x.2 with sl:=x.2.sl.set i (.own (ds.take n++x.1::ds.drop (n+1))) }) else none
def DU {s:DS}{n:Nat}(h:jm s j=some n):s.sl[j]? = some (.v (.int (n:Int))):=by
 unfold jm at h;cases q:s.sl[j]? with
 |none=>rw[q] at h;cases h
 |some z=>
  rw[q] at h;cases z with
  |v d=>
   cases d with
   |int v=>
    have h:(if 0<=v then some v.toNat else none)=some n:=h;by_cases c:0<=v
    .rw[iO c] at h;have:=Kb h;rw[show v=(n:Int) by omega]
    .rw[iR c] at h;cases h
   |_=>cases h
  |_=>cases h
def Hg {f:DE}{s:DS}{r:Fl × DS}(q:jc i j f s=some r):∃d s1 ds,∃n:Nat,f s=some (d,s1)/\s1.sl[i]? = some (.own ds)/\s1.sl[j]? = some (.v (.int (n:Int)))/\n<ds.length/\(Fl.next,{ s1 with sl:=s1.sl.set i (.own (ds.take n++d::ds.drop (n+1))) })=r:=by
 refine v3 q fun d s1 h1 q=>?_
 refine V1 q fun ds h2 q=>?_
 refine V1 q fun n J q=>?_
 by_cases B:n<ds.length
 .exact#[d,s1,ds,n,h1,Hz h2,DU J,B,Kb ((iO B).symm.trans q)]
 .cases (iR B).symm.trans q
section
variable {y:Str}{pos:Pos}
def EJ (hv:PE X (.Name x p1) (W6 i)) (hj:PE X (.Name y p2) (W6 j)) (he:EO X g e fe) (hs:swapsWithSole [.Subscript (.Name x p1) (.Name y p2) pos'] e pos.line X.env=pure false:=by rfl) (hw:swappedStores [.Subscript (.Name x p1) (.Name y p2) pos'] e X.env=pure none:=by rfl) :
  SO X g (.Assign [.Subscript (.Name x p1) (.Name y p2) pos'] e pos) (jc i j fe):=
 SO.w (uX he.pe (Cy hv hj yR) hs hw) fun E σ H hQ=>by
  refine hQ.elim fun fa O s fl s' I q k=>?_
  obtain⟨d,s1,ds,n,h1,h2,h3,hl,e⟩:=Hg q;cases e;refine#[fa,O,s,d,s1,I,h1,fun v H1 f1 O1 a1 B r=>?_];obtain⟨b,xs,Y,m1,Z,J⟩:=SlR.own B.sl h2;obtain⟨u,e5,U⟩:=SlR.val B.sl h3;have rl:=J.length;obtain⟨I2,a2⟩:=B.rew h2 Y m1 Z (Reps.append (J.take n) (es:=d::ds.drop (n+1)) (ys:=v::xs.drop (n+1)) (by simp only[Reps];exact#[v,_,rfl,r,J.drop (n+1)]));have hx:n<xs.length:=by omega
  have k2:=k σ _ f1 O1 (a1.stp.trans a2) I2;rw[<-zy xs v hx] at k2;have U:u = .int (n:Int):=by simpa only[Rep] using U
  subst U;refine#[_,Y,_,e5,b,xs,(n:Int),n,rfl,rfl,Z,?_,k2];unfold V0;rw[iO ∅,iO ∅,Ku]
end
end DL
namespace DL
open PySem PySem.Spec L2
def C9 {K:vF_}{st:Stmt}{w:World}{ps:List Str}{k:Nat}{b:DM}(J:List Str) (F:GF K mg n st f fd) (q:∀(kV doc pm:Value) (an:vA_) (cdv ct:Value) (us:vV_),us.length=ps.length->bindArgs (PySem.W.fnOf n n (X4 st) (N6 st) (B8 st) .none kV doc pm an cdv ct) #[us,[]]=pure (ps.zip us)) (S:FnScope (ps++J) ps (B8 st))
  (B:(ps++J).Nodup->∀(cdv:Value) (A:Around) (outer:List Env) (s:Shared) (H:Hp) (E:XK) (g:Gh),Room k (A.deeper (PyProof.Rows.envOfC n (B8 st) s.heap.objs.size f cdv))->SSO (O7 U9 P w K mg base (ps++J) n (B8 st) f cdv A outer s H E).nox g (N6 st) b) :
  Cal P w K mg base (k+1) n ps (B3 (ps++J).length b):=vq F q S (B S.nd)
end DL
namespace T
open PySem PySem.Spec L2 DL
def nD:DM:=(i8 (iq 0))
def X3:c9:=B3 1 (nD)
def aI:DM:=(f9 (j3 (c8 n8 (F7 0 "turn") (Pw 1)) (i0 2)) (f9 (V2 0 "turn" (dV 2)) (f9 (j6 (dB (c8 (i9 (fun i j=>decide (j<i))) (F7 0 "left") (Pw 0))) (f9 (j3 (c8 F5 (F7 0 "left") (dL 1)) (i0 3)) (f9 (V2 0 "left" (c8 R6 (F7 0 "left") (dL 1))) (i8 (dV 3)))) j7) (f9 (j3 (F7 0 "cells") (i0 4)) (f9 (j3 (v7 (dB (c8 (i9 (fun i j=>decide (j<i))) (i5 (one i6) (a8 (dL 4) a9)) (Pw 0))) (c8 d6 (dL 4) (c8 F5 (F7 0 "at") (i5 (one i6) (a8 (dL 4) a9)))) (Pw 0)) (i0 5)) (f9 (V2 0 "at" (c8 n8 (F7 0 "at") (Pw 1))) (f9 (j6 (t7 (dB (c8 (i9 (fun i j=>decide (j<=i))) (dL 5) (c8 bb (Pw 10) (Pw 18)))) (dB (c8 (i9 (fun i j=>decide (i<=j))) (F7 0 "at") (i5 (one i6) (a8 (dL 4) a9))))) (f9 (V2 0 "left" (c8 R6 (dL 5) (dL 1))) (i8 (c8 F5 (dL 5) (dL 1)))) j7) (f9 (j3 (c8 F5 (c8 u6 (c8 n8 (c8 n8 (c8 n8 (c8 F5 (dL 5) (Pw 1000003)) (c8 u6 (c8 u6 (Pw 31) (dL 2)) (dL 2))) (c8 u6 (Pw 7) (dL 2))) (Pw 11)) (Pw 48271)) (Pw 2147483647)) (i0 6)) (f9 (j3 (c8 F5 (c8 n8 (c8 u6 (c8 R6 (dL 6) (Pw 64)) (Pw 69621)) (c8 u6 (Pw 7919) (dL 2))) (Pw 2147483587)) (i0 6)) (i8 (c8 F5 (c8 R6 (dL 6) (Pw 64)) (dL 1))))))))))))
def A3:c9:=B3 7 (aI)
abbrev CT:DM:=(B2 2 3 (a8 (dV 3) (a8 (c8 F5 (dL 2) (dL 3)) a9)))
def fX:DM:=(f9 (j3 (i5 (one eJ) (a8 (dL 0) a9)) (i0 2)) (f9 (j3 (i5 (one eJ) (a8 (dL 1) a9)) (i0 3)) (f9 (Q7 (dB (c8 (i9 (fun i j=>decide (j<i))) (dL 3) (Pw 0))) (CT)) (f9 (j6 (dB (c8 (i9 (fun i j=>decide (i<j))) (dL 1) (Pw 0))) (j3 (c8 u9 (Pw 0) (dL 2)) (i0 2)) j7) (i8 (i4 (a8 (c8 R6 (dL 0) (dL 2)) (a8 (c8 R6 (dL 1) (dL 2)) a9))))))))
def tU:c9:=B3 4 (fX)
def fY (B:c9):DM:=(f9 (j3 (c8 n8 (c8 u6 (Px 0 0) (Px 1 1)) (c8 u6 (Px 1 0) (Px 0 1))) (i0 2)) (i8 (d8 B (a8 (dV 2) (a8 (c8 u6 (Px 0 1) (Px 1 1)) a9)))))
def tV (B:c9):c9:=B3 3 (fY B)
def jB:DM:=(i8 (i4 (a8 (c8 u9 (Pw 0) (Px 0 0)) (a8 (Px 0 1) a9))))
def bP:c9:=B3 1 (jB)
def jF (mo:c9):DM:=(f9 (E4 1 (j9 (a8 (dC .non) (a8 (dC (.bl true)) (a8 (dC (.bl false)) (a8 (j4 w4 (Pw 1)) (a8 (Pw 0) (a8 (Pw 1) (a8 (Pw 2) (a8 (Pw 5) (a8 (c8 bb (Pw 10) (Pw 39)) (a8 (dC (.str "")) (a8 (dC (.str "both")) (a8 (dC (.str "cut")) (a8 (dC (.str "in")) (a8 (dC (.str "1/2")) (a8 (i4 a9) (a8 (j8 (j9 a9)) a9)))))))))))))))))) (i8 (c8 d6 (j8 (Q0 S8 (dL 1) (j8 (j9 (a8 (j8 (j9 (a8 (Pw 0) (a8 (Pw 1) a9)))) (a8 (i4 (a8 (Pw 0) (a8 (Pw 1) a9))) (a8 (i4 (a8 (Pw 0) (a8 (Pw 0) (a8 (Pw 1) a9)))) a9))))))) (d8 mo (a8 (dV 0) (a8 (Pw 19) a9))))))
def uf (mo:c9):c9:=B3 2 (jF mo)
def Q6 (B:c9) (mo:c9) (J:c9):DM:=(f9 (j6 (t7 (l7 (j4 (C5 "tuple") (dL 1))) (t7 (dB (c8 r8 (dL 1) (i4 a9))) (dB (c8 (i9 (fun i j=>decide (j<i))) (d8 mo (a8 (dV 0) (a8 (Pw 5) a9))) (Pw 0))))) (f9 (j3 (d8 mo (a8 (dV 0) (a8 (i5 (one i6) (a8 (dL 1) a9)) a9))) (i0 2)) (i8 (c8 n8 (c8 n8 (J9 (dL 1) L9 (K9 (dL 2))) (i4 (a8 (d8 J (a8 (dV 0) (a8 (c8 d6 (dL 1) (dL 2)) a9))) a9))) (J9 (dL 1) (K9 (c8 n8 (dL 2) (Pw 1))) L9)))) j7) (f9 (j6 (l7 (j4 (C5 "tuple") (dL 1))) (f9 (E4 3 (j9 (a8 (j8 (W2 (one gJ) (a8 (dL 1) a9))) (a8 (J9 (dL 1) (K9 (Pw 1)) L9) (a8 (c8 n8 (dL 1) (J9 (dL 1) (K9 (j4 w4 (Pw 1))) L9)) (a8 (iJ (dL 1) (j4 w4 (Pw 1))) (a8 (c8 n8 (dL 1) (i4 (a8 (Pw 0) a9))) (a8 (i4 a9) (a8 (i4 (a8 (dV 1) a9)) (a8 (d8 B (a8 (dV 0) a9)) a9)))))))))) (i8 (c8 d6 (dL 3) (d8 mo (a8 (dV 0) (a8 (Pw 8) a9)))))) j7) (f9 (j6 (l7 (j4 (C5 "bool") (dL 1))) (i8 (c8 d6 (j8 (j9 (a8 (B0 (dV 1)) (a8 (i5 (one cT) (a8 (dL 1) a9)) (a8 (d8 B (a8 (dV 0) a9)) a9))))) (d8 mo (a8 (dV 0) (a8 (Pw 3) a9))))) j7) (f9 (j6 (l7 (j4 (C5 "int") (dL 1))) (f9 (E4 3 (j9 (a8 (c8 n8 (dL 1) (Pw 1)) (a8 (c8 u9 (dL 1) (Pw 1)) (a8 (c8 u6 (Pw 2) (dL 1)) (a8 (j4 w4 (dL 1)) (a8 (c8 pEq (dL 1) (Pw 1)) (a8 (i5 (one fg) (a8 (dL 1) a9)) (a8 (Pw 0) (a8 (d8 B (a8 (dV 0) a9)) a9)))))))))) (i8 (c8 d6 (dL 3) (d8 mo (a8 (dV 0) (a8 (Pw 8) a9)))))) j7) (f9 (j6 (l7 (j4 (C5 "str") (dL 1))) (f9 (E4 3 (j9 (a8 (dC (.str "both")) (a8 (dC (.str "left")) (a8 (dC (.str "right")) (a8 (dC (.str "cut")) (a8 (dC (.str "square")) (a8 (dC (.str "round")) (a8 (dC (.str "pointed")) (a8 (c8 n8 (dL 1) (dC (.str "x"))) (a8 (j4 iA (dL 1)) a9))))))))))) (i8 (c8 d6 (j8 (Q0 S8 (dL 3) (j8 (j9 (a8 (d8 B (a8 (dV 0) a9)) a9))))) (d8 mo (a8 (dV 0) (a8 (Pw 10) a9)))))) j7) (i8 (d8 B (a8 (dV 0) a9))))))))
def mU (B:c9) (mo:c9):Nat->c9
 |0=>fun _ _=>none
 |n+1=>B3 4 (Q6 B mo (mU B mo n))
def kC:DM:=(i8 (w6 (j4 (C5 "int") (dL 0)) (B0 (j4 (C5 "bool") (dL 0)))))
def bN:c9:=B3 1 (kC)
def iy (B:c9):DM:=(i8 (d8 B (a8 (c8 u6 (Px 0 0) (Px 1 0)) (a8 (c8 u6 (Px 0 1) (Px 1 1)) a9))))
def qI (B:c9):c9:=B3 2 (iy B)
def fZ (B:c9) (mo:c9):DM:=(f9 (j3 (d8 mo (a8 (dV 0) (a8 (c8 d6 (j8 (j9 (a8 (Pw 7) (a8 (Pw 13) (a8 (Pw 30) a9))))) (d8 mo (a8 (dV 0) (a8 (Pw 3) a9)))) a9))) (i0 1)) (f9 (j3 (c8 d6 (j8 (j9 (a8 (Pw 1) (a8 (Pw 1) (a8 (Pw 1) (a8 (Pw 2) (a8 (Pw 3) (a8 (Pw 4) a9)))))))) (d8 mo (a8 (dV 0) (a8 (Pw 6) a9)))) (i0 2)) (i8 (d8 B (a8 (c8 u6 (dL 1) (c8 u9 (Pw 1) (c8 u6 (Pw 2) (d8 mo (a8 (dV 0) (a8 (Pw 2) a9)))))) (a8 (dV 2) a9))))))
def nR (B:c9) (mo:c9):c9:=B3 3 (fZ B mo)
def cE:DM:=(f9 (j3 (c8 u9 (c8 u6 (Px 0 0) (Px 1 2)) (c8 u6 (Px 1 0) (Px 0 2))) (i0 2)) (i8 (B9 (c8 (i9 (fun i j=>decide (i<j))) (dL 2) (Pw 0)) (w6 (c8 pEq (dL 2) (Pw 0)) (c8 (i9 (fun i j=>decide (i<j))) (c8 u6 (Px 0 1) (Px 1 2)) (c8 u6 (Px 1 1) (Px 0 2)))))))
def N7:c9:=B3 3 (cE)
def ju (B:c9):DM:=(f9 (j3 (c8 u6 (Px 0 1) (Px 1 1)) (i0 2)) (f9 (j3 (d8 B (a8 (c8 u6 (Px 0 0) (Px 1 1)) (a8 (dV 2) a9))) (i0 3)) (f9 (j3 (d8 B (a8 (c8 u6 (Px 1 0) (Px 0 1)) (a8 (dV 2) a9))) (i0 4)) (f9 (j3 (d8 B (a8 (Px 3 1) (a8 (Px 4 1) a9))) (i0 5)) (f9 (j3 (c8 u6 (Px 3 1) (Px 5 1)) (i0 2)) (i8 (i4 (a8 (c8 u6 (Px 3 0) (c8 R6 (dL 2) (Px 3 1))) (a8 (c8 u6 (Px 4 0) (c8 R6 (dL 2) (Px 4 1))) (a8 (dV 2) a9))))))))))
def rX (B:c9):c9:=B3 6 (ju B)
def ig (J:c9) (B:c9):DM:=(i8 (d8 J (a8 (d8 B (a8 (dV 0) a9)) (a8 (d8 B (a8 (dV 0) a9)) a9))))
def wJ (B:c9) (J:c9):c9:=B3 1 (ig B J)
def iG (B:c9):DM:=(i8 (i4 (a8 (d8 B (a8 (Px 0 0) (a8 (Px 0 2) a9))) (a8 (d8 B (a8 (Px 0 1) (a8 (Px 0 2) a9))) a9))))
def ud (B:c9):c9:=B3 1 (iG B)
def fU (U:c9) (B:c9) (J:c9):DM:=(f9 (j3 (d8 J (a8 (dV 0) a9)) (A0 2 (p9 (i0 3) (p9 (i0 4) A1)))) (i8 (d8 U (a8 (d8 B (a8 (dV 3) (a8 (dV 1) a9))) (a8 (d8 B (a8 (dV 4) (a8 (dV 2) a9))) a9)))))
def qw (J:c9) (U:c9) (B:c9):c9:=B3 5 (fU J U B)
def jd:DM:=(f9 (j3 (c8 u6 (c8 u9 (c8 u6 (Px 1 0) (Px 0 2)) (c8 u6 (Px 0 0) (Px 1 2))) (c8 u9 (c8 u6 (Px 2 1) (Px 0 2)) (c8 u6 (Px 0 1) (Px 2 2)))) (i0 3)) (f9 (j3 (c8 u6 (c8 u9 (c8 u6 (Px 1 1) (Px 0 2)) (c8 u6 (Px 0 1) (Px 1 2))) (c8 u9 (c8 u6 (Px 2 0) (Px 0 2)) (c8 u6 (Px 0 0) (Px 2 2)))) (i0 4)) (i8 (c8 u9 (i5 (one cT) (a8 (c8 (i9 (fun i j=>decide (j<i))) (dL 3) (dL 4)) a9)) (i5 (one cT) (a8 (c8 (i9 (fun i j=>decide (i<j))) (dL 3) (dL 4)) a9))))))
def Q9:c9:=B3 5 (jd)
def ij (J:c9) (U:c9) (Y:c9) (B:c9):DM:=(f9 (j3 (d8 J (a8 (c8 d6 (d8 B (a8 (dV 1) a9)) (Pw 0)) (a8 (d8 Y (a8 (c8 d6 (d8 B (a8 (dV 0) a9)) (Pw 0)) a9)) a9))) (i0 2)) (f9 (j3 (d8 J (a8 (c8 d6 (d8 B (a8 (dV 1) a9)) (Pw 1)) (a8 (d8 Y (a8 (c8 d6 (d8 B (a8 (dV 0) a9)) (Pw 1)) a9)) a9))) (i0 3)) (i8 (d8 J (a8 (d8 U (a8 (dV 2) (a8 (dV 2) a9))) (a8 (d8 U (a8 (dV 3) (a8 (dV 3) a9))) a9))))))
def kE (Y:c9) (J:c9) (U:c9) (B:c9):c9:=B3 4 (ij Y J U B)
def cq:DM:=(f9 (j6 (dB (c8 (i9 (fun i j=>decide (j<i))) (dL 0) (Pw 0))) (i8 (Pw 1)) j7) (f9 (j6 (dB (c8 (i9 (fun i j=>decide (i<j))) (dL 0) (Pw 0))) (i8 (j4 w4 (Pw 1))) j7) (i8 (Pw 0))))
def iP:c9:=B3 1 (cq)
def gv (B:c9):DM:=(f9 (j3 (c8 u6 (Px 0 0) (c8 u9 (c8 u6 (Px 1 1) (Px 2 2)) (c8 u6 (Px 2 1) (Px 1 2)))) (i0 3)) (f9 (j3 (c8 u9 (dL 3) (c8 u6 (Px 0 1) (c8 u9 (c8 u6 (Px 1 0) (Px 2 2)) (c8 u6 (Px 2 0) (Px 1 2))))) (i0 3)) (f9 (j3 (c8 n8 (dL 3) (c8 u6 (Px 0 2) (c8 u9 (c8 u6 (Px 1 0) (Px 2 1)) (c8 u6 (Px 2 0) (Px 1 1))))) (i0 3)) (i8 (d8 B (a8 (dV 3) a9))))))
def wq (B:c9):c9:=B3 4 (gv B)
def jg:DM:=(f9 (j6 (l7 (dL 1)) (i8 (j8 (W2 cz (a8 (dL 0) (a8 (c8 n8 (J9 (dL 0) (K9 (Pw 1)) L9) (J9 (dL 0) L9 (K9 (Pw 1)))) a9))))) j7) (i8 (j8 (W2 cz (a8 (dL 0) (a8 (J9 (dL 0) (K9 (Pw 1)) L9) a9))))))
def jW:c9:=B3 2 (jg)
def tO (B:c9):DM:=(i8 (d8 B (a8 (dV 0) (a8 (dC (.bl true)) a9))))
def wF (B:c9):c9:=B3 1 (tO B)
def gU (J:c9) (U:c9) (B:c9) (Y:c9):DM:=(f9 (j3 (d8 Y (a8 (dV 0) (a8 (dV 1) (a8 (dV 2) a9)))) (i0 3)) (f9 (j6 (dB (c8 r8 (dL 3) (Pw 0))) (i8 (c8 (i9 (fun i j=>decide (i<j))) (dL 3) (Pw 0))) j7) (i8 (c8 (i9 (fun i j=>decide (i<j))) (c8 d6 (d8 J (a8 (d8 B (a8 (dV 0) (a8 (dV 1) a9))) (a8 (d8 U (a8 (d8 B (a8 (dV 0) (a8 (dV 2) a9))) a9)) a9))) (Pw 0)) (Pw 0)))))
def uP (U:c9) (J:c9) (B:c9) (Y:c9):c9:=B3 4 (gU U J B Y)
abbrev rE (m0i:c9) (m0j:c9):DM:=(j6 (l7 (d8 m0j (a8 (dV 2) (a8 (dV 1) a9)))) (j3 (dV 2) (i0 1)) j7)
abbrev vJ (m0i:c9) (m0j:c9):DM:=(j6 (t7 (dB (c8 r8 (dL 2) (dL 4))) (o7 (dB (c8 cL (dL 5) (dC .non))) (l7 (d8 m0i (a8 (dV 4) (a8 (dV 5) (a8 (dV 2) a9))))))) (j3 (dV 2) (i0 5)) j7)
abbrev W4 (m0i:c9) (m0j:c9):DM:=(f9 (Z2 3 (dV 4)) (f9 (j3 (dC .non) (i0 5)) (f9 (R4 (dV 0) (i0 2) (vJ m0i m0j)) (j3 (v7 (o7 (dB (c8 cL (dL 5) (dC .non))) (dB (c8 (i9 (fun i j=>decide (j<i))) (i5 (one i6) (a8 (dL 3) a9)) (i5 (one i6) (a8 (dL 0) a9))))) (dV 1) (dV 5)) (i0 4)))))
def ck (B:c9) (J:c9):DM:=(f9 (j3 (Px 0 0) (i0 1)) (f9 (R4 (dV 0) (i0 2) (rE B J)) (f9 (E4 3 (j9 a9)) (f9 (j3 (dV 1) (i0 4)) (f9 (Q7 (o7 (dB (c8 r8 (dL 4) (dL 1))) (dB (c8 pEq (dL 3) (j8 (j9 a9))))) (W4 B J)) (i8 (v7 (dB (c8 (i9 (fun i j=>decide (j<i))) (i5 (one i6) (a8 (dL 3) a9)) (Pw 2))) (i5 (one bK) (a8 (dL 3) a9)) (dC .non))))))))
def oA (B:c9) (J:c9):c9:=B3 6 (ck B J)
abbrev iW (m0l:c9) (m02:c9) (m05:c9) (mt:c9) (mo:c9) (m03:c9) (m00:c9):DM:=(f9 (Z2 6 (dV 5)) (j3 (d8 m02 (a8 (dV 5) (a8 (d8 m05 (a8 (i4 (a8 (dV 7) (a8 (Pw 1) a9))) (a8 (dV 4) a9))) (a8 (d8 m05 (a8 (i4 (a8 (dV 8) (a8 (Pw 1) a9))) (a8 (dV 4) a9))) a9)))) (i0 5)))
def fQ (B:c9) (Y:c9) (Z:c9) (mt:c9) (mo:c9) (U:c9) (J:c9):DM:=(f9 (E4 1 (K6 [0] (G8 (a8 (Pw 3) a9)) L8 (d8 J (a8 (dV 1) a9)))) (f9 (j6 (t7 (dB (c8 pEq (d8 mo (a8 (dV 0) (a8 (Pw 3) a9))) (Pw 0))) (dB (c8 r8 (d8 U (a8 (Px 1 0) (a8 (Px 1 1) (a8 (Px 1 2) a9)))) (Pw 0)))) (i8 (d8 B (a8 (dV 1) a9))) j7) (f9 (E4 2 (j9 (a8 (i4 (a8 (Pw 1) (a8 (Pw 0) a9))) (a8 (i4 (a8 (Pw 2) (a8 (Pw 1) a9))) (a8 (i4 (a8 (Pw 1) (a8 (Pw 1) a9))) (a8 (i4 (a8 (Pw 1) (a8 (Pw 2) a9))) (a8 (i4 (a8 (Pw 0) (a8 (Pw 1) a9))) (a8 (i4 (a8 (j4 w4 (Pw 1)) (a8 (Pw 2) a9))) (a8 (i4 (a8 (j4 w4 (Pw 1)) (a8 (Pw 1) a9))) (a8 (i4 (a8 (j4 w4 (Pw 2)) (a8 (Pw 1) a9))) a9)))))))))) (f9 (E4 3 (K6 [0] (dR (dV 2)) (dB (c8 pEq (d8 mo (a8 (dV 1) (a8 (Pw 3) a9))) (Pw 0))) (dV 0))) (f9 (j3 (v7 (dB (c8 (i9 (fun i j=>decide (j<i))) (i5 (one i6) (a8 (dL 3) a9)) (Pw 1))) (dV 3) (j8 (j9 (a8 (Px 2 0) (a8 (c8 d6 (dL 2) (c8 n8 (Pw 2) (d8 mo (a8 (dV 0) (a8 (Pw 5) a9))))) a9))))) (i0 3)) (f9 (j3 (d8 mt (a8 (c8 n8 (Pw 1) (d8 mo (a8 (dV 0) (a8 (Pw 5) a9)))) (a8 (c8 n8 (Pw 1) (d8 mo (a8 (dV 0) (a8 (Pw 3) a9)))) a9))) (i0 4)) (f9 (j3 (Px 1 0) (i0 5)) (f9 (E4 6 (j9 a9)) (f9 (R4 (j8 (Q0 S8 (dL 3) (j8 (dJ [] (dR (dV 3)) L8 (i4 (a8 (c8 u9 (Pw 0) (dL 0)) (a8 (c8 u9 (Pw 0) (dL 1)) a9))))))) (A0 2 (p9 (i0 7) (p9 (i0 8) A1))) (iW B Y Z mt mo U J)) (i8 (d8 B (a8 (dV 6) a9))))))))))))
def tm (U:c9) (B:c9) (Y:c9) (mt:c9) (mo:c9) (Z:c9) (J:c9):c9:=B3 9 (fQ U B Y mt mo Z J)
abbrev jD (m06:c9) (m07:c9):DM:=(j6 (dB (c8 pEq (d8 m06 (a8 (dV 2) (a8 (dV 3) (a8 (dV 1) a9)))) (j4 w4 (Pw 1)))) (i8 (dC (.bl false))) j7)
def gP (J:c9) (B:c9):DM:=(f9 (R4 (d8 B (a8 (dV 0) a9)) (A0 2 (p9 (i0 2) (p9 (i0 3) A1))) (jD J B)) (i8 (dC (.bl true))))
def pW (J:c9) (B:c9):c9:=B3 4 (gP J B)
abbrev iz (m06:c9) (m07:c9):DM:=(j6 (dB (c8 r8 (d8 m06 (a8 (Px 3 0) (a8 (Px 3 1) (a8 (dV 4) a9)))) (j4 w4 (Pw 1)))) (i8 (dC (.bl false))) j7)
def gL (J:c9) (B:c9):DM:=(f9 (j3 (c8 d6 (d8 B (a8 (dV 0) a9)) (dL 1)) (i0 3)) (f9 (R4 (dV 2) (i0 4) (iz J B)) (i8 (dC (.bl true)))))
def vZ (J:c9) (B:c9):c9:=B3 5 (gL J B)
def xU (B:c9):DM:=(i8 (w6 (d8 B (a8 (dV 1) a9)) (bD (i9 (fun i j=>decide (i<=j))) (i9 (fun i j=>decide (i<j))) (Pw 0) (dL 1) (i5 (one i6) (a8 (dL 0) a9)))))
def sQ (B:c9):c9:=B3 2 (xU B)
def kX (B:c9):DM:=(i8 (j8 (K6 [1,0] (G8 (a8 (i5 (one i6) (a8 (dL 0) a9)) a9)) L8 (d8 B (a8 (c8 d6 (dL 2) (dL 0)) (a8 (c8 d6 (dL 2) (c8 F5 (c8 n8 (dL 0) (Pw 1)) (i5 (one i6) (a8 (dL 2) a9)))) (a8 (dV 1) a9)))))))
def pB (B:c9):c9:=B3 2 (kX B)
abbrev mC (m0h:c9) (m04:c9) (mo:c9):DM:=(f9 (E4 5 (K6 [2,1,4] (G8 (a8 (i5 (one i6) (a8 (c8 d6 (dL 1) (dL 4)) a9)) a9)) (dB (c8 (i9 (fun i j=>decide (i<j))) (c8 d6 (d8 m04 (a8 (c8 d6 (dL 2) (dL 3)) (a8 (dV 1) a9))) (dL 0)) (Pw 0))) (dV 0))) (j6 (t7 (dB (c8 r8 (dL 5) (j8 (j9 a9)))) (dB (c8 (i9 (fun i j=>decide (j<i))) (d8 mo (a8 (dV 0) (a8 (Pw 6) a9))) (Pw 0)))) (jc 3 4 (c8 d6 (dL 5) (d8 mo (a8 (dV 0) (a8 (i5 (one i6) (a8 (dL 5) a9)) a9))))) j7))
def jX (B:c9) (J:c9) (mo:c9):DM:=(f9 (E4 3 (K6 [0] (dR (dV 1)) L8 (d8 mo (a8 (dV 1) (a8 (i5 (one i6) (a8 (dL 0) a9)) a9))))) (f9 (X9 (a8 (i5 (one i6) (a8 (dL 1) a9)) a9) (i0 4) (mC B J mo)) (f9 (j3 (i4 (a8 (dC (.str "out")) (a8 (i5 (one bK) (a8 (dL 3) a9)) a9))) (i0 6)) (f9 (E4 7 (K6 [2,1] (G8 (a8 (i5 (one i6) (a8 (dL 1) a9)) a9)) (dB (c8 (i9 (fun i j=>decide (j<=i))) (i5 (one bI) (a8 (d8 J (a8 (c8 d6 (dL 2) (dL 0)) (a8 (dV 1) a9))) a9)) (Pw 0))) (dV 0))) (f9 (E4 8 (j9 (a8 (dV 6) (a8 (i4 (a8 (dC (.str "in")) (a8 (c8 d6 (j8 (Q0 S8 (dL 7) (j8 (j9 (a8 (Pw 0) a9))))) (Pw 0)) a9))) (a8 (i4 (a8 (dC (.str "in")) (a8 (i5 (one i6) (a8 (dL 1) a9)) a9))) (a8 (i4 (a8 (dC (.str "out")) (a8 (J9 (Px 6 1) (K9 (Pw 1)) L9) a9))) (a8 (i4 (a8 (dC (.str "out")) (a8 (c8 n8 (Px 6 1) (i4 (a8 (Pw 0) a9))) a9))) a9))))))) (i8 (j8 (Q0 S8 (dL 8) (j8 (j9 (a8 (i4 (a8 (dC (.str "in")) (a8 (Px 6 1) a9))) (a8 (i4 (a8 (dC (.str "out")) (a8 (Pw 0) a9))) (a8 (d8 B (a8 (dV 0) (a8 (dV 6) a9))) (a8 (d8 B (a8 (dV 0) (a8 (d8 B (a8 (dV 0) (a8 (dV 6) a9))) a9))) a9))))))))))))))
def vX (B:c9) (J:c9) (mo:c9):c9:=B3 9 (jX B J mo)
abbrev ek (m0n:c9) (m0o:c9):DM:=(f9 (j6 (t9 (l7 (d8 m0o (a8 (c8 d6 (dL 0) (dL 3)) (a8 (dV 4) a9))))) (V3 "NoPaper" (a8 (dC (.str "number")) (a8 (dV 3) a9))) j7) (j6 (t9 (l7 (d8 m0n (a8 (c8 d6 (dL 0) (dL 3)) (a8 (dV 4) (a8 (i4 (a8 (dV 1) a9)) a9)))))) (V3 "NoPaper" (a8 (dC (.str "place")) (a8 (dV 3) a9))) j7))
def bo (J:c9) (B:c9):DM:=(f9 (j6 (dB (c8 r8 (i5 (one i6) (a8 (dL 2) a9)) (i5 (one i6) (a8 (dL 0) a9)))) (V3 "NoPaper" (a8 (dC (.str "number")) (a8 (Pw 0) a9))) j7) (f9 (cy (a8 (dV 2) a9) (A0 2 (p9 (i0 3) (p9 (i0 4) A1))) (ek J B)) (i8 (dC (.bl true)))))
def oZ (J:c9) (B:c9):F6:=V5 5 (bo J B)
def fE (B:c9):DM:=(f9 (j6 (o7 (t9 (l7 (j4 (C5 "tuple") (dL 0)))) (dB (c8 r8 (i5 (one i6) (a8 (dL 0) a9)) (Pw 2)))) (i8 (dC (.bl false))) j7) (f9 (j6 (dB (c8 pEq (Px 0 0) (dC (.str "in")))) (i8 (w6 (d8 B (a8 (Px 0 1) a9)) (c8 (i9 (fun i j=>decide (j<=i))) (Px 0 1) (Pw 0)))) j7) (i8 (w6 (c8 pEq (Px 0 0) (dC (.str "out"))) (j4 (C5 "tuple") (Px 0 1))))))
def pV (B:c9):c9:=B3 1 (fE B)
def aX (B:c9):DM:=(f9 (j6 (dB (c8 (i9 (fun i j=>decide (j<=i))) (dL 2) (i5 (one i6) (a8 (dL 0) a9)))) (V3 "NoPaper" (a8 (dC (.str "number")) (a8 (Pw 0) a9))) j7) (f9 (j6 (t9 (l7 (d8 B (a8 (c8 d6 (dL 0) (dL 2)) (a8 (dV 1) a9))))) (V3 "NoPaper" (a8 (dC (.str "place")) (a8 (Pw 0) a9))) j7) (i8 (dC (.bl true)))))
def pD (B:c9):F6:=V5 3 (aX B)
def bh (U:F6) (B:F6) (J:c9):DM:=(f9 (j6 (t9 (l7 (d8 J (a8 (dV 2) a9)))) (V3 "NoPaper" (a8 (dC (.str "shape")) (a8 (Pw 0) a9))) j7) (f9 (j6 (dB (c8 pEq (Px 2 0) (dC (.str "in")))) (fk (aV B (a8 (dV 0) (a8 (dV 1) (a8 (Px 2 1) a9))))) j7) (fk (aV U (a8 (dV 0) (a8 (dV 1) (a8 (Px 2 1) a9)))))))
def sC (U:F6) (B:F6) (J:c9):F6:=V5 3 (bh U B J)
def fR (B:F6):DM:=(f9 (j3 (dC .non) (i0 3)) (f9 (dP ["NoPaper"] 4 (fV (aV B (a8 (dV 0) (a8 (dV 1) (a8 (dV 2) a9)))) (i0 3)) (f9 (j3 (dC (.str "odd")) (i0 3)) (j6 (t7 (l7 (j4 (iQ ["NoPaper"] "NoPaper") (dV 4))) (l7 (j4 (lY ["NoPaper"]) (dV 4)))) (j6 (t9 (l7 (j4 (rL ["NoPaper"] ["NoJoin", "NoOutline", "NoRow", "NoText", "TooMany"]) (dV 4)))) (j3 (i4 (a8 (j4 (kB ["NoPaper"] "word") (dV 4)) (a8 (j4 (kB ["NoPaper"] "at") (dV 4)) a9))) (i0 3)) j7) j7))) (i8 (dV 3))))
def kI (B:F6):c9:=B3 5 (fR B)
def yE:DM:=(i8 (w6 (j4 (C5 "int") (dL 0)) (w6 (B0 (j4 (C5 "bool") (dL 0))) (c8 (i9 (fun i j=>decide (j<=i))) (dL 0) (Pw 0)))))
def M1:c9:=B3 1 (yE)
abbrev aM (m04:c9) (m0m:c9):DM:=(f9 (j6 (o7 (t9 (l7 (d8 m0m (a8 (c8 d6 (dL 4) (dL 5)) a9)))) (dB (c8 (i9 (fun i j=>decide (j<=i))) (c8 d6 (dL 4) (dL 5)) (i5 (one i6) (a8 (c8 d6 (dL 0) (dL 5)) a9))))) (i8 (i4 (a8 (dC (.str "number")) (a8 (dV 5) a9)))) j7) (j6 (dB (c8 (i9 (fun i j=>decide (j<=i))) (c8 d6 (d8 m04 (a8 (c8 d6 (dL 0) (dL 5)) (a8 (dV 1) a9))) (c8 d6 (dL 4) (dL 5))) (Pw 0))) (i8 (i4 (a8 (dC (.str "place")) (a8 (dV 5) a9)))) j7))
def T9 (J:c9) (B:c9):DM:=(f9 (j6 (o7 (t9 (l7 (j4 (C5 "tuple") (dL 2)))) (o7 (dB (c8 r8 (i5 (one i6) (a8 (dL 2) a9)) (Pw 2))) (t9 (l7 (j4 (C5 "str") (Px 2 0)))))) (i8 (i4 (a8 (dC (.str "shape")) (a8 (Pw 0) a9)))) j7) (f9 (j3 (dV 2) (A0 2 (p9 (i0 3) (p9 (i0 4) A1)))) (f9 (j6 (t7 (dB (c8 pEq (dL 3) (dC (.str "in")))) (l7 (d8 B (a8 (dV 4) a9)))) (f9 (j6 (dB (c8 (i9 (fun i j=>decide (j<=i))) (dL 4) (i5 (one i6) (a8 (dL 0) a9)))) (i8 (i4 (a8 (dC (.str "number")) (a8 (Pw 0) a9)))) j7) (i8 (v7 (dB (c8 (i9 (fun i j=>decide (i<j))) (i5 (one bI) (a8 (d8 J (a8 (c8 d6 (dL 0) (dL 4)) (a8 (dV 1) a9))) a9)) (Pw 0))) (i4 (a8 (dC (.str "place")) (a8 (Pw 0) a9))) (dC (.bl true))))) j7) (f9 (j6 (o7 (dB (c8 r8 (dL 3) (dC (.str "out")))) (t9 (l7 (j4 (C5 "tuple") (dL 4))))) (i8 (i4 (a8 (dC (.str "shape")) (a8 (Pw 0) a9)))) j7) (f9 (j6 (dB (c8 r8 (i5 (one i6) (a8 (dL 4) a9)) (i5 (one i6) (a8 (dL 0) a9)))) (i8 (i4 (a8 (dC (.str "number")) (a8 (Pw 0) a9)))) j7) (f9 (X9 (a8 (i5 (one i6) (a8 (dL 0) a9)) a9) (i0 5) (aM J B)) (i8 (dC (.bl true)))))))))
def qO (J:c9) (B:c9):c9:=B3 6 (T9 J B)
abbrev iL (m08:c9) (m0b:c9) (m0c:c9) (m02:c9) (m00:c9) (mo:c9) (m0d:c9) (m0e:c9):DM:=(f9 (j3 (i5 (one S3) (a8 (i4 (a8 (dV 3) (a8 (dV 6) a9))) a9)) (i0 7)) (f9 (j6 (dB (c8 r8 (i5 (one S3) (a8 (d8 m08 (a8 (dV 3) (a8 (dV 5) (a8 (dV 6) a9)))) a9)) (i5 (one S3) (a8 (d8 m0b (a8 (dV 3) (a8 (dV 5) (a8 (dV 6) a9)))) a9)))) (i8 (dC (.bl false))) j7) (j6 (dB (c8 r8 (i5 (one S3) (a8 (i4 (a8 (dV 3) (a8 (dV 6) a9))) a9)) (dL 7))) (i8 (dC (.bl false))) j7)))
abbrev mY (m08:c9) (m0b:c9) (m0c:c9) (m02:c9) (m00:c9) (mo:c9) (m0d:c9) (m0e:c9):DM:=(R4 (d8 m0c (a8 (dV 1) (a8 (dV 3) (a8 (dV 5) a9)))) (i0 6) (iL m08 m0b m0c m02 m00 mo m0d m0e))
abbrev fN (m08:c9) (m0b:c9) (m0c:c9) (m02:c9) (m00:c9) (mo:c9) (m0d:c9) (m0e:c9):DM:=(f9 (j3 (i5 (one bK) (a8 (j8 (K6 [1] (G8 (a8 (d8 mo (a8 (dV 1) (a8 (Pw 4) a9))) a9)) L8 (d8 m0d (a8 (dV 1) a9)))) a9)) (i0 3)) (f9 (j3 (v7 (dB (c8 r8 (dL 3) (i4 a9))) (c8 d6 (Px 3 0) (d8 mo (a8 (dV 1) (a8 (i5 (one i6) (a8 (Px 3 0) a9)) a9)))) (d8 m00 (a8 (dV 1) a9))) (i0 4)) (R4 (j8 (j9 (a8 (dV 4) (a8 (d8 m00 (a8 (dV 1) a9)) (a8 (d8 m02 (a8 (dV 4) (a8 (i4 (a8 (Pw 1000) (a8 (Pw 1) a9))) (a8 (i4 (a8 (Pw 7) (a8 (Pw 1) a9))) a9)))) a9))))) (i0 5) (mY m08 m0b m0c m02 m00 mo m0d m0e))))
abbrev ja (m08:c9) (m0b:c9) (m0c:c9) (m02:c9) (m00:c9) (mo:c9) (m0d:c9) (m0e:c9):DM:=(j6 (dB (c8 r8 (d8 m08 (a8 (i4 a9) (a8 (dV 5) (a8 (dV 6) a9)))) (i4 (a8 (dC (.str "shape")) (a8 (Pw 0) a9))))) (i8 (dC (.bl false))) j7)
def kZ (B:c9) (Y:c9) (U:c9) (Z:c9) (m00:c9) (mo:c9) (m0d:c9) (J:c9):DM:=(f9 (j3 (d8 J (a8 (dV 0) a9)) (i0 1)) (f9 (X9 (a8 (Pw 4) a9) (i0 2) (fN B Y U Z m00 mo m0d J)) (f9 (j3 (i4 (a8 (Pw 0) (a8 (Pw 0) (a8 (Pw 1) a9)))) (i0 5)) (f9 (E4 8 (j9 (a8 (dC .non) (a8 (i4 a9) (a8 (j8 (j9 (a8 (dC (.str "out")) (a8 (i4 a9) a9)))) (a8 (i4 (a8 (dC (.str "out")) (a8 (j8 (j9 a9)) a9))) (a8 (i4 (a8 (dC (.str "in")) (a8 (dC (.bl true)) a9))) (a8 (i4 (a8 (dC (.str "in")) (a8 (j4 w4 (Pw 1)) a9))) (a8 (i4 (a8 (j8 (j9 (a8 (dC (.str "out")) a9))) (a8 (i4 a9) a9))) (a8 (i4 (a8 (dC (.str "out")) (a8 (i4 a9) (a8 (i4 a9) a9)))) (a8 (dC (.str "out")) a9))))))))))) (f9 (R4 (dV 8) (i0 6) (ja B Y U Z m00 mo m0d J)) (i8 (w6 (c8 ox (d8 B (a8 (i4 a9) (a8 (dV 5) (a8 (i4 (a8 (dC (.str "out")) (a8 (i4 a9) a9))) a9)))) (dC (.bl true))) (c8 pEq (d8 B (a8 (i4 a9) (a8 (dV 5) (a8 (i4 (a8 (dC (.str "in")) (a8 (Pw 0) a9))) a9)))) (i4 (a8 (dC (.str "number")) (a8 (Pw 0) a9)))))))))))
def gf (Z:c9) (J:c9) (B:c9) (U:c9) (Y:c9) (mo:c9) (m0d:c9) (m0e:c9):c9:=B3 9 (kZ Z J B U Y mo m0d m0e)
end T
namespace DL
open PySem L2
def cR {n k:Nat}(J:0<k) (h:n<2 ^ k):n.log2<k:=by
 by_cases B:n=0
 .subst B;simpa using J
 .exact(Nat.log2_lt B).mpr h
def eX {i:Int}(h:i.natAbs<2 ^ 200):D6 i=true:=by
 have:=cR #[] h;exact JJ ∅
def Cw {j:Int}(B:j≠0) (h:j.natAbs<2 ^ 200):Q4 j=true:=by
 have:=cR #[] h;unfold Q4;rw[JJ B,KS];exact JJ ∅
def tf (i:Int):D0 (.int i)=true:=by simp[D0,D.plain,D.py,SeqAt.shaped,PyData.canLay0,PyData.depth]
def Y3 (i j:Int):r8 (.int i) (.int j)=some (.bl (!decide (i=j))):=by
 simp only[r8,tf,Lg,Kh,D.py,PyData.eqv,MG]
def bp (i j:Int):pEq (.int i) (.int j)=some (.bl (decide (i=j))):=by
 simp only[pEq,tf,Lg,Kh,D.py,PyData.eqv,MG]
def GH {i:Int}(h:i.natAbs.log2<1920):(PySem.Str.ofString (toString i)).length<=1921:=PyProof.Rows.int_text_len_1921 h
def zw (h:aF d=true):S3 d=some (.str d.py.shown):=by unfold S3;rw[iO h]
def qE (f:FS) (h:f.kind=0):f.get "at" = some (.int f.pos):=by unfold FS.get;rw[iO h,iR (by decide +kernel),iO rfl]
def fu {α:Type}{xs:List α}{i:Int}(B:0<=i) (h1:i<xs.length):D8 xs i=xs[i.toNat]?:=by
 unfold D8 V0;rw[iO B,iO h1];rfl
def Y9 {a b:Int}(h:0<b):0<=a.fmod b/\a.fmod b<b:=by
 rw[Oq a ∅];exact#[Int.emod_nonneg a ∅,Int.emod_lt_of_pos a h]
def o8 {a b:DM}{s:DS}(h:a s=some (.next,s1)):f9 a b s=b s1:=by simp[f9,h,B1]
def L0 {a b:DM}{s:DS}(h:a s=some (.ret d,s1)):f9 a b s=some (.ret d,s1):=by simp[f9,h,B1]
def Ea {f:DE}{s:DS}(h:f s=some (d,s1)):j3 f (i0 i) s=some (.next,{ s1 with sl:=s1.sl.set i (.v d) }):=by simp[j3,h,i0]
def jM {a:DA}{s:DS}{xs:vD_}{fs:vO_}(B:a s=some (xs,s1)) (J:m xs s1.fs=some (d,fs)):d8 m a s=some (d,{ s1 with fs:=fs }):=by
 unfold d8;rw[B,xl,J];rfl
def d7 {p:D->D->Option D}{a b:DE}{s:DS}{x z:D}(h1:a s=some (x,s1)) (h2:b s1=some (y,s2)) (B:p x y=some z):c8 p a b s=some (z,s2):=by
 unfold c8;rw[h1,xl,h2,xl,B];rfl
def o6 {a:DE}{b:DA}{s:DS}{x:D}{xs:vD_}(h1:a s=some (x,s1)) (h2:b s1=some (xs,s2)):a8 a b s=some (x::xs,s2):=by
 unfold a8;rw[h1,xl,h2];rfl
def B4 {f:DE}{t:D->DS->Option DS}{s:DS}(h1:f s=some (d,s1)) (h2:t d s1=some s2):j3 f t s=some (.next,s2):=by
 unfold j3;rw[h1,xl,h2];rfl
def M9 {c:DT}{a b:DM}{s:DS}(h:c s=some (true,s1)):j6 c a b s=a s1:=by simp[j6,h]
def df {c:DT}{a b:DM}{s:DS}(h:c s=some (false,s1)):j6 c a b s=b s1:=by simp[j6,h]
def C7 {f:DE}{s:DS}(h:f s=some (d,s1)):i8 f s=some (.ret d,s1):=by simp[i8,h]
def B6 {f:DE}{s:DS}{b:Bool}(h:f s=some (.bl b,s1)):dB f s=some (b,s1):=by simp[dB,h]
def y9 {n:Nat}{b:DM}{fs:vO_}{s:DS}(h:b #[ds.map .v++List.replicate (n - ds.length) .no,fs]=some (.ret d,s)):B3 n b ds fs=some (d,s.fs):=by simp[B3,h]
def w8 {a:DA}{fs:vO_}{xs:vD_}(B:a #[sl,fs]=some (xs,#[sl,fs])) (J:m xs fs=some (d,fs)):d8 m a #[sl,fs]=some (d,#[sl,fs]):=jM (s1:=#[sl,fs]) B J
def J0 {a:DA}{fs:vO_}{xs:vD_}(B:a #[sl,fs]=some (xs,#[sl,fs])) (J:m xs fs=some (d,fs')):d8 m a #[sl,fs]=some (d,#[sl,fs']):=jM (s1:=#[sl,fs]) B J
def cw {a:DA}{fs B:vO_}{xs:vD_}(J:a #[sl,fs]=some (xs,#[sl',fs'])) (U:m xs fs'=some (d,B)):d8 m a #[sl,fs]=some (d,#[sl',B]):=jM (s1:=#[sl',fs']) J U
def nO {a b c:DE}{s B:DS}{x z:D}(h1:a s=some (x,s1)) (h2:b s1=some (y,s2)) (J:c s2=some (z,B)):i4 (a8 a (a8 b (a8 c a9))) s=some (.tup [x,y,z],B):=by
 unfold i4;rw[o6 h1 (o6 h2 (o6 J rfl)),xl];exact iO (e:=(none:Option (D × DS))) (show 3<=sizeLine by decide)
def W9 {t:D->DS->Option DS}{b:DM}{r:vD_}{s:DS}(h1:t d s=some s1) (h2:b s1=some (.next,s2)):C6 t b (d::r) s=C6 t b r s2:=by
 rw[C6,h1,xl,h2];rfl
def D5 {a b:DE}{s:DS}{x:D}(h1:a s=some (x,s1)) (h2:b s1=some (y,s2)):i4 (a8 a (a8 b a9)) s=some (.tup [x,y],s2):=by
 unfold i4;rw[o6 h1 (o6 h2 rfl),xl];exact iO (e:=(none:Option (D × DS))) (show 2<=sizeLine by decide)
def D7 {f:DE}{s:DS}{b:Bool}(h:f s=some (.bl b,s1)):l7 f s=some (b,s1):=by
 unfold l7;rw[h];rfl
def E8 {a:DT}{s:DS}{b:Bool}(h:a s=some (b,s1)):t9 a s=some (!b,s1):=by
 unfold t9;rw[h];rfl
def af {a b:DT}{s:DS}{r:Option (Bool × DS)}(h1:a s=some (true,s1)) (h2:b s1=r):t7 a b s=r:=by
 unfold t7;rw[h1,xl,iO rfl];exact h2
def jk {a b:DT}{s:DS}(h1:a s=some (false,s1)):t7 a b s=some (false,s1):=by
 unfold t7;rw[h1,xl,iR JQ]
def au {a b:DT}{s:DS}(h1:a s=some (true,s1)):o7 a b s=some (true,s1):=by
 unfold o7;rw[h1,xl,iO rfl]
def U4 {a b:DT}{s:DS}{r:Option (Bool × DS)}(h1:a s=some (false,s1)) (h2:b s1=r):o7 a b s=r:=by
 unfold o7;rw[h1,xl,iR JQ];exact h2
def D1 {c:DT}{a:DM}{s:DS}(h:c s=some (false,s1)):j6 c a j7 s=some (.next,s1):=by
 rw[df h];rfl
def cU {f:DA}{s:DS}(h:f s=some (ds,s1)) (hi:i<s1.sl.length):E4 i f s=some (.next,{ s1 with sl:=s1.sl.set i (.own ds) }):=by
 unfold E4;rw[h,xl,iO hi]
def Hm {s:DS}{R:vD_}(h:fi s=some (ds,s1)) (hz:ds.length<=sizeLine) (c:D3 (mk2 idx s1.sl) fc fe ds s1.fs=some (R,fs')):dJ idx fi fc fe s=some (R,{ s1 with fs:=fs' }):=by
 unfold dJ;rw[h,xl,iO hz,c];rfl
def ji {f:DA}{s:DS}(h:f s=some (ds,s1)):j8 f s=some (.lst ds,s1):=by
 unfold j8;rw[h];rfl
def ic {p:D->D->Option (List D)}{a b:DE}{s:DS}{x:D}{z:vD_}(h1:a s=some (x,s1)) (h2:b s1=some (y,s2)) (B:p x y=some z):Q0 p a b s=some (z,s2):=by
 unfold Q0;rw[h1,xl,h2,xl,B];rfl
def jG {s:DS}{R:vD_}(h:fi s=some (ds,s1)) (hz:ds.length<=sizeLine) (c:D3 (fun d=>some (.v d::X6 idx s1.sl)) fc fe ds s1.fs=some (R,s1.fs)):K6 idx fi fc fe s=some (R,s1):=by
 unfold K6;rw[h,xl,iO hz,c];rfl
def oF {f:DE}{s:DS}{B:vD_}(U:s.sl[i]? = some (.own B)) (h:f s=some (d,s1)) (h1:s1.sl[i]? = some (.own ds)) (J:ds.length<sizeLine):Z2 i f s=some (.next,{ s1 with sl:=s1.sl.set i (.own (ds++[d])) }):=by
 unfold Z2;rw[U];show (f s).bind _=_;rw[h,xl];show (match s1.sl[i]? with | some (.own ds)=>_ | _=>_)=_;rw[h1];exact iO J
def DF {a b:DE}{s:DS}{x:D}(h:a s=some (x,s1)) (h2:b s1=some (y,s2)):j9 (a8 a (a8 b a9)) s=some ([x,y],s2):=by
 unfold j9;rw[o6 h (o6 h2 rfl),xl];exact iO (e:=(none:Option (List D × DS))) (show 2<=sizeLine by decide)
def aZ {p:D->Option D}{a:DE}{s:DS}{x:D}(h:a s=some (x,s1)) (B:p x=some d):i5 (one p) (a8 a a9) s=some (d,s1):=by
 unfold i5;rw[o6 h rfl,xl];show (p x).map _=_;rw[B];rfl
def bR {c:DT}{a b:DE}{s:DS}(h:c s=some (true,s1)):v7 c a b s=a s1:=by
 unfold v7;rw[h];rfl
def eU {c:DT}{a b:DE}{s:DS}(h:c s=some (false,s1)):v7 c a b s=b s1:=by
 unfold v7;rw[h];rfl
def fr (p:Rat):D:=.tup [.int p.num,.int p.den]
def Sz (k:Nat) (p:Rat):Prop:=p.num.natAbs<2 ^ k/\p.den<2 ^ k
def Sz.mono {k l:Nat}{p:Rat}(h:Sz k p) (B:k<=l):Sz l p:=
 #[JW h.1 (Nz #[] B),JW h.2 (Nz #[] B)]
def nz {a b:Int}(B:b≠0):(Rat.divInt a b).num.natAbs<=a.natAbs/\(Rat.divInt a b).den<=b.natAbs:=by
 constructor
 .rw[Rat.num_divInt,Int.natAbs_ediv_of_dvd (Int.dvd_mul_of_dvd_right (Int.gcd_dvd_right ..))];rw[Int.natAbs_mul,Int.natAbs_sign_of_ne_zero B,Nat.one_mul];exact NA _ _
 .rw[Ot,iR B];exact NA _ _
def Sz.of_divInt {k:Nat}{a b:Int}(B:b≠0) (h1:a.natAbs<2 ^ k) (h2:b.natAbs<2 ^ k):Sz k (Rat.divInt a b):=
 #[Ky (nz B).1 h1,Ky (nz B).2 h2]
def nS {a b k l:Nat}(h1:a<2 ^ k) (h2:b<2 ^ l):a*b<2 ^ (k+l):=by
 rw[Nat.pow_add];exact Nat.mul_lt_mul_of_lt_of_lt h1 h2
def Cv {a b k:Nat}(h1:a<2 ^ k) (h2:b<2 ^ k):a+b<2 ^ (k+1):=by
 rw[Nat.pow_succ];omega
def Bd (k:Nat) (i:Int):Prop:=i.natAbs<2 ^ k
def Bd.mono {k l:Nat}{i:Int}(h:Bd k i) (B:k<=l):Bd l i:=JW h (Nz #[] B)
def Bd.mul {k l:Nat}{i j:Int}(h1:Bd k i) (h2:Bd l j):Bd (k+l) (i*j):=by
 unfold Bd;rw[Int.natAbs_mul];exact nS h1 h2
def Bd.add {k l:Nat}{i j:Int}(h1:Bd k i) (h2:Bd l j):Bd (max k l+1) (i+j):=
 Ky (Int.natAbs_add_le i j) (Cv (h1.mono (Nat.le_max_left ..)) (h2.mono (Nat.le_max_right ..)))
def Bd.neg {k:Nat}{i:Int}(h1:Bd k i):Bd k (-i):=by unfold Bd;rw[Int.natAbs_neg];exact h1
def Bd.sub {k l:Nat}{i j:Int}(h1:Bd k i) (h2:Bd l j):Bd (max k l+1) (i - j):=by rw[Int.sub_eq_add_neg];exact h1.add h2.neg
theorem Bd.gcd {k:Nat}{i:Int}{j:Int}(h:Bd k j) (B:j≠0):Bd k (Int.gcd i j:Int):=by
 have:Int.gcd i j<=j.natAbs:=Nat.le_of_dvd ∅ (Nat.gcd_dvd_right i.natAbs j.natAbs);exact Ky this h
def Bd.bits {k:Nat}{i:Int}(h:Bd k i) (B:k<=8000):D6 i=true:=by
 have:=cR (k:=8000) #[] (h.mono B);exact JJ ∅
def Bd.div {k:Nat}{i:Int}(h:Bd k i) (J:i≠0) (B:k<=8000):Q4 i=true:=by
 have:=cR (k:=8000) #[] (h.mono B);unfold Q4;rw[JJ J,KS];exact JJ ∅
def Bd.lit {k:Nat}{i:Int}(h:decide (i.natAbs<2 ^ k)=true):Bd k i:=by unfold Bd;exact Kv h
theorem Sz.num {k:Nat}{p:Rat}(h:Sz k p):Bd k p.num:=h.1
theorem Sz.den {k:Nat}{p:Rat}(h:Sz k p):Bd k (p.den:Int):=h.2
def P5 (p:Rat):(p.den:Int)≠0:=by have:=p.den_nz;omega
def oi (p:Rat):(0:Int)<p.den:=by have:=p.den_nz;omega
def gj (p:Rat):p=Rat.divInt p.num p.den:=(NB p).symm
theorem Sz.mul {k l:Nat}{p q:Rat}(h1:Sz k p) (h2:Sz l q):Sz (k+l) (p*q):=by
 rw[gj p,gj q,Rat.divInt_mul_divInt];exact Sz.of_divInt (Ou (P5 p) (P5 q)) (Bd.mul h1.num h2.num) (Bd.mul h1.den h2.den)
theorem Sz.add {k l:Nat}{p q:Rat}(h1:Sz k p) (h2:Sz l q):Sz (k+l+1) (p+q):=by
 rw[gj p,gj q,Rat.divInt_add_divInt _ _ (P5 p) (P5 q)];refine Sz.of_divInt (Ou (P5 p) (P5 q)) ?_ (Bd.mono (Bd.mul h1.den h2.den) ∅);have J:=Bd.mul h1.num h2.den;have B:=Bd.mul h2.num h1.den;exact Bd.mono (Bd.add J B) ∅
def Sz.neg {k:Nat}{p:Rat}(h:Sz k p):Sz k (-p):=#[by rw[Rat.neg_num,Int.natAbs_neg];exact h.1,h.2]
def Sz.sub {k l:Nat}{p q:Rat}(h1:Sz k p) (h2:Sz l q):Sz (k+l+1) (p - q):=by rw[Rat.sub_eq_add_neg];exact h1.add h2.neg
def Sz.int {k:Nat}{i:Int}(h:Bd k i) (B:1<=k):Sz k (i:Rat):=#[h,JW (by decide:1<2 ^ 1) (Nz #[] B)]
def Sz.lit {k:Nat}{p:Rat}(h:decide (p.num.natAbs<2 ^ k/\p.den<2 ^ k)=true):Sz k p:=by unfold Sz;exact Kv h
def Ci {a b:Int}(B:0<b):((Rat.divInt a b).den:Int)=b / (Int.gcd a b:Int):=by
 rw[Ot,iR ∅,Ov];rw[MH,Int.natAbs_of_nonneg ∅]
end DL
namespace T
open PySem L2 DL
def rM (a:Int):(if a<0 then -a else a)=((a.natAbs:Nat):Int):=by split <;> omega
def jq {a g c:Int}(B:g≠0) (e:a=g*c):a.fdiv g=c:=by subst e;exact Int.mul_fdiv_cancel_left c B
theorem yo (a b:Int) (J:b≠0):let g:Int:=if b<0 then -(Int.gcd a b:Int) else (Int.gcd a b:Int)
  g≠0/\a.fdiv g=(Rat.divInt a b).num/\b.fdiv g=((Rat.divInt a b).den:Int):=by
 intro g;have g0:0<Int.gcd a b:=Pf a J;obtain⟨c,U⟩:=Int.gcd_dvd_left a b;obtain⟨d,Z⟩:=Int.gcd_dvd_right a b;have Y:(Rat.divInt a b).num=if b<0 then -c else c:=by
  rw[Rat.num_divInt,Ov];split
  .rename_i h;rw[Int.sign_eq_neg_one_of_neg h];refine NC ∅ ?_;grind
  .rename_i h;rw[Int.sign_eq_one_of_pos ∅,Int.one_mul];exact NC ∅ U
 have e2:((Rat.divInt a b).den:Int)=if b<0 then -d else d:=by
  rw[Ot,iR J,Ov,MH];split
  .refine NC ∅ ?_;grind
  .refine NC ∅ ?_;grind
 rw[Y,e2];by_cases h:b<0
 .have B:g = -(Int.gcd a b:Int):=iO h;rw[B,iO h,iO h];exact#[by omega,jq ∅ (by grind),jq ∅ (by grind)]
 .have B:g=(Int.gcd a b:Int):=iR h;rw[B,iR h,iR h];exact#[by omega,jq ∅ U,jq ∅ Z]
def BS {k:Nat}{a b:Int}(B:b≠0) (h:Bd k b) (J:k<=8000):Q4 (if b<0 then -(Int.gcd a b:Int) else (Int.gcd a b:Int))=true:=by
 have U:0<Int.gcd a b:=Pf a B;split
 .exact(Bd.gcd h B).neg.div ∅ J
 .exact(Bd.gcd h B).div ∅ J
def kF:(2:Nat)<=sizeLine:=by decide
def ie (a b:D):D8 [a,b] 0=some a:=rfl
def jo (a b:D):D8 [a,b] 1=some b:=rfl
def hJ (a b c:D):D8 [a,b,c] 0=some a:=rfl
def jr (a b c:D):D8 [a,b,c] 1=some b:=rfl
def gF (a b c:D):D8 [a,b,c] 2=some c:=rfl
abbrev Gb:DT:=dB (c8 (i9 (fun i j=>decide (j<i))) (dL 3) (Pw 0))
abbrev Ie:DM:=B2 2 3 (a8 (dV 3) (a8 (c8 F5 (dL 2) (dL 3)) a9))
def yz (a b:Sl) (fs:vO_) (r:Nat):∀(g:Nat),Q7 Gb Ie #[[a,b,.v (.int g),.v (.int r)],fs]=some (.next,#[[a,b,.v (.int (Nat.gcd g r)),.v (.int 0)],fs]):=by
 induction r using Nat.strongRecOn with
 |ind r U=>
  intro g;by_cases h:r=0
  .subst h;rw[Nat.gcd_zero_right];exact eM (by simp![d6])
  .have e:((g:Int).fmod (r:Int))=((g % r:Nat):Int):=by rw[Oq _ ∅];rfl
   have B:=U (g % r) (MI _ ∅) r;have J:Nat.gcd g r=Nat.gcd r (g % r):=by rw[Nat.gcd_comm g r,Nat.gcd_rec,Nat.gcd_comm]
   rw[J];have Z:¬ (r:Int)=0:=by omega
   have Y:(0:Int)<r:=by omega
   refine aL (s1:=#[[a,b,.v (.int g),.v (.int r)],fs]) (s2:=#[[a,b,.v (.int r),.v (.int ((g % r:Nat):Int))],fs]) (by simp![d6];omega) ?_ B;rw[<-e];simp[B2,a8,a9,dV,c8,dL,F5,h]
abbrev LF:c9:=tU
abbrev LS:c9:=tV LF
abbrev LP:c9:=qI LF
def Z5 {k:Nat}(a b:Int) (fs:vO_) (J:b≠0) (h:Bd k b) (Z:k<=8000):LF [.int a,.int b] fs=some (fr (Rat.divInt a b),fs):=by
 obtain⟨p0,p1,p2⟩:=yo a b J;have Y:=BS (a:=a) J h Z;have U:=yz (.v (.int a)) (.v (.int b)) fs b.natAbs a.natAbs;refine y9 (s:=#[[.v (.int a),.v (.int b),.v (.int (if b<0 then -(Int.gcd a b:Int) else (Int.gcd a b:Int))),.v (.int 0)],fs]) ?_;show fX #[[.v (.int a),.v (.int b),.no,.no],fs]=_;unfold fX;rw[o8 (s1:=#[[.v (.int a),.v (.int b),.v (.int a.natAbs),.no],fs]) (by simp![d6,eJ,rM])];rw[o8 (s1:=#[[.v (.int a),.v (.int b),.v (.int a.natAbs),.v (.int b.natAbs)],fs]) (by simp![d6,eJ,rM])];rw[o8 U];rw[o8 (s1:=#[[.v (.int a),.v (.int b),.v (.int (if b<0 then -(Int.gcd a b:Int) else (Int.gcd a b:Int))),.v (.int 0)],fs]) (by
  by_cases B:b<0
  .simp![d6,B,Int.gcd]
  .simp![d6,B,Int.gcd])]
 generalize hg:(if b<0 then -(Int.gcd a b:Int) else (Int.gcd a b:Int))=gg at *;refine C7 ?_;unfold fr;rw[<-p1,<-p2];simp![d6,R6,Y,kF]
def Js (p q:Rat):p+q=Rat.divInt (p.num*q.den+q.num*p.den) (p.den*q.den):=by
 rw[Rat.add_def',<-Rat.divInt_ofNat];rfl
def Dv (p q:Rat):p*q=Rat.divInt (p.num*q.num) (p.den*q.den):=by
 rw[Rat.mul_def',<-Rat.divInt_ofNat];rfl
def jv (p q:Rat):(p.den:Int)*q.den≠0:=Ou (P5 p) (P5 q)
def cJ {k l:Nat}(p q:Rat) (fs:vO_) (h1:Sz k p) (h2:Sz l q) (Z:k+l<=8000):LS [fr p,fr q] fs=some (fr (p+q),fs):=by
 have B:=h1.num.bits ∅;have Y:=h1.den.bits ∅;have J:=h2.num.bits ∅;have U:=h2.den.bits ∅;have e:=Z5 (p.num*q.den+q.num*p.den) (p.den*q.den) fs (jv p q) (Bd.mul h1.den h2.den) Z;rw[<-Js] at e;refine y9 (s:=#[[.v (fr p),.v (fr q),.v (.int (p.num*q.den+q.num*p.den))],fs]) ?_;show fY LF #[[.v (fr p),.v (fr q),.no],fs]=_;simp![fY,d6,fr,ie,jo,u6,B,Y,J,U,e]
def gK {k l:Nat}(p q:Rat) (fs:vO_) (h1:Sz k p) (h2:Sz l q) (Z:k+l<=8000):LP [fr p,fr q] fs=some (fr (p*q),fs):=by
 have B:=h1.num.bits ∅;have Y:=h1.den.bits ∅;have J:=h2.num.bits ∅;have U:=h2.den.bits ∅;have e:=Z5 (p.num*q.num) (p.den*q.den) fs (jv p q) (Bd.mul h1.den h2.den) Z;rw[<-Dv] at e;refine y9 (s:=#[[.v (fr p),.v (fr q)],fs]) ?_;show iy LF #[[.v (fr p),.v (fr q)],fs]=_;simp![iy,d6,fr,ie,jo,u6,B,Y,J,U,e]
def nX (p:Rat) (fs:vO_):bP [fr p] fs=some (fr (-p),fs):=by
 refine y9 (s:=#[[.v (fr p)],fs]) ?_;show jB #[[.v (fr p)],fs]=_;simp![jB,d6,fr,ie,jo,kF]
def qy (a:Int) (n:Nat):a.fdiv (n:Int)=a / (n:Int):=Pg a ∅
def dA (a:Int) {b:Int}(h:b≠0):F5 (.int a) (.int b)=some (.int (a.fmod b)):=by simp[F5,h]
def dM (a:Int) {b:Int}(h:Q4 b=true):R6 (.int a) (.int b)=some (.int (a.fdiv b)):=by simp[R6,h]
def C8 {a b:Int}(h1:D6 a=true) (h2:D6 b=true):u6 (.int a) (.int b)=some (.int (a*b)):=by simp[u6,h1,h2]
def ni {s:DS}{r:Option (Fl × DS)}(h:fe s=some (d,s1)) (e:V2 i key (fun _=>some (d,s1)) s=r):V2 i key fe s=r:=by
 rw[<-e];unfold V2;rw[h]
def xx (f:FS) (B:Int) (hm:0<B) (hm2:B<2 ^ 100) (ht:0<=f.turn) (ht2:f.turn<2 ^ 40) (hk:f.kind=0) :
  ∃r f',A3 [.feed,.int B] (some f)=some (.int r,some f')/\0<=r/\r<B/\f'.turn=f.turn+1/\f'.kind=0:=by
 have dm:Q4 B=true:=Cw ∅ ∅;have hne:B≠0:=by omega
 obtain⟨cs,ps,U,J,kd⟩:=f;simp only at ht ht2 hk ⊢;subst hk;by_cases hl:0<U
 .refine#[U.fmod B,#[cs,ps,U.fdiv B,J+1,0],?_,(Y9 hm).1,(Y9 hm).2,rfl,rfl];refine y9 (s:=#[[.v .feed,.v (.int B),.v (.int (J+1)),.v (.int (U.fmod B)),.no,.no,.no],some #[cs,ps,U.fdiv B,J+1,0]]) ?_;show aI #[[.v .feed,.v (.int B),.no,.no,.no,.no,.no],some #[cs,ps,U,J,0]]=_;unfold aI;rw[o8 (s1:=#[[.v .feed,.v (.int B),.v (.int (J+1)),.no,.no,.no,.no],some #[cs,ps,U,J,0]]) (B4 (d7 rfl rfl rfl) rfl),o8 (s1:=#[[.v .feed,.v (.int B),.v (.int (J+1)),.no,.no,.no,.no],some #[cs,ps,U,J+1,0]]) rfl];have c0:dB (c8 (i9 (fun i j=>decide (j<i))) (F7 0 "left") (Pw 0)) #[[.v .feed,.v (.int B),.v (.int (J+1)),.no,.no,.no,.no],some #[cs,ps,U,J+1,0]]=some (true,#[[.v .feed,.v (.int B),.v (.int (J+1)),.no,.no,.no,.no],some #[cs,ps,U,J+1,0]]):=by
   rw[<-JJ hl];rfl
  refine L0 ?_;rw[M9 c0,o8 (s1:=#[[.v .feed,.v (.int B),.v (.int (J+1)),.v (.int (U.fmod B)),.no,.no,.no],some #[cs,ps,U,J+1,0]]) (B4 (d7 rfl rfl (dA U hne)) rfl),
   o8 (s1:=#[[.v .feed,.v (.int B),.v (.int (J+1)),.v (.int (U.fmod B)),.no,.no,.no],some #[cs,ps,U.fdiv B,J+1,0]]) (ni (d7 rfl rfl (dM U dm)) rfl)]
  rfl
 ·-- the Z
  have Z:∃c:Int,∀a b e x y z:Sl,v7 (dB (c8 (i9 (fun i j=>decide (j<i))) (i5 (one i6) (a8 (dL 4) a9)) (Pw 0))) (c8 d6 (dL 4) (c8 F5 (F7 0 "at") (i5 (one i6) (a8 (dL 4) a9)))) (Pw 0) #[[.v .feed,a,b,e,.v (.lst (cs.map .int)),x,y],some #[cs,ps,U,J+1,0]] =
    some (.int c,#[[.v .feed,a,b,e,.v (.lst (cs.map .int)),x,y],some #[cs,ps,U,J+1,0]]):=by
   by_cases hc:0<cs.length
   .have hi:=Y9 (a:=ps) (b:=(cs.length:Int)) ∅;obtain⟨c,hg⟩:∃c:Int,D8 (cs.map D.int) (ps.fmod (cs.length:Int))=some (.int c):=by
     have:(ps.fmod (cs.length:Int)).toNat<cs.length:=by omega
     refine#[cs[(ps.fmod (cs.length:Int)).toNat],?_];rw[fu hi.1 (by rw[JR];exact hi.2),KI,Kf this];rfl
    refine#[c,fun a b e x y z=>?_];have hn:cs≠[]:=by intro z;rw[z] at hc;simp at hc
    simp! only[v7,F7,qE,F5,d6,hn,hc,hg]
   .refine#[0,fun a b e x y z=>?_];have hz:cs=[]:=Nu ∅;subst hz;simp! only[v7]
  obtain⟨c,hcell⟩:=Z;have hc1:=Y9 (a:=c) (b:=1000003) #[];have pre:∀rest:DM,f9 (j3 (c8 n8 (F7 0 "turn") (Pw 1)) (i0 2)) (f9 (V2 0 "turn" (dV 2)) (f9 (j6 (dB (c8 (i9 (fun i j=>decide (j<i))) (F7 0 "left") (Pw 0))) (f9 (j3 (c8 F5 (F7 0 "left") (dL 1)) (i0 3)) (f9 (V2 0 "left" (c8 R6 (F7 0 "left") (dL 1))) (i8 (dV 3)))) j7)
    (f9 (j3 (F7 0 "cells") (i0 4)) (f9 (j3 (v7 (dB (c8 (i9 (fun i j=>decide (j<i))) (i5 (one i6) (a8 (dL 4) a9)) (Pw 0))) (c8 d6 (dL 4) (c8 F5 (F7 0 "at") (i5 (one i6) (a8 (dL 4) a9)))) (Pw 0)) (i0 5)) (f9 (V2 0 "at" (c8 n8 (F7 0 "at") (Pw 1))) rest)))))
    #[[.v .feed,.v (.int B),.no,.no,.no,.no,.no],some #[cs,ps,U,J,0]]=rest #[[.v .feed,.v (.int B),.v (.int (J+1)),.no,.v (.lst (cs.map .int)),.v (.int c),.no],some #[cs,ps+1,U,J+1,0]]:=fun rest=>by
   rw[o8 (s1:=#[[.v .feed,.v (.int B),.v (.int (J+1)),.no,.no,.no,.no],some #[cs,ps,U,J,0]]) (B4 (d7 rfl rfl rfl) rfl)];rw[o8 (s1:=#[[.v .feed,.v (.int B),.v (.int (J+1)),.no,.no,.no,.no],some #[cs,ps,U,J+1,0]]) rfl];rw[o8 (s1:=#[[.v .feed,.v (.int B),.v (.int (J+1)),.no,.no,.no,.no],some #[cs,ps,U,J+1,0]]) (by
    have c0:dB (c8 (i9 (fun i j=>decide (j<i))) (F7 0 "left") (Pw 0)) #[[.v .feed,.v (.int B),.v (.int (J+1)),.no,.no,.no,.no],some #[cs,ps,U,J+1,0]]=some (false,#[[.v .feed,.v (.int B),.v (.int (J+1)),.no,.no,.no,.no],some #[cs,ps,U,J+1,0]]):=by
     rw[<-JM hl];rfl
    rw[df c0];rfl)]
   rw[o8 (s1:=#[[.v .feed,.v (.int B),.v (.int (J+1)),.no,.v (.lst (cs.map .int)),.no,.no],some #[cs,ps,U,J+1,0]]) rfl];rw[o8 (Ea (hcell _ _ _ _ _ .no))];rw[o8 (s1:=#[[.v .feed,.v (.int B),.v (.int (J+1)),.no,.v (.lst (cs.map .int)),.v (.int c),.no],some #[cs,ps+1,U,J+1,0]]) (ni (d7 rfl rfl rfl) rfl)]
  have Y:t7 (dB (c8 (i9 (fun i j=>decide (j<=i))) (dL 5) (c8 bb (Pw 10) (Pw 18)))) (dB (c8 (i9 (fun i j=>decide (i<=j))) (F7 0 "at") (i5 (one i6) (a8 (dL 4) a9)))) #[[.v .feed,.v (.int B),.v (.int (J+1)),.no,.v (.lst (cs.map .int)),.v (.int c),.no],some #[cs,ps+1,U,J+1,0]] =
    some (decide (1000000000000000000<=c)&&decide (ps+1<=(cs.length:Int)),#[[.v .feed,.v (.int B),.v (.int (J+1)),.no,.v (.lst (cs.map .int)),.v (.int c),.no],some #[cs,ps+1,U,J+1,0]]):=by
   by_cases h1:1000000000000000000<=c
   .simp! only[t7,bb,F7,qE,h1]
   .simp[t7,dB,c8,dL,dC,Pw,Px,bb,i9,h1]
  by_cases hb:(decide (1000000000000000000<=c)&&decide (ps+1<=(cs.length:Int)))=true
  .refine#[c.fmod B,#[cs,ps+1,c.fdiv B,J+1,0],y9 (s:=#[[.v .feed,.v (.int B),.v (.int (J+1)),.no,.v (.lst (cs.map .int)),.v (.int c),.no],some #[cs,ps+1,c.fdiv B,J+1,0]]) ?_,(Y9 hm).1,(Y9 hm).2,rfl,rfl];show aI #[[.v .feed,.v (.int B),.no,.no,.no,.no,.no],some #[cs,ps,U,J,0]]=_;unfold aI;rw[pre];rw[hb] at Y;refine L0 ?_;rw[M9 Y];rw[o8 (s1:=#[[.v .feed,.v (.int B),.v (.int (J+1)),.no,.v (.lst (cs.map .int)),.v (.int c),.no],some #[cs,ps+1,c.fdiv B,J+1,0]]) (ni (d7 rfl rfl (dM c dm)) rfl)];exact C7 (d7 rfl rfl (dA c hne))
  .have q:∃M:Int,j3 (c8 F5 (c8 u6 (c8 n8 (c8 n8 (c8 n8 (c8 F5 (dL 5) (Pw 1000003)) (c8 u6 (c8 u6 (Pw 31) (dL 2)) (dL 2))) (c8 u6 (Pw 7) (dL 2))) (Pw 11)) (Pw 48271)) (Pw 2147483647)) (i0 6)
     #[[.v .feed,.v (.int B),.v (.int (J+1)),.no,.v (.lst (cs.map .int)),.v (.int c),.no],some #[cs,ps+1,U,J+1,0]]=some (.next,#[[.v .feed,.v (.int B),.v (.int (J+1)),.no,.v (.lst (cs.map .int)),.v (.int c),.v (.int M)],some #[cs,ps+1,U,J+1,0]])/\0<=M/\M<2147483647:=by
    have b1:D6 31=true:=by decide
    have b2:D6 (J+1)=true:=eX ∅;have p1:(J+1)*31<=2 ^ 40*31:=Int.mul_le_mul_of_nonneg_right ∅ #[];have b3:D6 (31*(J+1))=true:=eX ∅;have p2:0<=31*(J+1)*(J+1):=Int.mul_nonneg ∅ ∅;have p3:31*(J+1)*(J+1)<=31*2 ^ 40*2 ^ 40:=Int.mul_le_mul ∅ ∅ ∅ #[];have b4:D6 (c.fmod 1000003+31*(J+1)*(J+1)+7*(J+1)+11)=true:=eX ∅;have b5:D6 48271=true:=by decide
    have b6:D6 7=true:=by decide
    refine#[((c.fmod 1000003+31*(J+1)*(J+1)+7*(J+1)+11)*48271).fmod 2147483647,?_,Y9 #[]];exact B4 (d7 (d7 (d7 (d7 (d7 (d7 rfl rfl (dA c #[])) (d7 (d7 rfl rfl (C8 b1 b2)) rfl (C8 b3 b2)) rfl) (d7 rfl rfl (C8 b6 b2)) rfl) rfl rfl) rfl (C8 b4 b5)) rfl (dA _ #[])) rfl
   obtain⟨M,e1,m1,m2⟩:=q;have hM:=Pg M (show (0:Int)<=64 by decide);have b7:D6 (M.fdiv 64)=true:=eX (by rw[hM];omega);have b8:D6 69621=true:=by decide
   have b9:D6 7919=true:=by decide
   have b10:D6 (J+1)=true:=eX ∅;have d64:Q4 64=true:=by decide
   refine#[(((M.fdiv 64*69621+7919*(J+1)).fmod 2147483587).fdiv 64).fmod B,#[cs,ps+1,U,J+1,0],y9 (s:=#[[.v .feed,.v (.int B),.v (.int (J+1)),.no,.v (.lst (cs.map .int)),.v (.int c),.v (.int ((M.fdiv 64*69621+7919*(J+1)).fmod 2147483587))],some #[cs,ps+1,U,J+1,0]]) ?_,(Y9 hm).1,(Y9 hm).2,rfl,rfl];show aI #[[.v .feed,.v (.int B),.no,.no,.no,.no,.no],some #[cs,ps,U,J,0]]=_;unfold aI;rw[pre];have hb':(decide (1000000000000000000<=c)&&decide (ps+1<=(cs.length:Int)))=false:=by simpa using hb
   rw[hb'] at Y;rw[o8 (by rw[df Y];rfl)];rw[o8 e1];rw[o8 (s1:=#[[.v .feed,.v (.int B),.v (.int (J+1)),.no,.v (.lst (cs.map .int)),.v (.int c),.v (.int ((M.fdiv 64*69621+7919*(J+1)).fmod 2147483587))],some #[cs,ps+1,U,J+1,0]]) (B4 (d7 (d7 (d7 (d7 rfl rfl (dM M d64)) rfl (C8 b7 b8)) (d7 rfl rfl (C8 b9 b10)) rfl) rfl (dA _ #[])) rfl)];exact C7 (d7 (d7 rfl rfl (dM _ d64)) rfl (dA _ hne))
def Fd (n:Nat) (f:FS):Prop:=0<=f.turn/\f.turn<=n/\f.kind=0
def Fd.mono {n m:Nat}{f:FS}(h:Fd n f) (B:n<=m):Fd m f:=#[h.1,by have:=h.2.1;omega,h.2.2]
def G7 {n:Nat}{f:FS}(B:Int) (h:Fd n f) (U:0<B:=by first | decide | omega) (hn:n<2 ^ 30:=by omega) (J:B<2 ^ 100:=by first | decide | omega) :
  ∃r f',A3 [.feed,.int B] (some f)=some (.int r,some f')/\0<=r/\r<B/\Fd (n+1) f':=by
 obtain⟨r,f',e,Z,h1,h2,Y⟩:=xx f B U J h.1 (by have:=h.2.1;omega) h.2.2;exact#[r,f',e,Z,h1,by have:=h.1;omega,by have:=h.2.1;omega,Y]
def DR (ns:List Int) (h:ns.length<=63):X3 [.scr ns] none=some (.feed,some #[ns,0,0,0,0]):=by
 refine y9 (s:=#[[.v (.scr ns)],some #[ns,0,0,0,0]]) ?_;show nD #[[.v (.scr ns)],none]=_;simp[nD,i8,iq]
def Fd.zero (ns:List Int):Fd 0 #[ns,0,0,0,0]:=#[by simp,by simp,rfl]
def bS {α:Type}{xs:List α}{r:Int}(B:0<=r) (h1:r<xs.length):∃x,x∈xs/\D8 xs r=some x:=by
 refine#[xs[r.toNat]'∅,Ma _,?_];rw[fu B h1,Kf]
end T
namespace DL
open PySem L2
abbrev Pt:=Rat × Rat
variable {Ss:List (List Pt)}{p:Pt}{S:Pt->Prop}{R:Pt->Pt->Prop}
abbrev vT_:=List Pt
variable {l:vT_}
def pL (a:Pt):Int:=((Nat.lcm a.1.den a.2.den:Nat):Int)
def pX (a:Pt):Int:=a.1.num*((Nat.lcm a.1.den a.2.den / a.1.den:Nat):Int)
def pY (a:Pt):Int:=a.2.num*((Nat.lcm a.1.den a.2.den / a.2.den:Nat):Int)
def pt (a:Pt):D:=.tup [.int (pX a),.int (pY a),.int (pL a)]
theorem lcm_pos (p q:Rat):0<Nat.lcm p.den q.den:=Nat.lcm_pos (by have:=p.den_nz;omega) (by have:=q.den_nz;omega)
def se (a:Pt):0<pL a:=by have:=lcm_pos a.1 a.2;unfold pL;omega
def lB (a:Pt):pL a≠0:=by have:=se a;omega
def U2 (a:Pt):(0:Rat)<(pL a:Rat):=MJ.mpr (se a)
def nC (a:Pt):(pL a:Rat)≠0:=fun h=>lB a (Ow.mp h)
def mN (p:Rat):(p.num:Rat)=p*((p.den:Int):Rat):=by
 have e:=NB p;rw[ND] at e;have B:((p.den:Int):Rat)≠0:=fun h=>P5 p (Ow.mp h)
 have:(p.num:Rat) / ((p.den:Int):Rat)*((p.den:Int):Rat)=(p.num:Rat):=Rat.div_mul_cancel B;rw[e] at this;exact this.symm
theorem bL (a:Pt):(pX a:Rat)=a.1*(pL a:Rat):=by
 unfold pX pL;obtain⟨c,B⟩:=Nat.dvd_lcm_left a.1.den a.2.den;have J:=a.1.den_nz;have e:Nat.lcm a.1.den a.2.den / a.1.den=c:=Ph ∅ B;rw[e,B,Ox,KU,KU,mN];grind
theorem cf (a:Pt):(pY a:Rat)=a.2*(pL a:Rat):=by
 unfold pY pL;obtain⟨c,B⟩:=Nat.dvd_lcm_right a.1.den a.2.den;have J:=a.2.den_nz;have e:Nat.lcm a.1.den a.2.den / a.2.den=c:=Ph ∅ B;rw[e,B,Ox,KU,KU,mN];grind
structure Ps (k:Nat) (a:Pt):Prop where
 x:Bd k (pX a)
 y:Bd k (pY a)
 l:Bd k (pL a)
theorem Ps.mono {k l:Nat}{a:Pt}(h:Ps k a) (B:k<=l):Ps l a:=#[h.x.mono B,h.y.mono B,h.l.mono B]
def Ps.of {k l:Nat}{a:Pt}(h1:Sz k a.1) (h2:Sz l a.2):Ps (k+l) a:=by
 have J:Nat.lcm a.1.den a.2.den<=a.1.den*a.2.den:=Nat.le_of_dvd (Nat.mul_pos (by have:=a.1.den_nz;omega) (by have:=a.2.den_nz;omega)) (Nat.lcm_dvd_mul ..);have b:=nS h1.2 h2.2;have B:Nat.lcm a.1.den a.2.den / a.1.den<=a.2.den:=by
  rw[Pj (by have:=a.1.den_nz;omega)];omega
 have U:Nat.lcm a.1.den a.2.den / a.2.den<=a.1.den:=by
  rw[Pj (by have:=a.2.den_nz;omega),Nat.mul_comm a.2.den];omega
 refine#[?_,?_,?_]
 .exact Bd.mul h1.num (show Bd l ((_:Nat):Int) from Ky B h2.2)
 .have:=Bd.mul h2.num (show Bd k ((_:Nat):Int) from Ky U h1.2);rw[Mg];exact this
 .exact Ky J b
def d9 (a b c:Pt):Rat:=(b.1 - a.1)*(c.2 - a.2) - (b.2 - a.2)*(c.1 - a.1)
def w9 (r:Rat):Int:=if 0<r then 1 else if r<0 then -1 else 0
def aJ (n:Int):Int:=if 0<n then 1 else if n<0 then -1 else 0
def vc {n:Int}{c r:Rat}(B:0<c) (h:(n:Rat)=c*r):aJ n=w9 r:=by
 unfold aJ w9;have h1:0<n↔0<r:=by
  rw[<-MJ,h];exact Oy B
 have h2:n<0↔r<0:=by
  rw[<-Rat.intCast_neg_iff,h];exact Rat.mul_neg_iff_of_pos_left B
 simp only[h1,h2]
def o9 (a b:Pt):Bool:=decide (a.1<b.1)||(decide (a.1=b.1)&&decide (a.2<b.2))
end DL
variable {Ss:List (List DL.Pt)}{p:DL.Pt}{S:DL.Pt->Prop}{R:DL.Pt->DL.Pt->Prop}{l:DL.vT_}
namespace T
open PySem L2 DL
def CK (p q:Rat):Rat.divInt (p.num*q.den) (p.den*q.den)=p:=by
 rw[Rat.divInt_mul_right (P5 q),NB]
def AK (p q:Rat):Rat.divInt (q.num*p.den) (p.den*q.den)=q:=by
 rw[Int.mul_comm (p.den:Int),Rat.divInt_mul_right (P5 p),NB]
abbrev LA:c9:=rX LF
def iE (p:Rat):d6 (fr p) (.int 0)=some (.int p.num):=rfl
def V8 (p:Rat):d6 (fr p) (.int 1)=some (.int p.den):=rfl
def oW {k l:Nat}(p q:Rat) (fs:vO_) (h1:Sz k p) (h2:Sz l q) (hk:k+l<=8000):LA [fr p,fr q] fs=some (pt (p,q),fs):=by
 have U:=h1.num.bits ∅;have J:=h1.den.bits ∅;have b3:=h2.num.bits ∅;have b4:=h2.den.bits ∅;have e1:=Z5 (p.num*q.den) (p.den*q.den) fs (jv p q) (Bd.mul h1.den h2.den) hk;have e2:=Z5 (q.num*p.den) (p.den*q.den) fs (jv p q) (Bd.mul h1.den h2.den) hk;have e3:=Z5 (p.den:Int) (q.den:Int) fs (P5 q) h2.den ∅;rw[CK] at e1;rw[AK] at e2;have hq:=q.den_nz;have hp:=p.den_nz;have dq:((Rat.divInt (p.den:Int) (q.den:Int)).den:Int)=(q.den / Nat.gcd p.den q.den:Nat):=by
  rw[Ci (oi q),MH];rfl
 have el:(p.den:Int)*(q.den / Nat.gcd p.den q.den:Nat)=pL (p,q):=by
  show _=((Nat.lcm p.den q.den:Nat):Int);rw[<-Ox,Nat.lcm,Nat.mul_div_assoc _ (Nat.gcd_dvd_right ..)]
 have d1:=h1.den.div (P5 p) ∅;have d2:=h2.den.div (P5 q) ∅;have P:=Ps.of (a:=(p,q)) h1 h2;have s1:(pL (p,q)).fdiv (p.den:Int)=((Nat.lcm p.den q.den / p.den:Nat):Int):=by rw[qy,MH];rfl
 have s2:(pL (p,q)).fdiv (q.den:Int)=((Nat.lcm p.den q.den / q.den:Nat):Int):=by rw[qy,MH];rfl
 have B:Nat.lcm p.den q.den<2 ^ (k+l):=P.l;have Y:D6 ((Rat.divInt (p.den:Int) (q.den:Int)).den:Int)=true:=by
  have:=(nz (a:=(p.den:Int)) (P5 q)).2;exact(show Bd l _ from Ky this h2.2).bits ∅
 have Z:D6 ((Nat.lcm p.den q.den / p.den:Nat):Int)=true:=(show Bd (k+l) ((_:Nat):Int) from Ky (NA ..) B).bits ∅;have c2:D6 ((Nat.lcm p.den q.den / q.den:Nat):Int)=true:=(show Bd (k+l) ((_:Nat):Int) from Ky (NA ..) B).bits ∅;generalize Rat.divInt (p.den:Int) (q.den:Int)=w at *;refine y9 (s:=#[[.v (fr p),.v (fr q),.v (.int (pL (p,q))),.v (fr p),.v (fr q),.v (fr w)],fs]) ?_;show ju LF #[[.v (fr p),.v (fr q),.no,.no,.no,.no],fs]=_;unfold ju;rw[dq] at Y;rw[<-s1] at Z;rw[<-s2] at c2;rw[o8 (s1:=#[[.v (fr p),.v (fr q),.v (.int (p.den*q.den)),.no,.no,.no],fs]) (B4 (d7 (d7 rfl rfl (V8 p)) (d7 rfl rfl (V8 q)) (C8 J b4)) rfl),
  o8 (s1:=#[[.v (fr p),.v (fr q),.v (.int (p.den*q.den)),.v (fr p),.no,.no],fs]) (B4 (w8 (o6 (d7 (d7 rfl rfl (iE p)) (d7 rfl rfl (V8 q)) (C8 U b4)) (o6 rfl rfl)) e1) rfl),
  o8 (s1:=#[[.v (fr p),.v (fr q),.v (.int (p.den*q.den)),.v (fr p),.v (fr q),.no],fs]) (B4 (w8 (o6 (d7 (d7 rfl rfl (iE q)) (d7 rfl rfl (V8 p)) (C8 b3 J)) (o6 rfl rfl)) e2) rfl),
  o8 (s1:=#[[.v (fr p),.v (fr q),.v (.int (p.den*q.den)),.v (fr p),.v (fr q),.v (fr w)],fs]) (B4 (w8 (o6 (d7 rfl rfl (V8 p)) (o6 (d7 rfl rfl (V8 q)) rfl)) e3) rfl),
  o8 (s1:=#[[.v (fr p),.v (fr q),.v (.int (pL (p,q))),.v (fr p),.v (fr q),.v (fr w)],fs]) (B4 (d7 (d7 rfl rfl (V8 p)) (d7 rfl rfl ((V8 w).trans (congrArg (fun z=>some (D.int z)) dq))) ((C8 J Y).trans (congrArg (fun z=>some (D.int z)) el))) rfl)]
 refine C7 ?_;unfold pt pX pY;rw[<-s1,<-s2];exact nO (d7 (d7 rfl rfl (iE p)) (d7 rfl (d7 rfl rfl (V8 p)) (dM _ d1)) (C8 U Z)) (d7 (d7 rfl rfl (iE q)) (d7 rfl (d7 rfl rfl (V8 q)) (dM _ d2)) (C8 b3 c2)) rfl
def jS (a:Pt):Rat.divInt (pX a) (pL a)=a.1:=by
 rw[ND,bL,Rat.mul_div_cancel (nC a)]
def km (a:Pt):Rat.divInt (pY a) (pL a)=a.2:=by
 rw[ND,cf,Rat.mul_div_cancel (nC a)]
abbrev LX:c9:=ud LF
def nq {k:Nat}(a:Pt) (fs:vO_) (h:Ps k a) (B:k<=8000):LX [pt a] fs=some (.tup [fr a.1,fr a.2],fs):=by
 have e:=Z5 (pX a) (pL a) fs (lB a) h.l B;have J:=Z5 (pY a) (pL a) fs (lB a) h.l B;rw[jS] at e;rw[km] at J;refine y9 (s:=#[[.v (pt a)],fs]) ?_;show iG LF #[[.v (pt a)],fs]=_;simp![iG,d6,pt,hJ,jr,gF,e,J,kF]
abbrev LG:c9:=qw LA LS LX
def qY {k l m n:Nat}(a:Pt) (x y:Rat) (fs:vO_) (h1:Sz k a.1) (h2:Sz l a.2) (J:Sz m x) (B:Sz n y) (U:k+l+m+n+2<=8000):LG [pt a,fr x,fr y] fs=some (pt (a.1+x,a.2+y),fs):=by
 refine y9 (s:=#[[.v (pt a),.v (fr x),.v (fr y),.v (fr a.1),.v (fr a.2)],fs]) ?_;show fU LA LS LX #[[.v (pt a),.v (fr x),.v (fr y),.no,.no],fs]=_;simp![fU,d6,nq a fs (Ps.of h1 h2) ∅,cJ a.1 x _ h1 J ∅,cJ a.2 y _ h2 B ∅,oW (a.1+x) (a.2+y) _ (h1.add J) (h2.add B) ∅]
end T
namespace DL
def C3 (x y:Rat):Prop:=0<x\/(x=0/\0<y)
theorem U0 (a b:Pt):o9 a b=true↔C3 (b.1 - a.1) (b.2 - a.2):=by
 unfold o9 C3;rw[Bool.or_eq_true,Ki,KW,KW,KW];constructor
 .rintro(h | ⟨h1,h2⟩)
  .left;grind
  .right;constructor <;> grind
 .rintro(h | ⟨h1,h2⟩)
  .left;grind
  .right;constructor <;> grind
theorem IV (x y:Rat) (h:¬ (x=0/\y=0)):C3 x y\/C3 (-x) (-y):=by
 unfold C3;grind
theorem Cc (x y:Rat) (h:C3 x y):¬ C3 (-x) (-y):=by
 unfold C3 at *;grind
def bQ {x y s:Rat}(B:0<s):C3 (s*x) (s*y)↔C3 x y:=by
 unfold C3;have h1:0<s*x↔0<x:=Oy B;have h2:0<s*y↔0<y:=Oy B;have J:s*x=0↔x=0:=by
  rw[Lh];constructor
  .rintro(h | h)
   .rw[h] at B;exact absurd B Li
   .exact h
  .exact fun h=>.inr h
 rw[h1,h2,J]
theorem ip:¬ C3 0 0:=by unfold C3;grind
theorem Gj {x y:Rat}(h:C3 x y) (s:Rat):C3 (s*x) (s*y)↔0<s:=by
 constructor
 .intro q;rcases MK (a:=s) (b:=0) with z | z
  .rcases(Rat.le_iff_lt_or_eq).mp z with z | z
   .have:C3 (-s*x) (-s*y):=(bQ (by grind)).mpr h;rw[Rat.neg_mul,Rat.neg_mul] at this;exact absurd this (Cc _ _ q)
   .rw[z,Ml,Ml] at q;exact absurd q ip
  .rcases(Rat.le_iff_lt_or_eq).mp z with z | z
   .exact z
   .rw[<-z,Ml,Ml] at q;exact absurd q ip
 .intro B;exact(bQ B).mpr h
def A5 (a b:Pt) (s:Rat):Pt:=(a.1+s*(b.1 - a.1),a.2+s*(b.2 - a.2))
def tZ (a b:Pt):A5 a b 0=a:=by unfold A5;simp[Rat.add_zero]
theorem gN (a b:Pt):A5 a b 1=b:=by unfold A5;exact Kp (by grind) (by grind)
theorem eB {a b c:Pt}(B:a≠b) (h:d9 a b c=0):∃s,c=A5 a b s:=by
 unfold d9 at h;by_cases h1:b.1 - a.1=0
 .have h2:b.2 - a.2≠0:=fun z=>B (Kp (by grind) (by grind))
  refine#[(c.2 - a.2) / (b.2 - a.2),?_];unfold A5;refine Kp ?_ ?_
  .show c.1=_;have:(b.2 - a.2)*(c.1 - a.1)=0:=by grind
   rcases Lh.mp this with z | z
   .exact absurd z h2
   .grind
  .show c.2=_;grind
 .refine#[(c.1 - a.1) / (b.1 - a.1),?_];unfold A5;refine Kp ?_ ?_
  .show c.1=_;grind
  .show c.2=_;have e:(b.1 - a.1)*(c.2 - a.2)=(b.2 - a.2)*(c.1 - a.1):=by grind
   have:c.2 - a.2=(c.1 - a.1) / (b.1 - a.1)*(b.2 - a.2):=by grind
   grind
def u7 (a b:Pt):Rat:=(a.1 - b.1)*(a.1 - b.1)+(a.2 - b.2)*(a.2 - b.2)
theorem fv (x:Rat):0<=x*x:=by
 rcases MK (a:=0) (b:=x) with h | h
 .exact Ly h h
 .have:=Ly (a:=-x) (b:=-x) (by grind) (by grind);grind
def oz {x:Rat}(h:x≠0):0<x*x:=Rat.lt_of_le_of_ne (fv x) (fun z=>h (by
 rcases Lh.mp z.symm with q | q <;> exact q))
theorem hU {a b:Pt}(B:a≠b):0<u7 a b:=by
 unfold u7;by_cases h1:a.1 - b.1=0
 .have h2:a.2 - b.2≠0:=fun z=>B (Kp (by grind) (by grind))
  have:=oz h2;have:=fv (a.1 - b.1);grind
 .have:=oz h1;have:=fv (a.2 - b.2);grind
theorem Cb (s:Rat):s*s<=1↔(-1<=s/\s<=1):=by
 constructor
 .intro h;constructor
  .rcases MK (a:=-1) (b:=s) with z | z
   .exact z
   .have:=Ly (a:=-1 - s) (b:=-1 - s) (by grind) (by grind);have:=Ly (a:=-1 - s) (b:=1) (by grind) (by grind);grind
  .rcases MK (a:=s) (b:=1) with z | z
   .exact z
   .have:=Ly (a:=s - 1) (b:=s - 1) (by grind) (by grind);grind
 .rintro⟨h1,h2⟩;have:=Ly (a:=1 - s) (b:=1+s) (by grind) (by grind);grind
theorem uM (a b:Pt) (s:Rat):u7 a (A5 a b s)=s*s*u7 a b/\u7 b (A5 a b s)=(1 - s)*(1 - s)*u7 a b:=by
 unfold u7 A5;constructor <;> grind
end DL
namespace T
open PySem L2 DL
def HD (n:Int) (fs:vO_):iP [.int n] fs=some (.int (aJ n),fs):=by
 refine y9 (s:=#[[.v (.int n)],fs]) ?_;show cq #[[.v (.int n)],fs]=_;unfold aJ;by_cases h1:0<n
 .simp![cq,d6,h1]
 .by_cases h2:n<0
  .simp![cq,d6,h1,h2]
  .simp![cq,d6,h1,h2]
abbrev R7:c9:=wq iP
def rS {a b c:Rat}(U:0<a) (J:0<b) (B:0<c):0<a*b*c:=Kz (Kz U J) B
theorem EV (a b c:Pt):aJ (pX a*(pY b*pL c - pY c*pL b) - pY a*(pX b*pL c - pX c*pL b)+pL a*(pX b*pY c - pX c*pY b))=w9 (d9 a b c):=by
 refine vc (rS (U2 a) (U2 b) (U2 c)) ?_;simp only[Oz,OA,KU,bL,cf,d9];grind
theorem xy (a b c:Pt):aJ ((pX b*pL a - pX a*pL b)*(pY c*pL a - pY a*pL c) - (pY b*pL a - pY a*pL b)*(pX c*pL a - pX a*pL c))=w9 (d9 a b c):=by
 refine vc (Kz (rS (U2 a) (U2 b) (U2 c)) (U2 a)) ?_;simp only[OA,KU,bL,cf,d9];grind
def rC {k:Nat}(a b c:Pt) (fs:vO_) (U:Ps k a) (B:Ps k b) (J:Ps k c) (hk:k<=2000):R7 [pt a,pt b,pt c] fs=some (.int (w9 (d9 a b c)),fs):=by
 have a1:=U.x.bits ∅;have a2:=U.y.bits ∅;have a3:=U.l.bits ∅;have Y:=B.x.bits ∅;have b2:=B.y.bits ∅;have b3:=B.l.bits ∅;have Z:=J.x.bits ∅;have c2:=J.y.bits ∅;have c3:=J.l.bits ∅;have d1:=((B.y.mul J.l).sub (J.y.mul B.l)).bits ∅;have d2:=((B.x.mul J.l).sub (J.x.mul B.l)).bits ∅;have d3:=((B.x.mul J.y).sub (J.x.mul B.y)).bits ∅;rw[<-EV];refine y9 (s:=#[[.v (pt a),.v (pt b),.v (pt c),.v (.int (pX a*(pY b*pL c - pY c*pL b) - pY a*(pX b*pL c - pX c*pL b)+pL a*(pX b*pY c - pX c*pY b)))],fs]) ?_;show gv iP #[[.v (pt a),.v (pt b),.v (pt c),.no],fs]=_;unfold gv;have x:∀p:Pt,d6 (pt p) (.int 0)=some (.int (pX p)):=fun _=>rfl
 have y:∀p:Pt,d6 (pt p) (.int 1)=some (.int (pY p)):=fun _=>rfl
 have l:∀p:Pt,d6 (pt p) (.int 2)=some (.int (pL p)):=fun _=>rfl
 rw[o8 (s1:=#[[.v (pt a),.v (pt b),.v (pt c),.v (.int (pX a*(pY b*pL c - pY c*pL b)))],fs]) (B4 (d7 (d7 rfl rfl (x a)) (d7 (d7 (d7 rfl rfl (y b)) (d7 rfl rfl (l c)) (C8 b2 c3)) (d7 (d7 rfl rfl (y c)) (d7 rfl rfl (l b)) (C8 c2 b3)) rfl) (C8 a1 d1)) rfl),
  o8 (s1:=#[[.v (pt a),.v (pt b),.v (pt c),.v (.int (pX a*(pY b*pL c - pY c*pL b) - pY a*(pX b*pL c - pX c*pL b)))],fs]) (B4 (d7 rfl (d7 (d7 rfl rfl (y a)) (d7 (d7 (d7 rfl rfl (x b)) (d7 rfl rfl (l c)) (C8 Y c3)) (d7 (d7 rfl rfl (x c)) (d7 rfl rfl (l b)) (C8 Z b3)) rfl) (C8 a2 d2)) rfl) rfl),
  o8 (s1:=#[[.v (pt a),.v (pt b),.v (pt c),.v (.int (pX a*(pY b*pL c - pY c*pL b) - pY a*(pX b*pL c - pX c*pL b)+pL a*(pX b*pY c - pX c*pY b)))],fs]) (B4 (d7 rfl (d7 (d7 rfl rfl (l a)) (d7 (d7 (d7 rfl rfl (x b)) (d7 rfl rfl (y c)) (C8 Y c2)) (d7 (d7 rfl rfl (x c)) (d7 rfl rfl (y b)) (C8 Z b2)) rfl) (C8 a3 d3)) rfl) rfl)]
 exact C7 (w8 (o6 rfl rfl) (HD _ fs))
def mr {k:Nat}(a b c:Pt) (fs:vO_) (B:Ps k a) (J:Ps k b) (U:Ps k c) (hk:k<=2000):Q9 [pt a,pt b,pt c] fs=some (.int (w9 (d9 a b c)),fs):=by
 have a1:=B.x.bits ∅;have a2:=B.y.bits ∅;have Y:=B.l.bits ∅;have b1:=J.x.bits ∅;have b2:=J.y.bits ∅;have b3:=J.l.bits ∅;have c1:=U.x.bits ∅;have c2:=U.y.bits ∅;have c3:=U.l.bits ∅;have d1:=((J.x.mul B.l).sub (B.x.mul J.l)).bits ∅;have d2:=((U.y.mul B.l).sub (B.y.mul U.l)).bits ∅;have d3:=((J.y.mul B.l).sub (B.y.mul J.l)).bits ∅;have d4:=((U.x.mul B.l).sub (B.x.mul U.l)).bits ∅;have v:=xy a b c;generalize h1:(pX b*pL a - pX a*pL b)*(pY c*pL a - pY a*pL c)=u at *;generalize h2:(pY b*pL a - pY a*pL b)*(pX c*pL a - pX a*pL c)=w at *;have e:aJ (u - w)=(if u>w then (1:Int) else 0) - (if u<w then 1 else 0):=by
  unfold aJ;by_cases Z:0<u - w
  .rw[iO Z,iO (show u>w by omega),iR (show ¬ u<w by omega)];rfl
  .by_cases q2:u - w<0
   .rw[iR Z,iO q2,iR (show ¬ u>w by omega),iO (show u<w by omega)];rfl
   .rw[iR Z,iR q2,iR (show ¬ u>w by omega),iR (show ¬ u<w by omega)];rfl
 rw[<-v,e];refine y9 (s:=#[[.v (pt a),.v (pt b),.v (pt c),.v (.int u),.v (.int w)],fs]) ?_;show jd #[[.v (pt a),.v (pt b),.v (pt c),.no,.no],fs]=_;unfold jd;rw[o8 (s1:=#[[.v (pt a),.v (pt b),.v (pt c),.v (.int u),.no],fs]) (B4 (d7 (d7 (d7 (d7 rfl rfl rfl) (d7 rfl rfl rfl) (C8 b1 Y)) (d7 (d7 rfl rfl rfl) (d7 rfl rfl rfl) (C8 a1 b3)) rfl) (d7 (d7 (d7 rfl rfl rfl) (d7 rfl rfl rfl) (C8 c2 Y)) (d7 (d7 rfl rfl rfl) (d7 rfl rfl rfl) (C8 a2 c3)) rfl) ((C8 d1 d2).trans (by rw[h1]))) rfl)];rw[o8 (s1:=#[[.v (pt a),.v (pt b),.v (pt c),.v (.int u),.v (.int w)],fs]) (B4 (d7 (d7 (d7 (d7 rfl rfl rfl) (d7 rfl rfl rfl) (C8 b2 Y)) (d7 (d7 rfl rfl rfl) (d7 rfl rfl rfl) (C8 a2 b3)) rfl) (d7 (d7 (d7 rfl rfl rfl) (d7 rfl rfl rfl) (C8 c1 Y)) (d7 (d7 rfl rfl rfl) (d7 rfl rfl rfl) (C8 a1 c3)) rfl) ((C8 d3 d4).trans (by rw[h2]))) rfl)];refine C7 ?_;simp![d6,cT]
theorem wU {x y:Int}{p q c:Rat}(B:0<c) (U:(x:Rat)=c*p) (J:(y:Rat)=c*q):(x<y↔p<q)/\(x=y↔p=q):=by
 constructor
 .rw[<-Pk,U,J];exact NF B
 .rw[<-Rat.intCast_inj,U,J];constructor
  .intro h;have:c≠0:=fun z=>by rw[z] at B;exact absurd B Li
   grind
  .intro h;rw[h]
theorem GD (a b:Pt):(pX a*pL b<pX b*pL a↔a.1<b.1)/\(pX a*pL b=pX b*pL a↔a.1=b.1):=
 wU (Kz (U2 a) (U2 b)) (by rw[KU,bL];grind) (by rw[KU,bL];grind)
theorem HI (a b:Pt):(pY a*pL b<pY b*pL a↔a.2<b.2)/\(pY a*pL b=pY b*pL a↔a.2=b.2):=
 wU (Kz (U2 a) (U2 b)) (by rw[KU,cf];grind) (by rw[KU,cf];grind)
def yA {k:Nat}(a b:Pt) (fs:vO_) (J:Ps k a) (U:Ps k b) (hk:k<=2000):N7 [pt a,pt b] fs=some (.bl (o9 a b),fs):=by
 have a1:=J.x.bits ∅;have Z:=J.y.bits ∅;have a3:=J.l.bits ∅;have B:=U.x.bits ∅;have b2:=U.y.bits ∅;have Y:=U.l.bits ∅;obtain⟨x1,x2⟩:=GD a b;obtain⟨y1,y2⟩:=HI a b;refine y9 (s:=#[[.v (pt a),.v (pt b),.v (.int (pX a*pL b - pX b*pL a))],fs]) ?_;show cE #[[.v (pt a),.v (pt b),.no],fs]=_;have z1:(pX a*pL b - pX b*pL a<0)↔a.1<b.1:=by rw[<-x1];omega
 have z2:(pX a*pL b - pX b*pL a=0)↔a.1=b.1:=by rw[<-x2];omega
 by_cases h:a.1<b.1
 .simp![cE,d6,pt,hJ,jr,gF,u6,a1,Z,a3,B,b2,Y,bp,o9,h,z1]
 .by_cases h2:a.1=b.1
  .simp![cE,d6,pt,hJ,jr,gF,u6,a1,Z,a3,B,b2,Y,bp,o9,h,z1,z2,h2,y1]
  .simp![cE,d6,pt,hJ,jr,gF,u6,a1,Z,a3,B,b2,Y,bp,o9,h,z1,z2,h2]
theorem kh (r:Rat):w9 r=0↔r=0:=by
 unfold w9;by_cases h:0<r
 .rw[iO h];constructor
  .intro z;exact absurd z #[]
  .intro z;rw[z] at h;exact absurd h Li
 .by_cases h2:r<0
  .rw[iR h,iO h2];constructor
   .intro z;exact absurd z #[]
   .intro z;rw[z] at h2;exact absurd h2 Li
  .rw[iR h,iR h2];constructor
   .intro _;grind
   .intro _;rfl
theorem rn {k l m n:Nat}(a b:Pt) (fs:vO_) (h1:Sz k a.1) (h2:Sz l a.2) (U:Sz m b.1) (Y:Sz n b.2) (hk:2*(k+l+m+n)+8<=8000):kE LS LP bP LX [pt a,pt b] fs=some (fr (u7 a b),fs):=by
 have s1:=cJ b.1 (-a.1) fs U h1.neg ∅;have s2:=cJ b.2 (-a.2) fs Y h2.neg ∅;have J:=U.add h1.neg;have B:=Y.add h2.neg;have Z:=gK _ _ fs J J ∅;have q2:=gK _ _ fs B B ∅;have r:=cJ _ _ fs (J.mul J) (B.mul B) ∅;have v:(b.1 + -a.1)*(b.1 + -a.1)+(b.2 + -a.2)*(b.2 + -a.2)=u7 a b:=by unfold u7;grind
 rw[v] at r;have xa:=nq a fs (Ps.of h1 h2) ∅;have xb:=nq b fs (Ps.of U Y) ∅;refine y9 (s:=#[[.v (pt a),.v (pt b),.v (fr (b.1 + -a.1)),.v (fr (b.2 + -a.2))],fs]) ?_;show ij LS LP bP LX #[[.v (pt a),.v (pt b),.no,.no],fs]=_;simp![ij,d6,xa,xb,ie,jo,nX,s1,s2,Z,q2,r]
end T
namespace DL
open PySem L2
theorem fF {t:D->DS->Option DS}{b:DM}(P:Nat->DS->Prop):∀(ds:vD_) (n:Nat) (s:DS),P n s->(∀i d s,ds[i]? = some d->P (n+i) s->∃s1 s2,t d s=some s1/\(b s1=some (.next,s2)\/b s1=some (.cont,s2))/\P (n+i+1) s2) ->
  ∃s',C6 t b ds s=some (.next,s')/\P (n+ds.length) s'
 |[],n,s,h,_=>#[s,rfl,h]
 |d::r,n,s,h,k=>by
  obtain⟨s1,s2,Z,B,h2⟩:=k 0 d s rfl h;obtain⟨s',J,h3⟩:=fF P r (n+1) s2 h2 (fun i U s Y hp=>by
   have:=k (i+1) U s (by simpa using Y) (by rwa [show n+1+i=n+(i+1) by omega] at hp)
   rwa [show n+(i+1)+1=n+1+i+1 by omega] at this)
  refine#[s',?_,by rw[JO,show n+(r.length+1)=n+1+r.length by omega];exact h3];rw[C6,Z];rcases B with B | B <;> simp[B,J]
def kP {f:DA}{t:D->DS->Option DS}{b:DM}{s:DS}{xs:vD_}(h1:f s=some (xs,s1)) (h2:N4 xs=some ds):X9 f t b s=C6 t b ds s1:=by
 simp only[X9,h1,xl,h2]
def aK {f:DE}{t:D->DS->Option DS}{b:DM}{s:DS}(h1:f s=some (.lst ds,s1)):R4 f t b s=C6 t b ds s1:=by
 simp only[R4,h1,xl]
def jQ {f:DE}{t:D->DS->Option DS}{b:DM}{s:DS}(h1:f s=some (.tup ds,s1)):R4 f t b s=C6 t b ds s1:=by
 simp only[R4,h1,xl]
def bM {lo:Int}{n:Nat}(h:(A2 lo n)[i]? = some d):d = .int (lo+i)/\i<n:=by
 have hi:i<n:=by have:=(Kr.mp h).1;rwa [Q1] at this
 rw[mW hi] at h;cases h;exact#[rfl,hi]
def ar {n:Nat}(h:n<2 ^ 30):N4 [.int (n:Int)]=some (A2 0 n):=by
 have:-(2 ^ 62)<=(n:Int)/\(n:Int)<2 ^ 62:=by omega
 simp only[N4,iO this,Ku]
end DL
namespace T
open PySem L2 DL
abbrev LN:c9:=nR LF A3
def iu {k:Nat}{i:Int}(h:i.natAbs<2 ^ k):Bd k i:=h
def Hq {r:Int}(B:0<=r) (h1:r<3):∃m:Int,D8 [D.int 7,D.int 13,D.int 30] r=some (.int m)/\0<m/\m<=30:=by
 have:r=0\/r=1\/r=2:=by omega
 rcases this with rfl | rfl | rfl
 .exact#[7,rfl,by decide,by decide]
 .exact#[13,rfl,by decide,by decide]
 .exact#[30,rfl,by decide,by decide]
def zM {r:Int}(B:0<=r) (h1:r<6):∃d:Int,D8 [D.int 1,D.int 1,D.int 1,D.int 2,D.int 3,D.int 4] r=some (.int d)/\0<d/\d<=4:=by
 have:r=0\/r=1\/r=2\/r=3\/r=4\/r=5:=by omega
 rcases this with rfl | rfl | rfl | rfl | rfl | rfl
 .exact#[1,rfl,by decide,by decide]
 .exact#[1,rfl,by decide,by decide]
 .exact#[1,rfl,by decide,by decide]
 .exact#[2,rfl,by decide,by decide]
 .exact#[3,rfl,by decide,by decide]
 .exact#[4,rfl,by decide,by decide]
def Ae {r m q:Int}(Y:0<=r) (h1:r<m) (B:m<=30) (J:0<=q) (U:q<2):Bd 5 (r*(1 - 2*q))/\Bd 5 r/\Bd 5 q/\Bd 5 (1 - 2*q):=by
 unfold Bd;have:q=0\/q=1:=by omega
 rcases this with rfl | rfl <;> omega
def Jd {d:Int}(B:0<d) (h1:d<=4):Bd 5 d/\d≠0:=#[show d.natAbs<2 ^ 5 by omega,by omega]
def Cj {m:Int}(h:m<=30):m<2 ^ 100:=by omega
def gO {n i:Nat}(h:n<2 ^ 29) (hi:i<=100:=by decide):n+i<2 ^ 30:=by omega
def pC {n:Nat}{f:FS}(h:Fd n f) (J:n<2 ^ 29):∃p f',LN [.feed] (some f)=some (fr p,some f')/\Sz 5 p/\Fd (n+4) f':=by
 refine gB_ fun G_ g_=>?_
 obtain⟨r1,f1,e1,a1,a2,h1⟩:=G7 3 h #[] (gO (i:=0) J) #[];obtain⟨m,q1,q2,Y⟩:=Hq a1 a2;obtain⟨B,Z,e2,b1,b2,h2⟩:=G7 m h1 q2 (gO J) (Cj Y);obtain⟨r3,f3,e3,c1,c2,h3⟩:=G7 6 h2 #[] (gO (i:=2) J) #[];obtain⟨d,u1,u2,u3⟩:=zM c1 c2;obtain⟨r4,U,e4,d1,d2,h4⟩:=G7 2 h3 #[] (gO (i:=3) J) #[];obtain⟨bn,z3,z2,z4⟩:=Ae b1 b2 Y d1 d2;obtain⟨bd,dn⟩:=Jd u2 u3;have g:=Z5 (B*(1 - 2*r4)) d (some U) dn bd #[];apply g_;refine#[_,U,y9 (s:=#[[.v .feed,.v (.int B),.v (.int d)],some U]) ?_,Sz.of_divInt dn bn bd,h4];show fZ LF A3 #[[.v .feed,.no,.no],some f]=_;unfold fZ;rw[o8 (s1:=#[[.v .feed,.v (.int B),.no],some Z]) (B4 (cw (o6 rfl (o6 (d7 (s1:=#[[.v .feed,.no,.no],some f]) rfl (J0 rfl e1) q1) rfl)) e2) rfl),
  o8 (s1:=#[[.v .feed,.v (.int B),.v (.int d)],some f3]) (B4 (d7 (s1:=#[[.v .feed,.v (.int B),.no],some Z]) rfl (J0 rfl e3) u1) rfl)]
 exact C7 (cw (o6 (d7 rfl (d7 rfl (d7 rfl (J0 rfl e4) (C8 #[] (z2.bits #[]))) rfl) (C8 (z3.bits #[]) (z4.bits #[]))) rfl) g)
abbrev K4:c9:=wJ LA LN
structure PtS (k:Nat) (a:Pt):Prop where
 x:Sz k a.1
 y:Sz k a.2
def PtS.ps {k:Nat}{a:Pt}(h:PtS k a):Ps (k+k) a:=Ps.of h.x h.y
theorem PtS.mono {k l:Nat}{a:Pt}(h:PtS k a) (B:k<=l):PtS l a:=#[h.x.mono B,h.y.mono B]
def jT {n:Nat}{f:FS}(h:Fd n f) (Y:n<2 ^ 28):∃a f',K4 [.feed] (some f)=some (pt a,some f')/\PtS 5 a/\Fd (n+8) f':=by
 obtain⟨p,f1,U,s1,h1⟩:=pC h ∅;obtain⟨q,B,J,s2,h2⟩:=pC h1 ∅;refine#[(p,q),B,y9 (s:=#[[.v .feed],some B]) ?_,#[s1,s2],h2];show ig LA LN #[[.v .feed],some f]=_;simp![ig,d6,U,J,oW p q _ s1 s2 ∅]
section
variable {α β:Type}
def Z7 (lt:α->α->Bool):List α->List α->List α
 |[],ys=>ys
 |x::xs,ys=>ys.takeWhile (fun y=>lt y x)++x::Z7 lt xs (ys.dropWhile (fun y=>lt y x))
def U6 (lt:α->α->Bool):Nat->List α->List α
 |0,l=>l
 |n+1,l=>if l.length<2 then l else Z7 lt (U6 lt n (l.take (l.length / 2))) (U6 lt n (l.drop (l.length / 2)))
def K8 (t:α->α->α->Bool) (x:α):List α->List α
 |b::a::r=>if t a b x=true then b::a::r else K8 t x (a::r)
 |l=>l
def O6 (t:α->α->α->Bool):List α->List α->List α
 |acc,[]=>acc
 |acc,x::xs=>O6 t (x::K8 t x acc) xs
def A8 (t:α->α->α->Bool) (l:List α):List α:=(O6 t [] l).reverse
def gZ (lt:α->α->Bool) (t:α->α->α->Bool) (l:List α):List α:=(A8 t (U6 lt 64 l)).dropLast++(A8 t (U6 lt 64 l).reverse).dropLast
def R8 [DecidableEq α] (B:List α) (x:α):List α:=if x∈B then B else B++[x]
def az [DecidableEq α] (l:List α):List α:=l.foldl R8 []
variable {lt:α->α->Bool}{lt':β->β->Bool}{t:α->α->α->Bool}{t':β->β->β->Bool}{f:α->β}
theorem vf (h:∀a b c,t' (f a) (f b) (f c)=t a b c) (x:α):∀l:List α,K8 t' (f x) (l.map f)=(K8 t x l).map f
 |[]=>rfl
 |[b]=>rfl
 |b::a::r=>by
  have B:=vf h x (a::r);simp only[JS,K8] at B ⊢;rw[h];split
  .rfl
  .exact B
theorem um (h:∀a b c,t' (f a) (f b) (f c)=t a b c):∀(l acc:List α),O6 t' (acc.map f) (l.map f)=(O6 t acc l).map f
 |[],acc=>rfl
 |x::xs,acc=>by
  simp only[JS,O6];rw[vf h,<-JS,um h xs]
def jO (h:∀a b c,t' (f a) (f b) (f c)=t a b c) (l:List α):A8 t' (l.map f)=(A8 t l).map f:=by
 unfold A8;have:=um h l [];rw[KJ] at this;rw[this,List.map_reverse]
theorem mT:∀{xs ys:List α}{z:α},z∈Z7 lt xs ys->z∈xs\/z∈ys
 |[],ys,z,h=>.inr h
 |x::xs,ys,z,h=>by
  simp only[Z7] at h;rcases JP.mp h with h | h
  .exact .inr (List.takeWhile_subset _ h)
  .rcases xo.mp h with h | h
   .exact .inl (h▸JL ..)
   .rcases mT h with h | h
    .exact .inl (JH _ h)
    .exact .inr (OB _ h)
theorem bf:∀(n:Nat) {l:List α}{z:α},z∈U6 lt n l->z∈l
 |0,l,z,h=>h
 |n+1,l,z,h=>by
  simp only[U6] at h;split at h
  .exact h
  .rcases mT h with h | h
   .exact Mm (bf n h)
   .exact Mb (bf n h)
theorem jP {x:α}:∀{l:List α}{z:α},z∈K8 t x l->z∈l
 |[],z,h=>h
 |[b],z,h=>h
 |b::a::r,z,h=>by
  simp only[K8] at h;split at h
  .exact h
  .exact JH _ (jP h)
theorem qe:∀{l acc:List α}{z:α},z∈O6 t acc l->z∈acc\/z∈l
 |[],acc,z,h=>.inl h
 |x::xs,acc,z,h=>by
  simp only[O6] at h;rcases qe h with h | h
  .rcases xo.mp h with h | h
   .exact .inr (h▸JL ..)
   .exact .inl (jP h)
  .exact .inr (JH _ h)
def je {l:List α}{z:α}(h:z∈A8 t l):z∈l:=by
 unfold A8 at h;rcases qe (ML.mp h) with h | h
 .cases h
 .exact h
theorem pT [DecidableEq α]:∀{l acc:List α}{z:α},z∈l.foldl R8 acc->z∈acc\/z∈l
 |[],acc,z,h=>.inl h
 |x::xs,acc,z,h=>by
  rcases pT (l:=xs) h with h | h
  .unfold R8 at h;split at h
   .exact .inl h
   .rcases JP.mp h with h | h
    .exact .inl h
    .exact .inr (by rw[JK.mp h];exact JL ..)
  .exact .inr (JH _ h)
def lG [DecidableEq α] {l:List α}{z:α}(h:z∈az l):z∈l:=by
 rcases pT h with h | h
 .cases h
 .exact h
theorem vW [DecidableEq α]:∀(l acc:List α),(l.foldl R8 acc).length<=acc.length+l.length
 |[],acc=>tx _
 |x::xs,acc=>by
  have h:=vW xs (R8 acc x);have h2:(R8 acc x).length<=acc.length+1:=by
   unfold R8;split
   .omega
   .simp
  simp only[KP,JO];omega
def xT [DecidableEq α] (l:List α):(az l).length<=l.length:=by
 unfold az;simpa using vW l []
end
section
variable {α:Type}{lt:α->α->Bool}
abbrev P9 (lt:α->α->Bool) (l:List α):Prop:=l.Pairwise fun a b=>lt a b=true
structure Ord (lt:α->α->Bool):Prop where
 irr:∀a,lt a a=false
 tr:∀a b c,lt a b=true->lt b c=true->lt a c=true
 tot:∀a b,lt a b=false->a≠b->lt b a=true
theorem jC:∀{xs ys:List α}{z:α},z∈xs\/z∈ys->z∈Z7 lt xs ys
 |[],ys,z,h=>by rcases h with h | h;cases h;exact h
 |x::xs,ys,z,h=>by
  simp only[Z7];have J:∀{z},z∈ys->z∈ys.takeWhile (fun y=>lt y x)\/z∈ys.dropWhile (fun y=>lt y x):=fun {z} B=>by
   rw[<-Pl (p:=fun y=>lt y x) (l:=ys)] at B;exact JP.mp B
  rcases h with h | h
  .rcases xo.mp h with h | h
   .exact JP.mpr (.inr (h▸JL ..))
   .exact JP.mpr (.inr (JH _ (jC (.inl h))))
  .rcases J h with h | h
   .exact JP.mpr (.inl h)
   .exact JP.mpr (.inr (JH _ (jC (.inr h))))
theorem uw {p:α->Bool}:∀{l:List α}{z:α},z∈l.takeWhile p->p z=true
 |[],z,h=>by cases h
 |a::r,z,h=>by
  rw[List.takeWhile_cons] at h;by_cases q:p a=true
  .rw[iO q] at h;rcases xo.mp h with e | e
   .exact e▸q
   .exact uw e
  .rw[iR q] at h;cases h
theorem pO {p:α->Bool}:∀{l:List α}{a:α}{r:List α},l.dropWhile p=a::r->p a=false
 |[],a,r,h=>by cases h
 |b::l,a,r,h=>by
  rw[List.dropWhile_cons] at h;by_cases q:p b=true
  .rw[iO q] at h;exact pO h
  .rw[iR q] at h;cases h;simpa using q
theorem pS (O:Ord lt):∀{xs ys:List α},P9 lt xs->P9 lt ys->(∀x∈xs,x ∉ ys)->P9 lt (Z7 lt xs ys)
 |[],ys,h1,h2,_=>h2
 |x::xs,ys,h1,h2,d=>by
  obtain⟨g1,g2⟩:=Lj.mp h1;have sub:=Pl (p:=fun y=>lt y x) (l:=ys);have hs:P9 lt (ys.takeWhile (fun y=>lt y x)++ys.dropWhile (fun y=>lt y x)):=by rw[sub];exact h2
  obtain⟨s1,s2,s3⟩:=OC.mp hs;have dw:∀z∈ys.dropWhile (fun y=>lt y x),lt x z=true:=by
   cases e:ys.dropWhile (fun y=>lt y x) with
   |nil=>intro z J;cases J
   |cons a r=>
    rw[e] at s2;have B:lt a x=false:=pO (p:=fun y=>lt y x) e;have am:a∈ys:=OB _ (e▸JL ..);have Z:lt x a=true:=O.tot a x B fun z=>d x (JL ..) (z▸am)
    intro z J;rcases xo.mp J with q | q
    .exact q▸Z
    .exact O.tr _ _ _ Z ((Lj.mp s2).1 z q)
  have rest:∀z∈Z7 lt xs (ys.dropWhile (fun y=>lt y x)),lt x z=true:=fun z J=>by
   rcases mT J with q | q
   .exact g1 z q
   .exact dw z q
  simp only[Z7];refine OC.mpr #[s1,Lj.mpr #[rest,pS O g2 s2 fun a B U=>d a (JH _ B) (OB _ U)],fun a B b U=>?_];have Y:lt a x=true:=uw (p:=fun y=>lt y x) B;rcases xo.mp U with q | q
  .exact q▸Y
  .exact O.tr _ _ _ Y (rest b q)
theorem mM:∀(n:Nat) {l:List α}{z:α},z∈l->z∈U6 lt n l
 |0,l,z,h=>h
 |n+1,l,z,h=>by
  simp only[U6];split
  .exact h
  .rw[<-MM (l.length / 2) l] at h;rcases JP.mp h with h | h
   .exact jC (.inl (mM n h))
   .exact jC (.inr (mM n h))
theorem jY (O:Ord lt):∀(n:Nat) (l:List α),l.length<=2 ^ n->l.Nodup->P9 lt (U6 lt (n+1) l)
 |n,l,hl,nd=>by
  simp only[U6];split
  .rename_i h
   match l,h with
   |[],_=>exact List.Pairwise.nil
   |[a],_=>exact Pm _ _
   |a::b::r,h=>exact absurd h (by simp only[JO];omega)
  .rename_i h;cases n with
   |zero=>exact absurd hl ∅
   |succ n=>
    have p2:2 ^ (n+1)=2 ^ n+2 ^ n:=by rw[Nat.pow_succ];omega
    rw[<-MM (l.length / 2) l] at nd;obtain⟨Z,U,J⟩:=Oe.mp nd;refine pS O (jY O n _ (by rw[Kx];omega) Z) (jY O n _ (by rw[Km];omega) U) fun x Y B=>?_
    exact J x (bf _ Y) x (bf _ B) rfl
def GZ [DecidableEq α] {B:List α}{x z:α}:z∈R8 B x↔z∈B\/z=x:=by
 unfold R8;by_cases h:x∈B
 .rw[iO h];exact#[.inl,fun q=>q.elim id fun e=>e▸h]
 .rw[iR h,JP,JK]
theorem tP [DecidableEq α]:∀{l acc:List α}{z:α},z∈l.foldl R8 acc↔z∈acc\/z∈l
 |[],acc,z=>by simp
 |x::xs,acc,z=>by
  rw[KP,tP,GZ,xo];exact or_assoc
def uniqG_in [DecidableEq α] {l:List α}{z:α}:z∈az l↔z∈l:=by
 unfold az;rw[tP];simp
def yS [DecidableEq α] {B:List α}{x:α}(h:B.Nodup):(R8 B x).Nodup:=by
 unfold R8;by_cases e:x∈B
 .rw[iO e];exact h
 .rw[iR e];refine Oe.mpr #[h,by simp,fun a J b U=>?_];rw[JK.mp U];exact fun z=>e (z▸J)
def Di [DecidableEq α] (l:List α):(az l).Nodup:=by
 have:∀(l B:List α),B.Nodup->(l.foldl R8 B).Nodup:=fun l=>by
  induction l with
  |nil=>intro B h;exact h
  |cons x xs J=>intro B h;exact J _ (yS h)
 exact this l [] Nf
end
theorem lsB_ord:Ord o9 where
 irr:=fun a=>by
  cases q:o9 a a with
  |false=>rfl
  |true=>
   rw[U0] at q;unfold C3 at q;grind
 tr:=fun a b c h1 h2=>by
  rw[U0] at h1 h2 ⊢;unfold C3 at *;grind
 tot:=fun a b h n=>by
  have h:¬ (o9 a b=true):=by rw[h];decide
  rw[U0] at h ⊢;have:¬ (b.1 - a.1=0/\b.2 - a.2=0):=fun z=>n (Kp (by grind) (by grind))
  unfold C3 at *;grind
def av (l:vT_):List Pt:=U6 o9 64 (az l)
def oJ (h:l.length<2 ^ 20):P9 o9 (av l):=jY lsB_ord 63 _ (JN (xT l) (JN (Lk h) #[])) (Di l)
def rowP_in :z∈av l↔z∈l:=#[fun h=>lG (bf _ h),fun h=>mM _ (uniqG_in.mpr h)]
def k9 {a:DE}{b:DA}{s:DS}{x:DL.D}{xs:List DL.D}(h1:a s=some (x,s)) (h2:b s=some (xs,s)):a8 a b s=some (x::xs,s):=o6 h1 h2
def sZ {l:List DL.D}{n:Nat}{x:DL.D}(h:l[n]? = some x):D8 l (n:Int)=some x:=by
 have B:n<l.length:=(Kr.mp h).1;unfold D8 V0;rw[iO ∅,iO ∅];exact h
def v8 (a b c:Pt):Bool:=decide (w9 (d9 a b c)=1)
end T
namespace DL
open PySem L2
theorem pI {x y u v:Rat}(h1:C3 x y) (h2:C3 u v):C3 (x+u) (y+v):=by
 unfold C3 at *;grind
theorem iY {x y u v a:Rat}(B:0<=a) (h1:C3 x y) (h2:C3 u v):C3 (a*x+u) (a*y+v):=by
 by_cases h:a=0
 .subst h;rw[Ml,Ml,Rat.zero_add,Rat.zero_add];exact h2
 .exact pI ((bQ (by grind)).mpr h1) h2
theorem uH {Y U vx Z J B:Rat}(hu:C3 Y U) (hv:C3 vx Z) (hw:C3 J B) (h1:0<Y*Z - U*vx) (h2:0<=vx*B - Z*J):0<Y*B - U*J:=by
 by_cases c:0<Y*B - U*J
 .exact c
 .have k:0 <= -(Y*B - U*J):=by grind
  have a:=(bQ h1).mpr hw;have b:=iY k hv (iY h2 hu a);have e1:-(Y*B - U*J)*vx+((vx*B - Z*J)*Y+(Y*Z - U*vx)*J)=0:=by grind
  have e2:-(Y*B - U*J)*Z+((vx*B - Z*J)*U+(Y*Z - U*vx)*B)=0:=by grind
  rw[e1,e2] at b;exact absurd b ip
def M4 (h b o:Pt):Bool:=if d9 h b o=0 then decide (u7 h b<u7 h o) else decide (d9 h b o<0)
def F2 (h:Pt) (b:Option Pt) (o:Pt):Option Pt:=if o=h then b else match b with
 |none=>some o
 |some r=>if M4 h r o then some o else some r
def bG (h:Pt) (b:Option Pt):F2 h b h=b:=iO rfl
def bE {h o:Pt}(n:o≠h):F2 h none o=some o:=iR n
def bZ {h r o:Pt}(n:o≠h) (f:M4 h r o=true):F2 h (some r) o=some o:=(iR n).trans (iO f)
def bt {h r o:Pt}(n:o≠h) (f:M4 h r o=false):F2 h (some r) o=some r:=(iR n).trans (iR (by rw[f];exact JQ))
def dG (f:Pt) (S:vT_) (b:Option Pt):Prop:=(b=none/\∀q∈S,q=f)\/∃p,b=some p/\p∈S/\p≠f/\∀q∈S,0<=d9 f p q/\(d9 f p q=0->u7 f q<=u7 f p)
def Lst (f:Pt) (q:Pt):Prop:=q=f\/C3 (q.1 - f.1) (q.2 - f.2)
def Lst.pos {f q:Pt}(h:Lst f q) (n:q≠f):C3 (q.1 - f.1) (q.2 - f.2):=h.resolve_left n
theorem iI (f:Pt):u7 f f=0:=by unfold u7;grind
theorem aY (f p:Pt):d9 f p f=0:=by unfold d9;grind
theorem bw (f p:Pt):d9 f p p=0:=by unfold d9;grind
def mX (a b:Pt):0<=u7 a b:=by unfold u7;exact Rat.add_nonneg (fv _) (fv _)
theorem uU {f z:Pt}(J:p≠f) (Z:Lst f p) (Y:Lst f z) (c:d9 f p z=0):∃s:Rat,0<=s/\z=A5 f p s:=by
 by_cases e:z=f
 .exact#[0,by decide,by rw[tZ];exact e]
 .obtain⟨s,B⟩:=eB (a:=f) (b:=p) (fun z=>J z.symm) c;refine#[s,?_,B];have l:=Y.pos e;rw[B] at l;unfold A5 at l;simp only at l;have e1:f.1+s*(p.1 - f.1) - f.1=s*(p.1 - f.1):=by grind
  have U:f.2+s*(p.2 - f.2) - f.2=s*(p.2 - f.2):=by grind
  rw[e1,U] at l;exact Lp ((Gj (Z.pos J) s).mp l)
theorem Jc {f:Pt}{S:vT_}{b:Option Pt}{o:Pt}(hS:∀q∈S,Lst f q) (ho:Lst f o) (h:dG f S b):dG f (S++[o]) (F2 f b o):=by
 by_cases e:o=f
 .subst e;rw[bG];rcases h with ⟨rfl,h⟩ | ⟨p,rfl,h1,h2,Y⟩
  .refine .inl #[rfl,fun q B=>?_];rcases JP.mp B with B | B
   .exact h q B
   .exact JK.mp B
  .refine .inr #[p,rfl,Kt _ h1,h2,fun q B=>?_];rcases JP.mp B with B | B
   .exact Y q B
   .rw[JK.mp B,aY,iI];exact#[KY,fun _=>mX _ _]
 .have lo:=ho.pos e;rcases h with ⟨rfl,h⟩ | ⟨p,rfl,h1,h2,Y⟩
  .rw[bE e];refine .inr #[o,rfl,Kd _ (JK.mpr rfl),e,fun q B=>?_];rcases JP.mp B with B | B
   .rw[h q B,aY,iI];exact#[KY,fun _=>mX _ _]
   .rw[JK.mp B,bw];exact#[KY,fun _=>KY]
  .have lp:=(hS p h1).pos h2;cases J:M4 f p o with
   |true=>
    rw[bZ e J];refine .inr #[o,rfl,Kd _ (JK.mpr rfl),e,fun q B=>?_];rcases JP.mp B with B | B
    .obtain⟨c1,c2⟩:=Y q B;by_cases eq:q=f
     .rw[eq,aY,iI];exact#[KY,fun _=>mX _ _]
     .have lq:=(hS q B).pos eq;unfold M4 at J;by_cases U:d9 f p o=0
      .rw[iO U] at J;have Z:=Kv J;obtain⟨s,s0,hs⟩:=uU h2 (hS p h1) ho U;have hc:d9 f o q=s*d9 f p q:=by rw[hs];unfold A5 d9;grind
       have s1:s≠0:=fun z=>e (by rw[hs,z,tZ])
       refine#[by rw[hc];exact Ly s0 c1,fun z=>?_];rw[hc] at z;rcases Lh.mp z with z | z
       .exact absurd z s1
       .exact Rat.le_trans (c2 z) (Lp Z)
      .rw[iR U] at J;have Z:=Kv J;have ht:=uH lo lp lq (by unfold d9 at Z;grind) (by unfold d9 at c1;grind);have:0<d9 f o q:=by unfold d9;grind
       exact#[Lp this,fun z=>by rw[z] at this;exact absurd this Li]
    .rw[JK.mp B,bw];exact#[KY,fun _=>KY]
   |false=>
    rw[bt e J];refine .inr #[p,rfl,Kt _ h1,h2,fun q B=>?_];rcases JP.mp B with B | B
    .exact Y q B
    .rw[JK.mp B];unfold M4 at J;by_cases U:d9 f p o=0
     .rw[iO U] at J;have:=NG J;exact#[by rw[U];exact KY,fun _=>by grind]
     .rw[iR U] at J;have:=NG J;exact#[by grind,fun z=>absurd z U]
theorem dQ {f:Pt}:∀(l S:vT_) (b:Option Pt),(∀q∈S++l,Lst f q)->dG f S b->dG f (S++l) (l.foldl (F2 f) b)
 |[],S,b,_,h=>by rw[La];exact h
 |o::r,S,b,hl,h=>by
  have e:S++o::r=(S++[o])++r:=by simp
  rw[KP,e];rw[e] at hl;exact dQ r (S++[o]) _ hl (Jc (fun q B=>hl q (Kt _ (Kt _ B))) (hl o (Kt _ (Kd _ (JK.mpr rfl)))) h)
def iB (f p:Pt) (S:vT_) (b:Option Pt):Prop:=(b=none/\∀q∈S,q=p)\/∃r,b=some r/\r∈S/\r≠p/\((∃q∈S,0<d9 f p q)->0<d9 f p r)
theorem sr {f z:Pt}(U:p≠f) (Y:Lst f p) (lz:Lst f z) (c:d9 f p z=0) (hd:u7 f z<=u7 f p) (hz:z≠p):∃s:Rat,s<1/\z=A5 f p s:=by
 obtain⟨s,s0,B⟩:=uU U Y lz c;refine#[s,?_,B];have d:=(uM f p s).1;rw[<-B] at d;have J:=hU (fun z=>U z.symm:f≠p);have Z:s*s<=1:=by
  rcases(MK:s*s<=1\/1<=s*s) with q | q
  .exact q
  .have:u7 f p<=s*s*u7 f p:=by
    have:=OD q (Lp J)
    rwa [Rat.one_mul] at this
   rw[<-d] at this;have e:s*s*u7 f p=1*u7 f p:=by rw[<-d,Rat.one_mul];exact Rat.le_antisymm hd this
   have e2:(s*s - 1)*u7 f p=0:=by grind
   rcases Lh.mp e2 with q | q
   .grind
   .rw[q] at J;exact absurd J Li
 have s1:=(Cb s).mp Z;have n1:s≠1:=fun z1=>hz (by rw[B,z1,gN])
 grind
theorem zv {f:Pt}{S:vT_}{b:Option Pt}{o:Pt}(hp:p≠f) (U:∀q∈l,Lst f q) (pl:p∈l) (F:∀q∈l,0<=d9 f p q/\(d9 f p q=0->u7 f q<=u7 f p)) (hS:∀q∈S,q∈l) (ho:o∈l) (h:iB f p S b):iB f p (S++[o]) (F2 p b o):=by
 by_cases e:o=p
 .subst e;rw[bG];rcases h with ⟨rfl,h⟩ | ⟨r,rfl,h1,h2,Y⟩
  .refine .inl #[rfl,fun q B=>?_];rcases JP.mp B with B | B
   .exact h q B
   .exact JK.mp B
  .refine .inr #[r,rfl,Kt _ h1,h2,fun ⟨q,B,c⟩=>?_];rcases JP.mp B with B | B
   .exact Y #[q,B,c]
   .rw[JK.mp B,bw] at c;exact absurd c Li
 .rcases h with ⟨rfl,h⟩ | ⟨r,rfl,h1,h2,Y⟩
  .rw[bE e];refine .inr #[o,rfl,Kd _ (JK.mpr rfl),e,fun ⟨q,B,c⟩=>?_];rcases JP.mp B with B | B
   .rw[h q B,bw] at c;exact absurd c Li
   .rw[JK.mp B] at c;exact c
  .obtain⟨ro1,ro2⟩:=F r (hS r h1);obtain⟨oo1,Z⟩:=F o ho;cases J:M4 p r o with
   |true=>
    rw[bZ e J];refine .inr #[o,rfl,Kd _ (JK.mpr rfl),e,fun ⟨q,B,c⟩=>?_];rcases JP.mp B with B | B
    .have cr:=Y #[q,B,c];by_cases z:d9 f p o=0
     .obtain⟨s,s1,hs⟩:=sr hp (U p pl) (U o ho) z (Z z) e;have k:d9 p r o=(1 - s)*d9 f p r:=by rw[hs];unfold A5 d9;grind
      have k2:0<d9 p r o:=by rw[k];exact Kz (by grind) cr
      unfold M4 at J;rw[iR (by grind)] at J;have:=Kv J;grind
     .grind
    .rw[JK.mp B] at c;exact c
   |false=>
    rw[bt e J];refine .inr #[r,rfl,Kt _ h1,h2,fun ⟨q,B,c⟩=>?_];rcases JP.mp B with B | B
    .exact Y #[q,B,c]
    .rw[JK.mp B] at c;by_cases z:d9 f p r=0
     .obtain⟨s,s1,hs⟩:=sr hp (U p pl) (U r (hS r h1)) z (ro2 z) h2;have k:d9 p r o = -((1 - s)*d9 f p o):=by rw[hs];unfold A5 d9;grind
      have k1:0<(1 - s)*d9 f p o:=Kz (by grind) c;unfold M4 at J;rw[iR (by grind)] at J;have:=NG J;grind
     .grind
theorem sg {f:Pt}{B:vT_}(Y:p≠f) (U:∀q∈B,Lst f q) (J:p∈B) (F:∀q∈B,0<=d9 f p q/\(d9 f p q=0->u7 f q<=u7 f p)):∀(l S:vT_) (b:Option Pt),(∀q∈S++l,q∈B)->iB f p S b->iB f p (S++l) (l.foldl (F2 p) b)
 |[],S,b,_,h=>by rw[La];exact h
 |o::r,S,b,hm,h=>by
  have e:S++o::r=(S++[o])++r:=by simp
  rw[KP,e];rw[e] at hm;exact sg Y U J F r (S++[o]) _ hm (zv Y U J F (fun q Z=>hm q (Kt _ (Kt _ Z))) (hm o (Kt _ (Kd _ (JK.mpr rfl)))) h)
theorem zk {f a b c:Pt}(B:p≠f) (h1:d9 f p a=0) (h2:d9 f p b=0) (J:d9 f p c=0):d9 a b c=0:=by
 obtain⟨s,rfl⟩:=eB (a:=f) (b:=p) (fun z=>B z.symm) h1;obtain⟨t,rfl⟩:=eB (a:=f) (b:=p) (fun z=>B z.symm) h2;obtain⟨u,rfl⟩:=eB (a:=f) (b:=p) (fun z=>B z.symm) J;unfold A5 d9;grind
def M8 (h:Pt) (l:vT_):Option Pt:=l.foldl (F2 h) none
theorem Jx {f:Pt}(hf:f∈l) (Z:∀q∈l,Lst f q) {a b c:Pt}(J:a∈l) (B:b∈l) (U:c∈l) (h:d9 a b c≠0):∃p r,M8 f l=some p/\p≠f/\p∈l/\M8 p l=some r/\r≠f/\r∈l:=by
 have h1:=dQ l [] none (by simpa using Z) (.inl #[rfl,fun q Y=>by cases Y]);rw[Lf] at h1;rcases h1 with ⟨_,h1⟩ | ⟨p,e1,p1,p2,p3⟩
 .exact absurd (by rw[h1 a J,h1 b B,h1 c U,aY]) h
 .have ex:∃q∈l,0<d9 f p q:=by
   by_cases z1:d9 f p a=0
   .by_cases z2:d9 f p b=0
    .by_cases z3:d9 f p c=0
     .exact absurd (zk p2 z1 z2 z3) h
     .have:=(p3 c U).1;exact#[c,U,by grind]
    .have:=(p3 b B).1;exact#[b,B,by grind]
   .have:=(p3 a J).1;exact#[a,J,by grind]
  have h2:=sg p2 Z p1 p3 l [] none (by simp) (.inl #[rfl,fun q Y=>by cases Y]);rw[Lf] at h2;rcases h2 with ⟨_,h2⟩ | ⟨r,e2,r1,r2,r3⟩
  .exact absurd (h2 f hf) (fun z=>p2 z.symm)
  .refine#[p,r,e1,p2,p1,e2,fun z=>?_,r1];have:=r3 ex;rw[z,aY] at this;exact absurd this Li
end DL
namespace T
open PySem L2 DL
theorem vO {Y U vx Z J B:Rat}(hu:C3 Y U) (hv:C3 vx Z) (hw:C3 J B) (h1:0<=Y*Z - U*vx) (h2:0<=vx*B - Z*J):0<=Y*B - U*J:=by
 refine Mn.mp fun h=>?_
 have hs:0 < -(Y*B - U*J):=by grind
 have a1:=(bQ hs).mpr hv;have a2:=iY h1 hw a1;have a3:=iY h2 hu a2;have e1:(vx*B - Z*J)*Y+((Y*Z - U*vx)*J + -(Y*B - U*J)*vx)=0:=by grind
 have e2:(vx*B - Z*J)*U+((Y*Z - U*vx)*B + -(Y*B - U*J)*Z)=0:=by grind
 rw[e1,e2] at a3;exact ip a3
def nZ (r:Rat):w9 r=1↔0<r:=by
 unfold w9;by_cases h:0<r
 .rw[iO h];exact#[fun _=>h,fun _=>rfl]
 .rw[iR h];by_cases h2:r<0
  .rw[iO h2];exact#[fun z=>absurd z #[],fun z=>absurd z h]
  .rw[iR h2];exact#[fun z=>absurd z #[],fun z=>absurd z h]
def U1 {a b:Pt}(h:o9 a b=true):C3 (b.1 - a.1) (b.2 - a.2):=(U0 a b).mp h
def Ch (S:Pt->Prop):List Pt->Prop
 |b::a::r=>o9 a b=true/\(∀q,S q->0<=d9 a b q)/\(∀z r',r=z::r'->0<d9 z a b)/\Ch S (a::r)
 |_=>True
def Up (S:Pt->Prop) (x b:Pt):Prop:=(∀q,S q->q=b\/o9 q b=true)\/∃c,o9 b c=true/\(∀q,S q->0<=d9 b c q)/\¬ (0<d9 b c x)
theorem jV {x b q:Pt}(U:Up S x b) (B:S q) (J:o9 b x=true) (h:q=b\/o9 b q=true):0<=d9 b x q:=by
 rcases h with rfl | h
 .have:d9 q x q=0:=aY q x;rw[this];exact KY
 .rcases U with U | ⟨c,bc,Uc,n⟩
  .rcases U q B with e | e
   .subst e;rw[aY];exact KY
   .have:=lsB_ord.tr _ _ _ h e;rw[lsB_ord.irr] at this;cases this
  .have k1:=Uc q B;have k2:0 <= -d9 b c x:=by have:=Mn.mp n;grind
   have:=vO (U1 J) (U1 bc) (U1 h) (by rw[show (x.1 - b.1)*(c.2 - b.2) - (x.2 - b.2)*(c.1 - b.1) = -d9 b c x by unfold d9;grind];exact k2) (by unfold d9 at k1;exact k1);unfold d9;exact this
theorem CG {a b x q:Pt}(ab:o9 a b=true) (J:o9 b x=true) (B:o9 q b=true) (h1:0<=d9 a b q) (h2:0<d9 a b x):0<=d9 b x q:=by
 have:=vO (U1 B) (U1 ab) (U1 J) (by rw[show (b.1 - q.1)*(b.2 - a.2) - (b.2 - q.2)*(b.1 - a.1)=d9 a b q by unfold d9;grind];exact h1)
  (by rw[show (b.1 - a.1)*(x.2 - b.2) - (b.2 - a.2)*(x.1 - b.1)=d9 a b x by unfold d9;grind];exact Lp h2)
 have e:d9 b x q=(b.1 - q.1)*(x.2 - b.2) - (b.2 - q.2)*(x.1 - b.1):=by unfold d9;grind
 rw[e];exact this
theorem zc {z a b x:Pt}(B:o9 z a=true) (ab:o9 a b=true) (J:o9 b x=true) (h1:0<d9 z a b) (h2:0<d9 a b x):0<d9 z a x:=by
 have:=uH (U1 B) (U1 ab) (U1 J) (by rw[show (a.1 - z.1)*(b.2 - a.2) - (a.2 - z.2)*(b.1 - a.1)=d9 z a b by unfold d9;grind];exact h1)
  (by rw[show (b.1 - a.1)*(x.2 - b.2) - (b.2 - a.2)*(x.1 - b.1)=d9 a b x by unfold d9;grind];exact Lp h2)
 have e:d9 z a x=d9 z a b+((a.1 - z.1)*(x.2 - b.2) - (a.2 - z.2)*(x.1 - b.1)):=by unfold d9;grind
 rw[e];grind
theorem qZ {x:Pt}:∀{r:vT_}{b a:Pt},Ch S (b::a::r)->0<d9 a b x->o9 b x=true->Ch (fun q=>S q\/q=x) (b::a::r)
 |r,b,a,⟨ab,L,T,R⟩,h,bx=>by
  refine#[ab,fun q B=>B.elim (L q) fun e=>by rw[e];exact Lp h,T,?_];cases r with
  |nil=>trivial
  |cons z J=>
   have t:=T z J rfl;exact qZ R (zc R.1 ab bx t h) (lsB_ord.tr _ _ _ ab bx)
theorem rN {x:Pt}(Z:∀q,S q->o9 q x=true):∀(r:vT_) (b:Pt),Ch S (b::r)->Up S x b->(∀p,(b::r).getLast? = some p->∀q,S q->q=p\/o9 p q=true)->(∀z∈b::r,S z)->Ch (fun q=>S q\/q=x) (x::K8 v8 x (b::r))
 |[],b,C,U,B,I=>by
  have Y:=Z b (I b (by simp));refine#[Y,fun q J=>?_,fun z r' e=>(by cases e),trivial];rcases J with J | rfl
  .exact jV U J Y (B b rfl q J)
  .rw[bw];exact KY
 |a::r,b,C,U,B,I=>by
  obtain⟨ab,L,T,R⟩:=id C;have Y:=Z b (I b (by simp));simp only[K8];by_cases t:v8 a b x=true
  .rw[iO t];have t:0<d9 a b x:=by
    unfold v8 at t;have:=Kv t;exact(nZ _).mp this
   refine#[Y,fun q J=>?_,fun z r' e=>(by cases e;exact t),qZ C t Y];rcases J with J | rfl
   .by_cases n:q=b
    .exact jV U J Y (.inl n)
    .cases w:o9 q b with
     |true=>exact CG ab Y w (L q J) t
     |false=>exact jV U J Y (.inr (lsB_ord.tot q b w n))
   .rw[bw];exact KY
  .rw[iR t];have t:¬ (0<d9 a b x):=fun z=>t (by unfold v8;exact JJ ((nZ _).mpr z))
   exact rN Z r a R (.inr #[b,ab,L,t]) (fun p e=>B p (by rw[MN];exact e)) fun z hz=>I z (JH _ hz)
theorem lP {α:Type}{t:α->α->α->Bool}{x:α}:∀l:List α,(K8 t x l).getLast? = l.getLast?
 |[]=>rfl
 |[b]=>rfl
 |b::a::r=>by
  simp only[K8];split
  .rfl
  .rw[lP (a::r),MN]
theorem jZ {α:Type}{t:α->α->α->Bool}{x:α}:∀{l:List α},l≠[]->K8 t x l≠[]
 |[],h=>absurd rfl h
 |[b],_=>by simp[K8]
 |b::a::r,_=>by
  simp only[K8];split
  .simp
  .exact jZ (by simp)
structure Stk (S:Pt->Prop) (acc:vT_):Prop where
 ch:Ch S acc
 top:∀b r,acc=b::r->∀q,S q->q=b\/o9 q b=true
 bot:∀p,acc.getLast? = some p->∀q,S q->q=p\/o9 p q=true
 mem:∀z∈acc,S z
def CW {B:vT_}{x:Pt}(h:Stk S B) (Z:B≠[]) (U:∀q,S q->o9 q x=true):Stk (fun q=>S q\/q=x) (x::K8 v8 x B):=by
 cases B with
 |nil=>exact absurd rfl Z
 |cons b r=>
  have pn:K8 v8 x (b::r)≠[]:=jZ Z;refine#[rN U r b h.ch (.inl (h.top b r rfl)) h.bot h.mem,fun b' r' e q J=>?_,fun p e q J=>?_,fun z hz=>?_]
  .cases e;exact J.elim (fun z=>.inr (U q z)) .inl
  .have Y:(b::r).getLast? = some p:=by
    rw[<-lP (t:=v8) (x:=x) (b::r)];cases w:K8 v8 x (b::r) with
    |nil=>exact absurd w pn
    |cons c cs=>rw[w,MN] at e;exact e
   rcases J with J | rfl
   .exact h.bot p Y q J
   .exact .inr (U p (h.mem p (List.mem_of_getLast? Y)))
  .rcases xo.mp hz with e | e
   .exact .inr e
   .exact .inl (h.mem z (jP e))
theorem Ch.sub {B:Pt->Prop}(h:∀q,B q->S q):∀{l:vT_},Ch S l->Ch B l
 |[],_=>trivial
 |[b],_=>trivial
 |b::a::r,⟨h1,h2,h3,h4⟩=>#[h1,fun q J=>h2 q (h q J),h3,Ch.sub h h4]
theorem Stk.sub {J:Pt->Prop}(h:Stk S l) (e:∀q,J q↔S q):Stk J l:=
 #[h.ch.sub fun q B=>(e q).mp B,fun b r g q B=>h.top b r g q ((e q).mp B),fun p g q B=>h.bot p g q ((e q).mp B),fun z U=>(e z).mpr (h.mem z U)]
theorem wC:∀(l acc:vT_) (S:Pt->Prop),Stk S acc->acc≠[]->(∀q,S q->∀x∈l,o9 q x=true)->P9 o9 l->Stk (fun q=>S q\/q∈l) (O6 v8 acc l)/\O6 v8 acc l≠[]/\(O6 v8 acc l).getLast? = acc.getLast?
 |[],acc,S,h,ne,_,_=>#[h.sub fun q=>by simp,ne,rfl]
 |x::xs,acc,S,h,ne,hl,hs=>by
  obtain⟨s1,s2⟩:=Lj.mp hs;have h1:=CW h ne fun q B=>hl q B x (JL ..)
  obtain⟨U,Z,Y⟩:=wC xs (x::K8 v8 x acc) _ h1 (by simp) (fun q B y J=>B.elim (fun z=>hl q z y (JH _ J)) fun z=>z▸s1 y J) s2;refine#[U.sub fun q=>by rw[xo,or_assoc],Z,?_];simp only[O6];rw[Y];cases w:K8 v8 x acc with
  |nil=>exact absurd w (jZ ne)
  |cons c cs=>rw[MN,<-w,lP]
def mS (h:P9 o9 (p::l)):Stk (fun q=>q∈p::l) (O6 v8 [] (p::l))/\(O6 v8 [] (p::l)).getLast? = some p/\O6 v8 [] (p::l)≠[]:=by
 obtain⟨h1,h2⟩:=Lj.mp h;have s0:Stk (fun q=>q=p) [p]:=#[trivial,fun b r e q B=>by cases e;exact .inl B,fun p' e q B=>by cases e;exact .inl B,fun z U=>by simpa using U]
 obtain⟨J,g2,Z⟩:=wC l [p] _ s0 (by simp) (fun q B x Y=>by rw[B];exact h1 x Y) h2;exact#[J.sub fun q=>by rw[xo],Z,g2]
def fT (p:Pt):List Int:=[pX p,pY p,pL p]
def CL {q:Pt}(h:fT p=fT q):p=q:=by
 simp only[fT,NH,and_true] at h;obtain⟨h1,h2,B⟩:=h;refine Kp ?_ ?_
 .rw[<-jS p,<-jS q,h1,B]
 .rw[<-km p,<-km q,h2,B]
def zY {q:Pt}(h:pt p=pt q):p=q:=by
 have h:D.tup [.int (pX p),.int (pY p),.int (pL p)] = .tup [.int (pX q),.int (pY q),.int (pL q)]:=h;simp only[D.tup.injEq,NH,D.int.injEq,and_true] at h;refine CL ?_;simp only[fT,h]
def G5 (l:vT_):List Pt:=gZ o9 v8 (az l)
def JF (h:z∈G5 l):z∈l:=by
 unfold G5 gZ at h;rcases JP.mp h with h | h
 .exact lG (bf _ (je (List.dropLast_subset _ h)))
 .exact lG (bf _ (ML.mp (je (List.dropLast_subset _ h))))
def fH (l:vT_):D:=if (G5 l).length<3 then .non else .tup ((G5 l).map pt)
structure Nx (S:Pt->Prop) (a b:Pt):Prop where
 ne:b≠a
 lf:∀q,S q->0<=d9 a b q
 far:∀q,S q->d9 a b q=0->∃s:Rat,0<=s/\s<=1/\q=A5 a b s
def eK {a b:Pt}(h:o9 a b=true):b≠a:=fun e=>by rw[e,lsB_ord.irr] at h;cases h
theorem Iq {a b:Pt}{s:Rat}(h:o9 a b=true) (U:1<s):o9 b (A5 a b s)=true:=by
 rw[U0];have J:(A5 a b s).1 - b.1=(s - 1)*(b.1 - a.1):=by unfold A5;grind
 have B:(A5 a b s).2 - b.2=(s - 1)*(b.2 - a.2):=by unfold A5;grind
 rw[J,B];exact(bQ (by grind)).mpr (U1 h)
theorem xi {a b:Pt}{s:Rat}(h:o9 a b=true) (U:s<0):o9 (A5 a b s) a=true:=by
 rw[U0];have J:a.1 - (A5 a b s).1=(-s)*(b.1 - a.1):=by unfold A5;grind
 have B:a.2 - (A5 a b s).2=(-s)*(b.2 - a.2):=by unfold A5;grind
 rw[J,B];exact(bQ (by grind)).mpr (U1 h)
def mw {a b:Pt}(h:o9 a b=true) (h2:o9 b a=true):False:=by
 have:=lsB_ord.tr _ _ _ h h2;rw[lsB_ord.irr] at this;cases this
def pk (S:Pt->Prop) (a b:Pt):Prop:=(∀q,S q->q=b\/o9 q b=true)\/∃c,0<d9 a b c/\∀q,S q->0<=d9 b c q
theorem Ib {a b:Pt}{r:vT_}(C:Ch S (b::a::r)) (U:pk S a b) (B:r=[]->∀q,S q->q=a\/o9 a q=true):Nx S a b:=by
 obtain⟨ab,L,T,R⟩:=C;refine#[eK ab,L,fun q J Z=>?_];obtain⟨s,rfl⟩:=eB (fun e=>eK ab e.symm) Z;refine#[s,Mn.mp fun Y=>?_,Mn.mp fun Y=>?_,rfl]
 .have lo:=xi ab Y;cases r with
  |nil=>
   rcases B rfl _ J with e | e
   .rw[e,lsB_ord.irr] at lo;cases lo
   .exact mw lo e
  |cons z r'=>
   have t:=T z r' rfl;have k:=R.2.1 _ J;have e:d9 z a (A5 a b s)=s*d9 z a b:=by unfold d9 A5;grind
   rw[e] at k;have:=Kz (show 0 < -s by grind) t;grind
 .have hi:=Iq ab Y;rcases U with U | ⟨w,t,k⟩
  .rcases U _ J with e | e
   .rw[e,lsB_ord.irr] at hi;cases hi
   .exact mw hi e
  .have k:=k _ J;have e:d9 b w (A5 a b s) = -((s - 1)*d9 a b w):=by unfold d9 A5;grind
   rw[e] at k;have:=Kz (show 0<s - 1 by grind) t;grind
def O9 (R:Pt->Pt->Prop):List Pt->Prop
 |a::b::r=>R a b/\O9 R (b::r)
 |_=>True
theorem vP {c:Pt}:∀{l:vT_}{b:Pt},O9 R (l++[b])->R b c->O9 R (l++[b]++[c])
 |[],b,_,h=>#[h,trivial]
 |[a],b,⟨h1,_⟩,h=>#[h1,h,trivial]
 |a::a'::l,b,⟨h1,h2⟩,h=>#[h1,vP (l:=a'::l) h2 h]
theorem pK :∀(r:vT_) (b:Pt),Ch S (b::r)->(∀a r',r=a::r'->pk S a b)->(∀p,(b::r).getLast? = some p->∀q,S q->q=p\/o9 p q=true)->O9 (Nx S) (b::r).reverse
 |[],b,_,_,_=>trivial
 |a::r,b,C,U,B=>by
  have n:=Ib C (U a r rfl) (fun e=>by subst e;exact B a rfl);have J:=pK r a C.2.2.2 (fun z r' e=>.inr #[b,C.2.2.1 z r' e,C.2.1]) (fun p e=>B p (by rw[MN];exact e));rw[Ls] at J;rw[Ls,Ls];exact vP J n
def wt (h:P9 o9 (p::l)):O9 (Nx fun q=>q∈p::l) (A8 v8 (p::l)):=by
 obtain⟨s,_,B⟩:=mS h;unfold A8;cases e:O6 v8 [] (p::l) with
 |nil=>exact absurd e B
 |cons b r=>
  rw[e] at s;exact pK r b s.ch (fun a J _=>.inl (s.top b r rfl)) s.bot
def rA (h:P9 o9 (p::l)):(A8 v8 (p::l)).head? = some p:=by
 obtain⟨_,e,_⟩:=mS h;unfold A8;rw[List.head?_reverse];exact e
theorem rK {α:Type}{t:α->α->α->Bool}:∀(l acc:List α) (x:α),(O6 t acc (l++[x])).head? = some x
 |[],acc,x=>rfl
 |y::l,acc,x=>rK l _ x
def pE {x:Pt}:(A8 v8 (l++[x])).getLast? = some x:=by
 unfold A8;rw[List.getLast?_reverse];exact rK l [] x
def ng (p:Pt):Pt:=(-p.1,-p.2)
theorem aS (p:Pt):ng (ng p)=p:=Kp (by unfold ng;grind) (by unfold ng;grind)
theorem lA (a b c:Pt):d9 (ng a) (ng b) (ng c)=d9 a b c:=by unfold d9 ng;grind
def lT (a b c:Pt):v8 (ng a) (ng b) (ng c)=v8 a b c:=by unfold v8;rw[lA]
theorem rG (a b:Pt):o9 (ng a) (ng b)=o9 b a:=by
 rw[Ld,U0,U0];have J:(ng b).1 - (ng a).1=a.1 - b.1:=by unfold ng;grind
 have B:(ng b).2 - (ng a).2=a.2 - b.2:=by unfold ng;grind
 rw[J,B]
theorem HH (a b:Pt) (s:Rat):ng (A5 a b s)=A5 (ng a) (ng b) s:=Kp (by unfold ng A5;grind) (by unfold ng A5;grind)
def AI {a b:Pt}(h:Nx (fun q=>S (ng q)) (ng a) (ng b)):Nx S a b:=by
 refine#[fun e=>h.ne (by rw[e]),fun q B=>?_,fun q B c=>?_]
 .rw[<-lA];exact h.lf (ng q) (by rw[aS];exact B)
 .rw[<-lA] at c;obtain⟨s,h1,h2,e⟩:=h.far (ng q) (by rw[aS];exact B) c;refine#[s,h1,h2,?_];rw[<-HH] at e;rw[<-aS q,e,aS]
theorem nV {B:Pt->Pt->Prop}{f:Pt->Pt}(h:∀a b,R (f a) (f b)->B a b):∀{l:vT_},O9 R (l.map f)->O9 B l
 |[],_=>trivial
 |[a],_=>trivial
 |a::b::r,⟨h1,h2⟩=>#[h a b h1,nV (l:=b::r) h h2]
theorem vQ {B:Pt->Pt->Prop}(h:∀a b,R a b->B a b):∀{l:vT_},O9 R l->O9 B l
 |[],_=>trivial
 |[a],_=>trivial
 |a::b::r,⟨h1,h2⟩=>#[h a b h1,vQ (l:=b::r) h h2]
def Nx.sub {J:Pt->Prop}{a b:Pt}(h:Nx S a b) (e:∀q,J q->S q):Nx J a b:=#[h.ne,fun q B=>h.lf q (e q B),fun q B=>h.far q (e q B)]
def mH (h:P9 o9 l):P9 o9 (l.reverse.map ng):=by
 refine Oi.mpr ?_;have:l.reverse.Pairwise fun a b=>o9 b a=true:=Pn.mpr h
 exact this.imp fun {a b} e=>by rw[rG];exact e
def xw (h:P9 o9 l):O9 (Nx fun q=>q∈l) (A8 v8 l.reverse):=by
 have U:=mH h;have e:A8 v8 (l.reverse.map ng)=(A8 v8 l.reverse).map ng:=jO (f:=ng) lT l.reverse;have m:∀q,q∈l->ng q∈l.reverse.map ng:=fun q J=>OE (ML.mpr J)
 cases w:l.reverse.map ng with
 |nil=>
  have:l=[]:=by simpa using w
  subst this;trivial
 |cons p r=>
  rw[w] at U;have R:=wt U;rw[<-w,e] at R;exact nV (fun a b B=>AI (B.sub fun q J=>by have z:=m _ J;rw[aS] at z;exact z)) R
theorem Gz {a b:Pt}(h:b≠a) {s:Rat}(e:b=A5 a b s):s=1:=by
 unfold A5 at e;have U:b.1=a.1+s*(b.1 - a.1):=congrArg Prod.fst e;have J:b.2=a.2+s*(b.2 - a.2):=congrArg Prod.snd e;by_cases z:b.1 - a.1=0
 .have B:b.2 - a.2≠0:=fun w=>h (Kp (by grind) (by grind))
  have:(s - 1)*(b.2 - a.2)=0:=by grind
  rcases Lh.mp this with q | q
  .grind
  .exact absurd q B
 .have:(s - 1)*(b.1 - a.1)=0:=by grind
  rcases Lh.mp this with q | q
  .grind
  .exact absurd q z
theorem yg (a b:Pt) (s t:Rat):A5 a (A5 a b s) t=A5 a b (t*s):=by
 unfold A5;exact Kp (by grind) (by grind)
theorem rJ (a b c:Pt):d9 a c b = -d9 a b c:=by unfold d9;grind
theorem FW {a b c:Pt}(J:S b) (U:S c) (h1:Nx S a b) (h2:Nx S a c):b=c:=by
 have k1:=h1.lf c U;have k2:=h2.lf b J;have e:=rJ a b c;have z1:d9 a b c=0:=by grind
 have Y:d9 a c b=0:=by grind
 obtain⟨s,s0,s1,es⟩:=h1.far c U z1;obtain⟨t,t0,t1,Z⟩:=h2.far b J Y;have q:b=A5 a b (t*s):=by rw[<-yg,<-es];exact Z
 have q:=Gz h1.ne q;have B:s=1:=by
  have a1:t*s<=1*s:=OD t1 s0;grind
 rw[es,B,gN]
theorem pG {x:Pt}:∀{l m:vT_},O9 R (l++[x])->O9 R (x::m)->O9 R (l++x::m)
 |[],m,_,h=>h
 |[a],m,⟨h1,_⟩,h=>#[h1,h]
 |a::b::l,m,⟨h1,h2⟩,h=>#[h1,pG (l:=b::l) h2 h]
theorem cu :∀{l:vT_}{i:Nat}{a b:Pt},O9 R l->l[i]? = some a->l[i+1]? = some b->R a b
 |[],i,a,b,_,h,_=>by simp at h
 |[c],i,a,b,_,_,h=>by simp at h
 |c::d::r,0,a,b,⟨h1,_⟩,e1,e2=>by simp at e1 e2;subst e1;subst e2;exact h1
 |c::d::r,i+1,a,b,⟨_,h2⟩,e1,e2=>cu (l:=d::r) h2 (by simpa using e1) (by simpa using e2)
structure Rnd (S:Pt->Prop) (p:Pt) (C:vT_):Prop where
 hd:C.head? = some p
 run:O9 (Nx S) (C++[p])
 mem:∀z∈C,S z
 nb:∀i,0<i->C[i]? ≠ some p
def Rnd.nodup {C:vT_}(h:Rnd S p C):C.Nodup:=by
 have sp:S p:=h.mem p (Po h.hd);have U:∀i a,(C++[p])[i]? = some a->S a:=fun i a e=>by
  rcases JP.mp (KC e) with z | z
  .exact h.mem a z
  .rw[JK.mp z];exact sp
 have J:∀(t i j:Nat),i<j->j+t<=C.length->(C++[p])[i]? = (C++[p])[j]? -> (C++[p])[i+t]? = (C++[p])[j+t]?:=by
  intro t;induction t with
  |zero=>intro i j _ _ e;exact e
  |succ t ih=>
   intro i j B hl e;have e':=ih i j B ∅ e;have l:(C++[p]).length=C.length+1:=by simp
   obtain⟨a,ha⟩:∃a,(C++[p])[j+t]? = some a:=#[_,Kf ∅]
   obtain⟨b,hb⟩:∃b,(C++[p])[j+t+1]? = some b:=#[_,Kf ∅]
   obtain⟨c,hc⟩:∃c,(C++[p])[i+t+1]? = some c:=#[_,Kf ∅]
   have r1:=cu h.run ha hb;have Z:=cu h.run (e'.trans ha) hc;have:=FW (U _ _ hb) (U _ _ hc) r1 Z;show (C++[p])[i+t+1]? = (C++[p])[j+t+1]?;rw[hb,hc,this]
 refine List.pairwise_iff_getElem.mpr fun i j hi Y B e=>?_
 have e:C[i]? = C[j]?:=by rw[Kf hi,Kf Y,e]
 have g:∀k,k<C.length->(C++[p])[k]? = C[k]?:=fun k hk=>Lq hk
 have s:=J (C.length - j) i j B ∅ (by rw[g i ∅,g j Y];exact e);rw[show j+(C.length - j)=C.length by omega,LM (tx _),Nat.sub_self,g _ ∅] at s;exact h.nb (i+(C.length - j)) ∅ s
theorem uY {α:Type}[DecidableEq α]:∀{L M:List α},L.Nodup->(∀z∈L,z∈M)->L.length<=M.length
 |[],M,_,_=>Ko _
 |a::L,M,nd,h=>by
  obtain⟨Z,U⟩:=Ks.mp nd;have B:=h a (JL ..);have Y:=uY (M:=M.erase a) U fun z J=>(List.mem_erase_of_ne (fun e=>Z (by rw[<-e];exact J))).mpr (h z (JH _ J))
  rw[List.length_erase_of_mem B] at Y;have:0<M.length:=List.length_pos_of_mem B;rw[JO];omega
def Rnd.len {C:vT_}(h:Rnd (fun q=>q∈l) p C):C.length<=l.length:=uY h.nodup h.mem
def nB {α:Type}{l:List α}{x:α}(h:l.getLast? = some x):l.dropLast++[x]=l:=by
 obtain⟨m,rfl⟩:=Pp.mp h;simp
def Ew {α:Type}{l:List α}{x:α}(h:l.head? = some x) (h2:2<=l.length):l.dropLast.head? = some x:=by
 match l,h2 with
 |a::b::r,_=>simpa using h
theorem qV :∀{acc:vT_},Ch S acc->acc.Pairwise fun b a=>o9 a b=true
 |[],_=>List.Pairwise.nil
 |[b],_=>Pm _ _
 |b::a::r,⟨ab,_,_,R⟩=>by
  have B:=qV R;refine Lj.mpr #[fun z J=>?_,B];rcases xo.mp J with q | q
  .exact q▸ab
  .exact lsB_ord.tr _ _ _ ((Lj.mp B).1 z q) ab
def uB (h:P9 o9 (p::l)):P9 o9 (A8 v8 (p::l)):=Pn.mpr (qV (mS h).1.ch)
def Fu (hl:l.length<2 ^ 20) {r:vT_}(e:av l=p::r) (hr:r≠[]):Rnd (fun q=>q∈l) p (G5 l):=by
 have U:=oJ hl;rw[e] at U;obtain⟨m,x,rx⟩:∃m x,r=m++[x]:=by
  obtain⟨x,hx⟩:∃x,r.getLast? = some x:=by
   cases q:r.getLast? with
   |none=>exact absurd (List.getLast?_eq_none_iff.mp q) hr
   |some x=>exact#[x,rfl]
  obtain⟨m,q⟩:=Pp.mp hx;exact#[m,x,q]
 have el:p::r=(p::m)++[x]:=by rw[rx];rfl
 have Z:(p::r).reverse=x::(p::m).reverse:=by rw[el];simp
 have px:∀z∈r,o9 p z=true:=(Lj.mp U).1;have xr:x∈r:=by rw[rx];simp
 have inl:∀z,z∈l↔z∈p::r:=fun z=>by rw[<-rowP_in,e]
 have eh:G5 l=(A8 v8 (p::r)).dropLast++(A8 v8 (p::r).reverse).dropLast:=by
  unfold G5 gZ;show (A8 v8 (av l)).dropLast++(A8 v8 (av l).reverse).dropLast=_;rw[e]
 have R1:=wt U;have R2:=xw U;have H1:=rA U;have L1:(A8 v8 (p::r)).getLast? = some x:=by rw[el];exact pE
 have L2:(A8 v8 (p::r).reverse).getLast? = some p:=by rw[Ls];exact pE
 have H2:(A8 v8 (p::r).reverse).head? = some x:=by
  have J:=mH U;have q:A8 v8 ((p::r).reverse.map ng)=(A8 v8 (p::r).reverse).map ng:=jO (f:=ng) lT _;rw[Z,JS] at J;have b:=rA J;rw[<-JS,<-Z,q,List.head?_map] at b;cases w:(A8 v8 (p::r).reverse).head? with
  |none=>rw[w] at b;cases b
  |some y=>
   rw[w] at b;have:ng y=ng x:=Kb b;rw[<-aS y,this,aS]
 have n1:2<=(A8 v8 (p::r)).length:=by
  match w:A8 v8 (p::r),H1,L1 with
  |[],h,_=>cases h
  |[a],h1,h2=>
   simp at h1 h2;exact absurd (h2▸h1▸rfl:x=p) (eK (px x xr))
  |a::b::c,_,_=>simp
 have mem1:∀z∈A8 v8 (p::r),z∈p::r:=fun z Y=>je Y
 have mem2:∀z∈A8 v8 (p::r).reverse,z∈p::r:=fun z Y=>ML.mp (je Y)
 have cp:G5 l++[p]=(A8 v8 (p::r)).dropLast++A8 v8 (p::r).reverse:=by rw[eh,MX,nB L2]
 refine#[?_,?_,fun z Y=>JF Y,fun i hi q=>?_]
 .rw[eh,List.head?_append,Ew H1 n1];rfl
 .rw[cp];cases w:A8 v8 (p::r).reverse with
  |nil=>rw[w] at H2;cases H2
  |cons y m2=>
   rw[w] at H2;have:y=x:=by simpa using H2
   subst this;refine vQ (R:=Nx fun q=>q∈p::r) (fun a b h=>Nx.sub h fun q hq=>(inl q).mp hq) (pG (by rw[nB L1];exact R1) (by rw[<-w];exact R2))
 .have S1:=uB U;have S2:(A8 v8 (p::r).reverse).Pairwise fun a b=>o9 b a=true:=by
   have J:=mH U;have q:A8 v8 ((p::r).reverse.map ng)=(A8 v8 (p::r).reverse).map ng:=jO (f:=ng) lT _;rw[Z,JS] at J;have b:=uB J;rw[<-JS,<-Z,q] at b;exact(Oi.mp b).imp fun {a c} z=>by rw[rG] at z;exact z
  rw[<-nB L2] at S2;have B:∀z∈(A8 v8 (p::r).reverse).dropLast,z≠p:=fun z Y w=>eK ((OC.mp S2).2.2 z Y p (by simp)) w
  have A:∀j,0<j->(A8 v8 (p::r)).dropLast[j]? ≠ some p:=fun j hj w=>by
   cases c:A8 v8 (p::r) with
   |nil=>rw[c] at H1;cases H1
   |cons a t=>
    rw[c] at H1 w S1;have ap:a=p:=by simpa using H1
    have m:p∈t:=by
     have w2:(a::t)[j]? = some p:=by
      rw[List.getElem?_dropLast] at w;split at w
      .exact w
      .cases w
     cases j with
     |zero=>omega
     |succ j=>exact KC (by simpa using w2)
    exact eK ((Lj.mp S1).1 p m) ap.symm
  rw[eh] at q;by_cases hi2:i<(A8 v8 (p::r)).dropLast.length
  .rw[Lq hi2] at q;exact A i hi q
  .rw[LM ∅] at q;exact B p (KC q) rfl
end T
namespace DL
open PySem L2
structure Ok (k n:Nat) (d:D):Prop where
 pl:d.plain=true
 sh:d.py.showable=true
 la:d.py.canLay0=true
 dp:d.py.depth<=k
 le:d.py.leavesShort 1921=true
 bu:d.py.bulk<=n
structure OkL (k n:Nat) (ds:vD_):Prop where
 pl:D.plains ds=true
 sh:PyData.showableAll (D.pys ds)=true
 la:PyData.canLayAll0 (D.pys ds)=true
 dp:PyData.depthAll (D.pys ds)<=k
 le:PyData.leavesShortAll 1921 (D.pys ds)=true
 bu:PyData.bulkAll (D.pys ds)<=n
def Ok.mono {k n k' B:Nat}(h:Ok k n d) (U:k<=k') (J:n<=B):Ok k' B d:=#[h.pl,h.sh,h.la,JN h.dp U,h.le,JN h.bu J]
def OkL.mono {k n k' B:Nat}(h:OkL k n ds) (U:k<=k') (J:n<=B):OkL k' B ds:=#[h.pl,h.sh,h.la,JN h.dp U,h.le,JN h.bu J]
theorem Ok.non:Ok 0 0 .non:=#[rfl,rfl,rfl,tx _,rfl,tx _]
theorem Ok.bl (b:Bool):Ok 0 0 (.bl b):=#[rfl,rfl,rfl,tx _,rfl,tx _]
theorem Ok.int {i:Int}(h:Bd 1920 i):Ok 0 0 (.int i):=by
 have B:i.natAbs.log2<1920:=cR #[] h;refine#[rfl,?_,rfl,tx _,?_,tx _]
 .simp only[D.py,PyData.showable];exact JJ B
 .simp only[D.py,PyData.leavesShort,PyData.shown];exact JJ (GH B)
theorem Ok.str (h:PyData.strOk x=true):Ok 0 x.length (.str x):=by
 refine#[rfl,rfl,?_,tx _,?_,tx _]
 .simp only[D.py,PyData.canLay0];exact h
 .exact PyData.leavesShort_of_canLay0 1921 (.str x) (by simp only[PyData.canLay0];exact h) rfl
def OkL.nil:OkL 0 0 []:=#[rfl,rfl,rfl,tx _,rfl,tx _]
def OkL.cons {k l n m:Nat}(h:Ok k n d) (B:OkL l m ds):OkL (max k l) (n+1+m) (d::ds):=by
 refine#[?_,?_,?_,?_,?_,?_]
 .simp only[D.plains,h.pl,B.pl,Lg]
 .simp only[D.pys,PyData.showableAll,h.sh,B.sh,Lg]
 .simp only[D.pys,PyData.canLayAll0,h.la,B.la,Lg]
 .have:=h.dp;have:=B.dp;simp only[D.pys,PyData.depthAll];omega
 .simp only[D.pys,PyData.leavesShortAll,h.le,B.le,Lg]
 .have:=h.bu;have:=B.bu;simp only[D.pys,PyData.bulkAll];omega
theorem Ok.tup {k n:Nat}(h:OkL k n ds):Ok (k+1) n (.tup ds):=by
 refine#[?_,?_,?_,?_,?_,?_]
 .simp only[D.plain,h.pl]
 .simp only[D.py,PyData.showable,h.sh]
 .simp only[D.py,PyData.canLay0,h.la]
 .have:=h.dp;simp only[D.py,PyData.depth];omega
 .simp only[D.py,PyData.leavesShort,h.le]
 .have:=h.bu;simp only[D.py,PyData.bulk];omega
theorem Ok.lst {k n:Nat}(h:OkL k n ds):Ok (k+1) n (.lst ds):=by
 refine#[?_,?_,?_,?_,?_,?_]
 .simp only[D.plain,h.pl]
 .simp only[D.py,PyData.showable,h.sh]
 .simp only[D.py,PyData.canLay0,h.la]
 .have:=h.dp;simp only[D.py,PyData.depth];omega
 .simp only[D.py,PyData.leavesShort,h.le]
 .have:=h.bu;simp only[D.py,PyData.bulk];omega
theorem OkL.all {k n:Nat}:∀{ds:vD_},(∀d∈ds,Ok k n d)->OkL k (ds.length*(n+1)) ds
 |[],_=>OkL.nil.mono ∅ ∅
 |d::r,h=>by
  have:=(OkL.cons (h d (JL ..)) (OkL.all (ds:=r) fun x B=>h x (JH _ B)))
  refine this.mono ∅ ?_;rw[JO,Nat.add_mul,Nat.one_mul];omega
def Ok.show {k n:Nat}{d:D}(h:Ok k n d) (J:k<=64:=by decide) (B:n<=8000:=by decide):aF d=true:=by
 have e:=PyData.shown_le_bulk 1921 #[] d.py h.le;have U:(1921+2)*d.py.bulk<=1923*8000:=Nat.mul_le_mul #[] (JN h.bu B);have:d.py.shown.length<=sizeLine:=by rw[Kk];omega
 simp only[aF,h.pl,h.sh,h.la,KS,OF,JJ this,JJ (JN h.dp J)]
def Ok.eq {k n:Nat}{d:D}(h:Ok k n d) (B:k<=64:=by decide):D0 d=true:=by
 simp only[D0,h.pl,SeqAt.shaped,h.la,KS,JJ (JN h.dp B)]
def Ok.repr {k n:Nat}{d:D}(h:Ok k n d) (J:k<=64:=by decide) (B:n<=8000:=by decide):S3 d=some (.str d.py.shown):=zw (h.show J B)
theorem Ok.pt {k:Nat}{a:Pt}(h:Ps k a) (B:k<=1920:=by decide):Ok 1 3 (pt a):=Ok.tup ((OkL.cons (Ok.int (h.x.mono B)) (OkL.cons (Ok.int (h.y.mono B)) (OkL.cons (Ok.int (h.l.mono B)) OkL.nil))))
def L4 (ds:vD_) (i:Int):d6 (.tup ds) (.int i)=D8 ds i:=rfl
def F8 (ds:vD_) (i:Int):d6 (.lst ds) (.int i)=D8 ds i:=rfl
def N8 (p:Rat):d6 (DL.fr p) (.int 0)=some (.int p.num):=rfl
def P7 (p:Rat):d6 (DL.fr p) (.int 1)=some (.int p.den):=rfl
def Q2 (a:Pt):d6 (DL.pt a) (.int 0)=some (.int (pX a)):=rfl
def P1 (a:Pt):d6 (DL.pt a) (.int 1)=some (.int (pY a)):=rfl
def P6 (a:Pt):d6 (DL.pt a) (.int 2)=some (.int (pL a)):=rfl
theorem AV {a b:Pt}(h1:pX a=pX b) (h2:pY a=pY b) (B:pL a=pL b):a=b:=by
 have U:=bL a;have Y:=bL b;have J:=cf a;have Z:=cf b
 have n:=nC b;rw[h1,B] at U;rw[h2,B] at J;exact Kp (by grind) (by grind)
def rH {k l:Nat}{a b:Pt}(J:Ps k a) (U:Ps l b) (hk:k<=1920:=by decide) (Y:l<=1920:=by decide):r8 (pt a) (pt b)=some (.bl (!decide (a=b))):=by
 have B:=(Ok.pt J hk).eq;have Z:=(Ok.pt U Y).eq;unfold pt at *;simp only[r8,B,Z,Lg,Kh,D.py,D.pys,PyData.eqv,PyData.eqvAll,MG,OF];congr 3;rw[Ld];simp only[Ki,KW];constructor
 .rintro⟨h1,h2,h3⟩;exact AV h1 h2 h3
 .rintro rfl;exact#[rfl,rfl,rfl]
end DL
namespace T
open PySem L2 DL
def uC {k:Nat}{a b:Pt}(J:PtS k a) (B:PtS k b):Sz (8*k+5) (u7 a b):=
 (((J.1.sub B.1).mul (J.1.sub B.1)).add ((J.2.sub B.2).mul (J.2.sub B.2))).mono ∅
theorem Gv (r:Rat):decide (w9 r<0)=decide (r<0):=by
 unfold w9;by_cases h:0<r
 .rw[iO h,JM #[],JM (by grind)]
 .rw[iR h];by_cases h2:r<0
  .rw[iO h2,JJ h2];rfl
  .rw[iR h2,JM h2];rfl
theorem As (x y:Rat):decide ((x + -y).num<0)=decide (x<y):=by
 rw[Ld,KW,KW];have B:(0:Rat)<(((x + -y).den:Int):Rat):=MJ.mpr (oi _);have e:=mN (x + -y);have c:((x + -y).num<0)↔(((x + -y).num:Rat)<0):=by
  rw[show (0:Rat)=((0:Int):Rat) from rfl,Pk]
 rw[c,e];constructor
 .intro h;by_cases z:x<y
  .exact z
  .have:0<=(x + -y)*(((x + -y).den:Int):Rat):=Ly (by grind) (Lp B);grind
 .intro h;have:0 < -(x + -y)*(((x + -y).den:Int):Rat):=Kz (by grind) B;grind
abbrev sW:c9:=kE LS LP bP LX
abbrev P8:c9:=uP LS bP sW Q9
def Fp (h b o:Pt) (fs:vO_) (B:PtS 300 h) (U:PtS 300 b) (J:PtS 300 o):P8 [pt h,pt b,pt o] fs=some (.bl (M4 h b o),fs):=by
 have t:=mr h b o fs B.ps U.ps J.ps #[];have Y:=rn h b fs B.x B.y U.x U.y #[];have Z:=rn h o fs B.x B.y J.x J.y #[];have m:=nX (u7 h o) fs;have s:=cJ (u7 h b) (-u7 h o) fs (uC B U) (uC B J).neg #[];refine y9 (s:=#[[.v (pt h),.v (pt b),.v (pt o),.v (.int (w9 (d9 h b o)))],fs]) ?_;show gU LS bP sW Q9 #[[.v (pt h),.v (pt b),.v (pt o),.no],fs]=_;unfold gU;rw[o8 (s1:=#[[.v (pt h),.v (pt b),.v (pt o),.v (.int (w9 (d9 h b o)))],fs]) (B4 (w8 rfl t) rfl)];unfold M4;by_cases c:d9 h b o=0
 .have z:w9 (d9 h b o)=0:=(kh _).mpr c;rw[iO c,o8 (D1 (s1:=#[[.v (pt h),.v (pt b),.v (pt o),.v (.int (w9 (d9 h b o)))],fs]) (B6 (d7 rfl rfl ((Y3 _ 0).trans (by rw[JJ z];rfl)))))];exact C7 (d7 (d7 (w8 (o6 (w8 rfl Y) (o6 (w8 (o6 (w8 rfl Z) rfl) m) rfl)) s) rfl (N8 _)) rfl (congrArg (fun b=>some (D.bl b)) (As _ _)))
 .have z:¬ w9 (d9 h b o)=0:=fun e=>c ((kh _).mp e)
  rw[iR c];refine L0 ?_;rw[M9 (s1:=#[[.v (pt h),.v (pt b),.v (pt o),.v (.int (w9 (d9 h b o)))],fs]) (B6 (d7 rfl rfl ((Y3 _ 0).trans (by rw[JM z];rfl))))];exact C7 (d7 rfl rfl (congrArg (fun b=>some (D.bl b)) (Gv _)))
def U3 (a q:Pt):Pt:=if o9 q a then q else a
theorem js:∀(l:vT_) (S:vT_) (a:Pt),a∈S->(∀q∈S,Lst a q)->(l.foldl U3 a)∈S++l/\∀q∈S++l,Lst (l.foldl U3 a) q
 |[],S,a,h1,h2=>by rw[La];exact#[h1,h2]
 |o::r,S,a,h1,h2=>by
  have e:S++o::r=(S++[o])++r:=by simp
  rw[e,KP];unfold U3;by_cases c:o9 o a=true
  .rw[iO c];have Y:=(U0 o a).mp c;refine js r (S++[o]) o (Kd _ (JK.mpr rfl)) fun q B=>?_
   rcases JP.mp B with B | B
   .rcases h2 q B with rfl | B
    .exact .inr Y
    .refine .inr ?_;have:=pI B Y;have U:q.1 - a.1+(a.1 - o.1)=q.1 - o.1:=by grind
     have J:q.2 - a.2+(a.2 - o.2)=q.2 - o.2:=by grind
     rwa [U,J] at this
   .exact .inl (JK.mp B)
  .rw[iR c];refine js r (S++[o]) a (Kt _ h1) fun q B=>?_
   rcases JP.mp B with B | B
   .exact h2 q B
   .rw[JK.mp B];by_cases z:o=a
    .exact .inl z
    .have n:¬ (a.1 - o.1=0/\a.2 - o.2=0):=fun ⟨u,v⟩=>z (Kp (by grind) (by grind))
     rcases IV _ _ n with t | t
     .exact absurd ((U0 o a).mpr t) c
     .refine .inr ?_;have U:-(a.1 - o.1)=o.1 - a.1:=by grind
      have J:-(a.2 - o.2)=o.2 - a.2:=by grind
      rwa [U,J] at t
def PL (l:vT_):Prop:=∀p∈l,PtS 300 p
def PL.tl {a:Pt}(h:PL (a::l)):PL l:=fun p B=>h p (JH _ B)
def PL.hd {a:Pt}(h:PL (a::l)):PtS 300 a:=h a (JL ..)
abbrev aN:c9:=oA P8 N7
theorem nP (J Y B U:Sl) (fs:vO_):∀(l:vT_) (a:Pt) (x2:Sl),PL l->PtS 300 a->∃y2,C6 (i0 2) (rE P8 N7) (l.map pt) #[[J,.v (pt a),x2,Y,B,U],fs]=some (.next,#[[J,.v (pt (l.foldl U3 a)),y2,Y,B,U],fs])
 |[],a,x2,_,_=>#[x2,rfl]
 |o::r,a,x2,hl,ha=>by
  have t:=yA o a fs hl.hd.ps ha.ps #[];have Z:PtS 300 (U3 a o):=by unfold U3;split;exact hl.hd;exact ha
  obtain⟨y2,e⟩:=nP J Y B U fs r (U3 a o) (.v (pt o)) hl.tl Z;refine#[y2,?_];rw[JS,W9 (s1:=#[[J,.v (pt a),.v (pt o),Y,B,U],fs]) (s2:=#[[J,.v (pt (U3 a o)),.v (pt o),Y,B,U],fs]) rfl ?_,e,KP];unfold U3;show j6 (l7 (d8 N7 (a8 (dV 2) (a8 (dV 1) a9)))) (j3 (dV 2) (i0 1)) j7 _=_;cases c:o9 o a with
  |true=>
   rw[c] at t;rw[M9 (D7 (w8 rfl t)),iO rfl];rfl
  |false=>
   rw[c] at t;rw[df (D7 (w8 rfl t)),iR JQ];rfl
def P0:Option Pt->D
 |none=>.non
 |some p=>pt p
theorem pH (J x1 B:Sl) (h:Pt) (sh:PtS 300 h) (fs:vO_):∀(l:vT_) (b:Option Pt) (x2:Sl),PL l->(∀r,b=some r->PtS 300 r)->∃y2,C6 (i0 2) (vJ P8 N7) (l.map pt) #[[J,x1,x2,B,.v (pt h),.v (P0 b)],fs]=some (.next,#[[J,x1,y2,B,.v (pt h),.v (P0 (l.foldl (F2 h) b))],fs])
 |[],b,x2,_,_=>#[x2,rfl]
 |o::r,b,x2,hl,hb=>by
  have hn:∀q,F2 h b o=some q->PtS 300 q:=fun q U=>by
   by_cases e:o=h
   .rw[e,bG] at U;exact hb q U
   .cases b with
    |none=>rw[bE e] at U;cases U;exact hl.hd
    |some p=>
     cases f:M4 h p o with
     |true=>rw[bZ e f] at U;cases U;exact hl.hd
     |false=>rw[bt e f] at U;cases U;exact hb _ rfl
  obtain⟨y2,e⟩:=pH J x1 B h sh fs r (F2 h b o) (.v (pt o)) hl.tl hn;refine#[y2,?_];rw[JS,W9 (s1:=#[[J,x1,.v (pt o),B,.v (pt h),.v (P0 b)],fs]) (s2:=#[[J,x1,.v (pt o),B,.v (pt h),.v (P0 (F2 h b o))],fs]) rfl ?_,e,KP];have Y:dB (c8 r8 (dL 2) (dL 4)) #[[J,x1,.v (pt o),B,.v (pt h),.v (P0 b)],fs]=some (!decide (o=h),#[[J,x1,.v (pt o),B,.v (pt h),.v (P0 b)],fs]):=B6 (d7 rfl rfl (rH hl.hd.ps sh.ps));show j6 (t7 (dB (c8 r8 (dL 2) (dL 4))) (o7 (dB (c8 cL (dL 5) (dC .non))) (l7 (d8 P8 (a8 (dV 4) (a8 (dV 5) (a8 (dV 2) a9))))))) (j3 (dV 2) (i0 5)) j7 _=_;by_cases Z:o=h
  .rw[JJ Z] at Y;rw[df (jk Y)];subst Z;rw[bG];rfl
  .rw[JM Z] at Y;cases b with
   |none=>
    rw[M9 (af Y (au (B6 (d7 rfl rfl rfl)))),bE Z];rfl
   |some p=>
    have t:=Fp h p o fs sh (hb p rfl) hl.hd;have nn:dB (c8 cL (dL 5) (dC .non)) #[[J,x1,.v (pt o),B,.v (pt h),.v (P0 (some p))],fs]=some (false,#[[J,x1,.v (pt o),B,.v (pt h),.v (P0 (some p))],fs]):=B6 (d7 rfl rfl rfl);cases f:M4 h p o with
    |true=>
     rw[f] at t;rw[M9 (af Y (U4 nn (D7 (w8 rfl t)))),bZ Z f];rfl
    |false=>
     rw[f] at t;rw[df (af Y (U4 nn (D7 (w8 rfl t)))),bt Z f];rfl
abbrev A6 (l:vT_) (f:Pt) (x2:Sl) (fd:vT_) (h:Pt) (x5:Sl) (fs:vO_):DS:=#[[.v (.lst (l.map pt)),.v (pt f),x2,.own (fd.map pt),.v (pt h),x5],fs]
def G2 (l:vT_) (f:Pt) (n:Nat) (h:Pt):Pt:=match M8 h l with
 |none=>f
 |some p=>if l.length<n then f else p
def wK {h:Pt}(e:M8 h l=some p):p∈l:=by
 have:∀(l:vT_) (b:Option Pt) (S:vT_),(∀q,b=some q->q∈S)->∀q,l.foldl (F2 h) b=some q->q∈S++l:=by
  intro l;induction l with
  |nil=>intro b S U q J;rw[La];exact U q J
  |cons o r Y=>
   intro b S U q J;rw[KP] at J;have:=Y (F2 h b o) (S++[o]) (fun z B=>by
    by_cases e:o=h
    .rw[e,bG] at B;exact Kt _ (U z B)
    .cases b with
     |none=>rw[bE e] at B;cases B;exact Kd _ (JK.mpr rfl)
     |some p=>
      cases f:M4 h p o with
      |true=>rw[bZ e f] at B;cases B;exact Kd _ (JK.mpr rfl)
      |false=>rw[bt e f] at B;cases B;exact Kt _ (U _ rfl)) q J
   rw[MX] at this;exact this
 have:=this l none [] (fun q J=>by cases J) p e
 rwa [Lf] at this
def rY {f h:Pt}{n:Nat}(B:f∈l):G2 l f n h∈l:=by
 unfold G2;cases e:M8 h l with
 |none=>exact B
 |some p=>
  by_cases c:l.length<n
  .simp only[iO c];exact B
  .simp only[iR c];exact wK e
def cS {f h:Pt}{fd:vT_}(B J:Sl) (fs:vO_) (Y:PL l) (hf:f∈l) (hh:h∈l) (Z:fd.length<=100):∃y2 y5,W4 P8 N7 (A6 l f B fd h J fs)=some (.next,A6 l f y2 (fd++[h]) (G2 l f (fd.length+1) h) y5 fs):=by
 obtain⟨y2,e⟩:=pH (.v (.lst (l.map pt))) (.v (pt f)) (.own ((fd++[h]).map pt)) h (Y h hh) fs l none B Y (fun r hr=>by cases hr);have ap:(fd++[h]).map pt=fd.map pt++[pt h]:=by simp
 have ll:(fd.map pt).length<sizeLine:=Ky (by rw[JR];exact Z) (show 100<sizeLine by decide);refine#[y2,.v (P0 (M8 h l)),?_];unfold W4;rw[o8 (s1:=A6 l f B (fd++[h]) h J fs) (by unfold A6;rw[ap];exact oF (s1:=A6 l f B fd h J fs) rfl rfl rfl ll),
  o8 (s1:=A6 l f B (fd++[h]) h (.v (P0 none)) fs) (B4 rfl rfl),
  o8 ((aK (ds:=l.map pt) (s1:=A6 l f B (fd++[h]) h (.v (P0 none)) fs) rfl).trans e)]
 have e2:l.foldl (F2 h) none=M8 h l:=rfl;rw[e2];unfold G2;have lt:dB (c8 (i9 (fun i j=>decide (j<i))) (i5 (one i6) (a8 (dL 3) a9)) (i5 (one i6) (a8 (dL 0) a9))) (A6 l f y2 (fd++[h]) h (.v (P0 (M8 h l))) fs)=some (decide (l.length<fd.length+1),A6 l f y2 (fd++[h]) h (.v (P0 (M8 h l))) fs):=by
  have q:decide (((l.map pt).length:Int)<(((fd++[h]).map pt).length:Int))=decide (l.length<fd.length+1):=by
   rw[Ld,KW,KW,JR,JR,Ke,Ll];omega
  rw[<-q];exact B6 (d7 (aZ (p:=i6) rfl rfl) (aZ (p:=i6) rfl rfl) rfl)
 cases hb:M8 h l with
 |none=>exact B4 ((bR (au (B6 (d7 rfl rfl rfl)))).trans rfl) rfl
 |some p=>
  rw[hb] at lt;have U:dB (c8 cL (dL 5) (dC .non)) (A6 l f y2 (fd++[h]) h (.v (P0 (some p))) fs)=some (false,A6 l f y2 (fd++[h]) h (.v (P0 (some p))) fs):=B6 (d7 rfl rfl rfl);by_cases c:l.length<fd.length+1
  .rw[JJ c] at lt;simp only[iO c];exact B4 ((bR (U4 U lt)).trans rfl) rfl
  .rw[JM c] at lt;simp only[iR c];exact B4 ((eU (U4 U lt)).trans rfl) rfl
def AW {fd:vT_}(h:PL fd):D0 (.lst (fd.map pt))=true:=(Ok.lst (OkL.all (k:=1) (n:=3) (ds:=fd.map pt) fun d J=>by
 obtain⟨p,B,rfl⟩:=KR.mp J;exact Ok.pt (h p B).ps #[])).eq
def DZ {fd:vT_}(h:PL fd):pEq (.lst (fd.map pt)) (.lst [])=some (.bl (decide (fd=[]))):=by
 have e:PyData.eqv (D.py (.lst (fd.map pt))) (D.py (.lst []))=decide (fd=[]):=by
  cases fd with
  |nil=>rfl
  |cons d r=>simp[D.py,D.pys,PyData.eqv,PyData.eqvAll]
 have h2:D0 (.lst [])=true:=rfl;unfold pEq;simp only[AW h,h2,Lg,Kh,e]
abbrev jh:DT:=o7 (dB (c8 r8 (dL 4) (dL 1))) (dB (c8 pEq (dL 3) (j8 (j9 a9))))
def Y6 {f h:Pt}{fd:vT_}(U J:Sl) (fs:vO_) (Y:PL l) (hf:f∈l) (Z:h∈l) (hd:PL fd):jh (A6 l f U fd h J fs)=some (!decide (h=f)||decide (fd=[]),A6 l f U fd h J fs):=by
 have B:dB (c8 r8 (dL 4) (dL 1)) (A6 l f U fd h J fs)=some (!decide (h=f),A6 l f U fd h J fs):=B6 (d7 rfl rfl (rH (Y h Z).ps (Y f hf).ps));cases c:(!decide (h=f)) with
 |true=>rw[c] at B;exact au B
 |false=>
  rw[c] at B;rw[MZ];exact U4 B (B6 (d7 rfl (ji rfl) (DZ hd)))
def tF {f h:Pt}{n:Nat}(B:l.length<n):G2 l f n h=f:=by
 unfold G2;cases M8 h l with
 |none=>rfl
 |some p=>simp only[iO B]
def BK {f:Pt}(fs:vO_) (U:PL l) (Y:f∈l) (l40:l.length<=40):∀(m:Nat) (fd:vT_) (h:Pt) (x2 x5:Sl),l.length+1 - fd.length=m->fd≠[]->(∀q∈fd,q∈l)->h∈l->fd.length<=l.length+1->(l.length<fd.length->h=f) ->
  ∃fd' y2 y5,Q7 jh (W4 P8 N7) (A6 l f x2 fd h x5 fs)=some (.next,A6 l f y2 fd' f y5 fs)/\fd.length<=fd'.length/\fd'.length<=l.length+1/\∀q∈fd',q∈l:=by
 intro m;induction m with
 |zero=>
  intro fd h x2 x5 hm hn J hh B hz;have:h=f:=hz ∅;subst this;have t:=Y6 x2 x5 fs U Y Y (fun p hp=>U p (J p hp));rw[JJ rfl,JM hn] at t;exact#[fd,x2,x5,eM t,tx _,B,J]
 |succ m ih=>
  intro fd h x2 x5 hm hn J hh B hz;have t:=Y6 x2 x5 fs U Y hh (fun p hp=>U p (J p hp));rw[JM hn,Bool.or_false] at t;by_cases e:h=f
  .subst e;rw[JJ rfl] at t;exact#[fd,x2,x5,eM t,tx _,B,J]
  .rw[JM e] at t;obtain⟨y2,y5,it⟩:=cS x2 x5 fs U Y hh (fd:=fd) ∅;obtain⟨fd',z2,z5,w,q1,q2,q3⟩:=ih (fd++[h]) (G2 l f (fd.length+1) h) y2 y5 (by rw[Ke,Ll];omega) (by simp) (fun q Z=>by
    rcases JP.mp Z with Z | Z
    .exact J q Z
    .rw[JK.mp Z];exact hh) (rY Y) (by
    rw[Ke,Ll];have:¬ l.length<fd.length:=fun z=>e (hz z)
    omega) (fun z=>tF (by rw[Ke,Ll] at z;exact z))
   rw[Ke,Ll] at q1;exact#[fd',z2,z5,aL t it w,by omega,q2,q3]
def Gg (fs:vO_) (U:PL l) (l3:3<=l.length) (l40:l.length<=40) {a b c:Pt}(ha:a∈l) (hb:b∈l) (hc:c∈l) (h:d9 a b c≠0) :
  ∃fd:List Pt,aN [.lst (l.map pt)] fs=some (.tup (fd.map pt),fs)/\3<=fd.length/\fd.length<=41/\∀q∈fd,q∈l:=by
 obtain⟨a0,h0⟩:∃a0,l[0]? = some a0:=#[_,Kf ∅]
 have m0:=KC h0;obtain⟨Y,e1⟩:=nP (.v (.lst (l.map pt))) .no .no .no fs l a0 .no U (U a0 m0);obtain⟨o1,o2⟩:=js l [a0] a0 (JK.mpr rfl) (fun q J=>.inl (JK.mp J));generalize l.foldl U3 a0=f at *;have B:f∈l:=by
  rcases JP.mp o1 with z | z
  .rw[JK.mp z];exact m0
  .exact z
 obtain⟨p,r,b1,p1,p2,b2,r1,r2⟩:=Jx B (fun q J=>o2 q (Kd _ J)) ha hb hc h;have n1:G2 l f 1 f=p:=by unfold G2;rw[b1];exact iR ∅
 have n2:G2 l f 2 p=r:=by unfold G2;rw[b2];exact iR ∅
 have t1:=Y6 (fd:=[]) Y .no fs U B B (fun q J=>by cases J);rw[JJ (rfl:([]:vT_)=[]),Bool.or_true] at t1;obtain⟨Z,z5,i1⟩:=cS (fd:=[]) Y .no fs U B B #[];have t2:=Y6 (fd:=[f]) Z z5 fs U B p2 (fun q J=>by rw[JK.mp J];exact U f B);rw[JM p1,Bool.not_false,NV] at t2;obtain⟨u2,u5,i2⟩:=cS (fd:=[f]) Z z5 fs U B p2 (show 1<=100 by decide);have t3:=Y6 (fd:=[f,p]) u2 u5 fs U B r2 (fun q J=>by
  rcases xo.mp J with rfl | J
  .exact U _ B
  .rw[JK.mp J];exact U p p2)
 rw[JM r1,Bool.not_false,NV] at t3;obtain⟨v2,v5,i3⟩:=cS (fd:=[f,p]) u2 u5 fs U B r2 (show 2<=100 by decide);have i1':W4 P8 N7 (A6 l f Y [] f .no fs)=some (.next,A6 l f Z [f] p z5 fs):=by rw[i1];show some (Fl.next,A6 l f Z [f] (G2 l f 1 f) z5 fs)=_;rw[n1]
 have i2':W4 P8 N7 (A6 l f Z [f] p z5 fs)=some (.next,A6 l f u2 [f,p] r u5 fs):=by rw[i2];show some (Fl.next,A6 l f u2 [f,p] (G2 l f 2 p) u5 fs)=_;rw[n2]
 obtain⟨fd,w2,w5,w,q1,q2,q3⟩:=BK fs U B l40 _ [f,p,r] (G2 l f 3 r) v2 v5 rfl (by simp) (fun q J=>by
  simp only[xo,JZ,Ka] at J;rcases J with rfl | rfl | rfl
  .exact B
  .exact p2
  .exact r2) (rY B) (show 3<=_ by omega) (fun z=>tF z)
 have W:=aL t1 i1' (aL t2 i2' (aL t3 i3 w));have l3':3<=fd.length:=q1;refine#[fd,y9 (s:=A6 l f w2 fd f w5 fs) ?_,l3',by omega,q3];show ck P8 N7 #[[.v (.lst (l.map pt)),.no,.no,.no,.no,.no],fs]=_;unfold ck;have ix:d6 (.lst (l.map pt)) (.int 0)=some (pt a0):=(F8 _ _).trans (by
  rw[fu #[] (by rw[JR];omega)];show (l.map pt)[0]? = _;rw[KI,h0];rfl)
 rw[o8 (s1:=#[[.v (.lst (l.map pt)),.v (pt a0),.no,.no,.no,.no],fs]) (B4 (d7 rfl rfl ix) rfl),
  o8 ((aK (ds:=l.map pt) (s1:=#[[.v (.lst (l.map pt)),.v (pt a0),.no,.no,.no,.no],fs]) rfl).trans e1),
  o8 (s1:=#[[.v (.lst (l.map pt)),.v (pt f),Y,.own [],.no,.no],fs]) (cU (s1:=#[[.v (.lst (l.map pt)),.v (pt f),Y,.no,.no,.no],fs]) rfl (show 3<6 by decide)),
  o8 (s1:=A6 l f Y [] f .no fs) (B4 rfl rfl),o8 W]
 have gt:dB (c8 (i9 (fun i j=>decide (j<i))) (i5 (one i6) (a8 (dL 3) a9)) (Pw 2)) (A6 l f w2 fd f w5 fs)=some (true,A6 l f w2 fd f w5 fs):=
  B6 (d7 (aZ (p:=i6) rfl rfl) rfl (congrArg (fun b=>some (D.bl b)) (JJ (show (2:Int)<((fd.map pt).length:Int) by rw[JR];omega))))
 exact C7 ((bR gt).trans (aZ rfl rfl))
theorem HB {a b:Pt}(h:Nx S a b) (Y:S b) (sp:S p) (k1:0<=d9 a p b) (k2:d9 a p b=0->u7 a b<=u7 a p):p=b:=by
 have k3:=h.lf p sp;have e:=rJ a b p;have J:d9 a b p=0:=by grind
 have B:d9 a p b=0:=by grind
 obtain⟨s,s0,s1,rfl⟩:=h.far p sp J;have d:=k2 B;rw[(uM a b s).1] at d;have pos:=hU (a:=a) (b:=b) fun e=>h.ne e.symm
 have:s=1:=by
  by_cases q:s=1
  .exact q
  .have l1:s<1:=by grind
   have l2:s*s<=s*1:=Rat.mul_le_mul_of_nonneg_left s1 s0;have U:0<(1 - s)*u7 a b:=Kz (by grind) pos;have Z:s*s*u7 a b<=s*u7 a b:=OD (by grind) (Lp pos);grind
 rw[this,gN]
def qz {a b:Pt}(n:Nx (fun q=>q∈l) a b) (B:b∈l) (F:dG a l (M8 a l)):M8 a l=some b:=by
 rcases F with ⟨_,h⟩ | ⟨p,e,h1,h2,J⟩
 .exact absurd (h b B) n.ne
 .rw[e,HB n B h1 (J b B).1 (J b B).2]
def Ee {a b:Pt}(B:∀q∈l,Lst a q) (n:Nx (fun q=>q∈l) a b) (J:b∈l):M8 a l=some b:=by
 refine qz n J ?_;have:=dQ l [] none (by simpa using B) (.inl #[rfl,fun q U=>by cases U]);simpa [M8] using this
def E1 (g h q:Pt):Pt:=(d9 g h q,-((h.1 - g.1)*(q.1 - h.1)+(h.2 - g.2)*(q.2 - h.2)))
theorem vM (g h a b c:Pt):d9 (E1 g h a) (E1 g h b) (E1 g h c)=u7 g h*d9 a b c:=by unfold d9 E1 u7 d9;grind
theorem fO (g h a b:Pt):u7 (E1 g h a) (E1 g h b)=u7 g h*u7 a b:=by unfold u7 E1 d9;grind
section
variable {g h:Pt}(n:h≠g)
include n
theorem jH:0<u7 g h:=hU fun e=>n e.symm
theorem sU {a b:Pt}(e:E1 g h a=E1 g h b):a=b:=by
 have k:=jH n;have d:u7 g h*u7 a b=0:=by rw[<-fO,e];exact iI _
 by_cases q:a=b
 .exact q
 .have:=Kz k (hU q);grind
theorem pg (a b c:Pt):M4 (E1 g h a) (E1 g h b) (E1 g h c)=M4 a b c:=by
 have k:=jH n;unfold M4;rw[vM,fO,fO];have i1:u7 g h*d9 a b c=0↔d9 a b c=0:=by
  constructor
  .intro z;rcases Lh.mp z with q | q
   .grind
   .exact q
  .intro z;rw[z,OG]
 have i2:(u7 g h*u7 a b<u7 g h*u7 a c)↔u7 a b<u7 a c:=NF k;have B:(u7 g h*d9 a b c<0)↔d9 a b c<0:=by
  have:=NF (a:=d9 a b c) (b:=0) k
  rwa [OG] at this
 by_cases z:d9 a b c=0
 .rw[iO (i1.mpr z),iO z,Ld,KW,KW];exact i2
 .rw[iR (fun w=>z (i1.mp w)),iR z,Ld,KW,KW];exact B
theorem yU (a:Pt) (b:Option Pt) (o:Pt):F2 (E1 g h a) (b.map (E1 g h)) (E1 g h o)=(F2 a b o).map (E1 g h):=by
 by_cases e:o=a
 .subst e;rw[bG,bG]
 .have B:E1 g h o≠E1 g h a:=fun z=>e (sU n z)
  cases b with
  |none=>rw[Option.map_none,bE B,bE e];rfl
  |some r=>
   rw[Nc];cases f:M4 a r o with
   |true=>rw[bZ B (by rw[pg n];exact f),bZ e f];rfl
   |false=>rw[bt B (by rw[pg n];exact f),bt e f];rfl
theorem tR (a:Pt):∀(l:vT_) (b:Option Pt),(l.map (E1 g h)).foldl (F2 (E1 g h a)) (b.map (E1 g h))=(l.foldl (F2 a) b).map (E1 g h)
 |[],b=>rfl
 |o::r,b=>by rw[JS,KP,KP,yU n,tR a r]
end
theorem AS {g h b:Pt}(J:Nx (fun q=>q∈l) g h) (N2:Nx (fun q=>q∈l) h b) (hb:b∈l):M8 h l=some b:=by
 have n:=J.ne;have k:=jH n;have F:=dQ (f:=E1 g h h) (l.map (E1 g h)) [] none (fun q B=>by
  rw[Lf] at B;obtain⟨z,Z,rfl⟩:=KR.mp B;by_cases e:z=h
  .exact .inl (by rw[e])
  .right;have e0:E1 g h h=(0,0):=Kp (bw g h) (by show -((h.1 - g.1)*(h.1 - h.1)+(h.2 - g.2)*(h.2 - h.2))=0;grind);rw[e0];have c:=J.lf z Z;have s1:(E1 g h z).1 - (0:Rat)=d9 g h z:=by unfold E1;grind
   unfold C3;rw[s1];by_cases Y:d9 g h z=0
   .right;refine#[Y,?_];obtain⟨s,s0,s1,ez⟩:=J.far z Z Y;have sn:s≠1:=fun w=>e (by rw[ez,w,gN])
    have q:(E1 g h z).2 - (0:Rat)=(1 - s)*u7 g h:=by
     rw[ez];unfold E1 u7 A5;grind
    rw[q];exact Kz (by grind) k
   .left;grind) (.inl #[rfl,fun q B=>by cases B])
 rw[Lf] at F;have tb:=tR n h l none;rw[Option.map_none] at tb;rw[tb] at F;refine qz N2 hb ?_;show dG h l (l.foldl (F2 h) none);rcases F with ⟨e,F⟩ | ⟨p,e,h1,h2,h3⟩
 .refine .inl #[?_,fun q B=>sU n (F _ (OE B))];cases w:l.foldl (F2 h) none with
  |none=>rfl
  |some z=>rw[w] at e;cases e
 .cases w:l.foldl (F2 h) none with
  |none=>rw[w] at e;cases e
  |some z=>
   rw[w] at e;have ep:E1 g h z=p:=Kb e;subst ep;refine .inr #[z,rfl,wK (h:=h) w,fun q=>h2 (by rw[q]),fun q B=>?_];obtain⟨a1,U⟩:=h3 _ (OE B);rw[vM] at a1 U;rw[fO,fO] at U;refine#[Mn.mp fun z'=>?_,fun z'=>Mn.mp fun y=>?_]
   .have:=Kz k (show 0 < -d9 h z q by grind);grind
   .have a3:=U (by rw[z',OG]);have:=(NF k).mpr y;grind
def Eo {C:vT_}{f:Pt}(fs:vO_) (B:PL l) (l40:l.length<=90) (R:Rnd (fun q=>q∈l) f C):∀(m i:Nat) (h:Pt) (x2 x5:Sl),C.length - i=m->1<=i->i<=C.length->(C++[f])[i]? = some h ->
  ∃y2 y5,Q7 jh (W4 P8 N7) (A6 l f x2 (C.take i) h x5 fs)=some (.next,A6 l f y2 C f y5 fs):=by
 have sf:f∈l:=R.mem f (Po R.hd);have hC:=R.len;have J:∀i a,(C++[f])[i]? = some a->a∈l:=fun i a e=>by
  rcases JP.mp (KC e) with z | z
  .exact R.mem a z
  .rw[JK.mp z];exact sf
 have U:∀i,PL (C.take i):=fun i p Y=>B p (R.mem p (Mm Y))
 have ne:∀i,1<=i->i<=C.length->C.take i≠[]:=fun i h1 h2 e=>by
  have:=congrArg List.length e;rw[Kx,Lm] at this;omega
 intro m;induction m with
 |zero=>
  intro i h x2 x5 hm h1 h2 e;have ei:i=C.length:=by omega
  subst ei;rw[LM (tx _),Nat.sub_self] at e;have:h=f:=by simpa using e.symm
  subst this;rw[NY];have t:=Y6 x2 x5 fs B sf sf (fun p Y=>B p (R.mem p Y)) (fd:=C);rw[JJ rfl,JM (fun z=>by rw[z] at h1;simp at h1)] at t;exact#[x2,x5,eM t]
 |succ m ih=>
  intro i h x2 x5 hm h1 h2 e;have Z:=J i h e;have hi:i<C.length:=by omega
  have eC:C[i]? = some h:=by rw[<-Lq (l₂:=[f]) hi];exact e
  have nf:h≠f:=fun z=>R.nb i ∅ (by rw[eC,z])
  have t:=Y6 x2 x5 fs B sf Z (U i);rw[JM nf] at t;obtain⟨y2,y5,it⟩:=cS x2 x5 fs B sf Z (fd:=C.take i) (by rw[Kx];omega);have ll:(C++[f]).length=C.length+1:=by simp
  obtain⟨g,hg⟩:∃g,(C++[f])[i - 1]? = some g:=#[_,Kf ∅]
  obtain⟨b,hb⟩:∃b,(C++[f])[i+1]? = some b:=#[_,Kf ∅]
  have N1:=cu R.run hg (show (C++[f])[i - 1+1]? = some h by rw[show i - 1+1=i by omega];exact e);have N2:=cu R.run e hb;have nx:G2 l f ((C.take i).length+1) h=b:=by
   unfold G2;rw[AS N1 N2 (J _ _ hb)];exact iR (by rw[Kx];omega)
  have tk:C.take i++[h]=C.take (i+1):=by rw[List.take_succ,eC];rfl
  rw[nx,tk] at it;obtain⟨z2,z5,w⟩:=ih (i+1) b y2 y5 ∅ ∅ ∅ hb;exact#[z2,z5,aL t it w]
def FG {fd:vT_}{f:Pt}(fs:vO_):i8 (v7 (dB (c8 (i9 (fun i j=>decide (j<i))) (i5 (one i6) (a8 (dL 3) a9)) (Pw 2))) (i5 (one bK) (a8 (dL 3) a9)) (dC .non)) (A6 l f y2 fd f y5 fs)=some (.ret (if fd.length<3 then .non else .tup (fd.map pt)),A6 l f y2 fd f y5 fs):=by
 have B:dB (c8 (i9 (fun i j=>decide (j<i))) (i5 (one i6) (a8 (dL 3) a9)) (Pw 2)) (A6 l f y2 fd f y5 fs)=some (decide ((2:Int)<(fd.length:Int)),A6 l f y2 fd f y5 fs):=by
  have:=B6 (d7 (p:=i9 (fun i j=>decide (j<i))) (s:=A6 l f y2 fd f y5 fs) (aZ (p:=i6) (a:=dL 3) (x:=.lst (fd.map pt)) rfl rfl) (b:=Pw 2) rfl rfl);rw[this,JR]
 by_cases h:fd.length<3
 .rw[iO h];rw[JM ∅] at B;exact C7 ((eU B).trans rfl)
 .rw[iR h];rw[JJ ∅] at B;exact C7 ((bR B).trans (aZ rfl rfl))
def Io (fs:vO_) (hl:PL l) (l1:1<=l.length) (l40:l.length<=90):aN [.lst (l.map pt)] fs=some (fH l,fs):=by
 obtain⟨a0,h0⟩:∃a0,l[0]? = some a0:=#[_,Kf ∅]
 have m0:=KC h0;obtain⟨Z,e1⟩:=nP (.v (.lst (l.map pt))) .no .no .no fs l a0 .no hl (hl a0 m0);obtain⟨o1,o2⟩:=js l [a0] a0 (JK.mpr rfl) (fun q U=>.inl (JK.mp U));generalize l.foldl U3 a0=f at *;have Y:f∈l:=by
  rcases JP.mp o1 with z | z
  .rw[JK.mp z];exact m0
  .exact z
 have lst:∀q∈l,Lst f q:=fun q U=>o2 q (Kd _ U)
 have t1:=Y6 (fd:=[]) Z .no fs hl Y Y (fun q U=>by cases U);rw[JJ (rfl:([]:vT_)=[]),Bool.or_true] at t1;obtain⟨z2,z5,i1⟩:=cS (fd:=[]) Z .no fs hl Y Y #[];have ix:d6 (.lst (l.map pt)) (.int 0)=some (pt a0):=(F8 _ _).trans (by
  rw[fu #[] (by rw[JR];omega)];show (l.map pt)[0]? = _;rw[KI,h0];rfl)
 have l20:l.length<2 ^ 20:=by omega
 have hs:=oJ l20;obtain⟨fd,u2,u5,W,ed⟩:∃fd u2 u5,Q7 jh (W4 P8 N7) (A6 l f Z [] f .no fs)=some (.next,A6 l f u2 fd f u5 fs)/\(if fd.length<3 then D.non else .tup (fd.map pt))=fH l:=by
  cases er:av l with
  |nil=>
   have:=rowP_in.mpr Y;rw[er] at this;cases this
  |cons p r=>
   rw[er] at hs;have pf:p=f:=by
    have fm:=rowP_in.mpr Y;rw[er] at fm;have pm:p∈l:=rowP_in.mp (by rw[er];simp);rcases xo.mp fm with q | q
    .exact q.symm
    .have c:=(Lj.mp hs).1 f q;rcases lst p pm with w | w
     .exact w
     .exact(mw c ((U0 f p).mpr w)).elim
   subst pf;by_cases hr:r=[]
   .subst hr;have one:∀q∈l,q=p:=fun q U=>by
     have:=rowP_in.mpr U;rw[er] at this;simpa using this
    have bn:M8 p l=none:=by
     have F:=dQ l [] none (by simpa using lst) (.inl #[rfl,fun q U=>by cases U]);rw[Lf] at F;rcases F with ⟨e,_⟩ | ⟨q,_,h2,h3,_⟩
     .exact e
     .exact absurd (one q h2) h3
    have nx:G2 l p 1 p=p:=by unfold G2;rw[bn]
    have i1':W4 P8 N7 (A6 l p Z [] p .no fs)=some (.next,A6 l p z2 [p] p z5 fs):=by rw[i1];show some (Fl.next,A6 l p z2 [p] (G2 l p 1 p) z5 fs)=_;rw[nx]
    have t2:=Y6 (fd:=[p]) z2 z5 fs hl Y Y (fun q U=>by rw[JK.mp U];exact hl p Y);rw[JJ rfl,JM (by simp)] at t2;refine#[[p],z2,z5,aL t1 i1' (eM t2),?_];have hh:G5 l=[]:=by
     unfold G5 gZ;show (A8 v8 (av l)).dropLast++(A8 v8 (av l).reverse).dropLast=[];rw[er];rfl
    unfold fH;rw[hh];rfl
   .have R:=Fu l20 er hr;have ll:(G5 l++[p]).length=(G5 l).length+1:=by simp
    have J:(G5 l)[0]? = some p:=by rw[<-List.head?_eq_getElem?];exact R.hd
    have B:0<(G5 l).length:=(Kr.mp J).1;obtain⟨b,hb⟩:∃b,(G5 l++[p])[1]? = some b:=#[_,Kf ∅]
    have N:=cu R.run (show (G5 l++[p])[0]? = some p by rw[Lq B];exact J) hb;have bl:b∈l:=by
     rcases JP.mp (KC hb) with z | z
     .exact R.mem b z
     .rw[JK.mp z];exact Y
    have nx:G2 l p 1 p=b:=by unfold G2;rw[Ee lst N bl];exact iR ∅
    have tk:(G5 l).take 1=[p]:=by
     cases w:G5 l with
     |nil=>rw[w] at B;cases B
     |cons c cs=>rw[w] at J;simp at J;subst J;rfl
    have i1':W4 P8 N7 (A6 l p Z [] p .no fs)=some (.next,A6 l p z2 ((G5 l).take 1) b z5 fs):=by rw[i1,tk];show some (Fl.next,A6 l p z2 [p] (G2 l p 1 p) z5 fs)=_;rw[nx]
    obtain⟨u2,u5,w⟩:=Eo fs hl l40 R _ 1 b z2 z5 rfl (tx _) B hb;exact#[G5 l,u2,u5,aL t1 i1' w,rfl]
 refine y9 (s:=A6 l f u2 fd f u5 fs) ?_;show ck P8 N7 #[[.v (.lst (l.map pt)),.no,.no,.no,.no,.no],fs]=_;unfold ck;rw[o8 (s1:=#[[.v (.lst (l.map pt)),.v (pt a0),.no,.no,.no,.no],fs]) (B4 (d7 rfl rfl ix) rfl),
  o8 ((aK (ds:=l.map pt) (s1:=#[[.v (.lst (l.map pt)),.v (pt a0),.no,.no,.no,.no],fs]) rfl).trans e1),
  o8 (s1:=#[[.v (.lst (l.map pt)),.v (pt f),Z,.own [],.no,.no],fs]) (cU (s1:=#[[.v (.lst (l.map pt)),.v (pt f),Z,.no,.no,.no],fs]) rfl (show 3<6 by decide)),
  o8 (s1:=A6 l f Z [] f .no fs) (B4 rfl rfl),o8 W,FG,ed]
end T
namespace DL
open PySem L2
def G6 (x:Str):Prop:=∀c∈x.cps.toList,c<128
mutual
def Th (b:Nat):Nat->D->Prop
 |_,.non=>True
 |_,.bl _=>True
 |_,.int i=>Bd b i
 |_,.str x=>G6 x
 |k+1,.tup ds=>Ths b k ds
 |k+1,.lst ds=>Ths b k ds
 |_,_=>False
def Ths (b:Nat):Nat->List D->Prop
 |_,[]=>True
 |k,d::r=>Th b k d/\Ths b k r
end
def bk (d:D):Nat:=d.py.bulk
def E5 (ds:vD_):Nat:=PyData.bulkAll (D.pys ds)
def V4:E5 []=0:=rfl
def G9 (d:D) (r:vD_):E5 (d::r)=bk d+1+E5 r:=by simp only[E5,bk,D.pys,PyData.bulkAll]
theorem Z9:∀(a b:vD_),E5 (a++b)=E5 a+E5 b
 |[],b=>by rw[Lf,V4,Mo]
 |d::r,b=>by rw[My,G9,G9,Z9 r b];omega
def M7 (ds:vD_):bk (.tup ds)=E5 ds:=by simp only[E5,bk,D.py,PyData.bulk]
def vF (ds:vD_):bk (.lst ds)=E5 ds:=by simp only[E5,bk,D.py,PyData.bulk]
def T7 (i:Int):bk (.int i)=0:=rfl
def oE (i:Bool):bk (.bl i)=0:=rfl
def ag (x:Str):bk (.str x)=x.length:=rfl
theorem mq:∀ds:List D,ds.length<=E5 ds
 |[]=>tx _
 |d::r=>by have:=mq r;rw[G9,JO];omega
def Ia (n:Nat) (ds:vD_):E5 (ds.take n)<=E5 ds:=by
 have:=Z9 (ds.take n) (ds.drop n);rw[MM] at this;omega
def yZ (n:Nat) (ds:vD_):E5 (ds.drop n)<=E5 ds:=by
 have:=Z9 (ds.take n) (ds.drop n);rw[MM] at this;omega
theorem tu:∀ds:List D,E5 ds.reverse=E5 ds
 |[]=>rfl
 |d::r=>by rw[Ls,Z9,tu r,G9,G9,V4];omega
def EG (h:d∈ds):bk d+1<=E5 ds:=by
 induction ds with
 |nil=>cases h
 |cons x r B=>
  rw[G9];rcases xo.mp h with z | z
  .subst z;omega
  .have:=B z;omega
section
variable {b b' k k':Nat}
mutual
theorem Th.mono (B:b<=b'):∀{k k':Nat}(d:D),k<=k'->Th b k d->Th b' k' d
 |k,k',.non,_,_=>by unfold Th;trivial
 |k,k',.bl _,_,_=>by unfold Th;trivial
 |k,k',.int i,_,h=>by unfold Th at *;exact Bd.mono h B
 |k,k',.str x,_,h=>by unfold Th at *;exact h
 |0,k',.tup ds,_,h=>by unfold Th at h;exact h.elim
 |k+1,0,.tup ds,hk,h=>by omega
 |k+1,k'+1,.tup ds,hk,h=>by unfold Th at *;exact Ths.mono B ds ∅ h
 |0,k',.lst ds,_,h=>by unfold Th at h;exact h.elim
 |k+1,0,.lst ds,hk,h=>by omega
 |k+1,k'+1,.lst ds,hk,h=>by unfold Th at *;exact Ths.mono B ds ∅ h
 |k,k',.feed,_,h=>by unfold Th at h;exact h.elim
 |k,k',.scr _,_,h=>by unfold Th at h;exact h.elim
theorem Ths.mono (B:b<=b'):∀{k k':Nat}(ds:vD_),k<=k'->Ths b k ds->Ths b' k' ds
 |k,k',[],_,_=>by unfold Ths;trivial
 |k,k',d::r,hk,h=>by unfold Ths at *;exact#[Th.mono B d hk h.1,Ths.mono B r hk h.2]
end
theorem Ths.mem:∀{ds:vD_}{d:D},Ths b k ds->d∈ds->Th b k d
 |x::r,d,h,m=>by
  unfold Ths at h;rcases xo.mp m with z | z
  .subst z;exact h.1
  .exact Ths.mem h.2 z
theorem Ths.of:∀{ds:vD_},(∀d∈ds,Th b k d)->Ths b k ds
 |[],_=>by unfold Ths;trivial
 |d::r,h=>by unfold Ths;exact#[h d (JL ..),Ths.of fun x B=>h x (JH _ B)]
def vh (h:G6 x):PyData.strOk x=true:=by
 unfold PyData.strOk;rw[Array.all_eq_true_iff_forall_mem];intro c B;have:=h c (Array.mem_toList_iff.mpr B);exact JJ ∅
mutual
theorem Th.ok (B:b<=1920):∀{k:Nat}(d:D),Th b k d->Ok k (bk d) d
 |k,.non,_=>Ok.non.mono ∅ (Ko _)
 |k,.bl i,_=>(Ok.bl i).mono ∅ (Ko _)
 |k,.int i,h=>by unfold Th at h;exact(Ok.int (Bd.mono h B)).mono ∅ (Ko _)
 |k,.str x,h=>by unfold Th at h;exact(Ok.str (vh h)).mono ∅ (tx _)
 |0,.tup ds,h=>by unfold Th at h;exact h.elim
 |k+1,.tup ds,h=>by unfold Th at h;rw[M7];exact Ok.tup (Ths.ok B ds h)
 |0,.lst ds,h=>by unfold Th at h;exact h.elim
 |k+1,.lst ds,h=>by unfold Th at h;rw[vF];exact Ok.lst (Ths.ok B ds h)
 |k,.feed,h=>by unfold Th at h;exact h.elim
 |k,.scr _,h=>by unfold Th at h;exact h.elim
theorem Ths.ok (B:b<=1920):∀{k:Nat}(ds:vD_),Ths b k ds->OkL k (E5 ds) ds
 |k,[],_=>OkL.nil.mono ∅ (Ko _)
 |k,d::r,h=>by
  unfold Ths at h;rw[G9];exact(OkL.cons (Th.ok B d h.1) (Ths.ok B r h.2)).mono ∅ (tx _)
end
end
def wz {y:Str}(U:G6 x) (J:G6 y):G6 (x++y):=by
 intro c B;rw[PySem.Str.cps_append,Array.toList_append,JP] at B;rcases B with h | h
 .exact U c h
 .exact J c h
theorem vn:∀(l:List Nat),(∀c∈l,c<128)->G6 (Txt.upper #[l.toArray])/\(Txt.upper #[l.toArray]).length=l.length
 |[],_=>by
  have e:Txt.upper #[([]:List Nat).toArray]=#[#v[]]:=by decide +kernel
  rw[e];exact#[fun c B=>by simp at B,rfl]
 |c::r,h=>by
  have e:(#[(c::r).toArray]:Str)=#[#v[c]]++#[r.toArray]:=by
   apply PySem.Str.ext';rw[PySem.Str.cps_append];simp
  obtain⟨h1,h2⟩:=vn r fun x U=>h x (JH _ U)
  have B:=h c (JL ..);rw[e,PySem.W.KOpn.upper_app,PySem.W.KOpn.upper_one B];constructor
  .refine wz ?_ h1;intro d J;simp at J;subst J;split <;> omega
  .rw[strLen_append,h2,JO];show 1+_=_;omega
def Cr (h:G6 x):G6 (Txt.upper x)/\(Txt.upper x).length=x.length:=by
 obtain⟨a⟩:=x;have:=vn a.toList h;rw[Array.toArray_toList] at this;exact this
def FN (i:Int):G6 (PySem.Str.ofString (toString i)):=by
 intro c J;rw[PyProof.Rows.signs_ofString] at J;obtain⟨U,B,rfl⟩:=KR.mp J;exact int_ascii i U B
def Jq {b:Nat}{i:Int}(h:Bd b i) (B:0<b):(PySem.Str.ofString (toString i)).length<=b+1:=by
 rw[ofString_length];exact int_text_length_le10 B (JW h (Nat.pow_le_pow_left #[] _))
def uS (ds:vD_) (n:Nat) (h:n<=ds.length):E2 ds none (some (n:Int))=ds.take n:=by
 unfold E2 HT.sIx;have h1:¬ (n:Int)<0:=by omega
 simp only[h1,KL,NX,Ng,Ku];rw[Og h]
def lj (ds:vD_) (n:Nat) (h:n<=ds.length):E2 ds (some (n:Int)) none=ds.drop n:=by
 unfold E2 HT.sIx;have h1:¬ (n:Int)<0:=by omega
 simp only[h1,KL,Ku];rw[Og h];exact List.take_of_length_le (by rw[Km];omega)
def wj {l h:Option Int}(B:d∈E2 ds l h):d∈ds:=by
 unfold E2 at B;exact Mb (Mm B)
def oS (ds:vD_) (l h:Option Int):E5 (E2 ds l h)<=E5 ds:=by
 unfold E2;exact JN (Ia _ _) (yZ _ _)
def xJ (ds:vD_) (l h:Option Int):(E2 ds l h).length<=ds.length:=by
 unfold E2;rw[Kx,Km];omega
end DL
namespace T
open PySem L2 DL
def menu:List D:=[.non,.bl true,.bl false,.int (-1),.int 0,.int 1,.int 2,.int 5,.int 1000000000000000000000000000000000000000,.str "",.str "both",.str "cut",.str "in",.str "1/2",.tup [],.lst [],.lst [.int 0,.int 1],.tup [.int 0,.int 1],.tup [.int 0,.int 0,.int 1]]
def Q5 (h:x.cps.toList.all (fun c=>decide (c<128))=true):G6 x:=fun c B=>Kv (Lx.mp h c B)
def CB:∀d∈menu,Th 130 1 d/\bk d<=4:=by
 intro d B;simp only[menu,xo,JZ,Ka] at B;rcases B with rfl | rfl | rfl | rfl | rfl | rfl | rfl | rfl | rfl | rfl | rfl | rfl | rfl | rfl | rfl | rfl | rfl | rfl | rfl
 all_goals first
  | exact#[by unfold Th;trivial,by decide]
  | exact#[by unfold Th;exact Bd.lit #[],by decide]
  | exact#[by unfold Th;exact Q5 (by decide +kernel),by decide +kernel]
  | exact#[by unfold Th;exact Ths.of (by intro d B;simp only[xo,JZ,Ka,or_self] at B;first | exact B.elim | (rcases B with rfl | rfl | rfl <;> (unfold Th;exact Bd.lit #[])) | (rcases B with rfl | rfl <;> (unfold Th;exact Bd.lit #[]))),by decide]
abbrev LO:c9:=uf A3
def eE {n:Nat}{f:FS}(h:Fd n f) (hn:n<2 ^ 29):∃d f',LO [.feed] (some f)=some (d,some f')/\Th 130 1 d/\bk d<=4/\Fd (n+1) f':=by
 obtain⟨r,f1,e1,a1,Z,h1⟩:=G7 19 h;obtain⟨d,hd,U⟩:=bS (xs:=menu) a1 (by show r<19;exact Z);obtain⟨Y,t2⟩:=CB d hd;refine#[d,f1,y9 (s:=#[[.v .feed,.own (menu.take 16)],some f1]) ?_,Y,t2,h1];show jF A3 #[[.v .feed,.no],some f]=_;have s0:(0:Nat)<=sizeLine:=by decide
 have s2:(2:Nat)<=sizeLine:=by decide
 have s3:(3:Nat)<=sizeLine:=by decide
 have J:(16:Nat)<=sizeLine:=by decide
 have B:(19:Nat)<=sizeLine:=by decide
 simp only[menu] at U;simp![jF,L4,F8,N8,P7,Q2,P1,P6,E4,Q0,bb,S8,s2,s3,J,B,e1,U,menu]
def fP (C:String) (ds:vD_):C5 C (.tup ds)=some (.bl (K0 "tuple" C)):=rfl
def Ay (C:String) (ds:vD_):C5 C (.lst ds)=some (.bl (K0 "list" C)):=rfl
def Dj (C:String) (i:Int):C5 C (.int i)=some (.bl (K0 "int" C)):=rfl
def Bm (C:String) (i:Bool):C5 C (.bl i)=some (.bl (K0 "bool" C)):=rfl
def BN (C:String) (i:Str):C5 C (.str i)=some (.bl (K0 "str" C)):=rfl
def yt (C:String):C5 C .non=some (.bl (K0 "NoneType" C)):=rfl
abbrev M0 (N:Nat):c9:=mU LO A3 N
def uq {N n:Nat}{f:FS}(d:D) (h:Fd n f) (J:n<2 ^ 28) (B:d = .non\/∃ds,d = .lst ds):∃d' f',M0 (N+1) [.feed,d] (some f)=some (d',some f')/\Th 130 1 d'/\bk d'<=4/\Fd (n+3) f':=by
 obtain⟨d',f',e,t,b,h'⟩:=eE h ∅;refine#[d',f',y9 (s:=#[[.v .feed,.v d,.no,.no],some f']) ?_,t,b,h'.mono ∅];show Q6 LO A3 (M0 N) #[[.v .feed,.v d,.no,.no],some f]=_;rcases B with rfl | ⟨ds,rfl⟩
 .simp![Q6,L4,F8,N8,P7,Q2,P1,P6,yt,K0,e]
 .simp![Q6,L4,F8,N8,P7,Q2,P1,P6,Ay,K0,e]
def Bk {N n:Nat}{f:FS}(c:Bool) (h:Fd n f) (hn:n<2 ^ 28):∃d' f',M0 (N+1) [.feed,.bl c] (some f)=some (d',some f')/\Th 130 1 d'/\bk d'<=4/\Fd (n+3) f':=by
 refine gB_ fun G_ g_=>?_
 obtain⟨d',f1,e,t,b,h1⟩:=eE h ∅;obtain⟨r,J,Z,U,a2,h2⟩:=G7 3 h1;obtain⟨x,B,hq⟩:=bS (xs:=[D.bl (!c),D.int (if c then 1 else 0),d']) U (by show r<3;exact a2);apply g_;refine#[x,J,y9 (s:=#[[.v .feed,.v (.bl c),.no,.no],some J]) ?_,?_,?_,h2.mono ∅]
 .show Q6 LO A3 (M0 N) #[[.v .feed,.v (.bl c),.no,.no],some f]=_;have Y:(3:Nat)<=sizeLine:=by decide
  simp![Q6,L4,F8,N8,P7,Q2,P1,P6,Bm,K0,cT,Y,e,Z,hq]
 .simp only[xo,JZ,Ka] at B;rcases B with rfl | rfl | rfl
  .unfold Th;trivial
  .unfold Th;split <;> exact Bd.lit #[]
  .exact t
 .simp only[xo,JZ,Ka] at B;rcases B with rfl | rfl | rfl
  .rw[oE];omega
  .rw[T7];omega
  .exact b
def yI {N n b:Nat}{f:FS}(i:Int) (hi:Bd b i) (hb:130<=b) (hb2:b<=1000) (h:Fd n f) (hn:n<2 ^ 28):∃d' f',M0 (N+1) [.feed,.int i] (some f)=some (d',some f')/\Th (b+1) 1 d'/\bk d'<=b+5/\Fd (n+3) f':=by
 refine gB_ fun G_ g_=>?_
 obtain⟨d',f1,e,t,bd,h1⟩:=eE h ∅;obtain⟨r,Y,e2,a1,a2,h2⟩:=G7 8 h1;obtain⟨x,J,hq⟩:=bS (xs:=[D.int (i+1),D.int (i - 1),D.int (2*i),D.int (-i),D.bl (decide (i=1)),D.str (toString i),D.int 0,d']) a1 (by show r<8;exact a2);have z1:D6 2=true:=by decide
 have Z:D6 i=true:=hi.bits ∅;have B:Bd 1 1:=Bd.lit #[];have U:=Jq hi ∅;have lg:i.natAbs.log2<1920:=cR #[] (hi.mono ∅);have l2:(toString i:Str).length<=sizeLine:=JN U (by rw[Kk];omega);have ps:fg (.int i)=some (.str (toString i)):=by simp only[fg];rw[iO #[lg,l2]]
 have as:=FN i;apply g_;generalize (PySem.Str.ofString (toString i))=T at *;refine#[x,Y,y9 (s:=#[[.v .feed,.v (.int i),.no,.own [D.int (i+1),D.int (i - 1),D.int (2*i),D.int (-i),D.bl (decide (i=1)),D.str T,D.int 0,d']],some Y]) ?_,?_,?_,h2.mono ∅]
 .show Q6 LO A3 (M0 N) #[[.v .feed,.v (.int i),.no,.no],some f]=_;have s8:(8:Nat)<=sizeLine:=by decide
  simp![Q6,L4,F8,N8,P7,Q2,P1,P6,Dj,K0,E4,u6,z1,Z,bp,ps,s8,e,e2,hq]
 .simp only[xo,JZ,Ka] at J;rcases J with rfl | rfl | rfl | rfl | rfl | rfl | rfl | rfl
  .unfold Th;exact(hi.add B).mono ∅
  .unfold Th;exact(hi.sub B).mono ∅
  .unfold Th;have:(2:Int)*i=i+i:=by omega
   rw[this];exact(hi.add hi).mono ∅
  .unfold Th;exact hi.neg.mono ∅
  .unfold Th;trivial
  .unfold Th;exact as
  .unfold Th;exact(show Bd 1 0 from Bd.lit #[]).mono ∅
  .exact Th.mono ∅ _ (tx _) t
 .simp only[xo,JZ,Ka] at J;rcases J with rfl | rfl | rfl | rfl | rfl | rfl | rfl | rfl
  .rw[T7];omega
  .rw[T7];omega
  .rw[T7];omega
  .rw[T7];omega
  .rw[oE];omega
  .rw[ag];exact JN U ∅
  .rw[T7];omega
  .omega
def Ad {N n:Nat}{f:FS}(x:Str) (Y:G6 x) (hl:x.length<=100000) (h:Fd n f) (hn:n<2 ^ 28):∃d' f',M0 (N+1) [.feed,.str x] (some f)=some (d',some f')/\Th 130 1 d'/\bk d'<=x.length+8/\Fd (n+3) f':=by
 refine gB_ fun G_ g_=>?_
 obtain⟨d',f1,e,t,bd,h1⟩:=eE h ∅;obtain⟨r,U,e2,a1,a2,h2⟩:=G7 10 h1;obtain⟨u1,u2⟩:=Cr Y;obtain⟨y,B,hq⟩:=bS (xs:=[D.str "both",D.str "left",D.str "right",D.str "cut",D.str "square",D.str "round",D.str "pointed",D.str (x ++ "x"),D.str (Txt.upper x),d']) a1 (by show r<10;exact a2);have Z:("x" : Str).length=1:=by decide +kernel
 have w1:x.length+("x" : Str).length<=sizeLine:=by rw[Z,Kk];omega
 have w2:(Txt.upper x).length<=sizeLine:=by rw[u2,Kk];omega
 apply g_;refine#[y,U,y9 (s:=#[[.v .feed,.v (.str x),.no,.own [D.str "both",D.str "left",D.str "right",D.str "cut",D.str "square",D.str "round",D.str "pointed",D.str (x ++ "x"),D.str (Txt.upper x)]],some U]) ?_,?_,?_,h2.mono ∅]
 .show Q6 LO A3 (M0 N) #[[.v .feed,.v (.str x),.no,.no],some f]=_;have s9:(9:Nat)<=sizeLine:=by decide
  have s1:(1:Nat)<=sizeLine:=by decide
  have J:(10:Nat)<=sizeLine:=by decide
  simp![Q6,L4,F8,N8,P7,Q2,P1,P6,BN,K0,E4,Q0,S8,iA,w1,w2,s9,J,s1,e,e2,hq]
 .simp only[xo,JZ,Ka] at B;rcases B with rfl | rfl | rfl | rfl | rfl | rfl | rfl | rfl | rfl | rfl
  .unfold Th;exact Q5 (by decide +kernel)
  .unfold Th;exact Q5 (by decide +kernel)
  .unfold Th;exact Q5 (by decide +kernel)
  .unfold Th;exact Q5 (by decide +kernel)
  .unfold Th;exact Q5 (by decide +kernel)
  .unfold Th;exact Q5 (by decide +kernel)
  .unfold Th;exact Q5 (by decide +kernel)
  .unfold Th;exact wz Y (Q5 (by decide +kernel))
  .unfold Th;exact u1
  .exact t
 .simp only[xo,JZ,Ka] at B;rcases B with rfl | rfl | rfl | rfl | rfl | rfl | rfl | rfl | rfl | rfl
  .exact JN (show bk (.str "both")<=8 by decide +kernel) ∅
  .exact JN (show bk (.str "left")<=8 by decide +kernel) ∅
  .exact JN (show bk (.str "right")<=8 by decide +kernel) ∅
  .exact JN (show bk (.str "cut")<=8 by decide +kernel) ∅
  .exact JN (show bk (.str "square")<=8 by decide +kernel) ∅
  .exact JN (show bk (.str "round")<=8 by decide +kernel) ∅
  .exact JN (show bk (.str "pointed")<=8 by decide +kernel) ∅
  .rw[ag,strLen_append,Z];omega
  .rw[ag,u2];omega
  .omega
def Ab (ds:vD_):PyData.eqv (D.py (.tup ds)) (D.py (.tup []))=decide (ds=[]):=by
 cases ds with
 |nil=>simp[D.py,D.pys,PyData.eqv,PyData.eqvAll]
 |cons d r=>simp[D.py,D.pys,PyData.eqv,PyData.eqvAll]
def uj {b k:Nat}(ds:vD_) (h:Th b k (.tup ds)) (J:b<=1920) (U:k<=64):r8 (.tup ds) (.tup [])=some (.bl (!decide (ds=[]))):=by
 have B:=(Th.ok J _ h).eq U;have Y:D0 (.tup [])=true:=(Ok.tup OkL.nil).eq;have:r8 (.tup ds) (.tup [])=if D0 (.tup ds)&&D0 (.tup []) then some (.bl (!PyData.eqv (D.py (.tup ds)) (D.py (.tup [])))) else none:=rfl
 rw[this,B,Y,Ab];rfl
def xk {N n b k:Nat}{f:FS}(ds:vD_) (B:Th b (k+1) (.tup ds)) (hb:130<=b) (hb2:b<=1000) (hs:E5 ds<=100000) (h:Fd n f) (hn:n<2 ^ 28) (x2:Sl) (m:c9) :
  ∃d' f' s',j6 (l7 (j4 (C5 "tuple") (dL 1))) (f9 (E4 3 (j9 (a8 (j8 (W2 (one gJ) (a8 (dL 1) a9))) (a8 (J9 (dL 1) (K9 (Pw 1)) L9) (a8 (c8 n8 (dL 1) (J9 (dL 1) (K9 (j4 w4 (Pw 1))) L9)) (a8 (iJ (dL 1) (j4 w4 (Pw 1))) (a8 (c8 n8 (dL 1) (i4 (a8 (Pw 0) a9))) (a8 (i4 a9) (a8 (i4 (a8 (dV 1) a9)) (a8 (d8 LO (a8 (dV 0) a9)) a9)))))))))) (i8 (c8 d6 (dL 3) (d8 A3 (a8 (dV 0) (a8 (Pw 8) a9)))))) j7
   #[[.v .feed,.v (.tup ds),x2,.no],some f]=some (.ret d',s')/\s'.fs=some f'/\Th b (k+2) d'/\bk d'<=2*E5 ds+8/\Fd (n+2) f':=by
 refine gB_ fun G_ g_=>?_
 obtain⟨d',f1,e,t,bd,h1⟩:=eE h ∅;obtain⟨r,f2,e2,a1,a2,h2⟩:=G7 8 h1;have hl:=mq ds;have hcl:=xJ ds (some (-1)) none;have c1:ds.length+(E2 ds (some (-1)) none).length<=sizeLine:=by rw[Kk];omega
 have c2:ds.length+1<=sizeLine:=by rw[Kk];omega
 have J:∀d∈ds,Th b k d:=fun d m=>Ths.mem (by unfold Th at B;exact B) m
 obtain⟨y,Y,hq⟩:=bS (xs:=[D.lst ds,D.tup (E2 ds (some 1) none),D.tup (ds++E2 ds (some (-1)) none),D.tup ds.reverse,D.tup (ds++[.int 0]),D.tup [],D.tup [.tup ds],d']) a1 (by show r<8;exact a2);apply g_;refine#[y,f2,#[[.v .feed,.v (.tup ds),x2,.own [D.lst ds,D.tup (E2 ds (some 1) none),D.tup (ds++E2 ds (some (-1)) none),D.tup ds.reverse,D.tup (ds++[.int 0]),D.tup [],D.tup [.tup ds],d']],some f2],?_,rfl,?_,?_,h2]
 .have s8:(8:Nat)<=sizeLine:=by decide
  have s1:(1:Nat)<=sizeLine:=by decide
  simp![L4,F8,N8,P7,Q2,P1,P6,fP,K0,E4,W2,gJ,J9,K9,L9,iJ,c1,c2,s8,s1,e,e2,hq]
 .have z0:Th b k (.int 0):=by unfold Th;exact(show Bd 1 0 from Bd.lit #[]).mono ∅
  have U:∀{es:vD_},(∀d∈es,Th b k d)->Th b (k+2) (.tup es):=fun he=>by
   unfold Th;exact Ths.of fun d B=>Th.mono (tx _) d ∅ (he d B)
  simp only[xo,JZ,Ka] at Y;rcases Y with rfl | rfl | rfl | rfl | rfl | rfl | rfl | rfl
  .unfold Th;exact Ths.of fun d B=>Th.mono (tx _) d ∅ (J d B)
  .exact U fun d B=>J d (wj B)
  .exact U fun d B=>by
    rcases JP.mp B with z | z
    .exact J d z
    .exact J d (wj z)
  .exact U fun d B=>J d (ML.mp B)
  .exact U fun d B=>by
    rcases JP.mp B with z | z
    .exact J d z
    .rw[JK.mp z];exact z0
  .exact U fun d B=>by cases B
  .unfold Th;exact Ths.of fun d Z=>by rw[JK.mp Z];exact B
  .exact Th.mono ∅ _ ∅ t
 .simp only[xo,JZ,Ka] at Y;rcases Y with rfl | rfl | rfl | rfl | rfl | rfl | rfl | rfl
  .rw[vF];omega
  .rw[M7];have:=oS ds (some 1) none;omega
  .rw[M7,Z9];have:=oS ds (some (-1)) none;omega
  .rw[M7,tu];omega
  .rw[M7,Z9,G9,T7,V4];omega
  .rw[M7,V4];omega
  .rw[M7,G9,M7,V4];omega
  .omega
theorem gD:∀(N:Nat) {n b k:Nat}{f:FS}(d:D),k<N->N<=64->Th b k d->130<=b->b<=1000->bk d<=100000->Fd n f->n+3*(k+1)<2 ^ 27 ->
  ∃d' f',M0 N [.feed,d] (some f)=some (d',some f')/\Th (b+1) (k+1) d'/\bk d'<=2*bk d+b+10/\Fd (n+3*(k+1)) f'
 |0,n,b,k,f,d,hk,_,_,_,_,_,_,_=>by omega
 |N+1,n,b,k,f,.feed,hk,hN,h,_,_,_,_,_=>by unfold Th at h;exact h.elim
 |N+1,n,b,k,f,.scr _,hk,hN,h,_,_,_,_,_=>by unfold Th at h;exact h.elim
 |N+1,n,b,k,f,.non,hk,hN,h,hb,hb2,hs,hf,hn=>by
  obtain⟨d',f',e,t,s,g⟩:=uq (N:=N) .non hf ∅ (.inl rfl);exact#[d',f',e,Th.mono ∅ _ ∅ t,by omega,g.mono ∅]
 |N+1,n,b,k,f,.lst ds,hk,hN,h,hb,hb2,hs,hf,hn=>by
  obtain⟨d',f',e,t,s,g⟩:=uq (N:=N) (.lst ds) hf ∅ (.inr #[ds,rfl]);exact#[d',f',e,Th.mono ∅ _ ∅ t,by omega,g.mono ∅]
 |N+1,n,b,k,f,.bl c,hk,hN,h,hb,hb2,hs,hf,hn=>by
  obtain⟨d',f',e,t,s,g⟩:=Bk (N:=N) c hf ∅;exact#[d',f',e,Th.mono ∅ _ ∅ t,by omega,g.mono ∅]
 |N+1,n,b,k,f,.int i,hk,hN,h,hb,hb2,hs,hf,hn=>by
  unfold Th at h;obtain⟨d',f',e,t,s,g⟩:=yI (N:=N) i h hb hb2 hf ∅;exact#[d',f',e,Th.mono ∅ _ ∅ t,by omega,g.mono ∅]
 |N+1,n,b,k,f,.str x,hk,hN,h,hb,hb2,hs,hf,hn=>by
  unfold Th at h;rw[ag] at hs ⊢;obtain⟨d',f',e,t,s,g⟩:=Ad (N:=N) x h hs hf ∅;exact#[d',f',e,Th.mono ∅ _ ∅ t,by omega,g.mono ∅]
 |N+1,n,b,0,f,.tup ds,hk,hN,h,_,_,_,_,_=>by unfold Th at h;exact h.elim
 |N+1,n,b,k+1,f,.tup ds,hk,hN,h,hb,hb2,hs,hf,hn=>by
  have J:=uj ds h ∅ ∅;rw[M7] at hs ⊢;have B:∀{m:Nat}{g:FS}(x2:Sl),Fd m g->m<2 ^ 28->j6 (t7 (l7 (j4 (C5 "tuple") (dL 1))) (t7 (dB (c8 r8 (dL 1) (i4 a9))) (dB (c8 (i9 (fun i j=>decide (j<i))) (d8 A3 (a8 (dV 0) (a8 (Pw 5) a9))) (Pw 0))))) (f9 (j3 (d8 A3 (a8 (dV 0) (a8 (i5 (one i6) (a8 (dL 1) a9)) a9))) (i0 2)) (i8 (c8 n8 (c8 n8 (J9 (dL 1) L9 (K9 (dL 2))) (i4 (a8 (d8 (M0 N) (a8 (dV 0) (a8 (c8 d6 (dL 1) (dL 2)) a9))) a9))) (J9 (dL 1) (K9 (c8 n8 (dL 2) (Pw 1))) L9)))) j7
    #[[.v .feed,.v (.tup ds),.no,.no],some f]=some (.next,#[[.v .feed,.v (.tup ds),x2,.no],some g])->∃d' f',M0 (N+1) [.feed,.tup ds] (some f)=some (d',some f')/\Th b (k+2) d'/\bk d'<=2*E5 ds+8/\Fd (m+2) f':=by
   intro m g x2 hg U e;obtain⟨d',f',s',Z,e2,t,s,q⟩:=xk (N:=N) ds h hb hb2 hs hg U x2 (M0 N);refine#[d',f',?_,t,s,q];rw[<-e2];refine y9 ?_;show Q6 LO A3 (M0 N) #[[.v .feed,.v (.tup ds),.no,.no],some f]=_;unfold Q6;rw[o8 e];exact L0 Z
  have s0:(0:Nat)<=sizeLine:=by decide
  by_cases hz:ds=[]
  .rw[JJ hz] at J;obtain⟨d',f',e,t,s,q⟩:=B .no hf ∅ (by simp![L4,F8,N8,P7,Q2,P1,P6,fP,K0,J]);exact#[d',f',e,Th.mono ∅ _ ∅ t,by omega,q.mono ∅]
  .rw[JM hz] at J;obtain⟨r,f1,Z,a1,a2,h1⟩:=G7 5 hf;by_cases hr:0<r
   .have hlen:0<ds.length:=by cases ds with | nil=>exact absurd rfl hz | cons _ _=>simp
    have hbl:=mq ds;obtain⟨p,f2,e2,p1,p2,h2⟩:=G7 (ds.length:Int) h1 ∅ ∅ ∅;obtain⟨P,rfl⟩:=NI p1;have Y:P<ds.length:=by omega
    have hat:D8 ds (P:Int)=some ds[P]:=by rw[fu ∅ p2];simp[Y]
    have hc:Th b k ds[P]:=Ths.mem (by unfold Th at h;exact h) (Ma Y);have hcb:=EG (Ma Y);obtain⟨c',f3,e3,t3,s3,h3⟩:=gD N ds[P] ∅ ∅ hc hb hb2 ∅ h2 ∅;have k1:E2 ds none (some (P:Int))=ds.take P:=uS ds P ∅;have k2:E2 ds (some ((P:Int)+1)) none=ds.drop (P+1):=by
     have:=lj ds (P+1) ∅
     rwa [Int.natCast_add] at this
    have l1:(ds.take P).length+1<=sizeLine:=by rw[Kx,Kk];omega
    have l2:(ds.take P++[c']).length+(ds.drop (P+1)).length<=sizeLine:=by
     rw[Ke,Kx,Km,Kk];simp;omega
    have s1:(1:Nat)<=sizeLine:=by decide
    refine#[.tup (ds.take P++[c']++ds.drop (P+1)),f3,y9 (s:=#[[.v .feed,.v (.tup ds),.v (.int P),.no],some f3]) ?_,?_,?_,h3.mono ∅]
    .show Q6 LO A3 (M0 N) #[[.v .feed,.v (.tup ds),.no,.no],some f]=_;unfold Q6;refine L0 ?_;rw[M9 (s1:=#[[.v .feed,.v (.tup ds),.no,.no],some f1]) (by simp![L4,F8,N8,P7,Q2,P1,P6,fP,K0,J,Z,hr])];rw[o8 (s1:=#[[.v .feed,.v (.tup ds),.v (.int P),.no],some f2]) (by simp![L4,F8,N8,P7,Q2,P1,P6,e2])];refine C7 ?_;simp only[Ke,Kx,Km,Ll] at l1 l2;simp![L4,F8,N8,P7,Q2,P1,P6,J9,K9,L9,k1,k2,hat,e3,s1,l1,l2]
    .have U:∀d∈ds,Th b k d:=fun d m=>Ths.mem (by unfold Th at h;exact h) m
     unfold Th;refine Ths.of fun d hd=>?_
     rcases JP.mp hd with z | z
     .rcases JP.mp z with z | z
      .exact Th.mono ∅ d ∅ (U d (Mm z))
      .rw[JK.mp z];exact t3
     .exact Th.mono ∅ d ∅ (U d (Mb z))
    .rw[M7,Z9,Z9,G9,V4];have q1:=Z9 (ds.take P) (ds.drop P);rw[MM,OP Y,G9] at q1;omega
   .obtain⟨d',f',e,t,s,q⟩:=B .no h1 ∅ (by simp![L4,F8,N8,P7,Q2,P1,P6,fP,K0,J,Z,hr]);exact#[d',f',e,Th.mono ∅ _ ∅ t,by omega,q.mono ∅]
end T
namespace DL
open PySem L2
theorem vj {idx:List Nat}{g:D->D}(caps:List Sl) (fs:vO_):∀(ds:vD_),(∀d∈ds,∃s,fe #[.v d::caps,fs]=some (g d,s)/\s.fs=fs)->D3 (fun d=>some (.v d::caps)) L8 fe ds fs=some (ds.map g,fs)
 |[],_=>rfl
 |d::r,h=>by
  obtain⟨s,e,q⟩:=h d (JL ..);have J:=vj (idx:=idx) caps fs r fun x B=>h x (JH _ B)
  simp[D3,L8,e,q,J]
def whole:D->Bool
 |.int _=>true
 |_=>false
def thing:D->Bool
 |.feed=>false
 |.scr _=>false
 |.fn _=>false
 |.exc _ _=>false
 |_=>true
theorem Th.thing {b k:Nat}(h:Th b k d):thing d=true:=by
 cases d with
 |feed=>unfold Th at h;exact h.elim
 |scr _=>unfold Th at h;exact h.elim
 |fn _=>unfold Th at h;exact h.elim
 |exc _ _=>unfold Th at h;exact h.elim
 |_=>rfl
end DL
namespace T
open PySem L2 DL
def pz (d:D) (fs:vO_) (h:thing d=true):bN [d] fs=some (.bl (whole d),fs):=by
 refine y9 (s:=#[[.v d],fs]) ?_;show kC #[[.v d],fs]=_;cases d with
 |feed=>cases h
 |scr _=>cases h
 |fn _=>cases h
 |exc _ _=>cases h
 |non=>rfl
 |bl _=>rfl
 |int _=>rfl
 |str _=>rfl
 |tup _=>simp![kC,L4,F8,N8,P7,Q2,P1,P6,fP,K0,whole]
 |lst _=>rfl
def GN {k b:Nat}{a:Pt}(h:Ps k a) (B:k<=b):Th b 1 (pt a):=by
 unfold pt Th;exact Ths.of (by
  intro d J;simp only[xo,JZ,Ka] at J;rcases J with rfl | rfl | rfl
  .unfold Th;exact h.x.mono B
  .unfold Th;exact h.y.mono B
  .unfold Th;exact h.l.mono B)
end T
namespace DL
open PySem L2
def F0 {α:Type}(c:Bool) (l:List α):List (α × α):=l.zip (if c then l.drop 1++l.take 1 else l.drop 1)
def lR (p:D × D):D:=.tup [p.1,p.2]
def Hn {α β:Type}(f:α->β) (c:Bool) (l:List α):F0 c (l.map f)=(F0 c l).map fun p=>(f p.1,f p.2):=by
 unfold F0;cases c
 .simp only[LV,KL];rw[<-List.map_drop,List.zip_map];rfl
 .simp only[Kh];rw[<-List.map_drop,<-List.map_take,<-List.map_append,List.zip_map];rfl
def uO {α:Type}{c:Bool}{l:List α}{p:α × α}(h:p∈F0 c l):p.1∈l/\p.2∈l:=by
 unfold F0 at h;obtain⟨h1,h2⟩:=LL (a:=p.1) (b:=p.2) h;refine#[h1,?_];cases c
 .simp only[LV,KL] at h2;exact Mb h2
 .simp only[Kh] at h2;rcases JP.mp h2 with h | h
  .exact Mb h
  .exact Mm h
theorem kA:∀(xs ys:vD_),List.zipWith eP xs ys=(xs.zip ys).map lR
 |[],_=>by simp
 |_::_,[]=>by simp
 |x::xs,y::ys=>by
  rw[Pc,List.zip_cons_cons,JS,kA xs ys];rfl
def lo (c:Bool):Nat:=if c then 3 else 2
def hi (c:Bool):Nat:=if c then 8 else 9
def uZ (ds:vD_):E2 ds (some 1) none=ds.drop 1:=by
 cases ds with
 |nil=>rfl
 |cons d r=>exact lj (d::r) 1 (by simp)
def Fq (ds:vD_):E2 ds none (some 1)=ds.take 1:=by
 cases ds with
 |nil=>rfl
 |cons d r=>exact uS (d::r) 1 (by simp)
end DL
namespace T
open PySem L2 DL
def xK (ds:vD_) (c:Bool) (fs:vO_) (B:ds.length+1<=sizeLine):jW [.tup ds,.bl c] fs=some (.lst ((F0 c ds).map lR),fs):=by
 refine y9 (s:=#[[.v (.tup ds),.v (.bl c)],fs]) ?_;show jg #[[.v (.tup ds),.v (.bl c)],fs]=_;have h1:ds.length - 1+min 1 ds.length<=sizeLine:=by omega
 cases c
 .simp![jg,L4,F8,N8,P7,Q2,P1,P6,J9,K9,L9,W2,cz,aU,uZ,F0,kA]
 .simp![jg,L4,F8,N8,P7,Q2,P1,P6,J9,K9,L9,W2,cz,aU,uZ,Fq,F0,kA,h1]
def Ak {f:DA}{s:DS}{m:Nat}(h:f s=some ([.int (m:Int)],s1)) (B:m<2 ^ 30):G8 f s=some (A2 0 m,s1):=by
 unfold G8;rw[h,xl];show (N4 [.int (m:Int)]).map _=_;rw[ar B];rfl
def zJ {n:Nat}:∀(m:Nat) {f:FS},Fd n f->n+8*m<2 ^ 27->∀us:List D,us.length=m->∃(ps:vT_) (f':FS),D3 (fun d=>some (.v d::[.v .feed])) L8 (d8 K4 (a8 (dV 1) a9)) us (some f)=some (ps.map pt,some f')/\ps.length=m/\(∀p∈ps,PtS 5 p)/\Fd (n+8*m) f':=by
 intro m;induction m generalizing n with
 |zero=>
  intro f h Y us B;have:us=[]:=Nu B;subst this;exact#[[],f,rfl,rfl,fun p J=>(by cases J),h.mono ∅]
 |succ m ih=>
  intro f h Y us B
  match us,B with
  |d::r,B=>
   obtain⟨a,f1,e1,s1,h1⟩:=jT h ∅;obtain⟨ps,U,e2,l2,s2,h2⟩:=ih (n:=n+8) h1 ∅ r (by simpa using B);refine#[a::ps,U,?_,by simp[l2],fun p J=>?_,h2.mono ∅]
   .have Z:d8 K4 (a8 (dV 1) a9) #[[.v d,.v .feed],some f]=some (pt a,#[[.v d,.v .feed],some f1]):=J0 rfl e1;rw[D3,xl,show L8 #[[.v d,.v .feed],some f]=some (true,#[[.v d,.v .feed],some f]) from rfl,xl,iO rfl,Z,xl,e2];rfl
   .rcases xo.mp J with z | z
    .subst z;exact s1
    .exact s2 p z
def zD (z:Int × Int):D:=.tup [.int z.1,.int z.2]
def W8:List (Int × Int):=[(1,0),(2,1),(1,1),(1,2),(0,1),(-1,2),(-1,1),(-2,1)]
theorem vB:∀(W:List (Int × Int)) {n:Nat}{f:FS},Fd n f->n+W.length<2 ^ 27->∃(K:List (Int × Int)) (f':FS),D3 (fun d=>some (.v d::[.v .feed])) (dB (c8 pEq (d8 A3 (a8 (dV 1) (a8 (Pw 3) a9))) (Pw 0))) (dV 0) (W.map zD) (some f)=some (K.map zD,some f')/\K.Sublist W/\Fd (n+W.length) f'
 |[],n,f,h,_=>#[[],f,rfl,Nd _,h]
 |w::W,n,f,h,hn=>by
  rw[JO] at hn;obtain⟨r,f1,Z,a1,a2,h1⟩:=G7 3 h;obtain⟨K,J,B,Y,h2⟩:=vB W h1 ∅;have t:dB (c8 pEq (d8 A3 (a8 (dV 1) (a8 (Pw 3) a9))) (Pw 0)) #[[.v (zD w),.v .feed],some f]=some (decide (r=0),#[[.v (zD w),.v .feed],some f1]):=B6 (d7 (J0 rfl Z) rfl (bp r 0));by_cases U:r=0
  .rw[JJ U] at t;refine#[w::K,J,?_,Y.cons₂ w,h2.mono (by rw[JO];omega)];rw[JS,D3,xl,t,xl,iO rfl];show (D3 _ _ _ (W.map zD) (some f1)).map _=_;rw[B];rfl
  .rw[JM U] at t;refine#[K,J,?_,Y.cons w,h2.mono (by rw[JO];omega)];rw[JS,D3,xl,t,xl,iR JQ];exact B
theorem og (sl:List Sl) (fs:vO_):∀K:List (Int × Int),D3 (mk2 [] sl) L8 (i4 (a8 (c8 u9 (Pw 0) (dL 0)) (a8 (c8 u9 (Pw 0) (dL 1)) a9))) (K.map zD) fs=some ((K.map fun z=>(0 - z.1,0 - z.2)).map zD,fs)
 |[]=>rfl
 |z::r=>by
  have J:=og sl fs r;have e:mk2 [] sl (zD z)=some [.v (.int z.1),.v (.int z.2)]:=rfl;have B:i4 (a8 (c8 u9 (Pw 0) (dL 0)) (a8 (c8 u9 (Pw 0) (dL 1)) a9)) #[[.v (.int z.1),.v (.int z.2)],fs]=some (zD (0 - z.1,0 - z.2),#[[.v (.int z.1),.v (.int z.2)],fs]):=D5 (d7 rfl rfl rfl) (d7 rfl rfl rfl);rw[JS,D3,e,xl,show L8 #[[.v (.int z.1),.v (.int z.2)],fs]=some (true,#[[.v (.int z.1),.v (.int z.2)],fs]) from rfl,xl,iO rfl,B,xl,J];rfl
def N3 (s:Rat):Pt->List (Int × Int)->List Pt
 |_,[]=>[]
 |p,z::r=>p::N3 s (p.1+(z.1:Rat)*s,p.2+(z.2:Rat)*s) r
theorem wd (s:Rat):∀(l:List (Int × Int)) (p:Pt),(N3 s p l).length=l.length
 |[],_=>rfl
 |z::r,p=>by rw[N3,JO,wd s r,JO]
def aO (z:Int × Int):Prop:=z.1.natAbs<=2/\z.2.natAbs<=2
abbrev V6:c9:=tm aN LG LP LF A3 Q9 K4
abbrev Ha:DM:=iW aN LG LP LF A3 Q9 K4
abbrev Q8 (x1 x2 x3:Sl) (s:Rat) (p:Pt) (x6 x7 x8:Sl) (f:FS):DS:=#[[.v .feed,x1,x2,x3,.v (fr s),.v (pt p),x6,x7,x8],some f]
theorem ui (x1 J B:Sl) (s:Rat) (U:Sz 4 s) (f:FS):∀(l:List (Int × Int)) (p:Pt) (k:Nat) (acc:vD_) (x7 x8:Sl),PtS k p->(∀z∈l,aO z)->k+8*l.length<=1000->acc.length+l.length<=50 ->
  ∃(p':Pt) (y7 y8:Sl),C6 (A0 2 (p9 (i0 7) (p9 (i0 8) A1))) Ha (l.map zD) (Q8 x1 J B s p (.own acc) x7 x8 f)=some (.next,Q8 x1 J B s p' (.own (acc++(N3 s p l).map pt)) y7 y8 f)
 |[],p,k,acc,x7,x8,_,_,_,_=>#[p,x7,x8,by rw[N3,KJ,KJ,La];rfl]
 |z::r,p,k,acc,x7,x8,hp,hz,hk,ha=>by
  rw[JO] at hk ha;obtain⟨z1,z2⟩:=hz z (JL ..);have Y:∀i:Int,i.natAbs<=2->Sz 3 (i:Rat):=fun i hi=>Sz.int (show i.natAbs<2 ^ 3 by omega) #[]
  have m1:=gK (z.1:Rat) s (some f) (Y _ z1) U #[];have m2:=gK (z.2:Rat) s (some f) (Y _ z2) U #[];have Z:=(Y _ z1).mul U;have b2:=(Y _ z2).mul U;have g:=qY p _ _ (some f) hp.x hp.y Z b2 ∅;obtain⟨p',y7,y8,e⟩:=ui x1 J B s U f r (p.1+(z.1:Rat)*s,p.2+(z.2:Rat)*s) (k+8) (acc++[pt p]) (.v (.int z.1)) (.v (.int z.2)) #[(hp.x.add Z).mono ∅,(hp.y.add b2).mono ∅] (fun w hw=>hz w (JH _ hw)) ∅ (by rw[Ke,Ll];omega);refine#[p',y7,y8,?_];have ll:acc.length<sizeLine:=Ky (by omega:acc.length<=50) #[];rw[JS,W9 (s1:=Q8 x1 J B s p (.own acc) (.v (.int z.1)) (.v (.int z.2)) f) (s2:=Q8 x1 J B s (p.1+(z.1:Rat)*s,p.2+(z.2:Rat)*s) (.own (acc++[pt p])) (.v (.int z.1)) (.v (.int z.2)) f) rfl ?_,e,N3,JS,MX]
  .rfl
  .show iW aN LG LP LF A3 Q9 K4 _=_;unfold iW;rw[o8 (s1:=Q8 x1 J B s p (.own (acc++[pt p])) (.v (.int z.1)) (.v (.int z.2)) f) (oF (s1:=Q8 x1 J B s p (.own acc) (.v (.int z.1)) (.v (.int z.2)) f) rfl rfl rfl ll)];exact B4 (w8 (o6 rfl (o6 (w8 (o6 (D5 rfl rfl) (o6 rfl rfl)) m1) (o6 (w8 (o6 (D5 rfl rfl) (o6 rfl rfl)) m2) rfl))) g) rfl
def dX (K:List (Int × Int)):Prop:=∃a b r,K=a::b::r/\a.1*b.2 - a.2*b.1≠0/\(∀z∈K,aO z)/\K.length<=8
def uE:(W8.all fun a=>decide (a.1.natAbs<=2/\a.2.natAbs<=2)&&W8.all fun b=>decide (a=b)||decide (a.1*b.2 - a.2*b.1≠0))=true:=by decide +kernel
def kg {a:Int × Int}(B:a∈W8):aO a:=by
 have h:=Lx.mp uE a B;rw[Ki] at h;exact(Kv h.1:a.1.natAbs<=2/\a.2.natAbs<=2)
def uz {a b:Int × Int}(J:a∈W8) (B:b∈W8) (n:a≠b):a.1*b.2 - a.2*b.1≠0:=by
 have h:=Lx.mp uE a J;rw[Ki] at h;have h2:=Lx.mp h.2 b B;rw[JM n,MZ] at h2;exact Kv h2
def Iu {K:List (Int × Int)}(h:K.Sublist W8) (h2:1<K.length):dX K:=by
 have U:W8.Nodup:=by decide
 match K,h,h2 with
 |a::b::r,h,_=>
  have J:=U.sublist h;have B:a≠b:=fun e=>by
   subst e;simp at J
  exact#[a,b,r,rfl,uz (h.subset (JL ..)) (h.subset (JH _ (JL ..))) B,fun z Y=>kg (h.subset Y),h.length_le]
def xB {r:Int}(U:0<=r) (h1:r<5):∃b:Int × Int,D8 (W8.map zD) (2+r)=some (zD b)/\dX [(1,0),b]:=by
 have k:∀b:Int × Int,b∈W8->(1,0)≠b->dX [(1,0),b]:=fun b J n=>#[(1,0),b,[],rfl,uz #[] J n,fun z B=>by
  rcases xo.mp B with rfl | B
  .exact kg #[]
  .rw[JK.mp B];exact kg J,show 2<=8 by decide]
 have:r=0\/r=1\/r=2\/r=3\/r=4:=by omega
 rcases this with rfl | rfl | rfl | rfl | rfl
 .exact#[(1,1),rfl,k _ #[] #[]]
 .exact#[(1,2),rfl,k _ #[] #[]]
 .exact#[(0,1),rfl,k _ #[] #[]]
 .exact#[(-1,2),rfl,k _ #[] #[]]
 .exact#[(-1,1),rfl,k _ #[] #[]]
theorem BR {s:Rat}(B:0<s) {r2:List (Int × Int)}(h:dX K) (Y:1<=r2.length) (p:Pt):∃a b c,a∈N3 s p (K++r2)/\b∈N3 s p (K++r2)/\c∈N3 s p (K++r2)/\d9 a b c≠0:=by
 obtain⟨a,b,r,rfl,J,_,_⟩:=h;obtain⟨z,t,ht⟩:∃z t,r++r2=z::t:=by
  cases U:r++r2 with
  |nil=>have:=congrArg List.length U;rw[Ke,Lm] at this;omega
  |cons z t=>exact#[z,t,rfl]
 have e:a::b::r++r2=a::b::z::t:=by rw[My,My,ht]
 rw[e,N3,N3,N3];refine#[p,_,_,JL ..,JH _ (JL ..),JH _ (JH _ (JL ..)),?_];have k:d9 p (p.1+(a.1:Rat)*s,p.2+(a.2:Rat)*s) (p.1+(a.1:Rat)*s+(b.1:Rat)*s,p.2+(a.2:Rat)*s+(b.2:Rat)*s)=s*s*((a.1*b.2 - a.2*b.1:Int):Rat):=by
  rw[OA,KU,KU];unfold d9;grind
 rw[k];intro z;rcases Lh.mp z with z | z
 .rcases Lh.mp z with z | z <;> (rw[z] at B;exact absurd B Li)
 .exact J (Ow.mp z)
end T
namespace DL
open PySem L2
def Dx {α:Type}(c:Bool) (l:List α):(F0 c l).length=l.length - 1+(if c then min 1 l.length else 0):=by
 unfold F0;cases c
 .show (l.zip (l.drop 1)).length=l.length - 1+0;rw[OH,Km,Oh (Nat.sub_le ..)];rfl
 .show (l.zip (l.drop 1++l.take 1)).length=l.length - 1+min 1 l.length;rw[OH,Ke,Km,Kx];exact Oh ∅
end DL
namespace T
open PySem L2 DL
theorem uV:∀{l m:vT_},l.map pt=m.map pt->l=m
 |[],[],_=>rfl
 |[],_::_,h=>by cases h
 |_::_,[],h=>by cases h
 |a::l,b::m,h=>by
  simp only[JS,NH] at h;rw[zY h.1,uV h.2]
def rq (fs:vO_) (U:PL l) (l3:3<=l.length) (J:l.length<=40) {a b c:Pt}(Z:a∈l) (hb:b∈l) (hc:c∈l) (h:d9 a b c≠0) :
  ∃fd:List Pt,aN [.lst (l.map pt)] fs=some (.tup (fd.map pt),fs)/\3<=fd.length/\fd.length<=41/\(∀q∈fd,q∈l)/\fd=G5 l:=by
 obtain⟨fd,e,h1,h2,h3⟩:=Gg fs U l3 J Z hb hc h;have Y:=Io fs U ∅ ∅;rw[e] at Y;have B:fH l = .tup (fd.map pt):=(Prod.mk.inj (Kb Y)).1.symm;refine#[fd,e,h1,h2,h3,?_];unfold fH at B;split at B
 .cases B
 .exact(uV (D.tup.inj B)).symm
theorem uA (s:Rat):∀(l:List (Int × Int)) (p q:Pt),(∀z∈l,aO z)->q∈N3 s p l->∃i j:Int,i.natAbs<=2*l.length/\j.natAbs<=2*l.length/\q=(p.1+(i:Rat)*s,p.2+(j:Rat)*s)
 |[],p,q,_,hq=>by cases hq
 |z::r,p,q,hz,hq=>by
  rw[N3] at hq;obtain⟨Y,J⟩:=hz z (JL ..);rcases xo.mp hq with rfl | hq
  .exact#[0,0,by simp,by simp,Kp (by grind) (by grind)]
  .obtain⟨i,j,hi,U,e⟩:=uA s r _ q (fun w B=>hz w (JH _ B)) hq;refine#[z.1+i,z.2+j,by rw[JO];omega,by rw[JO];omega,?_];rw[e,Oz,Oz];exact Kp (by grind) (by grind)
def AF {s:Rat}(Y:Sz 4 s) {l:List (Int × Int)}(B:PtS 5 p) (Z:l.length<=16) (hz:∀z∈l,aO z):∀q∈N3 s p l,PtS 16 q:=fun q U=>by
 obtain⟨i,j,hi,J,rfl⟩:=uA s l p q hz U;have m:∀i:Int,i.natAbs<=2*l.length->Sz 10 ((i:Rat)*s):=fun i hi=>(Sz.int (k:=6) (show i.natAbs<2 ^ 6 by omega) #[]).mul Y
 exact#[(B.x.add (m i hi)).mono #[],(B.y.add (m j J)).mono #[]]
structure ShT (fd:vT_):Prop where
 lo:3<=fd.length
 hi:fd.length<=41
 sz:∀p∈fd,PtS 16 p
 src:∃l0,fd=G5 l0/\1<=l0.length/\l0.length<=16/\∀p∈l0,PtS 16 p
def Gu {n:Nat}{f:FS}(h:Fd n f) (hn:n<2 ^ 25):∃fd f',V6 [.feed] (some f)=some (.tup (fd.map pt),some f')/\ShT fd/\Fd (n+40) f':=by
 refine gB_ fun G_ g_=>?_
 obtain⟨ps,f1,e1,l1,s1,h1⟩:=zJ 3 h ∅ (A2 0 3) (Q1 ..);obtain⟨a,b,c,rfl⟩:∃a b c,ps=[a,b,c]:=by
  match ps,l1 with
  |[a,b,c],_=>exact#[a,b,c,rfl]
 have sa:=s1 a (JL ..);have sb:=s1 b (JH _ (JL ..));have sc:=s1 c (JH _ (JH _ (JL ..)));obtain⟨r2,U,e2,a1,a2,h2⟩:=G7 3 h1;have tn:=mr a b c (some U) sa.ps sb.ps sc.ps #[];have st1:E4 1 (K6 [0] (G8 (a8 (Pw 3) a9)) L8 (d8 K4 (a8 (dV 1) a9))) #[[.v .feed,.no,.no,.no,.no,.no,.no,.no,.no],some f]=some (.next,#[[.v .feed,.own ([a,b,c].map pt),.no,.no,.no,.no,.no,.no,.no],some f1]):=by
  refine cU (s1:=#[[.v .feed,.no,.no,.no,.no,.no,.no,.no,.no],some f1]) ?_ (show 1<9 by decide);have rg:G8 (a8 (Pw 3) a9) #[[.v .feed,.no,.no,.no,.no,.no,.no,.no,.no],some f]=some (A2 0 3,#[[.v .feed,.no,.no,.no,.no,.no,.no,.no,.no],some f]):=Ak (m:=3) rfl #[];unfold K6;rw[rg,xl,iO (by rw[Q1];decide)];show (D3 (fun d=>some (.v d::[.v .feed])) L8 (d8 K4 (a8 (dV 1) a9)) (A2 0 3) (some f)).map _=_;rw[e1];rfl
 have Y:dB (c8 pEq (d8 A3 (a8 (dV 0) (a8 (Pw 3) a9))) (Pw 0)) #[[.v .feed,.own ([a,b,c].map pt),.no,.no,.no,.no,.no,.no,.no],some f1]=some (decide (r2=0),#[[.v .feed,.own ([a,b,c].map pt),.no,.no,.no,.no,.no,.no,.no],some U]):=B6 (d7 (J0 rfl e2) rfl (bp r2 0));have Z:dB (c8 r8 (d8 Q9 (a8 (Px 1 0) (a8 (Px 1 1) (a8 (Px 1 2) a9)))) (Pw 0)) #[[.v .feed,.own ([a,b,c].map pt),.no,.no,.no,.no,.no,.no,.no],some U]=some (!decide (w9 (d9 a b c)=0),#[[.v .feed,.own ([a,b,c].map pt),.no,.no,.no,.no,.no,.no,.no],some U]):=
  B6 (d7 (w8 (o6 (d7 rfl rfl rfl) (o6 (d7 rfl rfl rfl) (o6 (d7 rfl rfl rfl) rfl))) tn) rfl (Y3 _ 0))
 apply g_;by_cases c1:r2=0/\¬ w9 (d9 a b c)=0
 .obtain⟨c1,c2⟩:=c1;rw[JJ c1] at Y;rw[JM c2] at Z;obtain⟨fd,hu,u1,u2,u3,u4⟩:=rq (l:=[a,b,c]) (some U) (fun p hp=>(s1 p hp).mono #[]) (tx 3) (show 3<=40 by decide) (a:=a) (b:=b) (c:=c) (JL ..) (JH _ (JL ..)) (JH _ (JH _ (JL ..))) (fun z=>c2 ((kh _).mpr z));refine#[fd,U,y9 (s:=#[[.v .feed,.v (.lst ([a,b,c].map pt)),.no,.no,.no,.no,.no,.no,.no],some U]) ?_,#[u1,u2,fun p hp=>(s1 p (u3 p hp)).mono #[],[a,b,c],u4,by show 1<=3;decide,by show 3<=16;decide,fun p hp=>(s1 p hp).mono #[]],h2.mono ∅];show fQ aN LG LP LF A3 Q9 K4 #[[.v .feed,.no,.no,.no,.no,.no,.no,.no,.no],some f]=_;unfold fQ;rw[o8 st1];refine L0 ?_;rw[M9 (af Y Z)];exact C7 (cw (sl':=[.v .feed,.v (.lst ([a,b,c].map pt)),.no,.no,.no,.no,.no,.no,.no]) rfl hu)
 .have st2:∀R:DM,j6 (t7 (dB (c8 pEq (d8 A3 (a8 (dV 0) (a8 (Pw 3) a9))) (Pw 0))) (dB (c8 r8 (d8 Q9 (a8 (Px 1 0) (a8 (Px 1 1) (a8 (Px 1 2) a9)))) (Pw 0)))) R j7 #[[.v .feed,.own ([a,b,c].map pt),.no,.no,.no,.no,.no,.no,.no],some f1]=some (.next,#[[.v .feed,.own ([a,b,c].map pt),.no,.no,.no,.no,.no,.no,.no],some U]):=fun R=>by
   by_cases c2:r2=0
   .have c3:w9 (d9 a b c)=0:=Pq fun z=>c1 #[c2,z]
    rw[JJ c2] at Y;rw[JJ c3] at Z;exact D1 (af Y Z)
   .rw[JM c2] at Y;exact D1 (jk Y)
  obtain⟨K,f3,e3,sb3,h3⟩:=vB W8 h2 (by show _+8<_;omega);have l8:W8.length=8:=rfl;rw[l8] at h3;have kept:∃(B:List (Int × Int)) (f4:FS),dX B/\Fd (n+36) f4/\j3 (v7 (dB (c8 (i9 (fun i j=>decide (j<i))) (i5 (one i6) (a8 (dL 3) a9)) (Pw 1))) (dV 3) (j8 (j9 (a8 (Px 2 0) (a8 (c8 d6 (dL 2) (c8 n8 (Pw 2) (d8 A3 (a8 (dV 0) (a8 (Pw 5) a9))))) a9))))) (i0 3) #[[.v .feed,.own ([a,b,c].map pt),.v (.lst (W8.map zD)),.own (K.map zD),.no,.no,.no,.no,.no],some f3]=some (.next,#[[.v .feed,.own ([a,b,c].map pt),.v (.lst (W8.map zD)),.v (.lst (B.map zD)),.no,.no,.no,.no,.no],some f4]):=by
   have lt:dB (c8 (i9 (fun i j=>decide (j<i))) (i5 (one i6) (a8 (dL 3) a9)) (Pw 1)) #[[.v .feed,.own ([a,b,c].map pt),.v (.lst (W8.map zD)),.own (K.map zD),.no,.no,.no,.no,.no],some f3]=some (decide ((1:Int)<((K.map zD).length:Int)),#[[.v .feed,.own ([a,b,c].map pt),.v (.lst (W8.map zD)),.own (K.map zD),.no,.no,.no,.no,.no],some f3]):=B6 (d7 (aZ (p:=i6) rfl rfl) rfl rfl);by_cases hk:(1:Int)<((K.map zD).length:Int)
   .rw[JJ hk] at lt;exact#[K,f3,Iu sb3 (by rw[JR] at hk;omega),h3.mono ∅,B4 ((bR lt).trans rfl) rfl]
   .rw[JM hk] at lt;obtain⟨r4,f4,e4,b1,b2,h4⟩:=G7 5 h3;obtain⟨w,q,ok⟩:=xB b1 b2;exact#[[(1,0),w],f4,ok,h4.mono ∅,B4 ((eU lt).trans (ji (DF (d7 rfl rfl rfl) (d7 rfl (d7 rfl (J0 rfl e4) rfl) ((F8 _ _).trans q))))) rfl]
  obtain⟨B,f4,ok,h4,st5⟩:=kept;obtain⟨r5,f5,e5,i1,i2,h5⟩:=G7 5 h4;obtain⟨r6,J,e6,j1,j2,h6⟩:=G7 3 h5;have bd:Bd 4 (1+r6):=show (1+r6).natAbs<2 ^ 4 by omega
  have ef:=Z5 (1+r5) (1+r6) (some J) ∅ bd #[];have ss:Sz 4 (Rat.divInt (1+r5) (1+r6)):=Sz.of_divInt ∅ ∅ ∅;have sp:(0:Rat)<Rat.divInt (1+r5) (1+r6):=by
   rw[ND,Rat.div_def];exact Kz (MJ.mpr ∅) (Rat.inv_pos.mpr (MJ.mpr ∅))
  generalize Rat.divInt (1+r5) (1+r6)=sh at *;have ok':=ok;obtain⟨w1,w2,kr,hK,_,ksm,kl⟩:=ok';have kneg:∀z∈B.map (fun z:Int × Int=>(0 - z.1,0 - z.2)),aO z:=fun z hz=>by
   obtain⟨y,hy,rfl⟩:=KR.mp hz;have:=ksm y hy;unfold aO at this ⊢;simp only;omega
  have zsm:∀z∈B++B.map (fun z:Int × Int=>(0 - z.1,0 - z.2)),aO z:=fun z hz=>by
   rcases JP.mp hz with hz | hz
   .exact ksm z hz
   .exact kneg z hz
  have lK:2<=B.length:=by rw[hK];simp
  have lz:(B++B.map (fun z:Int × Int=>(0 - z.1,0 - z.2))).length=2*B.length:=by rw[Ke,JR];omega
  obtain⟨p',y7,y8,lp⟩:=ui (.own ([a,b,c].map pt)) (.v (.lst (W8.map zD))) (.v (.lst (B.map zD))) sh ss J (B++B.map (fun z:Int × Int=>(0 - z.1,0 - z.2))) a 5 [] .no .no sa zsm (by rw[lz];omega) (by rw[lz,Lm];omega);rw[Lf] at lp;have wsz:∀q∈N3 sh a (B++B.map (fun z:Int × Int=>(0 - z.1,0 - z.2))),PtS 16 q:=AF ss sa (by rw[lz];omega) zsm;have wl:=wd sh (B++B.map (fun z:Int × Int=>(0 - z.1,0 - z.2))) a;rw[lz] at wl;obtain⟨qa,qb,qc,ma,mb,mc,off⟩:=BR sp (r2:=B.map (fun z:Int × Int=>(0 - z.1,0 - z.2))) ok (by rw[JR];omega) a;obtain⟨fd,hu,u1,u2,u3,u4⟩:=rq (some J) (fun q hq=>(wsz q hq).mono #[]) ∅ ∅ ma mb mc off;have zmap:(B++B.map (fun z:Int × Int=>(0 - z.1,0 - z.2))).map zD=B.map zD++(B.map (fun z:Int × Int=>(0 - z.1,0 - z.2))).map zD:=List.map_append;generalize N3 sh a (B++B.map (fun z:Int × Int=>(0 - z.1,0 - z.2)))=wk at *;refine#[fd,J,y9 (s:=Q8 (.own ([a,b,c].map pt)) (.v (.lst (W8.map zD))) (.v (.lst (B.map zD))) sh p' (.v (.lst (wk.map pt))) y7 y8 J) ?_,#[u1,u2,fun p hp=>wsz p (u3 p hp),wk,u4,by omega,by omega,wsz],h6.mono ∅];show fQ aN LG LP LF A3 Q9 K4 #[[.v .feed,.no,.no,.no,.no,.no,.no,.no,.no],some f]=_;unfold fQ;rw[o8 st1,o8 (st2 _),
   o8 (s1:=#[[.v .feed,.own ([a,b,c].map pt),.own (W8.map zD),.no,.no,.no,.no,.no,.no],some U]) (cU (s1:=#[[.v .feed,.own ([a,b,c].map pt),.no,.no,.no,.no,.no,.no,.no],some U]) rfl (show 2<9 by decide)),
   o8 (s1:=#[[.v .feed,.own ([a,b,c].map pt),.v (.lst (W8.map zD)),.own (K.map zD),.no,.no,.no,.no,.no],some f3]) (cU (s1:=#[[.v .feed,.own ([a,b,c].map pt),.v (.lst (W8.map zD)),.no,.no,.no,.no,.no,.no],some f3]) (by
    unfold K6;rw[show dR (dV 2) #[[.v .feed,.own ([a,b,c].map pt),.own (W8.map zD),.no,.no,.no,.no,.no,.no],some U]=some (W8.map zD,#[[.v .feed,.own ([a,b,c].map pt),.v (.lst (W8.map zD)),.no,.no,.no,.no,.no,.no],some U]) from rfl,xl,iO (show (W8.map zD).length<=sizeLine by decide)];show (D3 (fun d=>some (.v d::[.v .feed])) _ (dV 0) (W8.map zD) (some U)).map _=_;rw[e3];rfl) (show 3<9 by decide)),o8 st5,
   o8 (s1:=#[[.v .feed,.own ([a,b,c].map pt),.v (.lst (W8.map zD)),.v (.lst (B.map zD)),.v (fr sh),.no,.no,.no,.no],some J]) (B4 (cw (o6 (d7 rfl (J0 rfl e5) rfl) (o6 (d7 rfl (J0 rfl e6) rfl) rfl)) ef) rfl),
   o8 (s1:=Q8 (.own ([a,b,c].map pt)) (.v (.lst (W8.map zD))) (.v (.lst (B.map zD))) sh a .no .no .no J) (B4 (d7 rfl rfl rfl) rfl),
   o8 (s1:=Q8 (.own ([a,b,c].map pt)) (.v (.lst (W8.map zD))) (.v (.lst (B.map zD))) sh a (.own []) .no .no J) (cU (s1:=Q8 (.own ([a,b,c].map pt)) (.v (.lst (W8.map zD))) (.v (.lst (B.map zD))) sh a .no .no .no J) rfl (show 6<9 by decide))]
  have neg:=og (Q8 (.own ([a,b,c].map pt)) (.v (.lst (W8.map zD))) (.v (.lst (B.map zD))) sh a (.own []) .no .no J).sl (some J) B;have kz:(B.map zD).length<=sizeLine:=JN (by rw[JR];exact kl) (show 8<=sizeLine by decide);rw[o8 ((aK (ds:=(B++B.map (fun z:Int × Int=>(0 - z.1,0 - z.2))).map zD) (s1:=Q8 (.own ([a,b,c].map pt)) (.v (.lst (W8.map zD))) (.v (.lst (B.map zD))) sh a (.own []) .no .no J) (by
   rw[zmap];exact ji (ic rfl (ji (Hm (ds:=B.map zD) (s1:=Q8 (.own ([a,b,c].map pt)) (.v (.lst (W8.map zD))) (.v (.lst (B.map zD))) sh a (.own []) .no .no J) rfl kz neg)) (iO (JN (by rw[JR,JR,JR];omega:_<=16) #[]))))).trans lp)]
  exact C7 (cw (sl':=(Q8 (.own ([a,b,c].map pt)) (.v (.lst (W8.map zD))) (.v (.lst (B.map zD))) sh p' (.v (.lst (wk.map pt))) y7 y8 J).sl) rfl hu)
def tk (l:vT_) (i:Nat):Pt:=(l[i % l.length]?).getD (0,0)
def nr (h:0<l.length):l[i % l.length]? = some (tk l i):=by
 unfold tk;rw[Kf (MI _ h)];rfl
def cW (h:i<l.length):l[i]? = some (tk l i):=by
 have:=nr (l:=l) (i:=i) ∅
 rwa [Nat.mod_eq_of_lt h] at this
def iK (i:Nat) (h:0<l.length):tk l i∈l:=KC (nr (i:=i) h)
def ah (i:Nat):tk l (i % l.length)=tk l i:=by unfold tk;rw[Nat.mod_mod]
def C4 (d:D) (a:Str):Bool:=match d with
 |.str x=>decide (x=a)
 |_=>false
def gu {a:Str}(h:D0 d=true) (B:thing d=true) (J:D0 (.str a)=true):pEq d (.str a)=some (.bl (C4 d a)):=by
 simp only[pEq,h,J,Lg,Kh];cases d with
 |feed=>cases B
 |scr _=>cases B
 |fn _=>cases B
 |exc _ _=>cases B
 |_=>simp[C4,D.py,PyData.eqv,MG,h,J]
def Th.part {b k:Nat}(h:Th b k (.tup ds)):∀d∈ds,Th b k d:=fun d B=>by
 cases k with
 |zero=>unfold Th at h;exact h.elim
 |succ k=>unfold Th at h;exact Th.mono (tx _) d ∅ (Ths.mem h B)
end T
namespace DL
open PySem L2
def Hw (ds:vD_):PyData.eqv (D.py (.lst ds)) (D.py (.lst []))=decide (ds=[]):=by
 cases ds with
 |nil=>rfl
 |cons d r=>simp[D.py,D.pys,PyData.eqv,PyData.eqvAll]
def jA {b k:Nat}(ds:vD_) (h:∀d∈ds,Th b k d) (B:b<=1920) (Y:k+1<=64):r8 (.lst ds) (.lst [])=some (.bl (!decide (ds=[]))):=by
 have t:Th b (k+1) (.lst ds):=by unfold Th;exact Ths.of h
 have U:=(Th.ok B _ t).eq Y;have J:D0 (.lst [])=true:=by decide +kernel
 have:r8 (.lst ds) (.lst [])=if D0 (.lst ds)&&D0 (.lst []) then some (.bl (!PyData.eqv (D.py (.lst ds)) (D.py (.lst [])))) else none:=rfl
 rw[this,U,J,Hw];rfl
end DL
namespace T
open PySem L2 DL
def cr (a b:Pt):Rat:=a.1*b.2 - a.2*b.1
def eR {i:Nat}{f:DA}{s s1 s2:DS}{ds:vD_}(h:f s=some (ds,s1)) (hi:i<s1.sl.length) (e:{ s1 with sl:=s1.sl.set i (.own ds) }=s2):E4 i f s=some (.next,s2):=by
 unfold E4;rw[h,xl,iO hi,<-e]
def X7 {f:DA}{s:DS}(h:f s=some (ds,s1)) (hz:ds.length<=sizeLine):j9 f s=some (ds,s1):=by
 unfold j9;rw[h,xl,iO hz]
def K2 {p q:DE}{s:DS}{x:D}{w:Bool}(h1:p s=some (x,s1)) (h2:q s1=some (y,s2)) (B:r8 x y=some (.bl w)):dB (c8 r8 p q) s=some (w,s2):=by
 unfold dB;rw[d7 h1 h2 B];rfl
def dk {a b:DT}{s:DS}(h1:a s=some (false,s1)) (h2:b s1=some (false,s2)):o7 a b s=some (false,s2):=by
 unfold o7;rw[h1,xl];exact h2
def B7 {p:List D->Option D}{a:DA}{s:DS}{xs:vD_}(B:a s=some (xs,s1)) (J:p xs=some d):i5 p a s=some (d,s1):=by
 unfold i5;rw[B,xl,J];rfl
def T5 {f:DA}{s:DS}(h:f s=some (ds,s1)):j8 f s=some (.lst ds,s1):=by
 unfold j8;rw[h];rfl
theorem tQ (x:Rat):(0<x/\w9 x=1)\/(x<0/\w9 x = -1)\/(x=0/\w9 x=0):=by
 unfold w9;by_cases h:0<x
 .rw[iO h];exact .inl #[h,rfl]
 .rw[iR h];by_cases h2:x<0
  .rw[iO h2];exact .inr (.inl #[h2,rfl])
  .rw[iR h2];exact .inr (.inr #[by grind,rfl])
abbrev T1:c9:=wF jW
def qL {fd:vT_}(J:0<fd.length) (q:Pt × Pt):q∈F0 true fd↔∃k,q=(tk fd k,tk fd (k+1)):=by
 have l2:(fd.drop 1++fd.take 1).length=fd.length:=by rw[Ke,Km,Kx];omega
 have U:∀i,i<fd.length->(fd.drop 1++fd.take 1)[i]? = some (tk fd (i+1)):=fun i hi=>by
  by_cases c:i+1<fd.length
  .rw[Lq (by rw[Km];omega),List.getElem?_drop,Mg 1 i,cW c]
  .have Z:i+1=fd.length:=by omega
   rw[LM (by rw[Km];omega),Km,show i - (fd.length - 1)=0 by omega,NP #[],cW J];rw[<-ah (i+1),Z,Nat.mod_self]
 unfold F0;simp only[Kh];constructor
 .intro h;obtain⟨i,hi⟩:=LY h;have B:=(Kr.mp hi).1;rw[OH,l2,Nat.min_self] at B;rw[Nt] at hi;refine#[i,Kp ?_ ?_]
  .have:=hi.1;rw[cW B] at this;exact(Kb this).symm
  .have:=hi.2;rw[U i B] at this;exact(Kb this).symm
 .rintro⟨k,rfl⟩;have Y:=MI k J;refine KC (i:=k % fd.length) (Nt.mpr #[nr J,?_]);rw[U _ Y];show some (tk fd (k % fd.length+1))=some (tk fd (k+1));rw[<-ah (k % fd.length+1),Nat.mod_add_mod,ah]
def gM {t:D->DS->Option DS}{b:DM}{x:D}{r:vD_}{s:DS}(h1:t d s=some s1) (h2:b s1=some (.ret x,s2)):C6 t b (d::r) s=some (.ret x,s2):=by simp[C6,h1,h2]
def pq (q:Pt × Pt):D:=.tup [pt q.1,pt q.2]
def Jw (K:vT_):(F0 true (K.map pt)).map lR=(F0 true K).map pq:=by
 rw[Hn,NJ];rfl
def vo (K:vT_) (fs:vO_) (B:K.length<=1000):T1 [.tup (K.map pt)] fs=some (.lst ((F0 true K).map pq),fs):=by
 have e:=xK (K.map pt) true fs (by rw[JR];exact JN (by omega:K.length+1<=1001) #[]);rw[Jw] at e;exact y9 (s:=#[[.v (.tup (K.map pt))],fs]) (C7 (w8 rfl e))
def T4 (A:vT_) (p:Pt):Bool:=(F0 true A).all fun q=>!decide (w9 (d9 q.1 q.2 p) = -1)
abbrev aA:c9:=pW R7 T1
theorem tJ {k:Nat}(J:Sl) (fs:vO_) (U:Ps k p) (Y:k<=2000):∀(qs:List (Pt × Pt)) (x2 x3:Sl),(∀q∈qs,Ps k q.1/\Ps k q.2)->∃y2 y3,C6 (A0 2 (p9 (i0 2) (p9 (i0 3) A1))) (jD R7 T1) (qs.map pq) #[[J,.v (pt p),x2,x3],fs]=some (if qs.all (fun q=>!decide (w9 (d9 q.1 q.2 p) = -1)) then .next else .ret (.bl false),#[[J,.v (pt p),y2,y3],fs])
 |[],x2,x3,_=>#[x2,x3,rfl]
 |q::r,x2,x3,h=>by
  obtain⟨h1,h2⟩:=h q (JL ..);have t:=rC q.1 q.2 p fs h1 h2 U Y;have c:dB (c8 pEq (d8 R7 (a8 (dV 2) (a8 (dV 3) (a8 (dV 1) a9)))) (j4 w4 (Pw 1))) #[[J,.v (pt p),.v (pt q.1),.v (pt q.2)],fs]=some (decide (w9 (d9 q.1 q.2 p) = -1),#[[J,.v (pt p),.v (pt q.1),.v (pt q.2)],fs]):=B6 (d7 (w8 rfl t) rfl (bp _ (-1)));rw[JS,List.all_cons];by_cases n:w9 (d9 q.1 q.2 p) = -1
  .rw[JJ n] at c ⊢;refine#[.v (pt q.1),.v (pt q.2),?_];have B:jD R7 T1 #[[J,.v (pt p),.v (pt q.1),.v (pt q.2)],fs]=some (.ret (.bl false),#[[J,.v (pt p),.v (pt q.1),.v (pt q.2)],fs]):=(M9 c).trans (C7 rfl);rw[gM (s1:=#[[J,.v (pt p),.v (pt q.1),.v (pt q.2)],fs]) rfl B];rfl
  .rw[JM n] at c ⊢;obtain⟨y2,y3,e⟩:=tJ J fs U Y r (.v (pt q.1)) (.v (pt q.2)) fun z Z=>h z (JH _ Z)
   refine#[y2,y3,?_];rw[W9 (s1:=#[[J,.v (pt p),.v (pt q.1),.v (pt q.2)],fs]) rfl (D1 c),e];rfl
def HA {A:vT_}{k:Nat}(fs:vO_) (Z:Ps k p) (J:∀z∈A,Ps k z) (hk:k<=2000) (U:A.length<=1000):aA [.tup (A.map pt),pt p] fs=some (.bl (T4 A p),fs):=by
 obtain⟨Y,y3,e⟩:=tJ (.v (.tup (A.map pt))) fs Z hk (F0 true A) .no .no fun q B=>#[J _ (uO B).1,J _ (uO B).2]
 refine y9 (s:=#[[.v (.tup (A.map pt)),.v (pt p),Y,y3],fs]) ?_;show gP R7 T1 #[[.v (.tup (A.map pt)),.v (pt p),.no,.no],fs]=_;unfold gP T4;have f:=(aK (b:=jD R7 T1) (t:=A0 2 (p9 (i0 2) (p9 (i0 3) A1))) (f:=d8 T1 (a8 (dV 0) a9)) (s:=#[[.v (.tup (A.map pt)),.v (pt p),.no,.no],fs]) (s1:=#[[.v (.tup (A.map pt)),.v (pt p),.no,.no],fs]) (ds:=(F0 true A).map pq) (w8 rfl (vo A fs U))).trans e;cases c:(F0 true A).all fun q=>!decide (w9 (d9 q.1 q.2 p) = -1) with
 |true=>
  rw[c,iO rfl] at f;rw[o8 f];exact C7 rfl
 |false=>
  rw[c,iR JQ] at f;exact L0 f
def i7 (A:vT_):D:=.tup (A.map pt)
def aC (A:vT_) (i:Nat) (B:vT_):Bool:=B.all fun z=>decide (w9 (d9 (tk A i) (tk A (i+1)) z) = -1)
abbrev X8:c9:=vZ R7 T1
theorem qK {u v:Pt}{k:Nat}(J x1 U:Sl) (fs:vO_) (Y:Ps k u) (Z:Ps k v) (hk:k<=2000):∀(B:vT_) (x4:Sl),(∀z∈B,Ps k z)->∃y4,C6 (i0 4) (iz R7 T1) (B.map pt) #[[J,x1,U,.v (pq (u,v)),x4],fs]=some (if B.all (fun z=>decide (w9 (d9 u v z) = -1)) then .next else .ret (.bl false),#[[J,x1,U,.v (pq (u,v)),y4],fs])
 |[],x4,_=>#[x4,rfl]
 |z::r,x4,h=>by
  have t:=rC u v z fs Y Z (h z (JL ..)) hk;have c:dB (c8 r8 (d8 R7 (a8 (Px 3 0) (a8 (Px 3 1) (a8 (dV 4) a9)))) (j4 w4 (Pw 1))) #[[J,x1,U,.v (pq (u,v)),.v (pt z)],fs]=some (!decide (w9 (d9 u v z) = -1),#[[J,x1,U,.v (pq (u,v)),.v (pt z)],fs]):=B6 (d7 (w8 (k9 (d7 (x:=pq (u,v)) rfl rfl rfl) (k9 (d7 (x:=pq (u,v)) rfl rfl rfl) rfl)) t) rfl (Y3 _ (-1)));rw[JS,List.all_cons];by_cases n:w9 (d9 u v z) = -1
  .rw[JJ n] at c ⊢;obtain⟨y4,e⟩:=qK J x1 U fs Y Z hk r (.v (pt z)) fun z hz=>h z (JH _ hz)
   refine#[y4,?_];rw[W9 (s1:=#[[J,x1,U,.v (pq (u,v)),.v (pt z)],fs]) rfl (D1 c),e];rfl
  .rw[JM n] at c ⊢;refine#[.v (pt z),?_];have B:iz R7 T1 #[[J,x1,U,.v (pq (u,v)),.v (pt z)],fs]=some (.ret (.bl false),#[[J,x1,U,.v (pq (u,v)),.v (pt z)],fs]):=(M9 c).trans (C7 rfl);rw[gM (s1:=#[[J,x1,U,.v (pq (u,v)),.v (pt z)],fs]) rfl B];rfl
def DP {A:vT_}(h:i<A.length):(F0 true A)[i]? = some (tk A i,tk A (i+1)):=by
 have J:i<(F0 true A).length:=by rw[Dx,iO rfl];omega
 have l2:(A.drop 1++A.take 1).length=A.length:=by rw[Ke,Km,Kx];omega
 unfold F0;rw[iO rfl,Nt];refine#[cW h,?_];by_cases c:i+1<A.length
 .rw[Lq (by rw[Km];omega),List.getElem?_drop,Mg 1 i,cW c]
 .have B:i+1=A.length:=by omega
  rw[LM (by rw[Km];omega),Km,show i - (A.length - 1)=0 by omega,NP #[],cW ∅];rw[<-ah (i+1),B,Nat.mod_self]
def Hx {A B:vT_}{k:Nat}(fs:vO_) (J:∀z∈A,Ps k z) (Y:∀z∈B,Ps k z) (hk:k<=2000) (hi:i<A.length) (hl:A.length<=1000):X8 [i7 A,.int (i:Int),i7 B] fs=some (.bl (aC A i B),fs):=by
 have U:0<A.length:=by omega
 obtain⟨y4,e⟩:=qK (.v (i7 A)) (.v (.int (i:Int))) (.v (i7 B)) fs (J _ (iK (l:=A) i U)) (J _ (iK (l:=A) (i+1) U)) hk B .no Y;refine y9 (s:=#[[.v (i7 A),.v (.int (i:Int)),.v (i7 B),.v (pq (tk A i,tk A (i+1))),y4],fs]) ?_;show gL R7 T1 #[[.v (i7 A),.v (.int (i:Int)),.v (i7 B),.no,.no],fs]=_;unfold gL aC;have Z:d6 (.lst ((F0 true A).map pq)) (.int (i:Int))=some (pq (tk A i,tk A (i+1))):=(F8 _ _).trans (sZ (by rw[KI,DP hi];rfl));rw[o8 (s1:=#[[.v (i7 A),.v (.int (i:Int)),.v (i7 B),.v (pq (tk A i,tk A (i+1))),.no],fs]) (B4 (d7 (w8 rfl (vo A fs hl)) rfl Z) rfl)];have f:=(jQ (b:=iz R7 T1) (t:=i0 4) (f:=dV 2) (s:=#[[.v (i7 A),.v (.int (i:Int)),.v (i7 B),.v (pq (tk A i,tk A (i+1))),.no],fs]) (s1:=#[[.v (i7 A),.v (.int (i:Int)),.v (i7 B),.v (pq (tk A i,tk A (i+1))),.no],fs]) (ds:=B.map pt) rfl).trans e;cases c:B.all (fun z=>decide (w9 (d9 (tk A i) (tk A (i+1)) z) = -1)) with
 |true=>
  rw[c,iO rfl] at f;rw[o8 f];exact C7 rfl
 |false=>
  rw[c,iR JQ] at f;exact L0 f
def Au (lo:Nat) (n:Nat):A2 (lo:Int) (n+1) = .int (lo:Int)::A2 ((lo+1:Nat):Int) n:=by
 unfold A2;rw[OT,JS,NJ];rw[NH];refine#[by simp,List.map_congr_left fun i _=>?_];show D.int ((lo:Int)+((i+1:Nat):Int))=D.int (((lo+1:Nat):Int)+(i:Int));congr 1;omega
def A7 {a b:DM}{s:DS}{r:Option (Fl × DS)}(h:a s=some (.next,s1)) (k:b s1=r):f9 a b s=r:=(o8 h).trans k
def N5 {p:D->Option D}{a:DE}{s:DS}{x z:D}(h1:a s=some (x,s1)) (B:p x=some z):j4 p a s=some (z,s1):=by
 simp[j4,h1,B]
def bJ {a b:DE}{s:DS}{r:Option (D × DS)}(h1:a s=some (.bl true,s1)) (h2:b s1=r):w6 a b s=r:=by
 unfold w6;rw[B6 h1];exact h2
def FJ {p:D->D->Option D}{fa fb fc:DE}{s:DS}{x z w:D}(h1:fa s=some (x,s)) (h2:fb s=some (y,s)) (U:p x y=some (.bl true)) (J:fc s=some (z,s)) (B:p' y z=some w):bD p p' fa fb fc s=some (w,s):=by
 unfold bD;rw[h1,xl,h2,xl,U,xl];show ((fc s).bind fun w=>(p' y w.1).map fun d=>(d,w.2))=_;rw[J,xl,B];rfl
def iX (i:Int):r8 (.int i) (.int i)=some (.bl false):=by rw[Y3,JJ rfl];rfl
def Fy {x:D}{fs:vO_}(h:dL i #[sl,fs]=some (.tup [x,y],#[sl,fs])):o7 (t9 (l7 (j4 (C5 "tuple") (dL i)))) (dB (c8 r8 (i5 (one i6) (a8 (dL i) a9)) (Pw 2))) #[sl,fs]=some (false,#[sl,fs]):=
 dk (E8 (b:=true) (D7 (N5 h rfl))) (K2 (B7 (k9 h rfl) rfl) rfl rfl)
abbrev Y4:c9:=sQ bN
def vD {is:List Int}(h:0<is.length):one bI [.lst (is.map D.int)]=some (.int (P4 is)):=by
 show ((aH (is.map D.int)).bind fun is=>if 0<is.length then some (D.int (P4 is)) else none)=_;rw[rm,xl,iO h]
def qD {n:Nat}(h:ds.length=n):one i6 [.tup ds]=some (.int (n:Int)):=by
 show some (D.int (ds.length:Int))=_;rw[h]
def fS {a b:DE}{s:DS}(h1:a s=some (.bl false,s1)):w6 a b s=some (.bl false,s1):=by
 unfold w6;rw[B6 h1];rfl
def GW {p:D->D->Option D}{fa fb fc:DE}{s:DS}{x:D}(h1:fa s=some (x,s)) (h2:fb s=some (y,s)) (B:p x y=some (.bl false)):bD p p' fa fb fc s=some (.bl false,s):=by
 unfold bD;rw[h1,xl,h2,xl,B,xl]
def N0 (n:Nat):D->Bool
 |.int i=>decide (0<=i)&&decide (i<(n:Int))
 |_=>false
def jR {n:Nat}(h:N0 n d=true):∃i:Nat,d = .int (i:Int)/\i<n:=by
 cases d with
 |int i=>
  simp only[N0,Ki,MB] at h;exact#[i.toNat,by rw[Int.toNat_of_nonneg h.1],by omega]
 |_=>cases h
def Fg {A:vT_}(h:thing d=true) (fs:vO_):Y4 [i7 A,d] fs=some (.bl (N0 A.length d),fs):=by
 have e:bN [d] fs=some (.bl (whole d),fs):=pz d fs h;have l:one i6 [i7 A]=some (.int (A.length:Int)):=by
  show some (D.int ((A.map pt).length:Int))=_;rw[JR]
 generalize i7 A=S at *;refine y9 (s:=#[[.v S,.v d],fs]) (C7 ?_);cases d with
 |int i=>
  refine bJ (w8 rfl e) ?_;by_cases B:0<=i
  .have J:i9 (fun i j=>decide (i<=j)) (.int 0) (.int i)=some (.bl true):=by
    show some (D.bl (decide ((0:Int)<=i)))=_;rw[JJ B]
   refine(FJ rfl rfl J (B7 rfl l) (w:=.bl (decide (i<(A.length:Int)))) rfl).trans ?_;simp only[N0,JJ B,KS];rfl
  .have J:i9 (fun i j=>decide (i<=j)) (.int 0) (.int i)=some (.bl false):=by
    show some (D.bl (decide ((0:Int)<=i)))=_;rw[JM B]
   refine(GW rfl rfl J).trans ?_;simp only[N0,JM B,NM];rfl
 |feed=>cases h
 |scr _=>cases h
 |fn _=>cases h
 |exc _ _=>cases h
 |_=>exact fS (w8 rfl e)
def Y0 (A:vT_) (d:D) (B:vT_):Bool:=N0 A.length d&&match d with
 |.int i=>aC A i.toNat B
 |_=>false
def T8:D->Bool
 |.tup [_,_]=>true
 |_=>false
def cX (h:T8 d=true):∃x y,d = .tup [x,y]:=by
 cases d with
 |tup ds=>
  match ds,h with
  |[x,y],_=>exact#[x,y,rfl]
 |_=>cases h
def Ht {fs:vO_}(B:thing d=true) (U:T8 d=false) (h:dL i #[sl,fs]=some (d,#[sl,fs])):o7 (t9 (l7 (j4 (C5 "tuple") (dL i)))) (dB (c8 r8 (i5 (one i6) (a8 (dL i) a9)) (Pw 2))) #[sl,fs]=some (true,#[sl,fs]):=by
 cases d with
 |tup ds=>
  have J:r8 (.int (ds.length:Int)) (.int 2)=some (.bl true):=by
   rw[Y3,JM];rfl;intro q;have:ds.length=2:=by omega
   match ds,this with
   |[x,y],_=>cases U
  exact U4 (E8 (b:=true) (D7 (N5 h rfl))) (K2 (B7 (k9 h rfl) rfl) rfl J)
 |feed=>cases B
 |scr _=>cases B
 |fn _=>cases B
 |exc _ _=>cases B
 |_=>exact au (E8 (b:=false) (D7 (N5 h rfl)))
def dE {a:Str}(h:G6 a):D0 (.str a)=true:=(Ok.str (vh h)).eq #[]
def gI {b k:Nat}(h:Th b k d) (B:b<=1900) (J:k<=60):D0 d=true:=(Th.ok ∅ _ h).eq ∅
def Ja {fs:vO_}(J:thing d=true) (Y:∀w y,d ≠ .tup [.str w,y]) (B:∀x y,d = .tup [x,y]->thing x=true) (h:dL 2 #[sl,fs]=some (d,#[sl,fs])) :
  o7 (t9 (l7 (j4 (C5 "tuple") (dL 2)))) (o7 (dB (c8 r8 (i5 (one i6) (a8 (dL 2) a9)) (Pw 2))) (t9 (l7 (j4 (C5 "str") (Px 2 0))))) #[sl,fs]=some (true,#[sl,fs]):=by
 by_cases c:T8 d=true
 .obtain⟨x,y,rfl⟩:=cX c;have B:=B x y rfl;refine U4 (E8 (b:=true) (D7 (N5 h rfl))) (U4 (K2 (B7 (k9 h rfl) rfl) rfl (iX 2)) (E8 (b:=false) (D7 (N5 (d7 h rfl rfl) ?_))));cases x with
  |str w=>exact absurd rfl (Y w y)
  |feed=>cases B
  |scr _=>cases B
  |fn _=>cases B
  |exc _ _=>cases B
  |_=>rfl
 .rw[Kn] at c;cases d with
  |tup ds=>
   have U:r8 (.int (ds.length:Int)) (.int 2)=some (.bl true):=by
    rw[Y3,JM];rfl;intro q;have:ds.length=2:=by omega
    match ds,this with
    |[x,y],_=>cases c
   exact U4 (E8 (b:=true) (D7 (N5 h rfl))) (au (K2 (B7 (k9 h rfl) rfl) rfl U))
  |feed=>cases J
  |scr _=>cases J
  |fn _=>cases J
  |exc _ _=>cases J
  |_=>exact au (E8 (b:=false) (D7 (N5 h rfl)))
def yk {w:Str}{fs:vO_}(h:dL 2 #[sl,fs]=some (.tup [.str w,y],#[sl,fs])) :
  o7 (t9 (l7 (j4 (C5 "tuple") (dL 2)))) (o7 (dB (c8 r8 (i5 (one i6) (a8 (dL 2) a9)) (Pw 2))) (t9 (l7 (j4 (C5 "str") (Px 2 0))))) #[sl,fs]=some (false,#[sl,fs]):=
 dk (E8 (b:=true) (D7 (N5 h rfl))) (dk (K2 (B7 (k9 h rfl) rfl) rfl (iX 2)) (E8 (b:=true) (D7 (N5 (d7 h rfl rfl) rfl))))
def Jp (d:D):(∃w y,d = .tup [.str w,y])\/∀w y,d ≠ .tup [.str w,y]:=by
 by_cases h:∃w y,d = .tup [.str w,y]
 .exact .inl h
 .exact .inr fun w y e=>h #[w,y,e]
def mV {n:Nat}{b:DM}{fs:vO_}{s:DS}(h:b #[ds.map .v++List.replicate (n - ds.length) .no,fs]=some (.ret d,s)):V5 n b ds fs=some (.inl d,s.fs):=by simp[V5,h]
def cQ {n:Nat}{b:DM}{es:vD_}{fs:vO_}{s:DS}(h:b #[ds.map .v++List.replicate (n - ds.length) .no,fs]=some (.thr c es,s)):V5 n b ds fs=some (.inr (c,es),s.fs):=by simp[V5,h]
def yX {t:DA}{s:DS}(h:t s=some (ds,s1)):V3 c t s=some (.thr c ds,s1):=by simp[V3,h]
def bB {a b:DM}{s:DS}(h:a s=some (.thr c ds,s1)):f9 a b s=some (.thr c ds,s1):=by simp[f9,h,B1]
def ko {m:F6}{f:DA}{s:DS}{xs:vD_}{fs:vO_}{r:Rx}(h1:f s=some (xs,#[sl,fs])) (h2:m xs fs=some (r,fs')):aV m f s=some (r,#[sl,fs']):=by simp[aV,h1,h2]
def cB {c:DT}{w:Str}{t:DA}{b:DM}{s:DS}(h:c s=some (true,s1)) (k:t s1=some (ds,s2)):j6 c (V3 w t) b s=some (.thr w ds,s2):=(M9 h).trans (yX k)
def qN {t:D->DS->Option DS}{b:DM}{es:vD_}{r:vD_}{s:DS}(h1:t d s=some s1) (h2:b s1=some (.thr c es,s2)):C6 t b (d::r) s=some (.thr c es,s2):=by simp[C6,h1,h2]
def wm (w:Str) (k:Nat):Fl:=.thr "NoPaper" [.str w,.int (k:Int)]
def lZ:Option (Str × Nat)->Fl
 |none=>.next
 |some (w,k)=>wm w k
def eA:Option (Str × Nat)->Rx
 |none=>.inl (.bl true)
 |some (w,k)=>.inr ("NoPaper",[.str w,.int (k:Int)])
def bq:D->Bool
 |.tup _=>true
 |_=>false
def tL (h:thing y=true):C5 "tuple" y=some (.bl (bq y)):=by
 cases y with
 |feed=>cases h
 |scr _=>cases h
 |fn _=>cases h
 |exc _ _=>cases h
 |_=>rfl
def gR:Option (Str × Nat)->Fl
 |none=>.ret (.bl true)
 |some (w,k)=>wm w k
def qh {m:F6}{t:DA}{fs:vO_}{s:DS}{xs:vD_}{o:Option (Str × Nat)}(h1:t s=some (xs,#[sl,fs])) (h2:m xs fs=some (eA o,fs')):fk (aV m t) s=some (gR o,#[sl,fs']):=by
 unfold fk;rw[ko h1 h2];cases o with
 |none=>rfl
 |some B=>rfl
def vH {n:Nat}{b:DM}{fs:vO_}{o:Option (Str × Nat)}{s:DS}(h:b #[ds.map .v++List.replicate (n - ds.length) .no,fs]=some (gR o,s)):V5 n b ds fs=some (eA o,s.fs):=by
 cases o with
 |none=>exact mV h
 |some B=>exact cQ h
def JD {a c:DM}{s:DS}{o:Option (Str × Nat)}(h:a s=some (gR o,s1)):f9 a c s=some (gR o,s1):=by
 cases o with
 |none=>exact L0 h
 |some B=>exact bB h
structure SkA (A:vT_):Prop where
 lo:3<=A.length
 hi:A.length<=48
 sz:∀z∈A,Ps 1900 z
def md {a:DE}{s:DS}{x:D}(h1:a s=some (x,s1)):i4 (a8 a a9) s=some (.tup [x],s1):=by
 unfold i4;rw[o6 h1 rfl,xl];exact iO (e:=(none:Option (D × DS))) (show 1<=sizeLine by decide)
def T3 (p:Pt):List (List Pt)->List D->Nat->Option (Str × Nat)
 |A::Ss,r::rs,k=>if N0 A.length r=true then (if Y0 A r [p]=true then T3 p Ss rs (k+1) else some ("place",k)) else some ("number",k)
 |_,_,_=>none
def Z0 (Ss:List (List Pt)) (p:Pt) (i:Int):Option (Str × Nat):=if i<(Ss.length:Int) then (if T4 ((Ss[i.toNat]?).getD []) p=true then none else some ("place",0)) else some ("number",0)
def eI (Ss:List (List Pt)) (p:Pt):D->Option (Str × Nat)
 |.int i=>if 0<=i then Z0 Ss p i else some ("shape",0)
 |_=>some ("shape",0)
def cZ (Ss:List (List Pt)) (p:Pt) (rs:vD_):Option (Str × Nat):=if rs.length=Ss.length then T3 p Ss rs 0 else some ("number",0)
def fw (Ss:List (List Pt)) (p:Pt):D->Option (Str × Nat)
 |.tup rs=>cZ Ss p rs
 |_=>some ("shape",0)
def M5 (Ss:List (List Pt)) (p:Pt):D->Option (Str × Nat)
 |.tup [x,y]=>if C4 x "in" = true then eI Ss p y else if C4 x "out" = true then fw Ss p y else some ("shape",0)
 |_=>some ("shape",0)
def U5 (Ss:List (List Pt)) (p:Pt) (x y:D):M5 Ss p (.tup [x,y])=if C4 x "in" = true then eI Ss p y else if C4 x "out" = true then fw Ss p y else some (("shape" : Str),0):=rfl
def aG:G6 "in" := Q5 (by decide +kernel)
def aa:G6 "out" := Q5 (by decide +kernel)
def V7:D->Bool
 |.int i=>decide (0<=i)
 |_=>false
def fx:D->Bool
 |.tup [x,y]=>if C4 x "in" = true then V7 y else (C4 x "out" && bq y)
 |_=>false
def qr (c:T8 d=false):fx d=false:=by
 cases d with
 |tup ds=>
  match ds,c with
  |[],_=>rfl
  |[_],_=>rfl
  |_::_::_::_,_=>rfl
 |_=>rfl
def mR (c:T8 d=false):M5 Ss p d=some (("shape" : Str),0):=by
 cases d with
 |tup ds=>
  match ds,c with
  |[],_=>rfl
  |[_],_=>rfl
  |_::_::_::_,_=>rfl
 |_=>rfl
abbrev fM:c9:=pV bN
def xj {b k:Nat}(h:Th b k d) (hb:b<=1900) (hk:k<=60) (fs:vO_):fM [d] fs=some (.bl (fx d),fs):=by
 have ht:=h.thing;by_cases c:T8 d=true
 .obtain⟨x,y,rfl⟩:=cX c;have U:=Th.part h x (by simp);have hy:=Th.part h y (by simp);have Y:=gu (gI U hb hk) U.thing (dE aG);have Z:=gu (gI U hb hk) U.thing (dE aa);have e:=pz y fs hy.thing;have t:=tL hy.thing;have v:fx (.tup [x,y])=if C4 x "in" = true then V7 y else (C4 x "out" && bq y):=rfl
  rw[v];refine y9 (s:=#[[.v (.tup [x,y])],fs]) ?_;show fE bN #[[.v (.tup [x,y])],fs]=_;unfold fE;refine A7 (D1 (Fy rfl)) ?_;by_cases B:C4 x "in" = true
  .rw[B] at Y;rw[iO B];refine L0 ((M9 (B6 (d7 (d7 rfl rfl rfl) rfl Y))).trans (C7 ?_));cases y with
   |int i=>exact bJ (w8 (k9 (d7 rfl rfl rfl) rfl) e) (d7 (d7 rfl rfl rfl) rfl rfl)
   |_=>exact fS (w8 (k9 (d7 rfl rfl rfl) rfl) e)
  .rw[iR B];rw[Kn] at B;rw[B] at Y;refine A7 (D1 (B6 (d7 (d7 rfl rfl rfl) rfl Y))) (C7 ?_);by_cases J:C4 x "out" = true
   .rw[J] at Z;rw[J,KS];exact bJ (d7 (d7 rfl rfl rfl) rfl Z) (N5 (d7 rfl rfl rfl) t)
   .rw[Kn] at J;rw[J] at Z;rw[J,NM];exact fS (d7 (d7 rfl rfl rfl) rfl Z)
 .rw[Kn] at c;rw[qr c];refine y9 (s:=#[[.v d],fs]) ?_;show fE bN #[[.v d],fs]=_;unfold fE;exact L0 ((M9 (Ht ht c rfl)).trans (C7 rfl))
abbrev eN:F6:=pD aA
def dN (Ss:List (List Pt)):one i6 [.tup (Ss.map i7)]=some (.int (Ss.length:Int)):=by
 show some (D.int ((Ss.map i7).length:Int))=_;rw[JR]
def bU {A:vT_}(h:Ss[i]? = some A):d6 (.tup (Ss.map i7)) (.int (i:Int))=some (i7 A):=
 (L4 _ _).trans (dY (by rw[KI,h];rfl))
def Gi (Y:∀A∈Ss,SkA A) (hp:Ps 1900 p) {i:Int}(Z:0<=i) (fs:vO_):eN [.tup (Ss.map i7),pt p,.int i] fs=some (eA (Z0 Ss p i),fs):=by
 have l:=dN Ss;unfold Z0;by_cases c:i<(Ss.length:Int)
 .obtain⟨n,rfl⟩:=NI Z;have B:n<Ss.length:=by omega
  have g:Ss[n]? = some Ss[n]:=Kf B;have U:=Y Ss[n] (Ma B);have J:=bU g;have e:=HA fs hp U.sz #[] (by have:=U.hi;omega);rw[iO c,Ku,g,OI];have e:aA [i7 Ss[n],pt p] fs=some (.bl (T4 Ss[n] p),fs):=e;have f1:dB (c8 (i9 (fun i j=>decide (j<=i))) (dL 2) (i5 (one i6) (a8 (dL 0) a9))) #[[.v (.tup (Ss.map i7)),.v (pt p),.v (.int (n:Int))],fs]=some (false,#[[.v (.tup (Ss.map i7)),.v (pt p),.v (.int (n:Int))],fs]):=by
   refine B6 (d7 rfl (B7 rfl l) ?_);show some (D.bl (decide ((Ss.length:Int)<=(n:Int))))=_;rw[JM ∅]
  generalize D.tup (Ss.map i7)=X at *;generalize i7 Ss[n]=S at *;cases w:T4 Ss[n] p with
  |true=>
   rw[w] at e;refine mV (s:=#[[.v X,.v (pt p),.v (.int (n:Int))],fs]) ?_;show aX aA #[[.v X,.v (pt p),.v (.int (n:Int))],fs]=_;unfold aX;generalize aA=m at *;exact A7 (D1 f1) (A7 (D1 (E8 (b:=true) (D7 (w8 (k9 (d7 rfl rfl J) (k9 rfl rfl)) e)))) (C7 rfl))
  |false=>
   rw[w] at e;refine cQ (s:=#[[.v X,.v (pt p),.v (.int (n:Int))],fs]) ?_;show aX aA #[[.v X,.v (pt p),.v (.int (n:Int))],fs]=_;unfold aX;generalize aA=m at *;exact A7 (D1 f1) (bB (cB (E8 (b:=false) (D7 (w8 (k9 (d7 rfl rfl J) (k9 rfl rfl)) e))) rfl))
 .rw[iR c];refine cQ (s:=#[[.v (.tup (Ss.map i7)),.v (pt p),.v (.int i)],fs]) ?_;show aX aA #[[.v (.tup (Ss.map i7)),.v (pt p),.v (.int i)],fs]=_;unfold aX;refine bB (cB (B6 (d7 rfl (B7 rfl l) ?_)) rfl);show some (D.bl (decide ((Ss.length:Int)<=i)))=_;rw[JJ ∅]
abbrev eD:F6:=oZ X8 Y4
def GS {A:vT_}(Z:SkA A) (hp:Ps 1900 p) {r X R:D}(hr:thing r=true) (Y:d6 X (.int (j:Int))=some (i7 A)) (fs:vO_) :
  ek X8 Y4 #[[.v X,.v (pt p),.v R,.v (.int (j:Int)),.v r],fs]=some (lZ (if N0 A.length r=true then (if Y0 A r [p]=true then none else some ("place",j)) else some ("number",j)),#[[.v X,.v (pt p),.v R,.v (.int (j:Int)),.v r],fs]):=by
 have U:=Fg (A:=A) hr fs;unfold ek;by_cases c:N0 A.length r=true
 .rw[iO c];rw[c] at U;obtain⟨i,rfl,il⟩:=jR c;have J:=Hx (B:=[p]) fs Z.sz (fun z hz=>by rw[JK.mp hz];exact hp) #[] il (by have:=Z.hi;omega);have v:Y0 A (.int (i:Int)) [p]=aC A i [p]:=by simp only[Y0,c,KS,Ku]
  rw[v];have J:X8 [i7 A,.int (i:Int),.tup [pt p]] fs=some (.bl (aC A i [p]),fs):=J;generalize X8=m1 at *;generalize Y4=m2 at *;generalize i7 A=S at *;refine A7 (D1 (E8 (b:=true) (D7 (w8 (k9 (d7 rfl rfl Y) (k9 rfl rfl)) U)))) ?_;cases w:aC A i [p] with
  |true=>
   rw[w] at J;exact D1 (E8 (b:=true) (D7 (w8 (k9 (d7 rfl rfl Y) (k9 rfl (k9 (md rfl) rfl))) J)))
  |false=>
   rw[w] at J;exact cB (E8 (b:=false) (D7 (w8 (k9 (d7 rfl rfl Y) (k9 rfl (k9 (md rfl) rfl))) J))) rfl
 .rw[iR c];rw[Kn] at c;rw[c] at U;exact bB (cB (E8 (b:=false) (D7 (w8 (k9 (d7 rfl rfl Y) (k9 rfl rfl)) U))) rfl)
theorem wV (U:Ps 1900 p) {X R:D}(fs:vO_):∀(Ss:List (List Pt)) (rs:vD_) (j:Nat) (x3 x4:Sl),(∀A∈Ss,SkA A)->(∀r∈rs,thing r=true)->(∀i A,Ss[i]? = some A->d6 X (.int ((j+i:Nat):Int))=some (i7 A))->rs.length=Ss.length ->
  ∃y3 y4,C6 (A0 2 (p9 (i0 3) (p9 (i0 4) A1))) (ek X8 Y4) ((rs.zipIdx j).map fun p=>.tup [.int (p.2:Int),p.1]) #[[.v X,.v (pt p),.v R,x3,x4],fs]=some (lZ (T3 p Ss rs j),#[[.v X,.v (pt p),.v R,y3,y4],fs])
 |[],[],j,x3,x4,_,_,_,_=>#[x3,x4,rfl]
 |A::Ss,r::rs,j,x3,x4,hS,hr,hi,hl=>by
  have e:=GS (hS A (JL ..)) U (R:=R) (hr r (JL ..)) (hi 0 A rfl) fs;rw[Nat.add_zero] at e;rw[Oa,JS];unfold T3;by_cases c:N0 A.length r=true
  .rw[iO c] at e ⊢;by_cases Y:Y0 A r [p]=true
   .rw[iO Y] at e ⊢;obtain⟨z3,z4,f⟩:=wV U (X:=X) (R:=R) fs Ss rs (j+1) (.v (.int (j:Int))) (.v r) (fun z J=>hS z (JH _ J)) (fun z J=>hr z (JH _ J)) (fun i B Z=>by
     have:=hi (i+1) B (by rw[Mz];exact Z);rw[show j+1+i=j+(i+1) by omega];exact this) (by simpa using hl)
    exact#[z3,z4,(W9 (s1:=#[[.v X,.v (pt p),.v R,.v (.int (j:Int)),.v r],fs]) rfl e).trans f]
   .rw[iR Y] at e ⊢;exact#[_,_,qN (s1:=#[[.v X,.v (pt p),.v R,.v (.int (j:Int)),.v r],fs]) rfl e]
  .rw[iR c] at e ⊢;exact#[_,_,qN (s1:=#[[.v X,.v (pt p),.v R,.v (.int (j:Int)),.v r],fs]) rfl e]
def Al (Z:∀A∈Ss,SkA A) (hp:Ps 1900 p) {rs:vD_}(hr:∀r∈rs,thing r=true) (fs:vO_):eD [.tup (Ss.map i7),pt p,.tup rs] fs=some (eA (cZ Ss p rs),fs):=by
 have Y:=dN Ss;have J:one i6 [.tup rs]=some (.int (rs.length:Int)):=qD rfl;unfold cZ;by_cases c:rs.length=Ss.length
 .rw[iO c];obtain⟨U,B,e⟩:=wV hp (X:=.tup (Ss.map i7)) (R:=.tup rs) fs Ss rs 0 .no .no Z hr (fun i A hA=>by
   rw[Mo];exact bU hA) c
  rw[c] at J;generalize D.tup (Ss.map i7)=X at *;have s1:∀r:DM,f9 (j6 (dB (c8 r8 (i5 (one i6) (a8 (dL 2) a9)) (i5 (one i6) (a8 (dL 0) a9)))) (V3 "NoPaper" (a8 (dC (.str "number")) (a8 (Pw 0) a9))) j7) r #[[.v X,.v (pt p),.v (.tup rs),.no,.no],fs]=r #[[.v X,.v (pt p),.v (.tup rs),.no,.no],fs]:=fun r=>A7 (D1 (K2 (B7 rfl J) (B7 rfl Y) (iX _))) rfl
  have f:cy (a8 (dV 2) a9) (A0 2 (p9 (i0 3) (p9 (i0 4) A1))) (ek X8 Y4) #[[.v X,.v (pt p),.v (.tup rs),.no,.no],fs]=some (lZ (T3 p Ss rs 0),#[[.v X,.v (pt p),.v (.tup rs),U,B],fs]):=(xp rfl).trans e;cases w:T3 p Ss rs 0 with
  |none=>
   rw[w] at f;refine mV (s:=#[[.v X,.v (pt p),.v (.tup rs),U,B],fs]) ?_;show bo X8 Y4 #[[.v X,.v (pt p),.v (.tup rs),.no,.no],fs]=_;unfold bo;rw[s1];exact A7 f (C7 rfl)
  |some wk=>
   rw[w] at f;refine cQ (s:=#[[.v X,.v (pt p),.v (.tup rs),U,B],fs]) ?_;show bo X8 Y4 #[[.v X,.v (pt p),.v (.tup rs),.no,.no],fs]=_;unfold bo;rw[s1];exact bB f
 .rw[iR c];have ne:r8 (.int (rs.length:Int)) (.int (Ss.length:Int))=some (.bl true):=by
   rw[Y3,JM ∅];rfl
  refine cQ (s:=#[[.v (.tup (Ss.map i7)),.v (pt p),.v (.tup rs),.no,.no],fs]) ?_;show bo X8 Y4 #[[.v (.tup (Ss.map i7)),.v (pt p),.v (.tup rs),.no,.no],fs]=_;unfold bo;exact bB (cB (K2 (B7 rfl J) (B7 rfl Y) ne) rfl)
abbrev gp:F6:=sC eD eN fM
def qM {x:D}(c:fx (.tup [x,y])=false):M5 Ss p (.tup [x,y])=some (("shape" : Str),0):=by
 have c:(if C4 x "in" = true then V7 y else (C4 x "out" && bq y))=false:=c;rw[U5];by_cases J:C4 x "in" = true
 .rw[iO J] at c ⊢;cases y with
  |int i=>
   have c:=NG c;exact iR c
  |_=>rfl
 .rw[iR J] at c ⊢;by_cases B:C4 x "out" = true
  .rw[iO B];rw[B,KS] at c;cases y with
   |tup _=>cases c
   |_=>rfl
  .rw[iR B]
def Im (Z:∀A∈Ss,SkA A) (hp:Ps 1900 p) {b k:Nat}(h:Th b k d) (hb:b<=1900) (hk:k<=60) (fs:vO_):gp [.tup (Ss.map i7),pt p,d] fs=some (eA (M5 Ss p d),fs):=by
 have B:=xj h hb hk fs;by_cases c:fx d=true
 .rw[c] at B;have t2:T8 d=true:=by
   by_cases t:T8 d=true
   .exact t
   .rw[Kn] at t;rw[qr t] at c;cases c
  obtain⟨x,y,rfl⟩:=cX t2;have hx:=Th.part h x (by simp);have hy:=Th.part h y (by simp);have U:=gu (gI hx hb hk) hx.thing (dE aG);have c:(if C4 x "in" = true then V7 y else (C4 x "out" && bq y))=true:=c;rw[U5];by_cases J:C4 x "in" = true
  .rw[iO J] at c ⊢;rw[J] at U;cases y with
   |int i=>
    have c:0<=i:=Kv c;have v:eI Ss p (.int i)=Z0 Ss p i:=iO c;rw[v];have Y:=Gi Z hp c fs;generalize D.tup (Ss.map i7)=X at *;refine vH (s:=#[[.v X,.v (pt p),.v (.tup [x,.int i])],fs]) ?_;show bh eD eN fM #[[.v X,.v (pt p),.v (.tup [x,.int i])],fs]=_;unfold bh;exact A7 (D1 (E8 (b:=true) (D7 (w8 rfl B)))) (JD ((M9 (B6 (d7 (d7 rfl rfl rfl) rfl U))).trans (qh (k9 rfl (k9 rfl (k9 (d7 rfl rfl rfl) rfl))) Y)))
   |_=>cases c
  .rw[iR J] at c ⊢;rw[Kn] at J;rw[J] at U;rw[Ki] at c;rw[iO c.1];cases y with
   |tup rs=>
    have Y:=Al Z hp (rs:=rs) (fun r hr=>(Th.part hy r hr).thing) fs;have v:fw Ss p (.tup rs)=cZ Ss p rs:=rfl;rw[v];generalize D.tup (Ss.map i7)=X at *;refine vH (s:=#[[.v X,.v (pt p),.v (.tup [x,.tup rs])],fs]) ?_;show bh eD eN fM #[[.v X,.v (pt p),.v (.tup [x,.tup rs])],fs]=_;unfold bh;exact A7 (D1 (E8 (b:=true) (D7 (w8 rfl B)))) (A7 (D1 (B6 (d7 (d7 rfl rfl rfl) rfl U))) (qh (k9 rfl (k9 rfl (k9 (d7 rfl rfl rfl) rfl))) Y))
   |_=>cases c.2
 .rw[Kn] at c;rw[c] at B;have v:M5 Ss p d=some (("shape" : Str),0):=by
   by_cases t:T8 d=true
   .obtain⟨x,y,rfl⟩:=cX t;exact qM c
   .rw[Kn] at t;exact mR t
  rw[v];generalize D.tup (Ss.map i7)=X at *;refine cQ (s:=#[[.v X,.v (pt p),.v d],fs]) ?_;show bh eD eN fM #[[.v X,.v (pt p),.v d],fs]=_;unfold bh;exact bB (cB (E8 (b:=false) (D7 (w8 rfl B))) rfl)
def Cd {b h:DM}{s:DS}(h1:b s=some (.next,s1)):dP cs i b h s=some (.next,s1):=by simp[dP,h1]
def Jv {cs:List Str}{i:Nat}{b h:DM}{s s1 s2:DS}{c:Str}{ds:vD_}(h1:b s=some (.thr c ds,s1)) (B:cs.contains c=true/\ds.length<=2) (h2:h { s1 with sl:=s1.sl.set i (.v (.exc c ds)) }=some (.next,s2)):dP cs i b h s=some (.next,{ s2 with sl:=s2.sl.set i .no }):=by
 unfold dP;rw[h1,xl];show (if cs.contains c=true/\ds.length<=2 then _ else none)=_;rw[iO B,h2];rfl
def bO {c:DT}{e:DE}{b:DM}{s:DS}(h:c s=some (true,s1)) (k:e s1=some (d,s2)):j6 c (i8 e) b s=some (.ret d,s2):=(M9 h).trans (C7 k)
def Be {x:D}{a:Str}(h:C4 x a=true):x = .str a:=by
 cases x with
 |str w=>simp only[C4,MB] at h;rw[h]
 |_=>cases h
def Dw {w a:Str}(J:G6 w) (B:G6 a):r8 (.str w) (.str a)=some (.bl (!C4 (.str w) a)):=by
 simp only[r8,dE J,dE B,Lg,Kh,C4,D.py,PyData.eqv,MG]
def T2:Option (Str × Nat)->D
 |none=>.bl true
 |some (w,k)=>.tup [.str w,.int (k:Int)]
def K7 (A:vT_) (p:Pt):List Int:=(List.range A.length).map fun k=>w9 (d9 (tk A k) (tk A (k+1)) p)
def fj (A:vT_) (p:Pt):D->D
 |.int k=>.int (w9 (d9 (tk A k.toNat) (tk A (k.toNat+1)) p))
 |_=>.non
def Ju (A:vT_) (p:Pt):(A2 0 A.length).map (fj A p)=(K7 A p).map D.int:=by
 unfold A2 K7;rw[NJ,NJ];refine List.map_congr_left fun k _=>?_
 simp[fj]
def kS {A:vT_}(h:i<A.length):(K7 A p)[i]? = some (w9 (d9 (tk A i) (tk A (i+1)) p)):=by
 unfold K7;rw[KI,List.getElem?_range h];rfl
def xI {A:vT_}(h:i<A.length):A[i]? = some (tk A i):=by
 unfold tk;rw[Nat.mod_eq_of_lt h,Kf h];rfl
def pb {A:vT_}(h:i<A.length):d6 (i7 A) (.int (i:Int))=some (pt (tk A i)):=
 (L4 _ _).trans (dY (by rw[KI,xI h];rfl))
abbrev E7:c9:=pB Q9
def iD {A:vT_}(B:SkA A) (hp:Ps 1900 p) (fs:vO_):E7 [i7 A,pt p] fs=some (.lst ((K7 A p).map D.int),fs):=by
 have lo:=B.lo;have hi:=B.hi;have l:one i6 [i7 A]=some (.int (A.length:Int)):=by
  show some (D.int ((A.map pt).length:Int))=_;rw[JR]
 have Y:=vj (idx:=[1,0]) (fe:=d8 Q9 (a8 (c8 d6 (dL 2) (dL 0)) (a8 (c8 d6 (dL 2) (c8 F5 (c8 n8 (dL 0) (Pw 1)) (i5 (one i6) (a8 (dL 2) a9)))) (a8 (dV 1) a9)))) (g:=fj A p) [.v (pt p),.v (i7 A)] fs (A2 0 A.length) (fun d hd=>by
  obtain⟨k,hk⟩:=LY hd;obtain⟨rfl,J⟩:=bM hk;rw[NK];have Z:(k+1) % A.length<A.length:=MI _ ∅;have t:=mr (tk A k) (tk A (k+1)) p fs (B.sz _ (iK k ∅)) (B.sz _ (iK (k+1) ∅)) hp #[];have ia:=pb J;have U:=pb Z;rw[ah] at U;have fm:((k:Int)+1).fmod (A.length:Int)=(((k+1) % A.length:Nat):Int):=by
   rw[Oq _ ∅];simp
  have n0:¬ (A.length:Int)=0:=by omega
  have pm:F5 (.int ((k:Int)+1)) (.int (A.length:Int))=some (.int (((k+1) % A.length:Nat):Int)):=by simp only[F5,ne_eq,n0,not_false_eq_true,Kh,fm]
  refine#[#[[.v (.int (k:Int)),.v (pt p),.v (i7 A)],fs],?_,rfl];have eg:fj A p (.int (k:Int)) = .int (w9 (d9 (tk A k) (tk A (k+1)) p)):=by simp only[fj,Ku]
  rw[eg];generalize i7 A=S at *;exact w8 (k9 (d7 rfl rfl ia) (k9 (d7 rfl (d7 (d7 rfl rfl rfl) (B7 rfl l) pm) U) (k9 rfl rfl))) t)
 rw[Ju] at Y;have rg:N4 [.int (A.length:Int)]=some (A2 0 A.length):=ar ∅;have hz:(A2 0 A.length).length<=sizeLine:=by rw[Q1,Kk];omega
 generalize i7 A=S at *;have hr:G8 (a8 (i5 (one i6) (a8 (dL 0) a9)) a9) #[[.v S,.v (pt p)],fs]=some (A2 0 A.length,#[[.v S,.v (pt p)],fs]):=by
  unfold G8;rw[show a8 (i5 (one i6) (a8 (dL 0) a9)) a9 #[[.v S,.v (pt p)],fs]=some ([.int (A.length:Int)],#[[.v S,.v (pt p)],fs]) from k9 (B7 rfl l) rfl,xl];show (N4 [.int (A.length:Int)]).map _=_;rw[rg];rfl
 refine y9 (s:=#[[.v S,.v (pt p)],fs]) ?_;show kX Q9 #[[.v S,.v (pt p)],fs]=_;unfold kX;exact C7 (T5 (jG hr hz Y))
def EE {A:vT_}(Y:SkA A) (p:Pt):decide (P4 (K7 A p)<0) = !T4 A p:=by
 have B:0<A.length:=by have:=Y.lo;omega
 have l:0<(K7 A p).length:=by unfold K7;rw[JR,OJ];exact B
 obtain⟨m1,m2⟩:=qi l;generalize P4 (K7 A p)=m at *;by_cases c:T4 A p=true
 .rw[c];refine JM fun q=>?_
  obtain⟨k,Z,e⟩:=KR.mp m1;have:=Lx.mp c _ ((qL B (tk A k,tk A (k+1))).mpr #[k,rfl]);have this:(!decide (w9 (d9 (tk A k) (tk A (k+1)) p) = -1))=true:=this;rw[Bool.not_eq_true',Pr] at this;rcases tQ (d9 (tk A k) (tk A (k+1)) p) with ⟨_,w⟩ | ⟨_,w⟩ | ⟨_,w⟩ <;> omega
 .rw[Kn] at c;rw[c];refine JJ ?_;have c:¬ T4 A p=true:=by rw[c];exact JQ
  refine Pq fun q=>c (Lx.mpr fun z U=>?_)
  obtain⟨i,rfl⟩:=(qL B z).mp U;have J:=MI i B;have:=m2 _ (KC (kS J));rw[ah,<-ah (i % A.length+1),Nat.mod_add_mod,ah] at this;show (!decide (w9 (d9 (tk A i) (tk A (i+1)) p) = -1))=true;rw[Bool.not_eq_true',Pr];omega
def pj (h:thing d=true) (fs:vO_):M1 [d] fs=some (.bl (V7 d),fs):=by
 refine y9 (s:=#[[.v d],fs]) (C7 ?_);show w6 (j4 (C5 "int") (dL 0)) (w6 (B0 (j4 (C5 "bool") (dL 0))) (c8 (i9 (fun i j=>decide (j<=i))) (dL 0) (Pw 0))) #[[.v d],fs]=_;cases d with
 |feed=>cases h
 |scr _=>cases h
 |fn _=>cases h
 |exc _ _=>cases h
 |int i=>exact bJ (N5 rfl rfl) (bJ rfl (d7 rfl rfl rfl))
 |bl b=>exact bJ (N5 rfl rfl) (fS rfl)
 |_=>exact fS (N5 rfl rfl)
abbrev Y7:c9:=qO E7 M1
def jn:Option (Str × Nat)->Fl
 |none=>.next
 |some B=>.ret (T2 (some B))
def Bg {n:Nat}{r:D}(h:N0 n r=true):V7 r=true:=by
 obtain⟨i,rfl,_⟩:=jR h;exact JJ (show (0:Int)<=(i:Int) by omega)
def nQ {r:D}(h:V7 r=true):∃i:Nat,r = .int (i:Int):=by
 cases r with
 |int i=>
  obtain⟨n,rfl⟩:=NI (Kv h);exact#[n,rfl]
 |_=>cases h
def HW (A:vT_) (i:Nat) (p:Pt):aC A i [p]=decide (w9 (d9 (tk A i) (tk A (i+1)) p) = -1):=by
 show (decide (w9 (d9 (tk A i) (tk A (i+1)) p) = -1)&&true)=_;rw[OF]
def xg {A:vT_}(hA:SkA A) (hp:Ps 1900 p) {r X R:D}{rs:vD_}(hr:thing r=true) (Z:d6 X (.int (j:Int))=some (i7 A)) (B:d6 (.tup rs) (.int (j:Int))=some r) (Y U:Sl) (fs:vO_) :
  aM E7 M1 #[[.v X,.v (pt p),Y,U,.v (.tup rs),.v (.int (j:Int))],fs]=some (jn (if N0 A.length r=true then (if Y0 A r [p]=true then none else some ("place",j)) else some ("number",j)),#[[.v X,.v (pt p),Y,U,.v (.tup rs),.v (.int (j:Int))],fs]):=by
 have J:=pj hr fs;have e2:=iD hA hp fs;have l:one i6 [i7 A]=some (.int (A.length:Int)):=by
  show some (D.int ((A.map pt).length:Int))=_;rw[JR]
 unfold aM;by_cases c:V7 r=true
 .rw[c] at J;obtain⟨i,rfl⟩:=nQ c;by_cases c1:i<A.length
  .have q:N0 A.length (.int (i:Int))=true:=by
    show (decide ((0:Int)<=(i:Int))&&decide ((i:Int)<(A.length:Int)))=true;rw[JJ ∅,JJ ∅];rfl
   have f1:i9 (fun i j=>decide (j<=i)) (.int (i:Int)) (.int (A.length:Int))=some (.bl false):=by
    show some (D.bl (decide ((A.length:Int)<=(i:Int))))=_;rw[JM ∅]
   have s1:d6 (.lst ((K7 A p).map D.int)) (.int (i:Int))=some (.int (w9 (d9 (tk A i) (tk A (i+1)) p))):=(F8 _ _).trans (dY (by rw[KI,kS c1];rfl));have v:Y0 A (.int (i:Int)) [p]=aC A i [p]:=by simp only[Y0,q,KS,Ku]
   rw[iO q,v,HW];generalize E7=m1 at *;generalize M1=m2 at *;generalize i7 A=S at *;refine A7 (D1 (dk (E8 (b:=true) (D7 (w8 (k9 (d7 rfl rfl B) rfl) J))) (B6 (d7 (d7 rfl rfl B) (B7 (k9 (d7 rfl rfl Z) rfl) l) f1)))) ?_;have z:∀b,decide (0<=w9 (d9 (tk A i) (tk A (i+1)) p))=b->dB (c8 (i9 (fun i j=>decide (j<=i))) (c8 d6 (d8 m1 (a8 (c8 d6 (dL 0) (dL 5)) (a8 (dV 1) a9))) (c8 d6 (dL 4) (dL 5))) (Pw 0)) #[[.v X,.v (pt p),Y,U,.v (.tup rs),.v (.int (j:Int))],fs]=some (b,#[[.v X,.v (pt p),Y,U,.v (.tup rs),.v (.int (j:Int))],fs]):=fun b hb=>by
    rw[<-hb];exact B6 (d7 (d7 (w8 (k9 (d7 rfl rfl Z) (k9 rfl rfl)) e2) (d7 rfl rfl B) s1) rfl rfl)
   by_cases c2:w9 (d9 (tk A i) (tk A (i+1)) p) = -1
   .rw[iO (JJ c2)];exact D1 (z false (JM ∅))
   .rw[iR (by rw[JM c2];exact JQ)];refine bO (z true (JJ ?_)) (D5 rfl rfl);rcases tQ (d9 (tk A i) (tk A (i+1)) p) with ⟨_,w⟩ | ⟨_,w⟩ | ⟨_,w⟩ <;> omega
  .have q:¬ N0 A.length (.int (i:Int))=true:=fun z=>by
    obtain⟨k,e,kl⟩:=jR z;have:=D.int.inj e;omega
   rw[iR q];have f1:i9 (fun i j=>decide (j<=i)) (.int (i:Int)) (.int (A.length:Int))=some (.bl true):=by
    show some (D.bl (decide ((A.length:Int)<=(i:Int))))=_;rw[JJ ∅]
   exact L0 (bO (U4 (E8 (b:=true) (D7 (w8 (k9 (d7 rfl rfl B) rfl) J))) (B6 (d7 (d7 rfl rfl B) (B7 (k9 (d7 rfl rfl Z) rfl) l) f1))) (D5 rfl rfl))
 .have q:¬ N0 A.length r=true:=fun z=>c (Bg z)
  rw[iR q];rw[Kn] at c;rw[c] at J;exact L0 (bO (au (E8 (b:=false) (D7 (w8 (k9 (d7 rfl rfl B) rfl) J)))) (D5 rfl rfl))
theorem vp (hp:Ps 1900 p) {X:D}{rs0:vD_}(U J:Sl) (fs:vO_):∀(Ss:List (List Pt)) (rs:vD_) (j:Nat) (x5:Sl),(∀A∈Ss,SkA A)->(∀r∈rs,thing r=true)->(∀i A,Ss[i]? = some A->d6 X (.int ((j+i:Nat):Int))=some (i7 A))->(∀i r,rs[i]? = some r->rs0[j+i]? = some r)->rs.length=Ss.length ->
  ∃y5,C6 (i0 5) (aM E7 M1) (A2 (j:Int) Ss.length) #[[.v X,.v (pt p),U,J,.v (.tup rs0),x5],fs]=some (jn (T3 p Ss rs j),#[[.v X,.v (pt p),U,J,.v (.tup rs0),y5],fs])
 |[],[],j,x5,_,_,_,_,_=>#[x5,rfl]
 |A::Ss,r::rs,j,x5,hS,hr,hi,hri,hl=>by
  have e:=xg (hS A (JL ..)) hp (rs:=rs0) (R:=X) (hr r (JL ..)) (hi 0 A rfl) ((L4 _ _).trans (dY (hri 0 r rfl))) U J fs;rw[Nat.add_zero] at e;rw[JO,Au];unfold T3;by_cases c:N0 A.length r=true
  .rw[iO c] at e ⊢;by_cases c2:Y0 A r [p]=true
   .rw[iO c2] at e ⊢;obtain⟨z5,f⟩:=vp hp (X:=X) (rs0:=rs0) U J fs Ss rs (j+1) (.v (.int (j:Int))) (fun z Z=>hS z (JH _ Z)) (fun z Z=>hr z (JH _ Z)) (fun i B Y=>by
     have:=hi (i+1) B (by rw[Mz];exact Y);rw[show j+1+i=j+(i+1) by omega];exact this) (fun i B Y=>by
     have:=hri (i+1) B (by rw[Mz];exact Y);rw[show j+1+i=j+(i+1) by omega];exact this) (by simpa using hl)
    exact#[z5,(W9 (s1:=#[[.v X,.v (pt p),U,J,.v (.tup rs0),.v (.int (j:Int))],fs]) rfl e).trans f]
   .rw[iR c2] at e ⊢;exact#[_,gM (s1:=#[[.v X,.v (pt p),U,J,.v (.tup rs0),.v (.int (j:Int))],fs]) rfl e]
  .rw[iR c] at e ⊢;exact#[_,gM (s1:=#[[.v X,.v (pt p),U,J,.v (.tup rs0),.v (.int (j:Int))],fs]) rfl e]
def HP (hS:∀A∈Ss,SkA A) (lS:Ss.length<=50) (hp:Ps 1900 p) {b k:Nat}(h:Th b k d) (hb:b<=1900) (hk:k<=60) (fs:vO_):Y7 [.tup (Ss.map i7),pt p,d] fs=some (T2 (M5 Ss p d),fs):=by
 have ht:=h.thing;have ls:=dN Ss;rcases Jp d with ⟨w,y,rfl⟩ | no
 .have hx:=Th.part h (.str w) (by simp);have hy:=Th.part h y (by simp);have aw:G6 w:=by cases k <;> exact hx
  have q1:=gu (gI hx hb hk) hx.thing (dE aG);have q2:=Dw aw aa;have e0:=pj hy.thing fs;have t:=tL hy.thing;rw[U5];have Z:∀{X:D}{r:DM},f9 (j6 (o7 (t9 (l7 (j4 (C5 "tuple") (dL 2)))) (o7 (dB (c8 r8 (i5 (one i6) (a8 (dL 2) a9)) (Pw 2))) (t9 (l7 (j4 (C5 "str") (Px 2 0)))))) (i8 (i4 (a8 (dC (.str "shape")) (a8 (Pw 0) a9)))) j7) (f9 (j3 (dV 2) (A0 2 (p9 (i0 3) (p9 (i0 4) A1)))) r) #[[.v X,.v (pt p),.v (.tup [.str w,y]),.no,.no,.no],fs]=r #[[.v X,.v (pt p),.v (.tup [.str w,y]),.v (.str w),.v y,.no],fs]:=fun {X r}=>
   A7 (D1 (yk rfl)) (A7 (B4 rfl rfl) rfl)
  generalize hX:D.tup (Ss.map i7)=X at *;by_cases c:(C4 (.str w) "in" && V7 y)=true
  .rw[Ki] at c;obtain⟨U,Y⟩:=c;rw[U] at q1;rw[Y] at e0;obtain⟨i,rfl⟩:=nQ Y;rw[iO U];have v:eI Ss p (.int (i:Int))=Z0 Ss p (i:Int):=by
    show (if (0:Int)<=(i:Int) then Z0 Ss p (i:Int) else some ("shape",0))=_;exact iO ∅
   rw[v];have J:t7 (dB (c8 pEq (dL 3) (dC (.str "in")))) (l7 (d8 M1 (a8 (dV 4) a9))) #[[.v X,.v (pt p),.v (.tup [.str w,.int (i:Int)]),.v (.str w),.v (.int (i:Int)),.no],fs]=some (true,#[[.v X,.v (pt p),.v (.tup [.str w,.int (i:Int)]),.v (.str w),.v (.int (i:Int)),.no],fs]):=af (B6 (d7 rfl rfl q1)) (D7 (w8 rfl e0));refine y9 (s:=#[[.v X,.v (pt p),.v (.tup [.str w,.int (i:Int)]),.v (.str w),.v (.int (i:Int)),.no],fs]) ?_;show T9 E7 M1 #[[.v X,.v (pt p),.v (.tup [.str w,.int (i:Int)]),.no,.no,.no],fs]=_;unfold T9;rw[Z];refine L0 ((M9 J).trans ?_);unfold Z0;by_cases c3:(i:Int)<(Ss.length:Int)
   .have nl:i<Ss.length:=by omega
    have g:Ss[i]? = some Ss[i]:=Kf nl;have sA:=hS Ss[i] (Ma nl);have ix:=bU g;rw[hX] at ix;have e2:=iD sA hp fs;have mn:=vD (is:=K7 Ss[i] p) (by unfold K7;rw[JR,OJ];have:=sA.lo;omega);have sm:=EE sA p;rw[iO c3,Ku,g,OI];have f1:i9 (fun i j=>decide (j<=i)) (.int (i:Int)) (.int (Ss.length:Int))=some (.bl false):=by
     show some (D.bl (decide ((Ss.length:Int)<=(i:Int))))=_;rw[JM ∅]
    have f2:i9 (fun i j=>decide (i<j)) (.int (P4 (K7 Ss[i] p))) (.int 0)=some (.bl (!T4 Ss[i] p)):=by
     show some (D.bl (decide (P4 (K7 Ss[i] p)<0)))=_;rw[sm]
    generalize E7=m1 at *;generalize M1=m2 at *;generalize i7 Ss[i]=S at *;have z:dB (c8 (i9 (fun i j=>decide (i<j))) (i5 (one bI) (a8 (d8 m1 (a8 (c8 d6 (dL 0) (dL 4)) (a8 (dV 1) a9))) a9)) (Pw 0)) #[[.v X,.v (pt p),.v (.tup [.str w,.int (i:Int)]),.v (.str w),.v (.int (i:Int)),.no],fs]=some (!T4 Ss[i] p,#[[.v X,.v (pt p),.v (.tup [.str w,.int (i:Int)]),.v (.str w),.v (.int (i:Int)),.no],fs]):=B6 (d7 (B7 (k9 (w8 (k9 (d7 rfl rfl ix) (k9 rfl rfl)) e2) rfl) mn) rfl f2);refine A7 (D1 (B6 (d7 rfl (B7 rfl ls) f1))) (C7 ?_);cases u:T4 Ss[i] p with
    |true=>
     rw[u] at z;exact(eU z).trans rfl
    |false=>
     rw[u] at z;exact(bR z).trans (D5 rfl rfl)
   .rw[iR c3];have f1:i9 (fun i j=>decide (j<=i)) (.int (i:Int)) (.int (Ss.length:Int))=some (.bl true):=by
     show some (D.bl (decide ((Ss.length:Int)<=(i:Int))))=_;rw[JJ ∅]
    exact L0 (bO (B6 (d7 rfl (B7 rfl ls) f1)) (D5 rfl rfl))
  .have J:t7 (dB (c8 pEq (dL 3) (dC (.str "in")))) (l7 (d8 M1 (a8 (dV 4) a9))) #[[.v X,.v (pt p),.v (.tup [.str w,y]),.v (.str w),.v y,.no],fs]=some (false,#[[.v X,.v (pt p),.v (.tup [.str w,y]),.v (.str w),.v y,.no],fs]):=by
    rw[Kn] at c;by_cases U:C4 (.str w) "in" = true
    .rw[U] at q1;rw[U,KS] at c;rw[c] at e0;exact af (B6 (d7 rfl rfl q1)) (D7 (w8 rfl e0))
    .rw[Kn] at U;rw[U] at q1;exact jk (B6 (d7 rfl rfl q1))
   by_cases Y:(C4 (.str w) "out" && bq y)=true
   .rw[Ki] at Y;obtain⟨Y,c3⟩:=Y;rw[Y] at q2;have n1:¬ C4 (.str w) "in" = true:=fun z=>by
     have z1:w = "in" := Kv z;have z2:w = "out" := Kv Y;rw[z1] at z2;exact absurd z2 (by decide +kernel)
    rw[iR n1,iO Y];cases y with
    |tup B=>
     have v:fw Ss p (.tup B)=cZ Ss p B:=rfl;rw[v];have lr:one i6 [.tup B]=some (.int (B.length:Int)):=qD rfl;unfold cZ;by_cases c4:B.length=Ss.length
     .rw[iO c4];rw[c4] at lr;obtain⟨y5,e⟩:=vp hp (X:=X) (rs0:=B) (.v (.tup [.str w,.tup B])) (.v (.str w)) fs Ss B 0 .no hS (fun r hr=>(Th.part hy r hr).thing) (fun i A hA=>by
       rw[Mo,<-hX];exact bU hA) (fun i r hr=>by rw[Mo];exact hr) c4
      have rg:N4 [.int (Ss.length:Int)]=some (A2 0 Ss.length):=ar ∅;have e:C6 (i0 5) (aM E7 M1) (A2 0 Ss.length) #[[.v X,.v (pt p),.v (.tup [.str w,.tup B]),.v (.str w),.v (.tup B),.no],fs]=_:=e;have lp:X9 (a8 (i5 (one i6) (a8 (dL 0) a9)) a9) (i0 5) (aM E7 M1) #[[.v X,.v (pt p),.v (.tup [.str w,.tup B]),.v (.str w),.v (.tup B),.no],fs]=some (jn (T3 p Ss B 0),#[[.v X,.v (pt p),.v (.tup [.str w,.tup B]),.v (.str w),.v (.tup B),y5],fs]):=(kP (k9 (B7 rfl ls) rfl) rg).trans e;have fin:∀{o:Option (Str × Nat)},X9 (a8 (i5 (one i6) (a8 (dL 0) a9)) a9) (i0 5) (aM E7 M1) #[[.v X,.v (pt p),.v (.tup [.str w,.tup B]),.v (.str w),.v (.tup B),.no],fs]=some (jn o,#[[.v X,.v (pt p),.v (.tup [.str w,.tup B]),.v (.str w),.v (.tup B),y5],fs])->f9 (X9 (a8 (i5 (one i6) (a8 (dL 0) a9)) a9) (i0 5) (aM E7 M1)) (i8 (dC (.bl true))) #[[.v X,.v (pt p),.v (.tup [.str w,.tup B]),.v (.str w),.v (.tup B),.no],fs]=some (.ret (T2 o),#[[.v X,.v (pt p),.v (.tup [.str w,.tup B]),.v (.str w),.v (.tup B),y5],fs]):=fun {o} h=>by
       cases o with
       |none=>exact A7 h (C7 rfl)
       |some wk=>exact L0 h
      refine y9 (s:=#[[.v X,.v (pt p),.v (.tup [.str w,.tup B]),.v (.str w),.v (.tup B),y5],fs]) ?_;show T9 E7 M1 #[[.v X,.v (pt p),.v (.tup [.str w,.tup B]),.no,.no,.no],fs]=_;unfold T9;rw[Z];exact A7 (D1 J) (A7 (D1 (dk (K2 rfl rfl q2) (E8 (b:=true) (D7 (N5 rfl rfl))))) (A7 (D1 (K2 (B7 rfl lr) (B7 rfl ls) (iX _))) (fin lp)))
     .rw[iR c4];have ne:r8 (.int (B.length:Int)) (.int (Ss.length:Int))=some (.bl true):=by
       rw[Y3,JM ∅];rfl
      refine y9 (s:=#[[.v X,.v (pt p),.v (.tup [.str w,.tup B]),.v (.str w),.v (.tup B),.no],fs]) ?_;show T9 E7 M1 #[[.v X,.v (pt p),.v (.tup [.str w,.tup B]),.no,.no,.no],fs]=_;unfold T9;rw[Z];exact A7 (D1 J) (A7 (D1 (dk (K2 rfl rfl q2) (E8 (b:=true) (D7 (N5 rfl rfl))))) (L0 (bO (K2 (B7 rfl lr) (B7 rfl ls) ne) (D5 rfl rfl))))
    |_=>cases c3
   .have v:(if C4 (.str w) "in" = true then eI Ss p y else if C4 (.str w) "out" = true then fw Ss p y else some (("shape" : Str),0))=some (("shape" : Str),0):=by
     rw[<-U5];refine qM ?_;show (if C4 (.str w) "in" = true then V7 y else (C4 (.str w) "out" && bq y))=false;by_cases U:C4 (.str w) "in" = true
     .rw[iO U];rw[U,KS,Kn] at c;exact c
     .rw[iR U];rw[Kn] at Y;exact Y
    rw[v];have cond2:o7 (dB (c8 r8 (dL 3) (dC (.str "out")))) (t9 (l7 (j4 (C5 "tuple") (dL 4)))) #[[.v X,.v (pt p),.v (.tup [.str w,y]),.v (.str w),.v y,.no],fs]=some (true,#[[.v X,.v (pt p),.v (.tup [.str w,y]),.v (.str w),.v y,.no],fs]):=by
     by_cases U:C4 (.str w) "out" = true
     .rw[U] at q2;rw[U,KS,Kn] at Y;rw[Y] at t;exact U4 (K2 rfl rfl q2) (E8 (b:=false) (D7 (N5 rfl t)))
     .rw[Kn] at U;rw[U] at q2;exact au (K2 rfl rfl q2)
    refine y9 (s:=#[[.v X,.v (pt p),.v (.tup [.str w,y]),.v (.str w),.v y,.no],fs]) ?_;show T9 E7 M1 #[[.v X,.v (pt p),.v (.tup [.str w,y]),.no,.no,.no],fs]=_;unfold T9;rw[Z];exact A7 (D1 J) (L0 (bO cond2 (D5 rfl rfl)))
 .have v:M5 Ss p d=some (("shape" : Str),0):=by
   by_cases t:T8 d=true
   .obtain⟨x,y,rfl⟩:=cX t;rw[U5];have ne:∀a:Str,¬ C4 x a=true:=fun a z=>no a y (by rw[Be z])
    rw[iR (ne _),iR (ne _)]
   .rw[Kn] at t;exact mR t
  rw[v];generalize D.tup (Ss.map i7)=X at *;refine y9 (s:=#[[.v X,.v (pt p),.v d,.no,.no,.no],fs]) ?_;show T9 E7 M1 #[[.v X,.v (pt p),.v d,.no,.no,.no],fs]=_;unfold T9;exact L0 (bO (Ja ht no (fun x y e=>by rw[e] at h;exact(Th.part h x (by simp)).thing) rfl) (D5 rfl rfl))
abbrev X0:c9:=kI gp
def oU (B:∀A∈Ss,SkA A) (U:Ps 1900 p) {b k:Nat}(h:Th b k d) (J:b<=1900) (Z:k<=60) (fs:vO_):X0 [.tup (Ss.map i7),pt p,d] fs=some (T2 (M5 Ss p d),fs):=by
 have e:=Im B U h J Z fs;generalize M5 Ss p d=o at *;generalize D.tup (Ss.map i7)=X at *;generalize pt p=P at *;show kI gp [X,P,d] fs=_;generalize gp=m at *;cases o with
 |none=>
  refine y9 (s:=#[[.v X,.v P,.v d,.v (.bl true),.no],fs]) ?_;show fR m #[[.v X,.v P,.v d,.no,.no],fs]=_;unfold fR;refine A7 (s1:=#[[.v X,.v P,.v d,.v .non,.no],fs]) rfl (A7 (s1:=#[[.v X,.v P,.v d,.v (.bl true),.no],fs]) (Cd ?_) rfl);unfold fV;rw[ko (sl:=[.v X,.v P,.v d,.v .non,.no]) rfl e];rfl
 |some Y=>
  obtain⟨w,n⟩:=Y;refine y9 (s:=#[[.v X,.v P,.v d,.v (.tup [.str w,.int (n:Int)]),.no],fs]) ?_;show fR m #[[.v X,.v P,.v d,.no,.no],fs]=_;unfold fR;refine A7 (s1:=#[[.v X,.v P,.v d,.v .non,.no],fs]) rfl (A7 (s1:=#[[.v X,.v P,.v d,.v (.tup [.str w,.int (n:Int)]),.no],fs]) (Jv (s1:=#[[.v X,.v P,.v d,.v .non,.no],fs]) (s2:=#[[.v X,.v P,.v d,.v (.tup [.str w,.int (n:Int)]),.v (.exc "NoPaper" [.str w,.int (n:Int)])],fs]) (c := "NoPaper") (ds:=[.str w,.int (n:Int)]) ?_ #[by rfl,tx 2] ?_) rfl)
  .unfold fV;rw[ko (sl:=[.v X,.v P,.v d,.v .non,.no]) rfl e];rfl
  .rfl
def ic {p:D->D->Option (List D)}{a b:DE}{s:DS}{x:D}{z:vD_}(h1:a s=some (x,s1)) (h2:b s1=some (y,s2)) (B:p x y=some z):Q0 p a b s=some (z,s2):=by
 unfold Q0;rw[h1,xl,h2,xl,B];rfl
theorem me (g:D->Bool) (caps:List Sl) (fs:vO_):∀ds:List D,(∀d∈ds,fc #[.v d::caps,fs]=some (g d,#[.v d::caps,fs]))->D3 (fun d=>some (.v d::caps)) fc (dV 0) ds fs=some (ds.filter g,fs)
 |[],_=>rfl
 |d::r,h=>by
  have B:=me g caps fs r fun x J=>h x (JH _ J)
  rw[D3,xl,h d (JL ..),xl,List.filter_cons];cases g d with
  |true=>
   rw[iO rfl,iO rfl];show ((D3 (fun d=>some (.v d::caps)) fc (dV 0) r fs).map fun z=>(d::z.1,z.2))=_;rw[B];rfl
  |false=>rw[iR JQ,iR JQ];exact B
def nM {w:Str}:r8 (.str w) (.str w)=some (.bl false):=by
 have:r8 (.str w) (.str w)=some (.bl (!decide (w=w))):=rfl;rw[this,JJ rfl];rfl
def Aw (w:Str):Prop:=G6 w/\w.length<=20
def wR:Aw "shape" := #[Q5 (by decide +kernel),by decide +kernel]
def qt:Aw "place" := #[Q5 (by decide +kernel),by decide +kernel]
def wX {s:DS}{R:vD_}(h:fi s=some (ds,s1)) (hz:ds.length<=sizeLine) (c:D3 (fun d=>some (.v d::X6 idx s1.sl)) fc fe ds s1.fs=some (R,fs')):K6 idx fi fc fe s=some (R,{ s1 with fs:=fs' }):=by
 unfold K6;rw[h,xl];simp only[iO hz,c,Nc]
def rR {mk:D->Option (List Sl)}{x:D}{r R:vD_}{fs:vO_}{s:DS}(h1:mk d=some sl) (h2:fe #[sl,fs]=some (x,s)) (B:D3 mk L8 fe r s.fs=some (R,fs')):D3 mk L8 fe (d::r) fs=some (x::R,fs'):=by
 rw[D3,h1,xl,show L8 #[sl,fs]=some (true,#[sl,fs]) from rfl,xl,iO rfl,h2,xl,B];rfl
def Dl {f:DE}{lo hi:DO}{s B:DS}{ds:List DL.D}{l h:Option Int}(e:f s=some (.tup ds,s1)) (U:lo s1=some (l,s2)) (J:hi s2=some (h,B)):J9 f lo hi s=some (.tup (E2 ds l h),B):=by
 unfold J9;rw[e];show (lo s1).bind _=_;rw[U];show (hi s2).bind _=_;rw[J];rfl
def Ed (d:D):Prop:=∃i:Int,d = .int i/\0<=i/\i<48
def Ed.th (h:Ed d):Th 130 0 d:=by
 obtain⟨i,rfl,B,h1⟩:=h;show Bd 130 i;exact(iu ∅:Bd 6 i).mono #[]
theorem ph:∀(Ss:List (List Pt)) {n:Nat}{f:FS},(∀A∈Ss,SkA A)->Fd n f->n+Ss.length<2 ^ 28->∃E f',D3 (fun d=>some (.v d::[.v .feed])) L8 (d8 A3 (a8 (dV 1) (a8 (i5 (one i6) (a8 (dL 0) a9)) a9))) (Ss.map i7) (some f)=some (E,some f')/\(∀r∈E,Ed r)/\E.length=Ss.length/\Fd (n+Ss.length) f'
 |[],n,f,_,h,_=>#[[],f,rfl,fun r hr=>(JZ hr).elim,rfl,h]
 |A::r,n,f,hS,h,hn=>by
  rw[JO] at hn;have J:=hS A (JL ..);have lo:=J.lo;have hi:=J.hi;obtain⟨i,f1,e1,Y,a2,h1⟩:=G7 (A.length:Int) h ∅ ∅ ∅;obtain⟨R,f3,e3,U,c2,Z⟩:=ph r (fun z B=>hS z (JH _ B)) h1 ∅;have l:one i6 [i7 A]=some (.int (A.length:Int)):=by
   show some (D.int ((A.map pt).length:Int))=_;rw[JR]
  refine#[.int i::R,f3,?_,?_,by rw[JO,JO,c2],Z.mono (by rw[JO];omega)]
  .rw[JS];exact rR rfl (J0 (k9 rfl (k9 (B7 rfl l) rfl)) e1) e3
  .intro z B;rcases xo.mp B with rfl | B
   .exact#[i,rfl,Y,by omega]
   .exact U z B
def fJ (A:vT_) (p:Pt):D->Bool
 |.int n=>decide (w9 (d9 (tk A n.toNat) (tk A (n.toNat+1)) p)<0)
 |_=>false
def bj (A:vT_) (p:Pt):List D:=(A2 0 A.length).filter (fJ A p)
def Ek {A:vT_}(B:SkA A) :∀d∈bj A p,Ed d:=fun d J=>by
 obtain⟨i,hi⟩:=LY (MQ.mp J).1;obtain⟨rfl,U⟩:=bM hi;have:=B.hi;exact#[_,rfl,by omega,by omega]
def Iw {A:vT_}(B:SkA A) :(bj A p).length<=48:=by
 have:=Pu (fJ A p) (A2 0 A.length);rw[Q1] at this;have:=B.hi;unfold bj;omega
def AR {A:vT_}(hA:SkA A) (hp:Ps 1900 p) {X:D}(ix:d6 X (.int (j:Int))=some (i7 A)) (B U x5 J Z Y:Sl) (fs:vO_) :
  K6 [2,1,4] (G8 (a8 (i5 (one i6) (a8 (c8 d6 (dL 1) (dL 4)) a9)) a9)) (dB (c8 (i9 (fun i j=>decide (i<j))) (c8 d6 (d8 E7 (a8 (c8 d6 (dL 2) (dL 3)) (a8 (dV 1) a9))) (dL 0)) (Pw 0))) (dV 0) #[[B,.v X,.v (pt p),U,.v (.int (j:Int)),x5,J,Z,Y],fs]=some (bj A p,#[[B,.v X,.v (pt p),U,.v (.int (j:Int)),x5,J,Z,Y],fs]):=by
 have lo:=hA.lo;have hi:=hA.hi;have l:one i6 [i7 A]=some (.int (A.length:Int)):=by
  show some (D.int ((A.map pt).length:Int))=_;rw[JR]
 have e2:=iD hA hp fs;have rg:N4 [.int (A.length:Int)]=some (A2 0 A.length):=ar ∅;have hz:(A2 0 A.length).length<=sizeLine:=by rw[Q1,Kk];omega
 have hr:G8 (a8 (i5 (one i6) (a8 (c8 d6 (dL 1) (dL 4)) a9)) a9) #[[B,.v X,.v (pt p),U,.v (.int (j:Int)),x5,J,Z,Y],fs]=some (A2 0 A.length,#[[B,.v X,.v (pt p),U,.v (.int (j:Int)),x5,J,Z,Y],fs]):=by
  unfold G8;rw[show a8 (i5 (one i6) (a8 (c8 d6 (dL 1) (dL 4)) a9)) a9 #[[B,.v X,.v (pt p),U,.v (.int (j:Int)),x5,J,Z,Y],fs]=some ([.int (A.length:Int)],#[[B,.v X,.v (pt p),U,.v (.int (j:Int)),x5,J,Z,Y],fs]) from k9 (B7 (k9 (d7 rfl rfl ix) rfl) l) rfl,xl];show (N4 [.int (A.length:Int)]).map _=_;rw[rg];rfl
 refine jG hr hz ?_;refine me (fJ A p) [.v (pt p),.v X,.v (.int (j:Int))] fs (A2 0 A.length) fun d hd=>?_
 obtain⟨i,hi⟩:=LY hd;obtain⟨rfl,il⟩:=bM hi;rw[NK];have s1:d6 (.lst ((K7 A p).map D.int)) (.int (i:Int))=some (.int (w9 (d9 (tk A i) (tk A (i+1)) p))):=(F8 _ _).trans (dY (by rw[KI,kS il];rfl));have v:fJ A p (.int (i:Int))=decide (w9 (d9 (tk A i) (tk A (i+1)) p)<0):=by simp only[fJ,Ku]
 rw[v];generalize E7=m at *;generalize i7 A=S at *;exact B6 (d7 (d7 (w8 (k9 (d7 rfl rfl ix) (k9 rfl rfl)) e2) rfl s1) rfl rfl)
def zi {E:vD_}{n:Nat}(h:n<E.length):(E.take n++d::E.drop (n+1)).length=E.length:=by
 rw[Ke,JO,Kx,Km];omega
def yY {E:vD_}{n:Nat}(h:∀r∈E,Ed r) (J:Ed d):∀r∈E.take n++d::E.drop (n+1),Ed r:=fun r B=>by
 rcases JP.mp B with q | q
 .exact h r (Mm q)
 .rcases xo.mp q with rfl | q
  .exact J
  .exact h r (Mb q)
abbrev ee:DM:=mC (M0 64) E7 A3
def Ao {n:Nat}{f:FS}(h:Fd n f) (hn:n<2 ^ 27) {A:vT_}(hA:SkA A) (hp:Ps 1900 p) {X:D}(ix:d6 X (.int (j:Int))=some (i7 A)) {E:vD_}(hE:∀r∈E,Ed r) (jE:j<E.length) (x5 B U J:Sl) :
  ∃E' y5 f',ee #[[.v .feed,.v X,.v (pt p),.own E,.v (.int (j:Int)),x5,B,U,J],some f]=some (.next,#[[.v .feed,.v X,.v (pt p),.own E',.v (.int (j:Int)),y5,B,U,J],some f'])/\(∀r∈E',Ed r)/\E'.length=E.length/\Fd (n+2) f':=by
 have e1:=AR hA hp ix (.v .feed) (.own E) x5 B U J (some f);have o1:=Ek hA (p:=p);have o2:=Iw hA (p:=p);have Z:=jA (b:=130) (k:=0) (bj A p) (fun d hd=>(o1 d hd).th) #[] #[];have st:E4 5 (K6 [2,1,4] (G8 (a8 (i5 (one i6) (a8 (c8 d6 (dL 1) (dL 4)) a9)) a9)) (dB (c8 (i9 (fun i j=>decide (i<j))) (c8 d6 (d8 E7 (a8 (c8 d6 (dL 2) (dL 3)) (a8 (dV 1) a9))) (dL 0)) (Pw 0))) (dV 0)) #[[.v .feed,.v X,.v (pt p),.own E,.v (.int (j:Int)),x5,B,U,J],some f]=some (.next,#[[.v .feed,.v X,.v (pt p),.own E,.v (.int (j:Int)),.own (bj A p),B,U,J],some f]):=eR e1 (by decide:5<9) rfl;generalize bj A p=O at *;unfold ee mC;by_cases c:O=[]
 .rw[JJ c] at Z;refine#[E,.own O,f,A7 st (D1 (jk (K2 rfl (T5 (X7 rfl (Ko _))) Z))),hE,rfl,h.mono ∅]
 .rw[JM c] at Z;obtain⟨r,f1,e2,a1,a2,h1⟩:=G7 6 h;have nl:dB (c8 r8 (dL 5) (j8 (j9 a9))) #[[.v .feed,.v X,.v (pt p),.own E,.v (.int (j:Int)),.own O,B,U,J],some f]=some (true,#[[.v .feed,.v X,.v (pt p),.own E,.v (.int (j:Int)),.own O,B,U,J],some f]):=K2 rfl (T5 (X7 rfl (Ko _))) Z;have cm:dB (c8 (i9 (fun i j=>decide (j<i))) (d8 A3 (a8 (dV 0) (a8 (Pw 6) a9))) (Pw 0)) #[[.v .feed,.v X,.v (pt p),.own E,.v (.int (j:Int)),.own O,B,U,J],some f]=some (decide (0<r),#[[.v .feed,.v X,.v (pt p),.own E,.v (.int (j:Int)),.own O,B,U,J],some f1]):=B6 (d7 (J0 rfl e2) rfl rfl);by_cases c2:0<r
  .rw[JJ c2] at cm;have ol:0<O.length:=List.length_pos_iff.mpr c;obtain⟨q,Y,e3,b1,b2,h2⟩:=G7 (O.length:Int) h1 ∅ ∅ ∅;obtain⟨w,hw,hr⟩:=bS (xs:=O) b1 b2;have iw:d6 (.lst O) (.int q)=some w:=(F8 _ _).trans hr;have lo:one i6 [.lst O]=some (.int (O.length:Int)):=rfl;refine#[E.take j++w::E.drop (j+1),.own O,Y,A7 st ((M9 (af nl cm)).trans ?_),yY hE (o1 w hw),zi jE,h2];have ev:c8 d6 (dL 5) (d8 A3 (a8 (dV 0) (a8 (i5 (one i6) (a8 (dL 5) a9)) a9))) #[[.v .feed,.v X,.v (pt p),.own E,.v (.int (j:Int)),.own O,B,U,J],some f1]=some (w,#[[.v .feed,.v X,.v (pt p),.own E,.v (.int (j:Int)),.own O,B,U,J],some Y]):=d7 rfl (J0 (k9 rfl (k9 (B7 rfl lo) rfl)) e3) iw;unfold jc;rw[ev,xl];have nj:jm #[[.v .feed,.v X,.v (pt p),.own E,.v (.int (j:Int)),.own O,B,U,J],some Y] 4=some j:=by
    show (if (0:Int)<=(j:Int) then some ((j:Int).toNat) else none)=_;rw[iO ∅,Ku]
   rw[show hZ #[[.v .feed,.v X,.v (pt p),.own E,.v (.int (j:Int)),.own O,B,U,J],some Y] 3=some E from rfl,xl,nj,xl,iO jE];rfl
  .rw[JM c2] at cm;exact#[E,.own O,f1,A7 st (D1 (af nl cm)),hE,rfl,h1.mono ∅]
def vN {W V:vD_}(h:W.length+V.length<=sizeLine):S8 (.lst W) (.lst V)=some (W++V):=iO h
theorem mG {n:Nat}:∀{ds:vD_},(∀d∈ds,bk d<=n)->E5 ds<=ds.length*(n+1)
 |[],_=>Ko _
 |d::r,h=>by
  have a:=h d (JL ..);have b:=mG fun z B=>h z (JH _ B)
  rw[G9,JO,Nat.add_mul];omega
def ay (d:D):Prop:=Th 132 4 d/\bk d<=1000
def Cz {n:Nat}{f:FS}(h:Fd n f) (hn:n<2 ^ 26) (hS:∀A∈Ss,SkA A) (lS:Ss.length<=3) (hp:Ps 1900 p) {E:vD_}(Z:∀r∈E,Ed r) (lE:E.length=Ss.length) (x4 x5 B U J:Sl) :
  ∃E' y4 y5 f',X9 (a8 (i5 (one i6) (a8 (dL 1) a9)) a9) (i0 4) ee #[[.v .feed,.v (.tup (Ss.map i7)),.v (pt p),.own E,x4,x5,B,U,J],some f]=some (.next,#[[.v .feed,.v (.tup (Ss.map i7)),.v (pt p),.own E',y4,y5,B,U,J],some f'])/\(∀r∈E',Ed r)/\E'.length=Ss.length/\Fd (n+6) f':=by
 have rg:N4 [.int (Ss.length:Int)]=some (A2 0 Ss.length):=ar ∅;obtain⟨s',e,E',y4,y5,f',rfl,hE',lE',Y⟩:=fF (t:=i0 4) (b:=ee) (fun i s=>∃E y4 y5 f,s=#[[.v .feed,.v (.tup (Ss.map i7)),.v (pt p),.own E,y4,y5,B,U,J],some f]/\(∀r∈E,Ed r)/\E.length=Ss.length/\Fd (n+2*i) f) (A2 0 Ss.length) 0
  #[[.v .feed,.v (.tup (Ss.map i7)),.v (pt p),.own E,x4,x5,B,U,J],some f] #[E,x4,x5,f,rfl,Z,lE,h] (by
   rintro i d s hd ⟨E,y4,y5,f,rfl,Z,lE,Y⟩;obtain⟨rfl,hi⟩:=bM hd;rw[Mo] at *;have g:Ss[i]? = some Ss[i]:=Kf hi;obtain⟨E',y5',f',e,a,b,c⟩:=Ao Y ∅ (hS _ (Ma hi)) hp (bU g) Z ∅ y5 B U J;refine#[#[[.v .feed,.v (.tup (Ss.map i7)),.v (pt p),.own E,.v (.int (0+(i:Int))),y5,B,U,J],some f],_,rfl,.inl ?_,E',.v (.int (i:Int)),y5',f',rfl,a,by omega,c.mono ∅];rw[NK];exact e)
 rw[Mo,Q1] at Y;exact#[E',y4,y5,f',(kP (k9 (B7 rfl (dN Ss)) rfl) rg).trans e,hE',lE',Y.mono ∅]
def iZ (Ss:List (List Pt)) (p:Pt):D->Bool
 |.int k=>decide (0<=P4 (K7 ((Ss[k.toNat]?).getD []) p))
 |_=>false
def Bz (hS:∀A∈Ss,SkA A) (lS:Ss.length<=3) (hp:Ps 1900 p) (Y x3 B x5 Z U J:Sl) (fs:vO_) :
  ∃I,K6 [2,1] (G8 (a8 (i5 (one i6) (a8 (dL 1) a9)) a9)) (dB (c8 (i9 (fun i j=>decide (j<=i))) (i5 (one bI) (a8 (d8 E7 (a8 (c8 d6 (dL 2) (dL 0)) (a8 (dV 1) a9))) a9)) (Pw 0))) (dV 0) #[[Y,.v (.tup (Ss.map i7)),.v (pt p),x3,B,x5,Z,U,J],fs]=some (I,#[[Y,.v (.tup (Ss.map i7)),.v (pt p),x3,B,x5,Z,U,J],fs])/\(∀d∈I,Ed d)/\I.length<=3:=by
 have rg:N4 [.int (Ss.length:Int)]=some (A2 0 Ss.length):=ar ∅;have hz:(A2 0 Ss.length).length<=sizeLine:=by rw[Q1,Kk];omega
 have ls:=dN Ss;have cm:=me (fc:=dB (c8 (i9 (fun i j=>decide (j<=i))) (i5 (one bI) (a8 (d8 E7 (a8 (c8 d6 (dL 2) (dL 0)) (a8 (dV 1) a9))) a9)) (Pw 0))) (iZ Ss p) [.v (pt p),.v (.tup (Ss.map i7))] fs (A2 0 Ss.length) fun d hd=>by
  obtain⟨i,hi⟩:=LY hd;obtain⟨rfl,il⟩:=bM hi;rw[NK];have g:Ss[i]? = some Ss[i]:=Kf il;have sA:=hS _ (Ma il);have e2:=iD sA hp fs;have mn:=vD (is:=K7 Ss[i] p) (by unfold K7;rw[JR,OJ];have:=sA.lo;omega);have ix:=bU g;have v:iZ Ss p (.int (i:Int))=decide (0<=P4 (K7 Ss[i] p)):=by simp only[iZ,Ku,g,OI]
  rw[v];generalize E7=m at *;generalize i7 Ss[i]=S at *;exact B6 (d7 (B7 (k9 (w8 (k9 (d7 rfl rfl ix) (k9 rfl rfl)) e2) rfl) mn) rfl rfl)
 have hr:G8 (a8 (i5 (one i6) (a8 (dL 1) a9)) a9) #[[Y,.v (.tup (Ss.map i7)),.v (pt p),x3,B,x5,Z,U,J],fs]=some (A2 0 Ss.length,#[[Y,.v (.tup (Ss.map i7)),.v (pt p),x3,B,x5,Z,U,J],fs]):=by
  unfold G8;rw[show a8 (i5 (one i6) (a8 (dL 1) a9)) a9 #[[Y,.v (.tup (Ss.map i7)),.v (pt p),x3,B,x5,Z,U,J],fs]=some ([.int (Ss.length:Int)],#[[Y,.v (.tup (Ss.map i7)),.v (pt p),x3,B,x5,Z,U,J],fs]) from k9 (B7 rfl ls) rfl,xl];show (N4 [.int (Ss.length:Int)]).map _=_;rw[rg];rfl
 refine#[_,jG hr hz cm,fun d hd=>?_,?_]
 .obtain⟨i,hi⟩:=LY (MQ.mp hd).1;obtain⟨rfl,il⟩:=bM hi;exact#[_,rfl,by omega,by omega]
 .have:=Pu (iZ Ss p) (A2 0 Ss.length);rw[Q1] at this;omega
def Eb {E:vD_}(h:∀r∈E,Ed r):E5 E=E.length:=by
 induction E with
 |nil=>rfl
 |cons d r B=>
  obtain⟨i,e,_⟩:=h d (JL ..);rw[G9,B fun z J=>h z (JH _ J),e,T7,JO];omega
def cF {w:Str}(a:G6 w) (l:w.length<=5) {E:vD_}(h:∀r∈E,Ed r) (J:E.length<=10):Th 130 2 (.tup [.str w,.tup E])/\bk (.tup [.str w,.tup E])<=20:=by
 refine#[?_,?_]
 .show Th 130 1 (.str w)/\Th 130 1 (.tup E)/\True;exact#[a,Ths.of fun r B=>(h r B).th,trivial]
 .rw[M7,G9,G9,V4,ag,M7,Eb h];omega
def gs {w:Str}(a:G6 w) (l:w.length<=5) (h:Ed d):Th 130 2 (.tup [.str w,d])/\bk (.tup [.str w,d])<=20:=by
 refine#[?_,?_]
 .show Th 130 1 (.str w)/\Th 130 1 d/\True;exact#[a,Th.mono (tx _) _ #[] h.th,trivial]
 .obtain⟨i,rfl,_⟩:=h;rw[M7,G9,G9,V4,ag,T7];omega
def ae (h:Th 130 2 d/\bk d<=20):ay d:=#[Th.mono #[] _ #[] h.1,by have:=h.2;omega]
def yp (E:vD_):E2 E (some 1) none=E.drop 1:=by
 cases E with
 |nil=>rfl
 |cons d r=>exact lj (d::r) 1 (by rw[JO];omega)
abbrev Y5:c9:=vX (M0 64) E7 A3
abbrev Cm:DA:=j9 (a8 (dV 6) (a8 (i4 (a8 (dC (.str "in")) (a8 (c8 d6 (j8 (Q0 S8 (dL 7) (j8 (j9 (a8 (Pw 0) a9))))) (Pw 0)) a9))) (a8 (i4 (a8 (dC (.str "in")) (a8 (i5 (one i6) (a8 (dL 1) a9)) a9))) (a8 (i4 (a8 (dC (.str "out")) (a8 (J9 (Px 6 1) (K9 (Pw 1)) L9) a9))) (a8 (i4 (a8 (dC (.str "out")) (a8 (c8 n8 (Px 6 1) (i4 (a8 (Pw 0) a9))) a9))) a9)))))
abbrev Df (m1:c9):DA:=j9 (a8 (i4 (a8 (dC (.str "in")) (a8 (Px 6 1) a9))) (a8 (i4 (a8 (dC (.str "out")) (a8 (Pw 0) a9))) (a8 (d8 m1 (a8 (dV 0) (a8 (dV 6) a9))) (a8 (d8 m1 (a8 (dV 0) (a8 (d8 m1 (a8 (dV 0) (a8 (dV 6) a9))) a9))) a9))))
def ai (E:vD_) (x:D) (n:Int):List D:=[.tup [.str "out",.tup E],.tup [.str "in",x],.tup [.str "in",.int n],.tup [.str "out",.tup (E.drop 1)],.tup [.str "out",.tup (E++[.int 0])]]
def cD (E:vD_) (B J:D):List D:=[.tup [.str "in",.tup E],.tup [.str "out",.int 0],B,J]
section
variable {m1:c9}
def Dp {X P x:D}{E I:vD_}{fs:vO_}{n:Int}(U Z J Y B:Sl) (ls:one i6 [X]=some (.int n)) (ix:d6 (.lst (I++[.int 0])) (.int 0)=some x) (lI:I.length+1<=sizeLine) (lE:E.length+1<=sizeLine) :
  Cm #[[U,.v X,.v P,Z,J,Y,.v (.tup [.str "out",.tup E]),.own I,B],fs]=some (ai E x n,#[[U,.v X,.v P,Z,J,Y,.v (.tup [.str "out",.tup E]),.own I,B],fs]):=by
 have l1:(1:Nat)<=sizeLine:=by decide
 have l5:(5:Nat)<=sizeLine:=by decide
 have ad:n8 (.tup E) (.tup [.int 0])=some (.tup (E++[.int 0])):=iO lE;have h2:i4 (a8 (dC (.str "in")) (a8 (c8 d6 (j8 (Q0 S8 (dL 7) (j8 (j9 (a8 (Pw 0) a9))))) (Pw 0)) a9)) #[[U,.v X,.v P,Z,J,Y,.v (.tup [.str "out",.tup E]),.own I,B],fs]=some (.tup [.str "in",x],#[[U,.v X,.v P,Z,J,Y,.v (.tup [.str "out",.tup E]),.own I,B],fs]):=D5 rfl (d7 (T5 (ic rfl (T5 (X7 (o6 rfl rfl) l1)) (vN lI))) rfl ix);have h4:i4 (a8 (dC (.str "out")) (a8 (J9 (Px 6 1) (K9 (Pw 1)) L9) a9)) #[[U,.v X,.v P,Z,J,Y,.v (.tup [.str "out",.tup E]),.own I,B],fs]=some (.tup [.str "out",.tup (E.drop 1)],#[[U,.v X,.v P,Z,J,Y,.v (.tup [.str "out",.tup E]),.own I,B],fs]):=by
  rw[<-yp];exact D5 rfl (Dl (d7 rfl rfl rfl) rfl rfl)
 have h5:i4 (a8 (dC (.str "out")) (a8 (c8 n8 (Px 6 1) (i4 (a8 (Pw 0) a9))) a9)) #[[U,.v X,.v P,Z,J,Y,.v (.tup [.str "out",.tup E]),.own I,B],fs]=some (.tup [.str "out",.tup (E++[.int 0])],#[[U,.v X,.v P,Z,J,Y,.v (.tup [.str "out",.tup E]),.own I,B],fs]):=D5 rfl (d7 (d7 rfl rfl rfl) (md rfl) ad);exact X7 (o6 rfl (o6 h2 (o6 (D5 rfl (B7 rfl ls)) (o6 h4 (o6 h5 rfl))))) l5
def Ey {X P b1 b2 b3:D}{E:vD_}{f f1 f2 f3:FS}(Z U Y J B:Sl) (e1:m1 [.feed,.tup [.str "out",.tup E]] (some f)=some (b1,some f1)) (e2:m1 [.feed,.tup [.str "out",.tup E]] (some f1)=some (b2,some f2)) (e3:m1 [.feed,b2] (some f2)=some (b3,some f3)) :
  Df m1 #[[.v .feed,.v X,.v P,Z,U,Y,.v (.tup [.str "out",.tup E]),J,B],some f]=some (cD E b1 b3,#[[.v .feed,.v X,.v P,Z,U,Y,.v (.tup [.str "out",.tup E]),J,B],some f3]):=by
 have l4:(4:Nat)<=sizeLine:=by decide
 have h1:i4 (a8 (dC (.str "in")) (a8 (Px 6 1) a9)) #[[.v .feed,.v X,.v P,Z,U,Y,.v (.tup [.str "out",.tup E]),J,B],some f]=some (.tup [.str "in",.tup E],#[[.v .feed,.v X,.v P,Z,U,Y,.v (.tup [.str "out",.tup E]),J,B],some f]):=D5 rfl (d7 rfl rfl rfl);exact X7 (o6 h1 (o6 (D5 rfl rfl) (o6 (J0 rfl e1) (o6 (cw (o6 rfl (o6 (J0 rfl e2) rfl)) e3) rfl)))) l4
end
def yL {E:vD_}(B:∀r∈E,Ed r) (lE:E.length<=3) {x:D}(hx:Ed x) {n:Nat}(hn:n<=3) (Z:ay b1) (g3:ay b3):∀d∈ai E x (n:Int)++cD E b1 b3,ay d:=fun d hd=>by
 have J:(("in" : Str)).length<=5:=by decide +kernel
 have lo:(("out" : Str)).length<=5:=by decide +kernel
 have Y:Ed (.int 0):=#[0,rfl,by decide,by decide]
 rcases JP.mp hd with q | q
 .simp only[ai,xo,JZ,Ka] at q;rcases q with rfl | rfl | rfl | rfl | rfl
  .exact ae (cF aa lo B ∅)
  .exact ae (gs aG J hx)
  .exact ae (gs aG J #[_,rfl,by omega,by omega])
  .exact ae (cF aa lo (fun r U=>B r (Mb U)) (by rw[Km];omega))
  .exact ae (cF aa lo (fun r U=>by
    rcases JP.mp U with q | q
    .exact B r q
    .rw[JK.mp q];exact Y) (by rw[Ke,Ll];omega))
 .simp only[cD,xo,JZ,Ka] at q;rcases q with rfl | rfl | rfl | rfl
  .exact ae (cF aG J B ∅)
  .exact ae (gs aa lo Y)
  .exact Z
  .exact g3
def EU {n:Nat}{f:FS}(h:Fd n f) (hn:n<2 ^ 25) (hS:∀A∈Ss,SkA A) (lS:Ss.length<=3) (hp:Ps 1900 p):∃W f',Y5 [.feed,.tup (Ss.map i7),pt p] (some f)=some (.lst W,some f')/\(∀d∈W,ay d)/\Fd (n+60) f':=by
 refine gB_ fun G_ g_=>?_
 obtain⟨E,f1,e1,hE,lE,h1⟩:=ph Ss hS h ∅;obtain⟨J,Z,U,f2,e2,hE',lE',h2⟩:=Cz h1 ∅ hS lS hp hE lE .no .no .no .no .no;obtain⟨I,e3,hI,lI⟩:=Bz hS lS hp (.v .feed) (.own J) Z U (.v (.tup [.str "out",.tup J])) .no .no (some f2);have lo:(("out" : Str)).length<=5:=by decide +kernel
 obtain⟨gt,gb⟩:=cF aa lo hE' ∅;obtain⟨b1,f3,e4,t4,k4,h3⟩:=gD 64 _ #[] #[] gt #[] #[] ∅ h2 ∅;obtain⟨b2,f4,e5,t5,k5,h4⟩:=gD 64 _ #[] #[] gt #[] #[] ∅ h3 ∅;obtain⟨b3,f5,e6,t6,k6,h5⟩:=gD 64 b2 #[] #[] t5 #[] #[] ∅ h4 ∅;obtain⟨x,hx,ix⟩:∃x,Ed x/\d6 (.lst (I++[.int 0])) (.int 0)=some x:=by
  cases I with
  |nil=>exact#[_,#[0,rfl,by decide,by decide],rfl]
  |cons d r=>exact#[d,hI d (JL ..),(F8 _ _).trans (sZ (n:=0) rfl)]
 have ls:=dN Ss;have lz:(Ss.map i7).length<=sizeLine:=by rw[JR,Kk];omega
 have A:=Dp (X:=.tup (Ss.map i7)) (P:=pt p) (fs:=some f2) (.v .feed) (.own J) Z U .no ls ix (by rw[Kk];omega) (by rw[Kk];omega) (E:=J);have B:=Ey (m1:=M0 64) (X:=.tup (Ss.map i7)) (P:=pt p) (.own J) Z U (.own I) (.own (ai J x (Ss.length:Int))) e4 e5 e6;have tp:one bK [.lst J]=some (.tup J):=rfl;apply g_;refine#[ai J x (Ss.length:Int)++cD J b1 b3,f5,?_,yL hE' ∅ hx lS #[Th.mono #[] _ #[] t4,by omega] #[Th.mono #[] _ #[] t6,by omega],h5.mono ∅];have la:(ai J x (Ss.length:Int)).length+(cD J b1 b3).length<=sizeLine:=by show 5+4<=sizeLine;decide
 refine y9 (s:=#[[.v .feed,.v (.tup (Ss.map i7)),.v (pt p),.own J,Z,U,.v (.tup [.str "out",.tup J]),.own I,.own (ai J x (Ss.length:Int))],some f5]) ?_;show jX (M0 64) E7 A3 #[[.v .feed,.v (.tup (Ss.map i7)),.v (pt p),.no,.no,.no,.no,.no,.no],some f]=_;unfold jX;unfold ee at e2;generalize ai J x (Ss.length:Int)=Wa at *;generalize cD J b1 b3=Wb at *;generalize M0 64=m1 at *;generalize E7=m2 at *;refine A7 (s1:=#[[.v .feed,.v (.tup (Ss.map i7)),.v (pt p),.own E,.no,.no,.no,.no,.no],some f1]) ?_ (A7 e2 ?_)
 .generalize Ss.map i7=Y at *;exact eR (wX (s1:=#[[.v .feed,.v (.tup Y),.v (pt p),.no,.no,.no,.no,.no,.no],some f]) rfl lz e1) (by decide:3<9) rfl
 refine A7 (s1:=#[[.v .feed,.v (.tup (Ss.map i7)),.v (pt p),.own J,Z,U,.v (.tup [.str "out",.tup J]),.no,.no],some f2]) (B4 (D5 rfl (B7 rfl tp)) rfl) ?_;refine A7 (s1:=#[[.v .feed,.v (.tup (Ss.map i7)),.v (pt p),.own J,Z,U,.v (.tup [.str "out",.tup J]),.own I,.no],some f2]) (eR e3 (by decide:7<9) rfl) ?_;exact A7 (s1:=#[[.v .feed,.v (.tup (Ss.map i7)),.v (pt p),.own J,Z,U,.v (.tup [.str "out",.tup J]),.own I,.own Wa],some f2]) (eR A (by decide:8<9) rfl) (C7 (T5 (ic rfl (T5 B) (vN la))))
def kN {fd:vT_}(S:ShT fd):SkA fd:=#[S.lo,JN S.hi #[],fun z B=>(S.sz z B).ps.mono #[]]
theorem oN:∀(ds:vD_) {n:Nat}{f:FS},Fd n f->n+40*ds.length<2 ^ 25->∃Ss:List (List Pt),∃f',D3 (fun d=>some (.v d::[.v .feed])) L8 (d8 V6 (a8 (dV 1) a9)) ds (some f)=some (Ss.map i7,some f')/\(∀A∈Ss,ShT A)/\Ss.length=ds.length/\Fd (n+40*ds.length) f'
 |[],n,f,h,_=>#[[],f,rfl,fun r Y=>(JZ Y).elim,rfl,h]
 |d::ds,n,f,h,hn=>by
  rw[JO] at hn;obtain⟨A,f1,Z,S,h1⟩:=Gu h ∅;obtain⟨R,J,U,c1,c2,h3⟩:=oN ds h1 ∅;refine#[A::R,J,rR rfl (J0 rfl Z) U,?_,by rw[JO,JO,c2],h3.mono (by rw[JO];omega)];intro z B;rcases xo.mp B with rfl | B
  .exact S
  .exact c1 z B
def nW (B:∀A∈Ss,ShT A):Th 130 3 (.tup (Ss.map i7)):=by
 show Ths 130 2 (Ss.map i7);refine Ths.of fun d Z=>?_
 obtain⟨A,U,rfl⟩:=KR.mp Z;show Ths 130 1 (A.map pt);refine Ths.of fun z J=>?_
 obtain⟨p,Y,rfl⟩:=KR.mp J;exact GN ((B A U).sz p Y).ps #[]
def xS (B:∀A∈Ss,ShT A) (U:Ss.length<=3):bk (.tup (Ss.map i7))<=600:=by
 have a:∀d∈Ss.map i7,bk d<=164:=fun d Z=>by
  obtain⟨A,Y,rfl⟩:=KR.mp Z;show bk (.tup (A.map pt))<=164;rw[M7];have b:=mG (n:=3) (ds:=A.map pt) fun z J=>by
   obtain⟨p,hp,rfl⟩:=KR.mp J;exact tx 3
  rw[JR] at b;have:=(B A Y).hi;omega
 have b:=mG a;rw[JR] at b;rw[M7];have:Ss.length*(164+1)<=3*165:=Nat.mul_le_mul U (tx _);omega
def Ex {o:Option (Str × Nat)}(h:∀w k,o=some (w,k)->Aw w/\k<2 ^ 20):Th 131 1 (T2 o)/\bk (T2 o)<=40:=by
 cases o with
 |none=>exact#[by simp only[T2,Th],by decide]
 |some p=>
  obtain⟨w,k⟩:=p;obtain⟨a,b⟩:=h w k rfl;refine#[?_,?_]
  .simp only[T2,Th,Ths];exact#[a.1,(iu ∅:Bd 20 (k:Int)).mono #[],trivial]
  .show bk (.tup [.str w,.int (k:Int)])<=40;rw[M7,G9,G9,V4,ag,T7];have:=a.2;omega
def jU:Aw "number" := #[Q5 (by decide +kernel),by decide +kernel]
theorem tK {w:Str}{k:Nat}:∀(Ss:List (List Pt)) (rs:vD_) (j:Nat),T3 p Ss rs j=some (w,k)->Aw w/\k<j+Ss.length
 |[],_,_,h=>by cases h
 |_::_,[],_,h=>by cases h
 |A::Ss,r::rs,j,h=>by
  unfold T3 at h;by_cases c:N0 A.length r=true
  .rw[iO c] at h;by_cases B:Y0 A r [p]=true
   .rw[iO B] at h;obtain⟨a,b⟩:=tK Ss rs (j+1) h;exact#[a,by rw[JO];omega]
   .rw[iR B] at h;cases h;exact#[qt,by rw[JO];omega]
  .rw[iR c] at h;cases h;exact#[jU,by rw[JO];omega]
def DQ (lS:Ss.length<=50) (w:Str) (k:Nat) (h:M5 Ss p d=some (w,k)):Aw w/\k<2 ^ 20:=by
 have B:some (("shape" : Str),0)=some (w,k)->Aw w/\k<2 ^ 20:=fun q=>by cases q;exact#[wR,by decide]
 have nu:some (("number" : Str),0)=some (w,k)->Aw w/\k<2 ^ 20:=fun q=>by cases q;exact#[jU,by decide]
 by_cases t:T8 d=true
 .obtain⟨x,y,rfl⟩:=cX t;rw[U5] at h;by_cases U:C4 x "in" = true
  .rw[iO U] at h;cases y with
   |int i=>
    have h:(if 0<=i then Z0 Ss p i else some (("shape" : Str),0))=some (w,k):=h;by_cases c:0<=i
    .rw[iO c] at h;unfold Z0 at h;by_cases Z:i<(Ss.length:Int)
     .rw[iO Z] at h;by_cases c4:T4 ((Ss[i.toNat]?).getD []) p=true
      .rw[iO c4] at h;cases h
      .rw[iR c4] at h;cases h;exact#[qt,by decide]
     .rw[iR Z] at h;exact nu h
    .rw[iR c] at h;exact B h
   |_=>exact B h
  .rw[iR U] at h;by_cases Y:C4 x "out" = true
   .rw[iO Y] at h;cases y with
    |tup J=>
     have h:(if J.length=Ss.length then T3 p Ss J 0 else some (("number" : Str),0))=some (w,k):=h;by_cases c:J.length=Ss.length
     .rw[iO c] at h;obtain⟨a,b⟩:=tK Ss J 0 h;exact#[a,by omega]
     .rw[iR c] at h;exact nu h
    |_=>exact B h
   .rw[iR Y] at h;exact B h
 .rw[Kn] at t;rw[mR t] at h;exact B h
section
variable {m1 m2 m3 m4 m5 m6 m7 m8:c9}
def Jj {X P t:D}{w v:Str}{fs:vO_}(U x1 Y J x7 B:Sl) (e1:m1 [X,P,d] fs=some (t,fs)) (e2:m2 [X,P,d] fs=some (t,fs)) (Z:S3 (.tup [X,d])=some (.str w)) (r2:S3 t=some (.str v)) :
  iL m1 m2 m3 m4 m5 m6 m7 m8 #[[U,x1,Y,.v X,J,.v P,.v d,x7,B],fs]=some (.next,#[[U,x1,Y,.v X,J,.v P,.v d,.v (.str w),B],fs]):=by
 unfold iL;refine A7 (s1:=#[[U,x1,Y,.v X,J,.v P,.v d,.v (.str w),B],fs]) (B4 (B7 (k9 (D5 rfl rfl) rfl) Z) rfl) ?_;refine A7 (s1:=#[[U,x1,Y,.v X,J,.v P,.v d,.v (.str w),B],fs]) (D1 (K2 (B7 (k9 (w8 rfl e1) rfl) r2) (B7 (k9 (w8 rfl e2) rfl) r2) nM)) ?_;exact D1 (K2 (B7 (k9 (D5 rfl rfl) rfl) Z) rfl nM)
end
abbrev qX:DM:=iL X0 Y7 Y5 LG K4 A3 V6 X3
abbrev wA:DM:=mY X0 Y7 Y5 LG K4 A3 V6 X3
abbrev tB:DM:=fN X0 Y7 Y5 LG K4 A3 V6 X3
def BJ (J:∀A∈Ss,ShT A) (lS:Ss.length<=3) (hp:Ps 1900 p) (g:ay d) (fs:vO_) (Y x1 Z B x7 U:Sl) :
  ∃y7,qX #[[Y,x1,Z,.v (.tup (Ss.map i7)),B,.v (pt p),.v d,x7,U],fs]=some (.next,#[[Y,x1,Z,.v (.tup (Ss.map i7)),B,.v (pt p),.v d,y7,U],fs]):=by
 have hS:∀A∈Ss,SkA A:=fun A hA=>kN (J A hA)
 have e1:=oU hS hp g.1 #[] #[] fs;have e2:=HP hS ∅ hp g.1 #[] #[] fs;obtain⟨t,bz⟩:=Ex (o:=M5 Ss p d) (DQ ∅);have r2:S3 (T2 (M5 Ss p d))=some (.str (T2 (M5 Ss p d)).py.shown):=(Th.ok ∅ _ t).repr #[] ∅;have o1:Ok 4 600 (.tup (Ss.map i7)):=(Th.ok ∅ _ (nW J)).mono #[] (xS J lS);have o2:Ok 4 1000 d:=(Th.ok ∅ _ g.1).mono (tx _) g.2;have r1:=(Ok.tup (OkL.cons o1 (OkL.cons o2 OkL.nil))).repr #[] #[];exact#[_,Jj Y x1 Z B x7 U e1 e2 r1 r2]
def mi {n:Nat}{f:FS}(h:Fd n f) (hn:n<2 ^ 25) (hT:∀A∈Ss,ShT A) (lS:Ss.length<=3) (hp:Ps 1900 p) (J Y B Z x7 U:Sl) :
  ∃y6 y7 f',wA #[[J,.v .feed,Y,.v (.tup (Ss.map i7)),B,.v (pt p),Z,x7,U],some f]=some (.next,#[[J,.v .feed,Y,.v (.tup (Ss.map i7)),B,.v (pt p),y6,y7,U],some f'])/\Fd (n+60) f':=by
 obtain⟨W,f1,e1,g,h1⟩:=EU h hn (fun A hA=>kN (hT A hA)) lS hp;obtain⟨s',e,y6,y7,rfl⟩:=fF (t:=i0 6) (b:=qX) (fun _ s=>∃y6 y7,s=#[[J,.v .feed,Y,.v (.tup (Ss.map i7)),B,.v (pt p),y6,y7,U],some f1]) W 0
  #[[J,.v .feed,Y,.v (.tup (Ss.map i7)),B,.v (pt p),Z,x7,U],some f1] #[_,_,rfl] (by
   rintro i d s hd ⟨y6,y7,rfl⟩;obtain⟨z,e⟩:=BJ hT lS hp (g d (KC hd)) (some f1) J (.v .feed) Y B y7 U;exact#[#[[J,.v .feed,Y,.v (.tup (Ss.map i7)),B,.v (pt p),.v d,y7,U],some f1],_,rfl,.inl e,_,_,rfl])
 exact#[y6,y7,f1,(aK (s1:=#[[J,.v .feed,Y,.v (.tup (Ss.map i7)),B,.v (pt p),Z,x7,U],some f1]) (J0 rfl e1)).trans e,h1]
def BF {n:Nat}{f:FS}(h:Fd n f) (hn:n<2 ^ 26) (hS:∀A∈Ss,ShT A) (x0 x2 Y x5 x6 x7 x8:Sl) :
  ∃p f',v7 (dB (c8 r8 (dL 3) (i4 a9))) (c8 d6 (Px 3 0) (d8 A3 (a8 (dV 1) (a8 (i5 (one i6) (a8 (Px 3 0) a9)) a9)))) (d8 K4 (a8 (dV 1) a9)) #[[x0,.v .feed,x2,.v (.tup (Ss.map i7)),Y,x5,x6,x7,x8],some f]=some (pt p,#[[x0,.v .feed,x2,.v (.tup (Ss.map i7)),Y,x5,x6,x7,x8],some f'])/\PtS 16 p/\Fd (n+8) f':=by
 have B:=uj (Ss.map i7) (nW hS) #[] #[];have t0:∀s:DS,i4 a9 s=some (.tup [],s):=fun s=>rfl
 cases Ss with
 |nil=>
  obtain⟨p,f1,J,U,h1⟩:=jT h ∅;exact#[p,f1,(eU (K2 rfl (t0 _) B)).trans (J0 rfl J),U.mono #[],h1]
 |cons A r=>
  have S:=hS A (JL ..);have lo:=S.lo;have hi:=S.hi;have l:one i6 [i7 A]=some (.int (A.length:Int)):=by
   show some (D.int ((A.map pt).length:Int))=_;rw[JR]
  have ix:d6 (.tup ((A::r).map i7)) (.int 0)=some (i7 A):=bU (i:=0) rfl;obtain⟨q,f1,J,a1,a2,h1⟩:=G7 (A.length:Int) h ∅ ∅ ∅;obtain⟨w,hw,hr⟩:=bS (xs:=A.map pt) a1 (by rw[JR];exact a2);obtain⟨p,U,rfl⟩:=KR.mp hw;have iw:d6 (i7 A) (.int q)=some (pt p):=(L4 _ _).trans hr;have B:r8 (.tup ((A::r).map i7)) (.tup [])=some (.bl true):=B;generalize D.tup ((A::r).map i7)=X at *;generalize i7 A=Z at *;exact#[p,f1,(bR (K2 rfl (t0 _) B)).trans (d7 (d7 rfl rfl ix) (J0 (k9 rfl (k9 (B7 (k9 (d7 rfl rfl ix) rfl) l) rfl)) J) iw),S.sz p U,h1.mono ∅]
def GX {n:Nat}{f:FS}(h:Fd n f) (hn:n<2 ^ 23) (U Y x3 x4 x5 x6 Z J:Sl) :
  ∃y3 y4 y5 y6 y7 f',tB #[[U,.v .feed,Y,x3,x4,x5,x6,Z,J],some f]=some (.next,#[[U,.v .feed,Y,y3,y4,y5,y6,y7,J],some f'])/\Fd (n+400) f':=by
 refine gB_ fun G_ g_=>?_
 obtain⟨r,f1,e1,a1,a2,h1⟩:=G7 4 h;obtain⟨k,rfl⟩:=NI a1;obtain⟨Ss,f2,e2,hS,lS,h2⟩:=oN (A2 0 k) h1 (by rw[Q1];omega);rw[Q1] at lS h2;have hS':∀A∈Ss,SkA A:=fun A hA=>kN (hS A hA)
 obtain⟨p,f3,e3,hp,h3⟩:=BF h2 ∅ hS U Y x4 x5 x6 Z J;obtain⟨q,f4,e4,hq,h4⟩:=jT h3 ∅;have e5:=qY p 1000 7 (some f4) hp.x hp.y (show Sz 11 (1000:Rat) from Sz.lit (by decide +kernel)) (show Sz 11 (7:Rat) from Sz.lit (by decide +kernel)) #[];have hz:Ps 1900 (p.1+1000,p.2+7):=(PtS.ps (k:=28) (a:=(p.1+1000,p.2+7)) #[(hp.x.add (show Sz 11 (1000:Rat) from Sz.lit (by decide +kernel))).mono #[],(hp.y.add (show Sz 11 (7:Rat) from Sz.lit (by decide +kernel))).mono #[]]).mono #[];obtain⟨a6,a7,f5,e6,h5⟩:=mi h4 ∅ hS ∅ (hp.ps.mono #[]) U Y (.v (pt p)) x6 Z J;obtain⟨b6,b7,f6,e7,h6⟩:=mi h5 ∅ hS ∅ (hq.ps.mono #[]) U Y (.v (pt p)) a6 a7 J;obtain⟨c6,c7,f7,e8,h7⟩:=mi h6 ∅ hS ∅ hz U Y (.v (pt p)) b6 b7 J;apply g_;refine#[.v (.tup (Ss.map i7)),.v (pt p),.v (pt (p.1+1000,p.2+7)),c6,c7,f7,?_,h7.mono ∅];have rg:N4 [.int (k:Int)]=some (A2 0 k):=ar ∅;have lz:(A2 0 k).length<=sizeLine:=by rw[Q1,Kk];omega
 have f1000:fr (1000:Rat) = .tup [.int 1000,.int 1]:=by unfold fr;rw[show (1000:Rat).num=1000 by decide +kernel,show (1000:Rat).den=1 by decide +kernel];rfl
 have f7':fr (7:Rat) = .tup [.int 7,.int 1]:=by unfold fr;rw[show (7:Rat).num=7 by decide +kernel,show (7:Rat).den=1 by decide +kernel];rfl
 rw[f1000,f7'] at e5;have hr:G8 (a8 (d8 A3 (a8 (dV 1) (a8 (Pw 4) a9))) a9) #[[U,.v .feed,Y,x3,x4,x5,x6,Z,J],some f]=some (A2 0 k,#[[U,.v .feed,Y,x3,x4,x5,x6,Z,J],some f1]):=by
  unfold G8;rw[show a8 (d8 A3 (a8 (dV 1) (a8 (Pw 4) a9))) a9 #[[U,.v .feed,Y,x3,x4,x5,x6,Z,J],some f]=some ([.int (k:Int)],#[[U,.v .feed,Y,x3,x4,x5,x6,Z,J],some f1]) from o6 (J0 rfl e1) rfl,xl];show (N4 [.int (k:Int)]).map _=_;rw[rg];rfl
 have tp:one bK [.lst (Ss.map i7)]=some (.tup (Ss.map i7)):=rfl;show fN X0 Y7 Y5 LG K4 A3 V6 X3 _=_;unfold fN;unfold wA at e6 e7 e8;generalize mY X0 Y7 Y5 LG K4 A3 V6 X3=B at *;refine A7 (s1:=#[[U,.v .feed,Y,.v (.tup (Ss.map i7)),x4,x5,x6,Z,J],some f2]) ?_ ?_
 .exact B4 (B7 (o6 (T5 (wX hr lz e2)) rfl) tp) rfl
 generalize D.tup (Ss.map i7)=X at *;refine A7 (s1:=#[[U,.v .feed,Y,.v X,.v (pt p),x5,x6,Z,J],some f3]) (B4 e3 rfl) ?_;have l3:(3:Nat)<=sizeLine:=by decide
 have ls:j8 (j9 (a8 (dV 4) (a8 (d8 K4 (a8 (dV 1) a9)) (a8 (d8 LG (a8 (dV 4) (a8 (i4 (a8 (Pw 1000) (a8 (Pw 1) a9))) (a8 (i4 (a8 (Pw 7) (a8 (Pw 1) a9))) a9)))) a9)))) #[[U,.v .feed,Y,.v X,.v (pt p),x5,x6,Z,J],some f3]=some (.lst [pt p,pt q,pt (p.1+1000,p.2+7)],#[[U,.v .feed,Y,.v X,.v (pt p),x5,x6,Z,J],some f4]):=
  T5 (X7 (o6 rfl (o6 (J0 rfl e4) (o6 (w8 (k9 rfl (k9 (D5 rfl rfl) (k9 (D5 rfl rfl) rfl))) e5) rfl))) l3)
 refine(aK ls).trans ?_;refine(W9 (s1:=#[[U,.v .feed,Y,.v X,.v (pt p),.v (pt p),x6,Z,J],some f4]) rfl e6).trans ?_;refine(W9 (s1:=#[[U,.v .feed,Y,.v X,.v (pt p),.v (pt q),a6,a7,J],some f5]) rfl e7).trans ?_;exact(W9 (s1:=#[[U,.v .feed,Y,.v X,.v (pt p),.v (pt (p.1+1000,p.2+7)),b6,b7,J],some f6]) rfl e8).trans rfl
def S7:List D:=[.non,.tup [],.lst [.str "out",.tup []],.tup [.str "out",.lst []],.tup [.str "in",.bl true],.tup [.str "in",.int (-1)],.tup [.lst [.str "out"],.tup []],.tup [.str "out",.tup [],.tup []],.str "out"]
def gq:D:=.tup [.str "shape",.int 0]
def xO:∀d∈S7,ay d/\T2 (M5 [] (0,0) d)=gq:=fun d B=>by
 have bm:Bd 132 (-1):=(show Bd 3 (-1) from iu #[]).mono #[];simp only[S7,xo,JZ,Ka] at B;rcases B with rfl | rfl | rfl | rfl | rfl | rfl | rfl | rfl | rfl
 all_goals refine#[#[by simp only[Th,Ths,and_true,true_and,aG,aa,bm],by decide +kernel],?_]
 .rfl
 .rfl
 .rfl
 .rw[U5,iR (by decide +kernel),iO (by decide +kernel)];rfl
 .rw[U5,iO (by decide +kernel)];rfl
 .rw[U5,iO (by decide +kernel)];rfl
 .rfl
 .rfl
 .rfl
def qp (o:Ok 1 20 d) (q:PyData.eqv d.py d.py=true):r8 d d=some (.bl false)/\pEq d d=some (.bl true):=by
 have e:=o.eq #[];refine#[?_,?_]
 .have a:r8 d d=(if D0 d&&D0 d then some (D.bl (!PyData.eqv d.py d.py)) else none)\/∃w,d = .str w:=by
   cases d with
   |str w=>exact .inr #[w,rfl]
   |_=>exact .inl rfl
  rcases a with a | ⟨w,rfl⟩
  .rw[a,e,q];rfl
  .exact nM
 .have a:pEq d d=(if D0 d&&D0 d then some (D.bl (PyData.eqv d.py d.py)) else none)\/∃w,d = .str w:=by
   cases d with
   |str w=>exact .inr #[w,rfl]
   |_=>exact .inl rfl
  rcases a with a | ⟨w,rfl⟩
  .rw[a,e,q];rfl
  .have:DL.pEq (.str w) (.str w)=some (.bl (decide (w=w))):=rfl;rw[this,JJ rfl]
def oV {w:Str}(a:G6 w) (l:w.length<=10):Ok 1 20 (.tup [.str w,.int 0]):=by
 have t:Th 131 1 (.tup [.str w,.int 0]):=by
  simp only[Th,Ths];exact#[a,(show Bd 3 0 from iu #[]).mono #[],trivial]
 refine(Th.ok ∅ _ t).mono (tx _) ?_;rw[M7,G9,G9,V4,ag,T7];omega
section
variable {m1 m2 m3 m4 m5 m6 m7 m8:c9}
def zT {fs:vO_}(Y x1 x2 Z U J B:Sl) (e:m1 [.tup [],P,d] fs=some (gq,fs)) (n:r8 gq gq=some (.bl false)) :
  ja m1 m2 m3 m4 m5 m6 m7 m8 #[[Y,x1,x2,Z,U,.v P,.v d,J,B],fs]=some (.next,#[[Y,x1,x2,Z,U,.v P,.v d,J,B],fs]):=by
 have t0:∀s:DS,i4 a9 s=some (.tup [],s):=fun s=>rfl
 exact D1 (K2 (w8 (k9 (t0 _) (k9 rfl (k9 rfl rfl))) e) (D5 rfl rfl) n)
def xA {ns:List Int}{J f':FS}(Z:m8 [.scr ns] none=some (.feed,some J))
  (e:C6 (i0 2) (fN m1 m2 m3 m4 m5 m6 m7 m8) (A2 0 4) #[[.v (.scr ns),.v .feed,.no,.no,.no,.no,.no,.no,.no],some J]=some (.next,#[[.v (.scr ns),.v .feed,x2,x3,x4,x5,x6,x7,.no],some f']))
  (U:C6 (i0 6) (ja m1 m2 m3 m4 m5 m6 m7 m8) S7 #[[.v (.scr ns),.v .feed,x2,x3,x4,.v (.tup [.int 0,.int 0,.int 1]),x6,x7,.v (.lst S7)],some f']=some (.next,#[[.v (.scr ns),.v .feed,x2,x3,x4,.v (.tup [.int 0,.int 0,.int 1]),y6,x7,.v (.lst S7)],some f']))
  (a1:m1 [.tup [],.tup [.int 0,.int 0,.int 1],.tup [.str "out",.tup []]] (some f')=some (.bl true,some f')) (a2:m1 [.tup [],.tup [.int 0,.int 0,.int 1],.tup [.str "in",.int 0]] (some f')=some (.tup [.str "number",.int 0],some f')) (q:pEq (.tup [.str "number",.int 0]) (.tup [.str "number",.int 0])=some (.bl true)):gf m1 m2 m3 m4 m5 m6 m7 m8 [.scr ns] none=some (.bl true,some f'):=by
 have B:∀s:DS,i4 a9 s=some (.tup [],s):=fun s=>rfl
 have l1:(1:Nat)<=sizeLine:=by decide
 have l2:(2:Nat)<=sizeLine:=by decide
 have Y:(9:Nat)<=sizeLine:=by decide
 refine y9 (s:=#[[.v (.scr ns),.v .feed,x2,x3,x4,.v (.tup [.int 0,.int 0,.int 1]),y6,x7,.v (.lst S7)],some f']) ?_;show kZ m1 m2 m3 m4 m5 m6 m7 m8 #[[.v (.scr ns),.no,.no,.no,.no,.no,.no,.no,.no],none]=_;unfold kZ;refine A7 (s1:=#[[.v (.scr ns),.v .feed,.no,.no,.no,.no,.no,.no,.no],some J]) (B4 (J0 rfl Z) rfl) ?_;refine A7 (s1:=#[[.v (.scr ns),.v .feed,x2,x3,x4,x5,x6,x7,.no],some f']) ((kP rfl (ar (n:=4) #[])).trans e) ?_;refine A7 (s1:=#[[.v (.scr ns),.v .feed,x2,x3,x4,.v (.tup [.int 0,.int 0,.int 1]),x6,x7,.no],some f']) (B4 (nO rfl rfl rfl) rfl) ?_;have hl:j9 (a8 (dC .non) (a8 (i4 a9) (a8 (j8 (j9 (a8 (dC (.str "out")) (a8 (i4 a9) a9)))) (a8 (i4 (a8 (dC (.str "out")) (a8 (j8 (j9 a9)) a9))) (a8 (i4 (a8 (dC (.str "in")) (a8 (dC (.bl true)) a9))) (a8 (i4 (a8 (dC (.str "in")) (a8 (j4 w4 (Pw 1)) a9))) (a8 (i4 (a8 (j8 (j9 (a8 (dC (.str "out")) a9))) (a8 (i4 a9) a9))) (a8 (i4 (a8 (dC (.str "out")) (a8 (i4 a9) (a8 (i4 a9) a9)))) (a8 (dC (.str "out")) a9))))))))) #[[.v (.scr ns),.v .feed,x2,x3,x4,.v (.tup [.int 0,.int 0,.int 1]),x6,x7,.no],some f']=some (S7,#[[.v (.scr ns),.v .feed,x2,x3,x4,.v (.tup [.int 0,.int 0,.int 1]),x6,x7,.no],some f']):=
  X7 (o6 rfl (o6 (B _) (o6 (T5 (X7 (o6 rfl (o6 (B _) rfl)) l2)) (o6 (D5 rfl (T5 (X7 rfl (Ko _)))) (o6 (D5 rfl rfl) (o6 (D5 rfl (N5 rfl rfl)) (o6 (D5 (T5 (X7 (o6 rfl rfl) l1)) (B _)) (o6 (nO rfl (B _) (B _)) (o6 rfl rfl))))))))) Y
 generalize S7=L at *;refine A7 (s1:=#[[.v (.scr ns),.v .feed,x2,x3,x4,.v (.tup [.int 0,.int 0,.int 1]),x6,x7,.own L],some f']) (eR hl (by decide:8<9) rfl) ?_;refine A7 (s1:=#[[.v (.scr ns),.v .feed,x2,x3,x4,.v (.tup [.int 0,.int 0,.int 1]),y6,x7,.v (.lst L)],some f']) ((aK (ds:=L) (s1:=#[[.v (.scr ns),.v .feed,x2,x3,x4,.v (.tup [.int 0,.int 0,.int 1]),x6,x7,.v (.lst L)],some f']) rfl).trans U) ?_;exact C7 (bJ (d7 (w8 (k9 (B _) (k9 rfl (k9 (D5 rfl (B _)) rfl))) a1) rfl rfl) (d7 (w8 (k9 (B _) (k9 rfl (k9 (D5 rfl rfl) rfl))) a2) (D5 rfl rfl) q))
end
def math (ns:List Int) (hl:ns.length<=63):∃fs',gf X0 Y7 Y5 LG K4 A3 V6 X3 [.scr ns] none=some (.bl true,fs'):=by
 obtain⟨s',e,x2,J,U,x5,Z,Y,f',rfl,hf⟩:=fF (t:=i0 2) (b:=tB) (fun i s=>∃x2 J U x5 Z Y f,s=#[[.v (.scr ns),.v .feed,x2,J,U,x5,Z,Y,.no],some f]/\Fd (400*i) f) (A2 0 4) 0
  #[[.v (.scr ns),.v .feed,.no,.no,.no,.no,.no,.no,.no],some #[ns,0,0,0,0]] #[_,_,_,_,_,_,_,rfl,Fd.zero ns] (by
   rintro i d s hd ⟨x2,J,U,x5,Z,Y,f,rfl,hf⟩;obtain⟨rfl,hi⟩:=bM hd;obtain⟨y3,y4,y5,y6,y7,f',e,h'⟩:=GX hf ∅ (.v (.scr ns)) (.v (.int (0+(i:Int)))) J U x5 Z Y .no;exact#[#[[.v (.scr ns),.v .feed,.v (.int (0+(i:Int))),J,U,x5,Z,Y,.no],some f],_,rfl,.inl e,_,_,_,_,_,_,f',rfl,h'.mono ∅])
 have p0:Ps 1900 ((0,0):Pt):=#[Bd.lit (by decide +kernel),Bd.lit (by decide +kernel),Bd.lit (by decide +kernel)]
 have hN:∀A∈([]:List (List Pt)),SkA A:=fun A hA=>(JZ hA).elim
 have o1:=oV wR.1 (by decide +kernel:(("shape" : Str)).length<=10);have o2:=oV jU.1 (by decide +kernel:(("number" : Str)).length<=10);have s1:=(qp o1 (by decide +kernel)).1;have s2:=(qp o2 (by decide +kernel)).2;have B:∀{d:D},ay d->X0 [.tup [],.tup [.int 0,.int 0,.int 1],d] (some f')=some (T2 (M5 [] (0,0) d),some f'):=fun {d} g=>oU hN p0 g.1 #[] #[] (some f')
 obtain⟨z,e2,y6,rfl⟩:=fF (t:=i0 6) (b:=ja X0 Y7 Y5 LG K4 A3 V6 X3) (fun _ s=>∃y6,s=#[[.v (.scr ns),.v .feed,x2,J,U,.v (.tup [.int 0,.int 0,.int 1]),y6,Y,.v (.lst S7)],some f']) S7 0
  #[[.v (.scr ns),.v .feed,x2,J,U,.v (.tup [.int 0,.int 0,.int 1]),Z,Y,.v (.lst S7)],some f'] #[_,rfl] (by
   rintro i d s hd ⟨y6,rfl⟩;obtain⟨g,q⟩:=xO d (KC hd);have t:=B g;rw[q] at t;exact#[#[[.v (.scr ns),.v .feed,x2,J,U,.v (.tup [.int 0,.int 0,.int 1]),.v d,Y,.v (.lst S7)],some f'],_,rfl,.inl (zT _ _ _ _ _ _ _ t s1),_,rfl])
 have li:(("in" : Str)).length<=5:=by decide +kernel
 have lo:(("out" : Str)).length<=5:=by decide +kernel
 have a1:=B (ae (cF aa lo (E:=[]) (fun r hr=>(JZ hr).elim) #[]));have a2:=B (ae (gs aG li (d:=.int 0) #[0,rfl,by decide,by decide]));have v1:M5 [] (0,0) (.tup [.str "out",.tup []])=none:=by
  rw[U5,iR (by decide +kernel),iO (by decide +kernel)];rfl
 have v2:M5 [] (0,0) (.tup [.str "in",.int 0])=some (("number" : Str),0):=by
  rw[U5,iO (by decide +kernel)];rfl
 rw[v1] at a1;rw[v2] at a2;exact#[some f',xA (DR ns hl) e e2 a1 a2 s2]
end T
namespace T
open PySem PySem.Spec L2 DL
local macro_rules | `(tactic| wtm_at "c")=>`(tactic| first | with_reducible exact sk | with_reducible exact uu | with_reducible exact zL | with_reducible exact HQ | with_reducible exact Bc | with_reducible exact Fz | (with_reducible apply AQ);exact qB (by assumption) | (with_reducible apply EI);exact qB (by assumption))
local macro_rules | `(tactic| wtm_at "o")=>`(tactic| first | with_reducible exact HE | with_reducible exact Cg | with_reducible exact HM | with_reducible exact xV | with_reducible exact Ff | with_reducible exact AU | with_reducible exact mx)
local macro_rules | `(tactic| wtm_at "q")=>`(tactic| first | with_reducible exact Ep | with_reducible exact FA | with_reducible exact FP | with_reducible exact HY | with_reducible exact yi | with_reducible exact wY | with_reducible exact uK)
local macro_rules | `(tactic| wtm_at "r")=>`(tactic| first | with_reducible exact mK _ | with_reducible exact HR | with_reducible exact FE | with_reducible exact AY | with_reducible exact zV)
local macro_rules | `(tactic| wtm_at "k")=>`(tactic| first | with_reducible exact Aj | with_reducible exact Dr | with_reducible exact zX | with_reducible exact CD | with_reducible exact wH | with_reducible exact(Jg rfl) | (focus (with_reducible apply BZ);exact Ag (by assumption);exact(by assumption:Room _ _).gd))
local macro_rules | `(tactic| wtm_at "m")=>`(tactic| first | with_reducible exact IW | with_reducible exact IT | with_reducible exact FC | with_reducible exact EC | with_reducible exact sR | with_reducible exact CM | with_reducible exact Bv)
local macro_rules | `(tactic| wtm_at "b")=>`(tactic| first | exact Blt.abs (by assumption) | exact Blt.bool (by assumption) | exact Blt.enumerate (by assumption) | exact Blt.int (by assumption) | exact Blt.isinstance (by assumption) | exact Blt.len (by assumption) | exact Blt.list (by assumption) | exact Blt.min (by assumption) | exact Blt.range (by assumption) | exact Blt.repr (by assumption) | exact Blt.str (by assumption) | exact Blt.tuple (by assumption) | exact Blt.zip (by assumption))
local macro_rules | `(tactic| wtm_at "t")=>`(tactic| first | exact Gp | exact jl | exact gy | exact Fe | exact sD | exact IJ | exact xQ | exact lL | exact aR)
local macro_rules | `(tactic| wtm_at "n")=>`(tactic| first | exact W0 | (refine G1 ?_);wtm_at "n")
local macro_rules | `(tactic| wtm_at "l")=>`(tactic| first | exact Or.inl rfl | exact Or.inr rfl)
local macro_rules | `(tactic| wtm_at "x")=>`(tactic| first | exact rfl | exact Or.inl rfl | exact Or.inr rfl | decide | (intro _;rfl))
local macro_rules | `(tactic| wtm_at "S")=>`(tactic| first | (focus (with_reducible apply K5);all_goals wtm_at "x") | (focus (with_reducible apply E3);wtm_at "s";all_goals wtm_at "x") | (focus (with_reducible apply A9);wtm_at "s";wtm_at "S";all_goals wtm_at "x"))
local macro_rules | `(tactic| wtm_at "s")=>`(tactic| first | (focus (with_reducible apply kM);assumption;exact rfl;wtm_at "l";wtm_at "E";all_goals wtm_at "x") | (focus (with_reducible apply T6);wtm_at "E";all_goals wtm_at "x") | (focus (with_reducible apply K3);wtm_at "T";wtm_at "S";wtm_at "S";all_goals wtm_at "x") | (focus (with_reducible apply Bs);wtm_at "E";wtm_at "G";all_goals wtm_at "x") | (focus (with_reducible apply De);exact pv _;wtm_at "E";all_goals wtm_at "x") | (focus (with_reducible apply jL);assumption;exact rfl;wtm_at "l";wtm_at "F";all_goals wtm_at "x") | (focus (with_reducible apply uR);exact Mp;exact rfl;wtm_at "E";wtm_at "G";wtm_at "S";all_goals wtm_at "x") | (focus (with_reducible apply IE);exact Mp;wtm_at "T";wtm_at "S";all_goals wtm_at "x") | (focus (with_reducible apply kU);exact Mp;exact rfl;exact rfl;exact Blt.range (by assumption);wtm_at "E";wtm_at "G";wtm_at "S";all_goals wtm_at "x") | (focus (with_reducible apply xX);exact wO (by assumption);exact pv _;wtm_at "E";all_goals wtm_at "x") | (focus (with_reducible apply HV);exact rfl;assumption;exact rfl;exact rfl;decide;exact rfl;exact rfl;wtm_at "A";exact rfl;all_goals wtm_at "x"))
local macro_rules | `(tactic| wtm_at "B")=>`(tactic| first | (focus (with_reducible apply O0);exact pv _;all_goals wtm_at "x") | (focus (with_reducible apply EO.b);wtm_at "E";all_goals wtm_at "x"))
local macro_rules | `(tactic| wtm_at "E")=>`(tactic| first | (focus (with_reducible apply S4);exact pv _;all_goals wtm_at "x") | (focus (with_reducible apply gT);all_goals wtm_at "x") | (focus (with_reducible apply xY);exact xt;exact CS;wtm_at "B";wtm_at "B";exact fun _ _=>rfl;all_goals wtm_at "x") | (focus (with_reducible apply GU);rotate_left;wtm_at "q";rotate_right;wtm_at "o";wtm_at "B";wtm_at "B";all_goals wtm_at "x") | (focus (with_reducible apply CQ);assumption;assumption;(first | decide | exact tx _ | exact JN (by decide) (Nat.le_add_right _ _));exact rfl;wtm_at "A";wtm_at "n";all_goals wtm_at "x") | (focus (with_reducible apply nU);wtm_at "A";all_goals wtm_at "x") | (focus (with_reducible apply Dt);decide +kernel;all_goals wtm_at "x") | (focus (with_reducible apply zA);all_goals wtm_at "x") | (focus (with_reducible apply jb);all_goals wtm_at "x") | (focus (with_reducible apply GQ);exact Bw;exact Ah;wtm_at "B";all_goals wtm_at "x") | (focus (with_reducible apply FO.v);wtm_at "F";all_goals wtm_at "x") | (focus (with_reducible apply Gy);rotate_left;wtm_at "r";rotate_right;wtm_at "c";wtm_at "B";wtm_at "B";(first | exact wD _ | exact rfl);all_goals wtm_at "x") | (focus (with_reducible apply JC);wtm_at "T";wtm_at "E";wtm_at "E";all_goals wtm_at "x") | (focus (with_reducible apply zp);wtm_at "B";wtm_at "O";wtm_at "O";all_goals wtm_at "x") | (focus (with_reducible apply nH);wtm_at "E";all_goals wtm_at "x") | (focus (with_reducible apply Ca);rotate_left;wtm_at "m";rotate_right;wtm_at "k";exact rfl;wtm_at "b";wtm_at "t";wtm_at "a";all_goals wtm_at "x") | (focus (with_reducible apply vm);rotate_left;wtm_at "m";rotate_right;wtm_at "k";exact rfl;wtm_at "b";wtm_at "t";wtm_at "a";all_goals wtm_at "x") | (focus (with_reducible apply yr);exact wO (by assumption);exact pv _;all_goals wtm_at "x") | (focus (with_reducible apply Bq);wtm_at "B";wtm_at "B";all_goals wtm_at "x") | (focus (with_reducible apply iM);wtm_at "E";all_goals wtm_at "x") | (focus (with_reducible apply cH);wtm_at "E";wtm_at "E";all_goals wtm_at "x") | (focus (with_reducible apply xv);wtm_at "E";wtm_at "E";all_goals wtm_at "x"))
local macro_rules | `(tactic| wtm_at "A")=>`(tactic| first | (focus (with_reducible apply ac);wtm_at "E";wtm_at "A";all_goals wtm_at "x") | (focus (with_reducible apply dZ);all_goals wtm_at "x"))
local macro_rules | `(tactic| wtm_at "a")=>`(tactic| first | (focus (with_reducible apply bc);wtm_at "B";wtm_at "a";all_goals wtm_at "x") | (focus (with_reducible apply wL);all_goals wtm_at "x"))
local macro_rules | `(tactic| wtm_at "T")=>`(tactic| first | (focus (with_reducible apply DN);rotate_left;wtm_at "r";rotate_right;wtm_at "c";wtm_at "B";wtm_at "B";(first | exact wD _ | exact rfl);all_goals wtm_at "x") | (focus (with_reducible apply WO.t);wtm_at "W";all_goals wtm_at "x") | (focus (with_reducible apply cK);wtm_at "T";all_goals wtm_at "x") | (focus (with_reducible apply R3);wtm_at "B";all_goals wtm_at "x"))
local macro_rules | `(tactic| wtm_at "W")=>`(tactic| first | (focus (with_reducible apply nN);wtm_at "T";wtm_at "W";all_goals wtm_at "x") | (focus (with_reducible apply oM);wtm_at "T";all_goals wtm_at "x") | (focus (with_reducible apply dU);wtm_at "T";wtm_at "W";all_goals wtm_at "x") | (focus (with_reducible apply lF);wtm_at "T";all_goals wtm_at "x"))
local macro_rules | `(tactic| wtm_at "O")=>`(tactic| first | (focus (with_reducible apply xW);all_goals wtm_at "x") | (focus (with_reducible apply Af);wtm_at "B";all_goals wtm_at "x"))
local macro_rules | `(tactic| wtm_at "F")=>`(tactic| first | (focus (with_reducible apply mj);wtm_at "A";all_goals wtm_at "x") | (focus (with_reducible apply ql);rotate_left;wtm_at "q";rotate_right;wtm_at "o";wtm_at "B";wtm_at "B";all_goals wtm_at "x"))
local macro_rules | `(tactic| wtm_at "G")=>`(tactic| first | (focus (with_reducible apply xC);wtm_at "h";all_goals wtm_at "x") | (focus (with_reducible apply ya);exact rfl;wtm_at "g";all_goals wtm_at "x"))
local macro_rules | `(tactic| wtm_at "h")=>`(tactic| first | (focus (with_reducible apply U8);assumption;exact rfl;wtm_at "l";all_goals wtm_at "x"))
local macro_rules | `(tactic| wtm_at "g")=>`(tactic| first | (focus (with_reducible apply xH);wtm_at "G";wtm_at "g";all_goals wtm_at "x") | (focus (with_reducible apply GV);all_goals wtm_at "x"))
local macro_rules | `(tactic| wtm_at "R")=>`(tactic| first | (refine E3 ?_;wtm_at "s") | (refine A9 ?_ ?_;wtm_at "s";wtm_at "S"))
local macro_rules | `(tactic| wtm_at "p")=>`(tactic| first | exact fun _ _ _ _ _ _=>DH fun _=>rfl | exact fun _ _ _ _ _ _=>on2 fun _ _=>rfl | exact fun _ _ _ _ _ _=>on3 fun _ _ _=>rfl | exact fun _ _ _ _ _ _=>on4 fun _ _ _ _=>rfl | exact fun _ _ _ _ _ _=>on5 fun _ _ _ _ _=>rfl | exact fun _ _ _ _ _ _=>on0 rfl)
local macro_rules | `(tactic| wtm_at "f")=>`(tactic| exact⟨rfl,rfl,rfl,by decide +kernel,rfl,by decide +kernel,by decide +kernel⟩)
local macro_rules | `(tactic| wtm_at "M")=>`(tactic| (intro nd _ _ _ _ _ _ _ hr;wtm_at "R"))
def top (i:Nat):Stmt:=PySem.Challenge.pw_widelines_k16_papers_of_places_judged.main.body.getD i (.Pass #[0,0,0,0])
section
variable (P:Program) (w:World) (K:vF_) (mg:vG_) (base:Heap)
abbrev wo:=Cal P w K mg base 1 "_law_feed" ["_law_script"]
abbrev bH:=Cal P w K mg base 1 "_law_fraction" ["_law_top", "_law_bottom"]
abbrev lM:=Cal P w K mg base 2 "_law_at" ["_law_x", "_law_y"]
abbrev aW:=Cal P w K mg base 1 "_law_draw" ["_law_feed_here", "_law_many"]
abbrev vg:=Cal P w K mg base 2 "_law_number" ["_law_feed_here"]
abbrev kf:=Cal P w K mg base 3 "_law_place" ["_law_feed_here"]
abbrev lJ:=Cal P w K mg base 2 "_law_xy" ["_law_one"]
abbrev gB:=Cal P w K mg base 2 "_law_sum" ["_law_one", "_law_other"]
abbrev mP:=Cal P w K mg base 3 "_law_gone" ["_law_one", "_law_x", "_law_y"]
abbrev pJ:=Cal P w K mg base 2 "_law_odd" ["_law_feed_here"]
abbrev gA:=Cal P w K mg base 1 "_law_turn" ["_law_a", "_law_b", "_law_c"]
abbrev nE:=Cal P w K mg base 2 "_law_sides" ["_law_shape", "_law_one"]
abbrev DK:=Cal P w K mg base 66 "_law_bent" ["_law_feed_here", "_law_thing"]
abbrev tj:=Cal P w K mg base 67 "_law_papers" ["_law_feed_here", "_law_shapes", "_law_one"]
abbrev lX:=Cal P w K mg base 1 "is_whole" ["thing"]
abbrev oh:=Cal P w K mg base 2 "is_edge_number" ["shape", "thing"]
abbrev qd:=Cal P w K mg base 1 "neighbours" ["row", "closed"]
abbrev ly:=Cal P w K mg base 2 "edges" ["corners"]
abbrev pP:=Cal P w K mg base 1 "sign" ["number"]
abbrev lU:=Cal P w K mg base 2 "turn" ["a", "b", "c"]
abbrev oH:=Cal P w K mg base 3 "parts_off" ["shape", "number", "places"]
abbrev qH:=Cal P w K mg base 2 "is_so_formed" ["thing"]
abbrev qg:=Cal P w K mg base 3 "belongs" ["shape", "one"]
abbrev ua:=Cal P w K mg base 6 "_law_told" ["_law_shapes", "_law_one", "_law_thing"]
abbrev qq:=Cal P w K mg base 1 "_law_lesser" ["_law_one", "_law_other"]
abbrev lW:=Cal P w K mg base 1 "_law_minus" ["_law_one"]
abbrev mI:=Cal P w K mg base 2 "_law_product" ["_law_one", "_law_other"]
abbrev vz:=Cal P w K mg base 3 "_law_squared" ["_law_a", "_law_b"]
abbrev vv:=Cal P w K mg base 4 "_law_farther" ["_law_here", "_law_best", "_law_one"]
abbrev wN:=Cal P w K mg base 5 "_law_hull" ["_law_some"]
abbrev si:=Cal P w K mg base 6 "_law_round_shape" ["_law_feed_here"]
abbrev vk:=Cal P w K mg base 1 "_law_is_number" ["_law_thing"]
abbrev vR:=Cal P w K mg base 3 "_law_due" ["_law_shapes", "_law_one", "_law_thing"]
end
section
variable {P:Program}{w:World}{K:vF_}
def FU (B:Blt mg) (F:GF K mg "_law_feed" (top 26) f fd):wo P w K mg base (X3):=
 C9 [] F (by wtm_at "p") (by wtm_at "f") fun U _ _ _ _ _ _ g J=>
 (E3 (T6 (Hs (pv 0))))
def yb (B:Blt mg) (F:GF K mg "_law_fraction" (top 28) f fd):bH P w K mg base (tU):=
 C9 ["_law_one", "_law_other"] F (by wtm_at "p") (by wtm_at "f") (by unfold fX;wtm_at "M")
def Hr {J:c9}(U:bH P w K mg base J) (B:Blt mg) (F:GF K mg "_law_at" (top 32) f fd):lM P w K mg base (rX J):=
 C9 ["_law_bottom", "_law_top", "_law_other", "_law_part_of_both"] F (by wtm_at "p") (by wtm_at "f") (by unfold ju;wtm_at "M")
def BG (B:Blt mg) (F:GF K mg "_law_draw" (top 27) f fd):aW P w K mg base (A3):=
 C9 ["_law_count", "_law_digit", "_law_cells", "_law_cell", "_law_mixed"] F (by wtm_at "p") (by wtm_at "f") (by unfold aI;wtm_at "M")
def yF {J:c9}(U:bH P w K mg base J) (Y:aW P w K mg base mo) (B:Blt mg) (F:GF K mg "_law_number" (top 37) f fd):vg P w K mg base (nR J mo):=
 C9 ["_law_top", "_law_bottom"] F (by wtm_at "p") (by wtm_at "f") (by unfold fZ;wtm_at "M")
def ye (U:lM P w K mg base m0f) (J:vg P w K mg base m0p) (B:Blt mg) (F:GF K mg "_law_place" (top 38) f fd):kf P w K mg base (wJ m0f m0p):=
 C9 [] F (by wtm_at "p") (by wtm_at "f") (by unfold ig;wtm_at "M")
def Am {J:c9}(U:bH P w K mg base J) (B:Blt mg) (F:GF K mg "_law_xy" (top 33) f fd):lJ P w K mg base (ud J):=
 C9 [] F (by wtm_at "p") (by wtm_at "f") (by unfold iG;wtm_at "M")
def AH {J:c9}(U:bH P w K mg base J) (B:Blt mg) (F:GF K mg "_law_sum" (top 29) f fd):gB P w K mg base (tV J):=
 C9 ["_law_top"] F (by wtm_at "p") (by wtm_at "f") (by unfold fY;wtm_at "M")
def FX (U:lM P w K mg base m0f) (J:gB P w K mg base m01) (Y:lJ P w K mg base m09) (B:Blt mg) (F:GF K mg "_law_gone" (top 34) f fd):mP P w K mg base (qw m0f m01 m09):=
 C9 ["_law_first", "_law_second"] F (by wtm_at "p") (by wtm_at "f") (by unfold fU;wtm_at "M")
def Eu (J:aW P w K mg base mo) (B:Blt mg) (F:GF K mg "_law_odd" (top 43) f fd):pJ P w K mg base (uf mo):=
 C9 ["_law_some"] F (by wtm_at "p") (by wtm_at "f") (by unfold jF;wtm_at "M")
def u8:FnScope ["_law_feed_here", "_law_thing", "_law_at_here", "_law_some"] ["_law_feed_here", "_law_thing"] (B8 (top 44)):=by wtm_at "f"
theorem ow (J:pJ P w K mg base m0k) (U:aW P w K mg base mo) (B:Blt mg) (F:GF K mg "_law_bent" (top 44) f fd):∀n:Nat,Cal P w K mg base (2+n) "_law_bent" ["_law_feed_here", "_law_thing"] (mU m0k mo n)
 |0=>#[f,fd,Ih,F.m,F.F.kp,F.F.binds (fun _ _ _ _ _ _=>on2 fun _ _=>rfl)]
 |n+1=>
  have Y:=ow J U B F n
  vq F (fun _ _ _ _ _ _=>on2 fun _ _=>rfl) u8 fun cdv A outer s H E g Z=>
  have nd:=u8.nd
  (A9 (K3 (WO.t (nN (R3 (EO.b (R0 cA (by rfl) B.isinstance (by rfl) B.tuple aR (O0 (pv 1))))) (by wtm_at "W"))) (by wtm_at "S") K5) (A9 (K3 (R3 (EO.b (R0 cA (by rfl) B.isinstance (by rfl) B.tuple aR (O0 (pv 1))))) (A9 (jL (i:=3) nd rfl (by first | exact Or.inl rfl | exact Or.inr rfl) (mj (ac (FO.v (Et zW Bt (by rfl) B.list sD (by wtm_at "a"))) (by wtm_at "A")))) (by wtm_at "S")) K5) (A9 (K3 (R3 (EO.b (R0 lH (by rfl) B.isinstance (by rfl) B.bool jl (O0 (pv 1))))) (by wtm_at "S") K5) (A9 (K3 (R3 (EO.b (R0 mh (by rfl) B.isinstance (by rfl) B.int gy (O0 (pv 1))))) (by wtm_at "S") K5) (A9 (K3 (R3 (EO.b (R0 vE (by rfl) B.isinstance (by rfl) B.str lL (O0 (pv 1))))) (A9 (jL (i:=3) nd rfl (by first | exact Or.inl rfl | exact Or.inr rfl) (mj (ac (by wtm_at "E") (ac (by wtm_at "E") (ac (by wtm_at "E") (ac (by wtm_at "E") (ac (by wtm_at "E") (ac (by wtm_at "E") (ac (by wtm_at "E") (ac (by wtm_at "E") (ac (AA (O0 (pv 1))) dZ))))))))))) (by wtm_at "S")) K5) (by wtm_at "S"))))))
def zI (B:Blt mg) (F:GF K mg "_law_turn" (top 35) f fd):gA P w K mg base (Q9):=
 C9 ["_law_first", "_law_second"] F (by wtm_at "p") (by wtm_at "f") (by unfold jd;wtm_at "M")
def Ii (J:gA P w K mg base m03) (B:Blt mg) (F:GF K mg "_law_sides" (top 46) f fd):nE P w K mg base (pB m03):=
 C9 [] F (by wtm_at "p") (by wtm_at "f") fun U _ _ _ _ _ _ g Y=>
 (E3 (T6 (FO.v (ug (N':=["_law_k", "_law_one", "_law_shape"]) (idx:=[1,0]) rfl (bg (by rfl) (.cons rfl (.cons rfl .nil)) (by decide +kernel) rfl (by decide +kernel) (by rfl) (.cons rfl (by first | exact Or.inl rfl | exact Or.inr rfl) (by first | exact Or.inl rfl | exact Or.inr rfl) (.cons rfl (by first | exact Or.inl rfl | exact Or.inr rfl) (by first | exact Or.inl rfl | exact Or.inr rfl) .nil))) (eW (by rfl) B.range (by wtm_at "E")) (fun _ _ _ _=>U8 (i:=0) (show List.Nodup (["_law_k", "_law_one", "_law_shape"]:List Str) by decide +kernel) rfl (Or.inl rfl)) (fun _ _ _ _ _=>fG) (fun _ _ _ _ _=>(by wtm_at "E"))))))
def xE (Y:DK P w K mg base m0h) (U:nE P w K mg base m04) (Z:aW P w K mg base mo) (B:Blt mg) (F:GF K mg "_law_papers" (top 49) f fd):tj P w K mg base (vX m0h m04 mo):=
 C9 ["_law_edges_out", "_law_k", "_law_outer", "_law_good", "_law_inner", "_law_found"] F (by wtm_at "p") (by wtm_at "f") fun J _ _ _ _ _ _ g hr=>
 (A9 (fA (i:=3) J rfl (by first | exact Or.inl rfl | exact Or.inr rfl) (fK (N':=["_law_shape", "_law_feed_here"]) (idx:=[0]) rfl (bg (by rfl) (.cons rfl .nil) (by decide +kernel) rfl (by decide +kernel) (by rfl) (.cons rfl (by first | exact Or.inl rfl | exact Or.inr rfl) (by first | exact Or.inl rfl | exact Or.inr rfl) .nil)) (kQ (S4 (pv 1))) (fun _ _ _ _=>U8 (i:=0) (show List.Nodup (["_law_shape", "_law_feed_here"]:List Str) by decide +kernel) rfl (Or.inl rfl)) (fun _ _ _ _ _=>fG) (fun _ _ _ _ _=>(by wtm_at "E")))) (A9 (kU Mp rfl (by rfl) B.range (by wtm_at "E") (by wtm_at "G") (A9 (fA (i:=5) J rfl (by first | exact Or.inl rfl | exact Or.inr rfl) (fK (N':=["_law_n", "_law_one", "_law_shapes", "_law_k"]) (idx:=[2,1,4]) rfl (bg (by rfl) (.cons rfl (.cons rfl (.cons rfl .nil))) (by decide +kernel) rfl (by decide +kernel) (by rfl) (.cons rfl (by first | exact Or.inl rfl | exact Or.inr rfl) (by first | exact Or.inl rfl | exact Or.inr rfl) (.cons rfl (by first | exact Or.inl rfl | exact Or.inr rfl) (by first | exact Or.inl rfl | exact Or.inr rfl) (.cons rfl (by first | exact Or.inl rfl | exact Or.inr rfl) (by first | exact Or.inl rfl | exact Or.inr rfl) .nil)))) (eW (by rfl) B.range (by wtm_at "E")) (fun _ _ _ _=>U8 (i:=0) (show List.Nodup (["_law_n", "_law_one", "_law_shapes", "_law_k"]:List Str) by decide +kernel) rfl (Or.inl rfl)) (fun _ _ _ _ _=>(kY (by wtm_at "T"))) (fun _ _ _ _ _=>(S4 (pv 0))))) (E3 (K3 (by wtm_at "T") (E3 (EJ (pv 3) (pv 4) (by wtm_at "E"))) K5)))) (A9 (by wtm_at "s") (A9 (fA (i:=7) J rfl (by first | exact Or.inl rfl | exact Or.inr rfl) (fK (N':=["_law_k", "_law_one", "_law_shapes"]) (idx:=[2,1]) rfl (bg (by rfl) (.cons rfl (.cons rfl .nil)) (by decide +kernel) rfl (by decide +kernel) (by rfl) (.cons rfl (by first | exact Or.inl rfl | exact Or.inr rfl) (by first | exact Or.inl rfl | exact Or.inr rfl) (.cons rfl (by first | exact Or.inl rfl | exact Or.inr rfl) (by first | exact Or.inl rfl | exact Or.inr rfl) .nil))) (eW (by rfl) B.range (by wtm_at "E")) (fun _ _ _ _=>U8 (i:=0) (show List.Nodup (["_law_k", "_law_one", "_law_shapes"]:List Str) by decide +kernel) rfl (Or.inl rfl)) (fun _ _ _ _ _=>(kY (by wtm_at "T"))) (fun _ _ _ _ _=>(S4 (pv 0))))) (by wtm_at "S")))))
def zC (B:Blt mg) (F:GF K mg "is_whole" (top 9) f fd):lX P w K mg base (bN):=
 C9 [] F (by wtm_at "p") (by wtm_at "f") fun U _ _ _ _ _ _ g J=>
 (E3 (T6 (cH (R0 mh (by rfl) B.isinstance (by rfl) B.int gy (O0 (pv 0))) (iM (nH (R0 lH (by rfl) B.isinstance (by rfl) B.bool jl (O0 (pv 0))))))))
def FI (J:lX P w K mg base m0g) (B:Blt mg) (F:GF K mg "is_edge_number" (top 18) f fd):oh P w K mg base (sQ m0g):=
 C9 [] F (by wtm_at "p") (by wtm_at "f") fun U _ _ _ _ _ _ g Y=>
 (E3 (T6 (cH (by wtm_at "E") (iM (BX uu (mK (fun i j=>decide (i<=j))) sk (mK (fun i j=>decide (i<j))) (EO.b gT) (O0 (pv 1)) (by wtm_at "B"))))))
def FD (B:Blt mg) (F:GF K mg "neighbours" (top 14) f fd):qd P w K mg base (jW):=
 C9 [] F (by wtm_at "p") (by wtm_at "f") fun U _ _ _ _ _ _ g J=>
 (A9 (K3 (by wtm_at "T") (E3 (T6 (FO.v (wM rfl (by rfl) B.list (by rfl) B.zip (by wtm_at "a"))))) K5) (E3 (T6 (FO.v (wM rfl (by rfl) B.list (by rfl) B.zip (by wtm_at "a"))))))
def yV (J:qd P w K mg base m0s) (B:Blt mg) (F:GF K mg "edges" (top 15) f fd):ly P w K mg base (wF m0s):=
 C9 [] F (by wtm_at "p") (by wtm_at "f") (by unfold tO;wtm_at "M")
def Jk (B:Blt mg) (F:GF K mg "sign" (top 11) f fd):pP P w K mg base (iP):=
 C9 [] F (by wtm_at "p") (by wtm_at "f") (by unfold cq;wtm_at "M")
def zR (J:pP P w K mg base m0r) (B:Blt mg) (F:GF K mg "turn" (top 12) f fd):lU P w K mg base (wq m0r):=
 C9 ["spread"] F (by wtm_at "p") (by wtm_at "f") (by unfold gv;wtm_at "M")
def xM (U:lU P w K mg base m06) (J:ly P w K mg base m07) (B:Blt mg) (F:GF K mg "parts_off" (top 19) f fd):oH P w K mg base (vZ m06 m07):=
 C9 ["edge", "one"] F (by wtm_at "p") (by wtm_at "f") (by unfold gL;wtm_at "M")
def ul:FnScope ["shapes", "one", "numbers", "k", "number"] ["shapes", "one", "numbers"] (B8 (top 24)):=by wtm_at "f"
def BV (Y:oH P w K mg base m0n) (Z:oh P w K mg base m0o) (J:Rf2 K mg "NoPaper") (B:Blt mg) (F:GF K mg "lets_out" (top 24) f fd):CalX P w K mg base 4 "lets_out" ["shapes", "one", "numbers"] (oZ m0n m0o):=
 nJ F (fun _ _ _ _ _ _=>on3 fun _ _ _=>rfl) ul fun cdv A outer s H E g R U=>
  have nd:=ul.nd
  (A9 (K3 (by wtm_at "T") (E3 (dv (k:=0) R J (U.mono #[]) rfl (by rfl) (by wtm_at "A") (G1 (G1 W0)))) K5) (A9 (Cq PassesOwn.leaving rfl (by rfl) B.enumerate (by wtm_at "A") (by wtm_at "G") (A9 (K3 (by wtm_at "T") (E3 (dv (k:=0) R J (U.mono #[]) rfl (by rfl) (by wtm_at "A") (G1 (G1 W0)))) K5) (E3 (K3 (by wtm_at "T") (E3 (dv (k:=0) R J (U.mono #[]) rfl (by rfl) (by wtm_at "A") (G1 (G1 W0)))) K5)))) (E3 (T6 jb))))
def DW (J:lX P w K mg base m0g) (B:Blt mg) (F:GF K mg "is_so_formed" (top 22) f fd):qH P w K mg base (pV m0g):=
 C9 [] F (by wtm_at "p") (by wtm_at "f") fun Y _ _ _ _ _ _ g U=>
 (A9 (K3 (WO.t (dU (cK (R3 (EO.b (R0 cA (by rfl) B.isinstance (by rfl) B.tuple aR (O0 (pv 0)))))) (by wtm_at "W"))) (E3 (T6 jb)) K5) (A9 (by wtm_at "s") (E3 (T6 (cH (by wtm_at "E") (iM (R0 cA (by rfl) B.isinstance (by rfl) B.tuple aR (by wtm_at "B"))))))))
def Bu (U:lU P w K mg base m06) (J:ly P w K mg base m07) (B:Blt mg) (F:GF K mg "belongs" (top 17) f fd):qg P w K mg base (pW m06 m07):=
 C9 ["a", "b"] F (by wtm_at "p") (by wtm_at "f") (by unfold gP;wtm_at "M")
def ut:FnScope ["shapes", "one", "number"] ["shapes", "one", "number"] (B8 (top 23)):=by wtm_at "f"
def DV (Y:qg P w K mg base m0t) (J:Rf2 K mg "NoPaper") (B:Blt mg) (F:GF K mg "lets_in" (top 23) f fd):CalX P w K mg base 4 "lets_in" ["shapes", "one", "number"] (pD m0t):=
 nJ F (fun _ _ _ _ _ _=>on3 fun _ _ _=>rfl) ut fun cdv A outer s H E g R U=>
  have nd:=ut.nd
  (A9 (K3 (by wtm_at "T") (E3 (dv (k:=0) R J (U.mono #[]) rfl (by rfl) (by wtm_at "A") (G1 (G1 W0)))) K5) (A9 (K3 (by wtm_at "T") (E3 (dv (k:=0) R J (U.mono #[]) rfl (by rfl) (by wtm_at "A") (G1 (G1 W0)))) K5) (E3 (T6 jb))))
def u00:FnScope ["shapes", "one", "thing"] ["shapes", "one", "thing"] (B8 (top 21)):=by wtm_at "f"
def xn (Y:CalX P w K mg base 4 "lets_out" ["shapes", "one", "numbers"] m0u) (Z:CalX P w K mg base 4 "lets_in" ["shapes", "one", "number"] m0v) (C0o:qH P w K mg base m0w) (J:Rf2 K mg "NoPaper") (B:Blt mg) (F:GF K mg "lets_place" (top 21) f fd):CalX P w K mg base 5 "lets_place" ["shapes", "one", "thing"] (sC m0u m0v m0w):=
 nJ F (fun _ _ _ _ _ _=>on3 fun _ _ _=>rfl) u00 fun cdv A outer s H E g R U=>
  have nd:=u00.nd
  (A9 (K3 (by wtm_at "T") (E3 (dv (k:=0) R J (U.mono #[]) rfl (by rfl) (by wtm_at "A") (G1 (G1 W0)))) K5) (A9 (K3 (by wtm_at "T") (E3 (qA (kD Z R _ U #[] (by rfl) (by wtm_at "A") (G1 (G1 (G1 W0)))))) K5) (E3 (qA (kD Y R _ U #[] (by rfl) (by wtm_at "A") (G1 (G1 (G1 W0))))))))
def xm (Z:CalX P w K mg base 5 "lets_place" ["shapes", "one", "thing"] m0x) (U:RfA K mg ["NoPaper"] ["WideError", "NoPaper", "NoOutline", "NoJoin", "TooMany", "NoText", "NoRow"]) (J:Ck K mg ["NoPaper"] "WideError") (B:Blt mg) (F:GF K mg "_law_told" (top 48) f fd):ua P w K mg base (kI m0x):=
 C9 ["_law_found", "e"] F (by wtm_at "p") (by wtm_at "f") fun Y _ _ _ _ _ _ g hr=>
 (A9 (by wtm_at "s") (A9 (Gr (fun pn xe g1 R _ _ _=>(E3 (Gm Y (by rfl) (by first | exact Or.inl rfl | exact Or.inr rfl) (kD Z R _ hr #[] (by rfl) (by wtm_at "A") (G1 (G1 (G1 W0))))))) (fun _=>(A9 (by wtm_at "s") (E3 (K3 (WO.t (nN (R3 (EO.b (Hl U (by rfl) (by rfl) B.isinstance (by rfl) (S4 (pv 4))))) (oM (R3 (EO.b (Ef U.rx (by rfl) B.isinstance (by rfl) U.ve (S4 (pv 4)))))))) (E3 (K3 (cK (R3 (EO.b (zU U (dW (by rfl) (U.mm _ #[]) (dW (by rfl) (U.mm _ #[]) (dW (by rfl) (U.mm _ #[]) (dW (by rfl) (U.mm _ #[]) (dW (by rfl) (U.mm _ #[]) Fh))))) (by rfl) #[] (by rfl) B.isinstance (S4 (pv 4)))))) (E3 (kM (i:=3) Y rfl (by first | exact Or.inl rfl | exact Or.inr rfl) (nU (ac (wQ U.rx (S4 (pv 4)) (by rfl)) (ac (wQ U.rx (S4 (pv 4)) (by rfl)) dZ))))) K5)) K5)))) J (by rfl) Y (by rfl) (by rfl)) (by wtm_at "S")))
def BA (B:Blt mg) (F:GF K mg "_law_lesser" (top 36) f fd):qq P w K mg base (N7):=
 C9 ["_law_first"] F (by wtm_at "p") (by wtm_at "f") (by unfold cE;wtm_at "M")
def CY (B:Blt mg) (F:GF K mg "_law_minus" (top 31) f fd):lW P w K mg base (bP):=
 C9 [] F (by wtm_at "p") (by wtm_at "f") (by unfold jB;wtm_at "M")
def yP {J:c9}(U:bH P w K mg base J) (B:Blt mg) (F:GF K mg "_law_product" (top 30) f fd):mI P w K mg base (qI J):=
 C9 [] F (by wtm_at "p") (by wtm_at "f") (by unfold iy;wtm_at "M")
def Ej (J:gB P w K mg base m01) (Z:mI P w K mg base m05) (U:lW P w K mg base m0a) (Y:lJ P w K mg base m09) (B:Blt mg) (F:GF K mg "_law_squared" (top 39) f fd):vz P w K mg base (kE m01 m05 m0a m09):=
 C9 ["_law_x", "_law_y"] F (by wtm_at "p") (by wtm_at "f") (by unfold ij;wtm_at "M")
def EW (J:gB P w K mg base m01) (Z:lW P w K mg base m0a) (Y:vz P w K mg base m0q) (U:gA P w K mg base m03) (B:Blt mg) (F:GF K mg "_law_farther" (top 40) f fd):vv P w K mg base (uP m01 m0a m0q m03):=
 C9 ["_law_side"] F (by wtm_at "p") (by wtm_at "f") (by unfold gU;wtm_at "M")
def Hu (U:vv P w K mg base m0i) (J:qq P w K mg base m0j) (B:Blt mg) (F:GF K mg "_law_hull" (top 41) f fd):wN P w K mg base (oA m0i m0j):=
 C9 ["_law_first", "_law_one", "_law_found", "_law_here", "_law_best"] F (by wtm_at "p") (by wtm_at "f") (by unfold ck;wtm_at "M")
def Ji {J:c9}(Y:wN P w K mg base m0l) (C0b:mP P w K mg base m02) (Z:mI P w K mg base m05) (C00:bH P w K mg base J) (Cl:aW P w K mg base mo) (C02:gA P w K mg base m03) (C0c:kf P w K mg base m00) (B:Blt mg) (F:GF K mg "_law_round_shape" (top 42) f fd):si P w K mg base (tm m0l m02 m05 J mo m03 m00):=
 C9 ["_law_some", "_law_ways", "_law_kept", "_law_share", "_law_here", "_law_found", "_law_x", "_law_y"] F (by wtm_at "p") (by wtm_at "f") fun U _ _ _ _ _ _ g hr=>
 (A9 (fA (i:=1) U rfl (by first | exact Or.inl rfl | exact Or.inr rfl) (fK (N':=["_law_k", "_law_feed_here"]) (idx:=[0]) rfl (bg (by rfl) (.cons rfl .nil) (by decide +kernel) rfl (by decide +kernel) (by rfl) (.cons rfl (by first | exact Or.inl rfl | exact Or.inr rfl) (by first | exact Or.inl rfl | exact Or.inr rfl) .nil)) (eW (by rfl) B.range gT) (fun _ _ _ _=>U8 (i:=0) (show List.Nodup (["_law_k", "_law_feed_here"]:List Str) by decide +kernel) rfl (Or.inl rfl)) (fun _ _ _ _ _=>fG) (fun _ _ _ _ _=>(by wtm_at "E")))) (A9 (by wtm_at "s") (A9 (by wtm_at "s") (A9 (fA (i:=3) U rfl (by first | exact Or.inl rfl | exact Or.inr rfl) (fK (N':=["_law_pair", "_law_feed_here"]) (idx:=[0]) rfl (bg (by rfl) (.cons rfl .nil) (by decide +kernel) rfl (by decide +kernel) (by rfl) (.cons rfl (by first | exact Or.inl rfl | exact Or.inr rfl) (by first | exact Or.inl rfl | exact Or.inr rfl) .nil)) (kQ (S4 (pv 2))) (fun _ _ _ _=>U8 (i:=0) (show List.Nodup (["_law_pair", "_law_feed_here"]:List Str) by decide +kernel) rfl (Or.inl rfl)) (fun _ _ _ _ _=>(kY (by wtm_at "T"))) (fun _ _ _ _ _=>(S4 (pv 0))))) (A9 (by wtm_at "s") (A9 (by wtm_at "s") (A9 (by wtm_at "s") (A9 (by wtm_at "s") (A9 (uR Mp rfl (FO.v (ql mx uK (O0 (pv 3)) (EO.b (FO.v (xD (caps:=[]) (idx:=[]) rfl (zt (by rfl) .nil (by decide +kernel) rfl (by decide +kernel) (by rfl) .nil) (kQ (S4 (pv 3))) (show List.Nodup (["_law_x", "_law_y"]:List Str) by decide +kernel) (fun _ _ _ _=>rfl) (fun _ _ _ _=>rfl) (fun _ _ _ _ _=>fG) (fun _ _ _ _ _=>(by wtm_at "E"))))))) (by wtm_at "G") (by wtm_at "S")) (by wtm_at "S"))))))))))
def ze (B:Blt mg) (F:GF K mg "_law_is_number" (top 45) f fd):vk P w K mg base (M1):=
 C9 [] F (by wtm_at "p") (by wtm_at "f") fun U _ _ _ _ _ _ g J=>
 (E3 (T6 (cH (R0 mh (by rfl) B.isinstance (by rfl) B.int gy (O0 (pv 0))) (cH (nH (R0 lH (by rfl) B.isinstance (by rfl) B.bool jl (O0 (pv 0)))) (by wtm_at "E")))))
def Hh (U:nE P w K mg base m04) (J:vk P w K mg base m0m) (B:Blt mg) (F:GF K mg "_law_due" (top 47) f fd):vR P w K mg base (qO m04 m0m):=
 C9 ["_law_word", "_law_what", "_law_k"] F (by wtm_at "p") (by wtm_at "f") fun Z _ _ _ _ _ _ g Y=>
 (A9 (K3 (WO.t (dU (cK (R3 (EO.b (R0 cA (by rfl) B.isinstance (by rfl) B.tuple aR (O0 (pv 2)))))) (dU (by wtm_at "T") (lF (cK (R3 (EO.b (R0 vE (by rfl) B.isinstance (by rfl) B.str lL (by wtm_at "B"))))))))) (by wtm_at "S") K5) (A9 (by wtm_at "s") (A9 (by wtm_at "s") (A9 (K3 (WO.t (dU (by wtm_at "T") (lF (cK (R3 (EO.b (R0 cA (by rfl) B.isinstance (by rfl) B.tuple aR (O0 (pv 4))))))))) (by wtm_at "S") K5) (by wtm_at "S")))))
def u01:FnScope ["_law_script", "_law_feed_here", "_law_k", "_law_shapes", "_law_spot_here", "_law_one", "_law_thing", "_law_kept", "_law_some"] ["_law_script"] (B8 (top 50)):=by wtm_at "f"
def yK (C0u:ua P w K mg base m08) (U:vR P w K mg base m0b) (C0w:tj P w K mg base m0c) (J:mP P w K mg base m02) (Z:kf P w K mg base m00) (Cl:aW P w K mg base mo) (C0x:si P w K mg base m0d) (Y:wo P w K mg base m0e) (B:Blt mg) (F:Fun K "law" "law" (top 50) f fd):fD P w K mg base 68 f fd ["_law_script"] (gf m08 m0b m0c m02 m00 mo m0d m0e):=
 wu F u01 fun cdv A outer s H E g hr=>
  have nd:=u01.nd
  (A9 (by wtm_at "s") (A9 (kU Mp rfl (by rfl) B.range gT (by wtm_at "G") (A9 (kM (i:=3) nd rfl (by first | exact Or.inl rfl | exact Or.inr rfl) (vm wH sR (by rfl) B.tuple aR (bc (EO.b (FO.v (ug (N':=["_law_j", "_law_feed_here"]) (idx:=[1]) rfl (bg (by rfl) (.cons rfl .nil) (by decide +kernel) rfl (by decide +kernel) (by rfl) (.cons rfl (by first | exact Or.inl rfl | exact Or.inr rfl) (by first | exact Or.inl rfl | exact Or.inr rfl) .nil)) (eW (by rfl) B.range (by wtm_at "E")) (fun _ _ _ _=>U8 (i:=0) (show List.Nodup (["_law_j", "_law_feed_here"]:List Str) by decide +kernel) rfl (Or.inl rfl)) (fun _ _ _ _ _=>fG) (fun _ _ _ _ _=>(by wtm_at "E"))))) wL))) (by wtm_at "S"))) (by wtm_at "S")))
end
end T
namespace T
open PySem PySem.Spec L2 DL
abbrev whole:c9:=gf X0 Y7 Y5 LG K4 A3 V6 X3
set_option autoImplicit true in
set_option relaxedAutoImplicit true in
def all_mk {l:PySem.W.OpenLaw}{w:World}{K:vF_}{fa:Addr}(X:K.In h) (G:h.Ns mainGlobals mg) (hfa:mg "law" = some (.ref fa)) 
  (g1:GF K mg "_law_feed" (top 26) jf1 jd1)
  (g2:GF K mg "_law_fraction" (top 28) jf2 jd2)
  (g3:GF K mg "_law_at" (top 32) jf3 jd3)
  (g4:GF K mg "_law_draw" (top 27) jf4 jd4)
  (g5:GF K mg "_law_number" (top 37) jf5 jd5)
  (g6:GF K mg "_law_place" (top 38) jf6 jd6)
  (g7:GF K mg "_law_xy" (top 33) jf7 jd7)
  (g8:GF K mg "_law_sum" (top 29) jf8 jd8)
  (g9:GF K mg "_law_gone" (top 34) jf9 jd9)
  (g10:GF K mg "_law_odd" (top 43) jf10 jd10)
  (g11:GF K mg "_law_bent" (top 44) jf11 jd11)
  (g12:GF K mg "_law_turn" (top 35) jf12 jd12)
  (g13:GF K mg "_law_sides" (top 46) jf13 jd13)
  (g14:GF K mg "_law_papers" (top 49) jf14 jd14)
  (g15:GF K mg "is_whole" (top 9) jf15 jd15)
  (g16:GF K mg "is_edge_number" (top 18) jf16 jd16)
  (g17:GF K mg "neighbours" (top 14) jf17 jd17)
  (g18:GF K mg "edges" (top 15) jf18 jd18)
  (g19:GF K mg "sign" (top 11) jf19 jd19)
  (g20:GF K mg "turn" (top 12) jf20 jd20)
  (g21:GF K mg "parts_off" (top 19) jf21 jd21)
  (g22:GF K mg "lets_out" (top 24) jf22 jd22)
  (g23:GF K mg "is_so_formed" (top 22) jf23 jd23)
  (g24:GF K mg "belongs" (top 17) jf24 jd24)
  (g25:GF K mg "lets_in" (top 23) jf25 jd25)
  (g26:GF K mg "lets_place" (top 21) jf26 jd26)
  (g27:GF K mg "_law_told" (top 48) jf27 jd27)
  (g28:GF K mg "_law_lesser" (top 36) jf28 jd28)
  (g29:GF K mg "_law_minus" (top 31) jf29 jd29)
  (g30:GF K mg "_law_product" (top 30) jf30 jd30)
  (g31:GF K mg "_law_squared" (top 39) jf31 jd31)
  (g32:GF K mg "_law_farther" (top 40) jf32 jd32)
  (g33:GF K mg "_law_hull" (top 41) jf33 jd33)
  (g34:GF K mg "_law_round_shape" (top 42) jf34 jd34)
  (g35:GF K mg "_law_is_number" (top 45) jf35 jd35)
  (g36:GF K mg "_law_due" (top 47) jf36 jd36)
  (g37:GF K mg "law" (top 50) jf37 jd37)
  (J:Rf2 K mg "NoPaper")
  (RA:RfA K mg ["NoPaper"] ["WideError", "NoPaper", "NoOutline", "NoJoin", "TooMany", "NoText", "NoRow"])
  (U:Ck K mg ["NoPaper"] "WideError")
  (B:Blt mg) :
  ∃fd:FuncData,(∀(s:Shared) (v:Value),BindsTo s fd #[[v],[]] [("_law_script",v)])/\∀base:Heap,K.In base->base.Ns mainGlobals mg->FnOk l.prog w K mg base U9 68 fa fd ["_law_script"] (dI K 1 whole):=by
 have e:=hfa.symm.trans g37.m;cases e;refine#[jd37,GL g37.F fun _ _ _ _ _ _ _ _=>.of_eq rfl,fun base _ _=>?_];have C0y:=FU (P:=l.prog) (w:=w) (base:=base) B g1;have Y:=yb (P:=l.prog) (w:=w) (base:=base) B g2;have C03:=Hr Y B g3;have Cl:=BG (P:=l.prog) (w:=w) (base:=base) B g4;have C0i:=yF Y Cl B g5;have C0c:=ye C03 C0i B g6;have C04:=Am Y B g7;have Z:=AH Y B g8;have C0b:=FX C03 Z C04 B g9;have C0d:=Eu Cl B g10;have C0e:=ow C0d Cl B g11 64;have C02:=zI (P:=l.prog) (w:=w) (base:=base) B g12;have C05:=Ii C02 B g13;have C0w:=xE C0e C05 Cl B g14;have C06:=zC (P:=l.prog) (w:=w) (base:=base) B g15;have C0m:=FI C06 B g16;have C0j:=FD (P:=l.prog) (w:=w) (base:=base) B g17;have C08:=yV C0j B g18;have C0k:=Jk (P:=l.prog) (w:=w) (base:=base) B g19;have C07:=zR C0k B g20;have C0l:=xM C07 C08 B g21;have C0f:=BV C0l C0m J B g22;have C0o:=DW C06 B g23;have C0n:=Bu C07 C08 B g24;have C0g:=DV C0n J B g25;have C0h:=xn C0f C0g C0o J B g26;have C0u:=xm C0h RA U B g27;have C0r:=BA (P:=l.prog) (w:=w) (base:=base) B g28;have C0a:=CY (P:=l.prog) (w:=w) (base:=base) B g29;have C09:=yP Y B g30;have C0p:=Ej Z C09 C0a C04 B g31;have C0q:=EW Z C0a C0p C02 B g32;have C0s:=Hu C0q C0r B g33;have C0x:=Ji C0s C0b C09 Y Cl C02 C0c B g34;have C0t:=ze (P:=l.prog) (w:=w) (base:=base) B g35;have C0v:=Hh C05 C0t B g36;exact yK C0u C0v C0w C0b C0c Cl C0x C0y B g37.F
end T
abbrev GK:=@DL.gf_mk
end
open PySem PySem.W PyProof.Rows
set_option maxRecDepth 100000 in
set_option maxHeartbeats 0 in
theorem PySem.Challenge.cw_widelines_k16_papers_of_places_judged_holds : PySem.Challenge.rw_widelines_k16_papers_of_places_judged.Holds := by
 w_on; o_law; k_head; (case hw=>w_witness2)
 k_fill
 refine DL.walkD (l:=PySem.Challenge.rw_widelines_k16_papers_of_places_judged) (m:=T.whole) (k:=68) rfl rfl ⟨rfl,by decide,by decide,rfl⟩ (fun w h Y=>PySem.W.kIn_of Y) ?F T.math
 case F=>
  intro w mg fa h KX G hmg
  refine' T.all_mk KX G hmg (GK KX G ?_ ?_ ?_ ?_) (GK KX G ?_ ?_ ?_ ?_) (GK KX G ?_ ?_ ?_ ?_) (GK KX G ?_ ?_ ?_ ?_) (GK KX G ?_ ?_ ?_ ?_) (GK KX G ?_ ?_ ?_ ?_) (GK KX G ?_ ?_ ?_ ?_) (GK KX G ?_ ?_ ?_ ?_) (GK KX G ?_ ?_ ?_ ?_) (GK KX G ?_ ?_ ?_ ?_) (GK KX G ?_ ?_ ?_ ?_) (GK KX G ?_ ?_ ?_ ?_) (GK KX G ?_ ?_ ?_ ?_) (GK KX G ?_ ?_ ?_ ?_) (GK KX G ?_ ?_ ?_ ?_) (GK KX G ?_ ?_ ?_ ?_) (GK KX G ?_ ?_ ?_ ?_) (GK KX G ?_ ?_ ?_ ?_) (GK KX G ?_ ?_ ?_ ?_) (GK KX G ?_ ?_ ?_ ?_) (GK KX G ?_ ?_ ?_ ?_) (GK KX G ?_ ?_ ?_ ?_) (GK KX G ?_ ?_ ?_ ?_) (GK KX G ?_ ?_ ?_ ?_) (GK KX G ?_ ?_ ?_ ?_) (GK KX G ?_ ?_ ?_ ?_) (GK KX G ?_ ?_ ?_ ?_) (GK KX G ?_ ?_ ?_ ?_) (GK KX G ?_ ?_ ?_ ?_) (GK KX G ?_ ?_ ?_ ?_) (GK KX G ?_ ?_ ?_ ?_) (GK KX G ?_ ?_ ?_ ?_) (GK KX G ?_ ?_ ?_ ?_) (GK KX G ?_ ?_ ?_ ?_) (GK KX G ?_ ?_ ?_ ?_) (GK KX G ?_ ?_ ?_ ?_) (GK KX G ?_ ?_ ?_ ?_) (DL.rf2_mk KX G ?_ ?_ (DL.xk1_mk (DL.xc_mk ?_ ?_ ?_ ?_ ?_ ?_) ?_ ?_) ?_ ?_ ?_ ?_ ?_ ?_ ?_) (DL.rfa_mk KX G ?_ (DL.memC (DL.rfx_mk ?_ (DL.xc_mk ?_ ?_ ?_ ?_ ?_ ?_) ?_ ?_ ?_ (DL.memC (DL.kit_mk KX G ?_ ?_) (DL.memC (DL.kit_mk KX G ?_ ?_) (DL.memC (DL.kit_mk KX G ?_ ?_) (DL.memC (DL.kit_mk KX G ?_ ?_) (DL.memC (DL.kit_mk KX G ?_ ?_) (DL.memC (DL.kit_mk KX G ?_ ?_) (DL.memC (DL.kit_mk KX G ?_ ?_) DL.mem0)))))))) DL.mem0) (DL.memC (DL.cls_mk KX G ?_) (DL.memC (DL.cls_mk KX G ?_) (DL.memC (DL.cls_mk KX G ?_) (DL.memC (DL.cls_mk KX G ?_) (DL.memC (DL.cls_mk KX G ?_) (DL.memC (DL.cls_mk KX G ?_) (DL.memC (DL.cls_mk KX G ?_) DL.mem0)))))))) (DL.ck_mk KX G ?_ ?_ ?_ (DL.memC (DL.sub_mk ?_ ?_) DL.mem0)) (DL.blt_mk KX G ?_ ?_ ?_ ?_ ?_ ?_ ?_ ?_ ?_ ?_ ?_ ?_ ?_ ?_ ?_ ?_ ?_ ?_ ?_)
  all_goals try k_is
  all_goals first | rfl | decide | exact ⟨rfl,rfl,rfl,by decide +kernel⟩ | exact DL.on2 (fun _ _=>rfl) | exact DL.on3 (fun _ _ _=>rfl)
