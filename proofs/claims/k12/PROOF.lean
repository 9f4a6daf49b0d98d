import PyProof.Rows.All
import Wide.All
import OpenK.AllK
import Wide.FinOn
import Lean
import PyProof.EqAt
import PyProof.EqKinds
import PyProof.TupleCall
import KE.LcSums
import PyProof.StrLawsJoin
import KE.KSortedM
import KE.KSortTup
import KE.KSortKey
import PyProof.WalkInts
import PyProof.MinMaxWalk
import KE.KRevIter
import PyProof.ReprLen
import KE.KDictList
import PyProof.Rows.RegReprOcc
import PySem.SetTable
import PyProof.Rows.SetFrom
import PyProof.TupleKey
import PySem.Challenge.RW_ringmaze_k12_whole_walked_to_the_middle
abbrev Tf:=@PySem.wpAny_truthy_bool
abbrev Tg:=@PySem.sizeLine_eq
abbrev Th:=@PyProof.Rows.vals1
abbrev Ti:=@PySem.wpAny_call
abbrev Tj:=@PySem.codeAny_mono
abbrev Tl:=@PySem.wpAny_Call_Name_kw
abbrev Tn:=@PySem.typeIs_str
abbrev To:=@PySem.call_meets
abbrev Tp:=@PySem.wpAny_pyIter_list
abbrev Tq:=@PySem.wpAny_standAt
abbrev Tr:=@PySem.wpAny_newObj_type
abbrev Ts:=@PySem.wpAny_specialOf
abbrev Tt:=@PyProof.Rows.mirror_perm
abbrev Tu:=@PyProof.Rows.get?_update_seq
abbrev Tv:=@PyProof.Rows.seqEpoch_at
abbrev Tw:=@PySem.wpAny_newList
abbrev Tx:=@PySem.wpAny_holding
abbrev Tz:=@PySem.wpAny_call_entry
abbrev UA:=@PySem.codeAny_builtin
abbrev UB:=@PyProof.Rows.ints_getD
abbrev UC:=@PySem.wpAny_letGo
abbrev UD:=@PySem.wpAny_rule
abbrev UE:=@PySem.wpAny_forIn_list
abbrev UF:=@PySem.wpAny_attempt
abbrev UG:=@PySem.wpAny_typeNameOfWhole_keyiter
abbrev UH:=@PySem.wpAny_fieldsOf
abbrev UI:=@PySem.wpAny_typeNameOf_keyiter
abbrev UJ:=@PySem.wpAny_setField
abbrev UL:=@PySem.wpAny_seqItems
abbrev UM:=@PySem.wpAny_updateSeq
abbrev UN:=@PySem.plainId_quiet
abbrev UO:=@PySem.wpAny_field
abbrev UP:=@PySem.wpAny_ite_false
abbrev UQ:=@PySem.wpAny_check_ga_own
abbrev UR:=@PySem.post_val_or_str
abbrev US:=@PySem.wpAny_execs_nil
abbrev UT:=@PySem.wpAny_execs_cons
abbrev UU:=@PySem.wpAny_passesOwn
abbrev UV:=@PySem.wpAny_pyIter_tuple
abbrev UW:=@PySem.wpAny_pyIter_zip
abbrev UX:=@PySem.wpAny_setField_rec
abbrev UY:=@PySem.wpAny_loadPart_at
abbrev UZ:=@PySem.wpAny_setState_of
abbrev U0:=@PySem.wpAny_typeOf_ref
abbrev U1:=@if_neg
abbrev U2:=@if_pos
abbrev U3:=@decide_eq_true_eq
abbrev U4:=@decide_eq_false
abbrev U5:=@decide_eq_true
abbrev U6:=@of_decide_eq_true
abbrev U7:=@if_true
abbrev U8:=@if_false
abbrev U9:=PySem.W.Frag
abbrev aA:=@List.length_map
abbrev aB:=@PySem.Heap.get?_push_of_some
abbrev aE:=@List.getElem?_eq_getElem
abbrev aH:=@List.getElem?_eq_some_iff
abbrev aI:=@Nat.le_refl
abbrev aJ:=@List.mem_cons_of_mem
abbrev aL:=@List.mem_cons
abbrev aN:=@PySem.Heap.lt_size
abbrev aP:=@PySem.Heap.get?_push_size
abbrev aQ:=@List.size_toArray
abbrev aR:=@List.getElem?_map
abbrev aT:=@List.mem_of_getElem?
abbrev aU:=@List.mem_map
abbrev aV:=@List.mem_filter
abbrev aW:=@List.mem_cons_self
abbrev aX:=@List.map_append
abbrev aY:=@PySem.boot_len
abbrev aZ:=@Nat.lt_of_lt_of_le
abbrev a6:=@Nat.ne_of_lt
abbrev a9:=@PySem.F.plainAttrs_list
abbrev af:=@List.map_cons
abbrev ah:=@Nat.zero_le
abbrev ai:=@PyProof.Rows.boot_isinstance
abbrev aj:=@List.length_append
abbrev am:=@List.flatMap_cons
abbrev ao:=@Bool.and_eq_true
abbrev aq:=@PySem.F.type_list_append
abbrev ar:=@PySem.F.slot_list_append
abbrev au:=@Bool.false_ne_true
abbrev av:=@Option.some.inj
abbrev bD:=@PySem.PassesOwn.never
abbrev bE:=@List.take_add_one
abbrev bG:=@List.mem_append
abbrev bK:=@PySem.Paired.length
abbrev bL:=@List.length_cons
abbrev bM:=@List.mem_append_right
abbrev bN:=@Nat.le_trans
abbrev bR:=@Bool.false_eq_true
abbrev bT:=@Nat.le_of_lt
abbrev bU:=@Array.getD_eq_getD_getElem?
abbrev bW:=@List.nodup_cons
abbrev bY:=@PySem.W.mg_of
abbrev bf:=@List.take_length
abbrev bh:=@PySem.W.nsMap_none_of_in
abbrev bj:=@List.mem_range
abbrev bn:=@List.map_map
abbrev bp:=@Array.length_toList
abbrev bq:=@PySem.Heap.get?_update_self
abbrev bu:=@PyProof.Rows.callWith_type1
abbrev cA:=@PySem.W.Looks.at
abbrev cB:=@List.length_take
abbrev cC:=@List.append_assoc
abbrev cE:=@List.append_nil
abbrev cG:=@List.drop_eq_getElem_cons
abbrev cJ:=@List.cons.inj
abbrev cK:=@List.not_mem_nil
abbrev cM:=@List.any_eq_true
abbrev cP:=@List.map_congr_left
abbrev cQ:=@Array.getElem?_eq_getElem
abbrev cS:=@List.countP_cons
abbrev cW:=@List.pairwise_map
abbrev cY:=@List.length_singleton
abbrev cZ:=@Array.getElem?_toList
abbrev c6:=@List.filterMap_cons
abbrev c9:=@PySem.W.kia_one
abbrev cf:=@PySem.Heap.SameBut.update
abbrev ck:=@List.nodup_append
abbrev cn:=@List.mem_append_left
abbrev cu:=@List.getElem?_append_right
abbrev dA:=@List.filter_append
abbrev dD:=@List.take_of_length_le
abbrev dG:=@PySem.mem_of_lookup
abbrev dH:=@PySem.W.InstAt.type
abbrev dI:=@Nat.lt_succ_of_lt
abbrev dJ:=@List.length_range
abbrev dL:=@PyProof.Rows.boot_int
abbrev dM:=@List.perm_append_comm
abbrev dN:=@PySem.Heap.size_push
abbrev dP:=@List.range_succ
abbrev dQ:=@PySem.F.slot_dict_keyiterator_next
abbrev dS:=@Bool.or_eq_true
abbrev dX:=@PySem.W.looks_findIn
abbrev dY:=@PyProof.Rows.boot_tuple
abbrev dZ:=@Nat.le_succ
abbrev d6:=@Nat.le_add_right
abbrev d8:=@List.perm_middle
abbrev d9:=@List.getElem?_of_mem
abbrev de:=@Nat.lt_irrefl
abbrev dh:=@Int.toNat_natCast
abbrev di:=@PySem.Heap.get?_update_other
abbrev dk:=@Array.perm_iff_toList_perm
abbrev dq:=@PySem.Heap.get?_update_ne
abbrev dv:=@Int.le_refl
abbrev dy:=@List.pairwise_iff_getElem
abbrev eI:=@PySem.W.isNs_of_in
abbrev eJ:=@List.mem_singleton
abbrev eO:=@PyProof.Rows.boot_sorted
abbrev eP:=@List.map_nil
abbrev eQ:=@Bool.true_and
abbrev eS:=@Bool.or_false
abbrev eT:=@List.foldl_cons
abbrev eU:=@Bool.eq_iff_iff
abbrev eV:=@Bool.decide_and
abbrev eW:=@PyProof.Rows.F.plain_set_update_loop
abbrev eX:=@List.length_reverse
abbrev eZ:=@List.getElem?_range
abbrev fB:=@PyProof.Rows.boot_list
abbrev fD:=@Option.map_eq_some_iff
abbrev fG:=@Nat.mod_eq_of_lt
abbrev fJ:=@Nat.mod_two_eq_zero_or_one
abbrev fL:=@PySem.F.slot_tuple_iterator_next
abbrev fM:=@Ne.symm
abbrev fN:=@List.length_filter_le
abbrev fQ:=@List.nil_append
abbrev fR:=@List.length_nil
abbrev fS:=@List.find?_cons
abbrev fT:=@PySem.Heap.Ns.of_isNs
abbrev fZ:=@Prod.ext
abbrev f7:=@Classical.not_not
abbrev f9:=@List.any_cons
abbrev fb:=@List.Pairwise.imp_of_mem
abbrev fv:=@List.replicate_succ
abbrev gB:=@PyProof.Rows.callWith_builtin1
abbrev gC:=@Option.getD_some
abbrev gD:=@List.nodup_range
abbrev gE:=@List.mem_flatMap
abbrev gF:=@List.cons_append
abbrev gH:=@PySem.F.plain_max_loop
abbrev gJ:=@List.eq_nil_of_length_eq_zero
abbrev gN:=@Nat.lt_or_ge
abbrev gO:=@Int.emod_lt_of_pos
abbrev gP:=@PySem.F.called_set
abbrev gQ:=@PySem.Calls.spliced_cons
abbrev gZ:=@List.getElem?_eq_none
abbrev g6:=@List.eq_nil_or_concat
abbrev gf:=@List.reverse_cons
abbrev gg:=@PySem.Calls.spliced_nil
abbrev hU:=@PySem.W.hideAll_none
abbrev hZ:=@PySem.F.excBase_ValueError
abbrev h7:=@PySem.Heap.get?_none_of_le
abbrev iA:=@Array.getElem?_eq_some_iff
abbrev iB:=@PySem.Around.under_plainId
abbrev iH:=@Nat.ne_of_gt
abbrev iI:=@List.getElem_inj
abbrev iJ:=@List.all_eq_true
abbrev iK:=@Int.zero_add
abbrev iL:=@PySem.Heap.size_update
abbrev iM:=@List.getElem?_zip_eq_some
abbrev iN:=@List.getElem?_append_left
abbrev iO:=@Classical.byContradiction
abbrev iP:=@PyProof.Rows.F.entry_set_update_loop
abbrev iW:=@Option.isSome_iff_exists
abbrev iX:=@List.getElem?_take_of_lt
abbrev i5:=@Int.emod_nonneg
abbrev ic:=@PySem.W.callWith_K
abbrev ie:=@PySem.Obj.data_mapFields
abbrev ig:=@PySem.Code.quiet_builtin
abbrev jI:=@PySem.W.cellsFrom_some
abbrev jJ:=@PySem.F.plainAttrs_str
abbrev jK:=@Nat.zero_add
abbrev jL:=@List.reverse_perm
abbrev jM:=@List.getElem?_set_self
abbrev jN:=@List.flatten_cons
abbrev jO:=@List.any_eq_false
abbrev jP:=@PySem.Heap.get?_update_of_ne
abbrev jQ:=@PySem.Heap.get?_push_ne
abbrev jR:=@Bool.false_and
abbrev jS:=@Array.size_append
abbrev jT:=@Array.getElem?_eq_none
abbrev jU:=@List.eraseIdxIfInBounds_toArray
abbrev jX:=@PySem.F.type_list_pop
abbrev jY:=@PySem.F.slot_list_pop
abbrev jZ:=@List.take_append_drop
abbrev j0:=@List.concat_eq_append
abbrev j3:=@List.Perm.append_left
abbrev j4:=@PySem.F.attrBase_ValueError
abbrev jb:=@List.lookup_cons
abbrev jc:=@PySem.F.args_dict_keyiterator_next_1
abbrev ji:=@List.sum_cons
abbrev jw:=@Nat.add_mod
abbrev jx:=@List.map_eq_cons_iff
abbrev jy:=@List.getElem?_set_ne
abbrev jz:=@List.Pairwise.filter
abbrev kC:=@PySem.F.entry_dict_keyiterator_next
abbrev kF:=@PySem.W.exm_one
abbrev kG:=@Option.map_some
abbrev kH:=@Nat.min_le_left
abbrev kI:=@List.of_mem_zip
abbrev kJ:=@List.mem_range'
abbrev kK:=@List.forIn_cons
abbrev kM:=@PySem.F.slot_zip_next
abbrev kN:=@PySem.F.args_tuple_iterator_next_1
abbrev kT:=@PySem.W.hideAll_get
abbrev kU:=@List.reverse_append
abbrev kW:=@List.getElem_of_mem
abbrev kd:=@Nat.le_of_eq
abbrev kg:=@PySem.F.entry_tuple_iterator_next
abbrev lT:=@PySem.W.of_hideAll
abbrev lU:=@PySem.W.looks_find
abbrev lV:=@Option.toList_some
abbrev lW:=@Nat.eq_zero_or_pos
abbrev lX:=@List.perm_ext_iff_of_nodup
abbrev lZ:=@List.nodup_nil
abbrev l3:=@List.mem_filterMap
abbrev l4:=@PySem.F.slot_range_iterator_next
abbrev l6:=@PySem.F.args_str_split_2
abbrev l8:=@PySem.Calls.Name_function_global
abbrev l9:=@Bool.xor_false
abbrev lg:=@Bool.decide_or
abbrev lh:=@Array.forIn_toList
abbrev li:=@Decidable.byContradiction
abbrev lw:=@PySem.W.handed_on
abbrev ly:=@List.nodup_range'
abbrev mB:=@PySem.F.entry_str_split
abbrev mD:=@Bool.eq_false_iff
abbrev mJ:=@Prod.mk.injEq
abbrev mM:=@Bool.false_or
abbrev mw:=@PyProof.Rows.boot_range
abbrev my:=@Nat.succ_le_succ
abbrev mz:=@Nat.lt_succ_self
abbrev nD:=@List.reverse_eq_nil_iff
abbrev nE:=@List.getElem_mem
abbrev nF:=@List.getElem?_replicate
abbrev nG:=@List.flatMap_nil
abbrev nH:=@List.filter_cons_of_pos
abbrev nI:=@List.filter_cons_of_neg
abbrev nJ:=@List.filter_cons
abbrev nK:=@List.ext_getElem
abbrev nM:=@Int.eq_ofNat_of_zero_le
abbrev nN:=@PySem.F.slot_str_split
abbrev nh:=@PySem.Txt.slice_le
abbrev ni:=@Nat.sub_self
abbrev nj:=@List.range_succ_eq_map
abbrev nk:=@List.length_eq_one_iff
abbrev nq:=@List.filter_eq_nil_iff
abbrev nv:=@Int.ofNat_lt
abbrev ny:=@Eq.symm
abbrev oE:=@Array.toList_filterMap
abbrev oJ:=@List.isPerm_iff
abbrev oK:=@List.find?_some
abbrev oM:=@List.cons.injEq
abbrev oN:=@PySem.F.entry_bexc_ga
abbrev oO:=@Array.size_push
abbrev oS:=@PySem.F.type_str_join
abbrev oT:=@PySem.F.slot_str_join
abbrev oU:=@PyProof.Rows.boot_max
abbrev oV:=@List.length_replicate
abbrev oW:=@List.filterMap_append
abbrev oY:=@Array.mem_of_getElem?
abbrev pH:=@Array.size_map
abbrev qU:=@Nat.mod_lt
abbrev rE:=@Nat.pow_succ
abbrev rF:=@Nat.add_zero
abbrev rH:=@Bool.or_true
set_option Elab.async false
set_option linter.all false
set_option maxRecDepth 100000
namespace PySem.W.Fast
end PySem.W.Fast
namespace PySem.W.Fast
def tw4047058313920707717:=0
def tw8913724000174073960:=0
def tw6497960772571918456:=0
def tw10017076254681555604:=0
def tw10408083165561643983:=0
def tw3735122655415725249:=0
def tw2408293108461661556:=0
def tw8815339613008429840:=0
def tw10359655715440956739:=0
def tw5926221117142334951:=0
def tw8318216067407216889:=0
def tw14824477477999784449:=0
def tw2983528610147989540:=0
def tw17167112221286943797:=0
def tw18049456674334148909:=0
def tw5746255684156403276:=0
def tw14744839342442277138:=0
def tw17162385079574301866:=0
def tw1356979568132757797:=0
def tw13090908486845365492:=0
def tw8910982242471178749:=0
def tw12913264194013125857:=0
def tw6601697954533593469:=0
def tw5241490977523792228:=0
def tw10226940267676541632:=0
def tw13283149177751411837:=0
def tw9149687242981794853:=0
def tw7292244002891014674:=0
def tw7590966496830864037:=0
def tw1035212880911168852:=0
def tw1085460391370718470:=0
def tw7877850554708113662:=0
def tw9045290290852187798:=0
def tw14174729486650450929:=0
def tw14614956173352103762:=0
def tw14635195998893331431:=0
def tw15156464026443640210:=0
def tw4331458937999025105:=0
def tw10186529893434780310:=0
def tw11851933204643167673:=0
def tw5966084433799998380:=0
def tw14092971051646171000:=0
def tw171947860129431942:=0
def tw6804969691308285194:=0
def tw7111021270435215088:=0
def tw1460226228341523244:=0
def tw5352676758418635474:=0
def tw12933221832588310804:=0
def tw11451294438456247898:=0
def tw10170683369052618756:=0
def tw5829574666366668280:=0
def tw10502399881927491681:=0
def tw3455590605530002331:=0
def tw12018471838394218842:=0
def tw18129580318982649414:=0
def tw15956909330004235916:=0
def tw4342182263329174124:=0
def tw17524063575190413836:=0
def tw17896540084058473731:=0
def tw12439249588501700748:=0
def tw332557145083365998:=0
def tw7497668629739922146:=0
def tw11653355326368181336:=0
def tw5665002753530338232:=0
def tw15518305089705188279:=0
def tw15503359459199672341:=0
def tw13534411987039354906:=0
def tw10847250309350276609:=0
def tw3316021485121008921:=0
def tw2280001590821199100:=0
def tw12622082682252715368:=0
def tw6804696914507240649:=0
def tw16835203900335316099:=0
def tw5456824341624340306:=0
def tw2037077418067251707:=0
def tw497034579949541954:=0
def tw4449476240691497943:=0
def tw13878048661772274033:=0
def tw1004543057327801965:=0
def tw2016272219175645058:=0
def tw14999216727241856834:=0
def tw11320299246335450193:=0
def tw10904786855854950034:=0
def tw16443817696920465425:=0
def tw10728067765807098527:=0
def tw4037595860799737185:=0
def tw9011556631201160511:=0
def tw13631430808918777973:=0
def tw8527890652317342162:=0
def tw15076940538424011250:=0
def tw8951348114388708083:=0
def tw8205471233918269448:=0
def tw7281094581299651492:=0
def tw4343051737226668542:=0
def tw2218771379346959759:=0
def tw15963796913604231366:=0
def tw14019373131766294815:=0
def tw10848954769100350584:=0
def tw12636882730389992128:=0
def tw4610711915818394433:=0
def tw1740516615615091714:=0
def tw13068375376415194232:=0
def tw11580585233659380774:=0
def tw7192016708043212532:=0
def tw14699178314351795102:=0
def tw17425657135690674615:=0
def tw5421617695491125987:=0
def tw7726464443793722997:=0
def tw183112957825663899:=0
def tw5569753346455919959:=0
def tw2398614375058209300:=0
def tw16134896436301131832:=0
def tw7576952966801834437:=0
def tw10660028308286371981:=0
def tw9854351099701911683:=0
def tw16988539836427061111:=0
def tw16126000344268009999:=0
def tw2466480702136804469:=0
def tw16080913516787322814:=0
def tw11002214373383110652:=0
def tw15631311855446940972:=0
def tw14763061282393633640:=0
def tw8303759580490680975:=0
def tw7059978419752963396:=0
def tw10767161716351280361:=0
def tw15645128673475517925:=0
def tw3885551641111992728:=0
def tw3113318056415758325:=0
def tw10169141497947753513:=0
def tw8879041676608840340:=0
def tw1499462205846340116:=0
def tw3189465201833340027:=0
def tw17087285380630356778:=0
def tw12711380920275371104:=0
def tw17260071124795769595:=0
def tw15986040880739185558:=0
def tw5282782400039068790:=0
def tw4409478594454332938:=0
def tw671450169463185078:=0
def tw12740333814664114318:=0
def tw14828893808708681941:=0
def tw7740164350632195304:=0
def tw526754372417930559:=0
def tw3966056267602153559:=0
def tw10268631346393105713:=0
def tw3321139002712678110:=0
def tw8761339217231224974:=0
def tw520620355612613663:=0
def tw17097329063576738359:=0
def tw8781583748057954316:=0
def tw7618976847402798032:=0
def tw10338840963794714613:=0
def tw1690866372782733517:=0
def tw14665220354096823037:=0
def tw11785923535407003742:=0
def tw11356887470538450423:=0
def tw17828680137605506365:=0
def tw5671214198288537873:=0
def tw14959918802847303578:=0
def tw6615751216351709929:=0
def tw14819157889003436434:=0
def tw99464186255490462:=0
def tw8827486349706236900:=0
def tw15071101462154080498:=0
def tw9521153796716899723:=0
def tw9094507146678459284:=0
def tw16887242408150506586:=0
def tw10649204291967976449:=0
def tw15199273252177288700:=0
def tw9191220126314668163:=0
def tw7772948007501193298:=0
def tw200967991256830139:=0
def tw11984381640035247646:=0
def tw551489478752537196:=0
def tw3612759405420438813:=0
def tw1915535830860705130:=0
def tw13171036601144334506:=0
def tw1678902880890243970:=0
def tw8929632338049887231:=0
def tw16568839186261796941:=0
def tw15529655474546795614:=0
def tw12761029626441605434:=0
def tw13877777400828071603:=0
def tw7783817006376931334:=0
def tw11521991870111088881:=0
def tw11446461590074022061:=0
def tw3643291712010376186:=0
def tw11203311684883358899:=0
def tw9203849564751235867:=0
def tw4745667123895057277:=0
def tw5035076393124919111:=0
def tw6055560080648581467:=0
def tw12333848576995659626:=0
def tw6391988662437005132:=0
def tw15645476778008059617:=0
def tw13899935547003339625:=0
def tw2055554658637184022:=0
def tw17558473108645292830:=0
def tw14580579104504715970:=0
def tw9392262583553035086:=0
def tw15367405016575452870:=0
def tw13660037492997845894:=0
def tw7051756723289737800:=0
def tw9540686240787805314:=0
def tw744669043612017585:=0
def tw6987208043205962252:=0
def tw6865198080812650909:=0
def tw5458775304237575516:=0
def tw4136495101391819814:=0
def tw14485710816552190829:=0
def tw13983320080021641580:=0
def tw1238913992071222172:=0
def tw10066763433975356047:=0
def tw16714186596549194759:=0
def tw12292008784423933084:=0
def tw9930505732455754525:=0
def tw2699854736090177076:=0
def tw12701834366527271599:=0
def tw10631792564779942957:=0
def tw2952520279507214285:=0
def tw3092335655680727641:=0
def tw9003667904965911281:=0
def tw11186552132586371225:=0
def tw12366223759677828769:=0
def tw11911226192699090603:=0
def tw1162999930451339922:=0
def tw2771099678881177688:=0
def tw15046683742837569006:=0
def tw14941057267112094523:=0
def tw3673714151367298423:=0
def tw13947476400688187124:=0
def tw13500828251639752594:=0
def tw6441461304945890675:=0
def tw3292776194895511458:=0
def tw7597270766683828622:=0
def tw11486547965216702575:=0
def tw8915751702825105192:=0
def tw3299422579013780798:=0
def tw2293623246824151342:=0
def tw12664987586498077412:=0
def tw1253920654817624046:=0
def tw11820024334624702105:=0
def tw10987440405608684030:=0
def tw10948156224711354894:=0
def tw10794334352270321697:=0
def tw10332095034349689655:=0
def tw10184904180790878437:=0
def tw7195322357012828178:=0
def tw6428274501458626330:=0
def tw2869143860808909171:=0
def tw18385852485726110182:=0
def tw16753228706657385227:=0
def tw16218739010311858100:=0
def tw16171824855821414754:=0
def tw15203904080269632439:=0
def tw1233436613358718290:=0
def tw12332727981476148364:=0
def tw11157699345952612475:=0
def tw9063023055718435079:=0
def tw8747138095665579134:=0
def tw7739208576547234221:=0
def tw5561559678413684278:=0
def tw3866937102303703666:=0
def tw3527665891366926400:=0
def tw2321627199777857393:=0
def tw2135876211410387244:=0
def tw18229537701429522924:=0
def tw15174911978316718617:=0
def tw1334499876871697958:=0
def tw9347091829138903018:=0
def tw6509432097264043844:=0
def tw2972229007801290444:=0
def tw2738692755464856055:=0
def tw17551190073009586421:=0
def tw17187047049040206404:=0
def tw17059825145740925823:=0
def tw16466286006349844083:=0
def tw1554773418366695881:=0
def tw14219444856281136488:=0
def tw13253810100840746135:=0
def tw9921436383401291831:=0
def tw9858325589739488351:=0
def tw9827275266756255701:=0
def tw9810497386106195265:=0
def tw9639653700567385710:=0
def tw9242309011115789296:=0
def tw9227561282899689075:=0
def tw8638374424884580894:=0
def tw8538353361670844834:=0
def tw8364130375289437843:=0
def tw8330260671155333861:=0
def tw8305537397209401703:=0
def tw7963256641503914447:=0
def tw7725143553858312256:=0
def tw767739538933515393:=0
def tw7642977551417736802:=0
def tw764243873389509851:=0
def tw7607356134610514584:=0
def tw7456740703184649443:=0
def tw7202565555943960367:=0
def tw6800853313002145397:=0
def tw6719780321227082681:=0
def tw6570054822860823761:=0
def tw6418929692172592280:=0
def tw6377666373743078748:=0
def tw629918536177889912:=0
def tw6246491830366614538:=0
def tw6149335013090718096:=0
def tw611791000448343319:=0
def tw5507591541391201617:=0
def tw5410940082076901981:=0
def tw5406494763683549452:=0
def tw5010640316244613467:=0
def tw481829126318118215:=0
def tw4668180472626003863:=0
def tw4433244985342318545:=0
def tw4253247704898653100:=0
def tw4216748810534952415:=0
def tw4024913988161506535:=0
def tw3784278701947887183:=0
def tw3749674802711489221:=0
def tw3719970733928520005:=0
def tw3552419533114020236:=0
def tw3221048153886839330:=0
def tw2976557289718205417:=0
def tw295942007493824189:=0
def tw2871314742402879497:=0
def tw2631683050023197650:=0
def tw2161332209708799251:=0
def tw2123662338075373857:=0
def tw1943567449625160534:=0
def tw18305796613799586093:=0
def tw18197565957999759367:=0
def tw18182615634576892785:=0
def tw18161922746765460091:=0
def tw18134005533421987189:=0
def tw18094560105329758798:=0
def tw18086498923798585235:=0
def tw17805631851790417727:=0
def tw17535745490005254912:=0
def tw17498606197301244861:=0
def tw174512060925589077:=0
def tw17058478458619474745:=0
def tw16997103470347955342:=0
def tw16716029547674398204:=0
def tw16711655862890354209:=0
def tw16587376404318155209:=0
def tw16526196885572980593:=0
def tw16392592706900429130:=0
def tw15951688443217229609:=0
def tw15947046094147885209:=0
def tw15928512312217280343:=0
def tw15702832807766373844:=0
def tw1527013790583043238:=0
def tw15202025861352513676:=0
def tw15192278740324323538:=0
def tw15024984236975304070:=0
def tw14972816667463072016:=0
def tw14823228188814959452:=0
def tw14565245544116978637:=0
def tw14438299801415157843:=0
def tw14287421700297039610:=0
def tw13957050344687577524:=0
def tw1368476953232138479:=0
def tw13674534009328349152:=0
def tw13043709275210778715:=0
def tw12937440406520353793:=0
def tw12769030007699742316:=0
def tw12579975409176701791:=0
def tw12516027891851003786:=0
def tw12492076550588123924:=0
def tw11976428995806577685:=0
def tw11696190696097148588:=0
def tw11687232794120239881:=0
def tw11550074601679494255:=0
def tw11477540700362845825:=0
def tw11249633977270855674:=0
def tw10717188243886095269:=0
def tw10653101337791630003:=0
def tw10566171715441765345:=0
def tw10431284465332391180:=0
def tw1017855899435466110:=0
def tw10044920193649097621:=0
end PySem.W.Fast
local macro_rules | `(tactic| ac_rfl) => `(tactic| exact ⟨rfl,rfl,rfl,by symm,rfl,by symm,by symm⟩)
local macro_rules | `(tactic| symm) => `(tactic| decide +kernel)
abbrev ag:=List PySem.Value
abbrev bt:=Option PySem.Value
abbrev gs:=List Int
abbrev im:=List Nat
abbrev lc:=List PySem.Expr
abbrev ld:=List PySem.Addr
local macro_rules | `(tactic| ac_nf) => `(tactic| (intro _ _ _ _ h; first | (obtain ⟨e,_⟩ := h; subst e; rfl) | (obtain ⟨_,e,_⟩ := h; subst e; rfl) | (obtain ⟨_,_,e,_⟩ := h; subst e; rfl) | (obtain ⟨_,_,_,e,_⟩ := h; subst e; rfl) | (obtain ⟨_,_,_,_,e,_⟩ := h; subst e; rfl) | (obtain ⟨_,_,_,_,_,e,_⟩ := h; subst e; rfl) | (obtain ⟨_,_,_,_,_,_,e,_⟩ := h; subst e; rfl) | (obtain ⟨_,_,_,_,_,_,_,e,_⟩ := h; subst e; rfl) | (obtain ⟨_,_,_,_,_,_,_,_,e,_⟩ := h; subst e; rfl) | (obtain ⟨_,_,_,_,_,_,_,_,_,e,_⟩ := h; subst e; rfl) | (obtain ⟨_,_,_,_,_,_,_,_,_,_,e,_⟩ := h; subst e; rfl) | (obtain ⟨_,_,_,_,_,_,_,_,_,_,_,e,_⟩ := h; subst e; rfl)))
namespace PySem.W.Fast
def tw12249533968007717659:=0
def tw6997042711175695521:=0
def tw2062204628420024039:=0
def tw7251076174056943964:=0
def tw17786400490880581263:=0
def tw17400378556874236249:=0
def tw6457188254929776724:=0
def tw11217582069968126851:=0
def tw13183616007804062345:=0
def tw1372648457257434976:=0
def tw8405004852765079450:=0
def tw4209208395794851553:=0
def tw10466303641382006283:=0
def tw2219959790641808542:=0
def tw8548813529492718192:=0
def tw17486059650256514483:=0
def tw12269116052025461030:=0
def tw17580892979169055789:=0
def tw4855903877507870804:=0
def tw6907616159908579917:=0
def tw11176550921864304805:=0
def tw4578854786823725666:=0
def tw8475279183362391853:=0
def tw1498856220771692345:=0
def tw10062290321416417507:=0
def tw2714792639797886198:=0
def tw1575049106406864715:=0
def tw6211956974326167795:=0
def tw1684412159024527118:=0
def tw17908612405189805316:=0
def tw9211384638240641976:=0
def tw18172658360859196053:=0
def tw1998746025340539139:=0
def tw12871588805353240684:=0
def tw10538403638450541895:=0
def tw15844384385213381733:=0
def tw17496736236742243105:=0
def tw8108255410173913043:=0
def tw11847947036287815173:=0
def tw7103462308141490675:=0
def tw6485549594506377975:=0
def tw12947471533254474627:=0
def tw9982827007648981580:=0
def tw6711515260903789176:=0
def tw2981907085481592285:=0
def tw9272352011192929590:=0
def tw11915472324174018089:=0
def tw16292287713527547148:=0
def tw11350412641343055661:=0
def tw861807077169851547:=0
def tw9018705091208095869:=0
def tw3845390310001000028:=0
def tw13962163731943680048:=0
def tw3127154265715980836:=0
def tw14677137484729999634:=0
end PySem.W.Fast
local macro_rules | `(tactic| lia) => `(tactic| first | lia -verbose -matchEqs -splitMatch | omega)
section
set_option hygiene false
local macro_rules |`(tactic| refine' $t)=>`(tactic| refine E.mk' λf fd F=>F.okS $t (by ac_nf) (λcdv A outer s H vs Q E hr h=>?_))
local macro_rules |`($t<<<$u)=>`(bF $t (hr.mono (by decide)) (by rfl) $u)
local macro_rules |`($n^^^$t^^^$u)=>`(ak (i:=$n) ($t).nd rfl (Or.inl rfl) $u)|`($n^^^$t)=>`(bi (i:=$n) ($t).nd rfl (Or.inl rfl))
local macro_rules |`($f>>>$x)=>`(aS $f $x aD (λ_ _=>rfl))
local macro_rules |`($a&&&$b)=>`(fU P w K mg base $a $b)
local macro_rules |`(~~~$f)=>`($f ns.length (c7 b ns false) (c7 b ns true))
local macro_rules |`(tactic| exists $t)=>`(tactic| refine wpAny_bind $t)
set_option hygiene true
namespace L2
open PySem PySem.Spec PyProof.Rows
abbrev Key:=Sum Int Str
def vV:Key->Value->Bool
 | .inl k,v=>Value.isInt k v
 | .inr x,v=>Value.isStrOf x v
def NE(w:World):Key->Int
 | .inl k=>hashInt k
 | .inr x=>hashStr w x
theorem fY:∀{k:Key} {v:Value},vV k v=true->(∃i t,k=Sum.inl i/\v=Value.int i t)\/(∃x t,k=Sum.inr x/\v=Value.str x t)
 | .inl i,v,h=>by
  obtain⟨t,e⟩:=Value.isInt_shape (k:=i) (v:=v) h;exact .inl ⟨i,t,rfl,e⟩
 | .inr x,v,h=>by
  obtain⟨t,e⟩:=Value.isStrOf_shape (x:=x) (v:=v) h;exact .inr ⟨x,t,rfl,e⟩
theorem CP(i:Int)(t:Tok):vV (.inl i) (.int i t)=true:=by simp[vV,Value.isInt]
theorem CO(x:Str)(t:Tok):vV (.inr x) (.str x t)=true:=by simp[vV,Value.isStrOf]
theorem K8(a b:Int):decide ((Sum.inl a:Key)=Sum.inl b)=(a==b):=by
 by_cases e:a=b
 .subst e;simp
 .have h:¬(Sum.inl a:Key)=Sum.inl b:=λq=>e (Sum.inl.inj q);rw[U4 h];exact(beq_eq_false_iff_ne.mpr e).symm
theorem K5(a b:Str):decide ((Sum.inr a:Key)=Sum.inr b)=decide (a=b):=by
 by_cases e:a=b
 .subst e;simp
 .have h:¬(Sum.inr a:Key)=Sum.inr b:=λq=>e (Sum.inr.inj q);rw[U4 h,U4 e]
theorem K7(a:Int)(b:Str):decide ((Sum.inl a:Key)=Sum.inr b)=false:=U4 (λq=>nomatch q)
theorem K6(a:Str)(b:Int):decide ((Sum.inr a:Key)=Sum.inl b)=false:=U4 (λq=>nomatch q)
def fm (prog : Program) (w : World) : PySem.KeyKind prog w Key where
  is := vV
  hash := NE w
  inj := fun v a b ha hb => by
    rcases fY ha with ⟨i, t, rfl, rfl⟩ | ⟨x, t, rfl, rfl⟩
    · rcases fY hb with ⟨j, u, rfl, e⟩ | ⟨y, u, rfl, e⟩
      · injection e with e1 _; rw [e1]
      · exact nomatch e
    · rcases fY hb with ⟨j, u, rfl, e⟩ | ⟨y, u, rfl, e⟩
      · exact nomatch e
      · injection e with e1 _; rw [e1]
  byValue := fun k v h => by
    rcases fY h with ⟨i, t, rfl, rfl⟩ | ⟨x, t, rfl, rfl⟩ <;> rfl
  pyHash := fun hv h => by
    rcases fY hv with ⟨i, t, rfl, rfl⟩ | ⟨x, t, rfl, rfl⟩
    · exact wpAny_pyHash_int h
    · exact wpAny_pyHash_str h
  eqBool := fun hu hv h => by
    rcases fY hu with ⟨i, t, rfl, rfl⟩ | ⟨x, t, rfl, rfl⟩
    · rcases fY hv with ⟨j, u, rfl, rfl⟩ | ⟨y, u, rfl, rfl⟩
      · rw [K8] at h; exact wpAny_eqBool_int h
      · rw [K7] at h; exact SeqAt.EqAt.int_str i t y u _ _ _ _ h
    · rcases fY hv with ⟨j, u, rfl, rfl⟩ | ⟨y, u, rfl, rfl⟩
      · rw [K6] at h; exact SeqAt.EqAt.str_int x t j u _ _ _ _ h
      · rw [K5] at h; exact wpAny_eqBool_str h
  «strs» := fun k x t v h => by
    rcases fY h with ⟨i, u, rfl, e⟩ | ⟨y, u, rfl, e⟩
    · exact nomatch e
    · injection e with e1 _
      subst e1
      cases v <;> rfl
theorem xq(prog:Program)(w:World)(i:Int)(t:Tok):(fm prog w).is (.inl i) (.int i t)=true:=CP i t
theorem xp(prog:Program)(w:World)(x:Str)(t:Tok):(fm prog w).is (.inr x) (.str x t)=true:=CO x t
inductive V where
 | non | bl (b:Bool) | int (i:Int) | str (x:Str) | byt (b:Array UInt8) | flt (b:UInt64) | ref (a:Addr) | ty (n:String)
 deriving DecidableEq
set_option genInjectivity false
def RelV:V->Value->Prop
 | .non,u=>u=Value.none
 | .bl b,u=>u=Value.bool b
 | .int i,u=>∃t,u=Value.int i t
 | .str x,u=>∃t,u=Value.str x t
 | .byt b,u=>∃t,u=Value.bytes b t
 | .flt b,u=>∃t,u=Value.float b t
 | .ref a,u=>u=Value.ref a
 | .ty n,u=>u=Value.type n
abbrev cH:List V->ag->Prop:=Paired RelV
theorem cH.length{xs:List V}{us:ag}(r:cH xs us):xs.length=us.length:=bK r
theorem cH.get:∀{xs:List V} {us:ag} {i:Nat} {x:V},cH xs us->xs[i]? = some x->∃u,us[i]? = some u/\RelV x u
 | _,_,_,_,.nil,e=>by simp at e
 | _,_,0,_,.cons r _,e=>by simp at e;subst e;exact⟨_,rfl,r⟩
 | _,_,i+1,x,.cons _ t,e=>by
  obtain⟨u,h1,h2⟩:=cH.get (i:=i) (x:=x) t (by simpa using e);exact⟨u,by simpa using h1,h2⟩
theorem cH.set{x:V}{u:Value}(r:RelV x u):∀{xs:List V} {us:ag} (i:Nat),cH xs us->cH (xs.set i x) (us.set i u)
 | _,_,_,.nil=>.nil
 | _,_,0,.cons _ t=>.cons r t
 | _,_,i+1,.cons q t=>.cons q (cH.set r i t)
theorem cH.append:∀{xs ys:List V} {us ws:ag},cH xs us->cH ys ws->cH (xs++ys) (us++ws)
 | _,_,_,_,.nil,s=>s
 | _,_,_,_,.cons r t,s=>.cons r (cH.append t s)
theorem cH.take:∀{xs:List V} {us:ag} (n:Nat),cH xs us->cH (xs.take n) (us.take n)
 | _,_,0,_=>.nil
 | _,_,_+1,.nil=>.nil
 | _,_,n+1,.cons r t=>.cons r (cH.take n t)
theorem cH.drop:∀{xs:List V} {us:ag} (n:Nat),cH xs us->cH (xs.drop n) (us.drop n)
 | _,_,0,r=>r
 | _,_,_+1,.nil=>.nil
 | _,_,n+1,.cons _ t=>cH.drop n t
def sQ:Option V->bt->Prop
 | some v,some u=>RelV v u
 | none,none=>True
 | _,_=>False
def KV{κ:Type}:List (κ×V)->List (κ×Value)->Prop:=Paired λ(p:κ×V) (q:κ×Value)=>p.1=q.1/\RelV p.2 q.2
def kV:Key->V
 | .inl i=>.int i
 | .inr x=>.str x
inductive HO where
  | lst (xs:List V)
  | tup (xs:List V)
  | dK (kvs:List (Key×V)) | dT (kvs:List (List Key×V))
  | set (S:Int->Bool) (n:Nat)
  | ins (C dx:Addr) (fs:List (Str×V))
  | own (x:Addr)
  | xd (fs:List (Str×V))
  | met (f x:Addr)
  | rng (lo hi:Int)
  | frz (o:Obj) (u:HO)
  | tbl (ps:Array Value)
  | ext (φ:Heap->Prop)
abbrev Hp:=Addr->Option HO
def upd(H:Hp)(a:Addr)(o:HO):Hp:=λb=>if b=a then some o else H b
theorem aG{H:Hp}{a:Addr}{o:HO}:upd H a o a=some o:=by unfold upd;rw[U2 rfl]
theorem aO{H:Hp}{a b:Addr}{o:HO}(h:b≠a):upd H a o b=H b:=by unfold upd;rw[U1 h]
theorem En{H:Hp}{a b:Addr}{o u:HO}(h:H a=some o)(h':H b=some u)(d:o≠u):a≠b:=by
 intro e;subst e;rw[h] at h';exact d (av h')
theorem bI{H:Hp}{a b:Addr}{o:HO}(h:H a=some o)(h':H b=none):a≠b:=by
 intro e;subst e;rw[h] at h';cases h'
section
variable (P:Program)(w:World)
def cc (H : Hp) (h : Heap) (a : Addr) : HO → Prop
 | .lst xs => xs.length ≤ sizeLine ∧ ∃ (its : ag) (n : Nat), cH xs its ∧ h.get? a = some { cls := .type "list", data := .seq its.toArray n }
 | .tup xs => xs.length ≤ sizeLine ∧ ∃ its : ag, cH xs its ∧ IsTup h a its.toArray
 | .dK kvs => kvs.length ≤ sizeLine ∧ (a == sysModules) = false ∧ ∃ vs, KV kvs vs ∧ h.DictOf (fm P w) a vs
 | .dT kvs => kvs.length ≤ sizeLine ∧ (a == sysModules) = false ∧ ∃ xs : List (List Key × Addr × Value),
   Paired (fun (p : List Key × V) (q : List Key × Addr × Value) => p.1 = q.1 ∧ H q.2.1 = some (.tup (p.1.map kV)) ∧ RelV p.2 q.2.2) kvs xs ∧
   ∃ o es ep, h.get? a = some o ∧ o.ExactDict ∧ o.data = .dict es ep ∧ es.toList = xs.map (entryOfKey (tupleKind (fm P w))) ∧ (xs.map (·.1)).Nodup
 | .set S n => h.SetOf (intKind P w) a S n
 | .ins C dx fs => H dx = some (.own a) ∧ fs.length ≤ 1000 ∧ dx ≠ a ∧ h.get? a = some (W.instObj C dx) ∧
   ∃ mA, h.Ns1 dx mA ∧ (∀ f, sQ (fs.lookup f) (mA f)) ∧ PySem.Within mA (fs.map (·.1))
 | .own _ => ∃ o, h.get? a = some o
 | .xd fs => ∃ mA, h.Ns1 a mA ∧ ∀ f, sQ (fs.lookup f) (mA f)
 | .rng lo hi => ∃ t u v, h.get? a = some { cls := .type "range", data := .fields #[.int lo t, .int hi u, .int 1 v] }
 | .frz o u => h.get? a = some o ∧ cc H h a u
 | .tbl ps => h.get? a = some { cls := .none, data := .fields ps }
 | .met f x => h.get? a = some (W.methodObj (.ref f) (.ref x))
 | .ext φ => φ h ∧ (∃ o, h.get? a = some o) ∧ ∀ h1 h2 : Heap, φ h1 → (∀ o, h1.get? a = some o → h2.get? a = some o) → φ h2
def p7(H:Hp)(h:Heap):Prop:=∀a o,H a=some o->cc P w H h a o
end
section
variable {P:Program}{w:World}{H H':Hp}{h h':Heap}{a:Addr}{o:HO}
theorem cc.lt(x:cc P w H h a o):a<h.objs.size:=by
 cases o with
 | lst xs=>obtain⟨_,_,_,_,e⟩:=x;exact aN e
 | tup xs=>obtain⟨_,_,_,p⟩:=x;exact p.lt
 | dK kvs=>obtain⟨_,_,_,_,o,_,_,e,_⟩:=x;exact aN e
 | dT kvs=>obtain⟨_,_,_,_,o,_,_,e,_⟩:=x;exact aN e
 | set S n=>obtain⟨o,_,_,_,e,_⟩:=x;exact aN e
 | ins C dx fs=>obtain⟨_,_,_,e,_⟩:=x;exact aN e
 | own y=>obtain⟨_,e⟩:=x;exact aN e
 | xd fs=>obtain⟨_,⟨_,_,_,e,_⟩,_⟩:=x;exact aN e
 | rng lo hi=>obtain⟨_,_,_,e⟩:=x;exact aN e
 | frz ob u=>obtain⟨e,_⟩:=x;exact aN e
 | tbl ps=>exact aN (show h.get? a=some _ from x)
 | met f y=>exact aN (show h.get? a=some _ from x)
 | ext φ=>obtain⟨_,⟨_,e⟩,_⟩:=x;exact aN e
theorem Paired.mapP{α β:Type}{F G:α->β->Prop}:∀{l₁:List α} {l₂:List β},Paired F l₁ l₂->(∀a b,F a b->G a b)->Paired G l₁ l₂
 | _,_,.nil,_=>.nil
 | _,_,.cons r t,f=>.cons (f _ _ r) (Paired.mapP t f)
theorem cc.stay(x:cc P w H h a o)(k:∀b u,(b=a\/H b=some (.own a))->h.get? b=some u->h'.get? b=some u)
  (ho:∀b,H b=some (.own a)->H' b=some (.own a)) (ht:∀b xs,H b=some (.tup xs)->H' b=some (.tup xs)):cc P w H' h' a o:=by
 induction o with
 | lst xs=>obtain⟨z,its,n,r,e⟩:=x;exact⟨z,its,n,r,k _ _ (.inl rfl) e⟩
 | tup xs=>obtain⟨z,its,r,ob,e,c⟩:=x;exact⟨z,its,r,ob,k _ _ (.inl rfl) e,c⟩
 | dK kvs=>obtain⟨z,y,vs,r,ob,es,ep,e,c⟩:=x;exact⟨z,y,vs,r,ob,es,ep,k _ _ (.inl rfl) e,c⟩
 | dT kvs=>
  obtain⟨z,y,xs,r,ob,es,ep,e,c⟩:=x;exact⟨z,y,xs,Paired.mapP r λp q z=>⟨z.1,ht _ _ z.2.1,z.2.2⟩,ob,es,ep,k _ _ (.inl rfl) e,c⟩
 | set S n=>obtain⟨ob,es,ep,t,e,c⟩:=x;exact⟨ob,es,ep,t,k _ _ (.inl rfl) e,c⟩
 | ins C dx fs=>
  obtain⟨d,z,ne,e,mA,⟨od,es,ep,e2,c⟩,r⟩:=x;exact⟨ho _ d,z,ne,k _ _ (.inl rfl) e,mA,⟨od,es,ep,k _ _ (.inr d) e2,c⟩,r⟩
 | own y=>obtain⟨ob,e⟩:=x;exact⟨ob,k _ _ (.inl rfl) e⟩
 | xd fs=>obtain⟨mA,⟨od,es,ep,e,c⟩,r⟩:=x;exact⟨mA,⟨od,es,ep,k _ _ (.inl rfl) e,c⟩,r⟩
 | rng lo hi=>obtain⟨t,u,v,e⟩:=x;exact⟨t,u,v,k _ _ (.inl rfl) e⟩
 | frz ob u ih=>obtain⟨e,q⟩:=x;exact⟨k _ _ (.inl rfl) e,ih q⟩
 | tbl ps=>
  have e:h.get? a=some { cls:=.none,data:=.fields ps }:=x;show h'.get? a=some { cls:=.none,data:=.fields ps };exact k a _ (.inl rfl) e
 | met f y=>
  have e:h.get? a=some (W.methodObj (.ref f) (.ref y)):=x;show h'.get? a=some (W.methodObj (.ref f) (.ref y));exact k a _ (.inl rfl) e
 | ext φ=>obtain⟨p,⟨o,e⟩,st⟩:=x;exact⟨st _ _ p λo q=>k _ _ (.inl rfl) q,⟨o,k _ _ (.inl rfl) e⟩,st⟩
theorem p7.lt(x:p7 P w H h)(e:H a=some o):a<h.objs.size:=(x a o e).lt
theorem p7.fresh(x:p7 P w H h)(e:h.objs.size<=a):H a=none:=by
 cases q:H a with
 | none=>rfl
 | some u=>exact absurd (aZ (x.lt q) e) (de _)
theorem p7.kept(x:p7 P w H h)(k:∀b u,h.get? b=some u->h'.get? b=some u):p7 P w H h':=λa o e=>
 (x a o e).stay (λb u _ q=>k b u q) (λ_ q=>q) λ_ _ q=>q
theorem p7.laid(x:p7 P w H h)(k:∀b u,h.get? b=some u->h'.get? b=some u)(hp:h.objs.size<=a)(new:cc P w (upd H a o) h' a o):p7 P w (upd H a o) h':=λb u e=>by
 have hn:=x.fresh hp;by_cases hb:b=a
 .subst hb;rw[aG] at e;cases e;exact new
 .rw[aO hb] at e;exact(x b u e).stay (λc v _ q=>k c v q) (λc q=>by rw[aO (bI q hn)];exact q) λc xs q=>by rw[aO (bI q hn)];exact q
end
def Rd(H:Hp)(a:Addr)(u:HO):Prop:=H a=some u\/∃o,H a=some (.frz o u)
theorem Rd.ok{P:Program}{w:World}{H:Hp}{h:Heap}{a:Addr}{u:HO}(r:Rd H a u)(x:p7 P w H h):cc P w H h a u:=by
 rcases r with r | ⟨o,r⟩
 .exact x a u r
 .obtain⟨_,q⟩:=x a _ r;exact q
def MZ:Option HO->Prop
 | some (.lst _)=>True
 | some (.dK _)=>True
 | some (.dT _)=>True
 | some (.set _ _)=>True
 | some (.ins _ _ _)=>True
 | some (.ext _)=>True
 | _=>False
section
variable {P:Program}{w:World}{H:Hp}{h h':Heap}{x e:Addr}{o':HO}
theorem p7.write(ok:p7 P w H h)(mu:MZ (H x))(he:e=x\/H e=some (.own x))(k:∀b u,b≠e->h.get? b=some u->h'.get? b=some u)(heo:∃u,h'.get? e=some u)
  (new:cc P w (upd H x o') h' x o'):p7 P w (upd H x o') h':=λb u q=>by
 have nown:∀c y,H c=some (.own y)->c≠x:=λc y r z=>by subst z;rw[r] at mu;exact mu
 have ntup:∀c xs,H c=some (.tup xs)->c≠x:=λc xs r z=>by subst z;rw[r] at mu;exact mu
 by_cases hb:b=x
 .subst hb;rw[aG] at q;cases q;exact new
 .rw[aO hb] at q;by_cases hbe:b=e
  .have q':H b=some (.own x):=by
    rcases he with z | z
    .exact absurd (hbe.trans z) hb
    .rw[hbe];exact z
   rw[q] at q';cases q';obtain⟨v,hv⟩:=heo;exact⟨v,by rw[hbe];exact hv⟩
  .refine(ok b u q).stay (λc v hc r=>k c v ?_ r) (λc r=>by rw[aO (nown c b r)];exact r) λc xs r=>by rw[aO (ntup c xs r)];exact r
   rcases hc with rfl | hc
   .exact hbe
   .rintro rfl;rcases he with z | z
    .exact nown c b hc z
    .rw[hc] at z;cases z;exact hb rfl
end
structure Un (fs ex:ld) (H H':Hp) (h h':Heap):Prop where
 keep:∀ b o,h.get? b=some o->H b=none->b∉fs->b∉ex->h'.get? b=some o
 slot:∀ b o,h.get? b=some o->H b=none->b∈fs->b∉ex->∃ sl,h'.get? b=some { o with slots:=sl }
 free:∀ b o,h.get? b=some o->H b=none->b∉ex->H' b=none
 there:∀ b o,h.get? b=some o->b∉ex->∃ o',h'.get? b=some o'
 tups:∀ b xs,H b=some (.tup xs)->H' b=some (.tup xs)
 frzs:∀ b o u,H b=some (.frz o u)->H' b=some (.frz o u)
 tbls:∀ b ps,H b=some (.tbl ps)->∃ more,H' b=some (.tbl (ps++more))
section
variable {fs ex:ld}{H H1:Hp}{h h1 h':Heap}{a x e:Addr}{o:HO}
theorem Un.any(u:Un fs ex H H1 h h1){b:Addr}{ob:Obj}(q:h.get? b=some ob)(n:H b=none)(hx:b∉ex):∃sl,h1.get? b=some { ob with slots:=sl }:=by
 by_cases hb:b∈fs
 .exact u.slot b ob q n hb hx
 .exact⟨ob.slots,u.keep b ob q n hb hx⟩
theorem Un.kept(k:∀b u,h.get? b=some u->h'.get? b=some u):Un fs ex H H h h':=
 ⟨λb ob q _ _ _=>k b ob q,λb ob q _ _ _=>⟨ob.slots,k b ob q⟩,λ_ _ _ n _=>n,λb ob q _=>⟨ob,k b ob q⟩,λ_ _ q=>q,λ_ _ _ q=>q,λ_ ps q=>⟨#[],by rw[q];simp⟩⟩
theorem Un.refl:Un fs ex H H h h:=Un.kept λ_ _ q=>q
theorem Un.laid(k:∀b u,h.get? b=some u->h'.get? b=some u)(hp:h.objs.size<=a)(hn:H a=none):Un fs ex H (upd H a o) h h' where
 keep:=λb u q _ _ _=>k b u q
 slot:=λb u q _ _ _=>⟨u.slots,k b u q⟩
 free:=λb u q n _=>by rw[aO (a6 (aZ (aN q) hp))];exact n
 there:=λb u q _=>⟨u,k b u q⟩
 tups:=λb xs q=>by rw[aO (bI q hn)];exact q
 frzs:=λb u xs q=>by rw[aO (bI q hn)];exact q
 tbls:=λb ps q=>⟨#[],by rw[aO (bI q hn),q];simp⟩
theorem Un.write(mu:MZ (H x))(he:e=x\/H e=some (.own x))(k:∀b u,b≠e->h.get? b=some u->h'.get? b=some u)(heo:∃u,h'.get? e=some u):Un fs ex H (upd H x o) h h':=by
 have hx:∀b,H b=none->b≠x:=λb n z=>by subst z;rw[n] at mu;exact mu
 have hb:∀b,H b=none->b≠e:=λb n z=>by
  subst z;rcases he with r | r
  .exact hx b n r
  .rw[n] at r;cases r
 have hm:∀b u,H b=some u->¬MZ (some u)->b≠x:=λb u q nm z=>by subst z;rw[q] at mu;exact nm mu
 refine⟨λb u q n _ _=>k b u (hb b n) q,λb u q n _ _=>⟨u.slots,k b u (hb b n) q⟩,λb u q n _=>by rw[aO (hx b n)];exact n,λb u q _=>?_,
  λb xs q=>by rw[aO (hm b _ q λz=>z)];exact q,λb u xs q=>by rw[aO (hm b _ q λz=>z)];exact q,λb ps q=>⟨#[],by rw[aO (hm b _ q λz=>z),q];simp⟩⟩
 by_cases hbe:b=e
 .subst hbe;exact heo
 .exact⟨u,k b u hbe q⟩
end
def trk(h:Heap)(H:Hp):ld:=(List.range h.objs.size).filter λa=>(H a).isSome
def wX(h:Heap)(H:Hp):Heap:=W.hideAll h (trk h H)
theorem CT(h:Heap)(H:Hp):(wX h H).objs.size=h.objs.size:=W.hideAll_size _ _
theorem FZ{h:Heap}{H:Hp}{b:Addr}{o:Obj}(e:h.get? b=some o)(n:H b=none):(wX h H).get? b=some o:=
 kT _ e λhm=>by
  have q:(H b).isSome=true:=(aV.mp hm).2;rw[n] at q;simp at q
theorem HZ{h:Heap}{H:Hp}{b:Addr}{o:Obj}(e:(wX h H).get? b=some o):h.get? b=some o/\H b=none:=by
 have e':h.get? b=some o:=lT (trk h H) e;refine⟨e',?_⟩;cases q:H b with
 | none=>rfl
 | some x=>
  have hm:b∈trk h H:=aV.mpr ⟨bj.mpr (aN e'),by simp[q]⟩;have z:(wX h H).get? b=none:=hU (trk h H) hm;rw[z] at e;cases e
def IK(g h:Heap)(L:Addr):List (Addr×Obj):=(List.range h.objs.size).filterMap λa=>if a=L\/(g.get? a).isSome=true then none else (h.get? a).map λo=>(a,o)
def rest(g h:Heap)(L d:Addr):List (Addr×Obj):=(IK g h L).filter λp=>decide (p.1≠d)
structure Mod (K:U9) (mg:Str->bt) (base:Heap):Prop where
 kin:K.In base
 glob:base.Ns mainGlobals mg
 blt:∃ mb,base.Ns builtinsNs mb/\∀ x:Str,x≠"__name__"->mb x=bootBuiltins x
 nolimit:base.NoLimit
structure Cx where
 prog:Program
 w:World
 K:U9
 mg:Str->bt
 base:Heap
 A:Around
 N:List Str
 s₀:Shared
 H₀:Hp
 env:Env
 outer:List Env
 stack:List Env
 ex:ld
 fn:Str->Bool
 calm:Bool
 pn:List (Addr×Obj)
 xe:Value->Shared->Prop
def lq(l:List Env):ld:=l.filterMap (·.frame)
abbrev Cx.fs (X:Cx):ld:=lq X.outer
def MU(sc:Scope)(x:Str):Prop:=sc.names.lookup x=some .local\/sc.names.lookup x=some .cell\/sc.names.lookup x=some .free
def Loc(sc:Scope)(x:Str):Prop:=sc.names.lookup x=some .local\/sc.names.lookup x=some .cell
def Look(env:Env)(h:Heap)(m:Str->bt)(x:Str)(u:Value):Prop:=
 (env.kindOf x=some .local/\m x=some u)\/((env.kindOf x=some .cell\/env.kindOf x=some .free)/\∃c,env.cells.lookup x=some c/\h.IsCell c (some u))
structure Cx.Ok (X:Cx):Prop where
 mod:Mod X.K X.mg X.base
 kind:X.env.scope.kind=.function
 glob:X.env.globals=mainGlobals
 blt:X.env.builtins=builtinsNs
 above:X.s₀.heap.objs.size<=X.env.locals
 inj:∀ x y c,X.env.cells.lookup x=some c->X.env.cells.lookup y=some c->x=y
 has:∀ x,(X.env.kindOf x=some .cell\/X.env.kindOf x=some .free)->∃ c,X.env.cells.lookup x=some c
 cab:∀ x c,X.fn x=true->X.env.cells.lookup x=some c->X.s₀.heap.objs.size<=c
 hd:X.calm=true->X.A.handled=none
 frames:X.A.frames=some X.stack
 stk:X.stack=X.outer\/(X.stack=X.env::X.outer/\X.env.frame=some X.env.locals)
 exf:∀ b∈X.ex,b≠X.env.locals/\∀ x c,X.env.cells.lookup x=some c->c≠b
 bs:∀ b o,X.base.get? b=some o->X.s₀.heap.get? b=some o/\X.H₀ b=none
 bsz:X.base.objs.size<=X.s₀.heap.objs.size
 noex:∀ b o,X.base.get? b=some o->b∉X.ex
 exfs:∀ b∈X.ex,b∉X.fs
 funs:X.s₀.heap.FunFrames X.base X.outer
 frf:∀ b∈X.fs,X.H₀ b=none
structure bc (X:Cx) (pins:List (Addr×Obj)) (Z:List (Option V)) (H:Hp) (s:Shared):Prop where
 ok:X.Ok
 os:s.os=X.s₀.os
 bare:AllBare s.gens
 base:Un X.fs X.ex X.H₀ H X.s₀.heap s.heap
 loc:∃ m,s.heap.Ns X.env.locals m/\∀ (i:Nat) (x:Str) (v:V),X.N[i]? = some x->Z[i]? = some (some v)->MU X.env.scope x->∃ u,RelV v u/\Look X.env s.heap m x u
 cell:∀ x c,X.env.cells.lookup x=some c->∃ v,s.heap.IsCell c v
 free:H X.env.locals=none
 freeC:∀ x c,X.env.cells.lookup x=some c->H c=none
 pin:∀ p∈X.pn++pins,s.heap.get? p.1=some p.2/\H p.1=none/\p.1≠X.env.locals/\p.1∉X.fs/\∀ v,p.2.data≠.cell v
 hok:p7 X.prog X.w H s.heap
 len:Z.length=X.N.length
section
variable {X:Cx}{pins:List (Addr×Obj)}{Z:List (Option V)}{H H':Hp}{s:Shared}{h':Heap}
theorem Cx.Ok.nofr(ok:X.Ok){b:Addr}{o:Obj}(e:X.base.get? b=some o):b∉X.fs:=λhb=>by
 have:=(ok.funs.mem hb).1;rw[e] at this;cases this
theorem bc.bs(I:bc X pins Z H s):∀b o,X.base.get? b=some o->s.heap.get? b=some o/\H b=none:=λb o e=>
 ⟨I.base.keep b o (I.ok.bs b o e).1 (I.ok.bs b o e).2 (I.ok.nofr e) (I.ok.noex b o e),I.base.free b o (I.ok.bs b o e).1 (I.ok.bs b o e).2 (I.ok.noex b o e)⟩
theorem bc.bk(I:bc X pins Z H s):∀b o,X.base.get? b=some o->s.heap.get? b=some o:=λb o e=>(I.bs b o e).1
theorem bc.mod(I:bc X pins Z H s):Mod X.K X.mg X.base:=I.ok.mod
theorem bc.kIn(I:bc X pins Z H s):X.K.In s.heap:=I.ok.mod.kin.keeps I.bk
theorem bc.lt(I:bc X pins Z H s):X.env.locals<s.heap.objs.size:=let ⟨_,hn,_⟩:=I.loc;hn.lt
theorem bc.sz(I:bc X pins Z H s):X.s₀.heap.objs.size<=s.heap.objs.size:=bN I.ok.above (bT I.lt)
theorem bc.nofs(I:bc X pins Z H s){a:Addr}(h:s.heap.objs.size<=a):a∉X.fs:=λhb=>by
 obtain⟨_,o,ho,_⟩:=I.ok.funs.mem hb;exact absurd (aZ (aN ho) (bN I.sz h)) (de _)
theorem bc.cne(I:bc X pins Z H s):∀x c,X.env.cells.lookup x=some c->c≠X.env.locals:=λx c e z=>by
 obtain⟨v,o,ho,hd⟩:=I.cell x c e;obtain⟨m,⟨o',es,ep,ho',hd',_⟩,_⟩:=I.loc;rw[z,ho'] at ho;cases ho;rw[hd'] at hd;cases hd
theorem bc.funs(I:bc X pins Z H s):s.heap.FunFrames X.base X.outer:=by
 have all:∀(l:List Env),(∀b∈lq l,b∈X.fs)->X.s₀.heap.FunFrames X.base l->s.heap.FunFrames X.base l:=by
  intro l
  induction l with
  | nil=>intro _ _;trivial
  | cons env r ih=>
   intro hs hl;obtain⟨hk,⟨L,o,hf,hn,ho,hd⟩,hr⟩:=hl;have hL:L∈X.fs:=hs L (by unfold lq;rw[c6,hf];exact aW);obtain⟨sl,e⟩:=I.base.slot L o ho (I.ok.frf L hL) hL λz=>I.ok.exfs L z hL;exact⟨hk,⟨L,_,hf,hn,e,hd⟩,ih (λb hb=>hs b (by unfold lq;rw[c6,hf];exact aJ _ hb)) hr⟩
 exact all X.outer (λ_ hb=>hb) I.ok.funs
theorem bc.stack(I:bc X pins Z H s):s.heap.FunFrames X.base X.stack:=by
 rcases I.ok.stk with e | ⟨e,hf⟩
 .rw[e];exact I.funs
 .rw[e];obtain⟨m,hn,_⟩:=I.loc;refine .cons (by rw[I.ok.kind];decide) hf hn ?_ I.funs;exact h7 (bN I.ok.bsz I.ok.above)
theorem bc.stkSub(I:bc X pins Z H s):∀b∈lq X.stack,b∈X.env.locals::X.fs:=λb hb=>by
 rcases I.ok.stk with e | ⟨e,hf⟩
 .rw[e] at hb;exact aJ _ hb
 .rw[e] at hb;unfold lq at hb;rw[c6,hf] at hb;exact hb
theorem bc.stkFree(I:bc X pins Z H s):∀b∈lq X.stack,H b=none:=λb hb=>by
 rcases aL.mp (I.stkSub b hb) with e | hb
 .rw[e];exact I.free
 .obtain⟨_,o,ho,_⟩:=I.ok.funs.mem hb;exact I.base.free b o ho (I.ok.frf b hb) λz=>I.ok.exfs b z hb
theorem bc.step{g':Array GenState}{t':Nat}{d':Drawn}{ch:ld}(I:bc X pins Z H s)
  (hch:∀b∈ch,(b∈X.ex\/X.s₀.heap.objs.size<=b)/\b≠X.env.locals/\(∀x c,X.env.cells.lookup x=some c->c≠b)/\∀p∈X.pn++pins,p.1≠b)
  (keep:∀b o,b≠X.env.locals->b∉X.fs->b∉ch->s.heap.get? b=some o->H b=none->h'.get? b=some o)
  (slot:∀b o,b≠X.env.locals->b∈X.fs->b∉ch->s.heap.get? b=some o->H b=none->∃sl,h'.get? b=some { o with slots:=sl }) (free:∀b o,b∉ch->s.heap.get? b=some o->H b=none->H' b=none)
  (there:∀b o,b∉ch->s.heap.get? b=some o->∃o',h'.get? b=some o')
  (tups:∀b xs,H b=some (.tup xs)->H' b=some (.tup xs)) (frzs:∀b o u,H b=some (.frz o u)->H' b=some (.frz o u)) (tbls:∀b ps,H b=some (.tbl ps)->∃more,H' b=some (.tbl (ps++more)))
  (ns:∀m,s.heap.Ns X.env.locals m->h'.Ns X.env.locals m) (hok:p7 X.prog X.w H' h') (hg:AllBare g') :
  bc X pins Z H' { s with heap:=h',gens:=g',drawn:=d',toks:=t' }:=by
 have neL:∀b o,X.s₀.heap.get? b=some o->b≠X.env.locals:=λb o e=>a6 (aZ (aN e) I.ok.above);have neC:∀b o,X.s₀.heap.get? b=some o->b∉X.ex->b∉ch:=λb o e hx hb=>by
  rcases(hch b hb).1 with z | z
  .exact hx z
  .exact absurd (aZ (aN e) z) (de _)
 have cellK:∀x c,X.env.cells.lookup x=some c->∀v,s.heap.IsCell c v->h'.IsCell c v:=λx c e v ⟨o,ho,hd⟩=>by
  have nch:c∉ch:=λz=>(hch c z).2.2.1 x c e rfl;by_cases hc:c∈X.fs
  .obtain⟨sl,q⟩:=slot c o (I.cne x c e) hc nch ho (I.freeC x c e);exact⟨_,q,hd⟩
  .exact⟨o,keep c o (I.cne x c e) hc nch ho (I.freeC x c e),hd⟩
 refine⟨I.ok,I.os,hg,⟨λb o e n hb hx=>?_,λb o e n hb hx=>?_,λb o e n hx=>?_,λb o e hx=>?_,λb xs e=>tups b xs (I.base.tups b xs e),λb o xs e=>frzs b o xs (I.base.frzs b o xs e),λb ps e=>?_⟩,?_,λx c e=>?_,?_,λx c e=>?_,λp hp=>?_,hok,I.len⟩
 .exact keep b o (neL b o e) hb (neC b o e hx) (I.base.keep b o e n hb hx) (I.base.free b o e n hx)
 .obtain⟨sl,e1⟩:=I.base.slot b o e n hb hx;obtain⟨sl',e2⟩:=slot b _ (neL b o e) hb (neC b o e hx) e1 (I.base.free b o e n hx);exact⟨sl',e2⟩
 .obtain⟨o',e1⟩:=I.base.there b o e hx;exact free b o' (neC b o e hx) e1 (I.base.free b o e n hx)
 .obtain⟨o',e1⟩:=I.base.there b o e hx;exact there b o' (neC b o e hx) e1
 .obtain⟨m1,e1⟩:=I.base.tbls b ps e;obtain⟨m2,e2⟩:=tbls b _ e1;exact⟨m1++m2,by rw[e2,Array.append_assoc]⟩
 .obtain⟨m,hn,hl⟩:=I.loc;refine⟨m,ns m hn,λi x v e1 e2 e3=>?_⟩;obtain⟨u,r,l⟩:=hl i x v e1 e2 e3;refine⟨u,r,?_⟩;rcases l with l | ⟨k,c,e,z⟩
  .exact .inl l
  .exact .inr ⟨k,c,e,cellK x c e _ z⟩
 .obtain⟨v,z⟩:=I.cell x c e;exact⟨v,cellK x c e v z⟩
 .obtain⟨m,⟨o,_,_,ho,_⟩,_⟩:=I.loc;exact free _ o (λz=>(hch _ z).2.1 rfl) ho I.free
 .obtain⟨v,o,ho,hd⟩:=I.cell x c e;exact free c o (λz=>(hch c z).2.2.1 x c e rfl) ho (I.freeC x c e)
 .obtain⟨e,n,ne,nf,d⟩:=I.pin p hp;have nch:p.1∉ch:=λz=>(hch p.1 z).2.2.2 p hp rfl;exact⟨keep p.1 p.2 ne nf nch e n,free p.1 p.2 nch e n,ne,nf,d⟩
theorem bc.un{t':Nat}(I:bc X pins Z H s)(u:Un X.fs [] H H' s.heap h')(hok:p7 X.prog X.w H' h'):bc X pins Z H' { s with heap:=h',toks:=t' }:=by
 obtain⟨m,⟨o,es,ep,ho,r⟩,_⟩:=id I.loc;obtain⟨sl,hL⟩:=u.any ho I.free (by simp);exact I.step (g':=s.gens) (d':=s.drawn) (ch:=[]) (λ_ z=>nomatch z) (λb o _ hb _ e n=>u.keep b o e n hb (by simp)) (λb o _ hb _ e n=>u.slot b o e n hb (by simp)) (λb o _ e n=>u.free b o e n (by simp)) (λb o _ e=>u.there b o e (by simp)) u.tups u.frzs u.tbls (λm' hm=>by
  obtain⟨o',es',ep',ho',r'⟩:=hm;rw[ho] at ho';cases ho';exact⟨_,es',ep',hL,r'⟩) hok I.bare
theorem bc.call{g':Array GenState}{t':Nat}{d':Drawn}{ch:ld}(I:bc X pins Z H s)(u:Un (lq X.stack) ch H H' s.heap h')(hok:p7 X.prog X.w H' h')(hg:AllBare g')
  (hch:∀b∈ch,(b∈X.ex\/X.s₀.heap.objs.size<=b)/\b≠X.env.locals/\(∀x c,X.env.cells.lookup x=some c->c≠b)/\∀p∈X.pn++pins,p.1≠b) :
  bc X pins Z H' { s with heap:=h',gens:=g',drawn:=d',toks:=t' }:=by
 obtain⟨m,⟨o,es,ep,ho,r⟩,_⟩:=id I.loc;obtain⟨sl,hL⟩:=u.any ho I.free λz=>(hch _ z).2.1 rfl;exact I.step (ch:=ch) hch (λb o hL hb hc e n=>u.keep b o e n (λz=>(aL.mp (I.stkSub b z)).elim hL hb) hc) (λb o _ _ hc e n=>u.any e n hc) (λb o hc e n=>u.free b o e n hc) (λb o hc e=>u.there b o e hc) u.tups u.frzs u.tbls (λm' hm=>by
  obtain⟨o',es',ep',ho',r'⟩:=hm;rw[ho] at ho';cases ho';exact⟨_,es',ep',hL,r'⟩) hok hg
theorem bc.turned{t':Nat}{it:Addr}(I:bc X pins Z H s)(k:∀b o,b≠it->s.heap.get? b=some o->h'.get? b=some o)(hn:H it=none)(hL:it≠X.env.locals)
  (h1:it∈X.ex\/X.s₀.heap.objs.size<=it) (h2:∀x c,X.env.cells.lookup x=some c->c≠it) (h3:∀p∈X.pn++pins,p.1≠it):bc X pins Z H { s with heap:=h',toks:=t' }:=by
 have nit:∀b u,H b=some u->b≠it:=λb u e z=>by rw[z,hn] at e;cases e
 refine I.step (g':=s.gens) (d':=s.drawn) (ch:=[it]) (λb hb=>?_) (λb o _ _ hc e _=>k b o (λz=>hc (by simp[z])) e) (λb o _ _ hc e _=>⟨o.slots,k b o (λz=>hc (by simp[z])) e⟩) (λ_ _ _ _ n=>n)
  (λb o hc e=>⟨o,k b o (λz=>hc (by simp[z])) e⟩) (λ_ _ e=>e) (λ_ _ _ e=>e) (λb ps e=>⟨#[],by rw[e];simp⟩) (λm hm=>?_) (λb u e=>?_) I.bare
 .have e:b=it:=by simpa using hb
  subst e;exact⟨h1,hL,h2,h3⟩
 .obtain⟨o,es,ep,ho,r⟩:=hm;exact⟨o,es,ep,k _ o (fM hL) ho,r⟩
 .refine(I.hok b u e).stay (λc v hc q=>k c v ?_ q) (λ_ q=>q) λ_ _ q=>q;rcases hc with z | z
  .rw[z];exact nit b u e
  .exact nit c _ z
theorem bc.tok(I:bc X pins Z H s)(t:Nat):bc X pins Z H { s with toks:=t }:=I.un (h':=s.heap) (t':=t) Un.refl I.hok
theorem bc.kept{t':Nat}(I:bc X pins Z H s)(k:∀b u,s.heap.get? b=some u->h'.get? b=some u):bc X pins Z H { s with heap:=h',toks:=t' }:=I.un (Un.kept k) (I.hok.kept k)
theorem bc.laid{a:Addr}{o:HO}{t':Nat}(I:bc X pins Z H s)(k:∀b u,s.heap.get? b=some u->h'.get? b=some u)(hp:s.heap.objs.size<=a)(new:cc X.prog X.w (upd H a o) h' a o):
  bc X pins Z (upd H a o) { s with heap:=h',toks:=t' }:=I.un (Un.laid k hp (I.hok.fresh hp)) (I.hok.laid k hp new)
theorem bc.write{x e:Addr}{o:HO}{t':Nat}(I:bc X pins Z H s)(mu:MZ (H x))(he:e=x\/H e=some (.own x))(k:∀b u,b≠e->s.heap.get? b=some u->h'.get? b=some u)(heo:∃u,h'.get? e=some u)
  (new:cc X.prog X.w (upd H x o) h' x o):bc X pins Z (upd H x o) { s with heap:=h',toks:=t' }:=I.un (Un.write mu he k heo) (I.hok.write mu he k heo new)
theorem bc.pins_of{pins':List (Addr×Obj)}(I:bc X pins Z H s)(h:∀p∈pins',s.heap.get? p.1=some p.2/\H p.1=none/\p.1≠X.env.locals/\p.1∉X.fs/\∀v,p.2.data≠.cell v):bc X pins' Z H s:=
 ⟨I.ok,I.os,I.bare,I.base,I.loc,I.cell,I.free,I.freeC,λp hp=>(bG.mp hp).elim (λz=>I.pin p (cn _ z)) (h p),I.hok,I.len⟩
theorem uC{N:List Str}(hN:N.Nodup){i j:Nat}{x:Str}(a:N[i]? = some x)(b:N[j]? = some x):i=j:=by
 obtain⟨h1,e1⟩:=aH.mp a;obtain⟨h2,e2⟩:=aH.mp b;exact(iI hN).mp (e1.trans e2.symm)
theorem rL{M:Model}{A:Around}{E:Value->Shared->Prop}{i:Nat}{x:Str}{v:V}{u:Value}{Q:Unit->Shared->Prop}(I:bc X pins Z H s)(hN:X.N.Nodup)(hi:X.N[i]? = some x)(hx:Loc X.env.scope x)(r:RelV v u)
  (h:∀s',bc X pins (Z.set i (some v)) H s'->(∃a,Heap.SameBut a s.heap s'.heap/\(a=X.env.locals\/X.env.cells.lookup x=some a))->Q () s') (hf:X.fn x=true\/X.env.scope.names.lookup x=some .local:=by first | exact .inl rfl | exact .inr rfl | assumption):wpAny M A (storeName X.env x u) Q E s:=by
 obtain⟨m,hn,hl⟩:=id I.loc;have hcls:(X.env.scope.kind==.class || (X.env.scope.kind==.module&&X.env.locals != X.env.globals))=false:=by rw[I.ok.kind];rfl
 have hiZ:i<Z.length:=by rw[I.len];exact(aH.mp hi).1
 have cne:=I.cne;have tracked:∀{a:Addr} {h':Heap},(∃o,s.heap.get? a=some o/\H a=none)->Heap.SameBut a s.heap h'->p7 X.prog X.w H h':=fun {a h'} ha hs b ob e=>by
  obtain⟨_,_,hfree⟩:=ha;refine(I.hok b ob e).stay (λc w' hc q=>(hs.2 c ?_).trans q) (λ_ q=>q) λ_ _ q=>q;rintro rfl;rcases hc with rfl | hc
  .rw[hfree] at e;cases e
  .rw[hfree] at hc;cases hc
 rcases hx with hk | hk
 .refine wpAny_storeName_local hk hn (λh' hn' hs=>?_) hcls;obtain⟨oL,_,_,hoL,_⟩:=id hn;refine h _ ⟨I.ok,I.os,I.bare,⟨λb o e n hb hx=>?_,λb o e n hb hx=>?_,I.base.free,λb o e hx=>?_,I.base.tups,I.base.frzs,I.base.tbls⟩,⟨_,hn',λj y v' e1 e2 e3=>?_⟩,λy c e=>?_,I.free,I.freeC,λp hp=>?_,tracked ⟨oL,hoL,I.free⟩ hs,by simpa using I.len⟩ ⟨_,hs,.inl rfl⟩
  .exact(hs.2 b (a6 (aZ (aN e) I.ok.above))).trans (I.base.keep b o e n hb hx)
  .obtain⟨sl,e1⟩:=I.base.slot b o e n hb hx;exact⟨sl,(hs.2 b (a6 (aZ (aN e) I.ok.above))).trans e1⟩
  .obtain⟨o',e1⟩:=I.base.there b o e hx;exact⟨o',(hs.2 b (a6 (aZ (aN e) I.ok.above))).trans e1⟩
  .by_cases hj:j=i
   .subst hj;rw[hi] at e1;cases e1;rw[jM hiZ] at e2;cases e2;exact⟨u,r,.inl ⟨hk,by simp⟩⟩
   .rw[jy (fM hj)] at e2;obtain⟨u',r',q⟩:=hl j y v' e1 e2 e3;refine⟨u',r',?_⟩;rcases q with ⟨k,e⟩ | ⟨k,c,e,z⟩
    .refine .inl ⟨k,?_⟩;have:y≠x:=λe=>hj (uC hN e1 (e▸hi));simp[this,e]
    .exact .inr ⟨k,c,e,z.sameBut hs (cne y c e)⟩
  .obtain⟨w',z⟩:=I.cell y c e;exact⟨w',z.sameBut hs (cne y c e)⟩
  .obtain⟨e,n,ne,nf,d⟩:=I.pin p hp;exact⟨(hs.2 p.1 ne).trans e,n,ne,nf,d⟩
 .have hfn:X.fn x=true:=by
   rcases hf with z | z
   .exact z
   .rw[z] at hk;cases hk
  obtain⟨c,hc⟩:=I.ok.has x (.inl hk);obtain⟨w',z⟩:=I.cell x c hc;refine wpAny_storeName_cell I.ok.kind hk hc z (λh' hc' hs=>?_);obtain⟨oc,hoc,hocd⟩:=id z;refine h { s with heap:=h' } ⟨I.ok,I.os,I.bare,⟨λb o e n hb hx=>?_,λb o e n hb hx=>?_,I.base.free,λb o e hx=>?_,I.base.tups,I.base.frzs,I.base.tbls⟩,⟨m,hn.sameBut hs (fM (cne x c hc)),λj y v' e1 e2 e3=>?_⟩,λy c' e=>?_,I.free,I.freeC,λp hp=>?_,tracked ⟨oc,hoc,I.freeC x c hc⟩ hs,by simpa using I.len⟩ ⟨c,hs,.inr hc⟩
  .exact(hs.2 b (a6 (aZ (aN e) (I.ok.cab x c hfn hc)))).trans (I.base.keep b o e n hb hx)
  .obtain⟨sl,e1⟩:=I.base.slot b o e n hb hx;exact⟨sl,(hs.2 b (a6 (aZ (aN e) (I.ok.cab x c hfn hc)))).trans e1⟩
  .obtain⟨o',e1⟩:=I.base.there b o e hx;exact⟨o',(hs.2 b (a6 (aZ (aN e) (I.ok.cab x c hfn hc)))).trans e1⟩
  .by_cases hj:j=i
   .subst hj;rw[hi] at e1;cases e1;rw[jM hiZ] at e2;cases e2;exact⟨u,r,.inr ⟨.inl hk,c,hc,hc'⟩⟩
   .rw[jy (fM hj)] at e2;obtain⟨u',r',q⟩:=hl j y v' e1 e2 e3;refine⟨u',r',?_⟩;rcases q with q | ⟨k,c',e,z'⟩
    .exact .inl q
    .refine .inr ⟨k,c',e,z'.sameBut hs ?_⟩;rintro rfl;exact hj (uC hN e1 (I.ok.inj _ _ _ e hc▸hi))
  .by_cases hcc:c'=c
   .subst hcc;exact⟨_,hc'⟩
   .obtain⟨w2,z2⟩:=I.cell y c' e;exact⟨w2,z2.sameBut hs hcc⟩
  .obtain⟨e,n,ne,nf,d⟩:=I.pin p hp;refine⟨(hs.2 p.1 ?_).trans e,n,ne,nf,d⟩;intro q;rw[q,hoc] at e;have q':oc=p.2:=av e;exact d w' (by rw[<-q'];exact hocd)
theorem tI{M:Model}{A:Around}{E:Value->Shared->Prop}{i:Nat}{x:Str}{v:V}{u:Value}{Q:Unit->Shared->Prop}(I:bc X pins Z H s)(hN:X.N.Nodup)(hi:X.N[i]? = some x)(hx:Loc X.env.scope x)(r:RelV v u)
  (h:∀s',bc X pins (Z.set i (some v)) H s'->Q () s') (hf:X.fn x=true\/X.env.scope.names.lookup x=some .local:=by first | exact .inl rfl | exact .inr rfl | assumption):wpAny M A (storeName X.env x u) Q E s:=
 rL I hN hi hx r (λs' I' _=>h s' I') hf
theorem bc.call'{s':Shared}{ch:ld}(I:bc X pins Z H s)(ho:s'.os=s.os)(u:Un (lq X.stack) ch H H' s.heap s'.heap)(hok:p7 X.prog X.w H' s'.heap)(hg:AllBare s'.gens)
  (hch:∀b∈ch,(b∈X.ex\/X.s₀.heap.objs.size<=b)/\b≠X.env.locals/\(∀x c,X.env.cells.lookup x=some c->c≠b)/\∀p∈X.pn++pins,p.1≠b):bc X pins Z H' s':=by
 obtain⟨h',g',d',t',o'⟩:=s';have e:o'=s.os:=ho;subst e;exact I.call (g':=g') (t':=t') (d':=d') u hok hg hch
end
abbrev XK:=Value->Option Addr->Hp->Prop
abbrev St:=List (Option V)
abbrev VK:=V->Hp->Prop
abbrev TE:=St->Hp->VK->Prop
abbrev TT:=St->Hp->(Bool->Hp->Prop)->Prop
abbrev TA:=St->Hp->(List V->Hp->Prop)->Prop
structure Ends where
 nx:St->Hp->Prop
 rt:VK
 bk:St->Hp->Prop:=fun _ _=>False
 ct:St->Hp->Prop:=fun _ _=>False
abbrev TS:=Ends->St->Hp->Prop
def EP(X:Cx)(pins:List (Addr×Obj))(Z:St)(Q:VK)(u:Value)(s':Shared):Prop:=∃v H',bc X pins Z H' s'/\RelV v u/\Q v H'
def TP(X:Cx)(pins:List (Addr×Obj))(Z:St)(Q:Bool->Hp->Prop)(b:Bool)(s':Shared):Prop:=∃H',bc X pins Z H' s'/\Q b H'
def AP(X:Cx)(pins:List (Addr×Obj))(Z:St)(Q:List V->Hp->Prop)(us:ag)(s':Shared):Prop:=∃vs H',bc X pins Z H' s'/\cH vs us/\Q vs H'
def SP(X:Cx)(pins:List (Addr×Obj))(D:Ends)(f:Flow)(s':Shared):Prop:=
 match f with
 | .next=>∃Z' H',bc X pins Z' H' s'/\D.nx Z' H'
 | .brk=>∃Z' H',bc X pins Z' H' s'/\D.bk Z' H'
 | .cont=>∃Z' H',bc X pins Z' H' s'/\D.ct Z' H'
 | .ret u=>∃v Z' H',bc X pins Z' H' s'/\RelV v u/\D.rt v H'
def PE(X:Cx)(e:Expr)(t:TE):Prop:=
 ∀(pins:List (Addr×Obj)) (s:Shared) (Z:St) (H:Hp) (Q:VK),bc X pins Z H s->t Z H Q->wpAny (model X.prog X.w) X.A (eval e X.env) (EP X pins Z Q) X.xe s
def PT(X:Cx)(e:Expr)(t:TT):Prop:=
 ∀(pins:List (Addr×Obj)) (s:Shared) (Z:St) (H:Hp) (Q:Bool->Hp->Prop),bc X pins Z H s->t Z H Q->wpAny (model X.prog X.w) X.A (isTrue e X.env (eval e X.env)) (TP X pins Z Q) X.xe s
def PW(X:Cx)(e:Expr)(t:TT):Prop:=
 ∀(whole:Sem Value) (pins:List (Addr×Obj)) (s:Shared) (Z:St) (H:Hp) (Q:Bool->Hp->Prop),bc X pins Z H s->t Z H Q->wpAny (model X.prog X.w) X.A (isTrue e X.env whole) (TP X pins Z Q) X.xe s
theorem PW.pt{X:Cx}{e:Expr}{t:TT}(h:PW X e t):PT X e t:=h _
def PA(X:Cx)(es:lc)(t:TA):Prop:=
 ∀(pos:Pos) (pins:List (Addr×Obj)) (s:Shared) (Z:St) (H:Hp) (Q:List V->Hp->Prop),bc X pins Z H s->t Z H Q->wpAny (model X.prog X.w) X.A (spliced (backTo pos (starEach es X.env))) (AP X pins Z Q) X.xe s
def PS(X:Cx)(st:Stmt)(t:TS):Prop:=
 ∀(pins:List (Addr×Obj)) (s:Shared) (Z:St) (H:Hp) (D:Ends),bc X pins Z H s->t D Z H->wpAny (model X.prog X.w) X.A (exec st X.env) (SP X pins D) X.xe s
def GO(X:Cx)(st:List Stmt)(t:TS):Prop:=
 ∀(pins:List (Addr×Obj)) (s:Shared) (Z:St) (H:Hp) (D:Ends),bc X pins Z H s->t D Z H->wpAny (model X.prog X.w) X.A (execs st X.env) (SP X pins D) X.xe s
theorem dw{α:Type}{t:Sem α}{Q Q':α->Shared->Prop}{M:Model}{A:Around}{E:Value->Shared->Prop}{s:Shared}(h:wpAny M A t Q E s)(hQ:∀a s,Q a s->Q' a s):wpAny M A t Q' E s:=wpAny_mono h hQ λ_ _ x=>x
section
variable {X:Cx}
def yr(i:Nat):TE:=λZ H Q=>∃v,Z[i]? = some (some v)/\Q v H
def tC(v:V):TE:=λ_ H Q=>Q v H
theorem KC {i:Nat} {x:Str} {pos:Pos} (hN:X.N[i]? = some x) (hv:MU X.env.scope x) (hd:(x==("__debug__":Str))=false:=by decide) (hcd:(x==("__classdict__":Str))=false:=by decide):PE X (.Name x pos) (yr i):=by
 intro pins s Z H Q I h;obtain⟨v,e,h⟩:=h;obtain⟨m,hn,hl⟩:=I.loc;obtain⟨u,r,l⟩:=hl i x v hN e hv;have fin:EP X pins Z Q u s:=⟨v,H,I,r,h⟩
 rcases l with ⟨hk,hm⟩ | ⟨hk,c,hc,hcell⟩
 .exact wpAny_Name (wpAny_loadName_local I.ok.kind hk hn hm fin) hd
 .rcases hk with hk | hk
  .exact wpAny_Name (wpAny_loadName_cell I.ok.kind hk hc hcell fin) hd
  .exact wpAny_Name (wpAny_loadName_free I.ok.kind hk hc hcell fin hcd) hd
def Gl(X:Cx)(x:Str):Prop:=X.env.kindOf x=some .globalImplicit
theorem jh{E:Value->Shared->Prop}{pins:List (Addr×Obj)}{s:Shared}{Z:St}{H:Hp}{x:Str}{u:Value}{pos:Pos}{Q:Value->Shared->Prop}(I:bc X pins Z H s)(hg:Gl X x)(hm:X.mg x=some u)(h:Q u s)
  (hd:(x==("__debug__":Str))=false:=by decide):wpAny (model X.prog X.w) X.A (eval (.Name x pos) X.env) Q E s:=
 l8 I.ok.kind hg (Calls.loadGlobal_global (by rw[I.ok.glob];exact I.mod.glob.keeps I.bk) hm h) hd
theorem jE{E:Value->Shared->Prop}{pins:List (Addr×Obj)}{s:Shared}{Z:St}{H:Hp}{x:Str}{u:Value}{pos:Pos}{Q:Value->Shared->Prop}(I:bc X pins Z H s)(hg:Gl X x)(hm:X.mg x=none)(hv:bootBuiltins x=some u)(h:Q u s)
  (hn:x≠"__name__":=by decide) (hd:(x==("__debug__":Str))=false:=by decide):wpAny (model X.prog X.w) X.A (eval (.Name x pos) X.env) Q E s:=by
 obtain⟨mb,h1,h2⟩:=I.mod.blt;exact l8 I.ok.kind hg (Calls.loadGlobal_builtin (by rw[I.ok.glob];exact I.mod.glob.keeps I.bk) hm (by rw[I.ok.blt];exact h1.keeps I.bk) ((h2 x hn).trans hv) h) hd
theorem se {x:Str} {v:V} {u:Value} {pos:Pos} (hg:Gl X x) (hm:X.mg x=some u) (r:RelV v u) (hd:(x==("__debug__":Str))=false:=by decide):PE X (.Name x pos) (tC v):=
 λ_ _ _ H _ I h=>jh I hg hm ⟨v,H,I,r,h⟩ hd
variable {a b:Expr} {ta tb:TE} {pos:Pos}
def tB(t:TE):TT:=λZ H Q=>t Z H λx H1=>∃c,x=.bl c/\Q c H1
def Ls(t u:TT):TT:=λZ H Q=>t Z H λc H1=>if c=true then u Z H1 Q else Q false H1
def N3(t u:TT):TT:=λZ H Q=>t Z H λc H1=>if c=true then Q true H1 else u Z H1 Q
def Ll(t:TT):TT:=λZ H Q=>t Z H λc H1=>Q (!c) H1
def Iw(ta tb:TE):TE:=λZ H Q=>ta Z H λx H1=>∃c,x=.bl c/\if c=true then tb Z H1 Q else Q (.bl false) H1
def Lk(ta tb:TE):TE:=λZ H Q=>ta Z H λx H1=>∃c,x=.bl c/\if c=true then Q (.bl true) H1 else tb Z H1 Q
def Im(ta:TE):TE:=λZ H Q=>ta Z H λx H1=>∃c,x=.bl c/\Q (.bl (!c)) H1
def N4(t:TT)(ta tb:TE):TE:=λZ H Q=>t Z H λc H1=>if c=true then ta Z H1 Q else tb Z H1 Q
end
def cI(K:U9)(H:Hp)(a:Addr)(xs:List V):Prop:=
 Rd H a (.lst xs) ∨
  ∃(o:Obj) (its:Array Value) (n:Nat),K.lookup a=some o/\o.cls=.type "list"/\o.dict=none/\o.data=.seq its n/\its.size<=sizeLine/\cH xs its.toList
def cj(K:U9)(H:Hp)(a:Addr)(xs:List V):Prop:=
 Rd H a (.tup xs) ∨
  ∃(o:Obj) (its:Array Value) (n:Nat),K.lookup a=some o/\o.cls=.type "tuple"/\o.data=.seq its n/\its.size<=sizeLine/\cH xs its.toList
def NM:Value->Option V
 | .none=>some .non
 | .bool b=>some (.bl b)
 | .int i _=>some (.int i)
 | .str x _=>some (.str x)
 | .bytes b _=>some (.byt b)
 | .float b _=>some (.flt b)
 | .ref a=>some (.ref a)
 | .type n=>some (.ty n)
 | _=>none
theorem RelV.abs{x:V}{u:Value}(r:RelV x u):NM u=some x:=by
 cases x with
 | non=>cases r;rfl
 | bl _=>cases r;rfl
 | int _=>obtain⟨t,rfl⟩:=r;rfl
 | str _=>obtain⟨t,rfl⟩:=r;rfl
 | byt _=>obtain⟨t,rfl⟩:=r;rfl
 | flt _=>obtain⟨t,rfl⟩:=r;rfl
 | ref _=>cases r;rfl
 | ty _=>cases r;rfl
theorem RelV.inj{x y:V}{u:Value}(r:RelV x u)(q:RelV y u):x=y:=av (r.abs.symm.trans q.abs)
theorem cH.inj:∀{xs ys:List V} {us:ag},cH xs us->cH ys us->xs=ys
 | _,_,_,.nil,.nil=>rfl
 | _,_,_,.cons r t,.cons r' t'=>by rw[r.inj r',cH.inj t t']
section
variable {X:Cx}{pins:List (Addr×Obj)}{Z:St}{H:Hp}{s:Shared}{a:Addr}{xs ys:List V}
theorem cI.of{K:U9}(h:H a=some (.lst xs)):cI K H a xs:=.inl (.inl h)
theorem cj.of{K:U9}(h:H a=some (.tup xs)):cj K H a xs:=.inl (.inl h)
theorem bc.list(I:bc X pins Z H s)(h:cI X.K H a xs):∃its:ag,cH xs its/\PlainL s.heap a its.toArray/\xs.length<=sizeLine:=by
 rcases h with h | ⟨o,its,n,hk,hc,hd,hs,hz,r⟩
 .obtain⟨z,its,n,r,e⟩:=h.ok I.hok;exact⟨its,r,⟨_,n,e,rfl,rfl,rfl⟩,z⟩
 .refine⟨its.toList,r,⟨o,n,I.kIn a o hk,hc,hd,by simpa using hs⟩,?_⟩;have e:=r.length;simp only[bp] at e;lia
theorem bc.tuple(I:bc X pins Z H s)(h:cj X.K H a xs):∃its:ag,cH xs its/\IsTup s.heap a its.toArray/\xs.length<=sizeLine:=by
 rcases h with h | ⟨o,its,n,hk,hc,hs,hz,r⟩
 .obtain⟨z,its,r,p⟩:=h.ok I.hok;exact⟨its,r,p,z⟩
 .refine⟨its.toList,r,⟨o,I.kIn a o hk,hc,n,by simpa using hs⟩,?_⟩;have e:=r.length;simp only[bp] at e;lia
theorem bc.list_inj(I:bc X pins Z H s)(h:cI X.K H a xs)(h':cI X.K H a ys):xs=ys:=by
 obtain⟨its,r,⟨o,n,e,_,_,d⟩,_⟩:=I.list h;obtain⟨its',r',⟨o',n',e',_,_,d'⟩,_⟩:=I.list h';rw[e] at e';cases e';rw[d] at d';injection d' with d1 _
 have:its=its':=by simpa using congrArg Array.toList d1
 subst this;exact r.inj r'
theorem bc.tuple_inj(I:bc X pins Z H s)(h:cj X.K H a xs)(h':cj X.K H a ys):xs=ys:=by
 obtain⟨its,r,⟨o,e,_,n,d⟩,_⟩:=I.tuple h;obtain⟨its',r',⟨o',e',_,n',d'⟩,_⟩:=I.tuple h';rw[e] at e';cases e';rw[d] at d';injection d' with d1 _
 have:its=its':=by simpa using congrArg Array.toList d1
 subst this;exact r.inj r'
end
abbrev Cx.wish (X:Cx) (E:Value->Shared->Prop):Cx:={ X with xe:=E }
abbrev Cx.nox (X:Cx):Cx:=X.wish λ_ _=>False
theorem Cx.Ok.wish{X:Cx}(ok:X.Ok)(E:Value->Shared->Prop):(X.wish E).Ok:=
 ⟨ok.mod,ok.kind,ok.glob,ok.blt,ok.above,ok.inj,ok.has,ok.cab,ok.hd,ok.frames,ok.stk,ok.exf,ok.bs,ok.bsz,ok.noex,ok.exfs,ok.funs,ok.frf⟩
theorem Cx.Ok.unwish{X:Cx}{E:Value->Shared->Prop}(ok:(X.wish E).Ok):X.Ok:=
 ⟨ok.mod,ok.kind,ok.glob,ok.blt,ok.above,ok.inj,ok.has,ok.cab,ok.hd,ok.frames,ok.stk,ok.exf,ok.bs,ok.bsz,ok.noex,ok.exfs,ok.funs,ok.frf⟩
section
variable {X:Cx}{pins:List (Addr×Obj)}{Z:St}{H:Hp}{s:Shared}{E:Value->Shared->Prop}{t u:TS}{te:TE}
theorem bc.wish(I:bc X pins Z H s)(E:Value->Shared->Prop):bc (X.wish E) pins Z H s:=⟨I.ok.wish E,I.os,I.bare,I.base,I.loc,I.cell,I.free,I.freeC,I.pin,I.hok,I.len⟩
theorem bc.unwish(I:bc (X.wish E) pins Z H s):bc X pins Z H s:=⟨I.ok.unwish,I.os,I.bare,I.base,I.loc,I.cell,I.free,I.freeC,I.pin,I.hok,I.len⟩
theorem SP.unwish{D:Ends}{f:Flow}{s':Shared}(h:SP (X.wish E) pins D f s'):SP X pins D f s':=by
 cases f with
 | next=>obtain⟨Z',H',I,q⟩:=h;exact⟨Z',H',I.unwish,q⟩
 | brk=>obtain⟨Z',H',I,q⟩:=h;exact⟨Z',H',I.unwish,q⟩
 | cont=>obtain⟨Z',H',I,q⟩:=h;exact⟨Z',H',I.unwish,q⟩
 | ret u=>obtain⟨v,Z',H',I,r,q⟩:=h;exact⟨v,Z',H',I.unwish,r,q⟩
theorem PT.nox{e:Expr}{t:TT}(h:PT X.nox e t):PT X e t:=λpins s Z H Q I hw=>
 wpAny_mono (h pins s Z H Q (I.wish _) hw) (by rintro _ _ ⟨H',I',q⟩;exact ⟨H',I'.unwish,q⟩) λ_ _ z=>False.elim z
theorem GO.nox{st:List Stmt}{t:TS}(h:GO X.nox st t):GO X st t:=λpins s Z H D I hw=>
 wpAny_mono (h pins s Z H D (I.wish _) hw) (λ_ _ q=>q.unwish) λ_ _ z=>False.elim z
def Io:TS:=λD Z H=>D.nx Z H
def Lg(t u:TS):TS:=λD Z H=>t { D with nx:=u D } Z H
def Dm:TS:=λD Z H=>D.bk Z H
def Lq:TS:=λD Z H=>D.ct Z H
theorem bc.quiet{pins:List (Addr×Obj)}{Z:St}{H:Hp}{s:Shared}(I:bc X pins Z H s):interactive X.env=false:=by simp[interactive,I.ok.kind]
def Ir(te:TE):TS:=λD Z H=>te Z H λ_ H1=>D.nx Z H1
def Lj(te:TE):TS:=λD Z H=>te Z H D.rt
def Li:TS:=λD _ H=>D.rt .non H
def Ln(c:TT)(t u:TS):TS:=λD Z H=>c Z H λb H1=>if b=true then t D Z H1 else u D Z H1
end
abbrev TG:=V->St->Hp->(St->Hp->Prop)->Prop
abbrev GN:=List V->St->Hp->(St->Hp->Prop)->Prop
def PG(X:Cx)(target:Expr)(t:TG):Prop:=
 ∀(pins:List (Addr×Obj)) (s:Shared) (Z:St) (H:Hp) (v:V) (u:Value) (Q:St->Hp->Prop),bc X pins Z H s->RelV v u->t v Z H Q →
  wpAny (model X.prog X.w) X.A (assign target X.env u) (λ_ s'=>∃Z' H',bc X pins Z' H' s'/\Q Z' H') X.xe s
def Nz(X:Cx)(ts:lc)(t:GN):Prop:=
 ∀(pins:List (Addr×Obj)) (s:Shared) (Z:St) (H:Hp) (vs:List V) (us:ag) (Q:St->Hp->Prop),bc X pins Z H s->cH vs us->t vs Z H Q →
  wpAny (model X.prog X.w) X.A (assignInOrder ((assignEach ts X.env).map (·.2)) us) (λ_ s'=>∃Z' H',bc X pins Z' H' s'/\Q Z' H') X.xe s
abbrev IQ:=V->V->V->Hp->(Hp->Prop)->Prop
def MX(X:Cx)(t:IQ):Prop:=
 ∀(pins:List (Addr×Obj)) (s:Shared) (Z:St) (H:Hp) (o i v:V) (ov iv u:Value) (Q:Hp->Prop),bc X pins Z H s->RelV o ov->RelV i iv->RelV v u->t o i v H Q →
  wpAny (model X.prog X.w) X.A (setItem ov iv u) (λ_ s'=>∃H',bc X pins Z H' s'/\Q H') X.xe s
abbrev NP:=V->V->Hp->VK->Prop
section
def pw(i:Nat):TG:=λv Z H Q=>Q (Z.set i (some v)) H
def MS:GN:=λvs Z H Q=>vs=[]/\Q Z H
def JK(t:TG)(u:GN):GN:=λvs Z H Q=>∃v r,vs=v::r/\t v Z H λZ' H'=>u r Z' H' Q
def MQ(K:U9)(n:Nat)(t:GN):TG:=λv Z H Q=>∃a xs,v=.ref a/\cj K H a xs/\xs.length=n/\t xs Z H Q
def MR(to ti:TE)(t:IQ):TG:=λv Z H Q=>to Z H λo H1=>ti Z H1 λi H2=>t o i v H2 λH3=>Q Z H3
def yx(te:TE)(g:TG):TS:=λD Z H=>te Z H λx H1=>g x Z H1 D.nx
def Ms(i:Nat)(te:TE)(ti:NP):TS:=λD Z H=>∃x,Z[i]? = some (some x)/\te Z H λy H1=>ti x y H1 λz H2=>D.nx (Z.set i (some z)) H2
end
section
def Jj(c:TT)(tb:TS):TS:=λD Z H=>∃W:Nat->St->Hp->Prop,(∃m,W m Z H)/\∀m Z H,W m Z H →
 c Z H λb H1=>if b=true then ∃N:St->Hp->Prop,(∀Z' H',N Z' H'->∃m',m'<m/\W m' Z' H')/\tb { D with nx:=N,ct:=N,bk:=D.nx } Z H1 else D.nx Z H1
end
structure It where
 go:Nat->Hp->Prop
 yld:Nat->Hp->V->Hp->Prop
 stop:Nat->Hp->Prop
def ke(X:Cx)(pins:List (Addr×Obj))(H:Hp)(b:Addr):Prop:=
 H b=none/\b≠X.env.locals/\b∉X.fs/\(b∈X.ex\/X.s₀.heap.objs.size<=b)/\(∀x c,X.env.cells.lookup x=some c->c≠b)/\∀p∈X.pn++pins,p.1≠b
theorem bc.fpOk{X:Cx}{pins:List (Addr×Obj)}{Z:St}{H H':Hp}{s:Shared}{b:Addr}(I:bc X pins Z H s)(hb:s.heap.objs.size<=b)(hn:H' b=none):ke X pins H' b:=by
 refine⟨hn,iH (aZ I.lt hb),I.nofs hb,.inr (bN I.sz hb),λx c e z=>?_,λp hp z=>?_⟩
 .obtain⟨v,q⟩:=I.cell x c e;exact absurd (aZ q.lt (by rw[z];exact hb)) (de _)
 .exact absurd (aZ (aN (I.pin p hp).1) (by rw[z];exact hb)) (de _)
structure Turn (P : Program) (w : World) (K : U9) (tg : Expr) (J : It) (fp : ld) (it : Addr) (tn : Nat → Heap → Prop) : Prop where
  mem : it ∈ fp
  obj : ∀ i h, tn i h → ∀ b ∈ fp, ∃ o, h.get? b = some o ∧ ∀ v, o.data ≠ .cell v
  keep : ∀ i h h', tn i h → (∀ b ∈ fp, ∀ o, h.get? b = some o → h'.get? b = some o) → tn i h'
  item : ∀ (X : Cx), X.prog = P → X.w = w → X.K = K → X.calm = true → ∀ (i : Nat) (pins : List (Addr × Obj)) (s : Shared) (Z : St) (H : Hp) (E : Value → Shared → Prop), bc X pins Z H s → (∀ b ∈ fp, ke X pins H b) → tn i s.heap → J.go i H →
    wpAny (model P w) X.A (pyNext (.ref it)) (fun r s1 => ∃ u, r = some u ∧
      wpAny (model P w) X.A (letOwnedTupleGo tg (.ref it) u) (fun _ s2 => ∃ x H', bc X pins Z H' s2 ∧ RelV x u ∧ J.yld i H x H' ∧ tn (i + 1) s2.heap ∧ ∀ b ∈ fp, H' b = none) E s1) E s
  done : ∀ (X : Cx), X.prog = P → X.w = w → X.K = K → X.calm = true → ∀ (i : Nat) (pins : List (Addr × Obj)) (s : Shared) (Z : St) (H : Hp) (E : Value → Shared → Prop), bc X pins Z H s → (∀ b ∈ fp, ke X pins H b) → tn i s.heap → J.stop i H →
    wpAny (model P w) X.A (pyNext (.ref it)) (fun r s1 => r = none ∧ bc X pins Z H s1) E s
  self : ∀ (A : Around) (i : Nat) (s : Shared) (Q : Value → Shared → Prop) (E : Value → Shared → Prop), tn i s.heap → Q (.ref it) s → wpAny (model P w) A (pyIter (.ref it)) Q E s
abbrev TI:=St->Hp->(It->Hp->Prop)->Prop
def Nd(X:Cx)(pins:List (Addr×Obj))(Z:St)(tg:Expr)(R:It->Hp->Prop)(itv:Value)(s2:Shared):Prop:=
 ∃(it:Addr) (fp:ld) (tn:Nat->Heap->Prop) (J:It) (H':Hp),itv=.ref it/\bc X pins Z H' s2/\Turn X.prog X.w X.K tg J fp it tn/\tn 0 s2.heap/\(∀b∈fp,ke X pins H' b)/\R J H'
def PI(X:Cx)(tg iter:Expr)(wi:TI):Prop:=
 ∀(pins:List (Addr×Obj)) (s:Shared) (Z:St) (H:Hp) (R:It->Hp->Prop),bc X pins Z H s->wi Z H R →
  wpAny (model X.prog X.w) X.A (eval iter X.env) (λv s1=>wpAny (model X.prog X.w) X.A (pyIter v) (Nd X pins Z tg R) X.xe s1) X.xe s
theorem v9 {M : Model} {A : Around} {E : Value → Shared → Prop} {s : Shared} {tg : Expr} {it : Addr} {u : Value} {o : Obj} {n : String} {vs : Array Value} {Q : Unit → Shared → Prop} (ho : s.heap.get? it = some o) (hc : o.cls = .type n) (hd : o.data = .fields vs)
    (hn : ["enumerate", "zip", "dict_itemiterator", "dict_reverseitemiterator", "odict_iterator", "itertools.zip_longest", "itertools.pairwise"].contains n = false) (hQ : Q () s) : wpAny M A (letOwnedTupleGo tg (.ref it) u) Q E s := by
  unfold letOwnedTupleGo
  cases tg <;> first
    | exact wpAny_pure hQ
    | (cases u <;> first
        | exact wpAny_pure hQ
        | (exists (wpAny_load ho ?_)
           rw [hc, hd]
           show wpAny M A (if (["enumerate", "zip", "dict_itemiterator", "dict_reverseitemiterator", "odict_iterator", "itertools.zip_longest", "itertools.pairwise"].contains n && vs[0]? == some (rawInt _)) = true then _ else _) Q E s
           rw [U1 (by intro h; rw [hn, jR] at h; cases h)]
           exact wpAny_pure hQ))
def IT(K:U9)(a:Addr):It:=
 ⟨λi H=>∃xs x,cI K H a xs/\xs[i]? = some x,λi H x H'=>H'=H/\∀xs,cI K H a xs->xs[i]? = some x,λi H=>∃xs,cI K H a xs/\xs.length<=i⟩
def M1(K:U9)(a:Addr):It:=
 ⟨λi H=>∃xs x,cj K H a xs/\xs[i]? = some x,λi H x H'=>H'=H/\∀xs,cj K H a xs->xs[i]? = some x,λi H=>∃xs,cj K H a xs/\xs.length<=i⟩
def B3(lo:Int)(n:Nat):It:=⟨λi _=>i<n,λi H x H'=>H'=H/\x=.int (lo+i),λi _=>n<=i⟩
theorem B9 {P : Program} {w : World} {K : U9} {tg : Expr} (a it : Addr) : Turn P w K tg (IT K a) [it] it (fun i h => h.IsListIter it a i) where
  mem := by simp
  obj := fun i h st b hb => by
    have e : b = it := by simpa using hb
    subst e
    obtain ⟨o, e, c, d⟩ := st
    exact ⟨o, e, fun v z => by rw [d] at z; cases z⟩
  keep := fun i h h' st k => st.at fun o e => k it (by simp) o e
  item := by
    intro X hP hw hK hc i pins s Z H E I hf st hg
    subst hP hw hK
    obtain ⟨xs, x, hq, hx⟩ := hg
    obtain ⟨its, rv, p, hz⟩ := I.list hq
    obtain ⟨u, hu, ru⟩ := rv.get hx
    obtain ⟨f0, f1, f2, f3, f4, f5⟩ := hf it (by simp)
    refine wpAny_pyNext_list_item st p.isList (x := u) (by simpa using hu) fun h' st' sb => ?_
    have I1 : bc X pins Z H { s with heap := h' } := I.turned (t' := s.toks) (fun b o hb e => (sb.2 b hb).trans e) f0 f1 f3 f4 f5
    obtain ⟨o, e, c, d⟩ := id st'
    exact ⟨u, rfl, v9 (s := { s with heap := h' }) e c d (by decide) ⟨x, H, I1, ru, ⟨rfl, fun ys hy => by rw [I.list_inj hy hq]; exact hx⟩, st', fun b hb => (hf b hb).1⟩⟩
  done := by
    intro X hP hw hK hc i pins s Z H E I hf st hg
    subst hP hw hK
    obtain ⟨xs, hq, hx⟩ := hg
    obtain ⟨its, rv, p, hz⟩ := I.list hq
    obtain ⟨f0, f1, f2, f3, f4, f5⟩ := hf it (by simp)
    have hl := rv.length
    exact wpAny_pyNext_list_end (I.ok.hd hc) st p.isList (by simp; lia) fun h' eb => ⟨rfl, I.turned (t' := s.toks) (fun b o hb e => eb b o hb e) f0 f1 f3 f4 f5⟩
  self := fun _ _ _ _ _ st h => wpAny_pyIter_listiter st h
theorem yp {P : Program} {w : World} {K : U9} {tg : Expr} (a it : Addr) : Turn P w K tg (M1 K a) [it] it (fun i h => h.IsTupleIter it a i) where
  mem := by simp
  obj := fun i h st b hb => by
    have e : b = it := by simpa using hb
    subst e
    obtain ⟨o, e, c, d⟩ := st
    exact ⟨o, e, fun v z => by rw [d] at z; cases z⟩
  keep := fun i h h' st k => st.at fun o e => k it (by simp) o e
  item := by
    intro X hP hw hK hc i pins s Z H E I hf st hg
    subst hP hw hK
    obtain ⟨xs, x, hq, hx⟩ := hg
    obtain ⟨its, rv, p, hz⟩ := I.tuple hq
    obtain ⟨u, hu, ru⟩ := rv.get hx
    obtain ⟨f0, f1, f2, f3, f4, f5⟩ := hf it (by simp)
    refine wpAny_pyNext_tuple_item st (show s.heap.IsTuple a its.toArray from p) (x := u) (by simpa using hu) fun h' st' sb => ?_
    have I1 : bc X pins Z H { s with heap := h' } := I.turned (t' := s.toks) (fun b o hb e => (sb.2 b hb).trans e) f0 f1 f3 f4 f5
    obtain ⟨o, e, c, d⟩ := id st'
    exact ⟨u, rfl, v9 (s := { s with heap := h' }) e c d (by decide) ⟨x, H, I1, ru, ⟨rfl, fun ys hy => by rw [I.tuple_inj hy hq]; exact hx⟩, st', fun b hb => (hf b hb).1⟩⟩
  done := by
    intro X hP hw hK hc i pins s Z H E I hf st hg
    subst hP hw hK
    obtain ⟨xs, hq, hx⟩ := hg
    obtain ⟨its, rv, p, hz⟩ := I.tuple hq
    obtain ⟨f0, f1, f2, f3, f4, f5⟩ := hf it (by simp)
    have hl := rv.length
    exact wpAny_pyNext_tuple_end (I.ok.hd hc) st (show s.heap.IsTuple a its.toArray from p) (by simp; lia) fun h' eb => ⟨rfl, I.turned (t' := s.toks) (fun b o hb e => eb b o hb e) f0 f1 f3 f4 f5⟩
  self := fun _ _ _ _ _ st h => wpAny_pyIter_tupleiter st h
theorem yq {P : Program} {w : World} {K : U9} {tg : Expr} (it : Addr) (lo : Int) (n : Nat) : Turn P w K tg (B3 lo n) [it] it (fun i h => IsRangeIter h it (lo + (i : Nat) * 1) ((n : Int) - (i : Nat)) 1) where
  mem := by simp
  obj := fun i h st b hb => by
    have e : b = it := by simpa using hb
    subst e
    exact ⟨_, st, fun v z => by
      have z' : Data.fields _ = Data.cell v := z
      cases z'⟩
  keep := fun i h h' st k => k it (by simp) _ st
  item := by
    intro X hP hw hK hc i pins s Z H E I hf st hg
    subst hP hw hK
    obtain ⟨f0, f1, f2, f3, f4, f5⟩ := hf it (by simp)
    have W := Walks.range (prog := X.prog) (w := X.w) (I.ok.hd hc) it lo 1 n
    refine W.item i s _ _ hg st fun v h' tk hv st' kk => ?_
    obtain ⟨t, rfl⟩ := hv
    have I1 : bc X pins Z H { s with heap := h', toks := tk } := I.turned (fun b o hb e => kk b o (by simpa using hb) e) f0 f1 f3 f4 f5
    refine ⟨_, rfl, v9 (s := { s with heap := h', toks := tk }) (n := "range_iterator") st' rfl rfl (by decide) ⟨.int (lo + i), H, I1, ⟨t, ?_⟩, ⟨rfl, rfl⟩, st', fun b hb => (hf b hb).1⟩⟩
    rw [Int.mul_one]
  done := by
    intro X hP hw hK hc i pins s Z H E I hf st hg
    subst hP hw hK
    obtain ⟨f0, f1, f2, f3, f4, f5⟩ := hf it (by simp)
    exact wpAny_pyNext_range_end (I.ok.hd hc) st (by have : n ≤ i := hg; lia) fun h' eb => ⟨rfl, I.turned (t' := s.toks) (fun b o hb e => eb b o hb e) f0 f1 f3 f4 f5⟩
  self := fun _ _ _ _ _ st h => wpAny_pyIter_rangeiter st h
section
variable {X:Cx}{tg:Expr}
def FX(K:U9)(tl:TE):TI:=λZ H R=>tl Z H λx H1=>∃a,x=.ref a/\(∃xs,cI K H1 a xs)/\R (IT K a) H1
def Kb(K:U9)(tl:TE):TI:=λZ H R=>tl Z H λx H1=>∃a,x=.ref a/\(∃xs,cj K H1 a xs)/\R (M1 K a) H1
theorem xT{pins:List (Addr×Obj)}{Z:St}{H:Hp}{s:Shared}{R:It->Hp->Prop}{E:Value->Shared->Prop}{lo hi:Int}{t u v:Tok}{tk:Nat}(I:bc X pins Z H s)(h1:-(2 ^ 62)<=lo)(h2:lo<2 ^ 62)(h3:-(2 ^ 62)<=hi)(h4:hi<2 ^ 62)
  (q:R (B3 lo (hi-lo).toNat) H):wpAny (model X.prog X.w) X.A (pyIter (.ref s.heap.objs.size)) (Nd X pins Z tg R) E { s with heap:=s.heap.push { cls:=.type "range",data:=.fields #[.int lo t,.int hi u,.int 1 v] },toks:=tk }:=by
 refine wpAny_pyIter_range (IsRange.new ..) (small_one h1 h2 h3 h4) ?_;have I1:bc X pins Z H { s with heap:=s.heap.push { cls:=.type "range",data:=.fields #[.int lo t,.int hi u,.int 1 v] },toks:=tk }:=I.kept λb o e=>aB _ e;refine⟨(s.heap.push { cls:=.type "range",data:=.fields #[.int lo t,.int hi u,.int 1 v] }).objs.size,[(s.heap.push { cls:=.type "range",data:=.fields #[.int lo t,.int hi u,.int 1 v] }).objs.size],_,_,H,rfl,
  I1.kept (t':=tk) λb o e=>aB _ e,yq _ lo (hi-lo).toNat,?_,λb hb=>?_,q⟩
 .have e1:lo+((0:Nat):Int)*1=lo:=by simp
  have e2:(((hi-lo).toNat:Nat):Int)-((0:Nat):Int)=Builtin.Range.rangeSize lo hi 1:=by rw[rangeSize_one];split<;>lia
  show IsRangeIter _ _ (lo+((0:Nat):Int)*1) ((((hi-lo).toNat:Nat):Int)-((0:Nat):Int)) 1;rw[e1,e2];exact aP _ rfl
 .have e:b=(s.heap.push { cls:=.type "range",data:=.fields #[.int lo t,.int hi u,.int 1 v] }).objs.size:=by simpa using hb
  subst e;exact I1.fpOk (aI _) (I1.hok.fresh (aI _))
def v8(ta:TA):TI:=λZ H R=>ta Z H λvs H1=>∃j:Int,vs=[.int j]/\-(2 ^ 62)<=j/\j<2 ^ 62/\R (B3 0 j.toNat) H1
def FW(ta:TA):TI:=λZ H R=>ta Z H λvs H1=>∃i j:Int,vs=[.int i,.int j]/\(-(2 ^ 62)<=i/\i<2 ^ 62/\-(2 ^ 62)<=j/\j<2 ^ 62)/\R (B3 i (j-i).toNat) H1
def rK(wi:TI)(g:TG)(tb:TS):TS:=λD Z H=>wi Z H λJ H1=>∃W:Nat->Nat->St->Hp->Prop,(∃m,W 0 m Z H1)/\∀i m Z H,W i m Z H →
 (J.stop i H/\D.nx Z H)\/(J.go i H/\∃N:St->Hp->Prop,(∀Z' H',N Z' H'->∃m',m'<m/\W (i+1) m' Z' H')/\∀x H',J.yld i H x H'->g x Z H' λZ2 H2=>tb { D with nx:=N,ct:=N,bk:=D.nx } Z2 H2)
def mH(fp:ld)(h:Heap):List (Addr×Obj):=fp.filterMap λb=>(h.get? b).map λo=>(b,o)
theorem gv{fp:ld}{h:Heap}{b:Addr}{o:Obj}(hb:b∈fp)(e:h.get? b=some o):(b,o)∈mH fp h:=l3.mpr ⟨b,hb,by rw[e];rfl⟩
theorem vN{fp:ld}{h:Heap}{p:Addr×Obj}(hp:p∈mH fp h):p.1∈fp/\h.get? p.1=some p.2:=by
 obtain⟨b,hb,e⟩:=l3.mp hp;cases q:h.get? b with
 | none=>rw[q] at e;cases e
 | some o=>
  rw[q] at e;have e':(b,o)=p:=av e;subst e';exact⟨hb,q⟩
theorem bc.pinned{pins:List (Addr×Obj)}{Z:St}{H:Hp}{s:Shared}{fp:ld}(I:bc X pins Z H s)(hf:∀b∈fp,ke X pins H b)(ho:∀b∈fp,∃o,s.heap.get? b=some o/\∀v,o.data≠.cell v):bc X (pins++mH fp s.heap) Z H s:=
 I.pins_of λp hp=>(bG.mp hp).elim (λz=>I.pin p (bM _ z)) λz=>by
  obtain⟨hb,e⟩:=vN z;obtain⟨f0,f1,f2,_⟩:=hf p.1 hb;obtain⟨o,e',d⟩:=ho p.1 hb;rw[e] at e';cases e';exact⟨e,f0,f1,f2,d⟩
theorem bc.unpinned{pins pl:List (Addr×Obj)}{Z:St}{H:Hp}{s:Shared}(I:bc X (pins++pl) Z H s):bc X pins Z H s:=I.pins_of λp hp=>I.pin p (bM _ (cn _ hp))
end
theorem iV{K:U9}{a:Addr}{xs:List V}{g:TG}{tb:TS}{D:Ends}{Z:St}{H:Hp}(Pv:Nat->St->Hp->Prop)(h0:Pv 0 Z H)(hl:∀i Z H,i<=xs.length->Pv i Z H->cI K H a xs)
  (hs:∀i x Z H,xs[i]? = some x->Pv i Z H->g x Z H λZ2 H2=>tb { D with nx:=Pv (i+1),ct:=Pv (i+1),bk:=D.nx } Z2 H2) (hd:∀Z H,Pv xs.length Z H->D.nx Z H) :
  ∃W:Nat->Nat->St->Hp->Prop,(∃m,W 0 m Z H)/\∀i m Z H,W i m Z H →
   ((IT K a).stop i H/\D.nx Z H)\/((IT K a).go i H/\∃N:St->Hp->Prop,(∀Z' H',N Z' H'->∃m',m'<m/\W (i+1) m' Z' H')/\∀x H',(IT K a).yld i H x H'->g x Z H' λZ2 H2=>tb { D with nx:=N,ct:=N,bk:=D.nx } Z2 H2):=by
 refine⟨λi m Z H=>m=xs.length-i/\i<=xs.length/\Pv i Z H,⟨xs.length,by simp,ah _,h0⟩,?_⟩;rintro i m Z H ⟨rfl,hi,p⟩;have q:=hl i Z H hi p;by_cases hlt:i<xs.length
 .refine .inr ⟨⟨xs,xs[i],q,by simp[hlt]⟩,Pv (i+1),λZ' H' p'=>⟨xs.length-(i+1),by lia,rfl,hlt,p'⟩,λx H' y=>?_⟩;obtain⟨e,y⟩:=y;subst e;exact hs i x Z _ (y xs q) p
 .have e:i=xs.length:=by lia
  subst e;exact .inl ⟨⟨xs,q,aI _⟩,hd Z H p⟩
theorem fP{lo:Int}{n:Nat}{g:TG}{tb:TS}{D:Ends}{Z:St}{H:Hp}(Pv:Nat->St->Hp->Prop)(h0:Pv 0 Z H)
  (hs:∀i Z H,i<n->Pv i Z H->g (.int (lo+i)) Z H λZ2 H2=>tb { D with nx:=Pv (i+1),ct:=Pv (i+1),bk:=D.nx } Z2 H2) (hd:∀Z H,Pv n Z H->D.nx Z H) :
  ∃W:Nat->Nat->St->Hp->Prop,(∃m,W 0 m Z H)/\∀i m Z H,W i m Z H →
   ((B3 lo n).stop i H/\D.nx Z H)\/((B3 lo n).go i H/\∃N:St->Hp->Prop,(∀Z' H',N Z' H'->∃m',m'<m/\W (i+1) m' Z' H')/\∀x H',(B3 lo n).yld i H x H'->g x Z H' λZ2 H2=>tb { D with nx:=N,ct:=N,bk:=D.nx } Z2 H2):=by
 refine⟨λi m Z H=>m=n-i/\i<=n/\Pv i Z H,⟨n,by simp,ah _,h0⟩,?_⟩;rintro i m Z H ⟨rfl,hi,p⟩;by_cases hlt:i<n
 .refine .inr ⟨hlt,Pv (i+1),λZ' H' p'=>⟨n-(i+1),by lia,rfl,hlt,p'⟩,λx H' y=>?_⟩;obtain⟨e,y⟩:=y;subst e y;exact hs i Z _ hlt p
 .have e:i=n:=by lia
  subst e;exact .inl ⟨aI _,hd Z H p⟩
abbrev R2:=V->V->Hp->VK->Prop
def qF(X:Cx)(f:Value->Value->Sem Value)(r:R2):Prop:=
 ∀(pins:List (Addr×Obj)) (s:Shared) (Z:St) (H:Hp) (x y:V) (v u:Value) (Q:VK),bc X pins Z H s->RelV x v->RelV y u->r x y H Q →
  wpAny (model X.prog X.w) X.A (f v u) (EP X pins Z Q) X.xe s
def NO(X:Cx)(f:Value->Sem Value)(r:V->Hp->VK->Prop):Prop:=
 ∀(pins:List (Addr×Obj)) (s:Shared) (Z:St) (H:Hp) (x:V) (v:Value) (Q:VK),bc X pins Z H s->RelV x v->r x H Q →
  wpAny (model X.prog X.w) X.A (f v) (EP X pins Z Q) X.xe s
def iY(X:Cx)(f:Value)(r:List V->Hp->VK->Prop):Prop:=
 ∀(pins:List (Addr×Obj)) (s:Shared) (Z:St) (H:Hp) (xs:List V) (us:ag) (Q:VK),bc X pins Z H s->cH xs us->r xs H Q →
  wpAny (model X.prog X.w) X.A (call f us) (EP X pins Z Q) X.xe s
def LC(r:R2)(ta tb:TE):TE:=λZ H Q=>ta Z H λx H1=>tb Z H1 λy H2=>r x y H2 Q
def N0(r:V->Hp->VK->Prop)(ta:TE):TE:=λZ H Q=>ta Z H λx H1=>r x H1 Q
def rI(C:Int->Int->Prop)(g:Int->Int->V):R2:=λx y H Q=>∃i j,x=.int i/\y=.int j/\C i j/\Q (g i j) H
def JD(g:Int->Int->V):R2:=λx y H Q=>∃i j,x=.int i/\y=.int j/\Q (g i j) H
def rU(g:Int->V):V->Hp->VK->Prop:=λx H Q=>∃i,x=.int i/\Q (g i) H
section
variable {X:Cx}{a b:Expr}{ta tb:TE}
theorem Kl(ha:PE X a ta)(hb:PE X b tb){pins:List (Addr×Obj)}{s:Shared}{Z:St}{H:Hp}{R:V->V->Hp->Prop}(I:bc X pins Z H s)
  (h:ta Z H λx H1=>tb Z H1 λy H2=>R x y H2) {Q:Value->Shared->Prop} {f:Value->Value->Sem Value}
  (hf:∀v u s2 x y H2,bc X pins Z H2 s2->RelV x v->RelV y u->R x y H2->wpAny (model X.prog X.w) X.A (f v u) Q X.xe s2) :
  wpAny (model X.prog X.w) X.A (eval a X.env) (λv s₁=>wpAny (model X.prog X.w) X.A (eval b X.env) (λu s₂=>wpAny (model X.prog X.w) X.A (f v u) Q X.xe s₂) X.xe s₁) X.xe s:=by
 refine dw (ha pins s Z H _ I h) λv s1 z'=>?_;obtain⟨x,H1,I1,r1,q1⟩:=z';refine dw (hb pins s1 Z H1 _ I1 q1) λu s2 z'=>?_;obtain⟨y,H2,I2,r2,q2⟩:=z';exact hf v u s2 x y H2 I2 r1 r2 q2
theorem Md{f:Value->Value->Sem Value}{C:Int->Int->Prop}{g:Int->Int->Int}
  (rule:∀(i j:Int) (t u:Tok) (s:Shared) (Q:Value->Shared->Prop) (E:Value->Shared->Prop),C i j->Q (.int (g i j) s.toks) { s with toks:=s.toks+1 }->wpAny (model X.prog X.w) X.A (f (.int i t) (.int j u)) Q E s) :
  qF X f (rI C λi j=>.int (g i j)):=by
 intro pins s Z H x y v u Q I rx ry h;obtain⟨i,j,rfl,rfl,hc,q⟩:=h;obtain⟨t,rfl⟩:=rx;obtain⟨t',rfl⟩:=ry;exact rule i j t t' s _ _ hc ⟨.int (g i j),H,I.tok _,⟨_,rfl⟩,q⟩
theorem MG{f:Value->Value->Sem Value}{g:Int->Int->Int}
  (rule:∀(i j:Int) (t u:Tok) (s:Shared) (Q:Value->Shared->Prop) (E:Value->Shared->Prop),Q (.int (g i j) s.toks) { s with toks:=s.toks+1 }->wpAny (model X.prog X.w) X.A (f (.int i t) (.int j u)) Q E s) :
  qF X f (JD λi j=>.int (g i j)):=by
 intro pins s Z H x y v u Q I rx ry h;obtain⟨i,j,rfl,rfl,q⟩:=h;obtain⟨t,rfl⟩:=rx;obtain⟨t',rfl⟩:=ry;exact rule i j t t' s _ _ ⟨.int (g i j),H,I.tok _,⟨_,rfl⟩,q⟩
theorem KI{f:Value->Value->Sem Value}{g:Int->Int->Bool}
  (rule:∀(i j:Int) (t u:Tok) (s:Shared) (Q:Value->Shared->Prop) (E:Value->Shared->Prop),Q (.bool (g i j)) s->wpAny (model X.prog X.w) X.A (f (.int i t) (.int j u)) Q E s) :
  qF X f (JD λi j=>.bl (g i j)):=by
 intro pins s Z H x y v u Q I rx ry h;obtain⟨i,j,rfl,rfl,q⟩:=h;obtain⟨t,rfl⟩:=rx;obtain⟨t',rfl⟩:=ry;exact rule i j t t' s _ _ ⟨.bl (g i j),H,I,rfl,q⟩
def NV(i j:Int):Prop:=0<j/\j<1073741824
def NU(i j:Int):Prop:=0<=j/\j<=1000000/\i.natAbs<2 ^ 64
def Kz(i j:Int):Prop:=(-(2 ^ 64)<i/\i<2 ^ 64)\/(-(2 ^ 64)<j/\j<2 ^ 64)
theorem Kz.ok{i j:Int}(h:Kz i j):IntMulOk i j:=by
 rcases h with ⟨h1,h2⟩ | ⟨h1,h2⟩
 .exact .of_left (intBits_le_64 h1 h2)
 .exact .of_right (intBits_le_64 h1 h2)
theorem dW:qF X (binaryOp .Add) (JD λi j=>.int (i+j)):=MG λ_ _ _ _ _ _ _ q=>add_int q
theorem gq:qF X (binaryOp .Sub) (JD λi j=>.int (i-j)):=MG λ_ _ _ _ _ _ _ q=>sub_int q
theorem jC:qF X (binaryOp .Mult) (rI Kz λi j=>.int (i*j)):=Md λ_ _ _ _ _ _ _ hc q=>mul_int q hc.ok
theorem jD:qF X (binaryOp .FloorDiv) (rI NV λi j=>.int (i / j)):=Md λi j _ _ _ _ _ hc q=>by
 have h1:(0:Int)<j:=hc.1;have h2:j<1073741824:=hc.2;exact floordiv_int (by lia) (by rw[Int.fdiv_eq_ediv_of_nonneg i (by lia)];exact q) (.inl (PyProof.noPylong_small (by lia)))
theorem gu:qF X (binaryOp .Mod) (rI (λ_ j=>0<j) λi j=>.int (i % j)):=Md λi j _ _ _ _ _ hc q=>by
 have h1:(0:Int)<j:=hc;exact mod_int' (by lia) (by rw[Int.fmod_eq_emod_of_nonneg i (by lia)];exact q)
theorem KF:qF X (binaryOp .Pow) (rI NU λi j=>.int (i ^ j.toNat)):=Md λ_ _ _ _ _ _ _ hc q=>pow_int_small hc.1 hc.2.1 hc.2.2 q
theorem Nm{f:Value->Sem Value}{g:Int->Int}
  (rule:∀(i:Int) (t:Tok) (s:Shared) (Q:Value->Shared->Prop) (E:Value->Shared->Prop),Q (.int (g i) s.toks) { s with toks:=s.toks+1 }->wpAny (model X.prog X.w) X.A (f (.int i t)) Q E s) :
  NO X f (rU λi=>.int (g i)):=by
 intro pins s Z H x v Q I rx h;obtain⟨i,rfl,q⟩:=h;obtain⟨t,rfl⟩:=rx;exact rule i t s _ _ ⟨.int (g i),H,I.tok _,⟨_,rfl⟩,q⟩
theorem o8:NO X (unaryOp .USub) (rU λi=>.int (-i)):=Nm λ_ _ _ _ _ q=>neg_int q
end
def Jo:V->V->Bool
 | .non,.non=>true | .non,.int _=>true | .int _,.non=>true | .non,.bl _=>true | .bl _,.non=>true | .non,.str _=>true | .str _,.non=>true
 | .int _,.int _=>true | .bl _,.bl _=>true | .str _,.str _=>true | .byt _,.byt _=>true
 | .int _,.str _=>true | .str _,.int _=>true | .bl _,.str _=>true | .str _,.bl _=>true
 | _,_=>false
def Ma:R2:=λx y H Q=>Jo x y=true/\Q (.bl (decide (x=y))) H
def M9:R2:=λx y H Q=>Jo x y=true/\Q (.bl (!decide (x=y))) H
theorem BY{i j:Int}:decide (V.int i=V.int j)=(i==j):=by
 rw[eU];simp
theorem Fk{i j:Bool}:decide (V.bl i=V.bl j)=(i==j):=by
 rw[eU];simp
theorem BX{i j:Str}:decide (V.str i=V.str j)=(i==j):=by
 rw[eU];simp
theorem BZ{i j:Array UInt8}:decide (V.byt i=V.byt j)=(i.toList==j.toList):=by
 rw[eU];cases i;cases j;simp
section
variable {X:Cx}{b:Expr}{ta tb tc:TE}
theorem dF{pins:List (Addr×Obj)}{Z:St}{H:Hp}{s:Shared}{Q:VK}{k k':Bool}(I:bc X pins Z H s)(q:Q (.bl k) H)(e:k=k'):EP X pins Z Q (.bool k') s:=by
 subst e;exact⟨.bl k,H,I,rfl,q⟩
theorem gI:qF X (compareOp .Eq) Ma:=by
 intro pins s Z H x y v u Q I rx ry h;obtain⟨hs,q⟩:=h;cases x with
 | non=>
  cases rx;cases y with
  | non=>cases ry;exact PySem.EqNone.eq_none_none (dF I q (by simp))
  | bl j=>cases ry;exact PySem.EqNone.eq_none_bool (dF I q (by simp))
  | int j=>obtain⟨t',rfl⟩:=ry;exact PySem.EqNone.eq_none_int (dF I q (by simp))
  | str j=>obtain⟨t',rfl⟩:=ry;exact PySem.EqNone.eq_none_str (dF I q (by simp))
  | _=>exact absurd (show false=true from hs) au
 | bl i=>
  cases rx;cases y with
  | non=>cases ry;exact PySem.EqNone.eq_bool_none (dF I q (by simp))
  | bl j=>cases ry;exact eq_bool (dF I q Fk)
  | str j=>obtain⟨t',rfl⟩:=ry;exact PySem.EqMixed.eq_bool_str (dF I q (by simp))
  | _=>exact absurd (show false=true from hs) au
 | int i=>
  obtain⟨t,rfl⟩:=rx;cases y with
  | non=>cases ry;exact PySem.EqNone.eq_int_none (dF I q (by simp))
  | int j=>obtain⟨t',rfl⟩:=ry;exact eq_int (dF I q BY)
  | str j=>obtain⟨t',rfl⟩:=ry;exact PySem.EqMixed.eq_int_str (dF I q (by simp))
  | _=>exact absurd (show false=true from hs) au
 | str i=>
  obtain⟨t,rfl⟩:=rx;cases y with
  | non=>cases ry;exact PySem.EqNone.eq_str_none (dF I q (by simp))
  | bl j=>cases ry;exact PySem.EqMixed.eq_str_bool (dF I q (by simp))
  | int j=>obtain⟨t',rfl⟩:=ry;exact PySem.EqMixed.eq_str_int (dF I q (by simp))
  | str j=>obtain⟨t',rfl⟩:=ry;exact eq_str (dF I q BX)
  | _=>exact absurd (show false=true from hs) au
 | byt i=>
  obtain⟨t,rfl⟩:=rx;cases y with
  | byt j=>obtain⟨t',rfl⟩:=ry;exact W.eq_bytes (dF I q BZ)
  | _=>exact absurd (show false=true from hs) au
 | _=>cases y<;>exact absurd (show false=true from hs) au
theorem ou:qF X (compareOp .NotEq) M9:=by
 intro pins s Z H x y v u Q I rx ry h;obtain⟨hs,q⟩:=h;cases x with
 | non=>
  cases rx;cases y with
  | non=>cases ry;exact PySem.EqNone.ne_none_none (dF I q (by simp))
  | bl j=>cases ry;exact PySem.EqNone.ne_none_bool (dF I q (by simp))
  | int j=>obtain⟨t',rfl⟩:=ry;exact PySem.EqNone.ne_none_int (dF I q (by simp))
  | str j=>obtain⟨t',rfl⟩:=ry;exact PySem.EqNone.ne_none_str (dF I q (by simp))
  | _=>exact absurd (show false=true from hs) au
 | bl i=>
  cases rx;cases y with
  | non=>cases ry;exact PySem.EqNone.ne_bool_none (dF I q (by simp))
  | bl j=>cases ry;exact ne_bool (dF I q (congrArg not Fk))
  | str j=>obtain⟨t',rfl⟩:=ry;exact PySem.EqMixed.ne_bool_str (dF I q (by simp))
  | _=>exact absurd (show false=true from hs) au
 | int i=>
  obtain⟨t,rfl⟩:=rx;cases y with
  | non=>cases ry;exact PySem.EqNone.ne_int_none (dF I q (by simp))
  | int j=>obtain⟨t',rfl⟩:=ry;exact ne_int (dF I q (congrArg not BY))
  | str j=>obtain⟨t',rfl⟩:=ry;exact PySem.EqMixed.ne_int_str (dF I q (by simp))
  | _=>exact absurd (show false=true from hs) au
 | str i=>
  obtain⟨t,rfl⟩:=rx;cases y with
  | non=>cases ry;exact PySem.EqNone.ne_str_none (dF I q (by simp))
  | bl j=>cases ry;exact PySem.EqMixed.ne_str_bool (dF I q (by simp))
  | int j=>obtain⟨t',rfl⟩:=ry;exact PySem.EqMixed.ne_str_int (dF I q (by simp))
  | str j=>obtain⟨t',rfl⟩:=ry;exact ne_str (dF I q (congrArg not BX))
  | _=>exact absurd (show false=true from hs) au
 | byt i=>
  obtain⟨t,rfl⟩:=rx;cases y with
  | byt j=>obtain⟨t',rfl⟩:=ry;exact W.ne_bytes (dF I q (congrArg not BZ))
  | _=>exact absurd (show false=true from hs) au
 | _=>cases y<;>exact absurd (show false=true from hs) au
theorem kP:qF X (compareOp .Lt) (JD λi j=>.bl (decide (i<j))):=KI λ_ _ _ _ _ _ _ q=>lt_int q
theorem Eb:qF X (compareOp .LtE) (JD λi j=>.bl (decide (i<=j))):=KI λ_ _ _ _ _ _ _ q=>le_int q
theorem qq:qF X (compareOp .Gt) (JD λi j=>.bl (decide (j<i))):=KI λ_ _ _ _ _ _ _ q=>gt_int q
theorem pW:qF X (compareOp .In) (λx y H Q=>∃i j,x=.str i/\y=.str j/\Q (.bl (!(Builtin.Str.occurrences j i 0 j.length 1).isEmpty)) H):=by
 intro pins s Z H x y v u Q I rx ry h;obtain⟨i,j,rfl,rfl,q⟩:=h;obtain⟨t,rfl⟩:=rx;obtain⟨t',rfl⟩:=ry;exact in_str (dF I q rfl)
theorem KG:qF X (compareOp .Is) (λx y H Q=>y=.non/\Q (.bl (decide (x=.non))) H):=by
 intro pins s Z H x y v u Q I rx ry h;obtain⟨rfl,q⟩:=h;cases ry;refine is_none_gen (dF I q ?_);cases x<;>first
  | (cases rx;rfl)
  | (obtain⟨t,rfl⟩:=rx;rfl)
theorem BB:qF X (compareOp .IsNot) (λx y H Q=>y=.non/\Q (.bl (!decide (x=.non))) H):=by
 intro pins s Z H x y v u Q I rx ry h;obtain⟨rfl,q⟩:=h;cases ry;refine isnot_none_gen (dF I q ?_);cases x<;>first
  | (cases rx;rfl)
  | (obtain⟨t,rfl⟩:=rx;rfl)
theorem bZ(b:Expr){op:CmpOp}(h:op≠.In:=by decide)(h2:op≠.NotIn:=by decide):behindInMarks op b=false:=by
 have e1:(op==CmpOp.In)=false:=by cases op<;>first | rfl | exact absurd rfl h
 have e2:(op==CmpOp.NotIn)=false:=by cases op<;>first | rfl | exact absurd rfl h2
 cases b<;>simp[behindInMarks,e1,e2]
def A9(t:TE):TT:=λZ H Q=>t Z H λx H'=>∃k,x=.bl k/\Q k H'
def Dl(r r':R2)(ta tb tc:TE):TE:=λZ H Q=>ta Z H λx H1=>tb Z H1 λy H2=>r x y H2 λz H3=>∃k,z=.bl k ∧
 (if k=true then tc Z H3 λw' H4=>r' y w' H4 Q else Q (.bl false) H3)
theorem rW:(sizeLine:Nat)<2 ^ 63:=by rw[Tg];decide
theorem Th{x:V}{us:ag}(r:cH [x] us):∃u,us=[u]/\RelV x u:=by
 cases r with
 | cons r1 r2=>cases r2;exact⟨_,rfl,r1⟩
theorem vals2{x y:V}{us:ag}(r:cH [x,y] us):∃u w',us=[u,w']/\RelV x u/\RelV y w':=by
 cases r with
 | cons r1 r2=>
  cases r2 with
  | cons r3 r4=>cases r4;exact⟨_,_,rfl,r1,r3⟩
theorem Cg (hc:X.calm=true):iY X (.builtin "max") (λxs H Q=>∃i j,xs=[.int i,.int j]/\Q (.int (if j > i then j else i)) H):=by
 intro pins s Z H xs us Q I r h;obtain⟨i,j,rfl,q⟩:=h;obtain⟨u,w',rfl,⟨t,rfl⟩,⟨t',rfl⟩⟩:=vals2 r;refine max_two_ints (I.ok.hd hc) λh' tk k=>⟨_,H,I.kept k,?_,q⟩
 by_cases hj:j > i
 .rw[U2 hj,U2 hj];exact⟨_,rfl⟩
 .rw[U1 hj,U1 hj];exact⟨_,rfl⟩
theorem Ce (hc:X.calm=true):iY X (.builtin "min") (λxs H Q=>∃i j,xs=[.int i,.int j]/\Q (.int (if j<i then j else i)) H):=by
 intro pins s Z H xs us Q I r h;obtain⟨i,j,rfl,q⟩:=h;obtain⟨u,w',rfl,⟨t,rfl⟩,⟨t',rfl⟩⟩:=vals2 r;refine min_two_ints (I.ok.hd hc) λh' tk k=>⟨_,H,I.kept k,?_,q⟩
 by_cases hj:j<i
 .rw[U2 hj,U2 hj];exact⟨_,rfl⟩
 .rw[U1 hj,U1 hj];exact⟨_,rfl⟩
theorem km:iY X (.type "int") (λxs H Q=>(∃i,xs=[.int i]/\Q (.int i) H)\/∃k,xs=[.bl k]/\Q (.int (if k then 1 else 0)) H):=by
 intro pins s Z H xs us Q I r h;rcases h with ⟨i,rfl,q⟩ | ⟨k,rfl,q⟩
 .obtain⟨u,rfl,t,rfl⟩:=Th r;exact call_int_int ⟨.int i,H,I,⟨_,rfl⟩,q⟩
 .obtain⟨u,rfl,r1⟩:=Th r;cases r1;exact call_int_bool ⟨.int (if k then 1 else 0),H,I.tok _,⟨_,rfl⟩,q⟩
end
structure Ks (h:Heap) (x dx C:Addr) (mA:Str->bt):Prop where
 obj:h.get? x=some (W.instObj C dx)
 ns:h.Ns1 dx mA
 ne:dx≠x
theorem rV{h:Heap}{dx:Addr}{mA:Str->bt}(n:h.Ns1 dx mA):∃od,h.get? dx=some od/\∀name,W.lookIn name od=some (mA name):=by
 obtain⟨o,es,ep,ho,hd,hk,_,hm⟩:=n;refine⟨o,ho,λname=>?_⟩;have e:=hm name;unfold nsFind findBy at e;rw[<-Array.find?_toList] at e;unfold W.lookIn;rw[hd];dsimp only
 split
 .rename_i y q;rw[q] at e;exact congrArg some e
 .rename_i q;rw[q] at e;have a:es.toList.any (·.refKey)=false:=by
   rw[jO];intro y hy;obtain⟨z,t,hkey⟩:=hk y (Array.mem_toList_iff.mp hy);simp[DictEntry.refKey,hkey]
  have a':¬es.toList.any (·.refKey)=true:=by rw[a];exact au
  rw[U1 a'];exact congrArg some e
theorem Ks.look{h:Heap}{x dx C:Addr}{mA:Str->bt}(I:Ks h x dx C mA):∃od,W.InstAt h x (W.instObj C dx) C (some od)/\∀name,W.lookIn name od=some (mA name):=
 let ⟨od,ho,hl⟩:=rV I.ns
 ⟨od,⟨I.obj,rfl,rfl,ho⟩,hl⟩
theorem sQ.some_of{v:V}{o:bt}(r:sQ (some v) o):∃u,o=some u/\RelV v u:=by
 cases o with
 | none=>exact(show False from r).elim
 | some u=>exact⟨u,rfl,r⟩
theorem CW{v:V}{u:Value}(r:RelV v u):W.handedIn u=true:=by
 cases v with
 | non=>cases (show u=Value.none from r);rfl
 | bl b=>cases (show u=Value.bool b from r);rfl
 | int i=>obtain⟨t,e⟩:=(show ∃t,u=Value.int i t from r);cases e;rfl
 | str x=>obtain⟨t,e⟩:=(show ∃t,u=Value.str x t from r);cases e;rfl
 | byt b=>obtain⟨t,e⟩:=(show ∃t,u=Value.bytes b t from r);cases e;rfl
 | flt b=>obtain⟨t,e⟩:=(show ∃t,u=Value.float b t from r);cases e;rfl
 | ref a=>cases (show u=Value.ref a from r);rfl
 | ty n=>cases (show u=Value.type n from r);rfl
section
variable {P:Program}{w:World}{H:Hp}{h:Heap}{a C dx:Addr}{fs:List (Str×V)}
theorem Hk(hok:p7 P w H h)(e:H a=some (.ins C dx fs)):∃mA,Ks h a dx C mA/\(∀f,sQ (fs.lookup f) (mA f))/\PySem.Within mA (fs.map (·.1))/\fs.length<=1000/\H dx=some (.own a):=by
 obtain⟨d,z,ne,ob,mA,n,r,q⟩:=(show cc P w H h a (.ins C dx fs) from hok a _ e)
 exact⟨mA,⟨ob,n,ne⟩,r,q,z,d⟩
end
structure Mk (K:U9) (C:Addr):Prop where
 pg:W.plainGet K C Str.empty=true
 hd:W.hasDictIn K C=true
 po:W.plainOver K C=true
 sa:W.findIn K (.ref C) "__setattr__"=some (some (.builtin "object.__setattr__"))
theorem Mk.get{K:U9}{C:Addr}(c:Mk K C)(f:Str):W.plainGet K C f=true:=c.pg
section
variable {s:Shared}{f:Str}{A:Around}{E:Value->Shared->Prop}{X:Cx}{pins:List (Addr×Obj)}{Z:St}{H:Hp}{Q:Value->Shared->Prop}{c:Value}{b:Bool}
theorem II{prog:Program}{w:World}{env:Env}{e:Expr}{f:Str}{pos:Pos}{s:Shared}{Q:Value->Shared->Prop}(hb:attributeBase e f env (eval e env)=eval e env)
  (h:wpAny (model prog w) A (eval e env) (λo s₁=>wpAny (model prog w) A (getAttr o f true) Q E s₁) E s):wpAny (model prog w) A (eval (.Attribute e f pos) env) Q E s:=
 Attribute_any_ h (by rw[arm_eval_Attribute,hb])
inductive qT (K : U9) (H : Hp) : V → Value → Prop where
 | non : qT K H .non (.type "NoneType")
 | bl (x : Bool) : qT K H (.bl x) (.type "bool")
 | int (i : Int) : qT K H (.int i) (.type "int")
 | str (x : Str) : qT K H (.str x) (.type "str")
 | flt (x : UInt64) : qT K H (.flt x) (.type "float")
 | lst {a : Addr} {xs : List V} (e : H a = some (.lst xs)) : qT K H (.ref a) (.type "list")
 | frz {a : Addr} {o : Obj} {xs : List V} (e : H a = some (.frz o (.lst xs))) : qT K H (.ref a) (.type "list")
 | tup {a : Addr} {xs : List V} (e : H a = some (.tup xs)) : qT K H (.ref a) (.type "tuple")
 | dK {a : Addr} {kvs : List (Key × V)} (e : H a = some (.dK kvs)) : qT K H (.ref a) (.type "dict")
 | dT {a : Addr} {kvs : List (List Key × V)} (e : H a = some (.dT kvs)) : qT K H (.ref a) (.type "dict")
 | ins {a C dx : Addr} {fs : List (Str × V)} (e : H a = some (.ins C dx fs)) (cl : Mk K C) (ha : W.findIn K (.ref C) "__class__" = some (some (.builtin "object.__class__")))
   (hn : W.specialIn K (.builtin "object.__class__") "__get__" = some (some (.builtin "getset_descriptor.__get__"))) (htk : W.takesIn K (.builtin "object.__class__") = some true)
   (hm : W.mroIn K C (.type "object") = some true) : qT K H (.ref a) (.ref C)
theorem CS{x:V}{u t:Value}(I:bc X pins Z H s)(rx:RelV x u)(ty:qT X.K H x t)(e:W.kitOne X.K t c=some b)(h:∀tk,Q (.bool b) { s with toks:=tk }):
  wpAny (model X.prog X.w) A (call (.builtin "isinstance") [u,c]) Q E s:=by
 cases ty with
 | non=>cases (show u=Value.none from rx);exact c9 W.kitx_none I.kIn True.intro e (λz=>nomatch z) h
 | bl y=>cases (show u=Value.bool y from rx);exact c9 W.kitx_bool I.kIn True.intro e (λz=>nomatch z) h
 | int i=>obtain⟨t,q⟩:=(show ∃t,u=Value.int i t from rx);cases q;exact c9 W.kitx_int I.kIn True.intro e (λz=>nomatch z) h
 | str y=>obtain⟨t,q⟩:=(show ∃t,u=Value.str y t from rx);cases q;exact c9 W.kitx_str I.kIn True.intro e (λz=>nomatch z) h
 | flt y=>obtain⟨t,q⟩:=(show ∃t,u=Value.float y t from rx);cases q;exact c9 W.kitx_float I.kIn True.intro e (λz=>nomatch z) h
 | @lst a xs ea=>
  cases (show u=Value.ref a from rx);obtain⟨_,_,n,_,h1⟩:=(show cc X.prog X.w H s.heap a (.lst xs) from I.hok a _ ea)
  exact c9 W.kitx_list I.kIn ⟨_,h1,rfl⟩ e (λz=>nomatch z) h
 | @frz a ob xs ea=>
  cases (show u=Value.ref a from rx);obtain⟨_,_,_,n,_,h1⟩:=(show cc X.prog X.w H s.heap a (.frz ob (.lst xs)) from I.hok a _ ea)
  exact c9 W.kitx_list I.kIn ⟨_,h1,rfl⟩ e (λz=>nomatch z) h
 | @tup a xs ea=>
  cases (show u=Value.ref a from rx);obtain⟨_,_,_,p⟩:=(show cc X.prog X.w H s.heap a (.tup xs) from I.hok a _ ea)
  obtain⟨o,h1,h2,_⟩:=p;exact c9 W.kitx_tuple I.kIn ⟨o,h1,h2⟩ e (λz=>nomatch z) h
 | @dK a kvs ea=>
  cases (show u=Value.ref a from rx);obtain⟨_,_,vs,_,p⟩:=(show cc X.prog X.w H s.heap a (.dK kvs) from I.hok a _ ea)
  obtain⟨o,es,ep,h1,h2,_⟩:=p;exact c9 W.kitx_dict I.kIn ⟨o,h1,h2.1⟩ e (λz=>nomatch z) h
 | @dT a kvs ea=>
  cases (show u=Value.ref a from rx);obtain⟨_,_,xs,_,o,es,ep,h1,h2,_⟩:=(show cc X.prog X.w H s.heap a (.dT kvs) from I.hok a _ ea)
  exact c9 W.kitx_dict I.kIn ⟨o,h1,h2.1⟩ e (λz=>nomatch z) h
 | @ins a C dx fs ea cl ha hn htk hm=>
  cases (show u=Value.ref a from rx);obtain⟨mA,O,_⟩:=Hk I.hok ea;obtain⟨od,J,_⟩:=O.look;exact c9 (W.kitx_own (cl.get _) cl.hd ha hn htk hm) I.kIn J e (λz=>nomatch z) h
end
structure fj (k:Nat) (A:Around):Prop where
 hd:A.handled=none
 dp:A.depth+3 * k+5<recursionLimit
 un:A.units+16 * k+200<cLine
 gd:A.guards=some []
theorem fj.mono{j k:Nat}{A:Around}(r:fj k A)(h:j<=k):fj j A:=⟨r.hd,by have:=r.dp;lia,by have:=r.un;lia,r.gd⟩
theorem fj.deeper{k:Nat}{A:Around}(r:fj (k+1) A)(env:Env):fj k (A.deeper env):=
 ⟨r.hd,by have:=r.dp;show A.depth+1+3*k+5<_;lia,by have:=r.un;show A.units+3+16*k+200<_;lia,r.gd⟩
theorem fj.in1{k:Nat}{A:Around}(r:fj (k+1) A):fj k A.in1:=
 ⟨r.hd,by have:=r.dp;show A.depth+3*k+5<_;lia,by have:=r.un;show A.units+1+16*k+200<_;lia,r.gd⟩
theorem ze {A:Around} {C:Addr} {us:ag} {kw:List (Str×Value)}:(A.under (.builtin "type.__call__" ⟨.ref C::us,kw⟩)).depth=A.depth+1:=by
 first | rfl | simp[Around.under,Code.weight,Code.isCreation,Code.isGuard,Code.isCaller,Code.frames,Code.isFrame,guardIds]
theorem zd {A:Around} {C:Addr} {us:ag} {kw:List (Str×Value)}:(A.under (.builtin "type.__call__" ⟨.ref C::us,kw⟩)).units=A.units+1:=by
 first | rfl | simp[Around.under,Code.cUnits,Code.frames,Code.isFrame]
theorem xr {A:Around} {C:Addr} {us:ag} {kw:List (Str×Value)}:(A.under (.builtin "type.__call__" ⟨.ref C::us,kw⟩)).guards=A.guards:=by
 first | rfl | simp[Around.under,Code.guards,Code.isGuard,guardIds,pushGuards]
theorem fj.make {k:Nat} {A:Around} (r:fj (k+1) A) (C:Addr) (us:ag) (kw:List (Str×Value)):fj k (A.under (.builtin "type.__call__" ⟨.ref C::us,kw⟩)):=
 ⟨r.hd,by have:=r.dp;rw[ze];lia,by have:=r.un;rw[zd];lia,by rw[xr];exact r.gd⟩
theorem fj.depth{k:Nat}{A:Around}(r:fj k A):A.depth<recursionLimit:=by have:=r.dp;lia
theorem fj.units{k:Nat}{A:Around}(r:fj k A):A.units+64<cLine:=by have:=r.un;lia
def Jk:TA:=λ_ H Q=>Q [] H
def oF(ta:TE)(tr:TA):TA:=λZ H Q=>ta Z H λx H1=>tr Z H1 λxs H2=>Q (x::xs) H2
section
variable {X:Cx}{e:Expr}{es:lc}{te:TE}{t:TA}{pos:Pos}
theorem zP:PA X [] Jk:=λ_ _ _ _ H Q I h=>gg ⟨[],H,I,.nil,h⟩
theorem iZ(ha:PE X e te)(hr:PA X es t)(hs:starEach (e::es) X.env=(false,eval e X.env)::starEach es X.env:=by rfl):PA X (e::es) (oF te t):=by
 intro pos pins s Z H Q I h;rw[hs];show wpAny _ _ (spliced ((false,eval e X.env)::backTo pos (starEach es X.env))) _ _ s;refine gQ (dw (ha pins s Z H _ I h) λu s1 z'=>?_);obtain⟨x,H1,I1,r1,q1⟩:=z';exact dw (hr pos pins s1 Z H1 _ I1 q1) (by rintro us s2 ⟨xs,H2,I2,r2,q2⟩;exact ⟨x::xs,H2,I2,.cons r1 r2,q2⟩)
def Le(t:TA):TE:=λZ H Q=>t Z H λxs H1=>xs.length<=sizeLine/\∀p,H1 p=none->Q (.ref p) (upd H1 p (.tup xs))
def Lm(t:TA):TE:=λZ H Q=>t Z H λxs H1=>xs.length<=sizeLine/\∀p,H1 p=none->Q (.ref p) (upd H1 p (.lst xs))
end
abbrev Sp:=List V->Hp->VK->XK->Prop
abbrev Cp:=List Env->Hp->Shared->XK->Value->Shared->Prop
structure sT (P:Program) (w:World) (K:U9) (mg:Str->bt) (base:Heap) (A:Around) (outer:List Env) (s:Shared) (H:Hp):Prop where
 frames:A.frames=some outer
 mod:Mod K mg base
 bs:∀ b o,base.get? b=some o->s.heap.get? b=some o/\H b=none
 bsz:base.objs.size<=s.heap.objs.size
 funs:s.heap.FunFrames base outer
 frf:∀ b∈lq outer,H b=none
 hok:p7 P w H s.heap
 bare:AllBare s.gens
def CE(outer:List Env)(P:Program)(w:World)(H:Hp)(s:Shared)(Q:VK)(u:Value)(s':Shared):Prop:=
 ∃v H',s'.os=s.os/\AllBare s'.gens/\Un (lq outer) [] H H' s.heap s'.heap/\p7 P w H' s'.heap/\RelV v u/\Q v H'
def CR(CX:Cp)(outer:List Env)(P:Program)(w:World)(H:Hp)(s:Shared)(Q:VK)(E:XK)(r:Result)(s':Shared):Prop:=
 match r with
 | .ok (.ret u)=>CE outer P w H s Q u s'
 | .ok _=>False
 | .error e=>CX outer H s E e s'
structure nw (P:Program) (w:World) (K:U9) (mg:Str->bt) (base:Heap) (CX:Cp) (k:Nat) (f:Addr) (fd:FuncData) (ps:List Str) (sp:Sp):Prop where
 len:∀ vs H Q E,sp vs H Q E->vs.length=ps.length
 run:∀ (A:Around) (outer:List Env) (s:Shared) (H:Hp) (args:Args) (us:ag) (vs:List V) (Q:VK) (E:XK),fj k A->sT P w K mg base A outer s H->BindsTo s fd args (ps.zip us)->cH vs us->sp vs H Q E →
  codeAny (model P w) A (.call (.ref f) args) (CR CX outer P w H s Q E) s
theorem sT.make{P:Program}{w:World}{K:U9}{mg:Str->bt}{base:Heap}{A:Around}{outer:List Env}{s:Shared}{H:Hp}(e:sT P w K mg base A outer s H)(C:Addr)(us:ag)(kw:List (Str×Value)):
  sT P w K mg base (A.under (.builtin "type.__call__" ⟨.ref C::us,kw⟩)) outer s H:=⟨by first | exact e.frames | (simpa [Around.under,Code.envs,Code.isFrame,pushEnvs] using e.frames),e.mod,e.bs,e.bsz,e.funs,e.frf,e.hok,e.bare⟩
theorem sT.in1{P:Program}{w:World}{K:U9}{mg:Str->bt}{base:Heap}{A:Around}{outer:List Env}{s:Shared}{H:Hp}(e:sT P w K mg base A outer s H):
  sT P w K mg base A.in1 outer s H:=⟨e.frames,e.mod,e.bs,e.bsz,e.funs,e.frf,e.hok,e.bare⟩
section
variable {X:Cx}{pins:List (Addr×Obj)}{Z:St}{H:Hp}{s s':Shared}
theorem bc.env0(I:bc X pins Z H s):sT X.prog X.w X.K X.mg X.base X.A X.stack s H:=
 ⟨I.ok.frames,I.ok.mod,I.bs,bN I.ok.bsz I.sz,I.stack,I.stkFree,I.hok,I.bare⟩
theorem bc.after{Q:VK}{u:Value}(I:bc X pins Z H s)(h:CE X.stack X.prog X.w H s Q u s'):EP X pins Z Q u s':=by
 obtain⟨v,H',os,bare,un,hok,r,q⟩:=h;obtain⟨hh,g,d,t,os'⟩:=s';obtain rfl:os'=s.os:=os;exact⟨v,H',I.call (h':=hh) (g':=g) (d':=d) (t':=t) (ch:=[]) un hok bare (λb z=>absurd z (by simp)),r,q⟩
end
def tH(sp:Sp)(dvs:List V)(E:XK)(t:TA):TE:=λZ H Q=>t Z H λvs H1=>sp (vs++dvs) H1 Q E
def Binds(K:U9)(fd:FuncData)(ps:List Str)(ds:ag):Prop:=
 ∀(s:Shared) (us:ag),K.In s.heap->(us++ds).length=ps.length->BindsTo s fd ⟨us,[]⟩ (ps.zip (us++ds))
theorem Binds.all{K:U9}{fd:FuncData}{ps:List Str}(h:∀us:ag,us.length=ps.length->bindArgs fd ⟨us,[]⟩=pure (ps.zip us)):Binds K fd ps []:=λs us _ hl=>by
 rw[cE] at hl |-;exact .of_eq (h us hl)
def uZ(CX:Cp)(X:Cx)(E:XK):Prop:=∀(pins:List (Addr×Obj)) (Z:St) (H:Hp) (s:Shared) (e:Value) (s':Shared),bc X pins Z H s->CX X.stack H s E e s'->X.xe e s'
section
variable {X:Cx}{CX:Cp}{k:Nat}{f:Addr}{fd:FuncData}{ps:List Str}{sp:Sp}{dvs:List V}{ds:ag}{E:XK}{x:Str}{p pos:Pos}{e:Expr}{es:lc}{t:TA}
theorem Jp{pins:List (Addr×Obj)}{Z:St}{H:Hp}{s:Shared}{Q:VK}{us:ag}{vs:List V}(F:nw X.prog X.w X.K X.mg X.base CX k f fd ps sp)(hr:fj k X.A)(hb:Binds X.K fd ps ds)(hd:cH dvs ds)(hx:uZ CX X E)
  (I:bc X pins Z H s) (r:cH vs us) (h:sp (vs++dvs) H Q E):wpAny (model X.prog X.w) X.A (call (.ref f) us) (EP X pins Z Q) X.xe s:=by
 have r2:cH (vs++dvs) (us++ds):=r.append hd;have hl:(us++ds).length=ps.length:=by rw[<-r2.length];exact F.len _ _ _ _ h
 refine Ti (Tj (F.run X.A X.stack s H ⟨us,[]⟩ (us++ds) (vs++dvs) Q E hr I.env0 (hb s us I.kIn hl) r2 h) λr s' hq=>?_);cases r with
 | error e=>exact hx pins Z H s e s' I hq
 | ok fl=>
  cases fl with
  | ret u=>exact I.after hq
  | next=>exact False.elim hq
  | brk=>exact False.elim hq
  | cont=>exact False.elim hq
theorem wL(F:nw X.prog X.w X.K X.mg X.base CX k f fd ps sp)(hr:fj k X.A)(hg:Gl X x)(hm:X.mg x=some (.ref f))(hk:W.keepIn X.K (.ref f)=true)(hb:Binds X.K fd ps ds)(hd:cH dvs ds)(hx:uZ CX X E)
  (ha:PA X (e::es) t) (hdb:(x==("__debug__":Str))=false:=by decide) (he:starEach (e::es) X.env=(false,eval e X.env)::starEach es X.env:=by rfl) (hpl:(backTo pos (starEach es X.env)).any (·.1)=false:=by rfl) :
  PE X (.Call (.Name x p) (e::es) [] pos) (tH sp dvs E t):=by
 intro pins s Z H Q I h;refine Tl (jh I hg hm ?_ hdb);refine ic (h₀:=X.base) I.ok.mod.kin hk (dw (ha pos pins s Z H _ I h) λus s1 ⟨vs,H1,I1,r,q⟩=>⟨I1.kIn,?_⟩) he hpl;exact Jp F hr hb hd hx I1 r q
end
structure be (N P:List Str) (sc:Scope):Prop where
 kind:sc.kind=.function
 co:sc.isCoroutine=false
 gen:sc.isGenerator=false
 nd:N.Nodup
 pre:N.take P.length=P
 par:∀ x∈P,sc.names.lookup x=some .local\/sc.names.lookup x=some .cell
 nofree:∀ y∈sc.names,y.2≠.free
theorem vh{kindOf:Str->Option NameKind}{x:Str}:∀{binds:List (Str×Value)} {m:Str->bt},(∀v,(x,v)∉binds)->bindL kindOf binds m x=m x
 | [],_,_=>rfl
 | (n,v)::r,m,h=>by
  unfold bindL;rw[vh λw hw=>h w (aJ _ hw)]
  split
  .have:x≠n:=by rintro rfl;exact h v aW
   simp[this]
  .rfl
theorem vj{kindOf:Str->Option NameKind}{x:Str}:∀{binds:List (Str×Value)} {m:Str->bt},(∀v,(x,v)∉binds)->bindC kindOf binds m x=m x
 | [],_,_=>rfl
 | (n,v)::r,m,h=>by
  unfold bindC;rw[vj λw hw=>h w (aJ _ hw)]
  split
  .rfl
  .have:x≠n:=by rintro rfl;exact h v aW
   simp[this]
theorem vi{kindOf:Str->Option NameKind}{x:Str}{v:Value}:∀{P:List Str} {vs:ag} {i:Nat} {m:Str->bt},P.Nodup->P[i]? = some x->vs[i]? = some v->kindOf x=some .local →
  bindL kindOf (P.zip vs) m x=some v
 | [],_,_,_,_,h,_,_=>by simp at h
 | _::_,[],_,_,_,_,h,_=>by simp at h
 | p::P,w::vs,0,m,nd,h1,h2,hk=>by
  simp at h1 h2;subst h1;subst h2;show bindL kindOf ((p,w)::P.zip vs) m p=_;unfold bindL;rw[vh λv hv=>(bW.mp nd).1 (kI hv).1,U2 hk];simp
 | p::P,w::vs,i+1,m,nd,h1,h2,hk=>by
  show bindL kindOf ((p,w)::P.zip vs) m x=_;unfold bindL;exact vi (i:=i) (bW.mp nd).2 (by simpa using h1) (by simpa using h2) hk
theorem vk{kindOf:Str->Option NameKind}{x:Str}{v:Value}:∀{P:List Str} {vs:ag} {i:Nat} {m:Str->bt},P.Nodup->P[i]? = some x->vs[i]? = some v->kindOf x≠some .local →
  bindC kindOf (P.zip vs) m x=some v
 | [],_,_,_,_,h,_,_=>by simp at h
 | _::_,[],_,_,_,_,h,_=>by simp at h
 | p::P,w::vs,0,m,nd,h1,h2,hk=>by
  simp at h1 h2;subst h1;subst h2;show bindC kindOf ((p,w)::P.zip vs) m p=_;unfold bindC;rw[vj λv hv=>(bW.mp nd).1 (kI hv).1,U1 hk];simp
 | p::P,w::vs,i+1,m,nd,h1,h2,hk=>by
  show bindC kindOf ((p,w)::P.zip vs) m x=_;unfold bindC;exact vk (i:=i) (bW.mp nd).2 (by simpa using h1) (by simpa using h2) hk
def start(N:List Str)(vs:List V):St:=vs.map some++List.replicate (N.length-vs.length) none
def kE(CX:Cp)(P:Program)(w:World)(K:U9)(mg:Str->bt)(base:Heap)(N:List Str)(qual:Str)(scope:Scope)(f:Addr)(cd:Value)(A:Around)(outer:List Env)(s:Shared)(H:Hp)(E:XK):Cx where
 prog:=P
 w:=w
 K:=K
 mg:=mg
 base:=base
 A:=A.deeper (envOfC qual scope s.heap.objs.size f cd)
 N:=N
 s₀:=s
 H₀:=H
 env:=envOfC qual scope s.heap.objs.size f cd
 outer:=outer
 stack:=envOfC qual scope s.heap.objs.size f cd::outer
 ex:=[]
 calm:=true
 fn:=λ_=>true
 pn:=[]
 xe:=λe s'=>wpAny (model P w) (A.deeper (envOfC qual scope s.heap.objs.size f cd)) (leaving (envOfC qual scope s.heap.objs.size f cd) e) (λ_ s''=>CX outer H s E e s'') (λe' s''=>CX outer H s E e' s'') s'
theorem yZ{sc:Scope}{n:Nat}{x:Str}(h:sc.names.lookup x=some .cell):∃c,(cellsFrom n sc.names []).lookup x=some c:=by
 have q:=jI sc.names n [] (.inl h);exact iW.mp q
theorem vZ{CX:Cp}{P:Program}{w:World}{K:U9}{mg:Str->bt}{base:Heap}{N ps:List Str}{qual:Str}{scope:Scope}{f:Addr}{cd:Value}{A:Around}{outer:List Env}{s s1:Shared}{H:Hp}{E:XK}{us:ag}{vs:List V}
  (S:be N ps scope) (hd:A.handled=none) (e0:sT P w K mg base A outer s H) (hl:vs.length=ps.length) (r:cH vs us)
  (x:InCallC s s.heap.objs.size (bindL (envOfC qual scope s.heap.objs.size f cd).kindOf (ps.zip us) λ_=>none) (cellsFrom (s.heap.objs.size+1) scope.names []) (bindC (envOfC qual scope s.heap.objs.size f cd).kindOf (ps.zip us) λ_=>none) s1) :
  bc (kE CX P w K mg base N qual scope f cd A outer s H E) [] (start N vs) H s1:=by
 have hpl:ps.length<=N.length:=by have:=congrArg List.length S.pre;rw[cB] at this;lia
 obtain⟨h1,tk,rfl,hk⟩:=x.done;have noA:∀b:Addr,b∉(kE CX P w K mg base N qual scope f cd A outer s H E).ex:=λb z=>absurd (show b∈([]:ld) from z) (by simp);refine⟨⟨e0.mod,S.kind,rfl,rfl,aI _,λy z c h1 h2=>?_,λy hy=>?_,λy c _ h=>?_,λ_=>hd,Around.frames_deeper e0.frames,.inr ⟨rfl,rfl⟩,λb z=>absurd z (noA b),e0.bs,e0.bsz,λb _ _=>noA b,λb z=>absurd z (noA b),e0.funs,e0.frf⟩,
  rfl,e0.bare,Un.kept hk,⟨_,x.toInCall.ns,λi y v h1 h2 h3=>?_⟩,λy c h=>⟨_,x.cell y c h⟩,e0.hok.fresh (aI _),λy c h=>?_,λp hp=>absurd (show p∈([]:List (Addr×Obj)) from hp) (by simp),e0.hok.kept hk,?_⟩
 .exact name_of_addr x.apart (dG h1) (dG h2)
 .have hy:scope.names.lookup y=some .cell\/scope.names.lookup y=some .free:=hy;rcases hy with hy | hy
  .exact yZ hy
  .exact absurd rfl (S.nofree _ (dG hy))
 .exact bT (x.above y c (dG h))
 .have hi:i<vs.length:=by
   unfold start at h2;by_cases hi:i<vs.length
   .exact hi
   .rw[cu (by simpa using hi)] at h2;rw[nF] at h2
    split at h2<;>cases h2
  have ha:vs[i]? = some v:=by
   unfold start at h2;rw[iN (by simpa using hi),aR] at h2;cases e:vs[i]? with
   | none=>rw[e] at h2;cases h2
   | some a=>rw[e] at h2;cases h2;rfl
  obtain⟨u,hu,rv⟩:=r.get ha;have hp:ps[i]? = some y:=by
   rw[<-S.pre,iX (by lia)];exact h1
  have ndP:ps.Nodup:=by rw[<-S.pre];exact S.nd.sublist (List.take_sublist _ _)
  refine⟨u,rv,?_⟩;rcases S.par y (aT hp) with k | k
  .exact .inl ⟨k,vi ndP hp hu k⟩
  .obtain⟨c,e⟩:=yZ (n:=s.heap.objs.size+1) k;refine .inr ⟨.inl k,c,e,?_⟩;have q:=x.cell y c e;rw[vk ndP hp hu (by show scope.names.lookup y≠_;rw[k];decide)] at q;exact q
 .exact e0.hok.fresh (bT (x.above y c (dG h)))
 .unfold start;show _=N.length;rw[aj,aA,oV];lia
theorem JL{CX:Cp}{P:Program}{w:World}{K:U9}{mg:Str->bt}{base:Heap}{k:Nat}{f:Addr}{name qual:Str}{params:Arguments}{body:List Stmt}{scope:Scope}{dV kV doc pm cdv ct oc:Value}{an od:Option Addr}
  {osl:Array (bt)} {N ps:List Str} {sp:Sp} (lk:K.lookup f=some ⟨oc,od,.func (W.fnOf name qual params body scope dV kV doc pm an cdv ct),osl⟩) (hcd:W.codeIn K cdv qual=true) (S:be N ps scope)
  (len:∀vs H Q E,sp vs H Q E->vs.length=ps.length)
  (hbody:∀(A:Around) (outer:List Env) (s:Shared) (H:Hp) (vs:List V) (Q:VK) (E:XK),fj k (A.deeper (envOfC qual scope s.heap.objs.size f cdv))->sp vs H Q E →
   ∃t,GO (kE CX P w K mg base N qual scope f cdv A outer s H E) body t/\t { nx:=λ_ H'=>Q .non H',rt:=Q } (start N vs) H) :
  nw P w K mg base CX (k+1) f (W.fnOf name qual params body scope dV kV doc pm an cdv ct) ps sp:=by
 refine⟨len,λA outer s H args us vs Q E hr e0 hb r hsp=>?_⟩;have hl:=len _ _ _ _ hsp;have KX:K.In s.heap:=e0.mod.kin.keeps λb o e=>(e0.bs b o e).1;have lim:s.heap.NoLimit:=e0.mod.nolimit.keeps λb o e=>(e0.bs b o e).1;have hkind:∀y∈ps.zip us,scope.names.lookup y.1=some .local\/(scope.names.lookup y.1=some .cell/\((cellsFrom (s.heap.objs.size+1) scope.names []).lookup y.1).isSome=true):=λ⟨n,v⟩ hy=>by
  rcases S.par n (kI hy).1 with q | q
  .exact .inl q
  .exact .inr ⟨q,jI _ _ _ (.inl q)⟩
 refine codeAny_call_function hr.depth (KX _ _ lk) rfl S.co S.gen rfl (W.codeRec_of KX hcd) (hb _ _ _ _ ?_);refine wpAny_newFunctionEnv_cells S.kind hkind λenv he s1 x=>?_;subst he;refine⟨lim.keeps x.toInCall.keep,codeAny_func ?_⟩;obtain⟨t,ht,hq⟩:=hbody A outer s H vs Q E (hr.deeper _) hsp;have I:bc (kE CX P w K mg base N qual scope f cdv A outer s H E) [] (start N vs) H s1:=vZ S hr.hd e0 hl r x;refine wpAny_mono (ht [] s1 (start N vs) H _ I hq) (λfl s' hs=>?_) λe s' hs=>hs;have fin:∀{Z':St} {H':Hp} {v:V} {u:Value},bc (kE CX P w K mg base N qual scope f cdv A outer s H E) [] Z' H' s'->RelV v u->Q v H'->CE outer P w H s Q u s':=
  fun {Z' H' v u} J rv q=>⟨v,H',J.os,J.bare,J.base,J.hok,rv,q⟩
 cases fl with
 | ret u=>
  obtain⟨v,Z',H',J,rv,q⟩:=hs;exact fin J rv q
 | next=>
  obtain⟨Z',H',J,q⟩:=hs;exact fin (v:=V.non) (u:=Value.none) J rfl q
 | brk=>
  obtain⟨_,_,_,q⟩:=hs;exact False.elim q
 | cont=>
  obtain⟨_,_,_,q⟩:=hs;exact False.elim q
section
variable {t:TA}{r:List V->Hp->VK->Prop}
def Mr(r:List V->Hp->VK->Prop)(t:TA):TE:=λZ H Q=>t Z H λvs H1=>r vs H1 Q
end
end L2
namespace HT
open PySem PyProof.Rows
section
def sIx(n d:Nat):Option Int->Nat
 | none=>d
 | some v=>if v<0 then (v+(n:Int)).toNat else min v.toNat n
end
end HT
namespace L2
open PySem PySem.Spec PyProof.Rows
abbrev TO:=St->Hp->(Option Int->Hp->Prop)->Prop
def PO(X:Cx)(e:Option Expr)(t:TO):Prop:=
 ∀(pins:List (Addr×Obj)) (s:Shared) (Z:St) (H:Hp) (Q:Option Int->Hp->Prop),bc X pins Z H s->t Z H Q →
  wpAny (model X.prog X.w) X.A (evalPart e X.env) (λu s'=>∃o H',bc X pins Z H' s'/\IsPart u o/\Q o H') X.xe s
def Gg:TO:=λ_ H Q=>Q none H
def Il(t:TE):TO:=λZ H Q=>t Z H λx H1=>∃i,x=.int i/\Q (some i) H1
section
variable {X:Cx}{te:TE}{lo hi:Option Expr}{tl th:TO}
def NQ(X:Cx)(r:V->Option Int->Option Int->Hp->VK->Prop):Prop:=
 ∀(pins:List (Addr×Obj)) (s:Shared) (Z:St) (H:Hp) (x:V) (v vl vu:Value) (lo hi:Option Int) (sl:Addr) (Q:VK),bc X pins Z H s->RelV x v->s.heap.IsSliceOf sl vl vu .none->IsPart vl lo->IsPart vu hi->r x lo hi H Q →
  ∃T id,typeLookup (.type T) "__getitem__"=pure (some (.builtin id))/\s.TypeIs v T/\wpAny (model X.prog X.w) X.A (getItem v (.ref sl)) (EP X pins Z Q) X.xe s
def N1(r:V->Option Int->Option Int->Hp->VK->Prop)(te:TE)(tl th:TO):TE:=λZ H Q=>te Z H λx H1=>tl Z H1 λl H2=>th Z H2 λu H3=>r x l u H3 Q
def C7(xs:List V)(lo hi:Option Int):List V:=(xs.drop (HT.sIx xs.length 0 lo)).take (HT.sIx xs.length xs.length hi-HT.sIx xs.length 0 lo)
theorem yT(xs:List V)(lo hi:Option Int):(C7 xs lo hi).length<=xs.length:=by
 unfold C7;rw[cB,List.length_drop];lia
end
def xv(n:Nat)(i:Int):Option Nat:=if 0<=i then (if i<n then some i.toNat else none) else if -(n:Int)<=i then some (i+n).toNat else none
def oR{α:Type}(xs:List α)(i:Int):Option α:=(xv xs.length i).bind λj=>xs[j]?
theorem wV{n:Nat}{i:Int}{j:Nat}(h:xv n i=some j):seqIndex? i n=some j/\j<n/\-(n:Int)<=i/\i<n:=by
 unfold xv at h;by_cases h0:0<=i
 .rw[U2 h0] at h;by_cases h1:i<n
  .rw[U2 h1] at h;have e:i.toNat=j:=av h;exact⟨by rw[seqIndex_of h0 h1,e],by lia,by lia,h1⟩
  .rw[U1 h1] at h;cases h
 .rw[U1 h0] at h;by_cases h1:-(n:Int)<=i
  .rw[U2 h1] at h;have e:(i+n).toNat=j:=av h;exact⟨by rw[seqIndex_neg (by lia) h1,e],by lia,h1,by lia⟩
  .rw[U1 h1] at h;cases h
theorem wa{α:Type}{xs:List α}{i:Int}{v:α}(h:oR xs i=some v):∃j,seqIndex? i xs.length=some j/\xs[j]? = some v/\j<xs.length/\-(xs.length:Int)<=i/\i<xs.length:=by
 unfold oR at h;cases e:xv xs.length i with
 | none=>rw[e] at h;cases h
 | some j=>
  rw[e] at h;obtain⟨h1,h2,h3,h4⟩:=wV e;exact⟨j,h1,h,h2,h3,h4⟩
theorem df{α:Type}{xs:List α}{j:Nat}{v:α}(h:xs[j]? = some v):oR xs (j:Int)=some v:=by
 have hj:j<xs.length:=(aH.mp h).1;have e:xv xs.length (j:Int)=some j:=by
  unfold xv;rw[U2 (by lia),U2 (by lia)];simp
 unfold oR;rw[e];exact h
theorem mq{α:Type}(xs:List α)(v:α):oR (xs++[v]) (-1)=some v:=by
 have hl:(xs++[v]).length=xs.length+1:=by simp
 have e:xv (xs++[v]).length (-1)=some xs.length:=by
  unfold xv;rw[hl,U1 (by decide),U2 (by lia)];congr 1;lia
 unfold oR;rw[e];show (xs++[v])[xs.length]? = some v;simp
def IS(b:Expr):Prop:=∀o i,subscripted b false o i=operate [o,i] (getItem o i)
def GK(X:Cx)(r:R2):Prop:=
 ∀(value slice:Expr) (pins:List (Addr×Obj)) (s:Shared) (Z:St) (H:Hp) (x y:V) (v u:Value) (Q:VK),bc X pins Z H s->RelV x v->RelV y u->r x y H Q →
  subscripted slice false v u=operate [v,u] (getItem v u)->wpAny (model X.prog X.w) X.A (subscriptTail value slice v u) (EP X pins Z Q) X.xe s
def NS(X:Cx)(id:String)(r:V->List V->Hp->VK->Prop):Prop:=
 ∀(pins:List (Addr×Obj)) (s:Shared) (Z:St) (H:Hp) (x:V) (xs:List V) (v:Value) (us:ag) (Q:VK),bc X pins Z H s->RelV x v->cH xs us->r x xs H Q →
  wpAny (model X.prog X.w) X.A (call (.builtin id) (v::us)) (EP X pins Z Q) X.xe s
section
variable {X:Cx} {a b:Expr}
theorem GK.or{r r':R2}(h:GK X r)(h':GK X r'):GK X (λx y H Q=>r x y H Q\/r' x y H Q):=by
 intro value slice pins s Z H x y v u Q I rx ry q hs;rcases q with q | q
 .exact h value slice pins s Z H x y v u Q I rx ry q hs
 .exact h' value slice pins s Z H x y v u Q I rx ry q hs
def HE(K:U9):R2:=λx y H Q=>∃p xs i v,x=.ref p/\y=.int i/\cI K H p xs/\oR xs i=some v/\Q v H
def HD(K:U9):R2:=λx y H Q=>∃p xs i v,x=.ref p/\y=.int i/\cj K H p xs/\oR xs i=some v/\Q v H
def Jw:R2:=λx y H Q=>∃z i c,x=.str z/\y=.int i/\z.length<=sizeLine/\oR z.cps.toList i=some c/\Q (.str ⟨#[c]⟩) H
theorem bV:GK X (HE X.K):=by
 intro value slice pins s Z H x y v u Q I rx ry h hs;obtain⟨p,xs,i,z,rfl,rfl,hq,he,q⟩:=h;cases rx;obtain⟨t,rfl⟩:=ry;obtain⟨its,r,pl,hz⟩:=I.list hq;obtain⟨j,h1,h2,h3,h4,h5⟩:=wa he;obtain⟨w,ew,rw'⟩:=r.get h2;have hl:=r.length;have hn:=rW;have fin:EP X pins Z Q w s:=⟨z,H,I,rw',q⟩
 by_cases h0:0<=i
 .have hj:i.toNat=j:=by
   rw[seqIndex_of h0 h5] at h1;exact av h1
  exact item_listR pl.isList h0 (by lia) (by rw[hj];simpa using ew) fin hs
 .have hj:(i+(its.toArray.size:Int)).toNat=j:=by
   rw[seqIndex_neg (by lia) h4] at h1;rw[aQ,<-hl];exact av h1
  exact subscriptTail_builtinR (x:=w) pl.isList.typeIs slot_list_getitem.lookup
   (wpAny_getItem_list_neg (Q:=λr s'=>r=w/\EP X pins Z Q r s') pl.isList (by lia) (by rw[aQ]<;>lia) (by lia) (by rw[hj];simpa using ew) ⟨rfl,fin⟩) hs
theorem bw:GK X (HD X.K):=by
 intro value slice pins s Z H x y v u Q I rx ry h hs;obtain⟨p,xs,i,z,rfl,rfl,hq,he,q⟩:=h;cases rx;obtain⟨t,rfl⟩:=ry;obtain⟨its,r,pl,hz⟩:=I.tuple hq;obtain⟨j,h1,h2,h3,h4,h5⟩:=wa he;obtain⟨w,ew,rw'⟩:=r.get h2;have hl:=r.length;have hn:=rW;have fin:EP X pins Z Q w s:=⟨z,H,I,rw',q⟩
 exact subscriptTail_builtinR (x:=w) pl.typeIs slot_tuple_getitem.lookup
  (getItem_tuple (j:=j) (Q:=λr s'=>r=w/\EP X pins Z Q r s') pl (by lia) (by lia) (by rw[aQ,<-hl];exact h1) (by simpa using ew) ⟨rfl,fin⟩) hs
theorem uK:GK X Jw:=by
 intro value slice pins s Z H x y v u Q I rx ry h hs;obtain⟨z,i,c,rfl,rfl,hz,he,q⟩:=h;obtain⟨t,rfl⟩:=rx;obtain⟨t',rfl⟩:=ry;obtain⟨j,h1,h2,h3,h4,h5⟩:=wa he;have hl:z.cps.toList.length=z.length:=by simp[Str.length]
 rw[hl] at h1 h4 h5;have hn:=rW;exact tail_any (Tn s z t) slot_str_getitem.lookup (getItem_str (c:=c) (by
  have e1:decide (i < -(2 ^ 63:Int))=false:=U4 (by lia);have e2:decide (i>=2 ^ 63)=false:=U4 (by lia);rw[e1,e2,eS]) (by rw[h1];simpa using h2) ⟨.str ⟨#[c]⟩,H,I.tok _,⟨_,rfl⟩,q⟩) hs
def N6(K:U9):R2:=λx y H Q=>HE K x y H Q\/HD K x y H Q\/Jw x y H Q
theorem kD:GK X (N6 X.K):=bV.or (bw.or uK)
theorem zc (its:ag) (n j:Nat) (u:Value):Obj.mapSeq (·.setIfInBounds j u) { cls:=.type "list",data:=.seq its.toArray n }={ cls:=.type "list",data:=.seq (its.set j u).toArray n }:=by
 simp[Obj.mapSeq]
theorem bc.lst{pins:List (Addr×Obj)}{Z:St}{H:Hp}{s:Shared}{p:Addr}{xs:List V}(I:bc X pins Z H s)(h:H p=some (.lst xs)):
  ∃(its:ag) (n:Nat),cH xs its/\s.heap.get? p=some { cls:=.type "list",data:=.seq its.toArray n }/\xs.length<=sizeLine:=by
 obtain⟨z,its,n,r,e⟩:=I.hok p _ h;exact⟨its,n,r,e,z⟩
theorem bc.lstUpd{pins:List (Addr×Obj)}{Z:St}{H:Hp}{s:Shared}{p:Addr}{xs ys:List V}{its its':ag}{n n':Nat}{f:Obj->Obj}(I:bc X pins Z H s)(h:H p=some (.lst xs))
  (ho:s.heap.get? p=some { cls:=.type "list",data:=.seq its.toArray n }) (hf:f { cls:=.type "list",data:=.seq its.toArray n }={ cls:=.type "list",data:=.seq its'.toArray n' }) (r:cH ys its') (hz:ys.length<=sizeLine) (t:Nat) :
  bc X pins Z (upd H p (.lst ys)) { s with heap:=s.heap.update p f,toks:=t }:=by
 have e:(s.heap.update p f).get? p=some { cls:=.type "list",data:=.seq its'.toArray n' }:=by
  rw[bq f ho (by rw[hf]<;>rfl),hf]
 refine I.write (x:=p) (e:=p) (by rw[h];trivial) (.inl rfl) (λb u hb q=>(di _ _ (fM hb)).trans q) ⟨_,e⟩ ?_;exact⟨hz,its',n',r,e⟩
def Ly:V->V->V->Hp->(Hp->Prop)->Prop:=λo i v H Q=>∃p xs k j,o=.ref p/\i=.int k/\H p=some (.lst xs)/\xv xs.length k=some j/\Q (upd H p (.lst (xs.set j v)))
theorem set_list:MX X Ly:=by
 intro pins s Z H o i v ov iv u Q I ro ri rv h;obtain⟨p,xs,k,j,rfl,rfl,hp,hj,q⟩:=h;cases ro;obtain⟨t,rfl⟩:=ri;obtain⟨its,n,r,ho,hz⟩:=I.lst hp;obtain⟨h1,h2,h3,h4⟩:=wV hj;have hl:=r.length;have hn:=rW;have I':bc X pins Z (upd H p (.lst (xs.set j v))) { s with heap:=s.heap.update p (Obj.mapSeq (·.setIfInBounds j u)) }:=
  I.lstUpd hp ho (zc its n j u) (r.set rv j) (by rw[List.length_set];exact hz) s.toks
 by_cases h0:0<=k
 .have hk:k.toNat=j:=by
   rw[seqIndex_of h0 h4] at h1;exact av h1
  exact W.ki_setAt ho h0 (by lia) (by rw[aQ,<-hl];exact h4) (by rw[hk];exact⟨_,I',q⟩)
 .have hk:(k+(its.toArray.size:Int)).toNat=j:=by
   rw[seqIndex_neg (by lia) h3] at h1;rw[aQ,<-hl];exact av h1
  exact W.ki_setBack ho (by lia) (by rw[aQ,<-hl];exact h3) (by lia) (by rw[hk];exact⟨_,I',q⟩)
theorem wB(lo hi:Option Int)(n:Nat):(sliceBounds lo hi none n).1=((HT.sIx n 0 lo:Nat):Int)/\(sliceBounds lo hi none n).2.1=((HT.sIx n n hi:Nat):Int)/\(sliceBounds lo hi none n).2.2=1:=by
 refine⟨?_,?_,rfl⟩
 .cases lo with
  | none=>simp[sliceBounds,HT.sIx]
  | some i=>
   simp only[sliceBounds,HT.sIx,Option.getD_none,show (1:Int) > 0 by decide,U7];by_cases h:i<0
   .simp only[h,U7]<;>lia
   .simp only[h,U8]<;>lia
 .cases hi with
  | none=>simp[sliceBounds,HT.sIx]
  | some i=>
   simp only[sliceBounds,HT.sIx,Option.getD_none,show (1:Int) > 0 by decide,U7];by_cases h:i<0
   .simp only[h,U7]<;>lia
   .simp only[h,U8]<;>lia
theorem uc(its:ag)(lo hi:Option Int):slicePick its.toArray lo hi none=((its.drop (HT.sIx its.length 0 lo)).take (HT.sIx its.length its.length hi-HT.sIx its.length 0 lo)).toArray:=by
 obtain⟨h1,h2,h3⟩:=wB lo hi its.toArray.size;unfold slicePick;rw[h1,h2,h3];simp only[sliceRange_one,pick_run,aQ]<;>rfl
def Mu(K:U9):V->Option Int->Option Int->Hp->VK->Prop:=λx lo hi H Q=>∃a xs,x=.ref a/\cI K H a xs/\∀p,H p=none->Q (.ref p) (upd H p (.lst (C7 xs lo hi)))
theorem Gk:NQ X (Mu X.K):=by
 intro pins s Z H x v vl vu lo hi sl Q I rx hs pl pu h;obtain⟨a,xs,rfl,hx,q⟩:=h;cases rx;obtain⟨its,r,ht,hz⟩:=I.list hx;have hlen:=r.length;refine⟨"list",_,slot_list_getitem.lookup,ht.isList.typeIs,?_⟩;refine wpAny_getItem_list_slice ht.isList hs pl pu .none (by simp) ?_ (by rw[aQ]<;>lia);rw[uc,<-hlen];refine⟨.ref s.heap.objs.size,_,I.laid (t':=s.toks) (o:=.lst (C7 xs lo hi)) (λb ob q=>aB _ q) (aI _) ?_,rfl,q _ (I.hok.fresh (aI _))⟩;exact⟨bN (yT xs lo hi) hz,_,0,(r.drop (HT.sIx xs.length 0 lo)).take (HT.sIx xs.length xs.length hi-HT.sIx xs.length 0 lo),aP _ rfl⟩
def Nv:V->V->Bool
 | .non,.non=>true
 | .bl a,.bl b=>a==b
 | .bl a,.int b=>(if a then 1 else 0)==b
 | .int a,.bl b=>a==(if b then 1 else 0)
 | .int a,.int b=>a==b
 | .str a,.str b=>a==b
 | _,_=>false
def NG(x:V)(xs:List V):Bool:=xs.any λy=>Nv y x
theorem bC:iY X (.builtin "len") (λxs H Q=>∃p ys,xs=[.ref p]/\(cI X.K H p ys\/cj X.K H p ys)/\Q (.int ys.length) H):=by
 intro pins s Z H xs us Q I r h;obtain⟨p,ys,rfl,hq,q⟩:=h;obtain⟨u,rfl,rx⟩:=Th r;cases rx;have hn:=rW;rcases hq with hq | hq
 .obtain⟨its,r',pl,hz⟩:=I.list hq;have hlen:=r'.length;exact Calls.call_len_list pl.isList (by simp only[aQ]<;>lia) ⟨.int ys.length,H,I.tok _,⟨s.toks+1,by rw[aQ,hlen]⟩,q⟩
 .obtain⟨its,r',pl,hz⟩:=I.tuple hq;have hlen:=r'.length;exact len_tuple pl (by simp only[aQ]<;>lia) ⟨.int ys.length,H,I.tok _,⟨s.toks+1,by rw[aQ,hlen]⟩,q⟩
theorem rB:iY X (.builtin "len") (λxs H Q=>∃z,xs=[.str z]/\z.length<=sizeLine/\Q (.int z.length) H):=by
 intro pins s Z H xs us Q I r h;obtain⟨z,rfl,hz,q⟩:=h;obtain⟨u,rfl,t,rfl⟩:=Th r;have hn:=rW;exact len_str (by lia) ⟨.int z.length,H,I.tok _,⟨_,rfl⟩,q⟩
theorem n8:iY X (.type "list") (λxs H Q=>∃p ys,xs=[.ref p]/\(cI X.K H p ys\/cj X.K H p ys)/\∀l,H l=none->Q (.ref l) (upd H l (.lst ys))):=by
 intro pins s Z H xs us Q I r h;obtain⟨p,ys,rfl,hq,q⟩:=h;obtain⟨u,rfl,rx⟩:=Th r;cases rx;have fin:∀(its:ag),cH ys its->ys.length<=sizeLine->∀(h':Heap) (c':Nat),(∀b o',s.heap.get? b=some o'->h'.get? b=some o') →
   h'.get? s.heap.objs.size=some { cls:=.type "list",dict:=none,data:=.seq its.toArray c',slots:=#[] }->EP X pins Z Q (.ref s.heap.objs.size) { s with heap:=h' }:=λits r' hz h' c' kp e=>
  ⟨.ref s.heap.objs.size,_,I.laid (t':=s.toks) kp (aI _) (show cc X.prog X.w _ h' _ (.lst ys) from ⟨hz,its,c',r',e⟩),rfl,q _ (I.hok.fresh (aI _))⟩
 rcases hq with hq | hq
 .obtain⟨its,r',pl,hz⟩:=I.list hq;have hlen:=r'.length;obtain⟨o,ho,hc,n,hd⟩:=pl.isList;exact call_list_seq p (.inl rfl) ho hc hd (λh' c' kp e=>fin its r' hz h' c' kp e) (by simp only[aQ]<;>lia)
 .obtain⟨its,r',pl,hz⟩:=I.tuple hq;have hlen:=r'.length;obtain⟨o,ho,hc,n,hd⟩:=pl;exact call_list_seq p (.inr rfl) ho hc hd (λh' c' kp e=>fin its r' hz h' c' kp e) (by simp only[aQ]<;>lia)
theorem mI:iY X (.type "tuple") (λxs H Q=>∃p ys,xs=[.ref p]/\((cI X.K H p ys/\∀l,H l=none->Q (.ref l) (upd H l (.tup ys)))\/(cj X.K H p ys/\Q (.ref p) H))):=by
 intro pins s Z H xs us Q I r h;obtain⟨p,ys,rfl,h⟩:=h;obtain⟨u,rfl,rx⟩:=Th r;cases rx;rcases h with ⟨hq,q⟩ | ⟨hq,q⟩
 .obtain⟨its,r',pl,hz⟩:=I.list hq;have hlen:=r'.length;refine call_tuple_list pl.isList (λh' kp=>?_) (by simp only[aQ]<;>lia);have I1:bc X pins Z H { s with heap:=h' }:=I.kept (t':=s.toks) kp;have I2:bc X pins Z (upd H h'.objs.size (.tup ys)) { s with heap:=h'.push { cls:=.type "tuple",data:=.seq its.toArray } }:=
   I1.laid (t':=s.toks) (λb o e=>aB _ e) (aI _) (show cc X.prog X.w _ _ _ (.tup ys) from ⟨hz,its,r',IsTup.new _ _⟩)
  exact⟨.ref h'.objs.size,_,I2,rfl,q _ (I1.hok.fresh (aI _))⟩
 .obtain⟨its,r',pl,hz⟩:=I.tuple hq;exact call_tuple_same pl ⟨.ref p,H,I,rfl,q⟩
def GM (K : U9) (T : String) (x : V) (H : Hp) : Prop := match x with
 | .str _ => T = "str"
 | .int _ => T = "int"
 | .ref p => (T = "list" ∧ ∃ xs, cI K H p xs) ∨ (T = "tuple" ∧ ∃ o, K.lookup p = some o ∧ o.cls = .type "tuple" ∧ o.dict = none) ∨
   (T = "dict" ∧ ((∃ kvs, H p = some (.dK kvs)) ∨ ∃ kvs, H p = some (.dT kvs))) ∨ (T = "set" ∧ ∃ S n, H p = some (.set S n))
 | _ => False
theorem D5{pins:List (Addr×Obj)}{Z:St}{H:Hp}{s:Shared}{T:String}{x:V}{v:Value}(I:bc X pins Z H s)(r:RelV x v)(ty:GM X.K T x H):
  s.TypeIs v T/\∀a,v=.ref a->∃ob,s.heap.get? a=some ob/\ob.dict=none:=by
 cases x with
 | str z=>
  obtain⟨t,rfl⟩:=r;cases (show T="str" from ty);exact⟨Tn s z t,λ_ e=>nomatch e⟩
 | int i=>
  obtain⟨t,rfl⟩:=r;cases (show T="int" from ty);exact⟨typeIs_int s i t,λ_ e=>nomatch e⟩
 | ref p=>
  cases r;rcases ty with ⟨rfl,xs,hq⟩ | ⟨rfl,o,hk,hc,hd⟩ | ⟨rfl,hk⟩ | ⟨rfl,S,n,hk⟩
  .obtain⟨its,_,pl,_⟩:=I.list hq;refine⟨pl.isList.typeIs,λa e=>?_⟩;cases e;obtain⟨o,n,e,c,hd,_⟩:=pl;exact⟨o,e,hd⟩
  .refine⟨⟨o,I.kIn p o hk,hc⟩,λa e=>?_⟩;cases e;exact⟨o,I.kIn _ o hk,hd⟩
  .have z:∃o,s.heap.get? p=some o/\o.ExactDict:=by
    rcases hk with ⟨kvs,hk⟩ | ⟨kvs,hk⟩
    .obtain⟨_,_,_,_,o,_,_,e,ex,_⟩:=I.hok p _ hk;exact⟨o,e,ex⟩
    .obtain⟨_,_,_,_,o,_,_,e,ex,_⟩:=I.hok p _ hk;exact⟨o,e,ex⟩
   obtain⟨o,e,ex⟩:=z;refine⟨⟨o,e,ex.1⟩,λa e2=>?_⟩;cases e2;exact⟨o,e,ex.2.1⟩
  .obtain⟨o,_,_,_,e,ex,_⟩:=I.hok p _ hk;refine⟨⟨o,e,ex.1⟩,λa e2=>?_⟩;cases e2;exact⟨o,e,ex.2.1⟩
 | _=>exact False.elim ty
def Lr(K:U9)(T:String)(r:V->List V->Hp->VK->Prop)(to:TE):TE:=λZ H Q=>to Z H λx H1=>GM K T x H1/\r x [] H1 Q
def M8(K:U9)(T:String)(r:V->List V->Hp->VK->Prop)(to:TE)(t:TA):TE:=λZ H Q=>to Z H λx H1=>GM K T x H1/\t Z H1 λxs H2=>r x xs H2 Q
variable {o e:Expr} {to:TE} {t:TA} {T:String} {r:V->List V->Hp->VK->Prop}
end
def Kt(X:Cx)(id:String)(r:V->List V->Hp->VK->Prop):Prop:=
 ∀(pins:List (Addr×Obj)) (s:Shared) (Z:St) (H:Hp) (x:V) (xs:List V) (v:Value) (us:ag) (Q:VK),bc X pins Z H s->RelV x v->cH xs us->r x xs H Q →
  wpAny (model X.prog X.w) X.A (call (.builtin id) (v::us)) (EP X pins Z Q) X.xe s
theorem cH.one{x:V}{us:ag}(h:cH [x] us):∃u,us=[u]/\RelV x u:=by
 cases h with
 | cons r t=>cases t;exact⟨_,rfl,r⟩
theorem cH.two{x y:V}{us:ag}(h:cH [x,y] us):∃u v,us=[u,v]/\RelV x u/\RelV y v:=by
 cases h with
 | cons r t=>cases t with
  | cons q t=>cases t;exact⟨_,_,rfl,r,q⟩
theorem cH.zero:∀{us:ag},cH [] us->us=[]
 | _,.nil=>rfl
theorem cH.dropLast{xs:List V}{us:ag}(h:cH xs us):cH xs.dropLast us.dropLast:=by
 induction h with
 | nil=>exact .nil
 | cons r t ih=>
  cases t with
  | nil=>exact .nil
  | cons q t'=>exact .cons r ih
theorem cH.eraseIdx:∀{xs:List V} {us:ag} (i:Nat),cH xs us->cH (xs.eraseIdx i) (us.eraseIdx i)
 | _,_,_,.nil=>.nil
 | _,_,0,.cons _ t=>t
 | _,_,i+1,.cons r t=>.cons r (cH.eraseIdx i t)
theorem cH.rep{xs:List V}{us:ag}(h:cH xs us):∀k:Nat,cH (List.replicate k xs).flatten (List.replicate k us).flatten
 | 0=>.nil
 | k+1=>by
  rw[fv,fv,jN,jN];exact cH.append h (cH.rep h k)
theorem zt{α:Type}(l:List α):l.eraseIdx (l.length - 1)=l.dropLast:=by
 induction l with
 | nil=>rfl
 | cons a r ih=>
  cases r with
  | nil=>rfl
  | cons b r=>
   have e:(a::b::r).length - 1=((b::r).length - 1)+1:=by
    have h1:(a::b::r).length=r.length+2:=rfl;have h2:(b::r).length=r.length+1:=rfl;lia
   rw[e,List.eraseIdx_cons_succ,ih]
   all_goals rfl
theorem vT{α:Type}:∀(l:List α) (i:Nat),(l.eraseIdx i).length<=l.length
 | [],_=>aI _
 | _::_,0=>dZ _
 | _::r,i+1=>my (vT r i)
theorem foldl_rep(its:ag):∀(k:Nat) (acc:ag),
  List.foldl (λx1 x2=>x1++x2) acc.toArray (List.replicate k its.toArray)=(acc++(List.replicate k its).flatten).toArray
 | 0,acc=>by simp
 | k+1,acc=>by
  have e:acc.toArray++its.toArray=(acc++its).toArray:=by simp
  have e2:(acc++its)++(List.replicate k its).flatten=acc++(List.replicate (k+1) its).flatten:=by
   rw[fv,jN,cC]
  rw[<-e2,<-foldl_rep its k (acc++its),<-e,fv,eT]
section
variable {X:Cx}{pins:List (Addr×Obj)}{Z:St}{H:Hp}{s:Shared}{l:Addr}{xs ys:List V}
theorem bc.lset{its its':ag}{n:Nat}{f:Array Value->Array Value}{t':Nat}(I:bc X pins Z H s)(hH:H l=some (.lst xs))
  (e:s.heap.get? l=some { cls:=.type "list",data:=.seq its.toArray n }) (hf:f its.toArray=its'.toArray) (hv:cH ys its') (hz:ys.length<=sizeLine) :
  bc X pins Z (upd H l (.lst ys)) { s with heap:=s.heap.update l (Obj.mapSeq f),toks:=t' }:=by
 have q:=PySem.IsL.update e f;rw[hf] at q;refine I.write (x:=l) (e:=l) (by rw[hH];exact trivial) (.inl rfl) (λb' u hb hu=>(di s.heap (Obj.mapSeq f) (fM hb)).trans hu) ⟨_,q⟩ ?_;exact⟨hz,its',_,hv,q⟩
theorem bc.lnew{its:ag}{t':Nat}(I:bc X pins Z H s)(hv:cH ys its)(hz:ys.length<=sizeLine):
  bc X pins Z (upd H s.heap.objs.size (.lst ys)) { s with heap:=s.heap.push { cls:=.type "list",data:=.seq its.toArray },toks:=t' }:=
 I.laid (λ_ _ q=>aB _ q) (aI _) ⟨hz,its,0,hv,aP _ rfl⟩
theorem bc.fresh(I:bc X pins Z H s):H s.heap.objs.size=none:=I.hok.fresh (aI _)
theorem bc.lstM (I:bc X pins Z H s) (hH:H l=some (.lst xs)):xs.length<=sizeLine/\∃(its:ag) (n:Nat),cH xs its/\xs.length=its.length/\s.heap.get? l=some { cls:=.type "list",data:=.seq its.toArray n }:=by
 obtain⟨z,its,n,r,e⟩:=I.hok l _ hH;exact⟨z,its,n,r,r.length,e⟩
theorem Ej{n:Nat}(h:n<=sizeLine):Builtin.List.listTooLong n=false:=by
 unfold Builtin.List.listTooLong;exact U4 (by lia)
def wK:V->List V->Hp->VK->Prop:=λx vs H Q=>∃l xs y,x=.ref l/\vs=[y]/\H l=some (.lst xs)/\xs.length<sizeLine/\Q .non (upd H l (.lst (xs++[y])))
theorem dC:Kt X "list.append" wK:=by
 intro pins s Z H x vs v us Q I rx rv h;obtain⟨l,xs,y,rfl,rfl,hH,hz,q⟩:=h;cases rx;obtain⟨u,rfl,ru⟩:=rv.one;obtain⟨z,its,n,r,hl,e⟩:=I.lstM hH;refine To F.slot_list_append ⟨_,e,rfl⟩ F.entry_list_append (F.args_list_append_2 _ _) (PySem.list_append l its.toArray n u (by rw[aQ];lia)) ⟨e,?_⟩;refine⟨.non,_,I.lset (its':=its++[u]) hH e (by simp) (r.append (.cons ru .nil)) ?_,rfl,q⟩;rw[aj,cY];lia
def Lz:V->List V->Hp->VK->Prop:=λx vs H Q=>∃l xs y,x=.ref l/\vs=[]/\H l=some (.lst xs)/\xs[xs.length - 1]? = some y/\Q y (upd H l (.lst xs.dropLast))
theorem Eu:Kt X "list.pop" Lz:=by
 intro pins s Z H x vs v us Q I rx rv h;obtain⟨l,xs,y,rfl,rfl,hH,hy,q⟩:=h;cases rx;have hus:=rv.zero;subst hus;obtain⟨z,its,n,r,hl,e⟩:=I.lstM hH;obtain⟨u,hu,ru⟩:=r.get hy;have hy':its.toArray[its.toArray.size - 1]? = some u:=by
  show its.toArray[its.length - 1]? = some u;rw[<-cZ,<-hl];exact hu
 refine To F.slot_list_pop ⟨_,e,rfl⟩ F.entry_list_pop (F.args_list_pop_1 _) (MeetsSeq.list_pop_last l its.toArray n u hy' (by rw[aQ];lia)) ⟨e,?_⟩;refine⟨y,_,I.lset (its':=its.dropLast) hH e ?_ r.dropLast ?_,ru,q⟩
 .show its.toArray.eraseIdxIfInBounds (its.toArray.size - 1)=its.dropLast.toArray;rw[aQ,jU,zt]
 .rw[List.length_dropLast];lia
def EL:V->List V->Hp->VK->Prop:=λx vs H Q=>∃l xs i k y,x=.ref l/\vs=[.int i]/\H l=some (.lst xs)/\-(2 ^ 63)<=i/\i<2 ^ 63/\seqIndex? i xs.length=some k/\xs[k]? = some y/\Q y (upd H l (.lst (xs.eraseIdx k)))
theorem Et:Kt X "list.pop" EL:=by
 intro pins s Z H x vs v us Q I rx rv h;obtain⟨l,xs,i,k,y,rfl,rfl,hH,h1,h2,hk,hy,q⟩:=h;cases rx;obtain⟨u,rfl,ru⟩:=rv.one;obtain⟨t,rfl⟩:=ru;obtain⟨z,its,n,r,hl,e⟩:=I.lstM hH;obtain⟨w,hw,rw'⟩:=r.get hy;refine To F.slot_list_pop ⟨_,e,rfl⟩ F.entry_list_pop (F.args_list_pop_2 _ _)
  (MeetsSeq.list_pop_at l its.toArray n i t k w (fitsIndex_both h1 h2) (by rw[aQ,<-hl];exact hk) (by rw[<-cZ];exact hw) (by rw[aQ];lia)) ⟨e,?_⟩
 refine⟨y,_,I.lset (its':=its.eraseIdx k) hH e ?_ (r.eraseIdx k) ?_,rw',q⟩
 .show its.toArray.eraseIdxIfInBounds k=(its.eraseIdx k).toArray;rw[jU]
 .have:=vT xs k;lia
def Mw:R2:=λx y H Q=>∃l b xs zs,x=.ref l/\y=.ref b/\H l=some (.lst xs)/\H b=some (.lst zs)/\xs.length+zs.length<=sizeLine/\∀p,H p=none->Q (.ref p) (upd H p (.lst (xs++zs)))
theorem qJ:qF X (binaryOp .Add) Mw:=by
 intro pins s Z H x y v u Q I rx ry h;obtain⟨l,b,xs,zs,rfl,rfl,hH,hB,hz,q⟩:=h;cases rx;cases ry;obtain⟨z,its,n,r,hl,e⟩:=I.lstM hH;obtain⟨z2,its2,n2,r2,hl2,e2⟩:=I.lstM hB;refine PySem.P.add_list e e2 ?_ (by rw[aQ,aQ];lia);have ea:its.toArray++its2.toArray=(its++its2).toArray:=by simp
 rw[ea];exact⟨.ref _,_,I.lnew (t':=s.toks) (r.append r2) (by rw[aj];lia),rfl,q _ I.fresh⟩
def Mv:R2:=λx y H Q=>∃l k xs,x=.ref l/\y=.int k/\H l=some (.lst xs)/\-(2 ^ 63)<=k/\k<2 ^ 63/\xs.length*k.toNat<=sizeLine ∧
 ∀p,H p=none->Q (.ref p) (upd H p (.lst (List.replicate k.toNat xs).flatten))
theorem len_rep{α:Type}(xs:List α)(k:Nat):(List.replicate k xs).flatten.length=k*xs.length:=by
 induction k with
 | zero=>simp
 | succ k ih=>rw[fv,jN,aj,ih,Nat.succ_mul,Nat.add_comm]
theorem KD:qF X (binaryOp .Mult) Mv:=by
 intro pins s Z H x y v u Q I rx ry h;obtain⟨l,k,xs,rfl,rfl,hH,h1,h2,hz,q⟩:=h;cases rx;obtain⟨t,rfl⟩:=ry;obtain⟨z,its,n,r,hl,e⟩:=I.lstM hH;have hlen:its.toArray.size*k.toNat<=sizeLine:=by rw[aQ,<-hl];exact hz
 have hcap:¬its.toArray.size*k.toNat > (2 ^ 63 - 1) / 8:=by
  have:(sizeLine:Nat)<=(2 ^ 63 - 1) / 8:=by decide
  lia
 have hfit:¬(!Builtin.List.listFitsIndex k)=true:=by
  rw[fitsIndex_both h1 h2];exact au
 have hlong:¬Builtin.List.listTooLong (its.toArray.size*k.toNat)=true:=by
  rw[Ej hlen];exact au
 have hnew:List.foldl (λx1 x2=>x1++x2) #[] (List.replicate (if its.toArray.isEmpty=true then 0 else k.toNat) its.toArray)=(List.replicate k.toNat its).flatten.toArray:=by
  have f0:∀m:Nat,List.foldl (λx1 x2=>x1++x2) #[] (List.replicate m its.toArray)=(List.replicate m its).flatten.toArray:=λm=>by
   have:=foldl_rep its m [];rw[fQ] at this;exact this
  rw[f0];cases its with
  | nil=>simp
  | cons a r'=>rw[U1 (by simp)]
 refine wpAny_binaryOp_repeat_ref (T:="list") (U:="int") (by decide) ⟨_,e,rfl⟩ (λs'=>typeIs_int s' k t) noFill_list_mul F.fills_int_mul F.slot_int_rmul repeat_list F.slot_int_index.lookup
  (To F.slot_int_rmul (typeIs_int s k t) F.entry_int_rmul (F.args_int_rmul_2 _ _) (int___rmul___int_list k t l its.toArray n)
   ⟨e,rfl,⟨_,e,rfl⟩,To F.slot_list_mul ⟨_,e,rfl⟩ F.entry_list_mul (F.args_list_mul_2 _ _) (AutoListH.list___mul___list_int_3 l its.toArray n k t hfit hcap hlong) ⟨e,?_⟩⟩)
 rw[hnew];exact⟨.ref _,_,I.lnew (t':=s.toks) (r.rep k.toNat) (by rw[len_rep,Nat.mul_comm];exact hz),rfl,q _ I.fresh⟩
end
section
set_option maxRecDepth 100000 in
end
end L2
namespace Att
open PySem PySem.W PySem.Calls PyProof.Rows
theorem sN{P:Params}{h:Heap}:∀(ns:gs) (vs:ag),WellAll P h vs (ns.map WData.int)->IntsAre vs ns:=by
 intro ns
 induction ns with
 | nil=>
  intro vs w;rw[eP] at w;cases w;exact .nil
 | cons n ns ih=>
  intro vs w;rw[af] at w;cases w with
  | cons a b=>
   cases a;exact .cons _ _ (ih _ b)
theorem Bh{l:OpenLaw}{n:Nat}(hn:l.most=some n){P:Params}{h:Heap}{args:List WData}{vals:ag}
  (hpre:l.row.toRowW.claim.pre args=true) (hwl:WellAll P h vals args) :
  ∃a vs ns,vals=[Value.ref a]/\args=[WData.list (ns.map WData.int)]/\h.get? a=some { cls:=.type "list",data:=.seq vs.toArray }/\IntsAre vs ns/\ns.length<=n:=by
 have hsh:WShape.hasAll [] args [.list .int]=true:=(pre_splitW hpre).1;have hc:l.pre.holds [] { args:=args }=true:=(pre_splitW hpre).2;obtain⟨d,r,rfl,h1,h2⟩:=hasAllW_cons hsh;obtain rfl:=hasAllW_nil h2;obtain⟨xs,rfl,h3⟩:=hasW_list h1;obtain⟨ns,rfl⟩:=items_int h3;have hlen:ns.length<=n:=by
  unfold OpenLaw.pre at hc;have h4:(WTm.not (.lt (.lit (.int (n:Int))) (.len (.arg 0)))).holds [] { args:=[.list (ns.map .int)] }=true:=by
   have h4:=(holds_andW hc).1;rw[hn] at h4;exact h4
  have h5:=condW_of h4 (w_not (w_lt w_lit (w_len_list (w_arg rfl))));rw[aA] at h5;refine Nat.le_of_not_lt λq=>?_;have q':(n:Int)<((ns.length:Nat):Int):=by lia
  first
   | (rw[U5 q'] at h5;exact absurd h5 (by decide))
   | (simp at h5;lia)
 cases hwl with
 | cons w1 w2=>
  cases w2;cases w1 with
  | list ho hall=>exact⟨_,_,ns,rfl,rfl,ho,sN ns _ hall,hlen⟩
theorem By(l:OpenLaw)(args:List WData):l.row.toRowW.claim.post args (.bool true) args=true:=
 postW_of (r:=l.row.toRowW) (X:=(true==true))
  (show WShape.has [] (.bool true) .bool=true by first | rfl | decide | simp[WShape.has,WShape.arms,WShape.armsAll])
  (show (WTm.eq .res (.lit (.bool true))).value [] { args:=args,res:=some (.bool true),after:=args }=some (.bool (true==true)) from w_eq_bool (w_res rfl) w_lit) rfl
theorem attach_call{l:OpenLaw}{n:Nat}{q:Program}{loose:List Str}{XP:(Str->bt)->Heap->Prop}{YP:World->Heap->Prop}{d:DefRec}
  (hn:l.most=some n) (hdf:d.params.defaults=[])
  (call:∀(w:World) (s₀ s₁:Shared) (mg mb:Str->bt) (fa:Addr) (o:Obj) (pm cd doc:Value) (a:Addr) (vs:ag) (ns:gs),
   Ground q loose [] XP w s₀ mg mb s₁.heap->YP w s₁.heap →
   s₁.heap.get? fa=some o->o.data=.func (docDef d.name d.params d.body d.scope pm cd doc)->s₁.heap.CodeRec cd d.name->mg d.name=some (.ref fa) →
   s₁.heap.get? a=some { cls:=.type "list",data:=.seq vs.toArray }->IntsAre vs ns->ns.length<=n->s₁.gens=#[] →
   codeAny (model l.prog w) callerA (.call (.ref fa) ⟨[.ref a],[]⟩) (λr s'=>r=.ok (.ret (.bool true))/\OldK s₁.heap s'.heap/\s'.os=s₁.os/\AllBare s'.gens) s₁) :
  WalkO q loose XP YP l.row.toRowW d [] (λf vs=>PySem.call f vs):=by
 intro w s₀ s₁ mg mb G Y fa o pm cd doc dV kV ho hd hcd hD hmg hg args vals as hpre hlay hrd hwl hlo;obtain rfl:dV=.none:=Dflts.none hD hdf;obtain rfl:kV=.none:=Dflts.noKw hD;obtain⟨a,vs,ns,rfl,rfl,hobj,hints,hlen⟩:=Bh hn hpre hwl;refine enter_call (Tj (call w s₀ s₁ mg mb fa o pm cd doc a vs ns G Y ho (fd_plain hd) hcd hmg hobj hints hlen hg) λr s' hq=>?_);obtain⟨rfl,h2,h3,h4⟩:=hq;exact⟨.inl ⟨.bool true,.bool true,[],rfl,λ_=>rfl,.bool true,By l _,λ_=>⟨List.Pairwise.nil,λ_ hm=>(nomatch hm)⟩⟩,h2,h3,h4⟩
end Att
namespace L2
open PySem PySem.Spec PyProof.Rows
theorem pK:∀{vs:ag} {ns:gs},IntsAre vs ns->cH (ns.map V.int) vs
 | _,_,.nil=>.nil
 | _,_,.cons n t h=>.cons ⟨t,rfl⟩ (pK h)
def Kr(H:Hp):Prop:=∀b,H b=none\/∃o xs,H b=some (.frz o (.lst xs))
theorem FL{P:Program}{w:World}{K:U9}{mg mb:Str->bt}{CX:Cp}{k:Nat}{fa a:Addr}{fd:FuncData}{x:Str}{sp:Sp}{s₁:Shared}{vs:ag}{ns:gs}
  (KX:K.In s₁.heap) (hns:s₁.heap.Ns mainGlobals mg) (hb:s₁.heap.Ns builtinsNs mb) (hbb:∀x:Str,x≠"__name__"->mb x=bootBuiltins x) (hlim:s₁.heap.NoLimit) (hg:s₁.gens=#[])
  (ha:s₁.heap.get? a=some { cls:=.type "list",data:=.seq vs.toArray }) (hi:IntsAre vs ns) (hl:ns.length<=sizeLine) (hr:fj k callerA)
  (F:∀base:Heap,K.In base->base.Ns mainGlobals mg->nw P w K mg base CX k fa fd [x] sp) (hbind:∀(s:Shared) (u:Value),BindsTo s fd ⟨[u],[]⟩ [(x,u)])
  (hsp:∀H:Hp,Kr H->cI K H a (ns.map V.int)->sp [.ref a] H (λv _=>v=.bl true) λ_ _ _=>False)
  (hCX:∀H e s',CX [] H s₁ (λ_ _ _=>False) e s'->False) :
  codeAny (model P w) callerA (.call (.ref fa) ⟨[.ref a],[]⟩) (λr s'=>r=.ok (.ret (.bool true))/\OldK s₁.heap s'.heap/\s'.os=s₁.os/\AllBare s'.gens) s₁:=by
 have rv:=pK hi;have lenV:=hi.length;have core:∀H:Hp,Kr H->cI K H a (ns.map V.int)->p7 P w H s₁.heap->(∀b,H b≠none->b=a)->(H a≠none->K.lookup a=none) →
   codeAny (model P w) callerA (.call (.ref fa) ⟨[.ref a],[]⟩) (λr s'=>r=.ok (.ret (.bool true))/\OldK s₁.heap s'.heap/\s'.os=s₁.os/\AllBare s'.gens) s₁:=by
  intro H hO hS hok hA hK;have base_of:∀{b:Addr} {o:Obj},s₁.heap.get? b=some o->H b=none->(wX s₁.heap H).get? b=some o:=λe n=>FZ e n;have noA:∀{b:Addr} {o:Obj} {es:Array DictEntry} {ep:Nat},s₁.heap.get? b=some o->o.data=.dict es ep->H b=none:=fun {b o es ep} e d=>by
   cases q:H b with
   | none=>rfl
   | some u=>
    have e':b=a:=hA b (by rw[q];simp);subst e';rw[ha] at e;cases e;have d':Data.seq vs.toArray _=Data.dict es ep:=d;cases d'
  have nsK:∀{b:Addr} {m:Str->bt},s₁.heap.Ns b m->(wX s₁.heap H).Ns b m:=fun {b m} ⟨o,es,ep,e,d,r⟩=>⟨o,es,ep,base_of e (noA e d),d,r⟩
  have hKb:K.In (wX s₁.heap H):=λb o e=>base_of (KX b o e) (by
   cases q:H b with
   | none=>rfl
   | some u=>
    have e':b=a:=hA b (by rw[q];simp);subst e';rw[hK (by rw[q];simp)] at e;cases e)
  have hM:Mod K mg (wX s₁.heap H):=⟨hKb,nsK hns,⟨mb,nsK hb,hbb⟩,let ⟨mc,h1,h2⟩:=hlim;⟨mc,nsK h1,h2⟩⟩
  have e0:sT P w K mg (wX s₁.heap H) callerA [] s₁ H:=⟨rfl,hM,λb o e=>HZ e,kd (CT _ _),trivial,λb hb=>absurd (show b∈([]:ld) from hb) (by simp),hok,.of_eq hg⟩
  refine Tj ((F _ hKb (nsK hns)).run callerA [] s₁ H ⟨[.ref a],[]⟩ [.ref a] [.ref a] _ _ hr e0 (hbind s₁ (.ref a)) (.cons rfl .nil) (hsp H hO hS)) λr s' h=>?_;cases r with
  | error e=>exact(hCX H e s' h).elim
  | ok fl=>
   cases fl with
   | next=>exact False.elim h
   | brk=>exact False.elim h
   | cont=>exact False.elim h
   | ret u=>
    obtain⟨v,H',os,bare,un,hok',r',q⟩:=h;have q':v=.bl true:=q;subst q';obtain rfl:u=Value.bool true:=r';refine⟨rfl,OldK.of_keep λb o e=>?_,os,bare⟩;cases q:H b with
    | none=>exact un.keep b o e q (by intro z;exact absurd (show b∈([]:ld) from z) (by simp)) (by simp)
    | some u=>
     rcases hO b with z | ⟨ob,xs,z⟩
     .rw[q] at z;cases z
     .have z2:=un.frzs b ob _ z;obtain⟨e1,_⟩:=hok b _ z;obtain⟨e2,_⟩:=hok' b _ z2;rw[e] at e1;cases e1;exact e2
 cases hk:K.lookup a with
 | some o=>
  have e:=KX a o hk;rw[ha] at e;cases e;refine core (λ_=>none) (λ_=>.inl rfl) (.inr ⟨_,vs.toArray,_,hk,rfl,rfl,rfl,by rw[aQ,lenV];exact hl,by simpa using rv⟩) (λb u z=>by have z':(none:Option HO)=some u:=z;cases z') (λb z=>absurd rfl z) λz=>absurd rfl z
 | none=>
  refine core (λb=>if b=a then some (.frz { cls:=.type "list",data:=.seq vs.toArray } (.lst (ns.map V.int))) else none) (λb=>?_) (.inl (.inr ⟨{ cls:=.type "list",data:=.seq vs.toArray },U2 rfl⟩)) (λb u z=>?_) (λb z=>?_) λ_=>hk
  .by_cases hb:b=a
   .exact .inr ⟨_,_,U2 hb⟩
   .exact .inl (U1 hb)
  .by_cases hb:b=a
   .have z':=(U2 hb).symm.trans z;cases z';subst hb;exact⟨ha,by rw[aA];exact hl,vs,_,rv,ha⟩
   .have z':=(U1 hb).symm.trans z;cases z'
  .by_cases hb:b=a
   .exact hb
   .exact absurd (U1 hb) z
abbrev Nf {K:U9} {h:Heap} (_:K.In h):U9:=K
theorem AM{l:W.OpenLaw}{n k:Nat}{q:Program}{loose:List Str}{XP:(Str->bt)->Heap->Prop}{YP:World->Heap->Prop}{d:DefRec}{K:Params->U9}{CX:World->Cp}{sp:World->Sp}{x:Str}
  (hn:l.most=some n) (hn2:n<=sizeLine) (hdf:d.params.defaults=[]) (hr:fj k callerA)
  (hY:∀(w:World) (h:Heap),YP w h->(K w.params).In h)
  (F:∀(w:World) (mg:Str->bt) (fa:Addr) (h:Heap),(K w.params).In h->h.Ns mainGlobals mg->mg d.name=some (.ref fa) →
   ∃fd:FuncData,(∀(s:Shared) (u:Value),BindsTo s fd ⟨[u],[]⟩ [(x,u)]) ∧
    ∀base:Heap,(K w.params).In base->base.Ns mainGlobals mg->nw l.prog w (K w.params) mg base (CX w) k fa fd [x] (sp w))
  (hsp:∀(w:World) (H:Hp) (a:Addr) (ns:gs),ns.length<=n->Kr H->cI (K w.params) H a (ns.map V.int)->sp w [.ref a] H (λv _=>v=.bl true) λ_ _ _=>False)
  (hCX:∀(w:World) (H:Hp) (s:Shared) (e:Value) (s':Shared),CX w [] H s (λ_ _ _=>False) e s'->False) :
  W.WalkO q loose XP YP l.row.toRowW d [] (λf vs=>PySem.call f vs):=by
 refine Att.attach_call hn hdf λw s₀ s₁ mg mb fa o pm cd doc a vs ns G Y ho hd hcd hmg hobj hints hlen hg=>?_;have KX:=hY w _ Y;obtain⟨fd,hb,hF⟩:=F w mg fa _ KX G.T.g hmg;exact FL KX G.T.g G.T.b G.T.builtins G.T.nolimit hg hobj hints (bN hlen hn2) hr hF hb (λH hO hS=>hsp w H a ns hlen hO hS) λH e s'=>hCX w H s₁ e s'
end L2
namespace L2
open PySem PySem.Spec PyProof.Rows
def k6(s:Stmt):Arguments:=match s with
 | .FunctionDef _ a _ _ _ _ _ _ _ _=>a
 | _=>{ posonlyargs:=[],args:=[],vararg:=none,kwonlyargs:=[],kw_defaults:=[],kwarg:=none,defaults:=[] }
def iG(s:Stmt):List Stmt:=match s with
 | .FunctionDef _ _ b _ _ _ _ _ _ _=>b
 | _=>[]
def bB(s:Stmt):Scope:=match s with
 | .FunctionDef _ _ _ _ _ _ sc _ _ _=>sc
 | _=>{ kind:=.function,names:=[],isGenerator:=false,isCoroutine:=false }
abbrev we:Cp:=λ_ _ _ _ _ _=>False
abbrev E0:XK:=λ_ _ _=>False
theorem MF{X:Cx}:uZ we X E0:=λ_ _ _ _ _ _ _ h=>h.elim
structure wc (K:U9) (x qual:Str) (st:Stmt) (f:Addr) (fd:FuncData):Prop where
 ex:∃ (oc:Value) (od:Option Addr) (kV doc pm:Value) (an:Option Addr) (cdv ct:Value) (osl:Array (bt)),
  fd=W.fnOf x qual (k6 st) (iG st) (bB st) .none kV doc pm an cdv ct/\K.lookup f=some ⟨oc,od,.func fd,osl⟩/\W.codeIn K cdv qual=true
 kp:W.keepIn K (.ref f)=true
section
variable {P:Program}{w:World}{K:U9}{mg:Str->bt}{base:Heap}
theorem wc.ok{x qual:Str}{st:Stmt}{f:Addr}{fd:FuncData}{N ps:List Str}{k:Nat}{sp:Sp}(F:wc K x qual st f fd)(S:be N ps (bB st))(len:∀vs H Q E,sp vs H Q E->vs.length=ps.length)
  (hbody:∀(cdv:Value) (A:Around) (outer:List Env) (s:Shared) (H:Hp) (vs:List V) (Q:VK) (E:XK),fj k (A.deeper (envOfC qual (bB st) s.heap.objs.size f cdv))->sp vs H Q E →
   ∃t,GO (kE we P w K mg base N qual (bB st) f cdv A outer s H E).nox (iG st) t/\t { nx:=λ_ H'=>Q .non H',rt:=Q } (start N vs) H):nw P w K mg base we (k+1) f fd ps sp:=by
 obtain⟨oc,od,kV,doc,pm,an,cdv,ct,osl,rfl,lk,hcd⟩:=F.ex;refine JL lk hcd S len λA outer s H vs Q E hr hsp=>?_;obtain⟨t,h,q⟩:=hbody cdv A outer s H vs Q E hr hsp;exact⟨t,h.nox,q⟩
theorem wc.binds{x qual:Str}{st:Stmt}{f:Addr}{fd:FuncData}{ps:List Str}(F:wc K x qual st f fd)
  (h:∀(kV doc pm:Value) (an:Option Addr) (cdv ct:Value) (us:ag),us.length=ps.length->bindArgs (W.fnOf x qual (k6 st) (iG st) (bB st) .none kV doc pm an cdv ct) ⟨us,[]⟩=pure (ps.zip us)):Binds K fd ps []:=by
 obtain⟨oc,od,kV,doc,pm,an,cdv,ct,osl,rfl,lk,hcd⟩:=F.ex;exact .all (h kV doc pm an cdv ct)
theorem F7{x qual:Str}{st:Stmt}{f:Addr}{oc:Value}{od an:Option Addr}{osl:Array (bt)}{kV doc pm cdv ct:Value}(l:K.lookup f=some ⟨oc,od,.func (W.fnOf x qual (k6 st) (iG st) (bB st) .none kV doc pm an cdv ct),osl⟩)
  (c:W.codeIn K cdv qual=true) (k:W.keepIn K (.ref f)=true):wc K x qual st f (W.fnOf x qual (k6 st) (iG st) (bB st) .none kV doc pm an cdv ct):=⟨⟨oc,od,kV,doc,pm,an,cdv,ct,osl,rfl,l,c⟩,k⟩
end
theorem bS{n:Nat}(h:n<=1000):n<sizeLine:=Nat.lt_of_le_of_lt h (by decide)
section
variable {X:Cx}
theorem pv (i:Nat) {x:Str} {pos:Pos} (hN:X.N[i]? = some x:=by rfl) (hv:MU X.env.scope x:=by first | exact Or.inl rfl | exact Or.inr (Or.inl rfl) | exact Or.inr (Or.inr rfl)) (hd:(x==("__debug__":Str))=false:=by decide)
  (hcd:(x==("__classdict__":Str))=false:=by decide):PE X (.Name x pos) (yr i):=KC hN hv hd hcd
end
theorem MM{A B:Prop}(h:B):if false=true then A else B:=by
 rw[U1 au];exact h
theorem ML{A B:Prop}(h:A):if true=true then A else B:=by
 rw[U2 rfl];exact h
theorem gh{c A B:Prop} [Decidable c] (h1:c->A) (h2:¬c->B):if c then A else B:=by
 by_cases h:c
 .rw[U2 h];exact h1 h
 .rw[U1 h];exact h2 h
def bJ(H H':Hp):Prop:=∀b o,H b=some o->H' b=some o
theorem bJ.refl(H:Hp):bJ H H:=λ_ _ h=>h
theorem bJ.trans{H H1 H2:Hp}(a:bJ H H1)(b:bJ H1 H2):bJ H H2:=λc o h=>b c o (a c o h)
theorem bJ.free{H H':Hp}(e:bJ H H'){l:Addr}(h:H' l=Option.none):H l=Option.none:=by
 cases q:H l with
 | none=>rfl
 | some o=>
  rw[e l o q] at h;cases h
end L2
set_option maxHeartbeats 4000000
namespace L2
open PySem PySem.Spec PyProof.Rows
mutual
inductive Rep (K:U9) (H:Hp):V->PyData->Prop
 | non:Rep K H .non .none
 | bl (b:Bool):Rep K H (.bl b) (.bool b)
 | int (i:Int):Rep K H (.int i) (.int i)
 | str (x:Str):Rep K H (.str x) (.str x)
 | tup {a:Addr} {xs:List V} {ds:List PyData}:cj K H a xs->rf K H xs ds->Rep K H (.ref a) (.tuple ds)
 | lst {a:Addr} {xs:List V} {ds:List PyData}:cI K H a xs->rf K H xs ds->Rep K H (.ref a) (.list ds)
inductive rf (K:U9) (H:Hp):List V->List PyData->Prop
 | nil:rf K H [] []
 | cons {x:V} {xs:List V} {d:PyData} {ds:List PyData}:Rep K H x d->rf K H xs ds->rf K H (x::xs) (d::ds)
end
section
variable {X:Cx}{pins:List (Addr×Obj)}{Z:St}{H:Hp}{s:Shared}
mutual
theorem Rep.reads(I:bc X pins Z H s):∀{x:V} {d:PyData} {u:Value},Rep X.K H x d->RelV x u->∃as,Reads s.heap u d as
 | _,_,_,.non,r=>by cases r;exact⟨_,.none⟩
 | _,_,_,.bl b,r=>by cases r;exact⟨_,.bool b⟩
 | _,_,_,.int i,r=>by obtain⟨t,rfl⟩:=r;exact⟨_,.int i t⟩
 | _,_,_,.str x,r=>by obtain⟨t,rfl⟩:=r;exact⟨_,.str x t⟩
 | _,_,_,.tup h hl,r=>by
  cases r;obtain⟨its,vs,⟨o,e,c,n,dd⟩,_⟩:=I.tuple h;obtain⟨as,ra⟩:=rf.reads I hl vs;exact⟨_,.tuple e c dd (by simpa using ra)⟩
 | _,_,_,.lst h hl,r=>by
  cases r;obtain⟨its,vs,pl,_⟩:=I.list h;obtain⟨o,e,c,n,dd⟩:=pl.isList;obtain⟨as,ra⟩:=rf.reads I hl vs;exact⟨_,.list e c dd (by simpa using ra)⟩
theorem rf.reads(I:bc X pins Z H s):∀{xs:List V} {ds:List PyData} {us:ag},rf X.K H xs ds->cH xs us->∃as,ReadsAll s.heap us ds as
 | _,_,_,.nil,.nil=>⟨_,.nil⟩
 | _,_,_,.cons h hl,.cons r rs=>by
  obtain⟨as,ra⟩:=Rep.reads I h r;obtain⟨bs,rb⟩:=rf.reads I hl rs;exact⟨_,.cons ra rb⟩
end
end
def zJ(K:U9)(neg:Bool):R2:=λx y H Q=>∃d e,Rep K H x d/\Rep K H y e/\d.canLay0=true/\e.canLay0=true/\min d.depth e.depth<=60 ∧
 Q (.bl (if neg then !PyData.eqv d e else PyData.eqv d e)) H
section
variable {X:Cx}
theorem wN(hu:X.A.units+64<cLine):qF X (compareOp .Eq) (zJ X.K false):=by
 intro pins s Z H x y v u Q I rx ry h;obtain⟨d,e,h1,h2,h3,h4,h5,q⟩:=h;obtain⟨as,ra⟩:=h1.reads I rx;obtain⟨bs,rb⟩:=h2.reads I ry;exact SeqAt.compareEq_reads ra rb h3 h4 (by lia) ⟨.bl _,H,I,rfl,q⟩
theorem Ea(hu:X.A.units+64<cLine):qF X (compareOp .NotEq) (zJ X.K true):=by
 intro pins s Z H x y v u Q I rx ry h;obtain⟨d,e,h1,h2,h3,h4,h5,q⟩:=h;obtain⟨as,ra⟩:=h1.reads I rx;obtain⟨bs,rb⟩:=h2.reads I ry;exact SeqAt.compareNe_reads ra rb h3 h4 (by lia) ⟨.bl _,H,I,rfl,q⟩
open Classical in
noncomputable def eqR (h:Heap) (d:PyData) (u:Value):Bool:=if z:∃e as,Reads h u e as/\e.canLay0=true then PyData.eqv z.choose d else false
theorem Ff{h:Heap}{d e:PyData}{u:Value}{as:ld}(r:Reads h u e as)(c:e.canLay0=true):eqR h d u=PyData.eqv e d:=by
 have z:∃e as,Reads h u e as/\e.canLay0=true:=⟨e,as,r,c⟩
 unfold eqR;rw[dif_pos z];obtain⟨as',r',c'⟩:=z.choose_spec;rw[SeqAt.Reads.unique _ _ _ _ _ c' r' r]
theorem rC{h:Heap}{d:PyData}:∀{us:ag} {es:List PyData} {as:ld},ReadsAll h us es as->PyData.canLayAll0 es=true->us.any (eqR h d)=es.any λe=>PyData.eqv e d
 | _,_,_,.nil,_=>rfl
 | _,_,_,.cons r rs,c=>by
  have c':(PyData.canLay0 _&&PyData.canLayAll0 _)=true:=c;rw[ao] at c';rw[f9,f9,Ff r c'.1,rC rs c'.2]
theorem qt{A:Around}{s:Shared}{d:PyData}{x:Value}{bs:ld}(rx:Reads s.heap x d bs)(cx:d.canLay0=true)(hu:A.units+d.depth<cLine):
  ∀{us:ag} {es:List PyData} {as:ld},ReadsAll s.heap us es as->PyData.canLayAll0 es=true->∀u∈us,SeqAt.EqAt A s u x (eqR s.heap d u)
 | _,_,_,.nil,_=>λu hu=>nomatch hu
 | _,_,_,.cons r rs,c=>λu hm=>by
  have c':(PyData.canLay0 _&&PyData.canLayAll0 _)=true:=c;rw[ao] at c';rcases aL.mp hm with rfl | hm
  .rw[Ff r c'.1];exact SeqAt.eqAt_reads _ _ A s _ _ _ _ r rx c'.1 cx (by lia)
  .exact qt rx cx hu rs c'.2 u hm
def EN(K:U9)(neg:Bool):R2:=λx y H Q=>∃d es p xs,Rep K H x d/\y=.ref p/\(cI K H p xs\/cj K H p xs)/\rf K H xs es/\d.canLay0=true/\PyData.canLayAll0 es=true/\d.depth<=60 ∧
 Q (.bl (if neg then !(es.any λe=>PyData.eqv e d) else es.any λe=>PyData.eqv e d)) H
theorem Ec(hu:X.A.units+64<cLine):qF X (compareOp .In) (EN X.K false):=by
 intro pins s Z H x y v u Q I rx ry h;obtain⟨d,es,p,xs,h1,rfl,hq,h2,h3,h4,h5,q⟩:=h;cases ry;obtain⟨as,ra⟩:=h1.reads I rx;rcases hq with hq | hq
 .obtain⟨its,r,pl,hz⟩:=I.list hq;obtain⟨bs,rb⟩:=h2.reads I r;refine SeqAt.in_listAt (eqR s.heap d) pl.isList (λz hz=>qt (A:=X.A.in1) ra h3 (by show X.A.units+1+d.depth<cLine;lia) rb h4 z (by simpa using hz)) ⟨.bl _,H,I,rfl,?_⟩;rw[show its.toArray.any (eqR s.heap d)=its.any (eqR s.heap d) by simp,rC rb h4];exact q
 .obtain⟨its,r,pl,hz⟩:=I.tuple hq;obtain⟨bs,rb⟩:=h2.reads I r;refine SeqAt.in_tupleAt (eqR s.heap d) pl (λz hz=>qt (A:=X.A.in1) ra h3 (by show X.A.units+1+d.depth<cLine;lia) rb h4 z (by simpa using hz)) ⟨.bl _,H,I,rfl,?_⟩;rw[show its.toArray.any (eqR s.heap d)=its.any (eqR s.heap d) by simp,rC rb h4];exact q
theorem CA(hu:X.A.units+64<cLine):qF X (compareOp .NotIn) (EN X.K true):=by
 intro pins s Z H x y v u Q I rx ry h;obtain⟨d,es,p,xs,h1,rfl,hq,h2,h3,h4,h5,q⟩:=h;cases ry;obtain⟨as,ra⟩:=h1.reads I rx;rcases hq with hq | hq
 .obtain⟨its,r,pl,hz⟩:=I.list hq;obtain⟨bs,rb⟩:=h2.reads I r;refine SeqAt.notIn_listAt (eqR s.heap d) pl.isList (λz hz=>qt (A:=X.A.in1) ra h3 (by show X.A.units+1+d.depth<cLine;lia) rb h4 z (by simpa using hz)) ⟨.bl _,H,I,rfl,?_⟩;rw[show its.toArray.any (eqR s.heap d)=its.any (eqR s.heap d) by simp,rC rb h4];exact q
 .obtain⟨its,r,pl,hz⟩:=I.tuple hq;obtain⟨bs,rb⟩:=h2.reads I r;refine SeqAt.notIn_tupleAt (eqR s.heap d) pl (λz hz=>qt (A:=X.A.in1) ra h3 (by show X.A.units+1+d.depth<cLine;lia) rb h4 z (by simpa using hz)) ⟨.bl _,H,I,rfl,?_⟩;rw[show its.toArray.any (eqR s.heap d)=its.any (eqR s.heap d) by simp,rC rb h4];exact q
def HF(K:U9):List V->Hp->VK->Prop:=λxs H Q=>∃x T t b,xs=[x,.ty T]/\qT K H x t/\W.kitOne K t (.type T)=some b/\Q (.bl b) H
theorem mn:iY X (.builtin "isinstance") (HF X.K):=by
 intro pins s Z H xs us Q I r h;obtain⟨x,T,t,b,rfl,ty,e,q⟩:=h;obtain⟨u,w,rfl,rx,rw'⟩:=cH.two r;cases (show w=Value.type T from rw');exact CS I rx ty e λtk=>⟨.bl b,H,I.tok tk,rfl,q⟩
def Ab(r r' r2:R2)(ta tb tc td:TE):TE:=λZ H Q=>ta Z H λx H1=>tb Z H1 λy H2=>r x y H2 λz H3=>∃k,z=.bl k ∧
 (if k=true then tc Z H3 λw' H4=>r' y w' H4 λz2 H5=>∃k2,z2=.bl k2/\(if k2=true then td Z H5 λe H6=>r2 w' e H6 Q else Q (.bl false) H5) else Q (.bl false) H3)
def gK(lo:Int)(n:Nat):gs:=(List.range n).map λ(i:Nat)=>lo+(i:Int)
theorem A5:∀{xs:List V} {us:ag},xs.length=us.length->(∀(j:Nat) x u,xs[j]? = some x->us[j]? = some u->RelV x u)->cH xs us
 | [],[],_,_=>.nil
 | [],_::_,h,_=>by simp at h
 | _::_,[],h,_=>by simp at h
 | x::xs,u::us,h,f=>.cons (f 0 x u rfl rfl) (A5 (by simpa using h) λj a b ha hb=>f (j+1) a b (by simpa using ha) (by simpa using hb))
theorem zk{lo:Int}{n:Nat}{acc:Array Value}(h:ItemsOf (λi v=>∃t,v=.int (lo+i*1) t) acc n):cH ((gK lo n).map V.int) acc.toList:=by
 refine A5 (by simp[gK,h.1]) λj x u hx hu=>?_;obtain⟨t,rfl⟩:=h.2 j u (by simpa using hu);have hj:j<n:=by
  have:=(aH.mp hx).1;simpa [gK] using this
 have e:((gK lo n).map V.int)[j]? = some (.int (lo+(j:Int))):=by simp[gK,hj]
 rw[e] at hx;cases hx;exact⟨t,by simp⟩
theorem vf:iY X (.type "range") (λxs H Q=>∃i j:Int,xs=[.int i,.int j]/\∀p,H p=none->Q (.ref p) (upd H p (.rng i j))):=by
 intro pins s Z H xs us Q I r h;obtain⟨i,j,rfl,q⟩:=h;obtain⟨u,u',rfl,⟨t,rfl⟩,t',rfl⟩:=cH.two r;exact call_range_2 ⟨.ref s.heap.objs.size,_,I.laid (λb o e=>aB _ e) (aI _) (show cc X.prog X.w _ _ _ (.rng i j) from ⟨_,_,_,aP _ rfl⟩),rfl,q _ (I.hok.fresh (aI _))⟩
theorem qB (hc:X.calm=true):iY X (.type "list") (λxs H Q=>∃p lo hi,xs=[.ref p]/\H p=some (.rng lo hi)/\(-(2 ^ 30)<=lo/\lo<2 ^ 30/\-(2 ^ 30)<=hi/\hi<2 ^ 30/\(hi-lo).toNat<=1000) ∧
  ∀l,H l=none->Q (.ref l) (upd H l (.lst ((gK lo (hi-lo).toNat).map V.int)))):=by
 intro pins s Z H xs us Q I r h;obtain⟨p,lo,hi,rfl,hp,⟨b1,b2,b3,b4,b5⟩,q⟩:=h;obtain⟨u,rfl,rx⟩:=Th r;cases rx;obtain⟨t,u,v,e⟩:=(show cc X.prog X.w H s.heap p (.rng lo hi) from I.hok p _ hp)
 have hn:Builtin.Range.rangeSize lo hi 1=(((hi-lo).toNat:Nat):Int):=by rw[rangeSize_one];split<;>lia
 refine call_list_range (n:=(hi-lo).toNat) (I.ok.hd hc) (show IsRange s.heap p lo hi 1 t u v from e) (small_one (by lia) (by lia) (by lia) (by lia)) hn (by lia) λh' tk acc' c' kp e' hit=>?_;have hv:=zk hit;have hz:((gK lo (hi-lo).toNat).map V.int).length<=sizeLine:=by
  rw[aA,gK,aA,dJ];exact bT (bS b5)
 exact⟨.ref s.heap.objs.size,_,I.laid kp (aI _) (show cc X.prog X.w _ h' _ (.lst _) from ⟨hz,acc'.toList,c',hv,by simpa using e'⟩),rfl,q _ (I.hok.fresh (aI _))⟩
end
structure Fn (K:U9) (mg:Str->bt) (x:Str) (st:Stmt) (ps:List Str):Prop where
 ex:∃ f fd,wc K x x st f fd/\mg x=some (.ref f)/\Binds K fd ps []
structure fU (P:Program) (w:World) (K:U9) (mg:Str->bt) (base:Heap) (k:Nat) (x:Str) (st:Stmt) (ps:List Str) (sp:Sp):Prop where
 ex:∃ f fd,wc K x x st f fd/\mg x=some (.ref f)/\Binds K fd ps []/\nw P w K mg base we k f fd ps sp
theorem Fn.mk'{P:Program}{w:World}{K:U9}{mg:Str->bt}{base:Heap}{k:Nat}{x:Str}{st:Stmt}{ps:List Str}{sp:Sp}(E:Fn K mg x st ps)
  (h:∀f fd,wc K x x st f fd->nw P w K mg base we k f fd ps sp):fU P w K mg base k x st ps sp:=by
 obtain⟨f,fd,F,m,b⟩:=E.ex;exact⟨f,fd,F,m,b,h f fd F⟩
theorem bJ.new{H H2:Hp}{l:Addr}{o:HO}(s:bJ H H2)(h:H l=none):bJ H (upd H2 l o):=λb u e=>by rw[aO (bI e h)];exact s b u e
theorem gm{α β:Type}{R S:α->β->Prop}:∀{xs:List α} {ys:List β},Paired R xs ys->(∀a b,R a b->S a b)->Paired S xs ys
 | _,_,.nil,_=>.nil
 | _,_,.cons r t,f=>.cons (f _ _ r) (gm t f)
theorem gp{α β:Type}{R:α->β->Prop}:∀{xs:List α} {ys:List β} {i:Nat} {x:α},Paired R xs ys->xs[i]? = some x->∃y,ys[i]? = some y/\R x y
 | _,_,_,_,.nil,e=>by simp at e
 | _,_,0,_,.cons r _,e=>by simp at e;subst e;exact⟨_,rfl,r⟩
 | _,_,i+1,x,.cons _ t,e=>by
  obtain⟨y,h1,h2⟩:=gp (i:=i) (x:=x) t (by simpa using e);exact⟨y,by simpa using h1,h2⟩
section
variable {Z:St}{H:Hp}{Q:VK}{D:Ends}
theorem JU{v:V}:yr 0 (some v::Z) H Q=Q v H:=propext ⟨(by rintro ⟨_,e,h⟩;cases e;exact h),λh=>⟨v,rfl,h⟩⟩
theorem Cz{i:Nat}{x:Option V}:yr (i+1) (x::Z) H Q=yr i Z H Q:=rfl
theorem NW{v:V}:tC v Z H Q=Q v H:=rfl
theorem LQ{r:R2}{ta tb:TE}:LC r ta tb Z H Q=ta Z H λx H1=>tb Z H1 λy H2=>r x y H2 Q:=rfl
theorem LJ{r:V->Hp->VK->Prop}{ta:TE}:N0 r ta Z H Q=ta Z H λx H1=>r x H1 Q:=rfl
theorem Mm{g:Int->Int->V}{i j:Int}:JD g (.int i) (.int j) H Q=Q (g i j) H:=propext ⟨(by rintro ⟨_,_,e,e',h⟩;cases e;cases e';exact h),λh=>⟨i,j,rfl,rfl,h⟩⟩
theorem Nk{C:Int->Int->Prop}{g:Int->Int->V}{i j:Int}:rI C g (.int i) (.int j) H Q=(C i j/\Q (g i j) H):=propext ⟨(by rintro ⟨_,_,e,e',h⟩;cases e;cases e';exact h),λh=>⟨i,j,rfl,rfl,h⟩⟩
theorem Nj{g:Int->V}{i:Int}:rU g (.int i) H Q=Q (g i) H:=propext ⟨(by rintro ⟨_,e,h⟩;cases e;exact h),λh=>⟨i,rfl,h⟩⟩
theorem L7{i j:Int}:Ma (.int i) (.int j) H Q=Q (.bl (decide (i=j))) H:=propext ⟨(by rintro ⟨_,h⟩;simpa using h),λh=>⟨rfl,by simpa using h⟩⟩
theorem LS{i j:Int}:M9 (.int i) (.int j) H Q=Q (.bl (!decide (i=j))) H:=propext ⟨(by rintro ⟨_,h⟩;simpa using h),λh=>⟨rfl,by simpa using h⟩⟩
theorem L6{i j:Str}:Ma (.str i) (.str j) H Q=Q (.bl (decide (i=j))) H:=propext ⟨(by rintro ⟨_,h⟩;simpa using h),λh=>⟨rfl,by simpa using h⟩⟩
theorem LR{i j:Str}:M9 (.str i) (.str j) H Q=Q (.bl (!decide (i=j))) H:=propext ⟨(by rintro ⟨_,h⟩;simpa using h),λh=>⟨rfl,by simpa using h⟩⟩
theorem LU{i j:Bool}:M9 (.bl i) (.bl j) H Q=Q (.bl (!decide (i=j))) H:=propext ⟨(by rintro ⟨_,h⟩;simpa using h),λh=>⟨rfl,by simpa using h⟩⟩
theorem L5{b:Bool}{q:Bool->Prop}:(∃k,V.bl b=.bl k/\q k)=q b:=propext ⟨(by rintro ⟨_,e,h⟩;cases e;exact h),λh=>⟨b,rfl,h⟩⟩
theorem L4{b:Int}{q:Int->Prop}:(∃k,V.int b=.int k/\q k)=q b:=propext ⟨(by rintro ⟨_,e,h⟩;cases e;exact h),λh=>⟨b,rfl,h⟩⟩
theorem Je{i j:Str}{q:Str->Str->Prop}:(∃a b,V.str i=.str a/\V.str j=.str b/\q a b)=q i j:=
 propext ⟨(by rintro ⟨_,_,e,e',h⟩;cases e;cases e';exact h),λh=>⟨i,j,rfl,rfl,h⟩⟩
theorem NX{CX:Cp}{P:Program}{w:World}{K:U9}{mg:Str->bt}{base:Heap}{N:List Str}{qual:Str}{scope:Scope}{f:Addr}{cd:Value}{A:Around}{outer:List Env}{s:Shared}{H:Hp}{E:XK}:(kE CX P w K mg base N qual scope f cd A outer s H E).K=K:=rfl
theorem Ii{i:Nat}{te:TE}{ti:NP}:Ms i te ti D Z H=yr i Z H λx _=>te Z H λy H1=>ti x y H1 λz H2=>D.nx (Z.set i (some z)) H2:=rfl
theorem L3{a:Addr}{q:Addr->Prop}:(∃b,V.ref a=.ref b/\q b)=q a:=propext ⟨(by rintro ⟨_,e,h⟩;cases e;exact h),λh=>⟨a,rfl,h⟩⟩
theorem J3{α:Type}{a:Addr}{q:Addr->α->Prop}:(∃b y,V.ref a=.ref b/\q b y)=∃y,q a y:=propext ⟨(by rintro ⟨_,y,e,h⟩;cases e;exact⟨y,h⟩),(by rintro ⟨y,h⟩;exact ⟨a,y,rfl,h⟩)⟩
theorem J9{i:Int}{q:Int->Prop}:(∃j,[V.int i]=[.int j]/\q j)=q i:=propext ⟨(by rintro ⟨_,e,h⟩;cases e;exact h),λh=>⟨i,rfl,h⟩⟩
theorem J8{α:Type}{i:Addr}{q:Addr->α->Prop}:(∃j y,[V.ref i]=[.ref j]/\q j y)=∃y,q i y:=propext ⟨(by rintro ⟨_,y,e,h⟩;cases e;exact⟨y,h⟩),(by rintro ⟨y,h⟩;exact ⟨i,y,rfl,h⟩)⟩
theorem J5{α β:Type}{i:Addr}{q:Addr->α->β->Prop}:(∃j y z,[V.ref i]=[.ref j]/\q j y z)=∃y z,q i y z:=propext ⟨(by rintro ⟨_,y,z,e,h⟩;cases e;exact⟨y,z,h⟩),(by rintro ⟨y,z,h⟩;exact ⟨i,y,z,rfl,h⟩)⟩
theorem J6{i j:Int}{q:Int->Int->Prop}:(∃a b,[V.int i,V.int j]=[.int a,.int b]/\q a b)=q i j:=propext ⟨(by rintro ⟨_,_,e,h⟩;cases e;exact h),λh=>⟨i,j,rfl,h⟩⟩
theorem JY{b:Bool}{q:Int->Prop}{r:Bool->Prop}:((∃i,[V.bl b]=[.int i]/\q i)\/∃k,[V.bl b]=[.bl k]/\r k)=r b:=
 propext ⟨λh=>by rcases h with ⟨_,e,_⟩ | ⟨_,e,h⟩<;>cases e;exact h,λh=>.inr ⟨b,rfl,h⟩⟩
theorem LW{z:Str}{i:Int}:Jw (.str z) (.int i) H Q=(z.length<=sizeLine/\∃c,oR z.cps.toList i=some c/\Q (.str ⟨#[c]⟩) H):=
 propext ⟨(by rintro ⟨_,_,c,e,e',h1,h2,h3⟩;cases e;cases e';exact⟨h1,c,h2,h3⟩),(by rintro ⟨h1,c,h2,h3⟩;exact ⟨z,i,c,rfl,rfl,h1,h2,h3⟩)⟩
theorem LX{K:U9}{p:Addr}{i:Int}:HE K (.ref p) (.int i) H Q=∃xs v,cI K H p xs/\oR xs i=some v/\Q v H:=
 propext ⟨(by rintro ⟨_,xs,_,v,e,e',h⟩;cases e;cases e';exact⟨xs,v,h⟩),(by rintro ⟨xs,v,h⟩;exact ⟨p,xs,i,v,rfl,rfl,h⟩)⟩
theorem LV{K:U9}{p:Addr}{i:Int}:HD K (.ref p) (.int i) H Q=∃xs v,cj K H p xs/\oR xs i=some v/\Q v H:=
 propext ⟨(by rintro ⟨_,xs,_,v,e,e',h⟩;cases e;cases e';exact⟨xs,v,h⟩),(by rintro ⟨xs,v,h⟩;exact ⟨p,xs,i,v,rfl,rfl,h⟩)⟩
theorem Lb{l:Addr}{y:V}:wK (.ref l) [y] H Q=∃xs,H l=some (.lst xs)/\xs.length<sizeLine/\Q .non (upd H l (.lst (xs++[y]))):=
 propext ⟨(by rintro ⟨_,xs,_,e,e',h⟩;cases e;cases e';exact⟨xs,h⟩),(by rintro ⟨xs,h⟩;exact ⟨l,xs,y,rfl,rfl,h⟩)⟩
theorem LP{l:Addr}:Lz (.ref l) [] H Q=∃xs y,H l=some (.lst xs)/\xs[xs.length - 1]? = some y/\Q y (upd H l (.lst xs.dropLast)):=
 propext ⟨(by rintro ⟨_,xs,y,e,_,h⟩;cases e;exact⟨xs,y,h⟩),(by rintro ⟨xs,y,h⟩;exact ⟨l,xs,y,rfl,rfl,h⟩)⟩
theorem vQ{α β:Type}(f:α->β):∀(l:List α) (k:Nat),(l.map f).eraseIdx k=(l.eraseIdx k).map f
 | [],_=>rfl
 | _::_,0=>rfl
 | x::l,k+1=>by
  show f x::(l.map f).eraseIdx k=f x::(l.eraseIdx k).map f;rw[vQ f l k]
theorem HL{l:Addr}{xs:List V}{a:Int}(h:H l=some (.lst xs))(h0:0<xs.length)(hs:xs.length<=1000)(q:∀k y,k<xs.length->xs[k]? = some y->Q y (upd H l (.lst (xs.eraseIdx k)))):EL (.ref l) [.int (a % (xs.length:Int))] H Q:=by
 have h1:0<=a % (xs.length:Int):=i5 _ (by lia);have h2:a % (xs.length:Int)<xs.length:=gO _ (by lia);have h3:(a % (xs.length:Int)).toNat<xs.length:=by lia
 exact⟨l,xs,_,(a % (xs.length:Int)).toNat,xs[(a % (xs.length:Int)).toNat],rfl,rfl,h,by lia,by lia,(wV (by unfold xv;rw[U2 h1,U2 h2])).1,aE h3,q _ _ h3 (aE h3)⟩
theorem lm{α:Type}{f:α->V}{l:List α}{k:Nat}{y:V}(h:(l.map f)[k]? = some y):∃x,l[k]? = some x/\y=f x:=by
 rw[aR] at h;cases e:l[k]? with
 | none=>rw[e] at h;cases h
 | some x=>rw[e] at h;exact⟨x,rfl,(av h).symm⟩
theorem gi {K:U9} {l:Addr} {xs:List V} (h:H l=some (.lst xs)):GM K "list" (.ref l) H:=.inl ⟨rfl,xs,cI.of h⟩
theorem DC{t:TE}{q:Bool->Hp->Prop}:A9 t Z H q=t Z H λx H'=>∃k,x=.bl k/\q k H':=rfl
theorem LK{t:TE}{q:Bool->Hp->Prop}:tB t Z H q=t Z H λx H'=>∃k,x=.bl k/\q k H':=rfl
theorem w_and{t u:TT}{q:Bool->Hp->Prop}:Ls t u Z H q=t Z H λc H1=>if c=true then u Z H1 q else q false H1:=rfl
theorem w_or{t u:TT}{q:Bool->Hp->Prop}:N3 t u Z H q=t Z H λc H1=>if c=true then q true H1 else u Z H1 q:=rfl
theorem w_not{t:TT}{q:Bool->Hp->Prop}:Ll t Z H q=t Z H λc H1=>q (!c) H1:=rfl
theorem D4{ta tb:TE}:Iw ta tb Z H Q=ta Z H λx H1=>∃c,x=.bl c/\if c=true then tb Z H1 Q else Q (.bl false) H1:=rfl
theorem I9{ta tb:TE}:Lk ta tb Z H Q=ta Z H λx H1=>∃c,x=.bl c/\if c=true then Q (.bl true) H1 else tb Z H1 Q:=rfl
theorem DJ{ta:TE}:Im ta Z H Q=ta Z H λx H1=>∃c,x=.bl c/\Q (.bl (!c)) H1:=rfl
theorem LY{t:TT}{ta tb:TE}:N4 t ta tb Z H Q=t Z H λc H1=>if c=true then ta Z H1 Q else tb Z H1 Q:=rfl
theorem IY{t u:TS}:Lg t u D Z H=t { nx:=u D,rt:=D.rt,bk:=D.bk,ct:=D.ct } Z H:=rfl
theorem w_next:Io D Z H=D.nx Z H:=rfl
theorem Ig:Dm D Z H=D.bk Z H:=rfl
theorem D0:Lq D Z H=D.ct Z H:=rfl
theorem DX{te:TE}:Ir te D Z H=te Z H λ_ H1=>D.nx Z H1:=rfl
theorem IZ{te:TE}:Lj te D Z H=te Z H D.rt:=rfl
theorem DG:Li D Z H=D.rt .non H:=rfl
theorem Ic{c:TT}{t u:TS}:Ln c t u D Z H=c Z H λb H1=>if b=true then t D Z H1 else u D Z H1:=rfl
theorem Ij{te:TE}{g:TG}:yx te g D Z H=te Z H λx H1=>g x Z H1 D.nx:=rfl
theorem AS{i:Nat}{v:V}{q:St->Hp->Prop}:pw i v Z H q=q (Z.set i (some v)) H:=rfl
theorem DF{v:V}{x:Option V}:List.set (x::Z) 0 (some v)=some v::Z:=rfl
theorem DD{i:Nat}{v:V}{x:Option V}:List.set (x::Z) (i+1) (some v)=x::List.set Z i (some v):=rfl
theorem Ia{q:List V->Hp->Prop}:Jk Z H q=q [] H:=rfl
theorem D3{ta:TE}{tr:TA}{q:List V->Hp->Prop}:oF ta tr Z H q=ta Z H λx H1=>tr Z H1 λxs H2=>q (x::xs) H2:=rfl
theorem L9{r:List V->Hp->VK->Prop}{t:TA}:Mr r t Z H Q=t Z H λvs H1=>r vs H1 Q:=rfl
theorem IW{t:TA}:Le t Z H Q=t Z H λxs H1=>xs.length<=sizeLine/\∀p,H1 p=none->Q (.ref p) (upd H1 p (.tup xs)):=rfl
theorem Ib{t:TA}:Lm t Z H Q=t Z H λxs H1=>xs.length<=sizeLine/\∀p,H1 p=none->Q (.ref p) (upd H1 p (.lst xs)):=rfl
theorem w_call{sp:Sp}{dvs:List V}{E:XK}{t:TA}:tH sp dvs E t Z H Q=t Z H λvs H1=>sp (vs++dvs) H1 Q E:=rfl
theorem La{K:U9}{T:String}{r:V->List V->Hp->VK->Prop}{to:TE}{t:TA}:M8 K T r to t Z H Q=to Z H λx H1=>GM K T x H1/\t Z H1 λxs H2=>r x xs H2 Q:=rfl
theorem Ih{K:U9}{T:String}{r:V->List V->Hp->VK->Prop}{to:TE}:Lr K T r to Z H Q=to Z H λx H1=>GM K T x H1/\r x [] H1 Q:=rfl
def sS(J:It)(g:TG)(tb:TS)(D:Ends)(Z:St)(H1:Hp):Prop:=∃W:Nat->Nat->St->Hp->Prop,(∃m,W 0 m Z H1)/\∀i m Z H,W i m Z H →
 (J.stop i H/\D.nx Z H)\/(J.go i H/\∃N:St->Hp->Prop,(∀Z' H',N Z' H'->∃m',m'<m/\W (i+1) m' Z' H')/\∀x H',J.yld i H x H'->g x Z H' λZ2 H2=>tb { D with nx:=N,ct:=N,bk:=D.nx } Z2 H2)
theorem DW{ta:TA}{g:TG}{tb:TS}:rK (v8 ta) g tb D Z H=ta Z H λvs H1=>∃j:Int,vs=[.int j]/\-(2 ^ 62)<=j/\j<2 ^ 62/\sS (B3 0 j.toNat) g tb D Z H1:=rfl
theorem DV{ta:TA}{g:TG}{tb:TS}:rK (FW ta) g tb D Z H=ta Z H λvs H1=>∃i j:Int,vs=[.int i,.int j]/\(-(2 ^ 62)<=i/\i<2 ^ 62/\-(2 ^ 62)<=j/\j<2 ^ 62)/\sS (B3 i (j-i).toNat) g tb D Z H1:=rfl
theorem DS{K:U9}{tl:TE}{g:TG}{tb:TS}:rK (FX K tl) g tb D Z H=tl Z H λx H1=>∃a,x=.ref a/\(∃xs,cI K H1 a xs)/\sS (IT K a) g tb D Z H1:=rfl
theorem DQ{K:U9}{tl:TE}{g:TG}{tb:TS}:rK (Kb K tl) g tb D Z H=tl Z H λx H1=>∃a,x=.ref a/\(∃xs,cj K H1 a xs)/\sS (M1 K a) g tb D Z H1:=rfl
theorem DO{K:U9}{n:Nat}{t:GN}{v:V}{q:St->Hp->Prop}:MQ K n t v Z H q=∃a xs,v=.ref a/\cj K H a xs/\xs.length=n/\t xs Z H q:=rfl
theorem J0{q:St->Hp->Prop}:MS [] Z H q=q Z H:=propext ⟨λh=>h.2,λh=>⟨rfl,h⟩⟩
theorem GY{t:TG}{u:GN}{v:V}{r:List V}{q:St->Hp->Prop}:JK t u (v::r) Z H q=t v Z H λZ' H'=>u r Z' H' q:=propext ⟨(by rintro ⟨_,_,e,h⟩;cases e;exact h),λh=>⟨v,r,rfl,h⟩⟩
theorem wm{r r' r2:R2}{ta tb tc td:TE}:Ab r r' r2 ta tb tc td Z H Q=ta Z H λx H1=>tb Z H1 λy H2=>r x y H2 λz H3=>∃k,z=.bl k ∧
 (if k=true then tc Z H3 λw' H4=>r' y w' H4 λz2 H5=>∃k2,z2=.bl k2/\(if k2=true then td Z H5 λe H6=>r2 w' e H6 Q else Q (.bl false) H5) else Q (.bl false) H3):=rfl
theorem A4{r r':R2}{ta tb tc:TE}:Dl r r' ta tb tc Z H Q=ta Z H λx H1=>tb Z H1 λy H2=>r x y H2 λz H3=>∃k,z=.bl k ∧
 (if k=true then tc Z H3 λw' H4=>r' y w' H4 Q else Q (.bl false) H3):=rfl
end
theorem NZ{P:ag->Prop}(h:∀a:Value,P [a]):∀us:ag,us.length=1->P us
 | [a],_=>h a
theorem Mn{P:ag->Prop}{n:Nat}(h:∀(a:Value) (r:ag),r.length=n->P (a::r)):∀us:ag,us.length=n+1->P us
 | a::r,e=>h a r (Nat.succ.inj e)
theorem Mo{P:ag->Prop}(h:∀a b:Value,P [a,b]):∀us:ag,us.length=2->P us:=Mn λa=>NZ λb=>h a b
theorem NY{P:ag->Prop}(h:∀a b c:Value,P [a,b,c]):∀us:ag,us.length=3->P us:=Mn λa=>Mo λb c=>h a b c
theorem Nl{P:ag->Prop}(h:∀a b c d:Value,P [a,b,c,d]):∀us:ag,us.length=4->P us:=Mn λa=>NY λb c d=>h a b c d
end L2
abbrev Ua(a:PySem.Addr):Option L2.V:=some (.ref a)
abbrev Ub(a:Int):Option L2.V:=some (.int a)
abbrev Uc(a:PySem.Str):Option L2.V:=some (.str a)
abbrev Ud:List PySem.Str:=["maze"]
abbrev Ue:List PySem.Str:=["thing"]
abbrev Ug:List PySem.Str:=["bows"]
abbrev Uh:List PySem.Str:=["bows","most_left"]
abbrev Ui:List PySem.Str:=["_law_side","_law_digits_here"]
abbrev Uj:List PySem.Str:=["_law_script"]
abbrev Uk:List PySem.Str:=["inner","outer"]
abbrev Ul:List PySem.Str:=["bows","columns"]
abbrev Um:List PySem.Str:=["line","sign"]
abbrev Uo:List PySem.Str:=["_law_script","_law_k"]
abbrev Up:List PySem.Str:=["_law_seed","_law_k"]
abbrev Uq:List PySem.Str:=["_law_open_ends","_law_found","_law_letter","_law_row"]
abbrev Ur:List PySem.Str:=["grid","bows","columns"]
abbrev Us:List PySem.Str:=["grid","rings","lefts","rights"]
abbrev Ut:List PySem.Str:=["_law_cell","_law_base"]
abbrev Uu:List PySem.Str:=["_law_cell","_law_room"]
abbrev Uv:List PySem.Str:=["_law_open_ends","_law_letter"]
abbrev Uw:List PySem.Str:=["_law_open_ends","_law_found","_law_row"]
abbrev Ux:List PySem.Str:=["_law_open_ends","_law_row","_law_digit"]
abbrev Uy:List PySem.Str:=["_law_side","_law_found"]
abbrev Uz:List PySem.Str:=["_law_e","_law_due"]
abbrev Va:List PySem.Str:=["_law_maze","_law_bows_here"]
namespace Rm
def dl(b:Bool):Int:=if b then 1 else -1
def D(bs:List Bool)(i:Nat):Int:=((bs.take i).map dl).sum
structure M0 (bs:List Bool) (k m:Nat):Prop where
 lt:k<m
 ml:m<bs.length
 op:bs[k]? = some true
 cl:bs[m]? = some false
 eq:D bs (m+1)=D bs k
 gt:∀ i,k<i->i<=m->D bs k<D bs i
end Rm
namespace L2
open PySem PySem.Spec PyProof.Rows
theorem wc.okS{P:Program}{w:World}{K:U9}{mg:Str->bt}{base:Heap}{x qual:Str}{st:Stmt}{f:Addr}{fd:FuncData}{N ps:List Str}{k:Nat}{sp:Sp}(F:wc K x qual st f fd)(S:be N ps (bB st))(len:∀vs H Q E,sp vs H Q E->vs.length=ps.length)
  (hbody:∀(cdv:Value) (A:Around) (outer:List Env) (s:Shared) (H:Hp) (vs:List V) (Q:VK) (E:XK),fj k (A.deeper (envOfC qual (bB st) s.heap.objs.size f cdv))->sp vs H Q E →
   ∃(Z:St) (t:TS),start N vs=Z/\GO (kE we P w K mg base N qual (bB st) f cdv A outer s H E).nox (iG st) t/\t { nx:=λ_ H'=>Q .non H',rt:=Q } Z H):nw P w K mg base we (k+1) f fd ps sp:=
 F.ok S len λcdv A outer s H vs Q E hr h=>by
  obtain⟨Z,t,e,h1,h2⟩:=hbody cdv A outer s H vs Q E hr h;exact⟨t,h1,by rw[e];exact h2⟩
theorem oI{A:Around}{k:Nat}(hr:fj k A):A.units+64<cLine:=hr.units
end L2
namespace Rm
open PySem L2
abbrev Bw:=Int×Int
def b6(H:Hp)(a:Addr)(p:Bw):Prop:=H a=some (.tup [.int p.1,.int p.2])
def BowsAt(H:Hp)(l:Addr)(ps:List Bw):Prop:=∃as:ld,H l=some (.lst (as.map V.ref))/\Paired (b6 H) as ps
theorem b6.same{H H':Hp}(s:bJ H H'){a:Addr}{p:Bw}(h:b6 H a p):b6 H' a p:=s _ _ h
theorem BowsAt.same{H H':Hp}(s:bJ H H'){l:Addr}{ps:List Bw}(h:BowsAt H l ps):BowsAt H' l ps:=
 let ⟨as,h1,h2⟩:=h
 ⟨as,s _ _ h1,gm h2 λ_ _ z=>z.same s⟩
theorem jH{H:Hp}{l f:Addr}{ps:List Bw}{xs ys:List V}(h:BowsAt H f ps)(hl:H l=some (.lst xs))(ne:f≠l):BowsAt (upd H l (.lst ys)) f ps:=by
 obtain⟨as,h1,h2⟩:=h;refine⟨as,by rw[aO ne];exact h1,gm h2 λa p z=>?_⟩;have z':H a=some (.tup [.int p.1,.int p.2]):=z;show upd _ _ _ a=_;rw[aO (En z' hl (by intro q;cases q))];exact z'
theorem vg{H:Hp}{l hd:Addr}{as:ld}{ps:List Bw}(h2:Paired (b6 H) as ps)(hn:H hd=none):BowsAt (upd H hd (.lst (as.map V.ref))) hd ps:=
 ⟨as,aG,gm h2 λa p z=>by
  have z':H a=some (.tup [.int p.1,.int p.2]):=z;show upd _ _ _ a=_;rw[aO (bI z' hn)];exact z'⟩
theorem BowsAt.get{H:Hp}{l:Addr}{ps:List Bw}(h:BowsAt H l ps):∃as:ld,H l=some (.lst (as.map V.ref))/\as.length=ps.length/\∀(i:Nat) x,(as.map V.ref)[i]? = some x->∃a p,x=.ref a/\ps[i]? = some p/\b6 H a p:=by
 obtain⟨as,h1,h2⟩:=h;refine⟨as,h1,bK h2,λi x hx=>?_⟩;rw[aR] at hx;cases e:as[i]? with
 | none=>rw[e] at hx;cases hx
 | some a=>
  rw[e] at hx;obtain⟨p,hp,ht⟩:=gp h2 e;exact⟨a,p,(av hx).symm,hp,ht⟩
def yb(p:Bw):PyData:=.tuple [.int p.1,.int p.2]
theorem w6{K:U9}{H:Hp}{a:Addr}{p:Bw}(h:b6 H a p):Rep K H (.ref a) (yb p):=.tup (cj.of h) (.cons (.int _) (.cons (.int _) .nil))
theorem w9(p:Bw):(yb p).canLay0=true:=rfl
theorem IF(p q:Bw):PyData.eqv (yb p) (yb q)=decide (p=q):=by
 obtain⟨a,b⟩:=p;obtain⟨c,d⟩:=q;simp only[yb,PyData.eqv,PyData.eqvAll,mJ,Bool.and_true];by_cases h1:a=c<;>by_cases h2:b=d<;>simp[h1,h2]
def ci(p q:Bw):Bool:=decide (p.1<q.1)&&(decide (q.1<p.2)&&decide (p.2<q.2))
def Dx(K:U9):Sp:=λvs H Q _=>∃(a:Addr) (ns:gs) (k:Nat),vs=[.ref a,.int k]/\cI K H a (ns.map V.int)/\Q (.int (ns.getD k 0)) H
def ND(a k:Int):Int:=(a % 10 ^ 20+17*k+k*k*k+5)*48271 % 1000003*69621 % 999983
def Dv:Sp:=λvs H Q _=>∃a k:Int,vs=[.int a,.int k]/\0<=k/\k<=1000/\Q (.int (ND a k)) H
def tL:Sp:=λvs H Q _=>∃l ps,vs=[.ref l]/\BowsAt H l ps/\((∀p∈ps,∀q∈ps,ci p q=false)->Q .non H) ∧
 ∀p∈ps,∀q∈ps,ci p q=true->∀t a b H',H t=none->bJ H H'->H' t=some (.tup [.ref a,.ref b])->b6 H' a p->b6 H' b q->Q (.ref t) H'
def vx (K:U9):Sp:=λvs H Q _=>∃(x:V) (t:Value) (b c:Bool),vs=[x]/\qT K H x t/\W.kitOne K t (.type "int")=some b/\W.kitOne K t (.type "bool")=some c/\Q (.bl (b&&!c)) H
def xA(K:U9):Sp:=λvs H Q _=>∃(a:Addr) (ns:gs),vs=[.ref a]/\cI K H a (ns.map V.int)/\ns.length<=63/\∀H',Q (.bl true) H'
end Rm
namespace L2
open PySem PySem.Spec PyProof.Rows
theorem m9:∀{ns:gs} {us:ag},cH (ns.map V.int) us->IntsAre us ns
 | [],_,.nil=>.nil
 | n::ns,_,.cons ⟨t,e⟩ r=>by subst e;exact .cons n t (m9 r)
theorem tE:∀{bs:List Bool} {us:ag},cH (bs.map V.bl) us->LSm.BoolsAre us bs
 | [],_,.nil=>.nil
 | b::bs,_,.cons r t=>by
  have e:_=Value.bool b:=r;subst e;exact .cons b (tE t)
theorem ut:∀{ts:List Str} {us:ag},cH (ts.map V.str) us->∃l:List (Str×Tok),us=strValues l/\l.map (·.1)=ts
 | [],_,.nil=>⟨[],rfl,rfl⟩
 | t::ts,_,.cons ⟨k,e⟩ r=>by
  subst e;obtain⟨l,e1,e2⟩:=ut r;exact⟨(t,k)::l,by rw[e1];rfl,by rw[af,e2]⟩
section
variable {X:Cx}
def Jt(K:U9):List V->Hp->VK->Prop:=λxs H Q=>∃(p:Addr) (ns:gs),xs=[.ref p]/\cI K H p (ns.map V.int)/\ns.length<64 ∧
 ∀(l:Addr) (ms:gs),H l=none->ms.Perm ns->ms.Pairwise (·<=·)->Q (.ref l) (upd H l (.lst (ms.map V.int)))
theorem re:iY X (.builtin "sorted") (Jt X.K):=by
 intro pins s Z H xs us Q I r h;obtain⟨p,ns,rfl,hq,hl,q⟩:=h;obtain⟨u,rfl,rx⟩:=Th r;cases rx;obtain⟨its,rv,pl,hz⟩:=I.list hq;have hi:=m9 rv;have hlen:its.length=ns.length:=by have:=rv.length;simpa using this.symm
 refine sorted_ints pl.isList hi (by lia) λout ms hm hp hs=>?_;obtain⟨c,hc⟩:=sortedAll_at s.heap its out;have hml:ms.length=ns.length:=hp.length_eq;exact⟨.ref (s.heap.objs.size+1),upd H (s.heap.objs.size+1) (.lst (ms.map V.int)),I.laid (t':=s.toks) (λb o e=>sortedAll_old e) (dZ _)
  (show cc X.prog X.w _ _ _ (.lst _) from ⟨by rw[aA,hml];exact bT (bS (by lia)),out.toList,c,pK hm,by simpa using hc⟩),rfl,q _ ms (I.hok.fresh (dZ _)) hp hs⟩
def Mx(K:U9)(f:List Bool->Bool):List V->Hp->VK->Prop:=λxs H Q=>∃(p:Addr) (bs:List Bool),xs=[.ref p]/\cI K H p (bs.map V.bl)/\Q (.bl (f bs)) H
theorem zj{s:Shared}{h':Heap}{o:Obj}(hk:∀b x,b∉[s.heap.objs.size]->(s.heap.push o).get? b=some x->h'.get? b=some x):∀b x,s.heap.get? b=some x->h'.get? b=some x:=
 λb x e=>hk b x (λhm=>by rw[eJ.mp hm] at e;exact de _ (aN e)) (aB _ e)
theorem ya (hc:X.calm=true):iY X (.builtin "all") (Mx X.K λbs=>bs.all id):=by
 intro pins s Z H xs us Q I r h;obtain⟨p,bs,rfl,hq,q⟩:=h;obtain⟨u,rfl,rx⟩:=Th r;cases rx;obtain⟨its,rv,pl,hz⟩:=I.list hq;have hb:=tE rv;have hl:=pl.isList;have hlt:p<s.heap.objs.size:=by obtain⟨_,e,_⟩:=hl;exact aN e
 refine call_all_walk (Tp hl ?_);refine⟨s.heap.objs.size,[s.heap.objs.size,p],[s.heap.objs.size],its.toArray.size,_,_,λi=>(bs[i]?).getD true,rfl,Walks.list (A:=X.A.in1) (I.ok.hd hc) _ p (a6 hlt) its.toArray,
  ⟨⟨_,aP _ rfl,rfl,rfl⟩,hl.push _⟩,λi v s' Q' E' hP hQ=>?_,λh' tk hk=>?_⟩
 .obtain⟨b,e,rfl⟩:=hb.get i v (by simpa using hP);simp only[e,gC] at hQ;exact Tf hQ
 .have e1:its.toArray.size=bs.length:=by have:=rv.length;simp at this;simp[this]
  rw[e1,LSm.range_all];exact⟨.bl _,H,I.kept (zj hk),rfl,q⟩
def rJoin(K:U9):V->List V->Hp->VK->Prop:=λx vs H Q=>∃(z:Str) (p:Addr) (ts:List Str),x=.str z/\vs=[.ref p]/\cI K H p (ts.map V.str)/\JoinOk z ts=true/\Q (.str (Txt.join z ts)) H
theorem BE:Kt X "str.join" (rJoin X.K):=by
 intro pins s Z H x xs v us Q I r rv h;obtain⟨z,p,ts,rfl,rfl,hq,ok,q⟩:=h;obtain⟨t,rfl⟩:=r;obtain⟨u,rfl,rx⟩:=Th rv;cases rx;obtain⟨its,rv',pl,hz⟩:=I.list hq;obtain⟨l,rfl,e⟩:=ut rv';exact SC.join pl.isList e ok λt' k=>⟨.str _,H,I.tok k,⟨t',rfl⟩,q⟩
end
mutual
inductive Dat (H:Hp):V->PyData->Prop
 | non:Dat H .non .none
 | bl (b:Bool):Dat H (.bl b) (.bool b)
 | int (i:Int):Dat H (.int i) (.int i)
 | str (x:Str):Dat H (.str x) (.str x)
 | tup {a:Addr} {xs:List V} {ds:List PyData}:H a=some (.tup xs)->jV H xs ds->Dat H (.ref a) (.tuple ds)
 | lst {a:Addr} {xs:List V} {ds:List PyData}:H a=some (.lst xs)->jV H xs ds->Dat H (.ref a) (.list ds)
inductive jV (H:Hp):List V->List PyData->Prop
 | nil:jV H [] []
 | cons {x:V} {xs:List V} {d:PyData} {ds:List PyData}:Dat H x d->jV H xs ds->jV H (x::xs) (d::ds)
end
mutual
theorem Dat.rep{K:U9}{H:Hp}:∀{x:V} {d:PyData},Dat H x d->Rep K H x d
 | _,_,.non=>.non
 | _,_,.bl b=>.bl b
 | _,_,.int i=>.int i
 | _,_,.str x=>.str x
 | _,_,.tup h r=>.tup (cj.of h) (jV.rep r)
 | _,_,.lst h r=>.lst (cI.of h) (jV.rep r)
theorem jV.rep{K:U9}{H:Hp}:∀{xs:List V} {ds:List PyData},jV H xs ds->rf K H xs ds
 | _,_,.nil=>.nil
 | _,_,.cons h r=>.cons (Dat.rep h) (jV.rep r)
end
mutual
theorem Dat.same{H H':Hp}(s:bJ H H'):∀{x:V} {d:PyData},Dat H x d->Dat H' x d
 | _,_,.non=>.non
 | _,_,.bl b=>.bl b
 | _,_,.int i=>.int i
 | _,_,.str x=>.str x
 | _,_,.tup h r=>.tup (s _ _ h) (jV.same s r)
 | _,_,.lst h r=>.lst (s _ _ h) (jV.same s r)
theorem jV.same{H H':Hp}(s:bJ H H'):∀{xs:List V} {ds:List PyData},jV H xs ds->jV H' xs ds
 | _,_,.nil=>.nil
 | _,_,.cons h r=>.cons (Dat.same s h) (jV.same s r)
end
theorem jV.len{H:Hp}:∀{xs:List V} {ds:List PyData},jV H xs ds->xs.length=ds.length
 | _,_,.nil=>rfl
 | _,_,.cons _ r=>by simp[jV.len r]
theorem jV.get{H:Hp}:∀{xs:List V} {ds:List PyData} {i:Nat} {x:V},jV H xs ds->xs[i]? = some x->∃d,ds[i]? = some d/\Dat H x d
 | _,_,_,_,.nil,e=>by simp at e
 | _,_,0,_,.cons h _,e=>by simp at e;subst e;exact⟨_,rfl,h⟩
 | _,_,i+1,x,.cons _ r,e=>by
  obtain⟨d,h1,h2⟩:=jV.get (i:=i) (x:=x) r (by simpa using e);exact⟨d,by simpa using h1,h2⟩
def Nn:PyData->Value
 | .none=>.type "NoneType"
 | .bool _=>.type "bool"
 | .int _=>.type "int"
 | .str _=>.type "str"
 | .list _=>.type "list"
 | .tuple _=>.type "tuple"
 | .dict _=>.type "dict"
theorem Dat.ty{K:U9}{H:Hp}{x:V}{d:PyData}(h:Dat H x d):qT K H x (Nn d):=by
 cases h with
 | non=>exact .non
 | bl b=>exact .bl b
 | int i=>exact .int i
 | str x=>exact .str x
 | tup h _=>exact .tup h
 | lst h _=>exact .lst h
def isI:PyData->Bool | .int _=>true | .bool _=>true | _=>false
def N9:PyData->Bool | .bool _=>true | _=>false
def N8:PyData->Bool | .str _=>true | _=>false
def Mg:PyData->Bool | .tuple _=>true | _=>false
def isL:PyData->Bool | .list _=>true | _=>false
section
variable {K:U9}{H:Hp}{x:V}{d:PyData}{Q:VK}
theorem Hj (h:Dat H x d) (q:Q (.bl (N8 d)) H):HF K [x,.ty "str"] H Q:=⟨x,"str",_,N8 d,rfl,h.ty,by cases h<;>rfl,q⟩
theorem m8 (h:Dat H x d) (q:Q (.bl (Mg d)) H):HF K [x,.ty "tuple"] H Q:=⟨x,"tuple",_,Mg d,rfl,h.ty,by cases h<;>rfl,q⟩
end
theorem ints_rep{K:U9}{H:Hp}:∀(ns:gs),rf K H (ns.map V.int) (ns.map PyData.int)
 | []=>.nil
 | n::ns=>.cons (.int n) (ints_rep ns)
theorem uO:∀ms ns:gs,PyData.eqvAll (ms.map PyData.int) (ns.map PyData.int)=decide (ms=ns)
 | [],[]=>rfl
 | [],_::_=>by simp[PyData.eqvAll]
 | _::_,[]=>by simp[PyData.eqvAll]
 | p::ps,q::qs=>by
  show (PyData.eqv (.int p) (.int q)&&PyData.eqvAll (ps.map PyData.int) (qs.map PyData.int))=_;rw[uO ps qs];by_cases h1:p=q<;>by_cases h2:ps=qs<;>simp[PyData.eqv,h1,h2]
theorem jt:∀ns:gs,PyData.canLayAll0 (ns.map PyData.int)=true
 | []=>rfl
 | n::ns=>by
  show (PyData.canLay0 (.int n)&&PyData.canLayAll0 (ns.map PyData.int))=true;rw[jt ns];rfl
theorem qO:∀ns:gs,PyData.depthAll (ns.map PyData.int)=0
 | []=>rfl
 | n::ns=>by
  show max (PyData.depth (.int n)) (PyData.depthAll (ns.map PyData.int))=0;rw[qO ns];rfl
theorem yM{K:U9}{H:Hp}{a b:Addr}{ms ns:gs}{Q:VK}(ha:cI K H a (ms.map V.int))(hb:cI K H b (ns.map V.int))(q:Q (.bl (decide (ms=ns))) H):zJ K false (.ref a) (.ref b) H Q:=by
 refine⟨.list (ms.map PyData.int),.list (ns.map PyData.int),.lst ha (ints_rep ms),.lst hb (ints_rep ns),jt ms,jt ns,?_,?_⟩
 .refine bN (kH _ _) ?_;show PyData.depthAll (ms.map PyData.int)+1<=60;rw[qO];decide
 .show Q (.bl (PyData.eqvAll (ms.map PyData.int) (ns.map PyData.int))) H;rw[uO];exact q
theorem FT(n:Int)(ns:gs):((ns.map PyData.int).any λe=>PyData.eqv e (.int n))=decide (n∈ns):=by
 induction ns with
 | nil=>simp
 | cons m ns ih=>
  rw[af,f9,ih];by_cases h1:n=m
  .subst h1;simp[PyData.eqv]
  .have h2:¬m=n:=λe=>h1 e.symm;by_cases h3:n∈ns<;>simp[PyData.eqv,h1,h2,h3]
theorem Hl{K:U9}{H:Hp}{b:Addr}{n:Int}{ns:gs}{neg:Bool}{Q:VK}(hb:cI K H b (ns.map V.int)\/cj K H b (ns.map V.int))(q:Q (.bl (if neg then !decide (n∈ns) else decide (n∈ns))) H):EN K neg (.int n) (.ref b) H Q:=by
 refine⟨.int n,ns.map PyData.int,b,_,.int n,rfl,hb,ints_rep ns,rfl,jt ns,ah _,?_⟩;rw[FT];exact q
def oQ(env:Env):List (Str×NameKind)->List (Str×Addr)->List (Str×Addr)
 | [],acc=>acc
 | (n,k)::r,acc=>oQ env r (if (k==NameKind.free)=true then (n,(env.cells.lookup n).getD 0)::acc else acc)
theorem ul{scope:Scope}{env:Env}(h:∀x∈scope.names,x.2=.free->∃c,env.cells.lookup x.1=some c):closureFor scope env=pure (oQ env scope.names []):=by
 simp only[closureFor];generalize ([]:List (Str×Addr))=acc
 revert h
 generalize scope.names=l;intro h
 induction l generalizing acc with
 | nil=>rfl
 | cons x l ih=>
  obtain⟨n,k⟩:=x;have ih':=λacc=>ih acc λy hy=>h y (aJ _ hy);rw[kK];cases hk:(k==NameKind.free) with
  | false=>
   simp only[bR,U8,pure_bind];rw[show oQ env ((n,k)::l) acc=oQ env l acc by simp[oQ,hk]];exact ih' acc
  | true=>
   obtain⟨c,hc⟩:=h (n,k) aW (by simpa using hk);have e:cellOf env n=pure c:=by unfold cellOf;rw[hc]
   simp only[U7,e,pure_bind];rw[show oQ env ((n,k)::l) acc=oQ env l ((n,c)::acc) by simp[oQ,hk,hc]];exact ih' ((n,c)::acc)
theorem pD{env:Env}{x:Str}{c:Addr}:∀{l:List (Str×NameKind)} {acc:List (Str×Addr)},(∀y∈l,y.2=.free->∃c,env.cells.lookup y.1=some c)->(oQ env l acc).lookup x=some c->acc.lookup x=some c\/env.cells.lookup x=some c
 | [],acc,_,h=>.inl h
 | (n,k)::l,acc,hf,h=>by
  have ih:=pD (l:=l) (acc:=if (k==NameKind.free)=true then (n,(env.cells.lookup n).getD 0)::acc else acc) (λy hy=>hf y (aJ _ hy)) h;rcases ih with e | e
  .cases hk:(k==NameKind.free) with
   | false=>rw[hk] at e;exact .inl (by simpa using e)
   | true=>
    rw[hk] at e;simp only[U7,jb] at e;cases hx:x==n with
    | false=>rw[hx] at e;exact .inl e
    | true=>
     rw[hx] at e;obtain⟨c',hc⟩:=hf (n,k) aW (by simpa using hk);have hxn:x=n:=by simpa using hx
     subst hxn;rw[hc] at e;simp only[gC] at e;exact .inr (hc.trans e)
  .exact .inr e
theorem vd{env:Env}{x:Str}:∀{l:List (Str×NameKind)} {acc:List (Str×Addr)},(∃c,acc.lookup x=some c)->∃c,(oQ env l acc).lookup x=some c
 | [],acc,h=>h
 | (n,k)::l,acc,h=>by
  refine vd (l:=l) ?_;cases hk:(k==NameKind.free) with
  | false=>simpa using h
  | true=>
   simp only[U7,jb];cases hx:x==n with
   | false=>exact h
   | true=>exact⟨_,rfl⟩
theorem uU{env:Env}{x:Str}:∀{l:List (Str×NameKind)} {acc:List (Str×Addr)},(x,NameKind.free)∈l->∃c,(oQ env l acc).lookup x=some c
 | [],_,h=>nomatch h
 | (n,k)::l,acc,h=>by
  rcases aL.mp h with e | e
  .cases e;refine vd (l:=l) ?_;simp
  .exact uU (l:=l) e
def Cm(env:Env)(p:Str×NameKind):Str×NameKind:=if (p.2==NameKind.free&&env.scope.kind==.function&&env.kindOf p.1==some .cell) then (p.1,NameKind.cell) else p
theorem pf(scope:Scope)(env:Env):(relabel scope env).names=scope.names.map (Cm env):=by
 show scope.names.map _=_;congr 1
theorem Gx(env:Env)(p:Str×NameKind):(Cm env p).1=p.1:=by unfold Cm;split<;>rfl
theorem qN{env:Env}{x:Str}:∀{names:List (Str×NameKind)},(names.map (Cm env)).lookup x=(names.lookup x).map λk=>(Cm env (x,k)).2
 | []=>rfl
 | (n,q)::r=>by
  rw[af];have e:Cm env (n,q)=(n,(Cm env (n,q)).2):=fZ (Gx env _) rfl;rw[e,jb,jb];cases hx:x==n with
  | true=>
   have hxn:x=n:=by simpa using hx
   subst hxn;rfl
  | false=>exact qN (names:=r)
theorem qj{scope:Scope}{env:Env}{x:Str}{k:NameKind}(h:(relabel scope env).names.lookup x=some k):scope.names.lookup x=some k\/(k=.cell/\scope.names.lookup x=some .free):=by
 rw[pf,qN] at h;cases e:scope.names.lookup x with
 | none=>rw[e] at h;cases h
 | some q=>
  rw[e] at h;have h':(Cm env (x,q)).2=k:=av h;unfold Cm at h'
  split at h'
  .rename_i hc;have hq:q=.free:=by
    have:=(ao _ _).mp ((ao _ _).mp hc).1;simpa using this.1
   exact .inr ⟨h'.symm,by rw[hq]⟩
  .exact .inl (by rw[<-h'])
theorem wJ{scope:Scope}{env:Env}{x:Str}(h:scope.names.lookup x=some .free):(relabel scope env).names.lookup x=some .cell\/(relabel scope env).names.lookup x=some .free:=by
 rw[pf,qN,h];show some (Cm env (x,.free)).2=_\/some (Cm env (x,.free)).2=_;unfold Cm
 split
 .exact .inl rfl
 .exact .inr rfl
def sO(X:Cx)(N:List Str)(scope:Scope)(C:Addr)(s:Shared)(H:Hp)(fp:ld)(pn:List (Addr×Obj)):Cx:=
 { X with N:=N,s₀:=s,H₀:=H,env:=compEnvC scope (oQ X.env scope.names []) C X.env,outer:=X.stack,ex:=fp,fn:=λ_=>false,pn:=pn,xe:=λ_ _=>False }
structure oC (scope:Scope) (ns:List Str):Prop where
 kind:scope.kind=.function
 nocell:∀ y∈scope.names,y.2≠.cell
 names:∀ y∈scope.names,y.2=.local->scope.names.lookup y.1=some .local
 frees:∀ y∈scope.names,y.2=.free->y.1∈ns
inductive oB (X:Cx) (scope:Scope):List Str->im->Prop
 | nil:oB X scope [] []
 | cons {x:Str} {i:Nat} {ns:List Str} {is:im}:X.N[i]? = some x->scope.names.lookup x=some .free->(X.env.kindOf x=some .cell\/X.env.kindOf x=some .free)->oB X scope ns is->oB X scope (x::ns) (i::is)
theorem oB.mem{X:Cx}{scope:Scope}{ns:List Str}{is:im}{x:Str}(c:oB X scope ns is)(h:x∈ns):X.env.kindOf x=some .cell\/X.env.kindOf x=some .free:=by
 induction c with
 | nil=>exact nomatch h
 | cons _ _ k _ ih=>
  rcases aL.mp h with e | e
  .subst e;exact k
  .exact ih e
theorem oB.len{X:Cx}{scope:Scope}{ns:List Str}{is:im}(c:oB X scope ns is):is.length=ns.length:=by
 induction c with
 | nil=>rfl
 | cons _ _ _ _ ih=>simp[ih]
theorem oB.at_{X:Cx}{scope:Scope}{ns:List Str}{is:im}(c:oB X scope ns is){j:Nat}{x:Str}(h:ns[j]? = some x):
  ∃i,is[j]? = some i/\X.N[i]? = some x/\scope.names.lookup x=some .free/\(X.env.kindOf x=some .cell\/X.env.kindOf x=some .free):=by
 induction c generalizing j with
 | nil=>simp at h
 | cons a b k _ ih=>
  cases j with
  | zero=>simp at h;subst h;exact⟨_,rfl,a,b,k⟩
  | succ j=>exact ih (by simpa using h)
def CZ(Z:St)(i:Nat):Option V:=(Z[i]?).join
def jF(k:Nat)(caps:im)(Z:St):St:=List.replicate k none++caps.map λi=>CZ Z i
section
variable {X:Cx}{pins:List (Addr×Obj)}{Z:St}{H:Hp}{s s4:Shared}
theorem zy{own ns:List Str}{caps:im}{scope:Scope}{C:Addr}{fp:ld}(I:bc X pins Z H s)(S:oC scope ns)(cp:oB X scope ns caps)(hf:∀b∈fp,ke X pins H b)
  (hfl:∀b∈fp,b<s.heap.objs.size) (hC:s.heap.objs.size<=C) (os:s4.os=s.os) (gens:s4.gens=s.gens) (k:∀b o,s.heap.get? b=some o->s4.heap.get? b=some o) {m:Str->bt} (hn:s4.heap.Ns C m) :
  bc (sO X (own++ns) scope C s H fp (X.pn++pins)) [] (jF own.length caps Z) H s4:=by
 have cells:∀x c,(oQ X.env scope.names []).lookup x=some c->X.env.cells.lookup x=some c:=λx c e=>by
  rcases pD (λy hy hfr=>I.ok.has y.1 (cp.mem (S.frees y hy hfr))) e with z | z
  .simp at z
  .exact z
 have neL:C≠X.env.locals:=iH (aZ I.lt hC);have inFs:∀b,b∈lq X.stack->b=X.env.locals\/b∈X.fs:=λb hb=>aL.mp (I.stkSub b hb);have nst:∀b,b≠X.env.locals->b∉X.fs->b∉lq X.stack:=λb h1 h2 z=>(inFs b z).elim h1 h2;have cle:∀x c,X.env.cells.lookup x=some c->c<s.heap.objs.size:=λx c e=>by obtain⟨v,q⟩:=I.cell x c e;exact q.lt
 refine⟨⟨I.ok.mod,S.kind,I.ok.glob,I.ok.blt,hC,λx y c h1 h2=>I.ok.inj x y c (cells _ _ h1) (cells _ _ h2),λx hx=>?_,(λx c h=>nomatch h),I.ok.hd,I.ok.frames,.inl rfl,λb hb=>⟨λz=>?_,λx c e=>(hf b hb).2.2.2.2.1 x c (cells _ _ e)⟩,
   I.bs,bN I.ok.bsz I.sz,λb o e hb=>?_,λb hb=>nst b (hf b hb).2.1 (hf b hb).2.2.1,I.stack,I.stkFree⟩,
  os,by rw[gens];exact I.bare,Un.kept k,⟨m,hn,λi x v e1 e2 e3=>?_⟩,λx c e=>?_,?_,λx c e=>I.freeC x c (cells _ _ e),λp hp=>?_,I.hok.kept k,?_⟩
 .have hx':(relabel scope X.env).names.lookup x=some .cell\/(relabel scope X.env).names.lookup x=some .free:=hx;have hfree:scope.names.lookup x=some .free:=by
   rcases hx' with z | z
   .rcases qj z with q | q
    .exact absurd rfl (S.nocell _ (dG q))
    .exact q.2
   .rcases qj z with q | q
    .exact q
    .exact absurd q.1 (by decide)
  exact uU (dG hfree)
 .exact absurd (aZ (hfl b hb) hC) (by rw[show b=C from z];exact de _)
 .obtain⟨f0,f1,f2,f3,f4,f5⟩:=hf b hb;rcases f3 with z | z
  .exact I.ok.noex b o e z
  .exact absurd (aZ (aN e) (bN I.ok.bsz z)) (de _)
 .have e2':(List.replicate own.length none++caps.map λi=>CZ Z i)[i]? = some (some v):=e2;have e1':(own++ns)[i]? = some x:=e1;by_cases hi:i<own.length
  .rw[iN (by simpa using hi),nF,U2 hi] at e2';cases e2'
  .rw[cu (by simpa using hi),oV,aR] at e2';rw[cu (by lia)] at e1';obtain⟨i',h1,h2,h3,h4⟩:=cp.at_ e1';rw[h1] at e2';have e4:(Z[i']?).join=some v:=av e2';have e5:Z[i']? = some (some v):=by
    cases q:Z[i']? with
    | none=>rw[q] at e4;cases e4
    | some w'=>rw[q] at e4;rw[show w'=some v from e4]
   obtain⟨m',hn',hl'⟩:=I.loc;have vis:MU X.env.scope x:=h4.elim (λz=>.inr (.inl z)) λz=>.inr (.inr z);obtain⟨u,r,l⟩:=hl' i' x v h2 e5 vis;refine⟨u,r,.inr ⟨wJ h3,?_⟩⟩;obtain⟨c,hc⟩:=uU (env:=X.env) (acc:=[]) (dG h3);rcases l with ⟨z,_⟩ | ⟨_,c',e6,z⟩
   .rcases h4 with y | y<;>· rw[y] at z;cases z
   .have:=cells _ _ hc;rw[e6] at this;cases this;obtain⟨o,ho,hd⟩:=z;exact⟨_,hc,o,k _ _ ho,hd⟩
 .obtain⟨v,o,ho,hd⟩:=I.cell x c (cells _ _ e);exact⟨v,o,k _ _ ho,hd⟩
 .exact I.hok.fresh hC
 .have hp':p∈X.pn++pins:=by simpa [sO] using hp
  obtain⟨a1,a2,a3,a4,a5⟩:=I.pin p hp';exact⟨k _ _ a1,a2,a6 (aZ (aN a1) hC),nst _ a3 a4,a5⟩
 .show (jF own.length caps Z).length=(own++ns).length;simp[jF,cp.len]
end
def PF(X:Cx)(ifs:lc)(t:TT):Prop:=
 ∀(pins:List (Addr×Obj)) (s:Shared) (Z:St) (H:Hp) (Q:Bool->Hp->Prop),bc X pins Z H s->t Z H Q →
  wpAny (model X.prog X.w) X.A (forIn ifs true λc r=>if r=true then do let ok <-isTrue c X.env (eval c X.env);pure (ForInStep.yield ok) else pure (ForInStep.yield r)) (TP X pins Z Q) X.xe s
def wu:TT:=λ_ H q=>q true H
def j5(J:It)(g:TG)(tf:TT)(te:TE)(Q:VK)(Z:St)(H1:Hp):Prop:=∃W:Nat->Nat->List V->St->Hp->Prop,(∃m,W 0 m [] Z H1)/\∀i m ys Z H,W i m ys Z H →
 (J.stop i H/\ys.length<=sizeLine/\∀p,H p=none->Q (.ref p) (upd H p (.lst ys))) ∨
 (J.go i H/\ys.length<sizeLine/\∀x H',J.yld i H x H'->g x Z H' λZ2 H2=>tf Z2 H2 λb H3=>
  if b=true then te Z2 H3 λy H4=>∃m',m'<m/\W (i+1) m' (ys++[y]) Z2 H4 else ∃m',m'<m/\W (i+1) m' ys Z2 H3)
section
variable {X:Cx}{pins:List (Addr×Obj)}{Z:St}{H:Hp}{s:Shared}{K:U9}{a:Addr}{xs:List V}{g:TG}{tf:TT}{te:TE}{Q:VK}
theorem uk {prog : Program} {w : World} {A : Around} {R : Result → Shared → Prop} {s : Shared} {elt target iter : Expr} {ifs : lc} {scope : Scope} {pos : Pos} {it acc : Value} {env : Env} (I : Nat → Shared → Prop)
  (turn : ∀ n s, I n s → wpAny (model prog w) A (pyNext it) (fun r s₁ => match r with
   | none => R (.ok .next) s₁
   | some v => wpAny (model prog w) A (letOwnedTupleGo target it v) (fun _ s₁ => wpAny (model prog w) A (assign target env v) (fun _ s₂ =>
     wpAny (model prog w) A (forIn ifs true fun c r => if r = true then do let ok ← isTrue c env (eval c env); pure (ForInStep.yield ok) else pure (ForInStep.yield r)) (fun ok s₃ =>
      if ok = true then wpAny (model prog w) A (eval elt env) (fun x s₄ =>
       wpAny (model prog w) A (call (.builtin "list.append") [acc, x]) (fun _ s₅ => ∃ m, m < n ∧ I m s₅) (notedBy (model prog w) A env fun e s' => R (.error e) s') s₄) (notedBy (model prog w) A env fun e s' => R (.error e) s') s₃
      else ∃ m, m < n ∧ I m s₃) (notedBy (model prog w) A env fun e s' => R (.error e) s') s₂) (notedBy (model prog w) A env fun e s' => R (.error e) s') s₁) (notedBy (model prog w) A env fun e s' => R (.error e) s') s₁) (notedBy (model prog w) A env fun e s' => R (.error e) s') s)
  (n : Nat) (h : I n s) : codeAny (model prog w) A (.compLoop (.ListComp elt [⟨target, iter, ifs, 0⟩] scope pos) 0 it acc env) R s := by
 refine codeAny_loop rfl I (fun n s hI => ?_) n h
 show wpAny _ A ((compTurn (.ListComp elt [⟨target, iter, ifs, 0⟩] scope pos) 0 it acc env).onRaise (fun x => do noteFrame x env; theTreesLotGoes x)) _ _ s
 refine wpAny_noted ?_
 rw [compTurn_list]
 exists (Tq (wpAny_bind (wpAny_mono (turn n s hI) (fun r s₁ h₁ => ?_) fun _ _ h' => h')))
 cases r with
 | none => exact wpAny_pure h₁
 | some v =>
  exists (wpAny_mono h₁ (fun _ s₁ h₁ => ?_) fun _ _ h' => h')
  exists (wpAny_mono h₁ (fun _ s₂ h₂ => wpAny_bind (wpAny_mono h₂ (fun ok s₃ h₃ => ?_) fun _ _ h' => h')) fun _ _ h' => h')
  cases ok with
  | false => exact wpAny_pure ⟨rfl, h₃⟩
  | true =>
   exact wpAny_bind (wpAny_bind (wpAny_mono h₃ (fun x s₄ h₄ => wpAny_bind (wpAny_mono h₄ (fun _ s₅ h₅ => wpAny_pure (wpAny_pure ⟨rfl, h₅⟩)) fun _ _ h' => h')) fun _ _ h' => h'))
theorem uT{own ns:List Str}{caps:im}{elt tg iter:Expr}{ifs:lc}{scope:Scope}{pos:Pos}{it:Addr}{fp:ld}{tn:Nat->Heap->Prop}{J:It}{g:TG}{tf:TT}{te:TE}{Q:VK}{E:Value->Shared->Prop}{RR:Value->Addr->Result->Shared->Prop}
  (hc:X.calm=true) (S:oC scope ns) (cp:oB X scope ns caps)
  (hg:∀C s H fp pn,PG (sO X (own++ns) scope C s H fp pn) tg g) (ht:∀C s H fp pn,PF (sO X (own++ns) scope C s H fp pn) ifs tf) (he:∀C s H fp pn,PE (sO X (own++ns) scope C s H fp pn) elt te)
  (I:bc X pins Z H s) (T:Turn X.prog X.w X.K tg J fp it tn) (st:tn 0 s.heap) (hf:∀b∈fp,ke X pins H b) (hJ:j5 J g tf te Q (jF own.length caps Z) H)
  (fin:∀D C m s' H' ys,D≠C->s'.heap.Ns C m->ke X pins (upd H' D (.lst ys)) C->bc X pins Z (upd H' D (.lst ys)) s'->Q (.ref D) (upd H' D (.lst ys))->RR (.ref D) C (.ok .next) s') :
  wpAny (model X.prog X.w) X.A (newList []) (λacc s₃=>wpAny (model X.prog X.w) X.A (newFunctionEnv scope X.env.globals (oQ X.env scope.names []) [] X.env.qual none .none (some X.env)) (λcenv s₄=>
   codeAny (model X.prog X.w) X.A (.compStart (.ListComp elt [⟨tg,iter,ifs,0⟩] scope pos) 0 (.ref it) acc { cenv with scope:=relabel scope X.env }) (RR acc cenv.locals) s₄) E s₃) E s:=by
 refine Tr (wpAny_newFunctionEnv S.nocell (by intro y hy;simp at hy) (λh₁ hns₁ hsb₁=>?_) S.kind);dsimp only at hns₁ hsb₁ |-;generalize hH2:s.heap.push { cls:=.type "list",dict:=none,data:=.seq ([]:ag).toArray }=H2 at hns₁ hsb₁ |-;have hC:H2.objs.size=s.heap.objs.size+1:=by rw[<-hH2,dN]
 have hDC:s.heap.objs.size≠H2.objs.size:=by rw[hC];exact a6 (mz _)
 have hCle:s.heap.objs.size<=H2.objs.size:=by rw[hC];exact dZ _
 have old:∀b o,s.heap.get? b=some o->h₁.get? b=some o:=λb o e=>hsb₁.extBut b o (by rw[hC];exact a6 (dI (aN e))) (aB _ (hH2▸aB _ e));have hacc:h₁.PlainList s.heap.objs.size #[]:=⟨_,hsb₁.extBut _ _ hDC (aB _ (hH2▸aP _ rfl))⟩
 have hfl:∀b∈fp,b<s.heap.objs.size:=λb hb=>by obtain⟨o,e,_⟩:=T.obj _ _ st b hb;exact aN e
 generalize hD:s.heap.objs.size=D at hDC hacc |-;generalize hCe:H2.objs.size=C at hns₁ hsb₁ hDC hCle hC |-;have hDle:s.heap.objs.size<=D:=by rw[hD];exact aI _
 have hCle':s.heap.objs.size<=C:=by rw[hD];rw[hD] at hCle;exact hCle
 have I₁:bc (sO X (own++ns) scope C s H fp (X.pn++pins)) [] (jF own.length caps Z) H { s with heap:=h₁,toks:=s.toks+([]:List (Str×Value)).length }:=
  zy I S cp hf hfl hCle' rfl rfl old hns₁
 have st₁:tn 0 h₁:=T.keep _ _ _ st λb _ o e=>old b o e;generalize hY:sO X (own++ns) scope C s H fp (X.pn++pins)=Y at I₁;have hgY:PG Y tg g:=hY▸hg C s H fp (X.pn++pins);have htY:PF Y ifs tf:=hY▸ht C s H fp (X.pn++pins);have heY:PE Y elt te:=hY▸he C s H fp (X.pn++pins);have yP:Y.prog=X.prog:=by rw[<-hY];rfl
 have yW:Y.w=X.w:=by rw[<-hY];rfl
 have yK:Y.K=X.K:=by rw[<-hY];rfl
 have yA:Y.A=X.A:=by rw[<-hY];rfl
 have yC:Y.calm=true:=by rw[<-hY];exact hc
 have yE:Y.env=compEnvC scope (oQ X.env scope.names []) C X.env:=by rw[<-hY];rfl
 have yX:Y.xe=λ_ _=>False:=by rw[<-hY];rfl
 have yF:Y.fs=lq X.stack:=by rw[<-hY];rfl
 have yQ:Y.pn=X.pn++pins:=by rw[<-hY];rfl
 have yI:Y.ex=fp:=by rw[<-hY];rfl
 have yS:Y.s₀=s:=by rw[<-hY];rfl
 have yH:Y.H₀=H:=by rw[<-hY];rfl
 have cells:∀x c,Y.env.cells.lookup x=some c->X.env.cells.lookup x=some c:=λx c e=>by
  rw[yE] at e;rcases pD (λy hy hfr=>I.ok.has y.1 (cp.mem (S.frees y hy hfr))) (show (oQ X.env scope.names []).lookup x=some c from e) with z | z
  .simp at z
  .exact z
 have nst:∀b,b≠X.env.locals->b∉X.fs->b∉Y.fs:=λb h1 h2 z=>by
  rw[yF] at z;exact(aL.mp (I.stkSub b z)).elim h1 h2
 have fpY:∀{H':Hp},(∀b∈fp,H' b=none)->∀b∈fp,ke Y [] H' b:=fun {H'} hn b hb=>by
  obtain⟨f0,f1,f2,f3,f4,f5⟩:=hf b hb;refine⟨hn b hb,?_,nst b f1 f2,.inl (by rw[yI];exact hb),λx c e=>f4 x c (cells x c e),λp hp=>f5 p (by simpa [yQ] using hp)⟩;rw[yE];exact a6 (aZ (hfl b hb) hCle')
 have fpD:∀{H':Hp},H' D=none->ke Y [] H' D:=fun {H'} hn=>by
  obtain⟨f0,f1,f2,f3,f4,f5⟩:=I.fpOk (H':=H') hDle hn;refine⟨hn,by rw[yE];exact hDC,nst D f1 f2,.inr (by rw[yS];exact hDle),λx c e=>f4 x c (cells x c e),λp hp=>f5 p (by simpa [yQ] using hp)⟩
 have hDf:D∉fp:=λz=>de _ (aZ (hfl D z) hDle);have objD:∀{h:Heap} {us:ag},h.PlainList D us.toArray->∃o,h.get? D=some o/\∀v,o.data≠.cell v:=fun {h us} ⟨n,e⟩=>⟨_,e,λv z=>by cases z⟩
 have noErr:∀{α:Type} {t:Sem α} {Qt:α->Shared->Prop} {sx:Shared} {E':Value->Shared->Prop},wpAny (model Y.prog Y.w) Y.A t Qt Y.xe sx->wpAny (model X.prog X.w) X.A t Qt E' sx:=fun {α t Qt sx E'} h=>by
  rw[yP,yW,yA,yX] at h;exact wpAny_mono h (λ_ _ q=>q) λ_ _ f=>f.elim
 obtain⟨W,⟨m0,w0⟩,turn⟩:=hJ;have TY:Turn Y.prog Y.w Y.K tg J fp it tn:=by rw[yP,yW,yK];exact T
 have loop:∀s₃:Shared,s₃={ s with heap:=h₁,toks:=s.toks+([]:List (Str×Value)).length } →
   codeAny (model X.prog X.w) X.A (.compLoop (.ListComp elt [⟨tg,iter,ifs,0⟩] scope pos) 0 (.ref it) (.ref D) (compEnvC scope (oQ X.env scope.names []) C X.env)) (RR (.ref D) C) s₃:=by
  rintro s₃ rfl;refine uk (λn s'=>∃i ys us Z' H',bc Y [] Z' H' s'/\tn i s'.heap/\(∀b∈fp,H' b=none)/\H' D=none/\s'.heap.PlainList D us.toArray/\cH ys us/\W i n ys Z' H') ?_ m0
   ⟨0,[],[],_,H,I₁,st₁,λb hb=>(hf b hb).1,I.hok.fresh hDle,hacc,.nil,w0⟩
  rintro n s3 ⟨i,ys,us,Z3,H3,I3,st3,fr3,hD3,Mc,v3,w3⟩;have fD3:∀b∈[D],ke Y [] H3 b:=λb hb=>by
   have e:b=D:=by simpa using hb
   subst e;exact fpD hD3
  have I3':bc Y ([]++mH [D] s3.heap) Z3 H3 s3:=I3.pinned fD3 λb hb=>by
   have e:b=D:=by simpa using hb
   subst e;exact objD Mc
  rw[fQ] at I3';have fpY':∀{H':Hp},(∀b∈fp,H' b=none)->∀b∈fp,ke Y (mH [D] s3.heap) H' b:=fun {H'} hn b hb=>by
   obtain⟨f0,f1,f2,f3,f4,f5⟩:=fpY hn b hb;refine⟨f0,f1,f2,f3,f4,λp hp=>?_⟩;rcases bG.mp hp with z | z
   .exact f5 p (by simpa using z)
   .have e:p.1=D:=by simpa using (vN z).1
    exact λq=>hDf (by rw[<-e,q];exact hb)
  obtain⟨oD,eD,cD⟩:=objD Mc;have keepD:∀{Z':St} {H':Hp} {s':Shared} {pl:List (Addr×Obj)},bc Y (mH [D] s3.heap++pl) Z' H' s'->s'.heap.PlainList D us.toArray/\H' D=none:=fun {Z' H' s' pl} I'=>by
   have:=I'.pin (D,oD) (bM _ (cn _ (gv (by simp) eD)));refine⟨?_,this.2.1⟩;obtain⟨k,e⟩:=Mc;rw[e] at eD;cases eD;exact⟨k,this.1⟩
  rcases turn i n ys Z3 H3 w3 with ⟨stop,hlen,qn⟩ | ⟨go,hlen,step⟩
  .refine noErr (dw (TY.done Y rfl rfl rfl yC i _ s3 Z3 H3 Y.xe I3' (fpY' fr3) st3 stop) λr s4 z'=>?_);obtain⟨hr,I4⟩:=z';subst hr;obtain⟨pl4,hD4⟩:=keepD (pl:=[]) (by rw[cE];exact I4);have hun:Un (lq X.stack) fp H H3 s.heap s4.heap:=by have:=I4.base;rw[yF,yI,yS,yH] at this;exact this
   have hok:p7 X.prog X.w H3 s4.heap:=by have:=I4.hok;rw[yP,yW] at this;exact this
   obtain⟨m4,hn4,_⟩:=I4.loc;rw[yE] at hn4;have hC4:H3 C=none:=by have:=I4.free;rw[yE] at this;exact this
   have ne:∀b u,H3 b=some u->b≠D:=λb u e z=>by rw[z,hD4] at e;cases e
   refine fin D C m4 s4 H3 ys hDC hn4 (I.fpOk hCle' (by rw[aO (fM hDC)];exact hC4)) (I.call' (ch:=fp) ?_ ?_ ?_ I4.bare ?_) (qn D hD4)
   .have:=I4.os;rw[yS] at this;exact this
   .exact⟨hun.keep,hun.slot,λb o e n hx=>by rw[aO (λz=>by rw[z] at e;exact absurd (aN e) (Nat.not_lt.mpr hDle))];exact hun.free b o e n hx,hun.there,
     λb xs e=>by have:=hun.tups b xs e;rw[aO (ne _ _ this)];exact this,λb o u e=>by have:=hun.frzs b o u e;rw[aO (ne _ _ this)];exact this,
     λb ps e=>by obtain⟨more,q⟩:=hun.tbls b ps e;exact⟨more,by rw[aO (ne _ _ q)];exact q⟩⟩
   .intro b u e;by_cases hb:b=D
    .subst hb;rw[aG] at e;cases e;obtain⟨k,e4⟩:=pl4;exact⟨hlen,us,k,v3,e4⟩
    .rw[aO hb] at e;exact(hok b u e).stay (λc v _ q=>q) (λc q=>by rw[aO (ne _ _ q)];exact q) λc xs q=>by rw[aO (ne _ _ q)];exact q
   .intro b hb;obtain⟨f0,f1,f2,f3,f4,f5⟩:=hf b hb;exact⟨f3,f1,f4,f5⟩
  .refine noErr (dw (TY.item Y rfl rfl rfl yC i _ s3 Z3 H3 Y.xe I3' (fpY' fr3) st3 go) λr s4 z'=>?_);obtain⟨u,hr,h4⟩:=z';subst hr;refine noErr (dw h4 λ_ s5 z'=>?_);obtain⟨x,H5,I5,r5,y5,st5,fr5⟩:=z';have I5':=I5.pinned (fpY' fr5) (T.obj _ _ st5);rw[<-yE];refine noErr (dw (hgY _ s5 Z3 H5 x u _ I5' r5 (step x H5 y5)) λ_ s6 z'=>?_);obtain⟨Z6,H6,I6,q6⟩:=z';refine noErr (dw (htY _ s6 Z6 H6 _ I6 q6) λok s7 z'=>?_);obtain⟨H7,I7,q7⟩:=z';have fpK:∀{Z':St} {H':Hp} {s':Shared},bc Y (mH [D] s3.heap++mH fp s5.heap) Z' H' s'->tn (i+1) s'.heap/\∀b∈fp,H' b=none:=fun {Z' H' s'} I'=>
    ⟨T.keep _ _ _ st5 λb hb o e=>(I'.pin (b,o) (bM _ (bM _ (gv hb e)))).1,λb hb=>by
     obtain⟨o,e,_⟩:=T.obj _ _ st5 b hb;exact(I'.pin (b,o) (bM _ (bM _ (gv hb e)))).2.1⟩
   cases ok with
   | false=>
    rw[U1 au] at q7 |-;obtain⟨m',hm,w7⟩:=q7;obtain⟨pl7,hD7⟩:=keepD I7;obtain⟨st7,fr7⟩:=fpK I7;exact⟨m',hm,i+1,ys,us,Z6,H7,I7.pins_of (λp hp=>nomatch hp),st7,fr7,hD7,pl7,v3,w7⟩
   | true=>
    rw[U2 rfl] at q7 |-;refine noErr (dw (heY _ s7 Z6 H7 _ I7 q7) λy s8 z'=>?_);obtain⟨yv,H8,I8,r8,m',hm,w8⟩:=z';obtain⟨pl8,hD8⟩:=keepD I8;obtain⟨st8,fr8⟩:=fpK I8;have hul:us.length=ys.length:=v3.length.symm;refine wpAny_list_append_plain (hsz:=by rw[aQ,hul];exact bT hlen) pl8 λh9 pl9 sb9=>?_;obtain⟨d0,d1,d2,d3,d4,d5⟩:=fpD hD8;refine⟨m',hm,i+1,ys++[yv],us++[y],Z6,H8,?_,?_,fr8,hD8,by simpa using pl9,v3.append (.cons r8 .nil),w8⟩
    .exact(I8.pins_of (pins':=[]) λp hp=>nomatch hp).turned (t':=s8.toks) (λb o hb e=>(sb9.2 b hb).trans e) hD8 d1 d3 d4 d5
    .exact T.keep _ _ _ st8 λb hb o e=>(sb9.2 b (λz=>hDf (z▸hb))).trans e
 exact codeAny_compStart_list (loop _ rfl) (T.self _ 0 _ _ _ st₁ (loop _ rfl))
def pd(k:Nat)(caps:im)(wi:TI)(g:TG)(tf:TT)(te:TE):TE:=λZ H Q=>wi Z H λJ H1=>j5 J g tf te Q (jF k caps Z) H1
theorem oB.cl{scope:Scope}{ns:List Str}{caps:im}(I:bc X pins Z H s)(S:oC scope ns)(cp:oB X scope ns caps):closureFor scope X.env=pure (oQ X.env scope.names []):=
 ul λy hy hfr=>I.ok.has y.1 (cp.mem (S.frees y hy hfr))
theorem HM{own ns:List Str}{caps:im}{elt tg iter:Expr}{ifs:lc}{scope:Scope}{pos:Pos}{wi:TI}{g:TG}{tf:TT}{te:TE}(hc:X.calm=true)(S:oC scope ns)(cp:oB X scope ns caps)(hi:PI X tg iter wi)
  (hg:∀C s H fp pn,PG (sO X (own++ns) scope C s H fp pn) tg g) (ht:∀C s H fp pn,PF (sO X (own++ns) scope C s H fp pn) ifs tf) (he:∀C s H fp pn,PE (sO X (own++ns) scope C s H fp pn) elt te)
  (hs:∀x,foldedSetIterable iter X.env x=pure x:=by intro _;rfl):PE X (.ListComp elt [⟨tg,iter,ifs,0⟩] scope pos) (pd own.length caps wi g tf te):=by
 intro pins s Z H Q I h;rw[eval_ListComp];refine wpAny_comprehension_free (use:=none) rfl hs (cp.cl I S) S.kind S.names (dw (hi pins s Z H _ I h) λv s1 h1=>dw h1 λitv s2 h2=>?_);obtain⟨it,fp,tn,J,H2,e,I2,T,st2,f2,hJ⟩:=h2;subst e;refine uT hc S cp hg ht he I2 T st2 f2 hJ (RR:=λacc C=>compPost (model X.prog X.w) X.A X.xe none (EP X pins Z Q) acc C) λD C m s' H' ys hDC hn fC I' q=>?_;refine⟨m,hn,λh' hs'=>⟨.ref D,_,?_,rfl,q⟩⟩;obtain⟨f0,f1,f2,f3,f4,f5⟩:=fC;exact I'.turned (t':=s'.toks) (λb o hb e=>(hs'.2 b hb).trans e) f0 f1 f3 f4 f5
theorem HK{i:Nat}{x:Str}{own ns:List Str}{caps:im}{elt tg iter:Expr}{ifs:lc}{scope:Scope}{pos pos' spos:Pos}{wi:TI}{g:TG}{tf:TT}{te:TE}(hN:X.N.Nodup)(hi:X.N[i]? = some x)(hx:Loc X.env.scope x)(hc:X.calm=true)(S:oC scope ns)(cp:oB X scope ns caps)(hit:PI X tg iter wi)
  (hg:∀C s H fp pn,PG (sO X (own++ns) scope C s H fp pn) tg g) (ht:∀C s H fp pn,PF (sO X (own++ns) scope C s H fp pn) ifs tf) (he:∀C s H fp pn,PE (sO X (own++ns) scope C s H fp pn) elt te)
  (hs:∀x,foldedSetIterable iter X.env x=pure x:=by intro _;rfl) (hsw:swapsWith (.ListComp elt [⟨tg,iter,ifs,0⟩] scope pos) (some (.Name x pos')) spos.line X.env=pure true:=by rfl)
  (hf:X.fn x=true\/X.env.scope.names.lookup x=some .local:=by first | exact .inl rfl | exact .inr rfl | assumption) :
  PS X (.Assign [.Name x pos'] (.ListComp elt [⟨tg,iter,ifs,0⟩] scope pos) spos) (yx (pd own.length caps wi g tf te) (pw i)):=by
 intro pins s Z H D I h;rw[exec_Assign_Name_used _ _ _ _ hsw];exists (Tq (wpAny_bind ?_));show wpAny _ X.A (do let _ <-comprehension (.ListComp elt [⟨tg,iter,ifs,0⟩] scope pos) scope X.env _ (newList []) false (eval iter X.env) (some (assign (.Name x pos') X.env))) _ _ s;exists (wpAny_mono (wpAny_comprehension_free (use:=some (assign (.Name x pos') X.env)) (Q:=λ_ s'=>SP X pins D .next s') rfl hs (cp.cl I S) S.kind S.names
  (dw (hit pins s Z H _ I h) λv s1 h1=>dw h1 λitv s2 h2=>?_)) (λ_ s' hq=>wpAny_pure (wpAny_pure hq)) λ_ _ e=>e)
 obtain⟨it,fp,tn,J,H2,e,I2,T,st2,f2,hJ⟩:=h2;subst e;refine uT hc S cp hg ht he I2 T st2 f2 hJ (RR:=λacc C=>compPost (model X.prog X.w) X.A X.xe (some (assign (.Name x pos') X.env)) (λ_ s'=>SP X pins D .next s') acc C) λL C m s' H' ys hDC hn fC I' q=>?_;show wpAny _ X.A (assign (.Name x pos') X.env (.ref L)) _ _ _;refine wpAny_assign_Name (rL I' hN hi hx (v:=.ref L) (u:=.ref L) rfl (λs'' I'' z'=>?_) hf);obtain⟨a,sb,ha⟩:=z';obtain⟨f0,f1,f2,f3,f4,f5⟩:=fC;have hCa:C≠a:=by
  rcases ha with z | z
  .rw[z];exact f1
  .exact λy=>f4 _ _ z y.symm
 exact⟨m,hn.sameBut sb hCa,λh' hs'=>⟨_,_,I''.turned (t':=s''.toks) (λb o hb e=>(hs'.2 b hb).trans e) f0 f1 f3 f4 f5,q⟩⟩
theorem AZ{k:Nat}{caps:im}{K:U9}{tl:TE}{g:TG}{tf:TT}{te:TE}{Q:VK}:pd k caps (FX K tl) g tf te Z H Q=tl Z H λx H1=>∃a,x=.ref a/\(∃xs,cI K H1 a xs)/\j5 (IT K a) g tf te Q (jF k caps Z) H1:=rfl
theorem AY{k:Nat}{caps:im}{K:U9}{tl:TE}{g:TG}{tf:TT}{te:TE}{Q:VK}:pd k caps (Kb K tl) g tf te Z H Q=tl Z H λx H1=>∃a,x=.ref a/\(∃xs,cj K H1 a xs)/\j5 (M1 K a) g tf te Q (jF k caps Z) H1:=rfl
theorem A3{k:Nat}{caps:im}{ta:TA}{g:TG}{tf:TT}{te:TE}{Q:VK}:pd k caps (v8 ta) g tf te Z H Q=ta Z H λvs H1=>∃j:Int,vs=[.int j]/\-(2 ^ 62)<=j/\j<2 ^ 62/\j5 (B3 0 j.toNat) g tf te Q (jF k caps Z) H1:=rfl
theorem A2{k:Nat}{caps:im}{ta:TA}{g:TG}{tf:TT}{te:TE}{Q:VK}:pd k caps (FW ta) g tf te Z H Q=ta Z H λvs H1=>∃i j:Int,vs=[.int i,.int j]/\(-(2 ^ 62)<=i/\i<2 ^ 62/\-(2 ^ 62)<=j/\j<2 ^ 62)/\j5 (B3 i (j-i).toNat) g tf te Q (jF k caps Z) H1:=rfl
theorem AR{x:Str}{l:List Str}{caps:im}:jF (x::l).length caps Z=none::jF l.length caps Z:=rfl
theorem AO{i:Nat}{is:im}:jF ([]:List Str).length (i::is) Z=CZ Z i::jF ([]:List Str).length is Z:=rfl
theorem AQ:jF ([]:List Str).length [] Z=[]:=rfl
theorem DN{x:Option V}:CZ (x::Z) 0=x:=rfl
theorem w_getS{x:Option V}{i:Nat}:CZ (x::Z) (i+1)=CZ Z i:=rfl
theorem DK{q:Bool->Hp->Prop}:wu Z H q=q true H:=rfl
theorem qx{J:It}(n:Nat)(hsz:n<=sizeLine)(Pv:Nat->List V->St->Hp->Prop)(h0:Pv 0 [] Z H)(hlen:∀i ys Z H,Pv i ys Z H->ys.length<=i)(hgo:∀i ys Z H,i<n->Pv i ys Z H->J.go i H)(hstop:∀ys Z H,Pv n ys Z H->J.stop n H)
  (hs:∀i ys Z H x H' (N:List V->St->Hp->Prop),i<n->Pv i ys Z H->J.yld i H x H'->(∀ys Z H,Pv (i+1) ys Z H->N ys Z H)->g x Z H' λZ2 H2=>tf Z2 H2 λb H3=>if b=true then te Z2 H3 λy H4=>N (ys++[y]) Z2 H4 else N ys Z2 H3)
  (hd:∀ys Z H p,Pv n ys Z H->H p=none->Q (.ref p) (upd H p (.lst ys))):j5 J g tf te Q Z H:=by
 refine⟨λi m ys Z H=>m=n-i/\i<=n/\Pv i ys Z H,⟨n,by simp,ah _,h0⟩,?_⟩;rintro i m ys Z H ⟨rfl,hi,p⟩;have hy:=hlen i ys Z H p;by_cases hlt:i<n
 .refine .inr ⟨hgo i ys Z H hlt p,by lia,λx H' y=>?_⟩;exact hs i ys Z H x H' (λys Z H=>∃m',m'<n-i/\m'=n-(i+1)/\i+1<=n/\Pv (i+1) ys Z H) hlt p y λys Z H z=>⟨n-(i+1),by lia,rfl,hlt,z⟩
 .have e:i=n:=by lia
  subst e;exact .inl ⟨hstop ys Z H p,by lia,λp' hp=>hd ys Z H p' p hp⟩
theorem pZ(Pv:Nat->List V->St->Hp->Prop)(h0:Pv 0 [] Z H)(hl:∀i ys Z H,Pv i ys Z H->cI K H a xs/\ys.length<=i)(hsz:xs.length<=sizeLine)
  (hs:∀i x ys Z H (N:List V->St->Hp->Prop),xs[i]? = some x->Pv i ys Z H->(∀ys Z H,Pv (i+1) ys Z H->N ys Z H)->g x Z H λZ2 H2=>tf Z2 H2 λb H3=>if b=true then te Z2 H3 λy H4=>N (ys++[y]) Z2 H4 else N ys Z2 H3)
  (hd:∀ys Z H p,Pv xs.length ys Z H->H p=none->Q (.ref p) (upd H p (.lst ys))):j5 (IT K a) g tf te Q Z H:=by
 refine qx xs.length hsz Pv h0 (λi ys Z H p=>(hl i ys Z H p).2) (λi ys Z H hi p=>⟨xs,xs[i],(hl i ys Z H p).1,by simp[hi]⟩) (λys Z H p=>⟨xs,(hl _ ys Z H p).1,aI _⟩) ?_ hd;rintro i ys Z H x H' N hi p ⟨rfl,y⟩ hN;exact hs i x ys Z H' N (y xs (hl i ys Z _ p).1) p hN
theorem AA{lo:Int}{n:Nat}(Pv:Nat->List V->St->Hp->Prop)(h0:Pv 0 [] Z H)(hl:∀i ys Z H,Pv i ys Z H->ys.length<=i)(hsz:n<=sizeLine)
  (hs:∀i ys Z H (N:List V->St->Hp->Prop),i<n->Pv i ys Z H->(∀ys Z H,Pv (i+1) ys Z H->N ys Z H)->g (.int (lo+i)) Z H λZ2 H2=>tf Z2 H2 λb H3=>if b=true then te Z2 H3 λy H4=>N (ys++[y]) Z2 H4 else N ys Z2 H3)
  (hd:∀ys Z H p,Pv n ys Z H->H p=none->Q (.ref p) (upd H p (.lst ys))):j5 (B3 lo n) g tf te Q Z H:=by
 refine qx n hsz Pv h0 hl (λi ys Z H hi p=>hi) (λys Z H p=>aI _) ?_ hd;rintro i ys Z H x H' N hi p ⟨rfl,rfl⟩ hN;exact hs i ys Z H' N hi p hN
theorem yV{J:It}(n:Nat)(hsz:n<=sizeLine){rest:St}(xs ys:List V)(hl:ys.length=n)(hgo:∀i,i<n->J.go i H)(hstop:J.stop n H)(hy:∀i x H',i<n->J.yld i H x H'->H'=H/\xs[i]? = some x)
  (hs:∀(i:Nat) (x y:V) (Q':VK),xs[i]? = some x->ys[i]? = some y->Q' y H->te (some x::rest) H Q')
  (q:∀p,H p=none->Q (.ref p) (upd H p (.lst ys))):j5 J (pw 0) wu te Q (none::rest) H:=by
 refine qx n hsz (λi zs Z H'=>H'=H/\zs=ys.take i/\∃x,Z=x::rest) ⟨rfl,by simp,_,rfl⟩ ?_ ?_ ?_ ?_ ?_
 .rintro i zs Z H' ⟨rfl,rfl,_⟩;rw[cB];lia
 .rintro i zs Z H' hi ⟨rfl,_,_⟩;exact hgo i hi
 .rintro zs Z H' ⟨rfl,_,_⟩;exact hstop
 .rintro i zs Z H1 x H' N hi ⟨rfl,rfl,z,rfl⟩ y hN;obtain⟨rfl,hx⟩:=hy i x H' hi y;show te (some x::rest) H' _;have hyi:ys[i]? = some ys[i]:=aE (by lia);refine hs i x ys[i] _ hx hyi (hN _ _ _ ⟨rfl,?_,_,rfl⟩);rw[bE,hyi];rfl
 .rintro zs Z H' p ⟨rfl,rfl,_⟩ hp;rw[<-hl,bf];exact q p hp
theorem Ca{rest:St}(hx:cI K H a xs)(hsz:xs.length<=sizeLine)(ys:List V)(hl:ys.length=xs.length)
  (hs:∀(i:Nat) (x y:V) (Q':VK),xs[i]? = some x->ys[i]? = some y->Q' y H->te (some x::rest) H Q')
  (q:∀p,H p=none->Q (.ref p) (upd H p (.lst ys))):j5 (IT K a) (pw 0) wu te Q (none::rest) H:=by
 refine yV xs.length hsz xs ys hl (λi hi=>⟨xs,xs[i],hx,by simp[hi]⟩) ⟨xs,hx,aI _⟩ (λi x H' hi y=>⟨y.1,y.2 xs hx⟩) hs q
theorem C9{rest:St}(hx:cj K H a xs)(hsz:xs.length<=sizeLine)(ys:List V)(hl:ys.length=xs.length)
  (hs:∀(i:Nat) (x y:V) (Q':VK),xs[i]? = some x->ys[i]? = some y->Q' y H->te (some x::rest) H Q')
  (q:∀p,H p=none->Q (.ref p) (upd H p (.lst ys))):j5 (M1 K a) (pw 0) wu te Q (none::rest) H:=
 yV xs.length hsz xs ys hl (λi hi=>⟨xs,xs[i],hx,by simp[hi]⟩) ⟨xs,hx,aI _⟩ (λi x H' hi y=>⟨y.1,y.2 xs hx⟩) hs q
end
end L2
namespace Rm
open PySem L2
theorem qi(lo:Int)(n:Nat):(gK lo n).length=n:=by simp[gK]
def i7(d:PyData):Bool:=isI d&&!N9 d
theorem Cv{K:U9}{H:Hp}{x:V}{d:PyData}{Q:VK}{E:XK}(h:Dat H x d)(q:Q (.bl (i7 d)) H):vx K [x] H Q E:=
 ⟨x,_,isI d,N9 d,rfl,h.ty,by cases h<;>rfl,by cases h<;>rfl,q⟩
theorem Hx{H:Hp}{xs:List V}{d e:PyData}(h:jV H xs [d,e]):∃x y,xs=[x,y]/\Dat H x d/\Dat H y e:=by
 cases h with
 | cons h1 h2=>
  cases h2 with
  | cons h3 h4=>cases h4;exact⟨_,_,rfl,h1,h3⟩
theorem xc{α β:Type}{f:α->β}{ys:List β}{zs:List β}(h:ys.Perm zs):∀{xs:List α},zs=xs.map f->∃xs':List α,xs'.Perm xs/\ys=xs'.map f:=by
 induction h with
 | nil=>intro xs e;exact⟨[],by rw[List.map_eq_nil_iff.mp e.symm],rfl⟩
 | cons x _ ih=>
  intro xs e;obtain⟨a,r,rfl,rfl,rfl⟩:=jx.mp e.symm;obtain⟨r',h1,rfl⟩:=ih rfl;exact⟨a::r',h1.cons a,rfl⟩
 | swap x y l=>
  intro xs e;obtain⟨a,r,rfl,rfl,e2⟩:=jx.mp e.symm;obtain⟨b,r2,rfl,rfl,rfl⟩:=jx.mp e2;exact⟨b::a::r2,.swap a b r2,rfl⟩
 | trans _ _ ih1 ih2=>
  intro xs e;obtain⟨r,h1,e1⟩:=ih2 e;obtain⟨r',h2,e2⟩:=ih1 e1;exact⟨r',h2.trans h1,e2⟩
theorem t6{α β:Type}{R:α->β->Prop}:∀{xs:List α} {ys:List β},Paired R xs ys->∃zs:List (α×β),xs=zs.map (·.1)/\ys=zs.map (·.2)/\∀z∈zs,R z.1 z.2
 | _,_,.nil=>⟨[],rfl,rfl,(λz h=>nomatch h)⟩
 | _,_,.cons (a:=a) (b:=b) r t=>by
  obtain⟨zs,rfl,rfl,h⟩:=t6 t;exact⟨(a,b)::zs,rfl,rfl,λz hz=>by
   rcases aL.mp hz with rfl | hz
   .exact r
   .exact h z hz⟩
theorem uS{α:Type}:∀{l:List α} {k:Nat} {y:α},l[k]? = some y->(y::l.eraseIdx k).Perm l
 | [],k,y,h=>by simp at h
 | x::l,0,y,h=>by
  have e:x=y:=by simpa using h
  subst e;exact .refl _
 | x::l,k+1,y,h=>by
  have ih:=uS (l:=l) (k:=k) (y:=y) (by simpa using h);exact(List.Perm.swap x y _).trans (ih.cons x)
end Rm
namespace L2
open PySem PySem.Spec PyProof.Rows
section
variable {κ:Type} [DecidableEq κ]
def gW(kvs:List (κ×V))(k:κ):Option V:=(kvs.find? λkv=>decide (kv.1=k)).map (·.2)
def putK(kvs:List (κ×V))(k:κ)(v:V):List (κ×V):=
 if (kvs.any λkv=>decide (kv.1=k))=true then kvs.map (λkv=>if kv.1=k then (kv.1,v) else kv) else kvs++[(k,v)]
theorem gR{p:κ×V}{r:List (κ×V)}{k:κ}(e:p.1=k):gW (p::r) k=some p.2:=by simp[gW,fS,e]
theorem fx{p:κ×V}{r:List (κ×V)}{k:κ}(e:¬p.1=k):gW (p::r) k=gW r k:=by simp[gW,fS,e]
theorem o7(k:κ):∀kvs:List (κ×V),(kvs.any λkv=>decide (kv.1=k))=(gW kvs k).isSome
 | []=>rfl
 | p::r=>by
  rw[f9];by_cases e:p.1=k
  .simp only[gR e,U5 e,Bool.true_or,Option.isSome_some]
  .rw[fx e,U4 e,mM];exact o7 k r
theorem wq(k j:κ)(y:V):∀kvs:List (κ×V),gW (kvs.map λkv=>if kv.1=k then (kv.1,y) else kv) j=(gW kvs j).map λx=>if j=k then y else x
 | []=>rfl
 | p::r=>by
  have ih:=wq k j y r;rw[af];by_cases h:p.1=k
  .rw[U2 h];by_cases e:p.1=j
   .rw[gR (p:=(p.1,y)) e,gR e,kG,U2 (e.symm.trans h)]
   .rw[fx (p:=(p.1,y)) e,fx e,ih]
  .rw[U1 h];by_cases e:p.1=j
   .rw[gR (p:=p) e,gR e,kG,U1 (λz=>h (e.trans z))]
   .rw[fx (p:=p) e,fx e,ih]
theorem uv(k j:κ)(y:V):∀kvs:List (κ×V),gW kvs k=none->gW (kvs++[(k,y)]) j=if j=k then some y else gW kvs j
 | [],_=>by
  by_cases e:k=j
  .rw[U2 e.symm];exact gR (p:=(k,y)) e
  .rw[U1 (λz=>e z.symm)];exact fx (p:=(k,y)) e
 | p::r,hn=>by
  rw[gF];have hk:¬p.1=k:=λz=>by rw[gR z] at hn;cases hn
  rw[fx hk] at hn;have ih:=uv k j y r hn;by_cases e:p.1=j
  .rw[gR e,gR e,U1 (λz=>hk (e.trans z))]
  .rw[fx e,fx e,ih]
theorem o0(kvs:List (κ×V))(k j:κ)(y:V):gW (putK kvs k y) j=if j=k then some y else gW kvs j:=by
 unfold putK;by_cases a:(kvs.any λkv=>decide (kv.1=k))=true
 .rw[U2 a,wq];rw[o7] at a;by_cases e:j=k
  .obtain⟨x,hx⟩:=iW.mp a;rw[U2 e,e,hx,kG,U2 rfl]
  .rw[U1 e];cases gW kvs j with
   | none=>rfl
   | some x=>rw[kG,U1 e]
 .rw[U1 a];refine uv k j y kvs ?_;rw[o7] at a;cases q:gW kvs k with
  | none=>rfl
  | some x=>rw[q] at a;exact(a rfl).elim
theorem iw(kvs:List (κ×V))(k:κ)(v:V):(putK kvs k v).length<=kvs.length+1:=by
 unfold putK
 split
 .rw[aA];lia
 .rw[aj,bL,fR];lia
theorem EY{kvs:List (κ×V)}{k:κ}(v:V)(h:gW kvs k=none):putK kvs k v=kvs++[(k,v)]:=by
 unfold putK;rw[o7,h];exact U1 (by decide)
theorem sQ.isSome_eq{o:Option V}{u:bt}(r:sQ o u):o.isSome=u.isSome:=by
 cases o with
 | none=>cases u with
  | none=>rfl
  | some _=>exact(show False from r).elim
 | some _=>cases u with
  | none=>exact(show False from r).elim
  | some _=>rfl
theorem KV.val{kvs:List (κ×V)}{vs:List (κ×Value)}(r:KV kvs vs)(k:κ):sQ (gW kvs k) (valueAt vs k):=by
 unfold KV at r
 induction r with
 | nil=>exact True.intro
 | @cons p q ps qs h t ih=>
  obtain⟨h1,h2⟩:=h;by_cases e:p.1=k
  .have e':q.1=k:=h1.symm.trans e;have b:valueAt (q::qs) k=some q.2:=by simp[valueAt,fS,e']
   rw[gR e,b];exact h2
  .have e':¬q.1=k:=λz=>e (h1.trans z);have b:valueAt (q::qs) k=valueAt qs k:=by simp[valueAt,fS,e']
   rw[fx e,b];exact ih
theorem KV.any{kvs:List (κ×V)}{vs:List (κ×Value)}(r:KV kvs vs)(k:κ):(kvs.any λkv=>decide (kv.1=k))=vs.any λkv=>decide (kv.1=k):=by
 unfold KV at r
 induction r with
 | nil=>rfl
 | cons h t ih=>rw[f9,f9,ih,h.1]
theorem KV.repl{kvs:List (κ×V)}{vs:List (κ×Value)}(r:KV kvs vs)(k:κ){y:V}{u:Value}(ry:RelV y u):
  KV (kvs.map λkv=>if kv.1=k then (kv.1,y) else kv) (vs.map λkv=>if kv.1=k then (kv.1,u) else kv):=by
 unfold KV at r |-
 induction r with
 | nil=>exact .nil
 | @cons p q ps qs h t ih=>
  rw[af,af];refine .cons ?_ ih;obtain⟨h1,h2⟩:=h;by_cases e:p.1=k
  .rw[U2 e,U2 (h1.symm.trans e)];exact⟨h1,ry⟩
  .rw[U1 e,U1 (λz=>e (h1.trans z))];exact⟨h1,h2⟩
theorem KV.put{kvs:List (κ×V)}{vs:List (κ×Value)}(r:KV kvs vs)(k:κ){y:V}{u:Value}(ry:RelV y u):KV (putK kvs k y) (stored vs k u):=by
 unfold putK stored;rw[r.any k];by_cases e:(vs.any λkv=>decide (kv.1=k))=true
 .rw[U2 e,U2 e];exact r.repl k ry
 .rw[U1 e,U1 e];exact Paired.snoc r ⟨rfl,ry⟩
theorem KV.length{kvs:List (κ×V)}{vs:List (κ×Value)}(r:KV kvs vs):kvs.length=vs.length:=bK r
end
theorem BH{P:Program}{w:World}{k:Key}{u:Value}(r:RelV (kV k) u):(fm P w).is k u=true:=by
 cases k with
 | inl i=>obtain⟨t,e⟩:=(show ∃t,u=Value.int i t from r);subst e;exact xq P w i t
 | inr x=>obtain⟨t,e⟩:=(show ∃t,u=Value.str x t from r);subst e;exact xp P w x t
theorem vY{P:Program}{w:World}:∀{ks:List Key} {us:ag},cH (ks.map kV) us->ItemsAre (fm P w) ks us
 | [],_,r=>by rw[eP] at r;cases r;exact .nil
 | k::ks,_,r=>by
  rw[af] at r;cases r with
  | cons h t=>exact .cons (BH h) (vY t)
abbrev KT (H:Hp):List (List Key×V)->List (List Key×Addr×Value)->Prop:=Paired λp q=>p.1=q.1/\H q.2.1=some (.tup (p.1.map kV))/\RelV p.2 q.2.2
theorem KT.val{H:Hp}{kvs:List (List Key×V)}{xs:List (List Key×Addr×Value)}(r:KT H kvs xs)(k:List Key):sQ (gW kvs k) ((atKey xs k).map (·.2)):=by
 induction r with
 | nil=>exact True.intro
 | @cons p q ps qs h t ih=>
  obtain⟨h1,_,h2⟩:=h;by_cases e:p.1=k
  .have e':q.1=k:=h1.symm.trans e;have b:atKey (q::qs) k=some q.2:=by simp[atKey,fS,e']
   rw[gR e,b];exact h2
  .have e':¬q.1=k:=λz=>e (h1.trans z);have b:atKey (q::qs) k=atKey qs k:=by simp[atKey,fS,e']
   rw[fx e,b];exact ih
theorem KT.repl{H:Hp}{kvs:List (List Key×V)}{xs:List (List Key×Addr×Value)}(r:KT H kvs xs)(k:List Key){y:V}{u:Value}(ry:RelV y u):
  KT H (kvs.map λkv=>if kv.1=k then (kv.1,y) else kv) (xs.map (putAt k u)):=by
 induction r with
 | nil=>exact .nil
 | @cons p q ps qs h t ih=>
  rw[af,af];refine .cons ?_ ih;obtain⟨h1,h2,h3⟩:=h;unfold putAt;by_cases e:p.1=k
  .rw[U2 e,U2 (h1.symm.trans e)];exact⟨h1,h2,ry⟩
  .rw[U1 e,U1 (λz=>e (h1.trans z))];exact⟨h1,h2,h3⟩
theorem KT.put{H:Hp}{kvs:List (List Key×V)}{xs:List (List Key×Addr×Value)}(r:KT H kvs xs)(k:List Key){b:Addr}{y:V}{u:Value}(hb:H b=some (.tup (k.map kV)))(ry:RelV y u):
  KT H (putK kvs k y) (storedH xs k b u):=by
 have e:(kvs.any λkv=>decide (kv.1=k))=(atKey xs k).isSome:=by
  rw[o7,(r.val k).isSome_eq,Option.isSome_map]
 unfold putK storedH;rw[e];by_cases q:(atKey xs k).isSome=true
 .rw[U2 q,U2 q];exact r.repl k ry
 .rw[U1 q,U1 q];exact Paired.snoc r ⟨rfl,hb,ry⟩
theorem KT.keeps{H H':Hp}{kvs:List (List Key×V)}{xs:List (List Key×Addr×Value)}(r:KT H kvs xs)(ht:∀b ys,H b=some (.tup ys)->H' b=some (.tup ys)):KT H' kvs xs:=
 Paired.mapP r λ_ _ z=>⟨z.1,ht _ _ z.2.1,z.2.2⟩
section
variable {P:Program}{w:World}{H:Hp}{h:Heap}{a:Addr}
theorem JC{u:HO}(ok:p7 P w H h)(e:Rd H a u):cc P w H h a u:=e.ok ok
theorem Fi{kvs:List (Key×V)}(ok:p7 P w H h)(e:Rd H a (.dK kvs)):kvs.length<=sizeLine/\(a==sysModules)=false/\∃vs,KV kvs vs/\h.DictOf (fm P w) a vs:=
 show cc P w H h a (.dK kvs) from JC ok e
theorem JM{kvs:List (Key×V)}(ok:p7 P w H h)(e:H a=some (.dK kvs)):kvs.length<=sizeLine/\(a==sysModules)=false/\∃vs,KV kvs vs/\h.DictOf (fm P w) a vs:=Fi ok (.inl e)
theorem zh{ks:List Key}(ok:p7 P w H h)(e:H a=some (.tup (ks.map kV))):(tupleKind (fm P w)).is h ks a:=by
 obtain⟨_,its,r,o,h1,h2,n,h3⟩:=(show cc P w H h a (.tup (ks.map kV)) from ok a _ e)
 exact⟨o,its.toArray,n,h1,h2,h3,by simpa using vY r⟩
theorem Fg{kvs:List (List Key×V)}(ok:p7 P w H h)(e:Rd H a (.dT kvs)):kvs.length<=sizeLine/\(a==sysModules)=false ∧
  ∃xs,KT H kvs xs/\h.DictOfH (tupleKind (fm P w)) a xs:=by
 obtain⟨z,y,xs,r,o,es,ep,h1,h2,h3,h4,h5⟩:=(show cc P w H h a (.dT kvs) from JC ok e)
 refine⟨z,y,xs,r,o,es,ep,h1,h2,h3,h4,λx hx=>?_,h5⟩;have all:∀{l:List (List Key×V)} {m:List (List Key×Addr×Value)},KT H l m->∀x∈m,(tupleKind (fm P w)).is h x.1 x.2.1:=by
  intro l m q
  induction q with
  | nil=>intro x hx;exact nomatch hx
  | @cons p q ps qs hq t ih=>
   intro x hx;rcases aL.mp hx with e | hx
   .subst e;exact zh ok (by rw[<-hq.1];exact hq.2.1)
   .exact ih x hx
 exact all r x hx
theorem MT{kvs:List (List Key×V)}(ok:p7 P w H h)(e:H a=some (.dT kvs)):kvs.length<=sizeLine/\(a==sysModules)=false ∧
  ∃xs,KT H kvs xs/\h.DictOfH (tupleKind (fm P w)) a xs:=Fg ok (.inl e)
end
def oX(H:Hp)(a:Addr)(y:V)(r:Option V):Prop:=
 (∃kvs k,Rd H a (.dK kvs)/\y=kV k/\r=gW kvs k)\/∃kvs k b,Rd H a (.dT kvs)/\y=.ref b/\H b=some (.tup (k.map kV))/\r=gW kvs k
def ur(H:Hp)(a:Addr)(y v:V)(H':Hp):Prop:=
 (∃kvs k,H a=some (.dK kvs)/\y=kV k/\kvs.length<sizeLine/\H'=upd H a (.dK (putK kvs k v))) ∨
 ∃kvs k b,H a=some (.dT kvs)/\y=.ref b/\H b=some (.tup (k.map kV))/\kvs.length<sizeLine/\H'=upd H a (.dT (putK kvs k v))
theorem oX.k{H:Hp}{a:Addr}{kvs:List (Key×V)}{k:Key}(e:H a=some (.dK kvs)):oX H a (kV k) (gW kvs k):=.inl ⟨kvs,k,.inl e,rfl,rfl⟩
theorem oX.t{H:Hp}{a b:Addr}{kvs:List (List Key×V)}{k:List Key}(e:H a=some (.dT kvs))(eb:H b=some (.tup (k.map kV))):oX H a (.ref b) (gW kvs k):=.inr ⟨kvs,k,b,.inl e,rfl,eb,rfl⟩
theorem ur.k{H:Hp}{a:Addr}{kvs:List (Key×V)}{k:Key}{v:V}(e:H a=some (.dK kvs))(hl:kvs.length<sizeLine):ur H a (kV k) v (upd H a (.dK (putK kvs k v))):=.inl ⟨kvs,k,e,rfl,hl,rfl⟩
theorem ur.t{H:Hp}{a b:Addr}{kvs:List (List Key×V)}{k:List Key}{v:V}(e:H a=some (.dT kvs))(eb:H b=some (.tup (k.map kV)))(hl:kvs.length<sizeLine):
  ur H a (.ref b) v (upd H a (.dT (putK kvs k v))):=.inr ⟨kvs,k,b,e,rfl,eb,hl,rfl⟩
section
variable {X:Cx}{pins:List (Addr×Obj)}{Z:St}{H:Hp}{s:Shared}{a:Addr}{y v:V}{u r:Value}{o:Option V}{A:Around}{E:Value->Shared->Prop}
theorem bc.big(I:bc X pins Z H s):sysModules<s.heap.objs.size:=by
 have h:mainGlobals<s.heap.objs.size:=(I.mod.glob.keeps I.bk).lt;exact Nat.lt_trans (by decide) h
theorem C6{Q:Value->Shared->Prop}(hu:A.units+1<cLine)(I:bc X pins Z H s)(g:oX H a y (some v))(ry:RelV y u)(h:∀w' s',bc X pins Z H s'->RelV v w'->Q w' s'):
  wpAny (model X.prog X.w) A (getItem (.ref a) u) Q E s:=by
 rcases g with ⟨kvs,k,e,ey,l⟩ | ⟨kvs,k,b,e,ey,eb,l⟩
 .subst ey;obtain⟨z,hd,vs,rel,dd⟩:=Fi I.hok e;obtain⟨w',hw,rw'⟩:=sQ.some_of (v:=v) (o:=valueAt vs k) (by rw[l];exact rel.val k);exact wpAny_getItem_of (BH ry) dd.mapOf hw (h w' _ (I.tok _) rw')
 .subst ey;cases (show u=Value.ref b from ry);obtain⟨z,hd,xs,rel,dd⟩:=Fg I.hok e;obtain⟨w',hw,rw'⟩:=sQ.some_of (v:=v) (o:=(atKey xs k).map (·.2)) (by rw[l];exact rel.val k);obtain⟨p,hp,hp2⟩:=fD.mp hw;refine wpAny_getItem_heap (tupleKind_room_in1 hu) (zh I.hok eb) dd hp ?_;rw[hp2];exact h w' _ (I.tok _) rw'
theorem w4{h':Heap}{t':Nat}{ob:HO}(I:bc X pins Z H s)(mu:MZ (H a))(hs:Heap.SameBut a s.heap h')(he:∃q,h'.get? a=some q)(new:cc X.prog X.w (upd H a ob) h' a ob):
  bc X pins Z (upd H a ob) { s with heap:=h',toks:=t' }:=
 I.write (x:=a) (e:=a) mu (.inl rfl) (λb q hb z=>(hs.2 b hb).trans z) he new
theorem Fj{P:Program}{w:World}{H':Hp}{h':Heap}{kvs:List (Key×V)}{vs:List (Key×Value)}(z:kvs.length<=sizeLine)(hd:(a==sysModules)=false)(rel:KV kvs vs)(dd:h'.DictOf (fm P w) a vs):
  cc P w H' h' a (.dK kvs):=⟨z,hd,vs,rel,dd⟩
theorem C5{H':Hp}{Q:Unit->Shared->Prop}(hu:A.units+1<cLine)(I:bc X pins Z H s)(g:ur H a y v H')(ry:RelV y u)(rv:RelV v r)(h:∀s',bc X pins Z H' s'->Q () s'):
  wpAny (model X.prog X.w) A (setItem (.ref a) u r) Q E s:=by
 rcases g with ⟨kvs,k,e,ey,l,eH⟩ | ⟨kvs,k,b,e,ey,eb,l,eH⟩
 .subst ey eH;obtain⟨z,hd,vs,rel,dd⟩:=JM I.hok e;have hz:vs.length<=sizeLine:=by rw[<-rel.length];exact z
  have hl:(putK kvs k v).length<=sizeLine:=by have:=iw kvs k v;lia
  refine wpAny_setItem_pairs (hsz:=hz) (BH ry) dd λh' dd' hs=>h _ ?_;have he:∃q,h'.get? a=some q:=let ⟨q,_,_,hq,_⟩:=dd';⟨q,hq⟩;exact w4 I (by rw[e];exact True.intro) hs he (Fj hl hd (rel.put k rv) dd')
 .subst ey eH;cases (show u=Value.ref b from ry);obtain⟨z,hd,xs,rel,dd⟩:=MT I.hok e;have hz:xs.length<=sizeLine:=by rw[<-bK rel];exact z
  have hl:(putK kvs k v).length<=sizeLine:=by have:=iw kvs k v;lia
  refine wpAny_setItem_heap (hsz:=hz) (tupleKind_room_in1 hu) (zh I.hok eb) dd λh' dd' hs=>h _ ?_;obtain⟨q,es,ep,hq,h2,h3,h4,_,h5⟩:=dd';refine w4 I (by rw[e];exact True.intro) hs ⟨q,hq⟩ ⟨hl,hd,_,(rel.put k eb rv).keeps λc ys ec=>?_,q,es,ep,hq,h2,h3,h4,h5⟩;rw[aO (En ec e (λz=>nomatch z))];exact ec
end
def MY(i:Expr):Prop:=∀ov iv,subscripted i false ov iv=operate [ov,iv] (getItem ov iv)
theorem Gi{prog:Program}{w:World}{A:Around}{E:Value->Shared->Prop}{s:Shared}{env:Env}{value slice:Expr}{pos:Pos}{T id:String}{Q:Value->Shared->Prop}
  (hl:typeLookup (.type T) "__getitem__"=pure (some (.builtin id))) (hs:MY slice)
  (h:wpAny (model prog w) A (eval value env) (λo s₁=>wpAny (model prog w) A (eval slice env) (λi s₂=>s₂.TypeIs o T/\wpAny (model prog w) A (getItem o i) Q E s₂) E s₁) E s) :
  wpAny (model prog w) A (eval (.Subscript value slice pos) env) Q E s:=by
 refine Subscript_ (wpAny_mono h (λo s₁ h₁=>wpAny_mono h₁ (λi s₂ h₂=>?_) λ_ _ x=>x) λ_ _ x=>x);obtain⟨hT,h₂⟩:=h₂;unfold subscriptTail;refine wpAny_bind ?_;rw[getitemInPython_of_ne hT.not_modules];exists (Ts hT hl ?_);have fin:wpAny (model prog w) A (subscripted slice false o i) (λr s₃=>wpAny (model prog w) A (letTemporaryGo value o r>>=λ_=>pure r) Q E s₃) E s₂:=by
  rw[hs o i];exact wpAny_operating (wpAny_mono h₂ (λr s₃ h₃=>wpAny_bind (wpAny_letTemporaryGo (wpAny_pure h₃))) λ_ _ x=>x)
 first
  | exact wpAny_pure (wpAny_bind fin)
  | exact wpAny_bind (wpAny_pure (wpAny_bind fin))
  | exact wpAny_bind fin
theorem yO {X:Cx} {pins:List (Addr×Obj)} {Z:St} {H:Hp} {s:Shared} {a:Addr} {y:V} {o:Option V} (I:bc X pins Z H s) (g:oX H a y o):s.TypeIs (.ref a) "dict":=by
 rcases g with ⟨kvs,k,e,_,_⟩ | ⟨kvs,k,b,e,_,_,_⟩
 .obtain⟨_,_,vs,_,dd⟩:=Fi I.hok e;exact dd.typeIs
 .obtain⟨_,_,xs,_,dd⟩:=Fg I.hok e;exact dd.typeIs
def Iv(td ty:TE):TE:=λZ H Q=>td Z H λx H1=>ty Z H1 λy H2=>∃a v,x=.ref a/\oX H2 a y (some v)/\Q v H2
def Mq(ty td:TE):TE:=λZ H Q=>ty Z H λy H1=>td Z H1 λx H2=>∃a o,x=.ref a/\oX H2 a y o/\Q (.bl o.isSome) H2
def Gh(ty td:TE):TE:=λZ H Q=>ty Z H λy H1=>td Z H1 λx H2=>∃a o,x=.ref a/\oX H2 a y o/\Q (.bl (!o.isSome)) H2
def JA(td ty tv:TE):TS:=λD Z H=>tv Z H λv H1=>td Z H1 λx H2=>ty Z H2 λy H3=>∃a H4,x=.ref a/\ur H3 a y v H4/\D.nx Z H4
theorem yN {P:Program} {w:World} {H:Hp} (h:Heap) (hb:sysModules<h.objs.size):cc P w H (h.push { cls:=.type "dict",data:=.dict #[] }) h.objs.size (.dK []):=
 ⟨ah _,beq_eq_false_iff_ne.mpr (fM (a6 hb)),[],.nil,Heap.DictOf.new h⟩
theorem Fh {P:Program} {w:World} {H:Hp} (h:Heap) (hb:sysModules<h.objs.size):cc P w H (h.push { cls:=.type "dict",data:=.dict #[] }) h.objs.size (.dT []):=
 ⟨ah _,beq_eq_false_iff_ne.mpr (fM (a6 hb)),[],.nil,_,#[],0,aP _ rfl,⟨rfl,rfl,rfl⟩,rfl,rfl,lZ⟩
def Dk:TE:=λ_ H Q=>∀p,H p=none->Q (.ref p) (upd H p (.dK []))
def Dj:TE:=λ_ H Q=>∀p,H p=none->Q (.ref p) (upd H p (.dT []))
def qG:List (TE×TE)->St->Hp->(List (V×V)->Hp->Prop)->Prop
 | [],_,H,Q=>Q [] H
 | (tk,tv)::r,Z,H,Q=>tk Z H λx H1=>tv Z H1 λy H2=>qG r Z H2 λps H3=>Q ((x,y)::ps) H3
abbrev VV:List (V×V)->List (Value×Value)->Prop:=Paired λp q=>RelV p.1 q.1/\RelV p.2 q.2
def Ny(X:Cx)(pos:Pos)(keys:List (Option Expr))(values:lc)(trs:List (TE×TE)):Prop:=
 ∀(pins:List (Addr×Obj)) (s:Shared) (Z:St) (H:Hp) (Q:List (V×V)->Hp->Prop),bc X pins Z H s->qG trs Z H Q →
  wpAny (model X.prog X.w) X.A (evalPairs (pairTrees keys values X.env pos)) (λvs s'=>∃ps H',bc X pins Z H' s'/\VV ps vs/\Q ps H') X.xe s
def qL(kvs more:List (Key×V)):List (Key×V):=more.foldl (λacc kv=>putK acc kv.1 kv.2) kvs
theorem KV.merge:∀{more:List (Key×V)} {rs:List (Key×Value)} {kvs:List (Key×V)} {vs:List (Key×Value)},KV more rs->KV kvs vs->KV (qL kvs more) (merged vs rs):=by
 intro more rs kvs vs r;unfold KV at r
 induction r generalizing kvs vs with
 | nil=>intro q;exact q
 | @cons p q ps qs h t ih=>
  intro r0;have e:KV (putK kvs p.1 p.2) (stored vs q.1 q.2):=by
   have:=r0.put p.1 h.2;rw[<-h.1];exact this
  exact ih e
theorem ph:∀(more kvs:List (Key×V)),(qL kvs more).length<=kvs.length+more.length
 | [],kvs=>by show kvs.length<=kvs.length+0;lia
 | p::r,kvs=>by
  have h1:=ph r (putK kvs p.1 p.2);have h2:=iw kvs p.1 p.2;show (qL (putK kvs p.1 p.2) r).length<=_;rw[bL];lia
theorem uV{P:Program}{w:World}:∀{kvs:List (Key×V)} {ws:List (Value×Value)},VV (kvs.map λkv=>(kV kv.1,kv.2)) ws->∃rs,Carries (fm P w) ws rs/\KV kvs rs
 | [],_,r=>by rw[eP] at r;cases r;exact⟨[],True.intro,.nil⟩
 | p::kvs,_,r=>by
  rw[af] at r;cases r with
  | @cons a b as bs h t=>
   obtain⟨rs,c,q⟩:=uV (P:=P) (w:=w) t;obtain⟨b1,b2⟩:=b;exact⟨(p.1,b2)::rs,⟨BH h.1,rfl,c⟩,.cons ⟨rfl,h.2⟩ q⟩
def Iu(trs:List (TE×TE)):TE:=λZ H Q=>∀p,H p=none->qG trs Z (upd H p (.dK [])) λps H2=>H2 p=some (.dK [])/\∃kvs:List (Key×V),ps=kvs.map (λkv=>(kV kv.1,kv.2))/\kvs.length<=15/\Q (.ref p) (upd H2 p (.dK (qL [] kvs)))
def Nh(H:Hp)(a:Addr):Prop:=(∃kvs,Rd H a (.dK kvs))\/∃kvs,Rd H a (.dT kvs)
def Jl(td ty tx:TE):TE:=λZ H Q=>td Z H λx H1=>∃a,x=.ref a/\Nh H1 a/\ty Z H1 λy H2=>tx Z H2 λz H3=>∃o,oX H3 a y o/\Q (o.getD z) H3
end L2
namespace Rm
open PySem PySem.W PyProof.Rows
section
variable {r:Nat->Int}{N:Nat}{cmp:Nat->Nat->(Bool->Shared->Prop)->Shared->Prop}{s:Shared}{prog:Program}{w:World}{A:Around}{E:Value->Shared->Prop}
def Told(r:Nat->Int)(N:Nat)(cmp:Nat->Nat->(Bool->Shared->Prop)->Shared->Prop)(s:Shared):Prop:=
 ∀i j,i<N->j<N->∀C:Bool->Shared->Prop,C (decide (r i<r j)) s->cmp i j C s
def In(N:Nat)(p:Array Nat):Prop:=p.size=N/\∀i,p.getD i 0<N
def Kk(r:Nat->Int)(p:Array Nat)(i:Nat):Int:=r (p.getD i 0)
def u7(r:Nat->Int)(p:Array Nat)(k:Nat):Prop:=∀i j,i<=j->j<k->Kk r p i<=Kk r p j
def JQ(r:Nat->Int)(p:Array Nat)(k:Nat):Prop:=∀i j,i<=j->j<k->Kk r p j<=Kk r p i
theorem pG{p q:Array Nat}{i j:Nat}(h:p[i]? = q[j]?):Kk r p i=Kk r q j:=by
 unfold Kk;rw[bU,bU,h]
theorem wb{p:Array Nat}{i j:Nat}(hj:j<=p.size)(k:Nat):Kk r (kas_rev p i j) k=if i<=k/\k<j then Kk r p (i+j - 1-k) else Kk r p k:=by
 have e:=getElem?_mirror_all (i:=i) hj k;unfold kas_rev;by_cases h1:i<=k/\k<j
 .rw[U2 h1] at e |-;exact pG e
 .rw[U1 h1] at e |-;exact pG e
theorem vo{p:Array Nat}{src d:Nat}(hs:src<p.size)(hd:d<=src)(k:Nat):Kk r (bubble p src d) k=if k=src-d then Kk r p src else if src-d<k/\k<=src then Kk r p (k - 1) else Kk r p k:=by
 have e:=getElem?_bubble hs d hd k;by_cases h1:k=src-d
 .rw[U2 h1] at e |-;exact pG e
 .rw[U1 h1] at e |-;by_cases h2:src-d<k/\k<=src
  .rw[U2 h2] at e |-;exact pG e
  .rw[U1 h2] at e |-;exact pG e
theorem In.of_perm{p q:Array Nat}(h:In N p)(hp:q.Perm p):In N q:=by
 refine⟨hp.size_eq.trans h.1,λi=>?_⟩;rw[bU];cases e:q[i]? with
 | none=>
  have:=h.2 N;rw[bU,jT (kd h.1)] at this;exact this
 | some x=>
  have hx:x∈q:=oY e;have hx':x∈p:=hp.mem_iff.mp hx;obtain⟨j,hj,rfl⟩:=Array.mem_iff_getElem.mp hx';have:=h.2 j;rw[bU,cQ hj] at this;exact this
theorem In.rev{p:Array Nat}(h:In N p)(i j:Nat):In N (kas_rev p i j):=h.of_perm (Tt _ _ _ _)
theorem uW(T:Told r N cmp s){G:Nat->Shared->Prop}{p:Array Nat}(hp:In N p):∀(f n:Nat),1<=n->u7 r p n->(∀m,n<=m->m<=n+f->u7 r p m->(m<n+f->Kk r p m<Kk r p (m - 1))->G m s)->(kas_asc p f n).kasWp cmp G s
 | 0,n,_,ha,hG=>hG n (aI _) (aI _) ha (λh=>absurd h (by lia))
 | f+1,n,h1,ha,hG=>by
  refine T _ _ (hp.2 _) (hp.2 _) _ ?_;by_cases c:Kk r p n<Kk r p (n - 1)
  .have c':r (p.getD n 0)<r (p.getD (n - 1) 0):=c;rw[U5 c'];exact hG n (aI _) (by lia) ha λ_=>c
  .have c':¬r (p.getD n 0)<r (p.getD (n - 1) 0):=c;rw[U4 c'];refine uW T hp f (n+1) (by lia) (λi j hij hj=>?_) λm a b c2 d=>hG m (by lia) (by lia) c2 λe=>d (by lia);by_cases e:j=n
   .subst e;by_cases e2:i=j
    .subst e2;exact dv _
    .have:=ha i (j - 1) (by lia) (by lia);lia
   .exact ha i j hij (by lia)
def Kq(r:Nat->Int)(p:Array Nat)(n q:Nat):Prop:=q<n/\∀k,n-(q+1)<=k->k<n->Kk r p k=Kk r p (n - 1)
theorem xS{p:Array Nat}{n q:Nat}(hn:n<=p.size)(h:Kq r p n q)(k:Nat):Kk r (kas_rev p (n-(q+1)) n) k=Kk r p k:=by
 rw[wb hn]
 split
 .rw[h.2 _ (by have:=h.1;lia) (by lia),h.2 k (by lia) (by lia)]
 .rfl
theorem JQ.same{p p':Array Nat}{n:Nat}(h:JQ r p n)(e:∀k,Kk r p' k=Kk r p k):JQ r p' n:=λi j a b=>by rw[e,e];exact h i j a b
theorem rY(T:Told r N cmp s){G:Array Nat×Nat×Nat->Shared->Prop}:∀(f:Nat) (p:Array Nat) (n q:Nat),In N p->n+f<=N->JQ r p n->Kq r p n q →
  (∀p' n' q',p'.Perm p->n<=n'->n'<=n+f->JQ r p' n'->Kq r p' n' q'->G (p',n',q') s)->(kas_desc f p n q).kasWp cmp G s
 | 0,p,n,q,_,_,hd,ht,hG=>hG p n q (.refl _) (aI _) (aI _) hd ht
 | f+1,p,n,q,hp,hN,hd,ht,hG=>by
  refine T _ _ (hp.2 _) (hp.2 _) _ ?_;by_cases c:Kk r p n<Kk r p (n - 1)
  .have c':r (p.getD n 0)<r (p.getD (n - 1) 0):=c;rw[U5 c'];have hq:=ht.1;have grow:∀p':Array Nat,p'.Perm p->(∀k,Kk r p' k=Kk r p k)->(kas_desc f p' (n+1) 0).kasWp cmp G s:=λp' hpp e=>by
    refine rY T f p' (n+1) 0 (hp.of_perm hpp) (by lia) (λi j hij hj=>?_) ⟨by lia,λk h1 h2=>by have e9:k=n:=(by lia);rw[e9];rfl⟩ λp2 n2 q2 a b c2 d e2=>hG p2 n2 q2 (a.trans hpp) (by lia) (by lia) d e2;rw[e,e];by_cases e3:j=n
    .subst e3;by_cases e4:i=j
     .subst e4;exact dv _
     .have:=hd i (j - 1) (by lia) (by lia);lia
    .exact hd i j hij (by lia)
   show KasT.kasWp cmp (if true=true then (if q > 0 then kas_desc f (kas_rev p (n-(q+1)) n) (n+1) 0 else kas_desc f p (n+1) 0) else _) G s;rw[U2 rfl]
   split
   .exact grow _ (Tt _ _ _ _) (xS (by rw[hp.1];lia) ht)
   .exact grow p (.refl _) λ_=>rfl
  .have c':¬r (p.getD n 0)<r (p.getD (n - 1) 0):=c;rw[U4 c'];show KasT.kasWp cmp (if false=true then _ else KasT.ask (p.getD (n - 1) 0) (p.getD n 0) λd=>if d=true then .ret (p,n,q) else kas_desc f p (n+1) (q+1)) G s;rw[U1 (by simp)];refine T _ _ (hp.2 _) (hp.2 _) _ ?_;by_cases d:Kk r p (n - 1)<Kk r p n
   .have d':r (p.getD (n - 1) 0)<r (p.getD n 0):=d;rw[U5 d'];exact hG p n q (.refl _) (aI _) (by lia) hd ht
   .have d':¬r (p.getD (n - 1) 0)<r (p.getD n 0):=d;rw[U4 d'];have hq:=ht.1;have eq:Kk r p n=Kk r p (n - 1):=by lia
    refine rY T f p (n+1) (q+1) hp (by lia) (λi j hij hj=>?_) ⟨by lia,λk h1 h2=>?_⟩ λp2 n2 q2 a b c2 d2 e2=>hG p2 n2 q2 a (by lia) (by lia) d2 e2
    .by_cases e3:j=n
     .subst e3;by_cases e4:i=j
      .subst e4;exact dv _
      .have:=hd i (j - 1) (by lia) (by lia);lia
     .exact hd i j hij (by lia)
    .show Kk r p k=Kk r p n;by_cases e3:k=n
     .rw[e3]
     .rw[eq];exact ht.2 k (by lia) (by lia)
def LH(r:Nat->Int)(p:Array Nat)(nrem:Nat)(G:Nat×Array Nat->Shared->Prop)(s:Shared):Prop:=∀n p',p'.Perm p->1<=n->n<=nrem->u7 r p' n->G (n,p') s
theorem tG(T:Told r N cmp s){G:Nat×Array Nat->Shared->Prop}{p:Array Nat}{n:Nat}(hp:In N p)(h1:1<=n)(hn:n<=N)(hd:JQ r p n)(hG:LH r p N G s):(kas_tail3 n N p).kasWp cmp G s:=by
 unfold kas_tail3;rw[KasT.kasWp_bind];refine uW T (hp.rev 0 n) (N-n) n h1 (λi j hij hj=>?_) λm a b c _=>hG m _ (Tt _ _ _ _) (by lia) (by lia) c;rw[wb (by rw[hp.1];exact hn),wb (by rw[hp.1];exact hn),U2 (by lia),U2 (by lia)];exact hd _ _ (by lia) (by lia)
theorem LH.perm{p q:Array Nat}{G:Nat×Array Nat->Shared->Prop}(h:LH r p N G s)(hp:q.Perm p):LH r q N G s:=λn p' a b c d=>h n p' (a.trans hp) b c d
theorem qA(T:Told r N cmp s){G:Nat×Array Nat->Shared->Prop}{p:Array Nat}{n:Nat}(hp:In N p)(hn:n+1<=N)(h1:1<=n)(hd:JQ r p (n+1))(hG:LH r p N G s):(kas_descPart n N p).kasWp cmp G s:=by
 unfold kas_descPart;rw[KasT.kasWp_bind];refine rY T _ p (n+1) 0 hp (by lia) hd ⟨by lia,λk a b=>by have e9:k=n:=(by lia);rw[e9];rfl⟩ λp' n' q' a b c d e=>?_;dsimp only;have hp':=hp.of_perm a
 split
 .exact tG T (hp'.rev _ _) (by lia) (by lia) (d.same (xS (by rw[hp'.1];lia) e)) (hG.perm ((Tt _ _ _ _).trans a))
 .exact tG T hp' (by lia) (by lia) d (hG.perm a)
theorem zw(T:Told r N cmp s){G:Nat×Array Nat->Shared->Prop}{p:Array Nat}(hp:In N p)(hN:1<=N)(hG:LH r p N G s):(kas_count N p).kasWp cmp G s:=by
 unfold kas_count;rw[KasT.kasWp_bind];refine uW T hp (N - 1) 1 (aI _) (λi j a b=>by have e9:i=j:=(by lia);rw[e9];exact dv _) λn h1 h2 ha hb=>?_;by_cases e:n=N
 .subst e;rw[U2 (by simp)];exact hG n p (.refl _) h1 (aI _) ha
 .rw[U1 (by simp[e])];have hlt:=hb (by lia)
  split
  .refine T _ _ (hp.2 _) (hp.2 _) _ ?_;by_cases c:Kk r p 0<Kk r p (n - 1)
   .have c':r (p.getD 0 0)<r (p.getD (n - 1) 0):=c;rw[U5 c'];exact hG n p (.refl _) h1 (by lia) ha
   .have c':¬r (p.getD 0 0)<r (p.getD (n - 1) 0):=c;rw[U4 c'];have alike:∀k,k<n->Kk r p k=Kk r p (n - 1):=λk hk=>by
     have a1:=ha 0 k (by lia) hk;have a2:=ha k (n - 1) (by lia) (by lia);lia
    have same:∀k,Kk r (kas_rev p 0 n) k=Kk r p k:=λk=>by
     rw[wb (by rw[hp.1];lia)]
     split
     .rw[alike _ (by lia),alike k (by lia)]
     .rfl
    refine qA T (hp.rev 0 n) (by lia) h1 (JQ.same (p:=p) (λi j hij hj=>?_) same) (hG.perm (Tt _ _ _ _));by_cases e3:j=n
    .subst e3;by_cases e4:i=j
     .subst e4;exact dv _
     .rw[alike i (by lia)];lia
    .rw[alike i (by lia),alike j (by lia)];exact dv _
  .have:n=1:=by lia
   subst this;refine qA T hp (by lia) (aI _) (λi j hij hj=>?_) hG;have hj':j=0\/j=1:=by lia
   have hi':i=0\/i=1:=by lia
   rcases hj' with rfl | rfl<;>rcases hi' with rfl | rfl
   .exact dv _
   .lia
   .have:Kk r p 1<Kk r p 0:=hlt;lia
   .exact dv _
theorem place_spec(T:Told r N cmp s){G:Nat->Shared->Prop}{p:Array Nat}{k:Nat}(hp:In N p)(hs:u7 r p k):∀(f l e:Nat),e<=k->e<=l+f->l<=e->(∀i,i<l->Kk r p i<=Kk r p k)->(∀i,e<=i->i<k->Kk r p k<Kk r p i) →
  (∀l,l<=k->(∀i,i<l->Kk r p i<=Kk r p k)->(∀i,l<=i->i<k->Kk r p k<Kk r p i)->G l s)->(kas_place p k f l e).kasWp cmp G s
 | 0,l,e,h1,h2,h3,h4,h5,hG=>by
  have:l=e:=by lia
  subst this;exact hG l h1 h4 h5
 | f+1,l,e,h1,h2,h3,h4,h5,hG=>by
  unfold kas_place
  split
  .have:l=e:=by lia
   subst this;exact hG l h1 h4 h5
  .refine T _ _ (hp.2 _) (hp.2 _) _ ?_;by_cases c:Kk r p k<Kk r p ((l+e) / 2)
   .have c':r (p.getD k 0)<r (p.getD ((l+e) / 2) 0):=c;rw[U5 c'];refine place_spec T hp hs f l ((l+e) / 2) (by lia) (by lia) (by lia) h4 (λi a b=>?_) hG;have:=hs ((l+e) / 2) i a b;lia
   .have c':¬r (p.getD k 0)<r (p.getD ((l+e) / 2) 0):=c;rw[U4 c'];refine place_spec T hp hs f ((l+e) / 2+1) e h1 (by lia) (by lia) (λi a=>?_) h5 hG;have:=hs i ((l+e) / 2) (by lia) (by lia);lia
theorem AI{p:Array Nat}{k l:Nat}(hk:k<p.size)(hs:u7 r p k)(hl:l<=k)(h1:∀i,i<l->Kk r p i<=Kk r p k)(h2:∀i,l<=i->i<k->Kk r p k<Kk r p i):u7 r (bubble p k (k-l)) (k+1):=λi j hij hj=>by
 rw[vo hk (by lia),vo hk (by lia)];have e:k-(k-l)=l:=by lia
 rw[e];by_cases i1:i=l
 .rw[U2 i1];by_cases j1:j=l
  .rw[U2 j1];exact dv _
  .rw[U1 j1,U2 (by lia)];have:=h2 (j - 1) (by lia) (by lia);lia
 .rw[U1 i1];by_cases i2:l<i/\i<=k
  .rw[U2 i2,U1 (by lia),U2 (by lia)];exact hs _ _ (by lia) (by lia)
  .rw[U1 i2];by_cases j1:j=l
   .rw[U2 j1];exact h1 i (by lia)
   .rw[U1 j1];by_cases j2:l<j/\j<=k
    .rw[U2 j2];exact hs _ _ (by lia) (by lia)
    .rw[U1 j2];exact hs _ _ (by lia) (by lia)
theorem yc(T:Told r N cmp s){G:Array Nat->Shared->Prop}:∀(f:Nat) (p:Array Nat) (k:Nat),In N p->k+f=N->u7 r p k->(∀p',p'.Perm p->u7 r p' N->G p' s)->(kas_bin f p k).kasWp cmp G s
 | 0,p,k,hp,hk,hs,hG=>hG p (.refl _) (by have e9:k=N:=(by lia);rw[<-e9];exact hs)
 | f+1,p,k,hp,hk,hs,hG=>by
  unfold kas_bin;rw[KasT.kasWp_bind];refine place_spec T hp hs k 0 k (aI _) (by lia) (by lia) (λi h=>absurd h (by lia)) (λi h h'=>absurd h' (by lia)) λl h1 h2 h3=>?_;refine yc T f _ (k+1) (hp.of_perm (bubble_perm _ _ _)) (by lia) (AI (by rw[hp.1];lia) hs h1 h2 h3) λp' a b=>hG p' (a.trans (bubble_perm _ _ _)) b
theorem vB(T:Told r N cmp s){G:Array Nat->Shared->Prop}(hN:1<=N)(hG:∀p:Array Nat,p.Perm (List.toArray (List.range N))->u7 r p N->G p s):(kas_sort N).kasWp cmp G s:=by
 have h0:In N (List.toArray (List.range N)):=⟨by simp,λi=>by
  rw[bU];cases e:(List.toArray (List.range N))[i]? with
  | none=>exact hN
  | some x=>
   have:=oY e;simpa using this⟩
 unfold kas_sort;rw[KasT.kasWp_bind];refine zw T h0 hN λn p a b c d=>?_;dsimp only;have hp:=h0.of_perm a
 split
 .have e:max n 1=n:=by lia
  rw[e];exact yc T _ p n hp (by lia) d λp' x y=>hG p' (x.trans a) y
 .have:n=N:=by lia
  subst this;exact hG p a d
def fy(vs:ag)(p:Array Nat):Array Value:=List.toArray (p.toList.map λi=>vs.getD i Value.none)
theorem Bd:∀vs:ag,vs.length<2->(vs.toArray.zip vs.toArray).map (·.2)=fy vs (List.toArray (List.range vs.length))
 | [],_=>by simp[fy]
 | [v],_=>by simp[fy]
 | _::_::_,h=>by simp at h;lia
def Kp(a:Addr)(h h':Heap):Prop:=∀b o,b≠a->h.get? b=some o->h'.get? b=some o
theorem uG {a:Addr} {vs:ag} {n:Nat} {P:PySem.Fin->Shared->Prop} {r:Nat->Int} (κ:SortKind) (ho:s.heap.get? a=some (seqObj "list" vs.toArray n)) (h64:vs.length<64)
  (hk:2<=vs.length->∀(h':Heap) (Q:SortKind->Shared->Prop),Kp a s.heap h'->Q κ { s with heap:=h' }->wpAny (model prog w) A (keyKind' vs.toArray) Q E { s with heap:=h' })
  (hc:∀i j,i<vs.length->j<vs.length->∀(h':Heap) (C:Bool->Shared->Prop),Kp a s.heap h'->C (decide (r i<r j)) { s with heap:=h' }->wpAny (model prog w) A (keyLt' κ (vs.getD i Value.none) (vs.getD j Value.none)) C (λ_ _=>False) { s with heap:=h' })
  (h:∀p:Array Nat,p.Perm (List.toArray (List.range vs.length))->u7 r p vs.length->P (.done (.ret .none)) { s with heap:=sortedHeap s.heap a vs (fy vs p) }) :
  wpAny (model prog w) A (Builtin.«list.sort» ⟨[.ref a],[]⟩) P E s:=by
 rw[list_sort_plain];have ha:a<s.heap.objs.size:=aN ho;exists (listItems_at ho rfl ?_);exists (listUpdate_at ho rfl ?_);obtain⟨e1,ho1⟩:∃e1,(s.heap.update a (Obj.mapSeq λ_=>#[])).get? a=some (seqObj "list" #[] e1):=⟨_,Tu ho (λ_=>#[])⟩
 exists (Tv ho1 rfl ?_);exists (wpAny_newTuple ?_);exists (Tw ?_);refine Tx ?_;have ho6:(((s.heap.update a (Obj.mapSeq λ_=>#[])).push (seqObj "tuple" vs.toArray 0)).push (seqObj "list" #[] 0)).get? a=some (seqObj "list" #[] e1):=by
  rw[jQ _ _ _ (by rw[size_push',iL];exact a6 (dI ha)),jQ _ _ _ (by rw[iL];exact a6 ha)];exact ho1
 have kp6:Kp a s.heap (((s.heap.update a (Obj.mapSeq λ_=>#[])).push (seqObj "tuple" vs.toArray 0)).push (seqObj "list" #[] 0)):=λb o hb e=>
  aB _ (aB _ (by rw[dq _ _ _ _ hb];exact e))
 show wpAny (model prog w) A _ P E { s with heap:=((s.heap.update a (Obj.mapSeq λ_=>#[])).push (seqObj "tuple" vs.toArray 0)).push (seqObj "list" #[] 0) };dsimp only;have hsz:vs.toArray.size=vs.length:=by simp
 by_cases h2:vs.toArray.size<2
 .rw[U2 h2,U2 h2];exists (wpAny_pure ?_);rw[StateT.run_pure];exists (wpAny_pure ?_);dsimp only;exists (Tv ho6 rfl ?_);exists (listUpdate_at ho6 rfl ?_ (hsz2:=by rw[pH];show (pairsOf vs).size<=_;rw[pairsOf_size,Tg];lia));simp only[bne_self_eq_false,bR,U8];have e:(arrOf (SortSt.mk' general' (vs.toArray.zip vs.toArray) #[] 7 none)).map (·.2)=fy vs (List.toArray (List.range vs.length)):=by
   exact Bd vs (by lia)
  rw[e];refine wpAny_pure (h (List.toArray (List.range vs.length)) (Array.Perm.refl _) ?_);intro i j hij hj;have e9:i=j:=by lia
  rw[e9];exact dv _
 .rw[U1 h2,U1 h2];exists (hk (by lia) _ _ kp6 ?_);have T:Told r vs.length (kas_ask prog w A κ vs) { s with heap:=((s.heap.update a (Obj.mapSeq λ_=>#[])).push (seqObj "tuple" vs.toArray 0)).push (seqObj "list" #[] 0) }:=λi j hi hj C hC=>hc i j hi hj _ C kp6 hC;exists (wpAny_mono (kat_run (ks:=vs) (vs:=vs) (Q:=λst' s'=>s'={ s with heap:=((s.heap.update a (Obj.mapSeq λ_=>#[])).push (seqObj "tuple" vs.toArray 0)).push (seqObj "list" #[] 0) }/\∃p:Array Nat,p.size=vs.length/\arrOf st'=p.map (kas_item (vs.toArray.zip vs.toArray))/\failedOf st'=none/\p.Perm (List.toArray (List.range vs.length))/\u7 r p vs.length)
   (G:=λp s'=>s'={ s with heap:=((s.heap.update a (Obj.mapSeq λ_=>#[])).push (seqObj "tuple" vs.toArray 0)).push (seqObj "list" #[] 0) }/\p.Perm (List.toArray (List.range vs.length))/\u7 r p vs.length)
   rfl (by lia) h64 (λp' st' s' a1 a2 a3 a4=>⟨a4.1,p',a1,a2,a3,a4.2⟩) (vB T (by lia) λp hp ha=>⟨rfl,hp,ha⟩)) ?_ λ_ _ e=>e)
  rintro⟨⟨⟩,st'⟩ s' ⟨rfl,p,hps,har,hf,hp,hs⟩;dsimp only;have hout:=kat_snds (ks:=vs) (vs:=vs) rfl har;rw[hout];exists (Tv ho6 rfl ?_);exists (listUpdate_at ho6 rfl ?_ (hsz2:=by rw[aQ,aA,bp,hps,Tg];lia));rw[hf];simp only[bne_self_eq_false,bR,U8];exact wpAny_pure (h p hp hs)
theorem o9 {l:Addr} {vs:ag} {Q:Value->Shared->Prop} {r:Nat->Int} (κ:SortKind) (hcol:∀(A:Around) (E:Value->Shared->Prop) (Q:ag->Shared->Prop),Q vs { s with heap:=(s.heap.push (seqObj "list" #[] 0)).update s.heap.objs.size (Obj.mapSeq (·++vs.toArray)) }->wpAny (model prog w) A (collect (.ref l)) Q E s) (h64:vs.length<64)
  (hk:2<=vs.length->∀(h':Heap) (Q:SortKind->Shared->Prop),(∀b o,s.heap.get? b=some o->h'.get? b=some o)->Q κ { s with heap:=h' }->wpAny (model prog w) A.in1.in1 (keyKind' vs.toArray) Q (λ_ _=>False) { s with heap:=h' })
  (hc:∀i j,i<vs.length->j<vs.length->∀(h':Heap) (C:Bool->Shared->Prop),(∀b o,s.heap.get? b=some o->h'.get? b=some o)->C (decide (r i<r j)) { s with heap:=h' }->wpAny (model prog w) A.in1.in1 (keyLt' κ (vs.getD i Value.none) (vs.getD j Value.none)) C (λ_ _=>False) { s with heap:=h' })
  (h:∀p:Array Nat,p.Perm (List.toArray (List.range vs.length))->u7 r p vs.length->Q (.ref (s.heap.objs.size+1)) { s with heap:=sortedAll s.heap vs (fy vs p) }) :
  wpAny (model prog w) A (call (.builtin "sorted") [.ref l]) Q E s:=by
 refine Calls.call_function_entry kind_sorted plain_sorted entry_sorted (args_sorted1 _) ?_;unfold Builtin.«sorted»;refine wpAny_bind (m:=checkCount "sorted" 1 1 _) (wpAny_pure ?_);exists (hcol _ _ _ ?_);exists (Tw ?_);have hsz:((s.heap.push (seqObj "list" #[] 0)).update s.heap.objs.size (Obj.mapSeq (·++vs.toArray))).objs.size=s.heap.objs.size+1:=by
  rw[iL,size_push']
 have hoL:(((s.heap.push (seqObj "list" #[] 0)).update s.heap.objs.size (Obj.mapSeq (·++vs.toArray))).push (seqObj "list" vs.toArray 0)).get? (s.heap.objs.size+1)=some (seqObj "list" vs.toArray 0):=by
  rw[<-hsz];exact aP _ rfl
 have keep:∀b o,s.heap.get? b=some o->(((s.heap.push (seqObj "list" #[] 0)).update s.heap.objs.size (Obj.mapSeq (·++vs.toArray))).push (seqObj "list" vs.toArray 0)).get? b=some o:=λb o q=>by
  have hlt:b<s.heap.objs.size:=aN q;rw[jQ _ _ _ (by rw[hsz];exact a6 (dI hlt)),dq _ _ _ _ (a6 hlt),jQ _ _ _ (a6 hlt)];exact q
 have keep2:∀h',Kp (s.heap.objs.size+1) (((s.heap.push (seqObj "list" #[] 0)).update s.heap.objs.size (Obj.mapSeq (·++vs.toArray))).push (seqObj "list" vs.toArray 0)) h'->∀b o,s.heap.get? b=some o->h'.get? b=some o:=λh' k b o q=>
  k b o (a6 (dI (aN q))) (keep b o q)
 show wpAny _ _ _ _ _ { s with heap:=((s.heap.push (seqObj "list" #[] 0)).update s.heap.objs.size (Obj.mapSeq (·++vs.toArray))).push (seqObj "list" vs.toArray 0) };rw[hsz];exists (Tx (Tz slot_list_sort ⟨_,hoL,rfl⟩ entry_list_sort (uG (r:=r) κ hoL h64 (λh2 h' Q k q=>?_) (λi j hi hj h' C k q=>?_) λp hp ha=>⟨_,rfl,?_⟩) (args_list_sort _)))
 .exact wpAny_mono (hk h2 h' Q (keep2 h' k) q) (λ_ _ z=>z) λ_ _ z=>z.elim
 .exact hc i j hi hj h' C (keep2 h' k) q
 .exact wpAny_pure ⟨_,rfl,h p hp ha⟩
theorem rp{l:Addr}{vs:ag}{Q:Value->Shared->Prop}{r:Nat->Int}(κ:SortKind)(hl:s.heap.IsList l vs.toArray)(h64:vs.length<64)
  (hk:2<=vs.length->∀(h':Heap) (Q:SortKind->Shared->Prop),(∀b o,s.heap.get? b=some o->h'.get? b=some o)->Q κ { s with heap:=h' }->wpAny (model prog w) A.in1.in1 (keyKind' vs.toArray) Q (λ_ _=>False) { s with heap:=h' })
  (hc:∀i j,i<vs.length->j<vs.length->∀(h':Heap) (C:Bool->Shared->Prop),(∀b o,s.heap.get? b=some o->h'.get? b=some o)->C (decide (r i<r j)) { s with heap:=h' }->wpAny (model prog w) A.in1.in1 (keyLt' κ (vs.getD i Value.none) (vs.getD j Value.none)) C (λ_ _=>False) { s with heap:=h' })
  (h:∀p:Array Nat,p.Perm (List.toArray (List.range vs.length))->u7 r p vs.length->Q (.ref (s.heap.objs.size+1)) { s with heap:=sortedAll s.heap vs (fy vs p) }) :
  wpAny (model prog w) A (call (.builtin "sorted") [.ref l]) Q E s:=
 o9 κ (λA E Q q=>collect_list hl q (by rw[Tg];lia)) h64 hk hc h
theorem yY{l:Addr}{vs:ag}{Q:ag->Shared->Prop}(hl:IsTup s.heap l vs.toArray)
  (h:Q vs { s with heap:=(s.heap.push (seqObj "list" #[] 0)).update s.heap.objs.size (Obj.mapSeq (·++vs.toArray)) }) (hsz:vs.length<=sizeLine) :
  wpAny (model prog w) A (collect (.ref l)) Q E s:=by
 obtain⟨o,ho,hc,n,hd⟩:=id hl;unfold collect;exists (wpAny_runValue (UA entry_proto_collect' ?_));show wpAny _ _ (do again (.builtin "list.__iadd__" ⟨[<-newList [],.ref l],[]⟩)) _ _ s;exists (Tw (wpAny_pure ⟨ig _ (by symm),UA entry_list_iadd' ?_⟩));show wpAny _ _ (Builtin.List.listExtendWith (.ref s.heap.objs.size) (.ref l) (.ref s.heap.objs.size)) _ _ { s with heap:=s.heap.push (seqObj "list" #[] 0) };unfold Builtin.List.listExtendWith;have ho':(s.heap.push (seqObj "list" #[] 0)).get? l=some o:=aB _ ho;exists (wpAny_typeOf (T:="tuple") ⟨o,ho',hc⟩ ?_);have ht:(Value.type "tuple"==Value.type "tuple")=true:=by rfl
 rw[U2 (by rw[ht];simp)];exists (listItems_at ho' hd ?_);exists (listItems_at (xs:=#[]) (n:=0) (aP _ rfl) rfl ?_);rw[U1 (by simp)];exists (listUpdate_at (xs:=#[]) (n:=0) (aP _ rfl) rfl ?_ (ah _) (by show (#[]++vs.toArray).size<=sizeLine+1;simp only[jS,aQ,fR];lia));refine wpAny_pure ?_;show wpAny (model prog w) A (do
   let o <-load s.heap.objs.size
   match o.data with
   | .seq xs _=>pure xs.toList
   | _=>unsupported "internal:collect") Q E { s with heap:=(s.heap.push (seqObj "list" #[] 0)).update s.heap.objs.size (Obj.mapSeq (·++vs.toArray)) }
 exists (wpAny_load (Tu (aP _ rfl) _) ?_);show wpAny _ _ (pure ((#[]:Array Value)++vs.toArray).toList) Q E _;rw[show ((#[]:Array Value)++vs.toArray).toList=vs by simp];exact wpAny_pure h
theorem vz{l:Addr}{vs:ag}{Q:Value->Shared->Prop}{r:Nat->Int}(κ:SortKind)(hl:IsTup s.heap l vs.toArray)(h64:vs.length<64)
  (hk:2<=vs.length->∀(h':Heap) (Q:SortKind->Shared->Prop),(∀b o,s.heap.get? b=some o->h'.get? b=some o)->Q κ { s with heap:=h' }->wpAny (model prog w) A.in1.in1 (keyKind' vs.toArray) Q (λ_ _=>False) { s with heap:=h' })
  (hc:∀i j,i<vs.length->j<vs.length->∀(h':Heap) (C:Bool->Shared->Prop),(∀b o,s.heap.get? b=some o->h'.get? b=some o)->C (decide (r i<r j)) { s with heap:=h' }->wpAny (model prog w) A.in1.in1 (keyLt' κ (vs.getD i Value.none) (vs.getD j Value.none)) C (λ_ _=>False) { s with heap:=h' })
  (h:∀p:Array Nat,p.Perm (List.toArray (List.range vs.length))->u7 r p vs.length->Q (.ref (s.heap.objs.size+1)) { s with heap:=sortedAll s.heap vs (fy vs p) }) :
  wpAny (model prog w) A (call (.builtin "sorted") [.ref l]) Q E s:=
 o9 κ (λA E Q q=>yY hl q (by rw[Tg];lia)) h64 hk hc h
end
end Rm
namespace Rm
open PySem PySem.W PyProof.Rows L2
theorem pJ:∀{as:ld} {us:ag},cH (as.map V.ref) us->us=as.map Value.ref
 | [],_,.nil=>rfl
 | a::as,u::us,.cons r t=>by
  have e:u=Value.ref a:=r;rw[e,pJ t];rfl
theorem Bi(as:ld):cH (as.map V.ref) (as.map Value.ref):=by
 induction as with
 | nil=>exact .nil
 | cons a as ih=>exact .cons rfl ih
def IP (h:Heap) (a:Addr) (p:Bw):Prop:=∃o t u n,h.get? a=some o/\o.cls=.type "tuple"/\o.data=.seq #[.int p.1 t,.int p.2 u] n
theorem Jh{X:Cx}{pins:List (Addr×Obj)}{Z:L2.St}{H:Hp}{s:Shared}(I:bc X pins Z H s){a:Addr}{p:Bw}(h:b6 H a p):IP s.heap a p:=by
 obtain⟨_,its,v,o,e,c,n,d⟩:=I.hok a _ h;obtain⟨u,w,rfl,⟨t,rfl⟩,t',rfl⟩:=cH.two v;exact⟨o,t,t',n,e,c,by rw[d]⟩
theorem IP.kept{h h':Heap}{a:Addr}{p:Bw}(x:IP h a p)(k:∀b o,h.get? b=some o->h'.get? b=some o):IP h' a p:=by
 obtain⟨o,t,u,n,e,c,d⟩:=x;exact⟨o,t,u,n,k _ _ e,c,d⟩
theorem wt{h:Heap}:∀{as:ld} {ps:List Bw},Paired (IP h) as ps->∃fs,KatTups h (as.map Value.ref) fs/\fs.length=as.length/\∀v∈fs,∃n t,v=Value.int n t
 | _,_,.nil=>⟨[],KatTups.nil,rfl,(λv hv=>nomatch hv)⟩
 | _,_,.cons r t=>by
  obtain⟨o,t1,u1,n,e,c,d⟩:=r;obtain⟨fs,h1,h2,h3⟩:=wt t;exact⟨.int _ t1::fs,KatTups.cons e c d rfl h1,by simp[h2],λv hv=>by
   rcases aL.mp hv with rfl | hv
   .exact⟨_,_,rfl⟩
   .exact h3 v hv⟩
def kO(p:Bw):Int:=p.1*1000+p.2
def kB:SortKind:=tuples' (Value.type "int" != Value.type "tuple")
theorem Ji{prog:Program}{w:World}{A:Around}{s:Shared}{a b:Addr}{p q:Bw}{C:Bool->Shared->Prop}(ha:IP s.heap a p)(hb:IP s.heap b q)(hp:0<=p.2/\p.2<1000)(hq:0<=q.2/\q.2<1000)
  (h:C (decide (kO p<kO q)) s):wpAny (model prog w) A (keyLt' kB (.ref a) (.ref b)) C (λ_ _=>False) s:=by
 obtain⟨oa,t,u,n,ea,ca,da⟩:=ha;obtain⟨ob,t',u',n',eb,cb,db⟩:=hb;refine kat_lt ea da eb db ?_;show KatLex prog w A _ _ C [(Value.int p.1 t,Value.int q.1 t'),(Value.int p.2 u,Value.int q.2 u')] 0 s;refine kat_cons (wpAny_eqBool_int (kat_go (λe=>?_) (λe=>?_)))
 .have e1:p.1=q.1:=by simpa using e
  refine kat_yes (kat_cons (wpAny_eqBool_int (kat_go (λe=>?_) (λe=>?_))))
  .have e2:p.2=q.2:=by simpa using e
   refine kat_yes (kat_nil ?_);have z:decide (kO p<kO q)=false:=U4 (by unfold kO;lia);rw[z] at h;exact h
  .have e2:¬p.2=q.2:=by simpa using e
   refine kat_no ?_;have z:decide (kO p<kO q)=decide (p.2<q.2):=by
    by_cases y:p.2<q.2
    .rw[U5 y,U5 (by unfold kO;lia)]
    .rw[U4 y,U4 (by unfold kO;lia)]
   rw[z] at h;have b0:((Value.type "int" != Value.type "tuple")&&((0+1:Nat)==0))=false:=by decide
   rw[b0];exact kat_one _ _ (lt_int h)
 .have e1:¬p.1=q.1:=by simpa using e
  refine kat_no ?_;have z:decide (kO p<kO q)=decide (p.1<q.1):=by
   by_cases y:p.1<q.1
   .rw[U5 y,U5 (by unfold kO;lia)]
   .rw[U4 y,U4 (by unfold kO;lia)]
  rw[z] at h;have b0:((Value.type "int" != Value.type "tuple")&&((0:Nat)==0))=true:=by decide
  rw[b0];exact oneLt_int h
def pick{α:Type}(d:α)(xs:List α)(p:Array Nat):List α:=p.toList.map λi=>xs.getD i d
theorem m5{α:Type}(d:α)(xs:List α){p:Array Nat}(hp:p.Perm (List.toArray (List.range xs.length))):(pick d xs p).Perm xs:=by
 have h1:p.toList.Perm (List.range xs.length):=by simpa using dk.mp hp
 have h2:=h1.map λi=>xs.getD i d;have e:(List.range xs.length).map (λi=>xs.getD i d)=xs:=by
  apply nK
  .simp
  .intro i h1 h2;simp at h1;simp[h1]
 rw[e] at h2;exact h2
theorem xZ{α β:Type}{R:α->β->Prop}(d:α)(e:β){xs:List α}{ys:List β}(h:Paired R xs ys){p:Array Nat}(hp:∀i∈p.toList,i<xs.length):Paired R (pick d xs p) (pick e ys p):=by
 unfold pick
 revert hp
 induction p.toList with
 | nil=>intro _;exact .nil
 | cons i r ih=>
  intro hp;refine .cons ?_ (ih λj hj=>hp j (aJ _ hj));have hi:=hp i aW;have hx:xs[i]? = some xs[i]:=aE hi;obtain⟨y,hy,hr⟩:=gp h hx;have e1:xs.getD i d=xs[i]:=by simp[List.getD,hx]
  have e2:ys.getD i e=y:=by simp[List.getD,hy]
  show R (xs.getD i d) (ys.getD i e);rw[e1,e2];exact hr
theorem xb{r:Nat->Int}{n:Nat}{p:Array Nat}(hn:p.size=n)(ha:u7 r p n){α:Type}(d:α)(xs:List α)(f:α->Int)(hf:∀i,r i=f (xs.getD i d)):(pick d xs p).Pairwise λa b=>f a<=f b:=by
 rw[dy];intro i j hi hj hij;have hi':i<p.size:=by simpa [pick] using hi
 have hj':j<p.size:=by simpa [pick] using hj
 have h1:=ha i j (bT hij) (by lia);unfold Kk at h1;rw[hf,hf] at h1;simp only[bU,cQ hi',cQ hj',gC] at h1;simpa [pick] using h1
def leB(p q:Bw):Prop:=p.1<q.1\/p.1=q.1/\p.2<=q.2
def Ju(K:U9):List V->Hp->VK->Prop:=λxs H Q=>∃(l:Addr) (as:ld) (ps:List Bw),xs=[.ref l]/\cI K H l (as.map V.ref)/\Paired (b6 H) as ps/\ps.length<64/\(∀p∈ps,0<=p.2/\p.2<1000) ∧
 ∀l' as' ps',H l'=none->Paired (b6 H) as' ps'->ps'.Perm ps->ps'.Pairwise leB->Q (.ref l') (upd H l' (.lst (as'.map V.ref)))
theorem mh {X:Cx}:iY X (.builtin "sorted") (Ju X.K):=by
 intro pins s Z H xs us Q I rr h;obtain⟨l,as,ps,rfl,hq,hP,h64,hb,q⟩:=h;obtain⟨u,rfl,rx⟩:=Th rr;cases rx;obtain⟨its,rv,pl,hz⟩:=I.list hq;have e:=pJ rv;subst e;have hlen:as.length=ps.length:=bK hP;have two:Paired (IP s.heap) as ps:=gm hP λa p z=>Jh I z;have at_:∀i,i<as.length->∃a p,(as.map Value.ref).getD i Value.none=.ref a/\ps.getD i (0,0)=p/\IP s.heap a p/\0<=p.2/\p.2<1000:=λi hi=>by
  have hx:as[i]? = some as[i]:=aE hi;obtain⟨p,hp,ht⟩:=gp two hx;exact⟨as[i],p,by simp[List.getD,hi],by simp[List.getD,hp],ht,hb p (aT hp)⟩
 refine rp (r:=λi=>kO (ps.getD i (0,0))) kB pl.isList (by rw[aA];lia) (λh2 h' Q' k q'=>?_) (λi j hi hj h' C k q'=>?_) λp hp ha=>?_
 .obtain⟨fs,k1,k2,k3⟩:=wt (gm two λa p z=>z.kept k);refine kat_kind (T:=.type "int") k1 (by rw[aA] at h2;lia) (λv hv=>?_) rfl q';obtain⟨n,t,rfl⟩:=k3 v hv;exact(show Looks _ _ (pure (Value.type "int")) (Value.type "int") from .now)
 .rw[aA] at hi hj;obtain⟨a,p,e1,e2,t1,b1⟩:=at_ i hi;obtain⟨c,p',e3,e4,t2,b2⟩:=at_ j hj;rw[e1,e3];refine Ji (t1.kept k) (t2.kept k) b1 b2 ?_;rw[<-e2,<-e4];exact q'
 .rw[aA] at hp ha;obtain⟨c,hc⟩:=sortedAll_at s.heap (as.map Value.ref) (fy (as.map Value.ref) p);have hin:∀i∈p.toList,i<as.length:=λi hi=>by
   have h1:p.toList.Perm (List.range as.length):=by simpa using dk.mp hp
   simpa using h1.mem_iff.mp hi
  have eo:fy (as.map Value.ref) p=List.toArray ((pick 0 as p).map Value.ref):=by
   unfold fy pick;rw[bn];congr 1;refine cP λi hi=>?_;have:=hin i hi;simp[List.getD,this]
  have hps:(pick 0 as p).length<=sizeLine:=by
   have:=(m5 0 as hp).length_eq;rw[this];exact bT (bS (by lia))
  rw[eo] at hc;have hp':p.Perm (List.toArray (List.range ps.length)):=by rw[<-hlen];exact hp
  refine⟨.ref (s.heap.objs.size+1),upd H (s.heap.objs.size+1) (.lst ((pick 0 as p).map V.ref)),I.laid (t':=s.toks) (λb o e=>sortedAll_old e) (dZ _) ?_,rfl,?_⟩
  .exact(show cc X.prog X.w _ _ _ (.lst _) from ⟨by rw[aA];exact hps,(pick 0 as p).map Value.ref,c,Bi _,by rw[eo];exact hc⟩)
  .have hasc:=xb (n:=as.length) (by have:=hp.size_eq;simpa using this) ha (0,0) ps kO λi=>rfl;have hmem:∀x∈pick (0,0) ps p,0<=x.2/\x.2<1000:=λx hx=>hb x ((m5 (0,0) ps hp').mem_iff.mp hx);refine q _ _ (pick (0,0) ps p) (I.hok.fresh (dZ _)) (xZ 0 (0,0) hP hin) (m5 (0,0) ps hp') ?_;refine fb (fun {a b} ma mb hab=>?_) hasc;have h1:=hmem a ma;have h2:=hmem b mb;unfold kO at hab;unfold leB;lia
end Rm
namespace L2
open PySem PySem.W PySem.Spec PyProof.Rows Rm
section
variable {X:Cx}
theorem UB:∀{us:ag} {ns:gs},IntsAre us ns->∀i,i<us.length->∃t,us.getD i Value.none=.int (ns.getD i 0) t
 | _,_,.nil,i,h=>by simp at h
 | _,_,.cons n t r,0,_=>⟨t,rfl⟩
 | _,_,.cons n t r,i+1,h=>by
  obtain⟨t',e⟩:=UB r i (by simpa using h);exact⟨t',by simpa using e⟩
theorem v7{us:ag}{ns:gs}(hi:IntsAre us ns):∀(p:im),(∀i∈p,i<us.length)->IntsAre (p.map λi=>us.getD i Value.none) (p.map λi=>ns.getD i 0)
 | [],_=>.nil
 | i::p,h=>by
  obtain⟨t,e⟩:=UB hi i (h i aW);rw[af,af,e];exact .cons _ t (v7 hi p λj hj=>h j (aJ _ hj))
theorem uM{us:ag}{ns:gs}(hi:IntsAre us ns):us.length=ns.length:=by
 induction hi with
 | nil=>rfl
 | cons _ _ _ ih=>simp[ih]
theorem uL:∀{us:ag} {ns:gs},IntsAre us ns->∀v∈us,∃n t,v=Value.int n t
 | _,_,.nil,v,h=>nomatch h
 | _,_,.cons n t r,v,h=>by
  rcases aL.mp h with rfl | h
  .exact⟨n,t,rfl⟩
  .exact uL r v h
def Js(K:U9):List V->Hp->VK->Prop:=λxs H Q=>∃(p:Addr) (ns:gs),xs=[.ref p]/\(cI K H p (ns.map V.int)\/cj K H p (ns.map V.int))/\ns.length<64 ∧
 ∀(l:Addr) (ms:gs),H l=none->ms.Perm ns->ms.Pairwise (·<=·)->Q (.ref l) (upd H l (.lst (ms.map V.int)))
theorem qz:iY X (.builtin "sorted") (Js X.K):=by
 intro pins s Z H xs us Q I r h;obtain⟨p,ns,rfl,hq,hl,q⟩:=h;obtain⟨u,rfl,rx⟩:=Th r;cases rx;have fin:∀its:ag,IntsAre its ns->∀pr:Array Nat,pr.Perm (List.toArray (List.range its.length))->u7 (λi=>ns.getD i 0) pr its.length →
   EP X pins Z Q (.ref (s.heap.objs.size+1)) { s with heap:=sortedAll s.heap its (fy its pr) }:=λits hi pr hp ha=>by
  obtain⟨c,hc⟩:=sortedAll_at s.heap its (fy its pr);have hil:=uM hi;have hin:∀i∈pr.toList,i<its.length:=λi him=>by
   have h1:pr.toList.Perm (List.range its.length):=by simpa using dk.mp hp
   simpa using h1.mem_iff.mp him
  have hp':pr.Perm (List.toArray (List.range ns.length)):=by rw[<-hil];exact hp
  have hpk:=m5 0 ns hp';have hlen:=hpk.length_eq;refine⟨.ref (s.heap.objs.size+1),upd H (s.heap.objs.size+1) (.lst ((pick 0 ns pr).map V.int)),I.laid (t':=s.toks) (λb o e=>sortedAll_old e) (dZ _)
   (show cc X.prog X.w _ _ _ (.lst _) from ⟨by rw[aA,hlen];exact bT (bS (by lia)),(fy its pr).toList,c,pK ?_,by simpa using hc⟩),rfl,q _ _ (I.hok.fresh (dZ _)) hpk ?_⟩
  .have:=v7 hi pr.toList hin;simpa [fy,pick] using this
  .exact xb (n:=its.length) (by have:=hp.size_eq;simpa using this) ha 0 ns (λx=>x) λi=>rfl
 have kind:∀(A:Around) (its:ag),IntsAre its ns->2<=its.length->∀(h':Heap) (Q:SortKind->Shared->Prop),Q oneType' { s with heap:=h' }->wpAny (model X.prog X.w) A (keyKind' its.toArray) Q (λ_ _=>False) { s with heap:=h' }:=λA its hi h2 h' Q q'=>by
  refine kas_kind (T:=.type "int") h2 (λv hv=>?_) (by decide) (by decide) q';obtain⟨n,t,rfl⟩:=uL hi v hv;exact(show Looks _ _ (pure (Value.type "int")) (Value.type "int") from .now)
 have lt:∀(A:Around) (its:ag),IntsAre its ns->∀i j,i<its.length->j<its.length->∀(h':Heap) (C:Bool->Shared->Prop),C (decide (ns.getD i 0<ns.getD j 0)) { s with heap:=h' } →
   wpAny (model X.prog X.w) A (keyLt' oneType' (its.getD i Value.none) (its.getD j Value.none)) C (λ_ _=>False) { s with heap:=h' }:=λA its hi i j h1 h2 h' C q'=>by
  obtain⟨t,e⟩:=UB hi i h1;obtain⟨t',e'⟩:=UB hi j h2;rw[e,e'];exact kat_lt_int q'
 rcases hq with hq | hq
 .obtain⟨its,rv,pl,hz⟩:=I.list hq;have hi:=m9 rv;have hil:=uM hi;exact rp (r:=λi=>ns.getD i 0) oneType' pl.isList (by lia) (λh2 h' Q k q'=>kind _ its hi h2 h' Q q') (λi j h1 h2 h' C k q'=>lt _ its hi i j h1 h2 h' C q') (fin its hi)
 .obtain⟨its,rv,pl,hz⟩:=I.tuple hq;have hi:=m9 rv;have hil:=uM hi;exact vz (r:=λi=>ns.getD i 0) oneType' pl (by lia) (λh2 h' Q k q'=>kind _ its hi h2 h' Q q') (λi j h1 h2 h' C k q'=>lt _ its hi i j h1 h2 h' C q') (fin its hi)
end
end L2
namespace Rm
open PySem PySem.W PyProof.Rows L2
section
variable {prog:Program}{w:World}{A:Around}{E:Value->Shared->Prop}{S:Shared}{X:Cx}{pins:List (Addr×Obj)}{Z:L2.St}{H:Hp}{s:Shared}
theorem yy:∀(ks vs:ag),ks.length=vs.length->vs.length<2->(ks.toArray.zip vs.toArray).map (·.2)=fy vs (List.toArray (List.range vs.length))
 | [],[],_,_=>by simp[fy]
 | [k],[v],_,_=>by simp[fy]
 | _,_::_::_,_,h=>by simp at h;lia
 | [],[_],h,_=>by simp at h
 | _::_,[],h,_=>by simp at h
 | _::_::_,[_],h,_=>by simp at h
theorem Hg {a kS:Addr} {vs ks:ag} {kz:gs} {e e1:Nat} {P:PySem.Fin->Shared->Prop} (hki:IntsAre ks kz) (hl:ks.length=vs.length) (h64:vs.length<64) (ha:S.heap.get? a=some (seqObj "list" #[] e1))
  (hk:S.heap.get? kS=some (seqObj "list" ks.toArray e)) (hne:a≠kS)
  (h:∀p:Array Nat,p.Perm (List.toArray (List.range vs.length))->u7 (λi=>kz.getD i 0) p vs.length->P (.done (.ret .none)) { S with heap:=(S.heap.update kS (Obj.mapSeq λ_=>#[])).update a (Obj.mapSeq λ_=>fy vs p) }) :
  wpAny (model prog w) A (ksk_end a false vs.toArray e1 (.ref kS) ks.toArray) P E S:=by
 have hz:vs.toArray.size=vs.length:=by simp
 have tail:∀(st:SortSt) (p:Array Nat),(arrOf st).map (·.2)=fy vs p->failedOf st=none->p.Perm (List.toArray (List.range vs.length))->u7 (λi=>kz.getD i 0) p vs.length->wpAny (model prog w) A (ksk_tail a false e1 (.ref kS) st) P E S:=by
  intro st p e1' hf hp hs;have hps:p.size=vs.length:=by have:=hp.size_eq;simpa using this
  have ha1:(S.heap.update kS (Obj.mapSeq λ_=>(#[]:Array Value))).get? a=some (seqObj "list" #[] e1):=(dq _ _ _ _ hne).trans ha;unfold ksk_tail;exists (listUpdate_at hk rfl (wpAny_bind (UC (wpAny_bind (Tv ha1 rfl (wpAny_bind (listUpdate_at ha1 rfl ?_ (ah _) ?_)))))) ?_ (ah _))
  .rw[hf,e1'];simp only[bne_self_eq_false,bR,U8];exact wpAny_pure (h p hp hs)
  .show (if false=true then _ else (arrOf st).map (·.2)).size<=sizeLine+1;rw[U1 au,e1',fy,aQ,aA,bp,hps,Tg];lia
  .rw[aQ,hl,Tg];lia
 unfold ksk_end;dsimp only;by_cases h2:vs.toArray.size<2
 .simp only[h2,U7,U8,bR];exists (wpAny_pure ?_);rw[StateT.run_pure];exists (wpAny_pure ?_);refine tail _ (List.toArray (List.range vs.length)) (yy ks vs hl (by lia)) rfl (Array.Perm.refl _) λi j hij hj=>?_;have e9:i=j:=by lia
  rw[e9];exact dv _
 .simp only[h2,U7,U8,bR];have h2':2<=vs.length:=by lia
  exists (kas_kind (T:=.type "int") (by lia) (λv hv=>?_) (by decide) (by decide) ?_)
  .obtain⟨n,t,rfl⟩:=uL hki v hv;exact(show Looks _ _ (pure (Value.type "int")) (Value.type "int") from .now)
  have T:Told (λi=>kz.getD i 0) vs.length (kas_ask prog w A oneType' ks) S:=λi j hi hj C hC=>by
   obtain⟨t,et⟩:=UB hki i (by lia);obtain⟨u,eu⟩:=UB hki j (by lia);show wpAny _ _ (keyLt' oneType' (ks.getD i Value.none) (ks.getD j Value.none)) _ _ _;rw[et,eu];exact kat_lt_int hC
  exists (wpAny_mono (kat_run (ks:=ks) (vs:=vs) (Q:=λst' s'=>s'=S/\∃p:Array Nat,p.size=vs.length/\arrOf st'=p.map (kas_item (ks.toArray.zip vs.toArray))/\failedOf st'=none/\p.Perm (List.toArray (List.range vs.length))/\u7 (λi=>kz.getD i 0) p vs.length)
   (G:=λp s'=>s'=S/\p.Perm (List.toArray (List.range vs.length))/\u7 (λi=>kz.getD i 0) p vs.length)
   hl h2' h64 (λp' st' s' a1 a2 a3 a4=>⟨a4.1,p',a1,a2,a3,a4.2⟩) (vB T (by lia) λp hp ha=>⟨rfl,hp,ha⟩)) ?_ λ_ _ e=>e)
  rintro⟨⟨⟩,st'⟩ s' ⟨rfl,p,hps,har,hf,hp,hs⟩;refine tail st' p ?_ hf hp hs;have hout:=kat_snds (ks:=ks) (vs:=vs) hl har;rw[hout];rfl
theorem Gv{k:Nat}{f:Addr}{fd:FuncData}{ps:List Str}{sp:Sp}{Q:VK}{us:ag}{vs:List V}{E:Value->Shared->Prop}(F:nw X.prog X.w X.K X.mg X.base we k f fd ps sp)(hr:fj (k+2) X.A)(hb:Binds X.K fd ps [])
  (I:bc X pins Z H s) (r:cH vs us) (h:sp vs H Q E0):wpAny (model X.prog X.w) X.A.in1.in1 (call (.ref f) us) (EP X pins Z Q) E s:=by
 have hl:(us++[]).length=ps.length:=by rw[cE,<-r.length];exact F.len _ _ _ _ h
 have hbb:=hb s us I.kIn hl;rw[cE] at hbb;refine Ti (Tj (F.run X.A.in1.in1 X.stack s H ⟨us,[]⟩ us vs Q E0 (fj.in1 (fj.in1 hr)) I.env0.in1.in1 hbb r h) λr s' hq=>?_);cases r with
 | error e=>exact False.elim hq
 | ok fl=>
  cases fl with
  | ret u=>exact I.after hq
  | next=>exact False.elim hq
  | brk=>exact False.elim hq
  | cont=>exact False.elim hq
theorem FR{k:Nat}{f:Addr}{fd:FuncData}{ps:List Str}{sp:Sp}{xs:List V}{vs:ag}{kz:gs}{a kS:Addr}{e1:Nat}{P:PySem.Fin->Shared->Prop}{E:Value->Shared->Prop}
  (F:nw X.prog X.w X.K X.mg X.base we k f fd ps sp) (hr:fj (k+2) X.A) (hb:Binds X.K fd ps []) (I:bc X pins Z H s) (hv:cH xs vs) (hkl:kz.length=xs.length) (h64:vs.length<64)
  (hsp:∀(i:Nat) x k (Q':VK),xs[i]? = some x->kz[i]? = some k->Q' (.int k) H->sp [x] H Q' E0)
  (fa:ke X pins H a) (fk:ke X pins H kS) (hne:a≠kS) (ha:s.heap.get? a=some (seqObj "list" #[] e1)) (hk:s.heap.get? kS=some (seqObj "list" #[] 0))
  (h:∀(p:Array Nat) (s':Shared) (ks:ag) (e:Nat),bc X pins Z H s'->s'.heap.get? a=some (seqObj "list" #[] e1)->s'.heap.get? kS=some (seqObj "list" ks.toArray e)->p.Perm (List.toArray (List.range vs.length))->u7 (λi=>kz.getD i 0) p vs.length →
   P (.done (.ret .none)) { s' with heap:=(s'.heap.update kS (Obj.mapSeq λ_=>#[])).update a (Obj.mapSeq λ_=>fy vs p) }) :
  wpAny (model X.prog X.w) X.A.in1.in1 (ksk_rest a (.ref f) false vs.toArray e1 (.ref kS)) P E s:=by
 unfold ksk_rest;exists (UD ?_);rw[<-lh];simp only[List.toList_toArray];have hvl:vs.length=xs.length:=hv.length.symm;exists (UE _ (λrest _ s'=>∃(done:ag) (ks:ag) (e:Nat),vs=done++rest/\IntsAre ks (kz.take done.length)/\ks.length=done.length/\bc X pins Z H s'/\s'.heap.get? a=some (seqObj "list" #[] e1)/\s'.heap.get? kS=some (seqObj "list" ks.toArray e)) _ ?_ ?_ vs _
  ⟨[],[],0,rfl,by simpa using IntsAre.nil,rfl,I,ha,hk⟩)
 .rintro v rest _ s' ⟨done,ks,e,hvs,hki,hkl2,I',ha',hk'⟩;have hdl:done.length<vs.length:=by rw[hvs];simp
  have hvi:vs[done.length]? = some v:=by rw[hvs];simp
  obtain⟨x,hx,rx⟩:∃x,xs[done.length]? = some x/\RelV x v:=by
   have hxi:xs[done.length]? = some xs[done.length]:=aE (by lia);obtain⟨u,hu,ru⟩:=hv.get hxi;rw[hvi] at hu;cases hu;exact⟨_,hxi,ru⟩
  have hki':kz[done.length]? = some kz[done.length]:=aE (by lia);have fp:∀b∈[a,kS],ke X pins H b:=λb hb=>by
   rcases aL.mp hb with z | z
   .rw[z];exact fa
   .have z':b=kS:=by simpa using z
    rw[z'];exact fk
  have Ip:=I'.pinned fp λb hb=>by
   rcases aL.mp hb with z | z
   .rw[z];exact⟨_,ha',λv z=>by cases z⟩
   .have z':b=kS:=by simpa using z
    rw[z'];exact⟨_,hk',λv z=>by cases z⟩
  exists (UF (wpAny_mono (Gv (E:=λ_ _=>False) (Q:=λv' H'=>v'=.int kz[done.length]/\H'=H) F hr hb Ip (.cons rx .nil) (hsp _ x _ _ hx hki' ⟨rfl,rfl⟩)) (λu s2 hq=>?_) λ_ _ z=>z.elim));obtain⟨v',H2,I2,r2,rfl,rfl⟩:=hq;obtain⟨t,rfl⟩:=r2;have pa:=(I2.pin (a,_) (bM _ (bM _ (gv (by simp) ha')))).1;have pk:=(I2.pin (kS,_) (bM _ (bM _ (gv (by simp) hk')))).1;have sb:=cf s2.heap kS (Obj.mapSeq (·.push (Value.int kz[done.length] t)));obtain⟨c2,hc2⟩:∃c2,(s2.heap.update kS (Obj.mapSeq (·.push (Value.int kz[done.length] t)))).get? kS=some (seqObj "list" (ks++[Value.int kz[done.length] t]).toArray c2):=⟨_,by
   have:=Tu pk (·.push (Value.int kz[done.length] t));simpa using this⟩
  exists (listUpdate_at pk rfl ?_ (by rw[aQ,Tg];lia) (by rw[oO,aQ,Tg];lia));obtain⟨k0,k1,k2,k3,k4,k5⟩:=fk;refine wpAny_pure ⟨done++[v],ks++[Value.int kz[done.length] t],c2,by rw[hvs];simp,?_,by simp[hkl2],I2.unpinned.turned (t':=s2.toks) (λb o hb e=>(sb.2 b hb).trans e) k0 k1 k3 k4 k5,(sb.2 a hne).trans pa,hc2⟩;rw[aj,cY,bE,hki'];exact ksk_snoc hki
 .rintro _ s' ⟨done,ks,e,hvs,hki,hkl2,I',ha',hk'⟩;rw[cE] at hvs;subst hvs;rw[dD (by lia)] at hki;exists (listItems_at hk' rfl ?_);exact Hg hki (by lia) h64 ha' hk' hne λp hp hs=>h p s' ks e I' ha' hk' hp hs
end
end Rm
namespace L2
open PySem PySem.W PySem.Spec PyProof.Rows Rm
def yt(K:U9)(sp:Sp)(te:TE):TE:=λZ H Q=>te Z H λx H1=>∃(l:Addr) (xs:List V) (kz:gs),x=.ref l/\cI K H1 l xs/\xs.length<64/\kz.length=xs.length ∧
 (∀(i:Nat) x k (Q':VK),xs[i]? = some x->kz[i]? = some k->Q' (.int k) H1->sp [x] H1 Q' E0) ∧
 ∀(l':Addr) (zs:List (Int×V)),H1 l'=none->zs.Perm (kz.zip xs)->zs.Pairwise (λa b=>a.1<=b.1)->Q (.ref l') (upd H1 l' (.lst (zs.map (·.2))))
theorem GT{K:U9}{sp:Sp}{te:TE}{Z:St}{H:Hp}{Q:VK}:yt K sp te Z H Q=te Z H λx H1=>∃(l:Addr) (xs:List V) (kz:gs),x=.ref l/\cI K H1 l xs/\xs.length<64/\kz.length=xs.length ∧
 (∀(i:Nat) x k (Q':VK),xs[i]? = some x->kz[i]? = some k->Q' (.int k) H1->sp [x] H1 Q' E0) ∧
 ∀(l':Addr) (zs:List (Int×V)),H1 l'=none->zs.Perm (kz.zip xs)->zs.Pairwise (λa b=>a.1<=b.1)->Q (.ref l') (upd H1 l' (.lst (zs.map (·.2)))):=rfl
theorem uu:∀{xs:List V} {us:ag},cH xs us->∀(p:im),(∀i∈p,i<xs.length)->cH (p.map λi=>xs.getD i .non) (p.map λi=>us.getD i Value.none)
 | xs,us,h,[],_=>.nil
 | xs,us,h,i::p,hp=>by
  have hi:=hp i aW;have hx:xs[i]? = some xs[i]:=aE hi;obtain⟨u,hu,ru⟩:=h.get hx;refine .cons ?_ (uu h p λj hj=>hp j (aJ _ hj));simp only[List.getD,hx,hu,gC];exact ru
theorem bc.adopt{X:Cx}{pins:List (Addr×Obj)}{Z:St}{H:Hp}{s:Shared}{a:Addr}{o:HO}(I:bc X pins Z H s)(fa:ke X pins H a)(new:cc X.prog X.w (upd H a o) s.heap a o):bc X pins Z (upd H a o) s:=by
 obtain⟨f0,f1,f2,f3,f4,f5⟩:=fa;have ne:∀b u,H b=some u->b≠a:=λb u e z=>by rw[z,f0] at e;cases e
 refine I.step (g':=s.gens) (d':=s.drawn) (t':=s.toks) (h':=s.heap) (ch:=[a]) (λb hb=>?_) (λb u _ _ _ e _=>e) (λb u _ _ _ e _=>⟨u.slots,e⟩) (λb u hc e n=>by rw[aO (λz=>hc (by simp[z]))];exact n) (λb u _ e=>⟨u,e⟩)
  (λb xs e=>by rw[aO (ne _ _ e)];exact e) (λb u xs e=>by rw[aO (ne _ _ e)];exact e) (λb ps e=>⟨#[],by rw[aO (ne _ _ e),e];simp⟩) (λm hm=>hm) (λb u e=>?_) I.bare
 .have e:b=a:=by simpa using hb
  subst e;exact⟨f3,f1,f4,f5⟩
 .by_cases hb:b=a
  .subst hb;rw[aG] at e;cases e;exact new
  .rw[aO hb] at e;exact(I.hok b u e).stay (λc v _ q=>q) (λc q=>by rw[aO (ne _ _ q)];exact q) λc xs q=>by rw[aO (ne _ _ q)];exact q
section
variable {X:Cx}{k:Nat}{x f:Str}{st:Stmt}{ps:List Str}{sp:Sp}{e:Expr}{te:TE}{p p2 kp pos:Pos}
theorem E2 (D:fU X.prog X.w X.K X.mg X.base k f st ps sp) (hr:fj (k+2) X.A) (hg:Gl X "sorted") (hm:X.mg "sorted"=none) (hgf:Gl X f) (he:PE X e te) (hdf:(f==("__debug__":Str))=false:=by decide)
  (hs:starEach [e] X.env=[(false,eval e X.env)]:=by rfl):PE X (.Call (.Name "sorted" p) [e] [⟨some "key",.Name f p2,kp⟩] pos) (yt X.K sp te):=by
 obtain⟨fa,fd,F,m,b,G⟩:=D.ex;intro pins s Z H Q I h;refine Tl (jE I hg hm eO ?_)
 let B:V->Hp->Prop:=λx H1=>∃(l:Addr) (xs:List V) (kz:gs),x=.ref l/\cI X.K H1 l xs/\xs.length<64/\kz.length=xs.length ∧
  (∀(i:Nat) x k (Q':VK),xs[i]? = some x->kz[i]? = some k->Q' (.int k) H1->sp [x] H1 Q' E0) ∧
  ∀(l':Addr) (zs:List (Int×V)),H1 l'=none->zs.Perm (kz.zip xs)->zs.Pairwise (λa b=>a.1<=b.1)->Q (.ref l') (upd H1 l' (.lst (zs.map (·.2))))
 refine callWith_kw (dw (iZ he zP hs pos pins s Z H (λvs H1=>match vs with | [x]=>B x H1 | _=>False) I h) λus s1 z'=>?_) (by rw[hs];rfl) (by rw[hs];rfl);obtain⟨vs,H1,I1,r1,q1⟩:=z';refine kws_cons (jh I1 hgf m (kws_nil ?_) hdf)
 match vs,r1,q1 with
 | [x],r1,q1=>
  obtain⟨l,xs,kz,rfl,hq,h64,hkl,hsp,q⟩:=q1;obtain⟨u,rfl,rx⟩:=Th r1;cases rx;obtain⟨its,rv,pl,hz⟩:=I1.list hq;have hil:its.length=xs.length:=rv.length.symm;show wpAny _ X.A (call (.builtin "sorted") [.ref l] [(Str.ofString "key",.ref fa)]) _ _ s1;refine call_function_entry_kw kind_sorted plain_sorted entry_sorted (ksk_s1 _ _) ?_;unfold Builtin.«sorted»;refine wpAny_bind (m:=checkCount "sorted" 1 1 _) (wpAny_pure (wpAny_bind (collect_list pl.isList (wpAny_bind (Tw ?_ (by rw[Tg];lia))) (by rw[Tg];lia))));have hsz:((s1.heap.push (seqObj "list" #[] 0)).update s1.heap.objs.size (Obj.mapSeq (·++its.toArray))).objs.size=s1.heap.objs.size+1:=by rw[iL,size_push']
  generalize hh2:(s1.heap.push (seqObj "list" #[] 0)).update s1.heap.objs.size (Obj.mapSeq (·++its.toArray))=h2 at hsz;have keep:∀b o,s1.heap.get? b=some o->h2.get? b=some o:=λb o e=>by
   rw[<-hh2];exact(dq _ _ _ _ (a6 (aN e))).trans (aB _ e)
  have hle:s1.heap.objs.size<=h2.objs.size:=by rw[hsz];exact dZ _
  have ho:(h2.push (seqObj "list" its.toArray 0)).get? h2.objs.size=some (seqObj "list" its.toArray 0):=aP _ rfl;exists (Tx (wpAny_call_entry_kw slot_list_sort ⟨_,ho,rfl⟩ entry_list_sort ?body (ksk_l1 _ _)))
  case body=>
   show wpAny _ X.A.in1.in1 (Builtin.«list.sort» ⟨[.ref h2.objs.size],[(Str.ofString "key",.ref fa)]⟩) _ _ { s1 with heap:=h2.push (seqObj "list" its.toArray 0) };rw[ksk_t1];unfold ksk_tree;obtain⟨c1,hc1⟩:∃c1,((h2.push (seqObj "list" its.toArray 0)).update h2.objs.size (Obj.mapSeq λ_=>#[])).get? h2.objs.size=some (seqObj "list" #[] c1):=⟨_,Tu ho λ_=>#[]⟩
   exists (listItems_at ho rfl (wpAny_bind (listUpdate_at ho rfl ?_ (by rw[aQ,Tg];lia) (ah _))));exists (Tv hc1 rfl (wpAny_bind (wpAny_newTuple (wpAny_bind (Tw (Tx ?_) (ah _))) (by show its.length<=_;rw[Tg];lia))));have hs3:((h2.push (seqObj "list" its.toArray 0)).update h2.objs.size (Obj.mapSeq λ_=>#[])).objs.size=h2.objs.size+1:=by rw[iL,size_push']
   generalize hh3:(h2.push (seqObj "list" its.toArray 0)).update h2.objs.size (Obj.mapSeq λ_=>#[])=h3 at hc1 hs3;have keep3:∀b o,s1.heap.get? b=some o->h3.get? b=some o:=λb o e=>by
    rw[<-hh3];exact(dq _ _ _ _ (a6 (aZ (aN e) hle))).trans (aB _ (keep b o e))
   have hkS:(h3.push (seqObj "tuple" its.toArray 0)).objs.size=h3.objs.size+1:=size_push' ..;have hleK:s1.heap.objs.size<=(h3.push (seqObj "tuple" its.toArray 0)).objs.size:=by rw[hkS,hs3];lia
   have hneK:h2.objs.size≠(h3.push (seqObj "tuple" its.toArray 0)).objs.size:=by rw[hkS,hs3];lia
   have I2:bc X pins Z H1 { s1 with heap:=(h3.push (seqObj "tuple" its.toArray 0)).push (seqObj "list" #[] 0) }:=I1.kept (t':=s1.toks) λb o e=>aB _ (aB _ (keep3 b o e));have fA:ke X pins H1 h2.objs.size:=I1.fpOk hle (I1.hok.fresh hle);have fK:ke X pins H1 (h3.push (seqObj "tuple" its.toArray 0)).objs.size:=I1.fpOk hleK (I1.hok.fresh hleK);refine FR (s:={ s1 with heap:=(h3.push (seqObj "tuple" its.toArray 0)).push (seqObj "list" #[] 0) }) (kz:=kz) G hr b I2 rv hkl (by lia) hsp fA fK hneK (aB _ (aB _ hc1)) (aP _ rfl) λp s' ks e I3 ha hk hp hasc=>⟨_,rfl,wpAny_pure ⟨_,rfl,?_⟩⟩
   generalize (h3.push (seqObj "tuple" its.toArray 0)).objs.size=kS at fK hneK hk |-;generalize h2.objs.size=D' at fA hneK ha |-;have hin:∀i∈p.toList,i<its.length:=λi him=>by
    have h1:p.toList.Perm (List.range its.length):=by simpa using dk.mp hp
    simpa using h1.mem_iff.mp him
   have sbK:=cf s'.heap kS (Obj.mapSeq λ_=>(#[]:Array Value));have sbA:=cf (s'.heap.update kS (Obj.mapSeq λ_=>(#[]:Array Value))) D' (Obj.mapSeq λ_=>fy its p);obtain⟨k0,k1,k2,k3,k4,k5⟩:=fK;obtain⟨a0,a1,a2,a3,a4,a5⟩:=id fA;have I4:=I3.turned (t':=s'.toks) (h':=s'.heap.update kS (Obj.mapSeq λ_=>#[])) (λb o hb e=>(sbK.2 b hb).trans e) k0 k1 k3 k4 k5;have I5:=I4.turned (t':=s'.toks) (h':=(s'.heap.update kS (Obj.mapSeq λ_=>#[])).update D' (Obj.mapSeq λ_=>fy its p)) (λb o hb e=>(sbA.2 b hb).trans e) a0 a1 a3 a4 a5;have ha1:(s'.heap.update kS (Obj.mapSeq λ_=>(#[]:Array Value))).get? D'=some (seqObj "list" #[] c1):=(sbK.2 D' hneK).trans ha;obtain⟨c5,hc5⟩:∃c5,((s'.heap.update kS (Obj.mapSeq λ_=>(#[]:Array Value))).update D' (Obj.mapSeq λ_=>fy its p)).get? D'=some (seqObj "list" (fy its p) c5):=⟨_,Tu ha1 λ_=>fy its p⟩
   have hpl:p.toList.length=its.length:=by
    have h1:p.toList.Perm (List.range its.length):=by simpa using dk.mp hp
    have:=h1.length_eq;simpa using this
   refine⟨.ref D',upd H1 D' (.lst ((p.toList.map λi=>(kz.getD i 0,xs.getD i V.non)).map (·.2))),I5.adopt fA ?_,rfl,q D' _ a0 ?_ ?_⟩
   .rw[bn];exact⟨by rw[aA,hpl,Tg];lia,p.toList.map λi=>its.getD i Value.none,c5,uu rv p.toList λi hi=>by rw[<-hil];exact hin i hi,hc5⟩
   .have e0:p.toList.map (λi=>(kz.getD i 0,xs.getD i V.non))=pick (0,V.non) (kz.zip xs) p:=by
     unfold pick;refine cP λi hi=>?_;have h1:i<xs.length:=by rw[<-hil];exact hin i hi
     have h2:i<kz.length:=by lia
     have hz:(kz.zip xs)[i]? = some (kz[i],xs[i]):=by rw[aE (by rw[List.length_zip];lia),List.getElem_zip]
     simp only[List.getD,hz,aE h1,aE h2,gC]
    rw[e0];refine m5 (0,V.non) (kz.zip xs) ?_;rw[List.length_zip,hkl,Nat.min_self,<-hil];exact hp
   .rw[cW];have hps:p.size=its.length:=by rw[<-hpl];simp
    rw[dy];intro i j hi hj hij;have:=hasc i j (bT hij) (by rw[<-hpl];exact hj);unfold Kk at this;have hi':i<p.size:=by simpa using hi
    have hj':j<p.size:=by simpa using hj
    simp only[bU,cQ hi',cQ hj',gC] at this;simpa using this
end
end L2
namespace L2
open PySem PySem.Spec PyProof.Rows
section
variable {prog:Program}{w:World}{A:Around}{E:Value->Shared->Prop}{s:Shared}
theorem FS{d:Addr}{o:Obj}{es:Array DictEntry}{ep:Nat}{Q:Value->Shared->Prop}(hd:(d==sysModules)=false)(ho:s.heap.get? d=some o)(hx:o.ExactDict)(hdat:o.data=.dict es ep)
  (hQ:Q (.ref s.heap.objs.size) { s with heap:=s.heap.push { cls:=.type "dict_keyiterator",data:=.fields #[.ref d,.int 0 0,.int es.size 0,.int ep 0] } }):wpAny (model prog w) A (pyIter (.ref d)) Q E s:=by
 have hT:s.TypeIs (.ref d) "dict":=⟨o,ho,hx.1⟩
 refine wpAny_pyIter_slot hT F.slot_dict_iter (Tz F.slot_dict_iter hT F.entry_dict_iter ?_ (F.args_dict_iter_1 _));unfold Builtin.«dict.__iter__» Builtin.Dict.dictSlotNone;exists (wpAny_bind (wpAny_notOrdered_dict hT (wpAny_pure (a:=Value.ref d) ?_)));unfold Builtin.Dict.showsAll;refine wpAny_bind (m:=Builtin.Dict.addrOf (Value.ref d)) (wpAny_pure (a:=d) ?_);rw[U1 (show ¬(d==sysModules)=true by rw[hd];exact au)];exists (wpAny_pure (wpAny_bind (wpAny_dictEntries ho hdat (wpAny_bind (wpAny_dictEpoch ho hdat (wpAny_bind (Tr (wpAny_pure ⟨_,rfl,"dict_keyiterator",_,⟨_,aP _ rfl,rfl⟩,dQ.lookup,?_⟩))))))));simpa [rawInt] using hQ
theorem Em{it d:Addr}{i ep:Nat}{o:Obj}{es:Array DictEntry}{Q:bt->Shared->Prop}(hit:s.heap.IsKeyIter it d i es.size ep)(ho:s.heap.get? d=some o)(hdat:o.data=.dict es ep)(hi:i<es.size)
  (hQ:∀h',h'.IsKeyIter it d (i+1) es.size ep->Heap.SameBut it s.heap h'->Q (some es[i].key) { s with heap:=h' }):wpAny (model prog w) A (pyNext (.ref it)) Q E s:=by
 obtain⟨oi,hoi,hc,hd⟩:=id hit;unfold pyNext;exists (UF (wpAny_callSpecial?_slot (name:=Str.ofString "__next__") hit.typeIs dQ (Tz dQ hit.typeIs kC (wpAny_bind (wpAny_pure (wpAny_bind (wpAny_bind ?_)))) (jc _))))
 first | refine wpAny_bind (UG hit.typeIs (wpAny_pure (wpAny_bind (UH hoi hd ?_)))) | exists (UI hit.typeIs (wpAny_pure (wpAny_bind (UH hoi hd ?_))))
 rw[U1 (show ¬(Builtin.Dict_items.ownsTuple "dict_keyiterator")=true by decide)];show wpAny _ _ (if (Value.ref d==Value.none)=true then _ else _) _ _ s;rw[U1 (show ¬(Value.ref d==Value.none)=true from au)];exists (wpAny_pure (wpAny_bind (wpAny_dictEntries ho hdat ?_)));rw[U1 (by simp)];exists (wpAny_pure (wpAny_bind (wpAny_dictEpoch ho hdat ?_)));rw[U1 (by simp)];refine wpAny_pure ?_;simp only[show ¬((i:Int)<0) from by lia,U8,dh,cQ hi];refine wpAny_bind ?_
 first | refine wpAny_bind (UG hit.typeIs (wpAny_pure (wpAny_bind (wpAny_isOneOf_keyiter hit.typeIs ?_)))) | exists (UI hit.typeIs (wpAny_pure (wpAny_bind (wpAny_isOneOf_keyiter hit.typeIs ?_))))
 show wpAny _ _ (setField (.ref it) 1 (rawInt ((i:Int)+1))>>=_) _ _ s;have hit':(s.heap.update it (Obj.mapFields (·.setIfInBounds 1 (rawInt ((i:Int)+1))))).IsKeyIter it d (i+1) es.size ep:=⟨_,bq _ hoi (Obj.isFreed_of_fields (ie hd _)),(Obj.cls_mapFields ..).trans hc,by rw[ie hd];simp[rawInt]⟩
 exists (UJ hoi hd (by simp) (wpAny_bind (Tx (wpAny_bind (wpAny_isOneOf_keyiter (s:={ s with heap:=s.heap.update it (Obj.mapFields (·.setIfInBounds 1 (rawInt ((i:Int)+1)))) }) hit'.typeIs ?_)))));exact wpAny_pure (a:=es[i].key) (wpAny_pure ⟨_,rfl,wpAny_pure (hQ _ hit' (cf ..))⟩)
theorem Hu{it d:Addr}{ep:Nat}{o:Obj}{es:Array DictEntry}{Q:bt->Shared->Prop}(hh:A.handled=none)(hit:s.heap.IsKeyIter it d es.size es.size ep)(ho:s.heap.get? d=some o)(hdat:o.data=.dict es ep)
  (hQ:∀h',Heap.ExtBut it s.heap h'->Q none { s with heap:=h' }):wpAny (model prog w) A (pyNext (.ref it)) Q E s:=by
 obtain⟨oi,hoi,hc,hd⟩:=id hit;unfold pyNext;exists (UF (wpAny_callSpecial?_slot (name:=Str.ofString "__next__") hit.typeIs dQ (Tz dQ hit.typeIs kC (wpAny_bind (wpAny_pure (wpAny_bind (wpAny_bind ?_)))) (jc _))))
 first | refine wpAny_bind (UG hit.typeIs (wpAny_pure (wpAny_bind (UH hoi hd ?_)))) | exists (UI hit.typeIs (wpAny_pure (wpAny_bind (UH hoi hd ?_))))
 rw[U1 (show ¬(Builtin.Dict_items.ownsTuple "dict_keyiterator")=true by decide)];show wpAny _ _ (if (Value.ref d==Value.none)=true then _ else _) _ _ s;rw[U1 (show ¬(Value.ref d==Value.none)=true from au)];exists (wpAny_pure (wpAny_bind (wpAny_dictEntries ho hdat ?_)));rw[U1 (by simp)];exists (wpAny_pure (wpAny_bind (wpAny_dictEpoch ho hdat ?_)));rw[U1 (by simp)];refine wpAny_pure ?_;simp only[show ¬((es.size:Int)<0) from by lia,U8,dh,jT (aI es.size)];refine wpAny_bind ?_
 first | refine wpAny_bind (UG hit.typeIs (wpAny_pure ?_)) | exists (UI hit.typeIs (wpAny_pure ?_))
 refine wpAny_bind (m:=setField (.ref it) 0 .none) (UJ hoi hd (by simp) (wpAny_bind (m:=newExc (.type "StopIteration") []) ?_));simp only[newExc,newTuple];exists (Tr (wpAny_bind (m:=firstArgMember _ _) (wpAny_of_eq (a:=Value.none) (by first | rfl | (simp only[firstArgMember];rfl)) (Tr ?_ (by size_fits)))) (by size_fits));simp only[raiseNew];exists (wpAny_handled ?_);rw[show A.in1.handled=none from hh];exists (wpAny_pure (wpAny_throw ?_));exists (wpAny_isInstance (T:="StopIteration") (b:=true) ⟨_,aP _ rfl,rfl⟩ isSubtype_stop ?_);exact wpAny_pure (hQ _ (((cf ..).extBut.push _).push _))
end
def M4(a:Addr)(o:Obj)(kvs:List (List Key×V)):It:=
 ⟨λi H=>i<kvs.length/\H a=some (.frz o (.dT kvs)),λi H x H'=>H'=H/\∃k v b,kvs[i]? = some (k,v)/\x=.ref b/\H b=some (.tup (k.map kV)),λi H=>i=kvs.length/\H a=some (.frz o (.dT kvs))⟩
theorem Ba {P : Program} {w : World} {K : U9} {tg : Expr} (a it : Addr) (o : Obj) (es : Array DictEntry) (ep : Nat) (kvs : List (List Key × V)) (hdat : o.data = .dict es ep) (hes : es.size = kvs.length) :
    Turn P w K tg (M4 a o kvs) [it] it (fun i h => h.IsKeyIter it a i es.size ep) where
  mem := by simp
  obj := fun i h st b hb => by
    have e : b = it := by simpa using hb
    subst e
    obtain ⟨oi, e, c, d⟩ := st
    exact ⟨oi, e, fun v z => by rw [d] at z; cases z⟩
  keep := fun i h h' st k => by
    obtain ⟨oi, e, r⟩ := st
    exact ⟨oi, k it (by simp) _ e, r⟩
  item := by
    intro X hP hw hK hc i pins s Z H E I hf st hg
    subst hP hw hK
    obtain ⟨hi, hH⟩ := hg
    obtain ⟨ho, z, y, xs, r, o', es', ep', e1, ex, ed, el, nd⟩ := (show cc X.prog X.w H s.heap a (.frz o (.dT kvs)) from I.hok a _ hH)
    rw [ho] at e1
    cases e1
    rw [hdat] at ed
    cases ed
    obtain ⟨f0, f1, f2, f3, f4, f5⟩ := hf it (by simp)
    have hi' : i < es.size := by lia
    refine Em st ho hdat hi' fun h' st' sb => ?_
    have hki : kvs[i]? = some kvs[i] := aE hi
    obtain ⟨q, hq, q1, q2, q3⟩ := gp r hki
    have ek : es[i].key = .ref q.2.1 := by
      have e3 : es.toList[i]? = some (entryOfKey (tupleKind (fm X.prog X.w)) q) := by rw [el, aR, hq]; rfl
      have e4 : es.toList[i]? = some es[i] := by simp [hi']
      rw [e4] at e3
      rw [av e3]
      rfl
    have I1 : bc X pins Z H { s with heap := h' } := I.turned (t' := s.toks) (fun b ob hb e => (sb.2 b hb).trans e) f0 f1 f3 f4 f5
    obtain ⟨oi, e, c, d⟩ := id st'
    rw [ek]
    exact ⟨_, rfl, v9 (s := { s with heap := h' }) e c d (by decide) ⟨.ref q.2.1, H, I1, rfl, ⟨rfl, kvs[i].1, kvs[i].2, q.2.1, hki, rfl, q2⟩, st', fun b hb => (hf b hb).1⟩⟩
  done := by
    intro X hP hw hK hc i pins s Z H E I hf st hg
    subst hP hw hK
    obtain ⟨rfl, hH⟩ := hg
    obtain ⟨ho, _⟩ := (show cc X.prog X.w H s.heap a (.frz o (.dT kvs)) from I.hok a _ hH)
    obtain ⟨f0, f1, f2, f3, f4, f5⟩ := hf it (by simp)
    rw [← hes] at st
    exact Hu (I.ok.hd hc) st ho hdat fun h' eb => ⟨rfl, I.turned (t' := s.toks) (fun b o hb e => eb b o hb e) f0 f1 f3 f4 f5⟩
  self := fun _ _ _ _ _ st h => wpAny_pyIter_keyiter st h
section
variable {X:Cx}{pins:List (Addr×Obj)}{Z:St}{H:Hp}{s:Shared}{a:Addr}{o:Obj}{kvs:List (List Key×V)}
theorem bc.freeze(I:bc X pins Z H s)(hH:H a=some (.dT kvs))(ho:s.heap.get? a=some o):bc X pins Z (upd H a (.frz o (.dT kvs))) s:=by
 have ne:∀b u,H b=some u->u≠.dT kvs->b≠a:=λb u e n z=>by rw[z,hH] at e;cases e;exact n rfl
 have nn:∀b,H b=none->b≠a:=λb e z=>by rw[z,hH] at e;cases e
 refine I.step (g':=s.gens) (d':=s.drawn) (t':=s.toks) (h':=s.heap) (ch:=[]) (λb hb=>nomatch hb) (λb u _ _ _ e _=>e) (λb u _ _ _ e _=>⟨u.slots,e⟩) (λb u _ e n=>by rw[aO (nn b n)];exact n) (λb u _ e=>⟨u,e⟩)
  (λb xs e=>by rw[aO (ne _ _ e (by intro z;cases z))];exact e) (λb u xs e=>by rw[aO (ne _ _ e (by intro z;cases z))];exact e) (λb ps e=>⟨#[],by rw[aO (ne _ _ e (by intro z;cases z)),e];simp⟩) (λm hm=>hm) (λb u e=>?_) I.bare
 have stay:∀{b u},cc X.prog X.w H s.heap b u->cc X.prog X.w (upd H a (.frz o (.dT kvs))) s.heap b u:=fun {b u} x=>x.stay (λc v _ q=>q) (λc q=>by rw[aO (ne _ _ q (by intro z;cases z))];exact q) λc xs q=>by rw[aO (ne _ _ q (by intro z;cases z))];exact q
 by_cases hb:b=a
 .subst hb;rw[aG] at e;cases e;exact⟨ho,stay (I.hok b _ hH)⟩
 .rw[aO hb] at e;exact stay (I.hok b u e)
theorem bc.notFrozen(I:bc X pins Z H s)(hH:H a=some (.dT kvs)):∀o u,X.H₀ a≠some (.frz o u):=λo u e=>by
 have:=I.base.frzs a o u e;rw[hH] at this;cases this
theorem bc.thaw(I:bc X pins Z H s)(nf:∀o u,X.H₀ a≠some (.frz o u))(hH:H a=some (.frz o (.dT kvs))):bc X pins Z (upd H a (.dT kvs)) s:=by
 have ne:∀b u,H b=some u->u≠.frz o (.dT kvs)->b≠a:=λb u e n z=>by rw[z,hH] at e;cases e;exact n rfl
 have nn:∀b,H b=none->b≠a:=λb e z=>by rw[z,hH] at e;cases e
 have stay:∀{b u},cc X.prog X.w H s.heap b u->cc X.prog X.w (upd H a (.dT kvs)) s.heap b u:=fun {b u} x=>x.stay (λc v _ q=>q) (λc q=>by rw[aO (ne _ _ q (by intro z;cases z))];exact q) λc xs q=>by rw[aO (ne _ _ q (by intro z;cases z))];exact q
 refine⟨I.ok,I.os,I.bare,⟨I.base.keep,I.base.slot,λb u e n hx=>by rw[aO (nn b (I.base.free b u e n hx))];exact I.base.free b u e n hx,I.base.there,λb xs e=>?_,λb u v e=>?_,λb ps e=>?_⟩,I.loc,I.cell,by rw[aO (nn _ I.free)];exact I.free,λx c e=>by rw[aO (nn _ (I.freeC x c e))];exact I.freeC x c e,λp hp=>?_,λb u e=>?_,I.len⟩
 .have:=I.base.tups b xs e;rw[aO (ne _ _ this (by intro z;cases z))];exact this
 .have:=I.base.frzs b u v e;rw[aO (λz:b=a=>nf u v (by rw[<-z];exact e))];exact this
 .obtain⟨more,q⟩:=I.base.tbls b ps e;exact⟨more,by rw[aO (ne _ _ q (by intro z;cases z))];exact q⟩
 .obtain⟨p1,p2,p3⟩:=I.pin p hp;exact⟨p1,by rw[aO (nn _ p2)];exact p2,p3⟩
 .by_cases hb:b=a
  .subst hb;rw[aG] at e;cases e;exact stay (I.hok b _ hH).2
  .rw[aO hb] at e;exact stay (I.hok b u e)
def yw(k:Nat)(caps:im)(tl:TE)(g:TG)(tf:TT)(te:TE):TE:=λZ H Q=>tl Z H λx H1=>∃(a:Addr) (kvs:List (List Key×V)),x=.ref a/\H1 a=some (.dT kvs) ∧
 ∀o,j5 (M4 a o kvs) g tf te (λv H'=>H' a=some (.frz o (.dT kvs))/\Q v (upd H' a (.dT kvs))) (jF k caps Z) (upd H1 a (.frz o (.dT kvs)))
theorem Gc{k:Nat}{caps:im}{tl:TE}{g:TG}{tf:TT}{te:TE}{Q:VK}:yw k caps tl g tf te Z H Q=tl Z H λx H1=>∃(a:Addr) (kvs:List (List Key×V)),x=.ref a/\H1 a=some (.dT kvs) ∧
 ∀o,j5 (M4 a o kvs) g tf te (λv H'=>H' a=some (.frz o (.dT kvs))/\Q v (upd H' a (.dT kvs))) (jF k caps Z) (upd H1 a (.frz o (.dT kvs))):=rfl
theorem Hv{tg:Expr}{R:Value->Shared->Prop}{E:Value->Shared->Prop}(I:bc X pins Z H s)(hH:H a=some (.dT kvs))
  (h:∀o it tn s2,s.heap.get? a=some o->bc X pins Z (upd H a (.frz o (.dT kvs))) s2->Turn X.prog X.w X.K tg (M4 a o kvs) [it] it tn->tn 0 s2.heap->(∀b∈[it],ke X pins (upd H a (.frz o (.dT kvs))) b)->R (.ref it) s2) :
  wpAny (model X.prog X.w) X.A (pyIter (.ref a)) R E s:=by
 obtain⟨z,y,xs,r,o,es,ep,ho,ex,ed,el,nd⟩:=(show cc X.prog X.w H s.heap a (.dT kvs) from I.hok a _ hH)
 have hes:es.size=kvs.length:=by
  have h1:es.toList.length=xs.length:=by rw[el,aA]
  have h2:kvs.length=xs.length:=bK r;rw[<-bp];lia
 refine FS y ho ex ed ?_;have I1:=I.freeze hH ho;refine h o s.heap.objs.size (λi h=>h.IsKeyIter s.heap.objs.size a i es.size ep) _ ho (I1.kept (t':=s.toks) λb o e=>aB _ e) (Ba a _ o es ep kvs ed hes) ⟨_,aP _ rfl,rfl,rfl⟩ λb hb=>?_;have e:b=s.heap.objs.size:=by simpa using hb
 subst e;exact I1.fpOk (aI _) (I1.hok.fresh (aI _))
theorem EZ{i:Nat}{x:Str}{own ns:List Str}{caps:im}{elt tg iter:Expr}{ifs:lc}{scope:Scope}{pos pos' spos:Pos}{tl:TE}{g:TG}{tf:TT}{te:TE}(hN:X.N.Nodup)(hi:X.N[i]? = some x)(hx:Loc X.env.scope x)(hc:X.calm=true)(S:oC scope ns)(cp:oB X scope ns caps)(hit:PE X iter tl)
  (hg:∀C s H fp pn,PG (sO X (own++ns) scope C s H fp pn) tg g) (ht:∀C s H fp pn,PF (sO X (own++ns) scope C s H fp pn) ifs tf) (he:∀C s H fp pn,PE (sO X (own++ns) scope C s H fp pn) elt te)
  (hs:∀x,foldedSetIterable iter X.env x=pure x:=by intro _;rfl) (hsw:swapsWith (.ListComp elt [⟨tg,iter,ifs,0⟩] scope pos) (some (.Name x pos')) spos.line X.env=pure true:=by rfl)
  (hf:X.fn x=true\/X.env.scope.names.lookup x=some .local:=by first | exact .inl rfl | exact .inr rfl | assumption) :
  PS X (.Assign [.Name x pos'] (.ListComp elt [⟨tg,iter,ifs,0⟩] scope pos) spos) (yx (yw own.length caps tl g tf te) (pw i)):=by
 intro pins s Z H D I h;rw[exec_Assign_Name_used _ _ _ _ hsw];exists (Tq (wpAny_bind ?_));show wpAny _ X.A (do let _ <-comprehension (.ListComp elt [⟨tg,iter,ifs,0⟩] scope pos) scope X.env _ (newList []) false (eval iter X.env) (some (assign (.Name x pos') X.env))) _ _ s;exists (wpAny_mono (wpAny_comprehension_free (use:=some (assign (.Name x pos') X.env)) (Q:=λ_ s'=>SP X pins D .next s') rfl hs (cp.cl I S) S.kind S.names
  (dw (hit pins s Z H _ I h) λv s1 ⟨y,H1,I1,r1,q1⟩=>?_)) (λ_ s' hq=>wpAny_pure (wpAny_pure hq)) λ_ _ e=>e)
 obtain⟨a,kvs,e,hH,hJ⟩:=q1;subst e;cases r1;refine Hv (tg:=tg) I1 hH λo it tn s2 ho I2 T st2 f2=>?_;refine uT hc S cp hg ht he I2 T st2 f2 (hJ o) (RR:=λacc C=>compPost (model X.prog X.w) X.A X.xe (some (assign (.Name x pos') X.env)) (λ_ s'=>SP X pins D .next s') acc C) λL C m s' H' ys hDC hn fC I' q=>?_;obtain⟨q1,q2⟩:=q;show wpAny _ X.A (assign (.Name x pos') X.env (.ref L)) _ _ _;refine wpAny_assign_Name (rL I' hN hi hx (v:=.ref L) (u:=.ref L) rfl (λs'' I'' z'=>?_) hf);obtain⟨b,sb,hb⟩:=z';obtain⟨f0,f1,f2,f3,f4,f5⟩:=fC;have hCb:C≠b:=by
  rcases hb with z | z
  .rw[z];exact f1
  .exact λy=>f4 _ _ z y.symm
 exact⟨m,hn.sameBut sb hCb,λh' hs'=>⟨_,_,(I''.turned (t':=s''.toks) (λb o hb e=>(hs'.2 b hb).trans e) f0 f1 f3 f4 f5).thaw (I1.notFrozen hH) q1,q2⟩⟩
theorem Cb{g:TG}{tf:TT}{te:TE}{Q:VK}(hsz:kvs.length<=sizeLine)(Pv:Nat->List V->St->Hp->Prop)(h0:Pv 0 [] Z H)(hl:∀i ys Z H,Pv i ys Z H->H a=some (.frz o (.dT kvs))/\ys.length<=i)
  (hs:∀i k v b ys Z H (N:List V->St->Hp->Prop),kvs[i]? = some (k,v)->H b=some (.tup (k.map kV))->Pv i ys Z H->(∀ys Z H,Pv (i+1) ys Z H->N ys Z H)->g (.ref b) Z H λZ2 H2=>tf Z2 H2 λb H3=>if b=true then te Z2 H3 λy H4=>N (ys++[y]) Z2 H4 else N ys Z2 H3)
  (hd:∀ys Z H p,Pv kvs.length ys Z H->H p=none->Q (.ref p) (upd H p (.lst ys))):j5 (M4 a o kvs) g tf te Q Z H:=by
 refine qx kvs.length hsz Pv h0 (λi ys Z H p=>(hl i ys Z H p).2) (λi ys Z H hi p=>⟨hi,(hl i ys Z H p).1⟩) (λys Z H p=>⟨rfl,(hl _ ys Z H p).1⟩) ?_ hd;rintro i ys Z H x H' N hi p ⟨rfl,k,v,b,h1,rfl,h2⟩ hN;exact hs i k v b ys Z H' N h1 h2 p hN
theorem DZ{td ty:TE}{Q:VK}:Iv td ty Z H Q=td Z H λx H1=>ty Z H1 λy H2=>∃a v,x=.ref a/\oX H2 a y (some v)/\Q v H2:=rfl
theorem DY{td ty tv:TE}{D:Ends}:JA td ty tv D Z H=tv Z H λv H1=>td Z H1 λx H2=>ty Z H2 λy H3=>∃a H4,x=.ref a/\ur H3 a y v H4/\D.nx Z H4:=rfl
theorem GZ{Q:VK}:Dj Z H Q=∀p,H p=none->Q (.ref p) (upd H p (.dT [])):=rfl
theorem AW{Q:VK}:Dk Z H Q=∀p,H p=none->Q (.ref p) (upd H p (.dK [])):=rfl
theorem Ie{ty td:TE}{Q:VK}:Mq ty td Z H Q=ty Z H λy H1=>td Z H1 λx H2=>∃a o,x=.ref a/\oX H2 a y o/\Q (.bl o.isSome) H2:=rfl
theorem wj{ty td:TE}{Q:VK}:Gh ty td Z H Q=ty Z H λy H1=>td Z H1 λx H2=>∃a o,x=.ref a/\oX H2 a y o/\Q (.bl (!o.isSome)) H2:=rfl
end
def CI(z:Nat->Int):Nat->Option Int
 | 0=>none
 | i+1=>some (match CI z i with | none=>z i | some m=>if m<z i then z i else m)
def Nw(b:bt):Array Value:=match b with | none=>#[] | some v=>#[v,v]
def NI(b:bt)(m:Option Int):Prop:=match b,m with | none,none=>True | some v,some i=>∃t,v=.int i t | _,_=>False
section
variable {prog:Program}{w:World}{A:Around}{R:Result->Shared->Prop}{I:Addr}{fp wr:ld}{n:Nat}{P:Nat->Value->Prop}{St:Nat->Heap->Prop}{z:Nat->Int}{d:Value}
abbrev FA (I S:Addr) (d:Value):Code:=.builtin "max.loop" ⟨[.ref I,.none,.ref S],[("default",d)]⟩
theorem CK(W:Walks prog w A.in1 I fp wr n P St)(hP:∀i v,P i v->∃t,v=.int (z i) t)(S:Addr)(hSf:S∉fp):∀(k i:Nat) (s:Shared) (b:bt) (c:Nat),n-i=k->i<=n->St i s.heap->NI b (CI z i) →
  s.heap.get? S=some { cls:=.type "list",dict:=none,data:=.seq (Nw b) c,slots:=#[] } →
  (∀v h' tk,(match CI z n with | none=>v=d | some m=>∃t,v=.int m t)->(∀a o,a∉wr->a≠S->s.heap.get? a=some o->h'.get? a=some o)->R (.ok (.ret v)) { s with heap:=h',toks:=tk }) →
  codeAny (model prog w) A (FA I S d) R s:=by
 have hSw:S∉wr:=λh=>hSf (W.sub _ h);have again':(toString "max"++toString ".loop":String)="max.loop":=by decide
 intro k
 induction k with
 | zero=>
  intro i s b c hk hi hst hb hS hR;have hin:i=n:=by lia
  subst hin;refine UA F.entry_max_loop ?_;rw[iB gH _];refine wpAny_bind (m:=seqItems? (.ref S)) (UL hS rfl (wpAny_bind (m:=tryCatch (pyNext (.ref I)) _) (wpAny_tryCatch (W.done s _ _ hst λh' tk hk'=>?_))));have hS':=hk' S _ hSw hS;cases b with
  | none=>
   cases hm:CI z i with
   | some m=>rw[hm] at hb;exact hb.elim
   | none=>
    refine wpAny_bind (m:=rule _) (UD (wpAny_pure (hR d h' tk (by rw[hm]) λa o h1 h2 e=>hk' a o h1 e)))
  | some v=>
   cases hm:CI z i with
   | none=>rw[hm] at hb;exact hb.elim
   | some m=>
    rw[hm] at hb;obtain⟨t,rfl⟩:=hb;refine wpAny_bind (m:=updateSeq S λ_=>#[]) (UM hS' rfl (wpAny_bind (UC (wpAny_pure ?_))) (by show 2<=sizeLine;decide) (ah _));exact hR _ _ tk (by rw[hm];exact⟨t,rfl⟩) λa o h1 h2 e=>(di _ _ (fM h2)).trans (hk' a o h1 e)
 | succ k ih=>
  intro i s b c hk hi hst hb hS hR;have hlt:i<n:=by lia
  refine UA F.entry_max_loop ?_;rw[iB gH _];refine wpAny_bind (m:=seqItems? (.ref S)) (UL hS rfl (wpAny_bind (m:=tryCatch (pyNext (.ref I)) _) (wpAny_tryCatch (W.item i s _ _ hlt hst λv h' tk hPv hst' hk'=>?_))));have hS':=hk' S _ hSw hS;obtain⟨t,rfl⟩:=hP i v hPv;have onS:∀f,St (i+1) (h'.update S f):=λf=>W.frame _ _ _ hst' λa ha o e=>(di _ _ (λq:S=a=>hSf (q▸ha))).trans e;have fin:∀f v' h'' tk'',(match CI z n with | none=>v'=d | some m=>∃t,v'=.int m t)->(∀a o,a∉wr->a≠S->(h'.update S f).get? a=some o->h''.get? a=some o)->R (.ok (.ret v')) { s with heap:=h'',toks:=tk'' }:=λf v' h'' tk'' q1 q2=>
   hR v' h'' tk'' q1 λa o h1 h2 e=>q2 a o h1 h2 ((di _ _ (fM h2)).trans (hk' a o h1 e))
  cases b with
  | none=>
   cases hm:CI z i with
   | some m=>rw[hm] at hb;exact hb.elim
   | none=>
    refine wpAny_bind (m:=updateSeq S λ_=>#[.int (z i) t,.int (z i) t]) (UM hS' rfl ?_);rw[again'];refine wpAny_pure ⟨UN gH _,ih (i+1) _ (some (.int (z i) t)) _ (by lia) hlt (onS _) (show ∃u,Value.int (z i) t=.int _ u by rw[hm];exact⟨t,rfl⟩) (bq _ hS' rfl) (fin _)⟩
  | some v=>
   cases hm:CI z i with
   | none=>rw[hm] at hb;exact hb.elim
   | some m=>
    rw[hm] at hb;obtain⟨u,rfl⟩:=hb;have gt:=CmpOf.ints_gt (prog:=prog) (w:=w) (A:=A.in1) (P:=λj v=>∃t,v=.int (if j=0 then z i else m) t) (λj=>if j=0 then z i else m) λ_ _ h=>h;refine wpAny_bind (m:=tryCatch (holding [Value.int (z i) t,Value.int (z i) t] _) _) (wpAny_tryCatch (Tx (wpAny_bind (gt 0 1 _ _ _ _ _ ⟨t,rfl⟩ ⟨u,rfl⟩ (wpAny_bind (Tx (Tf (wpAny_bind (UC (wpAny_pure ?_))))))))));rw[again']
    split
    .rename_i hq;have hgt:m<z i:=U6 (show decide (m<z i)=true from hq);refine wpAny_bind (m:=updateSeq S λ_=>#[.int (z i) t,.int (z i) t]) (UM hS' rfl (wpAny_bind (UC ?_)) (by show 2<=sizeLine;decide) (by show 2<=sizeLine+1;decide));refine wpAny_pure ⟨UN gH _,ih (i+1) _ (some (.int (z i) t)) _ (by lia) hlt (onS _) (show ∃u,Value.int (z i) t=.int _ u by rw[hm];simp only[U2 hgt];exact⟨t,rfl⟩) (bq _ hS' rfl) (fin _)⟩
    .rename_i hq;have hgt:¬m<z i:=λq=>hq (show decide (m<z i)=true from U5 q);exists (UC (wpAny_pure ⟨UN gH _,ih (i+1) _ (some (.int m u)) c (by lia) hlt hst' (show ∃u',Value.int m u=.int _ u' by rw[hm];simp only[U1 hgt];exact⟨u,rfl⟩) hS' λv' h'' tk'' q1 q2=>?_⟩));exact hR v' h'' tk'' q1 λa o h1 h2 e=>q2 a o h1 h2 (hk' a o h1 e)
end
def LD(m:Option Int)(x:Int):Option Int:=match m with | none=>some x | some y=>some (if y<x then x else y)
def oP(ns:gs)(d:Int):Int:=(ns.foldl LD none).getD d
theorem xo(ns:gs):∀i,i<=ns.length->CI (λj=>ns.getD j 0) i=(ns.take i).foldl LD none
 | 0,_=>by simp[CI]
 | i+1,h=>by
  have hi:i<ns.length:=h;rw[bE,aE hi];simp only[lV,List.foldl_append,eT,List.foldl_nil];rw[<-xo ns i (by lia)];show some _=_;have e:ns.getD i 0=ns[i]:=by simp[List.getD,hi]
  simp only[e];cases CI (λj=>ns.getD j 0) i<;>rfl
def Ar(K:U9):V->V->Hp->VK->Prop:=λx y H Q=>∃(p:Addr) (ns:gs) (d:Int),x=.ref p/\y=.int d/\cI K H p (ns.map V.int)/\Q (.int (oP ns d)) H
theorem uN:∀{us:ag} {ns:gs},IntsAre us ns->∀i,i<us.length->∃t,us.getD i Value.none=.int (ns.getD i 0) t
 | _,_,.nil,i,h=>by simp at h
 | _,_,.cons n t r,0,_=>⟨t,rfl⟩
 | _,_,.cons n t r,i+1,h=>by
  obtain⟨t',e⟩:=uN r i (by simpa using h);exact⟨t',by simpa using e⟩
section
variable {X:Cx}
theorem Cf(hc:X.calm=true){pins:List (Addr×Obj)}{Z:St}{H:Hp}{s:Shared}{x y:V}{u v:Value}{Q:VK}(I:bc X pins Z H s)(rx:RelV x u)(ry:RelV y v)(h:Ar X.K x y H Q):
  wpAny (model X.prog X.w) X.A (call (.builtin "max") [u] [(Str.ofString "default",v)]) (EP X pins Z Q) X.xe s:=by
 obtain⟨p,ns,d,rfl,rfl,hq,q⟩:=h;cases rx;obtain⟨td,rfl⟩:=ry;obtain⟨its,rv,pl,hz⟩:=I.list hq;have hi:=m9 rv;have hil:its.length=ns.length:=by have:=rv.length;simpa using this.symm
 have hl:=pl.isList;have hlt:p<s.heap.objs.size:=by obtain⟨_,e,_⟩:=hl;exact aN e
 have key:∀R:Result->Shared->Prop,(∀v h' tk,(match CI (λj=>ns.getD j 0) its.toArray.size with | none=>v=Value.int d td | some m=>∃t,v=.int m t)->(∀a o,s.heap.get? a=some o->h'.get? a=some o)->R (.ok (.ret v)) { s with heap:=h',toks:=tk }) →
   codeAny (model X.prog X.w) X.A (.call (.builtin "max") ⟨[.ref p],[(Str.ofString "default",.int d td)]⟩) R s:=by
  intro R hR;refine codeAny_call_builtin F.plain_max F.entry_max ?_;have body:wpAny (model X.prog X.w) X.A.in1 (Builtin.«max» ⟨[.ref p],[(Str.ofString "default",.int d td)]⟩) (λfin s'=>match fin with | .done f=>R (.ok f) s' | .again c'=>c'.quiet=true/\codeAny (model X.prog X.w) X.A c' R s') (λe s'=>R (.error e) s') s:=by
   refine wpAny_bind (m:=Builtin.Builtins.bindParams "max" ["key","default"] 0 ⟨[],[(Str.ofString "default",.int d td)]⟩) (wpAny_of_eq (show _=pure [none,some (Value.int d td)] from rfl) ?_);exists (wpAny_pure ?_);exists (Tp hl ?_);exists (Tr ?_);have again':(toString "max"++toString ".loop":String)="max.loop":=by decide
   rw[again'];have W:=Walks.list (prog:=X.prog) (w:=X.w) (A:=X.A.in1) (I.ok.hd hc) s.heap.objs.size p (a6 hlt) its.toArray;have hI:((s.heap.push { cls:=.type "list_iterator",data:=.fields #[.ref p,.int 0 0] }).push { cls:=.type "list",data:=.seq #[] }).get? s.heap.objs.size=some { cls:=.type "list_iterator",data:=.fields #[.ref p,.int 0 0] }:=aB _ (aP _ rfl);refine wpAny_pure ⟨UN gH _,CK (z:=λj=>ns.getD j 0) W (λi v hv=>?_) _ ?_ _ 0 _ none 0 rfl (ah _) ?_ trivial (aP _ rfl) λv h' tk hv hk=>?_⟩
   .have hv':its[i]? = some v:=by simpa using hv
    obtain⟨t,e⟩:=uN hi i (aH.mp hv').1;exact⟨t,by rw[<-e];simp[List.getD,hv']⟩
   .rw[dN];intro z;rcases aL.mp z with e | e
    .exact Nat.succ_ne_self _ e
    .have e':s.heap.objs.size+1=p:=by simpa using e
     exact absurd hlt (by rw[<-e'];exact Nat.not_lt.mpr (dZ _))
   .exact⟨⟨_,hI,rfl,rfl⟩,(hl.push _).push _⟩
   .refine hR v h' tk hv λa o e=>hk a o ?_ ?_ (aB _ (aB _ e))
    .exact λz=>by rw[eJ.mp z] at e;exact de _ (aN e)
    .exact λz=>by rw[z,dN] at e;exact absurd (aN e) (Nat.not_lt.mpr (dZ _))
  simp only[checkBuiltinCall,F.kind_max];have ha:argsOk "max" ⟨[.ref p],[(Str.ofString "default",.int d td)]⟩:=by unfold argsOk;kernel_rfl
  cases hsig:Manifest.signature? "max" with
  | none=>exact wpAny_pure body
  | some sig=>
   simp only[argsOk,hsig] at ha;show wpAny _ X.A.in1 (Bind.checkArgs "max" sig _) _ _ s;rw[show Bind.checkArgs "max" sig ⟨[.ref p],[(Str.ofString "default",.int d td)]⟩=pure () from ha];exact wpAny_pure body
 refine Ti (key _ λv h' tk hv hk=>?_);have e1:its.toArray.size=ns.length:=by rw[aQ,hil]
 rw[e1,xo ns ns.length (aI _),bf] at hv;have fin:v=.int (oP ns d) td\/∃t,v=.int (oP ns d) t:=by
  unfold oP
  revert hv
  generalize ns.foldl _ none=o;intro hv;cases o with
  | none=>exact .inl hv
  | some m=>exact .inr hv
 refine⟨.int (oP ns d),H,I.kept hk,?_,q⟩;rcases fin with z | z
 .exact⟨td,z⟩
 .exact z
theorem JX{K:U9}{a:Addr}{d:Int}{H:Hp}{Q:VK}:Ar K (.ref a) (.int d) H Q=∃ns:gs,cI K H a (ns.map V.int)/\Q (.int (oP ns d)) H:=
 propext ⟨(by rintro ⟨_,ns,_,e1,e2,h⟩;cases e1;cases e2;exact⟨ns,h⟩),(by rintro ⟨ns,h⟩;exact ⟨a,ns,d,rfl,rfl,h⟩)⟩
theorem uP{A:Around}{k:Nat}(hr:fj k A):A.units+1<cLine:=by have:=hr.units;lia
end
end L2
namespace Rm
open PySem L2
def md(p q:Bw):Bool:=decide (q.1<p.1)&&decide (p.2<q.2)
def fE(p:Bw):Int:=p.2-p.1
abbrev Acc:=List (Bw×Int)
structure Top (acc:Acc) (q:Bw) (m:Int):Prop where
 nn:0<=m
 le:∀ e∈acc,md e.1 q=true->e.2<=m
 is:m=0\/∃ e∈acc,md e.1 q=true/\e.2=m
theorem ju{p q:Bw}(h:md p q=true):fE p<fE q:=by
 unfold md at h;rw[ao,U3,U3] at h;unfold fE;lia
structure Kn (qs:List Bw) (i:Nat) (acc:Acc):Prop where
 keys:acc.map (·.1)=qs.take i
 pos:∀ e∈acc,1<=e.2
 top:∀ e∈acc,Top acc e.1 (e.2 - 1)
theorem Kn.start(qs:List Bw):Kn qs 0 []:=⟨by simp,(λe h=>nomatch h),(λe h=>nomatch h)⟩
theorem Kn.len{qs:List Bw}{i:Nat}{acc:Acc}(K:Kn qs i acc)(h:i<=qs.length):acc.length=i:=by
 have:=congrArg List.length K.keys;rw[aA,cB] at this;lia
def gz(acc:Acc)(q:Bw):gs:=(acc.filter λe=>md e.1 q).map (·.2)
theorem fold_max(ns:gs):∀o:Option Int,(∀y,o=some y->1<=y)->(∀n∈ns,1<=n)->∀r,ns.foldl LD o=r →
  (∀y,o=some y->∃z,r=some z/\y<=z)/\(∀n∈ns,∃z,r=some z/\n<=z)/\(r=o\/∃n∈ns,r=some n):=by
 induction ns with
 | nil=>intro o h1 _ r e;subst e;exact⟨λy e=>⟨y,e,dv _⟩,(λn h=>nomatch h),.inl rfl⟩
 | cons n ns ih=>
  intro o h1 h2 r e;rw[eT] at e;obtain⟨a,b,c⟩:=ih (LD o n) (λy hy=>by
   cases o with
   | none=>cases hy;exact h2 n aW
   | some y0=>
    have hy':(if y0<n then n else y0)=y:=av hy;have:=h1 y0 rfl;have:=h2 n aW
    split at hy'<;>lia) (λx hx=>h2 x (aJ _ hx)) r e
  cases o with
  | none=>
   obtain⟨z,hz1,hz2⟩:=a n rfl;refine⟨(λy hy=>nomatch hy),λx hx=>?_,?_⟩
   .rcases aL.mp hx with e | e
    .subst e;exact⟨z,hz1,hz2⟩
    .exact b x e
   .rcases c with c | ⟨x,hx,c⟩
    .exact .inr ⟨n,aW,c⟩
    .exact .inr ⟨x,aJ _ hx,c⟩
  | some y0=>
   obtain⟨z,hz1,hz2⟩:=a (if y0<n then n else y0) rfl;refine⟨λy hy=>?_,λx hx=>?_,?_⟩
   .cases hy;refine⟨z,hz1,?_⟩
    split at hz2<;>lia
   .rcases aL.mp hx with e | e
    .subst e;refine⟨z,hz1,?_⟩
     split at hz2<;>lia
    .exact b x e
   .rcases c with c | ⟨x,hx,c⟩
    .by_cases h:y0<n
     .have c:r=some (if y0<n then n else y0):=c;rw[U2 h] at c;exact .inr ⟨n,aW,c⟩
     .have c:r=some (if y0<n then n else y0):=c;rw[U1 h] at c;exact .inl c
    .exact .inr ⟨x,aJ _ hx,c⟩
theorem Ey{acc:Acc}{q:Bw}(hp:∀e∈acc,1<=e.2):Top acc q (oP (gz acc q) 0):=by
 have hin:∀n,n∈gz acc q<->∃e∈acc,md e.1 q=true/\e.2=n:=λn=>by
  unfold gz;rw[aU];constructor
  .rintro⟨e,he,rfl⟩;obtain⟨h1,h2⟩:=aV.mp he;exact⟨e,h1,h2,rfl⟩
  .rintro⟨e,h1,h2,rfl⟩;exact⟨e,aV.mpr ⟨h1,h2⟩,rfl⟩
 have hpos:∀n∈gz acc q,1<=n:=λn hn=>by obtain⟨e,h1,_,rfl⟩:=(hin n).mp hn;exact hp e h1
 obtain⟨_,b,c⟩:=fold_max (gz acc q) none (λy h=>nomatch h) hpos _ rfl;unfold oP;generalize (gz acc q).foldl _ none=r at b c |-;rcases c with c | ⟨n,hn,c⟩
 .subst c;refine⟨dv _,λe he hi=>?_,.inl rfl⟩;obtain⟨z,hz,_⟩:=b e.2 ((hin _).mpr ⟨e,he,hi,rfl⟩);cases hz
 .subst c;have:=hpos n hn;refine⟨by simp;lia,λe he hi=>?_,.inr ?_⟩
  .obtain⟨z,hz,h2⟩:=b e.2 ((hin _).mpr ⟨e,he,hi,rfl⟩);cases hz;exact h2
  .obtain⟨e,h1,h2,h3⟩:=(hin n).mp hn;exact⟨e,h1,h2,h3⟩
theorem Kn.next{qs:List Bw}{i:Nat}{acc:Acc}{q:Bw}(K:Kn qs i acc)(hq:qs[i]? = some q)(hs:qs.Pairwise (λa b=>fE a<=fE b)):Kn qs (i+1) (acc++[(q,1+oP (gz acc q) 0)]):=by
 have T:=Ey (acc:=acc) (q:=q) K.pos;have hi:=(aH.mp hq).1;have hle:∀e∈acc,fE e.1<=fE q:=λe he=>by
  have hm:e.1∈qs.take i:=by rw[<-K.keys];exact aU.mpr ⟨e,he,rfl⟩
  obtain⟨j,hj,ej⟩:=kW hm;rw[cB] at hj;rw[List.getElem_take] at ej;rw[<-ej];have:=dy.mp hs j i (by lia) hi (by lia);have e2:qs[i]=q:=(aH.mp hq).2;rw[e2] at this;exact this
 have hno:∀e∈acc,md q e.1=false:=λe he=>by
  cases z:md q e.1 with
  | false=>rfl
  | true=>have:=ju z;have:=hle e he;lia
 have hself:md q q=false:=by
  cases z:md q q with
  | false=>rfl
  | true=>have:=ju z;lia
 refine⟨by rw[aX,K.keys,bE,hq];rfl,λe he=>?_,λe he=>?_⟩
 .rcases bG.mp he with z | z
  .exact K.pos e z
  .have:e=(q,1+oP (gz acc q) 0):=by simpa using z
   subst this;have:=T.nn;simp only;lia
 .have grow:∀r m,md q r=false->Top acc r m->Top (acc++[(q,1+oP (gz acc q) 0)]) r m:=λr m hr t=>by
   refine⟨t.nn,λx hx hxi=>?_,t.is.imp id (by rintro ⟨x,h1,h2⟩;exact ⟨x,cn _ h1,h2⟩)⟩;rcases bG.mp hx with z | z
   .exact t.le x z hxi
   .have:x=(q,1+oP (gz acc q) 0):=by simpa using z
    subst this;simp only at hxi;rw[hr] at hxi;cases hxi
  rcases bG.mp he with z | z
  .exact grow e.1 _ (hno e z) (K.top e z)
  .have:e=(q,1+oP (gz acc q) 0):=by simpa using z
   subst this;have e3:(1+oP (gz acc q) 0) - 1=oP (gz acc q) 0:=by lia
   show Top _ q ((1+oP (gz acc q) 0) - 1);rw[e3];exact grow q _ hself T
def sM(p:Bw):List Key:=[Sum.inl p.1,Sum.inl p.2]
def dB(acc:Acc):List (List Key×V):=acc.map λe=>(sM e.1,.int e.2)
theorem xt{p q:Bw}(h:sM p=sM q):p=q:=by
 unfold sM at h;simp at h;exact fZ h.1 h.2
theorem Fl{acc:Acc}(nd:(acc.map (·.1)).Nodup):∀{e:Bw×Int},e∈acc->gW (dB acc) (sM e.1)=some (.int e.2):=by
 induction acc with
 | nil=>intro e h;exact nomatch h
 | cons x acc ih=>
  intro e he;rw[af,bW] at nd;rcases aL.mp he with z | z
  .subst z;exact gR rfl
  .show gW ((sM x.1,V.int x.2)::dB acc) _=_;rw[fx (λq=>nd.1 (by rw[xt q];exact aU.mpr ⟨e,z,rfl⟩))];exact ih nd.2 z
theorem Hy{acc:Acc}{q:Bw}(h:q∉acc.map (·.1)):gW (dB acc) (sM q)=none:=by
 induction acc with
 | nil=>rfl
 | cons x acc ih=>
  rw[af,aL] at h;show gW ((sM x.1,V.int x.2)::dB acc) _=_;rw[fx (λz=>h (.inl (xt z).symm))];exact ih λz=>h (.inr z)
theorem Kh{acc:Acc}{q:Bw}{n:Int}(h:q∉acc.map (·.1)):putK (dB acc) (sM q) (.int n)=dB (acc++[(q,n)]):=by
 rw[EY _ (Hy h)];simp[dB]
structure Mj (ps:List Bw) (hs:gs):Prop where
 len:hs.length=ps.length
 pos:∀ h∈hs,1<=h
 top:∀ (i:Nat) p h,ps[i]? = some p->hs[i]? = some h->Top (ps.zip hs) p (h - 1)
def uj(acc:Acc)(p:Bw):Int:=((acc.find? λe=>decide (e.1=p)).map (·.2)).getD 0
theorem me{acc:Acc}(nd:(acc.map (·.1)).Nodup):∀{e:Bw×Int},e∈acc->uj acc e.1=e.2:=by
 induction acc with
 | nil=>intro e h;exact nomatch h
 | cons x acc ih=>
  intro e he;rw[af,bW] at nd;unfold uj;rw[fS];rcases aL.mp he with z | z
  .subst z;simp
  .have:¬x.1=e.1:=λq=>nd.1 (by rw[q];exact aU.mpr ⟨e,z,rfl⟩);simp only[this,decide_false];exact ih nd.2 z
theorem Kn.hts{qs ps:List Bw}{acc:Acc}(K:Kn qs qs.length acc)(hp:qs.Perm ps)(nd:ps.Nodup):Mj ps (ps.map (uj acc)):=by
 have hk:acc.map (·.1)=qs:=by rw[K.keys,bf]
 have ndk:(acc.map (·.1)).Nodup:=by rw[hk];exact hp.nodup_iff.mpr nd
 have mem:∀p,p∈ps->∃e∈acc,e.1=p:=λp h=>by
  have:p∈acc.map (·.1):=by rw[hk];exact hp.mem_iff.mpr h
  obtain⟨e,h1,h2⟩:=aU.mp this;exact⟨e,h1,h2⟩
 have zip:∀x,x∈ps.zip (ps.map (uj acc))<->x∈acc:=λx=>by
  have e0:ps.zip (ps.map (uj acc))=ps.map λp=>(p,uj acc p):=by
   clear hk ndk mem hp nd
   induction ps with
   | nil=>rfl
   | cons p ps ih=>simp[ih]
  rw[e0,aU];constructor
  .rintro⟨p,h,rfl⟩;obtain⟨e,h1,rfl⟩:=mem p h;rw[me ndk h1];exact h1
  .intro h;refine⟨x.1,?_,by rw[me ndk h]⟩;exact hp.mem_iff.mp (by rw[<-hk];exact aU.mpr ⟨x,h,rfl⟩)
 refine⟨by simp,λh hh=>?_,λi p h h1 h2=>?_⟩
 .obtain⟨p,hp',rfl⟩:=aU.mp hh;obtain⟨e,h1,rfl⟩:=mem p hp';rw[me ndk h1];exact K.pos e h1
 .obtain⟨e,h3,rfl⟩:=mem p (aT h1);rw[aR,h1] at h2;have h2':uj acc e.1=h:=av h2;rw[me ndk h3] at h2';subst h2';have t:=K.top e h3;exact⟨t.nn,λx hx=>t.le x ((zip x).mp hx),t.is.imp id (by rintro ⟨x,h1,h2⟩;exact ⟨x,(zip x).mpr h1,h2⟩)⟩
def Dr:Sp:=λvs H Q _=>∃a p,vs=[.ref a]/\b6 H a p/\Q (.int (fE p)) H
def wx:Sp:=λvs H Q _=>∃a b p q,vs=[.ref a,.ref b]/\b6 H a p/\b6 H b q/\Q (.bl (md p q)) H
def pM:Sp:=λvs H Q _=>∃l ps,vs=[.ref l]/\BowsAt H l ps/\ps.Nodup/\ps.length<=40/\∀l' hs H',H l'=none->bJ H H'->H' l'=some (.lst (hs.map V.int))->Mj ps hs->Q (.ref l') H'
end Rm
namespace L2
open PySem PySem.Spec PyProof.Rows
theorem pc{c:Prop} [Decidable c] {A B:Prop} (h:¬c) (b:B):if c then A else B:=by rw[U1 h];exact b
theorem sq{c:Prop} [Decidable c] {A B:Prop} (h:c) (a:A):if c then A else B:=by rw[U2 h];exact a
section
variable {X:Cx}{K:U9}
theorem xu(h:X.K=K):GK X (HE K):=h▸bV
theorem fq(h:X.K=K):GK X (HD K):=h▸bw
theorem qI(h:X.K=K)(hu:X.A.units+64<cLine):qF X (compareOp .NotIn) (EN K true):=h▸CA hu
theorem Cj (h:X.K=K):iY X (.builtin "isinstance") (HF K):=h▸mn
theorem qC (h:X.K=K):iY X (.builtin "len") (λxs H Q=>∃p ys,xs=[.ref p]/\(cI K H p ys\/cj K H p ys)/\Q (.int ys.length) H):=h▸bC
theorem Ew (h:X.K=K):Kt X "str.join" (rJoin K):=h▸BE
end
def AJ (o:Obj) (xs:List Str):Prop:=o.cls=.type "tuple"/\∃its n,o.data=.seq its n/\its.size<=sizeLine/\cH (xs.map V.str) its.toList
theorem Bb {o:Obj} {xs:List Str} {its:Array Value} {n:Nat} (h1:o.cls=.type "tuple") (h2:o.data=.seq its n) (h3:its.size<=sizeLine) (h4:cH (xs.map V.str) its.toList):AJ o xs:=⟨h1,its,n,h2,h3,h4⟩
theorem F6{K:U9}{h:Heap}{mg:Str->bt}{x:Str}{a:Addr}{o:Obj}{xs:List Str}(X:K.In h)(G:h.Ns mainGlobals mg)(y:W.nsIn K mainGlobals x=some (some (.ref a)))(l:K.lookup a=some o)(t:AJ o xs):
  ∃a,mg x=some (.ref a)/\∀H,cj K H a (xs.map V.str):=by
 obtain⟨h1,its,n,h2,h3,h4⟩:=t;exact⟨a,bY X G y,λH=>.inr ⟨o,its,n,l,h1,h2,h3,h4⟩⟩
def Dh(K:U9)(xs:List V):TE:=λ_ H Q=>∀a,(∀H,cj K H a xs)->Q (.ref a) H
theorem GX{K:U9}{xs:List V}{Z:St}{H:Hp}{Q:VK}:Dh K xs Z H Q=∀a,(∀H,cj K H a xs)->Q (.ref a) H:=rfl
def Lp(t u:TS):TS:=λD Z H=>∃J:St->Hp->Prop,t { D with nx:=J } Z H/\∀Z' H',J Z' H'->u D Z' H'
theorem DP{to ti:TE}{t:IQ}{v:V}{Z:St}{H:Hp}{q:St->Hp->Prop}:MR to ti t v Z H q=to Z H λo H1=>ti Z H1 λi H2=>t o i v H2 λH3=>q Z H3:=rfl
theorem ba{t u:TS}{D:Ends}{Z:St}{H:Hp}(J:St->Hp->Prop)(h1:t { nx:=J,rt:=D.rt,bk:=D.bk,ct:=D.ct } Z H)(h2:∀Z' H',J Z' H'->u D Z' H'):Lp t u D Z H:=⟨J,h1,h2⟩
end L2
namespace Rm
open PySem L2
def intOf:PyData->Int
 | .int n=>n
 | _=>0
theorem ym:∀{d:PyData},i7 d=true->d=.int (intOf d)
 | .int n,_=>rfl
def rR:PyData->Bool
 | .tuple ds=>decide (ds.length<=20)&&(ds.all i7&&(ds.map intOf).isPerm (gK 1 ds.length))
 | _=>false
def rq:PyData->Bool
 | .str z=>decide (z=Str.ofString "l") || decide (z=Str.ofString "r")
 | _=>false
def uF:PyData->Bool
 | .tuple [a,b]=>rq a&&rR b
 | _=>false
theorem Ex{x:Int}{n:Nat}:x∈gK 1 n<->1<=x/\x<=n:=by
 unfold gK;rw[aU];constructor
 .rintro⟨i,hi,rfl⟩;have:=bj.mp hi;lia
 .rintro⟨h1,h2⟩;exact⟨(x - 1).toNat,bj.mpr (by lia),by lia⟩
theorem EI(n:Nat):(gK 1 n).Pairwise (·<=·):=by
 unfold gK;rw[cW,dy];intro i j hi hj hij;simp;lia
theorem zH(n:Nat):(gK 1 n).Nodup:=by
 unfold gK List.Nodup;rw[cW];exact(gD (n:=n)).imp λh e=>h (by lia)
theorem wA{ms ns:gs}(hp:ms.Perm ns)(hs:ms.Pairwise (·<=·)):decide (ms=gK 1 ns.length)=ns.isPerm (gK 1 ns.length):=by
 by_cases h:ns.Perm (gK 1 ns.length)
 .rw[oJ.mpr h];exact U5 (W.ksm_same (hp.trans h) hs (EI _))
 .have h2:ns.isPerm (gK 1 ns.length)=false:=by
   cases e:ns.isPerm (gK 1 ns.length) with
   | false=>rfl
   | true=>exact absurd (oJ.mp e) h
  rw[h2];exact U4 λe=>h (e▸hp.symm)
structure Met (ds:List PyData) (i:Nat):Prop where
 wh:∀ d∈ds.take i,i7 d=true
 inn:∀ n∈(ds.map intOf).take i,1<=n/\n<=ds.length
 nd:((ds.map intOf).take i).Nodup
theorem FJ:(Str.ofString "l")=⟨#[108]⟩:=by symm
theorem FI:(Str.ofString "r")=⟨#[114]⟩:=by symm
theorem Dz (d:PyData):([PyData.str (Str.ofString "l"),.str (Str.ofString "r")].any λe=>PyData.eqv e d)=rq d:=by
 cases d with
 | str z=>
  show (decide (Str.ofString "l"=z) || (decide (Str.ofString "r"=z) || false))=_;rw[eS];show _=(decide (z=Str.ofString "l") || decide (z=Str.ofString "r"))
  congr 1
  .exact decide_eq_decide.mpr ⟨ny,ny⟩
  .exact decide_eq_decide.mpr ⟨ny,ny⟩
 | _=>rfl
structure Pl (d:PyData) (n:Nat):Prop where
 lay:d.canLay0=true
 deep:d.depth<=n
def xB:Sp:=λvs H Q _=>∃x d,vs=[x]/\Dat H x d/\Pl d 60/\Q (.bl (rq d)) H
def uy:Sp:=λvs H Q _=>∃x d,vs=[x]/\Dat H x d/\∀H',bJ H H'->Q (.bl (rR d)) H'
def xC:Sp:=λvs H Q _=>∃x d,vs=[x]/\Dat H x d/\Pl d 60/\∀H',bJ H H'->Q (.bl (uF d)) H'
def ux:Sp:=λvs H Q _=>∃c room:Int,vs=[.int c,.int room]/\1<=room/\room<=100/\∀(l:Addr) (ns:gs) (H':Hp),H l=none->bJ H H'->H' l=some (.tup (ns.map V.int))->(ns.length:Int)<room->ns.Perm (gK 1 ns.length)->Q (.ref l) H'
theorem xy{H:Hp}:∀ns:gs,jV H (ns.map V.int) (ns.map PyData.int)
 | []=>.nil
 | n::ns=>.cons (.int n) (xy ns)
end Rm
namespace L2
open PySem PySem.Spec PyProof.Rows
section
variable {Z:St}{H:Hp}
theorem Ja{trs:List (TE×TE)}{Q:VK}:Iu trs Z H Q=∀p,H p=none->qG trs Z (upd H p (.dK [])) λps H2=>H2 p=some (.dK [])/\∃kvs:List (Key×V),ps=kvs.map (λkv=>(kV kv.1,kv.2))/\kvs.length<=15/\Q (.ref p) (upd H2 p (.dK (qL [] kvs))):=rfl
theorem LO{Q:List (V×V)->Hp->Prop}:qG [] Z H Q=Q [] H:=rfl
theorem LN{tk tv:TE}{r:List (TE×TE)}{Q:List (V×V)->Hp->Prop}:qG ((tk,tv)::r) Z H Q=tk Z H λx H1=>tv Z H1 λy H2=>qG r Z H2 λps H3=>Q ((x,y)::ps) H3:=rfl
theorem LM{r:V->Option Int->Option Int->Hp->VK->Prop}{te:TE}{tl th:TO}{Q:VK}:N1 r te tl th Z H Q=te Z H λx H1=>tl Z H1 λl H2=>th Z H2 λu H3=>r x l u H3 Q:=rfl
theorem DI{t:TE}{Q:Option Int->Hp->Prop}:Il t Z H Q=t Z H λx H1=>∃i,x=.int i/\Q (some i) H1:=rfl
theorem wg{Q:Option Int->Hp->Prop}:Gg Z H Q=Q none H:=rfl
end
end L2
namespace Rm
open PySem L2
def sd (b:Bool):Str:=if b then Str.ofString "r" else Str.ofString "l"
theorem Mt (b:Bool):(sd b=Str.ofString "l")=(b=false):=by cases b<;>simp[sd,FJ,FI]
theorem Lu (b:Bool):(sd b=Str.ofString "r")=(b=true):=by cases b<;>simp[sd,FJ,FI]
theorem K2:(Str.ofString "lr")=⟨#[108,114]⟩:=by symm
theorem MK {i:Int} (h0:0<=i) (h1:i<2):oR (Str.ofString "lr").cps.toList i=some (if i=1 then 114 else 108):=by
 have e:i=0\/i=1:=by lia
 rw[K2];rcases e with rfl | rfl<;>rfl
theorem MJ(i:Int):(⟨#[if i=1 then 114 else 108]⟩:Str)=sd (decide (i=1)):=by
 by_cases h:i=1
 .simp[h,sd,FI]
 .simp[h,sd,FJ]
def odd(i:Nat):Bool:=i % 2==1
theorem lO(i:Nat):odd (i+1)=!odd i:=by
 unfold odd;rcases fJ i with h | h<;>simp[jw,h]
def eK(ns:gs):gs:=0::(ns++[(ns.length:Int)+1])
theorem iq(ns:gs):(eK ns).length=ns.length+2:=by simp[eK]
def bX(ns:gs)(i:Nat):Int:=(eK ns).getD i 0
def cF(ns:gs)(i:Nat):Bw:=(min (bX ns i) (bX ns (i+1)),max (bX ns i) (bX ns (i+1)))
def cX(b s:Bool)(i:Nat):Bool:=(b ^^ odd i)==s
def bH(b:Bool)(ns:gs)(s:Bool)(m:Nat):List Bw:=((List.range m).filter (cX b s)).map (cF ns)
theorem ix{b:Bool}{ns:gs}{s:Bool}{i:Nat}(h:cX b s i=true):bH b ns s (i+1)=bH b ns s i++[cF ns i]:=by
 unfold bH;rw[dP,dA,aX];simp[h]
theorem jm{b:Bool}{ns:gs}{s:Bool}{i:Nat}(h:cX b s i=false):bH b ns s (i+1)=bH b ns s i:=by
 unfold bH;rw[dP,dA,aX];simp[h]
theorem oy(b:Bool)(i:Nat):cX b (b ^^ odd i) i=true:=by simp[cX]
theorem wQ(b:Bool)(i:Nat):cX b (!(b ^^ odd i)) i=false:=by cases h:(b ^^ odd i)<;>simp[cX,h]
theorem iD(b:Bool)(ns:gs)(s:Bool)(m:Nat):(bH b ns s m).length<=m:=by
 unfold bH;rw[aA];exact bN (fN _ _) (by rw[dJ];exact aI _)
theorem qb(b:Bool)(ns:gs):∀m,(bH b ns false m).length+(bH b ns true m).length=m
 | 0=>rfl
 | m+1=>by
  have ih:=qb b ns m;cases h:(b ^^ odd m) with
  | false=>
   rw[ix (s:=false) (by simp[cX,h]),jm (s:=true) (by simp[cX,h])];simp;lia
  | true=>
   rw[jm (s:=false) (by simp[cX,h]),ix (s:=true) (by simp[cX,h])];simp;lia
structure fO (ns:gs):Prop where
 len:ns.length<=20
 perm:ns.Perm (gK 1 ns.length)
theorem fO.mem{ns:gs}(O:fO ns){x:Int}:x∈ns<->1<=x/\x<=ns.length:=O.perm.mem_iff.trans Ex
theorem fO.rows_nodup{ns:gs}(O:fO ns):(eK ns).Nodup:=by
 have nd:ns.Nodup:=O.perm.nodup_iff.mpr (zH _);unfold eK;rw[bW,ck];refine⟨λh=>?_,nd,by simp,λa ha b hb e=>?_⟩
 .rcases bG.mp h with z | z
  .have:=O.mem.mp z;lia
  .have:(0:Int)=ns.length+1:=by simpa using z
   lia
 .have:b=(ns.length:Int)+1:=by simpa using hb
  have:=O.mem.mp ha;lia
theorem fO.rows_mem{ns:gs}(O:fO ns){x:Int}(h:x∈eK ns):0<=x/\x<=(ns.length:Int)+1:=by
 unfold eK at h;rcases aL.mp h with z | z
 .lia
 .rcases bG.mp z with z | z
  .have:=O.mem.mp z;lia
  .have:x=(ns.length:Int)+1:=by simpa using z
   lia
theorem iU{ns:gs}{i:Nat}(h:i<ns.length+2):(eK ns)[i]? = some (bX ns i):=by
 unfold bX;have:i<(eK ns).length:=by rw[iq];exact h
 simp[List.getD,this]
theorem fO.row_inj{ns:gs}(O:fO ns){i j:Nat}(hi:i<ns.length+2)(hj:j<ns.length+2)(h:bX ns i=bX ns j):i=j:=by
 have h1:=aH.mp (iU hi);have h2:=aH.mp (iU hj);exact(iI O.rows_nodup (h₀:=h1.1) (h₁:=h2.1)).mp (h1.2.trans (h.trans h2.2.symm))
theorem fO.row_in{ns:gs}(O:fO ns){i:Nat}(hi:i<ns.length+2):0<=bX ns i/\bX ns i<=(ns.length:Int)+1:=O.rows_mem (aT (iU hi))
theorem zG(ns:gs):bX ns 0=0:=rfl
theorem ir(ns:gs):bX ns (ns.length+1)=(ns.length:Int)+1:=by simp[bX,eK,List.getD]
theorem EG{ns:gs}{i:Nat}{x:Int}(h:(ns++[(ns.length:Int)+1])[i]? = some x):bX ns (i+1)=x:=by simp only[bX,eK,List.getD,List.getElem?_cons_succ,h];rfl
theorem pR{ns:gs}{i:Nat}{x:Int}(h:ns[i]? = some x):bX ns (i+1)=x:=EG (by rw[iN (aH.mp h).1];exact h)
theorem fO.step_lt{ns:gs}(O:fO ns){i:Nat}(hi:i<=ns.length):(cF ns i).1<(cF ns i).2:=by
 have:bX ns i≠bX ns (i+1):=λe=>by
  have:=O.row_inj (by lia) (by lia) e;lia
 show min (bX ns i) (bX ns (i+1))<max (bX ns i) (bX ns (i+1));lia
theorem fO.step_in{ns:gs}(O:fO ns){i:Nat}(hi:i<=ns.length):0<=(cF ns i).1/\(cF ns i).2<=(ns.length:Int)+1:=by
 have h1:=O.row_in (i:=i) (by lia);have h2:=O.row_in (i:=i+1) (by lia);show 0<=min (bX ns i) (bX ns (i+1))/\max (bX ns i) (bX ns (i+1))<=_;lia
theorem gj{b:Bool}{ns:gs}{s:Bool}{m:Nat}{p:Bw}(h:p∈bH b ns s m):∃i,i<m/\cX b s i=true/\p=cF ns i:=by
 unfold bH at h;obtain⟨i,hi,rfl⟩:=aU.mp h;obtain⟨h1,h2⟩:=aV.mp hi;exact⟨i,bj.mp h1,h2,rfl⟩
theorem og{b:Bool}{ns:gs}{s:Bool}{m i:Nat}(h:i<m)(hs:cX b s i=true):cF ns i∈bH b ns s m:=
 aU.mpr ⟨i,aV.mpr ⟨bj.mpr h,hs⟩,rfl⟩
def qu(x:Int)(p:Bw):Bool:=decide (x=p.1) || decide (x=p.2)
theorem fO.has_iff{ns:gs}(O:fO ns){i j:Nat}(hi:i<ns.length+2)(hj:j<=ns.length):qu (bX ns i) (cF ns j)=decide (j=i\/j+1=i):=by
 have e:qu (bX ns i) (cF ns j)=decide (bX ns i=bX ns j\/bX ns i=bX ns (j+1)):=by
  show (decide (bX ns i=min (bX ns j) (bX ns (j+1))) || decide (bX ns i=max (bX ns j) (bX ns (j+1))))=_;rw[<-lg];exact decide_eq_decide.mpr (by lia)
 rw[e];refine decide_eq_decide.mpr ⟨λh=>?_,λh=>?_⟩
 .rcases h with h | h
  .exact .inl (O.row_inj hi (by lia) h).symm
  .exact .inr (O.row_inj hi (by lia) h).symm
 .rcases h with rfl | rfl
  .exact .inl rfl
  .exact .inr rfl
theorem vF{k:Nat}:∀{m:Nat},k<m->(List.range m).filter (λj=>decide (j=k))=[k]
 | m+1,h=>by
  rw[dP,dA];by_cases e:k=m
  .subst e;have:(List.range k).filter (λj=>decide (j=k))=[]:=nq.mpr λx hx=>by have:=bj.mp hx;simp;lia
   simp[this]
  .have hm:¬m=k:=λz=>e z.symm;rw[vF (m:=m) (by lia)];simp[hm]
theorem uA{b s:Bool}{j k:Nat}(h1:cX b s j=true)(h2:cX b s k=true)(h:j=k+1):False:=by
 subst h;simp only[cX,lO,beq_iff_eq] at h1 h2;cases b<;>cases s<;>cases hk:odd k<;>simp[hk] at h1 h2
theorem fO.only{ns:gs}(O:fO ns){b s:Bool}{i k:Nat}(hk:k<=ns.length)(hs:cX b s k=true)(h:k=i\/k+1=i):(bH b ns s (ns.length+1)).filter (qu (bX ns i))=[cF ns k]:=by
 unfold bH;rw[List.filter_map,List.filter_filter];have e:(List.range (ns.length+1)).filter (λa=>(qu (bX ns i)∘cF ns) a&&cX b s a)=(List.range (ns.length+1)).filter (λj=>decide (j=k)):=by
  refine List.filter_congr λj hj=>?_;have hj:=bj.mp hj;show (qu (bX ns i) (cF ns j)&&cX b s j)=_;rw[O.has_iff (by lia) (by lia)];by_cases e:j=k
  .subst e;simp[hs,h]
  .cases hsj:cX b s j with
   | false=>simp[e]
   | true=>
    have:¬(j=i\/j+1=i):=λz=>by
     have:j=k+1\/k=j+1:=by lia
     rcases this with z | z
     .exact uA hsj hs z
     .exact uA hs hsj z
    simp[this,e]
 rw[e,vF (by lia)];rfl
theorem Dn(ns:gs)(i:Nat):(cF ns i).1+(cF ns i).2=bX ns i+bX ns (i+1):=by
 show min (bX ns i) (bX ns (i+1))+max (bX ns i) (bX ns (i+1))=_;lia
structure eG (b:Bool) (ns:gs) (s:Bool) (L:List Bw):Prop where
 perm:L.Perm (bH b ns s (ns.length+1))
 asc:L.Pairwise leB
theorem eG.len{b:Bool}{ns:gs}{s:Bool}{L:List Bw}(h:eG b ns s L)(O:fO ns):L.length<=21:=by
 have h1:=h.perm.length_eq;have h2:=iD b ns s (ns.length+1);have:=O.len;lia
theorem eG.lt{b:Bool}{ns:gs}{s:Bool}{L:List Bw}(h:eG b ns s L)(O:fO ns):∀p∈L,p.1<p.2:=λp hp=>by
 obtain⟨i,hi,_,rfl⟩:=gj (h.perm.mem_iff.mp hp);exact O.step_lt (by lia)
theorem yo{x y:Int}{ms:gs}(h:ms.Perm [x,y])(hs:ms.Pairwise (·<=·)):ms=[min x y,max x y]:=by
 have:(if x<=y then [x,y] else [y,x]).Perm [x,y]:=by
  by_cases e:x<=y
  .rw[U2 e]
  .rw[U1 e];exact List.Perm.swap x y []
 have e2:[min x y,max x y]=(if x<=y then [x,y] else [y,x]):=by
  by_cases e:x<=y
  .rw[U2 e];simp[Int.min_def,Int.max_def,e]
  .rw[U1 e];have:y<=x:=by lia
   simp[Int.min_def,Int.max_def,e]
 rw[e2];refine List.Perm.eq_of_pairwise (le:=(·<=·)) (λa b _ _ h h'=>by lia) hs ?_ (h.trans this.symm);by_cases e:x<=y
 .rw[U2 e];simp[e]
 .rw[U1 e];simp;lia
theorem Hz{ns:gs}{i:Nat}(h:i<=ns.length):C7 ((eK ns).map V.int) (some (0+(i:Int))) (some (0+(i:Int)+2))=[bX ns i,bX ns (i+1)].map V.int:=by
 have e1:HT.sIx ((eK ns).map V.int).length 0 (some (0+(i:Int)))=i:=by
  show (if (0+(i:Int))<0 then (0+(i:Int)+(((eK ns).map V.int).length:Int)).toNat else min (0+(i:Int)).toNat ((eK ns).map V.int).length)=i;rw[U1 (by lia),aA,iq];lia
 have e2:HT.sIx ((eK ns).map V.int).length ((eK ns).map V.int).length (some (0+(i:Int)+2))=i+2:=by
  show (if (0+(i:Int)+2)<0 then (0+(i:Int)+2+(((eK ns).map V.int).length:Int)).toNat else min (0+(i:Int)+2).toNat ((eK ns).map V.int).length)=i+2;rw[U1 (by lia),aA,iq];lia
 unfold C7;rw[e1,e2,show i+2-i=2 by lia,<-List.map_drop,<-List.map_take];congr 1;have h1:=aH.mp (iU (ns:=ns) (i:=i) (by lia));have h2:=aH.mp (iU (ns:=ns) (i:=i+1) (by lia));rw[cG h1.1,cG h2.1,h1.2,h2.2];rfl
def gY(H:Hp)(m o:Addr)(b:Bool)(ns:gs):Prop:=H m=some (.tup [.str (sd b),.ref o])/\H o=some (.tup (ns.map V.int))
theorem gY.same{H H':Hp}{m o:Addr}{b:Bool}{ns:gs}(h:gY H m o b ns)(s:bJ H H'):gY H' m o b ns:=⟨s _ _ h.1,s _ _ h.2⟩
def Ae:Sp:=λvs H Q _=>∃b,vs=[.str (sd b)]/\Q (.str (sd !b)) H
def wy:Sp:=λvs H Q _=>∃m o b ns,∃k:Nat,vs=[.ref m,.int k]/\gY H m o b ns/\Q (.str (sd (b ^^ odd k))) H
def Ds:Sp:=λvs H Q _=>∃m o b ns,vs=[.ref m]/\gY H m o b ns/\ns.length<=40/\∀l H',H l=none->bJ H H'->H' l=some (.lst ((eK ns).map V.int))->Q (.ref l) H'
structure LA (H:Hp) (t l r:Addr) (b:Bool) (ns:gs) (L R:List Bw):Prop where
 tup:H t=some (.tup [.ref l,.ref r])
 left:BowsAt H l L
 right:BowsAt H r R
 isL:eG b ns false L
 isR:eG b ns true R
 ne:l≠r
def tM:Sp:=λvs H Q _=>∃m o b ns,vs=[.ref m]/\gY H m o b ns/\fO ns/\∀t l r L R H',H t=none->H l=none->H r=none->bJ H H'->LA H' t l r b ns L R->Q (.ref t) H'
theorem mo{H:Hp}{l t:Addr}{as:ld}{ps:List Bw}{p:Bw}(h1:H l=some (.lst (as.map V.ref)))(h2:Paired (b6 H) as ps)(ht:b6 H t p):BowsAt (upd H l (.lst (as.map V.ref++[.ref t]))) l (ps++[p]):=by
 have st:∀{a:Addr} {p:Bw},b6 H a p->b6 (upd H l (.lst (as.map V.ref++[.ref t]))) a p:=fun {a p} h=>by
  have:a≠l:=λe=>by subst e;unfold b6 at h;rw[h1] at h;cases h
  unfold b6;rw[aO this];exact h
 refine⟨as++[t],by rw[aG,aX];rfl,?_⟩;clear h1;generalize upd H l (.lst (as.map V.ref++[.ref t]))=H' at st |-
 induction h2 with
 | nil=>exact .cons (st ht) .nil
 | cons a b ih=>exact .cons (st a) ih
theorem pV{α β:Type}{F:α->β->Prop}{l:List α}{m:List β}{a:α}{b:β}(h:Paired F l m)(hb:F a b):Paired F (l++[a]) (m++[b]):=by
 induction h with
 | nil=>exact .cons hb .nil
 | cons x y ih=>exact .cons x ih
abbrev Oe:=Int×Int
def chain:Bool->gs->Bool->List Bw
 | s,a::b::rest,t=>(if (!s)=t then [(min a b,max a b)] else [])++chain (!s) (b::rest) t
 | _,_,_=>[]
def fz(s:Bool)(R:gs):Bool:=s ^^ odd R.length
def CU(R:gs):Int:=R.head?.getD 0
def ltZ(R:gs):Int:=R.getLast?.getD 0
theorem uH(s:Bool)(a:Int)(R:gs):fz s (a::R)=fz (!s) R:=by
 unfold fz;rw[bL,lO];cases s<;>cases odd R.length<;>rfl
theorem zf(s:Bool)(R:gs)(r:Int):fz s (R++[r])=!fz s R:=by
 unfold fz;rw[aj,cY,lO];cases s<;>cases odd R.length<;>rfl
theorem FC(R:gs)(r:Int):ltZ (R++[r])=r:=by simp[ltZ]
theorem FD(a b:Int)(R:gs):ltZ (a::b::R)=ltZ (b::R):=by simp[ltZ]
theorem BQ(R:gs):CU R.reverse=ltZ R:=by simp[CU,ltZ]
theorem wU(R:gs):ltZ R.reverse=CU R:=by simp[CU,ltZ]
theorem BU{R S:gs}(h:R≠[]):CU (R++S)=CU R:=by cases R with | nil=>exact absurd rfl h | cons a R=>rfl
theorem BF{R S:gs}(h:S≠[]):ltZ (R++S)=ltZ S:=by
 unfold ltZ;rw[List.getLast?_append];cases e:S.getLast? with
 | none=>exact absurd (List.getLast?_eq_none_iff.mp e) h
 | some x=>rfl
theorem qQ:∀{R:gs} (s:Bool) (r:Int) (S:gs) (t:Bool),R≠[]->chain s (R++r::S) t=chain s R t++(if fz s R=t then [(min (ltZ R) r,max (ltZ R) r)] else [])++chain (fz s R) (r::S) t
 | [a],s,r,S,t,_=>by
  show (if (!s)=t then [(min a r,max a r)] else [])++chain (!s) (r::S) t=[]++_++_;have e:fz s [a]=!s:=by cases s<;>rfl
  rw[e];rfl
 | a::b::R,s,r,S,t,_=>by
  show (if (!s)=t then [(min a b,max a b)] else [])++chain (!s) ((b::R)++r::S) t=((if (!s)=t then [(min a b,max a b)] else [])++chain (!s) (b::R) t)++_++_;rw[qQ (!s) r S t (by simp),uH s a (b::R),FD];simp only[cC]
theorem chain_snoc{R:gs}(s:Bool)(r:Int)(t:Bool)(h:R≠[]):chain s (R++[r]) t=chain s R t++(if fz s R=t then [(min (ltZ R) r,max (ltZ R) r)] else []):=by
 rw[qQ s r [] t h];show _++[]=_;rw[cE]
theorem rZ:∀(R:gs) (s t:Bool),(chain (fz s R) R.reverse t).Perm (chain s R t)
 | [],_,_=>.refl _
 | [a],s,t=>.refl _
 | a::b::R,s,t=>by
  have ih:=rZ (b::R) (!s) t;rw[gf,uH,chain_snoc _ _ _ (by simp)];have e:fz (fz (!s) (b::R)) (b::R).reverse=!s:=by
   unfold fz;rw[eX];cases s<;>cases odd (b::R).length<;>rfl
  rw[e,wU];show (chain (fz (!s) (b::R)) (b::R).reverse t++(if (!s)=t then [(min b a,max b a)] else [])).Perm ((if (!s)=t then [(min a b,max a b)] else [])++chain (!s) (b::R) t);rw[Int.min_comm b a,Int.max_comm b a];exact dM.trans (ih.append_left _)
structure Pc where
 lab:Int
 rows:gs
 s:Bool
 main:Bool
def Pc.fst(p:Pc):Oe×Bool:=((CU p.rows,p.lab),p.s)
def Pc.lst(p:Pc):Oe×Bool:=((ltZ p.rows,p.lab),fz p.s p.rows)
def Pc.more(p:Pc):List (Oe×Bool):=if p.main then [] else [p.fst]
def Pc.ends(p:Pc):List (Oe×Bool):=p.lst::p.more
def Pc.rev(p:Pc):Pc:={ p with rows:=p.rows.reverse,s:=fz p.s p.rows }
def Pc.bows(t:Bool)(p:Pc):List Bw:=chain p.s p.rows t
theorem wI(p:Pc):p.rev.lst=p.fst:=by
 show ((ltZ p.rows.reverse,p.lab),fz (fz p.s p.rows) p.rows.reverse)=((CU p.rows,p.lab),p.s)
 rw[wU];congr 1;unfold fz;rw[eX];cases p.s<;>cases odd p.rows.length<;>rfl
theorem HC(p:Pc):p.rev.fst=p.lst:=by
 show ((CU p.rows.reverse,p.lab),fz p.s p.rows)=_;rw[BQ];rfl
def eF(st:Bool->List Oe):List (Oe×Bool):=(st false).map (·,false)++(st true).map (·,true)
theorem nY{st:Bool->List Oe}{t:Bool}{st':List Oe}{e:Oe}(h:st t=st'++[e]):(eF st).Perm ((e,t)::eF λu=>if u=t then st' else st u):=by
 unfold eF;cases t with
 | false=>
  simp only[h,U7,Bool.true_eq_false,U8,aX,af,eP,cC,gF,fQ];exact d8
 | true=>
  simp only[h,U7,bR,U8,aX,af,eP];rw[<-cC];exact dM
theorem pC{st:Bool->List Oe}{t:Bool}{e:Oe}:(eF λu=>if u=t then st u++[e] else st u).Perm ((e,t)::eF st):=by
 have h:=nY (st:=λu=>if u=t then st u++[e] else st u) (t:=t) (st':=st t) (e:=e) (by simp);refine h.trans ?_;have:(λu=>if u=t then st t else if u=t then st u++[e] else st u)=st:=by
  funext u;by_cases z:u=t
  .simp[z]
  .simp[z]
 rw[this]
structure uo (st:List Oe) (r:Nat):Prop where
 low:∀ e∈st,0<=e.1/\e.1<r
theorem uo.keep{st st':List Oe}{r:Nat}(S:uo st r)(h:∀e∈st',e∈st):uo st' (r+1):=⟨λe k=>by have:=S.low e (h e k);lia⟩
theorem uo.push{st:List Oe}{r:Nat}(S:uo st r)(l:Int):uo (st++[((r:Int),l)]) (r+1):=⟨λe h=>by
 rcases bG.mp h with z | z
 .have:=S.low e z;lia
 .have e':e=((r:Int),l):=by simpa using z
  subst e';simp only;lia⟩
theorem uo.map{st:List Oe}{r:Nat}(S:uo st r)(g:Int->Int):uo (st.map λe=>(e.1,g e.2)) r:=⟨λe h=>by obtain⟨x,hx,rfl⟩:=aU.mp h;exact S.low x hx⟩
structure Gr (b:Bool) (st:Bool->List Oe) (f:Bool->List Bw) (r:Nat) (is:List Pc):Prop where
 ne:∀ p∈is,p.rows≠[]
 rows:(is.flatMap Pc.rows).Perm (gK 0 r)
 labs:(is.map Pc.lab).Nodup
 lr:∀ p∈is,p.lab<r
 one:is.countP Pc.main=1
 hd:∀ p∈is,p.main=true->p.rows.head? = some 0/\p.s=!b
 ends:(eF st).Perm (is.flatMap Pc.ends)
 bows:∀ t,(f t).Perm (is.flatMap (Pc.bows t))
 stk:∀ t,uo (st t) r
section
variable {b:Bool}{st:Bool->List Oe}{f:Bool->List Bw}{r:Nat}{is js:List Pc}{p q:Pc}
theorem Gr.perm(G:Gr b st f r is)(h:is.Perm js):Gr b st f r js:=
 ⟨λp hp=>G.ne p (h.mem_iff.mpr hp),(h.flatMap_right _).symm.trans G.rows,(h.map _).nodup_iff.mp G.labs,λp hp=>G.lr p (h.mem_iff.mpr hp),(h.countP_eq _).symm.trans G.one,λp hp=>G.hd p (h.mem_iff.mpr hp),
  G.ends.trans (h.flatMap_right _),λt=>(G.bows t).trans (h.flatMap_right _),G.stk⟩
theorem Gr.flip(G:Gr b st f r (p::is))(h:p.main=false):Gr b st f r (p.rev::is):=by
 have more:p.more=[p.fst]:=by unfold Pc.more;rw[h];rfl
 have more':p.rev.more=[p.lst]:=by
  unfold Pc.more;rw[show p.rev.main=false from h,HC];rfl
 refine⟨λq hq=>?_,?_,G.labs,λq hq=>?_,?_,λq hq hm=>?_,?_,λt=>?_,G.stk⟩
 .rcases aL.mp hq with z | z
  .subst z;exact λe=>G.ne p aW (nD.mp e)
  .exact G.ne q (aJ _ z)
 .exact((jL p.rows).append_right _).trans G.rows
 .rcases aL.mp hq with z | z
  .subst z;exact G.lr p aW
  .exact G.lr q (aJ _ z)
 .have:=G.one;rw[cS] at this |-;exact this
 .rcases aL.mp hq with z | z
  .subst z;rw[show p.rev.main=false from h] at hm;cases hm
  .exact G.hd q (aJ _ z) hm
 .refine G.ends.trans ?_;rw[am,am];refine List.Perm.append_right _ ?_;unfold Pc.ends;rw[more,more',wI];exact List.Perm.swap _ _ _
 .refine(G.bows t).trans ?_;rw[am,am];exact(rZ p.rows p.s t).symm.append_right _
theorem Gr.pick(G:Gr b st f r is){e:Oe×Bool}(h:e∈eF st):∃p js,p.lst=e/\Gr b st f r (p::js)/\∀q∈js,q∈is:=by
 obtain⟨p,hp,he⟩:=gE.mp (G.ends.mem_iff.mp h);obtain⟨A,B,rfl⟩:=List.append_of_mem hp;have G1:=G.perm d8;have sub:∀q∈A++B,q∈A++p::B:=λq hq=>by
  rcases bG.mp hq with z | z
  .exact cn _ z
  .exact bM _ (aJ _ z)
 rcases aL.mp he with z | z
 .exact⟨p,A++B,z.symm,G1,sub⟩
 .unfold Pc.more at z;cases hm:p.main with
  | true=>rw[hm] at z;cases z
  | false=>
   rw[hm] at z;have e':e=p.fst:=by simpa using z
   exact⟨p.rev,A++B,by rw[wI,e'],G1.flip hm,sub⟩
theorem tW(r:Nat):gK 0 (r+1)=gK 0 r++[(r:Int)]:=by
 unfold gK;rw[dP,aX];simp
theorem Gr.opA(G:Gr b st f r is):Gr b (λu=>st u++[((r:Int),(r:Int))]) f (r+1) (⟨r,[(r:Int)],false,false⟩::is):=by
 refine⟨λq hq=>?_,?_,?_,λq hq=>?_,?_,λq hq hm=>?_,?_,λt=>?_,λt=>(G.stk t).push _⟩
 .rcases aL.mp hq with z | z
  .subst z;simp
  .exact G.ne q z
 .rw[tW];exact(G.rows.cons (r:Int)).trans (dM (l₁:=[(r:Int)]) (l₂:=gK 0 r))
 .rw[af,bW];refine⟨λz=>?_,G.labs⟩;obtain⟨q,hq,e⟩:=aU.mp z;have:=G.lr q hq;simp only at e;lia
 .rcases aL.mp hq with z | z
  .subst z;simp only;lia
  .have:=G.lr q z;lia
 .rw[cS,G.one];rfl
 .rcases aL.mp hq with z | z
  .subst z;cases hm
  .exact G.hd q z hm
 .have h1:=pC (st:=st) (t:=false) (e:=((r:Int),(r:Int)));have h2:=pC (st:=λu=>if u=false then st u++[((r:Int),(r:Int))] else st u) (t:=true) (e:=((r:Int),(r:Int)));have e:(λu=>if u=true then (if u=false then st u++[((r:Int),(r:Int))] else st u)++[((r:Int),(r:Int))] else if u=false then st u++[((r:Int),(r:Int))] else st u)=λu=>st u++[((r:Int),(r:Int))]:=by
   funext u;cases u<;>rfl
  rw[e] at h2;refine h2.trans ((h1.cons _).trans ?_);rw[am];exact((G.ends.cons _).cons _)
 .refine(G.bows t).trans ?_;rw[am];exact .refl _
theorem Gr.ext{t:Bool}{st':List Oe}{o l:Int}(G:Gr b st f r (p::is))(hl:p.lst=((o,l),t))(hs:st t=st'++[(o,l)]):
  Gr b (λu=>if u=t then st' else st u++[((r:Int),l)]) (λu=>if u=t then f u++[(o,(r:Int))] else f u) (r+1) ({ p with rows:=p.rows++[(r:Int)] }::is):=by
 have pne:=G.ne p aW;have e1:ltZ p.rows=o:=congrArg (λx=>x.1.1) hl;have e2:p.lab=l:=congrArg (λx=>x.1.2) hl;have e3:fz p.s p.rows=t:=congrArg (λx=>x.2) hl;have low:=(G.stk t).low (o,l) (by rw[hs];simp);simp only at low;have lst':Pc.lst { p with rows:=p.rows++[(r:Int)] }=(((r:Int),l),!t):=by
  show ((ltZ (p.rows++[(r:Int)]),p.lab),fz p.s (p.rows++[(r:Int)]))=_;rw[FC,zf,e2,e3]
 have more':Pc.more { p with rows:=p.rows++[(r:Int)] }=p.more:=by
  unfold Pc.more Pc.fst;rw[BU pne]
 refine⟨λq hq=>?_,?_,G.labs,λq hq=>?_,?_,λq hq hm=>?_,?_,λu=>?_,λu=>?_⟩
 .rcases aL.mp hq with z | z
  .subst z;simp
  .exact G.ne q (aJ _ z)
 .have h1:=G.rows;rw[am] at h1 |-;rw[tW];show ((p.rows++[(r:Int)])++is.flatMap Pc.rows).Perm _;rw[cC];exact(d8 (l₁:=p.rows) (a:=(r:Int)) (l₂:=is.flatMap Pc.rows)).trans ((h1.cons _).trans (dM (l₁:=[(r:Int)])))
 .rcases aL.mp hq with z | z
  .subst z;have:=G.lr p aW;simp only;lia
  .have:=G.lr q (aJ _ z);lia
 .have:=G.one;rw[cS] at this |-;exact this
 .rcases aL.mp hq with z | z
  .subst z;obtain⟨a,c⟩:=G.hd p aW hm;refine⟨?_,c⟩;show (p.rows++[(r:Int)]).head? = _;rw[List.head?_append,a];rfl
  .exact G.hd q (aJ _ z) hm
 .have h1:=(nY hs).symm.trans G.ends;rw[am] at h1 |-;have h2:(eF λu=>if u=t then st' else st u).Perm (p.more++is.flatMap Pc.ends):=by
   have e:p.ends++is.flatMap Pc.ends=((o,l),t)::(p.more++is.flatMap Pc.ends):=by
    unfold Pc.ends;rw[hl];rfl
   rw[e] at h1;exact h1.cons_inv
  have e:(λu=>if u=t then st' else st u++[((r:Int),l)])=λu=>if u=(!t) then (if u=t then st' else st u)++[((r:Int),l)] else (if u=t then st' else st u):=by
   funext u;cases u<;>cases t<;>rfl
  rw[e];refine pC.trans ((h2.cons _).trans ?_);have e4:Pc.ends { p with rows:=p.rows++[(r:Int)] }=(((r:Int),l),!t)::p.more:=by
   unfold Pc.ends;rw[lst',more']
  rw[e4];exact .refl _
 .have h1:=G.bows u;rw[am] at h1 |-;have e4:Pc.bows u { p with rows:=p.rows++[(r:Int)] }=p.bows u++if u=t then [(o,(r:Int))] else []:=by
   show chain p.s (p.rows++[(r:Int)]) u=chain p.s p.rows u++_;rw[chain_snoc _ _ _ pne,e1,e3];have m1:min o (r:Int)=o:=by lia
   have m2:max o (r:Int)=(r:Int):=by lia
   rw[m1,m2];congr 1;cases t<;>cases u<;>rfl
  rw[e4];by_cases z:u=t
  .rw[U2 z,U2 z,cC];exact(h1.append_right _).trans (by rw[cC];exact j3 _ dM)
  .rw[U1 z,U1 z,cE];exact h1
 .by_cases z:u=t
  .subst z;simp only[U7];have:=G.stk u;rw[hs] at this;exact this.keep λe h=>cn _ h
  .simp only[z,U8];exact(G.stk u).push l
theorem Gr.pick2{o1 l1 o2 l2:Int}{n' f':List Oe}(G:Gr b st f r is)(h1:st false=n'++[(o1,l1)])(h2:st true=f'++[(o2,l2)])(hne:l1≠l2):∃p q js,p.lst=((o1,l1),false)/\q.lst=((o2,l2),true)/\Gr b st f r (p::q::js):=by
 obtain⟨p,js,hp,G1,_⟩:=G.pick (e:=((o1,l1),false)) (by unfold eF;rw[h1];simp);have hm:((o2,l2),true)∈eF st:=by unfold eF;rw[h2];simp
 obtain⟨q,hq,he⟩:=gE.mp (G1.ends.mem_iff.mp hm);have lab:∀(x:Pc) e,e∈x.ends->e.1.2=x.lab:=λx e h=>by
  rcases aL.mp h with z | z
  .subst z;rfl
  .unfold Pc.more at z;cases hm:x.main with
   | true=>rw[hm] at z;cases z
   | false=>
    rw[hm] at z;have e':e=x.fst:=by simpa using z
    subst e';rfl
 have pl:p.lab=l1:=congrArg (λx=>x.1.2) hp;have ql:=lab q _ he;rcases aL.mp hq with z | z
 .subst z;simp only at ql;exact absurd (pl.symm.trans ql.symm) hne
 .obtain⟨A,B,rfl⟩:=List.append_of_mem z;have G2:Gr b st f r (q::p::(A++B)):=G1.perm ((d8.cons p).trans (List.Perm.swap _ _ _));rcases aL.mp he with y | y
  .exact⟨p,q,A++B,hp,y.symm,G2.perm (List.Perm.swap _ _ _)⟩
  .unfold Pc.more at y;cases hm:q.main with
   | true=>rw[hm] at y;cases y
   | false=>
    rw[hm] at y;have e':((o2,l2),true)=q.fst:=by simpa using y
    exact⟨p,q.rev,A++B,hp,by rw[wI,<-e'],(G2.flip hm).perm (List.Perm.swap _ _ _)⟩
def ff(x y:Int)(e:Oe):Oe:=(e.1,if e.2=x then y else e.2)
theorem Gr.join0{ta:Bool}{o:Bool->Int}{la lb l1 l2:Int}{st':Bool->List Oe}(G:Gr b st f r (p::q::is))(hp:p.lst=((o ta,la),ta))(hq:q.lst=((o (!ta),lb),!ta))(hs:∀u,st u=st' u++[(o u,if u=ta then la else lb)])(hm:q.main=false)(hlab:(l1=la/\l2=lb)\/(l1=lb/\l2=la)):
  Gr b (λu=>(st' u).map (ff l2 l1)) (λu=>f u++[(o u,(r:Int))]) (r+1) (⟨l1,p.rows++(r:Int)::q.rows.reverse,p.s,p.main⟩::is):=by
 have pne:=G.ne p aW;have qne:=G.ne q (aJ _ aW);have qrne:q.rows.reverse≠[]:=λe=>qne (nD.mp e);have p1:ltZ p.rows=o ta:=congrArg (λx=>x.1.1) hp;have p2:p.lab=la:=congrArg (λx=>x.1.2) hp;have p3:fz p.s p.rows=ta:=congrArg (λx=>x.2) hp;have q1:ltZ q.rows=o (!ta):=congrArg (λx=>x.1.1) hq;have q2:q.lab=lb:=congrArg (λx=>x.1.2) hq;have q3:fz q.s q.rows=!ta:=congrArg (λx=>x.2) hq;have low:∀u,0<=o u/\o u<r:=λu=>(G.stk u).low (o u,if u=ta then la else lb) (by rw[hs u];simp);have nd:=G.labs;rw[af,af,bW,bW,p2,q2] at nd;obtain⟨n1,n2,n3⟩:=nd;have nab:la≠lb:=λe=>n1 (by rw[e];exact aW);have nla:∀x∈is,x.lab≠la:=λx hx e=>n1 (aJ _ (aU.mpr ⟨x,hx,e⟩));have nlb:∀x∈is,x.lab≠lb:=λx hx e=>n2 (aU.mpr ⟨x,hx,e⟩);have n1':∀x∈is,x.lab≠l1:=λx hx=>by rcases hlab with ⟨e,_⟩ | ⟨e,_⟩<;>rw[e];exact nla x hx;exact nlb x hx
 have n2':∀x∈is,x.lab≠l2:=λx hx=>by rcases hlab with ⟨_,e⟩ | ⟨_,e⟩<;>rw[e];exact nlb x hx;exact nla x hx
 have rla:(if la=l2 then l1 else la)=l1:=by
  rcases hlab with ⟨e,e'⟩ | ⟨e,e'⟩
  .rw[e',U1 nab,e]
  .rw[e',U2 rfl]
 have rlb:(if lb=l2 then l1 else lb)=l1:=by
  rcases hlab with ⟨e,e'⟩ | ⟨e,e'⟩
  .rw[e',U2 rfl]
  .rw[e',U1 nab.symm,e]
 refine⟨λx hx=>?_,?_,?_,λx hx=>?_,?_,λx hx hmx=>?_,?_,λu=>?_,λu=>?_⟩
 .rcases aL.mp hx with z | z
  .subst z;simp
  .exact G.ne x (aJ _ (aJ _ z))
 .have h1:=G.rows;rw[am,am] at h1;rw[am,tW];show ((p.rows++(r:Int)::q.rows.reverse)++is.flatMap Pc.rows).Perm _;rw[cC,gF];refine d8.trans (List.Perm.trans ?_ (dM (l₁:=[(r:Int)])));refine List.Perm.cons _ (List.Perm.trans ?_ h1);exact j3 _ ((jL q.rows).append_right _)
 .rw[af,bW];refine⟨λz=>?_,n3⟩;obtain⟨x,hx,e⟩:=aU.mp z;exact n1' x hx e
 .rcases aL.mp hx with z | z
  .subst z;have h1:=G.lr p aW;have h2:=G.lr q (aJ _ aW);simp only;rcases hlab with ⟨e,_⟩ | ⟨e,_⟩<;>rw[e]<;>lia
  .have:=G.lr x (aJ _ (aJ _ z));lia
 .have:=G.one;rw[cS,cS,hm] at this;rw[cS];simpa using this
 .rcases aL.mp hx with z | z
  .subst z;obtain⟨a,c⟩:=G.hd p aW hmx;refine⟨?_,c⟩;show (p.rows++(r:Int)::q.rows.reverse).head? = _;rw[List.head?_append,a];rfl
  .exact G.hd x (aJ _ (aJ _ z)) hmx
 .have h0:(eF st).Perm (((o ta,la),ta)::((o (!ta),lb),!ta)::eF st'):=by
   have e1:(eF st).Perm _:=nY (t:=ta) (hs ta);refine e1.trans ?_;rw[U2 rfl];refine List.Perm.cons _ ?_;have e2:=nY (st:=λu=>if u=ta then st' ta else st u) (t:=!ta) (st':=st' (!ta)) (e:=(o (!ta),lb)) (by
    have z:¬(!ta)=ta:=by cases ta<;>decide
    simp only[z,U8];rw[hs (!ta),U1 z])
   refine e2.trans (List.Perm.cons _ ?_);have:(λu=>if u=(!ta) then st' (!ta) else if u=ta then st' ta else st u)=st':=by
    funext u;cases u<;>cases ta<;>rfl
   rw[this]
  have h1:=h0.symm.trans G.ends;rw[am,am] at h1;have eqm:q.more=[q.fst]:=by unfold Pc.more;rw[hm];rfl
  have h2:(eF st').Perm (p.more++(q.fst::is.flatMap Pc.ends)):=by
   have e:(p.ends++(q.ends++is.flatMap Pc.ends)).Perm (((o ta,la),ta)::((o (!ta),lb),!ta)::(p.more++(q.fst::is.flatMap Pc.ends))):=by
    unfold Pc.ends;rw[hp,hq,eqm];refine List.Perm.cons _ ?_;exact d8
   exact(h1.trans e).cons_inv.cons_inv
  have hmap:(eF λu=>(st' u).map (ff l2 l1))=(eF st').map λx=>(ff l2 l1 x.1,x.2):=by
   unfold eF;rw[aX,bn,bn,bn,bn];rfl
  rw[hmap];refine(h2.map _).trans ?_;rw[aX,af,am];have r1:(is.flatMap Pc.ends).map (λx=>(ff l2 l1 x.1,x.2))=is.flatMap Pc.ends:=by
   have:∀x∈is.flatMap Pc.ends,(ff l2 l1 x.1,x.2)=x:=λx hx=>by
    obtain⟨y,hy,he⟩:=gE.mp hx;have:x.1.2=y.lab:=by
     rcases aL.mp he with z | z
     .subst z;rfl
     .unfold Pc.more at z;cases hm:y.main with
      | true=>rw[hm] at z;cases z
      | false=>
       rw[hm] at z;have e':x=y.fst:=by simpa using z
       subst e';rfl
    unfold ff;rw[U1 (by rw[this];exact n2' y hy)]
   exact(cP this).trans (List.map_id _)
  have r2:(ff l2 l1 q.fst.1,q.fst.2)=Pc.lst ⟨l1,p.rows++(r:Int)::q.rows.reverse,p.s,p.main⟩:=by
   show ((CU q.rows,if q.lab=l2 then l1 else q.lab),q.s)=((ltZ (p.rows++(r:Int)::q.rows.reverse),l1),fz p.s (p.rows++(r:Int)::q.rows.reverse))
   rw[q2,rlb,BF (by simp)];have e1:ltZ ((r:Int)::q.rows.reverse)=CU q.rows:=by
    have:(r:Int)::q.rows.reverse=[(r:Int)]++q.rows.reverse:=rfl;rw[this,BF qrne,wU]
   rw[e1];congr 1;unfold fz at p3 q3 |-;rw[aj,bL,eX];have:odd (p.rows.length+(q.rows.length+1))=(odd p.rows.length ^^ !odd q.rows.length):=by
    unfold odd;rcases fJ p.rows.length with h | h<;>rcases fJ q.rows.length with h' | h'<;>simp[jw,h,h']
   rw[this]
   revert p3 q3
   cases p.s<;>cases q.s<;>cases odd p.rows.length<;>cases odd q.rows.length<;>cases ta<;>decide
  have r3:p.more.map (λx=>(ff l2 l1 x.1,x.2))=Pc.more ⟨l1,p.rows++(r:Int)::q.rows.reverse,p.s,p.main⟩:=by
   unfold Pc.more;cases hmp:p.main with
   | true=>rfl
   | false=>
    show [((CU p.rows,if p.lab=l2 then l1 else p.lab),p.s)]=[((CU (p.rows++(r:Int)::q.rows.reverse),l1),p.s)]
    rw[BU pne,p2,rla]
  rw[r1,r2,r3];exact d8
 .have h1:=G.bows u;rw[am,am] at h1;rw[am];have e4:(Pc.bows u ⟨l1,p.rows++(r:Int)::q.rows.reverse,p.s,p.main⟩).Perm ((o u,(r:Int))::(p.bows u++q.bows u)):=by
   show (chain p.s (p.rows++(r:Int)::q.rows.reverse) u).Perm _;rw[qQ _ _ _ _ pne,p1,p3];obtain⟨x,R,hR⟩:∃x R,q.rows.reverse=x::R:=by
    cases e:q.rows.reverse with
    | nil=>exact absurd e qrne
    | cons x R=>exact⟨x,R,rfl⟩
   have hx:x=o (!ta):=by
    rw[<-q1,<-BQ,hR];rfl
   have e5:chain ta ((r:Int)::q.rows.reverse) u=(if (!ta)=u then [(o (!ta),(r:Int))] else [])++chain (!ta) q.rows.reverse u:=by
    rw[hR];show (if (!ta)=u then [(min (r:Int) x,max (r:Int) x)] else [])++chain (!ta) (x::R) u=_;have:=low (!ta);rw[hx];have m1:min (r:Int) (o (!ta))=o (!ta):=by lia
    have m2:max (r:Int) (o (!ta))=(r:Int):=by lia
    rw[m1,m2]
   have m1:min (o ta) (r:Int)=o ta:=by have:=low ta;lia
   have m2:max (o ta) (r:Int)=(r:Int):=by have:=low ta;lia
   rw[e5,m1,m2];have cq:(chain (!ta) q.rows.reverse u).Perm (q.bows u):=by
    have:=rZ q.rows q.s u;rw[q3] at this;exact this
   by_cases z:ta=u
   .have z':¬(!ta)=u:=by rw[<-z];cases ta<;>decide
    rw[U2 z,U1 z',<-z,fQ,cC];refine(d8 (l₁:=chain p.s p.rows ta) (a:=(o ta,(r:Int))) (l₂:=chain (!ta) q.rows.reverse ta)).trans ?_;rw[<-z] at cq;exact(cq.append_left _).cons _
   .have z':(!ta)=u:=by revert z;cases ta<;>cases u<;>decide
    rw[U1 z,U2 z',cE];refine(d8 (l₁:=chain p.s p.rows u) (a:=(o (!ta),(r:Int))) (l₂:=chain (!ta) q.rows.reverse u)).trans ?_;rw[<-z'];rw[<-z'] at cq;exact(cq.append_left _).cons _
  refine List.Perm.trans ?_ (e4.symm.append_right _);refine(dM (l₁:=f u) (l₂:=[(o u,(r:Int))])).trans ?_;refine List.Perm.cons _ (h1.trans ?_);show (Pc.bows u p++(Pc.bows u q++is.flatMap (Pc.bows u))).Perm ((Pc.bows u p++Pc.bows u q)++is.flatMap (Pc.bows u));rw[cC]
 .have:=G.stk u;rw[hs u] at this;exact(this.keep λe h=>cn _ h).map λx=>if x=l2 then l1 else x
theorem Gr.join{o1 l1 o2 l2:Int}{n' f':List Oe}(G:Gr b st f r is)(h1:st false=n'++[(o1,l1)])(h2:st true=f'++[(o2,l2)])(hne:l1≠l2):
  ∃js,Gr b (λu=>(if u then f' else n').map (ff l2 l1)) (λu=>f u++[(if u then o2 else o1,(r:Int))]) (r+1) js:=by
 obtain⟨p,q,js,hp,hq,G2⟩:=G.pick2 h1 h2 hne;cases hm:q.main with
 | false=>
  exact⟨_,G2.join0 (ta:=false) (o:=λu=>if u then o2 else o1) (st':=λu=>if u then f' else n') hp hq (λu=>by cases u;exact h1;exact h2) hm (.inl ⟨rfl,rfl⟩)⟩
 | true=>
  have hm2:p.main=false:=by
   have:=G2.one;rw[cS,cS,hm] at this;cases z:p.main with
   | false=>rfl
   | true=>rw[z] at this;simp at this
  have G3:=G2.perm (List.Perm.swap q p js);exact⟨_,G3.join0 (ta:=true) (o:=λu=>if u then o2 else o1) (st':=λu=>if u then f' else n') hq hp (λu=>by cases u;exact h1;exact h2) hm2 (.inr ⟨rfl,rfl⟩)⟩
theorem Gr.many(G:Gr b st f r is):(st false).length+(st true).length+1=2*is.length:=by
 have h1:=G.ends.length_eq;unfold eF at h1;rw[aj,aA,aA] at h1;have h2:∀js:List Pc,(js.flatMap Pc.ends).length+js.countP Pc.main=2*js.length:=by
  intro js
  induction js with
  | nil=>rfl
  | cons p js ih=>
   rw[am,aj,cS,bL];have:p.ends.length+(if p.main=true then 1 else 0)=2:=by
    unfold Pc.ends Pc.more;cases p.main<;>rfl
   lia
 have:=h2 is;rw[G.one] at this;lia
theorem Gr.three(G:Gr b st f r is){x y z:Oe×Bool}{L:List (Oe×Bool)}(h:(eF st).Perm (x::y::z::L)):¬(x.1.2=y.1.2/\y.1.2=z.1.2):=by
 rintro⟨e1,e2⟩;have cnt:∀js:List Pc,(js.map Pc.lab).Nodup->∀l,(js.flatMap Pc.ends).countP (λe=>decide (e.1.2=l))<=2:=by
  intro js
  induction js with
  | nil=>intro _ l;exact ah _
  | cons p js ih=>
   intro nd l;rw[af,bW] at nd;rw[am,List.countP_append];have len:p.ends.length<=2:=by unfold Pc.ends Pc.more;cases p.main<;>simp
   by_cases z:p.lab=l
   .have:(js.flatMap Pc.ends).countP (λe=>decide (e.1.2=l))=0:=List.countP_eq_zero.mpr λe he=>by
     obtain⟨q,hq,hm⟩:=gE.mp he;have:e.1.2=q.lab:=by
      rcases aL.mp hm with y | y
      .subst y;rfl
      .unfold Pc.more at y;cases hmm:q.main with
       | true=>rw[hmm] at y;cases y
       | false=>
        rw[hmm] at y;have e':e=q.fst:=by simpa using y
        subst e';rfl
     simp only[U3];intro w;exact nd.1 (aU.mpr ⟨q,hq,by rw[<-this,w,z]⟩)
    have:=List.countP_le_length (p:=λe:Oe×Bool=>decide (e.1.2=l)) (l:=p.ends);lia
   .have:p.ends.countP (λe=>decide (e.1.2=l))=0:=List.countP_eq_zero.mpr λe he=>by
     have:e.1.2=p.lab:=by
      rcases aL.mp he with y | y
      .subst y;rfl
      .unfold Pc.more at y;cases hmm:p.main with
       | true=>rw[hmm] at y;cases y
       | false=>
        rw[hmm] at y;have e':e=p.fst:=by simpa using y
        subst e';rfl
     simp only[U3];intro w;exact z (by rw[<-this,w])
    have:=ih nd.2 l;lia
 have h1:=cnt is G.labs x.1.2;rw[<-(G.ends.symm.trans h).symm.countP_eq] at h1;rw[cS,cS,cS] at h1;simp only[e1,e2,decide_true,U7] at h1;lia
theorem Gr.start (b : Bool) : Gr b (fun u => if u = b then [((0 : Int), (0 : Int))] else []) (fun _ => []) 1 [⟨0, [0], !b, true⟩] := by
  refine ⟨fun p hp => ?_, ?_, by simp, fun p hp => ?_, rfl, fun p hp _ => ?_, ?_, fun t => .refl _, fun t => ?_⟩
  · have e : p = ⟨0, [0], !b, true⟩ := by simpa using hp
    subst e; simp
  · exact .refl _
  · have e : p = ⟨0, [0], !b, true⟩ := by simpa using hp
    subst e; exact (by decide : (0 : Int) < 1)
  · have e : p = ⟨0, [0], !b, true⟩ := by simpa using hp
    subst e; exact ⟨rfl, rfl⟩
  · cases b <;> exact .refl _
  · by_cases z : t = b
    · simp only [z, U7]
      exact ⟨fun e h => by have e' : e = (0, 0) := by simpa using h
                           subst e'; decide⟩
    · simp only [z, U8]
      exact ⟨fun p h => (nomatch h)⟩
theorem Gr.last{t:Bool}{o l:Int}(G:Gr b st f r is)(h1:st t=[(o,l)])(h2:st (!t)=[]):
  ∃ns:gs,ns.length+1=r/\ns.Perm (gK 1 ns.length)/\∀u,(if u=t then f u++[(o,(r:Int))] else f u).Perm (bH b ns u (ns.length+1)):=by
 have hl:=G.many;have h3:(st false).length+(st true).length=1:=by
  cases t
  .rw[h1,show st true=[] from h2];rfl
  .rw[h1,show st false=[] from h2];rfl
 obtain⟨p,rfl⟩:∃p,is=[p]:=by
  match is,(show is.length=1 by lia) with
  | [p],_=>exact⟨p,rfl⟩
 have hm:p.main=true:=by
  have:=G.one;rw[cS] at this;cases z:p.main with
  | true=>rfl
  | false=>rw[z] at this;simp at this
 obtain⟨hd,hs⟩:=G.hd p (by simp) hm;have he:=G.ends;have hp:p.lst=((o,l),t):=by
  have e:eF st=[((o,l),t)]:=by
   unfold eF;cases t
   .rw[h1,show st true=[] from h2];rfl
   .rw[h1,show st false=[] from h2];rfl
  rw[e,am,nG,cE] at he;unfold Pc.ends Pc.more at he;rw[hm] at he;have:=List.perm_singleton.mp he.symm;simpa using this
 have G':=G.ext hp (st':=[]) h1;obtain⟨ns,hns⟩:∃ns,p.rows=0::ns:=by
  cases e:p.rows with
  | nil=>rw[e] at hd;cases hd
  | cons a R=>rw[e] at hd;cases hd;exact⟨R,rfl⟩
 have hr:=G.rows;rw[am,nG,cE,hns] at hr;have hlen:=hr.length_eq;rw[bL,qi] at hlen;have hr1:ns.Perm (gK 1 ns.length):=by
  have e:gK 0 r=0::gK 1 ns.length:=by
   rw[<-hlen];unfold gK;rw[nj,af,bn];congr 1;refine cP λi _=>?_;simp only[Function.comp]
   push_cast
   lia
  rw[e] at hr;exact hr.cons_inv
 have er:p.rows++[(r:Int)]=eK ns:=by
  rw[hns,<-hlen];unfold eK
  push_cast
  rfl
 have ch:∀(k m:Nat) (u:Bool),m=ns.length+1-k->k<=ns.length+1->chain (!(b ^^ odd k)) ((eK ns).drop k) u=(((List.range m).map (·+k)).filter (cX b u)).map (cF ns):=by
  intro k m
  induction m generalizing k with
  | zero=>
   intro u hm hk;have e:k=ns.length+1:=by lia
   have:(eK ns).drop k=[bX ns k]:=by
    have h:=aH.mp (iU (ns:=ns) (i:=k) (by lia));rw[cG h.1,h.2,List.drop_of_length_le (by rw[iq];lia)]
   rw[this];rfl
  | succ m ih=>
   intro u hm hk;have h:=aH.mp (iU (ns:=ns) (i:=k) (by lia));have h':=aH.mp (iU (ns:=ns) (i:=k+1) (by lia));have ih':=ih (k+1) u (by lia) (by lia);rw[cG h.1,h.2,cG h'.1,h'.2];show (if (!!(b ^^ odd k))=u then [(min (bX ns k) (bX ns (k+1)),max (bX ns k) (bX ns (k+1)))] else [])++chain (!!(b ^^ odd k)) (bX ns (k+1)::(eK ns).drop (k+1+1)) u=_;have e2:chain (!!(b ^^ odd k)) (bX ns (k+1)::(eK ns).drop (k+1+1)) u=(((List.range m).map (·+(k+1))).filter (cX b u)).map (cF ns):=by
    rw[<-ih',lO];have e3:(!(b ^^ !odd k))=!!(b ^^ odd k):=by cases b<;>cases odd k<;>rfl
    rw[e3];congr 1;rw[cG h'.1,h'.2]
   rw[e2,nj,af,bn,nJ];have e4:((λx=>x+k)∘Nat.succ)=λx=>x+(k+1):=by funext x;simp only[Function.comp];lia
   rw[e4];show _=List.map (cF ns) (if cX b u (0+k)=true then _ else _);rw[jK];have e5:cX b u k=decide ((!!(b ^^ odd k))=u):=by unfold cX;cases b<;>cases u<;>cases odd k<;>rfl
   rw[e5];by_cases z:(!!(b ^^ odd k))=u
   .rw[U2 z,U5 z,U2 rfl];rfl
   .rw[U1 z,U4 z,U1 au];rfl
 have sb:∀u,Pc.bows u { p with rows:=p.rows++[(r:Int)] }=bH b ns u (ns.length+1):=λu=>by
  show chain p.s (p.rows++[(r:Int)]) u=_;have:=ch 0 (ns.length+1) u rfl (ah _);rw[show odd 0=false from rfl,l9] at this;rw[hs,er];refine Eq.trans this ?_;unfold bH;congr 2;simp
 have pu:∀u,(if u=t then f u++[(o,(r:Int))] else f u).Perm (bH b ns u (ns.length+1)):=λu=>by
  have:=G'.bows u;rw[am,nG,cE,sb u] at this;exact this
 exact⟨ns,hlen,hr1,pu⟩
end
def bP(st:Bool->List Oe):gs:=(st false++(st true).reverse).map (·.2)
def oZ(L:gs):Nat:=if L[0]? = L[1]? then 2 else 1
def yj(st:Bool->List Oe):Nat:=if (bP st).length<=1 then 0 else (((st false).length:Int)-oZ (bP st)).natAbs+3*((bP st).length / 2) - 2
def oH(m:Int):Int:=if m<2 then 0 else 5*(m - 1) / 2 - 2
theorem pL(L:gs):oZ L=1\/oZ L=2:=by unfold oZ;split<;>simp
theorem m7(st:Bool->List Oe):(bP st).length=(st false).length+(st true).length:=by simp[bP]
section
variable {b:Bool}{st:Bool->List Oe}{f:Bool->List Bw}{r:Nat}{is:List Pc}
theorem Gr.phi_need(G:Gr b st f r is):(yj st:Int)<=oH ((st false).length+(st true).length):=by
 have hm:=G.many;have hl:=m7 st;unfold yj oH;by_cases h:(bP st).length<=1
 .rw[U2 h]
  split<;>lia
 .rw[U1 h,U1 (by lia)];have t:=pL (bP st);obtain⟨c,hc⟩:∃c,is.length=c+1:=⟨is.length - 1,by clear t;lia⟩
  have d1:(bP st).length / 2=c:=by clear t;lia
  have a:((((st false).length:Nat):Int)-(oZ (bP st):Nat)).natAbs<=2*c:=by clear d1;lia
  have d2:5*((((st false).length:Nat):Int)+(((st true).length:Nat):Int) - 1) / 2=5*(c:Int):=by clear a t d1;lia
  have c1:1<=c:=by clear t a d1 d2;lia
  rw[d1,d2];clear d1 d2 t hm hl hc h;generalize Int.natAbs _=k at a |-;lia
theorem Gr.tgt_ne(G:Gr b st f r is)(h:1<(bP st).length):∃x y,(bP st)[oZ (bP st) - 1]? = some x/\(bP st)[oZ (bP st)]? = some y/\x≠y:=by
 have hm:=G.many;have hl:=m7 st;have h3:3<=(bP st).length:=by lia
 have hE:∃x y z L,(eF st).Perm (x::y::z::L)/\(bP st)[0]? = some x.1.2/\(bP st)[1]? = some y.1.2/\(bP st)[2]? = some z.1.2:=by
  have hp:(eF st).Perm ((st false).map (·,false)++((st true).reverse).map (·,true)):=by
   unfold eF;exact j3 _ ((jL _).map _).symm
  have hlab:bP st=((st false).map (·,false)++((st true).reverse).map (·,true)).map (λx:Oe×Bool=>x.1.2):=by
   unfold bP;rw[aX,aX,bn,bn];rfl
  rw[hlab] at h3 |-;generalize (st false).map (·,false)++((st true).reverse).map (·,true)=E at hp h3 |-
  match E,h3 with
  | x::y::z::L,_=>exact⟨x,y,z,L,hp,rfl,rfl,rfl⟩
 obtain⟨x,y,z,L,hp,e0,e1,e2⟩:=hE;have:=G.three hp;unfold oZ;rw[e0,e1];by_cases e:x.1.2=y.1.2
 .rw[U2 (by rw[e])];exact⟨_,_,e1,e2,λz=>this ⟨e,z⟩⟩
 .rw[U1 (λz=>e (av z))];exact⟨_,_,e0,e1,e⟩
theorem MD{far':List Oe}{o l:Int}(h:st true=far'++[(o,l)])(h1:1<(bP st).length)(ht:(st false).length<oZ (bP st)):yj (λu=>if u=true then far' else st u++[((r:Int),l)])+1=yj st:=by
 have e:bP (λu=>if u=true then far' else st u++[((r:Int),l)])=bP st:=by
  unfold bP;simp only[h,bR,U8,U7,kU,gf,List.reverse_nil,fQ,aX,af,eP,cC,gF]
 unfold yj;rw[e,U1 (by lia),U1 (by lia)];have e2:((λu=>if u=true then far' else st u++[((r:Int),l)]) false).length=(st false).length+1:=by simp
 rw[e2];have a1:((((st false).length+1:Nat):Int)-(oZ (bP st):Nat)).natAbs+1=((((st false).length:Nat):Int)-(oZ (bP st):Nat)).natAbs:=by clear h h1 e e2;lia
 have d1:1<=(bP st).length / 2:=by clear h e e2 a1 ht;lia
 rw[<-a1];clear a1 h h1 e e2 ht;generalize Int.natAbs _=k;generalize _ / 2=d at d1 |-;lia
theorem MC{near':List Oe}{o l:Int}(h:st false=near'++[(o,l)])(h1:1<(bP st).length)(ht:oZ (bP st)<(st false).length):yj (λu=>if u=false then near' else st u++[((r:Int),l)])+1=yj st:=by
 have e:bP (λu=>if u=false then near' else st u++[((r:Int),l)])=bP st:=by
  unfold bP;simp only[h,Bool.true_eq_false,U8,U7,kU,gf,List.reverse_nil,fQ,aX,af,eP,cC,gF]
 unfold yj;rw[e,U1 (by lia),U1 (by lia)];have e2:(st false).length=near'.length+1:=by rw[h];simp
 have e3:((λu=>if u=false then near' else st u++[((r:Int),l)]) false).length=near'.length:=by simp
 rw[e3];lia
theorem Gr.phi_d{n' f':List Oe}{o1 l1 o2 l2:Int}(G:Gr b st f r is)(h:st false=n'++[(o1,l1)])(h':st true=f'++[(o2,l2)])(h1:1<(bP st).length)(ht:(st false).length=oZ (bP st)):yj (λu=>(if u then f' else n').map (ff l2 l1))+1<=yj st:=by
 have hm:=G.many;have hl:=m7 st;have hl2:=m7 (λu=>(if u then f' else n').map (ff l2 l1));have e2:(st false).length=n'.length+1:=by rw[h];simp
 have e3:(st true).length=f'.length+1:=by rw[h'];simp
 simp only[bR,U8,U7,aA] at hl2;have t1:=pL (bP st);have t2:=pL (bP (λu=>(if u then f' else n').map (ff l2 l1)));unfold yj;rw[U1 (show ¬(bP st).length<=1 by lia)];have e4:((λu:Bool=>(if u=true then f' else n').map (ff l2 l1)) false).length=n'.length:=by simp
 rw[e4]
 split
 .lia
 .rename_i hbig;have q:(bP st).length / 2=(bP λu=>(if u=true then f' else n').map (ff l2 l1)).length / 2+1:=by rw[show (bP st).length=(bP λu=>(if u=true then f' else n').map (ff l2 l1)).length+2 by lia,Nat.add_div_right _ (by decide)]
  have z:((((st false).length:Nat):Int)-(oZ (bP st):Nat)).natAbs=0:=by rw[ht,Int.sub_self];rfl
  have n2:n'.length<=1:=by clear hm hl hl2 q z t2;lia
  have a2:(((n'.length:Nat):Int)-(oZ (bP λu=>(if u=true then f' else n').map (ff l2 l1)):Nat)).natAbs<=2:=by
   clear hm hl hl2 q z t1 ht h1 hbig;generalize oZ _=t at t2 |-;rcases t2 with rfl | rfl<;>lia
  rw[q,z];clear hm hl hl2 t1 t2 ht e2 e3 e4 h1 n2 z q h h';generalize Int.natAbs _=k at a2 |-;generalize _ / 2=d;lia
end
end Rm
namespace L2
open PySem PySem.Spec PyProof.Rows
def yi(dO:Option Addr)(e:Addr)(h:Heap):Prop:=∃o vs,h.get? e=some o/\(o.dict=dO/\o.data=.fields vs)/\vs[2]? = some .none
abbrev Ni (e:Addr) (h:Heap):Prop:=yi none e h
structure fF {α:Type} (I:Heap->Prop) (t:Sem α):Prop where
 out:∀ (M:Model) (Γ:PySem.Ctx) (P:α->Pos->Shared->Prop) (E:Value->Pos->Shared->Prop) (p:Pos) (s:Shared),I s.heap->Sem.wp M Γ t P E p s->Sem.wp M Γ t (fun a p' s'=>P a p' s'/\I s'.heap) E p s
section
variable {α β:Type}{I:Heap->Prop}
theorem fF.pure(a:α):fF I (Pure.pure a:Sem α):=⟨λM Γ P E p s i h=>⟨h,i⟩⟩
theorem fF.un(w:String):fF I (unsupported w:Sem α):=⟨λM Γ P E p s i h=>False.elim h⟩
theorem fF.load(a:Addr):fF I (load a):=⟨(by rintro M Γ P E p s i ⟨o,e,h⟩;exact ⟨o,e,h,i⟩)⟩
theorem fF.stack:fF I stack:=⟨λM Γ P E p s i h=>⟨h,i⟩⟩
theorem fF.update{a:Addr}{f:Obj->Obj}(k:∀h,I h->I (h.update a f)):fF I (update a f):=⟨(by rintro M Γ P E p s i ⟨e,h⟩;exact ⟨e,h,k _ i⟩)⟩
theorem fF.alloc{o:Obj}(k:∀h,I h->I (h.push o)):fF I (alloc o):=⟨λM Γ P E p s i h=>⟨h,k _ i⟩⟩
theorem fF.bind{m:Sem α}{f:α->Sem β}(hm:fF I m)(hf:∀a,fF I (f a)):fF I (m>>=f):=⟨λM Γ P E p s i h=>by
 have h':Sem.wp M Γ (m.bind f) P E p s:=h;show Sem.wp M Γ (m.bind f) _ E p s;rw[Sem.wp_bind] at h' |-;exact Sem.wp_mono M Γ m (by rintro a p' s' ⟨h1,i1⟩;exact (hf a).out M Γ P E p' s' i1 h1) (λ_ _ _ z=>z) _ _ (hm.out M Γ _ E p s i h')⟩
theorem fF.ite{c:Prop} [Decidable c] {a b:Sem α} (ha:fF I a) (hb:fF I b):fF I (if c then a else b):=by split<;>assumption
theorem fF.newObjT{T:String}{vs:ag}(k:∀h o,I h->I (h.push o)):fF I (newFields T vs):=by
 unfold newFields newObj;exact fF.ite (.bind (.un _) λ_=>.bind (.alloc λh i=>k h _ i) λa=>.pure _) (.bind (.alloc λh i=>k h _ i) λa=>.pure _)
end
theorem IB{dO:Option Addr}{e:Addr}{h:Heap}{o:Obj}(c:yi dO e h):yi dO e (h.push o):=by
 obtain⟨ob,vs,e1,e2,e3⟩:=c;exact⟨ob,vs,aB _ e1,e2,e3⟩
theorem Fm{dO:Option Addr}{e a:Addr}{h:Heap}{f:Obj->Obj}(k:∀o vs,o.dict=dO/\o.data=.fields vs->vs[2]? = some Value.none->∃ws,((f o).dict=dO/\(f o).data=.fields ws)/\ws[2]? = some Value.none)(c:yi dO e h):yi dO e (h.update a f):=by
 obtain⟨ob,vs,e1,e2,e3⟩:=c;by_cases z:a=e
 .subst z;obtain⟨ws,e4,e5⟩:=k ob vs e2 e3;exact⟨_,ws,bq f e1 (by clear e5;revert e4;generalize f ob=z;intro ⟨_,e4⟩;obtain⟨c,d,da,sl⟩:=z;cases e4;rfl),e4,e5⟩
 .exact⟨ob,vs,jP f z e1,e2,e3⟩
theorem fF.setField{dO:Option Addr}{e:Addr}{v x:Value}{i:Nat}(hi:i≠2):fF (yi dO e) (PySem.setField v i x):=by
 unfold PySem.setField
 split
 .unfold updateField;refine .bind (.load _) λo=>?_
  split
  .refine .ite (.update λh c=>Fm (λo vs e1 e2=>?_) c) (.un _);obtain⟨c,d,da,sl⟩:=o;obtain⟨e0,e1⟩:=e1;cases e1;refine⟨_,⟨e0,rfl⟩,?_⟩;rw[Array.getElem?_setIfInBounds,U1 hi];exact e2
  .exact .un _
 .exact .un _
theorem fF.field{I:Heap->Prop}{v:Value}{i:Nat}:fF I (PySem.field v i):=by
 unfold PySem.field fieldsOf;refine .bind ?_ λvs=>?_
 .split
  .refine .bind (.load _) λo=>?_
   split
   .exact .pure _
   .exact .un _
  .exact .un _
 .split
  .exact .pure _
  .exact .un _
theorem fF.ready{dO:Option Addr}{e:Addr}:∀l:List Env,fF (yi dO e) (readyFrames l)
 | []=>.pure _
 | env::outer=>by
  unfold readyFrames
  split
  .refine .bind (.load _) λo=>.ite (.pure _) (.bind ?_ λb=>.bind ?_ λc=>.bind (.update λh c=>Fm (λo vs e1 e2=>⟨vs,e1,e2⟩) c) λ_=>fF.ready outer)
   .unfold behindIsImport;exact .ite (.pure _) (.ite (.pure _) (.bind .field λ_=>.pure _))
   .unfold keptBack
    split
    .refine .ite (.pure _) (.bind ?_ λ_=>.pure _);unfold underTheClaimsCaller;exact .bind .stack λ_=>.pure _
    .exact .pure _
  .exact .un _
theorem fF.note{dO:Option Addr}{e:Addr}{v:Value}{env:Env}:fF (yi dO e) (noteFrame v env):=by
 have jp:∀(f:Addr) (head:Value),fF (yi dO e) (do
   let a <-PySem.frameOf env
   let b <-entryPlaceOf f (head != Value.none)
   let c <-EntryCells.newEntry head a Value.none (rawInt ↑f) Value.none b
   PySem.setField v 1 c):=λf head=>by
  refine .bind ?_ λa=>.bind ?_ λb=>.bind ?_ λc=>.setField (by decide)
  .unfold PySem.frameOf frameEnvs;refine .bind (.bind .stack λ_=>.pure _) λl=>.bind ?_ λo=>?_
   .unfold frameObject
    split
    .exact .pure _
    .exact .bind (fF.ready _) λ_=>.pure _
   .split
    .exact .pure _
    .exact .un _
  .unfold entryPlaceOf;refine .bind .stack λacts=>?_
   split
   .exact .pure _
   .exact .pure _
  .unfold EntryCells.newEntry;exact .newObjT λh o c=>IB c
 unfold noteFrame
 split
 .refine .bind .field λhead=>?_;refine .ite (.bind .field λx=>.ite (.pure _) (.bind (.setField (by decide)) λ_=>jp _ _)) (jp _ _)
 .exact .un _
theorem fF.flight{dO:Option Addr}{e:Addr}{v:Value}{fr:Option Addr}:fF (yi dO e) (setFlight v fr):=by
 unfold setFlight;exact .bind .field λtb=>.ite (.setField (by decide)) (.pure _)
theorem fF.leave{dO:Option Addr}{e:Addr}{v:Value}{env:Env}:fF (yi dO e) (leaving env v):=by
 unfold leaving;exact .bind .note λ_=>.flight
theorem fF.any{α:Type}{I:Heap->Prop}{t:Sem α}(p:fF I t){M:Model}{A:Around}{Q:α->Shared->Prop}{E:Value->Shared->Prop}{s:Shared}(i:I s.heap)(h:wpAny M A t Q E s):wpAny M A t (λa s'=>Q a s'/\I s'.heap) E s:=
 fun Γ q hΓ=>p.out M Γ _ _ q s i (h Γ q hΓ)
theorem i6{α:Type}{I:Heap->Prop}{t:Sem α}(p:fF I t){M:Model}{A:Around}{Q:α->Shared->Prop}{E:Value->Shared->Prop}{s:Shared}(i:I s.heap)(h:wpAny M A t (λa s'=>I s'.heap->Q a s') E s):wpAny M A t Q E s:=
 wpAny_mono (p.any i h) (by rintro _ _ ⟨q,c⟩;exact q c) λ_ _ z=>z
theorem He{h h':Heap}{e:Addr}{cls:Value}{vs:ag}(M:h.MadeExcOf h' e cls vs):Ni e h':=by
 obtain⟨t,e1,_⟩:=M.there;exact⟨_,_,e1,⟨rfl,rfl⟩,rfl⟩
theorem u9:entryFor table "proto.unchain"=some Builtin.«proto.unchain»:=entryFor_of_tree (Eq.refl (entriesT.find (code "proto.unchain")))
theorem sJ{prog:Program}{w:World}{A:Around}{E:Value->Shared->Prop}{s:Shared}{it hx:Addr}{x left step:Int}{Q:bt->Shared->Prop}{dO:Option Addr}(hh:A.handled=some (.ref hx))(hc:yi dO hx s.heap)
  (hit:IsRangeIter s.heap it x left step) (hleft:left<=0) (hQ:∀h',Heap.ExtBut it s.heap h'->Q none { s with heap:=h' }):wpAny (model prog w) A (pyNext (.ref it)) Q E s:=by
 have hT:s.TypeIs (.ref it) "range_iterator":=⟨_,hit,rfl⟩
 unfold pyNext;exists (UF (wpAny_callSpecial?_slot hT l4 (Tz l4 hT F.entry_range_iterator_next ?_)));show wpAny (model prog w) A.in1 (Bind.bind (field (Value.ref it) 0) _) _ _ s;exists (UO hit rfl rfl ?_);show wpAny (model prog w) A.in1 (Bind.bind (field (Value.ref it) 1) _) _ _ s;exists (UO hit rfl rfl ?_);show wpAny (model prog w) A.in1 (Bind.bind (field (Value.ref it) 2) _) _ _ s;exists (UO hit rfl rfl ?_);show wpAny (model prog w) A.in1 (if left<=0 then _ else _) _ _ s;rw[U2 hleft];exists (UD (wpAny_bind ?_));show wpAny (model prog w) A.in1 (Bind.bind (newExc (Value.type "StopIteration") []) raiseNew) _ _ s;refine wpAny_bind ?_;show wpAny (model prog w) A.in1 (Bind.bind (newTuple []) _) _ _ s;exists (Tr (wpAny_bind (wpAny_of_eq (Eq.refl (firstArgMember (Value.type "StopIteration") [])) (Tr ?_))));generalize hh1:(s.heap.push _).push _=h1;unfold raiseNew;exists (wpAny_handled ?_);rw[show A.in1.handled=some (.ref hx) from hh];dsimp only;obtain⟨o,vs,e1,⟨_,e2⟩,e3⟩:=hc;have lt:=aN e1;have sz:(s.heap.push { cls:=Value.type "tuple",data:=Data.seq #[] }).objs.size=s.heap.objs.size+1:=dN _ _;rw[sz];have nx:hx≠s.heap.objs.size+1:=a6 (dI lt);have k1:∀b u,s.heap.get? b=some u->h1.get? b=some u:=λb u q=>by
  rw[<-hh1];exact aB _ (aB _ q)
 have new1:∃ob ws,h1.get? (s.heap.objs.size+1)=some ob/\ob.data=.fields ws/\2<ws.size/\ob.cls=.type "StopIteration":=by
  rw[<-hh1,<-sz];exact⟨_,_,aP _ rfl,rfl,by rw[jS];exact aZ (show 2<6 by decide) (d6 _ _),rfl⟩
 obtain⟨ob,ws,n1,n2,n3,n4⟩:=new1;rw[U2 (by simp[nx])];exists (Tx (runValue_entry u9 ?_));show wpAny _ _ (Bind.bind (field (Value.ref hx) 2) _) _ _ _;exists (UO (k1 _ _ e1) e2 e3 ?_);rw[U2 (show (Value.none==Value.none)=true from rfl)];refine wpAny_pure ⟨_,rfl,?_⟩;show wpAny _ _ (Bind.bind (setField (Value.ref (s.heap.objs.size+1)) 2 (Value.ref hx)) _) _ _ _;exists (UJ n1 n2 n3 (wpAny_throw ?_));have up:=bq (Obj.mapFields λz=>z.setIfInBounds 2 (Value.ref hx)) n1 (by obtain⟨c,d,da,sl⟩:=ob;cases n2;rfl);exists (wpAny_isInstance (T:="StopIteration") ⟨_,up,by obtain⟨c,d,da,sl⟩:=ob;cases n2;exact n4⟩ isSubtype_stop (wpAny_pure (hQ _ λb o hb q=>?_)));have ne:b≠s.heap.objs.size+1:=a6 (dI (aN q));exact jP _ (fM ne) (k1 b o q)
theorem cc.ex{P:Program}{w:World}{H:Hp}{h:Heap}{a:Addr}{o:HO}(x:cc P w H h a o):∃ob,h.get? a=some ob:=by
 cases o with
 | lst xs=>obtain⟨_,_,_,_,e⟩:=x;exact⟨_,e⟩
 | tup xs=>obtain⟨_,_,_,ob,e,_⟩:=x;exact⟨_,e⟩
 | dK kvs=>obtain⟨_,_,_,_,o,_,_,e,_⟩:=x;exact⟨_,e⟩
 | dT kvs=>obtain⟨_,_,_,_,o,_,_,e,_⟩:=x;exact⟨_,e⟩
 | set S n=>obtain⟨o,_,_,_,e,_⟩:=x;exact⟨_,e⟩
 | ins C dx fs=>obtain⟨_,_,_,e,_⟩:=x;exact⟨_,e⟩
 | own y=>exact x
 | xd fs=>obtain⟨_,⟨_,_,_,e,_⟩,_⟩:=x;exact⟨_,e⟩
 | rng lo hi=>obtain⟨_,_,_,e⟩:=x;exact⟨_,e⟩
 | frz ob u=>obtain⟨e,_⟩:=x;exact⟨_,e⟩
 | tbl ps=>exact⟨_,show h.get? a=some _ from x⟩
 | met f y=>exact⟨_,show h.get? a=some _ from x⟩
 | ext φ=>obtain⟨_,e,_⟩:=x;exact e
structure NT (B h:Heap) (H':Hp) (outer:List Env):Prop where
 old:∀ b o,h.get? b=some o->b∉lq outer->∃ o',B.get? b=some o'
 trk:∀ b u,H' b=some u->∃ o',B.get? b=some o'
def rG(P:Program)(w:World):Cp:=λouter H s E e s'=>∃(a C t:Addr) (H':Hp) (B:Heap) (dO:Option Addr),e=.ref a/\s'.os=s.os/\AllBare s'.gens/\Un (lq outer) [] H H' s.heap s'.heap/\p7 P w H' s'.heap ∧
 B.FlyingW outer a (.ref C) (.ref t) s'.heap/\NT B s.heap H' outer/\yi dO a s'.heap/\E (.ref C) dO H'
theorem ME{P:Program}{w:World}{X:Cx}:uZ (rG P w) X E0:=(by rintro _ _ _ _ _ _ _ ⟨_,_,_,_,_,_,_,_,_,_,_,_,_,_,h⟩;exact h.elim)
theorem pA {h base B : Heap} : ∀ {l : List Env}, h.FunFrames base l → (∀ b ∈ lq l, B.get? b = none) → h.FunFrames B l
 | [], _, _ => trivial
 | env :: r, ⟨hk, ⟨L, o, hf, hn, ho, hd⟩, hr⟩, hb => ⟨hk, ⟨L, o, hf, hb L (by unfold lq; rw [c6, hf]; exact aW), ho, hd⟩,
   pA hr fun b m => hb b (by unfold lq; rw [c6, hf]; exact aJ _ m)⟩
def MW(X:Cx)(E:XK):Prop:=∀(pins:List (Addr×Obj)) (Z:St) (H:Hp) (s:Shared) (h':Heap) (e C:Addr) (vs:ag),bc X pins Z H s->s.heap.MadeExcOf h' e (.ref C) vs->E (.ref C) none H->X.xe (.ref e) { s with heap:=h' }
theorem EK{P:Program}{w:World}{K:U9}{mg:Str->bt}{base:Heap}{N:List Str}{qual:Str}{scope:Scope}{f:Addr}{cd:Value}{A:Around}{outer:List Env}{s0:Shared}{H0:Hp}{E:XK}:
  MW (kE (rG P w) P w K mg base N qual scope f cd A outer s0 H0 E) E:=by
 intro pins Z H s h' e C vs I M hE;generalize hX:kE (rG P w) P w K mg base N qual scope f cd A outer s0 H0 E=X at I |-;have hst:X.stack=X.env::X.outer:=by rw[<-hX];rfl
 have hfr:X.env.frame=some X.env.locals:=by rw[<-hX];rfl
 have hxe:X.xe=λe s'=>wpAny (model X.prog X.w) X.A (leaving X.env e) (λ_ s''=>rG X.prog X.w X.outer X.H₀ X.s₀ E e s'') (λe' s''=>rG X.prog X.w X.outer X.H₀ X.s₀ E e' s'') s':=by rw[<-hX];rfl
 have hex:X.ex=[]:=by rw[<-hX];rfl
 have hfs:lq X.stack=X.env.locals::X.fs:=by rw[hst];unfold lq;rw[c6,hfr];rfl
 clear hX;rw[hxe];have hB:∀b o,s.heap.get? b=some o->b∉lq X.stack->(W.hideAll s.heap (lq X.stack)).get? b=some o:=λb o e1 e2=>kT _ e1 e2;refine i6 (fF.leave (dO:=none) (e:=e)) (He M) ?_;refine wpAny_leaves_madeW (base:=W.hideAll s.heap (lq X.stack)) (h:=s.heap) (outer:=X.outer) (L:=X.env.locals) (by rw[I.ok.frames,hst]) hfr (λb o e1=>lT _ e1)
  (pA (hst▸I.stack) λb m=>hU _ (hst▸m)) M λh2 t fl _ _ up ct=>?_
 have lt0:∀b o,X.s₀.heap.get? b=some o->b≠X.env.locals:=λb o e1=>a6 (aZ (aN e1) I.ok.above);have out:∀b o,X.s₀.heap.get? b=some o->b∉X.fs->b∉lq X.stack:=λb o e1 e2 z=>by
  rw[hfs] at z;exact(aL.mp z).elim (lt0 b o e1) e2
 have ne:∀b,b∉X.ex:=λb z=>by rw[hex] at z;cases z
 have stay:=fl.1;have slot:∀b o,s.heap.get? b=some o->b∈X.fs->∃sl,h2.get? b=some { o with slots:=sl }:=λb o e1 m=>by
  obtain⟨_,o',e2,nf⟩:=I.funs.mem m;rw[e1] at e2;cases e2;obtain⟨sl,q⟩:=up b o (M.keeps b o e1) nf;exact⟨sl,q⟩
 have u:=I.base;rw[hex] at u;refine⟨e,C,t,H,_,none,rfl,I.os,I.bare,⟨λb o e1 e2 e3 e4=>?_,λb o e1 e2 e3 e4=>?_,u.free,λb o e1 e2=>?_,u.tups,u.frzs,u.tbls⟩,λb o e1=>?_,fl,⟨λb o e1 e2=>?_,λb o e1=>?_⟩,ct,hE⟩
 .exact stay b o (hB b o (u.keep b o e1 e2 e3 e4) (out b o e1 e3))
 .obtain⟨sl,q⟩:=u.slot b o e1 e2 e3 e4;obtain⟨sl',q'⟩:=slot b _ q e3;exact⟨sl',q'⟩
 .obtain⟨o',q⟩:=u.there b o e1 e2;by_cases m:b∈X.fs
  .obtain⟨sl,q'⟩:=slot b o' q m;exact⟨_,q'⟩
  .exact⟨o',stay b o' (hB b o' q (out b o e1 m))⟩
 .refine(I.hok b o e1).stay (λc v hc q=>stay c v (hB c v q λz=>?_)) (λ_ q=>q) λ_ _ q=>q;have n:=I.stkFree c z;rcases hc with r | r
  .rw[r,e1] at n;cases n
  .rw[r] at n;cases n
 .obtain⟨o',q⟩:=u.there b o e1 (by simp);exact⟨o',hB b o' q (out b o e1 e2)⟩
 .obtain⟨ob,q⟩:=(I.hok b o e1).ex;refine⟨ob,hB b ob q λz=>?_⟩;have n:=I.stkFree b z;rw[e1] at n;cases n
theorem tF{h:Heap}{bmB:ag}{v:Value}(hv:bmB.contains v=true):∀{l:ag},OwnTail h bmB l->l.contains v=true
 | _,.base=>hv
 | _,.own _ _ _ t=>by rw[List.contains_cons,tF hv t,rH]
theorem uB{h h':Heap}(k:∀b o,h.get? b=some o->h'.get? b=some o){N:Addr}{m:Str->bt}(x:h.Ns N m):h'.Ns N m:=by
 obtain⟨o,es,ep,ho,r⟩:=x;exact⟨o,es,ep,k _ _ ho,r⟩
theorem nP{h h':Heap}(k:∀b o,h.get? b=some o->h'.get? b=some o){bmB:ag}:∀{l:ag},OwnTail h bmB l->OwnTail h' bmB l
 | _,.base=>.base
 | _,.own a b c t=>.own (k _ _ a) (uB k b) c (nP k t)
def Dg(C:Addr)(E:XK)(t:TA):TS:=λ_ Z H=>t Z H λvs H1=>vs.length<=sizeLine/\E (.ref C) none H1
def jv(dO:Option Addr)(C a:Addr):HO:=.ext λh=>(∃o,h.get? a=some o/\o.cls=.ref C)/\yi dO a h
abbrev NH (C a:Addr):HO:=jv none C a
def Cx.exc(X:Cx)(a:Addr):Cx:={ X with A:=X.A.mark (some (.ref a)),calm:=false,xe:=λ_ _=>False }
section
variable {X:Cx}{pins:List (Addr×Obj)}{Z:St}{H H':Hp}{s s':Shared}
theorem Cx.Ok.exc(ok:X.Ok)(a:Addr):(X.exc a).Ok:=
 ⟨ok.mod,ok.kind,ok.glob,ok.blt,ok.above,ok.inj,ok.has,ok.cab,(λz=>nomatch z),ok.frames,ok.stk,ok.exf,ok.bs,ok.bsz,ok.noex,ok.exfs,ok.funs,ok.frf⟩
theorem bc.exc(I:bc X pins Z H s)(a:Addr):bc (X.exc a) pins Z H s:=⟨I.ok.exc a,I.os,I.bare,I.base,I.loc,I.cell,I.free,I.freeC,I.pin,I.hok,I.len⟩
theorem bc.unexc{a:Addr}(I:bc (X.exc a) pins Z H s)(ok:X.Ok):bc X pins Z H s:=⟨ok,I.os,I.bare,I.base,I.loc,I.cell,I.free,I.freeC,I.pin,I.hok,I.len⟩
theorem UpToSlots.trans{h1 h2 h3:Heap}(a:h1.UpToSlots h2)(b:h2.UpToSlots h3):h1.UpToSlots h3:=λc o e nf=>by
 obtain⟨sl,e1⟩:=a c o e nf;obtain⟨sl',e2⟩:=b c _ e1 nf;exact⟨sl',e2⟩
theorem bc.land{dO:Option Addr}{B:Heap}{a C t:Addr}{h4:Heap}{E:XK}(I:bc X pins Z H s)(os:s'.os=s.os)(bare:AllBare s'.gens)(un:Un (lq X.stack) [] H H' s.heap s'.heap)(hok:p7 X.prog X.w H' s'.heap)(f1:B.FlyingW X.stack a (.ref C) (.ref t) s'.heap)
  (mO:NT B s.heap H' X.stack) (f4:B.FlyingW X.stack a (.ref C) (.ref t) h4) (up:s'.heap.UpToSlots h4) (ct:yi dO a h4):bc X pins Z (upd H' a (jv dO C a)) { s' with heap:=h4 }:=by
 have Bn:B.get? a=none:=f1.2.1;have ntr:∀b u,H' b=some u->b≠a:=λb u e z=>by
  obtain⟨o,q⟩:=mO.trk b u e;rw[z,Bn] at q;cases q
 have na:∀b o,s.heap.get? b=some o->b≠a:=λb o e z=>by
  subst z;by_cases m:b∈lq X.stack
  .obtain⟨_,o1,e1,nf⟩:=f4.2.2.1.mem m;obtain⟨oe,vs,_,_,_,e2,_,e3,_⟩:=f4.2.2.2;rw[e1] at e2;cases e2;exact nf vs e3
  .obtain⟨o',q⟩:=mO.old b o e m;rw[Bn] at q;cases q
 have fr:∀b o,s'.heap.get? b=some o->b∈lq X.stack->∃sl,h4.get? b=some { o with slots:=sl }:=λb o e m=>by
  obtain⟨_,o1,e1,nf⟩:=f1.2.2.1.mem m;rw[e] at e1;cases e1;exact up b o e nf
 have same:∀b o ob,B.get? b=some ob->s'.heap.get? b=some o->h4.get? b=some o:=λb o ob e e1=>by
  have e2:=f1.1 b ob e;rw[e1] at e2;cases e2;exact f4.1 b o e
 refine I.call' (s':={ s' with heap:=h4 }) (ch:=[]) os ⟨λb o e n hb _=>?_,λb o e n hb hx=>?_,λb o e n hx=>?_,λb o e hx=>?_,λb xs e=>?_,λb o u e=>?_,λb ps e=>?_⟩ (λb o e=>?_) bare (λb z=>nomatch z)
 .have e1:=un.keep b o e n hb (by simp);obtain⟨ob,q⟩:=mO.old b o e hb;exact same b o ob q e1
 .obtain⟨sl,e1⟩:=un.slot b o e n hb (by simp);obtain⟨sl',e2⟩:=fr b _ e1 hb;exact⟨sl',e2⟩
 .rw[aO (na b o e)];exact un.free b o e n (by simp)
 .obtain⟨o',e1⟩:=un.there b o e (by simp);by_cases m:b∈lq X.stack
  .obtain⟨sl,q⟩:=fr b o' e1 m;exact⟨_,q⟩
  .obtain⟨ob,q⟩:=mO.old b o e m;exact⟨_,f4.1 b ob q⟩
 .have e1:=un.tups b xs e;rw[aO (ntr b _ e1)];exact e1
 .have e1:=un.frzs b o u e;rw[aO (ntr b _ e1)];exact e1
 .obtain⟨more,e1⟩:=un.tbls b ps e;exact⟨more,by rw[aO (ntr b _ e1)];exact e1⟩
 .by_cases z:b=a
  .subst z;rw[aG] at e;cases e;obtain⟨oe,_,_,_,_,e2,⟨e3,_⟩,_⟩:=f4.2.2.2;refine⟨⟨⟨oe,e2,e3⟩,ct⟩,⟨oe,e2⟩,λh1 h2 ⟨⟨o,e5,e6⟩,⟨o',vs,e7,e8⟩⟩ k=>⟨⟨o,k o e5,e6⟩,⟨o',vs,k o' e7,e8⟩⟩⟩
  .rw[aO z] at e;refine(hok b o e).stay (λc v hc q=>?_) (λc q=>by rw[aO (ntr c _ q)];exact q) λc xs q=>by rw[aO (ntr c _ q)];exact q
   obtain⟨ob,q'⟩:∃ob,B.get? c=some ob:=by
    rcases hc with r | r
    .rw[r];exact mO.trk b o e
    .exact mO.trk c _ r
   exact same c v ob q' q
end
theorem sr{X:Cx}{pins:List (Addr×Obj)}{Z:St}{H:Hp}{s:Shared}{M:Model}{A:Around}{E:Value->Shared->Prop}{i:Nat}{n:Str}{pos:Pos}{Q:Unit->Shared->Prop}(I:bc X pins Z H s)(hN:X.N.Nodup)(hi:X.N[i]? = some n)(hx:X.env.scope.names.lookup n=some .local)
  (h:∀s',bc X pins (Z.set i none) H s'->Q () s'):wpAny M A (do bindName X.env n Value.none;unbindBehindTheSuite X.env n pos) Q E s:=by
 obtain⟨m,hn,hl⟩:=id I.loc;have hcls:(X.env.scope.kind==.class || (X.env.scope.kind==.module&&X.env.locals != X.env.globals))=false:=by rw[I.ok.kind];rfl
 have cne:=I.cne;refine wpAny_nameGoes_keeps hx hn hcls λh' v hn' hs=>?_;obtain⟨oL,_,_,hoL,_⟩:=id hn;refine h _ ⟨I.ok,I.os,I.bare,⟨λb o e n hb hx=>?_,λb o e n hb hx=>?_,I.base.free,λb o e hx=>?_,I.base.tups,I.base.frzs,I.base.tbls⟩,⟨_,hn',λj y v' e1 e2 e3=>?_⟩,λy c e=>?_,I.free,I.freeC,λp hp=>?_,λb ob e=>?_,by simpa using I.len⟩
 .exact(hs.2 b (a6 (aZ (aN e) I.ok.above))).trans (I.base.keep b o e n hb hx)
 .obtain⟨sl,e1⟩:=I.base.slot b o e n hb hx;exact⟨sl,(hs.2 b (a6 (aZ (aN e) I.ok.above))).trans e1⟩
 .obtain⟨o',e1⟩:=I.base.there b o e hx;exact⟨o',(hs.2 b (a6 (aZ (aN e) I.ok.above))).trans e1⟩
 .have hj:j≠i:=λz=>by
   subst z;have:j<Z.length:=by rw[I.len];exact(aH.mp e1).1
   rw[jM this] at e2;cases e2
  rw[jy (fM hj)] at e2;obtain⟨u',r',q⟩:=hl j y v' e1 e2 e3;refine⟨u',r',?_⟩;rcases q with ⟨k,e⟩ | ⟨k,c,e,z⟩
  .refine .inl ⟨k,?_⟩;have:y≠n:=λe=>hj (uC hN e1 (e▸hi));simp[this,e]
  .exact .inr ⟨k,c,e,z.sameBut hs (cne y c e)⟩
 .obtain⟨w',z⟩:=I.cell y c e;exact⟨w',z.sameBut hs (cne y c e)⟩
 .obtain⟨e,n,ne,nf,d⟩:=I.pin p hp;exact⟨(hs.2 p.1 ne).trans e,n,ne,nf,d⟩
 .refine(I.hok b ob e).stay (λc w' hc q=>(hs.2 c ?_).trans q) (λ_ q=>q) λ_ _ q=>q;rintro rfl;have hfree:=I.free;rcases hc with rfl | hc
  .rw[hfree] at e;cases e
  .rw[hfree] at hc;cases hc
def Mp(sp:Sp)(K:U9)(c:Value)(i:Nat)(t:TA)(ts:Addr->TS):TS:=λD Z H=>t Z H λvs H1=>sp vs H1 (λ_ H2=>D.nx Z H2) λcls dO H2=>
 ∃C,cls=.ref C/\W.exmOne K (.ref C) c=some true/\∀a,H2 a=none->ts a { nx:=λZ' H'=>D.nx (Z'.set i none) H',rt:=D.rt,bk:=λZ' H'=>D.bk (Z'.set i none) H',ct:=λZ' H'=>D.ct (Z'.set i none) H' } (Z.set i (some (.ref a))) (upd H2 a (jv dO C a))
section
variable {X:Cx}
def Nc(X:Cx)(pins:List (Addr×Obj))(Z:St)(R:It->Hp->Prop)(itv:Value)(s2:Shared):Prop:=
 ∃(it:Addr) (n:Nat) (H':Hp),itv=.ref it/\bc X pins Z H' s2/\IsRangeIter s2.heap it (0+((0:Nat):Int)*1) ((n:Int)-((0:Nat):Int)) 1/\ke X pins H' it/\R (B3 0 n) H'
theorem Bj{pins:List (Addr×Obj)}{Z:St}{H:Hp}{s:Shared}{R:It->Hp->Prop}{E:Value->Shared->Prop}{hi:Int}{t u v:Tok}{tk:Nat}(I:bc X pins Z H s)(h3:-(2 ^ 62)<=hi)(h4:hi<2 ^ 62)
  (q:R (B3 0 (hi - 0).toNat) H):wpAny (model X.prog X.w) X.A (pyIter (.ref s.heap.objs.size)) (Nc X pins Z R) E { s with heap:=s.heap.push { cls:=.type "range",data:=.fields #[.int 0 t,.int hi u,.int 1 v] },toks:=tk }:=by
 refine wpAny_pyIter_range (IsRange.new ..) (small_one (by lia) (by lia) h3 h4) ?_;have I1:bc X pins Z H { s with heap:=s.heap.push { cls:=.type "range",data:=.fields #[.int 0 t,.int hi u,.int 1 v] },toks:=tk }:=I.kept λb o e=>aB _ e;refine⟨(s.heap.push { cls:=.type "range",data:=.fields #[.int 0 t,.int hi u,.int 1 v] }).objs.size,(hi - 0).toNat,H,rfl,
  I1.kept (t':=tk) λb o e=>aB _ e,?_,I1.fpOk (aI _) (I1.hok.fresh (aI _)),q⟩
 have e1:(0:Int)+((0:Nat):Int)*1=0:=by simp
 have e2:(((hi - 0).toNat:Nat):Int)-((0:Nat):Int)=Builtin.Range.rangeSize 0 hi 1:=by rw[rangeSize_one];split<;>lia
 show IsRangeIter _ _ ((0:Int)+((0:Nat):Int)*1) ((((hi - 0).toNat:Nat):Int)-((0:Nat):Int)) 1;rw[e1,e2];exact aP _ rfl
theorem Bz {a:Expr} {ta:TA} {p pos:Pos} (hg:Gl X "range") (hm:X.mg "range"=none) (ha:PA X [a] ta) (hs:starEach [a] X.env=[(false,eval a X.env)]) (pins:List (Addr×Obj)) (s:Shared) (Z:St) (H:Hp) (R:It->Hp->Prop) (I:bc X pins Z H s) (h:v8 ta Z H R) :
  wpAny (model X.prog X.w) X.A (eval (.Call (.Name "range" p) [a] [] pos) X.env) (λv s1=>wpAny (model X.prog X.w) X.A (pyIter v) (Nc X pins Z R) X.xe s1) X.xe s:=by
 refine Call_ (jE I hg hm boot_range (bu (dw (ha pos pins s Z H _ I h) λus s1 z'=>?_) hs rfl));obtain⟨vs,H1,I1,r1,q1⟩:=z';obtain⟨j,e,q1,q2,q⟩:=q1;subst e;cases r1 with
 | cons r rr=>
  cases rr;obtain⟨t,rfl⟩:=r;exact call_range_1 (Bj I1 q1 q2 (by simpa using q))
def Di(a:Addr)(ta:TA)(g:TG)(tb:TS):TS:=λD Z H=>rK (v8 ta) g tb { D with nx:=λZ H=>(∃C dO,H a=some (jv dO C a))/\D.nx Z H } Z H
end
structure pF (a:Addr) (k:Nat) (A:Around):Prop where
 hd:A.handled=some (.ref a)
 dp:A.depth+3 * k+5<recursionLimit
 un:A.units+16 * k+200<cLine
theorem pF.deeper{a:Addr}{k:Nat}{A:Around}(r:pF a (k+1) A)(env:Env):pF a k (A.deeper env):=
 ⟨r.hd,by have:=r.dp;show A.depth+1+3*k+5<_;lia,by have:=r.un;show A.units+3+16*k+200<_;lia⟩
theorem pF.of{a:Addr}{k:Nat}{A:Around}(r:fj k A):pF a k (A.mark (some (.ref a))):=⟨rfl,r.dp,r.un⟩
structure yg (P:Program) (w:World) (K:U9) (mg:Str->bt) (base:Heap) (a:Addr) (k:Nat) (f:Addr) (fd:FuncData) (ps:List Str) (sp:Sp):Prop where
 len:∀ vs H Q E,sp vs H Q E->vs.length=ps.length
 run:∀ (A:Around) (outer:List Env) (s:Shared) (H:Hp) (args:Args) (us:ag) (vs:List V) (Q:VK) (E:XK),pF a k A->sT P w K mg base A outer s H->BindsTo s fd args (ps.zip us)->cH vs us->sp vs H Q E →
  codeAny (model P w) A (.call (.ref f) args) (CR we outer P w H s Q E) s
def Mh(P:Program)(w:World)(K:U9)(mg:Str->bt)(base:Heap)(N:List Str)(qual:Str)(scope:Scope)(f:Addr)(cd:Value)(A:Around)(outer:List Env)(s:Shared)(H:Hp)(E:XK):Cx:=
 { kE we P w K mg base N qual scope f cd A outer s H E with calm:=false,xe:=λ_ _=>False }
theorem Kf{P:Program}{w:World}{K:U9}{mg:Str->bt}{base:Heap}{a:Addr}{k:Nat}{f:Addr}{name qual:Str}{params:Arguments}{body:List Stmt}{scope:Scope}{dV kV doc pm cdv ct oc:Value}{an od:Option Addr}
  {osl:Array (bt)} {N ps:List Str} {sp:Sp} (lk:K.lookup f=some ⟨oc,od,.func (W.fnOf name qual params body scope dV kV doc pm an cdv ct),osl⟩) (hcd:W.codeIn K cdv qual=true) (S:be N ps scope)
  (len:∀vs H Q E,sp vs H Q E->vs.length=ps.length)
  (hbody:∀(A:Around) (outer:List Env) (s:Shared) (H:Hp) (vs:List V) (Q:VK) (E:XK),pF a k (A.deeper (envOfC qual scope s.heap.objs.size f cdv))->sp vs H Q E →
   ∃t,GO (Mh P w K mg base N qual scope f cdv A outer s H E) body t/\t { nx:=λ_ H'=>Q .non H',rt:=Q } (start N vs) H) :
  yg P w K mg base a (k+1) f (W.fnOf name qual params body scope dV kV doc pm an cdv ct) ps sp:=by
 refine⟨len,λA outer s H args us vs Q E hr e0 hb r hsp=>?_⟩;have hl:=len _ _ _ _ hsp;have KX:K.In s.heap:=e0.mod.kin.keeps λb o e=>(e0.bs b o e).1;have lim:s.heap.NoLimit:=e0.mod.nolimit.keeps λb o e=>(e0.bs b o e).1;have hkind:∀y∈ps.zip us,scope.names.lookup y.1=some .local\/(scope.names.lookup y.1=some .cell/\((cellsFrom (s.heap.objs.size+1) scope.names []).lookup y.1).isSome=true):=λ⟨n,v⟩ hy=>by
  rcases S.par n (kI hy).1 with q | q
  .exact .inl q
  .exact .inr ⟨q,jI _ _ _ (.inl q)⟩
 refine codeAny_call_function (by have:=hr.dp;lia) (KX _ _ lk) rfl S.co S.gen rfl (W.codeRec_of KX hcd) (hb _ _ _ _ ?_);refine wpAny_newFunctionEnv_cells S.kind hkind λenv he s1 x=>?_;subst he;refine⟨lim.keeps x.toInCall.keep,codeAny_func ?_⟩;obtain⟨t,ht,hq⟩:=hbody A outer s H vs Q E (hr.deeper _) hsp;have e1:sT P w K mg base { A with handled:=none } outer s H:=⟨e0.frames,e0.mod,e0.bs,e0.bsz,e0.funs,e0.frf,e0.hok,e0.bare⟩
 have I0:=vZ (CX:=we) (E:=E) (f:=f) (qual:=qual) (cd:=cdv) S (A:={ A with handled:=none }) rfl e1 hl r x;have ok0:=I0.ok;have I:bc (Mh P w K mg base N qual scope f cdv A outer s H E) [] (start N vs) H s1:=
  ⟨⟨ok0.mod,ok0.kind,ok0.glob,ok0.blt,ok0.above,ok0.inj,ok0.has,ok0.cab,(λz=>nomatch z),Around.frames_deeper e0.frames,ok0.stk,ok0.exf,ok0.bs,ok0.bsz,ok0.noex,ok0.exfs,ok0.funs,ok0.frf⟩,I0.os,I0.bare,I0.base,I0.loc,I0.cell,I0.free,I0.freeC,I0.pin,I0.hok,I0.len⟩
 refine wpAny_mono (ht [] s1 (start N vs) H _ I hq) (λfl s' hs=>?_) λe s' hs=>False.elim hs;have fin:∀{Z':St} {H':Hp} {v:V} {u:Value},bc (Mh P w K mg base N qual scope f cdv A outer s H E) [] Z' H' s'->RelV v u->Q v H'->CE outer P w H s Q u s':=
  fun {Z' H' v u} J rv q=>⟨v,H',J.os,J.bare,J.base,J.hok,rv,q⟩
 cases fl with
 | ret u=>
  obtain⟨v,Z',H',J,rv,q⟩:=hs;exact fin J rv q
 | next=>
  obtain⟨Z',H',J,q⟩:=hs;exact fin (v:=V.non) (u:=Value.none) J rfl q
 | brk=>
  obtain⟨_,_,_,q⟩:=hs;exact False.elim q
 | cont=>
  obtain⟨_,_,_,q⟩:=hs;exact False.elim q
theorem E4{X:Cx}{a:Addr}{k:Nat}{f:Addr}{fd:FuncData}{ps:List Str}{sp:Sp}{x:Str}{e:Expr}{es:lc}{t:TA}{p pos:Pos}(F:yg X.prog X.w X.K X.mg X.base a k f fd ps sp)(hr:pF a k X.A)(hg:Gl X x)(hm:X.mg x=some (.ref f))(hk:W.keepIn X.K (.ref f)=true)(hb:Binds X.K fd ps [])
  (ha:PA X (e::es) t) (hdb:(x==("__debug__":Str))=false:=by decide) (he:starEach (e::es) X.env=(false,eval e X.env)::starEach es X.env:=by rfl) (hpl:(backTo pos (starEach es X.env)).any (·.1)=false:=by rfl) :
  PE X (.Call (.Name x p) (e::es) [] pos) (tH sp [] E0 t):=by
 intro pins s Z H Q I h;refine Tl (jh I hg hm ?_ hdb);refine ic (h₀:=X.base) I.ok.mod.kin hk (dw (ha pos pins s Z H _ I h) λus s1 ⟨vs,H1,I1,r,q⟩=>⟨I1.kIn,?_⟩) he hpl;have r2:cH (vs++[]) (us++[]):=r.append .nil;have hl:(us++[]).length=ps.length:=by rw[<-r2.length];exact F.len _ _ _ _ q
 refine Ti (Tj (F.run X.A X.stack s1 H1 ⟨us,[]⟩ (us++[]) (vs++[]) Q E0 hr I1.env0 (hb s1 us I1.kIn hl) r2 q) λr s' hq=>?_);cases r with
 | error e=>exact False.elim hq
 | ok fl=>
  cases fl with
  | ret u=>exact I1.after hq
  | next=>exact False.elim hq
  | brk=>exact False.elim hq
  | cont=>exact False.elim hq
theorem C3{prog:Program}{w:World}{A:Around}{E:Value->Shared->Prop}{s:Shared}{K:U9}{a C N:Addr}{o:Obj}{bs bm bmB:ag}{nm q:Str}{hdct:Bool}{sn:List Str}{sub:ag}{ab:Bool}{col:Option Bool}{dd:Option Addr}{k0 k1 k2 k3 k5:bt}{B newId:String}{Q:bt->Shared->Prop}
  (X:K.In s.heap) (I:W.InstAt s.heap a o C none) (hga:W.findIn K (.ref C) "__getattribute__"=some (some (.builtin "BaseException.__getattribute__"))) (hgt:W.findIn K (.ref C) "__getattr__"=some none)
  (hf:W.findObj K C none "__class__"=some (.bind (.builtin "getset_descriptor.__get__") (.builtin "object.__class__"))) (hm:W.mroIn K C (.type "object")=some true) (FB:ExcAttrBase B bmB)
  (hC:s.heap.get? C=some (excClassObj nm q C N bs bm hdct sn sub ab col dd k0 k1 k2 k3 k5 newId)) (T:OwnTailQ s.heap bmB bm) (hq:Q (some (.ref C)) { s with toks:=s.toks+1 }):wpAny (model prog w) A (getAttr? (.ref a) "__class__") Q E s:=by
 obtain⟨h,g,d,t,os⟩:=s;unfold getAttr?;exists (wpAny_mkText ?_);unfold getAttrBy?;exists (UF ?_);unfold getAttrBy;refine Tx (wpAny_bind (cA (dH I) (wpAny_bind (cA (dX X hga) ?_))));refine UP (by rfl) ?_;unfold getAttrByItsOwn hookBefore;exists (wpAny_ite_true (by rfl) (cA (dX X hgt) (wpAny_bind (UF (Tx ?_)))));unfold callGetattribute boundAndCalled;refine UP (by rfl) (wpAny_bind (wpAny_of_eq (FB.ga.bind (Value.ref a)) (Ti (codeAny_call_builtin FB.ga.plain oN (UQ FB hC T I.at_ I.cls ?_)))));unfold Builtin.«object.__getattribute__»;refine wpAny_bind ?_;unfold slotArgs;refine UP (by rfl) (UP (by rfl) (wpAny_pure ?_));show wpAny _ _ (Bind.bind (Builtin.ObjectAttr.attrName (Value.str (Str.ofString "__class__") _)) _) _ _ _;refine wpAny_bind ?_;unfold Builtin.ObjectAttr.attrName;refine wpAny_pure ?_;exists (cA (dH I) (wpAny_bind (cA (lU X I hf) ?_)));unfold Builtin.ObjectAttr.bindTo;exists (Tx (Ti (W.class_get X I hm ?_)));refine wpAny_pure ?_;refine lw rfl ?_;exact wpAny_pure hq
structure GL (K:U9) (C:Addr):Prop where
 ga:W.findIn K (.ref C) "__getattribute__"=some (some (.builtin "BaseException.__getattribute__"))
 gt:W.findIn K (.ref C) "__getattr__"=some none
 fo:W.findObj K C none "__class__"=some (.bind (.builtin "getset_descriptor.__get__") (.builtin "object.__class__"))
 mro:W.mroIn K C (.type "object")=some true
 lk:∃ c dd cd sl,K.lookup C=some ⟨c,dd,.cls cd,sl⟩
 own:∃ B bmB,ExcAttrBase B bmB/\∀ h:Heap,K.In h->∃ nm q N bs bm hdct sn sub ab col dd k0 k1 k2 k3 k5 newId,h.get? C=some (excClassObj nm q C N bs bm hdct sn sub ab col dd k0 k1 k2 k3 k5 newId)/\OwnTailQ h bmB bm
def Kx(C a:Addr)(h:Heap):Prop:=(∃o,h.get? a=some o/\o.cls=.ref C)/\Ni a h
theorem Kx.inst{C a:Addr}{h:Heap}(x:Kx C a h):∃o,W.InstAt h a o C none:=by
 obtain⟨⟨o,e1,e2⟩,o',vs,e3,⟨e4,e5⟩,_⟩:=x;rw[e1] at e3;cases e3;exact⟨o,e1,e2,by unfold W.notCls;rw[e5],by rw[e4];trivial⟩
theorem FN{K:U9}{C a:Addr}(k:GL K C):W.KitX K (.ref a) (.ref C) (Kx C a):=by
 obtain⟨c,dd,cd,sl,lk⟩:=k.lk;refine⟨λM h _ x=>?_,λM h X _ A Q E s kp hq=>?_,λh tp dd' its n sl' X htp=>?_,fun {prog w A E Q s} X x hq=>?_⟩
 .obtain⟨o,I⟩:=x.inst;exact dH I
 .exact wpAny_bind (wpAny_loadPart (kp C _ (X C _ lk)) (wpAny_pure hq))
 .refine mD.mpr λq=>?_;have e:=Value.ref.inj (beq_iff_eq.mp q);subst e;rw[X C _ lk] at htp;cases htp
 .obtain⟨o,I⟩:=x.inst;obtain⟨B,bmB,FB,ow⟩:=k.own;obtain⟨nm,q,N,bs,bm,hdct,sn,sub,ab,col,dd,k0,k1,k2,k3,k5,newId,hC,T⟩:=ow s.heap X;exact C3 X I k.ga k.gt k.fo k.mro FB hC T hq
section
variable {K:U9}{C D R:Addr}{dd:Option Addr}{cd:ClassData}{sl:Array (bt)}{b:Bool}
theorem B0 (lk:K.lookup D=some ⟨.type "type",dd,.cls cd,sl⟩) (m:W.mroIn K C (.ref D)=some b):W.kitCls K (.ref C) (.ref D)=some b:=by
 have e1:W.clsIn K D=some cd:=by unfold W.clsIn;rw[lk]
 have e2:W.typeIn K (.ref D)=some (.type "type"):=by show Option.map (λx=>x.cls) (List.lookup D K)=_;rw[lk];rfl
 show (if ((W.clsIn K D).isSome&&W.typeIn K (Value.ref D)==some (Value.type "type"))=true then W.subIn K (Value.ref C) (Value.ref D) else none)=some b;rw[e1,e2];rw[U2 (by simp)];exact m
theorem iF (ne:(Value.ref C==Value.ref D)=false) (lk:K.lookup D=some ⟨.type "type",dd,.cls cd,sl⟩) (m:W.mroIn K C (.ref D)=some b):W.kitOne K (.ref C) (.ref D)=some b:=by
 unfold W.kitOne;rw[U1 (by rw[ne];exact au)];exact B0 lk m
theorem FQ:W.kitOne K (.ref C) (.ref C)=some true:=by
 unfold W.kitOne;rw[U2 (beq_self_eq_true _)]
theorem FP{T:String}(mt:W.kitMeta T=true)(m:W.mroIn K C (.type T)=some b):W.kitOne K (.ref C) (.type T)=some b:=by
 unfold W.kitOne W.kitCls;rw[U1 (by exact λz=>nomatch (beq_iff_eq.mp z))];simp only[mt,U7];exact m
theorem BW (lk:K.lookup R=some ⟨.type "type",dd,.cls cd,sl⟩) (m:W.mroIn K C (.ref R)=some b) (e:W.mroIn K R (.type "BaseException")=some true):W.exmOne K (.ref C) (.ref R)=some b:=by
 unfold W.exmOne;rw[U2 (by show (W.mroIn K R (.type "BaseException")==some true)=true;rw[e];rfl)];exact B0 lk m
theorem find_none {name:Str} {a g:Value} (lk:K.lookup C=some ⟨.type "type",dd,.cls cd,sl⟩) (h1:W.findIn K (.ref C) name=some (some a)) (h2:W.specialIn K a "__get__"=some (some g)) (h3:W.takesIn K a=some true):W.findObj K C none name=some (.bind g a):=by
 have e1:W.clsIn K C=some cd:=by unfold W.clsIn;rw[lk]
 unfold W.findObj;simp only[e1,h1,h2,h3,Option.bind_some]
end
def strKeys(es:Array DictEntry):Bool:=es.toList.all λe=>match e.key with | .str _ _=>true | _=>false
theorem pX{K:U9}{N:Addr}{c:Value}{d:Option Addr}{es:Array DictEntry}{ep:Nat}{sl:Array (bt)}(lk:K.lookup N=some ⟨c,d,.dict es ep,sl⟩)(h:strKeys es=true):W.nsOkIn K N=true:=by
 unfold W.nsOkIn;rw[lk];unfold strKeys at h;rw[Array.all_toList] at h;exact h
theorem EO {P:Str->Prop} (h1:P "__init__") (h2:P "__getattribute__") (h3:P "__getattr__") (h4:P "args"):∀n∈quietNames,P n:=λn hn=>by
 unfold quietNames at hn;simp only[aL,cK,or_false] at hn;rcases hn with rfl | rfl | rfl | rfl<;>assumption
theorem vb{K:U9}{C R N NR:Addr}{nm q x:Str}{bs bmB:ag}{hdct:Bool}{sn:List Str}{sub:ag}{ab:Bool}{col:Option Bool}{dd dR:Option Addr}{k0 k1 k2 k3 k5:bt}{newId B:String}{cR:Value}{cdR:ClassData}{slR:Array (bt)}{mg:Str->bt}{base:Heap}
  (KX:K.In base) (G:base.Ns mainGlobals mg) (e0:W.nsIn K mainGlobals x=some (some (.ref C))) (lkC:K.lookup C=some (excClassObj nm q C N bs (.ref R::bmB) hdct sn sub ab col dd k0 k1 k2 k3 k5 newId)) (lkR:K.lookup R=some ⟨cR,dR,.cls cdR,slR⟩)
  (nC:W.nsOkIn K N=true) (iC:W.nsIn K N "__init__"=some none) (eR:cdR.ns=NR) (nR:W.nsOkIn K NR=true) (r1:W.nsIn K NR "__init__"=some none) (r2:W.nsIn K NR "__getattribute__"=some none) (r3:W.nsIn K NR "__getattr__"=some none) (r4:W.nsIn K NR "args"=some none)
  (FB:ExcAttrBase B bmB) (ga:W.findIn K (.ref C) "__getattribute__"=some (some (.builtin "BaseException.__getattribute__"))) (gt:W.findIn K (.ref C) "__getattr__"=some none) (gc:W.findIn K (.ref C) "__class__"=some (some (.builtin "object.__class__")))
  (sp:W.specialIn K (.builtin "object.__class__") "__get__"=some (some (.builtin "getset_descriptor.__get__"))) (tk:W.takesIn K (.builtin "object.__class__")=some true) (mr:W.mroIn K C (.type "object")=some true):OwnCls x C bmB newId mg base/\GL K C:=by
 subst eR;refine⟨⟨bY KX G e0,?_⟩,⟨ga,gt,find_none lkC gc sp tk,mr,⟨_,_,_,_,lkC⟩,B,bmB,FB,λh X=>?_⟩⟩
 .exact⟨_,N,nm,q,bs,hdct,sn,sub,ab,col,dd,k0,k1,k2,k3,k5,_,KX _ _ lkC,fT (eI KX nC),bh KX nC iC,
   .own (KX _ _ lkR) (fT (eI KX nR)) (bh KX nR r1) .base⟩
 .exact⟨nm,q,N,bs,_,hdct,sn,sub,ab,col,dd,k0,k1,k2,k3,k5,newId,X _ _ lkC,.own (X _ _ lkR) (fT (eI X nR))
   (EO (bh X nR r1) (bh X nR r2) (bh X nR r3) (bh X nR r4)) .base⟩
structure uq (P:Program) (w:World) (K:U9) (mg:Str->bt) (base:Heap) (k:Nat) (x:Str) (st:Stmt) (ps:List Str) (sp:Sp):Prop where
 ex:∃ f fd,wc K x x st f fd/\mg x=some (.ref f)/\Binds K fd ps []/\nw P w K mg base (rG P w) k f fd ps sp
structure IV (P:Program) (w:World) (K:U9) (mg:Str->bt) (base:Heap) (k:Nat) (x:Str) (st:Stmt) (ps:List Str) (sp:Addr->Sp):Prop where
 ex:∃ f fd,wc K x x st f fd/\mg x=some (.ref f)/\Binds K fd ps []/\∀ a,yg P w K mg base a k f fd ps (sp a)
section
variable {P:Program}{w:World}{K:U9}{mg:Str->bt}{base:Heap}{k:Nat}{x:Str}{st:Stmt}{ps:List Str}{sp:Sp}{Z:St}{H:Hp}
theorem Fn.mkX(E:Fn K mg x st ps)(h:∀f fd,wc K x x st f fd->nw P w K mg base (rG P w) k f fd ps sp):uq P w K mg base k x st ps sp:=by
 obtain⟨f,fd,F,m,b⟩:=E.ex;exact⟨f,fd,F,m,b,h f fd F⟩
theorem Fn.mkH{sp:Addr->Sp}(E:Fn K mg x st ps)(h:∀f fd,wc K x x st f fd->∀a,yg P w K mg base a k f fd ps (sp a)):IV P w K mg base k x st ps sp:=by
 obtain⟨f,fd,F,m,b⟩:=E.ex;exact⟨f,fd,F,m,b,h f fd F⟩
theorem wc.okX{qual:Str}{f:Addr}{fd:FuncData}{N:List Str}(F:wc K x qual st f fd)(S:be N ps (bB st))(len:∀vs H Q E,sp vs H Q E->vs.length=ps.length)
  (hbody:∀(cdv:Value) (A:Around) (outer:List Env) (s:Shared) (H:Hp) (vs:List V) (Q:VK) (E:XK),fj k (A.deeper (envOfC qual (bB st) s.heap.objs.size f cdv))->sp vs H Q E →
   ∃(Z:St) (t:TS),start N vs=Z/\GO (kE (rG P w) P w K mg base N qual (bB st) f cdv A outer s H E) (iG st) t/\t { nx:=λ_ H'=>Q .non H',rt:=Q } Z H):nw P w K mg base (rG P w) (k+1) f fd ps sp:=by
 obtain⟨oc,od,kV,doc,pm,an,cdv,ct,osl,rfl,lk,hcd⟩:=F.ex;refine JL lk hcd S len λA outer s H vs Q E hr hsp=>?_;obtain⟨Z,t,e,h,q⟩:=hbody cdv A outer s H vs Q E hr hsp;exact⟨t,h,by rw[e];exact q⟩
theorem wc.okH{a:Addr}{qual:Str}{f:Addr}{fd:FuncData}{N:List Str}(F:wc K x qual st f fd)(S:be N ps (bB st))(len:∀vs H Q E,sp vs H Q E->vs.length=ps.length)
  (hbody:∀(cdv:Value) (A:Around) (outer:List Env) (s:Shared) (H:Hp) (vs:List V) (Q:VK) (E:XK),pF a k (A.deeper (envOfC qual (bB st) s.heap.objs.size f cdv))->sp vs H Q E →
   ∃(Z:St) (t:TS),start N vs=Z/\GO (Mh P w K mg base N qual (bB st) f cdv A outer s H E) (iG st) t/\t { nx:=λ_ H'=>Q .non H',rt:=Q } Z H):yg P w K mg base a (k+1) f fd ps sp:=by
 obtain⟨oc,od,kV,doc,pm,an,cdv,ct,osl,rfl,lk,hcd⟩:=F.ex;refine Kf lk hcd S len λA outer s H vs Q E hr hsp=>?_;obtain⟨Z,t,e,h,q⟩:=hbody cdv A outer s H vs Q E hr hsp;exact⟨t,h,by rw[e];exact q⟩
theorem AN{C:Addr}{E:XK}{t:TA}{D:Ends}:Dg C E t D Z H=t Z H λvs H1=>vs.length<=sizeLine/\E (.ref C) none H1:=rfl
theorem IX{sp:Sp}{K:U9}{c:Value}{i:Nat}{t:TA}{ts:Addr->TS}{D:Ends}:Mp sp K c i t ts D Z H=t Z H λvs H1=>sp vs H1 (λ_ H2=>D.nx Z H2) λcls dO H2=>
 ∃C,cls=.ref C/\W.exmOne K (.ref C) c=some true/\∀a,H2 a=none->ts a { nx:=λZ' H'=>D.nx (Z'.set i none) H',rt:=D.rt,bk:=λZ' H'=>D.bk (Z'.set i none) H',ct:=λZ' H'=>D.ct (Z'.set i none) H' } (Z.set i (some (.ref a))) (upd H2 a (jv dO C a)):=rfl
theorem DT{a:Addr}{ta:TA}{g:TG}{tb:TS}{D:Ends}:Di a ta g tb D Z H=rK (v8 ta) g tb { D with nx:=λZ H=>(∃C dO,H a=some (jv dO C a))/\D.nx Z H } Z H:=rfl
end
theorem sP:bootBuiltins "ValueError"=some (.type "ValueError"):=by symm
structure OB (K:U9) (C:Addr) (ds:ld) (due:Nat):Prop where
 ek:GL K C
 kit:∀ j d,ds[j]? = some d->W.kitOne K (.ref C) (.ref d)=some (decide (j=due))
 val:W.kitOne K (.ref C) (.type "ValueError")=some true
def Lx:V->Option Int->Option Int->Hp->VK->Prop:=λx lo hi H Q=>∃z,x=.str z/\z.length<=sizeLine/\Q (.str (Txt.slice z lo hi)) H
section
variable {X:Cx}
theorem Jm:NQ X Lx:=by
 intro pins s Z H x v vl vu lo hi sl Q I rx hs pl pu h;obtain⟨z,rfl,hz,q⟩:=h;obtain⟨t,rfl⟩:=rx;have fin:∀t' k,EP X pins Z Q (.str (Txt.slice z lo hi) t') { s with toks:=k }:=λt' k=>⟨.str _,H,I.tok k,⟨t',rfl⟩,q⟩
 refine⟨"str",_,F.slot_str_getitem.lookup,Tn _ _ _,?_⟩;cases pl with
 | none=>
  cases pu with
  | none=>exact wpAny_getItem_str_slice (l:=none) (u:=none) (st:=none) hs rfl (UR ⟨bN (nh z _ _) hz,fin⟩)
  | int j u=>exact wpAny_getItem_str_slice (l:=none) (u:=some (j,u)) (st:=none) hs rfl (UR ⟨bN (nh z _ _) hz,fin⟩)
 | int i w=>
  cases pu with
  | none=>exact wpAny_getItem_str_slice (l:=some (i,w)) (u:=none) (st:=none) hs rfl (UR ⟨bN (nh z _ _) hz,fin⟩)
  | int j u=>exact wpAny_getItem_str_slice (l:=some (i,w)) (u:=some (j,u)) (st:=none) hs rfl (UR ⟨bN (nh z _ _) hz,fin⟩)
theorem LL{z:Str}{lo hi:Option Int}{H:Hp}{Q:VK}:Lx (.str z) lo hi H Q=(z.length<=sizeLine/\Q (.str (Txt.slice z lo hi)) H):=
 propext ⟨(by rintro ⟨_,e,h⟩;cases e;exact h),λh=>⟨z,rfl,h⟩⟩
end
end L2
namespace Rm
open PySem L2
theorem fresh{H:Hp}{p:Addr}(o:HO)(h:H p=none):bJ H (upd H p o)/\upd H p o p=some o:=⟨(bJ.refl H).new h,aG⟩
def Fr(A B:Bool->Addr)(H H':Hp):Prop:=∀b o,(∀u,b≠A u/\b≠B u)->H b=some o->H' b=some o
theorem Fr.refl(A B:Bool->Addr)(H:Hp):Fr A B H H:=λ_ _ _ h=>h
theorem Fr.trans{A B:Bool->Addr}{H H1 H2:Hp}(a:Fr A B H H1)(b:Fr A B H1 H2):Fr A B H H2:=λc o n h=>b c o n (a c o n h)
theorem Fr.new{A B:Bool->Addr}{H H':Hp}{t:Addr}{o:HO}(a:Fr A B H H')(n:H' t=none):Fr A B H (upd H' t o):=λc u m h=>by
 have:=a c u m h;rw[aO (bI this n)];exact this
theorem Fr.updA{A B:Bool->Addr}{H H':Hp}{o:HO}(a:Fr A B H H')(u:Bool):Fr A B H (upd H' (A u) o):=λc v m h=>by rw[aO (m u).1];exact a c v m h
theorem Fr.updB{A B:Bool->Addr}{H H':Hp}{o:HO}(a:Fr A B H H')(u:Bool):Fr A B H (upd H' (B u) o):=λc v m h=>by rw[aO (m u).2];exact a c v m h
theorem Fr.same{A B:Bool->Addr}{H H':Hp}(s:bJ H H'):Fr A B H H':=λc v _ h=>s c v h
structure GS (H:Hp) (oe fd:Addr) (A B:Bool->Addr) (st:Bool->List Oe) (f:Bool->List Bw):Prop where
 oe_:H oe=some (.lst [.ref (A false),.ref (A true)])
 fd_:H fd=some (.lst [.ref (B false),.ref (B true)])
 s:∀ u,BowsAt H (A u) (st u)
 f_:∀ u,BowsAt H (B u) (f u)
 na:A false≠A true
 nb:B false≠B true
 ab:∀ u v,A u≠B v
 no:∀ u,oe≠A u/\oe≠B u/\fd≠A u/\fd≠B u
section
variable {H:Hp}{oe fd:Addr}{A B:Bool->Addr}{st:Bool->List Oe}{f:Bool->List Bw}
theorem GS.aa(G:GS H oe fd A B st f){u v:Bool}(h:u≠v):A u≠A v:=by
 cases u<;>cases v<;>first | exact absurd rfl h | exact G.na | exact G.na.symm
theorem GS.bb(G:GS H oe fd A B st f){u v:Bool}(h:u≠v):B u≠B v:=by
 cases u<;>cases v<;>first | exact absurd rfl h | exact G.nb | exact G.nb.symm
theorem GS.same{H':Hp}(G:GS H oe fd A B st f)(s:bJ H H'):GS H' oe fd A B st f:=
 ⟨s _ _ G.oe_,s _ _ G.fd_,λu=>(G.s u).same s,λu=>(G.f_ u).same s,G.na,G.nb,G.ab,G.no⟩
theorem GS.new{t:Addr}{o:HO}(G:GS H oe fd A B st f)(n:H t=none):GS (upd H t o) oe fd A B st f:=G.same ((bJ.refl H).new n)
theorem pE{l:Addr}{S:List Bw}{p:Bw}(h:BowsAt H l (S++[p])):∃(as:ld) (a:Addr),H l=some (.lst (as.map V.ref++[.ref a]))/\Paired (b6 H) as S/\b6 H a p/\as.length=S.length:=by
 obtain⟨bs,h1,h2⟩:=h;have key:∀{bs:ld} {S:List Bw},Paired (b6 H) bs (S++[p])->∃as a,bs=as++[a]/\Paired (b6 H) as S/\b6 H a p:=by
  intro bs S
  induction S generalizing bs with
  | nil=>intro h;cases h with | cons x y=>cases y;exact⟨[],_,rfl,.nil,x⟩
  | cons q S ih=>intro h;cases h with | cons x y=>obtain⟨as,a,rfl,h3,h4⟩:=ih y;exact⟨_::as,a,rfl,.cons x h3,h4⟩
 obtain⟨as,a,rfl,h3,h4⟩:=key h2;exact⟨as,a,by rw[h1,aX];rfl,h3,h4,bK h3⟩
theorem t7{l:Addr}{as:ld}{S:List Bw}{xs ys:List V}(hl:H l=some (.lst xs))(h:Paired (b6 H) as S):Paired (b6 (upd H l (.lst ys))) as S:=
 Paired.mapP h λa p ta=>by
  have:a≠l:=λe=>by subst e;unfold b6 at ta;rw[hl] at ta;cases ta
  unfold b6;rw[aO this];exact ta
theorem GS.setA(G:GS H oe fd A B st f)(u:Bool){as:ld}{S:List Oe}(h:Paired (b6 H) as S):GS (upd H (A u) (.lst (as.map V.ref))) oe fd A B (λv=>if v=u then S else st v) f:=by
 obtain⟨bs,e,_⟩:=G.s u;refine⟨by rw[aO (G.no u).1];exact G.oe_,by rw[aO (G.no u).2.2.1];exact G.fd_,λv=>?_,λv=>jH (G.f_ v) e (G.ab u v).symm,G.na,G.nb,G.ab,G.no⟩;by_cases z:v=u
 .subst z;simp only[U7];exact⟨as,aG,t7 e h⟩
 .simp only[z,U8];exact jH (G.s v) e (G.aa z)
theorem GS.setB(G:GS H oe fd A B st f)(u:Bool){as:ld}{S:List Bw}(h:Paired (b6 H) as S):GS (upd H (B u) (.lst (as.map V.ref))) oe fd A B st (λv=>if v=u then S else f v):=by
 obtain⟨bs,e,_⟩:=G.f_ u;refine⟨by rw[aO (G.no u).2.1];exact G.oe_,by rw[aO (G.no u).2.2.2];exact G.fd_,λv=>jH (G.s v) e (G.ab v u),λv=>?_,G.na,G.nb,G.ab,G.no⟩;by_cases z:v=u
 .subst z;simp only[U7];exact⟨as,aG,t7 e h⟩
 .simp only[z,U8];exact jH (G.f_ v) e (G.bb z)
theorem GS.pop(G:GS H oe fd A B st f){u:Bool}{S:List Oe}{p:Oe}(h:st u=S++[p]):∃(xs:List V) (a:Addr),H (A u)=some (.lst (xs++[.ref a]))/\b6 H a p/\GS (upd H (A u) (.lst xs)) oe fd A B (λv=>if v=u then S else st v) f:=by
 have:=G.s u;rw[h] at this;obtain⟨as,a,e,hp,ta,_⟩:=pE this;exact⟨as.map V.ref,a,e,ta,G.setA u hp⟩
theorem GS.push(G:GS H oe fd A B st f)(u:Bool){t:Addr}{p:Oe}(ht:b6 H t p):∃xs:List V,H (A u)=some (.lst xs)/\xs.length=(st u).length/\GS (upd H (A u) (.lst (xs++[.ref t]))) oe fd A B (λv=>if v=u then st u++[p] else st v) f:=by
 obtain⟨as,e,hp⟩:=G.s u;have:=G.setA u (pV hp ht);rw[aX] at this;exact⟨as.map V.ref,e,by rw[aA];exact bK hp,this⟩
theorem GS.add(G:GS H oe fd A B st f)(u:Bool){t:Addr}{p:Bw}(ht:b6 H t p):∃xs:List V,H (B u)=some (.lst xs)/\xs.length=(f u).length/\GS (upd H (B u) (.lst (xs++[.ref t]))) oe fd A B st (λv=>if v=u then f u++[p] else f v):=by
 obtain⟨as,e,hp⟩:=G.f_ u;have:=G.setB u (pV hp ht);rw[aX] at this;exact⟨as.map V.ref,e,by rw[aA];exact bK hp,this⟩
end
def qW (k:Nat):Str:=if k=0 then Str.ofString "a" else if k=1 then Str.ofString "b" else if k=2 then Str.ofString "c" else Str.ofString "d"
def u5(y:String)(k:Nat):Bool:=!(Builtin.Str.occurrences (Str.ofString y) (qW k) 0 (Str.ofString y).length 1).isEmpty
theorem BI:u5 "cd" 0=false/\u5 "cd" 1=false/\u5 "cd" 2=true/\u5 "cd" 3=true:=by symm
theorem BK:u5 "bd" 0=false/\u5 "bd" 1=true/\u5 "bd" 2=false/\u5 "bd" 3=true:=by symm
theorem BN:u5 "ab" 0=true/\u5 "ab" 1=true/\u5 "ab" 2=false/\u5 "ab" 3=false:=by symm
theorem BM:u5 "ac" 0=true/\u5 "ac" 1=false/\u5 "ac" 2=true/\u5 "ac" 3=false:=by symm
theorem JG:∀k,k<4->decide (qW k=Str.ofString "d")=decide (k=3):=by symm
theorem MI:∀k,k<4->decide (qW k=Str.ofString "b")=decide (k=1):=by symm
theorem JH:∀k,k<4->decide (qW k=Str.ofString "a")=decide (k=0):=by symm
def y8(st:Bool->List Oe)(k:Nat):Bool:=
 if k=3 then decide (st false≠[])&&(decide (st true≠[])&&decide (((st false).getLast?.map (·.2))≠((st true).getLast?.map (·.2))))
 else if k=1 then decide (st true≠[]) else decide (k=0) || decide (st false≠[])
inductive GI (st:Bool->List Oe) (f:Bool->List Bw) (r:Nat):Nat->(Bool->List Oe)->(Bool->List Bw)->Prop
 | a:GI st f r 0 (fun u=>st u++[((r:Int),(r:Int))]) f
 | b {S:List Oe} {o l:Int}:st true=S++[(o,l)]->GI st f r 1 (fun u=>if u=true then S else st u++[((r:Int),l)]) (fun u=>if u=true then f u++[(o,(r:Int))] else f u)
 | c {S:List Oe} {o l:Int}:st false=S++[(o,l)]->GI st f r 2 (fun u=>if u=false then S else st u++[((r:Int),l)]) (fun u=>if u=false then f u++[(o,(r:Int))] else f u)
 | d {n' f':List Oe} {o1 l1 o2 l2:Int}:st false=n'++[(o1,l1)]->st true=f'++[(o2,l2)]->l1≠l2->GI st f r 3 (fun u=>(if u then f' else n').map (ff l2 l1)) (fun u=>f u++[(if u then o2 else o1,(r:Int))])
theorem GI.gr{b:Bool}{st st':Bool->List Oe}{f f':Bool->List Bw}{r k:Nat}{is:List Pc}(P:GI st f r k st' f')(G:Gr b st f r is):∃js,Gr b st' f' (r+1) js:=by
 cases P with
 | a=>exact⟨_,G.opA⟩
 | @b S o l h=>obtain⟨p,js,hp,G1,_⟩:=G.pick (e:=((o,l),true)) (by unfold eF;rw[h];simp);exact⟨_,G1.ext hp h⟩
 | @c S o l h=>obtain⟨p,js,hp,G1,_⟩:=G.pick (e:=((o,l),false)) (by unfold eF;rw[h];simp);exact⟨_,G1.ext hp h⟩
 | d h h' ne=>exact G.join h h' ne
theorem Jz{st:Bool->List Oe}{k:Nat}(f:Bool->List Bw)(r:Nat)(hk:k<4)(h:y8 st k=true):∃st' f',GI st f r k st' f':=by
 have sn:∀S:List Oe,S≠[]->∃T o l,S=T++[(o,l)]:=λS h=>by
  rcases g6 S with e | ⟨T,⟨o,l⟩,e⟩
  .exact absurd e h
  .exact⟨T,o,l,by rw[e,j0]⟩
 match k,hk with
 | 0,_=>exact⟨_,_,.a⟩
 | 1,_=>obtain⟨T,o,l,e⟩:=sn (st true) (U6 h);exact⟨_,_,.b e⟩
 | 2,_=>
  have h':(false || decide (st false≠[]))=true:=h;rw[mM] at h';obtain⟨T,o,l,e⟩:=sn (st false) (U6 h');exact⟨_,_,.c e⟩
 | 3,_=>
  have h':(decide (st false≠[])&&(decide (st true≠[])&&decide (((st false).getLast?.map (·.2))≠((st true).getLast?.map (·.2)))))=true:=h;rw[ao,ao] at h';obtain⟨T,o,l,e⟩:=sn (st false) (U6 h'.1);obtain⟨T',o',l',e'⟩:=sn (st true) (U6 h'.2.1);have:=U6 h'.2.2;rw[e,e'] at this;exact⟨_,_,.d e e' λz=>this (by simp[z])⟩
def xD:Sp:=λvs H Q _=>∃c base:Int,vs=[.int c,.int base]/\1<=base/\base<=100/\∀(l:Addr) (ds:gs) (H':Hp),H l=none->bJ H H'->H' l=some (.lst (ds.map V.int))->ds.length<=20->Q (.ref l) H'
def Du:Sp:=λvs H Q _=>∃m:Int,vs=[.int m]/\-1000<=m/\m<=1000/\Q (.int (oH m)) H
def Iy:Sp:=λvs H Q _=>∃oe fd A B st f,∃k:Nat,vs=[.ref oe,.str (qW k)]/\k<4/\GS H oe fd A B st f/\Q (.bl (y8 st k)) H
def Dt:Sp:=λvs H Q _=>∃oe fd A B st f st' f',∃k r:Nat,vs=[.ref oe,.ref fd,.str (qW k),.int r]/\GS H oe fd A B st f/\(∀u,(st u).length<=100/\(f u).length<=100)/\GI st f r k st' f'/\∀H',Fr A B H H'->GS H' oe fd A B st' f'->Q .non H'
theorem mq{α:Type}(xs:List α)(v:α):oR (xs++[v]) (-1)=some v:=by
 unfold oR;have e:xv (xs++[v]).length (-1)=some xs.length:=by
  unfold xv;rw[aj,cY,U1 (by decide),U2 (by lia)];congr 1;lia
 rw[e];simp
theorem vU(S:List Oe)(p:Oe):((S++[p]).getLast?.map (·.2))=some p.2:=by simp
theorem pN(S:List Oe):S=[]\/∃T o l,S=T++[(o,l)]:=by
 rcases g6 S with e | ⟨T,⟨o,l⟩,e⟩
 .exact .inl e
 .exact .inr ⟨T,o,l,by rw[e,j0]⟩
theorem su{K:U9}{H:Hp}{m n:Int}{neg:Bool}{Q:VK}(q:Q (.bl (if neg then !decide (m=n) else decide (m=n))) H):zJ K neg (.int m) (.int n) H Q:=
 ⟨.int m,.int n,.int _,.int _,rfl,rfl,ah _,by
  have e:PyData.eqv (.int m) (.int n)=decide (m=n):=rfl;rw[e];exact q⟩
theorem Me(y:String)(k:Nat):(Builtin.Str.occurrences (Str.ofString y) (qW k) 0 (Str.ofString y).length 1).isEmpty=!u5 y k:=by unfold u5;rw[Bool.not_not]
theorem Fr.updP{A B:Bool->Addr}{H H':Hp}{p:Addr}{o:HO}(a:Fr A B H H')(n:H p=none):Fr A B H (upd H' p o):=λc u m h=>by rw[aO (bI h n)];exact a c u m h
theorem GS.updP{H:Hp}{oe fd p:Addr}{A B:Bool->Addr}{st:Bool->List Oe}{f:Bool->List Bw}{xs ys:List V}(G:GS H oe fd A B st f)(hp:H p=some (.lst xs))(pn:∀u,p≠A u/\p≠B u)(po:p≠oe/\p≠fd):GS (upd H p (.lst ys)) oe fd A B st f:=
 ⟨by rw[aO po.1.symm];exact G.oe_,by rw[aO po.2.symm];exact G.fd_,λu=>jH (G.s u) hp (pn u).1.symm,λu=>jH (G.f_ u) hp (pn u).2.symm,G.na,G.nb,G.ab,G.no⟩
theorem lj{H:Hp}{l a:Addr}{p:Bw}{xs ys:List V}(hl:H l=some (.lst xs))(h:b6 H a p):b6 (upd H l (.lst ys)) a p:=by
 have:a≠l:=λe=>by subst e;unfold b6 at h;rw[hl] at h;cases h
 unfold b6;rw[aO this];exact h
theorem xY{K:U9}{Ho H:Hp}{oe fd p:Addr}{A B:Bool->Addr}{st:Bool->List Oe}{f:Bool->List Bw}{u:Bool}{S:List Oe}{o l:Int}{E:List V}{i:Int}{r:Nat}{K1:Hp->Prop}(Fo:Fr A B Ho H)(np:Ho p=none)(G:GS H oe fd A B st f)(h:st u=S++[(o,l)])(hp:H p=some (.lst E))(hE:E.length<=10)(hf:(f u).length<=100)(pn:∀u,p≠A u/\p≠B u)(po:p≠oe/\p≠fd)
  (hi:oR [V.ref (B false),.ref (B true)] i=some (.ref (B u)))
  (k:∀H4 a,Fr A B Ho H4->GS H4 oe fd A B (λv=>if v=u then S else st v) (λv=>if v=u then f u++[(o,(r:Int))] else f v)->H4 p=some (.lst (E++[.ref a]))->b6 H4 a (o,l)->(∀a' q,b6 H a' q->b6 H4 a' q)->K1 H4) :
  GM K "list" (.ref p) H/\GM K "list" (.ref (A u)) H/\∃xs y,H (A u)=some (.lst xs)/\xs[xs.length - 1]? = some y/\∃xs1,upd H (A u) (.lst xs.dropLast) p=some (.lst xs1)/\xs1.length<sizeLine ∧
   ∃xs2 v,cI K (upd (upd H (A u) (.lst xs.dropLast)) p (.lst (xs1++[y]))) fd xs2/\oR xs2 i=some v/\GM K "list" v (upd (upd H (A u) (.lst xs.dropLast)) p (.lst (xs1++[y]))) ∧
    ∃xs3 v1,cI K (upd (upd H (A u) (.lst xs.dropLast)) p (.lst (xs1++[y]))) p xs3/\oR xs3 (-1)=some v1/\N6 K v1 (.int 0) (upd (upd H (A u) (.lst xs.dropLast)) p (.lst (xs1++[y]))) λx H1=>
     [x,V.int r].length<=sizeLine/\∀t,H1 t=none->wK v [.ref t] (upd H1 t (.tup [x,.int r])) λ_ H1=>K1 H1:=by
 obtain⟨xs,a,e,ta,G1⟩:=G.pop h;have hp1:upd H (A u) (.lst xs) p=some (.lst E):=by rw[aO (pn u).1];exact hp
 have G2:=G1.updP (ys:=E++[.ref a]) hp1 pn po;have ta2:b6 (upd (upd H (A u) (.lst xs)) p (.lst (E++[.ref a]))) a (o,l):=lj hp1 (lj e ta);have F2:Fr A B Ho (upd (upd H (A u) (.lst xs)) p (.lst (E++[.ref a]))):=(Fo.updA u).updP np;have old:∀a' q,b6 H a' q->b6 (upd (upd H (A u) (.lst xs)) p (.lst (E++[.ref a]))) a' q:=λa' q z=>lj hp1 (lj e z);have dl:(xs++[V.ref a]).dropLast=xs:=by simp
 refine⟨gi hp,gi e,_,.ref a,e,by simp,?_⟩;rw[dl];refine⟨E,hp1,bS (by lia),?_⟩;have p2:upd (upd H (A u) (.lst xs)) p (.lst (E++[.ref a])) p=some (.lst (E++[.ref a])):=aG;generalize upd (upd H (A u) (.lst xs)) p (.lst (E++[.ref a]))=H2 at *;obtain⟨_,eB,_⟩:=G2.f_ u;refine⟨_,_,cI.of G2.fd_,hi,gi eB,_,_,cI.of p2,mq _ _,.inr (.inl ⟨a,_,_,_,rfl,rfl,cj.of ta2,rfl,(by show 2<=sizeLine;decide),λt nt=>?_⟩)⟩;have G3:=G2.new (o:=.tup [.int o,.int r]) nt;have t3:b6 (upd H2 t (.tup [.int o,.int r])) t (o,(r:Int)):=aG;obtain⟨ys,eY,lY,G4⟩:=G3.add u t3;have s3:=(bJ.refl H2).new (o:=.tup [.int o,.int r]) nt;refine⟨B u,ys,_,rfl,rfl,eY,bS (by lia),k _ a ((F2.new nt).updB u) G4 ?_ (lj eY (ta2.same s3)) λa' q z=>lj eY ((old a' q z).same s3)⟩;rw[aO (pn u).2];exact s3 _ _ p2
theorem GS.cg{H:Hp}{oe fd:Addr}{A B:Bool->Addr}{st st':Bool->List Oe}{f f':Bool->List Bw}(G:GS H oe fd A B st f)(h:∀u,st u=st' u)(h':∀u,f u=f' u):GS H oe fd A B st' f':=by
 rw[<-funext h,<-funext h'];exact G
theorem EJ(X:List Oe)(g:Oe->Oe){k:Nat}{e:Oe}(h:X[k]? = some e):((X.take k).map g++X.drop k)[k]? = some e/\((X.take k).map g++X.drop k).set k (g e)=(X.take (k+1)).map g++X.drop (k+1):=by
 obtain⟨hk,he⟩:=aH.mp h;have hl:((X.take k).map g).length=k:=by rw[aA,cB];lia
 have hd:X.drop k=e::X.drop (k+1):=by rw[cG hk,he]
 refine⟨?_,?_⟩
 .rw[cu (by lia),hl,ni,hd];rfl
 .rw[List.set_append_right _ _ (by lia),hl,ni,hd,List.set_cons_zero,bE,h,aX];simp
theorem xf{H:Hp}:∀{as:ld} {S:List Bw} {i:Nat} {t:Addr} {q:Bw},Paired (b6 H) as S->b6 H t q->Paired (b6 H) (as.set i t) (S.set i q)
 | [],_,_,_,_,h,_=>by cases h;exact .nil
 | a::as,_,0,t,q,h,ht=>by cases h with | cons x y=>exact .cons ht y
 | a::as,_,i+1,t,q,h,ht=>by cases h with | cons x y=>exact .cons x (xf y ht)
theorem GS.get{H:Hp}{oe fd:Addr}{A B:Bool->Addr}{st:Bool->List Oe}{f:Bool->List Bw}(G:GS H oe fd A B st f)(u:Bool){i:Nat}{e:Oe}(h:(st u)[i]? = some e):∃(as:ld) (a:Addr),H (A u)=some (.lst (as.map V.ref))/\(as.map V.ref)[i]? = some (.ref a)/\b6 H a e/\Paired (b6 H) as (st u):=by
 obtain⟨as,h1,h2⟩:=G.s u;obtain⟨as',c1,cl,bg⟩:=(G.s u).get;rw[h1] at c1;have ea:as.map V.ref=as'.map V.ref:=by injection c1 with c1;injection c1 with c1
 have hi:i<(as'.map V.ref).length:=by rw[aA,cl];exact(aH.mp h).1
 obtain⟨a,p,e1,e2,e3⟩:=bg i _ (aE hi);rw[h] at e2;cases e2;exact⟨as,a,h1,by rw[ea,aE hi,e1],e3,h2⟩
theorem GS.set{H:Hp}{oe fd:Addr}{A B:Bool->Addr}{st:Bool->List Oe}{f:Bool->List Bw}(G:GS H oe fd A B st f)(u:Bool){as:ld}(i:Nat){t:Addr}{q:Oe}(h:Paired (b6 H) as (st u))(ht:b6 H t q):GS (upd H (A u) (.lst ((as.map V.ref).set i (.ref t)))) oe fd A B (λv=>if v=u then (st u).set i q else st v) f:=by
 have:=G.setA u (xf (i:=i) h ht);rw[List.map_set] at this;exact this
theorem Hi{n i:Nat}(h:i<n):xv n (i:Int)=some i:=by
 unfold xv;rw[U2 (by lia),U2 (by lia)];simp
def qR(m:Int)(k:Nat):Int:=m+2*(if k=0 then 1 else 0) - 2*(if k=3 then 1 else 0)
def uz:Sp:=λvs H Q _=>∃oe fd A B st f,∃(r:Nat) (d:Int),vs=[.ref oe,.int r,.int d]/\GS H oe fd A B st f/\(∀u,(st u).length<=100)/\r<=100/\∀(l:Addr) (ks:im) (H':Hp),H l=none->bJ H H'->H' l=some (.lst (ks.map λk=>V.str (qW k)))->(∀k∈ks,k<4/\y8 st k=true/\(r:Int)+oH (qR ((st false).length+(st true).length) k)<=20)->Q (.ref l) H'
theorem IM:∀j:Nat,j<4->(Txt.slice (Str.ofString "abcdabcd") (some (j:Int)) (some ((j:Int)+4))).cps.all (·<128)=true/\(Txt.slice (Str.ofString "abcdabcd") (some (j:Int)) (some ((j:Int)+4))).cps.toList.all (λc=>decide (c=97\/c=98\/c=99\/c=100))=true/\(Txt.slice (Str.ofString "abcdabcd") (some (j:Int)) (some ((j:Int)+4))).length=4:=by symm
theorem KW{c:Nat}(h:c=97\/c=98\/c=99\/c=100):∃k,k<4/\(⟨#[c]⟩:Str)=qW k:=by
 rcases h with rfl | rfl | rfl | rfl
 .exact⟨0,by decide,by symm⟩
 .exact⟨1,by decide,by symm⟩
 .exact⟨2,by decide,by symm⟩
 .exact⟨3,by decide,by symm⟩
theorem KY {k:Nat} (h:k<4):(qW k=Str.ofString "a")=(k=0):=propext (decide_eq_decide.mp (JH k h))
theorem wR {k:Nat} (h:k<4):(qW k=Str.ofString "d")=(k=3):=propext (decide_eq_decide.mp (JG k h))
structure Found (H:Hp) (fd:Addr) (g:Bool->Addr) (b:Bool) (ns:gs) (Fs:Bool->List Bw):Prop where
 at_:H fd=some (.lst [.ref (g false),.ref (g true)])
 bows:∀ u,BowsAt H (g u) (Fs u)
 perm:∀ u,(Fs u).Perm (bH b ns u (ns.length+1))
 ord:fO ns
theorem Found.same{H H':Hp}{fd:Addr}{g:Bool->Addr}{b:Bool}{ns:gs}{Fs:Bool->List Bw}(F:Found H fd g b ns Fs)(s:bJ H H'):Found H' fd g b ns Fs:=⟨s _ _ F.at_,λu=>(F.bows u).same s,F.perm,F.ord⟩
theorem Found.sum{H:Hp}{fd:Addr}{g:Bool->Addr}{b:Bool}{ns:gs}{Fs:Bool->List Bw}(F:Found H fd g b ns Fs):(Fs false).length+(Fs true).length=ns.length+1:=by
 rw[(F.perm false).length_eq,(F.perm true).length_eq,qb]
theorem Found.only{H:Hp}{fd:Addr}{g:Bool->Addr}{b:Bool}{ns:gs}{Fs:Bool->List Bw}(F:Found H fd g b ns Fs){i:Nat}(hi:i<=ns.length):(Fs (b ^^ odd i)).filter (qu (bX ns i))=[cF ns i]:=by
 have:=(F.perm (b ^^ odd i)).filter (qu (bX ns i));rw[F.ord.only hi (oy b i) (.inl rfl)] at this;exact List.perm_singleton.mp this
def uw:Sp:=λvs H Q _=>∃b fd g ns Fs,vs=[.str (sd b),.ref fd]/\Found H fd g b ns Fs/\∀t H',H t=none->bJ H H'->H' t=some (.tup (ns.map V.int))->Q (.ref t) H'
def NC(b:Bool)(ns:gs):Prop:=∀u,∀p∈bH b ns u (ns.length+1),∀q∈bH b ns u (ns.length+1),ci p q=false
def Ai:Sp:=λvs H Q _=>∃b dl,∃ds:gs,vs=[.str (sd b),.ref dl]/\H dl=some (.lst (ds.map V.int))/\ds.length<=20/\∀fd g ns Fs H',H fd=none->bJ H H'->Found H' fd g b ns Fs->Q (.ref fd) H'
def tK:Sp:=λvs H Q _=>∃b dl,∃ds:gs,vs=[.str (sd b),.ref dl]/\H dl=some (.lst (ds.map V.int))/\ds.length<=20/\∀m o ns H',H m=none->H o=none->bJ H H'->gY H' m o b ns->fO ns->Q (.ref m) H'
def Ak:Sp:=λvs H Q _=>∃oe fd A B b st f is,∃r:Nat,vs=[.ref oe,.ref fd,.int r]/\GS H oe fd A B st f/\Gr b st f r is/\r+yj st<=21/\∀n ns Fs H',Fr A B H H'->Found H' fd B b ns Fs->Q (.int n) H'
theorem ve:∀(R:gs) (s t:Bool),(chain s R t).length<=R.length
 | [],_,_=>ah _
 | [a],_,_=>ah _
 | a::b::R,s,t=>by
  have ih:=ve (b::R) (!s) t;show ((if (!s)=t then [(min a b,max a b)] else [])++chain (!s) (b::R) t).length<=_;rw[aj,bL]
  split
  .simp only[cY];lia
  .simp only[fR];lia
theorem Gr.small{b:Bool}{st:Bool->List Oe}{f:Bool->List Bw}{r:Nat}{is:List Pc}(G:Gr b st f r is):∀u,(st u).length<=2*r/\(f u).length<=r:=by
 have h1:=G.rows.length_eq;rw[qi] at h1;have h2:∀js:List Pc,(∀p∈js,p.rows≠[])->js.length<=(js.flatMap Pc.rows).length:=by
  intro js
  induction js with
  | nil=>intro _;exact ah _
  | cons p js ih=>
   intro h;have i1:=ih λq hq=>h q (aJ _ hq);have i2:0<p.rows.length:=List.length_pos_iff.mpr (h p aW);rw[am,aj,bL];lia
 have h3:∀(js:List Pc) u,(js.flatMap (Pc.bows u)).length<=(js.flatMap Pc.rows).length:=by
  intro js u
  induction js with
  | nil=>exact ah _
  | cons p js ih=>
   have:=ve p.rows p.s u;rw[am,am,aj,aj];show (chain p.s p.rows u).length+_<=_;lia
 have h4:=h2 is G.ne;have h5:=G.many;intro u;refine⟨?_,?_⟩
 .cases u<;>lia
 .rw[(G.bows u).length_eq];exact bN (h3 is u) (kd h1)
theorem Fr.toSame{A B:Bool->Addr}{H H0 H':Hp}(n:∀u,H (A u)=none/\H (B u)=none)(s:bJ H H0)(f:Fr A B H0 H'):bJ H H':=λb o h=>
 f b o (λu=>⟨bI h (n u).1,bI h (n u).2⟩) (s b o h)
theorem GI.many{st st':Bool->List Oe}{f f':Bool->List Bw}{r k:Nat}(P:GI st f r k st' f'):((st' false).length:Int)+(st' true).length=qR ((st false).length+(st true).length) k:=by
 cases P with
 | a=>simp only[aj,cY,qR];simp;lia
 | b h=>rw[h];simp[qR];lia
 | c h=>rw[h];simp[qR];lia
 | d h h' ne=>rw[h,h'];simp[qR];lia
theorem E7{α β:Type}{F:α->β->Prop}{l:List α}{m:List β}(h:Paired F l m):Paired F l.reverse m.reverse:=by
 induction h with
 | nil=>exact .nil
 | cons a b ih=>rw[gf,gf];exact pV ih a
theorem E9{α β:Type}{F:α->β->Prop}{l l':List α}{m m':List β}(h:Paired F l m)(h':Paired F l' m'):Paired F (l++l') (m++m'):=by
 induction h with
 | nil=>exact h'
 | cons a b ih=>exact .cons a ih
theorem HN{F:Addr->Oe->Prop}{l:ld}{m:List Oe}(h:Paired F l m):∀{i:Nat} {e:Oe},m[i]? = some e->∃a,l[i]? = some a/\F a e:=by
 induction h with
 | nil=>intro i e h;simp at h
 | cons a b ih=>
  intro i e h;cases i with
  | zero=>cases h;exact⟨_,rfl,a⟩
  | succ i=>exact ih h
def C4(st:Bool->List Oe):Nat:=if (st false).length<oZ (bP st) then 1 else if oZ (bP st)<(st false).length then 2 else 3
theorem Gr.end_put{b:Bool}{st:Bool->List Oe}{f:Bool->List Bw}{r:Nat}{is:List Pc}(G:Gr b st f r is)(h:1<(st false).length+(st true).length):∃st' f',GI st f r (C4 st) st' f'/\yj st'+1<=yj st:=by
 have hl:1<(bP st).length:=by rw[m7];exact h
 have hm:=G.many;have ht:=pL (bP st);unfold C4;by_cases h1:(st false).length<oZ (bP st)
 .rw[U2 h1];rcases pN (st true) with e | ⟨S,o,l,e⟩
  .rw[e] at hm h;simp at hm h;lia
  .exact⟨_,_,.b e,kd (MD e hl h1)⟩
 .rw[U1 h1];by_cases h2:oZ (bP st)<(st false).length
  .rw[U2 h2];rcases pN (st false) with e | ⟨S,o,l,e⟩
   .rw[e] at h2;simp at h2
   .exact⟨_,_,.c e,kd (MC e hl h2)⟩
  .rw[U1 h2];have h3:(st false).length=oZ (bP st):=by lia
   rcases pN (st false) with e | ⟨S,o,l,e⟩
   .rw[e] at h3;simp at h3;lia
   .rcases pN (st true) with e' | ⟨S',o',l',e'⟩
    .rw[e'] at hm h;simp at hm h;lia
    .refine⟨_,_,.d e e' λz=>?_,G.phi_d e e' hl h3⟩;obtain⟨x,y,ex,ey,ne⟩:=G.tgt_ne hl;have hS:(S++[(o,l)]).length=oZ (bP st):=by rw[<-e];exact h3
     simp only[aj,cY] at hS;have hL:bP st=S.map (·.2)++(l::l'::(S'.reverse).map (·.2)):=by
      unfold bP;rw[e,e'];simp
     rw[hL] at ex ey;have i1:oZ (S.map (·.2)++(l::l'::(S'.reverse).map (·.2)))=S.length+1:=by rw[<-hL];exact hS.symm
     rw[i1,cu (by simp)] at ex;rw[i1,cu (by simp only[aA];lia)] at ey;simp at ex ey;exact ne (ex.symm.trans (z.trans ey))
def Al:Sp:=λvs H Q _=>∃m o b ns,vs=[.ref m]/\gY H m o b ns/\ns.length<=40/\∀fd (g:Bool->Addr) H',H fd=none->(∀u,H (g u)=none)->bJ H H'->H' fd=some (.lst [.ref (g false),.ref (g true)])->(∀u,BowsAt H' (g u) (bH b ns u (ns.length+1)))->g false≠g true->Q (.ref fd) H'
def lR(ps:List Bw):Bool:=ps.any λp=>ps.any λq=>ci p q
def rj:Sp:=λvs H Q _=>∃l ps,vs=[.ref l]/\BowsAt H l ps/\Q (.bl (lR ps)) H
theorem sE{ps:List Bw}(h:∀p∈ps,∀q∈ps,ci p q=false):lR ps=false:=by
 unfold lR;rw[jO];intro p hp;rw[Bool.not_eq_true,jO];intro q hq;rw[h p hp q hq];decide
theorem w5{ps:List Bw}{p q:Bw}(hp:p∈ps)(hq:q∈ps)(h:ci p q=true):lR ps=true:=cM.mpr ⟨p,hp,cM.mpr ⟨q,hq,h⟩⟩
end Rm
namespace L2
open PySem PySem.Spec PyProof.Rows
section
variable {X:Cx}{pins:List (Addr×Obj)}{Z:St}{H:Hp}{s:Shared}{h':Heap}
theorem bc.turnNew{fp:ld}{p:Addr}{o:HO}{t':Nat}(I:bc X pins Z H s)(hf:∀b∈fp,ke X pins H b)(k:∀b u,b∉fp->s.heap.get? b=some u->h'.get? b=some u)(hp:s.heap.objs.size<=p)
  (new:cc X.prog X.w (upd H p o) h' p o):bc X pins Z (upd H p o) { s with heap:=h',toks:=t' }:=by
 have hn:H p=none:=I.hok.fresh hp;have nfp:∀b u,H b=some u->b∉fp:=λb u e z=>by rw[(hf b z).1] at e;cases e
 refine I.step (g':=s.gens) (d':=s.drawn) (ch:=fp) (λb hb=>?_) (λb u _ _ hc e _=>k b u hc e) (λb u _ _ hc e _=>⟨u.slots,k b u hc e⟩)
  (λb u _ e n=>by rw[aO (a6 (aZ (aN e) hp))];exact n) (λb u hc e=>⟨u,k b u hc e⟩) (λb xs e=>by rw[aO (bI e hn)];exact e)
  (λb u xs e=>by rw[aO (bI e hn)];exact e) (λb ps e=>⟨#[],by rw[aO (bI e hn),e];simp⟩) (λm hm=>?_) (λb u e=>?_) I.bare
 .obtain⟨_,f1,_,f3,f4,f5⟩:=hf b hb;exact⟨f3,f1,f4,f5⟩
 .obtain⟨ob,es,ep,ho,r⟩:=hm;exact⟨ob,es,ep,k _ ob (λz=>(hf _ z).2.1 rfl) ho,r⟩
 .by_cases hb:b=p
  .subst hb;rw[aG] at e;cases e;exact new
  .rw[aO hb] at e;refine(I.hok b u e).stay (λc v hc q=>k c v ?_ q) (λc q=>by rw[aO (bI q hn)];exact q) λc xs q=>by rw[aO (bI q hn)];exact q
   rcases hc with z | z
   .rw[z];exact nfp b u e
   .exact nfp c _ z
end
def LG(x:Str):It:=⟨λi _=>i<x.cps.size,λi H v H'=>H'=H/\∃c,x.cps[i]? = some c/\v=.str ⟨#[c]⟩,λi _=>x.cps.size<=i⟩
theorem Dc {P : Program} {w : World} {K : U9} {tg : Expr} (it : Addr) (x : Str) (t : Tok) : Turn P w K tg (LG x) [it] it (fun i h => h.IsStrIter it "str_ascii_iterator" x t i) where
  mem := by simp
  obj := fun i h st b hb => by
    have e : b = it := by simpa using hb
    subst e
    obtain ⟨o, e, c, d⟩ := st
    exact ⟨o, e, fun v z => by rw [d] at z; cases z⟩
  keep := fun i h h' st k => by
    obtain ⟨o, e, r⟩ := st
    exact ⟨o, k it (by simp) o e, r⟩
  item := by
    intro X hP hw hK hc i pins s Z H E I hf st hg
    subst hP hw hK
    obtain ⟨f0, f1, f2, f3, f4, f5⟩ := hf it (by simp)
    have hx : x.cps[i]? = some x.cps[i] := cQ hg
    refine wpAny_pyNext_ascii_item st hx fun h' st' sb => ?_
    have I1 : bc X pins Z H { s with heap := h', toks := s.toks + 1 } := I.turned (t' := s.toks + 1) (fun b o hb e => (sb.2 b hb).trans e) f0 f1 f3 f4 f5
    obtain ⟨o, e, c, d⟩ := id st'
    exact ⟨_, rfl, v9 (s := { s with heap := h', toks := s.toks + 1 }) e c d (by decide) ⟨.str ⟨#[x.cps[i]]⟩, H, I1, ⟨_, rfl⟩, ⟨rfl, _, hx, rfl⟩, st', fun b hb => (hf b hb).1⟩⟩
  done := by
    intro X hP hw hK hc i pins s Z H E I hf st hg
    subst hP hw hK
    obtain ⟨f0, f1, f2, f3, f4, f5⟩ := hf it (by simp)
    exact wpAny_pyNext_ascii_end (I.ok.hd hc) st (jT hg) fun h' eb => ⟨rfl, I.turned (t' := s.toks) (fun b o hb e => eb b o hb e) f0 f1 f3 f4 f5⟩
  self := fun _ _ _ _ _ st h => wpAny_pyIter_striter_ascii st h
def Kc(tl:TE):TI:=λZ H R=>tl Z H λx H1=>∃z,x=.str z/\z.cps.all (·<128)=true/\R (LG z) H1
def Ng(x:Str):It:=⟨λi _=>i<x.cps.size,λi H v H'=>∃p c,H p=none/\x.cps[i]? = some c/\v=.ref p/\H'=upd H p (.tup [.int i,.str ⟨#[c]⟩]),λi _=>i=x.cps.size⟩
def MO(ta:TA):TI:=λZ H R=>ta Z H λvs H1=>∃z,vs=[.str z]/\z.cps.all (·<128)=true/\R (Ng z) H1
section
variable {Z:St}{H:Hp}{D:Ends}
theorem DR{tl:TE}{g:TG}{tb:TS}:rK (Kc tl) g tb D Z H=tl Z H λx H1=>∃z,x=.str z/\z.cps.all (·<128)=true/\sS (LG z) g tb D Z H1:=rfl
theorem DU{ta:TA}{g:TG}{tb:TS}:rK (MO ta) g tb D Z H=ta Z H λvs H1=>∃z,vs=[.str z]/\z.cps.all (·<128)=true/\sS (Ng z) g tb D Z H1:=rfl
theorem L1{a:Str}{q:Str->Prop}:(∃b,V.str a=.str b/\q b)=q a:=propext ⟨(by rintro ⟨_,e,h⟩;cases e;exact h),λh=>⟨a,rfl,h⟩⟩
theorem Ht{x:Str}{g:TG}{tb:TS}(Pv:Nat->St->Hp->Prop)(h0:Pv 0 Z H)
  (hs:∀i c Z H,x.cps[i]? = some c->Pv i Z H->g (.str ⟨#[c]⟩) Z H λZ2 H2=>tb { D with nx:=Pv (i+1),ct:=Pv (i+1),bk:=D.nx } Z2 H2) (hd:∀Z H,Pv x.cps.size Z H->D.nx Z H):sS (LG x) g tb D Z H:=by
 refine⟨λi m Z H=>m+i=x.cps.size/\Pv i Z H,⟨x.cps.size,rfl,h0⟩,?_⟩;rintro i m Z H ⟨hm,hp⟩;by_cases hi:i<x.cps.size
 .refine .inr ⟨hi,Pv (i+1),λZ' H' h=>⟨m - 1,by lia,by lia,h⟩,?_⟩;rintro v H' ⟨rfl,c,hc,rfl⟩;exact hs i c Z H' hc hp
 .have e:i=x.cps.size:=by lia
  subst e;exact .inl ⟨aI _,hd Z H hp⟩
end
theorem Ek:typeLookup (.type "list_reverseiterator") "__len__"=pure none:=by rw[typeLookup_type,builtinLookup_eq_fast];kernel_rfl
theorem Hm:typeLookup (.type "list_reverseiterator") "__length_hint__"=pure (some (.builtin "list_reverseiterator.__length_hint__")):=by rw[typeLookup_type,builtinLookup_eq_fast];kernel_rfl
section
variable {prog:Program}{w:World}{A:Around}{E:Value->Shared->Prop}{s:Shared}
theorem FY{I l:Addr}{i:Int}{Q:Bool->Shared->Prop}(hit:s.heap.IsRevIter I l i)(h:Q false s):wpAny (model prog w) A (Builtin.List.listLengthHint (.ref I)) Q E s:=by
 unfold Builtin.List.listLengthHint;exists (Ts hit.typeIs Ek ?_);show wpAny _ A (specialOf (Value.ref I) (Str.ofString "__length_hint__")>>=_) _ _ _;exists (Ts hit.typeIs Hm ?_);generalize hid:("list_reverseiterator.__length_hint__":String)=id0
 wp_delta
 rw[show splitId id0=some ("list_reverseiterator","__length_hint__") from by subst hid;symm];subst hid;exists (wpAny_isInstance (b:=true) hit.typeIs (by rw[isSubtype_type];kernel_rfl) ?_);refine wpAny_pure ?_;exact h
theorem zp{R:Result->Shared->Prop}{l I:Addr}{items:Array Value}(hh:A.handled=none)(hit:s.heap.IsRevIter I l ((items.size:Int) - 1))(hl:s.heap.IsList l items)(hne:l≠I)(hlen:items.size<=1000)(S:Addr)(res:Value)(c₀:Nat)
  (hS:s.heap.get? S=some { cls:=.type "list",data:=.seq #[] c₀ }) (hSI:S≠I) (hSl:S≠l)
  (hR:∀h' tk acc' c',(∀b o,b≠S->b≠I->s.heap.get? b=some o->h'.get? b=some o)->h'.get? S=some { cls:=.type "list",dict:=none,data:=.seq acc' c',slots:=#[] } →
   ItemsOf (λi v=>items[items.size - 1-i]? = some v) acc' items.size->R (.ok (.ret res)) { s with heap:=h',toks:=tk }) :
  wpAny (model prog w) A.in1 (Builtin.List.listExtendWith (.ref S) (.ref I) res)
   (λfin s'=>match fin with | .done f=>R (.ok f) s' | .again c'=>c'.quiet=true/\codeAny (model prog w) A c' R s') (λe s'=>R (.error e) s') s:=by
 have hSf:S∉[I,l]:=λhm=>by
  rcases aL.mp hm with e | e
  .exact hSI e
  .exact hSl (eJ.mp e)
 have W:=(Walks.listRev (prog:=prog) (w:=w) (A:=A.in1) hh I l hne items).toS;have h1:Builtin.List.listSameRef (.ref S) (.ref I)=false:=by simp[Builtin.List.listSameRef,hSI]
 have h2:(Value.type "list_reverseiterator"==Value.type "list")=false:=by decide
 have h3:(Value.type "list_reverseiterator"==Value.type "tuple")=false:=by decide
 have hz:((items.size:Int) - 1-((0:Nat):Int))=(items.size:Int) - 1:=by simp
 unfold Builtin.List.listExtendWith;exists (wpAny_typeOf hit.typeIs ?_);simp only[h1,h2,h3,eS,bR,U8];exists (wpAny_pyIter_revIter hit ?_);exists (Tx (FY hit ?_));refine wpAny_pure ⟨UN F.plain_extend_loop _,?_⟩;refine codeAny_extend_loopS W (bT (bS hlen)) S hSf res items.size 0 _ #[] c₀ rfl (ah _) ⟨ah _,by rw[hz];exact hit,hl⟩ hS (ItemsOf.nil _) λs' acc' c' hm hS' hacc=>?_;rw[Moved.eq_with hm];refine hR s'.heap s'.toks acc' c' (λb o hb hb2 e=>hm.heap b o (λhmem=>?_) e) hS' hacc;rcases aL.mp hmem with e' | hmem
 .exact hb e'
 .exact hb2 (eJ.mp hmem)
theorem FV{R:Result->Shared->Prop}{l I:Addr}{items:Array Value}(hh:A.handled=none)(hit:s.heap.IsRevIter I l ((items.size:Int) - 1))(hl:s.heap.IsList l items)(hne:l≠I)(hlen:items.size<=1000)(S:Addr)
  (hS:s.heap.get? S=some { cls:=.type "list",data:=.seq #[] }) (hSI:S≠I) (hSl:S≠l)
  (hR:∀h' tk acc' c',(∀b o,b≠S->b≠I->s.heap.get? b=some o->h'.get? b=some o)->h'.get? S=some { cls:=.type "list",dict:=none,data:=.seq acc' c',slots:=#[] } →
   ItemsOf (λi v=>items[items.size - 1-i]? = some v) acc' items.size->R (.ok (.ret .none)) { s with heap:=h',toks:=tk }) :
  wpAny (model prog w) A.in1 (Builtin.«list.__init__» ⟨[.ref S,.ref I],[]⟩)
   (λfin s'=>match fin with | .done f=>R (.ok f) s' | .again c'=>c'.quiet=true/\codeAny (model prog w) A c' R s') (λe s'=>R (.error e) s') s:=by
 show wpAny _ _ (do let old <-Builtin.List.listItems (.ref S);Builtin.List.listUpdate (.ref S) (λ_=>#[]);letGo old.toList.reverse;Builtin.List.listExtendWith (.ref S) (.ref I) .none) _ _ s;refine wpAny_bind ?_;unfold Builtin.List.listItems;exists (UL hS rfl (wpAny_pure ?_));show wpAny _ _ (updateSeq S (λ_=>#[])>>=λ_=>letGo (#[]:Array Value).toList.reverse>>=λ_=>Builtin.List.listExtendWith (.ref S) (.ref I) .none) _ _ s;exists (UM hS rfl ?_);have hS₂:=bq (Obj.mapSeq (λ_=>(#[]:Array Value))) hS rfl;have oth:∀b o,b≠S->s.heap.get? b=some o->(s.heap.update S (Obj.mapSeq (λ_=>(#[]:Array Value)))).get? b=some o:=
  λb o hb e=>(di _ _ (fM hb)).trans e
 exists (UC ?_);refine zp hh (hit.at λo e=>oth I o hSI.symm e) (hl.at λo e=>oth l o hSl.symm e) hne hlen S .none _ hS₂ hSI hSl λh' tk acc' c' hk hS' hacc=>?_;exact hR h' tk acc' c' (λb o hb hb2 e=>hk b o hb hb2 (oth b o hb e)) hS' hacc
theorem um{Q:Value->Shared->Prop}{l I:Addr}{items:Array Value}(hh:A.handled=none)(hit:s.heap.IsRevIter I l ((items.size:Int) - 1))(hl:s.heap.IsList l items)(hne:l≠I)(hlen:items.size<=1000)
  (hQ:∀h' tk acc' c',(∀b o,b≠I->s.heap.get? b=some o->h'.get? b=some o) →
   h'.get? s.heap.objs.size=some { cls:=.type "list",dict:=none,data:=.seq acc' c',slots:=#[] }->ItemsOf (λi v=>items[items.size - 1-i]? = some v) acc' items.size->Q (.ref s.heap.objs.size) { s with heap:=h',toks:=tk }) :
  wpAny (model prog w) A (call (.type "list") [.ref I]) Q E s:=by
 refine callType_codes (Q₁:=λobj s₁=>obj=.ref s.heap.objs.size/\s₁={ s with heap:=s.heap.push { cls:=.type "list",data:=.seq #[] } }) F.called_list (F.typeCall_list_1 _) F.entry_list_init
  (code_list_new _ ⟨rfl,rfl⟩) λobj s₁ h₁=>?_
 obtain⟨rfl,rfl⟩:=h₁;have hS:(s.heap.push { cls:=.type "list",data:=.seq #[] }).get? s.heap.objs.size=some { cls:=.type "list",data:=.seq #[] }:=aP _ rfl;obtain⟨o1,e1,_⟩:=id hit;obtain⟨o2,e2,_⟩:=id hl;have n1:s.heap.objs.size≠I:=(a6 (aN e1)).symm;have n2:s.heap.objs.size≠l:=(a6 (aN e2)).symm;refine⟨⟨_,hS,rfl⟩,F.args_list_init_2 _ _,FV (A:=A.in1) hh (hit.at λo e=>aB _ e) (hl.at λo e=>aB _ e) hne hlen _ hS n1 n2 λh' tk acc' c' hk hS' hacc=>?_⟩;exact⟨rfl,hQ h' tk acc' c' (λb o hb e=>hk b o (a6 (aN e)) hb (aB _ e)) hS' hacc⟩
end
def Lh(te:TE):TE:=λZ H Q=>te Z H λx H1=>∃(a:Addr) (xs:List V),x=.ref a/\H1 a=some (.lst xs)/\xs.length<=1000/\∀l,H1 l=none->Q (.ref l) (upd H1 l (.lst xs.reverse))
theorem w_rev{te:TE}{Z:St}{H:Hp}{Q:VK}:Lh te Z H Q=te Z H λx H1=>∃(a:Addr) (xs:List V),x=.ref a/\H1 a=some (.lst xs)/\xs.length<=1000/\∀l,H1 l=none->Q (.ref l) (upd H1 l (.lst xs.reverse)):=rfl
theorem wn{xs:List V}{us:ag}(r:cH xs us):∀{i:Nat} {x:V} {u:Value},xs[i]? = some x->us[i]? = some u->RelV x u:=by
 induction r with
 | nil=>intro i x u h;simp at h
 | cons a b ih=>
  intro i x u h h';cases i with
  | zero=>cases h;cases h';exact a
  | succ i=>exact ih h h'
theorem Ge{xs:List V}{us:ag}(hl:xs.length=us.length)(h:∀(i:Nat) x u,xs[i]? = some x->us[i]? = some u->RelV x u):cH xs us:=by
 induction xs generalizing us with
 | nil=>cases us with | nil=>exact .nil | cons a b=>simp at hl
 | cons x xs ih=>
  cases us with
  | nil=>simp at hl
  | cons u us=>exact .cons (h 0 x u rfl rfl) (ih (by simpa using hl) λi y v h1 h2=>h (i+1) y v h1 h2)
structure QE (X:Cx) (e:Expr) (t:TE):Prop where
 h:PE X e t
structure QT (X:Cx) (e:Expr) (t:TT):Prop where
 h:PT X e t
structure QA (X:Cx) (es:lc) (t:TA):Prop where
 h:PA X es t
structure QS (X:Cx) (st:Stmt) (t:TS):Prop where
 h:PS X st t
structure jW (X:Cx) (sts:List Stmt) (t:TS):Prop where
 h:GO X sts t
structure QG (X:Cx) (e:Expr) (t:TG):Prop where
 h:PG X e t
structure Mi (X:Cx) (es:lc) (t:GN):Prop where
 h:Nz X es t
structure QF (X:Cx) (es:lc) (t:TT):Prop where
 h:PF X es t
structure QW (X:Cx) (e:Expr) (t:TT):Prop where
 h:PW X e t
structure QO (X:Cx) (e:Option Expr) (t:TO):Prop where
 h:PO X e t
structure IR (X:Cx) (pos:Pos) (keys:List (Option Expr)) (values:lc) (trs:List (TE×TE)):Prop where
 h:Ny X pos keys values trs
structure QI (X:Cx) (tg iter:Expr) (t:TI):Prop where
 h:PI X tg iter t
theorem QW.pt{X:Cx}{e:Expr}{t:TT}(h:QW X e t):QT X e t:=⟨h.h.pt⟩
section
variable {X:Cx}{pos:Pos}{a:Expr}{tA:TT}{b:Expr}{tB':TT}{rest:lc}{ta tb:TE}
theorem aD{i j pos}:QE X (.Constant (.int i) j pos) (tC (.int i)):=⟨λ_ _ _ H _ I h=>wpAny_Constant_int ⟨.int i,H,I.tok _,⟨_,rfl⟩,h⟩⟩
theorem ja{b j pos}:QE X (.Constant (.bool b) j pos) (tC (.bl b)):=⟨λ_ _ _ H _ I h=>Constant_bool ⟨.bl b,H,I,rfl,h⟩⟩
theorem jg{j pos}:QE X (.Constant .none j pos) (tC .non):=⟨λ_ _ _ H _ I h=>Constant_none ⟨.non,H,I,rfl,h⟩⟩
theorem cO{x j pos}:QE X (.Constant (.str x) j pos) (tC (.str x)):=⟨λ_ _ _ H _ I h=>Calls.Constant_str ⟨.str x,H,I.tok _,⟨_,rfl⟩,h⟩⟩
theorem lM {x:Str} {v:V} {u:Value} {pos:Pos} (hg:Gl X x) (hm:X.mg x=none) (hv:bootBuiltins x=some u) (r:RelV v u) (hn:x≠"__name__":=by decide) (hd:(x==("__debug__":Str))=false:=by decide):QE X (.Name x pos) (tC v):=⟨λ_ _ _ H _ I h=>jE I hg hm hv ⟨v,H,I,r,h⟩ hn hd⟩
theorem jB{e:Expr}{t:TE}(h:QE X e t)(he:∀whole,isTrue e X.env whole=(do let v <-whole;standAt e.pos;holding [v] (truthy v)):=by intro _;rfl):QT X e (tB t):=⟨by
 have h:=h.h;intro pins s Z H Q I hw;refine isTrue_plain (dw (h pins s Z H _ I hw) λv s1 z'=>?_) (he _);obtain⟨x,H1,I1,r1,q1⟩:=z';obtain⟨d,rfl,q⟩:=q1;cases r1;exact Tf ⟨H1,I1,q⟩⟩
theorem tY(ha:QT X a tA):QW X (.BoolOp .And [a] pos) tA:=⟨by
 have ha:=ha.h;intro wh pins s Z H Q I h;refine isTrue_and (dw (ha pins s Z H Q I h) λc s1 e=>?_);cases c with
 | true=>exact isTrue_and_nil e
 | false=>exact e⟩
theorem jf(ha:QT X a tA):QW X (.BoolOp .Or [a] pos) tA:=⟨by
 have ha:=ha.h;intro wh pins s Z H Q I h;refine isTrue_or (dw (ha pins s Z H Q I h) λc s1 e=>?_);cases c with
 | false=>exact isTrue_or_nil e
 | true=>exact e⟩
theorem sX(ha:QT X a tA)(hb:QW X (.BoolOp .And (b::rest) pos) tB'):QW X (.BoolOp .And (a::b::rest) pos) (Ls tA tB'):=⟨by
 have ha:=ha.h;have hb:=hb.h;intro wh pins s Z H Q I h;refine isTrue_and (dw (ha pins s Z H _ I h) λc s1 z'=>?_);obtain⟨H1,I1,q1⟩:=z';cases c with
 | true=>exact hb wh pins s1 Z H1 Q I1 q1
 | false=>exact⟨H1,I1,q1⟩⟩
theorem lJ(ha:QT X a tA)(hb:QW X (.BoolOp .Or (b::rest) pos) tB'):QW X (.BoolOp .Or (a::b::rest) pos) (N3 tA tB'):=⟨by
 have ha:=ha.h;have hb:=hb.h;intro wh pins s Z H Q I h;refine isTrue_or (dw (ha pins s Z H _ I h) λc s1 z'=>?_);obtain⟨H1,I1,q1⟩:=z';cases c with
 | true=>exact⟨H1,I1,q1⟩
 | false=>exact hb wh pins s1 Z H1 Q I1 q1⟩
theorem kY(ha:QT X a tA):QT X (.UnaryOp .Not a pos) (Ll tA):=⟨by
 have ha:=ha.h;intro pins s Z H Q I h;exact isTrue_not (ha pins s Z H (λc H1=>Q (!c) H1) I h)⟩
theorem nW{op}{t:TE}(h:QE X a t):QE X (.BoolOp op [a] pos) t:=⟨have h:=h.h;λpins s Z H Q I hw=>BoolOp_one (h pins s Z H Q I hw)⟩
theorem kZ(ha:QE X a ta)(hb:QE X (.BoolOp .And (b::rest) pos) tb):QE X (.BoolOp .And (a::b::rest) pos) (Iw ta tb):=⟨by
 have ha:=ha.h;have hb:=hb.h;intro pins s Z H Q I h;refine BoolOp_and (dw (ha pins s Z H _ I h) λv s1 z'=>?_);obtain⟨x,H1,I1,r1,q1⟩:=z';obtain⟨c,rfl,q1⟩:=q1;cases r1;refine Tf ?_;cases c with
 | true=>exact hb pins s1 Z H1 Q I1 q1
 | false=>exact⟨.bl false,H1,I1,rfl,q1⟩⟩
theorem Jx(ha:QE X a ta)(hb:QE X (.BoolOp .Or (b::rest) pos) tb):QE X (.BoolOp .Or (a::b::rest) pos) (Lk ta tb):=⟨by
 have ha:=ha.h;have hb:=hb.h;intro pins s Z H Q I h;refine BoolOp_or (dw (ha pins s Z H _ I h) λv s1 z'=>?_);obtain⟨x,H1,I1,r1,q1⟩:=z';obtain⟨c,rfl,q1⟩:=q1;cases r1;refine Tf ?_;cases c with
 | false=>exact hb pins s1 Z H1 Q I1 q1
 | true=>exact⟨.bl true,H1,I1,rfl,q1⟩⟩
theorem HI(ha:QE X a ta):QE X (.UnaryOp .Not a pos) (Im ta):=⟨by
 have ha:=ha.h;intro pins s Z H Q I h;refine UnaryOp_ (dw (ha pins s Z H _ I h) λv s1 z'=>?_);obtain⟨x,H1,I1,r1,q1⟩:=z';obtain⟨c,rfl,q1⟩:=q1;cases r1;exact not_of (Tf ⟨.bl (!c),H1,I1,rfl,q1⟩)⟩
theorem vJ{c:Expr}(hc:QT X c tA)(ha:QE X a ta)(hb:QE X b tb):QE X (.IfExp c a b pos) (N4 tA ta tb):=⟨by
 have hc:=hc.h;have ha:=ha.h;have hb:=hb.h;intro pins s Z H Q I h;refine wpAny_IfExp (dw (hc pins s Z H _ I h) λd s1 z'=>?_);obtain⟨H1,I1,q1⟩:=z';cases d with
 | true=>exact ha pins s1 Z H1 Q I1 q1
 | false=>exact hb pins s1 Z H1 Q I1 q1⟩
theorem b9  : jW X [] Io:=⟨λ_ _ Z H _ I h=>US ⟨Z,H,I,h⟩⟩
end
section
variable {X:Cx}{st:Stmt}{rest:List Stmt}{t u:TS}{pos:Pos}{e:Expr}{te:TE}{tg:Expr}{a b:Expr}{ta tb:TE}{c:Expr}{tc:TE}
theorem aK(h1:QS X st t)(h2:jW X rest u):jW X (st::rest) (Lg t u):=⟨by
 have h1:=h1.h;have h2:=h2.h;intro pins s Z H D I h;refine UT (dw (h1 pins s Z H { D with nx:=u D } I h) λf s1 q=>?_);cases f with
 | next=>
  obtain⟨Z',H',I',q⟩:=q;exact h2 pins s1 Z' H' D I' q
 | ret v=>exact q
 | brk=>exact q
 | cont=>exact q⟩
theorem aM(h1:QS X st t):jW X [st] t:=⟨by
 have h1:=h1.h;intro pins s Z H D I h;refine UT (dw (h1 pins s Z H D I h) λf s1 q=>?_);cases f with
 | next=>exact US q
 | ret v=>exact q
 | brk=>exact q
 | cont=>exact q⟩
theorem Bo  : QS X (.Break pos) Dm:=⟨λ_ _ Z H _ I h=>wpAny_Break ⟨Z,H,I,h⟩⟩
theorem cU(he:QE X e te)(hs:swapsWith e none pos.line X.env=pure false:=by rfl):QS X (.Expr e pos) (Ir te):=⟨by
 have he:=he.h;intro pins s Z H D I h;exact wpAny_Expr_any (dw (he pins s Z H _ I h) (by rintro v s1 ⟨x,H1,I1,r1,q1⟩;exact ⟨Z,H1,I1,q1⟩)) I.quiet hs⟩
theorem bQ(he:QE X e te):QS X (.Return (some e) pos) (Lj te):=⟨by
 have he:=he.h;intro pins s Z H D I h;exact wpAny_Return_some (dw (he pins s Z H _ I h) (by rintro v s1 ⟨x,H1,I1,r1,q1⟩;exact ⟨x,Z,H1,I1,r1,q1⟩))⟩
theorem cT{c:Expr}{a b:List Stmt}{tc:TT}(hc:QT X c tc)(ha:jW X a t)(hb:jW X b u):QS X (.If c a b pos) (Ln tc t u):=⟨by
 have hc:=hc.h;have ha:=ha.h;have hb:=hb.h;intro pins s Z H D I h;refine wpAny_If (dw (hc pins s Z H _ I h) λd s1 z'=>?_);obtain⟨H1,I1,q1⟩:=z';cases d with
 | true=>exact ha pins s1 Z H1 D I1 q1
 | false=>exact hb pins s1 Z H1 D I1 q1⟩
theorem bi{i:Nat}{x:Str}(hN:X.N.Nodup)(hi:X.N[i]? = some x)(hx:Loc X.env.scope x)(hf:X.fn x=true\/X.env.scope.names.lookup x=some .local:=by first | exact .inl rfl | exact .inr rfl | assumption):QG X (.Name x pos) (pw i):=⟨by
 intro pins s Z H v u Q I r h;exact wpAny_assign_Name (tI I hN hi hx r (λs' I'=>⟨_,H,I',h⟩) hf)⟩
theorem oo  : Mi X [] MS:=⟨by
 intro pins s Z H vs us Q I r h;obtain⟨e,h⟩:=h;subst e;cases r;exact assignInOrder_nil ⟨Z,H,I,h⟩⟩
theorem gU{e:Expr}{es:lc}{t:TG}{u:GN}(h1:QG X e t)(h2:Mi X es u)(hs:(assignEach (e::es) X.env).map (·.2)=assign e X.env::(assignEach es X.env).map (·.2):=by rfl):Mi X (e::es) (JK t u):=⟨by
 have h1:=h1.h;have h2:=h2.h;intro pins s Z H vs us Q I r h;obtain⟨v,vr,e1,h⟩:=h;subst e1;cases r with
 | cons r rr=>
  rw[hs];refine assignInOrder_cons (dw (h1 pins s Z H _ _ _ I r h) λ_ s1 z'=>?_);obtain⟨Z1,H1,I1,q1⟩:=z';exact h2 pins s1 Z1 H1 _ _ Q I1 rr q1⟩
theorem qm{es:lc}{k:Nat}{t:GN}{n:Nat}(hc:X.calm=true)(h:Mi X es t)(hn:(assignEach es X.env).length=n:=by rfl)(hst:(assignEach es X.env).findIdx? (·.1)=none:=by rfl):QG X (.Tuple es k pos) (MQ X.K n t):=⟨by
 have h:=h.h;intro pins s Z H v u Q I r hw;obtain⟨a,xs,e1,hq,hl,hw⟩:=hw;subst e1;cases r;obtain⟨its,rv,ht,hz⟩:=I.tuple hq;refine assign_Tuple_tuple (I.ok.hd hc) ht (by simp[hn,<-hl,rv.length]) hst λh' hx=>?_;have I1:bc X pins Z H { s with heap:=h' }:=I.kept (t':=s.toks) λb o e=>hx b o (a6 (aN e)) e;exact h pins _ Z H xs _ Q I1 (by simpa using rv) hw⟩
theorem sZ{o i:Expr}{to ti:TE}{t:IQ}(ho:QE X o to)(hi:QE X i ti)(hs:MX X t)(ha:∀v,assign (.Subscript o i pos) X.env v=(do
   let ov <-holding [v] (eval o X.env)
   let iv <-holding [v,ov] (eval i X.env)
   standAt pos
   holding [v,ov,iv] (setItem ov iv v)
   release [v,ov,iv] []):=by intro _;rfl):QG X (.Subscript o i pos) (MR to ti t):=⟨by
 have ho:=ho.h;have hi:=hi.h;intro pins s Z H v u Q I r h;rw[ha];exists (Tx (dw (ho pins s Z H _ I h) λov s1 ⟨x,H1,I1,r1,q1⟩=>?_));exists (Tx (dw (hi pins s1 Z H1 _ I1 q1) λiv s2 ⟨y,H2,I2,r2,q2⟩=>?_));exists (Tq (wpAny_bind (Tx (dw (hs pins s2 Z H2 x y v ov iv u _ I2 r1 r2 r q2) λ_ s3 ⟨H3,I3,q3⟩=>?_))));exact wpAny_release ⟨Z,H3,I3,q3⟩⟩
theorem sY{tg e:Expr}{te:TE}{g:TG}(he:QE X e te)(hg:QG X tg g)(hs:swapsWithSole [tg] e pos.line X.env=pure false:=by rfl)(hw:swappedStores [tg] e X.env=pure none:=by rfl)(h1:(assignEach [tg] X.env).map (·.2)=[assign tg X.env]:=by rfl):QS X (.Assign [tg] e pos) (yx te g):=⟨by
 have he:=he.h;have hg:=hg.h;intro pins s Z H D I h;refine wpAny_Assign_stores (dw (he pins s Z H _ I h) λv s1 z'=>?_) hs hw;obtain⟨x,H1,I1,r1,q1⟩:=z';rw[h1];exact dw (hg pins s1 Z H1 x v _ I1 r1 q1) λ_ s2 q=>q⟩
theorem ak{i:Nat}{x:Str}{e:Expr}{te:TE}{pos':Pos}(hN:X.N.Nodup)(hi:X.N[i]? = some x)(hx:Loc X.env.scope x)(he:QE X e te)(hs:swapsWith e (some (.Name x pos')) pos.line X.env=pure false:=by rfl)(hf:X.fn x=true\/X.env.scope.names.lookup x=some .local:=by first | exact .inl rfl | exact .inr rfl | assumption):QS X (.Assign [.Name x pos'] e pos) (yx te (pw i)):=⟨by
 have he:=he.h;intro pins s Z H D I h;refine wpAny_Assign_Name (dw (he pins s Z H _ I h) λv s1 z'=>?_) hs;obtain⟨y,H1,I1,r1,q1⟩:=z';exact tI I1 hN hi hx r1 (λs2 I2=>⟨_,H1,I2,q1⟩) hf⟩
theorem pU{c:Expr}{body:List Stmt}{tc:TT}{tb:TS}(hp:PassesOwn (model X.prog X.w) X.A X.env X.xe)(hc:QT X c tc)(hb:jW X body tb):QS X (.While c body [] pos) (Jj tc tb):=⟨by
 have hc:=hc.h;have hb:=hb.h;intro pins s Z H D I h;obtain⟨W,⟨m0,w0⟩,turn⟩:=h;refine wpAny_While (codeAny_whileLoop (λn s'=>∃Z' H',bc X pins Z' H' s'/\W n Z' H') ?_ m0 ⟨Z,H,I,w0⟩);rintro n s1 ⟨Z1,H1,I1,w1⟩;refine UU hp (dw (hc pins s1 Z1 H1 _ I1 (turn n Z1 H1 w1)) λb s2 z'=>?_);obtain⟨H2,I2,q2⟩:=z';cases b with
 | true=>
  obtain⟨N,hN,q2⟩:=q2;rw[U2 rfl];refine UU hp (dw (hb pins s2 Z1 H2 _ I2 q2) λf s3 q3=>?_);cases f with
  | next=>
   obtain⟨Z3,H3,I3,n3⟩:=q3;obtain⟨m',hm,w3⟩:=hN Z3 H3 n3;exact⟨m',hm,Z3,H3,I3,w3⟩
  | cont=>
   obtain⟨Z3,H3,I3,n3⟩:=q3;obtain⟨m',hm,w3⟩:=hN Z3 H3 n3;exact⟨m',hm,Z3,H3,I3,w3⟩
  | brk=>exact q3
  | ret v=>exact q3
 | false=>
  rw[U1 au];exact US ⟨Z1,H2,I2,q2⟩⟩
theorem fH{l:Expr}{tl:TE}(hl:QE X l tl):QI X tg l (FX X.K tl):=⟨by
 have hl:=hl.h;intro pins s Z H R I h;refine dw (hl pins s Z H _ I h) λv s1 z'=>?_;obtain⟨x,H1,I1,r1,q1⟩:=z';obtain⟨a,e,⟨xs,hq⟩,q⟩:=q1;subst e;cases r1;obtain⟨its,rv,p,hz⟩:=I1.list hq;refine Tp p.isList ?_;refine⟨s1.heap.objs.size,[s1.heap.objs.size],_,_,H1,rfl,I1.kept (t':=s1.toks) λb o e=>aB _ e,B9 a _,⟨_,aP _ rfl,rfl,rfl⟩,λb hb=>?_,q⟩;have e:b=s1.heap.objs.size:=by simpa using hb
 subst e;exact I1.fpOk (aI _) (I1.hok.fresh (aI _))⟩
theorem HH{l:Expr}{tl:TE}(hl:QE X l tl):QI X tg l (Kb X.K tl):=⟨by
 have hl:=hl.h;intro pins s Z H R I h;refine dw (hl pins s Z H _ I h) λv s1 z'=>?_;obtain⟨x,H1,I1,r1,q1⟩:=z';obtain⟨a,e,⟨xs,hq⟩,q⟩:=q1;subst e;cases r1;obtain⟨its,rv,p,hz⟩:=I1.tuple hq;refine UV (show s1.heap.IsTuple a its.toArray from p) ?_;refine⟨s1.heap.objs.size,[s1.heap.objs.size],_,_,H1,rfl,I1.kept (t':=s1.toks) λb o e=>aB _ e,yp a _,⟨_,aP _ rfl,rfl,rfl⟩,λb hb=>?_,q⟩;have e:b=s1.heap.objs.size:=by simpa using hb
 subst e;exact I1.fpOk (aI _) (I1.hok.fresh (aI _))⟩
theorem i9 {a:Expr} {ta:TA} {p pos:Pos} (hg:Gl X "range") (hm:X.mg "range"=none) (ha:QA X [a] ta) (hs:starEach [a] X.env=[(false,eval a X.env)]:=by rfl):QI X tg (.Call (.Name "range" p) [a] [] pos) (v8 ta):=⟨by
 have ha:=ha.h;intro pins s Z H R I h;refine Call_ (jE I hg hm boot_range (bu (dw (ha pos pins s Z H _ I h) λus s1 z'=>?_) hs rfl));obtain⟨vs,H1,I1,r1,q1⟩:=z';obtain⟨j,e,q1,q2,q⟩:=q1;subst e;cases r1 with
 | cons r rr=>
  cases rr;obtain⟨t,rfl⟩:=r;exact call_range_1 (xT I1 (by lia) (by lia) q1 q2 (by simpa using q))⟩
theorem lK {a b:Expr} {ta:TA} {p pos:Pos} (hg:Gl X "range") (hm:X.mg "range"=none) (ha:QA X [a,b] ta) (hs:starEach [a,b] X.env=[(false,eval a X.env),(false,eval b X.env)]:=by rfl) (hs2:starEach [b] X.env=[(false,eval b X.env)]:=by rfl):QI X tg (.Call (.Name "range" p) [a,b] [] pos) (FW ta):=⟨by
 have ha:=ha.h;intro pins s Z H R I h;refine Call_ (jE I hg hm boot_range (bu (dw (ha pos pins s Z H _ I h) λus s1 z'=>?_) (by rw[hs,hs2]) (by rw[hs2];rfl)));obtain⟨vs,H1,I1,r1,q1⟩:=z';obtain⟨i,j,e,⟨q1,q2,q3,q4⟩,q⟩:=q1;subst e;cases r1 with
 | cons r rr=>
  cases rr with
  | cons r' rr=>
   cases rr;obtain⟨t,rfl⟩:=r;obtain⟨t',rfl⟩:=r';exact call_range_2 (xT I1 q1 q2 q3 q4 q)⟩
theorem dc{iter:Expr}{body:List Stmt}{wi:TI}{g:TG}{tb:TS}{pos:Pos}(hp:PassesOwn (model X.prog X.w) X.A X.env X.xe)(hc:X.calm=true)(hi:QI X tg iter wi)(hg:QG X tg g)(hb:jW X body tb)(hs:∀x,foldedSetIterable iter X.env x=pure x:=by intro _;rfl):QS X (.For tg iter body [] pos) (rK wi g tb):=⟨by
 have hi:=hi.h;have hg:=hg.h;have hb:=hb.h;intro pins s Z H D I h;refine wpAny_For (dw (hi pins s Z H _ I h) λv s1 h1=>dw h1 λitv s2 h2=>?_) hs;obtain⟨it,fp,tn,J,H2,e,I2,T,st2,f2,W,⟨m0,w0⟩,turn⟩:=h2;subst e;have stat:∀{H':Hp},(∀b∈fp,H' b=none)->∀b∈fp,ke X pins H' b:=λhn b hb=>⟨hn b hb,(f2 b hb).2⟩
 refine codeAny_forLoop_any (λn s'=>∃i Z' H',bc X pins Z' H' s'/\tn i s'.heap/\(∀b∈fp,H' b=none)/\W i n Z' H') ?_ m0 ⟨0,Z,H2,I2,st2,λb hb=>(f2 b hb).1,w0⟩;rintro n s3 ⟨i,Z3,H3,I3,st3,fr3,w3⟩;rcases turn i n Z3 H3 w3 with ⟨stop,qn⟩ | ⟨go,N,hN,step⟩
 .refine UU hp (dw (T.done X rfl rfl rfl hc i pins s3 Z3 H3 X.xe I3 (stat fr3) st3 stop) λr s4 z'=>?_);obtain⟨hr,I4⟩:=z';subst hr;exact US ⟨Z3,H3,I4,qn⟩
 .refine UU hp (dw (T.item X rfl rfl rfl hc i pins s3 Z3 H3 X.xe I3 (stat fr3) st3 go) λr s4 z'=>?_);obtain⟨u,hr,h4⟩:=z';subst hr;refine UU hp (dw h4 λ_ s5 z'=>?_);obtain⟨x,H5,I5,r5,y5,st5,fr5⟩:=z';have I5':=I5.pinned (stat fr5) (T.obj _ _ st5);refine UU hp (dw (hg _ s5 Z3 H5 x u _ I5' r5 (step x H5 y5)) λ_ s6 z'=>?_);obtain⟨Z6,H6,I6,q6⟩:=z';refine UU hp (dw (hb _ s6 Z6 H6 _ I6 q6) λf s7 q7=>?_);have again:∀{Z7:St} {H7:Hp},bc X (pins++mH fp s5.heap) Z7 H7 s7->N Z7 H7->∃m,m<n/\∃i Z' H',bc X pins Z' H' s7/\tn i s7.heap/\(∀b∈fp,H' b=none)/\W i m Z' H':=fun {Z7 H7} I7 n7=>by
   obtain⟨m',hm,w7⟩:=hN Z7 H7 n7;refine⟨m',hm,i+1,Z7,H7,I7.unpinned,T.keep _ _ _ st5 λb hb o e=>(I7.pin (b,o) (bM _ (bM _ (gv hb e)))).1,λb hb=>?_,w7⟩;obtain⟨o,e,d⟩:=T.obj _ _ st5 b hb;exact(I7.pin (b,o) (bM _ (bM _ (gv hb e)))).2.1
  cases f with
  | next=>obtain⟨Z7,H7,I7,n7⟩:=q7;exact again I7 n7
  | cont=>obtain⟨Z7,H7,I7,n7⟩:=q7;exact again I7 n7
  | brk=>obtain⟨Z7,H7,I7,q7⟩:=q7;exact⟨Z7,H7,I7.unpinned,q7⟩
  | ret v=>obtain⟨x7,Z7,H7,I7,r7,q7⟩:=q7;exact⟨x7,Z7,H7,I7.unpinned,r7,q7⟩⟩
theorem aw{op:Operator}{r:R2}(ho:qF X (binaryOp op) r)(ha:QE X a ta)(hb:QE X b tb):QE X (.BinOp a op b pos) (LC r ta tb):=⟨by
 have ha:=ha.h;have hb:=hb.h;intro pins s Z H Q I h;exact wpAny_BinOp (Kl ha hb I h λv u s2 x y H2 I2 rx ry q=>ho pins s2 Z H2 x y v u Q I2 rx ry q)⟩
theorem oq{op:UnaryOp}{r:V->Hp->VK->Prop}(ho:NO X (unaryOp op) r)(ha:QE X a ta):QE X (.UnaryOp op a pos) (N0 r ta):=⟨by
 have ha:=ha.h;intro pins s Z H Q I h;exact UnaryOp_ (dw (ha pins s Z H _ I h) (by rintro v s1 ⟨x,H1,I1,r1,q1⟩;exact ho pins s1 Z H1 x v Q I1 r1 q1))⟩
theorem cm{op:CmpOp}{r:R2}(ho:qF X (compareOp op) r)(ha:QE X a ta)(hb:QE X b tb)(hm:behindInMarks op b=false):QE X (.Compare a [op] [b] pos) (LC r ta tb):=⟨by
 have ha:=ha.h;have hb:=hb.h;intro pins s Z H Q I h;exact wpAny_Compare1 (Kl ha hb I h λv u s2 x y H2 I2 rx ry q=>ho pins s2 Z H2 x y v u Q I2 rx ry q) hm⟩
theorem bO{op:CmpOp}{r:R2}(ho:qF X (compareOp op) r)(ha:QE X a ta)(hb:QE X b tb)(hm:behindInMarks op b=false):QT X (.Compare a [op] [b] pos) (A9 (LC r ta tb)):=⟨by
 have ha:=ha.h;have hb:=hb.h;intro pins s Z H Q I h;refine wpAny_isTrue_Compare1 (dw (ha pins s Z H _ I h) λv s1 ⟨x,H1,I1,r1,q1⟩=>dw (hb pins s1 Z H1 _ I1 q1) λu s2 ⟨y,H2,I2,r2,q2⟩=>
  dw (ho pins s2 Z H2 x y v u _ I2 r1 r2 q2) λc s3 ⟨z,H3,I3,r3,k,e,q3⟩=>?_) hm
 subst e;cases r3;exact Tf ⟨H3,I3,q3⟩⟩
theorem vG{op op':CmpOp}{r r':R2}(ho:qF X (compareOp op) r)(ho':qF X (compareOp op') r')(ha:QE X a ta)(hb:QE X b tb)(hc:QE X c tc)(hm:lastMarks [op,op'] [b,c]=false:=by with_unfolding_all rfl):QT X (.Compare a [op,op'] [b,c] pos) (A9 (Dl r r' ta tb tc)):=⟨by
 have ha:=ha.h;have hb:=hb.h;have hc:=hc.h;intro pins s Z H Q I h;refine isTrue_chain (dw (ha pins s Z H _ I h) λv s1 ⟨x,H1,I1,r1,q1⟩=>test_link (dw (hb pins s1 Z H1 _ I1 q1) λu s2 ⟨y,H2,I2,r2,q2⟩=>
  dw (ho pins s2 Z H2 x y v u _ I2 r1 r2 q2) λd s3 ⟨z,H3,I3,r3,k,e,q3⟩=>?_)) hm
 subst e;cases r3;refine Tf ?_;cases k with
 | false=>
  obtain⟨k',e',q'⟩:=q3;cases e';exact ite_ff ⟨H3,I3,q'⟩
 | true=>
  refine ite_tt (test_last (dw (hc pins s3 Z H3 _ I3 q3) λw' s4 ⟨z',H4,I4,r4,q4⟩=>dw (ho' pins s4 Z H4 y z' u w' _ I4 r2 r4 q4) λd' s5 z'=>?_));obtain⟨z2,H5,I5,r5,k2,e2,q5⟩:=z';subst e2;cases r5;exact Tf ⟨H5,I5,q5⟩⟩
theorem aC  : QA X [] Jk:=⟨zP ⟩
end
section
variable {X:Cx}{e:Expr}{es:lc}{te:TE}{t:TA}{pos:Pos}{x:Str}{p:Pos}{id:String}{r:List V->Hp->VK->Prop}{T:String}{lo hi:Option Expr}{tl th:TO}{p2:Pos}{a b:Expr}{ta tb:TE}
theorem qo(ha:QE X e te)(hr:QA X es t)(hs:starEach (e::es) X.env=(false,eval e X.env)::starEach es X.env:=by rfl):QA X (e::es) (oF te t):=⟨iZ ha.h hr.h hs⟩
theorem eM{x1}(h:QA X es t):QE X (.Tuple es x1 pos) (Le t):=⟨by
 have h:=h.h;intro pins s Z H Q I hq;refine wpAny_Tuple_spliced (dw (h pos pins s Z H _ I hq) λus s1 ⟨xs,H1,I1,r,z,q⟩=>⟨by rw[<-r.length];exact z,?_⟩);have hf:H1 s1.heap.objs.size=none:=I1.hok.fresh (aI _);refine⟨.ref s1.heap.objs.size,upd H1 s1.heap.objs.size (.tup xs),I1.laid (t':=s1.toks) (λb u e=>aB _ e) (aI _) ?_,rfl,q _ hf⟩;exact⟨z,us,r,⟨_,aP _ rfl,rfl,_,rfl⟩⟩⟩
theorem ce(h:QA X es t):QE X (.List es pos) (Lm t):=⟨by
 have h:=h.h;intro pins s Z H Q I hq;refine wpAny_List_spliced (dw (h pos pins s Z H _ I hq) λus s1 ⟨xs,H1,I1,r,z,q⟩=>⟨by rw[<-r.length];exact z,?_⟩);have hf:H1 s1.heap.objs.size=none:=I1.hok.fresh (aI _);refine⟨.ref s1.heap.objs.size,upd H1 s1.heap.objs.size (.lst xs),I1.laid (t':=s1.toks) (λb u e=>aB _ e) (aI _) ?_,rfl,q _ hf⟩;exact⟨z,us,0,r,aP _ rfl⟩⟩
theorem ac (hc:iY X (.builtin id) r) (hg:Gl X x) (hm:X.mg x=none) (hv:bootBuiltins x=some (.builtin id)) (ha:QA X (e::es) t) (hn:x≠"__name__":=by decide) (hdb:(x==("__debug__":Str))=false:=by decide) (he:starEach (e::es) X.env=(false,eval e X.env)::starEach es X.env:=by rfl) (hpl:(backTo pos (starEach es X.env)).any (·.1)=false:=by rfl):QE X (.Call (.Name x p) (e::es) [] pos) (Mr r t):=⟨by
 have ha:=ha.h;intro pins s Z H Q I h;refine Tl (jE I hg hm hv ?_ hn hdb);exact gB (dw (ha pos pins s Z H _ I h) (by rintro us s1 ⟨vs,H1,I1,r1,q1⟩;exact hc pins s1 Z H1 vs us Q I1 r1 q1)) he hpl⟩
theorem dE (hc:iY X (.type T) r) (hg:Gl X x) (hm:X.mg x=none) (hv:bootBuiltins x=some (.type T)) (ha:QA X (e::es) t) (hn:x≠"__name__":=by decide) (hdb:(x==("__debug__":Str))=false:=by decide) (he:starEach (e::es) X.env=(false,eval e X.env)::starEach es X.env:=by rfl) (hpl:(backTo pos (starEach es X.env)).any (·.1)=false:=by rfl):QE X (.Call (.Name x p) (e::es) [] pos) (Mr r t):=⟨by
 have ha:=ha.h;intro pins s Z H Q I h;refine Tl (jE I hg hm hv ?_ hn hdb);exact bu (dw (ha pos pins s Z H _ I h) (by rintro us s1 ⟨vs,H1,I1,r1,q1⟩;exact hc pins s1 Z H1 vs us Q I1 r1 q1)) he hpl⟩
theorem qk(h:QE X e te):QO X (some e) (Il te):=⟨by
 have h:=h.h;intro pins s Z H Q I hw;rw[evalPart_some];refine dw (h pins s Z H _ I hw) λu s1 z'=>?_;obtain⟨x,H1,I1,r1,q1⟩:=z';obtain⟨i,rfl,q⟩:=q1;obtain⟨t,rfl⟩:=r1;exact⟨some i,H1,I1,.int i t,q⟩⟩
theorem vI{r:V->Option Int->Option Int->Hp->VK->Prop}(hr:NQ X r)(he:QE X e te)(hl:QO X lo tl)(hu:QO X hi th):QE X (.Subscript e (.Slice lo hi none p2) pos) (N1 r te tl th):=⟨by
 have he:=he.h;have hl:=hl.h;have hu:=hu.h;intro pins s Z H Q I h;refine Subscript_ (dw (he pins s Z H _ I h) λv s1 z'=>?_);obtain⟨x,H1,I1,r1,q1⟩:=z';refine wpAny_Slice (dw (hl pins s1 Z H1 _ I1 q1) λvl s2 ⟨l,H2,I2,pl,q2⟩=>dw (hu pins s2 Z H2 _ I2 q2) λvu s3 z'=>?_);obtain⟨u,H3,I3,pu,q3⟩:=z';rw[evalPart_none];refine wpAny_pure ?_;have I4:bc X pins Z H3 { s3 with heap:=s3.heap.push { cls:=.type "slice",data:=.fields #[vl,vu,.none] } }:=I3.kept (t':=s3.toks) λb ob q=>aB _ q;obtain⟨T,id,hT,ht,hg⟩:=hr pins { s3 with heap:=s3.heap.push { cls:=.type "slice",data:=.fields #[vl,vu,.none] } } Z H3 x v vl vu l u s3.heap.objs.size Q I4 r1 (Heap.IsSliceOf.new ..) pl pu q3;show wpAny (model X.prog X.w) X.A (subscriptTail e (.Slice lo hi none p2) v (.ref s3.heap.objs.size)) (EP X pins Z Q) X.xe { s3 with heap:=s3.heap.push { cls:=.type "slice",data:=.fields #[vl,vu,.none] } };exact tail_any (ops:=[.ref s3.heap.objs.size,v]) ht hT hg (by with_unfolding_all rfl)⟩
theorem aS{r:R2}(hr:GK X r)(ha:QE X a ta)(hb:QE X b tb)(hs:IS b):QE X (.Subscript a b pos) (LC r ta tb):=⟨by
 have ha:=ha.h;have hb:=hb.h;intro pins s Z H Q I h;exact Subscript_ (Kl ha hb I h λv u s2 x y H2 I2 rx ry q=>hr a b pins s2 Z H2 x y v u Q I2 rx ry q (hs _ _))⟩
end
section
variable {X:Cx}{o:Expr}{to:TE}{name:Str}{apos cpos:Pos}{T id:String}{r:V->List V->Hp->VK->Prop}{a:Expr}{e:Expr}{es:lc}{t:TA}
theorem Ay (pa:PlainAttrs T) (slot:Slot T name id) (hty:typeOf (.builtin id)=pure (.type "method_descriptor")) (hm:NS X id r) (ho:QE X o to) (hbase:attributeBase o name X.env (eval o X.env)=eval o X.env:=by rfl) (hline:(apos.endLine==cpos.line)=true:=by rfl):QE X (.Call (.Attribute o name apos) [] [] cpos) (Lr X.K T r to):=⟨by
 have ho:=ho.h;intro pins s Z H Q I h;refine wpAny_Call_method0_late hbase hline (dw (ho pins s Z H _ I h) λv s1 z'=>?_);obtain⟨x,H1,I1,r1,ty,q1⟩:=z';obtain⟨h1,h2⟩:=D5 I1 r1 ty;exact⟨T,id,pa,slot,hty,h1,h2,Calls.callWith_builtin rfl (PySem.evalArgs_none (hm pins s1 Z H1 x [] v [] Q I1 r1 .nil q1))⟩⟩
theorem ef (pa:PlainAttrs T) (slot:Slot T name id) (hty:typeOf (.builtin id)=pure (.type "method_descriptor")) (hm:NS X id r) (ho:QE X o to) (ha:QA X (e::es) t) (hbase:attributeBase o name X.env (eval o X.env)=eval o X.env:=by rfl) (hfew:((backTo cpos (starEach (e::es) X.env)).all (λx=>!x.1)&&(backToKw cpos (keywordEach [] X.env)).all (λx=>x.1.isSome)
   && decide ((e::es).length+([]:List Keyword).length+(if ([]:List Keyword).isEmpty then 0 else 1)<30))=true:=by rfl) (hline:(apos.endLine==cpos.line)=true:=by rfl) (hs:starEach (e::es) X.env=(false,eval e X.env)::starEach es X.env:=by rfl) (hplain:(backTo cpos (starEach es X.env)).any (·.1)=false:=by rfl):QE X (.Call (.Attribute o name apos) (e::es) [] cpos) (M8 X.K T r to t):=⟨by
 have ho:=ho.h;have ha:=ha.h;intro pins s Z H Q I h;refine wpAny_Call_method_late hbase hfew hline rfl (dw (ho pins s Z H _ I h) λv s1 z'=>?_);obtain⟨x,H1,I1,r1,ty,q1⟩:=z';obtain⟨h1,h2⟩:=D5 I1 r1 ty;refine⟨T,id,pa,slot,hty,h1,h2,?_⟩;have hA:=ha cpos pins s1 Z H1 _ I1 q1;rw[hs] at hA |-;refine Calls.callWith_builtin (by show (false || (backTo cpos (starEach es X.env)).any (·.1))=false;rw[hplain]<;>rfl) (Calls.evalArgs_plain ?_);exact dw hA (by rintro us s2 ⟨vs,H2,I2,r2,q2⟩;exact hm pins s2 Z H2 x vs v us Q I2 r1 r2 q2)
/- xs.append(e),list.index on a module's tuple .. are NS facts of 06m -/⟩
theorem ae (i:Nat) {x:Str} {pos:Pos} (hN:X.N[i]? = some x:=by rfl) (hv:MU X.env.scope x:=by first | exact Or.inl rfl | exact Or.inr (Or.inl rfl) | exact Or.inr (Or.inr rfl)) (hd:(x==("__debug__":Str))=false:=by decide) (hcd:(x==("__classdict__":Str))=false:=by decide):QE X (.Name x pos) (yr i):=⟨pv i hN hv hd hcd⟩
theorem zK{a b c d:Expr}{ta tb tc td:TE}{pos:Pos}{op op' op2:CmpOp}{r r' r2:R2}(ho:qF X (compareOp op) r)(ho':qF X (compareOp op') r')(ho2:qF X (compareOp op2) r2)(ha:QE X a ta)(hb:QE X b tb)(hc:QE X c tc)(hd:QE X d td)(hm:lastMarks [op,op',op2] [b,c,d]=false:=by with_unfolding_all rfl):QT X (.Compare a [op,op',op2] [b,c,d] pos) (A9 (Ab r r' r2 ta tb tc td)):=⟨by
 have ha:=ha.h;have hb:=hb.h;have hc:=hc.h;have hd:=hd.h;intro pins s Z H Q I h;refine isTrue_chain (dw (ha pins s Z H _ I h) λv s1 ⟨x,H1,I1,r1,q1⟩=>test_link (dw (hb pins s1 Z H1 _ I1 q1) λu s2 ⟨y,H2,I2,r2',q2⟩=>
  dw (ho pins s2 Z H2 x y v u _ I2 r1 r2' q2) λe s3 ⟨z,H3,I3,r3,k,ek,q3⟩=>?_)) hm
 subst ek;cases r3;refine Tf ?_;cases k with
 | false=>
  obtain⟨k',e',q'⟩:=q3;cases e';exact ite_ff ⟨H3,I3,q'⟩
 | true=>
  refine ite_tt (test_link (dw (hc pins s3 Z H3 _ I3 q3) λw' s4 ⟨z',H4,I4,r4,q4⟩=>dw (ho' pins s4 Z H4 y z' u w' _ I4 r2' r4 q4) λd' s5 z'=>?_));obtain⟨z2,H5,I5,r5,k2,e2,q5⟩:=z';subst e2;cases r5;refine Tf ?_;cases k2 with
  | false=>
   obtain⟨k',e',q'⟩:=q5;cases e';exact ite_ff ⟨H5,I5,q'⟩
  | true=>
   refine ite_tt (test_last (dw (hd pins s5 Z H5 _ I5 q5) λw2 s6 ⟨z6,H6,I6,r6,q6⟩=>dw (ho2 pins s6 Z H6 z' z6 w' w2 _ I6 r4 r6 q6) λd7 s7 z'=>?_));obtain⟨z7,H7,I7,r7,k7,e7,q7⟩:=z';subst e7;cases r7;exact Tf ⟨H7,I7,q7⟩⟩
end
section
theorem Br {X:Cx} {x:Str} {i:Int} {pos:Pos} (hg:Gl X x) (hm:∃t,X.mg x=some (.int i t)) (hd:(x==("__debug__":Str))=false:=by decide):QE X (.Name x pos) (tC (.int i)):=⟨let ⟨t,h⟩:=hm
 se hg h ⟨t,rfl⟩ hd⟩
end
section
theorem bF {X:Cx} {k:Nat} {x:Str} {st:Stmt} {ps:List Str} {sp:Sp} {e:Expr} {es:lc} {t:TA} {p pos:Pos} (D:fU X.prog X.w X.K X.mg X.base k x st ps sp) (hr:fj k X.A) (hg:Gl X x) (ha:QA X (e::es) t) (hdb:(x==("__debug__":Str))=false:=by decide) (he:starEach (e::es) X.env=(false,eval e X.env)::starEach es X.env:=by rfl) (hpl:(backTo pos (starEach es X.env)).any (·.1)=false:=by rfl):QE X (.Call (.Name x p) (e::es) [] pos) (tH sp [] E0 t):=⟨by
 have ha:=ha.h;obtain⟨f,fd,F,m,b,G⟩:=D.ex;exact wL G hr hg m F.kp b .nil MF ha hdb he hpl⟩
end
section
theorem Aw{X:Cx}{tg l:Expr}{tl:TE}(hl:QE X l tl):QI X tg l (Kc tl):=⟨by
 have hl:=hl.h;intro pins s Z H R I h;refine dw (hl pins s Z H _ I h) λv s1 z'=>?_;obtain⟨x,H1,I1,r1,z,e,ha,q⟩:=z';subst e;obtain⟨t,rfl⟩:=r1;refine wpAny_pyIter_ascii ha ?_;exact⟨s1.heap.objs.size,[s1.heap.objs.size],_,_,H1,rfl,I1.kept (t':=s1.toks) λb o e=>aB _ e,Dc _ z t,⟨_,aP _ rfl,rfl,rfl⟩,
  λb hb=>by
   have e:b=s1.heap.objs.size:=by simpa using hb
   subst e;exact I1.fpOk (aI _) (I1.hok.fresh (aI _)),q⟩⟩
end
section
theorem nV{X:Cx}:QF X [] wu:=⟨λ_ _ _ H _ I h=>wpAny_pure ⟨H,I,h⟩⟩
end
section
theorem Ax{X:Cx}{c:Expr}{t:TT}(h:QT X c t):QF X [c] t:=⟨by
 have h:=h.h;intro pins s Z H Q I hq;rw[kK];simp only[U7,bind_assoc,pure_bind];exists (dw (h pins s Z H Q I hq) λb s1 q=>?_);exact wpAny_pure q⟩
end
section
variable {X:Cx}{H:Hp}{s:Shared}
theorem lL{own ns:List Str}{caps:im}{elt tg iter:Expr}{ifs:lc}{scope:Scope}{pos:Pos}{wi:TI}{g:TG}{tf:TT}{te:TE}(hc:X.calm=true)(S:oC scope ns)(cp:oB X scope ns caps)(hi:QI X tg iter wi)(hg:∀C s H fp pn,QG (sO X (own++ns) scope C s H fp pn) tg g)(ht:∀C s H fp pn,QF (sO X (own++ns) scope C s H fp pn) ifs tf)(he:∀C s H fp pn,QE (sO X (own++ns) scope C s H fp pn) elt te)(hs:∀x,foldedSetIterable iter X.env x=pure x:=by intro _;rfl):QE X (.ListComp elt [⟨tg,iter,ifs,0⟩] scope pos) (pd own.length caps wi g tf te):=⟨HM hc S cp hi.h (λC s H fp pn=>(hg C s H fp pn).h) (λC s H fp pn=>(ht C s H fp pn).h) (λC s H fp pn=>(he C s H fp pn).h) hs⟩
theorem ER{i:Nat}{x:Str}{own ns:List Str}{caps:im}{elt tg iter:Expr}{ifs:lc}{scope:Scope}{pos pos' spos:Pos}{wi:TI}{g:TG}{tf:TT}{te:TE}(hN:X.N.Nodup)(hi:X.N[i]? = some x)(hx:Loc X.env.scope x)(hc:X.calm=true)(S:oC scope ns)(cp:oB X scope ns caps)(hit:QI X tg iter wi)(hg:∀C s H fp pn,QG (sO X (own++ns) scope C s H fp pn) tg g)(ht:∀C s H fp pn,QF (sO X (own++ns) scope C s H fp pn) ifs tf)(he:∀C s H fp pn,QE (sO X (own++ns) scope C s H fp pn) elt te)(hs:∀x,foldedSetIterable iter X.env x=pure x:=by intro _;rfl)(hsw:swapsWith (.ListComp elt [⟨tg,iter,ifs,0⟩] scope pos) (some (.Name x pos')) spos.line X.env=pure true:=by rfl)(hf:X.fn x=true\/X.env.scope.names.lookup x=some .local:=by first | exact .inl rfl | exact .inr rfl | assumption):QS X (.Assign [.Name x pos'] (.ListComp elt [⟨tg,iter,ifs,0⟩] scope pos) spos) (yx (pd own.length caps wi g tf te) (pw i)):=⟨HK hN hi hx hc S cp hit.h (λC s H fp pn=>(hg C s H fp pn).h) (λC s H fp pn=>(ht C s H fp pn).h) (λC s H fp pn=>(he C s H fp pn).h) hs hsw hf⟩
end
section
theorem vK {X:Cx} {x:Str} {K:U9} {xs:List V} {pos:Pos} (hg:Gl X x) (hm:∃a,X.mg x=some (.ref a)/\∀H,cj K H a xs) (hd:(x==("__debug__":Str))=false:=by decide):QE X (.Name x pos) (Dh K xs):=⟨by
 obtain⟨a,h1,h2⟩:=hm;intro pins s Z H Q I h;exact se (v:=.ref a) hg h1 rfl hd pins s Z H Q I (h a h2)⟩
end
section
theorem bv{X:Cx}{st:Stmt}{rest:List Stmt}{t u:TS}(h1:QS X st t)(h2:jW X rest u):jW X (st::rest) (Lp t u):=⟨by
 have h1:=h1.h;have h2:=h2.h;intro pins s Z H D I h;obtain⟨J,h,hJ⟩:=h;refine UT (dw (h1 pins s Z H { D with nx:=J } I h) λf s1 q=>?_);cases f with
 | next=>
  obtain⟨Z',H',I',q⟩:=q;exact h2 pins s1 Z' H' D I' (hJ _ _ q)
 | ret v=>exact q
 | brk=>exact q
 | cont=>exact q⟩
end
section
variable {X:Cx}{es:lc}{te:TE}{t:TA}{o i:Expr}{pos:Pos}{td ty:TE}{value:Expr}{pos':Pos}{tv:TE}
theorem dn{a0:PySem.Expr}{a1:PySem.Operator}{a2:PySem.Expr}{a3:PySem.Pos}(ha:QE X (Expr.BinOp a0 a1 a2 a3) te)(hr:QA X es t):QA X ((Expr.BinOp a0 a1 a2 a3)::es) (oF te t):=⟨have ha:=ha.h;have hr:=hr.h;iZ ha hr rfl⟩
theorem iE{a0:PySem.Expr}{a1:List Comprehension}{a2:PySem.Scope}{a3:PySem.Pos}(ha:QE X (Expr.ListComp a0 a1 a2 a3) te)(hr:QA X es t):QA X ((Expr.ListComp a0 a1 a2 a3)::es) (oF te t):=⟨have ha:=ha.h;have hr:=hr.h;iZ ha hr rfl⟩
theorem iu{a0:PySem.Expr}{a1:List CmpOp}{a2:lc}{a3:PySem.Pos}(ha:QE X (Expr.Compare a0 a1 a2 a3) te)(hr:QA X es t):QA X ((Expr.Compare a0 a1 a2 a3)::es) (oF te t):=⟨have ha:=ha.h;have hr:=hr.h;iZ ha hr rfl⟩
theorem cV{a0:PySem.Expr}{a1:lc}{a2:List Keyword}{a3:PySem.Pos}(ha:QE X (Expr.Call a0 a1 a2 a3) te)(hr:QA X es t):QA X ((Expr.Call a0 a1 a2 a3)::es) (oF te t):=⟨have ha:=ha.h;have hr:=hr.h;iZ ha hr rfl⟩
theorem bx{a0:PySem.Const}{a1:Nat}{a2:PySem.Pos}(ha:QE X (Expr.Constant a0 a1 a2) te)(hr:QA X es t):QA X ((Expr.Constant a0 a1 a2)::es) (oF te t):=⟨have ha:=ha.h;have hr:=hr.h;iZ ha hr rfl⟩
theorem a8{a0:PySem.Expr}{a1:PySem.Expr}{a2:PySem.Pos}(ha:QE X (Expr.Subscript a0 a1 a2) te)(hr:QA X es t):QA X ((Expr.Subscript a0 a1 a2)::es) (oF te t):=⟨have ha:=ha.h;have hr:=hr.h;iZ ha hr rfl⟩
theorem aF{a0:PySem.Str}{a1:PySem.Pos}(ha:QE X (Expr.Name a0 a1) te)(hr:QA X es t):QA X ((Expr.Name a0 a1)::es) (oF te t):=⟨have ha:=ha.h;have hr:=hr.h;iZ ha hr rfl⟩
theorem mZ{a0:lc}{a1:PySem.Pos}(ha:QE X (Expr.List a0 a1) te)(hr:QA X es t):QA X ((Expr.List a0 a1)::es) (oF te t):=⟨have ha:=ha.h;have hr:=hr.h;iZ ha hr rfl⟩
theorem eE{a0:lc}{a1:Nat}{a2:PySem.Pos}(ha:QE X (Expr.Tuple a0 a1 a2) te)(hr:QA X es t):QA X ((Expr.Tuple a0 a1 a2)::es) (oF te t):=⟨have ha:=ha.h;have hr:=hr.h;iZ ha hr rfl⟩
theorem jr(hu:X.A.units+1<cLine)(ho:QE X o td)(hi:QE X i ty)(hs:MY i):QE X (.Subscript o i pos) (Iv td ty):=⟨by
 have ho:=ho.h;have hi:=hi.h;intro pins s Z H Q I h;refine Gi PySem.F.slot_dict_getitem.lookup hs (dw (ho pins s Z H _ I h) λu s1 ⟨x,H1,I1,rx,q1⟩=>dw (hi pins s1 Z H1 _ I1 q1) λiv s2 z'=>?_);obtain⟨y,H2,I2,ry,a,v,ex,g,q2⟩:=z';subst ex;obtain rfl:u=Value.ref a:=rx;exact⟨yO I2 g,C6 hu I2 g ry λw' s3 I3 rw'=>⟨v,H2,I3,rw',q2⟩⟩⟩
theorem tZ(hu:X.A.units+1<cLine)(ho:QE X o td)(hi:QE X i ty)(hv:QE X value tv)(hs:swapsWith value (some (.Subscript o i pos')) pos.line X.env=pure false):QS X (.Assign [.Subscript o i pos'] value pos) (JA td ty tv):=⟨by
 have ho:=ho.h;have hi:=hi.h;have hv:=hv.h;intro pins s Z H D I h;refine wpAny_Assign_Subscript (dw (hv pins s Z H _ I h) λr s1 ⟨v,H1,I1,rv,q1⟩=>dw (ho pins s1 Z H1 _ I1 q1) λu s2 ⟨x,H2,I2,rx,q2⟩=>dw (hi pins s2 Z H2 _ I2 q2) λiv s3 z'=>?_) hs;obtain⟨y,H3,I3,ry,a,H4,ex,g,q3⟩:=z';subst ex;obtain rfl:u=Value.ref a:=rx;exact C5 hu I3 g ry rv λs4 I4=>⟨Z,H4,I4,q3⟩⟩
theorem Bt  : QE X (.Dict [] [] pos) Dk:=⟨λpins s Z H Q I h=>
 wpAny_Dict_empty ⟨.ref s.heap.objs.size,_,I.laid (a:=s.heap.objs.size) (o:=.dK []) (t':=s.toks) (λ_ _ q=>aB _ q) (aI _) (yN s.heap I.big),rfl,h _ (I.hok.fresh (aI _))⟩⟩
theorem Bs  : QE X (.Dict [] [] pos) Dj:=⟨λpins s Z H Q I h=>
 wpAny_Dict_empty ⟨.ref s.heap.objs.size,_,I.laid (a:=s.heap.objs.size) (o:=.dT []) (t':=s.toks) (λ_ _ q=>aB _ q) (aI _) (Fh s.heap I.big),rfl,h _ (I.hok.fresh (aI _))⟩⟩
end
section
theorem ET{X:Cx}{pos:Pos}:IR X pos [] [] []:=⟨λpins s Z H Q I h=>pairTrees_nil_walk ⟨[],H,I,.nil,h⟩⟩
end
section
theorem vH{X:Cx}{pos:Pos}{k v:Expr}{ks:List (Option Expr)}{vs:lc}{tk tv:TE}{trs:List (TE×TE)}(hk:QE X k tk)(hv:QE X v tv)(hr:IR X pos ks vs trs):IR X pos (some k::ks) (v::vs) ((tk,tv)::trs):=⟨have hk:=hk.h;have hv:=hv.h;have hr:=hr.h;λpins s Z H Q I h=>
 pairTrees_cons_walk (dw (hk pins s Z H _ I h) λu s1 ⟨x,H1,I1,rx,q1⟩=>dw (hv pins s1 Z H1 _ I1 q1) λw2 s2 ⟨y,H2,I2,ry,q2⟩=>
  dw (hr pins s2 Z H2 _ I2 q2) (by rintro ws s3 ⟨ps,H3,I3,rel,q3⟩;exact ⟨(x,y)::ps,H3,I3,.cons ⟨rx,ry⟩ rel,q3⟩))⟩
end
section
theorem EW{X:Cx}{pos:Pos}{keys:List (Option Expr)}{values:lc}{trs:List (TE×TE)}(h:IR X pos keys values trs)(hall:keys.all (·.isSome)=true)(hl:keys.length=values.length)(h0:keys≠[])(h15:keys.length<=15):QE X (.Dict keys values pos) (Iu trs):=⟨by
 have h:=h.h;intro pins s Z H Q I q;have hn:=I.hok.fresh (aI s.heap.objs.size);have I1:=I.laid (a:=s.heap.objs.size) (o:=.dK []) (h':=s.heap.push { cls:=.type "dict",data:=.dict #[] }) (t':=s.toks) (λ_ _ q=>aB _ q) (aI _) (yN s.heap I.big);refine wpAny_Dict_walk (knd:=fm X.prog X.w) hall hl h0 h15 (dw (h pins _ Z _ _ I1 (q _ hn)) λws s2 z'=>?_);obtain⟨ps,H2,I2,rel,e,kvs,ep,lk,q2⟩:=z';subst ep;obtain⟨rs,c,rk⟩:=uV (P:=X.prog) (w:=X.w) rel;obtain⟨z,hd,vs0,r0,dd⟩:=JM I2.hok e;cases r0;refine⟨rs,c,dd,λh' dd' hs=>⟨.ref s.heap.objs.size,_,?_,rfl,q2⟩⟩;have hz:(qL [] kvs).length<=sizeLine:=by
  have h1:=ph kvs [];rw[fR] at h1;rw[Tg];lia
 have he:∃q,h'.get? s.heap.objs.size=some q:=let ⟨q,_,_,hq,_⟩:=dd';⟨q,hq⟩;exact w4 I2 (by rw[e];exact True.intro) hs he (Fj hz hd (rk.merge .nil) dd')⟩
end
section
variable {X:Cx}{k:Nat}{f:Str}{st:Stmt}{ps:List Str}{sp:Sp}{e:Expr}{te:TE}{p p2 kp pos:Pos}{H:Hp}{s:Shared}{tg:Expr}
theorem Bp (D:fU X.prog X.w X.K X.mg X.base k f st ps sp) (hr:fj (k+2) X.A) (hg:Gl X "sorted") (hm:X.mg "sorted"=none) (hgf:Gl X f) (he:QE X e te) (hdf:(f==("__debug__":Str))=false:=by decide) (hs:starEach [e] X.env=[(false,eval e X.env)]:=by rfl):QE X (.Call (.Name "sorted" p) [e] [⟨some "key",.Name f p2,kp⟩] pos) (yt X.K sp te):=⟨E2 D hr hg hm hgf he.h hdf hs⟩
theorem xV {e e2:Expr} {te td:TE} {p kp pos:Pos} (hc:X.calm=true) (hg:Gl X "max") (hm:X.mg "max"=none) (he:QE X e te) (hd:QE X e2 td) (hs:starEach [e] X.env=[(false,eval e X.env)]:=by rfl):QE X (.Call (.Name "max" p) [e] [⟨some "default",e2,kp⟩] pos) (LC (Ar X.K) te td):=⟨by
 have he:=he.h;have hd:=hd.h;intro pins s Z H Q I h;refine Tl (jE I hg hm oU ?_);refine callWith_kw (dw (iZ he zP hs pos pins s Z H (λvs H1=>match vs with | [x]=>td Z H1 λy H2=>Ar X.K x y H2 Q | _=>False) I h) λus s1 z'=>?_) (by rw[hs];rfl) (by rw[hs];rfl);obtain⟨vs,H1,I1,r1,q1⟩:=z'
 match vs,r1,q1 with
 | [x],r1,q1=>
  obtain⟨u,rfl,rx⟩:=Th r1;refine kws_cons (dw (hd pins s1 Z H1 _ I1 q1) λv s2 ⟨y,H2,I2,ry,q2⟩=>kws_nil ?_);exact Cf hc I2 rx ry q2⟩
theorem Bl{i:Nat}{x:Str}{own ns:List Str}{caps:im}{elt tg iter:Expr}{ifs:lc}{scope:Scope}{pos pos' spos:Pos}{tl:TE}{g:TG}{tf:TT}{te:TE}(hN:X.N.Nodup)(hi:X.N[i]? = some x)(hx:Loc X.env.scope x)(hc:X.calm=true)(S:oC scope ns)(cp:oB X scope ns caps)(hit:QE X iter tl)(hg:∀C s H fp pn,QG (sO X (own++ns) scope C s H fp pn) tg g)(ht:∀C s H fp pn,QF (sO X (own++ns) scope C s H fp pn) ifs tf)(he:∀C s H fp pn,QE (sO X (own++ns) scope C s H fp pn) elt te)(hs:∀x,foldedSetIterable iter X.env x=pure x:=by intro _;rfl)(hsw:swapsWith (.ListComp elt [⟨tg,iter,ifs,0⟩] scope pos) (some (.Name x pos')) spos.line X.env=pure true:=by rfl)(hf:X.fn x=true\/X.env.scope.names.lookup x=some .local:=by first | exact .inl rfl | exact .inr rfl | assumption):QS X (.Assign [.Name x pos'] (.ListComp elt [⟨tg,iter,ifs,0⟩] scope pos) spos) (yx (yw own.length caps tl g tf te) (pw i)):=⟨EZ hN hi hx hc S cp hit.h (λC s H fp pn=>(hg C s H fp pn).h) (λC s H fp pn=>(ht C s H fp pn).h) (λC s H fp pn=>(he C s H fp pn).h) hs hsw hf⟩
theorem Bm {x:Str} {C:Addr} {bmB:ag} {B newId initId:String} {E:XK} {e:Expr} {es:lc} {t:TA} {np cpos pos:Pos} (R:MW X E) (O:OwnCls x C bmB newId X.mg X.base) (F:ExcBaseFacts B newId initId bmB) (hc:X.calm=true) (hg:Gl X x) (ha:QA X (e::es) t) (hdb:(x==("__debug__":Str))=false:=by decide) (he:starEach (e::es) X.env=(false,eval e X.env)::starEach es X.env:=by rfl) (hpl:(backTo cpos (starEach es X.env)).any (·.1)=false:=by rfl):QS X (.Raise (some (.Call (.Name x np) (e::es) [] cpos)) none pos) (Dg C E t):=⟨by
 have ha:=ha.h;intro pins s Z H D I h;obtain⟨bm,N,nm,q,bs,hdct,sn,sub,ab,col,dd,k0,k1,k2,k3,k5,mN,hC,hN,hi,ot⟩:=O.obj;have eq:backTo cpos (starEach (e::es) X.env)=(false,eval e X.env)::backTo cpos (starEach es X.env):=by rw[he];rfl
 have hb:(backTo cpos (starEach (e::es) X.env)).any (·.1)=false:=by rw[eq,f9,hpl];rfl
 refine wpAny_Raise_call_subT (nm:=nm) (q:=q) (N:=N) (bs:=bs) (hdct:=hdct) (sn:=sn) (sub:=sub) (ab:=ab) (col:=col) (dd:=dd) (k0:=k0) (k1:=k1) (k2:=k2) (k3:=k3) (k5:=k5) F (tF F.hasBase ot) (I.ok.hd hc) hb hi (jh I hg O.bound ⟨rfl,?_⟩ hdb);have pl:=ha cpos pins s Z H _ I h;rw[eq] at pl |-;refine Calls.evalArgs_plain (dw pl (by rintro us s1 ⟨vs,H1,I1,r,z,q1⟩;exact ⟨rfl,by rw[<-r.length];exact z,I1.bk _ _ hC,uB I1.bk hN,nP I1.bk ot,λh' a M=>R pins Z H1 s1 h' a C us I1 M q1⟩))⟩
theorem ES {a:Addr} {e:Expr} {ta:TA} {body:List Stmt} {g:TG} {tb:TS} {p ipos pos:Pos} (hp:PassesOwn (model X.prog X.w) X.A X.env X.xe) (hh:X.A.handled=some (.ref a)) (hgr:Gl X "range") (hm:X.mg "range"=none) (ha:QA X [e] ta) (hg:QG X tg g) (hb:jW X body tb) (hse:starEach [e] X.env=[(false,eval e X.env)]:=by rfl) (hs:∀x,foldedSetIterable (.Call (.Name "range" p) [e] [] ipos) X.env x=pure x:=by intro _;rfl):QS X (.For tg (.Call (.Name "range" p) [e] [] ipos) body [] pos) (Di a ta g tb):=⟨by
 have ha:=ha.h;have hg:=hg.h;have hb:=hb.h;intro pins s Z H D I h;unfold Di rK at h;refine wpAny_For (dw (Bz hgr hm ha hse pins s Z H _ I h) λv s1 h1=>dw h1 λitv s2 h2=>?_) hs;obtain⟨it,n,H2,e,I2,st2,f2,W,⟨m0,w0⟩,turn⟩:=h2;subst e;have stat:∀{H':Hp},H' it=none->∀b∈[it],ke X pins H' b:=λhn b hb=>by
  have e:b=it:=by simpa using hb
  subst e;exact⟨hn,f2.2⟩
 refine codeAny_forLoop_any (λm s'=>∃i Z' H',bc X pins Z' H' s'/\IsRangeIter s'.heap it (0+(i:Nat)*1) ((n:Int)-(i:Nat)) 1/\H' it=none/\W i m Z' H') ?_ m0 ⟨0,Z,H2,I2,st2,f2.1,w0⟩;rintro m s3 ⟨i,Z3,H3,I3,st3,fr3,w3⟩;obtain⟨f0,f1,f2',f3,f4,f5⟩:=stat fr3 it (by simp);rcases turn i m Z3 H3 w3 with ⟨stop,⟨C,dO,hC⟩,qn⟩ | ⟨go,N,hN,step⟩
 .have ct:yi dO a s3.heap:=by
   obtain⟨⟨_,c⟩,_⟩:=I3.hok a _ hC;exact c
  refine UU hp (sJ hh ct st3 (by have:n<=i:=stop;lia) λh' eb=>?_);exact US ⟨Z3,H3,I3.turned (t':=s3.toks) (λb o hb e=>eb b o hb e) f0 f1 f3 f4 f5,qn⟩
 .refine UU hp (wpAny_pyNext_range_item st3 (by have:i<n:=go;lia) λh' st' sb=>?_);have I4:bc X pins Z3 H3 { s3 with heap:=h',toks:=s3.toks+1 }:=I3.turned (λb o hb e=>(sb.2 b hb).trans e) f0 f1 f3 f4 f5;have st5:IsRangeIter h' it (0+((i+1:Nat):Int)*1) ((n:Int)-((i+1:Nat):Int)) 1:=by
   have e1:(0:Int)+((i+1:Nat):Int)*1=0+(i:Nat)*1+1:=by push_cast;lia
   have e2:(n:Int)-((i+1:Nat):Int)=(n:Int)-(i:Nat) - 1:=by push_cast;lia
   rw[e1,e2];exact st'
  refine UU hp (v9 (s:={ s3 with heap:=h',toks:=s3.toks+1 }) (n:="range_iterator") st' rfl rfl (by decide) ?_);have I5':=I4.pinned (fp:=[it]) (stat fr3) (λb hb=>by
   have e:b=it:=by simpa using hb
   subst e;exact⟨_,st5,λv z=>by
    have z':Data.fields _=Data.cell v:=z;cases z'⟩)
  refine UU hp (dw (hg _ _ Z3 H3 (.int (0+i)) _ _ I5' ⟨_,by rw[Int.mul_one]⟩ (step (.int (0+i)) H3 ⟨rfl,rfl⟩)) λ_ s6 z'=>?_);obtain⟨Z6,H6,I6,q6⟩:=z';refine UU hp (dw (hb _ s6 Z6 H6 _ I6 q6) λf s7 q7=>?_);have again:∀{Z7:St} {H7:Hp},bc X (pins++mH [it] h') Z7 H7 s7->N Z7 H7->∃m',m'<m/\∃i Z' H',bc X pins Z' H' s7/\IsRangeIter s7.heap it (0+(i:Nat)*1) ((n:Int)-(i:Nat)) 1/\H' it=none/\W i m' Z' H':=fun {Z7 H7} I7 n7=>by
   obtain⟨m',hm,w7⟩:=hN Z7 H7 n7;have pq:=I7.pin (it,_) (bM _ (bM _ (gv (by simp) st5)));exact⟨m',hm,i+1,Z7,H7,I7.unpinned,pq.1,pq.2.1,w7⟩
  cases f with
  | next=>obtain⟨Z7,H7,I7,n7⟩:=q7;exact again I7 n7
  | cont=>obtain⟨Z7,H7,I7,n7⟩:=q7;exact again I7 n7
  | brk=>obtain⟨Z7,H7,I7,q7⟩:=q7;exact⟨Z7,H7,I7.unpinned,q7.2⟩
  | ret v=>obtain⟨x7,Z7,H7,I7,r7,q7⟩:=q7;exact⟨x7,Z7,H7,I7.unpinned,r7,q7⟩⟩
theorem gL{st:Stmt}{t:TS}(h:QS X.nox st t):QS X st t:=⟨have h:=h.h;λpins s Z H D I hw=>
 wpAny_mono (h pins s Z H D (I.wish _) hw) (λ_ _ q=>q.unwish) λ_ _ z=>False.elim z⟩
theorem Av{e:Expr}{t:TT}(h:QT X.nox e t):QT X e t:=⟨have h:=h.h;h.nox⟩
theorem gV {x:Str} {C:Addr} {pos:Pos} (hg:Gl X x) (hm:X.mg x=some (.ref C)) (hd:(x==("__debug__":Str))=false:=by decide):QE X (.Name x pos) (tC (.ref C)):=⟨se hg hm rfl hd⟩
theorem Bu {k:Nat} {x:Str} {st:Stmt} {ps:List Str} {sp:Sp} {e:Expr} {es:lc} {t:TA} {p pos:Pos} (D:uq X.prog X.w X.K X.mg X.base k x st ps sp) (hr:fj k X.A) (hg:Gl X x) (ha:QA X (e::es) t) (hdb:(x==("__debug__":Str))=false:=by decide) (he:starEach (e::es) X.env=(false,eval e X.env)::starEach es X.env:=by rfl) (hpl:(backTo pos (starEach es X.env)).any (·.1)=false:=by rfl):QE X (.Call (.Name x p) (e::es) [] pos) (tH sp [] E0 t):=⟨by
 have ha:=ha.h;obtain⟨f,fd,F,m,b,G⟩:=D.ex;exact wL G hr hg m F.kp b .nil ME ha hdb he hpl⟩
theorem zO {a:Addr} {k:Nat} {x:Str} {st:Stmt} {ps:List Str} {sp:Addr->Sp} {e:Expr} {es:lc} {t:TA} {p pos:Pos} (D:IV X.prog X.w X.K X.mg X.base k x st ps sp) (hr:pF a k X.A) (hg:Gl X x) (ha:QA X (e::es) t) (hdb:(x==("__debug__":Str))=false:=by decide) (he:starEach (e::es) X.env=(false,eval e X.env)::starEach es X.env:=by rfl) (hpl:(backTo pos (starEach es X.env)).any (·.1)=false:=by rfl):QE X (.Call (.Name x p) (e::es) [] pos) (tH (sp a) [] E0 t):=⟨by
 have ha:=ha.h;obtain⟨f,fd,F,m,b,G⟩:=D.ex;exact E4 (G a) hr hg m F.kp b ha hdb he hpl⟩
end
section
theorem xW {X:Cx} {e:Expr} {te:TE} {p p2 pos2 pos:Pos} (hc:X.calm=true) (hgl:Gl X "list") (hml:X.mg "list"=none) (hgr:Gl X "reversed") (hmr:X.mg "reversed"=none) (he:QE X e te) (hs:starEach [.Call (.Name "reversed" p2) [e] [] pos2] X.env=[(false,eval (.Call (.Name "reversed" p2) [e] [] pos2) X.env)]:=by rfl) (hs2:starEach [e] X.env=[(false,eval e X.env)]:=by rfl):QE X (.Call (.Name "list" p) [.Call (.Name "reversed" p2) [e] [] pos2] [] pos) (Lh te):=⟨by
 have he:=he.h;intro pins s Z H Q I h;refine Tl (jE I hgl hml boot_list ?_);refine bu ?_ hs rfl;rw[hs];show wpAny _ _ (spliced ((false,eval (.Call (.Name "reversed" p2) [e] [] pos2) X.env)::[])) _ _ s;refine gQ (Tl (jE I hgr hmr boot_reversed (bu ?_ hs2 rfl)));rw[hs2];show wpAny _ _ (spliced ((false,eval e X.env)::[])) _ _ s;refine gQ (dw (he pins s Z H _ I h) λu s1 z'=>?_);obtain⟨x,H1,I1,r1,a,xs,ex,hx,hle,q⟩:=z';subst ex;cases r1;obtain⟨hz,its,n,rv,hlen,ho⟩:=I1.lstM hx;have hL:s1.heap.IsList a its.toArray:=⟨_,ho,rfl,n,rfl⟩
 have hsz:its.toArray.size=its.length:=by simp
 have hal:=aN ho;refine gg (call_reversed_list hL (gg ?_));refine um (I:=s1.heap.objs.size) (l:=a) (items:=its.toArray) (I1.ok.hd hc) ⟨_,aP _ rfl,rfl,rfl⟩ (hL.at λo e=>aB _ e) (a6 hal) (by rw[hsz];lia) λh' tk acc' c' kp e' hit=>?_;have sz:(s1.heap.push (revObj a ((its.toArray.size:Int) - 1))).objs.size=s1.heap.objs.size+1:=dN _ _;have hv:cH xs.reverse acc'.toList:=by
  obtain⟨a1,a2⟩:=hit;rw[hsz] at a1 a2;have al:acc'.toList.length=its.length:=by rw[<-a1];simp
  refine Ge (by rw[eX,hlen,al]) λi x u h1 h2=>?_;have hu:acc'[i]? = some u:=by simpa using h2
  have h3:=a2 i u hu;have hi:i<its.length:=by rw[<-a1];exact(iA.mp hu).1
  rw[List.getElem?_reverse (by rw[hlen];exact hi),hlen] at h1;have h4:its[its.length - 1-i]? = some u:=by simpa using h3
  exact wn rv h1 h4
 refine⟨.ref _,_,I1.laid (h':=h') (t':=tk) (λb o e=>kp b o (a6 (aN e)) (aB _ e)) (by rw[sz];exact dZ _) (show cc X.prog X.w _ h' _ (.lst _) from ⟨by rw[eX];exact hz,acc'.toList,c',hv,by simpa using e'⟩),rfl,q _ (I1.hok.fresh (by rw[sz];exact dZ _))⟩⟩
end
open AutoSeq1 (wpAny_loadPart')
section
variable {prog:Program}{w:World}{A:Around}{E:Value->Shared->Prop}{s:Shared}{X:Cx}{pins:List (Addr×Obj)}{Z:St}{H:Hp}{h':Heap}
theorem z8{it t:Addr}{i:Nat}{items}{x:Value}{Q:Value->Shared->Prop}(hit:s.heap.IsTupleIter it t i)(ht:s.heap.IsTuple t items)(hx:items[i]? = some x)
  (hQ:∀h',h'.IsTupleIter it t (i+1)->Heap.SameBut it s.heap h'->Q x { s with heap:=h' }):wpAny (model prog w) A (Builtin.SmallTypes.nextOf (.ref it)) Q E s:=by
 obtain⟨o,ho,hc,hd⟩:=id hit;obtain⟨ol,hol,_,nl,hdl⟩:=ht;unfold Builtin.SmallTypes.nextOf;exists (wpAny_callSpecial?_slot (name:=Str.ofString "__next__") hit.typeIs fL (Tz fL hit.typeIs kg ?_ (kN _)));show wpAny _ _ (field (.ref it) 0>>=_) _ _ s;exists (UO ho hd (x:=.ref t) rfl ?_);show wpAny _ _ (if (Value.ref t==Value.none)=true then _ else _) _ _ s;rw[U1 (show ¬((Value.ref t==Value.none)=true) from au)];show wpAny _ _ (field (.ref it) 1>>=_) _ _ s;exists (UO ho hd (x:=.int i 0) rfl ?_);show wpAny _ _ (seqItems? (.ref t)>>=_) _ _ s;exists (UL hol hdl ?_);simp only[dh,hx];exists (UJ ho hd (by simp) (wpAny_pure ⟨x,rfl,wpAny_pure (hQ _ ?_ (cf ..))⟩));exact⟨_,bq _ ho (Obj.isFreed_of_fields (ie hd _)),(Obj.cls_mapFields ..).trans hc,by rw[ie hd];simp[rawInt]⟩
theorem CH{it t:Addr}{i:Nat}{items}{Q:Value->Shared->Prop}(hh:A.handled=none)(hit:s.heap.IsTupleIter it t i)(ht:s.heap.IsTuple t items)(hx:items[i]? = none)
  (hE:∀h' e,Heap.ExtBut it s.heap h'->(∃o,h'.get? e=some o/\o.cls=.type "StopIteration")->E (.ref e) { s with heap:=h' }):wpAny (model prog w) A (Builtin.SmallTypes.nextOf (.ref it)) Q E s:=by
 obtain⟨o,ho,hc,hd⟩:=id hit;obtain⟨ol,hol,_,nl,hdl⟩:=ht;unfold Builtin.SmallTypes.nextOf;exists (wpAny_callSpecial?_slot (name:=Str.ofString "__next__") hit.typeIs fL (Tz fL hit.typeIs kg ?_ (kN _)));show wpAny _ _ (field (.ref it) 0>>=_) _ _ s;exists (UO ho hd (x:=.ref t) rfl ?_);show wpAny _ _ (if (Value.ref t==Value.none)=true then _ else _) _ _ s;rw[U1 (show ¬((Value.ref t==Value.none)=true) from au)];show wpAny _ _ (field (.ref it) 1>>=_) _ _ s;exists (UO ho hd (x:=.int i 0) rfl ?_);show wpAny _ _ (seqItems? (.ref t)>>=_) _ _ s;exists (UL hol hdl ?_);simp only[dh,hx];exists (UD (wpAny_bind (UJ ho hd (by simp) ?_)));show wpAny _ _ (newExc (.type "StopIteration") []>>=_) _ _ _;refine wpAny_bind ?_;simp only[newExc,newTuple];exists (Tr ?_ (by size_fits));refine wpAny_bind (m:=firstArgMember _ _) (wpAny_of_eq (a:=Value.none) (by first | rfl | (simp only[firstArgMember];rfl)) ?_);refine Tr ?_ (by size_fits);simp only[raiseNew];exists (wpAny_handled ?_);first | rw[show A.in1.handled=none from hh] | rw[hh]
 exists (wpAny_pure (wpAny_throw ?_));exact hE _ _ (((cf ..).extBut.push _).push _) ⟨_,aP _ rfl,rfl⟩
theorem Draws.tup(hh:A.handled=none)(it t:Addr)(hne:t≠it)(items:Array Value):Draws prog w A it [it,t] items.size (λi v=>items[i]? = some v) (λi h=>h.IsTupleIter it t i/\h.IsTuple t items) where
 live:=λ_ _ st=>let ⟨o,ho,_⟩:=st.1;⟨o,ho⟩
 frame:=λ_ _ _ st hk=>by
  obtain⟨st1,o,ho,r⟩:=st;exact⟨st1.at λo e=>hk it (by simp) o e,o,hk t (by simp) o ho,r⟩
 item:=λi s Q E hi st hQ=>z8 st.1 st.2 (x:=items[i]) (by simp[hi]) λh' hit' hs'=>hQ _ h' s.toks (by simp[hi]) ⟨hit',st.2.extBut hs'.extBut hne⟩ hs'
 done:=λs Q E st hE=>CH hh st.1 st.2 (by simp) hE
theorem bc.turnAll{fp:ld}{t':Nat}(I:bc X pins Z H s)(hf:∀b∈fp,ke X pins H b)(k:∀b u,b∉fp->s.heap.get? b=some u->h'.get? b=some u):bc X pins Z H { s with heap:=h',toks:=t' }:=by
 have nfp:∀b u,H b=some u->b∉fp:=λb u e z=>by rw[(hf b z).1] at e;cases e
 refine I.step (g':=s.gens) (d':=s.drawn) (ch:=fp) (λb hb=>?_) (λb o _ _ hc e _=>k b o hc e) (λb o _ _ hc e _=>⟨o.slots,k b o hc e⟩) (λ_ _ _ _ n=>n)
  (λb o hc e=>⟨o,k b o hc e⟩) (λ_ _ e=>e) (λ_ _ _ e=>e) (λb ps e=>⟨#[],by rw[e];simp⟩) (λm hm=>?_) (λb u e=>?_) I.bare
 .obtain⟨_,f1,_,f3,f4,f5⟩:=hf b hb;exact⟨f3,f1,f4,f5⟩
 .obtain⟨ob,es,ep,ho,r⟩:=hm;exact⟨ob,es,ep,k _ ob (λz=>(hf _ z).2.1 rfl) ho,r⟩
 .refine(I.hok b u e).stay (λc v hc q=>k c v ?_ q) (λ_ q=>q) λ_ _ q=>q;rcases hc with z | z
  .rw[z];exact nfp b u e
  .exact nfp c _ z
end
def M3(K:U9)(a:Addr):It:=
 ⟨λi H=>∃xs x,cj K H a xs/\xs[i]? = some x,λi H v H'=>∃p x,H p=none/\(∀xs,cj K H a xs->xs[i]? = some x)/\v=.ref p/\H'=upd H p (.tup [.int i,x]),λi H=>∃xs,cj K H a xs/\xs.length=i⟩
def Kd(K:U9)(ta:TA):TI:=λZ H R=>ta Z H λvs H1=>∃a,vs=[.ref a]/\(∃xs,cj K H1 a xs)/\R (M3 K a) H1
def M2(K:U9)(a b:Addr):It:=
  ⟨λi H=>∃xs ys x y,cI K H a xs/\cI K H b ys/\xs[i]? = some x/\ys[i]? = some y,
   λi H v H'=>∃p x y,H p=none/\(∀xs,cI K H a xs->xs[i]? = some x)/\(∀ys,cI K H b ys->ys[i]? = some y)/\v=.ref p/\H'=upd H p (.tup [x,y]),
   λi H=>∃xs ys,cI K H a xs/\cI K H b ys/\(xs.length<=i\/ys.length<=i)⟩
theorem Da {P : Program} {w : World} {K : U9} {elts : lc} {x1 : Nat} {pos : Pos} (z TI TO i1 i2 a b : Addr) (ap : ZipApart z TI TO i1 i2 a b) :
    Turn P w K (.Tuple elts x1 pos) (M2 K a b) [z, TI, TO, i1, i2] z (fun i h => IsZip h z TI TO .none ∧ IsPair h TI (.ref i1) (.ref i2) ∧ (∃ u v, IsPair h TO u v) ∧ h.IsListIter i1 a i ∧ h.IsListIter i2 b i) where
  mem := by simp
  obj := fun i h st c hb => by
    obtain ⟨h1, h2, ⟨u, v, h3⟩, ⟨o4, e4, c4, d4⟩, ⟨o5, e5, c5, d5⟩⟩ := st
    simp only [aL, cK, or_false] at hb
    rcases hb with rfl | rfl | rfl | rfl | rfl
    · exact ⟨_, h1, fun v z => by cases z⟩
    · exact ⟨_, h2, fun v z => by cases z⟩
    · exact ⟨_, h3, fun v z => by cases z⟩
    · exact ⟨o4, e4, fun v z => by rw [d4] at z; cases z⟩
    · exact ⟨o5, e5, fun v z => by rw [d5] at z; cases z⟩
  keep := fun i h h' st k => by
    obtain ⟨h1, h2, ⟨u, v, h3⟩, h4, h5⟩ := st
    exact ⟨k z (by simp) _ h1, k TI (by simp) _ h2, ⟨u, v, k TO (by simp) _ h3⟩, h4.at fun o e => k i1 (by simp) o e, h5.at fun o e => k i2 (by simp) o e⟩
  item := by
    intro X hP hw hK hc i pins s Z H E I hf st hg
    subst hP hw hK
    obtain ⟨h1, h2, ⟨u0, v0, h3⟩, h4, h5⟩ := st
    obtain ⟨xs, ys, x, y, hqa, hqb, hx, hy⟩ := hg
    obtain ⟨ia, ra, pa, _⟩ := I.list hqa
    obtain ⟨ib, rb, pb, _⟩ := I.list hqb
    obtain ⟨ua, hua, rua⟩ := ra.get hx
    obtain ⟨ub, hub, rub⟩ := rb.get hy
    refine wpAny_pyNext_zip_item ap h1 h2 h3 h4 h5 pa.isList pb.isList (x := ua) (y := ub) (by simpa using hua) (by simpa using hub) fun h' hz ho hi1 hi2 hp hsz kp => ?_
    refine ⟨_, rfl, wpAny_letOwnedTupleGo_zip hz fun hh hz2 hs2 => ?_⟩
    have hn : H s.heap.objs.size = none := I.hok.fresh (aI _)
    have lz : s.heap.objs.size ≠ z := iH (aN h1)
    have ht2 : hh.get? s.heap.objs.size = some { cls := .type "tuple", data := .seq #[ua, ub] } := (hs2.2 _ lz).trans hp
    refine ⟨.ref s.heap.objs.size, upd H s.heap.objs.size (.tup [x, y]), I.turnNew (fp := [z, TI, TO, i1, i2]) hf (fun c o hb q => ?_) (aI _) (show cc X.prog X.w _ hh _ (.tup _) from ⟨(by show 2 ≤ sizeLine; decide), [ua, ub], .cons rua (.cons rub .nil), _, ht2, rfl, _, rfl⟩), rfl, ⟨_, x, y, hn, fun zs hz => by rw [I.list_inj hz hqa]; exact hx, fun zs hz => by rw [I.list_inj hz hqb]; exact hy, rfl, rfl⟩, ?_, fun c hb => ?_⟩
    · simp only [aL, cK, or_false, not_or] at hb
      exact (hs2.2 c hb.1).trans (kp c o hb.1 hb.2.2.1 hb.2.2.2.1 hb.2.2.2.2 q)
    · refine ⟨hz2, (hs2.2 TI ap.TIz).trans (kp TI _ ap.TIz ap.TITO ap.TIi1 ap.TIi2 h2), ⟨_, _, (hs2.2 TO ap.TOz).trans ho⟩, hi1.at fun o e => (hs2.2 i1 ap.i1z).trans e, hi2.at fun o e => (hs2.2 i2 ap.i2z).trans e⟩
    · have hb' := (hf c hb).1
      rw [aO (fun z => ?_)]
      · exact hb'
      · have : c < s.heap.objs.size := by
          simp only [aL, cK, or_false] at hb
          obtain ⟨o4, e4, _⟩ := h4
          obtain ⟨o5, e5, _⟩ := h5
          rcases hb with rfl | rfl | rfl | rfl | rfl
          · exact aN h1
          · exact aN h2
          · exact aN h3
          · exact aN e4
          · exact aN e5
        exact absurd z (a6 this)
  done := by
    intro X hP hw hK hc i pins s Z H E I hf st hg
    subst hP hw hK
    obtain ⟨h1, h2, ⟨u0, v0, h3⟩, h4, h5⟩ := st
    obtain ⟨xs, ys, hqa, hqb, hxy⟩ := hg
    obtain ⟨ia, ra, pa, _⟩ := I.list hqa
    obtain ⟨ib, rb, pb, _⟩ := I.list hqb
    have la := ra.length
    have lb := rb.length
    refine wpAny_pyNext_zip_end (I.ok.hd hc) ap h1 h2 h3 h4 h5 pa.isList pb.isList (hxy.imp (fun h => by simp; lia) (fun h => by simp; lia)) fun h' kp => ⟨rfl, I.turnAll (t' := s.toks) hf fun c o hb q => ?_⟩
    simp only [aL, cK, or_false, not_or] at hb
    exact kp c o hb.1 hb.2.2.1 hb.2.2.2.1 hb.2.2.2.2 q
  self := fun _ _ _ _ _ st h => UW st.1 h
def Ka(K:U9)(ta:TA):TI:=λZ H R=>ta Z H λvs H1=>∃a b,vs=[.ref a,.ref b]/\(∃xs,cI K H1 a xs)/\(∃ys,cI K H1 b ys)/\R (M2 K a b) H1
end L2
namespace L2
open PySem PySem.Spec PyProof.Rows HT
section
variable {X:Cx}{Z:St}{H:Hp}{D:Ends}{K:U9}
theorem HG {a b:Expr} {ta:TA} {elts:lc} {x1:Nat} {p pos tpos:Pos} (hg:Gl X "zip") (hm:X.mg "zip"=none) (ha:QA X [a,b] ta) (hs:starEach [a,b] X.env=(false,eval a X.env)::starEach [b] X.env:=by rfl) (hpl:(backTo pos (starEach [b] X.env)).any (·.1)=false:=by rfl) :
  QI X (.Tuple elts x1 tpos) (.Call (.Name "zip" p) [a,b] [] pos) (Ka X.K ta):=⟨by
 have ha:=ha.h;intro pins s Z H R I h;refine Call_ (jE I hg hm boot_zip (bu (dw (ha pos pins s Z H _ I h) λus s1 z'=>?_) hs hpl));obtain⟨vs,H1,I1,r1,z1,z2,e,⟨xs,hx⟩,⟨ys,hy⟩,q⟩:=z';subst e;obtain⟨u,u',rfl,r2,r3⟩:=vals2 r1;cases r2;cases r3;obtain⟨ia,ra,pa,_⟩:=I1.list hx;obtain⟨ib,rb,pb,_⟩:=I1.list hy;obtain⟨oa,hoa,_⟩:=id pa.isList;obtain⟨ob,hob,_⟩:=id pb.isList;refine call_zip_2 pa.isList pb.isList λh' hz hti hto hi1 hi2 hsz kp=>?_;refine UW hz ?_;have I2:bc X pins Z H1 { s1 with heap:=h' }:=I1.kept (t':=s1.toks) kp;refine⟨_,_,_,_,H1,rfl,I2,Da _ _ _ _ _ z1 z2 (zipApart_new (aN hoa) (aN hob)),⟨hz,hti,⟨_,_,hto⟩,hi1,hi2⟩,λb hb=>?_,q⟩;have hle:s1.heap.objs.size<=b:=by
  simp only[aL,cK,or_false] at hb;rcases hb with rfl | rfl | rfl | rfl | rfl
  .exact d6 _ _
  .exact d6 _ _
  .exact d6 _ _
  .exact aI _
  .exact d6 _ _
 exact I1.fpOk hle (I1.hok.fresh hle)⟩
theorem AV{ta:TA}{g:TG}{tb:TS}:rK (Kd K ta) g tb D Z H=ta Z H λvs H1=>∃a,vs=[.ref a]/\(∃xs,cj K H1 a xs)/\sS (M3 K a) g tb D Z H1:=rfl
theorem AX{k:Nat}{caps:im}{ta:TA}{g:TG}{tf:TT}{te:TE}{Q:VK}:pd k caps (Ka K ta) g tf te Z H Q=ta Z H λvs H1=>∃a b,vs=[.ref a,.ref b]/\(∃xs,cI K H1 a xs)/\(∃ys,cI K H1 b ys)/\j5 (M2 K a b) g tf te Q (jF k caps Z) H1:=rfl
end
end L2
namespace L2
open PySem PySem.Spec PyProof.Rows
structure uY (z TI TO i1 i2:Addr) (f1 f2:ld):Prop where
 tz:TI≠z
 oz:TO≠z
 az:i1≠z
 bz:i2≠z
 to:TI≠TO
 ta:TI≠i1
 tb:TI≠i2
 oa:TO≠i1
 ob:TO≠i2
 ab:i1≠i2
 z1:z∉f1
 o1:TO∉f1
 b1:i2∉f1
 z2:z∉f2
 o2:TO∉f2
 a2:i1∉f2
section
variable {prog:Program}{w:World}{A:Around}{E:Value->Shared->Prop}{s:Shared}{z TI TO i1 i2:Addr}{f1 f2:ld}{n1 n2 k:Nat}{P1 P2:Nat->Value->Prop}{S1 S2:Nat->Heap->Prop}{a b:Value}
theorem gM{it:Addr}{fp:ld}{n i:Nat}{P:Nat->Value->Prop}{S:Nat->Heap->Prop}{h h':Heap}{c:Addr}(D:Draws prog w A it fp n P S)(st:S i h)(sb:Heap.SameBut c h h')(hc:c∉fp):S i h':=
 D.frame i h h' st λb hb o e=>(sb.2 b (λq=>hc (q▸hb))).trans e
theorem B4{Q:Value->Shared->Prop}(D1:Draws prog w A i1 f1 n1 P1 S1)(D2:Draws prog w A i2 f2 n2 P2 S2)(ap:uY z TI TO i1 i2 f1 f2)(hz:IsZip s.heap z TI TO .none)(hTI:IsPair s.heap TI (.ref i1) (.ref i2))(hTO:IsPair s.heap TO a b)(h1:S1 k s.heap)(h2:S2 k s.heap)(k1:k<n1)(k2:k<n2)
  (hQ:∀(h':Heap) (x y:Value) (tk:Nat),P1 k x->P2 k y->IsZip h' z TI TO (rawInt s.heap.objs.size)->IsPair h' TO x y->S1 (k+1) h'->S2 (k+1) h'->IsPair h' s.heap.objs.size x y->(∀c o,c≠z->c≠TO->c≠i1->c≠i2->s.heap.get? c=some o->h'.get? c=some o)->Q (.ref s.heap.objs.size) { s with heap:=h',toks:=tk }) :
  wpAny (model prog w) A (Builtin.«zip.__next__» ⟨[.ref z],[]⟩) (λfin s'=>∃v,fin=.done (.ret v)/\Q v s') E s:=by
 show wpAny _ _ (field (.ref z) 2>>=_) _ _ _;exists (UO hz rfl (x:=.bool false) rfl ?_);show wpAny _ _ (field (.ref z) 3>>=_) _ _ _;exists (UO hz rfl (x:=.ref TI) rfl ?_);exists (UL hTI rfl ?_);show wpAny _ _ (Builtin.SmallTypes.ownedTupleIsFree (.ref z)>>=_) _ _ _;refine wpAny_bind ?_;unfold Builtin.SmallTypes.ownedTupleIsFree;exists (UO hz rfl (x:=.none) rfl (wpAny_pure ?_));simp only[U7];exists (UD ?_);exists (UO hz rfl (x:=.ref TO) rfl ?_);exists (UX hz (by simp) λg1 hz1 b1=>?_)
 replace hz1:IsZip g1 z TI TO .ellipsis:=hz1
 refine wpAny_bind ?_;simp only[List.zipIdx_cons,List.zipIdx_nil,kK,List.forIn_nil];exists (wpAny_bind (wpAny_onRaise ?_));show wpAny _ _ (Builtin.SmallTypes.nextOf (.ref i1)>>=_) _ _ _;exists (D1.item k { s with heap:=g1 } _ _ k1 (gM D1 h1 b1 ap.z1) λx g2 t2 px s2 b2=>wpAny_pure ?_);have hT2:IsPair g2 TO a b:=b2.extBut _ _ ap.oa (b1.extBut _ _ ap.oz hTO);exists (UL hT2 rfl ?_);exists (wpAny_updateSeq_pair hT2 λg3 hT3 b3=>?_)
 replace hT3:IsPair g3 TO x b:=hT3
 exists (UC (wpAny_pure ?_));exists (wpAny_bind (wpAny_onRaise ?_));show wpAny _ _ (Builtin.SmallTypes.nextOf (.ref i2)>>=_) _ _ _;exists (D2.item k { s with heap:=g3,toks:=t2 } _ _ k2 (gM D2 (gM D2 (gM D2 h2 b1 ap.z2) b2 ap.a2) b3 ap.o2) λy g4 t4 py s4 b4=>wpAny_pure ?_);have hT4:IsPair g4 TO x b:=b4.extBut _ _ ap.ob hT3;exists (UL hT4 rfl ?_);exists (wpAny_updateSeq_pair hT4 λg5 hT5 b5=>?_)
 replace hT5:IsPair g5 TO x y:=hT5
 exists (UC (wpAny_pure (wpAny_pure ?_)));exists (UL hT5 rfl ?_);exists (wpAny_newTuple ?_);have hsz:g5.objs.size=s.heap.objs.size:=by rw[b5.1,b4.1,b3.1,b2.1,b1.1]
 have hz5:IsZip g5 z TI TO .ellipsis:=b5.extBut _ _ ap.oz.symm (b4.extBut _ _ ap.bz.symm (b3.extBut _ _ ap.oz.symm (b2.extBut _ _ ap.az.symm hz1)));have kp5:∀c o,c≠z->c≠TO->c≠i1->c≠i2->s.heap.get? c=some o->g5.get? c=some o:=λc o c1 c2 c3 c4 e=>b5.extBut _ _ c2 (b4.extBut _ _ c4 (b3.extBut _ _ c2 (b2.extBut _ _ c3 (b1.extBut _ _ c1 e))));have w1:S1 (k+1) g5:=gM D1 (gM D1 (gM D1 s2 b3 ap.o1) b4 ap.b1) b5 ap.o1;have w2:S2 (k+1) g5:=gM D2 s4 b5 ap.o2;have zlt:z<g5.objs.size:=aN hz5;show wpAny _ _ (Builtin.SmallTypes.ownedTupleHandOut (.ref z) (.ref g5.objs.size)>>=_) _ _ _;refine wpAny_bind ?_;unfold Builtin.SmallTypes.ownedTupleHandOut;have hz6:IsZip (g5.push { cls:=.type "tuple",data:=.seq #[x,y] }) z TI TO .ellipsis:=aB _ hz5;exists (UX hz6 (by simp) λg7 hz7 b7=>?_)
 replace hz7:IsZip g7 z TI TO (rawInt g5.objs.size):=hz7
 refine UX hz7 (by simp) λg8 hz8 b8=>?_
 replace hz8:IsZip g8 z TI TO (rawInt g5.objs.size):=hz8
 have up:∀c o,c≠z->g5.get? c=some o->g8.get? c=some o:=λc o c1 e=>b8.extBut _ _ c1 (b7.extBut _ _ c1 (aB _ e));have hP:IsPair g8 g5.objs.size x y:=b8.extBut _ _ (iH zlt) (b7.extBut _ _ (iH zlt) (aP _ rfl));rw[hsz] at hz8 hP;refine wpAny_pure ⟨_,rfl,?_⟩;show Q (.ref g5.objs.size) _;rw[hsz];exact hQ g8 x y t4 px py hz8 (up _ _ ap.oz hT5) (D1.frame _ _ _ w1 λc hc o e=>up c o (λq=>ap.z1 (q▸hc)) e) (D2.frame _ _ _ w2 λc hc o e=>up c o (λq=>ap.z2 (q▸hc)) e) hP λc o c1 c2 c3 c4 e=>up c o c1 (kp5 c o c1 c2 c3 c4 e)
theorem Cr{Q:Fin->Shared->Prop}(D1:Draws prog w A i1 f1 n1 P1 S1)(ap:uY z TI TO i1 i2 f1 f2)(hz:IsZip s.heap z TI TO .none)(hTI:IsPair s.heap TI (.ref i1) (.ref i2))(h1:S1 n1 s.heap)
  (hE:∀h' e,(∀c o,c≠z->c≠i1->s.heap.get? c=some o->h'.get? c=some o)->(∃o,h'.get? e=some o/\o.cls=.type "StopIteration")->E (.ref e) { s with heap:=h' }):wpAny (model prog w) A (Builtin.«zip.__next__» ⟨[.ref z],[]⟩) Q E s:=by
 show wpAny _ _ (field (.ref z) 2>>=_) _ _ _;exists (UO hz rfl (x:=.bool false) rfl ?_);show wpAny _ _ (field (.ref z) 3>>=_) _ _ _;exists (UO hz rfl (x:=.ref TI) rfl ?_);exists (UL hTI rfl ?_);show wpAny _ _ (Builtin.SmallTypes.ownedTupleIsFree (.ref z)>>=_) _ _ _;refine wpAny_bind ?_;unfold Builtin.SmallTypes.ownedTupleIsFree;exists (UO hz rfl (x:=.none) rfl (wpAny_pure ?_));simp only[U7];exists (UD ?_);exists (UO hz rfl (x:=.ref TO) rfl ?_);exists (UX hz (by simp) λg1 hz1 b1=>?_)
 replace hz1:IsZip g1 z TI TO .ellipsis:=hz1
 refine wpAny_bind ?_;simp only[List.zipIdx_cons,List.zipIdx_nil,kK,List.forIn_nil];exists (wpAny_bind (wpAny_onRaise ?_));show wpAny _ _ (Builtin.SmallTypes.nextOf (.ref i1)>>=_) _ _ _;exists (D1.done { s with heap:=g1 } _ _ (gM D1 h1 b1 ap.z1) λg2 e b2 he=>?_);obtain⟨oe,hoe,hce⟩:=he;have hz2:IsZip g2 z TI TO .ellipsis:=b2 _ _ ap.az.symm hz1;have hez:e≠z:=λx=>by subst x;rw[hz2] at hoe;cases hoe;simp at hce
 exact UX hz2 (by simp) λg3 _ b3=>hE g3 e (λc o c1 c3 x=>b3.extBut _ _ c1 (b2 _ _ c3 (b1.extBut _ _ c1 x))) ⟨oe,b3.extBut _ _ hez hoe,hce⟩
theorem z5{Q:bt->Shared->Prop}(D1:Draws prog w A.in1 i1 f1 n1 P1 S1)(D2:Draws prog w A.in1 i2 f2 n2 P2 S2)(ap:uY z TI TO i1 i2 f1 f2)(hz:IsZip s.heap z TI TO .none)(hTI:IsPair s.heap TI (.ref i1) (.ref i2))(hTO:IsPair s.heap TO a b)(h1:S1 k s.heap)(h2:S2 k s.heap)(k1:k<n1)(k2:k<n2)
  (hQ:∀(h':Heap) (x y:Value) (tk:Nat),P1 k x->P2 k y->IsZip h' z TI TO (rawInt s.heap.objs.size)->IsPair h' TO x y->S1 (k+1) h'->S2 (k+1) h'->IsPair h' s.heap.objs.size x y->(∀c o,c≠z->c≠TO->c≠i1->c≠i2->s.heap.get? c=some o->h'.get? c=some o)->Q (some (.ref s.heap.objs.size)) { s with heap:=h',toks:=tk }) :
  wpAny (model prog w) A (pyNext (.ref z)) Q E s:=by
 have hT:s.TypeIs (.ref z) "zip":=⟨_,hz,rfl⟩
 unfold pyNext;exact wpAny_bind (UF (wpAny_callSpecial?_slot (name:=Str.ofString "__next__") hT kM (Tz kM hT F.entry_zip_next (B4 D1 D2 ap hz hTI hTO h1 h2 k1 k2 λh' x y tk q1 q2 q3 q4 q5 q6 q7 q8=>wpAny_pure (hQ h' x y tk q1 q2 q3 q4 q5 q6 q7 q8)) (F.args_zip_next_1 _))))
theorem CG{Q:bt->Shared->Prop}(D1:Draws prog w A.in1 i1 f1 n1 P1 S1)(ap:uY z TI TO i1 i2 f1 f2)(hz:IsZip s.heap z TI TO .none)(hTI:IsPair s.heap TI (.ref i1) (.ref i2))(h1:S1 n1 s.heap)
  (hQ:∀h',(∀c o,c≠z->c≠i1->s.heap.get? c=some o->h'.get? c=some o)->Q none { s with heap:=h' }):wpAny (model prog w) A (pyNext (.ref z)) Q E s:=by
 have hT:s.TypeIs (.ref z) "zip":=⟨_,hz,rfl⟩
 unfold pyNext;exists (UF (wpAny_callSpecial?_slot (name:=Str.ofString "__next__") hT kM (Tz kM hT F.entry_zip_next (Cr D1 ap hz hTI h1 λh' e hk he=>?_) (F.args_zip_next_1 _))));obtain⟨o,ho,hc⟩:=he;exact wpAny_bind (wpAny_isInstance (T:="StopIteration") (b:=true) ⟨o,ho,hc⟩ isSubtype_stop (wpAny_pure (hQ _ hk)))
end
abbrev Cq (h:Heap) (l:Addr):Heap:=h.push { cls:=.type "tuple_iterator",data:=.fields #[.ref l,.int 0 0] }
abbrev M7 (h:Heap) (l1 l2:Addr):Heap:=(Cq (Cq h l1) l2).push { cls:=.type "tuple",data:=.seq #[.ref h.objs.size,.ref (Cq h l1).objs.size] }
abbrev M6 (h:Heap) (l1 l2:Addr):Heap:=(M7 h l1 l2).push { cls:=.type "tuple",data:=.seq #[.none,.none] }
abbrev LB (h:Heap) (l1 l2:Addr):Heap:=(M6 h l1 l2).push { cls:=.type "zip",data:=.fields #[.none,.bool false,.bool false,.ref (Cq (Cq h l1) l2).objs.size,.ref (M7 h l1 l2).objs.size] }
theorem Hd (l1 l2:Addr) (xs ys:Array Value):Meets (Builtin.«zip.__new__» ⟨[.type "zip",.ref l1,.ref l2],[]⟩) (λ_ R s=>s.heap.IsTuple l1 xs/\s.heap.IsTuple l2 ys/\R (.ok (.ret (.ref (M6 s.heap l1 l2).objs.size))) { s with heap:=LB s.heap l1 l2 }):=.of_wp λprog w A R s h=>by
  obtain⟨hp,g,d,tk,os⟩:=s;obtain⟨hl1,hl2,h⟩:=h;have hsub:=sub_zip;have hL1:Heap.IsTuple (Shared.heap ⟨hp,g,d,tk,os⟩) l1 xs:=hl1;have hL2:Heap.IsTuple (Shared.heap ⟨hp.push { cls:=.type "tuple_iterator",data:=.fields #[.ref l1,.int 0 0] },g,d,tk,os⟩) l2 ys:=Heap.IsTuple.push hl2 _
  wp_walk using UV hL1,UV hL2;exact⟨_,rfl,h⟩
theorem Ki{prog:Program}{w:World}{A:Around}{E:Value->Shared->Prop}{s:Shared}{l1 l2:Addr}{xs ys:Array Value}{Q:Value->Shared->Prop}(hl1:s.heap.IsTuple l1 xs)(hl2:s.heap.IsTuple l2 ys)
  (h:∀h' n,n=s.heap.objs.size->IsZip h' (n+4) (n+2) (n+3) .none->IsPair h' (n+2) (.ref n) (.ref (n+1))->IsPair h' (n+3) .none .none->h'.IsTupleIter n l1 0->h'.IsTupleIter (n+1) l2 0->(∀c o,s.heap.get? c=some o->h'.get? c=some o)->Q (.ref (n+4)) { s with heap:=h' }):wpAny (model prog w) A (call (.type "zip") [.ref l1,.ref l2]) Q E s:=by
 refine callType_new F.called_zip (by decide) (F.typeCall_zip_2 _ _) (F.newCall_zip_2 _ _) (λobj=>F.args_object_init_3 obj _ _) F.entry_zip_new (Hd l1 l2 xs ys) ⟨hl1,hl2,?_⟩;have z1:(Cq s.heap l1).objs.size=s.heap.objs.size+1:=dN ..;have z2:(Cq (Cq s.heap l1) l2).objs.size=s.heap.objs.size+2:=by rw[dN,z1]
 have z3:(M7 s.heap l1 l2).objs.size=s.heap.objs.size+3:=by rw[dN,z2]
 have z4:(M6 s.heap l1 l2).objs.size=s.heap.objs.size+4:=by rw[dN,z3]
 have g5:(LB s.heap l1 l2).get? (M6 s.heap l1 l2).objs.size=some _:=aP _ rfl;have g4:(LB s.heap l1 l2).get? (M7 s.heap l1 l2).objs.size=some _:=aB _ (aP _ rfl);have g3:(LB s.heap l1 l2).get? (Cq (Cq s.heap l1) l2).objs.size=some _:=aB _ (aB _ (aP _ rfl));have g2:(LB s.heap l1 l2).get? (Cq s.heap l1).objs.size=some _:=aB _ (aB _ (aB _ (aP _ rfl)));have g1:(LB s.heap l1 l2).get? s.heap.objs.size=some _:=aB _ (aB _ (aB _ (aB _ (aP _ rfl))));show _/\_;rw[z2,z3,z4] at g5;rw[z1,z2] at g3;rw[z3] at g4;rw[z1] at g2;rw[z4];exact⟨⟨_,g5,rfl⟩,h _ _ rfl g5 g3 g4 ⟨_,g1,rfl,rfl⟩ ⟨_,g2,rfl,rfl⟩ λc o x=>aB _ (aB _ (aB _ (aB _ (aB _ x))))⟩
def IU(K:U9)(a b:Addr):It:=
  ⟨λi H=>∃xs ys x y,cj K H a xs/\cj K H b ys/\xs[i]? = some x/\ys[i]? = some y,
   λi H v H'=>∃p x y,H p=none/\(∀xs,cj K H a xs->xs[i]? = some x)/\(∀ys,cj K H b ys->ys[i]? = some y)/\v=.ref p/\H'=upd H p (.tup [x,y]),
   λi H=>∃xs,cj K H a xs/\xs.length=i⟩
theorem B8 {P : Program} {w : World} {K : U9} {elts : lc} {x1 : Nat} {pos : Pos} (n a b : Addr) (ha : a < n) (hb : b < n) :
    Turn P w K (.Tuple elts x1 pos) (IU K a b) [n + 4, n + 2, n + 3, n, n + 1] (n + 4) (fun i h => IsZip h (n + 4) (n + 2) (n + 3) .none ∧ IsPair h (n + 2) (.ref n) (.ref (n + 1)) ∧ (∃ u v, IsPair h (n + 3) u v) ∧ h.IsTupleIter n a i ∧ h.IsTupleIter (n + 1) b i) := by
  have hap : uY (n + 4) (n + 2) (n + 3) n (n + 1) [n, a] [n + 1, b] := by
    have h1 : @LT.lt Nat _ a n := ha
    have h2 : @LT.lt Nat _ b n := hb
    constructor <;> first
      | (intro h; simp only [aL, cK, or_false] at h; rcases h with h | h <;> (have h' : @Eq Nat _ _ := h; lia))
      | (intro h; have h' : @Eq Nat _ _ := h; lia)
  exact {
    mem := by simp
    obj := fun i h st c hb => by
      obtain ⟨h1, h2, ⟨u, v, h3⟩, ⟨o4, e4, c4, d4⟩, ⟨o5, e5, c5, d5⟩⟩ := st
      simp only [aL, cK, or_false] at hb
      rcases hb with rfl | rfl | rfl | rfl | rfl
      · exact ⟨_, h1, fun v z => by cases z⟩
      · exact ⟨_, h2, fun v z => by cases z⟩
      · exact ⟨_, h3, fun v z => by cases z⟩
      · exact ⟨o4, e4, fun v z => by rw [d4] at z; cases z⟩
      · exact ⟨o5, e5, fun v z => by rw [d5] at z; cases z⟩
    keep := fun i h h' st k => by
      obtain ⟨h1, h2, ⟨u, v, h3⟩, h4, h5⟩ := st
      exact ⟨k _ (by simp) _ h1, k _ (by simp) _ h2, ⟨u, v, k _ (by simp) _ h3⟩, h4.at fun o e => k _ (by simp) o e, h5.at fun o e => k _ (by simp) o e⟩
    item := by
      intro X hP hw hK hc i pins s Z H E I hf st hg
      subst hP hw hK
      obtain ⟨h1, h2, ⟨u0, v0, h3⟩, h4, h5⟩ := st
      obtain ⟨xs, ys, x, y, hqa, hqb, hx, hy⟩ := hg
      obtain ⟨ia, ra, pa, _⟩ := I.tuple hqa
      obtain ⟨ib, rb, pb, _⟩ := I.tuple hqb
      obtain ⟨ua, hua, rua⟩ := ra.get hx
      obtain ⟨ub, hub, rub⟩ := rb.get hy
      have hA : X.A.in1.handled = none := I.ok.hd hc
      have la : i < ia.toArray.size := by rw [aQ]; exact (aH.mp hua).1
      have lb : i < ib.toArray.size := by rw [aQ]; exact (aH.mp hub).1
      refine z5 (Draws.tup hA n a (a6 ha) ia.toArray) (Draws.tup hA (n + 1) b (a6 (dI hb)) ib.toArray) hap h1 h2 h3 ⟨h4, pa⟩ ⟨h5, pb⟩ la lb fun h' x' y' tk e1 e2 hz ho hi1 hi2 hp kp => ?_
      have e1' : x' = ua := by have : ia[i]? = some x' := by simpa using e1
                               rw [hua] at this; cases this; rfl
      have e2' : y' = ub := by have : ib[i]? = some y' := by simpa using e2
                               rw [hub] at this; cases this; rfl
      subst e1' e2'
      refine ⟨_, rfl, wpAny_letOwnedTupleGo_zip hz fun hh hz2 hs2 => ?_⟩
      have hn : H s.heap.objs.size = none := I.hok.fresh (aI _)
      have lz : s.heap.objs.size ≠ n + 4 := iH (aN h1)
      have ht2 : hh.get? s.heap.objs.size = some { cls := .type "tuple", data := .seq #[x', y'] } := (hs2.2 _ lz).trans hp
      refine ⟨.ref s.heap.objs.size, upd H s.heap.objs.size (.tup [x, y]), I.turnNew (fp := [n + 4, n + 2, n + 3, n, n + 1]) hf (fun c o hb q => ?_) (aI _) (show cc X.prog X.w _ hh _ (.tup _) from ⟨(by show 2 ≤ sizeLine; decide), [x', y'], .cons rua (.cons rub .nil), _, ht2, rfl, _, rfl⟩), rfl, ⟨_, x, y, hn, fun zs hz => by rw [I.tuple_inj hz hqa]; exact hx, fun zs hz => by rw [I.tuple_inj hz hqb]; exact hy, rfl, rfl⟩, ?_, fun c hb => ?_⟩
      · simp only [aL, cK, or_false, not_or] at hb
        exact (hs2.2 c hb.1).trans (kp c o hb.1 hb.2.2.1 hb.2.2.2.1 hb.2.2.2.2 q)
      · exact ⟨hz2, (hs2.2 _ hap.tz).trans (kp _ _ hap.tz hap.to hap.ta hap.tb h2), ⟨_, _, (hs2.2 _ hap.oz).trans ho⟩, hi1.1.at fun o e => (hs2.2 _ hap.az).trans e, hi2.1.at fun o e => (hs2.2 _ hap.bz).trans e⟩
      · have hb' := (hf c hb).1
        rw [aO (fun z => ?_)]
        · exact hb'
        · have hz4 : @LT.lt Nat _ (n + 4) s.heap.objs.size := aN h1
          have z' : @Eq Nat c s.heap.objs.size := z
          simp only [aL, cK, or_false] at hb
          rcases hb with h | h | h | h | h <;> (have h' : @Eq Nat _ _ := h; lia)
    done := by
      intro X hP hw hK hc i pins s Z H E I hf st hg
      subst hP hw hK
      obtain ⟨h1, h2, ⟨u0, v0, h3⟩, h4, h5⟩ := st
      obtain ⟨xs, hqa, hx⟩ := hg
      obtain ⟨ia, ra, pa, _⟩ := I.tuple hqa
      have la := ra.length
      have hA : X.A.in1.handled = none := I.ok.hd hc
      have ei : ia.toArray.size = i := by rw [aQ]; lia
      refine CG (Draws.tup hA n a (a6 ha) ia.toArray) hap h1 h2 ⟨by rw [ei]; exact h4, pa⟩ fun h' kp => ⟨rfl, I.turnAll (t' := s.toks) hf fun c o hb q => ?_⟩
      simp only [aL, cK, or_false, not_or] at hb
      exact kp c o hb.1 hb.2.2.2.1 q
    self := fun _ _ _ _ _ st h => UW st.1 h }
def JI(K:U9)(ta:TA):TI:=λZ H R=>ta Z H λvs H1=>∃a b,vs=[.ref a,.ref b]/\(∃xs,cj K H1 a xs)/\(∃ys,cj K H1 b ys)/\R (IU K a b) H1
theorem EU {X:Cx} {a b:Expr} {ta:TA} {elts:lc} {x1:Nat} {p pos tpos:Pos} (hg:Gl X "zip") (hm:X.mg "zip"=none) (ha:QA X [a,b] ta) (hs:starEach [a,b] X.env=(false,eval a X.env)::starEach [b] X.env:=by rfl) (hpl:(backTo pos (starEach [b] X.env)).any (·.1)=false:=by rfl) :
  QI X (.Tuple elts x1 tpos) (.Call (.Name "zip" p) [a,b] [] pos) (JI X.K ta):=⟨by
 intro pins s Z H R I h;refine Call_ (jE I hg hm boot_zip (bu (dw (ha.h pos pins s Z H _ I h) λus s1 z'=>?_) hs hpl));obtain⟨vs,H1,I1,r1,z1,z2,e,⟨xs,hx⟩,⟨ys,hy⟩,q⟩:=z';subst e;obtain⟨u,u',rfl,r2,r3⟩:=vals2 r1;cases r2;cases r3;obtain⟨ia,ra,pa,_⟩:=I1.tuple hx;obtain⟨ib,rb,pb,_⟩:=I1.tuple hy;have ha':s1.heap.IsTuple z1 ia.toArray:=pa;have hb':s1.heap.IsTuple z2 ib.toArray:=pb;obtain⟨oa,hoa,_⟩:=id ha';obtain⟨ob,hob,_⟩:=id hb';refine Ki ha' hb' λh' n en hz hti hto hi1 hi2 kp=>?_;refine UW hz ?_;have I2:bc X pins Z H1 { s1 with heap:=h' }:=I1.kept (t':=s1.toks) kp;refine⟨_,_,_,_,H1,rfl,I2,B8 n z1 z2 (by rw[en];exact aN hoa) (by rw[en];exact aN hob),⟨hz,hti,⟨_,_,hto⟩,hi1,hi2⟩,λb hb=>?_,q⟩;have hle:s1.heap.objs.size<=b:=by
  simp only[aL,cK,or_false] at hb;have en':@Eq Nat n s1.heap.objs.size:=en;show @LE.le Nat _ _ _;rcases hb with h | h | h | h | h<;>(have h':@Eq Nat _ _:=h;lia)
 exact I1.fpOk hle (I1.hok.fresh hle)⟩
theorem AU{K:U9}{Z:St}{H:Hp}{D:Ends}{ta:TA}{g:TG}{tb:TS}:rK (JI K ta) g tb D Z H=ta Z H λvs H1=>∃a b,vs=[.ref a,.ref b]/\(∃xs,cj K H1 a xs)/\(∃ys,cj K H1 b ys)/\sS (IU K a b) g tb D Z H1:=rfl
theorem Fa{K:U9}{Z:St}{H:Hp}{D:Ends}{a b:Addr}{xs ys:List V}{g:TG}{tb:TS}(hle:xs.length<=ys.length)(Pv:Nat->St->Hp->Prop)(h0:Pv 0 Z H)(hl:∀i Z H,Pv i Z H->cj K H a xs/\cj K H b ys)
  (hs:∀i x y Z H p,xs[i]? = some x->ys[i]? = some y->Pv i Z H->H p=none->g (.ref p) Z (upd H p (.tup [x,y])) λZ2 H2=>tb { D with nx:=Pv (i+1),ct:=Pv (i+1),bk:=D.nx } Z2 H2) (hd:∀Z H,Pv xs.length Z H->D.nx Z H):sS (IU K a b) g tb D Z H:=by
 refine⟨λi m Z H=>m+i=xs.length/\Pv i Z H,⟨xs.length,rfl,h0⟩,?_⟩;rintro i m Z H ⟨hm,hp⟩;obtain⟨q1,q2⟩:=hl i Z H hp;by_cases hi:i<xs.length
 .refine .inr ⟨⟨xs,ys,xs[i],ys[i],q1,q2,by simp[hi],by simp[aZ hi hle]⟩,Pv (i+1),λZ' H' h=>⟨m - 1,by lia,by lia,h⟩,?_⟩;rintro v H' ⟨p,x,y,hn,hx,hy,rfl,rfl⟩;exact hs i x y Z H p (hx xs q1) (hy ys q2) hp hn
 .have e:i=xs.length:=by lia
  subst e;exact .inl ⟨⟨xs,q1,rfl⟩,hd Z H hp⟩
theorem E6{P:Program}{w:World}{K:U9}{mg:Str->bt}{base:Heap}{N:List Str}{qual:Str}{scope:Scope}{f:Addr}{cd:Value}{A:Around}{outer:List Env}{s0:Shared}{H0:Hp}{E:XK}:
  uZ (rG P w) (kE (rG P w) P w K mg base N qual scope f cd A outer s0 H0 E) E:=by
 intro pins Z H s e s' I hc;generalize hX:kE (rG P w) P w K mg base N qual scope f cd A outer s0 H0 E=X at I hc |-;have hst:X.stack=X.env::X.outer:=by rw[<-hX];rfl
 have hfr:X.env.frame=some X.env.locals:=by rw[<-hX];rfl
 have hxe:X.xe=λe s'=>wpAny (model X.prog X.w) X.A (leaving X.env e) (λ_ s''=>rG X.prog X.w X.outer X.H₀ X.s₀ E e s'') (λe' s''=>rG X.prog X.w X.outer X.H₀ X.s₀ E e' s'') s':=by rw[<-hX];rfl
 have hex:X.ex=[]:=by rw[<-hX];rfl
 have hP:X.prog=P:=by rw[<-hX];rfl
 have hw:X.w=w:=by rw[<-hX];rfl
 have hfs:lq X.stack=X.env.locals::X.fs:=by rw[hst];unfold lq;rw[c6,hfr];rfl
 clear hX;subst hP hw;rw[hxe];obtain⟨a,C,t,H',B,dO,rfl,os,bare,un,hok,f1,mO,ct,hE⟩:=hc;refine i6 (fF.leave (e:=a)) ct ?_;refine wpAny_leaves_onW (base:=B) (outer:=X.outer) (L:=X.env.locals) (by rw[I.ok.frames,hst]) hfr (hst▸f1) λh2 f4 up ct2=>?_;have lt0:∀b o,X.s₀.heap.get? b=some o->b≠X.env.locals:=λb o e1=>a6 (aZ (aN e1) I.ok.above);have out:∀b o,X.s₀.heap.get? b=some o->b∉X.fs->b∉lq X.stack:=λb o e1 e2 z=>by
  rw[hfs] at z;exact(aL.mp z).elim (lt0 b o e1) e2
 have mem:∀b,b∈X.fs->b∈lq X.stack:=λb m=>by rw[hfs];exact aJ _ m
 have same:∀b o ob,B.get? b=some ob->s'.heap.get? b=some o->h2.get? b=some o:=λb o ob e e1=>by
  have e2:=f1.1 b ob e;rw[e1] at e2;cases e2;exact f4.1 b o e
 have fr:∀b o,s'.heap.get? b=some o->b∈lq X.stack->∃sl,h2.get? b=some { o with slots:=sl }:=λb o e m=>by
  obtain⟨_,o1,e1,nf⟩:=f1.2.2.1.mem m;rw[e] at e1;cases e1;exact up b o e nf
 have u:=I.base;rw[hex] at u;refine⟨a,C,t,H',B,dO,rfl,os.trans I.os,bare,⟨λb o e1 e2 e3 e4=>?_,λb o e1 e2 e3 e4=>?_,λb o e1 e2 e4=>?_,λb o e1 e2=>?_,λb xs e1=>?_,λb o v e1=>?_,λb ps e1=>?_⟩,λb o e1=>?_,f4,⟨λb o e1 e2=>?_,mO.trk⟩,ct2,hE⟩
 .have k1:=u.keep b o e1 e2 e3 e4;have n1:=out b o e1 e3;have k2:=un.keep b o k1 (u.free b o e1 e2 e4) n1 (by simp);obtain⟨ob,q⟩:=mO.old b o k1 n1;exact same b o ob q k2
 .obtain⟨sl,q⟩:=u.slot b o e1 e2 e3 e4;obtain⟨sl1,q1⟩:=un.slot b _ q (u.free b o e1 e2 e4) (mem b e3) (by simp);obtain⟨sl2,q2⟩:=fr b _ q1 (mem b e3);exact⟨sl2,q2⟩
 .obtain⟨o',q⟩:=u.there b o e1 e4;exact un.free b o' q (u.free b o e1 e2 e4) (by simp)
 .obtain⟨o',q⟩:=u.there b o e1 e2;obtain⟨o2,q2⟩:=un.there b o' q (by simp);by_cases m:b∈lq X.stack
  .obtain⟨sl,q'⟩:=fr b o2 q2 m;exact⟨_,q'⟩
  .obtain⟨ob,q'⟩:=mO.old b o' q m;exact⟨_,f4.1 b ob q'⟩
 .exact un.tups b xs (u.tups b xs e1)
 .exact un.frzs b o v (u.frzs b o v e1)
 .obtain⟨m1,q1⟩:=u.tbls b ps e1;obtain⟨m2,q2⟩:=un.tbls b _ q1;exact⟨m1++m2,by rw[q2,Array.append_assoc]⟩
 .refine(hok b o e1).stay (λc v hc q=>?_) (λ_ q=>q) λ_ _ q=>q;obtain⟨ob,q'⟩:∃ob,B.get? c=some ob:=by
   rcases hc with r | r
   .rw[r];exact mO.trk b o e1
   .exact mO.trk c _ r
  exact same c v ob q' q
 .obtain⟨o',q⟩:=u.there b o e1 (by simp);exact mO.old b o' q (out b o e1 e2)
section
variable {P:Program}{w:World}{K:U9}{mg:Str->bt}{base:Heap}{N:List Str}{qual:Str}{scope:Scope}{f:Addr}{cd:Value}{A:Around}{outer:List Env}{s0:Shared}{H0:Hp}{E:XK}
theorem zN{k:Nat}{x:Str}{st:Stmt}{ps:List Str}{sp:Sp}{e:Expr}{es:lc}{t:TA}{p pos:Pos}(D:uq P w K mg base k x st ps sp)(hr:fj k (kE (rG P w) P w K mg base N qual scope f cd A outer s0 H0 E).A)(hg:Gl (kE (rG P w) P w K mg base N qual scope f cd A outer s0 H0 E) x)
  (ha:QA (kE (rG P w) P w K mg base N qual scope f cd A outer s0 H0 E) (e::es) t) (hdb:(x==("__debug__":Str))=false:=by decide)
  (he:starEach (e::es) (kE (rG P w) P w K mg base N qual scope f cd A outer s0 H0 E).env=(false,eval e (kE (rG P w) P w K mg base N qual scope f cd A outer s0 H0 E).env)::starEach es (kE (rG P w) P w K mg base N qual scope f cd A outer s0 H0 E).env:=by rfl)
  (hpl:(backTo pos (starEach es (kE (rG P w) P w K mg base N qual scope f cd A outer s0 H0 E).env)).any (·.1)=false:=by rfl) :
  QE (kE (rG P w) P w K mg base N qual scope f cd A outer s0 H0 E) (.Call (.Name x p) (e::es) [] pos) (tH sp [] E t):=by
 obtain⟨g,fd,F,m,b,G⟩:=D.ex;exact⟨wL (X:=kE (rG P w) P w K mg base N qual scope f cd A outer s0 H0 E) G hr hg m F.kp b .nil E6 ha.h hdb he hpl⟩
end
def Lf(sp:Sp)(K:U9)(c:Value)(t:TA)(ts:Addr->TS):TS:=λD Z H=>t Z H λvs H1=>sp vs H1 (λ_ H2=>D.nx Z H2) λcls dO H2=>
 ∃C,cls=Value.ref C/\W.exmOne K (.ref C) c=some true/\∀a,H2 a=none->ts a D Z (upd H2 a (jv dO C a))
theorem DB{sp:Sp}{K:U9}{c:Value}{t:TA}{ts:Addr->TS}{D:Ends}{Z:St}{H:Hp}:Lf sp K c t ts D Z H=t Z H λvs H1=>sp vs H1 (λ_ H2=>D.nx Z H2) λcls dO H2=>
 ∃C,cls=Value.ref C/\W.exmOne K (.ref C) c=some true/\∀a,H2 a=none->ts a D Z (upd H2 a (jv dO C a)):=rfl
end L2
namespace L2
open PySem
theorem Ga{td ty tx:TE}{Z:St}{H:Hp}{Q:VK}:Jl td ty tx Z H Q=td Z H λx H1=>∃a,x=.ref a/\Nh H1 a/\ty Z H1 λy H2=>tx Z H2 λz H3=>∃o,oX H3 a y o/\Q (o.getD z) H3:=rfl
end L2
namespace Rm
open PySem L2
structure View where
 φ:Hp->Hp
 ok:Hp->Prop
 new:∀ {H t o},ok H->H t=none->ok (upd H t o)/\bJ (φ H) (φ (upd H t o))/\φ (upd H t o) t=some o
def View.all:View:=⟨id,λ_=>True,λ_ h=>⟨trivial,(bJ.refl _).new h,aG⟩⟩
structure DE (w:View) (Z:St) (H0:Hp) (te:TE) (d:PyData):Prop where
 run:∀ (H:Hp) (Q:VK),w.ok H->bJ H0 H->bJ (w.φ H0) (w.φ H)->(∀ x H',w.ok H'->bJ H H'->bJ (w.φ H) (w.φ H')->Dat (w.φ H') x d->Q x H')->te Z H Q
structure DA (w:View) (Z:St) (H0:Hp) (ta:TA) (ds:List PyData):Prop where
 run:∀ (H:Hp) (Q:List V->Hp->Prop),w.ok H->bJ H0 H->bJ (w.φ H0) (w.φ H)->(∀ xs H',w.ok H'->bJ H H'->bJ (w.φ H) (w.φ H')->jV (w.φ H') xs ds->Q xs H')->ta Z H Q
end Rm
namespace Rm
open PySem L2 PyProof.Rows
section
variable {Z:L2.St}{H0:Hp}
abbrev D1 (Z:L2.St) (H0:Hp) (te:TE) (d:PyData):Prop:=DE View.all Z H0 te d
abbrev D2 (Z:L2.St) (H0:Hp) (ta:TA) (ds:List PyData):Prop:=DA View.all Z H0 ta ds
end
def CI(ns:gs):Int:=ns.foldl max 0
theorem gm{α β:Type}{R T:α->β->Prop}(f:∀a b,R a b->T a b):∀{xs:List α} {ys:List β},Paired R xs ys->Paired T xs ys
 | _,_,.nil=>.nil
 | _,_,.cons r t=>.cons (f _ _ r) (gm f t)
theorem gp{α β:Type}{R:α->β->Prop}:∀{xs:List α} {ys:List β},Paired R xs ys->∀{i:Nat} {x:α},xs[i]? = some x->∃y,ys[i]? = some y/\R x y
 | _,_,.nil,i,x,h=>by simp at h
 | _,_,.cons r t,0,x,h=>by simp at h;subst h;exact⟨_,rfl,r⟩
 | _,_,.cons r t,i+1,x,h=>gp t (by simpa using h)
def mK(H:Hp)(t:Addr)(u:Bool)(p q:Bw):Prop:=∃a c,H t=some (.tup [.str (sd u),.ref a,.ref c])/\b6 H a p/\b6 H c q
def vA:Sp:=λvs H Q _=>∃m o b ns,vs=[.ref m]/\gY H m o b ns/\fO ns/\(NC b ns->∀H',bJ H H'->Q .non H') ∧
 ∀u,∀p∈bH b ns u (ns.length+1),∀q∈bH b ns u (ns.length+1),ci p q=true->∀t H',bJ H H'->mK H' t u p q->Q (.ref t) H'
def MH(b:Bool)(ns:gs):PyData:=.tuple [.str (sd b),.tuple (ns.map PyData.int)]
theorem gY.dat{H:Hp}{m o:Addr}{b:Bool}{ns:gs}(h:gY H m o b ns):Dat H (.ref m) (MH b ns):=.tup h.1 (.cons (.str _) (.cons (.tup h.2 (xy ns)) .nil))
theorem KR{b:Bool}{ns:gs}(O:fO ns):uF (MH b ns)=true:=by
 show (rq (.str (sd b))&&rR (.tuple (ns.map PyData.int)))=true;have e1:rq (.str (sd b))=true:=by cases b<;>symm
 have e2:(ns.map PyData.int).map intOf=ns:=by rw[bn];show ns.map id=ns;exact List.map_id _
 have e3:(ns.map PyData.int).all i7=true:=by rw[List.all_map,iJ];intro _ _;rfl
 rw[e1,eQ];show (decide ((ns.map PyData.int).length<=20)&&((ns.map PyData.int).all i7&&((ns.map PyData.int).map intOf).isPerm (gK 1 (ns.map PyData.int).length)))=true;rw[e2,e3,aA,U5 O.len,oJ.mpr O.perm];rfl
theorem za{b:Bool}{ns:gs}:Pl (MH b ns) 60:=by
 refine⟨?_,?_⟩
 .show (PyData.canLay0 (.str (sd b))&&(PyData.canLayAll0 (ns.map PyData.int)&&true))=true;rw[jt];cases b<;>symm
 .show max 0 (max (PyData.depthAll (ns.map PyData.int)+1) 0)+1<=60;rw[qO];decide
theorem rX:∀{ds:List PyData},(∀d∈ds,d.canLay0=true)->PyData.canLayAll0 ds=true
 | [],_=>rfl
 | d::ds,h=>by
  show (d.canLay0&&PyData.canLayAll0 ds)=true;rw[h d (by simp),rX λe he=>h e (by simp[he])];rfl
theorem sD{k:Nat}:∀{ds:List PyData},(∀d∈ds,d.depth<=k)->PyData.depthAll ds<=k
 | [],_=>ah _
 | d::ds,h=>by
  show max d.depth (PyData.depthAll ds)<=k;exact Nat.max_le.mpr ⟨h d (by simp),sD λe he=>h e (by simp[he])⟩
theorem KA{ds:List PyData}{k:Nat}(h:∀d∈ds,Pl d k):Pl (.tuple ds) (k+1):=⟨rX λd hd=>(h d hd).lay,my (sD λd hd=>(h d hd).deep)⟩
theorem E1(n:Int){k:Nat}:Pl (.int n) k:=⟨rfl,ah _⟩
theorem Nt{d:PyData}{k:Nat}(h:Pl d k):∀e∈[d],Pl e k:=λe he=>by rw[eJ] at he;subst he;exact h
theorem N7{d e:PyData}{k:Nat}(h:Pl d k)(g:Pl e k):∀f∈[d,e],Pl f k:=λf hf=>by
 rcases aL.mp hf with rfl | hf
 .exact h
 .exact Nt g f hf
theorem Mc{d e f:PyData}{k:Nat}(h:Pl d k)(g:Pl e k)(i:Pl f k):∀x∈[d,e,f],Pl x k:=λx hx=>by
 rcases aL.mp hx with rfl | hx
 .exact h
 .exact N7 g i x hx
def Jo:PyData->Bool
 | .none | .bool _ | .int _ | .str _=>true
 | _=>false
end Rm
namespace L2
open PySem PySem.Spec PyProof.Rows
section
variable {prog:Program} {w:World} {A:Around} {E:Value->Shared->Prop} {h:Heap} {g:Array GenState} {d:Drawn} {t:Nat} {os:OsState}
variable {nm q:Str} {C N:Addr} {bs bm bmB:ag} {hdct:Bool} {sn:List Str} {sub:ag} {ab:Bool} {col:Option Bool} {dd:Option Addr} {k0 k1 k2 k3 k5:bt} {B newId initId:String}
theorem wZ(F:ExcBaseFacts B newId initId bmB)(tl:OwnTail h bmB bm){mC:Str->bt}{us:ag}{fi:Addr}{of:Obj}{R:Fin->Shared->Prop}
  (hK:h.get? C=some (excClassObj nm q C N bs bm hdct sn sub ab col dd k0 k1 k2 k3 k5 newId)) (hNs:h.Ns N mC) (hin:mC "__init__"=some (.ref fi)) (hof:h.get? fi=some of) (hfn:of.cls=.type "function") (hlen:us.length<=sizeLine)
  (go:∀hh x,Heap.MadeExcOf h hh x (.ref C) us->wpAny (model prog w) A (call (.ref fi) (.ref x::us)) (λr z=>r=.none/\R (.done (.ret (.ref x))) z) E ⟨hh,g,d,t,os⟩) :
  wpAny (model prog w) A (Builtin.«type.__call__» ⟨.ref C::us,[]⟩) R E ⟨h,g,d,t,os⟩:=by
 repeat (first | (with_reducible refine UY hK ?_) | (with_reducible refine wpAny_madeBy_exc hK ?_) | wp_step)
 refine codeAny_call_builtin_code (ig _ F.quiet) (wpAny_check_new_subT F tl hK ?_);refine codeAny_exc_new_subT F tl hK ?_ hlen;show wpAny _ _ _ _ _ _;generalize hh1:h.push { cls:=.type "tuple",data:=.seq us.toArray }=h1;generalize hh2:h1.push { cls:=.ref C,data:=.fields #[.ref h.objs.size,.none,.none,.none,.bool false,.none] }=h2;have kp:∀b o,h.get? b=some o->h2.get? b=some o:=λb o e=>by rw[<-hh2,<-hh1];exact aB _ (aB _ e)
 have sz:h1.objs.size=h.objs.size+1:=by rw[<-hh1];exact dN _ _
 have at2:h2.get? (h.objs.size+1)=some { cls:=.ref C,data:=.fields #[.ref h.objs.size,.none,.none,.none,.bool false,.none] }:=by rw[<-hh2,<-sz];exact aP _ rfl
 have at1:h2.get? h.objs.size=some { cls:=.type "tuple",data:=.seq us.toArray }:=by rw[<-hh2];refine aB _ ?_;rw[<-hh1];exact aP _ rfl
 have hK2:=kp _ _ hK;have tl2:=tl.keeps kp;have hN2:h2.Ns N mC:=let ⟨o,es,ep,e,r⟩:=hNs;⟨o,es,ep,kp _ _ e,r⟩;have own:(Value.ref C::bm).contains (.ref C)=true:=by simp
 unfold isInstance
 repeat (first | (with_reducible refine UY at2 ?_) | (with_reducible refine wpAny_isSubtype_exc hK2 ?_;rw[own]) | wp_step)
 show wpAny _ _ (typeLookup (.ref C) _) _ _ _;refine wpAny_typeLookup_tail hK2 hN2 tl2 F.mroIs F.init.lookup ?_;rw[hin];refine Tx (wpAny_bind ?_);unfold bindSpecial;exists (wpAny_typeOf (T:="function") ⟨_,kp _ _ hof,hfn⟩ ?_);rw[U2 (by decide)];refine wpAny_pure (wpAny_bind (wpAny_mono (go h2 (h.objs.size+1) ⟨kp,h7 (dZ _),h.objs.size,at2,h7 (aI _),at1⟩) (λr z hr=>?_) λ_ _ y=>y));obtain⟨rfl,hR⟩:=hr
 wp_walk
 exact hR
theorem Fd(F:ExcBaseFacts B newId initId bmB)(tl:OwnTail h bmB bm){mC:Str->bt}{us:ag}{fi:Addr}{of:Obj}{R:Value->Shared->Prop}
  (hK:h.get? C=some (excClassObj nm q C N bs bm hdct sn sub ab col dd k0 k1 k2 k3 k5 newId)) (hNs:h.Ns N mC) (hin:mC "__init__"=some (.ref fi)) (hof:h.get? fi=some of) (hfn:of.cls=.type "function") (hlen:us.length<=sizeLine)
  (go:∀hh x,Heap.MadeExcOf h hh x (.ref C) us->wpAny (model prog w) (A.under (.builtin "type.__call__" ⟨.ref C::us,[]⟩)) (call (.ref fi) (.ref x::us)) (λr z=>r=.none/\R (.ref x) z) E ⟨hh,g,d,t,os⟩) :
  wpAny (model prog w) A (call (.ref C) us) R E ⟨h,g,d,t,os⟩:=by
 have l1:=tc_lookup;have l2:=tc_bind (.ref C);have ty:(⟨h,g,d,t,os⟩:Shared).TypeIs (.ref C) "type":=⟨_,hK,rfl⟩
 refine Ti (codeAny_of_tree ?_);show wpAny _ _ (callAny (.ref C) _) _ _ _
 repeat (any_goals (first | assumption | (with_reducible refine UY hK ?_) | wp_step))
 refine⟨rfl,?_⟩;exact codeAny_call_builtin_at (ig _ (by symm)) entry_typeCall (wpAny_check_type_call_sub hK (wZ F tl hK hNs hin hof hfn hlen λhh x m=>go hh x m))
end
section
variable {M:Model} {A:Around} {E:Value->Shared->Prop} {env:Env}
variable {nm q:Str} {C N:Addr} {bs bm:ag} {hdct:Bool} {sn:List Str} {sub:ag} {ab:Bool} {col:Option Bool} {dd:Option Addr} {k0 k1 k2 k3 k5:bt} {newId:String}
theorem zI {s:Shared} {x:Sem Value} {R:Flow->Shared->Prop} (hb:bm.contains (.type "BaseException")=true) (hh:A.handled=none)
  (go:wpAny M A x (λv z=>∃e dO a0 sl,v=.ref e/\z.heap.get? C=some (excClassObj nm q C N bs bm hdct sn sub ab col dd k0 k1 k2 k3 k5 newId)/\z.heap.get? e=some ⟨.ref C,dO,.fields #[a0,.none,.none,.none,.bool false,.none],sl⟩/\E (.ref e) z) E s) :
  wpAny M A (raiseStmt env (some x) none) R E s:=by
 have has:(Value.ref C::bm).contains (.type "BaseException")=true:=by rw[List.contains_cons,hb,rH]
 unfold raiseStmt;exists (wpAny_mono go (λv z h1=>?_) λ_ _ y=>y);obtain⟨e,dO,a0,sl,rfl,hK,he,hE⟩:=h1;obtain⟨hp,g,d,tk,os⟩:=z
 repeat (first | (with_reducible refine UY he ?_) | (with_reducible refine UY hK ?_) | (with_reducible refine wpAny_isSubtype_exc hK ?_;rw[has]) | wp_step)
 exact wpAny_raiseNew_none hh hE
end
def lQ(dO:Option Addr)(C t:Addr):Obj:=⟨.ref C,dO,.fields #[.ref t,.none,.none,.none,.bool false,.none],#[]⟩
def io(dO:Option Addr)(C e:Addr):HO:=.ext λh=>∃t,h.get? e=some (lQ dO C t)
theorem wF{P:Program}{w:World}{H:Hp}{h:Heap}{dO:Option Addr}{C e t:Addr}(he:h.get? e=some (lQ dO C t)):cc P w H h e (io dO C e):=
 ⟨⟨t,he⟩,⟨_,he⟩,λ_ _ ⟨t,a⟩ k=>⟨t,k _ a⟩⟩
structure rh (x:Str) (C fi:Addr) (bmB:ag) (newId:String) (mg:Str->bt) (base:Heap):Prop where
 bound:mg x=some (.ref C)
 obj:∃ (bm:ag) (N:Addr) (nm q:Str) (bs:ag) (hdct:Bool) (sn:List Str) (sub:ag) (ab:Bool) (col:Option Bool) (dd:Option Addr) (k0 k1 k2 k3 k5:bt) (mN:Str->bt),
  base.get? C=some (excClassObj nm q C N bs bm hdct sn sub ab col dd k0 k1 k2 k3 k5 newId)/\base.Ns N mN/\mN "__init__"=some (.ref fi)/\OwnTail base bmB bm
def yu(C:Addr)(t:TA):TE:=λZ H Q=>t Z H λvs H1=>∃e v,vs=[.ref e,v]/\H1 e=some (io none C e)/\Q .non H1
theorem Jg{H:Hp}{a:Addr}{o:HO}(h:H a=some o):upd H a o=H:=by
 funext b;unfold upd
 split
 .rename_i z;rw[z,h]
 .rfl
section
variable {X:Cx}
theorem FU{prog:Program}{w:World}{A:Around}{E:Value->Shared->Prop}{s:Shared}{bm bmB:ag}{C N e t0:Addr}{nm q:Str}{bs:ag}{hdct:Bool}{sn:List Str}{sub:ag}{ab:Bool}{col:Option Bool}{dd:Option Addr}{k0 k1 k2 k3 k5:bt}{B newId initId:String}{v:Value}{Q:Value->Shared->Prop}
  (F:ExcBaseFacts B newId initId bmB) (tl:OwnTail s.heap bmB bm) (hK:s.heap.get? C=some (excClassObj nm q C N bs bm hdct sn sub ab col dd k0 k1 k2 k3 k5 newId)) (he:s.heap.get? e=some (lQ none C t0))
  (hq:∀h' t1,h'.get? e=some (lQ none C t1)->(∀b o,b≠e->s.heap.get? b=some o->h'.get? b=some o)->Q .none { s with heap:=h' }) :
  wpAny (model prog w) A (call (.builtin initId) [.ref e,v]) Q E s:=by
 obtain⟨h,g,d,t,os⟩:=s;refine Ti (codeAny_call_builtin F.init.plain F.initEntry (wpAny_check_init_subT F tl hK he rfl ?_));unfold Builtin.«BaseException.__init__»;dsimp only;rw[U1 (by simp)];unfold newTuple Builtin.BaseException.bexcPut;have he1:=aB (h:=h) { cls:=.type "tuple",data:=.seq [v].toArray } he;exists (Tr (wpAny_bind (wpAny_bind (UO he1 rfl rfl (wpAny_bind (UJ he1 rfl (by show 0<6;decide) ?_))))) (by show 1<=sizeLine;rw[Tg];lia));refine UC (wpAny_pure (hq _ h.objs.size ?_ λb o nb hb=>?_))
 .exact(bq _ he1 rfl).trans rfl
 .exact(jP _ (fM nb) (aB _ hb))
theorem E3{xR:Str}{x:Str}{R C fi:Addr}{bmB:ag}{B newId initId:String}{e:Expr}{es:lc}{t:TA}{p apos pos:Pos}{pl:Sem Bool}(F:ExcBaseFacts B newId initId bmB)(O:rh x C fi bmB newId X.mg X.base)(hgR:Gl X xR)(hmR:X.mg xR=some (.ref R))
  (rd:W.readsIn X.K R (.type "type")=true) (sg:W.specialIn X.K (.ref R) "__getattribute__"=some (some (.builtin "type.__getattribute__"))) (fc:W.findCls X.K (.ref R) (.type "type") "__init__"=some (.val (.builtin initId)))
  (hh:W.handedIn (.builtin initId)=true) (ha:PA X (e::es) t) (hdb:(xR==("__debug__":Str))=false:=by decide)
  (hst:starEach (e::es) X.env=(false,eval e X.env)::starEach es X.env:=by rfl) (hpl:(backTo pos (starEach es X.env)).any (·.1)=false:=by rfl)
  (ht:eval (.Call (.Attribute (.Name xR p) "__init__" apos) (e::es) [] pos) X.env=(do
   let ov <-eval (.Name xR p) X.env
   standAt apos.atName
   let (f,fst) <-holding [ov] (getMethod ov "__init__" pl)
   callWith pos f fst (backTo pos (starEach (e::es) X.env)) (backToKw pos (keywordEach [] X.env))):=by rfl) :
  PE X (.Call (.Attribute (.Name xR p) "__init__" apos) (e::es) [] pos) (yu C t):=by
 intro pins s Z H Q I h;refine W.methodCall_KW (pl:=pl) (jh I hgR hmR (W.method_cls I.kIn sg (W.cls_value I.kIn rd fc hh ?_)) hdb) ht;have It:=I.tok (s.toks+1);refine gB (dw (ha pos pins _ Z H _ It h) λus s1 z'=>?_) hst hpl;obtain⟨vs,H1,I1,r,x0,v,ev,hx,q⟩:=z';subst ev;obtain⟨bm,N,nm,q0,bs,hdct,sn,sub,ab,col,dd,k0,k1,k2,k3,k5,mN,hC,hN,hi,ot⟩:=O.obj;obtain⟨u0,u1,rfl,r0,r1⟩:=cH.two r;cases (show u0=Value.ref x0 from r0);obtain⟨t0,hx0⟩:=(I1.hok x0 _ hx).1;refine FU (A:=X.A) F (nP I1.bk ot) (I1.bk _ _ hC) hx0 λh' t1 e1 k=>?_;have I2:=I1.write (x:=x0) (e:=x0) (o:=io none C x0) (t':=s1.toks) (by rw[hx];exact True.intro) (.inl rfl) (λb o nb hb=>k b o nb hb) ⟨_,e1⟩ (wF e1);rw[Jg hx] at I2;exact⟨.non,_,I2,rfl,q⟩
end
theorem HQ{prog:Program}{w:World}{A:Around}{R:Result->Shared->Prop}{s:Shared}{K:U9}{x C:Addr}{cd:ClassData}{name:Str}{tk:Tok}{v:Value}{t0:Addr}(Xk:K.In s.heap)(hx:s.heap.get? x=some (lQ none C t0))
  (hc:W.clsIn K C=some cd) (hdc:cd.hasDict=true) (hob:cd.mro.contains (.type "object")=true) (hpass:refuseLoop (.ref x) "__setattr__" cd.mro=pure ()) (hn:W.findIn K (.ref C) name=some none)
  (go:∀h' tk' dx,s.heap.get? dx=none->h'.get? x=some (lQ (some dx) C t0)->h'.Ns1 dx (λy=>if y=name then some v else none)->(∀b o,b≠x->s.heap.get? b=some o->h'.get? b=some o)->R (.ok (.ret .none)) { s with heap:=h',toks:=tk' }) :
  codeAny (model prog w) A (.call (.builtin "object.__setattr__") ⟨[.ref x,.str name tk,v],[]⟩) R s:=by
 have SF:=PySem.F.store_object;obtain⟨h,g,d,t,os⟩:=s;have ty:W.InstAt h x (lQ none C t0) C none:=⟨hx,rfl,rfl,trivial⟩
 have ne:cd.mro.isEmpty=false:=by cases q:cd.mro with | nil=>rw[q] at hob;cases hob | cons _ _=>rfl
 have sub:W.Looks (model prog w) h (isInstance (.ref x) (.type "object")) true:=ty.type.andThen (W.looks_mroIn Xk (by unfold W.mroIn;rw[hc,Option.bind_some,U1 (by rw[ne];decide),hob]));refine codeAny_call_builtin SF.slot.plain SF.entry (@W.check_slot (model prog w) _ _ ⟨h,g,d,t,os⟩ "object.__setattr__" "object" "__setattr__" (.ref x) [.str name tk,v] [] _ SF.kind SF.split sub (SF.args (.ref x) (.str name tk) v) ?_);have mr:W.Looks (model prog w) h (mroOf (.ref C)) cd.mro:=(W.looks_clsIn Xk hc).andThen .now;rw[W.osa_eq,refuse_eq];exists (wpAny_bind (ty.type.here (wpAny_bind (mr.here ?_))));rw[hpass];refine wpAny_pure (wpAny_bind (ty.type.here (wpAny_bind ((dX Xk hn).here (wpAny_bind (wpAny_pure ?_))))));show wpAny _ _ (Builtin.ObjectAttr.storeInOwnDict (.ref x) (.ref C) (.str name tk) name v false) _ _ _;unfold Builtin.ObjectAttr.storeInOwnDict;exists (wpAny_pure (wpAny_bind (wpAny_bind (wpAny_loadPart hx (wpAny_bind ((W.looks_clsIn Xk hc).here ?_))))));rw[hdc];have hx1:(h.push { cls:=.type "dict",data:=.dict #[] }).get? x=some (lQ none C t0):=aB _ hx;have ns:x≠h.objs.size:=a6 (aN hx);exists (wpAny_alloc' (wpAny_bind (wpAny_update' hx1 ?_)));refine wpAny_pure ?_;generalize hh2:(h.push { cls:=.type "dict",data:=.dict #[] }).update x _=h2;have dNew:h2.get? h.objs.size=some { cls:=.type "dict",data:=.dict #[] }:=by rw[<-hh2];exact(dq _ _ _ _ (fM ns)).trans (aP _ rfl)
 have x2:h2.get? x=some (lQ (some h.objs.size) C t0):=by rw[<-hh2];exact(bq _ hx1 rfl).trans rfl
 have nsE:h2.Ns h.objs.size (λ_=>none):=⟨_,#[],_,dNew,rfl,λe he=>absurd he (by simp),λ_=>rfl⟩
 show wpAny _ _ (Builtin.ObjectAttr.storeInDict h.objs.size (.str name tk) name v) _ _ _;unfold Builtin.ObjectAttr.storeInDict Builtin.ObjectAttr.newKeyGuard;exists (wpAny_pure (wpAny_bind (wpAny_nsSet1 (Heap.Ns1.of_empty nsE) λh3 n3 s3=>?_)));obtain⟨oD,esD,epD,e1,e2,e3⟩:=n3.count (Within.cons name v Within.nil);exists (wpAny_lookBehind e1 (by rw[e2];exact pastItsLine_dict (bN e3 (by rw[bL,fR,Tg];lia))) ?_);refine wpAny_pure (go h3 _ h.objs.size (h7 (aI _)) ((s3.2 x ns).trans x2) n3 λb o nb hb=>(s3.2 b (a6 (aN hb))).trans ?_);rw[<-hh2];exact(dq _ _ _ _ nb).trans (aB _ hb)
structure Kw (K:U9) (C:Addr) (f:Str):Prop where
 sa:W.findIn K (.ref C) "__setattr__"=some (some (.builtin "object.__setattr__"))
 cls:∃ cd,W.clsIn K C=some cd/\cd.hasDict=true/\cd.mro.contains (.type "object")=true/\∀ self,refuseLoop self "__setattr__" cd.mro=pure ()
 no:W.findIn K (.ref C) f=some none
def Iz(C:Addr)(f:Str)(ta tv:TE):TS:=λD Z H=>tv Z H λy H1=>ta Z H1 λx H2=>∃e,x=.ref e/\H2 e=some (io none C e)/\∀dx,H2 dx=none->dx≠e->D.nx Z (upd (upd H2 dx (.xd [(f,y)])) e (io (some dx) C e))
section
variable {X:Cx}
theorem bc.dicted{pins:List (Addr×Obj)}{Z:St}{H:Hp}{s:Shared}{e dx C t0:Addr}{f:Str}{y:V}{u:Value}{h':Heap}{tk:Nat}(I:bc X pins Z H s)(he:H e=some (io none C e))(nd:s.heap.get? dx=none)(ne:dx≠e)(ry:RelV y u)
  (e1:h'.get? e=some (lQ (some dx) C t0)) (n1:h'.Ns1 dx (λz=>if z=f then some u else none)) (kp:∀b o,b≠e->s.heap.get? b=some o->h'.get? b=some o) :
  H dx=none/\bc X pins Z (upd (upd H dx (.xd [(f,y)])) e (io (some dx) C e)) { s with heap:=h',toks:=tk }:=by
 have hn:H dx=none:=by
  cases z:H dx with
  | none=>rfl
  | some o=>obtain⟨ob,q⟩:=(I.hok dx o z).ex;rw[nd] at q;cases q
 have oth:∀b,b≠e->b≠dx->upd (upd H dx (.xd [(f,y)])) e (io (some dx) C e) b=H b:=λb h1 h2=>by rw[aO h1,aO h2]
 have inh:∀b o,s.heap.get? b=some o->b≠dx:=λb o q z=>by subst z;rw[nd] at q;cases q
 have trk:∀b o,H b=some o->b≠dx:=λb o q z=>by subst z;rw[hn] at q;cases q
 have net:∀b o,H b=some o->(∀φ,o≠.ext φ)->b≠e:=λb o q n z=>by subst z;rw[he] at q;cases q;exact n _ rfl
 have unt:∀b,H b=none->b≠e:=λb q z=>by subst z;rw[he] at q;cases q
 refine⟨hn,I.un ⟨λb o q n _ _=>kp b o (unt b n) q,λb o q n _ _=>⟨o.slots,kp b o (unt b n) q⟩,λb o q n _=>by rw[oth b (unt b n) (inh b o q)];exact n,λb o q _=>?_,
  λb xs q=>by rw[oth b (net b _ q λφ z=>by cases z) (trk b _ q)];exact q,λb o v q=>by rw[oth b (net b _ q λφ z=>by cases z) (trk b _ q)];exact q,λb ps q=>⟨#[],by rw[oth b (net b _ q λφ z=>by cases z) (trk b _ q),q];simp⟩⟩ λb o q=>?_⟩
 .by_cases z:b=e
  .exact⟨_,z▸e1⟩
  .exact⟨o,kp b o z q⟩
 .by_cases z:b=e
  .subst z;rw[aG] at q;cases q;exact wF e1
  .rw[aO z] at q;by_cases z2:b=dx
   .subst z2;rw[aG] at q;cases q;refine⟨_,n1,λg=>?_⟩;by_cases zg:g=f
    .subst zg;simp only[List.lookup,beq_self_eq_true,U7];exact ry
    .have:(g==f)=false:=beq_eq_false_iff_ne.mpr zg;simp only[List.lookup,this,U1 zg];trivial
   .rw[aO z2] at q;refine(I.hok b o q).stay (λc v hc q'=>kp c v ?_ q') (λc q'=>by rw[oth c (net c _ q' λφ z=>by cases z) (trk c _ q')];exact q') λc xs q'=>by rw[oth c (net c _ q' λφ z=>by cases z) (trk c _ q')];exact q'
    rcases hc with r | r
    .rw[r];exact z
    .exact net c _ r λφ z=>by cases z
end
theorem CF:∀n:Nat,n<=60->(PySem.Str.ofString (toString (n:Int))).length<=2/\(n:Int).natAbs.log2<1920:=by
 have h:∀n:Fin 61,(PySem.Str.ofString (toString ((n:Nat):Int))).length<=2/\((n:Nat):Int).natAbs.log2<1920:=by symm
 exact λn hn=>h ⟨n,by lia⟩
def zu(H:Hp)(e:Addr):Hp:=λb=>if b=e then none else H b
theorem nZ{H:Hp}{e b:Addr}(h:b≠e):zu H e b=H b:=U1 h
theorem vc{H:Hp}{e b:Addr}{o:HO}(h:zu H e b=some o):b≠e/\H b=some o:=by
 unfold zu at h
 split at h
 .cases h
 .rename_i z;exact⟨z,h⟩
def GH(X:Cx)(E:XK):Prop:=∀(pins:List (Addr×Obj)) (Z:St) (H1 H:Hp) (s1 s:Shared) (e C:Addr) (dO:Option Addr),bc X pins Z H1 s1->s1.heap.get? e=none->bc X pins Z H s->H e=some (io dO C e)->E (.ref C) dO (zu H e)->X.xe (.ref e) s
theorem Bk{P:Program}{w:World}{K:U9}{mg:Str->bt}{base:Heap}{N:List Str}{qual:Str}{scope:Scope}{f:Addr}{cd:Value}{A:Around}{outer:List Env}{s0:Shared}{H0:Hp}{E:XK}:
  GH (kE (rG P w) P w K mg base N qual scope f cd A outer s0 H0 E) E:=by
 intro pins Z H1 H s1 s e C dO I1 n1 I he hE;generalize hX:kE (rG P w) P w K mg base N qual scope f cd A outer s0 H0 E=X at I I1 |-;have hst:X.stack=X.env::X.outer:=by rw[<-hX];rfl
 have hfr:X.env.frame=some X.env.locals:=by rw[<-hX];rfl
 have hxe:X.xe=λe s'=>wpAny (model X.prog X.w) X.A (leaving X.env e) (λ_ s''=>rG X.prog X.w X.outer X.H₀ X.s₀ E e s'') (λe' s''=>rG X.prog X.w X.outer X.H₀ X.s₀ E e' s'') s':=by rw[<-hX];rfl
 have hex:X.ex=[]:=by rw[<-hX];rfl
 have hfs:lq X.stack=X.env.locals::X.fs:=by rw[hst];unfold lq;rw[c6,hfr];rfl
 clear hX;have ne0:∀b o,X.s₀.heap.get? b=some o->b≠e:=λb o q z=>by
  subst z;obtain⟨o',q'⟩:=I1.base.there b o q (by rw[hex];simp);rw[n1] at q';cases q'
 rw[hxe];obtain⟨t0,hobj⟩:=(I.hok e _ he).1;have hB:∀b o,s.heap.get? b=some o->b≠e->b∉lq X.stack->(W.hideAll s.heap (e::lq X.stack)).get? b=some o:=λb o q1 q2 q3=>kT _ q1 (λz=>(aL.mp z).elim q2 q3);have Be:(W.hideAll s.heap (e::lq X.stack)).get? e=none:=hU _ aW;refine i6 (fF.leave (dO:=dO) (e:=e)) ⟨_,_,hobj,⟨rfl,rfl⟩,rfl⟩ ?_;refine wpAny_leaving_firstW (base:=W.hideAll s.heap (e::lq X.stack)) (outer:=X.outer) (L:=X.env.locals) (a0:=.ref t0) (by rw[I.ok.frames,hst]) (pA (hst▸I.stack) λb m=>hU _ (aJ _ (hst▸m))) hfr hobj
  (λb o q=>lT _ q) Be rfl rfl rfl λh2 hL ct=>?_
 obtain⟨stay,⟨_,_,k2⟩,k3,up⟩:=hL;have out:∀b o,X.s₀.heap.get? b=some o->b∉X.fs->b∉lq X.stack:=λb o q1 q2 z=>by
  rw[hfs] at z;exact(aL.mp z).elim (a6 (aZ (aN q1) I.ok.above)) q2
 have slot:∀b o,s.heap.get? b=some o->b∈X.fs->∃sl,h2.get? b=some { o with slots:=sl }:=λb o q m=>by
  obtain⟨_,o',q2,nf⟩:=I.funs.mem m;rw[q] at q2;cases q2;obtain⟨sl,z⟩:=up b o q nf;exact⟨sl,z⟩
 have u:=I.base;rw[hex] at u;have net:∀b o,H b=some o->(∀φ,o≠.ext φ)->b≠e:=λb o q n z=>by subst z;rw[he] at q;cases q;exact n _ rfl
 refine⟨e,C,t0,zu H e,_,dO,rfl,I.os,I.bare,⟨λb o q1 q2 q3 q4=>?_,λb o q1 q2 q3 q4=>?_,λb o q1 q2 q3=>?_,λb o q1 q2=>?_,λb xs q=>?_,λb o v q=>?_,λb ps q=>?_⟩,λb o q1=>?_,⟨stay,Be,k2,k3⟩,⟨λb o q1 q2=>?_,λb o q1=>?_⟩,ct,hE⟩
 .exact stay b o (hB b o (u.keep b o q1 q2 q3 q4) (ne0 b o q1) (out b o q1 q3))
 .obtain⟨sl,q⟩:=u.slot b o q1 q2 q3 q4;exact(slot b _ q q3).imp λsl' z=>z
 .rw[nZ (ne0 b o q1)];exact u.free b o q1 q2 q3
 .obtain⟨o',q⟩:=u.there b o q1 q2;by_cases m:b∈X.fs
  .obtain⟨sl,q'⟩:=slot b o' q m;exact⟨_,q'⟩
  .exact⟨o',stay b o' (hB b o' q (ne0 b o q1) (out b o q1 m))⟩
 .have q':=u.tups b xs q;rw[nZ (net b _ q' λφ z=>by cases z)];exact q'
 .have q':=u.frzs b o v q;rw[nZ (net b _ q' λφ z=>by cases z)];exact q'
 .obtain⟨more,q'⟩:=u.tbls b ps q;exact⟨more,by rw[nZ (net b _ q' λφ z=>by cases z)];exact q'⟩
 .obtain⟨nb,q2⟩:=vc q1;refine(I.hok b o q2).stay (λc v hc q=>stay c v (hB c v q ?_ λz=>?_)) (λc q=>by rw[nZ (net c _ q λφ z=>by cases z)];exact q) λc xs q=>by rw[nZ (net c _ q λφ z=>by cases z)];exact q
  .rcases hc with r | r
   .rw[r];exact nb
   .exact net c _ r λφ z=>by cases z
  .have n:=I.stkFree c z;rcases hc with r | r
   .rw[r,q2] at n;cases n
   .rw[r] at n;cases n
 .obtain⟨o',q⟩:=u.there b o q1 (by simp);exact⟨o',hB b o' q (ne0 b o q1) (out b o q1 q2)⟩
 .obtain⟨nb,q2⟩:=vc q1;obtain⟨ob,q⟩:=(I.hok b o q2).ex;refine⟨ob,hB b ob q nb λz=>?_⟩;have n:=I.stkFree b z;rw[q2] at n;cases n
def Ah(C:Addr)(f:Str)(ok:V->Hp->Prop):Sp:=λvs H Q _=>∃e v,vs=[.ref e,v]/\ok v H/\H e=some (io none C e)/\∀dx,H dx=none->dx≠e->Q .non (upd (upd H dx (.xd [(f,v)])) e (io (some dx) C e))
def vw(C:Addr)(f:Str)(ok:V->Hp->Prop)(E:XK)(t:TA):TS:=λ_ Z H=>t Z H λvs H1=>∃v,vs=[v]/\ok v H1/\∀dx,H1 dx=none->E (.ref C) (some dx) (upd H1 dx (.xd [(f,v)]))
section
variable {X:Cx}
theorem bc.freshV{pins:List (Addr×Obj)}{Z:St}{H:Hp}{s:Shared}{a:Addr}{o:HO}{h':Heap}(I:bc X pins Z H s)(na:s.heap.get? a=none)(k:∀b u,s.heap.get? b=some u->h'.get? b=some u)(new:cc X.prog X.w (upd H a o) h' a o):H a=none/\bc X pins Z (upd H a o) { s with heap:=h' }:=by
 have hn:H a=none:=by
  cases z:H a with
  | none=>rfl
  | some o=>obtain⟨ob,q⟩:=(I.hok a o z).ex;rw[na] at q;cases q
 have inh:∀b o,s.heap.get? b=some o->b≠a:=λb o q z=>by subst z;rw[na] at q;cases q
 have trk:∀b o,H b=some o->b≠a:=λb o q z=>by subst z;rw[hn] at q;cases q
 refine⟨hn,I.un (t':=s.toks) ⟨λb o q n _ _=>k b o q,λb o q n _ _=>⟨o.slots,k b o q⟩,λb o q n _=>by rw[aO (inh b o q)];exact n,λb o q _=>⟨o,k b o q⟩,λb xs q=>by rw[aO (trk b _ q)];exact q,λb o v q=>by rw[aO (trk b _ q)];exact q,λb ps q=>⟨#[],by rw[aO (trk b _ q),q];simp⟩⟩ λb u q=>?_⟩;by_cases z:b=a
 .subst z;rw[aG] at q;cases q;exact new
 .rw[aO z] at q;exact(I.hok b u q).stay (λc v hc q'=>k c v q') (λc q'=>by rw[aO (trk c _ q')];exact q') λc xs q'=>by rw[aO (trk c _ q')];exact q'
theorem Bv{x f:Str}{ok:V->Hp->Prop}{C fi:Addr}{fd:FuncData}{ps:List Str}{k:Nat}{bmB:ag}{B newId initId:String}{E:XK}{e:Expr}{es:lc}{t:TA}{np cpos pos:Pos}(R:GH X E)(O:rh x C fi bmB newId X.mg X.base)(F:ExcBaseFacts B newId initId bmB)
  (G:nw X.prog X.w X.K X.mg X.base we k fi fd ps (Ah C f ok)) (hty:W.typeIn X.K (.ref fi)=some (.type "function")) (hkp:W.keepIn X.K (.ref C)=true) (hb:Binds X.K fd ps []) (hok:∀v H x o,H x=none->ok v H->ok v (upd H x o)) (hr:fj (k+1) X.A) (hg:Gl X x) (ha:PA X (e::es) t)
  (hdb:(x==("__debug__":Str))=false:=by decide) (he:starEach (e::es) X.env=(false,eval e X.env)::starEach es X.env:=by rfl) (hpl:(backTo cpos (starEach es X.env)).any (·.1)=false:=by rfl) :
  PS X (.Raise (some (.Call (.Name x np) (e::es) [] cpos)) none pos) (vw C f ok E t):=by
 intro pins s Z H D I h;obtain⟨bm,N,nm,q,bs,hdct,sn,sub,ab,col,dd,k0,k1,k2,k3,k5,mN,hC,hN,hi,ot⟩:=O.obj;obtain⟨of,hof,hfn⟩:∃of,X.K.lookup fi=some of/\of.cls=.type "function":=by
  have hty':Option.map (λx=>x.cls) (List.lookup fi X.K)=some (.type "function"):=hty;obtain⟨of,h1,h2⟩:=fD.mp hty';exact⟨of,h1,h2⟩
 rw[arm_exec_Raise];exists (Tq (zI (C:=C) (nm:=nm) (q:=q) (N:=N) (bs:=bs) (bm:=bm) (hdct:=hdct) (sn:=sn) (sub:=sub) (ab:=ab) (col:=col) (dd:=dd) (k0:=k0) (k1:=k1) (k2:=k2) (k3:=k3) (k5:=k5) (newId:=newId) (tF F.hasBase ot) hr.hd ?_));exists (wpAny_mono (Q:=λv z=>∃e dO a0 sl,v=.ref e/\z.heap.get? C=some (excClassObj nm q C N bs bm hdct sn sub ab col dd k0 k1 k2 k3 k5 newId)/\z.heap.get? e=some ⟨.ref C,dO,.fields #[a0,.none,.none,.none,.bool false,.none],sl⟩/\X.xe (.ref e) z) ?_ (λv s3 h3=>wpAny_bind (Tq (wpAny_pure h3))) λ_ _ y=>y);refine Tl (jh I hg O.bound ?_ hdb);refine ic (h₀:=X.base) I.ok.mod.kin hkp (dw (ha cpos pins s Z H _ I h) λus s1 ⟨vs,H1,I1,r,v,ev,okv,qE⟩=>⟨I1.kIn,?_⟩) he hpl;subst ev;obtain⟨h1,g1,d1,t1,os1⟩:=s1;have hlen:us.length<=sizeLine:=by rw[<-r.length];show 1<=sizeLine;rw[Tg];lia
 refine Fd F (nP I1.bk ot) (I1.bk _ _ hC) (uB I1.bk hN) hi (I1.kIn _ _ hof) hfn hlen λhh x0 m=>?_;obtain⟨t0,m1,m2,m3⟩:=m.there;obtain⟨nx,I2⟩:=I1.freshV (o:=io none C x0) m.new m.keeps (wF (t:=t0) m1);have r2:cH ([V.ref x0,v]++[]) ((Value.ref x0::us)++[]):=cH.append (.cons rfl r) .nil;have sp0:Ah C f ok ([V.ref x0,v]++[]) (upd H1 x0 (io none C x0)) (λy H3=>y=.non/\∃dx,H1 dx=none/\dx≠x0/\H3=upd (upd (upd H1 x0 (io none C x0)) dx (.xd [(f,v)])) x0 (io (some dx) C x0)) E0:=
  ⟨x0,v,rfl,hok _ _ _ _ nx okv,aG,λdx n1 n2=>⟨rfl,dx,by rw[aO n2] at n1;exact n1,n2,rfl⟩⟩
 have hl:((Value.ref x0::us)++[]).length=ps.length:=by rw[<-r2.length];exact G.len _ _ _ _ sp0
 refine Ti (Tj (G.run _ X.stack _ _ ⟨Value.ref x0::us,[]⟩ ((Value.ref x0::us)++[]) ([V.ref x0,v]++[]) _ E0 (hr.make C us []) (I2.env0.make C us []) (hb _ (Value.ref x0::us) I2.kIn hl) r2 sp0) λrs s' hq=>?_);cases rs with
 | error ev=>exact False.elim hq
 | ok fl=>
  cases fl with
  | ret u=>
   obtain⟨y,H3,I3,ry,rfl,dx,n1,n2,rfl⟩:=I2.after hq;obtain⟨t3,o3⟩:=(I3.hok x0 _ aG).1;refine⟨ry,x0,some dx,.ref t3,#[],rfl,I3.bk _ _ hC,o3,R pins Z H1 _ _ _ x0 C (some dx) I1 m.new I3 aG ?_⟩;have e:zu (upd (upd (upd H1 x0 (io none C x0)) dx (.xd [(f,v)])) x0 (io (some dx) C x0)) x0=upd H1 dx (.xd [(f,v)]):=by
    funext b;by_cases z:b=x0
    .subst z;unfold zu;rw[U2 rfl,aO (fM n2),nx]
    .rw[nZ z,aO z];by_cases z2:b=dx
     .subst z2;rw[aG,aG]
     .rw[aO z2,aO z2,aO z]
   rw[e];exact qE dx n1
  | next=>exact False.elim hq
  | brk=>exact False.elim hq
  | cont=>exact False.elim hq
end
theorem Fc{prog:Program}{w:World}{A:Around}{E:Value->Shared->Prop}{s:Shared}{K:U9}{a C N:Addr}{o od:Obj}{bs bm bmB:ag}{nm q:Str}{hdct:Bool}{sn:List Str}{sub:ag}{ab:Bool}{col:Option Bool}{dd:Option Addr}{k0 k1 k2 k3 k5:bt}{B newId:String}{name:Str}{expr:Bool}{v:Value}{Q:Value->Shared->Prop}
  (X:K.In s.heap) (I:W.InstAt s.heap a o C (some od)) (hga:W.findIn K (.ref C) "__getattribute__"=some (some (.builtin "BaseException.__getattribute__"))) (hgt:W.findIn K (.ref C) "__getattr__"=some none)
  (hf:W.findObj K C (some od) name=some (.value v)) (FB:ExcAttrBase B bmB) (hC:s.heap.get? C=some (excClassObj nm q C N bs bm hdct sn sub ab col dd k0 k1 k2 k3 k5 newId)) (T:OwnTailQ s.heap bmB bm) (hh:W.handedIn v=true) (hq:Q v { s with toks:=s.toks+1 }) :
  wpAny (model prog w) A (getAttr (.ref a) name expr) Q E s:=by
 obtain⟨h,g,d,t,os⟩:=s;unfold getAttr getAttrBy;exists (wpAny_mkText (Tx (wpAny_bind (cA (dH I) (wpAny_bind (cA (dX X hga) ?_))))));refine UP (by rfl) ?_;unfold getAttrByItsOwn hookBefore;exists (wpAny_ite_true (by rfl) (cA (dX X hgt) (wpAny_bind (UF (Tx ?_)))));unfold callGetattribute boundAndCalled;refine UP (by cases expr<;>rfl) (wpAny_bind (wpAny_of_eq (FB.ga.bind (Value.ref a)) (Ti (codeAny_call_builtin FB.ga.plain oN (UQ FB hC T I.at_ I.cls ?_)))));unfold Builtin.«object.__getattribute__»;refine wpAny_bind ?_;unfold slotArgs;refine UP (by rfl) (UP (by rfl) (wpAny_pure ?_));show wpAny _ _ (Bind.bind (Builtin.ObjectAttr.attrName (Value.str name _)) _) _ _ _;refine wpAny_bind ?_;unfold Builtin.ObjectAttr.attrName;refine wpAny_pure ?_;exists (cA (dH I) (wpAny_bind (cA (lU X I hf) ?_)));refine wpAny_pure ?_;refine lw hh ?_;exact hq
structure Ck (K:U9) (C:Addr) (f:Str):Prop where
 ga:W.findIn K (.ref C) "__getattribute__"=some (some (.builtin "BaseException.__getattribute__"))
 gt:W.findIn K (.ref C) "__getattr__"=some none
 no:W.findIn K (.ref C) f=some none
 hd:W.hasDictIn K C=true
 own:∃ B bmB,ExcAttrBase B bmB/\∀ h:Heap,K.In h->∃ nm q N bs bm hdct sn sub ab col dd k0 k1 k2 k3 k5 newId,h.get? C=some (excClassObj nm q C N bs bm hdct sn sub ab col dd k0 k1 k2 k3 k5 newId)/\OwnTailQ h bmB bm
def Iq(K:U9)(f:Str)(ta:TE):TE:=λZ H Q=>ta Z H λx H1=>∃a C dx v,x=.ref a/\H1 a=some (jv (some dx) C a)/\H1 dx=some (.xd [(f,v)])/\Ck K C f/\Q v H1
theorem KQ{K:U9}{h:Heap}{N:Addr}{m:Str->bt}{x:Str}{v:Value}(KX:K.In h)(G:h.Ns N m)(q:W.nsIn K N x=some (some v)):m x=some v:=by
 obtain⟨o,es,ep,ho,hd,hk,hf⟩:=G;unfold W.nsIn at q
 revert q
 split
 .rename_i c d es' n' sl lk;have e1:=KX _ _ lk;rw[ho] at e1;cases e1;cases hd;intro q
  split at q
  .rename_i en fe;cases q;rw[<-hf];unfold nsFind findBy;rw[<-Array.find?_toList,fe];rfl
  .split at q<;>cases q
 .intro q;cases q
theorem zq{K:U9}{C R N NR fi:Addr}{nm q x f:Str}{bs bmB:ag}{sn:List Str}{sub:ag}{ab:Bool}{col:Option Bool}{dd dR:Option Addr}{k0 k1 k2 k3 k5:bt}{newId B:String}{cR:Value}{cdR:ClassData}{slR:Array (bt)}{mg:Str->bt}{base:Heap}
  (KX:K.In base) (G:base.Ns mainGlobals mg) (e0:W.nsIn K mainGlobals x=some (some (.ref C))) (lkC:K.lookup C=some (excClassObj nm q C N bs (.ref R::bmB) true sn sub ab col dd k0 k1 k2 k3 k5 newId)) (lkR:K.lookup R=some ⟨cR,dR,.cls cdR,slR⟩)
  (nC:W.nsOkIn K N=true) (iC:W.nsIn K N "__init__"=some (some (.ref fi))) (eR:cdR.ns=NR) (nR:W.nsOkIn K NR=true) (r1:W.nsIn K NR "__init__"=some none) (r2:W.nsIn K NR "__getattribute__"=some none) (r3:W.nsIn K NR "__getattr__"=some none) (r4:W.nsIn K NR "args"=some none)
  (FB:ExcAttrBase B bmB) (ga:W.findIn K (.ref C) "__getattribute__"=some (some (.builtin "BaseException.__getattribute__"))) (gt:W.findIn K (.ref C) "__getattr__"=some none) (sa:W.findIn K (.ref C) "__setattr__"=some (some (.builtin "object.__setattr__"))) (no:W.findIn K (.ref C) f=some none)
  (hob:(Value.ref C::.ref R::bmB).contains (.type "object")=true) (pass:∀self,refuseLoop self "__setattr__" bmB=pure ()):rh x C fi bmB newId mg base/\Ck K C f/\Kw K C f:=by
 subst eR;have hcl:∃cd,W.clsIn K C=some cd/\cd.hasDict=true/\cd.mro=.ref C::.ref R::bmB:=by
  unfold W.clsIn;rw[lkC];exact⟨_,rfl,rfl,rfl⟩
 obtain⟨cd,c1,c2,c3⟩:=hcl;refine⟨⟨bY KX G e0,?_⟩,⟨ga,gt,no,?_,B,bmB,FB,λh X=>?_⟩,⟨sa,⟨cd,c1,c2,by rw[c3];exact hob,λself=>by rw[c3,refuseLoop_ref,refuseLoop_ref];exact pass self⟩,no⟩⟩
 .exact⟨_,N,nm,q,bs,true,sn,sub,ab,col,dd,k0,k1,k2,k3,k5,_,KX _ _ lkC,fT (eI KX nC),KQ KX (fT (eI KX nC)) iC,.own (KX _ _ lkR) (fT (eI KX nR)) (bh KX nR r1) .base⟩
 .unfold W.hasDictIn;rw[c1];exact c2
 .exact⟨nm,q,N,bs,_,true,sn,sub,ab,col,dd,k0,k1,k2,k3,k5,newId,X _ _ lkC,.own (X _ _ lkR) (fT (eI X nR))
   (EO (bh X nR r1) (bh X nR r2) (bh X nR r3) (bh X nR r4)) .base⟩
def NF:Stmt->Stmt
 | .ClassDef _ _ _ (b::r) _ _ _ _ _ _ _=>b
 | st=>st
structure NN (K:U9) (R:Addr) (initId:String):Prop where
 rd:W.readsIn K R (.type "type")=true
 sg:W.specialIn K (.ref R) "__getattribute__"=some (some (.builtin "type.__getattribute__"))
 fc:W.findCls K (.ref R) (.type "type") "__init__"=some (.val (.builtin initId))
 hh:W.handedIn (.builtin initId)=true
theorem CV:W.handedIn (.builtin "ValueError.__init__")=true:=by symm
structure Ky (P:Program) (w:World) (K:U9) (mg:Str->bt) (base:Heap) (k:Nat) (x:Str) (C:Addr) (f:Str) (ok:V->Hp->Prop):Prop where
 ex:∃ fi fd ps bmB newId B initId,rh x C fi bmB newId mg base/\ExcBaseFacts B newId initId bmB/\nw P w K mg base we k fi fd ps (Ah C f ok)/\W.typeIn K (.ref fi)=some (.type "function")/\W.keepIn K (.ref C)=true/\Binds K fd ps []/\∀ (v:V) (H:Hp) (x:Addr) (o:HO),H x=none->ok v H->ok v (upd H x o)
section
variable {X:Cx}{Z:St}{H:Hp}{Q:VK}{D:Ends}
theorem Bq{xR x:Str}{R C fi:Addr}{bmB:ag}{B newId initId:String}{e:Expr}{es:lc}{t:TA}{p apos pos:Pos}{pl:Sem Bool}(F:ExcBaseFacts B newId initId bmB)(O:rh x C fi bmB newId X.mg X.base)(hmR:X.mg xR=some (.ref R))(u:NN X.K R initId)(hgR:Gl X xR)(ha:QA X (e::es) t)
  (hdb:(xR==("__debug__":Str))=false:=by decide) (hst:starEach (e::es) X.env=(false,eval e X.env)::starEach es X.env:=by rfl) (hpl:(backTo pos (starEach es X.env)).any (·.1)=false:=by rfl)
  (ht:eval (.Call (.Attribute (.Name xR p) "__init__" apos) (e::es) [] pos) X.env=(do
   let ov <-eval (.Name xR p) X.env
   standAt apos.atName
   let (f,fst) <-holding [ov] (getMethod ov "__init__" pl)
   callWith pos f fst (backTo pos (starEach (e::es) X.env)) (backToKw pos (keywordEach [] X.env))):=by rfl) :
  QE X (.Call (.Attribute (.Name xR p) "__init__" apos) (e::es) [] pos) (yu C t):=⟨E3 F O hgR hmR u.rd u.sg u.fc u.hh ha.h hdb hst hpl ht⟩
theorem EQ{o value:Expr}{f:Str}{C:Addr}{pos pos':Pos}{ta tv:TE}(k:Kw X.K C f)(ha:QE X o ta)(hv:QE X value tv)(hs:swapsWith value (some (.Attribute o f pos')) pos.line X.env=pure false:=by rfl):QS X (.Assign [.Attribute o f pos'] value pos) (Iz C f ta tv):=⟨by
 have ha:=ha.h;have hv:=hv.h;intro pins s Z H D I h;refine plainObj_wpAny_Assign_Attribute (dw (hv pins s Z H _ I h) λu s1 ⟨y,H1,I1,ry,q⟩=>dw (ha pins s1 Z H1 _ I1 q) λov s2 z'=>?_) hs;obtain⟨x,H2,I2,rx,e,ex,he,q2⟩:=z';subst ex;obtain rfl:ov=Value.ref e:=rx;obtain⟨t0,hx⟩:=(I2.hok e _ he).1;obtain⟨cd,hc,hd,ho,hp⟩:=k.cls;refine W.set_plain I2.kIn (ox:=lQ none C t0) (od:=none) ⟨hx,rfl,rfl,trivial⟩ k.sa (HQ (s:={ s2 with toks:=s2.toks+1 }) I2.kIn hx hc hd ho (hp _) k.no λh' tk' dx nd e1 n1 kp=>?_);have ne:dx≠e:=λz=>by subst z;rw[show s2.heap.get? dx=none from nd] at hx;cases hx
 obtain⟨hn,I3⟩:=bc.dicted (tk:=tk') I2 he nd ne ry e1 n1 kp;exact⟨_,_,I3,q2 dx hn ne⟩⟩
theorem zL{k:Nat}{x f:Str}{ok:V->Hp->Prop}{C:Addr}{E:XK}{e:Expr}{es:lc}{t:TA}{np cpos pos:Pos}(R:GH X E)(D:Ky X.prog X.w X.K X.mg X.base k x C f ok)(hr:fj (k+1) X.A)(hg:Gl X x)(ha:QA X (e::es) t)
  (hdb:(x==("__debug__":Str))=false:=by decide) (he:starEach (e::es) X.env=(false,eval e X.env)::starEach es X.env:=by rfl) (hpl:(backTo cpos (starEach es X.env)).any (·.1)=false:=by rfl) :
  QS X (.Raise (some (.Call (.Name x np) (e::es) [] cpos)) none pos) (vw C f ok E t):=by
 obtain⟨fi,fd,ps,bmB,newId,B,initId,O,F,G,ty,kp,b,hok⟩:=D.ex;exact⟨Bv R O F G ty kp b hok hr hg ha.h hdb he hpl⟩
theorem EV{e:Expr}{f:Str}{ta:TE}{pos:Pos}(he:QE X e ta)(hb:attributeBase e f X.env (eval e X.env)=eval e X.env:=by rfl):QE X (.Attribute e f pos) (Iq X.K f ta):=⟨by
 have he:=he.h;intro pins s Z H Q I h;refine II hb (dw (he pins s Z H _ I h) λu s1 z'=>?_);obtain⟨x,H1,I1,rx,a,C,dx,v,ex,ea,ed,k,q⟩:=z';subst ex;obtain rfl:u=Value.ref a:=rx;obtain⟨⟨⟨o,o1,o2⟩,o',vs,o3,⟨o4,o5⟩,o6⟩,_⟩:=I1.hok a _ ea;rw[o1] at o3;cases o3;obtain⟨mA,n1,rl⟩:=I1.hok dx _ ed;obtain⟨od,d1,d2⟩:=rV n1;obtain⟨u',hu,ru⟩:=sQ.some_of (v:=v) (o:=mA f) (by have:=rl f;simp only[List.lookup,beq_self_eq_true] at this;exact this);obtain⟨B,bmB,FB,ow⟩:=k.own;obtain⟨nm,q0,N,bs,bm,hdct,sn,sub,ab,col,dd,k0,k1,k2,k3,k5,newId,hC,T⟩:=ow s1.heap I1.kIn;have J:W.InstAt s1.heap a o C (some od):=⟨o1,o2,by unfold W.notCls;rw[o5],by rw[o4];exact d1⟩
 exact Fc I1.kIn J k.ga k.gt (W.findObj_own k.hd k.no rfl (by rw[d2,hu])) FB hC T (CW ru) ⟨v,H1,I1.tok _,ru,q⟩⟩
theorem GV{C:Addr}{t:TA}:yu C t Z H Q=t Z H λvs H1=>∃e v,vs=[.ref e,v]/\H1 e=some (io none C e)/\Q .non H1:=rfl
theorem JW{C:Addr}{f:Str}{ta tv:TE}:Iz C f ta tv D Z H=tv Z H λy H1=>ta Z H1 λx H2=>∃e,x=.ref e/\H2 e=some (io none C e)/\∀dx,H2 dx=none->dx≠e->D.nx Z (upd (upd H2 dx (.xd [(f,y)])) e (io (some dx) C e)):=rfl
theorem DH{C:Addr}{f:Str}{ok:V->Hp->Prop}{E:XK}{t:TA}:vw C f ok E t D Z H=t Z H λvs H1=>∃v,vs=[v]/\ok v H1/\∀dx,H1 dx=none->E (.ref C) (some dx) (upd H1 dx (.xd [(f,v)])):=rfl
theorem J2{K:U9}{f:Str}{ta:TE}:Iq K f ta Z H Q=ta Z H λx H1=>∃a C dx v,x=.ref a/\H1 a=some (jv (some dx) C a)/\H1 dx=some (.xd [(f,v)])/\Ck K C f/\Q v H1:=rfl
end
theorem pJ:∀{cs:ld} {us:ag},cH (cs.map V.ref) us->us=cs.map Value.ref
 | [],_,.nil=>rfl
 | c::cs,_,.cons r t=>by
  rw[pJ t];cases r;rfl
def HY(v:V)(H:Hp):Prop:=∃a d,v=.ref a/\Dat H v d/\d.showable=true/\d.hasDict=false/\d.depth<=10/\d.shown.length<=500
theorem Ei:∀(v:V) (H:Hp) (x:Addr) (o:HO),H x=none->HY v H->HY v (upd H x o):=(by rintro _ H _ _ hn ⟨a,d,e,h,r⟩;exact ⟨a,d,e,h.same ((bJ.refl H).new hn),r⟩)
theorem Nq(x y:Str):(tupleText [x,y]).length<=x.length+y.length+7:=by
 have:=tupleText_len_le [x,y];simp only[af,eP,ji,List.sum_nil,bL,fR] at this;lia
theorem Np(x y z:Str):(tupleText [x,y,z]).length<=x.length+y.length+z.length+9:=by
 have:=tupleText_len_le [x,y,z];simp only[af,eP,ji,List.sum_nil,bL,fR] at this;lia
abbrev pB (a b:Int):PyData:=.tuple [.int a,.int b]
theorem xH{a:Int}(h0:0<=a)(h1:a<=60):(PyData.shown (.int a)).length<=2/\PyData.showable (.int a)=true:=by
 obtain⟨n,rfl⟩:=nM h0;obtain⟨e1,e2⟩:=CF n (by lia);exact⟨e1,by simp only[PyData.showable];exact U5 e2⟩
theorem xI{a b:Int}(a0:0<=a)(a1:a<=60)(b0:0<=b)(b1:b<=60):(PyData.shown (pB a b)).length<=11/\PyData.showable (pB a b)=true:=by
 obtain⟨x1,x2⟩:=xH a0 a1;obtain⟨y1,y2⟩:=xH b0 b1;refine⟨?_,?_⟩
 .show (tupleText [PyData.shown (.int a),PyData.shown (.int b)]).length<=11;have:=Nq (PyData.shown (.int a)) (PyData.shown (.int b));lia
 .show (PyData.showable (.int a)&&(PyData.showable (.int b)&&true))=true;rw[x2,y2];rfl
theorem CD {H:Hp} {p:Addr} {z:Str} {a b c d:Int} (hz:z=Str.ofString "l"\/z=Str.ofString "r") (h:Dat H (.ref p) (.tuple [.str z,pB a b,pB c d])) (a0:0<=a) (a1:a<=60) (b0:0<=b) (b1:b<=60) (c0:0<=c) (c1:c<=60) (d0:0<=d) (d1:d<=60):HY (.ref p) H:=by
 obtain⟨x1,x2⟩:=xI a0 a1 b0 b1;obtain⟨y1,y2⟩:=xI c0 c1 d0 d1;have z1:(PyData.shown (.str z)).length<=10:=by rcases hz with rfl | rfl<;>symm
 refine⟨p,_,rfl,h,?_,rfl,by simp[PyData.depth,PyData.depthAll],?_⟩
 .show (PyData.showable (.str z)&&(PyData.showable (pB a b)&&(PyData.showable (pB c d)&&true)))=true;rw[x2,y2];rfl
 .show (tupleText [PyData.shown (.str z),PyData.shown (pB a b),PyData.shown (pB c d)]).length<=500;have:=Np (PyData.shown (.str z)) (PyData.shown (pB a b)) (PyData.shown (pB c d));lia
def Lo(ta tb:TE):TE:=λZ H Q=>ta Z H λx H1=>∃c,x=.str c/\c.length<=400/\tb Z H1 λy H2=>HY y H2/\∀z,Q (.str z) H2
section
variable {X:Cx}
theorem HJ{k:Nat}{v1 v2:Expr}{fpos pos:Pos}{ta tb:TE}(hr:fj k X.A)(ha:QE X v1 ta)(hb:QE X v2 tb):QE X (.JoinedStr [v1,.FormattedValue v2 114 none fpos] pos) (Lo ta tb):=⟨by
 have ha:=ha.h;have hb:=hb.h;intro pins s Z H Q I h;refine JoinedStr_many (joinParts_cons (dw (ha pins s Z H _ I h) λu s1 z'=>?_));obtain⟨x,H1,I1,rx,c,ex,hc,q⟩:=z';subst ex;obtain⟨tk,rfl⟩:∃tk,u=Value.str c tk:=rx;have l0:(Str.empty++c).length=c.length:=by rw[strLen_append];exact jK _
 refine⟨by rw[l0];exact bT (bS (by lia)),joinParts_cons (wpAny_FormattedValue_repr (dw (hb pins s1 Z H1 _ I1 q) λu2 s2 z'=>?_))⟩;obtain⟨y,H2,I2,ry,ok,q2⟩:=z';obtain⟨a,d,rfl,hd,h1,h2,h3,h4⟩:=ok;obtain rfl:u2=Value.ref a:=ry;obtain⟨as,r⟩:=(hd.rep (K:=X.K)).reads I2 rfl;refine pyReprObj_of_reads r h1 (PyData.noDict_hsm h2) hr.gd (by have:=hr.un;lia) (λ_ _ e=>e) (λh' u tk hk=>?_) (bT (bS (by lia)));have l1:((Str.empty++c)++d.shown).length<=sizeLine:=by rw[strLen_append,l0];exact bT (bS (by lia))
 exact wpAny_formatField_str ⟨l1,joinParts_nil ⟨.str ((Str.empty++c)++d.shown),H2,I2.kept hk,⟨_,rfl⟩,q2 _⟩ l1⟩ ⟨l1,joinParts_nil ⟨.str ((Str.empty++c)++d.shown),H2,I2.kept hk,⟨_,rfl⟩,q2 _⟩ l1⟩ (bT (bS (by lia)))⟩
end
theorem L0{Z:St}{H:Hp}{Q:VK}{ta tb:TE}:Lo ta tb Z H Q=ta Z H λx H1=>∃c,x=.str c/\c.length<=400/\tb Z H1 λy H2=>HY y H2/\∀z,Q (.str z) H2:=rfl
theorem zr{prog:Program}{w:World}{A:Around}{E:Value->Shared->Prop}{s:Shared}{K:U9}{a C N:Addr}{o:Obj}{od:Option Obj}{bs bm bmB:ag}{nm q:Str}{hdct:Bool}{sn:List Str}{sub:ag}{ab:Bool}{col:Option Bool}{dd:Option Addr}{k0 k1 k2 k3 k5:bt}{B newId:String}{Q:bt->Shared->Prop}
  (X:K.In s.heap) (I:W.InstAt s.heap a o C od) (hga:W.findIn K (.ref C) "__getattribute__"=some (some (.builtin "BaseException.__getattribute__"))) (hgt:W.findIn K (.ref C) "__getattr__"=some none)
  (hf:W.findObj K C od "__class__"=some (.bind (.builtin "getset_descriptor.__get__") (.builtin "object.__class__"))) (hm:W.mroIn K C (.type "object")=some true) (FB:ExcAttrBase B bmB)
  (hC:s.heap.get? C=some (excClassObj nm q C N bs bm hdct sn sub ab col dd k0 k1 k2 k3 k5 newId)) (T:OwnTailQ s.heap bmB bm) (hq:Q (some (.ref C)) { s with toks:=s.toks+1 }):wpAny (model prog w) A (getAttr? (.ref a) "__class__") Q E s:=by
 obtain⟨h,g,d,t,os⟩:=s;unfold getAttr?;exists (wpAny_mkText ?_);unfold getAttrBy?;exists (UF ?_);unfold getAttrBy;refine Tx (wpAny_bind (cA (dH I) (wpAny_bind (cA (dX X hga) ?_))));refine UP (by rfl) ?_;unfold getAttrByItsOwn hookBefore;exists (wpAny_ite_true (by rfl) (cA (dX X hgt) (wpAny_bind (UF (Tx ?_)))));unfold callGetattribute boundAndCalled;refine UP (by rfl) (wpAny_bind (wpAny_of_eq (FB.ga.bind (Value.ref a)) (Ti (codeAny_call_builtin FB.ga.plain oN (UQ FB hC T I.at_ I.cls ?_)))));unfold Builtin.«object.__getattribute__»;refine wpAny_bind ?_;unfold slotArgs;refine UP (by rfl) (UP (by rfl) (wpAny_pure ?_));show wpAny _ _ (Bind.bind (Builtin.ObjectAttr.attrName (Value.str (Str.ofString "__class__") _)) _) _ _ _;refine wpAny_bind ?_;unfold Builtin.ObjectAttr.attrName;refine wpAny_pure ?_;exists (cA (dH I) (wpAny_bind (cA (lU X I hf) ?_)));unfold Builtin.ObjectAttr.bindTo;exists (Tx (Ti (W.class_get X I hm ?_)));refine wpAny_pure ?_;refine lw rfl ?_;exact wpAny_pure hq
structure yh (K:U9) (C:Addr):Prop where
 ga:W.findIn K (.ref C) "__getattribute__"=some (some (.builtin "BaseException.__getattribute__"))
 gt:W.findIn K (.ref C) "__getattr__"=some none
 fo:∀ od:Obj,W.findObj K C (some od) "__class__"=some (.bind (.builtin "getset_descriptor.__get__") (.builtin "object.__class__"))
 mro:W.mroIn K C (.type "object")=some true
 lk:∃ c dd cd sl,K.lookup C=some ⟨c,dd,.cls cd,sl⟩
 own:∃ B bmB,ExcAttrBase B bmB/\∀ h:Heap,K.In h->∃ nm q N bs bm hdct sn sub ab col dd k0 k1 k2 k3 k5 newId,h.get? C=some (excClassObj nm q C N bs bm hdct sn sub ab col dd k0 k1 k2 k3 k5 newId)/\OwnTailQ h bmB bm
def M5(C a:Addr)(h:Heap):Prop:=∃o od,W.InstAt h a o C (some od)
theorem CN{K:U9}{C a:Addr}(k:yh K C):W.KitX K (.ref a) (.ref C) (M5 C a):=by
 obtain⟨c,dd,cd,sl,lk⟩:=k.lk;refine⟨λM h _ x=>?_,λM h X _ A Q E s kp hq=>?_,λh tp dd' its n sl' X htp=>?_,fun {prog w A E Q s} X x hq=>?_⟩
 .obtain⟨o,od,I⟩:=x;exact dH I
 .exact wpAny_bind (wpAny_loadPart (kp C _ (X C _ lk)) (wpAny_pure hq))
 .refine mD.mpr λq=>?_;have e:=Value.ref.inj (beq_iff_eq.mp q);subst e;rw[X C _ lk] at htp;cases htp
 .obtain⟨o,od,I⟩:=x;obtain⟨B,bmB,FB,ow⟩:=k.own;obtain⟨nm,q,N,bs,bm,hdct,sn,sub,ab,col,dd,k0,k1,k2,k3,k5,newId,hC,T⟩:=ow s.heap X;exact zr X I k.ga k.gt (k.fo od) k.mro FB hC T hq
inductive ExcAt (K:U9) (H:Hp) (a C:Addr):Prop
 | bare:H a=some (NH C a)->GL K C->ExcAt K H a C
 | dict {dx:Addr} {f:Str} {v:V}:H a=some (jv (some dx) C a)->H dx=some (.xd [(f,v)])->yh K C->ExcAt K H a C
theorem ExcAt.same{K:U9}{H H':Hp}{a C:Addr}(h:ExcAt K H a C)(s:bJ H H'):ExcAt K H' a C:=by
 cases h with
 | bare h k=>exact .bare (s _ _ h) k
 | dict h h2 k=>exact .dict (s _ _ h) (s _ _ h2) k
theorem ExcAt.kit{X:Cx}{pins:List (Addr×Obj)}{Z:St}{H:Hp}{s:Shared}{a C:Addr}(I:bc X pins Z H s)(h:ExcAt X.K H a C):∃R:Heap->Prop,W.KitX X.K (.ref a) (.ref C) R/\R s.heap:=by
 cases h with
 | bare h k=>exact⟨_,FN k,(I.hok a _ h).1⟩
 | dict h h2 k=>
  refine⟨_,CN k,?_⟩;obtain⟨⟨⟨o,o1,o2⟩,o',vs,o3,⟨o4,o5⟩,o6⟩,_⟩:=I.hok a _ h;rw[o1] at o3;cases o3;obtain⟨mA,n1,rl⟩:=I.hok _ _ h2;obtain⟨od,d1,d2⟩:=rV n1;exact⟨o,od,o1,o2,by unfold W.notCls;rw[o5],by rw[o4];exact d1⟩
def As(K:U9):List V->Hp->VK->Prop:=λxs H Q=>∃a C c cv b,xs=[.ref a,c]/\ExcAt K H a C/\((∃T,c=.ty T/\cv=Value.type T)\/∃D,c=.ref D/\cv=Value.ref D)/\W.kitOne K (.ref C) cv=some b/\Q (.bl b) H
theorem Ci {X:Cx}:iY X (.builtin "isinstance") (As X.K):=by
 intro pins s Z H xs us Q I r h;obtain⟨a,C,c,cv,b,rfl,hC,hc,e,q⟩:=h;obtain⟨u,w,rfl,rx,rw'⟩:=cH.two r;cases (show u=Value.ref a from rx);have ew:w=cv:=by
  rcases hc with ⟨T,rfl,rfl⟩ | ⟨D,rfl,rfl⟩
  .exact rw'
  .exact rw'
 subst ew;obtain⟨R,kx,hx⟩:=hC.kit I;exact c9 kx I.kIn hx e (λz=>nomatch z) λtk=>⟨.bl b,H,I.tok tk,rfl,q⟩
theorem fI {X:Cx} {K:U9} (h:X.K=K):iY X (.builtin "isinstance") (As K):=h▸Ci
theorem ui{K:U9}{a C D:Addr}{H:Hp}{b:Bool}{Q:VK}(hC:ExcAt K H a C)(e:W.kitOne K (.ref C) (.ref D)=some b)(q:Q (.bl b) H):As K [.ref a,.ref D] H Q:=⟨a,C,_,_,b,rfl,hC,.inr ⟨D,rfl,rfl⟩,e,q⟩
theorem MN{K:U9}{a C:Addr}{T:String}{H:Hp}{b:Bool}{Q:VK}(hC:ExcAt K H a C)(e:W.kitOne K (.ref C) (.type T)=some b)(q:Q (.bl b) H):As K [.ref a,.ty T] H Q:=⟨a,C,_,_,b,rfl,hC,.inl ⟨T,rfl,rfl⟩,e,q⟩
structure Kv (K:U9) (C:Addr) (ds:ld) (due:Nat):Prop where
 kit:∀ j d,ds[j]? = some d->W.kitOne K (.ref C) (.ref d)=some (decide (j=due))
 val:W.kitOne K (.ref C) (.type "ValueError")=some true
theorem Fe{K:U9}{C R N NR:Addr}{nm q:Str}{bs bmB:ag}{hdct:Bool}{sn:List Str}{sub:ag}{ab:Bool}{col:Option Bool}{dd dR:Option Addr}{k0 k1 k2 k3 k5:bt}{newId:String}{cR:Value}{cdR:ClassData}{slR:Array (bt)}{f:Str}
  (lkC:K.lookup C=some (excClassObj nm q C N bs (.ref R::bmB) hdct sn sub ab col dd k0 k1 k2 k3 k5 newId)) (A:Ck K C f) (gc:W.findIn K (.ref C) "__class__"=some (some (.builtin "object.__class__")))
  (sp:W.specialIn K (.builtin "object.__class__") "__get__"=some (some (.builtin "getset_descriptor.__get__"))) (tk:W.takesIn K (.builtin "object.__class__")=some true) (mr:W.mroIn K C (.type "object")=some true):yh K C:=
 ⟨A.ga,A.gt,λod=>W.findObj_data (by unfold W.clsIn;rw[lkC];rfl) gc sp tk,mr,⟨_,_,_,_,lkC⟩,A.own⟩
end L2
namespace Rm
open PySem L2 PyProof.Rows
theorem uQ{x:Int}{p:Bw}:qu x p=true<->(p.1=x\/p.2=x):=by
 unfold qu;rw[dS,U3,U3];exact⟨λh=>h.imp ny ny,λh=>h.imp ny ny⟩
theorem qa{b:Bool}{ns:gs}(O:fO ns){u:Bool}{p:Bw}(hp:p∈bH b ns u (ns.length+1)):0<=p.1/\p.1<p.2/\p.2<=21:=by
 obtain⟨i,hi,_,rfl⟩:=gj hp;have h1:=O.step_in (i:=i) (by lia);have h2:=O.step_lt (i:=i) (by lia);have:=O.len;exact⟨h1.1,h2,by lia⟩
theorem mK.dat{H:Hp}{t:Addr}{u:Bool}{p q:Bw}(h:mK H t u p q):Dat H (.ref t) (.tuple [.str (sd u),pB p.1 p.2,pB q.1 q.2]):=by
 obtain⟨a,c,h1,h2,h3⟩:=h;exact .tup h1 (.cons (.str _) (.cons (.tup h2 (.cons (.int _) (.cons (.int _) .nil))) (.cons (.tup h3 (.cons (.int _) (.cons (.int _) .nil))) .nil)))
theorem mK.same{H H':Hp}{t:Addr}{u:Bool}{p q:Bw}(h:mK H t u p q)(s:bJ H H'):mK H' t u p q:=by
 obtain⟨a,c,h1,h2,h3⟩:=h;exact⟨a,c,s _ _ h1,s _ _ h2,s _ _ h3⟩
theorem mK.ok{H:Hp}{t:Addr}{u:Bool}{p q:Bw}{b:Bool}{ns:gs}(h:mK H t u p q)(O:fO ns)(hp:p∈bH b ns u (ns.length+1))(hq:q∈bH b ns u (ns.length+1)):HY (.ref t) H:=by
 have h1:=qa O hp;have h2:=qa O hq;exact CD (by cases u;exact .inl rfl;exact .inr rfl) h.dat (by lia) (by lia) (by lia) (by lia) (by lia) (by lia) (by lia) (by lia)
def Dq(M C:Addr):Sp:=λvs H Q E=>∃x d,vs=[x]/\Dat H x d/\Pl d 60/\((uF d=false/\∀H',bJ H H'->E (.ref M) none H')\/∃m o b ns,x=.ref m/\gY H m o b ns/\d=MH b ns/\fO ns/\(NC b ns->∀H',bJ H H'->Q (.bl true) H') ∧
 ∀u,∀p∈bH b ns u (ns.length+1),∀q∈bH b ns u (ns.length+1),ci p q=true->∀t dx H',bJ H H'->mK H' t u p q->H' dx=some (.xd [("bows",.ref t)])->E (.ref C) (some dx) H')
def Ag(K:U9)(ds:ld)(a:Addr):Sp:=λvs H Q _=>∃(C:Addr) (due:Nat),vs=[.ref a,.int due]/\ExcAt K H a C/\(∃D,H a=some (jv D C a))/\Kv K C ds due/\∀H',bJ H H'->Q (.bl true) H'
structure u4 (H:Hp) (fd:Addr) (g:Bool->Addr) (b:Bool) (ns:gs):Prop where
 fd:H fd=some (.lst [.ref (g false),.ref (g true)])
 at_:∀ u,BowsAt H (g u) (bH b ns u (ns.length+1))
theorem u4.same{H H':Hp}{fd:Addr}{g:Bool->Addr}{b:Bool}{ns:gs}(h:u4 H fd g b ns)(s:bJ H H'):u4 H' fd g b ns:=⟨s _ _ h.fd,λu=>(h.at_ u).same s⟩
structure OA (b:Bool) (ns:gs) (u:Bool) (p q:Bw):Prop where
 hp:p∈bH b ns u (ns.length+1)
 hq:q∈bH b ns u (ns.length+1)
 z:ci p q=true
def rM:Sp:=λvs H Q _=>∃m o fd g b ns,vs=[.ref m,.ref fd]/\gY H m o b ns/\fO ns/\u4 H fd g b ns/\¬NC b ns/\∀H',bJ H H'->Q (.bl true) H'
def B1(p:Bw):PyData:=pB p.1 p.2
theorem IE(p q:Bw):PyData.eqv (B1 p) (B1 q)=decide (p=q):=by
 show PyData.eqvAll ([p.1,p.2].map PyData.int) ([q.1,q.2].map PyData.int)=_;rw[uO];refine decide_eq_decide.mpr ⟨λh=>?_,λh=>by rw[h]⟩;simp only[oM,and_true] at h;exact fZ h.1 h.2
theorem Dd{H:Hp}{a:Addr}{p:Bw}(h:b6 H a p):Dat H (.ref a) (B1 p):=.tup h (.cons (.int _) (.cons (.int _) .nil))
theorem ID{H:Hp}{as:ld}{ps:List Bw}(h:Paired (b6 H) as ps):jV H (as.map V.ref) (ps.map B1):=by
 induction h with
 | nil=>exact .nil
 | cons r _ ih=>exact .cons (Dd r) ih
theorem AH(p:Bw){k:Nat}:Pl (B1 p) (k+1):=KA (N7 (E1 _) (E1 _))
theorem Kj(ps:List Bw){k:Nat}:∀d∈ps.map B1,Pl d (k+1):=λd hd=>by obtain⟨p,_,rfl⟩:=aU.mp hd;exact AH p
theorem BJ{K:U9}{H:Hp}{a l:Addr}{p:Bw}{ps:List Bw}{neg:Bool}{Q:VK}(ha:b6 H a p)(hl:BowsAt H l ps)(q:Q (.bl (if neg then !decide (p∈ps) else decide (p∈ps))) H):EN K neg (.ref a) (.ref l) H Q:=by
 obtain⟨as,h1,h2⟩:=hl;refine⟨B1 p,ps.map B1,l,_,(Dd ha).rep,rfl,.inl (cI.of h1),(ID h2).rep,(AH p (k:=0)).lay,rX λd hd=>(Kj ps (k:=0) d hd).lay,bN (AH p (k:=0)).deep (by decide),?_⟩;have e:(ps.map B1).any (λe=>PyData.eqv e (B1 p))=decide (p∈ps):=by
  rw[List.any_map];have:(λx=>(λe=>PyData.eqv e (B1 p)) (B1 x))=λx=>decide (x=p):=by funext x;exact IE x p
  show ps.any (λx=>PyData.eqv (B1 x) (B1 p))=_;rw[this];rw[eU,cM,U3];exact⟨(by rintro ⟨x,h,e⟩;rw[U3] at e;rw[<-e];exact h),λh=>⟨p,h,U5 rfl⟩⟩
 rw[e];exact q
theorem C8{p q:Bw}(h:ci p q=true):p.1<q.1/\q.1<p.2/\p.2<q.2:=by
 unfold ci at h;rw[ao,ao,U3,U3,U3] at h;exact h
end Rm
namespace Rm
open PySem L2
theorem m6{α β:Type}{F:α->β->Prop}{l:List α}{m:List β}(h:Paired F l m):∀{i:Nat} {a:α},l[i]? = some a->∃b,m[i]? = some b/\F a b:=by
 induction h with
 | nil=>intro i a h;simp at h
 | cons r _ ih=>
  intro i a h;cases i with
  | zero=>cases h;exact⟨_,rfl,r⟩
  | succ i=>exact ih h
end Rm
namespace Rm
def rn(lo hi v:Int):Int:=if v=hi then lo else v
def vl(c:Nat):Int:=if c=40 then 1 else if c=41 then -1 else 0
def ps(cs:im):Int:=(cs.map vl).sum
section
variable {x y:Int}
theorem off{l:gs}(h1:x∉l)(h2:y∉l):∀v∈l,v≠x/\v≠y:=λv hv=>⟨λe=>h1 (e▸hv),λe=>h2 (e▸hv)⟩
end
def mx:gs->Int
 | []=>0
 | x::l=>max x (mx l)
end Rm
namespace L2
open PySem PySem.Spec PyProof.Rows PySem.Builtin PySem.Builtin.Str
theorem Bc{prog:Program}{w:World}{A:Around}{E:Value->Shared->Prop}{s:Shared}{x y:Str}{t u:Tok}{Q:Value->Shared->Prop}(hy:(y.length==0)=false)(hsz:x.length+2<=sizeLine)
  (hq:∀(l:List (Str×Tok)) (k:Nat),l.map (·.1)=Txt.split x y->Q (.ref s.heap.objs.size) { s with heap:=s.heap.push { cls:=.type "list",data:=.seq (strValues l).toArray },toks:=k }) :
  wpAny (model prog w) A (call (.builtin "str.split") [.str x t,.str y u]) Q E s:=by
 have hle:=split_le x y;cases h1:(decide (x.length<y.length) || decide (strKind x<strKind y))
 .cases hf:(occurrences x y 0 x.length (x.length+1)).isEmpty
  .have es:Txt.split x y=partsBetween x (occurrences x y 0 x.length (x.length+1)) y.length:=(U1 (ne_true_of_eq_false h1)).trans (U1 (ne_true_of_eq_false hf));rw[es] at hle;refine To nN (Tn _ _ _) mB (l6 _ _) (meets_str_split_sep x y t u h1 hy hf (bN (d6 _ _) hsz) (bN hle hsz)) ?_;show wants Q E _ { s with toks:=_,heap:=s.heap.push { cls:=.type "list",data:=.seq (strsFrom s.toks (partsBetween x (occurrences x y 0 x.length (x.length+1)) y.length)).toArray } };rw[strsFrom_eq];exact hq (numbered s.toks _) _ ((numbered_texts _ _).trans es.symm)
  .exact To nN (Tn _ _ _) mB (l6 _ _) (meets_str_split_not_found x y t u h1 hy hf)
    (hq [(x,t)] s.toks ((U1 (ne_true_of_eq_false h1)).trans (U2 hf)).symm)
 .exact To nN (Tn _ _ _) mB (l6 _ _) (meets_str_split_cannot_occur x y t u h1)
   (hq [(x,t)] s.toks (U2 h1).symm)
theorem qY:∀(l:List (Str×Tok)),cH ((l.map (·.1)).map V.str) (strValues l)
 | []=>.nil
 | (a,t)::l=>.cons ⟨t,rfl⟩ (qY l)
section
variable {X:Cx}
def Jr:V->List V->Hp->VK->Prop:=λx vs H Q=>∃z y,x=.str z/\vs=[.str y]/\(y.length==0)=false/\z.length<=100000/\∀l,H l=none->Q (.ref l) (upd H l (.lst ((Txt.split z y).map V.str)))
theorem Es:Kt X "str.split" Jr:=by
 intro pins s Z H x xs v us Q I r rv h;obtain⟨z,y,rfl,rfl,hy,hz,q⟩:=h;obtain⟨t,rfl⟩:=r;obtain⟨u,rfl,t2,rfl⟩:=Th rv;have hz2:z.length+2<=sizeLine:=by rw[Tg];lia
 refine Bc hy hz2 λl k e=>?_;have hl:((Txt.split z y).map V.str).length<=sizeLine:=by rw[aA];exact bN (split_le z y) hz2
 have hv:cH ((Txt.split z y).map V.str) (strValues l):=e▸qY l;exact⟨.ref s.heap.objs.size,_,I.laid (λb o e=>aB _ e) (aI _) (show cc X.prog X.w _ _ _ (.lst _) from ⟨hl,strValues l,_,hv,aP _ rfl⟩),rfl,q _ (I.hok.fresh (aI _))⟩
end
end L2
namespace Rm
open PySem L2
def tx(cs:im):Str:=⟨cs.toArray⟩
def wd(c:Nat):V:=V.str ⟨#[c]⟩
theorem vt(cs:im):(tx cs).length=cs.length:=by simp[tx,Str.length]
theorem yn(cs:im):(tx cs).cps.toList=cs:=by simp[tx]
theorem D9(a b:im):tx a++tx b=tx (a++b):=by
 show Str.mk _=Str.mk _;simp[tx]
theorem D7{a b:im}(h:tx a=tx b):a=b:=by
 have:=congrArg (λz:Str=>z.cps.toList) h;simpa [tx] using this
theorem Kg{a b:Nat}:((⟨#[a]⟩:Str)=tx [b])=(a=b):=propext ⟨λh=>by have:=D7 (show tx [a]=tx [b] from h);simpa using this,λh=>by rw[h];rfl⟩
theorem D8{cs:im}(h:∀c∈cs,c<128):(tx cs).cps.all (·<128)=true:=by
 rw[<-Array.all_toList,yn,iJ];intro c hc;exact U5 (h c hc)
theorem A7:∀(cs:im) (acc:Array Nat),(cs.map λc=>(⟨#[c]⟩:Str)).foldl (λacc p=>acc++(Str.ofString "").cps++p.cps) acc=acc++cs.toArray
 | [],acc=>by simp
 | c::cs,acc=>by
  rw[af,eT,A7 cs];have:(Str.ofString "").cps=#[]:=by symm
  rw[this];simp
theorem Gf (cs:im):Txt.join (Str.ofString "") (cs.map λc=>(⟨#[c]⟩:Str))=tx cs:=by
 cases cs with
 | nil=>rfl
 | cons c cs=>
  show Str.mk (((((c::cs).map λc=>(⟨#[c]⟩:Str)).drop 1).foldl (λacc p=>acc++(Str.ofString "").cps++p.cps) (((c::cs).map λc=>(⟨#[c]⟩:Str)).headD Str.empty).cps))=_;rw[af,List.drop_one,List.tail_cons,List.headD_cons,A7];simp[tx]
theorem B7 {cs:im} (hl:cs.length<=900):JoinOk (Str.ofString "") (cs.map λc=>(⟨#[c]⟩:Str))=true:=by
 unfold JoinOk;have e:Builtin.Str.tooLong ((cs.map λc=>(⟨#[c]⟩:Str)).toArray.foldl (λa t=>a+t.length+(Str.ofString "").length) 0)=false:=by
  have h0:∀(cs:im) (a:Nat),(cs.map λc=>(⟨#[c]⟩:Str)).foldl (λa t=>a+t.length+(Str.ofString "").length) a=a+cs.length:=by
   intro cs
   induction cs with
   | nil=>intro a;rfl
   | cons b cs ih=>
    intro a;rw[af,eT,ih];have h1:(⟨#[b]⟩:Str).length=1:=rfl;have h2:(Str.ofString "").length=0:=by symm
    rw[h1,h2,bL];lia
  rw[List.foldl_toArray',h0];unfold Builtin.Str.tooLong;exact U4 (by have:=bS (n:=0+cs.length) (by lia);lia);simp
 rw[e];rfl
end Rm
namespace Rm
open PySem L2 PyProof.Rows
def Pr(bs:List Bool)(x y:Nat):Prop:=M0 bs x y\/M0 bs y x
open Classical in
noncomputable def mtF (bs:List Bool) (x:Nat):Nat:=if h:∃y,Pr bs x y then h.choose else x
def LF(L R:Nat->Nat)(e:Nat):Nat->Nat
 | 0=>e
 | i+1=>R (L (LF L R e i))
def N5(L R:Nat->Nat)(e:Nat):Nat->im
 | 0=>[]
 | i+1=>N5 L R e i++[LF L R e i]++[L (LF L R e i)]
def Inj(L R:Nat->Nat)(e i:Nat):Prop:=∀j k,j<i->k<i->LF L R e j=LF L R e k->j=k
structure Nx (L R:Nat->Nat) (e i:Nat):Prop where
 pos:0<i
 inj:Inj L R e i
 back:LF L R e i=e
open Classical in
noncomputable def perF (L R:Nat->Nat) (e:Nat):Nat:=if h:∃i,Nx L R e i then h.choose else 0
noncomputable def rdF (L R:Nat->Nat) (e:Nat):im:=N5 L R e (perF L R e)
open Classical in
noncomputable def rsF (L R:Nat->Nat):Nat->List (im)
 | 0=>[]
 | i+1=>if ∃r∈rsF L R i,i∈r then rsF L R i else rsF L R i++[rdF L R i]
def rk(G:Nat->Bool):Nat->Nat
 | 0=>0
 | k+1=>if G k then rk G k else rk G k+1
def dK(G:Nat->Bool)(bs:List Bool):Nat->Int
 | 0=>0
 | k+1=>if G k then dK G bs k else dK G bs k+((bs[k]?).toList.map dl).sum
end Rm
namespace L2
open PySem PySem.Spec PyProof.Rows
theorem Mz{X:Cx}{K:U9}{e:Expr}{T:String}{r:V->List V->Hp->VK->Prop}{to:TE}{t:TA}(hK:X.K=K)(h:QE X e (M8 X.K T r to t)):QE X e (M8 K T r to t):=hK▸h
section
variable {X:Cx}
def Lw(K:U9):List V->Hp->VK->Prop:=λxs H Q=>∃(p:Addr) (ns:gs),xs=[.ref p]/\cI K H p (ns.map V.int)/\PySem.SumFits ns/\Q (.int ns.sum) H
theorem AC (hc:X.calm=true):iY X (.builtin "sum") (Lw X.K):=by
 intro pins s Z H xs us Q I r h;obtain⟨p,ns,rfl,hq,hf,q⟩:=h;obtain⟨u,rfl,rx⟩:=Th r;cases rx;obtain⟨its,rv,pl,hz⟩:=I.list hq;have hi:=m9 rv;have hl:=pl.isList;obtain⟨xs,e⟩:=hi.allInts.items;have hns:ns=xs.toList.map (·.1):=by rw[<-hi.numsOf,<-nums_intItems,<-e]
 have hsz:xs.size=ns.length:=by rw[hns,aA,bp]
 rw[e] at hl;refine sum_intList (I.ok.hd hc) hl (λj hj=>?_) λh' tk t' hk=>?_
 .have:=hf j (by lia);rw[preSum_eq,numAt_eq,<-hns];exact this
 .refine⟨.int ns.sum,H,I.kept hk,⟨t',?_⟩,q⟩;rw[preSum_eq,<-hns,hsz,bf]
end
theorem ki {X:Cx} {x:Str} {z:Str} {pos:Pos} (hg:Gl X x) (hm:∃t,X.mg x=some (.str z t)) (hd:(x==("__debug__":Str))=false:=by decide):QE X (.Name x pos) (tC (.str z)):=
 let ⟨t,h⟩:=hm
 ⟨se hg h ⟨t,rfl⟩ hd⟩
theorem Gb{k:Nat}{caps:im}{tl:TE}{g:TG}{tf:TT}{te:TE}{Z:St}{H:Hp}{Q:VK}:pd k caps (Kc tl) g tf te Z H Q=tl Z H λx H1=>∃z,x=.str z/\z.cps.all (·<128)=true/\j5 (LG z) g tf te Q (jF k caps Z) H1:=rfl
theorem Fp{x:Str}{g:TG}{tf:TT}{te:TE}{Z:St}{H:Hp}{Q:VK}(Pv:Nat->List V->St->Hp->Prop)(h0:Pv 0 [] Z H)(hl:∀i ys Z H,Pv i ys Z H->ys.length<=i)(hsz:x.cps.size<=sizeLine)
  (hs:∀i c ys Z H (N:List V->St->Hp->Prop),x.cps[i]? = some c->Pv i ys Z H->(∀ys Z H,Pv (i+1) ys Z H->N ys Z H)->g (.str ⟨#[c]⟩) Z H λZ2 H2=>tf Z2 H2 λb H3=>if b=true then te Z2 H3 λy H4=>N (ys++[y]) Z2 H4 else N ys Z2 H3)
  (hd:∀ys Z H p,Pv x.cps.size ys Z H->H p=none->Q (.ref p) (upd H p (.lst ys))):j5 (LG x) g tf te Q Z H:=by
 refine qx x.cps.size hsz Pv h0 hl (λi ys Z H hi p=>hi) (λys Z H p=>aI _) ?_ hd;rintro i ys Z H v H' N hi p ⟨rfl,c,hc,rfl⟩ hN;exact hs i c ys Z H' N hc p hN
theorem fits_of:∀{ns:gs},(∀x∈ns,0<=x/\x<=2 ^ 40)->ns.length<=1000->PySem.SumFits ns:=by
 intro ns h hl j hj;have hs:∀l:gs,(∀x∈l,0<=x/\x<=2 ^ 40)->0<=l.sum/\l.sum<=2 ^ 40*l.length:=by
  intro l
  induction l with
  | nil=>intro _;simp
  | cons a l ih=>
   intro hh;have h1:=hh a (by simp);have h2:=ih λx hx=>hh x (aJ _ hx);simp only[ji,bL];lia
 have h1:=h (ns.getD j 0) (by rw[List.getD_eq_getElem?_getD,aE hj];exact nE hj);have h2:=hs (ns.take (j+1)) λx hx=>h x (List.mem_of_mem_take hx);have h3:(ns.take (j+1)).length<=1000:=by rw[cB];lia
 exact⟨⟨by lia,by lia⟩,⟨by lia,by lia⟩⟩
def Au:V->List V->Hp->VK->Prop:=λx vs H Q=>∃(l:Addr) (ks:List Str) (z:Str) (j:Nat),x=.ref l/\vs=[.str z]/\H l=some (.lst (ks.map V.str))/\ks.length<=1000/\ks[j]? = some z/\(∀m,m<j->ks[m]?≠some z)/\Q (.int j) H
theorem CJ {X:Cx}:Kt X "list.index" Au:=by
 intro pins s Z H x vs v us Q I rx rv h;obtain⟨l,ks,z,j,rfl,rfl,hH,hsz,hj,hno,q⟩:=h;cases rx;obtain⟨u,rfl,ru⟩:=rv.one;obtain⟨t,rfl⟩:=ru;obtain⟨c,its,n,r,hl,e⟩:=I.lstM hH;have at_:∀(m:Nat) (k:Str),ks[m]? = some k->∃t,its[m]? = some (Value.str k t):=λm k hk=>by
  obtain⟨w,hw,t,ht⟩:=r.get (show (ks.map V.str)[m]? = some (V.str k) by rw[aR,hk];rfl);exact⟨t,by rw[hw,ht]⟩
 have ln:its.length=ks.length:=by have:=r.length;rw[aA] at this;exact this.symm
 have jl:j<ks.length:=(aH.mp hj).1
 let f:Value->Bool:=λy=>match y with | .str v _=>v.cps.toList==z.cps.toList | _=>false
 refine To F.slot_list_index ⟨_,e,rfl⟩ F.entry_list_index (F.args_list_index_2 _ _)
  (MeetsSeq.list_index l its.toArray n (.str z t) f (λy hy=>?_) j (by rw[aQ];lia) (by lia) ?_ ?_) ⟨e,⟨.int j,H,I.tok _,⟨_,rfl⟩,q⟩⟩
 .obtain⟨m,hm,rfl⟩:=kW (List.mem_toArray.mp hy);obtain⟨t',ht⟩:=at_ m ks[m] (aE (by lia));rw[aE hm] at ht;rw[av ht];exact SeqRoads2.EqGives.str _ _ _ _
 .obtain⟨t',ht⟩:=at_ j z hj;have h2:its.toArray[j]'(by rw[aQ];lia)=Value.str z t':=by
   rw[List.getElem_toArray];rw[aE (by lia)] at ht;exact av ht
  rw[h2];exact beq_self_eq_true z.cps.toList
 .intro m hm hmj;obtain⟨t',ht⟩:=at_ m ks[m] (aE (by lia));have h2:its.toArray[m]=Value.str (ks[m]'(by lia)) t':=by
   rw[List.getElem_toArray];rw[aE (by lia)] at ht;exact av ht
  rw[h2];have:=hno m hmj;rw[aE (by lia)] at this;refine beq_false_of_ne λe=>this ?_;have:(ks[m]'(by lia)).cps=z.cps:=by simpa using congrArg List.toArray e
  congr 1;generalize ks[m]'(by lia)=y at this;obtain⟨y⟩:=y;obtain⟨z⟩:=z;simp only at this;rw[this]
theorem J1{K:U9}{Z:St}{H:Hp}{D:Ends}{ta:TA}{g:TG}{tb:TS}:rK (Ka K ta) g tb D Z H=ta Z H λvs H1=>∃a b,vs=[.ref a,.ref b]/\(∃xs,cI K H1 a xs)/\(∃ys,cI K H1 b ys)/\sS (M2 K a b) g tb D Z H1:=rfl
theorem Fb{K:U9}{Z:St}{H:Hp}{D:Ends}{a b:Addr}{xs ys:List V}{g:TG}{tb:TS}(hle:xs.length<=ys.length)(Pv:Nat->St->Hp->Prop)(h0:Pv 0 Z H)(hl:∀i Z H,Pv i Z H->cI K H a xs/\cI K H b ys)
  (hs:∀i x y Z H p,xs[i]? = some x->ys[i]? = some y->Pv i Z H->H p=none->g (.ref p) Z (upd H p (.tup [x,y])) λZ2 H2=>tb { D with nx:=Pv (i+1),ct:=Pv (i+1),bk:=D.nx } Z2 H2) (hd:∀Z H,Pv xs.length Z H->D.nx Z H):sS (M2 K a b) g tb D Z H:=by
 refine⟨λi m Z H=>m+i=xs.length/\Pv i Z H,⟨xs.length,rfl,h0⟩,?_⟩;rintro i m Z H ⟨hm,hp⟩;obtain⟨q1,q2⟩:=hl i Z H hp;by_cases hi:i<xs.length
 .refine .inr ⟨⟨xs,ys,xs[i],ys[i],q1,q2,by simp[hi],by simp[aZ hi hle]⟩,Pv (i+1),λZ' H' h=>⟨m - 1,by lia,by lia,h⟩,?_⟩;rintro v H' ⟨p,x,y,hn,hx,hy,rfl,rfl⟩;exact hs i x y Z H p (hx xs q1) (hy ys q2) hp hn
 .have e:i=xs.length:=by lia
  subst e;exact .inl ⟨⟨xs,ys,q1,q2,.inl (aI _)⟩,hd Z H hp⟩
theorem DM{l:Addr}{z:Str}{H:Hp}{Q:VK}:Au (.ref l) [.str z] H Q=∃(ks:List Str) (j:Nat),H l=some (.lst (ks.map V.str))/\ks.length<=1000/\ks[j]? = some z/\(∀m,m<j->ks[m]?≠some z)/\Q (.int j) H:=
 propext ⟨(by rintro ⟨_,ks,_,j,e,e',h⟩;cases e;cases e';exact⟨ks,j,h⟩),(by rintro ⟨ks,j,h⟩;exact ⟨l,ks,z,j,rfl,rfl,h⟩)⟩
end L2
namespace Rm
open PySem L2 PyProof.Rows
def hN(S:List Bw):Nat->Bw->Nat
 | 0,_=>1
 | k+1,p=>1+((S.filter λq=>md q p).map (hN S k)).foldl max 0
def hF(S:List Bw)(p:Bw):Nat:=hN S (fE p).toNat p
theorem qv{l:im}{m:Nat}:∀a,(∀x∈l,x<=m)->a<=m->l.foldl max a<=m:=by
 induction l with
 | nil=>intro a _ h;exact h
 | cons x l ih=>intro a h ha;exact ih _ (λy hy=>h y (aJ _ hy)) (by have:=h x (by simp);lia)
theorem qw{l:im}:∀a,a<=l.foldl max a/\∀x∈l,x<=l.foldl max a:=by
 induction l with
 | nil=>intro a;exact⟨aI _,λx h=>nomatch h⟩
 | cons y l ih=>
  intro a;obtain⟨h1,h2⟩:=ih (max a y);refine⟨by show a<=l.foldl max (max a y);lia,λx hx=>?_⟩;rcases aL.mp hx with rfl | hx
  .show x<=l.foldl max (max a x);lia
  .exact h2 x hx
theorem CY{S:List Bw}(hS:∀q∈S,q.1<q.2):∀(k:Nat) (p:Bw),(fE p).toNat<=k->hN S k p=hF S p:=by
 intro k
 induction k using Nat.strongRecOn with
 | ind k ih=>
  intro p hp;unfold hF;by_cases e:(fE p).toNat=k
  .rw[e]
  .match k,ih,hp,e with
   | 0,_,hp,e=>lia
   | k+1,ih,hp,e=>
    cases hs:(fE p).toNat with
    | zero=>
     have:(S.filter λq=>md q p).map (hN S k)=(S.filter λq=>md q p).map λ_=>1:=by
      refine cP λq hq=>?_;have hi:=(aV.mp hq).2;have:=ju hi;rw[ih k (by lia) q (by lia)];unfold hF;rw[show (fE q).toNat=0 by lia];rfl
     show 1+((S.filter λq=>md q p).map (hN S k)).foldl max 0=1;rw[this];cases hf:S.filter λq=>md q p with
     | nil=>rfl
     | cons q r=>
      exfalso;have hm:=aV.mp (by rw[hf];simp:q∈S.filter λq=>md q p);have h1:=ju hm.2;have h2:=hS q hm.1;unfold fE at h1 hs;lia
    | succ j=>
     show 1+((S.filter λq=>md q p).map (hN S k)).foldl max 0=1+((S.filter λq=>md q p).map (hN S j)).foldl max 0;congr 2;refine cP λq hq=>?_;have:=ju (aV.mp hq).2;rw[ih k (by lia) q (by lia),ih j (by lia) q (by lia)]
theorem yD{S:List Bw}(hS:∀q∈S,q.1<q.2){p:Bw}(hp:p.1<p.2):hF S p=1+((S.filter λq=>md q p).map (hF S)).foldl max 0:=by
 unfold hF;obtain⟨k,hk⟩:∃k,(fE p).toNat=k+1:=⟨(fE p).toNat - 1,by unfold fE;lia⟩
 rw[hk];show 1+((S.filter λq=>md q p).map (hN S k)).foldl max 0=_;congr 2;refine cP λq hq=>?_;have:=ju (aV.mp hq).2;exact CY hS k q (by lia)
theorem zo{S:List Bw}(hS:∀q∈S,q.1<q.2){p:Bw}(hp:p∈S):1<=hF S p:=by rw[yD hS (hS p hp)];lia
theorem Hq{S:List Bw}(hS:∀q∈S,q.1<q.2){h:Bw->Int}(hh:∀p∈S,∃m:Int,h p=1+m/\0<=m/\(∀q∈S,md q p=true->h q<=m)/\(m=0\/∃q∈S,md q p=true/\h q=m)):∀(k:Nat) (p:Bw),p∈S->(fE p).toNat=k->h p=(hF S p:Nat):=by
 intro k
 induction k using Nat.strongRecOn with
 | ind k ih=>
  intro p hp hk;obtain⟨m,e,m0,m1,m2⟩:=hh p hp;have ihq:∀q∈S,md q p=true->h q=(hF S q:Nat):=λq hq hi=>by
   have:=ju hi;have:=hS q hq;exact ih (fE q).toNat (by unfold fE at *;lia) q hq rfl
  rw[e,yD hS (hS p hp)];have g:=qw (l:=(S.filter λq=>md q p).map (hF S)) 0;generalize hM:((S.filter λq=>md q p).map (hF S)).foldl max 0=M at g;have le:M<=m.toNat:=by
   rw[<-hM];refine qv 0 (λx hx=>?_) (ah _);obtain⟨q,hq,rfl⟩:=aU.mp hx;obtain⟨q1,q2⟩:=aV.mp hq;have:=m1 q q1 q2;rw[ihq q q1 q2] at this;lia
  have ge:m.toNat<=M:=by
   rcases m2 with z | ⟨q,q1,q2,z⟩
   .lia
   .have:=g.2 (hF S q) (aU.mpr ⟨q,aV.mpr ⟨q1,q2⟩,rfl⟩);rw[ihq q q1 q2] at z;lia
  lia
theorem Ke{S:List Bw}{hs:gs}(hS:∀q∈S,q.1<q.2)(nd:S.Nodup)(h:Mj S hs):hs=S.map λp=>((hF S p:Nat):Int):=by
 let f:Bw->Int:=λp=>uj (S.zip hs) p
 have nz:((S.zip hs).map (·.1)).Nodup:=by
  rw[List.map_fst_zip (by rw[h.len];exact aI _)];exact nd
 have at_:∀(i:Nat) p x,S[i]? = some p->hs[i]? = some x->f p=x:=λi p x h1 h2=>
  me (e:=(p,x)) nz (aT (by rw[iM];exact⟨h1,h2⟩))
 have key:=Hq hS (h:=f) λp hp=>by
  obtain⟨i,hi⟩:=d9 hp;have il:=(aH.mp hi).1;have hx:hs[i]? = some (hs[i]'(by rw[h.len];exact il)):=aE _;have T:=h.top i p _ hi hx;have ep:=at_ i p _ hi hx;refine⟨_,by rw[ep];lia,T.nn,λq hq hi2=>?_,?_⟩
  .obtain⟨j,hj⟩:=d9 hq;have jl:=(aH.mp hj).1;have hy:hs[j]? = some (hs[j]'(by rw[h.len];exact jl)):=aE _;rw[at_ j q _ hj hy];exact T.le (q,_) (aT (i:=j) (by rw[iM];exact⟨hj,hy⟩)) hi2
  .rcases T.is with z | ⟨e,he,z1,z2⟩
   .exact .inl z
   .obtain⟨j,hj⟩:=d9 he;rw[iM] at hj;exact .inr ⟨e.1,aT hj.1,z1,by rw[at_ j e.1 e.2 hj.1 hj.2];exact z2⟩
 apply nK
 .rw[aA,h.len]
 .intro i h1 h2;rw[List.getElem_map];have il:i<S.length:=by rw[<-h.len];exact h1
  rw[<-key _ S[i] (nE _) rfl];exact(at_ i _ _ (aE il) (aE h1)).symm
def nX(S:List Bw):Nat:=(S.map (hF S)).foldl max 0
theorem lP{S:List Bw}{p:Bw}(hp:p∈S):hF S p<=nX S:=(qw 0).2 _ (aU.mpr ⟨p,hp,rfl⟩)
theorem Ez (S : List Bw) : oP (S.map fun p => ((hF S p : Nat) : Int)) 0 = (nX S : Nat) := by
  have gen : ∀ (l : im) (o : Option Int) (a : Nat), o.getD 0 = (a : Int) → (∀ y, o = some y → 0 ≤ y) → ((l.map fun n => ((n : Nat) : Int)).foldl LD o).getD 0 = ((l.foldl max a : Nat) : Int) := by
    intro l
    induction l with
    | nil => intro o a h _; exact h
    | cons x l ih =>
      intro o a h h2
      refine ih _ _ ?_ ?_
      · cases o with
        | none => have : a = 0 := by simpa using h.symm
                  subst this; simp [LD]
        | some y =>
          have : y = a := by simpa using h
          subst this
          show (if (a : Int) < x then (x : Int) else a) = ((max a x : Nat) : Int)
          split <;> lia
      · intro y hy
        cases o with
        | none =>
          have hy' : (x : Int) = y := av hy
          lia
        | some z =>
          have := h2 z rfl
          have hy' : (if z < (x : Int) then (x : Int) else z) = y := av hy
          split at hy' <;> lia
  have e : (S.map fun p => ((hF S p : Nat) : Int)) = (S.map (hF S)).map fun n => ((n : Nat) : Int) := by rw [bn]; rfl
  rw [e]
  exact gen _ none 0 rfl fun y hy => nomatch hy
abbrev JP:=Nat->Nat->Nat
def sG(w:Nat)(r:Nat->Nat):List V:=(List.range w).map λx=>wd (r x)
theorem wG(w:Nat)(r:Nat->Nat):(sG w r).length=w:=by simp[sG]
theorem Gu{w x c:Nat}{r:Nat->Nat}:(sG w r).set x (wd c)=sG w λy=>if y=x then c else r y:=by
 apply nK
 .simp[sG]
 .intro i h1 h2;rw[List.getElem_set];simp only[sG,List.getElem_map,List.getElem_range];by_cases e:x=i
  .subst e;simp
  .have:¬i=x:=λz=>e z.symm;simp[e,this]
theorem rP{w:Nat}{r s:Nat->Nat}(h:∀x,x<w->r x=s x):sG w r=sG w s:=by
 unfold sG;exact cP λx hx=>by rw[h x (bj.mp hx)]
structure gG (H:Hp) (g:Addr) (as:ld) (w:Nat) (G:JP):Prop where
 top:H g=some (.lst (as.map V.ref))
 nd:as.Nodup
 gn:g∉as
 row:∀ (i:Nat) a,as[i]? = some a->H a=some (.lst (sG w (G i)))
def Keeps(as:ld)(H H':Hp):Prop:=∀b o,b∉as->H b=some o->H' b=some o
theorem Keeps.refl(as:ld)(H:Hp):Keeps as H H:=λ_ _ _ h=>h
theorem Keeps.trans{as:ld}{H H1 H2:Hp}(a:Keeps as H H1)(b:Keeps as H1 H2):Keeps as H H2:=λx o hx h=>b x o hx (a x o hx h)
theorem Keeps.upd{as:ld}{H:Hp}{a:Addr}{o:HO}(h:a∈as):Keeps as H (upd H a o):=λb u nb hb=>by
 have:b≠a:=λe=>nb (e▸h);rw[aO this];exact hb
theorem gG.off{H:Hp}{g:Addr}{as:ld}{w:Nat}{G:JP}(h:gG H g as w G){b:Addr}{o:HO}(hb:H b=some o)(ho:∀xs,o≠.lst xs):b∉as:=λhm=>by
 obtain⟨i,hi⟩:=d9 hm;rw[h.row i b hi] at hb;exact ho _ (av hb).symm
theorem gG.congr{H:Hp}{g:Addr}{as:ld}{w:Nat}{G G':JP}(h:gG H g as w G)(e:∀i x,i<as.length->x<w->G i x=G' i x):gG H g as w G':=
 ⟨h.top,h.nd,h.gn,λi a hi=>by rw[h.row i a hi,rP λx hx=>e i x (aH.mp hi).1 hx]⟩
theorem gG.set{H:Hp}{g:Addr}{as:ld}{w:Nat}{G:JP}(h:gG H g as w G){i x c:Nat}{a:Addr}(hi:as[i]? = some a):gG (upd H a (.lst ((sG w (G i)).set x (wd c)))) g as w (λi' x'=>if i'=i/\x'=x then c else G i' x'):=by
 have ma:a∈as:=aT hi;refine⟨?_,h.nd,h.gn,λj b hj=>?_⟩
 .rw[aO λe:g=a=>h.gn (e▸ma)];exact h.top
 .by_cases e:b=a
  .subst e;have ij:i=j:=by
    have h1:=aH.mp hi;have h2:=aH.mp hj;exact(iI h.nd (h₀:=h1.1) (h₁:=h2.1)).mp (h1.2.trans h2.2.symm)
   subst ij;rw[aG,Gu,rP λy _=>?_];simp
  .rw[aO e,h.row j b hj];have ij:¬j=i:=λz=>by
    subst z;rw[hi] at hj;exact e (av hj).symm
   rw[rP λy _=>?_];simp[ij]
def zQ(G:JP)(P:Nat->Nat->Bool):JP:=λi x=>if P i x then 46 else G i x
theorem wM{G:JP}{P P':Nat->Nat->Bool}{i x:Nat}(h:P i x=P' i x):zQ G P i x=zQ G P' i x:=by unfold zQ;rw[h]
theorem BA{G:JP}{P P':Nat->Nat->Bool}{i x i0 x0:Nat}(h:P' i x=(P i x || decide (i=i0/\x=x0))):(if i=i0/\x=x0 then 46 else zQ G P i x)=zQ G P' i x:=by
 unfold zQ;rw[h];by_cases z:i=i0/\x=x0
 .rw[U2 z,U5 z,rH,U2 rfl]
 .rw[U1 z,U4 z,eS]
def yB(p:Bw)(i:Nat):Bool:=decide (2*p.1+1<=(i:Int))&&decide ((i:Int)<=2*p.2+1)
def wO(S:List Bw)(c:Bw->Nat)(i x:Nat):Bool:=S.any λp=>yB p i&&decide (x=c p)
def BC(n:Nat)(kL kR:Nat->Nat)(i x:Nat):Bool:=decide (i % 2=1/\3<=i/\i<=2*n+1)&&(decide (kL ((i - 1) / 2)<=x)&&decide (x<=kR ((i - 1) / 2)))
def vp(kvs:List (Key×V))(S:List Bw)(c:Bw->Nat):Prop:=∀p∈S,gW kvs (.inl p.1:Key)=some (.int (c p:Nat))/\gW kvs (.inl p.2:Key)=some (.int (c p:Nat))
structure AL (S:List Bw):Prop where
 nd:S.Nodup
 lt:∀ p∈S,p.1<p.2
 len:S.length<=40
 one:∀ p∈S,∀ q∈S,∀ x,(p.1=x\/p.2=x)->(q.1=x\/q.2=x)->p=q
def qZ:Sp:=λvs H Q _=>∃r:Int,vs=[.int r]/\Q (.int (2*r+1)) H
def Aj:Sp:=λvs H Q _=>∃l S,vs=[.ref l]/\BowsAt H l S/\AL S/\∀H',bJ H H'->Q (.int (nX S:Nat)) H'
def vy:Sp:=λvs H Q _=>∃l k S,∃c:Bw->Nat,vs=[.ref l,.ref k]/\BowsAt H l S/\AL S/\H k=some (.lst (S.map λp=>V.int (c p:Nat)))/\∀d kvs H',H d=none->bJ H H'->H' d=some (.dK kvs)->vp kvs S c->Q (.ref d) H'
def Af:Sp:=λvs H Q _=>∃l S,∃m:Nat,vs=[.ref l,.int (m:Nat)]/\BowsAt H l S/\AL S/\nX S<=m/\∀d kvs H',H d=none->bJ H H'->H' d=some (.dK kvs)->vp kvs S (λp=>2*(m-hF S p)+1)->Q (.ref d) H'
def wz:Sp:=λvs H Q _=>∃l S,∃m:Nat,vs=[.ref l,.int (m:Nat)]/\BowsAt H l S/\AL S/\∀d kvs H',H d=none->bJ H H'->H' d=some (.dK kvs)->vp kvs S (λp=>2*m+2*hF S p - 1)->Q (.ref d) H'
def xF:Sp:=λvs H Q _=>∃g l d as w G S c kvs,vs=[.ref g,.ref l,.ref d]/\gG H g as w G/\l∉as/\BowsAt H l S/\H d=some (.dK kvs)/\vp kvs S c/\(∀p∈S,0<=p.1/\p.1<p.2/\2*p.2+1<as.length/\c p<w)/\as.length<=100/\w<=1000/\∀H',Keeps as H H'->gG H' g as w (zQ G (wO S c))->Q .non H'
def xE:Sp:=λvs H Q _=>∃g dl dr as w G kl kr,∃n:Nat,∃kL kR:Nat->Nat,vs=[.ref g,.int (n:Nat),.ref dl,.ref dr]/\gG H g as w G/\H dl=some (.dK kl)/\H dr=some (.dK kr)/\(∀r:Nat,1<=r->r<=n->gW kl (.inl (r:Int):Key)=some (.int (kL r:Nat))/\gW kr (.inl (r:Int):Key)=some (.int (kR r:Nat))/\kL r<w/\kR r<w)/\2*n+1<as.length/\as.length<=100/\w<=1000/\∀H',Keeps as H H'->gG H' g as w (zQ G (BC n kL kR))->Q .non H'
def Dw:Sp:=λvs H Q _=>∃a w,∃r:Nat->Nat,∃x0 c:Nat,vs=[.ref a,.str ⟨#[c]⟩]/\H a=some (.lst (sG w r))/\x0<w/\r x0=46/\(∀x,x<x0->r x≠46)/\w<=1000/\Q .non (upd H a (.lst ((sG w r).set x0 (wd c))))
theorem zl{S:List Bw}{hs:gs}(B:AL S)(h:Mj S hs):hs=S.map λp=>((hF S p:Nat):Int):=Ke B.lt B.nd h
def qX(L:List Bw)(p:Bw):Nat:=2*(nX L-hF L p)+1
def qD(L R:List Bw)(p:Bw):Nat:=2*nX L+2*hF R p - 1
def IG(S:List Bw)(r:Nat):Bw:=(S.find? λp=>decide (p.1=(r:Int)) || decide (p.2=(r:Int))).getD (0,0)
def pj(L:List Bw)(r:Nat):Nat:=qX L (IG L r)
def sB(L R:List Bw)(r:Nat):Nat:=qD L R (IG R r)
def dt(L R:List Bw):Nat:=2*(nX L+nX R)+1
def dz(n:Nat)(L R:List Bw)(i x:Nat):Bool:=wO L (qX L) i x || (wO R (qD L R) i x || BC n (pj L) (sB L R) i x)
def signG(n:Nat)(L R:List Bw)(i x:Nat):Nat:=if dz n L R i x then (if i=1 then 118 else if i=2*n+3 then 64 else 46) else 35
def i8(n:Nat)(L R:List Bw)(i:Nat):im:=(List.range (dt L R)).map (signG n L R i)
def fg:List (im)->im
 | []=>[]
 | [r]=>r
 | r::s::rs=>r++10::fg (s::rs)
def B6(n:Nat)(L R:List Bw):im:=fg ((List.range (2*n+5)).map (i8 n L R))
theorem sC:∀(rs:List (im)) (acc:Array Nat),(rs.map tx).foldl (λacc p=>acc++(Str.ofString "\n").cps++p.cps) acc=acc++(rs.flatMap λr=>10::r).toArray
 | [],acc=>by simp
 | r::rs,acc=>by
  have e:(Str.ofString "\n").cps=#[10]:=by symm
  rw[af,eT,sC rs,e];simp[tx]
theorem uJ:∀(r:im) (rs:List (im)),fg (r::rs)=r++rs.flatMap λr=>10::r
 | r,[]=>by simp[fg]
 | r,s::rs=>by
  show r++10::fg (s::rs)=_;rw[uJ s rs];simp
theorem Hh (rs:List (im)):Txt.join (Str.ofString "\n") (rs.map tx)=tx (fg rs):=by
 cases rs with
 | nil=>rfl
 | cons r rs=>
  show Str.mk ((((r::rs).map tx).drop 1).foldl (λacc p=>acc++(Str.ofString "\n").cps++p.cps) (((r::rs).map tx).headD Str.empty).cps)=_;rw[af,List.drop_one,List.tail_cons,List.headD_cons,sC,uJ];simp[tx]
theorem CQ {rs:List (im)} (h1:rs.length<=1000) (h2:∀r∈rs,r.length<=1000):JoinOk (Str.ofString "\n") (rs.map tx)=true:=by
 unfold JoinOk;have e:Builtin.Str.tooLong ((rs.map tx).toArray.foldl (λa t=>a+t.length+(Str.ofString "\n").length) 0)=false:=by
  have h0:∀(rs:List (im)) (a:Nat),(∀r∈rs,r.length<=1000)->(rs.map tx).foldl (λa t=>a+t.length+(Str.ofString "\n").length) a<=a+rs.length*1001:=by
   intro rs
   induction rs with
   | nil=>intro a _;exact d6 _ _
   | cons b bs ih=>
    intro a hb;rw[af,eT];have h3:(Str.ofString "\n").length=1:=by symm
    have h4:=hb b (by simp);have:=ih (a+(tx b).length+(Str.ofString "\n").length) λr hr=>hb r (by simp[hr]);rw[vt,h3] at this;rw[vt,h3,bL];refine bN this ?_;have:(bs.length+1)*1001=bs.length*1001+1001:=Nat.succ_mul _ _;lia
  rw[List.foldl_toArray' (h:=by simp)];have:=h0 rs 0 h2;unfold Builtin.Str.tooLong;refine U4 ?_;rw[Tg];have:rs.length*1001<=1000*1001:=Nat.mul_le_mul_right _ h1;lia
 rw[e];rfl
theorem ED(w:Nat)(r:Nat->Nat):sG w r=(((List.range w).map r).map λc=>(⟨#[c]⟩:Str)).map V.str:=by unfold sG;rw[bn,bn];rfl
theorem eG.bws{b:Bool}{ns:gs}{u:Bool}{L:List Bw}(h:eG b ns u L)(O:fO ns):AL L where
 nd:=by
  have:(bH b ns u (ns.length+1)).Nodup:=by
   unfold bH List.Nodup;rw[cW];refine fb (fun {i j} hi hj ne e=>?_) ((gD).filter _);have hi:=aV.mp hi;have hj:=aV.mp hj;have h1:=O.has_iff (i:=i) (j:=i) (by have:=bj.mp hi.1;lia) (by have:=bj.mp hi.1;lia);have h2:=O.has_iff (i:=i) (j:=j) (by have:=bj.mp hi.1;lia) (by have:=bj.mp hj.1;lia);rw[<-e,h1] at h2;have h3:decide (j=i\/j+1=i)=true:=by rw[<-h2];simp
   have h4:=U6 h3;rcases h4 with z | z
   .exact ne z.symm
   .exact uA hi.2 hj.2 z.symm
  exact h.perm.nodup_iff.mpr this
 lt:=h.lt O
 len:=by have:=h.len O;lia
 one:=λp hp q hq x h1 h2=>by
  have hp:=h.perm.mem_iff.mp hp;have hq:=h.perm.mem_iff.mp hq;obtain⟨i,hi,si,rfl⟩:=gj hp;obtain⟨j,hj,sj,rfl⟩:=gj hq;have hx:∃k,k<ns.length+2/\x=bX ns k/\(i=k\/i+1=k):=by
   have e:x=bX ns i\/x=bX ns (i+1):=by
    have h1':min (bX ns i) (bX ns (i+1))=x\/max (bX ns i) (bX ns (i+1))=x:=h1;lia
   rcases e with e | e
   .exact⟨i,by lia,e,.inl rfl⟩
   .exact⟨i+1,by lia,e,.inr rfl⟩
  obtain⟨k,hk,rfl,ik⟩:=hx;have h2':=uQ.mpr h2;rw[O.has_iff hk (by lia)] at h2';have jk:=U6 h2';have:i=j\/i=j+1\/j=i+1:=by lia
  rcases this with z | z | z
  .rw[z]
  .exact absurd z λz=>uA si sj z
  .exact absurd z λz=>uA sj si z
theorem eG.has{b:Bool}{ns:gs}{u:Bool}{L:List Bw}(h:eG b ns u L)(O:fO ns){r:Nat}(h1:1<=r)(h2:r<=ns.length):∃p∈L,p.1=(r:Int)\/p.2=(r:Int):=by
 obtain⟨i,hi⟩:=d9 (O.mem.mpr ⟨(by lia:(1:Int)<=r),by lia⟩);have il:=(aH.mp hi).1;have er:=pR hi;have:cX b u i=true\/cX b u (i+1)=true:=by
  unfold cX;rw[lO];cases b<;>cases u<;>cases odd i<;>simp
 rcases this with s | s
 .refine⟨_,h.perm.mem_iff.mpr (og (by lia) s),?_⟩;rw[<-uQ,<-er,O.has_iff (by lia) (by lia)];simp
 .refine⟨_,h.perm.mem_iff.mpr (og (by lia) s),?_⟩;rw[<-uQ,<-er,O.has_iff (by lia) (by lia)];simp
theorem ft{S:List Bw}(B:AL S){p:Bw}(hp:p∈S){r:Nat}(h:p.1=(r:Int)\/p.2=(r:Int)):IG S r=p:=by
 unfold IG;cases e:S.find? λp=>decide (p.1=(r:Int)) || decide (p.2=(r:Int)) with
 | none=>
  have:=List.find?_eq_none.mp e p hp;rw[dS,U3,U3] at this;exact absurd h this
 | some q=>
  have h1:=oK e;have h2:=List.mem_of_find?_eq_some e;rw[dS,U3,U3] at h1;exact B.one q h2 p hp _ h1 h
theorem KS{S:List Bw}{m:Nat}(h:∀p∈S,hF S p<=m):nX S<=m:=qv 0 (λx hx=>by obtain⟨p,hp,rfl⟩:=aU.mp hx;exact h p hp) (ah _)
theorem Hr{S:List Bw}(hS:∀q∈S,q.1<q.2):∀(k:Nat) (p:Bw),(fE p).toNat=k->p.1<p.2->hF S p<=k:=by
 intro k
 induction k using Nat.strongRecOn with
 | ind k ih=>
  intro p hk hp;rw[yD hS hp];have:((S.filter λq=>md q p).map (hF S)).foldl max 0<=k - 1:=by
   refine qv 0 (λx hx=>?_) (ah _);obtain⟨q,hq,rfl⟩:=aU.mp hx;obtain⟨q1,q2⟩:=aV.mp hq;have h1:=ju q2;have h2:=hS q q1;have:=ih (fE q).toNat (by unfold fE at *;lia) q rfl h2;unfold fE at *;lia
  unfold fE at hk;lia
theorem eG.mx{b:Bool}{ns:gs}{u:Bool}{L:List Bw}(h:eG b ns u L)(O:fO ns):nX L<=21:=KS λp hp=>by
 have:=qa O (h.perm.mem_iff.mp hp);exact bN (Hr (h.lt O) _ p rfl this.2.1) (by unfold fE;lia)
theorem C2{b:Bool}{ns:gs}(O:fO ns){u:Bool}{p:Bw}(hp:p∈bH b ns u (ns.length+1))(h:p.1=0):u=b/\p=cF ns 0:=by
 obtain⟨j,hj,sj,rfl⟩:=gj hp;have h':=uQ.mpr (Or.inl (b:=(cF ns j).2=bX ns 0) (show (cF ns j).1=bX ns 0 by rw[zG];exact h));rw[O.has_iff (by lia) (by lia)] at h';have:j=0:=by have:=U6 h';lia
 subst this;unfold cX at sj;exact⟨by have:=beq_iff_eq.mp sj;rw[<-this];simp[odd],rfl⟩
theorem FM{b:Bool}{ns:gs}(O:fO ns){u:Bool}{p:Bw}(hp:p∈bH b ns u (ns.length+1))(h:p.2=(ns.length:Int)+1):u=(b ^^ odd ns.length)/\p=cF ns ns.length:=by
 obtain⟨j,hj,sj,rfl⟩:=gj hp;have h':=uQ.mpr (Or.inr (a:=(cF ns j).1=bX ns (ns.length+1)) (show (cF ns j).2=bX ns (ns.length+1) by rw[ir];exact h));rw[O.has_iff (by lia) (by lia)] at h';have:j=ns.length:=by have:=U6 h';lia
 subst this;unfold cX at sj;exact⟨(beq_iff_eq.mp sj).symm,rfl⟩
theorem B2{S:List Bw}{P:Bw->Bool}{p0:Bw}(h0:p0∈S)(h:∀p∈S,P p=true->p=p0):S.any P=P p0:=by
 rw[eU,cM];exact⟨(by rintro ⟨p,hp,e⟩;rw[h p hp e] at e;exact e),λe=>⟨p0,h0,e⟩⟩
theorem GA{S:List Bw}{P:Bw->Bool}(h:∀p∈S,P p=false):S.any P=false:=jO.mpr λp hp=>by rw[h p hp];decide
theorem AF{L R:List Bw}{p:Bw}(hS:∀q∈L,q.1<q.2)(hp:p∈L):qX L p<dt L R:=by
 have:=zo hS hp;have:=lP hp;unfold qX dt;lia
theorem AD{L R:List Bw}{p:Bw}(hS:∀q∈R,q.1<q.2)(hp:p∈R):qD L R p<dt L R:=by
 have:=zo hS hp;have:=lP hp;unfold qD dt;lia
theorem xg{b:Bool}{ns:gs}{L R:List Bw}(O:fO ns)(hL:eG b ns false L)(hR:eG b ns true R){i:Nat}{u:Bool}{p0:Bw}(h0:p0∈bH b ns u (ns.length+1))(hi0:yB p0 i=true)(hu:∀v,∀p∈bH b ns v (ns.length+1),yB p i=true->v=u/\p=p0)(hg:∀x,BC ns.length (pj L) (sB L R) i x=false):∃x0,x0<dt L R/\∀x,dz ns.length L R i x=decide (x=x0):=by
 have mL:∀p,p∈L<->p∈bH b ns false (ns.length+1):=λp=>hL.perm.mem_iff;have mR:∀p,p∈R<->p∈bH b ns true (ns.length+1):=λp=>hR.perm.mem_iff;cases u with
 | false=>
  refine⟨qX L p0,AF (hL.lt O) ((mL _).mpr h0),λx=>?_⟩;unfold dz;rw[hg,eS];have e1:wO R (qD L R) i x=false:=GA λp hp=>by
   cases e:yB p i with
   | false=>rfl
   | true=>exact nomatch (hu true p ((mR p).mp hp) e).1
  have e2:wO L (qX L) i x=(yB p0 i&&decide (x=qX L p0)):=B2 (P:=λp=>yB p i&&decide (x=qX L p)) ((mL _).mpr h0) λp hp e=>by
   rw[ao] at e;exact(hu false p ((mL p).mp hp) e.1).2
  rw[e1,e2,hi0,eQ,eS]
 | true=>
  refine⟨qD L R p0,AD (hR.lt O) ((mR _).mpr h0),λx=>?_⟩;unfold dz;rw[hg,eS];have e1:wO L (qX L) i x=false:=GA λp hp=>by
   cases e:yB p i with
   | false=>rfl
   | true=>exact nomatch (hu false p ((mL p).mp hp) e).1
  have e2:wO R (qD L R) i x=(yB p0 i&&decide (x=qD L R p0)):=B2 (P:=λp=>yB p i&&decide (x=qD L R p)) ((mR _).mpr h0) λp hp e=>by
   rw[ao] at e;exact(hu true p ((mR p).mp hp) e.1).2
  rw[e1,e2,hi0,eQ,mM]
theorem so{p:Bw}{i:Nat}:yB p i=true<->2*p.1+1<=(i:Int)/\(i:Int)<=2*p.2+1:=by
 unfold yB;rw[ao,U3,U3]
theorem t9{b:Bool}{ns:gs}{L R:List Bw}(O:fO ns)(hL:eG b ns false L)(hR:eG b ns true R):∃x0,x0<dt L R/\∀x,dz ns.length L R 1 x=decide (x=x0):=by
 have s0:cX b b 0=true:=by unfold cX;simp[odd]
 have h0:=og (b:=b) (ns:=ns) (s:=b) (m:=ns.length+1) (i:=0) (by lia) s0;refine xg O hL hR h0 (so.mpr ?_) (λv p hp e=>?_) (λx=>?_)
 .have:=qa O h0;have e0:(cF ns 0).1=0:=by
   have h1:=O.row_in (i:=1) (by lia);show min (bX ns 0) (bX ns 1)=0;rw[zG];lia
  lia
 .have h1:=so.mp e;have h2:=qa O hp;exact C2 O hp (by lia)
 .unfold BC;rw[U4 (by lia),jR]
theorem vM{b:Bool}{ns:gs}{L R:List Bw}(O:fO ns)(hL:eG b ns false L)(hR:eG b ns true R):∃x0,x0<dt L R/\∀x,dz ns.length L R (2*ns.length+3) x=decide (x=x0):=by
 have s0:cX b (b ^^ odd ns.length) ns.length=true:=by unfold cX;simp
 have h0:=og (b:=b) (ns:=ns) (s:=b ^^ odd ns.length) (m:=ns.length+1) (i:=ns.length) (by lia) s0;have top:∀v,∀p∈bH b ns v (ns.length+1),p.2<=(ns.length:Int)+1:=λv p hp=>by
  obtain⟨j,hj,_,rfl⟩:=gj hp;exact(O.step_in (i:=j) (by lia)).2
 refine xg O hL hR h0 (so.mpr ?_) (λv p hp e=>?_) (λx=>?_)
 .have e0:(cF ns ns.length).2=(ns.length:Int)+1:=by
   have h1:=O.row_in (i:=ns.length) (by lia);show max (bX ns ns.length) (bX ns (ns.length+1))=_;rw[ir];lia
  have:=(O.step_lt (i:=ns.length) (aI _))
  lia
 .have h1:=so.mp e;have h2:=top v p hp;exact FM O hp (by lia)
 .unfold BC;rw[U4 (by lia),jR]
def tJ(M C:Addr):Sp:=λvs H Q E=>∃x d,vs=[x]/\Dat H x d/\Pl d 60/\((uF d=false/\∀H',bJ H H'->E (.ref M) none H')\/∃m o b ns,x=.ref m/\gY H m o b ns/\d=MH b ns/\fO ns ∧
 (NC b ns->∀L R H',eG b ns false L->eG b ns true R->bJ H H'->Q (.str (tx (B6 ns.length L R))) H') ∧
 ∀u,∀p∈bH b ns u (ns.length+1),∀q∈bH b ns u (ns.length+1),ci p q=true->∀t dx H',bJ H H'->mK H' t u p q->H' dx=some (.xd [("bows",.ref t)])->E (.ref C) (some dx) H')
theorem Jq(w c:Nat):(List.replicate w [wd c]).flatten=sG w λ_=>c:=by
 unfold sG
 induction w with
 | zero=>rfl
 | succ w ih=>
  rw[List.replicate_succ',List.flatten_append,ih,dP,aX];rfl
theorem sign_of{n:Nat}{L R:List Bw}{x0 x1:Nat}(op0:∀x,dz n L R 1 x=decide (x=x0))(op1:∀x,dz n L R (2*n+3) x=decide (x=x1))(i x:Nat):
  (if i=2*n+3/\x=x1 then 64 else if i=1/\x=x0 then 118 else if dz n L R i x then 46 else 35)=signG n L R i x:=by
 unfold signG;by_cases h1:i=1
 .subst h1;have:¬((1:Nat)=2*n+3/\x=x1):=by lia
  rw[U1 this,op0];by_cases e:x=x0
  .subst e;simp
  .simp[e]
 .by_cases h2:i=2*n+3
  .subst h2;rw[op1];by_cases e:x=x1
   .subst e;simp
   .simp[e]
  .simp[h1,h2]
end Rm
namespace L2
open PySem PySem.Spec PyProof.Rows
section
def Jv:List V->Hp->VK->Prop:=λxs H Q=>∃(d:Addr) (kvs:List (List Key×V)),xs=[.ref d]/\H d=some (.dT kvs)/\∀l (as:ld),H l=none->Paired (λ(a:Addr) (kv:List Key×V)=>H a=some (.tup (kv.1.map kV))) as kvs->Q (.ref l) (upd H l (.lst (as.map V.ref)))
end
theorem GU{xs:List V}{H:Hp}{Q:VK}:Jv xs H Q=∃(d:Addr) (kvs:List (List Key×V)),xs=[.ref d]/\H d=some (.dT kvs)/\∀l (as:ld),H l=none->Paired (λ(a:Addr) (kv:List Key×V)=>H a=some (.tup (kv.1.map kV))) as kvs->Q (.ref l) (upd H l (.lst (as.map V.ref))):=rfl
end L2
namespace Rm
open PySem L2 PyProof.Rows
theorem yJ{l m:im}(h:∀x,x∈l<->x∈m):l.foldl max 0=m.foldl max 0:=
 Nat.le_antisymm (qv 0 (λx hx=>(qw 0).2 x ((h x).mp hx)) (ah _)) (qv 0 (λx hx=>(qw 0).2 x ((h x).mpr hx)) (ah _))
theorem zm{S T:List Bw}(h:∀q,q∈S<->q∈T):∀(k:Nat) (p:Bw),hN S k p=hN T k p
 | 0,_=>rfl
 | k+1,p=>by
  show 1+((S.filter λq=>md q p).map (hN S k)).foldl max 0=1+((T.filter λq=>md q p).map (hN T k)).foldl max 0;congr 1;refine yJ λx=>?_;constructor
  .intro hx;obtain⟨q,hq,rfl⟩:=aU.mp hx;obtain⟨h1,h2⟩:=aV.mp hq;exact aU.mpr ⟨q,aV.mpr ⟨(h q).mp h1,h2⟩,(zm h k q).symm⟩
  .intro hx;obtain⟨q,hq,rfl⟩:=aU.mp hx;obtain⟨h1,h2⟩:=aV.mp hq;exact aU.mpr ⟨q,aV.mpr ⟨(h q).mpr h1,h2⟩,zm h k q⟩
theorem wY{S T:List Bw}(h:∀q,q∈S<->q∈T)(p:Bw):hF S p=hF T p:=zm h _ p
theorem qr{S T:List Bw}(h:∀q,q∈S<->q∈T):nX S=nX T:=by
 refine yJ λx=>?_;constructor
 .intro hx;obtain⟨q,hq,rfl⟩:=aU.mp hx;exact aU.mpr ⟨q,(h q).mp hq,(wY h q).symm⟩
 .intro hx;obtain⟨q,hq,rfl⟩:=aU.mp hx;exact aU.mpr ⟨q,(h q).mpr hq,wY h q⟩
theorem BD{S T:List Bw}{c d:Bw->Nat}(h:∀q,q∈S<->q∈T)(hc:∀q,c q=d q)(i x:Nat):wO S c i x=wO T d i x:=by
 unfold wO;rw[eU,cM,cM];constructor
 .rintro⟨q,hq,e⟩;exact⟨q,(h q).mp hq,by rw[<-hc];exact e⟩
 .rintro⟨q,hq,e⟩;exact⟨q,(h q).mpr hq,by rw[hc];exact e⟩
def c7(b:Bool)(ns:gs)(u:Bool):List Bw:=bH b ns u (ns.length+1)
theorem q9(b:Bool)(ns:gs)(u:Bool):∃L,eG b ns u L:=by
 refine⟨(c7 b ns u).mergeSort λp q=>decide (p.1<q.1\/p.1=q.1/\p.2<=q.2),List.mergeSort_perm _ _,?_⟩;have:=List.pairwise_mergeSort (le:=λp q:Bw=>decide (p.1<q.1\/p.1=q.1/\p.2<=q.2)) (λa b c h1 h2=>?_) (λa b=>?_) (c7 b ns u)
 .exact this.imp λh=>U6 h
 .have h1:=U6 h1;have h2:=U6 h2;exact U5 (by lia)
 .rw[dS,U3,U3];lia
theorem jG{b:Bool}{ns:gs}(O:fO ns)(u:Bool):AL (c7 b ns u):=by
 obtain⟨L,hL⟩:=q9 b ns u;have B:=hL.bws O;have m:∀q,q∈c7 b ns u->q∈L:=λq hq=>hL.perm.mem_iff.mpr hq;exact⟨hL.perm.nodup_iff.mp B.nd,λp hp=>B.lt p (m p hp),by have:=hL.perm.length_eq;have:=B.len;show (bH b ns u (ns.length+1)).length<=40;lia,λp hp q hq=>B.one p (m p hp) q (m q hq)⟩
theorem Ap{b:Bool}{ns:gs}(O:fO ns)(u:Bool){r:Nat}(h1:1<=r)(h2:r<=ns.length):∃p∈c7 b ns u,p.1=(r:Int)\/p.2=(r:Int):=by
 obtain⟨L,hL⟩:=q9 b ns u;obtain⟨p,hp,e⟩:=hL.has O h1 h2;exact⟨p,hL.perm.mem_iff.mp hp,e⟩
theorem Am{b:Bool}{ns:gs}(O:fO ns)(u:Bool):nX (c7 b ns u)<=21:=by
 obtain⟨L,hL⟩:=q9 b ns u;have e:nX L=nX (c7 b ns u):=qr λq=>hL.perm.mem_iff;rw[<-e];exact hL.mx O
theorem vL{b:Bool}{ns:gs}{L R:List Bw}(O:fO ns)(hL:eG b ns false L)(hR:eG b ns true R):∀i x,dz ns.length L R i x=(~~~dz) i x:=by
 have mL:∀q,q∈L<->q∈c7 b ns false:=λq=>hL.perm.mem_iff;have mR:∀q,q∈R<->q∈c7 b ns true:=λq=>hR.perm.mem_iff;have cl:∀p,qX L p=qX (c7 b ns false) p:=λp=>by unfold qX;rw[qr mL,wY mL]
 have cr:∀p,qD L R p=qD (c7 b ns false) (c7 b ns true) p:=λp=>by unfold qD;rw[qr mL,wY mR]
 intro i x;unfold dz;rw[BD mL cl,BD mR cr];congr 2;unfold BC;by_cases z:i % 2=1/\3<=i/\i<=2*ns.length+1
 .rw[U5 z,eQ,eQ];obtain⟨p,hp,ep⟩:=hL.has O (r:=(i - 1) / 2) (by lia) (by lia);obtain⟨q,hq,eq⟩:=hR.has O (r:=(i - 1) / 2) (by lia) (by lia);unfold pj sB;rw[ft (hL.bws O) hp ep,ft (hR.bws O) hq eq,ft (jG O false) ((mL p).mp hp) ep,ft (jG O true) ((mR q).mp hq) eq,cl,cr]
 .rw[U4 z];rfl
theorem D6{b:Bool}{ns:gs}{L R:List Bw}(O:fO ns)(hL:eG b ns false L)(hR:eG b ns true R):B6 ns.length L R=(~~~B6):=by
 have mL:∀q,q∈L<->q∈c7 b ns false:=λq=>hL.perm.mem_iff;have mR:∀q,q∈R<->q∈c7 b ns true:=λq=>hR.perm.mem_iff;unfold B6;congr 1;refine cP λi _=>?_;unfold i8;rw[show dt L R=dt (c7 b ns false) (c7 b ns true) by unfold dt;rw[qr mL,qr mR]];refine cP λx _=>?_;unfold signG;rw[vL O hL hR]
theorem ii{S:List Bw}(hS:∀q∈S,q.1<q.2){p q:Bw}(hp:p.1<p.2)(hq:q∈S)(h:md q p=true):hF S q+1<=hF S p:=by
 rw[yD hS hp];have:=(qw (l:=(S.filter λq=>md q p).map (hF S)) 0).2 (hF S q) (aU.mpr ⟨q,aV.mpr ⟨hq,h⟩,rfl⟩);lia
def sK(i x:Nat):List Key:=[.inl (i:Int),.inl (x:Int)]
def Nr(n i:Nat):Nat:=if i=1 then 118 else if i=2*n+3 then 64 else 46
def Fo(n:Nat)(P:Nat->Nat->Bool):Nat->Nat->Option V:=λi x=>if P i x then some (wd (Nr n i)) else none
section
variable {S:List Bw}
theorem qp(B:AL S)(nc:∀p∈S,∀q∈S,ci p q=false){p q:Bw}(hp:p∈S)(hq:q∈S)(h1:p.1<q.1)(h2:q.1<p.2):md q p=true:=by
 have h3:=nc p hp q hq;unfold ci at h3;have h4:¬p.2<q.2:=λz=>by rw[U5 h1,U5 h2,U5 z] at h3;cases h3
 have h5:p.2≠q.2:=λz=>by
  have:=B.one p hp q hq p.2 (.inr rfl) (.inr z.symm);rw[this] at h1;lia
 unfold md;rw[U5 h1,U5 (show q.2<p.2 by lia)];rfl
theorem BP(B:AL S)(nc:∀p∈S,∀q∈S,ci p q=false){p q:Bw}(hp:p∈S)(hq:q∈S)(ne:p≠q){r:Int}(p1:p.1<=r)(p2:r<p.2)(q1:q.1<=r)(q2:r<q.2):hF S p≠hF S q:=by
 rcases Int.lt_trichotomy p.1 q.1 with h | h | h
 .have:=ii B.lt (B.lt p hp) hq (qp B nc hp hq h (by lia));lia
 .exact absurd (B.one p hp q hq p.1 (.inl rfl) (.inl h.symm)) ne
 .have:=ii B.lt (B.lt q hq) hp (qp B nc hq hp h (by lia));lia
theorem pT(B:AL S)(nc:∀p∈S,∀q∈S,ci p q=false){p q:Bw}(hp:p∈S)(hq:q∈S){r:Int}(e:p.1=r\/p.2=r)(h1:q.1<r)(h2:r<q.2):md p q=true:=by
 rcases e with e | e
 .exact qp B nc hq hp (by lia) (by lia)
 .have pl:=B.lt p hp;rcases Int.lt_trichotomy q.1 p.1 with h | h | h
  .exact qp B nc hq hp h (by lia)
  .have:=B.one q hq p hp q.1 (.inl rfl) (.inl h.symm);subst this;lia
  .have:=qp B nc hp hq h (by lia);unfold md at this;simp only[ao,U3] at this;lia
theorem yG(B:AL S){p:Bw}(hp:p∈S):1<=hF S p:=by rw[yD B.lt (B.lt p hp)];lia
end
theorem zx{S0 S1:List Bw}{c0 c1:Bw->Nat}{A:im}{P0 P1:Bw->Bool}(n0:S0.Nodup)(n1:S1.Nodup)(hA:A.Nodup)(i0:∀p∈S0,∀q∈S0,P0 p=true->P0 q=true->p≠q->c0 p≠c0 q)(i1:∀p∈S1,∀q∈S1,P1 p=true->P1 q=true->p≠q->c1 p≠c1 q)
  (d0:∀x∈A,∀p∈S0,P0 p=true->x≠c0 p) (d1:∀x∈A,∀p∈S1,P1 p=true->x≠c1 p) (d2:∀p∈S0,∀q∈S1,P0 p=true->P1 q=true->c0 p≠c1 q) {w:Nat} {o:Nat->Bool}
  (ho:∀x,x<w->(o x=true<->x∈A\/(∃p∈S0,P0 p=true/\x=c0 p)\/∃p∈S1,P1 p=true/\x=c1 p)) (bA:∀x∈A,x<w) (b0:∀p∈S0,P0 p=true->c0 p<w) (b1:∀p∈S1,P1 p=true->c1 p<w) :
  ((List.range w).filter o).length=A.length+((S0.filter P0).length+(S1.filter P1).length):=by
 have nm:∀{S:List Bw} {P:Bw->Bool} {c:Bw->Nat},S.Nodup->(∀p∈S,∀q∈S,P p=true->P q=true->p≠q->c p≠c q)->((S.filter P).map c).Nodup:=fun {S P c} nS inj=>by
  unfold List.Nodup;rw[cW];refine fb (fun {p q} hp hq ne=>?_) (jz P nS);obtain⟨h1,h2⟩:=aV.mp hp;obtain⟨h3,h4⟩:=aV.mp hq;exact inj p h1 q h3 h2 h4 ne
 have T:((List.range w).filter o).Perm (A++((S0.filter P0).map c0++(S1.filter P1).map c1)):=by
  refine(lX (jz o gD) ?_).mpr λx=>?_
  .rw[ck];refine⟨hA,?_,λx hx y hy=>?_⟩
   .rw[ck];refine⟨nm n0 i0,nm n1 i1,λx hx y hy=>?_⟩;obtain⟨p,hp,rfl⟩:=aU.mp hx;obtain⟨q,hq,rfl⟩:=aU.mp hy;exact d2 p (aV.mp hp).1 q (aV.mp hq).1 (aV.mp hp).2 (aV.mp hq).2
   .rcases bG.mp hy with hy | hy
    .obtain⟨p,hp,rfl⟩:=aU.mp hy;exact d0 x hx p (aV.mp hp).1 (aV.mp hp).2
    .obtain⟨p,hp,rfl⟩:=aU.mp hy;exact d1 x hx p (aV.mp hp).1 (aV.mp hp).2
  .rw[aV,bj,bG,bG,aU,aU];constructor
   .rintro⟨h1,h2⟩;rcases(ho x h1).mp h2 with h | ⟨p,hp,h,e⟩ | ⟨p,hp,h,e⟩
    .exact .inl h
    .exact .inr (.inl ⟨p,aV.mpr ⟨hp,h⟩,e.symm⟩)
    .exact .inr (.inr ⟨p,aV.mpr ⟨hp,h⟩,e.symm⟩)
   .rintro (h | ⟨p,hp,e⟩ | ⟨p,hp,e⟩)
    .exact⟨bA x h,(ho x (bA x h)).mpr (.inl h)⟩
    .obtain⟨h1,h2⟩:=aV.mp hp;have:=b0 p h1 h2;rw[e] at this;exact⟨this,(ho x this).mpr (.inr (.inl ⟨p,h1,h2,e.symm⟩))⟩
    .obtain⟨h1,h2⟩:=aV.mp hp;have:=b1 p h1 h2;rw[e] at this;exact⟨this,(ho x this).mpr (.inr (.inr ⟨p,h1,h2,e.symm⟩))⟩
 rw[T.length_eq,aj,aj,aA,aA]
structure u6 (n:Nat) (S0 S1:List Bw):Prop where
 b0:AL S0
 b1:AL S1
 c0:∀ p∈S0,∀ q∈S0,ci p q=false
 c1:∀ p∈S1,∀ q∈S1,ci p q=false
 h0:∀ r:Nat,1<=r->r<=n->∃ p∈S0,p.1=(r:Int)\/p.2=(r:Int)
 h1:∀ r:Nat,1<=r->r<=n->∃ p∈S1,p.1=(r:Int)\/p.2=(r:Int)
theorem u6.of{b:Bool}{ns:gs}(O:fO ns)(nc:NC b ns):(~~~u6):=
 ⟨jG O false,jG O true,nc false,nc true,λ_ h1 h2=>Ap O false h1 h2,λ_ h1 h2=>Ap O true h1 h2⟩
section
variable {n:Nat}{S0 S1:List Bw}
theorem u6.cL(X:u6 n S0 S1){p:Bw}(hp:p∈S0):qX S0 p % 2=1/\qX S0 p+1<=2*nX S0:=by
 have h1:=yG X.b0 hp;have h2:=lP hp;unfold qX;lia
theorem u6.cR(X:u6 n S0 S1){p:Bw}(hp:p∈S1):qD S0 S1 p % 2=1/\2*nX S0+1<=qD S0 S1 p/\qD S0 S1 p+1<=2*(nX S0+nX S1):=by
 have h1:=yG X.b1 hp;have h2:=lP hp;unfold qD;lia
theorem u6.injL(X:u6 n S0 S1){r:Int}:∀p∈S0,∀q∈S0,(decide (p.1<=r)&&decide (r<p.2))=true->(decide (q.1<=r)&&decide (r<q.2))=true->p≠q->qX S0 p≠qX S0 q:=λp hp q hq h1 h2 ne=>by
 simp only[ao,U3] at h1 h2;have:=BP X.b0 X.c0 hp hq ne h1.1 h1.2 h2.1 h2.2;have:=lP hp;have:=lP hq;unfold qX;lia
theorem u6.injR(X:u6 n S0 S1){r:Int}:∀p∈S1,∀q∈S1,(decide (p.1<=r)&&decide (r<p.2))=true->(decide (q.1<=r)&&decide (r<q.2))=true->p≠q->qD S0 S1 p≠qD S0 S1 q:=λp hp q hq h1 h2 ne=>by
 simp only[ao,U3] at h1 h2;have:=BP X.b1 X.c1 hp hq ne h1.1 h1.2 h2.1 h2.2;have:=yG X.b1 hp;have:=yG X.b1 hq;unfold qD;lia
def JF(r:Int)(S:List Bw):Nat:=(S.filter λp=>decide (p.1<r)&&decide (r<p.2)).length
theorem u6.ring_open(X:u6 n S0 S1){r:Nat}(h1:1<=r)(h2:r<=n)(x:Nat):dz n S0 S1 (2*r+1) x=true<->x∈List.range' (pj S0 r) (sB S0 S1 r+1-pj S0 r)\/(∃p∈S0,(decide (p.1<(r:Int))&&decide ((r:Int)<p.2))=true/\x=qX S0 p)\/∃p∈S1,(decide (p.1<(r:Int))&&decide ((r:Int)<p.2))=true/\x=qD S0 S1 p:=by
 have e:∀p:Bw,yB p (2*r+1)=(decide (p.1<=(r:Int))&&decide ((r:Int)<=p.2)):=λp=>by
  unfold yB;rw[eU];simp only[ao,U3];lia
 obtain⟨p0,hp0,e0⟩:=X.h0 r h1 h2;obtain⟨p1,hp1,e1⟩:=X.h1 r h1 h2;have kl:pj S0 r=qX S0 p0:=by unfold pj;rw[ft X.b0 hp0 e0]
 have kr:sB S0 S1 r=qD S0 S1 p1:=by unfold sB;rw[ft X.b1 hp1 e1]
 have a0:=X.cL hp0;have a1:=X.cR hp1;have mr:x∈List.range' (pj S0 r) (sB S0 S1 r+1-pj S0 r)<->pj S0 r<=x/\x<=sB S0 S1 r:=by
  rw[kJ];constructor
  .rintro⟨i,hi,rfl⟩;lia
  .rintro⟨h3,h4⟩;exact⟨x-pj S0 r,by lia,by lia⟩
 rw[mr];unfold dz wO BC;rw[U5 (show (2*r+1) % 2=1/\3<=2*r+1/\2*r+1<=2*n+1 by lia),eQ,dS,dS,cM,cM,show (2*r+1 - 1) / 2=r by lia];simp only[e,ao,U3];constructor
 .rintro (⟨p,hp,⟨h3,h4⟩,h5⟩ | ⟨p,hp,⟨h3,h4⟩,h5⟩ | h)
  .by_cases z:p.1=(r:Int)\/p.2=(r:Int)
   .have:=X.b0.one p hp p0 hp0 r z e0;subst this;left;lia
   .exact .inr (.inl ⟨p,hp,⟨by lia,by lia⟩,h5⟩)
  .by_cases z:p.1=(r:Int)\/p.2=(r:Int)
   .have:=X.b1.one p hp p1 hp1 r z e1;subst this;left;lia
   .exact .inr (.inr ⟨p,hp,⟨by lia,by lia⟩,h5⟩)
  .exact .inl h
 .rintro (h | ⟨p,hp,⟨h3,h4⟩,h5⟩ | ⟨p,hp,⟨h3,h4⟩,h5⟩)
  .exact .inr (.inr h)
  .exact .inl ⟨p,hp,⟨by lia,by lia⟩,h5⟩
  .exact .inr (.inl ⟨p,hp,⟨by lia,by lia⟩,h5⟩)
structure Run (n:Nat) (S0 S1:List Bw) (r:Nat) (a z:Nat):Prop where
 le:a+2<=z
 oa:a % 2=1
 oz:z % 2=1
 w:z<dt S0 S1
 op:∀ x,a<=x->x<=z->dz n S0 S1 (2 * r+1) x=true
 ev:∀ x,x<a\/z<x->x % 2=0->dz n S0 S1 (2 * r+1) x=false
 ct:((List.range (dt S0 S1)).filter (dz n S0 S1 (2 * r+1))).length=(z+1 - a)+(JF r S0+JF r S1)
theorem u6.run(X:u6 n S0 S1){r:Nat}(h1:1<=r)(h2:r<=n):Run n S0 S1 r (pj S0 r) (sB S0 S1 r):=by
 obtain⟨p0,hp0,e0⟩:=X.h0 r h1 h2;obtain⟨p1,hp1,e1⟩:=X.h1 r h1 h2;have kl:pj S0 r=qX S0 p0:=by unfold pj;rw[ft X.b0 hp0 e0]
 have kr:sB S0 S1 r=qD S0 S1 p1:=by unfold sB;rw[ft X.b1 hp1 e1]
 have a0:=X.cL hp0;have a1:=X.cR hp1;have mr:∀x,x∈List.range' (pj S0 r) (sB S0 S1 r+1-pj S0 r)<->pj S0 r<=x/\x<=sB S0 S1 r:=λx=>by
  rw[kJ];constructor
  .rintro⟨i,hi,rfl⟩;lia
  .rintro⟨h3,h4⟩;exact⟨x-pj S0 r,by lia,by lia⟩
 have farL:∀p∈S0,(decide (p.1<(r:Int))&&decide ((r:Int)<p.2))=true->qX S0 p<pj S0 r:=λp hp h=>by
  simp only[ao,U3] at h;have h3:=ii X.b0.lt (X.b0.lt p hp) hp0 (pT X.b0 X.c0 hp0 hp e0 h.1 h.2);have:=lP hp;rw[kl];unfold qX;lia
 have farR:∀p∈S1,(decide (p.1<(r:Int))&&decide ((r:Int)<p.2))=true->sB S0 S1 r<qD S0 S1 p:=λp hp h=>by
  simp only[ao,U3] at h;have h3:=ii X.b1.lt (X.b1.lt p hp) hp1 (pT X.b1 X.c1 hp1 hp e1 h.1 h.2);have:=yG X.b1 hp1;rw[kr];unfold qD;lia
 have wk:∀p:Bw,(decide (p.1<(r:Int))&&decide ((r:Int)<p.2))=true->(decide (p.1<=(r:Int))&&decide ((r:Int)<p.2))=true:=λp h=>by
  simp only[ao,U3] at h |-;lia
 refine⟨by lia,by lia,by lia,by unfold dt;lia,λx h3 h4=>(X.ring_open h1 h2 x).mpr (.inl ((mr x).mpr ⟨h3,h4⟩)),λx h3 h4=>?_,?_⟩
 .cases e:dz n S0 S1 (2*r+1) x with
  | false=>rfl
  | true=>
   exfalso;rcases(X.ring_open h1 h2 x).mp e with h | ⟨p,hp,_,rfl⟩ | ⟨p,hp,_,rfl⟩
   .have:=(mr x).mp h;lia
   .have:=X.cL hp;lia
   .have:=X.cR hp;lia
 .have:=zx (A:=List.range' (pj S0 r) (sB S0 S1 r+1-pj S0 r)) (w:=dt S0 S1) X.b0.nd X.b1.nd (ly 1) (λp hp q hq g1 g2=>X.injL p hp q hq (wk p g1) (wk q g2)) (λp hp q hq g1 g2=>X.injR p hp q hq (wk p g1) (wk q g2))
   (λx hx p hp h=>by have:=(mr x).mp hx;have:=farL p hp h;lia) (λx hx p hp h=>by have:=(mr x).mp hx;have:=farR p hp h;lia) (λp hp q hq _ _=>by have:=X.cL hp;have:=X.cR hq;lia) (λx _=>X.ring_open h1 h2 x) (λx hx=>by have:=(mr x).mp hx;unfold dt;lia) (λp hp _=>by have:=X.cL hp;unfold dt;lia) (λp hp _=>by have:=X.cR hp;unfold dt;lia)
  rw[this,List.length_range'];rfl
end
end Rm
namespace Rm
open PySem L2
section
def Nb(L:gs)(p:Nat):Prop:=1<=p/\p<L.length/\L[p-1]?≠L[p]?
instance (L:gs) (p:Nat):Decidable (Nb L p):=by unfold Nb;infer_instance
end
end Rm
namespace Rm
open PySem L2 PyProof.Rows
theorem Fq(c:Nat):∀l:im,0<=PyProof.Rows.cnt c l
 | []=>by rw[PyProof.Rows.cnt_nil];lia
 | n::r=>by
  rw[PyProof.Rows.cnt_cons];have:=Fq c r
  split<;>lia
theorem IJ{a b:im}{x y:im}(ha:10∉a)(hb:10∉b):a++10::x=b++10::y->a=b/\x=y:=by
 induction a generalizing b with
 | nil=>
  intro h;cases b with
  | nil=>exact⟨rfl,by simpa using h⟩
  | cons c b=>simp at h;exact absurd h.1 (λe=>hb (by rw[<-e];simp))
 | cons c a ih=>
  intro h;cases b with
  | nil=>simp at h;exact absurd h.1 (λe=>ha (by rw[e];simp))
  | cons d b=>
   simp only[gF,oM] at h;obtain⟨h1,h2⟩:=ih (λz=>ha (aJ _ z)) (λz=>hb (aJ _ z)) h.2;exact⟨by rw[h.1,h1],h2⟩
theorem uI{rs:List (im)}{r:im}(hr:10∉r)(hne:rs≠[])(h:fg rs=r):rs=[r]:=by
 match rs,hne,h with
 | [s],_,h=>rw[show fg [s]=s from rfl] at h;rw[h]
 | s::t::us,_,h=>
  exfalso;have h:s++10::fg (t::us)=r:=h;exact hr (by rw[<-h];simp)
theorem vX:∀{rs ss:List (im)},rs≠[]->ss≠[]->(∀r∈rs,10∉r)->(∀s∈ss,10∉s)->fg rs=fg ss->rs=ss
 | [],_,h,_,_,_,_=>absurd rfl h
 | [r],ss,_,hs,fr,fs,e=>(uI (fr r (by simp)) hs (show fg ss=r from e.symm)).symm
 | r::r2::rs,[],_,hs,_,_,_=>absurd rfl hs
 | r::r2::rs,[s],h,_,fr,fs,e=>uI (fs s (by simp)) h e
 | r::r2::rs,s::s2::ss,_,_,fr,fs,e=>by
  have e:r++10::fg (r2::rs)=s++10::fg (s2::ss):=e;obtain⟨h1,h2⟩:=IJ (fr r (by simp)) (fs s (by simp)) e;rw[h1,vX (by simp) (by simp) (λx hx=>fr x (aJ _ hx)) (λx hx=>fs x (aJ _ hx)) h2]
theorem xG:∀(rs:List (im)),Str.join ⟨#[10]⟩ (rs.map tx)=tx (fg rs)
 | []=>rfl
 | [r]=>rfl
 | r::s::rs=>by
  show tx r++(⟨#[10]⟩:Str)++Str.join ⟨#[10]⟩ ((s::rs).map tx)=_;rw[xG (s::rs),show (⟨#[10]⟩:Str)=tx [10] from rfl,D9,D9];show tx (r++[10]++fg (s::rs))=tx (r++10::fg (s::rs));simp
theorem Do {rs:List (im)} (hne:rs≠[]) (fr:∀r∈rs,10∉r):Txt.split (tx (fg rs)) (Str.ofString "\n")=rs.map tx:=by
 have e10:Str.ofString "\n"=⟨#[10]⟩:=by symm
 rw[e10];generalize hz:Txt.split (tx (fg rs)) ⟨#[10]⟩=zs;have ez:zs=(zs.map λz=>z.cps.toList).map tx:=by
  rw[bn]
  conv=>lhs;rw[<-List.map_id zs]
  exact cP λz _=>by obtain⟨c⟩:=z;simp[tx]
 have hj:=StrLaws.join_split (tx (fg rs)) ⟨#[10]⟩;rw[hz,ez,xG] at hj;have hf:=StrLaws.split_free (tx (fg rs)) 10;rw[hz] at hf;have hzne:zs≠[]:=λe=>by
  have:=PyProof.Rows.split_len (tx (fg rs)) 10;rw[hz,e] at this;have nn:=Fq 10 (tx (fg rs)).cps.toList;have:((([]:List Str).length:Nat):Int)=0:=rfl;lia
 rw[ez];congr 1;refine vX (by simpa using hzne) hne (λr hr=>?_) fr (D7 hj);obtain⟨z,hz',rfl⟩:=aU.mp hr;exact hf z hz'
theorem EF{n:Nat}{L R:List Bw}(i:Nat):10∉i8 n L R i:=λh=>by
 unfold i8 at h;obtain⟨x,_,e⟩:=aU.mp h;unfold signG at e
 split at e
 .split at e
  .lia
  .split at e<;>lia
 .lia
def sA(n:Nat)(L R:List Bw):List (im):=(List.range (2*n+5)).map (i8 n L R)
theorem EE(n:Nat)(L R:List Bw):sA n L R≠[]:=λe=>by
 have:=congrArg List.length e;simp[sA] at this
theorem zF{n:Nat}{L R:List Bw}:∀r∈sA n L R,10∉r:=λr hr=>by
 obtain⟨i,_,rfl⟩:=aU.mp hr;exact EF i
theorem vW:∀(rs:List (im)),(∀r∈rs,r.length<=100)->(fg rs).length<=rs.length*101
 | [],_=>by simp[fg]
 | [r],h=>by have:=h r (by simp);simp[fg];lia
 | r::s::rs,h=>by
  have h1:=h r (by simp);have h2:=vW (s::rs) λx hx=>h x (aJ _ hx);show (r++10::fg (s::rs)).length<=_;simp only[aj,bL] at h2 |-;lia
section
variable {n:Nat}{S0 S1:List Bw}
theorem Dy{i x:Nat}:signG n S0 S1 i x=118<->dz n S0 S1 i x=true/\i=1:=by
 unfold signG;cases dz n S0 S1 i x with
 | false=>simp
 | true=>
  simp only[U7,true_and];by_cases h1:i=1
  .simp[h1]
  .rw[U1 h1];by_cases h2:i=2*n+3
   .simp[h1,h2]
   .simp[h1,h2]
theorem Jn{i x:Nat}:signG n S0 S1 i x=64<->dz n S0 S1 i x=true/\i=2*n+3:=by
 unfold signG;cases dz n S0 S1 i x with
 | false=>simp
 | true=>
  simp only[U7,true_and];by_cases h1:i=1
  .rw[U2 h1];constructor
   .intro z;cases z
   .intro z;lia
  .rw[U1 h1];by_cases h2:i=2*n+3
   .simp[h2]
   .simp[h2]
theorem wC{i x:Nat}:signG n S0 S1 i x=35<->dz n S0 S1 i x=false:=by
 unfold signG;cases dz n S0 S1 i x with
 | false=>simp
 | true=>
  simp only[U7];by_cases h1:i=1
  .simp[h1]
  .rw[U1 h1];by_cases h2:i=2*n+3<;>simp[h2]
theorem Gm(i x:Nat):signG n S0 S1 i x=118\/signG n S0 S1 i x=64\/signG n S0 S1 i x=46\/signG n S0 S1 i x=35:=by
 unfold signG
 split
 .split
  .exact .inl rfl
  .split
   .exact .inr (.inl rfl)
   .exact .inr (.inr (.inl rfl))
 .exact .inr (.inr (.inr rfl))
theorem sW(i:Nat):(i8 n S0 S1 i).length=dt S0 S1:=by unfold i8;rw[aA,dJ]
theorem Gw{i x:Nat}(h:x<dt S0 S1):(i8 n S0 S1 i)[x]? = some (signG n S0 S1 i x):=by
 unfold i8;rw[aR,eZ h];rfl
theorem u6.edge(X:u6 n S0 S1)(bd:∀p,p∈S0\/p∈S1->0<=p.1/\p.2<=(n:Int)+1){i x:Nat}(h:i=0\/2*n+4<=i\/x=0\/dt S0 S1<=x+1):dz n S0 S1 i x=false:=by
 cases e:dz n S0 S1 i x with
 | false=>rfl
 | true=>
  exfalso;unfold dz wO BC at e;rw[dS,dS,cM,cM] at e;simp only[ao,U3,yB] at e;rcases e with ⟨p,hp,⟨h1,h2⟩,rfl⟩ | ⟨p,hp,⟨h1,h2⟩,rfl⟩ | ⟨⟨h1,h2,h3⟩,h4,h5⟩
  .have:=bd p (.inl hp);have:=X.cL hp;have:dt S0 S1=2*(nX S0+nX S1)+1:=rfl;lia
  .have:=bd p (.inr hp);have:=X.cR hp;have:dt S0 S1=2*(nX S0+nX S1)+1:=rfl;lia
  .have R:=X.run (r:=(i - 1) / 2) (by lia) (by lia);have:=R.oa;have:=R.oz;have:=R.w;have:dt S0 S1=2*(nX S0+nX S1)+1:=rfl;lia
end
theorem Km{α:Type}{xs:List α}{v:α}(e:xs[xs.length - 1]? = some v):oR xs (-1)=some v:=by
 have hne:xs≠[]:=λz=>by rw[z] at e;cases e
 have h:=List.dropLast_concat_getLast hne;have h2:xs.getLast hne=v:=by
  rw[List.getLast_eq_getElem];exact(aH.mp e).2
 rw[h2] at h;rw[<-h];exact L2.mq _ _
abbrev p8 (n:Nat) (S0 S1:List Bw):List V:=(((List.range (2*n+5)).map (i8 n S0 S1)).map tx).map V.str
theorem FG{n:Nat}{S0 S1:List Bw}{i:Nat}(h:i<2*n+5):oR (p8 n S0 S1) (i:Int)=some (.str (tx (i8 n S0 S1 i))):=by
 refine df ?_;rw[aR,aR,aR,eZ h];rfl
def rN(ns:gs)(k:Nat):Nat:=(bX ns k).toNat
def lN(ns:gs)(k:Nat):Nat:=2*rN ns k+1
def cN(b:Bool)(ns:gs)(k:Nat):Nat:=if b ^^ odd k then qD (c7 b ns false) (c7 b ns true) (cF ns k) else qX (c7 b ns false) (cF ns k)
def mO(ns:gs)(k i:Nat):Prop:=min (lN ns k) (lN ns (k+1))<=i/\i<=max (lN ns k) (lN ns (k+1))
section
variable {b:Bool}{ns:gs}
theorem rQ(O:fO ns){k:Nat}(h:k<=ns.length+1):((rN ns k:Nat):Int)=bX ns k:=by
 have:=O.row_in (i:=k) (by lia);unfold rN;lia
theorem mG(O:fO ns){j k:Nat}(hj:j<=ns.length+1)(hk:k<=ns.length+1)(e:rN ns j=rN ns k):j=k:=by
 refine O.row_inj (by lia) (by lia) ?_;rw[<-rQ O hj,<-rQ O hk,e]
theorem MA(O:fO ns){k:Nat}(h:k<=ns.length+1):rN ns k<=ns.length+1:=by
 have h1:=O.row_in (i:=k) (by lia);have h2:=rQ O h;lia
theorem EM(O:fO ns){k:Nat}(h1:1<=k)(h2:k<=ns.length):1<=rN ns k/\rN ns k<=ns.length:=by
 have a:=MA O (k:=k) (by lia);have e0:rN ns 0=0:=rfl;have eL:rN ns (ns.length+1)=ns.length+1:=by unfold rN;rw[ir];lia
 have b0:rN ns k≠0:=λz=>by have:=mG O (j:=k) (k:=0) (by lia) (by lia) (z.trans e0.symm);lia
 have b1:rN ns k≠ns.length+1:=λz=>by have:=mG O (j:=k) (k:=ns.length+1) (by lia) (by lia) (z.trans eL.symm);lia
 lia
theorem MB(O:fO ns){r:Nat}(h1:1<=r)(h2:r<=ns.length):∃k,1<=k/\k<=ns.length/\rN ns k=r:=by
 obtain⟨i,hi⟩:=d9 (O.mem.mpr ⟨(by lia:(1:Int)<=r),by lia⟩);have il:=(aH.mp hi).1;refine⟨i+1,by lia,by lia,?_⟩;unfold rN;rw[pR hi];lia
theorem jj(k:Nat)(h:k<=ns.length):cF ns k∈c7 b ns (b ^^ odd k):=og (b:=b) (by lia) (oy b k)
theorem Ac(O:fO ns){u:Bool}{p:Bw}(hp:p∈c7 b ns u):∃k,k<=ns.length/\(b ^^ odd k)=u/\p=cF ns k:=by
 obtain⟨k,hk,ho,rfl⟩:=gj hp;refine⟨k,by lia,?_,rfl⟩;unfold cX at ho;simpa using ho
theorem j6(O:fO ns){k:Nat}(h:k<=ns.length):(cF ns k).1=((min (rN ns k) (rN ns (k+1)):Nat):Int)/\(cF ns k).2=((max (rN ns k) (rN ns (k+1)):Nat):Int):=by
 have h1:=rQ O (k:=k) (by lia);have h2:=rQ O (k:=k+1) (by lia);unfold cF;constructor
 .show min _ _=_;lia
 .show max _ _=_;lia
theorem wW(O:fO ns){k i:Nat}(h:k<=ns.length):yB (cF ns k) i=true<->mO ns k i:=by
 obtain⟨h1,h2⟩:=j6 O h;unfold yB mO lN;simp only[ao,U3];rw[h1,h2];lia
theorem Gj(O:fO ns){j k:Nat}(hj:j<=ns.length)(hk:k<=ns.length)(hs:(b ^^ odd j)=(b ^^ odd k))(e:cF ns j=cF ns k):j=k:=by
 obtain⟨a1,a2⟩:=j6 O hj;obtain⟨c1,c2⟩:=j6 O hk;rw[e,c1] at a1;rw[e,c2] at a2;have e1:min (rN ns j) (rN ns (j+1))=min (rN ns k) (rN ns (k+1)):=by lia
 have e2:max (rN ns j) (rN ns (j+1))=max (rN ns k) (rN ns (k+1)):=by lia
 have i1:=mG O (j:=j) (k:=k) (by lia) (by lia);have i2:=mG O (j:=j) (k:=k+1) (by lia) (by lia);have i3:=mG O (j:=j+1) (k:=k) (by lia) (by lia);have i4:=mG O (j:=j+1) (k:=k+1) (by lia) (by lia);have par:odd j=odd k:=by revert hs;cases b<;>cases odd j<;>cases odd k<;>decide
 have:rN ns j=rN ns k\/rN ns j=rN ns (k+1):=by lia
 rcases this with z | z
 .exact i1 z
 .have hjk:=i2 z;have z2:rN ns (j+1)=rN ns k:=by lia
  have:=i3 z2;lia
theorem IC(O:fO ns)(nc:NC b ns){j k i:Nat}(hj:j<=ns.length)(hk:k<=ns.length)(h1:mO ns j i)(h2:mO ns k i)(e:cN b ns j=cN b ns k):j=k:=by
 have X:=u6.of O nc;have mj:=jj (b:=b) j hj;have mk:=jj (b:=b) k hk;obtain⟨a1,a2⟩:=j6 O hj;obtain⟨c1,c2⟩:=j6 O hk;have hs:(b ^^ odd j)=(b ^^ odd k):=by
  unfold cN at e;cases hu:(b ^^ odd j)<;>cases hv:(b ^^ odd k)
  .rfl
  .rw[hu] at mj e;rw[hv] at mk e;have:=X.cL mj;have:=X.cR mk;simp only[bR,U8,U7] at e;lia
  .rw[hu] at mj e;rw[hv] at mk e;have:=X.cR mj;have:=X.cL mk;simp only[bR,U8,U7] at e;lia
  .rfl
 refine Gj O hj hk hs ?_;rcases Classical.em (cF ns j=cF ns k) with z | ne
 .exact z
 .exfalso;rw[hs] at mj;have B:AL (c7 b ns (b ^^ odd k)):=jG O _;have ncs:∀p∈c7 b ns (b ^^ odd k),∀q∈c7 b ns (b ^^ odd k),ci p q=false:=nc (b ^^ odd k);have ht:hF (c7 b ns (b ^^ odd k)) (cF ns j)≠hF (c7 b ns (b ^^ odd k)) (cF ns k):=by
   have h1:2*(cF ns j).1+1<=(i:Int)/\(i:Int)<=2*(cF ns j).2+1:=by unfold mO lN at h1;clear h2 c1 c2 e;lia
   have h2:2*(cF ns k).1+1<=(i:Int)/\(i:Int)<=2*(cF ns k).2+1:=by unfold mO lN at h2;clear h1 a1 a2 e;lia
   clear a1 a2 c1 c2 e;obtain⟨r,hr⟩:∃r,i=2*r\/i=2*r+1:=⟨i / 2,by lia⟩
   rcases hr with hr | hr
   .exact BP B ncs mj mk ne (r:=(r:Int) - 1) (by lia) (by lia) (by lia) (by lia)
   .by_cases ej:(cF ns j).1=(r:Int)\/(cF ns j).2=(r:Int)
    .by_cases ek:(cF ns k).1=(r:Int)\/(cF ns k).2=(r:Int)
     .exact absurd (B.one _ mj _ mk r ej ek) ne
     .have:=ii B.lt (B.lt _ mk) mj (pT B ncs mj mk ej (by lia) (by lia));lia
    .by_cases ek:(cF ns k).1=(r:Int)\/(cF ns k).2=(r:Int)
     .have:=ii B.lt (B.lt _ mj) mk (pT B ncs mk mj ek (by lia) (by lia));lia
     .exact BP B ncs mj mk ne (r:=(r:Int)) (by lia) (by lia) (by lia) (by lia)
  have g1:=lP mj;have g2:=lP mk;have p1:=yG B mj;have p2:=yG B mk;unfold cN at e;rw[hs] at e;cases hv:(b ^^ odd k)
  .rw[hv] at e ht g1 g2;simp only[bR,U8] at e;unfold qX at e;lia
  .rw[hv] at e ht p1 p2;simp only[U7] at e;unfold qD at e;lia
theorem Fy(O:fO ns)(nc:NC b ns){k:Nat}(h:k<=ns.length)(hs:(b ^^ odd k)=false):cN b ns k % 2=1/\cN b ns k+1<=2*nX (c7 b ns false):=by
 have X:=u6.of O nc;have m:=jj (b:=b) k h;rw[hs] at m;have:=X.cL m;unfold cN;rw[hs];exact this
theorem Fx(O:fO ns)(nc:NC b ns){k:Nat}(h:k<=ns.length)(hs:(b ^^ odd k)=true):cN b ns k % 2=1/\2*nX (c7 b ns false)+1<=cN b ns k/\cN b ns k+1<=2*(nX (c7 b ns false)+nX (c7 b ns true)):=by
 have X:=u6.of O nc;have m:=jj (b:=b) k h;rw[hs] at m;have:=X.cR m;unfold cN;rw[hs];exact this
theorem AE(O:fO ns)(nc:NC b ns){k:Nat}(h:k<=ns.length):cN b ns k % 2=1:=by
 cases hs:(b ^^ odd k)
 .exact(Fy O nc h hs).1
 .exact(Fx O nc h hs).1
theorem vC(k:Nat):(b ^^ odd (k+1))=!(b ^^ odd k):=by
 have:odd (k+1)=!odd k:=by unfold odd;rcases fJ k with h | h<;>simp[h,jw]
 rw[this];cases b<;>cases odd k<;>rfl
theorem ww(O:fO ns){k:Nat}(h:k<=ns.length):((cF ns k).1=(rN ns k:Int)\/(cF ns k).2=(rN ns k:Int))/\((cF ns k).1=(rN ns (k+1):Int)\/(cF ns k).2=(rN ns (k+1):Int)):=by
 obtain⟨h1,h2⟩:=j6 O h;rw[h1,h2];lia
theorem tV(O:fO ns)(nc:NC b ns){k:Nat}(h:k+1<=ns.length):pj (c7 b ns false) (rN ns (k+1))=min (cN b ns k) (cN b ns (k+1))/\sB (c7 b ns false) (c7 b ns true) (rN ns (k+1))=max (cN b ns k) (cN b ns (k+1)):=by
 have e1:=(ww O (k:=k) (by lia)).2;have e2:=(ww O (k:=k+1) (by lia)).1;have m1:=jj (b:=b) (ns:=ns) k (by lia);have m2:=jj (b:=b) (ns:=ns) (k+1) (by lia);have sn:=vC (b:=b) k;cases hs:(b ^^ odd k)
 .have hs2:(b ^^ odd (k+1))=true:=by rw[sn,hs];rfl
  have a1:=Fy O nc (k:=k) (by lia) hs;have a2:=Fx O nc (k:=k+1) (by lia) hs2;rw[hs] at m1;rw[hs2] at m2;have k1:pj (c7 b ns false) (rN ns (k+1))=cN b ns k:=by unfold pj cN;rw[ft (jG O false) m1 e1,hs];rfl
  have k2:sB (c7 b ns false) (c7 b ns true) (rN ns (k+1))=cN b ns (k+1):=by unfold sB cN;rw[ft (jG O true) m2 e2,hs2];rfl
  lia
 .have hs2:(b ^^ odd (k+1))=false:=by rw[sn,hs];rfl
  have a1:=Fx O nc (k:=k) (by lia) hs;have a2:=Fy O nc (k:=k+1) (by lia) hs2;rw[hs] at m1;rw[hs2] at m2;have k1:pj (c7 b ns false) (rN ns (k+1))=cN b ns (k+1):=by unfold pj cN;rw[ft (jG O false) m2 e2,hs2];rfl
  have k2:sB (c7 b ns false) (c7 b ns true) (rN ns (k+1))=cN b ns k:=by unfold sB cN;rw[ft (jG O true) m1 e1,hs];rfl
  lia
def sf(b:Bool)(ns:gs)(i x:Nat):Bool:=(~~~dz) i x
def GC(b:Bool)(ns:gs)(k i x:Nat):Prop:=i=lN ns (k+1)/\min (cN b ns k) (cN b ns (k+1))<=x/\x<=max (cN b ns k) (cN b ns (k+1))
theorem t8(O:fO ns)(nc:NC b ns){i x:Nat}:sf b ns i x=true<->(∃k,k<=ns.length/\mO ns k i/\x=cN b ns k)\/∃k,k+1<=ns.length/\GC b ns k i x:=by
 unfold sf dz wO BC;rw[dS,dS,cM,cM];constructor
 .rintro (⟨p,hp,h⟩ | ⟨p,hp,h⟩ | h)
  .obtain⟨k,hk,hs,rfl⟩:=Ac O hp;rw[ao,U3] at h;exact .inl ⟨k,hk,(wW O hk).mp h.1,by rw[h.2];unfold cN;rw[hs];rfl⟩
  .obtain⟨k,hk,hs,rfl⟩:=Ac O hp;rw[ao,U3] at h;exact .inl ⟨k,hk,(wW O hk).mp h.1,by rw[h.2];unfold cN;rw[hs];rfl⟩
  .simp only[ao,U3] at h;obtain⟨⟨h1,h2,h3⟩,h4,h5⟩:=h;obtain⟨k,k1,k2,e⟩:=MB O (r:=(i - 1) / 2) (by lia) (by lia);obtain⟨k',rfl⟩:∃k',k=k'+1:=⟨k - 1,by lia⟩
   obtain⟨r1,r2⟩:=tV O nc (k:=k') (by lia);rw[e] at r1 r2;exact .inr ⟨k',by lia,by unfold lN;lia,by rw[<-r1];exact h4,by rw[<-r2];exact h5⟩
 .rintro (⟨k,hk,hc,rfl⟩ | ⟨k,hk,e,h4,h5⟩)
  .have m:=jj (b:=b) k hk;have hi:=(wW O hk).mpr hc;cases hs:(b ^^ odd k)
   .rw[hs] at m;exact .inl ⟨_,m,by rw[hi,eQ,U3];unfold cN;rw[hs];rfl⟩
   .rw[hs] at m;exact .inr (.inl ⟨_,m,by rw[hi,eQ,U3];unfold cN;rw[hs];rfl⟩)
  .obtain⟨r1,r2⟩:=tV O nc hk;have rm:=EM O (k:=k+1) (by lia) hk;refine .inr (.inr ?_);simp only[ao,U3];unfold lN at e;have er:(i - 1) / 2=rN ns (k+1):=by lia
   rw[er,r1,r2];exact⟨⟨by lia,by lia,by lia⟩,h4,h5⟩
theorem E5(O:fO ns)(nc:NC b ns){j k:Nat}(hj:j<=ns.length)(hk:k+1<=ns.length)(hc:mO ns j (lN ns (k+1)))(n1:j≠k)(n2:j≠k+1):cN b ns j<min (cN b ns k) (cN b ns (k+1))\/max (cN b ns k) (cN b ns (k+1))<cN b ns j:=by
 have X:=u6.of O nc;obtain⟨r1,r2⟩:=tV O nc hk;obtain⟨a1,a2⟩:=j6 O hj;have i1:=mG O (j:=j) (k:=k+1) (by lia) (by lia);have i2:=mG O (j:=j+1) (k:=k+1) (by lia) (by lia);have m:=jj (b:=b) j hj;unfold mO lN at hc;have s1:(cF ns j).1<(rN ns (k+1):Int):=by rw[a1];lia
 have s2:(rN ns (k+1):Int)<(cF ns j).2:=by rw[a2];lia
 have rm:=EM O (k:=k+1) (by lia) hk;rw[<-r1,<-r2];cases hs:(b ^^ odd j)
 .left;rw[hs] at m;obtain⟨p0,hp0,e0⟩:=X.h0 _ rm.1 rm.2;have h3:=ii X.b0.lt (X.b0.lt _ m) hp0 (pT X.b0 X.c0 hp0 m e0 s1 s2);have:=lP m;unfold pj cN;rw[ft X.b0 hp0 e0,hs];show qX _ _<qX _ _;unfold qX;lia
 .right;rw[hs] at m;obtain⟨p1,hp1,e1⟩:=X.h1 _ rm.1 rm.2;have h3:=ii X.b1.lt (X.b1.lt _ m) hp1 (pT X.b1 X.c1 hp1 m e1 s1 s2);have:=yG X.b1 hp1;unfold sB cN;rw[ft X.b1 hp1 e1,hs];show qD _ _ _<qD _ _ _;unfold qD;lia
end
abbrev nO:=Nat×Nat
def GP(c d:nO):Prop:=(c.1=d.1/\(c.2=d.2+1\/d.2=c.2+1))\/(c.2=d.2/\(c.1=d.1+1\/d.1=c.1+1))
section
variable {b:Bool}{ns:gs}
theorem yU{k e:Nat}(h:mO ns k e)(he:e % 2=0):mO ns k (e - 1)/\mO ns k (e+1):=by
 unfold mO lN at *;lia
theorem yd(O:fO ns)(nc:NC b ns){k i e:Nat}(hk:k+1<=ns.length)(h:GC b ns k i e)(he:e % 2=0):GC b ns k i (e - 1)/\GC b ns k i (e+1):=by
 have o1:=AE O nc (k:=k) (by lia);have o2:=AE O nc (k:=k+1) hk;unfold GC at *;lia
theorem IL(O:fO ns)(nc:NC b ns){c d:nO}(hc:sf b ns c.1 c.2=true)(hd:sf b ns d.1 d.2=true)(h:GP c d):(∃k,k<=ns.length/\c.2=cN b ns k/\d.2=cN b ns k/\mO ns k c.1/\mO ns k d.1)\/∃k,k+1<=ns.length/\GC b ns k c.1 c.2/\GC b ns k d.1 d.2:=by
 have ev:∀{i x:Nat},sf b ns i x=true->i % 2=0->∃k,k<=ns.length/\mO ns k i/\x=cN b ns k:=fun {i x} ho he=>by
  rcases(t8 O nc).mp ho with z | ⟨k,_,e,_⟩
  .exact z
  .unfold lN at e;lia
 have ec:∀{i x:Nat},sf b ns i x=true->x % 2=0->∃k,k+1<=ns.length/\GC b ns k i x:=fun {i x} ho he=>by
  rcases(t8 O nc).mp ho with ⟨k,hk,_,e⟩ | z
  .have:=AE O nc hk;lia
  .exact z
 rcases h with ⟨e,h⟩ | ⟨e,h⟩
 .right;by_cases z:c.2 % 2=0
  .obtain⟨k,hk,ha⟩:=ec hc z;obtain⟨w1,w2⟩:=yd O nc hk ha z;refine⟨k,hk,ha,?_⟩;rw[<-e];rcases h with h | h
   .rw[show d.2=c.2 - 1 by lia];exact w1
   .rw[h];exact w2
  .obtain⟨k,hk,ha⟩:=ec hd (by lia);obtain⟨w1,w2⟩:=yd O nc hk ha (by lia);refine⟨k,hk,?_,ha⟩;rw[e];rcases h with h | h
   .rw[h];exact w2
   .rw[show c.2=d.2 - 1 by lia];exact w1
 .left;by_cases z:c.1 % 2=0
  .obtain⟨k,hk,ha,ek⟩:=ev hc z;obtain⟨w1,w2⟩:=yU ha z;refine⟨k,hk,ek,e▸ek,ha,?_⟩;rcases h with h | h
   .rw[show d.1=c.1 - 1 by lia];exact w1
   .rw[h];exact w2
  .obtain⟨k,hk,ha,ek⟩:=ev hd (by lia);obtain⟨w1,w2⟩:=yU ha (by lia);refine⟨k,hk,e.trans ek,ek,?_,ha⟩;rcases h with h | h
   .rw[h];exact w2
   .rw[show c.1=d.1 - 1 by lia];exact w1
end
def sg(a z:Nat):im:=if a<=z then List.range' a (z-a+1) else (List.range' z (a-z+1)).reverse
theorem gX{a z i:Nat}:i∈sg a z<->min a z<=i/\i<=max a z:=by
 unfold sg
 split
 .rw[kJ];constructor
  .rintro⟨j,hj,rfl⟩;lia
  .rintro⟨h1,h2⟩;exact⟨i-a,by lia,by lia⟩
 .rw[List.mem_reverse,kJ];constructor
  .rintro⟨j,hj,rfl⟩;lia
  .rintro⟨h1,h2⟩;exact⟨i-z,by lia,by lia⟩
theorem tN(a z:Nat):(sg a z).Nodup:=by
 unfold sg
 split
 .exact ly 1
 .exact(jL _).nodup_iff.mpr (ly 1)
theorem wD(a:Nat):sg a a=[a]:=by unfold sg;rw[U2 (aI _),ni];rfl
theorem xJ{a z:Nat}(h:a<z):sg a z=a::sg (a+1) z:=by
 unfold sg;rw[U2 (by lia),U2 (by lia),List.range'_succ,show z-a=z-(a+1)+1 by lia]
theorem xK{a z:Nat}(h:z<a):sg a z=a::sg (a - 1) z:=by
 have e:List.range' z (a-z+1)=List.range' z (a-z)++[a]:=by
  rw[List.range'_concat];congr 2;lia
 unfold sg;rw[U1 (by lia),e,kU];show a::(List.range' z (a-z)).reverse=_;congr 1;by_cases q:a - 1<=z
 .rw[U2 q,show a-z=1 by lia,show a - 1=z by lia,ni];rfl
 .rw[U1 q,show a - 1-z+1=a-z by lia]
def Cs{α:Type}(l:List α)(x y:α):Prop:=∃A B,l=A++x::y::B
theorem Cs.cons{α:Type}{l:List α}{x y z:α}(h:Cs l x y):Cs (z::l) x y:=by
 obtain⟨A,B,rfl⟩:=h;exact⟨z::A,B,rfl⟩
theorem Cs.left{α:Type}{l m:List α}{x y:α}(h:Cs l x y):Cs (l++m) x y:=by
 obtain⟨A,B,rfl⟩:=h;exact⟨A,B++m,by simp⟩
theorem Cs.right{α:Type}{l m:List α}{x y:α}(h:Cs m x y):Cs (l++m) x y:=by
 obtain⟨A,B,rfl⟩:=h;exact⟨l++A,B,by simp⟩
theorem Cs.map{α β:Type}(f:α->β){l:List α}{x y:α}(h:Cs l x y):Cs (l.map f) (f x) (f y):=by
 obtain⟨A,B,rfl⟩:=h;exact⟨A.map f,B.map f,by simp⟩
theorem nQ(a z:Nat):∃l,sg a z=a::l:=by
 rcases Nat.lt_trichotomy a z with h | h | h
 .exact⟨_,xJ h⟩
 .subst h;exact⟨_,wD a⟩
 .exact⟨_,xK h⟩
theorem Ao:∀(m a z i:Nat),z-a+(a-z)=m->i∈sg a z->i+1∈sg a z->Cs (sg a z) i (i+1)\/Cs (sg a z) (i+1) i:=by
 intro m
 induction m with
 | zero=>
  intro a z i hm h1 h2;have:=gX.mp h1;have:=gX.mp h2;lia
 | succ m ih=>
  intro a z i hm h1 h2;have g1:=gX.mp h1;have g2:=gX.mp h2;rcases gN a z with h | h
  .have g:a<=i/\i+1<=z:=by lia
   have mu:∀j,a+1<=j->j<=z->j∈sg (a+1) z:=λj p q=>gX.mpr ⟨bN (kH _ _) p,bN q (Nat.le_max_right _ _)⟩;clear g1 g2 h1 h2;rw[xJ h];by_cases e:i=a
   .subst e;obtain⟨l,hl⟩:=nQ (i+1) z;rw[hl];exact .inl ⟨[],l,rfl⟩
   .exact(ih (a+1) z i (by lia) (mu _ (by lia) (by lia)) (mu _ (by lia) g.2)).imp Cs.cons Cs.cons
  .have h:z<a:=by lia
   have g:z<=i/\i+1<=a:=by lia
   have mu:∀j,z<=j->j<=a - 1->j∈sg (a - 1) z:=λj p q=>gX.mpr ⟨bN (Nat.min_le_right _ _) p,bN q (Nat.le_max_left _ _)⟩;clear g1 g2 h1 h2;rw[xK h];by_cases e:i+1=a
   .subst e;obtain⟨l,hl⟩:=nQ i z;rw[show i+1 - 1=i by lia,hl];exact .inr ⟨[],l,rfl⟩
   .exact(ih (a - 1) z i (by lia) (mu _ g.1 (by lia)) (mu _ (by lia) (by lia))).imp Cs.cons Cs.cons
theorem An:∀(m a z:Nat),z-a+(a-z)=m->∃l,sg a z=l++[z]:=by
 intro m
 induction m with
 | zero=>
  intro a z hm;have:a=z:=by lia
  subst this;exact⟨[],wD a⟩
 | succ m ih=>
  intro a z hm;rcases gN a z with h | h
  .obtain⟨l,hl⟩:=ih (a+1) z (by lia);exact⟨a::l,by rw[xJ h,hl];rfl⟩
  .obtain⟨l,hl⟩:=ih (a - 1) z (by lia);exact⟨a::l,by rw[xK (by lia),hl];rfl⟩
theorem Gn{a z:Nat}(h:a≠z):∃l,sg a z=a::(l++[z])/\l=((sg a z).drop 1).dropLast:=by
 obtain⟨l,hl⟩:=nQ a z;obtain⟨m,hm⟩:=An _ a z rfl;rw[hl] at hm;cases m with
 | nil=>
  have:a=z:=by simpa using congrArg List.head? hm
  exact absurd this h
 | cons y m=>
  have e:l=m++[z]:=by simpa using congrArg List.tail hm
  refine⟨m,by rw[hl,e],?_⟩;rw[hl,e];simp
section
variable {b:Bool}{ns:gs}
def vS(b:Bool)(ns:gs)(k:Nat):List nO:=(sg (lN ns k) (lN ns (k+1))).map λi=>(i,cN b ns k)
def rS(b:Bool)(ns:gs)(k:Nat):List nO:=(((sg (cN b ns k) (cN b ns (k+1))).drop 1).dropLast).map λx=>(lN ns (k+1),x)
def wS(b:Bool)(ns:gs):Nat->List nO
 | 0=>vS b ns 0
 | k+1=>wS b ns k++(rS b ns k++vS b ns (k+1))
theorem qM{k:Nat}{c:nO}:c∈vS b ns k<->mO ns k c.1/\c.2=cN b ns k:=by
 unfold vS;rw[aU];constructor
 .rintro⟨i,hi,rfl⟩;exact⟨gX.mp hi,rfl⟩
 .rintro⟨h1,h2⟩;exact⟨c.1,gX.mpr h1,by rw[<-h2]⟩
theorem JN(O:fO ns)(nc:NC b ns){k:Nat}(h:k+1<=ns.length):cN b ns k≠cN b ns (k+1):=λe=>by
 have:=vC (b:=b) k;cases hs:(b ^^ odd k)
 .have h2:(b ^^ odd (k+1))=true:=by rw[this,hs];rfl
  have:=Fy O nc (k:=k) (by lia) hs;have:=Fx O nc (k:=k+1) h h2;lia
 .have h2:(b ^^ odd (k+1))=false:=by rw[this,hs];rfl
  have:=Fx O nc (k:=k) (by lia) hs;have:=Fy O nc (k:=k+1) h h2;lia
theorem j9(O:fO ns)(nc:NC b ns){k:Nat}(h:k+1<=ns.length):(sg (cN b ns k) (cN b ns (k+1))).map (λx=>(lN ns (k+1),x))=(lN ns (k+1),cN b ns k)::(rS b ns k++[(lN ns (k+1),cN b ns (k+1))]):=by
 obtain⟨l,h1,h2⟩:=Gn (JN O nc h);unfold rS;rw[<-h2,h1];simp
theorem uE(O:fO ns)(nc:NC b ns){k:Nat}(h:k+1<=ns.length){c:nO}:c∈rS b ns k<->GC b ns k c.1 c.2/\c.2≠cN b ns k/\c.2≠cN b ns (k+1):=by
 have nd:((sg (cN b ns k) (cN b ns (k+1))).map (λx=>(lN ns (k+1),x))).Nodup:=by
  unfold List.Nodup;rw[cW];exact(tN _ _).imp λhne e=>hne (congrArg Prod.snd e)
 have mm:c∈(sg (cN b ns k) (cN b ns (k+1))).map (λx=>(lN ns (k+1),x))<->GC b ns k c.1 c.2:=by
  rw[aU];unfold GC;constructor
  .rintro⟨x,hx,rfl⟩;exact⟨rfl,gX.mp hx⟩
  .rintro⟨h1,h2⟩;exact⟨c.2,gX.mpr h2,by rw[<-h1]⟩
 rw[<-mm];rw[j9 O nc h] at nd |-;rw[bW] at nd;obtain⟨n1,n2⟩:=nd;rw[ck] at n2;constructor
 .intro hc;refine⟨by simp[hc],λe=>?_,λe=>?_⟩
  .have:c=(lN ns (k+1),cN b ns k):=by
    have:=mm;rw[j9 O nc h] at this;exact fZ (this.mp (by simp[hc])).1 e
   exact n1 (by rw[<-this];simp[hc])
  .have:c=(lN ns (k+1),cN b ns (k+1)):=by
    have:=mm;rw[j9 O nc h] at this;exact fZ (this.mp (by simp[hc])).1 e
   exact n2.2.2 c hc _ (by simp) this
 .rintro⟨hc,e1,e2⟩;rcases aL.mp hc with z | z
  .exact absurd (congrArg Prod.snd z) e1
  .rcases bG.mp z with z | z
   .exact z
   .exact absurd (congrArg Prod.snd (eJ.mp z)) e2
theorem zb(O:fO ns)(nc:NC b ns){c:nO}:∀{m:Nat},m<=ns.length->(c∈wS b ns m<->(∃k,k<=m/\c∈vS b ns k)\/∃k,k<m/\c∈rS b ns k)
 | 0,_=>by
  constructor
  .intro h;exact .inl ⟨0,aI _,h⟩
  .rintro (⟨k,hk,h⟩ | ⟨k,hk,_⟩)
   .rw[show k=0 by lia] at h;exact h
   .lia
 | m+1,hm=>by
  show c∈wS b ns m++(rS b ns m++vS b ns (m+1))<->_;rw[bG,bG,zb O nc (by lia)];constructor
  .rintro ((⟨k,hk,h⟩ | ⟨k,hk,h⟩) | h | h)
   .exact .inl ⟨k,by lia,h⟩
   .exact .inr ⟨k,by lia,h⟩
   .exact .inr ⟨m,by lia,h⟩
   .exact .inl ⟨m+1,aI _,h⟩
  .rintro (⟨k,hk,h⟩ | ⟨k,hk,h⟩)
   .by_cases e:k=m+1
    .subst e;exact .inr (.inr h)
    .exact .inl (.inl ⟨k,by lia,h⟩)
   .by_cases e:k=m
    .subst e;exact .inr (.inl h)
    .exact .inl (.inr ⟨k,by lia,h⟩)
theorem tD(O:fO ns)(nc:NC b ns){j k:Nat}(hj:j<=ns.length)(hk:k+1<=ns.length){c:nO}(h1:c∈vS b ns j)(h2:c∈rS b ns k):False:=by
 obtain⟨v1,v2⟩:=qM.mp h1;obtain⟨⟨e,a1,a2⟩,n1,n2⟩:=(uE O nc hk).mp h2;rw[e] at v1;have:=E5 O nc hj hk v1 (λz=>n1 (by rw[v2,z])) (λz=>n2 (by rw[v2,z]));lia
theorem mP(O:fO ns)(nc:NC b ns):∀{m:Nat},m<=ns.length->(wS b ns m).Nodup:=by
 have vn:∀k,(vS b ns k).Nodup:=λk=>by
  unfold vS List.Nodup;rw[cW];exact(tN _ _).imp λhne e=>hne (congrArg Prod.fst e)
 have rn:∀k,k+1<=ns.length->(rS b ns k).Nodup:=λk hk=>by
  have nd:((sg (cN b ns k) (cN b ns (k+1))).map (λx=>(lN ns (k+1),x))).Nodup:=by
   unfold List.Nodup;rw[cW];exact(tN _ _).imp λhne e=>hne (congrArg Prod.snd e)
  rw[j9 O nc hk,bW] at nd;exact(ck.mp nd.2).1
 intro m
 induction m with
 | zero=>intro _;exact vn 0
 | succ m ih=>
  intro hm;show (wS b ns m++(rS b ns m++vS b ns (m+1))).Nodup;rw[ck];refine⟨ih (by lia),?_,λc hc d hd e=>?_⟩
  .rw[ck];exact⟨rn m hm,vn _,λc hc d hd e=>tD O nc (by lia) hm (e▸hd) hc⟩
  .subst e;rcases(zb O nc (by lia)).mp hc with ⟨k,hk,h⟩ | ⟨k,hk,h⟩
   .rcases bG.mp hd with z | z
    .exact tD O nc (by lia) hm h z
    .obtain⟨a1,a2⟩:=qM.mp h;obtain⟨b1,b2⟩:=qM.mp z;have:=IC O nc (by lia) (by lia) a1 b1 (a2.symm.trans b2);lia
   .rcases bG.mp hd with z | z
    .have e1:=((uE O nc (by lia)).mp h).1.1;have e2:=((uE O nc hm).mp z).1.1;have:=mG O (j:=k+1) (k:=m+1) (by lia) (by lia) (by unfold lN at e1 e2;lia);lia
    .exact tD O nc (by lia) (by lia) z h
theorem jd(O:fO ns)(nc:NC b ns){c:nO}:c∈wS b ns ns.length<->sf b ns c.1 c.2=true:=by
 rw[zb O nc (aI _),t8 O nc];constructor
 .rintro (⟨k,hk,h⟩ | ⟨k,hk,h⟩)
  .obtain⟨h1,h2⟩:=qM.mp h;exact .inl ⟨k,hk,h1,h2⟩
  .exact .inr ⟨k,by lia,((uE O nc (by lia)).mp h).1⟩
 .rintro (⟨k,hk,h1,h2⟩ | ⟨k,hk,h⟩)
  .exact .inl ⟨k,hk,qM.mpr ⟨h1,h2⟩⟩
  .by_cases e1:c.2=cN b ns k
   .exact .inl ⟨k,by lia,qM.mpr ⟨by rw[h.1];unfold mO;lia,e1⟩⟩
   .by_cases e2:c.2=cN b ns (k+1)
    .exact .inl ⟨k+1,hk,qM.mpr ⟨by rw[h.1];unfold mO;lia,e2⟩⟩
    .exact .inr ⟨k,by lia,(uE O nc hk).mpr ⟨h,e1,e2⟩⟩
end
theorem Cs.app{α:Type}{x y:α}:∀{l m:List α},Cs (l++m) x y->Cs l x y\/Cs m x y\/(∃l',l=l'++[x])/\∃m',m=y::m'
 | [],m,h=>.inr (.inl h)
 | a::l,m,⟨A,B,e⟩=>by
  cases A with
  | nil=>
   have e0:a=x:=(cJ e).1;have e1:l++m=y::B:=(cJ e).2;subst e0;cases l with
   | nil=>exact .inr (.inr ⟨⟨[],rfl⟩,B,e1⟩)
   | cons c l=>
    have e2:c=y:=(cJ e1).1;subst e2;exact .inl ⟨[],l,rfl⟩
  | cons a' A=>
   have e0:a=a':=(cJ e).1;have e1:l++m=A++x::y::B:=(cJ e).2;rcases Cs.app (l:=l) (m:=m) ⟨A,B,e1⟩ with h | h | ⟨⟨l',hl'⟩,h⟩
   .exact .inl h.cons
   .exact .inr (.inl h)
   .exact .inr (.inr ⟨⟨a::l',by rw[hl'];rfl⟩,h⟩)
theorem Cs.sg{a z i j:Nat}:∀(m:Nat),z-a+(a-z)=m->Cs (sg a z) i j->j=i+1\/i=j+1:=by
 intro m
 induction m generalizing a z with
 | zero=>
  intro hm h;have:a=z:=by lia
  subst this;rw[wD] at h;obtain⟨A,B,e⟩:=h;have:=congrArg List.length e;simp at this;lia
 | succ m ih=>
  intro hm h;have step:∀a',(a'=a+1\/a'=a - 1/\0<a)->z-a'+(a' - z)=m->Cs (a::Rm.sg a' z) i j->j=i+1\/i=j+1:=λa' ha hm' hc=>by
   obtain⟨A,B,e⟩:=hc;cases A with
   | nil=>
    have e0:a=i:=(cJ e).1;have e1:Rm.sg a' z=j::B:=(cJ e).2;obtain⟨l,hl⟩:=nQ a' z;rw[hl] at e1;have e2:a'=j:=(cJ e1).1;lia
   | cons a'' A=>
    have e1:Rm.sg a' z=A++i::j::B:=(cJ e).2;exact ih hm' ⟨A,B,e1⟩
  rcases gN a z with g | g
  .rw[xJ g] at h;exact step (a+1) (.inl rfl) (by lia) h
  .rw[xK (by lia)] at h;exact step (a - 1) (.inr ⟨rfl,by lia⟩) (by lia) h
theorem Cs.unmap{α β:Type}{f:α->β}{l:List α}{x y:β}(h:Cs (l.map f) x y):∃a c,x=f a/\y=f c/\Cs l a c:=by
 obtain⟨A,B,e⟩:=h;obtain⟨A',l',rfl,e1,e2⟩:=List.map_eq_append_iff.mp e;cases l' with
 | nil=>cases e2
 | cons a l'=>
  cases l' with
  | nil=>simp at e2
  | cons c l'=>
   simp only[af,oM] at e2;exact⟨a,c,e2.1.symm,e2.2.1.symm,A',l',rfl⟩
section
variable {b:Bool}{ns:gs}
theorem sV(k:Nat):∃l,vS b ns k=(lN ns k,cN b ns k)::l:=by
 obtain⟨l,hl⟩:=nQ (lN ns k) (lN ns (k+1));exact⟨_,by unfold vS;rw[hl];rfl⟩
theorem A6(k:Nat):∃l,vS b ns k=l++[(lN ns (k+1),cN b ns k)]:=by
 obtain⟨l,hl⟩:=An _ (lN ns k) (lN ns (k+1)) rfl;exact⟨l.map λi=>(i,cN b ns k),by unfold vS;rw[hl,aX];rfl⟩
theorem sU:∀k,∃l,wS b ns k=l++[(lN ns (k+1),cN b ns k)]
 | 0=>A6 0
 | k+1=>by
  obtain⟨l,hl⟩:=A6 (b:=b) (ns:=ns) (k+1);exact⟨wS b ns k++(rS b ns k++l),by show wS b ns k++(rS b ns k++vS b ns (k+1))=_;rw[hl];simp⟩
theorem Lc:∀{k m:Nat},k<=m->∃A B,wS b ns m=A++(vS b ns k++B)
 | k,0,h=>by rw[show k=0 by lia];exact⟨[],[],by simp[wS]⟩
 | k,m+1,h=>by
  by_cases e:k=m+1
  .subst e;exact⟨wS b ns m++rS b ns m,[],by simp[wS]⟩
  .obtain⟨A,B,hAB⟩:=Lc (k:=k) (m:=m) (by lia);exact⟨A,B++(rS b ns m++vS b ns (m+1)),by show wS b ns m++_=_;rw[hAB];simp⟩
theorem Ld(O:fO ns)(nc:NC b ns):∀{k m:Nat},k+1<=m->m<=ns.length->∃A B,wS b ns m=A++((sg (cN b ns k) (cN b ns (k+1))).map (λx=>(lN ns (k+1),x))++B)
 | k,0,h,_=>by lia
 | k,m+1,h,hm=>by
  by_cases e:k=m
  .subst e;obtain⟨A,hA⟩:=sU (b:=b) (ns:=ns) k;obtain⟨V,hV⟩:=sV (b:=b) (ns:=ns) (k+1);refine⟨A,V,?_⟩;rw[j9 O nc (by lia)];show wS b ns k++(rS b ns k++vS b ns (k+1))=_;rw[hA,hV];simp
  .obtain⟨A,B,hAB⟩:=Ld O nc (k:=k) (m:=m) (by lia) (by lia);exact⟨A,B++(rS b ns m++vS b ns (m+1)),by show wS b ns m++_=_;rw[hAB];simp⟩
theorem GF(O:fO ns)(nc:NC b ns){c d:nO}(hc:sf b ns c.1 c.2=true)(hd:sf b ns d.1 d.2=true)(h:GP c d):Cs (wS b ns ns.length) c d\/Cs (wS b ns ns.length) d c:=by
 rcases IL O nc hc hd h with ⟨k,hk,e1,e2,h1,h2⟩ | ⟨k,hk,h1,h2⟩
 .obtain⟨A,B,hW⟩:=Lc (b:=b) (ns:=ns) hk;have up:∀{x y:nO},Cs (vS b ns k) x y->Cs (wS b ns ns.length) x y:=λh=>by rw[hW];exact h.left.right
  have hx:d.1=c.1+1\/c.1=d.1+1:=by
   rcases h with ⟨z,y⟩ | ⟨_,y⟩
   .lia
   .lia
  have ec:c=(c.1,cN b ns k):=fZ rfl e1;have ed:d=(d.1,cN b ns k):=fZ rfl e2;rcases hx with hx | hx
  .have:=Ao _ (lN ns k) (lN ns (k+1)) c.1 rfl (gX.mpr h1) (gX.mpr (by rw[<-hx];exact h2));rw[<-hx] at this;rw[ec,ed];exact this.imp (λz=>up (z.map λi=>(i,cN b ns k))) (λz=>up (z.map λi=>(i,cN b ns k)))
  .have:=Ao _ (lN ns k) (lN ns (k+1)) d.1 rfl (gX.mpr h2) (gX.mpr (by rw[<-hx];exact h1));rw[<-hx] at this;rw[ec,ed];exact this.symm.imp (λz=>up (z.map λi=>(i,cN b ns k))) (λz=>up (z.map λi=>(i,cN b ns k)))
 .obtain⟨A,B,hW⟩:=Ld O nc hk (aI _);have up:∀{x y:nO},Cs ((sg (cN b ns k) (cN b ns (k+1))).map (λx=>(lN ns (k+1),x))) x y->Cs (wS b ns ns.length) x y:=λh=>by rw[hW];exact h.left.right
  have hx:d.2=c.2+1\/c.2=d.2+1:=by
   have:=h1.1;have:=h2.1;rcases h with ⟨z,y⟩ | ⟨_,y⟩
   .lia
   .lia
  have ec:c=(lN ns (k+1),c.2):=fZ h1.1 rfl;have ed:d=(lN ns (k+1),d.2):=fZ h2.1 rfl;rcases hx with hx | hx
  .have:=Ao _ (cN b ns k) (cN b ns (k+1)) c.2 rfl (gX.mpr h1.2) (gX.mpr (by rw[<-hx];exact h2.2));rw[<-hx] at this;rw[ec,ed];exact this.imp (λz=>up (z.map λx=>(lN ns (k+1),x))) (λz=>up (z.map λx=>(lN ns (k+1),x)))
  .have:=Ao _ (cN b ns k) (cN b ns (k+1)) d.2 rfl (gX.mpr h2.2) (gX.mpr (by rw[<-hx];exact h1.2));rw[<-hx] at this;rw[ec,ed];exact this.symm.imp (λz=>up (z.map λx=>(lN ns (k+1),x))) (λz=>up (z.map λx=>(lN ns (k+1),x)))
theorem Jf(O:fO ns)(nc:NC b ns){c d:nO}:∀{m:Nat},m<=ns.length->Cs (wS b ns m) c d->GP c d:=by
 have NG:∀k,Cs (vS b ns k) c d->GP c d:=λk h=>by
  obtain⟨i,j,e1,e2,h'⟩:=Cs.unmap h;rw[e1,e2];rcases Cs.sg _ rfl h' with z | z
  .exact .inr ⟨rfl,.inr z⟩
  .exact .inr ⟨rfl,.inl z⟩
 have inR:∀k,Cs ((sg (cN b ns k) (cN b ns (k+1))).map (λx=>(lN ns (k+1),x))) c d->GP c d:=λk h=>by
  obtain⟨i,j,e1,e2,h'⟩:=Cs.unmap h;rw[e1,e2];rcases Cs.sg _ rfl h' with z | z
  .exact .inl ⟨rfl,.inr z⟩
  .exact .inl ⟨rfl,.inl z⟩
 intro m
 induction m with
 | zero=>intro _ h;exact NG 0 h
 | succ m ih=>
  intro hm h;have R:=j9 O nc (k:=m) hm;obtain⟨V,hV⟩:=sV (b:=b) (ns:=ns) (m+1);rcases Cs.app (l:=wS b ns m) h with h | h | ⟨⟨l',hl'⟩,m',hm'⟩
  .exact ih (by lia) h
  .rcases Cs.app h with h | h | ⟨⟨l',hl'⟩,m',hm'⟩
   .refine inR m ?_;rw[R];exact h.left.cons
   .exact NG _ h
   .refine inR m ?_;rw[R,hl'];rw[hV] at hm';obtain⟨e,_⟩:=cJ hm';rw[e];exact⟨(lN ns (m+1),cN b ns m)::l',[],by simp[cC]⟩
  .obtain⟨A,hA⟩:=sU (b:=b) (ns:=ns) m;have ec:c=(lN ns (m+1),cN b ns m):=by
    rw[hA] at hl';have:=congrArg List.getLast? hl';simpa using this.symm
   refine inR m ?_;rw[R,<-ec];rw[hV] at hm';cases hr:rS b ns m with
   | nil=>
    rw[hr] at hm';obtain⟨e,_⟩:=cJ hm';rw[e];exact⟨[],[],rfl⟩
   | cons y r=>
    rw[hr] at hm';obtain⟨e,_⟩:=cJ hm';rw[e];exact⟨[],r++[_],rfl⟩
theorem kj{α:Type}{x:α}:∀{A B A' B':List α},(A++x::B).Nodup->A++x::B=A'++x::B'->A=A'/\B=B'
 | [],B,[],B',_,e=>⟨rfl,(cJ e).2⟩
 | [],B,a::A',B',h,e=>by
  have e1:B=A'++x::B':=(cJ e).2;have:=(bW.mp h).1;exact absurd (by rw[e1];simp) this
 | a::A,B,[],B',h,e=>by
  have e0:a=x:=(cJ e).1;have:a∉A++x::B:=(bW.mp h).1;exact absurd (by rw[e0];simp) this
 | a::A,B,a'::A',B',h,e=>by
  have e0:a=a':=(cJ e).1;have e1:A++x::B=A'++x::B':=(cJ e).2;obtain⟨h1,h2⟩:=kj (bW.mp h).2 e1;exact⟨by rw[e0,h1],h2⟩
theorem Cy(O:fO ns)(nc:NC b ns){A B:List nO}{x:nO}(hW:wS b ns ns.length=A++x::B){y:nO}:(GP x y/\sf b ns y.1 y.2=true/\y∉A/\y≠x)<->∃B',B=y::B':=by
 have nd:=mP O nc (b:=b) (aI _);have hx:x∈wS b ns ns.length:=by rw[hW];simp
 constructor
 .rintro⟨h,ho,n1,n2⟩;rcases GF O nc ((jd O nc).mp hx) ho h with ⟨A',B',e⟩ | ⟨A',B',e⟩
  .rw[hW] at nd e;exact⟨B',(kj nd e).2⟩
  .exfalso;rw[hW] at nd e;have e':A++x::B=(A'++[y])++x::B':=by rw[e];simp
   have:=(kj nd e').1;exact n1 (by rw[this];simp)
 .rintro⟨B',rfl⟩;have ad:=Jf O nc (aI _) (c:=x) (d:=y) ⟨A,B',hW⟩;have hy:y∈wS b ns ns.length:=by rw[hW];simp
  rw[hW,ck] at nd;obtain⟨_,n2,n3⟩:=nd;exact⟨ad,(jd O nc).mp hy,λz=>n3 y z y (by simp) rfl,λz=>(bW.mp n2).1 (by rw[<-z];simp)⟩
abbrev c8 (b:Bool) (ns:gs):List nO:=wS b ns ns.length
theorem K4:lN ns (ns.length+1)=2*ns.length+3:=by
 unfold lN rN;rw[ir];lia
theorem pI:∀k,∃l,wS b ns k=(1,cN b ns 0)::l
 | 0=>sV 0
 | k+1=>by
  obtain⟨l,hl⟩:=pI k;exact⟨l++(rS b ns k++vS b ns (k+1)),by show wS b ns k++_=_;rw[hl];rfl⟩
theorem wf:∃l,c8 b ns=l++[(2*ns.length+3,cN b ns ns.length)]:=by
 obtain⟨l,hl⟩:=sU (b:=b) (ns:=ns) ns.length;exact⟨l,by rw[<-K4];exact hl⟩
theorem Fz(O:fO ns):∀p,p∈c7 b ns false\/p∈c7 b ns true->0<=p.1/\p.2<=(ns.length:Int)+1:=λp hp=>by
 have:∃u,p∈bH b ns u (ns.length+1):=by
  rcases hp with h | h
  .exact⟨false,h⟩
  .exact⟨true,h⟩
 obtain⟨u,hp⟩:=this;obtain⟨j,hj,_,rfl⟩:=gj hp;exact O.step_in (by lia)
theorem rJ(O:fO ns)(nc:NC b ns){c:nO}(h:c∈c8 b ns):1<=c.1/\c.1<=2*ns.length+3/\1<=c.2/\c.2+2<=dt (c7 b ns false) (c7 b ns true):=by
 have ho:=(jd O nc).mp h;have e:=fun {i x:Nat} z=>(u6.of O nc).edge (Fz O) (i:=i) (x:=x) z;unfold sf at ho;refine⟨?_,?_,?_,?_⟩
 .rcases lW c.1 with z | z
  .rw[e (.inl z)] at ho;cases ho
  .exact z
 .rcases gN (2*ns.length+3) c.1 with z | z
  .rw[e (.inr (.inl (by lia)))] at ho;cases ho
  .exact z
 .rcases lW c.2 with z | z
  .rw[e (.inr (.inr (.inl z)))] at ho;cases ho
  .exact z
 .rcases gN (c.2+1) (dt (c7 b ns false) (c7 b ns true)) with z | z
  .lia
  .rw[e (.inr (.inr (.inr z)))] at ho;cases ho
theorem yk(O:fO ns):dt (c7 b ns false) (c7 b ns true)<=85:=by
 have:=Am (b:=b) O false;have:=Am (b:=b) O true;unfold dt;lia
theorem vq(O:fO ns)(nc:NC b ns):(c8 b ns).length<=3825:=by
 have nd:=mP O nc (b:=b) (aI _);have l20:=O.len;have w85:=yk (b:=b) O;have nm:((c8 b ns).map λc=>c.1*85+c.2).Nodup:=by
  unfold List.Nodup;rw[cW];refine fb (fun {c d} hc hd ne e=>ne ?_) nd;have h1:=rJ O nc hc;have h2:=rJ O nc hd;have:c.1=d.1:=by lia
  exact fZ this (by lia)
 have:=List.Nodup.length_le_of_subset nm (l₂:=List.range 3825) λx hx=>by
  obtain⟨c,hc,rfl⟩:=aU.mp hx;have h1:=rJ O nc hc;rw[bj];lia
 rw[aA,dJ] at this;exact this
theorem sy(O:fO ns)(nc:NC b ns){c:nO}(h:c∈c8 b ns):((~~~signG) c.1 c.2=118<->c=(1,cN b ns 0))/\((~~~signG) c.1 c.2=64<->c=(2*ns.length+3,cN b ns ns.length))/\(~~~signG) c.1 c.2≠35:=by
 have ho:=(jd O nc).mp h;obtain⟨L,hL⟩:=q9 b ns false;obtain⟨R,hR⟩:=q9 b ns true;obtain⟨x0,_,op0⟩:=t9 O hL hR;obtain⟨x1,_,op1⟩:=vM O hL hR;simp only[vL O hL hR] at op0 op1;obtain⟨l,hl⟩:=pI (b:=b) (ns:=ns) ns.length;obtain⟨m,hm⟩:=wf (b:=b) (ns:=ns);have e0:=(jd O nc (c:=(1,cN b ns 0))).mp (by rw[hl];simp);have e1:=(jd O nc (c:=(2*ns.length+3,cN b ns ns.length))).mp (by rw[show wS b ns ns.length=_ from hm];simp);unfold sf at ho e0 e1;dsimp only at e0 e1;rw[op0,U3] at e0;rw[op1,U3] at e1;refine⟨?_,?_,λz=>?_⟩
 .rw[Dy];constructor
  .rintro⟨_,h1⟩;rw[h1,op0,U3] at ho;exact fZ h1 (by rw[ho,e0])
  .rintro rfl;exact⟨ho,rfl⟩
 .rw[Jn];constructor
  .rintro⟨_,h1⟩;rw[h1,op1,U3] at ho;exact fZ h1 (by rw[ho,e1])
  .rintro rfl;exact⟨ho,rfl⟩
 .rw[wC.mp z] at ho;cases ho
theorem vP(O:fO ns)(nc:NC b ns){i x:Nat}:(~~~signG) i x=118<->i=1/\x=cN b ns 0:=by
 obtain⟨l,hl⟩:=pI (b:=b) (ns:=ns) ns.length;constructor
 .intro h;have hm:(i,x)∈c8 b ns:=(jd O nc).mpr (Dy.mp h).1;have:=((sy O nc hm).1).mp h;exact⟨congrArg Prod.fst this,congrArg Prod.snd this⟩
 .rintro⟨rfl,rfl⟩;have hm:(1,cN b ns 0)∈c8 b ns:=by rw[show c8 b ns=_ from hl];simp
  exact((sy O nc hm).1).mpr rfl
def Er(c:nO):List nO:=[(c.1 - 1,c.2),(c.1+1,c.2),(c.1,c.2 - 1),(c.1,c.2+1)]
theorem z9{c d:nO}(h1:1<=c.1)(h2:1<=c.2):d∈Er c<->GP c d:=by
 obtain⟨i,x⟩:=c;obtain⟨j,y⟩:=d;unfold Er GP;simp only[aL,cK,or_false,mJ];dsimp only at h1 h2;lia
theorem Ep{c:nO}(h1:1<=c.1)(h2:1<=c.2):(Er c).Nodup:=by
 obtain⟨i,x⟩:=c;unfold Er;dsimp only at h1 h2;simp only[bW,aL,cK,or_false,mJ,lZ,and_true,not_false_eq_true];lia
theorem Cw(O:fO ns)(nc:NC b ns){A B:List nO}{x y:nO}(hW:c8 b ns=A++x::y::B){d:nO}:(GP x d/\sf b ns d.1 d.2=true/\∀A' z,A=A'++[z]->d≠z)<->d=y:=by
 have nd:=mP O nc (b:=b) (aI _);have hx:x∈c8 b ns:=by rw[hW];simp
 constructor
 .rintro⟨h,ho,n1⟩;rcases GF O nc ((jd O nc).mp hx) ho h with ⟨A',B',e⟩ | ⟨A',B',e⟩
  .rw[show wS b ns ns.length=_ from hW] at nd e;have:=(kj nd e).2;exact(cJ this).1.symm
  .exfalso;rw[show wS b ns ns.length=_ from hW] at nd e;have e':A++x::y::B=(A'++[d])++x::B':=by rw[e];simp
   exact n1 A' d (kj nd e').1 rfl
 .rintro rfl;obtain⟨h1,h2,h3,_⟩:=(Cy O nc (show wS b ns ns.length=A++x::(d::B) from hW)).mpr ⟨B,rfl⟩;exact⟨h1,h2,λA' z e1 e2=>h3 (by rw[e1,e2];simp)⟩
theorem uR{α:Type} [DecidableEq α] {y:α} {P:α->Bool}:∀{l:List α},l.Nodup->y∈l->(∀d∈l,P d=true<->d=y)->l.filter P=[y]
 | a::l,nd,hy,h=>by
  obtain⟨n1,n2⟩:=bW.mp nd;by_cases e:a=y
  .subst e;rw[nH ((h a (by simp)).mpr rfl)];congr 1;exact nq.mpr λd hd z=>n1 (by rw[<-(h d (by simp[hd])).mp z];exact hd)
  .rw[nI λz=>e ((h a (by simp)).mp z)];refine uR n2 ?_ λd hd=>h d (by simp[hd]);rcases aL.mp hy with z | z
   .exact absurd z.symm e
   .exact z
end
def fh(c:nO):Bw:=((c.1:Int),(c.2:Int))
theorem Hc{K:U9}{H:Hp}{a aa:Addr}{p q:Bw}{Q:VK}(ha:b6 H a p)(hq:b6 H aa q)(h:Q (.bl (!decide (p=q))) H):zJ K true (.ref a) (.ref aa) H Q:=
 ⟨yb p,yb q,w6 ha,w6 hq,w9 p,w9 q,bN (kH _ _) (show max 0 (max 0 0)+1<=60 by decide),by rw[IF];exact h⟩
theorem Eo{K:U9}{H:Hp}{a:Addr}{p:Bw}{Q:VK}(ha:b6 H a p)(h:Q (.bl true) H):zJ K true (.ref a) .non H Q:=
 ⟨yb p,.none,w6 ha,.non,w9 p,rfl,bN (kH _ _) (show max 0 (max 0 0)+1<=60 by decide),h⟩
def Dp:Sp:=λvs H Q _=>∃ll b ns,vs=[.ref ll]/\H ll=some (.lst (~~~p8))/\fO ns/\NC b ns/\∀l H',H l=none->bJ H H'->BowsAt H' l ((c8 b ns).map fh)->Q (.ref l) H'
structure Mk (b:Bool) (ns:gs) (kvs:List (List Key×V)) (cs:List nO):Prop where
 is:kvs=cs.map fun c=>(sK c.1 c.2,wd ((~~~signG) c.1 c.2))
 nd:cs.Nodup
 op:∀ c,c∈cs<->sf b ns c.1 c.2=true
section
variable {b:Bool}{ns:gs}
def Ed(ns:gs)(b:Bool)(i:Nat):im:=((~~~i8) i).filter λc=>decide (c≠35)
theorem HR(i:Nat):(Ed ns b i).length=((List.range (dt (c7 b ns false) (c7 b ns true))).filter (sf b ns i)).length:=by
 unfold Ed i8;rw[List.filter_map,aA];congr 1;refine List.filter_congr λx _=>?_;show decide ((~~~signG) i x≠35)=(~~~dz) i x;have h:=wC (n:=ns.length) (S0:=c7 b ns false) (S1:=c7 b ns true) (i:=i) (x:=x);cases e:(~~~dz) i x with
 | false=>exact U4 λz=>z (h.mpr e)
 | true=>exact U5 λz=>by rw[h.mp z] at e;cases e
theorem wv{α:Type}(f:Nat->List α):∀(l:im),(l.flatMap f).length=(l.map λi=>(f i).length).sum
 | []=>rfl
 | i::l=>by rw[am,aj,wv f l];rfl
def Fv(b:Bool)(ns:gs):List nO:=(List.range (2*ns.length+5)).flatMap λi=>((List.range (dt (c7 b ns false) (c7 b ns true))).filter (sf b ns i)).map λx=>(i,x)
theorem Ft(O:fO ns)(nc:NC b ns){c:nO}:c∈Fv b ns<->c∈c8 b ns:=by
 unfold Fv;rw[gE];constructor
 .rintro⟨i,_,h⟩;obtain⟨x,hx,rfl⟩:=aU.mp h;exact(jd O nc).mpr (aV.mp hx).2
 .intro h;obtain⟨h1,h2,h3,h4⟩:=rJ O nc h;exact⟨c.1,bj.mpr (by lia),aU.mpr ⟨c.2,aV.mpr ⟨bj.mpr (by lia),(jd O nc).mp h⟩,rfl⟩⟩
theorem uD{f:Nat->List nO}(h1:∀i,(f i).Nodup)(h2:∀i,∀c∈f i,c.1=i):∀{l:im},l.Nodup->(l.flatMap f).Nodup
 | [],_=>lZ
 | i::l,nd=>by
  obtain⟨n1,n2⟩:=bW.mp nd;rw[am,ck];refine⟨h1 i,uD h1 h2 n2,λa ha c hc e=>?_⟩;subst e;obtain⟨j,hj,hc'⟩:=gE.mp hc;have:=h2 i a ha;have:=h2 j a hc';exact n1 (by rw[show i=j by lia];exact hj)
theorem AB:(Fv b ns).Nodup:=by
 refine uD (λi=>?_) (λi c hc=>?_) gD
 .unfold List.Nodup;rw[cW];refine List.Pairwise.imp (fun {x y} ne e=>ne (Prod.mk.inj e).2) (jz _ (show List.Pairwise (·≠·) (List.range _) from gD))
 .obtain⟨x,_,rfl⟩:=aU.mp hc;rfl
theorem Cc(O:fO ns)(nc:NC b ns):((List.range (2*ns.length+5)).map λi=>((Ed ns b i).length:Int)).sum=((c8 b ns).length:Int):=by
 have p:(Fv b ns).Perm (c8 b ns):=(lX AB (mP O nc (aI _))).mpr λc=>Ft O nc;rw[<-p.length_eq];unfold Fv;rw[wv];have e:∀l:im,(l.map λi=>((Ed ns b i).length:Int)).sum=((l.map λi=>(((List.range (dt (c7 b ns false) (c7 b ns true))).filter (sf b ns i)).map λx=>((i,x):nO)).length).sum:Nat):=λl=>by
  induction l with
  | nil=>rfl
  | cons i l ih=>
   rw[af,ji,af,ji,ih,aA,HR];lia
 exact e _
theorem KH(i:Nat):(Ed ns b i).length<=dt (c7 b ns false) (c7 b ns true):=by
 have:=fN (λc=>decide (c≠35)) ((~~~i8) i);unfold Ed;rw[sW] at this;exact this
end
def gb{α β:Type}(f:β->α->α->β):β->List α->β
 | s,x::y::l=>gb f (f s x y) (y::l)
 | s,_=>s
section
variable {α β:Type}{f:β->α->α->β}{ns:gs}
theorem mf:∀(A:List α) (x:α) (B:List α) (s:β),gb f s (A++x::B)=gb f (gb f s (A++[x])) (x::B)
 | [],x,B,s=>rfl
 | [a],x,B,s=>rfl
 | a::c::A,x,B,s=>by
  show gb f (f s a c) ((c::A)++x::B)=gb f (gb f (f s a c) ((c::A)++[x])) (x::B);exact mf (c::A) x B _
theorem C1(A:List α)(x y:α)(s:β):gb f s (A++[x,y])=f (gb f s (A++[x])) x y:=by
 rw[mf A x [y]];rfl
theorem qP:∀{l:List α} {s:β},(∀x y,Cs l x y->f s x y=s)->gb f s l=s
 | [],s,h=>rfl
 | [x],s,h=>rfl
 | x::y::l,s,h=>by
  show gb f (f s x y) (y::l)=s;rw[h x y ⟨[],l,rfl⟩];exact qP λa c hc=>h a c hc.cons
def Co(ns:gs)(k:Nat):im:=(List.range k).map λj=>rN ns (j+1)
theorem xQ(k:Nat):Co ns (k+1)=Co ns k++[rN ns (k+1)]:=by unfold Co;rw[dP,aX];rfl
theorem Gy(O:fO ns){k:Nat}(h:k+1<=ns.length):rN ns (k+1)∉Co ns k:=λhm=>by
 obtain⟨j,hj,e⟩:=aU.mp hm;rw[bj] at hj;have:=mG O (by lia) (by lia) e;lia
theorem Gz(O:fO ns):(Co ns ns.length).map (λr=>V.int (r:Nat))=ns.map V.int:=by
 refine List.ext_getElem? λi=>?_;unfold Co;rw[bn,aR,aR];rcases gN i ns.length with h | h
 .rw[eZ h,aE h];have:=rQ O (k:=i+1) (by lia);show some (V.int ((rN ns (i+1):Nat):Int))=some (V.int ns[i]);rw[this];congr 2;exact pR (aE h)
 .rw[gZ (by simpa using h),gZ (by simpa using h)];rfl
end
def xn(l:im):gs:=l.map λ(r:Nat)=>(r:Int)
def jq:Option (im)->nO->nO->Option (im)
 | none,_,_=>none
 | some s,x,y=>if y.1=x.1 then (if y.1 % 2=0 then none else if s.getLast? = some (y.1 / 2) then some s else some (s++[y.1 / 2])) else some s
theorem tX:∀(l:List nO),gb jq none l=none
 | []=>rfl
 | [x]=>rfl
 | x::y::l=>tX (y::l)
section
variable {b:Bool}{ns:gs}
theorem JB(s:im)(k:Nat):gb jq (some s) (vS b ns k)=some s:=by
 refine qP λx y hc=>?_;obtain⟨i,j,rfl,rfl,hij⟩:=hc.unmap;have:=hij.sg _ rfl;unfold jq;dsimp only;rw[U1];lia
theorem K3(k:Nat):lN ns k / 2=rN ns k/\lN ns k % 2=1:=by unfold lN;lia
theorem Lv(O:fO ns)(nc:NC b ns){k:Nat}(h:k+1<=ns.length):gb jq (some (Co ns k)) ((sg (cN b ns k) (cN b ns (k+1))).map λx=>(lN ns (k+1),x))=some (Co ns (k+1)):=by
 have hne:=JN O nc h;obtain⟨x1,l,hl⟩:∃x1 l,sg (cN b ns k) (cN b ns (k+1))=cN b ns k::x1::l:=by
  rcases Nat.lt_or_gt_of_ne hne with z | z
  .obtain⟨l,hl⟩:=nQ (cN b ns k+1) (cN b ns (k+1));exact⟨_,l,by rw[xJ z,hl]⟩
  .obtain⟨l,hl⟩:=nQ (cN b ns k - 1) (cN b ns (k+1));exact⟨_,l,by rw[xK z,hl]⟩
 rw[hl];show gb jq (jq (some (Co ns k)) (lN ns (k+1),cN b ns k) (lN ns (k+1),x1)) (((x1::l)).map λx=>(lN ns (k+1),x))=_;obtain⟨o1,o2⟩:=K3 (ns:=ns) (k+1);have e:jq (some (Co ns k)) (lN ns (k+1),cN b ns k) (lN ns (k+1),x1)=some (Co ns (k+1)):=by
  unfold jq;dsimp only;rw[U2 rfl,U1 (by lia),o1,U1,<-xQ];intro z;exact Gy O h (List.mem_of_getLast? z)
 rw[e];refine qP λx y hc=>?_;obtain⟨i,j,rfl,rfl,hij⟩:=hc.unmap;unfold jq;dsimp only;rw[U2 rfl,U1 (by lia),o1,U2];rw[xQ];simp
theorem wH(O:fO ns)(nc:NC b ns):∀{k:Nat},k<=ns.length->gb jq (some []) (wS b ns k)=some (Co ns k)
 | 0,_=>by
  show gb jq (some []) (vS b ns 0)=_;rw[JB];rfl
 | k+1,h=>by
  obtain⟨l,hl⟩:=sU (b:=b) (ns:=ns) k;obtain⟨v,hv⟩:=sV (b:=b) (ns:=ns) (k+1);have ih:=wH O nc (k:=k) (by lia);have e1:wS b ns (k+1)=(l++(lN ns (k+1),cN b ns k)::rS b ns k)++(lN ns (k+1),cN b ns (k+1))::v:=by
   show wS b ns k++(rS b ns k++vS b ns (k+1))=_;rw[hl,hv];simp
  rw[e1,mf,show (l++(lN ns (k+1),cN b ns k)::rS b ns k)++[(lN ns (k+1),cN b ns (k+1))]=l++(lN ns (k+1),cN b ns k)::(rS b ns k++[(lN ns (k+1),cN b ns (k+1))]) by simp,mf,<-hl,ih,<-j9 O nc h,Lv O nc h,<-hv,JB]
theorem EH(O:fO ns)(nc:NC b ns)(i:Nat):∃s,gb jq (some []) ((c8 b ns).take i)=some s:=by
 have h:=wH O nc (aI ns.length);rw[show wS b ns ns.length=c8 b ns from rfl] at h;cases e:gb jq (some []) ((c8 b ns).take i) with
 | some s=>exact⟨s,rfl⟩
 | none=>
  exfalso;rcases lW i with z | z
  .subst z;cases e
  .rcases gN (i - 1) (c8 b ns).length with g | g
   .have e1:(c8 b ns).take i=(c8 b ns).take (i - 1)++[(c8 b ns)[i - 1]]:=by
     have t:=bE (l:=c8 b ns) (i:=i - 1);rw[show i - 1+1=i by lia,aE g] at t;exact t
    have e2:c8 b ns=(c8 b ns).take (i - 1)++(c8 b ns)[i - 1]::(c8 b ns).drop i:=by
     have:=cG g;rw[show i - 1+1=i by lia] at this;rw[<-this];exact(jZ _ _).symm
    rw[e2,mf,<-e1,e,tX] at h;cases h
   .rw[dD (by lia),h] at e;cases e
theorem Aq:∀(l:List nO) (s r:im),gb jq (some s) l=some r->r.length<=s.length+l.length
 | [],s,r,e=>by cases e;exact d6 _ _
 | [x],s,r,e=>by cases e;exact d6 _ _
 | x::y::l,s,r,e=>by
  have e':gb jq (jq (some s) x y) (y::l)=some r:=e;cases z:jq (some s) x y with
  | none=>rw[z,tX] at e';cases e'
  | some s'=>
   rw[z] at e';have h:=Aq (y::l) s' r e';have h1:s'.length<=s.length+1:=by
    unfold jq at z;dsimp only at z
    split at z
    .split at z
     .cases z
     .split at z
      .cases z;lia
      .cases z;simp
    .cases z;lia
   simp only[bL] at h |-;lia
end
def Ad:Sp:=λvs H Q _=>∃l b ns,vs=[.ref l]/\BowsAt H l ((c8 b ns).map fh)/\fO ns/\NC b ns/\∀p H',H p=none->bJ H H'->H' p=some (.lst (ns.map V.int))->Q (.ref p) H'
end Rm
namespace L2
open PySem PySem.SetTable
def lp(x:Nat):Nat:=5*x+1
def CL:Nat->Nat->Nat
 | 0,x=>x
 | n+1,x=>lp (CL n x)
theorem BG(a b x:Nat):CL (a+b) x=CL a (CL b x):=by
 induction a with
 | zero=>rw[jK];rfl
 | succ a ih=>rw[Nat.succ_add];show lp (CL (a+b) x)=lp (CL a (CL b x));rw[ih]
theorem K0(k:Nat):∃u v,∀x,CL (2 ^ k) x=x*(4*(2 ^ k*u)+1)+2 ^ k*(2*v+1):=by
 induction k with
 | zero=>exact⟨1,0,λx=>by show 5*x+1=_;lia⟩
 | succ k ih=>
  obtain⟨u,v,h⟩:=ih;refine⟨u*(2*(2 ^ k*u)+1),v*(2*(2 ^ k*u)+1)+2 ^ k*u,λx=>?_⟩;rw[show 2 ^ (k+1)=2 ^ k+2 ^ k by rw[rE];lia,BG,h x,h];generalize 2 ^ k=c
  grind
theorem FF(k x y:Nat):∃n,n<2 ^ k/\CL n x % 2 ^ k=y % 2 ^ k:=by
 induction k with
 | zero=>exact⟨0,by decide,by rw[Nat.pow_zero,Nat.mod_one,Nat.mod_one]⟩
 | succ k ih=>
  obtain⟨n,hn,e⟩:=ih;obtain⟨u,v,h⟩:=K0 k;have p2:2 ^ (k+1)=2*2 ^ k:=by rw[rE];lia
  have pos:0<2 ^ k:=Nat.pow_pos (by decide);rw[p2];have two:∀z,z % (2*2 ^ k)=z % 2 ^ k\/z % (2*2 ^ k)=z % 2 ^ k+2 ^ k:=λz=>by
   have h1:z % (2*2 ^ k) % 2 ^ k=z % 2 ^ k:=Nat.mod_mod_of_dvd z ⟨2,by lia⟩;have h2:z % (2*2 ^ k)<2*2 ^ k:=qU _ (by lia);by_cases c:z % (2*2 ^ k)<2 ^ k
   .left;rw[<-h1,fG c]
   .right;have h3:(z % (2*2 ^ k)) % 2 ^ k=z % (2*2 ^ k) - 2 ^ k:=by rw[Nat.mod_eq_sub_mod (show z % (2*2 ^ k)>=2 ^ k by lia),fG (by lia)]
    lia
  by_cases c:CL n x % (2*2 ^ k)=y % (2*2 ^ k)
  .exact⟨n,by lia,c⟩
  .refine⟨2 ^ k+n,by lia,?_⟩;rw[BG,h];generalize CL n x=z at e c;have hz:(z*(4*(2 ^ k*u)+1)+2 ^ k*(2*v+1)) % (2*2 ^ k)=(z+2 ^ k) % (2*2 ^ k):=by
    have:z*(4*(2 ^ k*u)+1)+2 ^ k*(2*v+1)=z+2 ^ k+(2*2 ^ k)*(z*2*u+v):=by
     generalize 2 ^ k=c;simp only[Nat.mul_add,Nat.add_mul,Nat.mul_one,Nat.one_mul]
     grind
    rw[this,Nat.add_mul_mod_self_left]
   rw[hz];have t1:=two z;have t2:=two y;have z1:z % (2*2 ^ k)<2*2 ^ k:=qU _ (by lia);have y1:y % 2 ^ k<2 ^ k:=qU _ (by lia);rw[jw,fG (show 2 ^ k<2*2 ^ k by lia)];rcases t1 with t1 | t1<;>rcases t2 with t2 | t2
   .exfalso;apply c;rw[t1,t2,e]
   .rw[t1,t2,e,fG (by lia)]
   .rw[t1,t2,e,show y % 2 ^ k+2 ^ k+2 ^ k=y % 2 ^ k+2*2 ^ k by lia,Nat.add_mod_right,fG (by lia)]
   .exfalso;apply c;rw[t1,t2,e]
def pY(mask:Nat)(h:Int):Nat->Nat×Nat
 | 0=>(bits h % (mask+1),bits h)
 | n+1=>leap mask (pY mask h n).1 (pY mask h n).2
theorem KZ(mask:Nat)(h:Int)(n:Nat):(pY mask h n).1<mask+1:=by
 cases n<;>exact qU _ (Nat.succ_pos _)
theorem Hf(mask:Nat)(h:Int)(n:Nat):(pY mask h n).2=bits h / 32 ^ n:=by
 induction n with
 | zero=>rw[Nat.pow_zero,Nat.div_one];rfl
 | succ n ih=>
  show (pY mask h n).2 / 32=_;rw[ih,Nat.div_div_eq_div_mul,rE]
theorem IH(h:Int):bits h<2 ^ 64:=by
 unfold bits;have h1:=gO h (show (0:Int)<2 ^ 64 by decide);have h2:=i5 h (show (2 ^ 64:Int)≠0 by decide);lia
theorem FE(mask:Nat)(h:Int)(n:Nat):(pY mask h (13+n)).1=CL n (pY mask h 13).1 % (mask+1):=by
 induction n with
 | zero=>exact(fG (KZ mask h 13)).symm
 | succ n ih=>
  show ((pY mask h (13+n)).1*5+1+(pY mask h (13+n)).2 / 32) % (mask+1)=_;have z:(pY mask h (13+n)).2 / 32=0:=by
   rw[Hf];have:=IH h;have p:2 ^ 64<=32 ^ (13+n):=by
    rw[Nat.pow_add];exact bN (show 2 ^ 64<=32 ^ 13*1 by decide) (Nat.mul_le_mul_left _ (Nat.pow_pos (by decide)))
   rw[Nat.div_eq_of_lt (show bits h<32 ^ (13+n) by lia)]
  rw[z,ih];show _=(5*CL n (pY mask h 13).1+1) % (mask+1);rw[rF,jw,Nat.mul_mod,Nat.mod_mod,<-Nat.mul_mod,<-jw,Nat.mul_comm]
theorem vR{mask k:Nat}(hk:mask+1=2 ^ k)(h:Int){y:Nat}(hy:y<=mask):∃n,n<mask+14/\(pY mask h n).1=y:=by
 obtain⟨n,hn,e⟩:=FF k (pY mask h 13).1 y;refine⟨13+n,by lia,?_⟩;rw[FE,hk,e,<-hk,fG (by lia)]
def uX(t:SetTable):Nat->Probe->Probe
 | 0,p=>p
 | n+1,p=>uX t n (t.advance p)
def Mf(t:SetTable)(q:Nat×Nat):Probe:={ j:=q.1,more:=runEnd t.mask q.1-q.1,i:=q.1,perturb:=q.2,dummy:=none }
theorem yf(t:SetTable)(a b:Nat)(p:Probe):uX t (a+b) p=uX t b (uX t a p):=by
 induction a generalizing p with
 | zero=>rw[jK];rfl
 | succ a ih=>rw[Nat.succ_add];exact ih _
theorem GD(t:SetTable)(i per:Nat):∀(m j:Nat),uX t m { j:=j,more:=m,i:=i,perturb:=per,dummy:=none }={ j:=j+m,more:=0,i:=i,perturb:=per,dummy:=none }:=by
 intro m
 induction m with
 | zero=>intro j;rfl
 | succ m ih=>
  intro j;show uX t m (t.advance _)=_;rw[show t.advance { j:=j,more:=m+1,i:=i,perturb:=per,dummy:=none }={ j:=j+1,more:=m,i:=i,perturb:=per,dummy:=none } by unfold advance;rw[U2 (Nat.succ_pos m)];rfl,ih];rw[show j+1+m=j+(m+1) by lia]
theorem GE(t:SetTable)(h:Int)(n:Nat):uX t (runEnd t.mask (pY t.mask h n).1-(pY t.mask h n).1+1) (Mf t (pY t.mask h n))=Mf t (pY t.mask h (n+1)):=by
 rw[yf];unfold Mf;rw[GD];unfold uX uX advance;rw[U1 (de 0)];rfl
theorem Ko(t:SetTable)(h:Int)(n:Nat):∃m,m<=10*n/\uX t m (t.probeStart h)=Mf t (pY t.mask h n):=by
 induction n with
 | zero=>exact⟨0,aI _,rfl⟩
 | succ n ih=>
  obtain⟨m,hm,e⟩:=ih;refine⟨m+(runEnd t.mask (pY t.mask h n).1-(pY t.mask h n).1+1),?_,?_⟩
  .have:runEnd t.mask (pY t.mask h n).1-(pY t.mask h n).1<=9:=by unfold runEnd;split<;>lia
   lia
  .rw[yf,e,GE]
def AK(t:SetTable)(p:Probe)(m:Nat):Prop:=p.dummy=none/\t.slot (uX t m p).j=.empty
theorem vO:∀{l m:im},l.Nodup->(∀x∈l,x∈m)->l.length<=m.length
 | [],m,_,_=>ah _
 | x::l,m,nd,h=>by
  have hx:=h x aW;obtain⟨h1,h2⟩:=bW.mp nd;have:=vO (l:=l) (m:=m.erase x) h2 λy hy=>by
   have ne:y≠x:=λe=>h1 (e▸hy);exact(List.mem_erase_of_ne ne).mpr (h y (aJ _ hy))
  rw[List.length_erase_of_mem hx] at this;have hp:=List.length_pos_of_mem hx;simp only[bL];lia
theorem Bg(t:SetTable)(hd:t.dummies=#[])(hs:t.place.size<=t.mask):∃j,j<=t.mask/\t.slot j=.empty:=by
 refine iO λhno=>?_;have all:∀j∈List.range (t.mask+1),j∈t.place.toList:=λj hj=>by
  have hj':=bj.mp hj;refine iO λhn=>hno ⟨j,by lia,?_⟩;unfold slot;show (if (t.place[below t.place j]? == some j)=true then _ else if has t.dummies j=true then _ else _)=_;have e1:(t.place[below t.place j]? == some j)=false:=by
   cases e:t.place[below t.place j]? with
   | none=>rfl
   | some v=>
    have:v∈t.place.toList:=by
     rw[<-cZ] at e;exact aT e
    have ne:v≠j:=λz=>hn (z▸this);simp[ne]
  rw[e1,U1 (by decide)];have e2:has t.dummies j=false:=by rw[hd];rfl
  rw[e2,U1 (by decide)]
 have:=vO gD all;rw[dJ,bp] at this;lia
theorem yz(t:SetTable){k:Nat}(hk:t.mask+1=2 ^ k)(hd:t.dummies=#[])(hs:t.place.size<=t.mask)(h:Int):∃m,m<10*turns t.mask/\AK t (t.probeStart h) m:=by
 obtain⟨j,hj,e⟩:=Bg t hd hs;obtain⟨n,hn,en⟩:=vR hk h hj;obtain⟨m,hm,em⟩:=Ko t h n;refine⟨m,by unfold turns;lia,rfl,?_⟩;rw[em];show t.slot (pY t.mask h n).1=_;rw[en,e]
theorem Bf(t:SetTable)(hd:t.dummies=#[]){j:Nat}(h:t.slot j≠.empty):∃i,t.slot j=.live i/\i<t.place.size:=by
 unfold slot at h |-;by_cases c:(t.place[below t.place j]? == some j)=true
 .simp only[c,U7] at h |-;refine⟨_,rfl,?_⟩;have:=eq_of_beq c;exact(iA.mp this).1
 .exfalso;simp only[c] at h;rw[U1 (by decide),hd] at h;exact h rfl
theorem Bx(t:SetTable)(hd:t.dummies=#[])(hashAt:Nat->Int)(h:Int):∀(m f:Nat) (p:Probe),m<f->AK t p m->∃r,probe.go t hashAt h f p=some r/\((∃j,r=.empty j none)\/∃j i nx m',r=.candidate j i nx/\t.slot j=.live i/\i<t.place.size/\m'<m/\AK t nx m'):=by
 intro m
 induction m with
 | zero=>
  intro f p hf ⟨h1,h2⟩;obtain⟨f,rfl⟩:∃g,f=g+1:=⟨f - 1,by lia⟩
  refine⟨.empty p.j none,?_,.inl ⟨_,rfl⟩⟩;unfold probe.go;rw[show t.slot p.j=.empty from h2,h1]
 | succ m ih=>
  intro f p hf ⟨h1,h2⟩;obtain⟨f,rfl⟩:∃g,f=g+1:=⟨f - 1,by lia⟩
  unfold probe.go;have sn:AK t (t.advance p) m:=⟨by unfold advance;split<;>exact h1,h2⟩
  by_cases c:t.slot p.j=.empty
  .exact⟨.empty p.j none,by rw[c,h1],.inl ⟨_,rfl⟩⟩
  .obtain⟨i,e,hi⟩:=Bf t hd c;rw[e];dsimp only;by_cases z:(hashAt i==h)=true
   .rw[U2 z];exact⟨_,rfl,.inr ⟨_,_,_,m,rfl,e,hi,mz _,sn⟩⟩
   .rw[U1 z];obtain⟨r,e1,e2⟩:=ih f (t.advance p) (by lia) sn;refine⟨r,e1,?_⟩;rcases e2 with e2 | ⟨j,i',nx,m',a,b,c,d,e⟩
    .exact .inl e2
    .exact .inr ⟨j,i',nx,m',a,b,c,by lia,e⟩
theorem yL:∀{l:List (Option Nat)} {j v:Nat},l[j]? = some none->((l.set j (some v)).filterMap id).length=(l.filterMap id).length+1/\∀x∈(l.set j (some v)).filterMap id,x=v\/x∈l.filterMap id
 | [],j,v,h=>by simp at h
 | a::l,0,v,h=>by
  have:a=none:=by simpa using h
  subst this;refine⟨by simp,λx hx=>?_⟩;simpa using hx
 | a::l,j+1,v,h=>by
  obtain⟨h1,h2⟩:=yL (l:=l) (j:=j) (v:=v) (by simpa using h);cases a with
  | none=>
   refine⟨by simpa using h1,λx hx=>?_⟩;simpa using h2 x (by simpa using hx)
  | some a=>
   refine⟨by simp[h1],λx hx=>?_⟩;rw[List.set_cons_succ,show List.filterMap id (some a::l.set j (some v))=a::List.filterMap id (l.set j (some v)) from rfl] at hx;rw[show List.filterMap id (some a::l)=a::List.filterMap id l from rfl];rcases aL.mp hx with e | e
   .exact .inr (e▸aW)
   .rcases h2 x e with e | e
    .exact .inl e
    .exact .inr (aJ _ e)
structure Own (mask:Nat) (o:Array (Option Nat)) (k:Nat):Prop where
 sz:o.size=mask+1
 ln:(o.toList.filterMap id).length=k
 lt:∀ x∈o.toList.filterMap id,x<k
theorem Hs{mask k:Nat}(hk:mask+1=2 ^ k){o:Array (Option Nat)}{c:Nat}(O:Own mask o c)(hc:c<=mask)(h:Int):∀(m n f:Nat),m<f->(∃y,(pY mask h (n+m)).1=y/\o.toList[y]? = some none)->∃j,layClean.free mask o f (pY mask h n).1 (pY mask h n).2=some j/\o.toList[j]? = some none:=by
 intro m
 induction m with
 | zero=>
  intro n f hf ⟨y,e,hy⟩;obtain⟨f,rfl⟩:∃g,f=g+1:=⟨f - 1,by lia⟩
  unfold layClean.free;rw[rF] at e;have he:((List.range (runEnd mask (pY mask h n).1+1-(pY mask h n).1)).find? λk=>(o.getD ((pY mask h n).1+k) (some 0)).isNone).isSome=true:=by
   rw[List.find?_isSome];refine⟨0,bj.mpr (by unfold runEnd;split<;>lia),?_⟩;rw[rF,e];rw[cZ] at hy;simp[bU,hy]
  obtain⟨k',ek⟩:=iW.mp he;rw[ek];refine⟨_,rfl,?_⟩;have hp:=oK ek;rw[cZ];rw[bU] at hp;cases z:o[(pY mask h n).1+k']? with
  | none=>rw[z] at hp;simp at hp
  | some v=>rw[z] at hp;simp at hp;rw[hp]
 | succ m ih=>
  intro n f hf hy;obtain⟨f,rfl⟩:∃g,f=g+1:=⟨f - 1,by lia⟩
  unfold layClean.free;cases ek:(List.range (runEnd mask (pY mask h n).1+1-(pY mask h n).1)).find? λk=>(o.getD ((pY mask h n).1+k) (some 0)).isNone with
  | some k'=>
   refine⟨_,rfl,?_⟩;have hp:=oK ek;rw[cZ];rw[bU] at hp;cases z:o[(pY mask h n).1+k']? with
   | none=>rw[z] at hp;simp at hp
   | some v=>rw[z] at hp;simp at hp;rw[hp]
  | none=>
   exact ih (n+1) f (by lia) (by rw[show n+1+m=n+(m+1) by lia];exact hy)
theorem ye:∀(l:List (Option Nat)),(∀j:Nat,l[j]?≠some none)->(l.filterMap id).length=l.length
 | [],_=>rfl
 | none::l,h=>absurd rfl (h 0)
 | some a::l,h=>by
  rw[show List.filterMap id (some a::l)=a::List.filterMap id l from rfl,bL,bL,ye l λj=>h (j+1)]
theorem C0{mask k:Nat}(hk:mask+1=2 ^ k){o:Array (Option Nat)}{c:Nat}(O:Own mask o c)(hc:c<=mask)(h:Int):∃j,layClean.free mask o (turns mask) (bits h % (mask+1)) (bits h)=some j/\o.toList[j]? = some none:=by
 have hy:∃y,o.toList[y]? = some none:=iO λhn=>by
  have:=ye o.toList λj e=>hn ⟨j,e⟩;rw[O.ln,bp,O.sz] at this;lia
 obtain⟨y,hy⟩:=hy;have yl:y<=mask:=by
  have:=(aH.mp hy).1;rw[bp,O.sz] at this;lia
 obtain⟨n,hn,en⟩:=vR hk h yl;exact Hs hk O hc h n 0 (turns mask) (by unfold turns;lia) ⟨y,by rw[jK];exact en,hy⟩
theorem HP{mask c j:Nat}{o:Array (Option Nat)}(O:Own mask o c)(h:o.toList[j]? = some none):Own mask (o.setIfInBounds j (some c)) (c+1):=by
 have e:(o.setIfInBounds j (some c)).toList=o.toList.set j (some c):=Array.toList_setIfInBounds ..;obtain⟨h1,h2⟩:=yL (v:=c) h;refine⟨by rw[Array.size_setIfInBounds,O.sz],by rw[e,h1,O.ln],λx hx=>?_⟩;rw[e] at hx;rcases h2 x hx with e | e
 .lia
 .have:=O.lt x e;lia
theorem FK{mask k:Nat}(hk:mask+1=2 ^ k)(hs:Array Int)(hm:hs.size<=mask):∃o,layClean mask hs=some o/\Own mask o hs.size:=by
 have main:∀(l:gs) (o:Array (Option Nat)) (c:Nat),Own mask o c->c+l.length<=mask->∃o',l.foldl (λacc h=>do
   let (owner,k) <-acc
   let j <-layClean.free mask owner (turns mask) (bits h % (mask+1)) (bits h)
   pure (owner.setIfInBounds j (some k),k+1)) (some (o,c))=some (o',c+l.length)/\Own mask o' (c+l.length):=by
  intro l
  induction l with
  | nil=>intro o c O _;exact⟨o,rfl,O⟩
  | cons h l ih=>
   intro o c O hc;rw[bL] at hc;obtain⟨j,e,hj⟩:=C0 hk O (by lia) h;obtain⟨o',e',O'⟩:=ih (o.setIfInBounds j (some c)) (c+1) (HP O hj) (by lia);rw[bL,show c+(l.length+1)=c+1+l.length by lia];refine⟨o',?_,O'⟩;rw[eT,<-e'];congr 1;show (do let j <-layClean.free mask o (turns mask) (bits h % (mask+1)) (bits h);pure (o.setIfInBounds j (some c),c+1))=_;rw[e];rfl
 have O0:Own mask (Array.replicate (mask+1) none) 0:=by
  have z:(Array.replicate (mask+1) (none:Option Nat)).toList.filterMap id=[]:=by
   rw[Array.toList_replicate,List.filterMap_eq_nil_iff];intro a ha;rw[(List.mem_replicate.mp ha).2];rfl
  exact⟨by rw[Array.size_replicate],by rw[z];rfl,λx hx=>by rw[z] at hx;exact nomatch hx⟩
 obtain⟨o,e,O⟩:=main hs.toList _ 0 O0 (by rw[bp];lia);rw[jK,bp] at O e;refine⟨o,?_,O⟩;unfold layClean;rw[<-Array.foldl_toList];show Option.map _ (List.foldl _ _ _)=_;rw[e];rfl
theorem FH(o:Array (Option Nat)):∀n,((List.range n).filterMap λj=>(o.getD j none).map (j,·)).map (·.2)=(o.toList.take n).filterMap id:=by
 intro n
 induction n with
 | zero=>rfl
 | succ n ih=>
  rw[dP,oW,aX,ih,bE,oW];congr 1;have e:o.getD n none=o[n]?.getD none:=bU ..;rw[cZ];cases z:o[n]? with
  | none=>simp[c6,z]
  | some v=>cases v<;>simp[c6,z]
theorem CM{mask k:Nat}(hk:mask+1=2 ^ k)(hs:Array Int)(hm:hs.size<=mask)(fi mv:Nat)(led pl:Bool):∃t od,laid mask fi mv led pl hs=some (t,od)/\t.mask=mask/\t.dummies=#[]/\t.place.size=hs.size/\od.size=hs.size/\∀i∈od.toList,i<hs.size:=by
 obtain⟨o,e,O⟩:=FK hk hs hm;unfold laid;rw[e];have lv:=FH o (mask+1);rw[dD (by rw[bp,O.sz];exact aI _)] at lv;have ll:((List.range (mask+1)).filterMap λj=>(o.getD j none).map (j,·)).length=hs.size:=by
  rw[<-O.ln,<-lv,aA]
 refine⟨_,_,rfl,rfl,rfl,by simp only[aQ,aA];exact ll,by simp only[aQ,aA];exact ll,λi hi=>?_⟩;simp only[List.toList_toArray] at hi;rw[lv] at hi;exact O.lt i hi
theorem Jy(t:SetTable)(hd:t.dummies=#[])(j:Nat):(t.put j).1.mask=t.mask/\(t.put j).1.dummies=#[]/\(t.put j).1.place.size=t.place.size+1/\(t.put j).1.plain=t.plain:=by
 refine⟨rfl,?_,?_,rfl⟩
 .show (if has t.dummies j then eraseAt t.dummies (below t.dummies j) else t.dummies)=#[];rw[hd,U1 (show ¬has #[] j=true by intro z;cases z)]
 .show (insertAt t.place _ j).size=_;unfold insertAt;simp only[jS,oO,Array.size_extract];lia
end L2
namespace L2
open PySem PySem.Spec PyProof.Rows
section
variable {prog:Program} {w:World} {A:Around} {E:Value->Shared->Prop} {s:Shared} {K:Type} [DecidableEq K] {knd:KeyKind prog w K}
theorem Ha(n:Nat){v:Value}(h:carriedByValue v=true):ofAClassStatement n v=pure false:=by
 cases v<;>first | (unfold ofAClassStatement;rfl) | (simp[carriedByValue] at h)
theorem Cu{ks:List K}{a:Addr}{Q:Bool->Shared->Prop}(hk:IsTupleKey knd s.heap ks a)(h:Q false s):wpAny (model prog w) A (ofAClassStatement 8 (.ref a)) Q E s:=by
 have hT:=hk.typeIs;obtain⟨o,items,n,ho,hc,hd,hi⟩:=hk;unfold ofAClassStatement;exists (wpAny_typeOf hT ?_);dsimp only;rw[U2 (by decide)];exists (wpAny_pure ?_);exists (UL ho hd ?_);dsimp only;refine wpAny_bind ?_;rw[<-lh];refine UE _ (λrest r s'=>r.1=none/\s'=s/\∀v∈rest,carriedByValue v=true) _ ?_ ?_ _ _ ⟨rfl,rfl,hi.byValue⟩
 .rintro v rest r s' ⟨hr,rfl,hall⟩;rw[Ha _ (hall v aW)];exists (wpAny_pure ?_);rw[U1 (by decide)];exact wpAny_pure ⟨rfl,rfl,λu hu'=>hall u (aJ _ hu')⟩
 .rintro⟨r1,r2⟩ s' ⟨hr,rfl,_⟩;simp only at hr;subst hr;exact wpAny_pure h
def MV(knd:KeyKind prog w K)(h:Heap)(v:Value):Prop:=∃a ks,v=.ref a/\IsTupleKey knd h ks a
theorem GQ{x:Value}{ys:ag}{Q:Bool->Shared->Prop}(hx:MV knd s.heap x)(hy:∀y∈ys,MV knd s.heap y)(h:Q false s):wpAny (model prog w) A (searchCouldBeSeen x ys) Q E s:=by
 obtain⟨a,ks,rfl,ka⟩:=hx;unfold searchCouldBeSeen;refine wpAny_bind ?_;refine UE _ (λrest r s'=>r.1=none/\s'=s/\∀v∈rest,MV knd s.heap v) _ ?_ ?_ _ _ ⟨rfl,rfl,hy⟩
 .rintro v rest r s' ⟨hr,rfl,hall⟩;obtain⟨b,ls,rfl,kb⟩:=hall v aW;have go:∀{r':Option Bool×Unit},r'.1=none->(r'.1=none/\s'=s'/\∀v∈rest,MV knd s'.heap v):=λhr'=>⟨hr',rfl,λu hu'=>hall u (aJ _ hu')⟩
  dsimp only
  split
  .exact wpAny_pure (go rfl)
  .refine wpAny_bind (wpAny_eqIsQuiet_tuple ka ?_);rw[U1 (by decide)];exists (wpAny_eqIsQuiet_tuple kb ?_);rw[U1 (by decide)];exists (Cu ka ?_);rw[U1 (by decide)];exists (Cu kb ?_);rw[U1 (by decide)];exact wpAny_pure (go rfl)
 .rintro⟨r1,r2⟩ s' ⟨hr,rfl,_⟩;simp only at hr;subst hr;exact wpAny_pure h
theorem xx{M:Model}{y:Addr}{Q:Bool->Shared->Prop}(h:Q true s):wpAny M A (isSame (.ref y) (.ref y)) Q E s:=by
 unfold isSame;dsimp only;rw[U2 (beq_self_eq_true y)];exact wpAny_pure h
structure rD (knd:KeyKind prog w K) (h:Heap) (a:Addr) (ks:List (List K)) (n:Nat) (o:Obj) (es:Array (Int×Value)) (ep:Nat) (t:SetTable):Prop where
 ho:h.get? a=some o
 ex:o.ExactSet
 hd:o.data=.set es ep t
 sz:es.size=n
 pl:t.place.size=n
 du:t.dummies=#[]
 ms:t.mask=7\/t.mask=31\/t.mask=127\/t.mask=511\/t.mask=2047\/t.mask=8191
 fl:n * 5<t.mask * 3
 el:∀ e∈es.toList,∃ b k,e.2=.ref b/\k∈ks/\IsTupleKey knd h k b
theorem rD.pow{h:Heap}{a:Addr}{ks:List (List K)}{n:Nat}{o:Obj}{es:Array (Int×Value)}{ep:Nat}{t:SetTable}(T:rD knd h a ks n o es ep t):∃k,t.mask+1=2 ^ k:=by
 rcases T.ms with e | e | e | e | e | e<;>rw[e]
 .exact⟨3,rfl⟩
 .exact⟨5,rfl⟩
 .exact⟨7,rfl⟩
 .exact⟨9,rfl⟩
 .exact⟨11,rfl⟩
 .exact⟨13,rfl⟩
theorem rD.fits{h:Heap}{a:Addr}{ks:List (List K)}{n:Nat}{o:Obj}{es:Array (Int×Value)}{ep:Nat}{t:SetTable}(T:rD knd h a ks n o es ep t):t.fits es.size=true:=by
 have:=T.fl;unfold SetTable.fits SetTable.fill;rw[T.pl,T.sz,T.du];simp;lia
theorem xX(t:SetTable)(hd:t.dummies=#[]){ha:Nat->Int}{h:Int}{p:SetTable.Probe}{pr:Option SetTable.Met}(e:t.probe ha h p=pr){m:Nat}(hm:m<10*SetTable.turns t.mask)(hs:AK t p m):∃r,pr=some r/\((∃j,r=.empty j none)\/∃j i nx m',r=.candidate j i nx/\t.slot j=.live i/\i<t.place.size/\m'<m/\AK t nx m'):=by
 subst e;exact Bx t hd ha h m _ p hm hs
theorem B5{a b:Addr}{ks:List (List K)}{k:List K}{n:Nat}{o:Obj}{es:Array (Int×Value)}{ep:Nat}{t:SetTable}(hu:A.units<cLine)(T:rD knd s.heap a ks n o es ep t)(hk:k∉ks)(hb:IsTupleKey knd s.heap k b)(hh:Int){Q:SetFound->Shared->Prop}(hq:∀j,Q (.free j false) s):
  ∀(m f:Nat) (st:Option SetTable.Probe),m<f->f<=100000->m<10*SetTable.turns t.mask->AK t (st.getD (t.probeStart hh)) m->wpAny (model prog w) A (setSearchFrom a (.ref b) hh true f st) Q E s:=by
 intro m
 induction m using Nat.strongRecOn with
 | _ m ih=>
  intro f st hf hf2 hm hs;obtain⟨f,rfl⟩:∃g,f=g+1:=⟨f - 1,by lia⟩
  unfold setSearchFrom;exists (UZ T.ho T.hd T.fits ?_);dsimp only;have gw:t.gaveWay=false:=by
   unfold SetTable.gaveWay;rcases T.ms with e | e | e | e | e | e<;>rw[e]<;>rfl
  rw[gw,U1 (by decide)]
  split
  .rename_i met heq;obtain⟨r,e,hr⟩:=xX t T.du heq hm hs;cases e;rcases hr with ⟨j,rfl⟩ | ⟨j,i,nx,m',rfl,hj,hi,hm',sn⟩
   .exact wpAny_pure (hq j)
   .dsimp only;have hi':i<es.size:=by rw[T.sz,<-T.pl];exact hi
    have ei:es[i]? = some es[i]:=cQ hi';have hme:es[i]∈es.toList:=by rw[<-Array.getElem_toList];exact nE _
    obtain⟨y,ky,ey,hky,ty⟩:=T.el _ hme;have seen:∀y∈List.map (λx=>x.snd) (Array.filter (λx=>x.fst==hh) es).toList,MV knd s.heap y:=λy hy=>by
     obtain⟨e,he,rfl⟩:=aU.mp hy;have he':e∈es.toList:=by
      rw[Array.toList_filter] at he;exact(aV.mp he).1
     obtain⟨y,ky,ey,_,ty⟩:=T.el _ he';exact⟨y,ky,ey,ty⟩
    have ne:decide (ky=k)=false:=U4 λz=>hk (z▸hky);have sm:t.sameMemory t.moves t.mask=some true:=by unfold SetTable.sameMemory;rw[U2 (beq_self_eq_true _)]
    generalize es[i]=ee at ei ey;obtain⟨e1,e2⟩:=ee;cases ey
    split
    all_goals try (exists (GQ ⟨b,k,rfl,hb⟩ seen ?_);rw[U1 (by decide)])
    all_goals
     rw[ei];dsimp only;exists (Tx (wpAny_eqBool_tuple hu ty hb ?_));rw[ne];exists (UZ T.ho T.hd T.fits ?_);dsimp only;rw[U1 (by decide),sm];dsimp only;rw[U2 rfl,hj];dsimp only;rw[ei];dsimp only;exists (xx ?_);rw[U2 rfl];exists (wpAny_pure ?_);dsimp only;rw[U1 (by decide)];exact ih m' hm' f (some nx) (by lia) (by lia) (by lia) sn
  .rename_i hno;obtain⟨r,e,_⟩:=xX t T.du rfl hm hs;exact(hno r e).elim
theorem AG(b:Addr)(es:Array (Int×Value)):byScan (.ref b) es=false:=rfl
theorem JR{ks:List K}{a:Addr}{Q:Bool->Shared->Prop}(hp:∀k v,knd.is k v=true->∀n,hashByValue n v=pure true)(hk:IsTupleKey knd s.heap ks a)(h:Q true s):wpAny (model prog w) A (hashByValue 8 (.ref a)) Q E s:=by
 have hT:=hk.typeIs;obtain⟨o,items,n,ho,hc,hd,hi⟩:=hk;unfold hashByValue;exists (Ts hT F.slot_tuple_hash.lookup ?_);show wpAny _ _ (seqItems? (.ref a)>>=_) _ _ s;exists (UL ho hd ?_);refine wpAny_bind ?_;show wpAny _ _ (forIn items _ _) _ _ s;rw[<-lh];refine UE _ (λrest r s'=>r.1=none/\s'=s/\∃ls,ItemsAre knd ls rest) _ ?_ ?_ _ _ ⟨rfl,rfl,_,hi⟩
 .rintro v rest r s' ⟨hr,rfl,ls,hl⟩;cases hl with
  | cons h1 h2=>
   rw[hp _ _ h1];exists (wpAny_pure ?_);rw[U1 (by decide)];exact wpAny_pure ⟨rfl,rfl,_,h2⟩
 .rintro⟨r1,r2⟩ s' ⟨hr,rfl,_⟩;simp only at hr;subst hr;exact wpAny_pure h
theorem KU{es:Array (Int×Value)}{od:Array Nat}{e:Int×Value}(h:e∈(od.filterMap λi=>es[i]?).toList):e∈es.toList:=by
 rw[oE] at h;obtain⟨i,_,h2⟩:=l3.mp h;rw[<-cZ] at h2;exact aT h2
theorem BV{α:Type}(es:Array α):∀(l:im),(∀i∈l,i<es.size)->(l.filterMap λi=>es[i]?).length=l.length
 | [],_=>rfl
 | i::l,h=>by
  have hi:=h i aW;rw[List.filterMap_cons_some (b:=es[i]) (by simp[hi]),bL,bL,BV es l λj hj=>h j (aJ _ hj)]
theorem IsTupleKey.at{h h':Heap}{k:List K}{b:Addr}(x:IsTupleKey knd h k b)(e:∀o,h.get? b=some o->h'.get? b=some o):IsTupleKey knd h' k b:=by
 obtain⟨o',items,n',ho',hc,hd',hi⟩:=x;exact⟨o',items,n',e _ ho',hc,hd',hi⟩
theorem A8{h:Heap}{k:List K}{a b:Addr}{o:Obj}{es:Array (Int×Value)}{ep:Nat}{t:SetTable}(x:IsTupleKey knd h k b)(ho:h.get? a=some o)(hd:o.data=.set es ep t):b≠a:=by
 obtain⟨o',items,n',ho',_,hd',_⟩:=x;rintro rfl;obtain rfl:o'=o:=av (ho'.symm.trans ho);rw[hd] at hd';exact nomatch hd'
theorem Ct{a:Addr}{ks:List (List K)}{n:Nat}{o:Obj}{es:Array (Int×Value)}{ep:Nat}{t:SetTable}{Q:Unit->Shared->Prop}(ho:s.heap.get? a=some o)(ex:o.ExactSet)(hd:o.data=.set es ep t)(sz:es.size=n)(pl:t.place.size=n)(du:t.dummies=#[])(ms:t.mask=7\/t.mask=31\/t.mask=127\/t.mask=511\/t.mask=2047)(f1:t.mask*3<=n*5)(f2:(n - 1)*5<t.mask*3)
  (el:∀e∈es.toList,∃b k,e.2=.ref b/\k∈ks/\IsTupleKey knd s.heap k b)
  (hq:∀h' o' es' ep' t',Heap.SameBut a s.heap h'->rD knd h' a ks n o' es' ep' t'->Q () { s with heap:=h' }):wpAny (model prog w) A (setRelay a (SetTable.grown n)) Q E s:=by
 unfold setRelay;have fits:t.fits es.size=true:=by
  unfold SetTable.fits SetTable.fill;rw[pl,sz,du];simp;lia
 exists (UZ ho hd fits ?_);dsimp only;have big:∃m k,SetTable.sizeAbove (SetTable.grown n)=m+1/\m+1=2 ^ k/\(m=7\/m=31\/m=127\/m=511\/m=2047\/m=8191)/\n*5<m*3/\n<=2000:=by
  rcases ms with e | e | e | e | e
  .obtain rfl:n=5:=by lia
   exact⟨31,5,by symm,by decide,by decide,by decide,by decide⟩
  .obtain rfl:n=19:=by lia
   exact⟨127,7,by symm,by decide,by decide,by decide,by decide⟩
  .obtain rfl:n=77:=by lia
   exact⟨511,9,by symm,by decide,by decide,by decide,by decide⟩
  .obtain rfl:n=307:=by lia
   exact⟨2047,11,by symm,by decide,by decide,by decide,by decide⟩
  .obtain rfl:n=1229:=by lia
   exact⟨8191,13,by symm,by decide,by decide,by decide,by decide⟩
 obtain⟨m,k,e1,e2,e3,e4,e5⟩:=big;rw[U1 (by rw[e1,Tg];lia)];obtain⟨t',od,e6,e7,e8,e9,e10,e11⟩:=CM e2 (Array.map (λx=>x.fst) es) (by rw[pH,sz];lia) t.finger (t.movedTo m) t.led t.plain;rw[pH,sz] at e9 e10 e11;have rl:t.relaid (Array.map (λx=>x.fst) es) (SetTable.grown n)=some (t',od):=by
  unfold SetTable.relaid;rw[e1,Nat.add_sub_cancel];exact e6
 rw[rl];have zs:(od.filterMap λi=>es[i]?).size=es.size:=by
  rw[<-bp,oE,BV es od.toList (by rw[sz];exact e11),bp,e10,sz]
 refine wpAny_bind ?_;show wpAny _ _ (if ((od.filterMap λi=>es[i]?).size != es.size)=true then _ else _) _ _ s;rw[U1 (by rw[zs];simp)];refine wpAny_pure ?_;dsimp only;refine wpAny_storeSet_of ho hd ?_ (by rw[zs,sz,Tg];lia);have hg:(s.heap.update a (Obj.putSet (od.filterMap λi=>es[i]?) t')).get? a=some { o with data:=.set (od.filterMap λi=>es[i]?) (ep+1) t' }:=by
  have:=bq (Obj.putSet (od.filterMap λi=>es[i]?) t') ho (by rw[putSet_of _ t' hd];rfl);rw[putSet_of _ t' hd] at this;exact this
 have sb:=cf s.heap a (Obj.putSet (od.filterMap λi=>es[i]?) t');refine hq _ _ _ _ _ sb ⟨hg,ex,rfl,by rw[zs,sz],e9,e8,by rw[e7];exact e3,by rw[e7];exact e4,λe he=>?_⟩;obtain⟨b,k',x1,x2,x3⟩:=el e (KU he);exact⟨b,k',x1,x2,IsTupleKey.at x3 λo' h'=>by rw[sb.2 b (A8 x3 ho hd)];exact h'⟩
theorem JS {a b : Addr} {ks : List (List K)} {k : List K} {n : Nat} {o : Obj} {es : Array (Int × Value)} {ep : Nat} {t : SetTable} {Q : Bool → Shared → Prop} (hp : ∀ k v, knd.is k v = true → ∀ n, hashByValue n v = pure true) (hu : A.units < cLine) (T : rD knd s.heap a ks n o es ep t) (hk : k ∉ ks) (hb : IsTupleKey knd s.heap k b) (hh : Int) (hn : n + 1 < 4000)
    (hq : ∀ h' o' es' ep' t', Heap.SameBut a s.heap h' → rD knd h' a (ks ++ [k]) (n + 1) o' es' ep' t' → Q true { s with heap := h' }) : wpAny (model prog w) A (setAddHashed a (.ref b) hh) Q E s := by
  unfold setAddHashed setAddHashedIn
  refine Tx (wpAny_bind (UZ T.ho T.hd T.fits ?_))
  dsimp only
  rw [AG, U1 (by decide)]
  have fl := T.fl
  obtain ⟨k2, hk2⟩ := T.pow
  obtain ⟨m, hm, hs⟩ := yz t hk2 T.du (by rw [T.pl]; lia) hh
  have m100 : m < 100000 := by
    unfold SetTable.turns at hm
    rcases T.ms with e | e | e | e | e | e <;> rw [e] at hm <;> lia
  unfold setSearch
  exists (B5 hu T hk hb hh (fun j => ?_) m 100000 none m100 (aI _) hm hs)
  dsimp only
  exists (UZ T.ho T.hd T.fits ?_)
  dsimp only
  obtain ⟨p1, p2, p3, p4⟩ := Jy t T.du j
  have zi : (SetTable.insertAt es (t.put j).2 (hh, Value.ref b)).size = n + 1 := by
    unfold SetTable.insertAt
    simp only [jS, oO, Array.size_extract]
    have := T.sz; lia
  have mi : ∀ e ∈ (SetTable.insertAt es (t.put j).2 (hh, Value.ref b)).toList, e = (hh, Value.ref b) ∨ e ∈ es.toList := fun e he => by
    have := (SetTable.insertAt_perm es (t.put j).2 (hh, Value.ref b)).mem_iff.mp he
    rw [Array.toList_push] at this
    rcases bG.mp this with h | h
    · exact .inr h
    · exact .inl (by simpa using h)
  generalize SetTable.insertAt es (t.put j).2 (hh, Value.ref b) = es1 at zi mi |-
  generalize (t.put j).1 = t1 at p1 p2 p3 p4 |-
  rw [T.pl] at p3
  have hg : (s.heap.update a (Obj.putSet es1 t1)).get? a = some { o with data := .set es1 (ep + 1) t1 } := by
    have := bq (Obj.putSet es1 t1) T.ho (by rw [putSet_of _ t1 T.hd]; rfl)
    rw [putSet_of _ t1 T.hd] at this; exact this
  have sb := cf s.heap a (Obj.putSet es1 t1)
  have el1 : ∀ e ∈ es1.toList, ∃ b' k', e.2 = .ref b' ∧ k' ∈ ks ++ [k] ∧ IsTupleKey knd (s.heap.update a (Obj.putSet es1 t1)) k' b' := fun e he => by
    rcases mi e he with rfl | h
    · exact ⟨b, k, rfl, by simp, IsTupleKey.at hb fun o' h' => by rw [sb.2 b (A8 hb T.ho T.hd)]; exact h'⟩
    · obtain ⟨b', k', x1, x2, x3⟩ := T.el e h
      exact ⟨b', k', x1, cn _ x2, IsTupleKey.at x3 fun o' h' => by rw [sb.2 b' (A8 x3 T.ho T.hd)]; exact h'⟩
  have fin : ∀ {R : Bool → Shared → Prop}, (∀ h' o' es' ep' t', Heap.SameBut a s.heap h' → rD knd h' a (ks ++ [k]) (n + 1) o' es' ep' t' → R true { s with heap := h' }) → wpAny (model prog w) A (do
      storeSet a es1 t1
      if (!false && t1.tooFull) = true then do
          setRelay a (SetTable.grown (es.size + 1))
          pure true
        else pure true) R E s := fun {R} hR => by
    exists (wpAny_storeSet_of T.ho T.hd ?_ (by rw [zi, Tg]; lia))
    unfold SetTable.tooFull SetTable.fill
    rw [p1, p2, p3, T.sz]
    by_cases c : t.mask * 3 ≤ (n + 1) * 5
    · rw [U2 (by simpa using c)]
      exists (Ct (s := { s with heap := s.heap.update a (Obj.putSet es1 t1) }) hg T.ex rfl zi p3 p2 (by rw [p1]; rcases T.ms with e | e | e | e | e | e <;> lia) (by rw [p1]; exact c) (by rw [p1]; show (n + 1 - 1) * 5 < _; lia) el1 fun h' o' es' ep' t' s' T' => ?_)
      exact wpAny_pure (hR h' o' es' ep' t' (sb.trans s') T')
    · rw [U1 (by simpa using c)]
      exact wpAny_pure (hR _ _ _ _ _ sb ⟨hg, T.ex, rfl, zi, p3, p2, by rw [p1]; exact T.ms, by rw [p1]; lia, el1⟩)
  split
  · exists (JR hp hb ?_)
    exact fin hq
  · exists (wpAny_pure ?_)
    exact fin hq
def Ku(knd:KeyKind prog w K)(h:Heap)(items:Array Value)(kf:Nat->List K):Prop:=∀j v,items[j]? = some v->∃b,v=.ref b/\IsTupleKey knd h (kf j) b
theorem Ku.at{h h':Heap}{items:Array Value}{kf:Nat->List K}(x:Ku knd h items kf)(e:∀b k o,IsTupleKey knd h k b->h.get? b=some o->h'.get? b=some o):Ku knd h' items kf:=λj v hv=>by
 obtain⟨b,rfl,hb⟩:=x j v hv;exact⟨b,rfl,IsTupleKey.at hb λo ho=>e b _ o hb ho⟩
theorem De {h:Heap} {k:List K} {b c:Addr} {T:String} (x:IsTupleKey knd h k b) (hc:∃o,h.get? c=some o/\o.cls=.type T) (hT:T≠"tuple"):b≠c:=by
 obtain⟨o',items,n',ho',hc',_,_⟩:=x;obtain⟨o,ho,e⟩:=hc;rintro rfl;obtain rfl:o'=o:=av (ho'.symm.trans ho);rw[e] at hc';exact hT (by injection hc')
theorem EA{R:Result->Shared->Prop}{l I S:Addr}{items:Array Value}{kf:Nat->List K}(hp:∀k v,knd.is k v=true->∀n,hashByValue n v=pure true)(hh:A.in1.handled=none)(hu:A.units+8<cLine)(hne:l≠I)(hS:S≠I)(hSl:S≠l)(hn:items.size<4000)(inj:∀i j,i<j->j<items.size->kf i≠kf j):
  ∀(k i:Nat) (s:Shared),items.size-i=k->i<=items.size->s.heap.IsListIter I l i->s.heap.IsList l items->Ku knd s.heap items kf->(∃o es ep t,rD knd s.heap S ((List.range i).map kf) i o es ep t) →
   (∀s',Moved [S,I] (λa b=>b=a) s s'->(∃o es ep t,rD knd s'.heap S ((List.range items.size).map kf) items.size o es ep t)->R (.ok (.ret .none)) s') →
   codeAny (model prog w) A (.builtin "set.update.loop" ⟨[.ref S,.ref I],[]⟩) R s:=by
 have W:=(Walks.list (prog:=prog) (w:=w) (A:=A.in1) hh I l hne items).toS;intro k
 induction k with
 | zero=>
  intro i s hk hi h1 h2 hK ⟨o,es,ep,t,T⟩ hR;obtain rfl:i=items.size:=by lia
  refine UA iP ?_;rw[iB eW _];show wpAny _ A.in1 (pyNext (.ref I)>>=_) _ _ s;exists (W.done s _ _ ⟨h1,h2⟩ λs' hm=>?_);show wpAny _ A.in1 (ret Value.none) _ _ s';have keep:∀b o,b≠I->s.heap.get? b=some o->s'.heap.get? b=some o:=λb o hb e=>hm.heap b o (by simpa using hb) e;refine wpAny_pure (hR s' (hm.mono λb hb=>by simp at hb;simp[hb]) ⟨o,es,ep,t,keep _ _ hS T.ho,T.ex,T.hd,T.sz,T.pl,T.du,T.ms,T.fl,λe he=>?_⟩);obtain⟨b,k',x1,x2,x3⟩:=T.el e he;exact⟨b,k',x1,x2,IsTupleKey.at x3 λo' ho'=>keep b o' (De x3 (by obtain⟨oi,a1,a2,a3⟩:=h1;exact⟨oi,a1,a2⟩) (by decide)) ho'⟩
 | succ k ih=>
  intro i s hk hi h1 h2 hK ⟨o,es,ep,t,T⟩ hR;have hlt:i<items.size:=by lia
  refine UA iP ?_;rw[iB eW _];show wpAny _ A.in1 (pyNext (.ref I)>>=_) _ _ s;exists (W.item i s _ _ hlt ⟨h1,h2⟩ λv s' hP hst' hm=>?_);obtain⟨h1',h2'⟩:=hst';have notI:∀{k':List K} {b:Addr},IsTupleKey knd s.heap k' b->b≠I:=λx=>De x (by obtain⟨oi,a1,a2,a3⟩:=h1;exact⟨oi,a1,a2⟩) (by decide);have keep:∀b o,b≠I->s.heap.get? b=some o->s'.heap.get? b=some o:=λb o hb e=>hm.heap b o (by simpa using hb) e;have T':rD knd s'.heap S ((List.range i).map kf) i o es ep t:=⟨keep _ _ hS T.ho,T.ex,T.hd,T.sz,T.pl,T.du,T.ms,T.fl,λe he=>by
   obtain⟨b,k',x1,x2,x3⟩:=T.el e he;exact⟨b,k',x1,x2,IsTupleKey.at x3 λo' ho'=>keep b o' (notI x3) ho'⟩⟩
  have hK':Ku knd s'.heap items kf:=hK.at λb k' o' x e=>keep b o' (notI x) e;obtain⟨b,rfl,hb⟩:=hK' i v hP;show wpAny _ A.in1 (holding [Value.ref b] (setAdd S (.ref b))>>=_) _ _ s';exists (Tx ?_);unfold setAdd;refine Tx ?_;exists (wpAny_pyHash_tuple (show A.units+1<cLine by lia) hb ?_);have kn:kf i∉(List.range i).map kf:=λhm'=>by
   obtain⟨j,hj,e⟩:=aU.mp hm';exact inj j i (bj.mp hj) hlt e
  refine JS (s:={ s' with toks:=s'.toks+((kf i).length+1) }) hp (show A.units+1<cLine by lia) T' kn hb _ (by lia) λh' o2 es2 ep2 t2 sb T2=>?_;have rg:(List.range i).map kf++[kf i]=(List.range (i+1)).map kf:=by rw[dP,aX];rfl
  rw[rg] at T2;have hI:∀b o,b≠S->s'.heap.get? b=some o->h'.get? b=some o:=λb o hb' e=>by rw[sb.2 b hb'];exact e
  refine wpAny_pure ⟨UN eW _,ih (i+1) { s' with heap:=h',toks:=s'.toks+((kf i).length+1) } (by lia) hlt (h1'.at λo' e=>hI _ _ (fM hS) e) (h2'.at λo' e=>hI _ _ (fM hSl) e) (hK'.at λb k' o' x e=>hI b o' (A8 x T'.ho T'.hd) e) ⟨_,_,_,_,T2⟩ λs'' hm'' hS''=>?_⟩;refine hR s'' ⟨λb o' hb' e=>?_,hm''.gens.trans hm.gens,hm''.drawn.trans hm.drawn,hm''.os.trans hm.os,?_⟩ hS''
  .have b1:b≠S/\b≠I:=by simpa using hb'
   exact hm''.heap b o' hb' (hI b o' b1.1 (keep b o' b1.2 e))
  .have:=hm.toks;have:=hm''.toks;show s.toks<=s''.toks;simp only at this;lia
def ud (led:Bool):Obj:={ cls:=.type "set",dict:=none,data:=.set #[] 0 (.fresh 0 0 led) }
theorem Cd{l:Addr}{items:Array Value}{kf:Nat->List K}{Q:Value->Shared->Prop}(hp:∀k v,knd.is k v=true->∀n,hashByValue n v=pure true)(hh:A.handled=none)(hu:A.units+64<cLine)(hl:s.heap.IsList l items)(hK:Ku knd s.heap items kf)(hn:items.size<4000)(inj:∀i j,i<j->j<items.size->kf i≠kf j)
  (h:∀(h':Heap) (tk:Nat),(∃o es ep t,rD knd h' s.heap.objs.size ((List.range items.size).map kf) items.size o es ep t)->(∀b o,s.heap.get? b=some o->h'.get? b=some o)->s.toks<=tk->Q (.ref s.heap.objs.size) { s with heap:=h',toks:=tk }) :
  wpAny (model prog w) A (call (.type "set") [.ref l]) Q E s:=by
 obtain⟨c,tl,hmro⟩:=gP.mro;have hmade:=gP.made;have hsub:=gP.sub;refine Ti (codeAny_of_tree (show wpAny _ _ (callAny (.type "set") _) _ _ _ from wpAny_pure ⟨ig _ (by symm),UA F.entry_type_call ?_⟩));rw[Around.under_plain (weight_type_call_type "set" [.ref l] []) rfl];have h1:=gP.notType;have h2:=gP.canCreate;have hct:=F.typeCall_set_1 (.ref l)
 repeat (any_goals (first | assumption | wp_step))
 refine Tj (code_set_new_1 (.ref l) (E:=E) (Q₁:=λv s1=>∃led,v=.ref s.heap.objs.size/\s1={ s with heap:=s.heap.push (ud led) }) λled=>⟨led,rfl,rfl⟩) λr s1 hr=>?_;cases r with
 | error e=>exact hr
 | ok fl=>
 cases fl with
 | ret v=>
  obtain⟨led,rfl,rfl⟩:=hr;have hS:(s.heap.push (ud led)).get? s.heap.objs.size=some (ud led):=aP _ rfl;have hT:Shared.TypeIs { s with heap:=s.heap.push (ud led) } (.ref s.heap.objs.size) "set":=⟨_,hS,rfl⟩
  have hli:=gP.init.lookup;have hbi:=gP.init.bind (.ref s.heap.objs.size)
  repeat (any_goals (first | assumption | wp_step))
  refine Tj (codeAny_call_builtin (R:=wants (λr s2=>r=.none/\∃h' tk,s2={ s with heap:=h',toks:=tk }/\(∃o es ep t,rD knd h' s.heap.objs.size ((List.range items.size).map kf) items.size o es ep t)/\(∀b o,s.heap.get? b=some o->h'.get? b=some o)/\s.toks<=tk) E) gP.init.plain F.entry_set_init (check_set_init_1 hT ?_)) λr2 s2 hr2=>?_
  .have hl1:(s.heap.push (ud led)).IsList l items:=hl.push _;obtain⟨ol,hol,hcl,nl,hdl⟩:=hl;have lS:l<s.heap.objs.size:=aN hol;obtain⟨ocls,odict,odata,oslots⟩:=ol;simp only at hcl hdl;subst hcl hdl;have hol':(s.heap.push (ud led)).get? l=some { cls:=.type "list",dict:=odict,data:=.seq items nl,slots:=oslots }:=aB _ hol;have hsls:=F.sub_list_set;have hslf:=F.sub_list_frozenset;have hne:(Value.type "list"==Value.type "dict")=false:=by decide
   unfold Builtin.«set.__init__» noKeywords Builtin.Frozenset.updateFrom;generalize hPI:pyIter=PI
   wp_walk
   subst hPI;refine Tp hl1 ?_;exists (wpAny_runValue ?_);have sz:(s.heap.push (ud led)).objs.size=s.heap.objs.size+1:=dN ..;have g0:((s.heap.push (ud led)).push { cls:=.type "list_iterator",data:=.fields #[.ref l,.int 0 0] }).get? s.heap.objs.size=some (ud led):=aB _ hS;refine EA (A:=A.in1.in1) hp hh (show A.units+1+1+8<cLine by lia) (by rw[sz];exact a6 (dI lS)) (by rw[sz];exact a6 (mz _)) (iH lS) hn inj (items.size - 0) 0 _ (by lia) (ah _) ⟨_,aP _ rfl,rfl,rfl⟩ (hl1.push _) (hK.at λb k o _ e=>aB _ (aB _ e)) ⟨_,_,_,_,g0,⟨rfl,rfl,rfl⟩,rfl,rfl,rfl,rfl,.inl rfl,by show 0*5<7*3;decide,λe he=>nomatch he⟩ λs' hm hS'=>?_;obtain⟨h',g',d',tk',os'⟩:=s';have eg:g'=s.gens:=hm.gens;have ed:d'=s.drawn:=hm.drawn;have eo:os'=s.os:=hm.os;subst eg ed eo;refine wpAny_pure (show wpAny _ _ (ret Value.none) _ _ _ from wpAny_pure ⟨rfl,h',tk',rfl,hS',λb o e=>?_,hm.toks⟩);have hb:=aN e;refine hm.heap b o ?_ (aB _ (aB _ e));have e1:b≠s.heap.objs.size:=a6 hb;have e2:b≠(s.heap.push (ud led)).objs.size:=by rw[sz];exact a6 (dI hb)
   exact λhm'=>by
    rcases aL.mp hm' with z | z
    .exact e1 z
    .exact e2 (eJ.mp z)
  .cases r2 with
   | error e=>exact hr2
   | ok fl2=>
    cases fl2 with
    | ret r=>
     obtain⟨rfl,h',tk,rfl,x1,x2,x3⟩:=hr2
     repeat (any_goals (first | assumption | wp_step))
     exact h _ _ x1 x2 x3
    | _=>exact hr2.elim
 | _=>exact hr.elim
end
section
variable {X:Cx}
theorem K9{prog:Program}{w:World}:∀(k:Int) (v:Value),(intKind prog w).is k v=true->∀n,hashByValue n v=pure true:=λk v h n=>by
 obtain⟨t,rfl⟩:=Value.isInt_shape h;cases n<;>rfl
theorem E8 {α β : Type} {F : α → β → Prop} {l : List α} {m : List β} (h : Paired F l m) : ∀ {i : Nat} {a : α}, l[i]? = some a → ∃ b, m[i]? = some b ∧ F a b := by
  induction h with
  | nil => intro i a e; simp at e
  | @cons x y l m hx _ ih =>
    intro i a e
    cases i with
    | zero => have : x = a := by simpa using e
              subst this; exact ⟨y, rfl, hx⟩
    | succ i => exact ih (by simpa using e)
def Aa(te:TE):TE:=λZ H Q=>te Z H λx H1=>∃(l:Addr) (cs:List Rm.Bw),x=.ref l/\Rm.BowsAt H1 l cs/\cs.Nodup/\cs.length<4000/\Q (.int cs.length) H1
theorem zM {e : Expr} {te : TE} {p p2 pos2 pos : Pos} (hc : X.calm = true) (hu : X.A.units + 64 < cLine) (hgl : Gl X "len") (hml : X.mg "len" = none) (hgr : Gl X "set") (hmr : X.mg "set" = none) (he : QE X e te)
  (hs : starEach [.Call (.Name "set" p2) [e] [] pos2] X.env = [(false, eval (.Call (.Name "set" p2) [e] [] pos2) X.env)] := by rfl) (hs2 : starEach [e] X.env = [(false, eval e X.env)] := by rfl) : QE X (.Call (.Name "len" p) [.Call (.Name "set" p2) [e] [] pos2] [] pos) (Aa te) := ⟨by
  have he := he.h
  intro pins s Z H Q I h
  refine Tl (jE I hgl hml aY ?_)
  refine gB ?_ hs rfl
  rw [hs]
  show wpAny _ _ (spliced ((false, eval (.Call (.Name "set" p2) [e] [] pos2) X.env) :: [])) _ _ s
  refine gQ (Tl (jE I hgr hmr (show bootBuiltins "set" = some (.type "set") by symm) (bu ?_ hs2 rfl)))
  rw [hs2]
  show wpAny _ _ (spliced ((false, eval e X.env) :: [])) _ _ s
  refine gQ (dw (he pins s Z H _ I h) fun u s1 ⟨x, H1, I1, r1, l, cs, ex, ⟨as, hl, pr⟩, nd, h4, q⟩ => ?_)
  subst ex
  cases r1
  obtain ⟨hz, its, n, rv, hlen, ho⟩ := I1.lstM hl
  have hL : s1.heap.IsList l its.toArray := ⟨_, ho, rfl, n, rfl⟩
  have hcs := bK pr
  rw [aA] at hlen
  have hK : Ku (intKind X.prog X.w) s1.heap its.toArray fun j => match cs[j]? with | some c => [c.1, c.2] | none => [] := fun j v hv => by
    have hv' : its[j]? = some v := by simpa using hv
    have hj : j < as.length := by
      have := (aH.mp hv').1; lia
    have ha : (as.map V.ref)[j]? = some (.ref as[j]) := by rw [aR, aE hj]; rfl
    obtain ⟨c, hcj, ht⟩ := E8 pr (aE hj)
    have r := wn rv ha hv'
    cases r
    refine ⟨_, rfl, ?_⟩
    obtain ⟨it2, rv2, ⟨o, g1, g2, n2, g3⟩, _⟩ := I1.tuple (cj.of (K := X.K) ht)
    dsimp only
    rw [hcj]
    obtain ⟨u1, u2, rfl, r1, r2⟩ := vals2 rv2
    obtain ⟨t1, rfl⟩ := r1
    obtain ⟨t2, rfl⟩ := r2
    exact ⟨o, _, n2, g1, g2, g3, .cons (intKind_is _ _ _ _) (.cons (intKind_is _ _ _ _) .nil)⟩
  refine gg (Cd (knd := intKind X.prog X.w) K9 (I1.ok.hd hc) hu hL hK (by simp; lia) ?_ fun h' tk ⟨o, es, ep, t, T⟩ kp tl => gg ?_)
  · intro i j hij hj e
    have hj' : j < cs.length := by simp at hj; lia
    rw [aE hj', aE (show i < cs.length by lia)] at e
    dsimp only at e
    have e1 : cs[i] = cs[j] := by
      injection e with a1 a2; injection a2 with a3 a4
      exact fZ a1 a3
    exact (dy.mp nd) i j (by lia) hj' hij e1
  · have sz := T.sz
    have ec : its.toArray.size = cs.length := by simp; lia
    rw [ec] at sz
    refine call_len_set T.ho T.ex T.hd T.fits (by rw [sz]; have : (cs.length : Int) < 4000 := by lia
                                                  exact Int.lt_trans this (by decide)) ?_
    rw [sz]
    exact ⟨.int cs.length, H1, (I1.kept (t' := tk) kp).tok _, ⟨_, rfl⟩, q⟩⟩
theorem DL{te:TE}{Z:St}{H:Hp}{Q:VK}:Aa te Z H Q=te Z H λx H1=>∃(l:Addr) (cs:List Rm.Bw),x=.ref l/\Rm.BowsAt H1 l cs/\cs.Nodup/\cs.length<4000/\Q (.int cs.length) H1:=rfl
end
structure QB (X:Cx) (body:List Stmt) (tb:XK->TS):Prop where
 h:∀ (pins:List (Addr×Obj)) (s:Shared) (Z:St) (H:Hp) (D:Ends) (E:XK),bc X pins Z H s->tb E D Z H->wpAny (model X.prog X.w) X.A (execs body X.env) (SP X pins D) (fun ev s'=>∃ H1 s1,bc X pins Z H1 s1/\rG X.prog X.w X.stack H1 s1 E ev s') s
structure GJ (X:Cx) (pins:List (Addr×Obj)) (Z:St) (a C t0:Addr) (dO:Option Addr) (H2:Hp) (s':Shared) (h3:Heap):Prop where
 ex:∃ (B:Heap) (H1:Hp) (s1:Shared),bc X pins Z H1 s1/\s'.os=s1.os/\AllBare s'.gens/\Un (lq X.stack) [] H1 H2 s1.heap s'.heap/\p7 X.prog X.w H2 s'.heap/\B.FlyingW X.stack a (.ref C) (.ref t0) s'.heap/\NT B s1.heap H2 X.stack/\B.FlyingW (X.env::X.outer) a (.ref C) (.ref t0) h3/\s'.heap.UpToSlots h3/\yi dO a h3
abbrev TH:=Ends->St->Addr->Option Addr->Hp->Prop
structure QH (X:Cx) (hs:List ExceptHandler) (th:TH):Prop where
 h:∀ (pins:List (Addr×Obj)) (Z:St) (D:Ends) (a C t0:Addr) (dO:Option Addr) (H2:Hp) (s':Shared) (h3:Heap),GJ X pins Z a C t0 dO H2 s' h3->H2 a=none->th D Z C dO H2->wpAny (model X.prog X.w) X.A (handleBy (.ref a) X.env hs) (SP X pins D) X.xe { s' with heap:=h3 }
def MP:TH:=λ_ _ _ _ _=>False
def JJ(K:U9)(c:Value)(ts:Addr->TS)(th:TH):TH:=λD Z C dO H2=>(W.exmOne K (.ref C) c=some true/\∀a,H2 a=none->ts a D Z (upd H2 a (jv dO C a)))\/(W.exmOne K (.ref C) c=some false/\th D Z C dO H2)
def Na(K:U9)(c:Value)(i:Nat)(ts:Addr->TS)(th:TH):TH:=λD Z C dO H2=>(W.exmOne K (.ref C) c=some true/\∀a,H2 a=none->ts a { nx:=λZ' H'=>D.nx (Z'.set i none) H',rt:=D.rt,bk:=λZ' H'=>D.bk (Z'.set i none) H',ct:=λZ' H'=>D.ct (Z'.set i none) H' } (Z.set i (some (.ref a))) (upd H2 a (jv dO C a)))\/(W.exmOne K (.ref C) c=some false/\th D Z C dO H2)
section
variable {X:Cx}
theorem EX:QH X [] MP:=⟨λ_ _ _ _ _ _ _ _ _ _ _ _ h=>h.elim⟩
theorem GJ.inv{pins:List (Addr×Obj)}{Z:St}{a C t0:Addr}{dO:Option Addr}{H2:Hp}{s':Shared}{h3:Heap}(hst:X.stack=X.env::X.outer)(L:GJ X pins Z a C t0 dO H2 s' h3):bc X pins Z (upd H2 a (jv dO C a)) { s' with heap:=h3 }/\∃oe,h3.get? a=some oe/\oe.cls=.ref C:=by
 obtain⟨B,H1,s1,I1,os,bare,un,hok,fl,mO,fl3,up3,ct3⟩:=L.ex;have fl3':=fl3;rw[<-hst] at fl3';exact⟨I1.land (E:=E0) os bare un hok fl mO fl3' up3 ct3,Heap.FlyingW.there fl3⟩
theorem JE {cx n:Str} {c:Value} {i:Nat} {b₀:Stmt} {suite:List Stmt} {ts:Addr->TS} {th:TH} {hs:List ExceptHandler} {np hpos:Pos} (hst:X.stack=X.env::X.outer) (hgc:Gl X cx) (hmc:X.mg cx=some c) (hN:X.N.Nodup) (hi:X.N[i]? = some n) (hl:X.env.scope.names.lookup n=some .local) (hsu:∀a,jW (X.exc a) (b₀::suite) (ts a)) (hh:QH X hs th) (hdc:(cx==("__debug__":Str))=false:=by decide) :
  QH X (.ExceptHandler (some (.Name cx np)) (some n) (b₀::suite) hpos::hs) (Na X.K c i ts th):=⟨by
 intro pins Z D a C t0 dO H2 s' h3 L Hn hq;obtain⟨I3,oe,e1,e2⟩:=L.inv hst;refine wpAny_handleBy_cons (codeAny_handlers_test (jh (X:=X.exc a) (I3.exc a) hgc hmc ?_ hdc)) (λz=>nomatch z);rcases hq with ⟨hx,q⟩ | ⟨hx,q⟩
 .refine kF (K:=X.K) (h:=h3) (cls:=.ref C) I3.kIn (λA Q E s k hq=>U0 (k _ _ e1) (by rw[e2];exact hq)) hx _ _ _ _ (λb o e=>e) ?_;obtain⟨B,H1,s1,I1,os,bare,un,hok,fl,mO,fl3,up3,ct3⟩:=L.ex;refine codeAny_handlers_suite_as (i6 (fF.flight (e:=a)) ct3 (lands_againW fl3 λh4 fl4 up4 ct4=>?_));have fl4':=fl4;rw[<-hst] at fl4';have I4:bc X pins Z (upd H2 a (jv dO C a)) { s' with heap:=h4 }:=I1.land (E:=E0) os bare un hok fl mO fl4' (UpToSlots.trans up3 up4) ct4;refine tI I4 hN hi (.inl hl) (show RelV (.ref a) (.ref a) from rfl) (λs5 I5=>?_) (.inr hl);refine wpAny_mono ((hsu a).h pins s5 _ _ _ (I5.exc a) (q a Hn)) (λfw s6 h6=>?_) (λ_ _ z=>False.elim z);cases fw with
  | next=>obtain⟨Z6,H6,I6,q6⟩:=h6;exact sr (I6.unexc I1.ok) hN hi hl λs7 I7=>⟨_,_,I7,q6⟩
  | brk=>obtain⟨Z6,H6,I6,q6⟩:=h6;exact sr (I6.unexc I1.ok) hN hi hl λs7 I7=>⟨_,_,I7,q6⟩
  | cont=>obtain⟨Z6,H6,I6,q6⟩:=h6;exact sr (I6.unexc I1.ok) hN hi hl λs7 I7=>⟨_,_,I7,q6⟩
  | ret u=>obtain⟨v6,Z6,H6,I6,r6,q6⟩:=h6;exact sr (I6.unexc I1.ok) hN hi hl λs7 I7=>⟨v6,_,_,I7,r6,q6⟩
 .refine kF (K:=X.K) (h:=h3) (cls:=.ref C) I3.kIn (λA Q E s k hq=>U0 (k _ _ e1) (by rw[e2];exact hq)) hx _ _ _ _ (λb o e=>e) ?_;exact hh.h pins Z D a C t0 dO H2 s' h3 L Hn q⟩
def Ik(tb:XK->TS)(th:TH):TS:=λD Z H=>tb (λcls dO H2=>∃C,cls=Value.ref C/\th D Z C dO H2) D Z H
theorem xU{body:List Stmt}{h₀:ExceptHandler}{hs:List ExceptHandler}{tb:XK->TS}{th:TH}{pos:Pos}(hst:X.stack=X.env::X.outer)(hfr:X.env.frame=some X.env.locals)(hb:QB X body tb)(hh:QH X (h₀::hs) th):QS X (.Try body (h₀::hs) [] [] pos) (Ik tb th):=⟨by
 intro pins s Z H D I h;refine wpAny_Try_except (wpAny_mono (hb.h pins s Z H D _ I h) (λf s1 h1=>?_) λev s' ⟨H1,s1,I1,hx⟩=>?_)
 .cases f with
  | next=>exact US h1
  | brk=>exact h1
  | cont=>exact h1
  | ret u=>exact h1
 .obtain⟨a,C,t0,H2,B,dO,rfl,os,bare,un,hok,fl,mO,ct,C',eC,q⟩:=hx;cases eC;have Hn:H2 a=none:=by
   cases z:H2 a with
   | none=>rfl
   | some u=>
    obtain⟨o,e'⟩:=mO.trk a u z;rw[fl.2.1] at e';cases e'
  have fl':=fl;rw[hst] at fl';refine i6 (fF.note (e:=a)) ct ?_;refine wpAny_looks_onW (base:=B) (env:=X.env) (outer:=X.outer) (by rw[I.ok.frames,hst]) hfr fl' λh2 held up2 ct2=>?_;refine i6 (fF.flight (e:=a)) ct2 ?_;refine wpAny_landsW held λh3 fl3 up3 ct3=>?_;exact hh.h pins Z D a C t0 dO H2 s' h3 ⟨B,H1,s1,I1,os,bare,un,hok,fl,mO,fl3,UpToSlots.trans up2 up3,ct3⟩ Hn q⟩
theorem Fw{k:Nat}{st:Stmt}{ps:List Str}{sp:Sp}{x:Str}{e:Expr}{es:lc}{t:TA}{p cpos:Pos}{pins:List (Addr×Obj)}{s:Shared}{Z:St}{H:Hp}{Q:VK}{E:XK}(Df:uq X.prog X.w X.K X.mg X.base k x st ps sp)(hr:fj k X.A)(hg:Gl X x)(ha:QA X.nox (e::es) t)(I:bc X pins Z H s)(h:t Z H λvs H1=>sp vs H1 Q E)
  (hdb:(x==("__debug__":Str))=false) (he:starEach (e::es) X.env=(false,eval e X.env)::starEach es X.env) (hpl:(backTo cpos (starEach es X.env)).any (·.1)=false) :
  wpAny (model X.prog X.w) X.A (eval (.Call (.Name x p) (e::es) [] cpos) X.env) (EP X pins Z Q) (λev s'=>∃H1 s1,bc X pins Z H1 s1/\rG X.prog X.w X.stack H1 s1 E ev s') s:=by
 obtain⟨f,fd,Fu,hm,hb,F⟩:=Df.ex;have hk:=Fu.kp;refine Tl (jh I hg hm ?_ hdb);refine ic (h₀:=X.base) I.ok.mod.kin hk (wpAny_mono (ha.h cpos pins s Z H _ (I.wish _) h) (λus s1 ⟨vs,H1,I1,r,q⟩=>⟨I1.kIn,?_⟩) λ_ _ z=>False.elim z) he hpl;have I1:=I1.unwish;have r2:cH (vs++[]) (us++[]):=r.append .nil;have q2:sp (vs++[]) H1 Q E:=by rw[cE];exact q
 have hlen:(us++[]).length=ps.length:=by rw[<-r2.length];exact F.len _ _ _ _ q2
 refine Ti (Tj (F.run X.A X.stack s1 H1 ⟨us,[]⟩ (us++[]) (vs++[]) _ E hr I1.env0 (hb s1 us I1.kIn hlen) r2 q2) λr s' hq=>?_);cases r with
 | error ev=>exact⟨H1,s1,I1,hq⟩
 | ok fl=>
  cases fl with
  | ret u=>exact I1.after hq
  | next=>exact False.elim hq
  | brk=>exact False.elim hq
  | cont=>exact False.elim hq
section
variable {k:Nat}{st:Stmt}{ps:List Str}{sp:Sp}{x:Str}{e:Expr}{es:lc}{t:TA}{p cpos:Pos}
def JO(sp:Sp)(t:TA):XK->TS:=λE D Z H=>t Z H λvs H1=>sp vs H1 (λ_ H2=>D.nx Z H2) E
def NL(sp:Sp)(j:Nat)(t:TA):XK->TS:=λE D Z H=>t Z H λvs H1=>sp vs H1 (λv H2=>D.nx (Z.set j (some v)) H2) E
def NJ(sp:Sp)(z:Str)(t:TA):XK->TS:=λE D Z H=>t Z H λvs H1=>sp vs H1 (λv H2=>∀q,H2 q=none->D.rt (.ref q) (upd H2 q (.tup [.str z,v]))) E
def NK(sp:Sp)(z:Str)(t:TA):XK->TS:=λE D Z H=>t Z H λvs H1=>sp vs H1 (λv H2=>∀q,H2 q=none->D.rt (.ref q) (upd H2 q (.lst [.str z,v]))) E
theorem Az{epos:Pos}(Df:uq X.prog X.w X.K X.mg X.base k x st ps sp)(hr:fj k X.A)(hg:Gl X x)(ha:QA X.nox (e::es) t)
  (hdb:(x==("__debug__":Str))=false:=by decide) (he:starEach (e::es) X.env=(false,eval e X.env)::starEach es X.env:=by rfl) (hpl:(backTo cpos (starEach es X.env)).any (·.1)=false:=by rfl):QB X [.Expr (.Call (.Name x p) (e::es) [] cpos) epos] (JO sp t):=⟨λpins s Z H D E I h=>
 UT (wpAny_Expr_any (wpAny_mono (Fw Df hr hg ha I h hdb he hpl) (by rintro v s1 ⟨_,H1,I1,_,q⟩;exact US ⟨_,H1,I1,q⟩) λ_ _ z=>z) I.quiet (by rfl))⟩
end
end
section
variable {Z:St}{H H2:Hp}{D:Ends}{E:XK}{C:Addr}{dO:Option Addr}{K:U9}{c:Value}{sp:Sp}{t:TA}{ts:Addr->TS}{th:TH}{tb:XK->TS}{z:Str}{i j:Nat}
theorem JV:Ik tb th D Z H=tb (λcls dO H2=>∃C,cls=Value.ref C/\th D Z C dO H2) D Z H:=rfl
theorem JZ:MP D Z C dO H2=False:=rfl
theorem GW:JJ K c ts th D Z C dO H2=((W.exmOne K (.ref C) c=some true/\∀a,H2 a=none->ts a D Z (upd H2 a (jv dO C a)))\/(W.exmOne K (.ref C) c=some false/\th D Z C dO H2)):=rfl
theorem LZ:Na K c i ts th D Z C dO H2=((W.exmOne K (.ref C) c=some true/\∀a,H2 a=none->ts a { nx:=λZ' H'=>D.nx (Z'.set i none) H',rt:=D.rt,bk:=λZ' H'=>D.bk (Z'.set i none) H',ct:=λZ' H'=>D.ct (Z'.set i none) H' } (Z.set i (some (.ref a))) (upd H2 a (jv dO C a)))\/(W.exmOne K (.ref C) c=some false/\th D Z C dO H2)):=rfl
theorem Gd:JO sp t E D Z H=t Z H λvs H1=>sp vs H1 (λ_ H2=>D.nx Z H2) E:=rfl
theorem Jd:NL sp j t E D Z H=t Z H λvs H1=>sp vs H1 (λv H2=>D.nx (Z.set j (some v)) H2) E:=rfl
theorem Jb:NJ sp z t E D Z H=t Z H λvs H1=>sp vs H1 (λv H2=>∀q,H2 q=none->D.rt (.ref q) (upd H2 q (.tup [.str z,v]))) E:=rfl
theorem Jc:NK sp z t E D Z H=t Z H λvs H1=>sp vs H1 (λv H2=>∀q,H2 q=none->D.rt (.ref q) (upd H2 q (.lst [.str z,v]))) E:=rfl
end
end L2
namespace Rm
open PySem L2 PyProof.Rows
def top(i:Nat):Stmt:=PySem.Challenge.pw_ringmaze_k12_whole_walked_to_the_middle.main.body.getD i (.Pass ⟨0,0,0,0⟩)
abbrev lI:Stmt:=top 1
theorem jo:be ["bows","a","b","c","d"] Ug (bB lI):=by ac_rfl
abbrev tR:Stmt:=top 2
theorem Gp:be ["bow"] ["bow"] (bB tR):=by ac_rfl
abbrev iS:Stmt:=top 3
theorem tO:be Uk Uk (bB iS):=by ac_rfl
abbrev j8:Stmt:=top 4
theorem nT:be ["bows","known","bow","inner"] Ug (bB j8):=by ac_rfl
abbrev lF:Stmt:=top 20
theorem xL:be Ue Ue (bB lF):=by ac_rfl
abbrev mS:Stmt:=top 21
theorem zB:be Ue Ue (bB mS):=by ac_rfl
abbrev lG:Stmt:=top 22
theorem xM:be Ue Ue (bB lG):=by ac_rfl
abbrev mT:Stmt:=top 23
theorem zC:be Ue Ue (bB mT):=by ac_rfl
abbrev iy:Stmt:=top 25
theorem ue:be ["side"] ["side"] (bB iy):=by ac_rfl
abbrev gk:Stmt:=top 26
theorem oG:be ["maze","step","side"] ["maze","step"] (bB gk):=by ac_rfl
abbrev iR:Stmt:=top 27
theorem oh:be ["maze","order"] Ud (bB iR):=by ac_rfl
abbrev kh:Stmt:=top 28
theorem lC:be ["maze","rows","told","step","bow"] Ud (bB kh):=by ac_rfl
abbrev mW:Stmt:=top 29
theorem nU:be ["maze","side","bows","found"] Ud (bB mW):=by ac_rfl
abbrev xO:Stmt:=top 30
theorem EB:be ["maze","found"] Ud (bB xO):=by ac_rfl
abbrev j7:Stmt:=top 36
theorem zA:be ["row"] ["row"] (bB j7):=by ac_rfl
abbrev fX:Stmt:=top 37
theorem qH:be Ug Ug (bB fX):=by ac_rfl
abbrev mY:Stmt:=top 38
theorem pO:be ["bows","columns","told","bow","column"] Ul (bB mY):=by ac_rfl
abbrev gl:Stmt:=top 39
theorem sF:be Uh Uh (bB gl):=by ac_rfl
abbrev gS:Stmt:=top 40
theorem rO:be Uh Uh (bB gS):=by ac_rfl
abbrev jA:Stmt:=top 41
theorem je:be ["grid","bows","columns","a","b","line"] Ur (bB jA):=by ac_rfl
abbrev iT:Stmt:=top 42
theorem lB:be ["grid","rings","lefts","rights","ring","column"] Us (bB iT):=by ac_rfl
abbrev tT:Stmt:=top 43
theorem Gs:be Um Um (bB tT):=by ac_rfl
abbrev pQ:Stmt:=top 44
theorem jn:be ["maze","rings","bows","most_left","most_right","lefts","rights","grid"] Ud (bB pQ):=by ac_rfl
abbrev mX:Stmt:=top 46
theorem zD:be Uo Uo (bB mX):=by ac_rfl
abbrev vE:Stmt:=top 47
theorem EC:be ["_law_seed","_law_k","_law_number"] Up (bB vE):=by ac_rfl
abbrev om:Stmt:=top 48
theorem ip:be ["_law_cell","_law_base","_law_many","_law_rest","_law_found","_law_k","_law_digit"] Ut (bB om):=by ac_rfl
abbrev lE:Stmt:=top 49
theorem fW:be ["_law_cell","_law_room","_law_many","_law_rest","_law_pool","_law_order","_law_k","_law_digit"] Uu (bB lE):=by ac_rfl
abbrev xP:Stmt:=top 50
theorem zE:be ["_law_open_ends","_law_letter","_law_near","_law_far"] Uv (bB xP):=by ac_rfl
abbrev vD:Stmt:=top 51
theorem oj:be ["_law_open_ends","_law_found","_law_letter","_law_row","_law_near","_law_far","_law_ends","_law_piece","_law_side","_law_k"] Uq (bB vD):=by ac_rfl
abbrev qh:Stmt:=top 52
theorem iQ:be ["_law_open_ends","_law_found","_law_row","_law_near","_law_far","_law_ends","_law_target","_law_letter"] Uw (bB qh):=by ac_rfl
abbrev tS:Stmt:=top 53
theorem Gq:be ["_law_many"] ["_law_many"] (bB tS):=by ac_rfl
abbrev mV:Stmt:=top 54
theorem ku:be ["_law_open_ends","_law_row","_law_digit","_law_many","_law_found","_law_letter","_law_after"] Ux (bB mV):=by ac_rfl
abbrev qg:Stmt:=top 55
theorem kt:be ["_law_side","_law_digits_here","_law_open_ends","_law_found","_law_row","_law_digit","_law_letters"] Ui (bB qg):=by ac_rfl
abbrev lD:Stmt:=top 56
theorem fV:be ["_law_side","_law_found","_law_order","_law_row","_law_k","_law_last","_law_bow","_law_after"] Uy (bB lD):=by ac_rfl
abbrev lH:Stmt:=top 57
theorem xN:be Ui Ui (bB lH):=by ac_rfl
abbrev tU:Stmt:=top 58
theorem pP:be ["_law_maze","_law_rows","_law_found","_law_k","_law_j"] ["_law_maze"] (bB tU):=by ac_rfl
abbrev iz:Stmt:=top 59
theorem mF:be ["_law_bows_here","_law_one","_law_other"] ["_law_bows_here"] (bB iz):=by ac_rfl
abbrev tQ:Stmt:=top 60
theorem kX:be ["_law_lines","_law_steps","_law_k","_law_j","_law_ahead","_law_at","_law_further","_law_cell"] ["_law_lines"] (bB tQ):=by ac_rfl
abbrev mU:Stmt:=top 61
theorem kq:be ["_law_e","_law_due","_law_told","_law_k"] Uz (bB mU):=by ac_rfl
abbrev mQ:Stmt:=top 62
theorem ko:be ["_law_maze","_law_bows_here","_law_e","_law_told","_law_some"] Va (bB mQ):=by ac_rfl
abbrev qf:Stmt:=top 63
theorem qe:be ["_law_steps","_law_rings_here","_law_k","_law_ring"] ["_law_steps"] (bB qf):=by ac_rfl
abbrev rz:Stmt:=top 64
theorem mE:be ["_law_script","_law_side","_law_cell","_law_maze","_law_bows_here","_law_text","_law_lines","_law_steps","_law_cells"] Uj (bB rz):=by ac_rfl
abbrev gT:Stmt:=L2.NF (top 8)
theorem tP:be ["self","bows"] ["self","bows"] (bB gT):=by ac_rfl
structure qV (mg:Str->bt):Prop where
 len:mg "len"=none
 range:mg "range"=none
 enumerate:mg "enumerate"=none
 int:mg "int"=none
 list:mg "list"=none
 tuple:mg "tuple"=none
 isinstance:mg "isinstance"=none
 str:mg "str"=none
 bool:mg "bool"=none
 sorted:mg "sorted"=none
 all:mg "all"=none
 any:mg "any"=none
 zip:mg "zip"=none
 max:mg "max"=none
 min:mg "min"=none
 reversed:mg "reversed"=none
 ValueError:mg "ValueError"=none
 set:mg "set"=none
 sum:mg "sum"=none
 MOST_RINGS:∃ t,mg "MOST_RINGS"=some (.int 20 t)
 WALL:∃ t,mg "WALL"=some (.str (Str.ofString "#") t)
 OPEN_CELL:∃ t,mg "OPEN_CELL"=some (.str (Str.ofString ".") t)
 MOUTH:∃ t,mg "MOUTH"=some (.str (Str.ofString "v") t)
 MIDDLE:∃ t,mg "MIDDLE"=some (.str (Str.ofString "@") t)
local macro_rules | `(tactic| nofun) => `(tactic| (try dsimp (maxSteps := 3000000) only [L2.Cz, L2.NW, L2.LQ, L2.LJ, L2.Ii, L2.NX, L2.DC, L2.LK, L2.w_and, L2.w_or, L2.w_not, L2.D4, L2.I9, L2.DJ, L2.LY, L2.IY, L2.w_next, L2.Ig, L2.D0, L2.DX, L2.IZ, L2.DG, L2.Ic, L2.Ij, L2.AS, L2.DF, L2.DD, L2.Ia, L2.D3, L2.L9, L2.IW, L2.Ib, L2.w_call, L2.La, L2.Ih, L2.A4, L2.wm, L2.DW, L2.DV, L2.DS, L2.DQ, L2.DO, L2.DT, L2.DU, L2.Ie, L2.wj, L2.IX, L2.DB, L2.AZ, L2.AY, L2.A3, L2.A2, L2.AX, L2.AV, L2.AU, L2.DR, L2.DK, L2.AR, L2.AO, L2.AQ, L2.DN, L2.w_getS, L2.DP, L2.DZ, L2.DY, L2.AW, L2.AN, L2.LM, L2.DI, L2.wg]); (try simp (maxSteps := 3000000) only [L2.JU, L2.Cz, L2.NW, L2.LQ, L2.LJ, L2.Mm, L2.Nk, L2.Nj, L2.L7, L2.LS, L2.L6, L2.LR, L2.LU, L2.L5, L2.L4, L2.Je, L2.Ii, U7, U8, bR, L2.NX, L2.L3, L2.J3, L2.J9, L2.J8, L2.J5, L2.J6, L2.JY, L2.LW, L2.LX, L2.LV, L2.Lb, L2.LP, L2.DC, L2.LK, L2.w_and, L2.w_or, L2.w_not, L2.D4, L2.I9, L2.DJ, L2.LY, L2.IY, L2.w_next, L2.Ig, L2.D0, L2.DX, L2.IZ, L2.DG, L2.Ic, L2.Ij, L2.AS, L2.DF, L2.DD, L2.Ia, L2.D3, L2.L9, L2.IW, L2.Ib, L2.w_call, L2.La, L2.Ih, L2.A4, L2.wm, L2.DW, L2.DV, L2.DS, L2.DQ, L2.DO, L2.J0, L2.GY, cE, U3, Bool.not_eq_true', decide_eq_false_iff_not, L2.DT, L2.Gb, L2.DL, L2.DU, L2.Ie, L2.wj, L2.IX, L2.DB, L2.GV, L2.JW, L2.L0, L2.DH, L2.J2, L2.AZ, L2.AY, L2.A3, L2.A2, L2.AX, L2.AV, L2.AU, L2.J1, L2.DM, L2.DR, L2.DK, L2.L1, L2.AR, L2.AO, L2.AQ, L2.DN, L2.w_getS, L2.GX, L2.DP, L2.DZ, L2.DY, L2.AW, L2.Ja, L2.LO, L2.LN, L2.AN, L2.LM, L2.DI, L2.wg, L2.LL, L2.w_rev, L2.GT, L2.Gc, L2.GZ, L2.JX, L2.JV, L2.JZ, L2.GW, L2.LZ, L2.Gd, L2.Jd, L2.Jb, L2.Jc, L2.GU, L2.Ga]))
section
variable {P:Program}{w:World}{K:U9}{mg:Str->bt}{base:Heap}
theorem xm (E:Fn K mg "crossing" lI Ug):(1&&&"crossing") lI Ug tL:=by
 refine' jo
 obtain⟨l,ps,rfl,bo,qn,qs⟩:=h;obtain⟨as,b1,bl,bg⟩:=bo.get;refine⟨[Ua l,none,none,none,none],_,rfl,(L2.jW.h (aK (dc bD rfl (fH (ae 0)) (qm (n:=2) rfl (gU (1^^^jo) (gU (2^^^jo) oo)))
  (aM (dc bD rfl (fH (ae 0)) (qm (n:=2) rfl (gU (3^^^jo) (gU (4^^^jo) oo)))
   (aM (cT (zK kP kP kP (ae 1) (ae 3) (ae 2) (ae 4))
    (aM (bQ (eM (eE (eM (aF (ae 1) (aF (ae 2) aC))) (eE (eM (aF (ae 3) (aF (ae 4) aC))) aC)))))
    b9)))))
  (aM (bQ jg)))),?_⟩
 nofun;refine⟨⟨_,cI.of b1⟩,iV (xs:=as.map V.ref) (λi Z H2=>∃x1 x2 x3 x4:Option V,Z=[Ua l,x1,x2,x3,x4]/\H2=H/\∀p∈ps.take i,∀q∈ps,ci p q=false) ⟨none,none,none,none,rfl,rfl,λp hp=>by simp at hp⟩ (by rintro i Z H2 _ ⟨_,_,_,_,_,e,_⟩;rw[e];exact cI.of b1) ?_ ?_⟩
 .rintro i x Z H2 hx ⟨x1,x2,x3,x4,rfl,rfl,hn⟩;obtain⟨a,p,rfl,hp,ta⟩:=bg i x hx;nofun;refine⟨_,cj.of ta,rfl,?_⟩;nofun;refine⟨⟨_,cI.of b1⟩,iV (xs:=as.map V.ref) (λj Z H3=>∃x3 x4:Option V,Z=[Ua l,Ub p.1,Ub p.2,x3,x4]/\H3=H2/\∀q∈ps.take j,ci p q=false) ⟨x3,x4,rfl,rfl,λp hp=>by simp at hp⟩ (by rintro i Z H2 _ ⟨_,_,_,e,_⟩;rw[e];exact cI.of b1) ?_ ?_⟩
  .rintro j y Z H3 hy ⟨y3,y4,rfl,rfl,hm⟩;obtain⟨c,q,rfl,hq,tc⟩:=bg j y hy;nofun;refine⟨_,cj.of tc,rfl,?_⟩;nofun;have nx:ci p q=false->∃x3 x4:Option V,[some (V.ref l),some (V.int p.1),some (V.int p.2),some (V.int q.1),some (V.int q.2)]=[some (V.ref l),some (V.int p.1),some (V.int p.2),x3,x4]/\True/\∀q∈ps.take (j+1),ci p q=false:=λe=>by
    refine⟨_,_,rfl,trivial,λq' hq'=>?_⟩;rw[bE,hq] at hq';rcases bG.mp hq' with z | z
    .exact hm q' z
    .have e':q'=q:=by simpa using z
     rw[e'];exact e
   refine gh (λh1=>gh (λh2=>gh (λh3=>?_) (λh3=>nx (by simp[ci,h3]))) (λh2=>nx (by simp[ci,h2]))) (λh1=>nx (by simp[ci,h1]));refine⟨(by show 2<=sizeLine;decide),λt1 n1=>⟨(by show 2<=sizeLine;decide),λt2 n2=>⟨(by show 2<=sizeLine;decide),λt3 n3=>?_⟩⟩⟩;have s1:bJ H3 (upd H3 t1 (.tup [.int p.1,.int p.2])):=(bJ.refl _).new n1;have s2:=s1.new (o:=.tup [.int q.1,.int q.2]) (s1.free n2);have s3:=s2.new (o:=.tup [.ref t1,.ref t2]) (s2.free n3);have e12:t1≠t2:=λe=>by subst e;rw[aG] at n2;cases n2
   have e23:t2≠t3:=λe=>by subst e;rw[aG] at n3;cases n3
   have e13:t1≠t3:=λe=>by subst e;rw[aO e12,aG] at n3;cases n3
   refine qs p (aT hp) q (aT hq) (by simp[ci,h1,h2,h3]) t3 t1 t2 _ (s2.free n3) s3 aG ?_ ?_
   .show upd _ _ _ t1=_;rw[aO e13,aO e12,aG]
   .show upd _ _ _ t2=_;rw[aO e23,aG]
  .rintro Z H3 ⟨y3,y4,rfl,rfl,hm⟩;refine⟨_,_,y3,y4,rfl,rfl,λp' hp'=>?_⟩;rw[bE,hp] at hp';rcases bG.mp hp' with z | z
   .exact hn p' z
   .have e:p'=p:=by simpa using z
    subst e;intro q hq;refine hm q ?_;rw[aA,bl,bf];exact hq
 .rintro Z H2 ⟨x1,x2,x3,x4,rfl,rfl,hn⟩;nofun;refine qn λp hp=>hn p ?_;rw[aA,bl,bf];exact hp
theorem xj (B:qV mg) (E:Fn K mg "is_whole" lF Ue):(1&&&"is_whole") lF Ue (vx K):=by
 refine' xL
 obtain⟨x,t,b,c,rfl,ty,e1,e2,q⟩:=h;refine⟨[some x],_,rfl,(L2.jW.h (aM (bQ (kZ (ac mn (by rfl) B.isinstance ai (aF (ae 0) (aF (lM (v:=.ty "int") (by rfl) B.int dL rfl) aC))) (nW (HI (ac mn (by rfl) B.isinstance ai (aF (ae 0) (aF (lM (v:=.ty "bool") (by rfl) B.bool PyProof.Rows.boot_bool rfl) aC))))))))),?_⟩;nofun;refine⟨_,_,_,b,rfl,ty,e1,?_⟩;nofun;cases b with
 | false=>exact MM q
 | true=>exact ML ⟨_,_,_,c,rfl,ty,e2,_,rfl,q⟩
theorem zT (Of:∃a,mg "SIDES"=some (.ref a)/\∀H,cj K H a (([("l":Str),"r"]:List Str).map V.str)) (E:Fn K mg "is_side" mS Ue):(1&&&"is_side") mS Ue xB:=by
 refine' zB
 obtain⟨x,d,rfl,hd,pl,q⟩:=h;refine⟨[some x],_,rfl,(L2.jW.h (aM (bQ (cm (Ec (oI hr)) (ae 0) (vK (by rfl) Of) (by with_unfolding_all rfl))))),?_⟩;nofun;intro a ha;refine⟨d,[.str (Str.ofString "l"),.str (Str.ofString "r")],a,_,hd.rep,rfl,.inr (ha H),.cons (.str _) (.cons (.str _) .nil),pl.lay,by symm,pl.deep,?_⟩;rw[Dz];exact q
theorem xk (B:qV mg) (E:Fn K mg "is_order" lG Ue) (Os:(1&&&"is_whole") lF Ue (vx K)):(2&&&"is_order") lG Ue uy:=by
 refine' xM
 obtain⟨x,d,rfl,hd,q⟩:=h;refine⟨[some x],_,rfl,(L2.jW.h (aK (cT (QW.pt (lJ (kY (jB (ac mn (by rfl) B.isinstance ai (aF (ae 0) (aF (lM (v:=.ty "tuple") (by rfl) B.tuple dY rfl) aC))))) (jf (bO qq (ac bC (by rfl) B.len aY (aF (ae 0) aC)) (Br (by rfl) B.MOST_RINGS) (bZ _)))))
  (aM (bQ ja))
  b9)
  (aK (cT (kY (jB (ac (ya rfl) (by rfl) B.all PyProof.Rows.boot_all (iE (lL (own:=["ring"]) (ns:=[]) (caps:=[]) rfl ⟨rfl,by symm,by symm,by symm⟩ .nil (HH (ae 0)) (λC s H fp pn=>(bi (i:=0) (show List.Nodup ((["ring"]:List Str)++([]:List Str)) by symm) rfl (Or.inl rfl))) (λC s H fp pn=>nV) (λC s H fp pn=>(Os<<<(aF (ae 0) aC)))) aC))))
  (aM (bQ ja))
  b9)
  (aM (bQ (cm (wN (oI hr)) (ac qz (by rfl) B.sorted eO (aF (ae 0) aC)) (dE (qB rfl) (by rfl) B.list fB (qo (dE vf (by rfl) B.range mw (bx aD (dn (aw dW (ac bC (by rfl) B.len aY (aF (ae 0) aC)) aD) aC))) aC)) (bZ _))))))),?_⟩
 cases id hd with
 | tup h1 h2=>
  rename_i a xs ds;nofun;refine m8 hd ?_;nofun;refine pc (by simp[Mg]) ⟨_,.inr (cj.of h1),?_⟩;have hl:=h2.len;refine gh (λhn=>?_) (λhn=>?_)
  .have e:rR (.tuple ds)=false:=by
    show (decide (ds.length<=20)&&_)=false;rw[U4 (by lia)];rfl
   rw[e] at q;exact q H (bJ.refl _)
  .have hn':xs.length<=20:=by lia
   have hz:xs.length<=sizeLine:=bT (bS (by lia));have hds:ds.length=xs.length:=hl.symm;have e0:rR (.tuple ds)=(ds.all i7&&(ds.map intOf).isPerm (gK 1 ds.length)):=by
    show (decide (ds.length<=20)&&_)=_;rw[U5 (by lia)];rfl
   rw[e0] at q;refine⟨⟨_,cj.of h1⟩,C9 (cj.of h1) hz ((ds.map i7).map V.bl) (by simp[hds]) (λi x y Q' hx hy hq=>?_) λp1 n1=>?_⟩
   .obtain⟨d,hd1,hd2⟩:=h2.get hx;nofun;refine Cv hd2 ?_;have ey:y=V.bl (i7 d):=by simp[hd1] at hy;exact hy.symm
    rw[ey] at hq;exact hq
   .have s1:bJ H (upd H p1 (.lst ((ds.map i7).map V.bl))):=(bJ.refl _).new n1;refine⟨p1,_,rfl,cI.of aG,_,rfl,?_⟩;have ea:(ds.map i7).all id=ds.all i7:=by rw[List.all_map];rfl
    cases hb:ds.all i7 with
    | false=>
     rw[hb] at q;exact sq (show (ds.map i7).all id=false by rw[ea,hb]) (q _ s1)
    | true=>
     rw[hb,eQ] at q;rw[iJ] at hb;have hq1:=s1 _ _ h1;have ex:xs=(ds.map intOf).map V.int:=by
      apply List.ext_getElem?;intro i;cases e:xs[i]? with
      | none=>
       have:xs.length<=i:=by rw[<-List.getElem?_eq_none_iff];exact e
       rw[gZ (by simp;lia)]
      | some x=>
       obtain⟨d,hd1,hd2⟩:=h2.get e;have hw:=ym (hb d (aT hd1));rw[hw] at hd2;cases hd2;simp[hd1]
     refine pc (show ¬(ds.map i7).all id=false by rw[ea,iJ.mpr hb];decide) ⟨a,ds.map intOf,rfl,.inr (by rw[<-ex];exact cj.of hq1),by rw[aA];lia,λl5 ms n5 hp hs=>?_⟩;have s5:=s1.new (o:=.lst (ms.map V.int)) (s1.free n5);nofun;refine⟨_,.inr (cj.of (s5 _ _ h1)),λp6 n6=>⟨1,_,aG,⟨by decide,by decide,by lia,by lia,by lia⟩,λl7 n7=>?_⟩⟩;have s6:=s5.new (o:=.rng 1 ((xs.length:Int)+1)) (s5.free n6);have n56:l5≠p6:=λe=>by subst e;rw[aG] at n6;cases n6
     have n57:l5≠l7:=λe=>by subst e;rw[aO n56,aG] at n7;cases n7
     have eN:((xs.length:Int)+1 - 1).toNat=(ds.map intOf).length:=by rw[aA];lia
     refine yM (cI.of (by rw[aO n57,aO n56,aG])) (cI.of aG) ?_;rw[eN,wA hp hs];rw[aA];exact q _ (s6.new (s6.free n7))
 | _=>
  nofun;refine m8 hd ?_;nofun;exact sq (by rfl) (q H (bJ.refl _))
theorem zU (B:qV mg) (E:Fn K mg "is_maze" mT Ue) (PK:(1&&&"is_side") mS Ue xB) (Ot:(2&&&"is_order") lG Ue uy):(3&&&"is_maze") mT Ue xC:=by
 refine' zC
 obtain⟨x,d,rfl,hd,pl,q⟩:=h;refine⟨[some x],_,rfl,(L2.jW.h (aK (cT (QW.pt (lJ (kY (jB (ac mn (by rfl) B.isinstance ai (aF (ae 0) (aF (lM (v:=.ty "tuple") (by rfl) B.tuple dY rfl) aC))))) (jf (bO ou (ac bC (by rfl) B.len aY (aF (ae 0) aC)) aD (bZ _)))))
  (aM (bQ ja))
  b9)
  (aM (bQ (kZ (PK<<<(a8 (bw>>>(ae 0)) aC)) (nW (Ot<<<(a8 (bw>>>(ae 0)) aC)))))))),?_⟩
 cases id hd with
 | tup h1 h2=>
  rename_i a xs ds;nofun;refine m8 hd ?_;nofun;refine pc (by simp[Mg]) ⟨_,.inr (cj.of h1),?_⟩;have hl:=h2.len;refine gh (λhn=>?_) (λhn=>?_)
  .have e:uF (.tuple ds)=false:=by
    match ds,hl with
    | [],_=>rfl
    | [u],_=>rfl
    | [u,v],hl=>exact absurd (by rw[hl];rfl) hn
    | u::v::w::r,_=>rfl
   rw[e] at q;exact q H (bJ.refl _)
  .have hn':xs.length=2:=by
    have:(xs.length:Int)=2:=f7.mp hn;lia
   obtain⟨d,e,rfl⟩:∃d e,ds=[d,e]:=match ds,hl.symm.trans hn' with
    | [u,v],_=>⟨u,v,rfl⟩
   obtain⟨x,y,rfl,hx,hy⟩:=Hx h2;have hlay:d.canLay0=true:=by
    have:(PyData.canLay0 d&&(PyData.canLay0 e&&true))=true:=pl.lay;rw[ao] at this;exact this.1
   have hdp:d.depth<=60:=by
    have:max d.depth (max e.depth 0)+1<=60:=pl.deep;lia
   refine⟨_,x,cj.of h1,rfl,x,d,rfl,hx,⟨hlay,hdp⟩,?_⟩;nofun;cases es:rq d with
   | false=>
    refine MM ?_;have e:uF (.tuple [d,e])=false:=by show (rq d&&_)=false;rw[es];rfl
    rw[e] at q;exact q H (bJ.refl _)
   | true=>
    have e:uF (.tuple [d,e])=rR e:=by show (rq d&&_)=_;rw[es];rfl
    rw[e] at q;exact ML ⟨_,y,cj.of h1,rfl,y,_,rfl,hy,q⟩
 | _=>
  nofun;refine m8 hd ?_;nofun;exact sq (by rfl) (q H (bJ.refl _))
theorem uf (E:Fn K mg "other_side" iy ["side"]):(1&&&"other_side") iy ["side"] Ae:=by
 refine' ue
 obtain⟨b,rfl,q⟩:=h;refine⟨[Uc (sd b)],_,rfl,(L2.jW.h (aM (bQ (vJ (bO gI (ae 0) cO (bZ _)) cO cO)))),?_⟩;nofun;simp only[Mt];refine gh (λh=>?_) (λh=>?_)
 .subst h;exact q
 .have e:b=true:=by cases b;exact absurd rfl h;rfl
  subst e;exact q
theorem sH (E:Fn K mg "side_of_step" gk ["maze","step"]) (O4:(1&&&"other_side") iy ["side"] Ae):(2&&&"side_of_step") gk ["maze","step"] wy:=by
 refine' oG
 obtain⟨m,o,b,ns,k,rfl,hm,q⟩:=h;refine⟨[Ua m,Ub k,none],_,rfl,(L2.jW.h (aK (2^^^oG^^^(bw>>>(ae 0)))
  (aM (bQ (vJ (bO gI (aw gu (ae 1) aD) aD (bZ _)) (ae 2) (O4<<<(aF (ae 2) aC))))))),?_⟩
 nofun;refine⟨_,_,cj.of hm.1,rfl,?_⟩;refine⟨by decide,gh (λh=>?_) (λh=>?_)⟩
 .have e:odd k=false:=by simp[odd];lia
  rw[e,l9] at q;exact q
 .have e:odd k=true:=by simp[odd];lia
  rw[e,Bool.xor_true] at q;exact⟨b,rfl,q⟩
theorem tj (B:qV mg) (E:Fn K mg "rows_of_way" iR Ud):(1&&&"rows_of_way") iR Ud Ds:=by
 refine' oh
 obtain⟨m,o,b,ns,rfl,hm,hl,q⟩:=h;refine⟨[Ua m,none],_,rfl,(L2.jW.h (aK (1^^^oh^^^(bw>>>(ae 0)))
  (aM (bQ (aw qJ (aw qJ (ce (bx aD aC)) (dE n8 (by rfl) B.list fB (aF (ae 1) aC))) (ce (dn (aw dW (ac bC (by rfl) B.len aY (aF (ae 1) aC)) aD) aC))))))),?_⟩
 nofun;refine⟨_,_,cj.of hm.1,rfl,(by show 1<=sizeLine;decide),λp1 n1=>?_⟩;have s1:=(bJ.refl H).new (o:=.lst [.int 0]) n1;refine⟨o,_,rfl,.inr (cj.of (s1 _ _ hm.2)),λp2 n2=>?_⟩;have s2:=s1.new (o:=.lst (ns.map V.int)) (s1.free n2);have e12:p1≠p2:=λe=>by subst e;rw[aG] at n2;cases n2
 refine⟨p1,p2,_,_,rfl,rfl,by rw[aO e12,aG],aG,bT (bS (by simp;lia)),λp3 n3=>?_⟩;have s3:=s2.new (o:=.lst ([.int 0]++ns.map V.int)) (s2.free n3);refine⟨o,_,rfl,.inr (cj.of (s3 _ _ hm.2)),(by show 1<=sizeLine;decide),λp4 n4=>?_⟩;have s4:=s3.new (o:=.lst [.int (((ns.map V.int).length:Int)+1)]) (s3.free n4);have e34:p3≠p4:=λe=>by subst e;rw[aG] at n4;cases n4
 refine⟨p3,p4,_,_,rfl,rfl,by rw[aO e34,aG],aG,bT (bS (by simp;lia)),λp5 n5=>?_⟩;have s5:=s4.new (o:=.lst ([.int 0]++ns.map V.int++[.int (((ns.map V.int).length:Int)+1)])) (s4.free n5);refine q p5 _ (s4.free n5) s5 ?_;rw[aG];simp[eK]
theorem z0 (B:qV mg) (E:Fn K mg "bows_of" kh Ud) (OT:(2&&&"side_of_step") gk ["maze","step"] wy) (OY:(1&&&"rows_of_way") iR Ud Ds):(3&&&"bows_of") kh Ud tM:=by
 refine' lC
 obtain⟨m,o,b,ns,rfl,hm,O,q⟩:=h;have hlen:=O.len;refine⟨[Ua m,none,none,none,none],_,rfl,(L2.jW.h (aK (1^^^lC^^^(OY<<<(aF (ae 0) aC)))
  (aK (2^^^lC^^^(EW (vH cO (ce aC) (vH cO (ce aC) ET)) rfl rfl (λz=>nomatch z) (by decide)))
  (aK (dc bD rfl (i9 (by rfl) B.range (dn (aw gq (ac bC (by rfl) B.len aY (aF (ae 1) aC)) aD) aC)) (3^^^lC)
  (aK (4^^^lC^^^(dE mI (by rfl) B.tuple dY (cV (ac re (by rfl) B.sorted eO (a8 (vI Gk (ae 1) (qk (ae 3)) (qk (aw dW (ae 3) aD))) aC)) aC)))
   (aM (cU (ef a9 ar aq dC (jr (uP hr) (ae 2) (OT<<<(aF (ae 0) (aF (ae 3) aC))) (λ_ _=>rfl)) (aF (ae 4) aC))))))
  (aM (bQ (eM (cV (ac mh (by rfl) B.sorted eO (a8 (jr (uP hr) (ae 2) cO (λ_ _=>rfl)) aC)) (cV (ac mh (by rfl) B.sorted eO (a8 (jr (uP hr) (ae 2) cO (λ_ _=>rfl)) aC)) aC))))))))),?_⟩
 nofun;refine⟨m,o,b,ns,rfl,hm,by lia,λrl H1 nrl s1 hrl=>?_⟩;nofun;intro d nd;have sd1:=s1.new (o:=.dK []) (s1.free nd);refine⟨ah _,λl1 nl1=>?_⟩;have edl:d≠l1:=λe=>by subst e;rw[aG] at nl1;cases nl1
 have sl1:=sd1.new (o:=.lst []) (sd1.free nl1);refine⟨ah _,λr1 nr1=>?_⟩;have edr:d≠r1:=λe=>by subst e;rw[aO edl,aG] at nr1;cases nr1
 have elr:l1≠r1:=λe=>by subst e;rw[aG] at nr1;cases nr1
 have sr1:=sl1.new (o:=.lst []) (sl1.free nr1);refine⟨by rw[aO edr,aO edl,aG],[(.inr (Str.ofString "l"),.ref l1),(.inr (Str.ofString "r"),.ref r1)],rfl,(by show 2<=15;decide),?_⟩;have fd0:H d=none:=s1.free nd;have fl0:H l1=none:=sd1.free nl1;have fr0:H r1=none:=sl1.free nr1;have erl:rl≠d:=bI hrl nd;have erl1:rl≠l1:=bI (((bJ.refl H1).new (o:=.dK []) nd) _ _ hrl) nl1;have erl2:rl≠r1:=bI ((((bJ.refl H1).new (o:=.dK []) nd).new (o:=.lst []) (((bJ.refl H1).new (o:=.dK []) nd).free nl1)) _ _ hrl) nr1;generalize hkv:qL [] [((.inr (Str.ofString "l"):Key),V.ref l1),(.inr (Str.ofString "r"),.ref r1)]=kvs;have kl:gW kvs (.inr (Str.ofString "l"))=some (.ref l1):=by subst hkv;rfl
 have kr:gW kvs (.inr (Str.ofString "r"))=some (.ref r1):=by subst hkv;rfl
 have ks:∀s:Bool,gW kvs (.inr (sd s))=some (.ref (if s then r1 else l1)):=λs=>by cases s;exact kl;exact kr
 refine⟨_,.inl (cI.of (by rw[aO erl,aO erl2,aO erl1,aO erl];exact hrl)),by rw[aA,iq];lia,by rw[aA,iq];lia,?_⟩;have eN:(((eK ns).map V.int).length - 1:Int).toNat=ns.length+1:=by rw[aA,iq];lia
 rw[eN];refine fP (n:=ns.length+1) (λi Z H2=>∃(x3 x4:Option V),Z=[Ua m,Ua rl,Ua d,x3,x4]/\bJ H H2/\H2 rl=some (.lst ((eK ns).map V.int))/\H2 d=some (.dK kvs)/\BowsAt H2 l1 (bH b ns false i)/\BowsAt H2 r1 (bH b ns true i))
  ⟨none,none,rfl,sr1.new fd0,by rw[aO erl,aO erl2,aO erl1,aO erl];exact hrl,aG,⟨[],by rw[aO edl.symm,aO elr,aG];rfl,.nil⟩,⟨[],by rw[aO edr.symm,aG];rfl,.nil⟩⟩ ?_ ?_
 .rintro i Z H2 hi ⟨x3,x4,rfl,sm,hrl2,hd2,bl,br⟩;nofun;refine⟨rl,_,rfl,cI.of hrl2,λp1 n1=>?_⟩;rw[Hz (by lia)];have t1:=(bJ.refl H2).new (o:=.lst ([bX ns i,bX ns (i+1)].map V.int)) n1;refine⟨p1,_,rfl,cI.of aG,(by show 2<64;decide),λp2 ms n2 hp hs=>?_⟩;rw[yo hp hs];have t2:=t1.new (o:=.lst ([min (bX ns i) (bX ns (i+1)),max (bX ns i) (bX ns (i+1))].map V.int)) (t1.free n2);refine⟨p2,_,rfl,.inl ⟨cI.of aG,λt n3=>?_⟩⟩;have t3:=t2.new (o:=.tup ([min (bX ns i) (bX ns (i+1)),max (bX ns i) (bX ns (i+1))].map V.int)) (t2.free n3);have sm3:=sm.trans t3;refine⟨m,o,b,ns,i,by simp,hm.same sm3,?_⟩;have bl3:=bl.same t3;have br3:=br.same t3;refine⟨_,.inl ⟨kvs,.inr (sd (b ^^ odd i)),.inl (t3 _ _ hd2),rfl,(ks _).symm⟩,?_⟩;have tt:b6 (upd (upd (upd H2 p1 (.lst ([bX ns i,bX ns (i+1)].map V.int))) p2 (.lst ([min (bX ns i) (bX ns (i+1)),max (bX ns i) (bX ns (i+1))].map V.int))) t (.tup ([min (bX ns i) (bX ns (i+1)),max (bX ns i) (bX ns (i+1))].map V.int))) t (cF ns i):=aG;generalize upd (upd (upd H2 p1 (.lst ([bX ns i,bX ns (i+1)].map V.int))) p2 (.lst ([min (bX ns i) (bX ns (i+1)),max (bX ns i) (bX ns (i+1))].map V.int))) t (.tup ([min (bX ns i) (bX ns (i+1)),max (bX ns i) (bX ns (i+1))].map V.int))=H3 at *;cases hs:(b ^^ odd i) with
  | false=>
   have h1:cX b false i=true:=by simp[cX,hs]
   have h2:cX b true i=false:=by simp[cX,hs]
   rw[ix h1,jm h2];obtain⟨as,b1,b2⟩:=bl3;have ha:as.length=(bH b ns false i).length:=bK b2;have:=iD b ns false i;refine⟨gi b1,l1,as.map V.ref,_,rfl,rfl,b1,by rw[aA];exact bS (by lia),_,_,rfl,sm3.new fl0,by rw[aO erl1];exact t3 _ _ hrl2,by rw[aO edl];exact t3 _ _ hd2,mo b1 b2 tt,jH br3 b1 elr.symm⟩
  | true=>
   have h1:cX b true i=true:=by simp[cX,hs]
   have h2:cX b false i=false:=by simp[cX,hs]
   rw[ix h1,jm h2];obtain⟨as,b1,b2⟩:=br3;have ha:as.length=(bH b ns true i).length:=bK b2;have:=iD b ns true i;refine⟨gi b1,r1,as.map V.ref,_,rfl,rfl,b1,by rw[aA];exact bS (by lia),_,_,rfl,sm3.new fr0,by rw[aO erl2];exact t3 _ _ hrl2,by rw[aO edr];exact t3 _ _ hd2,jH bl3 b1 elr,mo b1 b2 tt⟩
 .rintro Z H2 ⟨x3,x4,rfl,sm,hrl2,hd2,bl,br⟩;nofun;have bnd:∀s,∀p∈bH b ns s (ns.length+1),0<=p.2/\p.2<1000:=λs p hp=>by
   obtain⟨i,hi,_,rfl⟩:=gj hp;have:=O.step_in (i:=i) (by lia);have:=O.step_lt (i:=i) (by lia);lia
  obtain⟨as,b1,b2⟩:=bl;have:=iD b ns false (ns.length+1);refine⟨_,.inl ⟨kvs,.inr (Str.ofString "l"),.inl hd2,rfl,kl.symm⟩,l1,as,_,rfl,cI.of b1,b2,by lia,bnd false,λl as' L nl hP hp hs=>?_⟩;have t1:=(bJ.refl H2).new (o:=.lst (as'.map V.ref)) nl;obtain⟨bs,c1,c2⟩:=br.same t1;have:=iD b ns true (ns.length+1);refine⟨_,.inl ⟨kvs,.inr (Str.ofString "r"),.inl (t1 _ _ hd2),rfl,kr.symm⟩,r1,bs,_,rfl,cI.of c1,c2,by lia,bnd true,λr bs' R nr hP2 hp2 hs2=>?_⟩;have t2:=(bJ.refl (upd H2 l (.lst (as'.map V.ref)))).new (o:=.lst (bs'.map V.ref)) nr;refine⟨(by show 2<=sizeLine;decide),λt nt=>?_⟩;have t3:=(bJ.refl (upd (upd H2 l (.lst (as'.map V.ref))) r (.lst (bs'.map V.ref)))).new (o:=.tup [.ref l,.ref r]) nt;have elr2:l≠r:=λe=>by subst e;rw[aG] at nr;cases nr
  refine q t l r L R _ (sm.free (t1.free (t2.free nt))) (sm.free nl) (sm.free (t1.free nr)) (((sm.trans t1).trans t2).trans t3) ⟨aG,?_,?_,⟨hp,hs⟩,⟨hp2,hs2⟩,elr2⟩
  .exact((vg (l:=l) hP nl).same t2).same t3
  .exact(vg (l:=r) hP2 nr).same t3
theorem zY (B:qV mg) (Of:∃a,mg "SIDES"=some (.ref a)/\∀H,cj K H a (([("l":Str),"r"]:List Str).map V.str)) (E:Fn K mg "crossed" mW Ud) (OS:(3&&&"bows_of") kh Ud tM) (Ou:(1&&&"crossing") lI Ug tL):(4&&&"crossed") mW Ud vA:=by
 refine' nU
 obtain⟨m,o,b,ns,rfl,hm,O,qn,qc⟩:=h;refine⟨[Ua m,none,none,none],_,rfl,(L2.jW.h (aK (dc bD rfl (EU (by rfl) B.zip (aF (vK (by rfl) Of) (cV (OS<<<(aF (ae 0) aC)) aC))) (qm (n:=2) rfl (gU (1^^^nU) (gU (2^^^nU) oo)))
  (aK (3^^^nU^^^(Ou<<<(aF (ae 2) aC)))
   (aM (cT (bO BB (ae 3) jg (bZ _))
   (aM (bQ (eM (aF (ae 1) (a8 (bw>>>(ae 3)) (a8 (bw>>>(ae 3)) aC))))))
   b9))))
  (aM (bQ jg)))),?_⟩
 nofun;intro a ha;refine⟨m,o,b,ns,rfl,hm,O,λt l r L R H1 nt nl nr s1 BO=>⟨a,t,rfl,⟨_,ha _⟩,⟨_,cj.of BO.tup⟩,?_⟩⟩;refine Fa (xs:=[V.str (sd false),.str (sd true)]) (ys:=[.ref l,.ref r]) (aI _) (λi Z H'=>∃x1 x2 x3:Option V,Z=[Ua m,x1,x2,x3]/\bJ H1 H'/\∀u:Bool,(if u then 2 else 1)<=i->∀p∈bH b ns u (ns.length+1),∀q∈bH b ns u (ns.length+1),ci p q=false)
  ⟨_,_,_,rfl,bJ.refl _,λu hu=>by cases u<;>simp at hu⟩ (by rintro i Z H' ⟨_,_,_,_,s2,_⟩;exact ⟨ha _,cj.of (s2 _ _ BO.tup)⟩) ?_ ?_
 .rintro i x y Z H2 p hx hy ⟨x1,x2,x3,rfl,s2,hn⟩ np;obtain⟨u,lu,S,rfl,rfl,hBS,hS,hi⟩:∃(u:Bool) (lu:Addr) (S:List Bw),x=.str (sd u)/\y=.ref lu/\BowsAt H2 lu S/\eG b ns u S/\i+1=(if u then 2 else 1):=by
   match i,hx,hy with
   | 0,hx,hy=>cases hx;cases hy;exact⟨false,l,L,rfl,rfl,BO.left.same s2,BO.isL,rfl⟩
   | 1,hx,hy=>cases hx;cases hy;exact⟨true,r,R,rfl,rfl,BO.right.same s2,BO.isR,rfl⟩
   | j+2,hx,hy=>simp at hx
  nofun;refine⟨_,cj.of aG,rfl,?_⟩;have s3:=(bJ.refl H2).new (o:=.tup [.str (sd u),.ref lu]) np;nofun;refine⟨lu,S,rfl,hBS.same s3,λhc=>⟨trivial,?_⟩,λe1 h1 e2 h2 z t2 a2 b2 H3 nt2 s4 ht2 ta tb=>⟨trivial,?_⟩⟩
  .nofun;refine pc (λz=>z trivial) ⟨_,_,_,rfl,s2.trans s3,λv hv=>?_⟩;by_cases e:v=u
   .subst e;exact λp hp q hq=>hc p (hS.perm.mem_iff.mpr hp) q (hS.perm.mem_iff.mpr hq)
   .refine hn v ?_;cases u<;>cases v<;>simp_all
  .nofun;refine sq (λz=>nomatch z) ⟨_,_,cj.of ht2,rfl,_,_,cj.of ht2,rfl,(by show 3<=sizeLine;decide),λt3 nt3=>?_⟩;have s5:=(bJ.refl H3).new (o:=.tup [.str (sd u),.ref a2,.ref b2]) nt3;exact qc u e1 (hS.perm.mem_iff.mp h1) e2 (hS.perm.mem_iff.mp h2) z t3 _ ((((s1.trans s2).trans s3).trans s4).trans s5) ⟨a2,b2,aG,s5 _ _ ta,s5 _ _ tb⟩
 .rintro Z H2 ⟨x1,x2,x3,rfl,s2,hn⟩;nofun;exact qn (λu=>hn u (by cases u<;>decide)) _ (s1.trans s2)
theorem tq {R C fi:Addr} {fd:FuncData} {bmB:ag} {B newId initId:String} (O:rh "Crossed" C fi bmB newId mg base) (F0:ExcBaseFacts B newId initId bmB) (u:NN K R initId) (hR:mg "RingError"=some (.ref R)) (k:Kw K C "bows") (F:wc K "__init__" "Crossed.__init__" gT fi fd) :
  nw P w K mg base we 1 fi fd ["self","bows"] (Ah C "bows" HY):=by
 refine F.okS tP (by ac_nf) (λcdv A outer s H vs Q E hr h=>?_)
 obtain⟨e,v,rfl,ok,he,q⟩:=h;refine⟨[Ua e,some v],_,rfl,(L2.jW.h (aK (cU (Bq F0 O hR u (by rfl) (qo (ae 0) (qo (HJ hr cO (ae 1)) aC)))) (aM (EQ k (ae 0) (ae 1))))),?_⟩;nofun;exact⟨by symm,ok,λz=>⟨e,_,rfl,he,he,λdx nd ne=>q dx nd ne⟩⟩
theorem KJ {OC d7:Addr} (PL:Ky P w K mg base 1 "Crossed" d7 "bows" HY) (P9:OwnCls "NoMaze" OC [.type "ValueError",.type "Exception",.type "BaseException",.type "object"] "ValueError.__new__" mg base) (E:Fn K mg "vet" xO Ud) (PM:(3&&&"is_maze") mT Ue xC) (PN:(4&&&"crossed") mW Ud vA):uq P w K mg base 5 "vet" xO Ud (Dq OC d7):=E.mkX λf fd F=>by
 refine F.okX EB (by ac_nf) (λcdv A outer s H vs Q E hr h=>?_)
 obtain⟨x,d,rfl,hd,pl,h⟩:=h;refine⟨[some x,none],_,rfl,(L2.jW.h (aK (cT (Av (kY (jB (PM<<<(aF (ae 0) aC)))))
  (aM (Bm EK P9 hZ rfl (by rfl) (bx cO aC)))
  b9)
  (aK (gL (1^^^EB^^^(PN<<<(aF (ae 0) aC))))
  (aK (cT (Av (bO BB (ae 1) jg (bZ _)))
  (aM (zL Bk PL (hr.mono (by lia)) (by rfl) (aF (ae 1) aC)))
  b9)
  (aM (gL (bQ ja))))))),?_⟩
 nofun;refine⟨x,d,rfl,hd,pl,λH1 s1=>?_⟩;rcases h with ⟨hf,q⟩ | ⟨m,o,b,ns,rfl,hm,rfl,O,q,qc⟩
 .rw[hf];nofun;exact⟨(by show 1<=sizeLine;decide),q _ s1⟩
 .rw[KR O];nofun;refine⟨m,o,b,ns,rfl,hm.same s1,O,λnc H2 s2=>⟨trivial,?_⟩,λu p hp q' hq z t H2 s2 ct=>⟨trivial,?_⟩⟩
  .nofun;exact pc (λz=>z trivial) (q nc _ (s1.trans s2))
  .nofun;refine sq (λz=>nomatch z) ⟨_,rfl,ct.ok O hp hq,λdx nd=>?_⟩;exact qc u p hp q' hq z t dx _ ((s1.trans s2).trans ((bJ.refl _).new nd)) (ct.same ((bJ.refl _).new nd)) aG
theorem HU (E:Fn K mg "span" tR ["bow"]):(1&&&"span") tR ["bow"] Dr:=by
 refine' Gp
 obtain⟨a,p,rfl,ta,q⟩:=h;refine⟨[Ua a],_,rfl,(L2.jW.h (aM (bQ (aw gq (bw>>>(ae 0)) (bw>>>(ae 0)))))),?_⟩;nofun;refine⟨_,_,cj.of ta,rfl,_,_,cj.of ta,rfl,?_⟩;nofun;exact q
theorem tm (E:Fn K mg "lies_within" iS Uk):(1&&&"lies_within") iS Uk wx:=by
 refine' tO
 obtain⟨a,b,p,q',rfl,ta,tb,q⟩:=h;refine⟨[Ua a,Ua b],_,rfl,(L2.jW.h (aM (bQ (kZ (cm kP (bw>>>(ae 1)) (bw>>>(ae 0)) (bZ _)) (nW (cm kP (bw>>>(ae 0)) (bw>>>(ae 1)) (bZ _))))))),?_⟩;nofun;refine⟨_,_,cj.of tb,rfl,_,_,cj.of ta,rfl,?_⟩;nofun;refine gh (λh1=>⟨_,_,cj.of ta,rfl,_,_,cj.of tb,rfl,?_⟩) (λh1=>?_)
 .nofun;have e:md p q'=decide (p.2<q'.2):=by show (decide (q'.1<p.1)&&_)=_;rw[U5 h1];rfl
  rw[e] at q;exact q
 .have e:md p q'=false:=by show (decide (q'.1<p.1)&&_)=_;rw[U4 h1];rfl
  rw[e] at q;exact q
theorem zW (B:qV mg) (E:Fn K mg "heights" j8 Ug) (Qm:(1&&&"span") tR ["bow"] Dr) (OZ:(1&&&"lies_within") iS Uk wx):(4&&&"heights") j8 Ug pM:=by
 refine' nT
 obtain⟨l,ps,rfl,bo,nd,hl,q⟩:=h;refine⟨[Ua l,none,none,none],_,rfl,(L2.jW.h (aK (ak (i:=1) nT.nd rfl (Or.inr rfl) Bs)
  (aK (dc bD rfl (fH (Bp Qm (hr.mono (by decide)) (by rfl) B.sorted (by rfl) (ae 0))) (bi (i:=2) nT.nd rfl (Or.inr rfl))
  (aK (Bl (i:=3) nT.nd rfl (Or.inl rfl) (own:=["other"]) (ns:=["known","bow"]) (caps:=[1,2]) rfl ⟨rfl,by symm,by symm,by symm⟩ (.cons rfl rfl (.inl rfl) (.cons rfl rfl (.inl rfl) .nil)) (ae 1) (λC s H fp pn=>(bi (i:=0) (show List.Nodup ((["other"]:List Str)++(["known","bow"]:List Str)) by symm) rfl (Or.inl rfl))) (λC s H fp pn=>(Ax (jB (OZ<<<(aF (ae 0) (aF (ae 2) aC)))))) (λC s H fp pn=>(jr (uP hr) (ae 1) (ae 0) (λ_ _=>rfl))))
   (aM (tZ (uP hr) (ae 1) (ae 2) (aw dW aD (xV rfl (by rfl) B.max (ae 3) aD)) rfl))))
  (aM (bQ (lL (own:=["bow"]) (ns:=["known"]) (caps:=[1]) rfl ⟨rfl,by symm,by symm,by symm⟩ (.cons rfl rfl (.inl rfl) .nil) (fH (ae 0)) (λC s H fp pn=>(bi (i:=0) (show List.Nodup ((["bow"]:List Str)++(["known"]:List Str)) by symm) rfl (Or.inl rfl))) (λC s H fp pn=>nV) (λC s H fp pn=>(jr (uP hr) (ae 1) (ae 0) (λ_ _=>rfl))))))))),?_⟩
 nofun;intro kn nkn;obtain⟨as,b1,b2⟩:=id bo;have hal:as.length=ps.length:=bK b2;have sk:=(bJ.refl H).new (o:=.dT []) nkn;obtain⟨zz,eas,eps,hz⟩:=t6 b2;refine⟨l,as.map V.ref,ps.map fE,rfl,cI.of (sk _ _ b1),by rw[aA];lia,by rw[aA,aA,hal],λi x k Q' hx hk hq=>?_,λl' zs nl' hp hs=>?_⟩
 .rw[aR] at hx hk;cases ea:as[i]? with
  | none=>rw[ea] at hx;cases hx
  | some a=>
   rw[ea] at hx;cases hx;obtain⟨p,hp,ta⟩:=gp b2 ea;rw[hp] at hk;cases hk;exact⟨a,p,rfl,ta.same sk,hq⟩
 have ezip:(ps.map fE).zip (as.map V.ref)=zz.map λz=>(fE z.2,V.ref z.1):=by
  rw[eas,eps];clear eas eps hz b1 b2 hal hp hs bo nd hl q
  induction zz with
  | nil=>rfl
  | cons z zz ih=>
   simp only[bn] at ih;simp[ih]
 rw[ezip] at hp;obtain⟨ws,hw,rfl⟩:=xc hp rfl;have hq1:(ws.map (·.2)).Perm ps:=by rw[eps];exact hw.map _
 have hsp:(ws.map (·.2)).Pairwise (λa b=>fE a<=fE b):=by
  rw[cW] at hs |-;exact hs
 have hwl:ws.length=ps.length:=by rw[hw.length_eq,eps,aA]
 have ndq:(ws.map (·.2)).Nodup:=hq1.nodup_iff.mpr nd;have tw:∀z∈ws,b6 H z.1 z.2:=λz m=>hz z (hw.mem_iff.mp m);have ew:(ws.map λz=>(fE z.2,V.ref z.1)).map (·.2)=ws.map λz=>V.ref z.1:=by rw[bn];rfl
 rw[ew];have nl0:H l'=none:=sk.free nl';have nkl:kn≠l':=λe=>by subst e;rw[aG] at nl';cases nl'
 refine⟨⟨_,cI.of aG⟩,iV (xs:=ws.map λz=>V.ref z.1) (λi Z H2=>∃(x2 x3:Option V) (acc:Acc),Z=[Ua l,Ua kn,x2,x3]/\bJ H H2/\H2 l'=some (.lst (ws.map λz=>V.ref z.1))/\H2 kn=some (.dT (dB acc))/\Kn (ws.map (·.2)) i acc)
  ⟨none,none,[],rfl,sk.new nl0,aG,by rw[aO nkl,aG];rfl,Kn.start _⟩ (by rintro i Z H2 _ ⟨_,_,_,_,_,e,_⟩;exact cI.of e) ?_ ?_⟩
 .rintro i x Z H2 hx ⟨x2,x3,acc,rfl,sm,hl2,hk2,KN⟩;rw[aR] at hx;cases ez:ws[i]? with
  | none=>rw[ez] at hx;cases hx
  | some z=>
   rw[ez] at hx;cases hx;obtain⟨a,p⟩:=z;have hi:=(aH.mp ez).1;have ta:b6 H a p:=tw _ (aT ez);have ta2:=ta.same sm;have nak:a≠kn:=bI ta nkn;have hqi:(ws.map (·.2))[i]? = some p:=by rw[aR,ez];rfl
   have hacc:acc.length=i:=KN.len (by rw[aA];lia);have ndk:(acc.map (·.1)).Nodup:=by rw[KN.keys];exact ndq.sublist (List.take_sublist _ _)
   have hnp:p∉acc.map (·.1):=λhm=>by
    rw[KN.keys] at hm;obtain⟨j,hj,ej⟩:=kW hm;rw[cB] at hj;rw[List.getElem_take] at ej;obtain⟨hi2,e2⟩:=aH.mp hqi;have:=(iI ndq (h₀:=by lia) (h₁:=hi2)).mp (ej.trans e2.symm);lia
   nofun;refine⟨_,hk2,λo=>?_⟩;refine Cb (a:=kn) (o:=o) (kvs:=dB acc) (by rw[dB,aA];exact bT (bS (by lia)))
    (λj ys Z H'=>H'=upd H2 kn (.frz o (.dT (dB acc)))/\ys=(((acc.take j).filter λe=>md e.1 p).map λe=>V.int e.2)/\∃x0,Z=[x0,Ua kn,Ua a]) ⟨rfl,by simp,_,rfl⟩ ?_ ?_ ?_
   .rintro j ys Z H' ⟨rfl,rfl,_⟩;refine⟨aG,?_⟩;rw[aA];exact bN (fN _ _) (by rw[cB];lia)
   .rintro j k v b ys Z H' N hkv hb ⟨rfl,rfl,x0,rfl⟩ hN;unfold dB at hkv;rw[aR] at hkv;cases ee:acc[j]? with
    | none=>rw[ee] at hkv;cases hkv
    | some e=>
     rw[ee] at hkv;cases hkv;have tb:b6 (upd H2 kn (.frz o (.dT (dB acc)))) b e.1:=hb;have tav:b6 (upd H2 kn (.frz o (.dT (dB acc)))) a p:=by show upd _ _ _ a=_;rw[aO nak];exact ta2
     nofun;refine⟨b,a,e.1,p,rfl,tb,tav,?_⟩;nofun;have tk:acc.take (j+1)=acc.take j++[e]:=by rw[bE,ee];rfl
     cases hin:md e.1 p with
     | true=>
      refine sq rfl ⟨_,.inr ⟨dB acc,sM e.1,b,.inr ⟨o,aG⟩,rfl,hb,(Fl ndk (aT ee)).symm⟩,hN _ _ _ ⟨rfl,?_,_,rfl⟩⟩;rw[tk,dA,aX];simp[hin]
     | false=>
      refine pc (by decide) (hN _ _ _ ⟨rfl,?_,_,rfl⟩);rw[tk,dA,aX];simp[hin]
   .rintro ys Z H' pn ⟨rfl,rfl,x0,rfl⟩ npn;have edl:(dB acc).length=acc.length:=by rw[dB,aA]
    rw[edl,bf];have nkp:kn≠pn:=λe=>by subst e;rw[aG] at npn;cases npn
    have nH2p:H2 pn=none:=by rw[aO nkp.symm] at npn;exact npn
    have nHp:H pn=none:=sm.free nH2p;refine⟨by rw[aO nkp,aG],?_⟩;have sm3:=((sm.new (o:=.frz o (.dT (dB acc))) nkn).new (o:=.lst ((acc.filter λe=>md e.1 p).map λe=>V.int e.2)) nHp).new (o:=.dT (dB acc)) nkn;have hlp:l'≠pn:=bI hl2 nH2p;nofun;refine⟨gz acc p,cI.of (by rw[aO nkp.symm,aG];unfold gz;rw[bn];rfl),_,ur.t (k:=sM p) aG (sm3 _ _ ta) (by rw[edl];exact bS (by lia)),?_⟩;rw[Kh hnp];exact⟨_,_,acc++[(p,1+oP (gz acc p) 0)],rfl,sm3.new nkn,by rw[aO nkl.symm,aO nkl.symm,aO hlp,aO nkl.symm];exact hl2,aG,KN.next hqi hsp⟩
 .rintro Z H2 ⟨x2,x3,acc,rfl,sm,hl2,hk2,KN⟩;have ewl:(ws.map λz=>V.ref z.1).length=(ws.map (·.2)).length:=by simp
  rw[ewl] at KN;have HT:=KN.hts hq1 nd;have ndk:(acc.map (·.1)).Nodup:=by rw[KN.keys,bf];exact ndq
  nofun;have bo2:=bo.same sm;obtain⟨as2,c1,cl,cg⟩:=bo2.get;refine⟨⟨_,cI.of c1⟩,Ca (cI.of c1) (by rw[aA];exact bT (bS (by lia))) ((ps.map (uj acc)).map V.int) (by simp[cl]) (λi x y Q' hx hy hq=>?_) λp3 n3=>?_⟩
  .obtain⟨t,p,rfl,hp,ht⟩:=cg i x hx;nofun;have ey:y=V.int (uj acc p):=by simp[hp] at hy;exact hy.symm
   rw[ey] at hq;obtain⟨e,he,rfl⟩:∃e∈acc,e.1=p:=by
    have:p∈acc.map (·.1):=by rw[KN.keys,bf];exact hq1.mem_iff.mpr (aT hp)
    obtain⟨e,h1,h2⟩:=aU.mp this;exact⟨e,h1,h2⟩
   refine⟨.int e.2,?_,?_⟩
   .rw[<-Fl ndk he];exact oX.t (k:=sM e.1) hk2 ht
   .rw[me ndk he] at hq;exact hq
  .exact q p3 _ _ (sm.free n3) (sm.new (sm.free n3)) aG HT
theorem zS (E:Fn K mg "line_of" j7 ["row"]):(1&&&"line_of") j7 ["row"] qZ:=by
 refine' zA
 obtain⟨r,rfl,q⟩:=h;refine⟨[Ub r],_,rfl,(L2.jW.h (aM (bQ (aw dW (aw jC aD (ae 0)) aD)))),?_⟩;nofun;exact⟨.inl ⟨by decide,by decide⟩,q⟩
theorem qK (B:qV mg) (E:Fn K mg "greatest_height" fX Ug) (OJ:(4&&&"heights") j8 Ug pM):(5&&&"greatest_height") fX Ug Aj:=by
 refine' qH
 obtain⟨l,S,rfl,bl,BS,q⟩:=h;refine⟨[Ua l],_,rfl,(L2.jW.h (aM (bQ (xV rfl (by rfl) B.max (OJ<<<(aF (ae 0) aC)) aD)))),?_⟩;nofun;refine⟨l,S,rfl,bl,BS.nd,BS.len,λl' hs H1 nl s1 hl ht=>?_⟩;nofun;refine⟨hs,cI.of hl,?_⟩;rw[zl BS ht,Ez];exact q _ s1
theorem CC (B:qV mg) (E:Fn K mg "by_row" mY Ul):(1&&&"by_row") mY Ul vy:=by
 refine' pO
 obtain⟨l,k,S,c,rfl,⟨as,h1,pa⟩,BS,hk,q⟩:=h;have al:=bK pa;refine⟨[Ua l,Ua k,none,none,none],_,rfl,(L2.jW.h (aK (2^^^pO^^^Bt)
  (aK (dc bD rfl (HG (by rfl) B.zip (aF (ae 0) (aF (ae 1) aC))) (qm (n:=2) rfl (gU (3^^^pO) (gU (4^^^pO) oo)))
  (aK (tZ (uP hr) (ae 2) (bw>>>(ae 3)) (ae 4) rfl)
   (aM (tZ (uP hr) (ae 2) (bw>>>(ae 3)) (ae 4) rfl))))
  (aM (bQ (ae 2)))))),?_⟩
 nofun;intro d nd;have sd0:=(bJ.refl H).new (o:=.dK []) nd;nofun;refine⟨l,k,rfl,⟨_,cI.of (sd0 _ _ h1)⟩,⟨_,cI.of (sd0 _ _ hk)⟩,?_⟩;have bl40:=BS.len;refine Fb (xs:=as.map V.ref) (ys:=S.map λp=>V.int (c p:Nat)) (by rw[aA,aA];lia) (λi Z H'=>∃x3 x4 kvs,Z=[Ua l,Ua k,Ua d,x3,x4]/\bJ H H'/\H' d=some (.dK kvs)/\kvs.length<=2*i/\vp kvs (S.take i) c) ⟨_,_,[],rfl,sd0,aG,aI _,λp hp=>by simp at hp⟩ (by rintro i Z H' ⟨_,_,_,_,s1,_⟩;exact ⟨cI.of (s1 _ _ h1),cI.of (s1 _ _ hk)⟩) ?_ ?_
 .rintro i x y Z H' t hx hy ⟨x3,x4,kvs,rfl,s1,hd,hl,ca⟩ nt;obtain⟨a,ha,rfl⟩:=lm hx;obtain⟨p,hp,tp⟩:=m6 pa ha;have ey:y=V.int (c p:Nat):=by
   rw[aR,hp] at hy;exact(av hy).symm
  subst ey;have hi:i<S.length:=(aH.mp hp).1;have s2:=(bJ.refl H').new (o:=.tup [.ref a,.int (c p:Nat)]) nt;have ndt:d≠t:=bI hd nt;nofun;refine⟨_,cj.of aG,rfl,?_⟩;nofun;have tp2:=s2 _ _ (s1 _ _ tp);have hd2:=s2 _ _ hd;have nda:a≠d:=λe=>by
   subst e;rw[show _=_ from s1 _ _ tp] at hd;cases hd
  have tpy:∀o,upd (upd H' t (.tup [.ref a,.int (c p:Nat)])) d o a=some (.tup [.int p.1,.int p.2]):=λo=>by rw[aO nda];exact tp2
  refine⟨_,_,cj.of tp2,rfl,_,ur.k (k:=.inl p.1) hd2 (bS (by lia)),_,_,cj.of (tpy _),rfl,_,ur.k (k:=.inl p.2) aG ?_,_,_,_,rfl,((s1.trans s2).new nd).new nd,aG,?_,?_⟩
  .have:=iw kvs (.inl p.1:Key) (.int (c p:Nat));exact bS (by lia)
  .have h3:=iw kvs (.inl p.1:Key) (.int (c p:Nat));have h4:=iw (putK kvs (.inl p.1:Key) (.int (c p:Nat))) (.inl p.2:Key) (.int (c p:Nat));lia
  .have etk:S.take (i+1)=S.take i++[p]:=by rw[bE,hp];rfl
   rw[etk];intro q' hq;have pS:=aT hp;rcases bG.mp hq with h | h
   .have qS:q'∈S:=List.mem_of_mem_take h;have ne:q'≠p:=λe=>by
     subst e;obtain⟨j,hj⟩:=d9 h;have jl:=(aH.mp hj).1;rw[cB] at jl;rw[iX (by lia)] at hj;have h1:=aH.mp hj;have h2:=aH.mp hp;have:=(iI BS.nd (h₀:=h1.1) (h₁:=h2.1)).mp (h1.2.trans h2.2.symm);lia
    have dj:∀x,(q'.1=x\/q'.2=x)->x≠p.1/\x≠p.2:=λx hx=>⟨λe=>ne (BS.one q' qS p pS x hx (.inl e.symm)),λe=>ne (BS.one q' qS p pS x hx (.inr e.symm))⟩
    have key:∀x,(q'.1=x\/q'.2=x)->gW (putK (putK kvs (.inl p.1:Key) (.int (c p:Nat))) (.inl p.2:Key) (.int (c p:Nat))) (.inl x:Key)=gW kvs (.inl x:Key):=λx hx=>by
     obtain⟨d1,d2⟩:=dj x hx;rw[o0,U1 λz=>d2 (Sum.inl.inj z),o0,U1 λz=>d1 (Sum.inl.inj z)]
    rw[key _ (.inl rfl),key _ (.inr rfl)];exact ca q' h
   .have e:q'=p:=by simpa using h
    subst e;refine⟨?_,?_⟩
    .rw[o0];by_cases z:(.inl q'.1:Key)=.inl q'.2
     .rw[U2 z]
     .rw[U1 z,o0,U2 rfl]
    .rw[o0,U2 rfl]
 .rintro Z H' ⟨x3,x4,kvs,rfl,s1,hd,hl,ca⟩;rw[aA,al,bf] at ca;nofun;exact q d kvs H' nd s1 hd ca
theorem sI (B:qV mg) (E:Fn K mg "left_columns" gl Uh) (OJ:(4&&&"heights") j8 Ug pM) (O3:(1&&&"by_row") mY Ul vy):(5&&&"left_columns") gl Uh Af:=by
 refine' sF
 obtain⟨l,S,m,rfl,bl,BS,hm,q⟩:=h;refine⟨[Ua l,Ub (m:Nat)],_,rfl,(L2.jW.h (aM (bQ (O3<<<(aF (ae 0) (iE (lL (own:=["height"]) (ns:=["most_left"]) (caps:=[1]) rfl ⟨rfl,by symm,by symm,by symm⟩ (.cons rfl rfl (.inl rfl) .nil) (fH (OJ<<<(aF (ae 0) aC))) (λC s H fp pn=>(bi (i:=0) (show List.Nodup ((["height"]:List Str)++(["most_left"]:List Str)) by symm) rfl (Or.inl rfl))) (λC s H fp pn=>nV) (λC s H fp pn=>(aw dW (aw jC aD (aw gq (ae 1) (ae 0))) aD))) aC)))))),?_⟩;nofun;refine⟨l,S,rfl,bl,BS.nd,BS.len,λl' hs H1 nl s1 hl ht=>?_⟩;rw[zl BS ht] at hl;refine⟨l',rfl,⟨_,cI.of hl⟩,pZ (xs:=(S.map λp=>((hF S p:Nat):Int)).map V.int) (λi ys Z H'=>bJ H1 H'/\ys=(S.take i).map (λp=>V.int ((2*(m-hF S p)+1:Nat):Int))/\∃x0,Z=[x0,Ub (m:Nat)]) ⟨bJ.refl _,by simp,_,rfl⟩ ?_ (by rw[aA,aA];have:=BS.len;exact bT (bS (by lia))) ?_ ?_⟩
 .rintro i ys Z H' ⟨s2,rfl,_⟩;exact⟨cI.of (s2 _ _ hl),by simp;lia⟩
 .rintro i x ys Z H' N hx ⟨s2,rfl,x0,rfl⟩ hN;obtain⟨v,hv,rfl⟩:=lm hx;obtain⟨p,hp,rfl⟩:∃p,S[i]? = some p/\((hF S p:Nat):Int)=v:=by
   rw[aR] at hv;exact fD.mp hv
  have hle:=bN (lP (aT hp)) hm;nofun;refine⟨.inl ⟨by decide,by decide⟩,hN _ _ _ ⟨s2,?_,_,rfl⟩⟩;rw[bE,hp];simp only[lV,aX,af,eP];congr 2;congr 1;lia
 .rintro ys Z H' p ⟨s2,rfl,_⟩ np;rw[aA,aA,bf];have s3:=(bJ.refl H').new (o:=.lst (S.map λp=>V.int ((2*(m-hF S p)+1:Nat):Int))) np;exact⟨l,p,S,λp=>2*(m-hF S p)+1,rfl,bl.same (s1.trans (s2.trans s3)),BS,aG,λd kvs H4 nd s4 hd ca=>q d kvs H4 ((s1.trans (s2.trans s3)).free nd) ((s1.trans (s2.trans s3)).trans s4) hd ca⟩
theorem rT (B:qV mg) (E:Fn K mg "right_columns" gS Uh) (OJ:(4&&&"heights") j8 Ug pM) (O3:(1&&&"by_row") mY Ul vy):(5&&&"right_columns") gS Uh wz:=by
 refine' rO
 obtain⟨l,S,m,rfl,bl,BS,q⟩:=h;refine⟨[Ua l,Ub (m:Nat)],_,rfl,(L2.jW.h (aM (bQ (O3<<<(aF (ae 0) (iE (lL (own:=["height"]) (ns:=["most_left"]) (caps:=[1]) rfl ⟨rfl,by symm,by symm,by symm⟩ (.cons rfl rfl (.inl rfl) .nil) (fH (OJ<<<(aF (ae 0) aC))) (λC s H fp pn=>(bi (i:=0) (show List.Nodup ((["height"]:List Str)++(["most_left"]:List Str)) by symm) rfl (Or.inl rfl))) (λC s H fp pn=>nV) (λC s H fp pn=>(aw gq (aw dW (aw jC aD (ae 1)) (aw jC aD (ae 0))) aD))) aC)))))),?_⟩;nofun;refine⟨l,S,rfl,bl,BS.nd,BS.len,λl' hs H1 nl s1 hl ht=>?_⟩;rw[zl BS ht] at hl;refine⟨l',rfl,⟨_,cI.of hl⟩,pZ (xs:=(S.map λp=>((hF S p:Nat):Int)).map V.int) (λi ys Z H'=>bJ H1 H'/\ys=(S.take i).map (λp=>V.int ((2*m+2*hF S p - 1:Nat):Int))/\∃x0,Z=[x0,Ub (m:Nat)]) ⟨bJ.refl _,by simp,_,rfl⟩ ?_ (by rw[aA,aA];have:=BS.len;exact bT (bS (by lia))) ?_ ?_⟩
 .rintro i ys Z H' ⟨s2,rfl,_⟩;exact⟨cI.of (s2 _ _ hl),by simp;lia⟩
 .rintro i x ys Z H' N hx ⟨s2,rfl,x0,rfl⟩ hN;obtain⟨v,hv,rfl⟩:=lm hx;obtain⟨p,hp,rfl⟩:∃p,S[i]? = some p/\((hF S p:Nat):Int)=v:=by
   rw[aR] at hv;exact fD.mp hv
  have hle:=zo BS.lt (aT hp);nofun;refine⟨.inl ⟨by decide,by decide⟩,.inl ⟨by decide,by decide⟩,hN _ _ _ ⟨s2,?_,_,rfl⟩⟩;rw[bE,hp];simp only[lV,aX,af,eP];congr 2;congr 1;lia
 .rintro ys Z H' p ⟨s2,rfl,_⟩ np;rw[aA,aA,bf];have s3:=(bJ.refl H').new (o:=.lst (S.map λp=>V.int ((2*m+2*hF S p - 1:Nat):Int))) np;exact⟨l,p,S,λp=>2*m+2*hF S p - 1,rfl,bl.same (s1.trans (s2.trans s3)),BS,aG,λd kvs H4 nd s4 hd ca=>q d kvs H4 ((s1.trans (s2.trans s3)).free nd) ((s1.trans (s2.trans s3)).trans s4) hd ca⟩
theorem uh (B:qV mg) (E:Fn K mg "carve_bows" jA Ur) (OE:(1&&&"line_of") j7 ["row"] qZ):(2&&&"carve_bows") jA Ur xF:=by
 refine' je
 obtain⟨g,l,d,as,w,G,S,c,kvs,rfl,gr,nl,⟨bs,h1,pa⟩,hd,ca,bd,hA,hw,q⟩:=h;have al:=bK pa;refine⟨[Ua g,Ua l,Ua d,none,none,none],_,rfl,(L2.jW.h (aM (dc bD rfl (fH (ae 1)) (qm (n:=2) rfl (gU (3^^^je) (gU (4^^^je) oo)))
  (aM (dc bD rfl (lK (by rfl) B.range (cV (OE<<<(aF (ae 3) aC)) (dn (aw dW (OE<<<(aF (ae 4) aC)) aD) aC))) (5^^^je)
   (aM (sY (ki (by rfl) B.OPEN_CELL) (sZ (aS bV (ae 0) (ae 5) (λ_ _=>rfl)) (jr (uP hr) (ae 2) (ae 3) (λ_ _=>rfl)) set_list)))))))),?_⟩
 nofun;refine⟨⟨_,cI.of h1⟩,?_⟩;have ndA:d∉as:=gr.off hd λxs e=>nomatch e;refine iV (xs:=bs.map V.ref) (λi Z H'=>∃x3 x4 x5:Option V,Z=[Ua g,Ua l,Ua d,x3,x4,x5]/\Keeps as H H'/\gG H' g as w (zQ G (wO (S.take i) c))) ⟨_,_,_,rfl,Keeps.refl _ _,gr.congr λi x _ _=>by simp[zQ,wO]⟩ ?_ ?_ ?_
 .rintro i Z H' _ ⟨_,_,_,rfl,kp,_⟩;exact cI.of (kp _ _ nl h1)
 .rintro i x Z H' hx ⟨x3,x4,x5,rfl,kp,gr'⟩;obtain⟨a,ha,rfl⟩:=lm hx;obtain⟨p,hp,tp⟩:=m6 pa ha;have pS:=aT hp;obtain⟨b0,b1,b2,b3⟩:=bd p pS;have naA:a∉as:=gr.off tp λxs e=>nomatch e;have tp':=kp _ _ naA tp;nofun;refine⟨_,cj.of tp',rfl,?_⟩;nofun;refine⟨_,rfl,_,rfl,?_⟩;nofun;refine⟨⟨by lia,by lia,by lia,by lia⟩,?_⟩;obtain⟨lo,hlo⟩:=nM (show 0<=2*p.1+1 by lia);generalize hn:(2*p.2+1+1-(2*p.1+1)).toNat=n;refine fP (n:=n) (λj Z H'=>∃x5:Option V,Z=[Ua g,Ua l,Ua d,Ub p.1,Ub p.2,x5]/\Keeps as H H'/\gG H' g as w (zQ G λi' x=>wO (S.take i) c i' x || (decide (lo<=i'/\i'<lo+j)&&decide (x=c p)))) ⟨_,rfl,kp,gr'.congr λi' x _ _=>?_⟩ ?_ ?_
  .refine wM ?_;rw[U4 (show ¬(lo<=i'/\i'<lo+0) by lia),jR,eS]
  .rintro j Z H2 hj ⟨x5',rfl,kp2,gr2⟩;have hk:lo+j<as.length:=by lia
   have ga:as[lo+j]? = some as[lo+j]:=aE hk;have at1:oR (as.map V.ref) (2*p.1+1+(j:Int))=some (.ref as[lo+j]):=by
    rw[show 2*p.1+1+(j:Int)=((lo+j:Nat):Int) by lia];exact df (by rw[aR,ga];rfl)
   have dg:=oX.k (k:=.inl p.1) (kp2 _ _ ndA hd);rw[(ca p pS).1] at dg;nofun;refine⟨_,_,cI.of gr2.top,at1,_,dg,_,_,_,c p,rfl,rfl,gr2.row _ _ ga,?_,?_⟩
   .rw[wG];unfold xv;rw[U2 (by lia),U2 (by lia),dh]
   have dot:V.str (Str.ofString ".")=wd 46:=by unfold wd;rw[show Str.ofString "."=(⟨#[46]⟩:Str) by symm]
   rw[dot];refine⟨_,rfl,kp2.trans (Keeps.upd (aT ga)),(gr2.set ga).congr λi' x _ _=>?_⟩;refine BA ?_;rw[Bool.or_assoc];congr 1;rw[<-eV,<-eV,<-lg];exact decide_eq_decide.mpr (by lia)
  .rintro Z H2 ⟨x5',rfl,kp2,gr2⟩;refine⟨_,_,_,rfl,kp2,gr2.congr λi' x _ _=>?_⟩;have etk:S.take (i+1)=S.take i++[p]:=by rw[bE,hp];rfl
   refine wM ?_;unfold wO;rw[etk,List.any_append];congr 1;simp only[f9,List.any_nil,eS];unfold yB;rw[<-eV,<-eV,<-eV];exact decide_eq_decide.mpr (by lia)
 .rintro Z H' ⟨_,_,_,rfl,kp,gr'⟩;rw[aA,al,bf] at gr';exact q H' kp gr'
theorem tu (B:qV mg) (E:Fn K mg "carve_rings" iT Us) (OE:(1&&&"line_of") j7 ["row"] qZ):(2&&&"carve_rings") iT Us xE:=by
 refine' lB
 obtain⟨g,dl,dr,as,w,G,kl,kr,n,kL,kR,rfl,gr,hdl,hdr,hc,hn,hA,hw,q⟩:=h;refine⟨[Ua g,Ub (n:Nat),Ua dl,Ua dr,none,none],_,rfl,(L2.jW.h (aM (dc bD rfl (lK (by rfl) B.range (bx aD (dn (aw dW (ae 1) aD) aC))) (4^^^lB)
  (aM (dc bD rfl (lK (by rfl) B.range (a8 (jr (uP hr) (ae 2) (ae 4) (λ_ _=>rfl)) (dn (aw dW (jr (uP hr) (ae 3) (ae 4) (λ_ _=>rfl)) aD) aC))) (5^^^lB)
   (aM (sY (ki (by rfl) B.OPEN_CELL) (sZ (aS bV (ae 0) (OE<<<(aF (ae 4) aC)) (λ_ _=>rfl)) (ae 5) set_list)))))))),?_⟩
 nofun;have nlA:dl∉as:=gr.off hdl λxs e=>nomatch e;have nrA:dr∉as:=gr.off hdr λxs e=>nomatch e;refine⟨⟨by lia,by lia,by lia,by lia⟩,?_⟩;rw[show (((n:Nat):Int)+1 - 1).toNat=n by lia];refine fP (n:=n) (λi Z H'=>∃x4 x5:Option V,Z=[Ua g,Ub (n:Nat),Ua dl,Ua dr,x4,x5]/\Keeps as H H'/\gG H' g as w (zQ G (BC i kL kR))) ⟨_,_,rfl,Keeps.refl _ _,gr.congr λi x _ _=>?_⟩ ?_ ?_
 .have:¬(i % 2=1/\3<=i/\i<=2*0+1):=by lia
  simp only[zQ,BC,U4 this,jR,bR,U8]
 .rintro i Z H' hi ⟨x4,x5,rfl,kp,gr'⟩;obtain⟨c1,c2,c4,c3⟩:=hc (i+1) (by lia) (by lia);have dg1:=oX.k (k:=.inl ((i+1:Nat):Int)) (kp _ _ nlA hdl);have dg2:=oX.k (k:=.inl ((i+1:Nat):Int)) (kp _ _ nrA hdr);rw[c1] at dg1;rw[c2] at dg2;have ei:(1:Int)+(i:Nat)=((i+1:Nat):Int):=by lia
  nofun;rw[ei];refine⟨_,dg1,_,dg2,?_⟩;nofun;refine⟨⟨by lia,by lia,by lia,by lia⟩,?_⟩;generalize hm:(((kR (i+1):Nat):Int)+1-((kL (i+1):Nat):Int)).toNat=m;refine fP (n:=m) (λj Z H'=>∃x5:Option V,Z=[Ua g,Ub (n:Nat),Ua dl,Ua dr,Ub ((i+1:Nat):Int),x5]/\Keeps as H H'/\gG H' g as w (zQ G λi' x=>BC i kL kR i' x || decide (i'=2*(i+1)+1/\kL (i+1)<=x/\x<kL (i+1)+j))) ⟨_,rfl,kp,gr'.congr λi' x _ _=>wM ?_⟩ ?_ ?_
  .rw[U4 (show ¬(i'=2*(i+1)+1/\kL (i+1)<=x/\x<kL (i+1)+0) by lia),eS]
  .rintro j Z H2 hj ⟨x5',rfl,kp2,gr2⟩;have hk:2*(i+1)+1<as.length:=by lia
   have ga:as[2*(i+1)+1]? = some as[2*(i+1)+1]:=aE hk;have at1:oR (as.map V.ref) (2*((i+1:Nat):Int)+1)=some (.ref as[2*(i+1)+1]):=by
    rw[show 2*((i+1:Nat):Int)+1=((2*(i+1)+1:Nat):Int) by lia];exact df (by rw[aR,ga];rfl)
   nofun;refine⟨_,rfl,_,_,_,_,rfl,rfl,cI.of gr2.top,at1,_,_,_,kL (i+1)+j,rfl,rfl,gr2.row _ _ ga,?_,?_⟩
   .rw[wG];unfold xv;rw[U2 (by lia),U2 (by lia)];congr 1
   have dot:V.str (Str.ofString ".")=wd 46:=by unfold wd;rw[show Str.ofString "."=(⟨#[46]⟩:Str) by symm]
   rw[dot];refine⟨_,rfl,kp2.trans (Keeps.upd (aT ga)),(gr2.set ga).congr λi' x _ _=>BA ?_⟩;rw[Bool.or_assoc];congr 1;rw[<-lg];exact decide_eq_decide.mpr (by lia)
  .rintro Z H2 ⟨x5',rfl,kp2,gr2⟩;refine⟨_,_,rfl,kp2,gr2.congr λi' x _ _=>wM ?_⟩;unfold BC;rw[<-eV,<-eV,<-eV,<-lg];refine decide_eq_decide.mpr ⟨λh=>?_,λh=>?_⟩
   .rcases h with ⟨h1,h2,h3⟩ | ⟨h1,h2,h3⟩
    .exact⟨by lia,h2,h3⟩
    .subst h1;rw[show (2*(i+1)+1 - 1) / 2=i+1 by lia];exact⟨by lia,h2,by lia⟩
   .obtain⟨h1,h2,h3⟩:=h;by_cases z:i'<=2*i+1
    .exact .inl ⟨by lia,h2,h3⟩
    .have e:i'=2*(i+1)+1:=by lia
     subst e;rw[show (2*(i+1)+1 - 1) / 2=i+1 by lia] at h2 h3;exact .inr ⟨rfl,h2,by lia⟩
 .rintro Z H' ⟨_,_,rfl,kp,gr'⟩;exact q H' kp gr'
theorem HW (B:qV mg) (E:Fn K mg "mark" tT Um):(1&&&"mark") tT Um Dw:=by
 refine' Gs
 obtain⟨a,w,r,x0,c,rfl,ha,hx,h46,hno,hw,q⟩:=h;refine⟨[Ua a,some (.str ⟨#[c]⟩)],_,rfl,(L2.jW.h (aM (sY (ae 1) (sZ (ae 0) (ef a9 PySem.F.slot_list_index PySem.F.type_list_index CJ (ae 0) (aF (ki (by rfl) B.OPEN_CELL) aC)) set_list)))),?_⟩;nofun;have ek:sG w r=((List.range w).map λx=>(⟨#[r x]⟩:Str)).map V.str:=by unfold sG;rw[bn];rfl
 have dot:Str.ofString "."=⟨#[46]⟩:=by symm
 refine⟨gi ha,(List.range w).map λx=>(⟨#[r x]⟩:Str),x0,by rw[ha,ek],by simp;exact hw,?_,λm hm=>?_,a,_,_,x0,rfl,rfl,ha,?_,q⟩
 .rw[aR,eZ hx,dot];show some (⟨#[r x0]⟩:Str)=_;rw[h46]
 .rw[aR,eZ (by lia),dot];intro e;have:=hno m hm;have e2:(⟨#[r m]⟩:Str)=⟨#[46]⟩:=av e;have e3:(⟨#[r m]⟩:Str)=tx [46]:=e2;rw[Kg] at e3;exact this e3
 .rw[wG];unfold xv;rw[U2 (by lia),U2 (by lia),dh]
theorem Eh {OC d7:Addr} (B:qV mg) (E:Fn K mg "drawn" pQ Ud) (SN:uq P w K mg base 5 "vet" xO Ud (Dq OC d7)) (OS:(3&&&"bows_of") kh Ud tM) (OE:(1&&&"line_of") j7 ["row"] qZ) (OH:(5&&&"greatest_height") fX Ug Aj) (OU:(5&&&"left_columns") gl Uh Af) (OO:(5&&&"right_columns") gS Uh wz) (OP:(2&&&"carve_bows") jA Ur xF) (O1:(2&&&"carve_rings") iT Us xE) (Pt:(1&&&"mark") tT Um Dw):uq P w K mg base 6 "drawn" pQ Ud (tJ OC d7):=E.mkX λf fd F=>by
 refine F.okX jn (by ac_nf) (λcdv A outer s H vs Q E hr h=>?_)
 obtain⟨x,d,rfl,hd,pl,h⟩:=h;refine⟨[some x,none,none,none,none,none,none,none],_,rfl,(L2.jW.h (aK (cU (zN SN (hr.mono (by decide)) (by rfl) (aF (ae 0) aC)))
  (aK (gL (1^^^jn^^^(ac bC (by rfl) B.len aY (a8 (bw>>>(ae 0)) aC))))
  (aK (gL (2^^^jn^^^(OS<<<(aF (ae 0) aC))))
  (aK (gL (ak (i:=3) jn.nd rfl (Or.inr rfl) (OH<<<(a8 (bw>>>(ae 2)) aC))))
  (aK (gL (ak (i:=4) jn.nd rfl (Or.inr rfl) (OH<<<(a8 (bw>>>(ae 2)) aC))))
  (aK (gL (5^^^jn^^^(OU<<<(a8 (bw>>>(ae 2)) (aF (ae 3) aC)))))
  (bv (gL (6^^^jn^^^(OO<<<(a8 (bw>>>(ae 2)) (aF (ae 3) aC)))))
  (bv (gL (ER (i:=7) jn.nd rfl (Or.inl rfl) (own:=["line"]) (ns:=["most_left","most_right"]) (caps:=[3,4]) rfl ⟨rfl,by symm,by symm,by symm⟩ (.cons rfl rfl (.inl rfl) (.cons rfl rfl (.inl rfl) .nil)) (i9 (by rfl) B.range (dn (aw dW (aw jC aD (ae 1)) aD) aC)) (λC s H fp pn=>(bi (i:=0) (show List.Nodup ((["line"]:List Str)++(["most_left","most_right"]:List Str)) by symm) rfl (Or.inl rfl))) (λC s H fp pn=>nV) (λC s H fp pn=>(aw KD (ce (aF (ki (by rfl) B.WALL) aC)) (aw dW (aw jC aD (aw dW (ae 1) (ae 2))) aD)))))
  (aK (gL (cU (OP<<<(aF (ae 7) (a8 (bw>>>(ae 2)) (aF (ae 5) aC))))))
  (aK (gL (cU (OP<<<(aF (ae 7) (a8 (bw>>>(ae 2)) (aF (ae 6) aC))))))
  (aK (gL (cU (O1<<<(aF (ae 7) (aF (ae 1) (aF (ae 5) (aF (ae 6) aC)))))))
  (aK (gL (cU (Pt<<<(a8 (aS bV (ae 7) (OE<<<(bx aD aC)) (λ_ _=>rfl)) (aF (ki (by rfl) B.MOUTH) aC)))))
  (aK (gL (cU (Pt<<<(a8 (aS bV (ae 7) (OE<<<(dn (aw dW (ae 1) aD) aC)) (λ_ _=>rfl)) (aF (ki (by rfl) B.MIDDLE) aC)))))
  (aM (gL (bQ (ef jJ oT oS BE cO (iE (lL (own:=["line"]) (ns:=[]) (caps:=[]) rfl ⟨rfl,by symm,by symm,by symm⟩ .nil (fH (ae 7)) (λC s H fp pn=>(bi (i:=0) (show List.Nodup ((["line"]:List Str)++([]:List Str)) by symm) rfl (Or.inl rfl))) (λC s H fp pn=>nV) (λC s H fp pn=>(Mz (K:=K) rfl (ef jJ oT oS (Ew (K:=K) rfl) cO (aF (ae 0) aC))))) aC))))))))))))))))))),?_⟩
 nofun;refine⟨x,d,rfl,hd,pl,?_⟩;rcases h with ⟨hf,q⟩ | ⟨m,o,b,ns,rfl,hm,rfl,O,q,qc⟩
 .exact .inl ⟨hf,q⟩
 refine .inr ⟨m,o,b,ns,rfl,hm,rfl,O,λnc H1 s1=>?_,qc⟩;have q:=q nc;have hm1:=hm.same s1;nofun;refine⟨_,_,cj.of hm1.1,rfl,o,_,rfl,.inr (cj.of hm1.2),m,o,b,ns,rfl,hm1,O,λt l r L R H2 nt nl nr s2 BO=>?_⟩;rw[aA];have nlen:=O.len;have BL:=BO.isL.bws O;have BR:=BO.isR.bws O;have mL21:=BO.isL.mx O;have mR21:=BO.isR.mx O;refine⟨t,_,0,_,rfl,rfl,cj.of BO.tup,rfl,l,L,rfl,BO.left,BL,λH3 s3=>?_⟩;refine⟨t,_,1,_,rfl,rfl,cj.of (s3 _ _ BO.tup),rfl,r,R,rfl,BO.right.same s3,BR,λH4 s4=>?_⟩;have s34:=s3.trans s4;refine⟨t,_,0,_,rfl,rfl,cj.of (s34 _ _ BO.tup),rfl,l,L,nX L,rfl,BO.left.same s34,BL,aI _,λdl kl H5 ndl s5 hdl cal=>?_⟩;have s35:=s34.trans s5;refine ba (λZ H6=>∃dr kr,Z=[Ua m,Ub (ns.length:Nat),Ua t,Ub (nX L:Nat),Ub (nX R:Nat),Ua dl,Ua dr,none]/\bJ H5 H6/\H6 dr=some (.dK kr)/\vp kr R (qD L R)) ?_ ?_
 .nofun;exact⟨_,_,cj.of (s35 _ _ BO.tup),rfl,r,R,nX L,rfl,BO.right.same s35,BR,λdr kr H6 ndr s6 hdr car=>⟨dr,kr,rfl,s6,hdr,car⟩⟩
 rintro Z H6 ⟨dr,kr,rfl,s6,hdr,car⟩;have s36:=s35.trans s6;have hdl6:=s6 _ _ hdl;have w100:dt L R<=100:=by unfold dt;lia
 refine ba (λZ H7=>∃g as,Z=[Ua m,Ub (ns.length:Nat),Ua t,Ub (nX L:Nat),Ub (nX R:Nat),Ua dl,Ua dr,Ua g]/\gG H7 g as (dt L R) (λ_ _=>35)/\bJ H6 H7/\(∀a∈as,H6 a=none)/\as.length=2*ns.length+5) ?_ ?_
 .nofun;refine⟨.inl ⟨by decide,by decide⟩,by lia,by lia,?_⟩;rw[show (2*((ns.length:Nat):Int)+5).toNat=2*ns.length+5 by lia];have wall:V.str (Str.ofString "#")=wd 35:=by unfold wd;rw[show Str.ofString "#"=(⟨#[35]⟩:Str) by symm]
  rw[wall];refine AA (n:=2*ns.length+5) (λi ys Z H'=>bJ H6 H'/\(∃as:ld,ys=as.map V.ref/\as.length=i/\as.Nodup/\(∀a∈as,H6 a=none)/\∀a∈as,H' a=some (.lst (sG (dt L R) λ_=>35)))/\∃x0,Z=[x0,Ub (nX L:Nat),Ub (nX R:Nat)]) ⟨bJ.refl _,⟨[],rfl,rfl,lZ,(λa h=>nomatch h),λa h=>nomatch h⟩,_,rfl⟩ ?_ (bT (bS (by lia))) ?_ ?_
  .rintro i ys Z H' ⟨_,⟨as,rfl,e,_⟩,_⟩;rw[aA,e];exact aI _
  .rintro i ys Z H' N hi ⟨s7,⟨as,rfl,ea,nd,fr,rows⟩,x0,rfl⟩ hN;nofun;refine⟨by decide,λp np=>⟨.inl ⟨by decide,by decide⟩,p,_,_,rfl,rfl,aG,by lia,by lia,by show 1*_<=sizeLine;rw[Tg];lia,λp2 n2=>?_⟩⟩;have t1:=(bJ.refl H').new (o:=.lst [wd 35]) np;have n2':=t1.free n2;have t2:=(bJ.refl _).new (o:=.lst (sG (dt L R) λ_=>35)) n2;have ew:(2*(((nX L:Nat):Int)+(nX R:Nat))+1).toNat=dt L R:=by unfold dt;lia
   rw[ew,Jq];refine hN _ _ _ ⟨s7.trans (t1.trans t2),⟨as++[p2],by simp,by simp[ea],?_,λa ha=>?_,λa ha=>?_⟩,_,rfl⟩
   .rw[ck];refine⟨nd,by simp,λa ha b hb e=>?_⟩;have:b=p2:=by simpa using hb
    subst this e;rw[rows a ha] at n2';cases n2'
   .rcases bG.mp ha with h | h
    .exact fr a h
    .have:a=p2:=by simpa using h
     subst this;exact s7.free n2'
   .rcases bG.mp ha with h | h
    .exact(t1.trans t2) _ _ (rows a h)
    .have:a=p2:=by simpa using h
     subst this;exact aG
  .rintro ys Z H' g ⟨s7,⟨as,rfl,ea,nd,fr,rows⟩,_⟩ ng;have s8:=(bJ.refl H').new (o:=.lst (as.map V.ref)) ng;have gr:gG (upd H' g (.lst (as.map V.ref))) g as (dt L R) λ_ _=>35:=⟨aG,nd,(λh=>by rw[rows g h] at ng;cases ng),λi a hi=>s8 _ _ (rows a (aT hi))⟩
   have s68:=s7.trans s8;generalize upd H' g (.lst (as.map V.ref))=H7 at gr s8 s68 |-;exact⟨g,as,rfl,gr,s68,fr,ea⟩
 rintro Z H7 ⟨g,as,rfl,gr,s68,fr,ea⟩;nofun;have s38:=s36.trans s68;have lA:l∉as:=λh=>by have:=s36.free (fr l h);obtain⟨_,hh,_⟩:=BO.left;rw[hh] at this;cases this
 have rA:r∉as:=λh=>by have:=s36.free (fr r h);obtain⟨_,hh,_⟩:=BO.right;rw[hh] at this;cases this
 have tA:t∉as:=λh=>by have:=s36.free (fr t h);rw[BO.tup] at this;cases this
 have tupA:∀{S:List Bw} {z:Addr},BowsAt H2 z S->∀{H8:Hp},Keeps as H7 H8->z∉as->BowsAt H8 z S:=fun {S z} hz {H8} kp hn=>by
  obtain⟨zs,hh,pz⟩:=hz;refine⟨zs,kp _ _ hn (s38 _ _ hh),Paired.mapP pz λa p ta=>kp _ _ (gr.off (s38 _ _ ta) λxs e=>nomatch e) (s38 _ _ ta)⟩
 have bdS:∀{u:Bool} {S:List Bw},eG b ns u S->∀p∈S,0<=p.1/\p.1<p.2/\2*p.2+1<as.length:=fun {u S} hS p hp=>by
  obtain⟨j,hj,_,e⟩:=gj (hS.perm.mem_iff.mp hp);have h1:=O.step_in (i:=j) (by lia);have h2:=O.step_lt (i:=j) (by lia);subst e;exact⟨h1.1,h2,by rw[ea];lia⟩
 refine⟨_,_,cj.of (s38 _ _ BO.tup),rfl,g,l,dl,as,dt L R,_,L,qX L,kl,rfl,gr,lA,tupA BO.left (Keeps.refl _ _) lA,s68 _ _ hdl6,cal,λp hp=>⟨(bdS BO.isL p hp).1,(bdS BO.isL p hp).2.1,(bdS BO.isL p hp).2.2,AF BL.lt hp⟩,by lia,by lia,λH8 k8 g8=>?_⟩;refine⟨_,_,cj.of (k8 _ _ tA (s38 _ _ BO.tup)),rfl,g,r,dr,as,dt L R,_,R,qD L R,kr,rfl,g8,rA,tupA BO.right k8 rA,k8 _ _ (gr.off (s68 _ _ hdr) λxs e=>nomatch e) (s68 _ _ hdr),car,λp hp=>⟨(bdS BO.isR p hp).1,(bdS BO.isR p hp).2.1,(bdS BO.isR p hp).2.2,AD BR.lt hp⟩,by lia,by lia,λH9 k9 g9=>?_⟩;have k79:=k8.trans k9;have ringc:∀rr:Nat,1<=rr->rr<=ns.length->gW kl (.inl (rr:Int):Key)=some (.int (pj L rr:Nat))/\gW kr (.inl (rr:Int):Key)=some (.int (sB L R rr:Nat))/\pj L rr<dt L R/\sB L R rr<dt L R:=λrr h1 h2=>by
  obtain⟨p,hp,ep⟩:=BO.isL.has O h1 h2;obtain⟨q',hq,eq⟩:=BO.isR.has O h1 h2;unfold pj sB;rw[ft BL hp ep,ft BR hq eq];refine⟨?_,?_,AF BL.lt hp,AD BR.lt hq⟩
  .rcases ep with e | e
   .rw[<-e];exact(cal p hp).1
   .rw[<-e];exact(cal p hp).2
  .rcases eq with e | e
   .rw[<-e];exact(car q' hq).1
   .rw[<-e];exact(car q' hq).2
 refine⟨g,dl,dr,as,dt L R,_,kl,kr,ns.length,pj L,sB L R,rfl,g9,k79 _ _ (gr.off (s68 _ _ hdl6) λxs e=>nomatch e) (s68 _ _ hdl6),k79 _ _ (gr.off (s68 _ _ hdr) λxs e=>nomatch e) (s68 _ _ hdr),ringc,by lia,by lia,by lia,λH10 k10 g10=>?_⟩;have g10':gG H10 g as (dt L R) (λi x=>if dz ns.length L R i x then 46 else 35):=g10.congr λi x _ _=>by
  unfold zQ dz;cases wO L (qX L) i x<;>cases wO R (qD L R) i x<;>cases BC ns.length (pj L) (sB L R) i x<;>rfl
 have k710:=k79.trans k10;obtain⟨x0,hx0,op0⟩:=t9 O BO.isL BO.isR;obtain⟨x1,hx1,op1⟩:=vM O BO.isL BO.isR;have l1:1<as.length:=by lia
 have l2:2*ns.length+3<as.length:=by lia
 have a1:as[1]? = some as[1]:=aE l1;have a2:as[2*ns.length+3]? = some as[2*ns.length+3]:=aE l2;have vv:Str.ofString "v"=(⟨#[118]⟩:Str):=by symm
 have vm:Str.ofString "@"=(⟨#[64]⟩:Str):=by symm
 refine⟨0,rfl,g,_,1,.ref as[1],rfl,rfl,cI.of g10'.top,by exact df (j:=1) (by rw[aR,a1];rfl),as[1],dt L R,_,x0,118,by rw[vv],g10'.row 1 _ a1,hx0,by rw[op0,U5 rfl];rfl,λx hx=>by rw[op0,U4 (by lia)];decide,by lia,?_⟩;have g11:=g10'.set (x:=x0) (c:=118) a1;have k711:=k710.trans (Keeps.upd (o:=.lst ((sG (dt L R) λx=>if dz ns.length L R 1 x then 46 else 35).set x0 (wd 118))) (aT a1));generalize upd H10 as[1] (.lst ((sG (dt L R) λx=>if dz ns.length L R 1 x then 46 else 35).set x0 (wd 118)))=H11 at g11 k711 |-;refine⟨((ns.length:Nat):Int)+1,rfl,g,_,_,.ref as[2*ns.length+3],rfl,rfl,cI.of g11.top,by rw[show 2*(((ns.length:Nat):Int)+1)+1=((2*ns.length+3:Nat):Int) by lia];exact df (by rw[aR,a2];rfl),as[2*ns.length+3],dt L R,_,x1,64,by rw[vm],g11.row _ _ a2,hx1,?_,λx hx=>?_,by lia,?_⟩
 .have:¬(2*ns.length+3=1/\x1=x0):=by lia
  rw[U1 this,op1,U5 rfl];rfl
 .have:¬(2*ns.length+3=1/\x=x0):=by lia
  rw[U1 this,op1,U4 (by lia)];decide
 have g12:=g11.set (x:=x1) (c:=64) a2;have k712:=k711.trans (Keeps.upd (o:=.lst ((sG (dt L R) λx=>if 2*ns.length+3=1/\x=x0 then 118 else if dz ns.length L R (2*ns.length+3) x then 46 else 35).set x1 (wd 64))) (aT a2));generalize upd H11 as[2*ns.length+3] (.lst ((sG (dt L R) λx=>if 2*ns.length+3=1/\x=x0 then 118 else if dz ns.length L R (2*ns.length+3) x then 46 else 35).set x1 (wd 64)))=H12 at g12 k712 |-;have g13:gG H12 g as (dt L R) (signG ns.length L R):=g12.congr λi x _ _=>sign_of op0 op1 i x;refine⟨rfl,⟨_,cI.of g13.top⟩,?_⟩;have fin12:bJ H H12:=λz o hz=>by
  have hz7:=((s1.trans s2).trans s38) _ _ hz;refine k712 z o (λhm=>?_) hz7;have:=((s1.trans s2).trans s36).free (fr z hm);rw[hz] at this;cases this
 refine pZ (xs:=as.map V.ref) (λi ys Z H'=>H'=H12/\ys=((List.range i).map λj=>V.str (tx (i8 ns.length L R j)))/\∃x,Z=[x]) ⟨rfl,rfl,_,rfl⟩ ?_ (by rw[aA];exact bT (bS (by lia))) ?_ ?_
 .rintro i ys Z H' ⟨rfl,rfl,_⟩;exact⟨cI.of g13.top,by simp⟩
 .rintro i x ys Z H' N hx ⟨rfl,rfl,x',rfl⟩ hN;obtain⟨a,ha,rfl⟩:=lm hx;have hrow:=g13.row i a ha;rw[ED] at hrow;nofun;refine⟨rfl,_,a,_,rfl,rfl,cI.of hrow,B7 (by simp;lia),?_⟩;rw[Gf];refine hN _ _ _ ⟨rfl,?_,_,rfl⟩;rw[dP,aX];rfl
 .rintro ys Z H' p ⟨rfl,rfl,_⟩ np;have s13:=(bJ.refl H').new (o:=.lst ((List.range (as.map V.ref).length).map λj=>V.str (tx (i8 ns.length L R j)))) np;have el:(as.map V.ref).length=2*ns.length+5:=by rw[aA];exact ea
  rw[el];refine⟨_,p,((List.range (2*ns.length+5)).map (i8 ns.length L R)).map tx,rfl,rfl,cI.of ?_,CQ (by simp;lia) (λr hr=>?_),?_⟩
  .rw[aG,bn,bn];rfl
  .obtain⟨j,_,rfl⟩:=aU.mp hr;unfold i8;rw[aA,dJ];lia
  .rw[Hh];rw[el] at s13;exact q L R _ BO.isL BO.isR (fin12.trans s13)
theorem KM (E:Fn K mg "_law_mix" vE Up):(1&&&"_law_mix") vE Up Dv:=by
 refine' EC
 obtain⟨a,k,rfl,h0,h1,q⟩:=h;refine⟨[Ub a,Ub k,none],_,rfl,(L2.jW.h (aK (2^^^EC^^^(aw gu (aw jC (aw dW (aw dW (aw dW (aw gu (ae 0) (aw KF aD aD)) (aw jC aD (ae 1))) (aw jC (aw jC (ae 1) (ae 1)) (ae 1))) aD) aD) aD))
  (aM (bQ (aw gu (aw jC (ae 2) aD) aD))))),?_⟩
 nofun;have hkk:0<=k*k/\k*k<=1000000:=⟨Int.mul_nonneg h0 h0,by have:=Int.mul_le_mul h1 h1 h0 (by decide);lia⟩
 refine⟨⟨by decide,by decide,by decide⟩,by decide,.inl ⟨by decide,by decide⟩,.inl ⟨by lia,by lia⟩,.inl ⟨by lia,by lia⟩,.inr ⟨by decide,by decide⟩,by decide,.inr ⟨by decide,by decide⟩,by decide,q⟩
theorem zZ (B:qV mg) (E:Fn K mg "_law_cell_at" mX Uo):(1&&&"_law_cell_at") mX Uo (Dx K):=by
 refine' zD
 obtain⟨a,ns,k,rfl,hS,q⟩:=h;refine⟨[Ua a,Ub k],_,rfl,(L2.jW.h (aK (cT (bO kP (ae 1) (ac bC (by rfl) B.len aY (aF (ae 0) aC)) (bZ _))
  (aM (bQ (aS bV (ae 0) (ae 1) (λ_ _=>rfl))))
  b9)
  (aM (bQ aD)))),?_⟩
 nofun;refine⟨_,.inl hS,?_⟩;rw[aA];refine gh (λh=>?_) (λh=>?_)
 .have hk:k<ns.length:=by lia
  refine⟨_,.int (ns.getD k 0),hS,df ?_,q⟩;simp[aR,hk]
 .have hk:ns.length<=k:=by lia
  have e:ns.getD k 0=0:=by simp[List.getD,gZ hk]
  rw[e] at q;exact q
theorem CB (B:qV mg) (E:Fn K mg "_law_digits" om Ut) (Pp:(1&&&"_law_mix") vE Up Dv):(2&&&"_law_digits") om Ut xD:=by
 refine' ip
 obtain⟨c,b,rfl,b0,b1,q⟩:=h;refine⟨[Ub c,Ub b,none,none,none,none,none],_,rfl,(L2.jW.h (aK (2^^^ip^^^(aw gu (aw jD (ae 0) aD) aD))
  (aK (3^^^ip^^^(aw jD (ae 0) aD))
  (aK (4^^^ip^^^(ce aC))
  (aK (dc bD rfl (i9 (by rfl) B.range (aF (ae 2) aC)) (5^^^ip)
  (aK (6^^^ip^^^(aw gu (ae 3) (ae 1)))
   (aK (cT (QW.pt (lJ (bO gI (aw gu (ae 0) aD) aD (bZ _)) (jf (bO gI (ae 3) aD (bZ _)))))
   (aM (6^^^ip^^^(aw gu (Pp<<<(aF (ae 0) (aF (ae 5) aC))) (ae 1))))
   b9)
   (aK (cU (ef a9 ar aq dC (ae 4) (aF (ae 6) aC)))
   (aM (3^^^ip^^^(aw jD (ae 3) (ae 1))))))))
  (aM (bQ (ae 4)))))))),?_⟩
 nofun;have m0:0<=c / 2 % 21:=i5 _ (by decide);have m1:c / 2 % 21<21:=gO _ (by decide);generalize c / 2 % 21=many at m0 m1 |-;refine⟨⟨by decide,by decide⟩,by decide,⟨by decide,by decide⟩,ah _,λl nl=>⟨by lia,by lia,?_⟩⟩;refine fP (n:=many.toNat) (λi Z H2=>∃(rest:Int) (ds:gs) (x5 x6:Option V),Z=[Ub c,Ub b,Ub many,Ub rest,Ua l,x5,x6]/\bJ H H2/\H2 l=some (.lst (ds.map V.int))/\ds.length=i)
  ⟨_,[],none,none,rfl,(bJ.refl H).new nl,aG,rfl⟩ ?_ ?_
 .rintro i Z H2 hi ⟨rest,ds,x5,x6,rfl,sm,hl,hlen⟩;nofun;refine⟨by lia,by decide,?_⟩;have fin:∀y:Int,gi (K:=K) hl=gi hl:=λ_=>rfl;refine gh (λ_=>⟨c,_,rfl,by lia,by lia,?_⟩) (λ_=>gh (λ_=>⟨c,_,rfl,by lia,by lia,?_⟩) (λ_=>?_))
  case' refine_1=>(nofun;refine⟨by lia,?_⟩)
  case' refine_2=>(nofun;refine⟨by lia,?_⟩)
  all_goals
   refine⟨gi hl,_,hl,by rw[aA];exact bS (by lia),⟨by lia,by lia⟩,_,ds++[_],_,_,rfl,sm.new nl,by rw[aG,aX];rfl,by simp[hlen]⟩
 .rintro Z H2 ⟨rest,ds,x5,x6,rfl,sm,hl,hlen⟩;nofun;exact q l ds H2 nl sm hl (by lia)
theorem xi (B:qV mg) (E:Fn K mg "_law_order_by" lE Uu) (Pp:(1&&&"_law_mix") vE Up Dv):(2&&&"_law_order_by") lE Uu ux:=by
 refine' fW
 obtain⟨c,room,rfl,r0,r1,q⟩:=h;refine⟨[Ub c,Ub room,none,none,none,none,none,none],_,rfl,(L2.jW.h (aK (2^^^fW^^^(aw gu (aw jD (ae 0) aD) (ae 1)))
  (aK (3^^^fW^^^(aw jD (aw jD (ae 0) aD) (ae 1)))
  (aK (4^^^fW^^^(dE (qB rfl) (by rfl) B.list fB (qo (dE vf (by rfl) B.range mw (bx aD (dn (aw dW (ae 2) aD) aC))) aC)))
  (aK (5^^^fW^^^(ce aC))
  (aK (dc bD rfl (i9 (by rfl) B.range (aF (ae 2) aC)) (6^^^fW)
  (aK (7^^^fW^^^(aw gu (ae 3) (ac bC (by rfl) B.len aY (aF (ae 4) aC))))
   (bv (cT (QW.pt (lJ (bO gI (aw gu (ae 0) aD) aD (bZ _)) (jf (bO gI (ae 3) aD (bZ _)))))
   (aM (7^^^fW^^^(aw gu (Pp<<<(aF (ae 0) (aF (ae 6) aC))) (ac bC (by rfl) B.len aY (aF (ae 4) aC)))))
   b9)
   (aK (3^^^fW^^^(aw jD (ae 3) (ac bC (by rfl) B.len aY (aF (ae 4) aC))))
   (aM (cU (ef a9 ar aq dC (ae 5) (cV (ef a9 jY jX Et (ae 4) (aF (ae 7) aC)) aC))))))))
  (aM (bQ (dE mI (by rfl) B.tuple dY (aF (ae 5) aC)))))))))),?_⟩
 nofun;have m0:0<=c / 2 % room:=i5 _ (by lia);have m1:c / 2 % room<room:=gO _ (by lia);generalize c / 2 % room=many at m0 m1 |-;refine⟨⟨by decide,by decide⟩,by lia,⟨by decide,by decide⟩,⟨by lia,by lia⟩,λr hr0=>⟨1,_,aG,⟨by decide,by decide,by lia,by lia,by lia⟩,λpl hpl=>⟨ah _,λfl hfl=>⟨by lia,by lia,?_⟩⟩⟩⟩;have s1:bJ H (upd H r (.rng 1 (many+1))):=(bJ.refl _).new hr0;have npl:H pl=none:=s1.free hpl;have eN:(many+1 - 1).toNat=many.toNat:=by lia
 rw[eN] at hfl |-;have s2:=s1.new (o:=.lst ((gK 1 many.toNat).map V.int)) npl;have nfl:H fl=none:=s2.free hfl;have npf:pl≠fl:=λe=>by subst e;rw[aG] at hfl;cases hfl
 refine fP (n:=many.toNat) (λi Z H2=>∃(ns ts:gs) (rest:Int) (x6 x7:Option V),Z=[Ub c,Ub room,Ub many,Ub rest,Ua pl,Ua fl,x6,x7]/\bJ H H2/\H2 pl=some (.lst (ns.map V.int))/\H2 fl=some (.lst (ts.map V.int))/\(ts++ns).Perm (gK 1 many.toNat)/\ts.length=i)
  ⟨gK 1 many.toNat,[],_,none,none,rfl,s2.new nfl,by rw[aO npf,aG],aG,.refl _,rfl⟩ ?_ ?_
 .rintro i Z H2 hi ⟨ns,ts,rest,x6,x7,rfl,sm,hp,hf,pm,hl2⟩;have hlen:=pm.length_eq;rw[aj,qi] at hlen;nofun;have h0:0<((ns.map V.int).length:Int):=by rw[aA];lia
  have h1:((ns.map V.int).length:Int)<1073741824:=by rw[aA];lia
  refine⟨_,.inl (cI.of hp),h0,?_⟩;refine ba (λZ H'=>∃e:Int,Z=[Ub c,Ub room,Ub many,Ub rest,Ua pl,Ua fl,Ub (0+(i:Int)),Ub (e % ((ns.map V.int).length:Int))]/\H2=H') ?_ ?_
  .nofun;refine⟨by decide,gh (λ_=>⟨c,_,rfl,by lia,by lia,?_⟩) (λ_=>gh (λ_=>⟨c,_,rfl,by lia,by lia,?_⟩) (λ_=>⟨_,rfl,trivial⟩))⟩
   all_goals (refine⟨_,.inl (cI.of hp),?_⟩;nofun;exact⟨h0,_,rfl,trivial⟩)
  rintro Z H' ⟨e,rfl,rfl⟩;nofun;refine⟨_,.inl (cI.of hp),⟨h0,h1⟩,gi hf,gi hp,?_⟩;refine HL hp (by lia) (by rw[aA];lia) λk y hk hy=>?_;obtain⟨z,hz,rfl⟩:=lm hy;refine⟨ts.map V.int,by rw[aO npf.symm];exact hf,by rw[aA];exact bS (by lia),ns.eraseIdx k,ts++[z],_,_,_,rfl,(sm.new npl).new nfl,by rw[aO npf,aG,vQ],by rw[aG,aX];rfl,?_,by simp[hl2]⟩;rw[cC];exact((uS hz).append_left ts).trans pm
 .rintro Z H2 ⟨ns,ts,rest,x6,x7,rfl,sm,hp,hf,pm,hl2⟩;have hlen:=pm.length_eq;rw[aj,qi] at hlen;have hr:ns=[]:=gJ (by lia);subst hr;rw[cE] at pm;nofun;refine⟨_,.inl ⟨cI.of hf,λl nl=>q l ts _ (sm.free nl) (sm.new (sm.free nl)) aG (by lia) ?_⟩⟩;rw[hl2];exact pm
theorem HV (E:Fn K mg "_law_need" tS ["_law_many"]):(1&&&"_law_need") tS ["_law_many"] Du:=by
 refine' Gq
 obtain⟨m,rfl,h0,h1,q⟩:=h;refine⟨[Ub m],_,rfl,(L2.jW.h (aK (cT (bO kP (ae 0) aD (bZ _))
  (aM (bQ aD))
  b9)
  (aM (bQ (aw gq (aw jD (aw jC aD (aw gq (ae 0) aD)) aD) aD))))),?_⟩
 nofun;unfold oH at q;refine gh (λh=>?_) (λh=>?_)
 .rw[U2 h] at q;exact q
 .rw[U1 h] at q;exact⟨.inl ⟨by decide,by decide⟩,⟨by decide,by decide⟩,q⟩
theorem KP (B:qV mg) (E:Fn K mg "_law_can" xP Uv):(1&&&"_law_can") xP Uv Iy:=by
 refine' zE
 obtain⟨oe,fd,A',B',st,f,k,rfl,hk,G,q⟩:=h;refine⟨[Ua oe,Uc (qW k),none,none],_,rfl,(L2.jW.h (aK (2^^^zE^^^(bV>>>(ae 0)))
  (aK (3^^^zE^^^(bV>>>(ae 0)))
  (aK (cT (bO gI (ae 1) cO (bZ _))
  (aM (bQ (kZ (cm qq (ac bC (by rfl) B.len aY (aF (ae 2) aC)) aD (bZ _)) (kZ (cm qq (ac bC (by rfl) B.len aY (aF (ae 3) aC)) aD (bZ _)) (nW (cm (Ea (oI hr)) (kD>>>(aS bV (ae 2) (oq o8 aD) (λ_ _=>rfl))) (kD>>>(aS bV (ae 3) (oq o8 aD) (λ_ _=>rfl))) (bZ _)))))))
  b9)
  (aK (cT (bO gI (ae 1) cO (bZ _))
  (aM (bQ (cm qq (ac bC (by rfl) B.len aY (aF (ae 3) aC)) aD (bZ _))))
  b9)
  (aM (bQ (Jx (cm gI (ae 1) cO (bZ _)) (nW (cm qq (ac bC (by rfl) B.len aY (aF (ae 2) aC)) aD (bZ _))))))))))),?_⟩
 obtain⟨as,a1,a2⟩:=id (G.s false);obtain⟨bs,b1,b2⟩:=id (G.s true);have la:(as.map V.ref).length=(st false).length:=by rw[aA];exact bK a2
 have lb:(bs.map V.ref).length=(st true).length:=by rw[aA];exact bK b2
 have pos:∀S:List Oe,decide (0<(S.length:Int))=decide (S≠[]):=λS=>decide_eq_decide.mpr (by cases S with
  | nil=>simp
  | cons a b=>simp only[bL,ne_eq,reduceCtorEq,not_false_eq_true,iff_true];lia)
 nofun;refine⟨_,_,cI.of G.oe_,rfl,_,_,cI.of G.oe_,rfl,?_⟩;have hd:=JG k hk;have hb:=MI k hk;have ha:=JH k hk;rw[decide_eq_decide] at hd hb ha;simp only[hd,hb,ha];unfold y8 at q;by_cases k3:k=3
 .rw[U2 k3] at q |-;refine⟨_,_,rfl,.inl (cI.of a1),?_⟩;rw[la];rcases pN (st false) with e | ⟨S,o,l,e⟩
  .rw[e] at q |-;exact pc (by simp) q
  .refine sq (by rw[e];simp only[aj,cY];lia) ⟨_,_,rfl,.inl (cI.of b1),?_⟩;rw[lb];rcases pN (st true) with e' | ⟨S',o',l',e'⟩
   .rw[e,e'] at q;rw[e'];exact pc (by simp) (by simpa using q)
   .refine sq (by rw[e'];simp only[aj,cY];lia) ?_;have s1:=G.s false;have s2:=G.s true;rw[e] at s1;rw[e'] at s2;obtain⟨cs,c,c1,c2,c3,_⟩:=pE s1;obtain⟨ds,d,d1,d2,d3,_⟩:=pE s2;refine⟨_,_,_,_,rfl,rfl,cI.of c1,mq _ _,.inr (.inl ⟨c,_,_,_,rfl,rfl,cj.of c3,rfl,?_⟩)⟩;refine⟨_,_,_,_,rfl,rfl,cI.of d1,mq _ _,.inr (.inl ⟨d,_,_,_,rfl,rfl,cj.of d3,rfl,su ?_⟩)⟩;rw[e,e',vU,vU] at q;have e3:(decide (S++[(o,l)]≠[])&&(decide (S'++[(o',l')]≠[])&&decide (some l≠some l')))=!decide (l=l'):=by simp
    rw[e3] at q;exact q
 .rw[U1 k3] at q |-;by_cases k1:k=1
  .rw[U2 k1] at q |-;refine⟨_,_,rfl,.inl (cI.of b1),?_⟩;rw[lb,pos];exact q
  .rw[U1 k1] at q |-;by_cases k0:k=0
   .rw[U2 k0];rw[U5 k0] at q;exact q
   .rw[U1 k0];rw[U4 k0,mM] at q;refine⟨_,_,rfl,.inl (cI.of a1),?_⟩;rw[la,pos];exact q
theorem KL (B:qV mg) (E:Fn K mg "_law_put" vD Uq):(1&&&"_law_put") vD Uq Dt:=by
 refine' oj
 obtain⟨oe,fd,A',B',st,f,st',f',c,r,rfl,G,hl,P',q⟩:=h;refine⟨[Ua oe,Ua fd,Uc (qW c),Ub r,none,none,none,none,none,none],_,rfl,(L2.jW.h (aK (4^^^oj^^^(bV>>>(ae 0)))
  (aK (5^^^oj^^^(bV>>>(ae 0)))
  (aK (6^^^oj^^^(ce aC))
  (bv (cT (bO pW (ae 2) cO (by with_unfolding_all rfl))
  (aK (cU (ef a9 ar aq dC (ae 6) (cV (Ay a9 jY jX Eu (ae 4)) aC)))
   (aM (cU (ef a9 ar aq dC (bV>>>(ae 1)) (eE (eM (a8 (kD>>>(aS bV (ae 6) (oq o8 aD) (λ_ _=>rfl))) (aF (ae 3) aC))) aC)))))
  b9)
  (bv (cT (bO pW (ae 2) cO (by with_unfolding_all rfl))
  (aK (cU (ef a9 ar aq dC (ae 6) (cV (Ay a9 jY jX Eu (ae 5)) aC)))
   (aM (cU (ef a9 ar aq dC (bV>>>(ae 1)) (eE (eM (a8 (kD>>>(aS bV (ae 6) (oq o8 aD) (λ_ _=>rfl))) (aF (ae 3) aC))) aC)))))
  b9)
  (aK (7^^^oj^^^(ae 3))
  (bv (cT (bO qq (ac bC (by rfl) B.len aY (aF (ae 6) aC)) aD (bZ _))
  (aM (7^^^oj^^^(kD>>>(bV>>>(ae 6)))))
  b9)
  (bv (cT (bO pW (ae 2) cO (by with_unfolding_all rfl))
  (aM (cU (ef a9 ar aq dC (ae 4) (eE (eM (aF (ae 3) (aF (ae 7) aC))) aC))))
  b9)
  (bv (cT (bO pW (ae 2) cO (by with_unfolding_all rfl))
  (aM (cU (ef a9 ar aq dC (ae 5) (eE (eM (aF (ae 3) (aF (ae 7) aC))) aC))))
  b9)
  (aM (cT (bO gI (ae 2) cO (bZ _))
  (aM (dc bD rfl (fH (ce (aF (ae 4) (aF (ae 5) aC)))) (8^^^oj)
   (aM (dc bD rfl (i9 (by rfl) B.range (cV (ac bC (by rfl) B.len aY (aF (ae 8) aC)) aC)) (9^^^oj)
    (aM (cT (bO (wN (oI hr)) (kD>>>(aS bV (ae 8) (ae 9) (λ_ _=>rfl))) (kD>>>(bV>>>(ae 6))) (bZ _))
     (aM (sY (eM (a8 (kD>>>(aS bV (ae 8) (ae 9) (λ_ _=>rfl))) (aF (ae 7) aC))) (sZ (ae 8) (ae 9) set_list)))
     b9))))))
  b9)))))))))))),?_⟩
 nofun;refine⟨_,_,cI.of G.oe_,rfl,_,_,cI.of G.oe_,rfl,ah _,λp np=>?_⟩;have G0:=G.new (o:=.lst []) np;have F0:Fr A' B' H (upd H p (.lst [])):=(Fr.refl _ _ _).new np;have p0:upd H p (.lst []) p=some (.lst []):=aG;have pn:∀u,p≠A' u/\p≠B' u:=λu=>by
  obtain⟨_,x,_⟩:=G.s u;obtain⟨_,y,_⟩:=G.f_ u;exact⟨(bI x np).symm,(bI y np).symm⟩
 generalize upd H p (.lst [])=H0 at G0 F0 p0 |-;have fin:∀H',Fr A' B' H H'->GS H' oe fd A' B' st' f'->Q .non H':=q;have po:p≠oe/\p≠fd:=⟨(bI G.oe_ np).symm,(bI G.fd_ np).symm⟩
 obtain⟨pp,S,o,l,E0,E,L,hE0,hE,hL,i1,i2,i3,i4,hp,hf',hk⟩:∃(pp:Bool->Bool) (S:Bool->List Oe) (o l:Bool->Int) (E0 E:List Oe) (L:Int),E0=(if pp false then [(o false,l false)] else [])/\E=E0++(if pp true then [(o true,l true)] else [])/\L=(E.head?.map Prod.snd).getD r/\u5 "cd" c=pp false/\u5 "bd" c=pp true/\u5 "ab" c=!pp false/\u5 "ac" c=!pp true/\(∀u,pp u=true->st u=S u++[(o u,l u)])/\(∀u,f' u=if pp u then f u++[(o u,(r:Int))] else f u)/\((qW c=Str.ofString "d"/\pp=(λ_=>true)/\∀u,st' u=(S u).map (ff (l true) (l false)))\/(¬qW c=Str.ofString "d"/\∀u,st' u=if pp u then S u else st u++[((r:Int),L)])):=by
  cases P' with
  | a=>exact⟨λ_=>false,λ_=>[],λ_=>0,λ_=>0,_,_,_,rfl,rfl,rfl,BI.1,BK.1,BN.1,BM.1,(λu h=>nomatch h),(λu=>rfl),.inr ⟨(λz=>nomatch (wR (by decide)).mp z),λu=>rfl⟩⟩
  | @b S o l h=>exact⟨id,λ_=>S,λ_=>o,λ_=>l,_,_,_,rfl,rfl,rfl,BI.2.1,BK.2.1,BN.2.1,BM.2.1,λu e=>by obtain rfl:u=true:=e;exact h,λu=>by cases u<;>rfl,.inr ⟨(λz=>nomatch (wR (by decide)).mp z),λu=>by cases u<;>rfl⟩⟩
  | @c S o l h=>exact⟨not,λ_=>S,λ_=>o,λ_=>l,_,_,_,rfl,rfl,rfl,BI.2.2.1,BK.2.2.1,BN.2.2.1,BM.2.2.1,(λu e=>by cases u;exact h;cases e),λu=>by cases u<;>rfl,.inr ⟨(λz=>nomatch (wR (by decide)).mp z),λu=>by cases u<;>rfl⟩⟩
  | @d n' f2 o1 l1 o2 l2 h h' ne=>exact⟨λ_=>true,λu=>if u then f2 else n',λu=>if u then o2 else o1,λu=>if u then l2 else l1,_,_,_,rfl,rfl,rfl,BI.2.2.2,BK.2.2.2,BN.2.2.2,BM.2.2.2,(λu _=>by cases u;exact h;exact h'),λu=>rfl,.inl ⟨rfl,rfl,λu=>rfl⟩⟩
 refine ba (λZ H'=>∃es,Z=[Ua oe,Ua fd,Uc (qW c),Ub r,Ua (A' false),Ua (A' true),Ua p,none,none,none]/\Fr A' B' H H'/\GS H' oe fd A' B' (λv=>if v=false then (if pp false then S false else st false) else st v) (λv=>if v=false then (if pp false then f false++[(o false,(r:Int))] else f false) else f v)/\H' p=some (.lst (es.map V.ref))/\Paired (b6 H') es E0) ?_ ?_
 .nofun;rw[Me,i1,hE0];cases e:pp false with
  | false=>exact pc (λz=>nomatch z) ⟨[],by first | rfl | trivial,F0,G0.cg (λu=>by cases u<;>rfl) (λu=>by cases u<;>rfl),p0,.nil⟩
  | true=>exact sq rfl (xY (u:=false) (S:=S false) (o:=o false) (l:=l false) (r:=r) F0 np G0 (hp false e) p0 (by show 0<=10;decide) (hl false).2 pn po rfl λH4 a F4 G4 p4 t4 old=>⟨[a],by first | rfl | trivial,F4,G4,p4,.cons t4 .nil⟩)
 rintro Z' H1 ⟨es,rfl,F1,G1,p1,t1⟩;refine ba (λZ H'=>∃es,Z=[Ua oe,Ua fd,Uc (qW c),Ub r,Ua (A' false),Ua (A' true),Ua p,none,none,none]/\Fr A' B' H H'/\GS H' oe fd A' B' (λv=>if pp v then S v else st v) (λv=>if pp v then f v++[(o v,(r:Int))] else f v)/\H' p=some (.lst (es.map V.ref))/\Paired (b6 H') es E) ?_ ?_
 .nofun;rw[Me,i2,hE];cases e:pp true with
  | false=>exact pc (λz=>nomatch z) ⟨es,by first | rfl | trivial,F1,G1.cg (λu=>by cases u<;>simp[e]) (λu=>by cases u<;>simp[e]),p1,by simpa using t1⟩
  | true=>exact sq rfl (xY (u:=true) (S:=S true) (o:=o true) (l:=l true) (r:=r) F1 np G1 (hp true e) p1 (by rw[aA,bK t1,hE0];cases pp false<;>simp) (hl true).2 pn po rfl λH4 a F4 G4 p4 t4 old=>⟨es++[a],by first | rfl | trivial,F4,G4.cg (λu=>by cases u<;>simp[e]) (λu=>by cases u<;>simp[e]),by rw[aX];exact p4,pV (Paired.mapP t1 old) t4⟩)
 clear G1 F1 p1 t1 es;rintro Z' H2 ⟨es,rfl,F2,G2,p2,t2⟩;nofun;refine ba (λZ H'=>Z=[Ua oe,Ua fd,Uc (qW c),Ub r,Ua (A' false),Ua (A' true),Ua p,Ub L,none,none]/\H2=H') ?_ ?_
 .nofun;rw[hL];clear hk hE hL;cases t2 with
  | nil=>exact⟨_,.inl (cI.of p2),pc (by simp) ⟨rfl,trivial⟩⟩
  | cons t1 _=>exact⟨_,.inl (cI.of p2),sq (by simp) ⟨_,_,cI.of p2,(show oR _ ((0:Nat):Int)=_ from df rfl),.inr (.inl ⟨_,_,_,_,rfl,rfl,cj.of t1,rfl,by first | rfl | trivial,by first | rfl | trivial⟩)⟩⟩
 rintro Z' H' ⟨rfl,rfl⟩;refine ba (λZ H'=>Z=[Ua oe,Ua fd,Uc (qW c),Ub r,Ua (A' false),Ua (A' true),Ua p,Ub L,none,none]/\Fr A' B' H H'/\GS H' oe fd A' B' (λv=>if v=false then (if pp false then S false else st false++[((r:Int),L)]) else if pp v then S v else st v) (λv=>if pp v then f v++[(o v,(r:Int))] else f v)/\(pp false=true->H2=H')) ?_ ?_
 .nofun;rw[Me,i3];cases e:pp false with
  | true=>exact pc (λz=>nomatch z) ⟨trivial,F2,G2.cg (λu=>by cases u<;>simp[e]) λ_=>rfl,λ_=>trivial⟩
  | false=>
   obtain⟨_,eA,_⟩:=G2.s false;refine sq rfl ⟨gi eA,(by show 2<=sizeLine;decide),λt nt=>?_⟩;obtain⟨xs,ex,lx,G9⟩:=(G2.new (o:=.tup [.int r,.int L]) nt).push false (t:=t) (p:=((r:Int),L)) aG;exact⟨xs,ex,bS (by have:=(hl false).1;simp[e] at lx;lia),trivial,(F2.new nt).updA false,G9.cg (λu=>by cases u<;>simp[e]) λ_=>rfl,λz=>nomatch z⟩
 rintro Z' H3 ⟨rfl,F3,G3,q3⟩;refine ba (λZ H'=>Z=[Ua oe,Ua fd,Uc (qW c),Ub r,Ua (A' false),Ua (A' true),Ua p,Ub L,none,none]/\Fr A' B' H H'/\GS H' oe fd A' B' (λv=>if pp v then S v else st v++[((r:Int),L)]) (λv=>if pp v then f v++[(o v,(r:Int))] else f v)/\(pp true=true->H3=H')) ?_ ?_
 .nofun;rw[Me,i4];cases e:pp true with
  | true=>exact pc (λz=>nomatch z) ⟨trivial,F3,G3.cg (λu=>by cases u<;>simp[e]) λ_=>rfl,λ_=>trivial⟩
  | false=>
   obtain⟨_,eA,_⟩:=G3.s true;refine sq rfl ⟨gi eA,(by show 2<=sizeLine;decide),λt nt=>?_⟩;obtain⟨xs,ex,lx,G9⟩:=(G3.new (o:=.tup [.int r,.int L]) nt).push true (t:=t) (p:=((r:Int),L)) aG;exact⟨xs,ex,bS (by have:=(hl true).1;simp[e] at lx;lia),trivial,(F3.new nt).updA true,G9.cg (λu=>by cases u<;>simp[e]) λ_=>rfl,λz=>nomatch z⟩
 rintro Z' H4 ⟨rfl,F4,G4,q4⟩;nofun;rcases hk with ⟨w3,rfl,hs⟩ | ⟨nd,hs⟩
 rotate_left
 .exact pc nd (fin _ F4 (G4.cg (λu=>(hs u).symm) (λu=>(hf' u).symm)))
 .cases q3 rfl;cases q4 rfl;obtain⟨a1,a2,rfl,t1,t2,eL⟩:∃a1 a2,es=[a1,a2]/\b6 H2 a1 (o false,l false)/\b6 H2 a2 (o true,l true)/\L=l false:=by
   subst hE0 hE hL;cases t2 with
   | cons t1 t2=>cases t2 with
    | cons t2 t3=>cases t3;exact⟨_,_,rfl,t1,t2,rfl⟩
  subst eL;clear G2 F2 G3 F3 i1 i2 i3 i4 hL hE hE0;have G2:=G4;have F2:=F4;refine sq w3 ⟨(by show 2<=sizeLine;decide),λp9 n9=>?_⟩;have G3:=G2.new (o:=.lst [.ref (A' false),.ref (A' true)]) n9;have F3:=F2.new (o:=.lst [.ref (A' false),.ref (A' true)]) n9;have s3:=(bJ.refl H2).new (o:=.lst [.ref (A' false),.ref (A' true)]) n9;have q3:=s3 _ _ p2;have b3:=t2.same s3;have h9:upd H2 p9 (.lst [.ref (A' false),.ref (A' true)]) p9=some (.lst [.ref (A' false),.ref (A' true)]):=aG;have pn9:∀u,p9≠A' u/\p9≠B' u:=λu=>by
   obtain⟨_,x,_⟩:=G2.s u;obtain⟨_,y,_⟩:=G2.f_ u;exact⟨(bI x n9).symm,(bI y n9).symm⟩
  generalize upd H2 p9 (.lst [.ref (A' false),.ref (A' true)])=H3 at G3 F3 q3 b3 h9 |-;clear s3;have G3:GS H3 oe fd A' B' S (λu=>f u++[(o u,(r:Int))]):=G3;have hSl:∀u,(S u).length<=100:=λu=>by
   have a1:=(hl u).1;rw[hp u rfl,aj] at a1;lia
  refine⟨⟨_,cI.of h9⟩,iV (xs:=[.ref (A' false),.ref (A' true)]) (λi Z H'=>∃x8 x9:Option V,Z=[Ua oe,Ua fd,Uc (qW c),Ub r,Ua (A' false),Ua (A' true),Ua p,Ub (l false),x8,x9]/\Fr A' B' H H'/\H' p9=some (.lst [.ref (A' false),.ref (A' true)])/\H' p=some (.lst [.ref a1,.ref a2])/\b6 H' a2 (o true,l true)/\GS H' oe fd A' B' (λu=>if (if u then 2 else 1)<=i then (S u).map (ff (l true) (l false)) else S u) (λu=>f u++[(o u,(r:Int))]))
   ⟨none,none,rfl,F3,h9,q3,b3,G3.cg (λu=>by cases u<;>simp) λ_=>rfl⟩ (by rintro i Z H' _ ⟨_,_,_,_,e,_⟩;exact cI.of e) ?_ ?_⟩
  .rintro i x Z H4 hx ⟨x8,x9,rfl,F4,h94,q4,b4,G4⟩;obtain⟨u,rfl,hu⟩:∃u:Bool,x=.ref (A' u)/\i+1=(if u then 2 else 1):=by
    match i,hx with
    | 0,hx=>exact⟨false,by simpa using hx.symm,rfl⟩
    | 1,hx=>exact⟨true,by simpa using hx.symm,rfl⟩
    | i+2,hx=>simp at hx
   have eu:(λu=>if (if u then 2 else 1)<=i then (S u).map (ff (l true) (l false)) else S u) u=S u:=by simp only;rw[U1 (by lia)]
   nofun;obtain⟨as,a1',a2'⟩:=id (G4.s u);have lu:(as.map V.ref).length=(S u).length:=by rw[aA,<-eu];exact bK a2'
   refine⟨_,.inl (cI.of a1'),by have:=hSl u;lia,by have:=hSl u;lia,?_⟩;have en:(((as.map V.ref).length:Int)).toNat=(S u).length:=by lia
   rw[en];refine fP (n:=(S u).length) (λk Z H'=>∃x9:Option V,Z=[Ua oe,Ua fd,Uc (qW c),Ub r,Ua (A' false),Ua (A' true),Ua p,Ub (l false),Ua (A' u),x9]/\Fr A' B' H H'/\H' p9=some (.lst [.ref (A' false),.ref (A' true)])/\H' p=some (.lst [.ref a1,.ref a2])/\b6 H' a2 (o true,l true)/\GS H' oe fd A' B' (λv=>if v=u then ((S u).take k).map (ff (l true) (l false))++(S u).drop k else if (if v then 2 else 1)<=i then (S v).map (ff (l true) (l false)) else S v) (λu=>f u++[(o u,(r:Int))]))
    ⟨x9,rfl,F4,h94,q4,b4,G4.cg (λv=>by
     by_cases z:v=u
     .subst z;refine Eq.trans eu ?_;rw[U2 rfl];simp
     .rw[U1 z]) λ_=>rfl⟩ ?_ ?_
   .rintro k Z H5 hk ⟨y9,rfl,F5,h95,q5,b5,G5⟩;obtain⟨e,he⟩:∃e,(S u)[k]? = some e:=⟨_,aE hk⟩
    obtain⟨r1,r2⟩:=EJ (S u) (ff (l true) (l false)) he;obtain⟨bs,b,c1,c2,c3,c4⟩:=G5.get u (i:=k) (e:=e) (by rw[U2 rfl];exact r1);nofun;refine⟨_,_,cI.of c1,by rw[iK];exact df c2,.inr (.inl ⟨b,_,_,_,rfl,rfl,cj.of c3,rfl,?_⟩)⟩;refine⟨_,_,cI.of q5,rfl,.inr (.inl ⟨a2,_,_,_,rfl,rfl,cj.of b5,rfl,su ?_⟩)⟩;simp only[bR,U8];refine⟨_,rfl,?_⟩;simp only[U3];refine gh (λz=>?_) (λz=>?_)
    .refine⟨_,_,cI.of c1,by rw[iK];exact df c2,.inr (.inl ⟨b,_,_,_,rfl,rfl,cj.of c3,rfl,?_⟩)⟩;refine⟨(by show 2<=sizeLine;decide),λt nt=>?_⟩;have s6:=(bJ.refl H5).new (o:=.tup [.int e.1,.int (l false)]) nt;have G6:=G5.same s6;have c16:=s6 _ _ c1;refine⟨A' u,_,_,k,rfl,rfl,c16,by rw[iK];exact Hi (aH.mp c2).1,?_⟩;have G7:=G6.set u k (Paired.mapP c4 λa q z=>z.same s6) (t:=t) (q:=(e.1,l false)) aG;refine⟨_,rfl,(F5.new nt).updA u,by rw[aO (pn9 u).1];exact s6 _ _ h95,by rw[aO (pn u).1];exact s6 _ _ q5,lj c16 (b5.same s6),G7.cg (λv=>?_) λ_=>rfl⟩;by_cases zv:v=u
     .subst zv;simp only[U7];have er:ff (l true) (l false) e=(e.1,l false):=by unfold ff;rw[U2 z]
      rw[er] at r2;exact r2
     .simp only[zv,U8]
    .refine⟨_,rfl,F5,h95,q5,b5,G5.cg (λv=>?_) λ_=>rfl⟩;by_cases zv:v=u
     .subst zv;simp only[U7];have er:ff (l true) (l false) e=e:=by unfold ff;rw[U1 z]
      rw[er] at r2;rw[<-r2];obtain⟨w1,w2⟩:=aH.mp r1
      conv=>lhs;rw[<-List.set_getElem_self (as:=((S v).take k).map (ff (l true) (l false))++(S v).drop k) (i:=k) w1,w2]
     .simp only[zv,U8]
   .rintro Z H5 ⟨y9,rfl,F5,h95,q5,b5,G5⟩;refine⟨_,_,rfl,F5,h95,q5,b5,G5.cg (λv=>?_) λ_=>rfl⟩;by_cases zv:v=u
    .subst zv;rw[U2 rfl,U2 (by lia)];simp
    .rw[U1 zv];have:((if v then 2 else 1)<=i)=((if v then 2 else 1)<=i+1):=by
      revert hu zv
      cases u<;>cases v<;>simp<;>lia
     simp only[this]
  .rintro Z H4 ⟨x8,x9,rfl,F4,_,_,_,G4⟩;exact fin _ F4 (G4.cg (λu=>by rw[hs];cases u<;>simp) λu=>(hf' u).symm)
theorem zX (B:qV mg) (E:Fn K mg "_law_fitting" mV Ux) (SO:(1&&&"_law_can") xP Uv Iy) (Qn:(1&&&"_law_need") tS ["_law_many"] Du):(2&&&"_law_fitting") mV Ux uz:=by
 refine' ku
 obtain⟨oe,fd,A',B',st,f,r,d,rfl,G,hl,hr0,q⟩:=h;refine⟨[Ua oe,Ub r,Ub d,none,none,none,none],_,rfl,(L2.jW.h (aK (3^^^ku^^^(aw dW (ac bC (by rfl) B.len aY (a8 (bV>>>(ae 0)) aC)) (ac bC (by rfl) B.len aY (a8 (bV>>>(ae 0)) aC))))
  (aK (4^^^ku^^^(ce aC))
  (aK (dc bD rfl (Aw (vI Jm cO (qk (aw gu (ae 2) aD)) (qk (aw dW (aw gu (ae 2) aD) aD)))) (5^^^ku)
  (bv (6^^^ku^^^(aw gq (aw dW (ae 3) (aw jC aD (dE km (by rfl) B.int dL (iu (cm gI (ae 5) cO (bZ _)) aC)))) (aw jC aD (dE km (by rfl) B.int dL (iu (cm gI (ae 5) cO (bZ _)) aC)))))
   (aM (cT (QW.pt (sX (jB (SO<<<(aF (ae 0) (aF (ae 5) aC)))) (tY (bO Eb (aw dW (ae 1) (Qn<<<(aF (ae 6) aC))) aD (bZ _)))))
   (aM (cU (ef a9 ar aq dC (ae 4) (aF (ae 5) aC))))
   b9))))
  (aM (bQ (ae 4))))))),?_⟩
 obtain⟨as,a1,a2⟩:=id (G.s false);obtain⟨bs,b1,b2⟩:=id (G.s true);have la:(as.map V.ref).length=(st false).length:=by rw[aA];exact bK a2
 have lb:(bs.map V.ref).length=(st true).length:=by rw[aA];exact bK b2
 nofun;refine⟨_,_,cI.of G.oe_,rfl,_,_,rfl,.inl (cI.of a1),_,_,cI.of G.oe_,rfl,_,_,rfl,.inl (cI.of b1),ah _,λl nl=>⟨by decide,by decide,by decide,?_⟩⟩;rw[la,lb];obtain⟨j,hj,ej⟩:∃j:Nat,j<4/\d % 4=j:=⟨(d % 4).toNat,by lia,by lia⟩
 rw[ej];obtain⟨z1,z2,z3⟩:=IM j hj;generalize Txt.slice (Str.ofString "abcdabcd") (some (j:Int)) (some ((j:Int)+4))=z at z1 z2 z3 |-;have hm:((st false).length:Int)+(st true).length<=200:=by have:=hl false;have:=hl true;lia
 generalize hM:((st false).length:Int)+(st true).length=M at hm |-;have hM0:0<=M:=by lia
 have q':∀(ks:im) (H':Hp),bJ H H'->H' l=some (.lst (ks.map λk=>V.str (qW k)))->(∀k∈ks,k<4/\y8 st k=true/\(r:Int)+oH (qR M k)<=20)->Q (.ref l) H':=λks H' s' h1 h2=>q l ks H' nl s' h1 (by rw[hM];exact h2);refine⟨z1,Ht (x:=z) (λi Z H2=>∃(ks:im) (x5 x6:Option V),Z=[Ua oe,Ub r,Ub d,Ub M,Ua l,x5,x6]/\bJ H H2/\H2 l=some (.lst (ks.map λk=>V.str (qW k)))/\ks.length<=i/\i<=4/\∀k∈ks,k<4/\y8 st k=true/\(r:Int)+oH (qR M k)<=20)
  ⟨[],none,none,rfl,(bJ.refl H).new nl,aG,aI _,ah _,λk hk=>(nomatch hk)⟩ ?_ ?_⟩
 .rintro i c Z H2 hc ⟨ks,x5,x6,rfl,sm,hl2,hlen,hi4,hks⟩;have hc':z.cps.toList[i]? = some c:=by simpa using hc
  have hi:i<4:=by
   have h1:=(iA.mp hc).1;have h2:z.cps.size=4:=z3;lia
  obtain⟨k,hk,ek⟩:=KW (U6 (iJ.mp z2 c (aT hc')));rw[ek];nofun;refine ba (λZ H'=>Z=[some (V.ref oe),some (V.int r),some (V.int d),some (V.int M),some (V.ref l),some (V.str (qW k)),some (V.int (qR M k))]/\H2=H') ?_ ?_
  .nofun;simp only[KY hk,wR hk];exact⟨.inl ⟨by decide,by decide⟩,.inl ⟨by decide,by decide⟩,rfl,trivial⟩
  rintro Z H' ⟨rfl,rfl⟩;nofun;refine⟨oe,fd,A',B',st,f,k,rfl,hk,G.same sm,?_⟩;have hb:-1000<=qR M k/\qR M k<=1000:=by
   unfold qR;constructor<;>(split<;>split<;>lia)
  nofun;have no:∃(ks':im) (x5 x6:Option V),[some (V.ref oe),some (V.int r),some (V.int d),some (V.int M),some (V.ref l),some (V.str (qW k)),some (V.int (qR M k))]=[Ua oe,Ub r,Ub d,Ub M,Ua l,x5,x6]/\bJ H H2/\H2 l=some (.lst (ks'.map λk=>V.str (qW k)))/\ks'.length<=i+1/\i+1<=4/\∀k∈ks',k<4/\y8 st k=true/\(r:Int)+oH (qR M k)<=20:=
   ⟨ks,_,_,rfl,sm,hl2,Nat.le_succ_of_le hlen,hi,hks⟩
  cases hcan:y8 st k with
  | false=>exact pc (λz=>nomatch z) no
  | true=>
   refine sq rfl ⟨_,rfl,hb.1,hb.2,?_⟩;nofun;refine gh (λh20=>?_) (λ_=>no);refine⟨gi hl2,_,hl2,by rw[aA];exact bS (by lia),ks++[k],_,_,rfl,sm.new nl,by rw[aG,aX];rfl,by rw[aj];exact my hlen,hi,λk' hk'=>?_⟩;rcases bG.mp hk' with y | y
   .exact hks k' y
   .have e:k'=k:=by simpa using y
    subst e;exact⟨hk,hcan,h20⟩
 .rintro Z H2 ⟨ks,x5,x6,rfl,sm,hl2,hlen,hi4,hks⟩;nofun;exact q' ks H2 sm hl2 hks
theorem Eg (B:qV mg) (E:Fn K mg "_law_ended" qh Uw) (Pq:(1&&&"_law_put") vD Uq Dt):(3&&&"_law_ended") qh Uw Ak:=by
 refine' iQ
 obtain⟨oe,fd,A',B',b,st,f,is,r,rfl,G,GG,hb,q⟩:=h;refine⟨[Ua oe,Ua fd,Ub r,none,none,none,none,none],_,rfl,(L2.jW.h (aK (3^^^iQ^^^(bV>>>(ae 0)))
  (aK (4^^^iQ^^^(bV>>>(ae 0)))
  (bv (pU bD (bO qq (aw dW (ac bC (by rfl) B.len aY (aF (ae 3) aC)) (ac bC (by rfl) B.len aY (aF (ae 4) aC))) aD (bZ _))
  (aK (5^^^iQ^^^(aw qJ (ae 3) (xW rfl (by rfl) B.list (by rfl) B.reversed (ae 4))))
   (aK (6^^^iQ^^^aD)
   (bv (pU bD (bO (wN (oI hr)) (kD>>>(aS bV (ae 5) (aw gq (ae 6) aD) (λ_ _=>rfl))) (kD>>>(aS bV (ae 5) (ae 6) (λ_ _=>rfl))) (bZ _))
   (aM (6^^^iQ^^^(aw dW (ae 6) aD))))
   (aK (7^^^iQ^^^cO)
   (bv (cT (bO kP (ac bC (by rfl) B.len aY (aF (ae 3) aC)) (ae 6) (bZ _))
   (aM (7^^^iQ^^^cO))
   b9)
   (bv (cT (bO qq (ac bC (by rfl) B.len aY (aF (ae 3) aC)) (ae 6) (bZ _))
   (aM (7^^^iQ^^^cO))
   b9)
   (bv (cU (Pq<<<(aF (ae 0) (aF (ae 1) (aF (ae 7) (aF (ae 2) aC))))))
   (aM (2^^^iQ^^^(aw dW (ae 2) aD)))))))))))
  (bv (cT (bO gI (ac bC (by rfl) B.len aY (aF (ae 3) aC)) aD (bZ _))
  (aM (cU (ef a9 ar aq dC (bV>>>(ae 1)) (eE (eM (a8 (kD>>>(bV>>>(ae 3))) (aF (ae 2) aC))) aC))))
  (aM (cU (ef a9 ar aq dC (bV>>>(ae 1)) (eE (eM (a8 (kD>>>(bV>>>(ae 4))) (aF (ae 2) aC))) aC)))))
  (aM (bQ (aw gq (ae 2) aD)))))))),?_⟩
 nofun;refine⟨_,_,cI.of G.oe_,rfl,_,_,cI.of G.oe_,rfl,?_⟩;refine ba (λZ H'=>∃(r:Nat) (st:Bool->List Oe) (f:Bool->List Bw) (is:List Pc) (x5 x6 x7:Option V),Z=[Ua oe,Ua fd,Ub r,Ua (A' false),Ua (A' true),x5,x6,x7]/\Fr A' B' H H'/\GS H' oe fd A' B' st f/\Gr b st f r is/\r<=21/\(st false).length+(st true).length<=1) ?_ ?_
 .refine⟨λm Z H'=>∃(r:Nat) (st:Bool->List Oe) (f:Bool->List Bw) (is:List Pc) (x5 x6 x7:Option V),Z=[Ua oe,Ua fd,Ub r,Ua (A' false),Ua (A' true),x5,x6,x7]/\Fr A' B' H H'/\GS H' oe fd A' B' st f/\Gr b st f r is/\r+yj st<=21/\m=yj st,⟨_,r,st,f,is,none,none,none,rfl,Fr.refl _ _ _,G,GG,hb,rfl⟩,?_⟩;clear G GG hb;rintro m Z H1 ⟨r,st,f,is,x5,x6,x7,rfl,F1,G,GG,hb,rfl⟩;obtain⟨as,a1,a2⟩:=id (G.s false);obtain⟨bs,b1,b2⟩:=id (G.s true);have la:(as.map V.ref).length=(st false).length:=by rw[aA];exact bK a2
  have lb:(bs.map V.ref).length=(st true).length:=by rw[aA];exact bK b2
  have hsm:=GG.small;nofun;refine⟨_,.inl (cI.of a1),_,.inl (cI.of b1),?_⟩;rw[la,lb];refine gh (λh1=>?_) (λh1=>⟨r,st,f,is,_,_,_,rfl,F1,G,GG,by lia,by lia⟩);have h1':1<(st false).length+(st true).length:=by lia
  obtain⟨st',f',PT,hphi⟩:=GG.end_put h1';obtain⟨js,GG'⟩:=PT.gr GG;refine⟨λZ' H'=>∃(x5 x6 x7:Option V),Z'=[Ua oe,Ua fd,Ub ((r+1:Nat):Int),Ua (A' false),Ua (A' true),x5,x6,x7]/\Fr A' B' H H'/\GS H' oe fd A' B' st' f',(by rintro Z' H' ⟨x5,x6,x7,e,F,G'⟩;exact ⟨_,Nat.lt_of_succ_le hphi,r+1,st',f',js,x5,x6,x7,e,F,G',GG',by lia,rfl⟩),?_⟩;have ub:=(hsm true).1;refine⟨_,b1,by rw[lb];lia,λl nl=>?_⟩;have s2:=(bJ.refl H1).new (o:=.lst (bs.map V.ref).reverse) nl;refine⟨A' false,l,_,_,rfl,rfl,s2 _ _ a1,aG,by rw[eX,la,lb];have:=(hsm false).1;exact bT (bS (by lia)),λe ne=>?_⟩;have s3:=s2.new (o:=.lst (as.map V.ref++(bs.map V.ref).reverse)) (s2.free ne);have he:upd (upd H1 l (.lst (bs.map V.ref).reverse)) e (.lst (as.map V.ref++(bs.map V.ref).reverse)) e=some (.lst ((as++bs.reverse).map V.ref)):=by rw[aG];simp
  generalize upd (upd H1 l (.lst (bs.map V.ref).reverse)) e (.lst (as.map V.ref++(bs.map V.ref).reverse))=H3 at s3 he |-;have G3:=G.same s3;have F3:Fr A' B' H H3:=F1.trans (Fr.same s3);have pr:Paired (b6 H3) (as++bs.reverse) (st false++(st true).reverse):=Paired.mapP (E9 a2 (E7 b2)) λa q z=>z.same s3;have lab:∀(i:Nat) (x:Int),(bP st)[i]? = some x->∃a o,((as++bs.reverse).map V.ref)[i]? = some (.ref a)/\b6 H3 a (o,x):=λi x hx=>by
   unfold bP at hx;rw[aR] at hx;cases h2:(st false++(st true).reverse)[i]? with
   | none=>rw[h2] at hx;cases hx
   | some y=>
    rw[h2] at hx;cases hx;obtain⟨a,h3,h4⟩:=HN pr h2;exact⟨a,y.1,by rw[aR,h3];rfl,h4⟩
  have hl1:1<(bP st).length:=by rw[m7];exact h1'
  obtain⟨tx,ty,ex,ey,tne⟩:=GG.tgt_ne hl1;refine ba (λZ H'=>Z=[Ua oe,Ua fd,Ub r,Ua (A' false),Ua (A' true),Ua e,Ub (oZ (bP st):Nat),x7]/\H3=H') ?_ ?_
  .refine⟨λm Z H'=>∃t:Nat,Z=[Ua oe,Ua fd,Ub r,Ua (A' false),Ua (A' true),Ua e,Ub (t:Nat),x7]/\H3=H'/\1<=t/\t<=oZ (bP st)/\m=2-t,⟨_,1,rfl,rfl,by decide,by have:=pL (bP st);lia,rfl⟩,?_⟩;rintro m Z H' ⟨t,rfl,rfl,t1,t2,rfl⟩;by_cases ht:t=oZ (bP st)
   .subst ht;obtain⟨a,o,c1,c2⟩:=lab _ _ ex;obtain⟨a',o',d1,d2⟩:=lab _ _ ey;nofun;refine⟨_,_,cI.of he,by rw[show ((oZ (bP st):Nat):Int) - 1=((oZ (bP st) - 1:Nat):Int) by lia];exact df c1,.inr (.inl ⟨a,_,_,_,rfl,rfl,cj.of c2,rfl,?_⟩)⟩;refine⟨_,_,cI.of he,df d1,.inr (.inl ⟨a',_,_,_,rfl,rfl,cj.of d2,rfl,su ?_⟩)⟩;simp only[bR,U8];refine⟨_,rfl,pc (by simp only[U3];exact tne) ⟨by first | rfl | trivial,by first | rfl | trivial⟩⟩
   .have tt:=pL (bP st);have t11:t=1:=by lia
    have tg2:oZ (bP st)=2:=by lia
    subst t11;have e01:(bP st)[0]? = (bP st)[1]?:=by
     unfold oZ at tg2;by_cases z:(bP st)[0]? = (bP st)[1]?
     .exact z
     .rw[U1 z] at tg2;cases tg2
    obtain⟨x1,hx1⟩:∃x,(bP st)[1]? = some x:=⟨_,aE hl1⟩
    obtain⟨a,o,c1,c2⟩:=lab 0 x1 (e01.trans hx1);obtain⟨a',o',d1,d2⟩:=lab 1 x1 hx1;nofun;refine⟨_,_,cI.of he,df (j:=0) c1,.inr (.inl ⟨a,_,_,_,rfl,rfl,cj.of c2,rfl,?_⟩)⟩;refine⟨_,_,cI.of he,df (j:=1) d1,.inr (.inl ⟨a',_,_,_,rfl,rfl,cj.of d2,rfl,su ?_⟩)⟩;simp only[bR,U8];refine⟨_,rfl,sq (by simp) ⟨λZ' H'=>Z'=[Ua oe,Ua fd,Ub r,Ua (A' false),Ua (A' true),Ua e,Ub 2,x7]/\H3=H',(by rintro Z' H' ⟨z1,z2⟩;exact ⟨0,by decide,2,z1,z2,by decide,by lia,rfl⟩),by first | exact⟨rfl,rfl⟩ | exact⟨trivial,trivial⟩⟩⟩
  rintro Z' H' ⟨rfl,rfl⟩;have lA:=s3 _ _ a1;nofun;refine ba (λZ H'=>Z=[Ua oe,Ua fd,Ub r,Ua (A' false),Ua (A' true),Ua e,Ub (oZ (bP st):Nat),Uc (if (st false).length<oZ (bP st) then Str.ofString "b" else Str.ofString "d")]/\H3=H') ?_ ?_
  .nofun;refine⟨_,.inl (cI.of lA),?_⟩;rw[la];refine gh (λz=>?_) (λz=>?_)
   .rw[U2 (nv.mp z)];exact⟨by first | rfl | trivial,by first | rfl | trivial⟩
   .rw[U1 (λw=>z (nv.mpr w))];exact⟨by first | rfl | trivial,by first | rfl | trivial⟩
  rintro Z' H' ⟨rfl,rfl⟩;refine ba (λZ H'=>Z=[Ua oe,Ua fd,Ub r,Ua (A' false),Ua (A' true),Ua e,Ub (oZ (bP st):Nat),Uc (qW (C4 st))]/\H3=H') ?_ ?_
  .nofun;refine⟨_,.inl (cI.of lA),?_⟩;rw[la];unfold C4;refine gh (λz=>?_) (λz=>?_)
   .have z':=nv.mp z;rw[U1 (by lia),U2 z'];exact⟨by first | rfl | trivial,by first | rfl | trivial⟩
   .have z':¬oZ (bP st)<(st false).length:=λw=>z (nv.mpr w);by_cases y:(st false).length<oZ (bP st)
    .rw[U2 y,U2 y];exact⟨by first | rfl | trivial,by first | rfl | trivial⟩
    .rw[U1 y,U1 y,U1 z'];exact⟨by first | rfl | trivial,by first | rfl | trivial⟩
  rintro Z' H' ⟨rfl,rfl⟩;refine ba (λZ H'=>Z=[Ua oe,Ua fd,Ub r,Ua (A' false),Ua (A' true),Ua e,Ub (oZ (bP st):Nat),Uc (qW (C4 st))]/\Fr A' B' H H'/\GS H' oe fd A' B' st' f') ?_ ?_
  .nofun;exact⟨oe,fd,A',B',st,f,st',f',C4 st,r,rfl,G3,λu=>⟨by have:=(hsm u).1;lia,by have:=(hsm u).2;lia⟩,PT,λH4 F4 G4=>⟨by first | rfl | trivial,F3.trans F4,G4⟩⟩
  rintro Z' H4 ⟨rfl,F4,G4⟩;nofun;exact⟨_,_,_,by first | rfl | trivial,F4,G4⟩
 clear G GG hb;rintro Z' H1 ⟨r,st,f,is,x5,x6,x7,rfl,F1,G,GG,hr,hle⟩;have hm:=GG.many;have hone:(st false).length+(st true).length=1:=by lia
 obtain⟨t,o,l,e1,e2⟩:∃(t:Bool) (o l:Int),st t=[(o,l)]/\st (!t)=[]:=by
  by_cases z:(st false).length=1
  .obtain⟨⟨o,l⟩,e⟩:=nk.mp z;exact⟨false,o,l,e,gJ (show (st true).length=0 by lia)⟩
  .obtain⟨⟨o,l⟩,e⟩:=nk.mp (show (st true).length=1 by lia);exact⟨true,o,l,e,gJ (show (st false).length=0 by lia)⟩
 obtain⟨ns,n1,n2,n3⟩:=GG.last e1 e2;have O:fO ns:=⟨by lia,n2⟩
 have fin:∀H',Fr A' B' H H'->GS H' oe fd A' B' st (λv=>if v=t then f t++[(o,(r:Int))] else f v)->Q (.int ((r:Int) - 1)) H':=λH' F' G'=>q _ ns _ H' F' ⟨G'.fd_,G'.f_,λu=>by
  have:=n3 u;by_cases z:u=t
  .subst z;rw[U2 rfl] at this |-;exact this
  .rw[U1 z] at this |-;exact this,O⟩
 refine ba (λZ H'=>∃x5 x6 x7:Option V,Z=[Ua oe,Ua fd,Ub r,Ua (A' false),Ua (A' true),x5,x6,x7]/\Fr A' B' H H'/\GS H' oe fd A' B' st (λv=>if v=t then f t++[(o,(r:Int))] else f v)) ?_ ?_
 .nofun;obtain⟨as,a1,a2⟩:=id (G.s false);have la:(as.map V.ref).length=(st false).length:=by rw[aA];exact bK a2
  refine⟨_,.inl (cI.of a1),?_⟩;rw[la];cases t with
  | false=>
   refine sq (by rw[e1];rfl) ?_;obtain⟨cs,c,c1,c2,c3,_⟩:=G.get false (i:=0) (e:=(o,l)) (by rw[e1];rfl);obtain⟨_,eB,_⟩:=G.f_ false;refine⟨_,_,cI.of G.fd_,rfl,gi eB,_,_,cI.of c1,df (j:=0) c2,.inr (.inl ⟨c,_,_,_,rfl,rfl,cj.of c3,rfl,(by show 2<=sizeLine;decide),λt nt=>?_⟩)⟩;obtain⟨ys,eY,lY,G4⟩:=(G.new (o:=.tup [.int o,.int r]) nt).add false (t:=t) (p:=(o,(r:Int))) aG;exact⟨B' false,ys,_,rfl,rfl,eY,bS (by have:=(GG.small false).2;lia),_,_,_,rfl,(F1.new nt).updB false,G4⟩
  | true=>
   refine pc (by rw[show st false=[] from e2];simp) ?_;obtain⟨cs,c,c1,c2,c3,_⟩:=G.get true (i:=0) (e:=(o,l)) (by rw[e1];rfl);obtain⟨_,eB,_⟩:=G.f_ true;refine⟨_,_,cI.of G.fd_,rfl,gi eB,_,_,cI.of c1,df (j:=0) c2,.inr (.inl ⟨c,_,_,_,rfl,rfl,cj.of c3,rfl,(by show 2<=sizeLine;decide),λt nt=>?_⟩)⟩;obtain⟨ys,eY,lY,G4⟩:=(G.new (o:=.tup [.int o,.int r]) nt).add true (t:=t) (p:=(o,(r:Int))) aG;exact⟨B' true,ys,_,rfl,rfl,eY,bS (by have:=(GG.small true).2;lia),_,_,_,rfl,(F1.new nt).updB true,G4⟩
 rintro Z' H2 ⟨y5,y6,y7,rfl,F2,G2⟩;nofun;exact fin _ F2 G2
theorem Ef (B:qV mg) (E:Fn K mg "_law_grown" qg Ui) (PP:(2&&&"_law_fitting") mV Ux uz) (Pq:(1&&&"_law_put") vD Uq Dt) (Pu:(3&&&"_law_ended") qh Uw Ak):(4&&&"_law_grown") qg Ui Ai:=by
 refine' kt
 obtain⟨b,dl,ds,rfl,hd,hl,q⟩:=h;refine⟨[Uc (sd b),Ua dl,none,none,none,none,none],_,rfl,(L2.jW.h (aK (2^^^kt^^^(ce (mZ (ce aC) (mZ (ce aC) aC))))
  (aK (cU (ef a9 ar aq dC (aS bV (ae 2) (dE km (by rfl) B.int dL (iu (cm gI (ae 0) cO (bZ _)) aC)) (λ_ _=>rfl)) (eE (eM (bx aD (bx aD aC))) aC)))
  (bv (3^^^kt^^^(ce (mZ (ce aC) (mZ (ce aC) aC))))
  (aK (4^^^kt^^^aD)
  (bv (dc bD rfl (fH (ae 1)) (5^^^kt)
  (aK (6^^^kt^^^(PP<<<(aF (ae 2) (aF (ae 4) (aF (ae 5) aC)))))
   (aK (cT (bO gI (ac bC (by rfl) B.len aY (aF (ae 6) aC)) aD (bZ _))
   (aM Bo)
   b9)
   (aK (cU (Pq<<<(aF (ae 2) (aF (ae 3) (a8 (bV>>>(ae 6)) (aF (ae 4) aC))))))
   (aM (4^^^kt^^^(aw dW (ae 4) aD)))))))
  (aK (cU (Pu<<<(aF (ae 2) (aF (ae 3) (aF (ae 4) aC)))))
  (aM (bQ (ae 3)))))))))),?_⟩
 nofun;refine⟨ah _,λp np=>⟨ah _,λp1 np1=>⟨(by show 2<=sizeLine;decide),λoe noe=>?_⟩⟩⟩;have u1:=(bJ.refl H).new (o:=.lst []) np;have u2:=u1.new (o:=.lst []) (u1.free np1);have u3:=u2.new (o:=.lst [.ref p,.ref p1]) (u2.free noe);have e1:p≠p1:=λe=>by subst e;rw[aG] at np1;cases np1
 have e2:p≠oe:=λe=>by subst e;rw[aO e1,aG] at noe;cases noe
 have e3:p1≠oe:=λe=>by subst e;rw[aG] at noe;cases noe
 have g1:upd (upd (upd H p (.lst [])) p1 (.lst [])) oe (.lst [.ref p,.ref p1]) p=some (.lst []):=by rw[aO e2,aO e1,aG]
 have g2:upd (upd (upd H p (.lst [])) p1 (.lst [])) oe (.lst [.ref p,.ref p1]) p1=some (.lst []):=by rw[aO e3,aG]
 have g3:upd (upd (upd H p (.lst [])) p1 (.lst [])) oe (.lst [.ref p,.ref p1]) oe=some (.lst [.ref p,.ref p1]):=aG;have np1':=u1.free np1;have noe':=u2.free noe;generalize upd (upd (upd H p (.lst [])) p1 (.lst [])) oe (.lst [.ref p,.ref p1])=H3 at u3 g1 g2 g3 |-;clear np1 noe u1 u2;generalize hA:(λu:Bool=>if u then p1 else p)=A';have A0:A' false=p:=by rw[<-hA];rfl
 have A1:A' true=p1:=by rw[<-hA];rfl
 have gA:∀u,H3 (A' u)=some (.lst []):=λu=>by cases u;rw[A0];exact g1;rw[A1];exact g2
 have nA:∀u,H (A' u)=none:=λu=>by cases u;rw[A0];exact np;rw[A1];exact np1'
 have oA:∀u,oe≠A' u:=λu=>by cases u;rw[A0];exact e2.symm;rw[A1];exact e3.symm
 rw[<-A0,<-A1] at g3 e1;refine⟨_,.ref (A' b),cI.of g3,by cases b<;>rfl,gi (gA b),(by show 2<=sizeLine;decide),λt nt=>?_⟩;have v4:=(bJ.refl H3).new (o:=.tup [.int 0,.int 0]) nt;refine⟨A' b,[],_,rfl,rfl,v4 _ _ (gA b),by decide,?_⟩;rw[fQ];have sb:∀u,(if u=b then [((0:Int),(0:Int))] else []).length<=1:=λu=>by split<;>simp
 refine ba (λZ H'=>∃fd B',Z=[Uc (sd b),Ua dl,Ua oe,Ua fd,none,none,none]/\bJ H H'/\H fd=none/\(∀u,H (B' u)=none)/\GS H' oe fd A' B' (λu=>if u=b then [((0:Int),(0:Int))] else []) (λ_=>[])) ?_ ?_
 .have t5:b6 (upd H3 t (.tup [.int 0,.int 0])) t (0,0):=aG;have nAt:∀u,A' u≠t:=λu=>bI (gA u) nt;have eA:=v4 _ _ (gA b);have s5:bJ H (upd (upd H3 t (.tup [.int 0,.int 0])) (A' b) (.lst [.ref t])):=(u3.trans v4).new (nA b);have k1:∀u,BowsAt (upd (upd H3 t (.tup [.int 0,.int 0])) (A' b) (.lst [.ref t])) (A' u) (if u=b then [((0:Int),(0:Int))] else []):=λu=>by
   by_cases z:u=b
   .subst z;rw[U2 rfl];exact⟨[t],aG,.cons (lj eA t5) .nil⟩
   .rw[U1 z];have ne:A' u≠A' b:=by
     cases u<;>cases b<;>first | exact absurd rfl z | exact e1 | exact e1.symm
    exact⟨[],by rw[aO ne];exact v4 _ _ (gA u),.nil⟩
  have k2:upd (upd H3 t (.tup [.int 0,.int 0])) (A' b) (.lst [.ref t]) oe=some (.lst [.ref (A' false),.ref (A' true)]):=by rw[aO (oA b)];exact v4 _ _ g3
  have kA:∀u,∃o,upd (upd H3 t (.tup [.int 0,.int 0])) (A' b) (.lst [.ref t]) (A' u)=some o:=λu=>let ⟨_,x,_⟩:=k1 u;⟨_,x⟩;generalize upd (upd H3 t (.tup [.int 0,.int 0])) (A' b) (.lst [.ref t])=H5 at s5 k1 k2 kA |-;nofun;refine⟨ah _,λq0 n0=>⟨ah _,λq1 n1=>⟨(by show 2<=sizeLine;decide),λfd nf=>?_⟩⟩⟩;have w1:=(bJ.refl H5).new (o:=.lst []) n0;have w2:=w1.new (o:=.lst []) (w1.free n1);have w3:=w2.new (o:=.lst [.ref q0,.ref q1]) (w2.free nf);have d1:q0≠q1:=λe=>by subst e;rw[aG] at n1;cases n1
  have d2:q0≠fd:=λe=>by subst e;rw[aO d1,aG] at nf;cases nf
  have d3:q1≠fd:=λe=>by subst e;rw[aG] at nf;cases nf
  have h0:upd (upd (upd H5 q0 (.lst [])) q1 (.lst [])) fd (.lst [.ref q0,.ref q1]) q0=some (.lst []):=by rw[aO d2,aO d1,aG]
  have h1:upd (upd (upd H5 q0 (.lst [])) q1 (.lst [])) fd (.lst [.ref q0,.ref q1]) q1=some (.lst []):=by rw[aO d3,aG]
  have h2:upd (upd (upd H5 q0 (.lst [])) q1 (.lst [])) fd (.lst [.ref q0,.ref q1]) fd=some (.lst [.ref q0,.ref q1]):=aG;have n1':=w1.free n1;have nf':=w2.free nf;refine⟨fd,λu=>if u then q1 else q0,rfl,s5.trans w3,s5.free nf',λu=>by cases u;exact s5.free n0;exact s5.free n1',⟨w3 _ _ k2,h2,λu=>(k1 u).same w3,λu=>⟨[],by cases u;exact h0;exact h1,.nil⟩,e1,d1,λu v=>?_,λu=>⟨oA u,?_,?_,?_⟩⟩⟩
  .obtain⟨o,ho⟩:=kA u;cases v
   .exact bI ho n0
   .exact bI ho n1'
  .cases u
   .exact bI k2 n0
   .exact bI k2 n1'
  .obtain⟨o,ho⟩:=kA u;exact(bI ho nf').symm
  .cases u
   .exact d2.symm
   .exact d3.symm
 rintro Z' H6 ⟨fd,B',rfl,s6,nf,nB,G6⟩;nofun;refine ba (λZ H'=>∃(r:Nat) (st:Bool->List Oe) (f:Bool->List Bw) (is:List Pc) (x5 x6:Option V),Z=[Uc (sd b),Ua dl,Ua oe,Ua fd,Ub r,x5,x6]/\bJ H H'/\GS H' oe fd A' B' st f/\Gr b st f r is/\(r:Int)+oH ((st false).length+(st true).length)<=21/\r<=21) ?_ ?_
 .nofun;refine⟨⟨_,cI.of (s6 _ _ hd)⟩,iV (xs:=ds.map V.int) (λi Z H'=>∃(r:Nat) (st:Bool->List Oe) (f:Bool->List Bw) (is:List Pc) (x5 x6:Option V),Z=[Uc (sd b),Ua dl,Ua oe,Ua fd,Ub r,x5,x6]/\bJ H H'/\GS H' oe fd A' B' st f/\Gr b st f r is/\(r:Int)+oH ((st false).length+(st true).length)<=21/\r<=21)
   ⟨1,_,_,_,none,none,rfl,s6,G6,Gr.start b,by cases b<;>decide,by decide⟩ (by rintro i Z H' _ ⟨_,_,_,_,_,_,_,sm,_⟩;exact cI.of (sm _ _ hd)) ?_ λZ H' z=>z⟩
  rintro i x Z H7 hx ⟨r,st,f,is,x5,x6,rfl,sm,G,GG,hb,hr⟩;obtain⟨y,hy,rfl⟩:=lm hx;have hsm:=GG.small;nofun;refine⟨oe,fd,A',B',st,f,r,y,rfl,G,λu=>by have:=(hsm u).1;lia,by lia,λl ks H8 nl s8 hl hks=>?_⟩;nofun;have G8:=G.same s8;have sm8:=sm.trans s8;cases ks with
  | nil=>exact⟨_,.inl (cI.of hl),sq rfl ⟨r,st,f,is,_,_,rfl,sm8,G8,GG,hb,hr⟩⟩
  | cons k kr=>
   obtain⟨k4,kc,kn⟩:=hks k aW;obtain⟨st',f',PT⟩:=Jz f r k4 kc;obtain⟨js,GG'⟩:=PT.gr GG;have hmany:=PT.many;have nn:0<=oH (qR ((st false).length+(st true).length) k):=by unfold oH;split<;>lia
   refine⟨_,.inl (cI.of hl),pc (by rw[aA,bL];lia) ⟨_,_,cI.of hl,df (j:=0) (v:=V.str (qW k)) (by simp),oe,fd,A',B',st,f,st',f',k,r,rfl,G8,λu=>⟨by have:=(hsm u).1;lia,by have:=(hsm u).2;lia⟩,PT,λH9 F9 G9=>?_⟩⟩;exact⟨r+1,st',f',js,_,_,rfl,Fr.toSame (λu=>⟨nA u,nB u⟩) sm8 F9,G9,GG',by rw[hmany];push_cast;lia,by lia⟩
 rintro Z' H7 ⟨r,st,f,is,x5,x6,rfl,sm,G,GG,hb,hr⟩;nofun;have hphi:=GG.phi_need;refine⟨oe,fd,A',B',b,st,f,is,r,rfl,G,GG,by lia,λn ns Fs H8 F8 FO=>?_⟩;exact q fd B' ns Fs H8 nf (Fr.toSame (λu=>⟨nA u,nB u⟩) sm F8) FO
theorem xh (B:qV mg) (E:Fn K mg "_law_order_of" lD Uy):(1&&&"_law_order_of") lD Uy uw:=by
 refine' fV
 obtain⟨b,fd,g,ns,Fs,rfl,FO,q⟩:=h;have O:=FO.ord;have hn:=O.len;have hsum:=FO.sum;refine⟨[Uc (sd b),Ua fd,none,none,none,none,none,none],_,rfl,(L2.jW.h (aK (2^^^fV^^^(ce aC))
  (aK (3^^^fV^^^aD)
  (aK (4^^^fV^^^(dE km (by rfl) B.int dL (iu (cm gI (ae 0) cO (bZ _)) aC)))
  (aK (5^^^fV^^^(aw dW (ac bC (by rfl) B.len aY (a8 (bV>>>(ae 1)) aC)) (ac bC (by rfl) B.len aY (a8 (bV>>>(ae 1)) aC))))
  (aK (pU bD (bO ou (ae 3) (ae 5) (bZ _))
  (bv (dc bD rfl (fH (aS bV (ae 1) (ae 4) (λ_ _=>rfl))) (6^^^fV)
   (aM (cT (bO (Ec (oI hr)) (ae 3) (ae 6) (by with_unfolding_all rfl))
    (aM (7^^^fV^^^(aw gq (aw dW (bw>>>(ae 6)) (bw>>>(ae 6))) (ae 3))))
    b9)))
   (aK (3^^^fV^^^(ae 7))
   (aK (4^^^fV^^^(aw gq aD (ae 4)))
   (aM (cT (bO ou (ae 3) (ae 5) (bZ _))
   (aM (cU (ef a9 ar aq dC (ae 2) (aF (ae 3) aC))))
   b9))))))
  (aM (bQ (dE mI (by rfl) B.tuple dY (aF (ae 2) aC)))))))))),?_⟩
 obtain⟨as,a1,a2⟩:=id (FO.bows false);obtain⟨bs,b1,b2⟩:=id (FO.bows true);have la:(as.map V.ref).length=(Fs false).length:=by rw[aA];exact bK a2
 have lb:(bs.map V.ref).length=(Fs true).length:=by rw[aA];exact bK b2
 nofun;refine⟨ah _,λl nl=>?_⟩;have s0:=(bJ.refl H).new (o:=.lst []) nl;have F0:=FO.same s0;refine⟨_,_,cI.of F0.at_,rfl,_,_,rfl,.inl (cI.of (s0 _ _ a1)),_,_,cI.of F0.at_,rfl,_,_,rfl,.inl (cI.of (s0 _ _ b1)),?_⟩;rw[la,lb];have eL:((Fs false).length:Int)+(Fs true).length=(ns.length:Int)+1:=by lia
 rw[eL];simp only[Lu];refine⟨λm Z H2=>∃(i:Nat) (x6 x7:Option V),Z=[Uc (sd b),Ua fd,Ua l,Ub (bX ns i),Ub (if (b ^^ odd i) then 1 else 0),Ub ((ns.length:Int)+1),x6,x7]/\bJ H H2/\H2 l=some (.lst ((ns.take i).map V.int))/\i<=ns.length+1/\m=ns.length+1-i,⟨_,0,none,none,by rw[zG,show odd 0=false from rfl,l9],s0,aG,ah _,rfl⟩,?_⟩;rintro m Z H2 ⟨i,x6,x7,rfl,sm,hl,hi,rfl⟩;nofun;refine gh (λhne=>?_) (λhe=>?_)
 .have hin:i<=ns.length:=by
   apply li;intro z;have:i=ns.length+1:=by lia
   subst this;exact hne (ir ns)
  have F2:=FO.same sm;have on:=F2.only hin;obtain⟨cs,c1,cl,cg⟩:=(F2.bows (b ^^ odd i)).get;have lasti:bX ns (i+1)≠(ns.length:Int)+1->i<ns.length:=λz=>by
   apply li;intro w;have:i=ns.length:=by lia
   subst this;exact z (ir ns)
  have tk:bX ns (i+1)≠(ns.length:Int)+1->(ns.take (i+1)).map V.int=(ns.take i).map V.int++[.int (bX ns (i+1))]:=λz=>by
   have hi2:=lasti z;rw[bE,aE hi2,aX,pR (aE hi2)];rfl
  have tk2:bX ns (i+1)=(ns.length:Int)+1->(ns.take (i+1)).map V.int=(ns.take i).map V.int:=λz=>by
   have:i+1=ns.length+1:=O.row_inj (by lia) (by lia) (z.trans (ir ns).symm);rw[dD (by lia),dD (by lia)]
  refine⟨λZ' H'=>∃(x6 x7:Option V),Z'=[Uc (sd b),Ua fd,Ua l,Ub (bX ns (i+1)),Ub (if (b ^^ odd (i+1)) then 1 else 0),Ub ((ns.length:Int)+1),x6,x7]/\bJ H H'/\H' l=some (.lst ((ns.take (i+1)).map V.int)),(by rintro Z' H' ⟨x6,x7,e,a,c⟩;exact ⟨ns.length+1-(i+1),by lia,i+1,x6,x7,e,a,c,by lia,rfl⟩),?_⟩;refine ba (λZ H'=>∃x6:Option V,Z=[Uc (sd b),Ua fd,Ua l,Ub (bX ns i),Ub (if (b ^^ odd i) then 1 else 0),Ub ((ns.length:Int)+1),x6,Ub (bX ns (i+1))]/\H2=H') ?_ ?_
  .nofun;refine⟨_,.ref (g (b ^^ odd i)),cI.of F2.at_,by cases (b ^^ odd i)<;>rfl,_,rfl,⟨_,cI.of c1⟩,?_⟩;refine iV (xs:=cs.map V.ref) (λj Z H'=>∃x6 x7:Option V,Z=[Uc (sd b),Ua fd,Ua l,Ub (bX ns i),Ub (if (b ^^ odd i) then 1 else 0),Ub ((ns.length:Int)+1),x6,x7]/\H2=H'/\((∃p∈(Fs (b ^^ odd i)).take j,qu (bX ns i) p=true)->x7=some (.int (bX ns (i+1)))))
    ⟨_,_,rfl,rfl,(by rintro ⟨p,hp,_⟩;rw[List.take_zero] at hp;cases hp)⟩ (by rintro j Z H' _ ⟨_,_,_,e,_⟩;rw[<-e];exact cI.of c1) ?_ ?_
   .rintro j x Z H' hx ⟨y6,y7,rfl,rfl,hj⟩;obtain⟨a,p,rfl,hp,ta⟩:=cg j x hx;have tk3:(Fs (b ^^ odd i)).take (j+1)=(Fs (b ^^ odd i)).take j++[p]:=by rw[bE,hp];rfl
    nofun;refine Hl (ns:=[p.1,p.2]) (.inr (cj.of ta)) ?_;have eh:decide (bX ns i∈[p.1,p.2])=qu (bX ns i) p:=by simp[qu]
    simp only[bR,U8,eh];refine⟨_,rfl,?_⟩;refine gh (λz=>?_) (λz=>?_)
    .refine⟨_,_,cj.of ta,rfl,_,_,cj.of ta,rfl,?_⟩;have ep:p=cF ns i:=by
      have:p∈(Fs (b ^^ odd i)).filter (qu (bX ns i)):=aV.mpr ⟨aT hp,z⟩;rw[on] at this;simpa using this
     have es:p.1+p.2-bX ns i=bX ns (i+1):=by rw[ep,Dn];lia
     nofun;rw[es];exact⟨_,_,rfl,by first | rfl | trivial,λ_=>rfl⟩
    .refine⟨_,_,rfl,by first | rfl | trivial,λ⟨p',hp',hh⟩=>hj ?_⟩;rw[tk3] at hp';rcases bG.mp hp' with w | w
     .exact⟨p',w,hh⟩
     .have e:p'=p:=by simpa using w
      subst e;exact absurd hh z
   .rintro Z H' ⟨y6,y7,rfl,rfl,hj⟩;have:y7=some (.int (bX ns (i+1))):=hj ⟨cF ns i,by
     have hm:cF ns i∈(Fs (b ^^ odd i)).filter (qu (bX ns i)):=by rw[on];simp
     obtain⟨m1,m2⟩:=aV.mp hm;rw[aA,cl,bf];exact⟨m1,m2⟩⟩
    subst this;exact⟨_,rfl,rfl⟩
  rintro Z' H' ⟨y6,rfl,rfl⟩;have ek:(1:Int)-(if (b ^^ odd i) then 1 else 0)=if (b ^^ odd (i+1)) then 1 else 0:=by
   rw[lO];cases b<;>cases odd i<;>rfl
  nofun;rw[ek];refine gh (λz=>?_) (λz=>?_)
  .refine⟨gi hl,_,hl,by rw[aA,cB];exact bS (by lia),_,_,rfl,sm.new nl,?_⟩;rw[aG,tk z]
  .refine⟨_,_,rfl,sm,?_⟩;rw[tk2 (f7.mp z)];exact hl
 .have:i=ns.length+1:=O.row_inj (by lia) (by lia) ((f7.mp he).trans (ir ns).symm);subst this;rw[dD (by lia)] at hl;exact⟨_,.inl ⟨cI.of hl,λt nt=>q t _ (sm.free nt) (sm.new (sm.free nt)) aG⟩⟩
theorem xl (E:Fn K mg "_law_drawable" lH Ui) (Pw:(4&&&"_law_grown") qg Ui Ai) (Ov:(1&&&"_law_order_of") lD Uy uw):(5&&&"_law_drawable") lH Ui tK:=by
 refine' xN
 obtain⟨b,dl,ds,rfl,hd,hl,q⟩:=h;refine⟨[Uc (sd b),Ua dl],_,rfl,(L2.jW.h (aM (bQ (eM (aF (ae 0) (cV (Ov<<<(aF (ae 0) (cV (Pw<<<(aF (ae 0) (aF (ae 1) aC))) aC))) aC)))))),?_⟩;nofun;refine⟨b,dl,ds,rfl,hd,hl,λfd g ns Fs H1 nf s1 FO=>?_⟩;refine⟨b,fd,g,ns,Fs,rfl,FO,λt H2 nt s2 ht=>⟨(by show 2<=sizeLine;decide),λm nm=>?_⟩⟩;have s3:=(bJ.refl H2).new (o:=.tup [.str (sd b),.ref t]) nm;exact q m t ns _ (s1.free (s2.free nm)) (s1.free nt) ((s1.trans s2).trans s3) ⟨aG,s3 _ _ ht⟩ FO.ord
theorem HX (B:qV mg) (E:Fn K mg "_law_bows" tU ["_law_maze"]):(1&&&"_law_bows") tU ["_law_maze"] Al:=by
 refine' pP
 obtain⟨m,o,b,ns,rfl,hm,hl,q⟩:=h;refine⟨[Ua m,none,none,none,none],_,rfl,(L2.jW.h (bv (1^^^pP^^^(aw qJ (aw qJ (ce (bx aD aC)) (dE n8 (by rfl) B.list fB (a8 (bw>>>(ae 0)) aC))) (ce (dn (aw dW (ac bC (by rfl) B.len aY (a8 (bw>>>(ae 0)) aC)) aD) aC))))
  (aK (2^^^pP^^^(ce (mZ (ce aC) (mZ (ce aC) aC))))
  (bv (3^^^pP^^^(dE km (by rfl) B.int dL (iu (cm gI (bw>>>(ae 0)) cO (bZ _)) aC)))
  (aK (dc bD rfl (lK (by rfl) B.range (bx aD (cV (ac bC (by rfl) B.len aY (aF (ae 1) aC)) aC))) (4^^^pP)
  (aK (cU (ef a9 ar aq dC (aS bV (ae 2) (ae 3) (λ_ _=>rfl)) (eE (eM (cV (ac (Ce rfl) (by rfl) B.min PyProof.Rows.boot_min (a8 (aS bV (ae 1) (aw gq (ae 4) aD) (λ_ _=>rfl)) (a8 (aS bV (ae 1) (ae 4) (λ_ _=>rfl)) aC))) (cV (ac (Cg rfl) (by rfl) B.max oU (a8 (aS bV (ae 1) (aw gq (ae 4) aD) (λ_ _=>rfl)) (a8 (aS bV (ae 1) (ae 4) (λ_ _=>rfl)) aC))) aC))) aC)))
   (aM (3^^^pP^^^(aw gq aD (ae 3))))))
  (aM (bQ (ae 2)))))))),?_⟩
 refine ba (λZ H'=>∃rl,Z=[Ua m,Ua rl,none,none,none]/\bJ H H'/\H rl=none/\H' rl=some (.lst ((eK ns).map V.int))) ?_ ?_
 .nofun;refine⟨(by show 1<=sizeLine;decide),λp1 n1=>?_⟩;have s1:=(bJ.refl H).new (o:=.lst [.int 0]) n1;refine⟨_,_,cj.of (s1 _ _ hm.1),rfl,o,_,rfl,.inr (cj.of (s1 _ _ hm.2)),λp2 n2=>?_⟩;have s2:=s1.new (o:=.lst (ns.map V.int)) (s1.free n2);have e12:p1≠p2:=λe=>by subst e;rw[aG] at n2;cases n2
  refine⟨p1,p2,_,_,rfl,rfl,by rw[aO e12,aG],aG,bT (bS (by simp;lia)),λp3 n3=>?_⟩;have s3:=s2.new (o:=.lst ([.int 0]++ns.map V.int)) (s2.free n3);refine⟨_,_,cj.of (s3 _ _ hm.1),rfl,o,_,rfl,.inr (cj.of (s3 _ _ hm.2)),(by show 1<=sizeLine;decide),λp4 n4=>?_⟩;have s4:=s3.new (o:=.lst [.int (((ns.map V.int).length:Int)+1)]) (s3.free n4);have e34:p3≠p4:=λe=>by subst e;rw[aG] at n4;cases n4
  refine⟨p3,p4,_,_,rfl,rfl,by rw[aO e34,aG],aG,bT (bS (by simp;lia)),λp5 n5=>?_⟩;have s5:=s4.new (o:=.lst ([.int 0]++ns.map V.int++[.int (((ns.map V.int).length:Int)+1)])) (s4.free n5);exact⟨p5,rfl,s5,s4.free n5,by rw[aG];simp[eK]⟩
 rintro Z' H1 ⟨rl,rfl,s1,nrl,hrl⟩;nofun;refine⟨ah _,λp np=>⟨ah _,λp1 np1=>⟨(by show 2<=sizeLine;decide),λoe noe=>?_⟩⟩⟩;have u1:=(bJ.refl H1).new (o:=.lst []) np;have u2:=u1.new (o:=.lst []) (u1.free np1);have u3:=u2.new (o:=.lst [.ref p,.ref p1]) (u2.free noe);have e1:p≠p1:=λe=>by subst e;rw[aG] at np1;cases np1
 have e2:p≠oe:=λe=>by subst e;rw[aO e1,aG] at noe;cases noe
 have e3:p1≠oe:=λe=>by subst e;rw[aG] at noe;cases noe
 have g1:upd (upd (upd H1 p (.lst [])) p1 (.lst [])) oe (.lst [.ref p,.ref p1]) p=some (.lst []):=by rw[aO e2,aO e1,aG]
 have g2:upd (upd (upd H1 p (.lst [])) p1 (.lst [])) oe (.lst [.ref p,.ref p1]) p1=some (.lst []):=by rw[aO e3,aG]
 have g3:upd (upd (upd H1 p (.lst [])) p1 (.lst [])) oe (.lst [.ref p,.ref p1]) oe=some (.lst [.ref p,.ref p1]):=aG;have np1':=u1.free np1;have noe':=u2.free noe;generalize upd (upd (upd H1 p (.lst [])) p1 (.lst [])) oe (.lst [.ref p,.ref p1])=H3 at u3 g1 g2 g3 |-;clear np1 noe u1 u2;generalize hA:(λu:Bool=>if u then p1 else p)=g;have A0:g false=p:=by rw[<-hA];rfl
 have A1:g true=p1:=by rw[<-hA];rfl
 have gA:∀u,H3 (g u)=some (.lst []):=λu=>by cases u;rw[A0];exact g1;rw[A1];exact g2
 have nA:∀u,H1 (g u)=none:=λu=>by cases u;rw[A0];exact np;rw[A1];exact np1'
 have oA:∀u,oe≠g u:=λu=>by cases u;rw[A0];exact e2.symm;rw[A1];exact e3.symm
 have rA:∀u,rl≠g u:=λu=>bI hrl (nA u);rw[<-A0,<-A1] at g3 e1;have hrl3:=u3 _ _ hrl;have hm3:gY H3 m o b ns:=(hm.same s1).same u3;have nfd:=s1.free noe';have nfA:∀u,H (g u)=none:=λu=>s1.free (nA u);have s13:=s1.trans u3;refine ba (λZ H'=>Z=[Ua m,Ua rl,Ua oe,Ub (if b then 1 else 0),none]/\H3=H') ?_ ?_
 .nofun;refine⟨_,_,cj.of hm3.1,rfl,?_⟩;nofun;simp only[Lu];exact⟨by first | rfl | trivial,by first | rfl | trivial⟩
 rintro Z' H' ⟨rfl,rfl⟩;nofun;have hlr:((eK ns).map V.int).length=ns.length+2:=by rw[aA,iq]
 refine⟨_,.inl (cI.of hrl3),⟨by lia,by lia,by lia,by lia⟩,?_⟩;have en:((((eK ns).map V.int).length:Int) - 1).toNat=ns.length+1:=by lia
 rw[en];refine fP (n:=ns.length+1) (λi Z H'=>∃x4:Option V,Z=[Ua m,Ua rl,Ua oe,Ub (if (b ^^ odd i) then 1 else 0),x4]/\bJ H H'/\H' rl=some (.lst ((eK ns).map V.int))/\H' oe=some (.lst [.ref (g false),.ref (g true)])/\∀u,BowsAt H' (g u) (bH b ns u i))
  ⟨none,by rw[show odd 0=false from rfl,l9],s13,hrl3,g3,λu=>⟨[],gA u,.nil⟩⟩ ?_ ?_
 .rintro i Z H4 hi ⟨x4,rfl,sm,hr4,ho4,hb4⟩;have ek:(1:Int)-(if (b ^^ odd i) then 1 else 0)=if (b ^^ odd (i+1)) then 1 else 0:=by
   rw[lO];cases b<;>cases odd i<;>rfl
  have at1:oR ((eK ns).map V.int) (1+(i:Int) - 1)=some (.int (bX ns i)):=by
   rw[show (1:Int)+i - 1=(i:Int) by lia];exact df (by rw[aR,iU (by lia)];rfl)
  have at2:oR ((eK ns).map V.int) (1+(i:Int))=some (.int (bX ns (i+1))):=by
   rw[show (1:Int)+i=((i+1:Nat):Int) by lia];exact df (by rw[aR,iU (by lia)];rfl)
  nofun;obtain⟨as,a1,a2⟩:=id (hb4 (b ^^ odd i));have la:as.length=(bH b ns (b ^^ odd i) i).length:=bK a2;have hlb:=iD b ns (b ^^ odd i) i;refine⟨_,.ref (g (b ^^ odd i)),cI.of ho4,by cases (b ^^ odd i)<;>rfl,gi a1,_,_,cI.of hr4,at1,_,_,cI.of hr4,at2,_,_,rfl,_,_,cI.of hr4,at1,_,_,cI.of hr4,at2,_,_,rfl,(by show 2<=sizeLine;decide),λt nt=>?_⟩;have emin:(if bX ns (i+1)<bX ns i then bX ns (i+1) else bX ns i)=(cF ns i).1:=by
   show _=min (bX ns i) (bX ns (i+1));rw[Int.min_def];split<;>split<;>lia
  have emax:(if bX ns (i+1) > bX ns i then bX ns (i+1) else bX ns i)=(cF ns i).2:=by
   show _=max (bX ns i) (bX ns (i+1));rw[Int.max_def];split<;>split<;>lia
  rw[emin,emax];have s5:=(bJ.refl H4).new (o:=.tup [.int (cF ns i).1,.int (cF ns i).2]) nt;have t5:b6 (upd H4 t (.tup [.int (cF ns i).1,.int (cF ns i).2])) t (cF ns i):=aG;have a15:=s5 _ _ a1;refine⟨g (b ^^ odd i),_,_,rfl,rfl,a15,by rw[aA];exact bS (by lia),_,by rw[ek],(sm.trans s5).new (nfA _),by rw[aO (rA _)];exact s5 _ _ hr4,by rw[aO (oA _)];exact s5 _ _ ho4,λu=>?_⟩;by_cases z:u=(b ^^ odd i)
  .subst z;rw[ix (oy b i)];exact mo a15 (Paired.mapP a2 λa q w=>w.same s5) t5
  .have z':u=!(b ^^ odd i):=by revert z;cases u<;>cases (b ^^ odd i)<;>decide
   have gne:g u≠g (b ^^ odd i):=by
    cases u<;>cases hq:(b ^^ odd i)<;>first | exact absurd hq.symm z | exact e1 | exact e1.symm
   rw[z',jm (wQ b i),<-z'];exact jH ((hb4 u).same s5) a15 gne
 .rintro Z H4 ⟨x4,rfl,sm,hr4,ho4,hb4⟩;nofun;exact q oe g H4 nfd nfA sm ho4 hb4 e1
theorem ug (E:Fn K mg "_law_crossing" iz ["_law_bows_here"]):(1&&&"_law_crossing") iz ["_law_bows_here"] rj:=by
 refine' mF
 obtain⟨l,ps,rfl,bo,q⟩:=h;obtain⟨as,b1,bl,bg⟩:=bo.get;refine⟨[Ua l,none,none],_,rfl,(L2.jW.h (aK (dc bD rfl (fH (ae 0)) (1^^^mF)
  (aM (dc bD rfl (fH (ae 0)) (2^^^mF)
   (aM (cT (QW.pt (sX (bO kP (bw>>>(ae 1)) (bw>>>(ae 2)) (bZ _)) (sX (bO kP (bw>>>(ae 2)) (bw>>>(ae 1)) (bZ _)) (tY (bO kP (bw>>>(ae 1)) (bw>>>(ae 2)) (bZ _))))))
    (aM (bQ ja))
    b9)))))
  (aM (bQ ja)))),?_⟩
 nofun;refine⟨⟨_,cI.of b1⟩,iV (xs:=as.map V.ref) (λi Z H2=>∃x1 x2:Option V,Z=[Ua l,x1,x2]/\H=H2/\∀p∈ps.take i,∀q∈ps,ci p q=false) ⟨none,none,rfl,rfl,λp hp=>by simp at hp⟩ (by rintro i Z H2 _ ⟨_,_,_,e,_⟩;rw[<-e];exact cI.of b1) ?_ ?_⟩
 .rintro i x Z H2 hx ⟨x1,x2,rfl,rfl,hn⟩;obtain⟨a,p,rfl,hp,ta⟩:=bg i x hx;nofun;refine⟨⟨_,cI.of b1⟩,iV (xs:=as.map V.ref) (λj Z H3=>∃x2:Option V,Z=[Ua l,Ua a,x2]/\H=H3/\∀q∈ps.take j,ci p q=false) ⟨x2,rfl,rfl,λp hp=>by simp at hp⟩ (by rintro i Z H2 _ ⟨_,_,e,_⟩;rw[<-e];exact cI.of b1) ?_ ?_⟩
  .rintro j y Z H3 hy ⟨y2,rfl,rfl,hm⟩;obtain⟨c,q',rfl,hq,tc⟩:=bg j y hy;nofun;have nx:ci p q'=false->∃x2:Option V,[some (V.ref l),some (V.ref a),some (V.ref c)]=[some (V.ref l),some (V.ref a),x2]/\H=H/\∀q∈ps.take (j+1),ci p q=false:=λe=>by
    refine⟨_,rfl,rfl,λq2 hq2=>?_⟩;rw[bE,hq] at hq2;rcases bG.mp hq2 with z | z
    .exact hm q2 z
    .have e':q2=q':=by simpa using z
     rw[e'];exact e
   refine⟨_,_,cj.of ta,rfl,_,_,cj.of tc,rfl,?_⟩;nofun;refine gh (λh1=>?_) (λh1=>by simpa using nx (by simp[ci,h1]));refine⟨_,_,cj.of tc,rfl,_,_,cj.of ta,rfl,?_⟩;nofun;refine gh (λh2=>?_) (λh2=>by simpa using nx (by simp[ci,h2]));refine⟨_,_,cj.of ta,rfl,_,_,cj.of tc,rfl,?_⟩;nofun;refine gh (λh3=>?_) (λh3=>by simpa using nx (by simp[ci,h3]));rw[w5 (aT hp) (aT hq) (by simp[ci,h1,h2,h3])] at q;exact q
  .rintro Z H3 ⟨y2,rfl,rfl,hm⟩;refine⟨_,y2,rfl,rfl,λp' hp'=>?_⟩;rw[bE,hp] at hp';rcases bG.mp hp' with z | z
   .exact hn p' z
   .have e:p'=p:=by simpa using z
    subst e;intro q2 hq2;refine hm q2 ?_;rw[aA,bl,bf];exact hq2
 .rintro Z H2 ⟨x1,x2,rfl,rfl,hn⟩;nofun;rw[sE (λp hp=>hn p (by rw[aA,bl,bf];exact hp))] at q;exact q
theorem HS (B:qV mg) (E:Fn K mg "_law_walk" tQ ["_law_lines"]):(1&&&"_law_walk") tQ ["_law_lines"] Dp:=by
 refine' kX
 obtain⟨ll,b,ns,rfl,hll,O,nc,q⟩:=h;refine⟨[Ua ll,none,none,none,none,none,none,none],_,rfl,(L2.jW.h (aK (1^^^kX^^^(ce aC))
  (bv (dc bD rfl (i9 (by rfl) B.range (cV (ac bC (by rfl) B.len aY (aF (ae 0) aC)) aC)) (2^^^kX)
  (aM (dc bD rfl (i9 (by rfl) B.range (cV (ac rB (by rfl) B.len aY (a8 (aS bV (ae 0) (ae 2) (λ_ _=>rfl)) aC)) aC)) (3^^^kX)
   (aM (cT (bO gI (aS uK (aS bV (ae 0) (ae 2) (λ_ _=>rfl)) (ae 3) (λ_ _=>rfl)) cO (bZ _))
    (aM (cU (ef a9 ar aq dC (ae 1) (eE (eM (aF (ae 2) (aF (ae 3) aC))) aC))))
    b9)))))
  (bv (cT (bO ou (ac bC (by rfl) B.len aY (aF (ae 1) aC)) aD (bZ _))
  (aM (bQ jg))
  b9)
  (bv (4^^^kX^^^jg)
  (aK (pU bD (bO ou (aS uK (aS bV (ae 0) (bw>>>(aS bV (ae 1) (oq o8 aD) (λ_ _=>rfl))) (λ_ _=>rfl)) (bw>>>(aS bV (ae 1) (oq o8 aD) (λ_ _=>rfl))) (λ_ _=>rfl)) cO (bZ _))
  (bv (5^^^kX^^^(aS bV (ae 1) (oq o8 aD) (λ_ _=>rfl)))
   (aK (6^^^kX^^^(ce aC))
   (bv (dc bD rfl (fH (ce (eE (eM (dn (aw gq (bw>>>(ae 5)) aD) (a8 (bw>>>(ae 5)) aC))) (eE (eM (dn (aw dW (bw>>>(ae 5)) aD) (a8 (bw>>>(ae 5)) aC))) (eE (eM (a8 (bw>>>(ae 5)) (dn (aw gq (bw>>>(ae 5)) aD) aC))) (eE (eM (a8 (bw>>>(ae 5)) (dn (aw dW (bw>>>(ae 5)) aD) aC))) aC)))))) (7^^^kX)
   (aK (cT (QW.pt (lJ (kY (vG Eb kP aD (bw>>>(ae 7)) (ac bC (by rfl) B.len aY (aF (ae 0) aC)))) (jf (kY (vG Eb kP aD (bw>>>(ae 7)) (ac rB (by rfl) B.len aY (a8 (aS bV (ae 0) (bw>>>(ae 7)) (λ_ _=>rfl)) aC)))))))
    (aM (bQ jg))
    b9)
    (aM (cT (QW.pt (sX (bO (Ea (oI hr)) (ae 7) (ae 4) (bZ _)) (tY (bO ou (aS uK (aS bV (ae 0) (bw>>>(ae 7)) (λ_ _=>rfl)) (bw>>>(ae 7)) (λ_ _=>rfl)) cO (bZ _)))))
    (aM (cU (ef a9 ar aq dC (ae 6) (aF (ae 7) aC))))
    b9))))
   (bv (cT (QW.pt (lJ (bO ou (ac bC (by rfl) B.len aY (aF (ae 6) aC)) aD (bZ _)) (jf (bO qq (ac bC (by rfl) B.len aY (aF (ae 1) aC)) aD (bZ _)))))
   (aM (bQ jg))
   b9)
   (aK (4^^^kX^^^(ae 5))
   (aM (cU (ef a9 ar aq dC (ae 1) (a8 (bV>>>(ae 6)) aC))))))))))
  (aM (bQ (ae 1))))))))),?_⟩
 have two:(2:Nat)<=sizeLine:=by decide
 have l20:=O.len;have w85:=yk (b:=b) O;have X:=u6.of O nc;have lln:(~~~p8).length=2*ns.length+5:=by rw[aA,aA,aA,dJ]
 have szl:∀i,(tx ((~~~i8) i)).length=dt (c7 b ns false) (c7 b ns true):=λi=>by rw[vt,sW]
 have wsz:dt (c7 b ns false) (c7 b ns true)<=sizeLine:=bT (bS (by lia));have lat:∀i,i<2*ns.length+5->oR (~~~p8) (i:Int)=some (.str (tx ((~~~i8) i))):=λi hi=>FG hi;have cat:∀i x,x<dt (c7 b ns false) (c7 b ns true)->oR (tx ((~~~i8) i)).cps.toList (x:Int)=some ((~~~signG) i x):=λi x hx=>by rw[yn];exact df (Gw hx)
 have ch1:∀(c d:Nat),((⟨#[c]⟩:Str)=⟨#[d]⟩)<->c=d:=λc d=>⟨λe=>by injection e with e;simpa using e,λe=>by rw[e]⟩
 have sv:Str.ofString "v"=(⟨#[118]⟩:Str):=by symm
 have sm:Str.ofString "@"=(⟨#[64]⟩:Str):=by symm
 have sh:Str.ofString "#"=(⟨#[35]⟩:Str):=by symm
 nofun;refine⟨ah _,λp np=>?_⟩;have s1:=(bJ.refl H).new (o:=.lst []) np;have hp1:upd H p (.lst []) p=some (.lst []):=aG;have hll1:=s1 _ _ hll;have lp:ll≠p:=bI hll np;generalize upd H p (.lst [])=H1 at s1 hp1 hll1 |-;have swp:∀{P P':Prop} [Decidable P] [Decidable P'] {H':Hp},(P<->P')->BowsAt H' p (if P then [fh (1,cN b ns 0)] else [])->BowsAt H' p (if P' then [fh (1,cN b ns 0)] else []):=by
  intro P P' _ _ H' h hb;by_cases z:P
  .rw[U2 z] at hb;rw[U2 (h.mp z)];exact hb
  .rw[U1 z] at hb;rw[U1 (λy=>z (h.mpr y))];exact hb
 refine ba (λZ H'=>∃x2 x3:Option V,Z=[Ua ll,Ua p,x2,x3,none,none,none,none]/\bJ H H'/\H' ll=some (.lst (~~~p8))/\BowsAt H' p [fh (1,cN b ns 0)]) ?_ ?_
 .nofun;refine⟨_,.inl (cI.of hll1),?_⟩;rw[lln,dh];refine⟨by lia,by lia,?_⟩;refine fP (n:=2*ns.length+5) (λk Z H'=>∃x2 x3:Option V,Z=[Ua ll,Ua p,x2,x3,none,none,none,none]/\bJ H H'/\H' ll=some (.lst (~~~p8))/\BowsAt H' p (if 1<k then [fh (1,cN b ns 0)] else [])) ⟨_,_,rfl,s1,hll1,[],hp1,.nil⟩ ?_ ?_
  .rintro k Z H2 hk ⟨x2,x3,rfl,s2,hll2,bo2⟩;nofun;rw[iK];refine⟨_,_,cI.of hll2,lat k hk,_,rfl,?_⟩;rw[szl,dh];refine⟨wsz,by lia,by lia,?_⟩;refine fP (n:=dt (c7 b ns false) (c7 b ns true)) (λj Z H'=>∃x3:Option V,Z=[Ua ll,Ua p,Ub (k:Int),x3,none,none,none,none]/\bJ H H'/\H' ll=some (.lst (~~~p8))/\BowsAt H' p (if 1<k\/(k=1/\cN b ns 0<j) then [fh (1,cN b ns 0)] else [])) ⟨_,rfl,s2,hll2,?_⟩ ?_ ?_
   .exact swp (by lia) bo2
   .rintro j Z H3 hj ⟨x3',rfl,s3,hll3,bo3⟩;nofun;refine⟨_,_,cI.of hll3,lat k hk,?_⟩;nofun;refine⟨by rw[szl];exact wsz,_,by rw[iK];exact cat k j hj,?_⟩;rw[sv];refine gh (λz=>?_) (λz=>?_)
    .obtain⟨k1,j1⟩:=(vP O nc).mp ((ch1 _ _).mp z);rw[U1 (by lia)] at bo3;obtain⟨as,h1,h2⟩:=id bo3;cases h2;refine⟨gi h1,two,λt nt=>?_⟩;rw[iK];have s4:=(bJ.refl H3).new (o:=.tup [.int (k:Int),.int (j:Int)]) nt;refine⟨_,s4 _ _ h1,by decide,_,by first | rfl | trivial,(s3.trans s4).new np,by rw[aO lp];exact s4 _ _ hll3,?_⟩;rw[U2 (by lia)];refine⟨[t],aG,.cons ?_ .nil⟩;have tp:t≠p:=(bI h1 nt).symm;show upd _ p _ t=_;rw[aO tp,aG,<-k1,<-j1];rfl
    .refine⟨_,by first | rfl | trivial,s3,hll3,?_⟩;have nz:¬(k=1/\j=cN b ns 0):=λy=>z ((ch1 _ _).mpr ((vP O nc).mpr y));exact swp (by lia) bo3
   .rintro Z H3 ⟨x3',rfl,s3,hll3,bo3⟩;refine⟨_,_,rfl,s3,hll3,?_⟩;obtain⟨l,hl⟩:=pI (b:=b) (ns:=ns) ns.length;have cw:=rJ O nc (c:=(1,cN b ns 0)) (by rw[show c8 b ns=_ from hl];simp);dsimp only at cw;exact swp (by lia) bo3
  .rintro Z H2 ⟨x2,x3,rfl,s2,hll2,bo2⟩;rw[U2 (by lia)] at bo2;exact⟨_,_,rfl,s2,hll2,bo2⟩
 rintro Z H2 ⟨x2,x3,rfl,s2,hll2,bo2⟩;refine ba (λZ H'=>Z=[Ua ll,Ua p,x2,x3,none,none,none,none]/\H'=H2) ?_ ?_
 .nofun;obtain⟨as,h1,h2⟩:=bo2;have la:=bK h2;exact⟨_,.inl (cI.of h1),pc (by rw[aA,la];simp) ⟨by first | rfl | trivial,by first | rfl | trivial⟩⟩
 rintro Z H' ⟨rfl,rfl⟩;refine ba (λZ H3=>Z=[Ua ll,Ua p,x2,x3,some .non,none,none,none]/\H3=H') ?_ ?_
 .nofun;exact⟨by first | rfl | trivial,by first | rfl | trivial⟩
 rintro Z H3 ⟨rfl,rfl⟩;have W1:=vq O nc (b:=b);obtain⟨w0,hw0⟩:=pI (b:=b) (ns:=ns) ns.length;obtain⟨wl,hwl⟩:=wf (b:=b) (ns:=ns);have ndW:=mP O nc (b:=b) (aI _);have Wl:0<(c8 b ns).length:=by rw[show c8 b ns=_ from hw0];simp
 have s2:bJ H H3:=s2;nofun;refine⟨λm Z H4=>∃(t:Nat) (x2 x3 x5 x6 x7:Option V) (va:V),Z=[Ua ll,Ua p,x2,x3,some va,x5,x6,x7]/\bJ H H4/\H4 ll=some (.lst (~~~p8))/\BowsAt H4 p (((c8 b ns).take (t+1)).map fh)/\t<(c8 b ns).length/\((t=0/\va=.non)\/∃aa z t',t=t'+1/\va=.ref aa/\(c8 b ns)[t']? = some z/\b6 H4 aa (fh z))/\m=(c8 b ns).length-t,⟨_,0,_,_,_,_,_,_,rfl,s2,hll2,by rw[show c8 b ns=_ from hw0];exact bo2,Wl,.inl ⟨rfl,rfl⟩,rfl⟩,?_⟩;rintro m Z H4 ⟨t,y2,y3,y5,y6,y7,va,rfl,s4,hll4,bo4,ht,hva,rfl⟩;obtain⟨x,hx⟩:∃x,(c8 b ns)[t]? = some x:=⟨_,aE ht⟩
 have xw:=aT hx;have xin:=rJ O nc xw;have xsg:=sy O nc xw;obtain⟨as,a1,a2⟩:=id bo4;have la:=bK a2;rw[aA,cB] at la;obtain⟨ta,hta,tax⟩:∃ta,as[t]? = some ta/\b6 H4 ta (fh x):=by
  have h1:as[t]? = some as[t]:=aE (by lia);obtain⟨y,hy,ty⟩:=m6 a2 h1;rw[aR,iX (by lia),hx] at hy;rw[<-av hy] at ty;exact⟨_,h1,ty⟩
 have lst:oR (as.map V.ref) (-1)=some (.ref ta):=Km (by rw[aA,aR,show as.length - 1=t by lia,hta];rfl);have x1:oR [V.int (fh x).1,V.int (fh x).2] 0=some (.int (x.1:Nat)):=rfl;have x2:oR [V.int (fh x).1,V.int (fh x).2] 1=some (.int (x.2:Nat)):=rfl;nofun;refine⟨_,_,cI.of a1,lst,?_⟩;nofun;refine⟨_,_,cj.of tax,x1,?_⟩;nofun;refine⟨_,_,cI.of hll4,lat x.1 (by lia),_,_,cI.of a1,lst,?_⟩;nofun;refine⟨_,_,cj.of tax,x2,?_⟩;nofun;refine⟨by rw[szl];exact wsz,_,cat x.1 x.2 (by lia),?_⟩;rw[sm];have W0:c8 b ns=(c8 b ns).take t++x::(c8 b ns).drop (t+1):=by
  conv=>lhs;rw[<-jZ t (c8 b ns)]
  rw[cG ht];congr 2;exact(aH.mp hx).2
 have isl:x=(2*ns.length+3,cN b ns ns.length)<->(c8 b ns).drop (t+1)=[]:=by
  constructor
  .intro e;have nd:=ndW;rw[show wS b ns ns.length=_ from W0] at nd;have e2:(c8 b ns).take t++x::(c8 b ns).drop (t+1)=wl++x::[]:=by rw[<-W0,hwl,e]
   exact(kj nd e2).2
  .intro e;rw[e] at W0;rw[W0] at hwl;have:=congrArg List.getLast? hwl;simpa using this
 refine gh (λz=>?_) (λz=>?_)
 .have nl:(c8 b ns).drop (t+1)≠[]:=λe=>z ((ch1 _ _).mpr (xsg.2.1.mpr (isl.mpr e)));obtain⟨y,B',hB⟩:∃y B',(c8 b ns).drop (t+1)=y::B':=by
   cases e:(c8 b ns).drop (t+1) with
   | nil=>exact absurd e nl
   | cons y B'=>exact⟨y,B',rfl⟩
  have W2:=W0;rw[hB] at W2;have t1:t+1<(c8 b ns).length:=by
   rcases gN (t+1) (c8 b ns).length with h | h
   .exact h
   .exact absurd (List.drop_eq_nil_of_le h) nl
  have hy:(c8 b ns)[t+1]? = some y:=by
   have:=List.getElem?_drop (xs:=c8 b ns) (i:=t+1) (j:=0);rw[hB] at this;simpa using this.symm
  have tk2:(c8 b ns).take (t+1+1)=(c8 b ns).take (t+1)++[y]:=by rw[bE (i:=t+1),hy];rfl
  refine⟨λZ' H'=>∃(x2 x3 x5 x6 x7:Option V) (aa:Addr),Z'=[Ua ll,Ua p,x2,x3,Ua aa,x5,x6,x7]/\bJ H H'/\H' ll=some (.lst (~~~p8))/\BowsAt H' p (((c8 b ns).take (t+1+1)).map fh)/\b6 H' aa (fh x),(by rintro Z' H' ⟨x2,x3,x5,x6,x7,aa,e,h1,h2,h3,h4⟩;exact ⟨(c8 b ns).length-(t+1),by lia,t+1,x2,x3,x5,x6,x7,_,e,h1,h2,h3,t1,.inr ⟨aa,x,t,rfl,rfl,hx,h4⟩,rfl⟩),?_⟩;refine ba (λZ H5=>Z=[Ua ll,Ua p,y2,y3,some va,Ua ta,y6,y7]/\H5=H4) ?_ ?_
  .nofun;exact⟨_,_,cI.of a1,lst,by first | rfl | trivial,by first | rfl | trivial⟩
  rintro Z H5 ⟨rfl,e5⟩;have e5':=e5.symm;subst e5';nofun;refine⟨ah _,λfu nfu=>?_⟩;have v1:=(bJ.refl H4).new (o:=.lst []) nfu;have fup:fu≠p:=(bI a1 nfu).symm;have hfu:upd H4 fu (.lst []) fu=some (.lst []):=aG;have tax5:=tax.same v1;have hll5:=v1 _ _ hll4;refine ba (λZ H7=>∃x7:Option V,Z=[Ua ll,Ua p,y2,y3,some va,Ua ta,Ua fu,x7]/\(∀b o,b≠fu->H4 b=some o->H7 b=some o)/\BowsAt H7 fu [fh y]) ?_ ?_
  .nofun;refine⟨_,_,cj.of tax5,x1,?_⟩;nofun;refine⟨_,_,cj.of tax5,x2,two,λq1 n1=>?_⟩;have c1:((x.1:Nat):Int) - 1=((x.1 - 1:Nat):Int):=by lia
   have c2:((x.2:Nat):Int) - 1=((x.2 - 1:Nat):Int):=by lia
   nofun;rw[c1];have v2:=(bJ.refl (upd H4 fu (.lst []))).new (o:=.tup [.int ((x.1 - 1:Nat):Int),.int (x.2:Nat)]) n1;have k1:b6 (upd (upd H4 fu (.lst [])) q1 (.tup [.int ((x.1 - 1:Nat):Int),.int (x.2:Nat)])) q1 (fh (x.1 - 1,x.2)):=aG;have hfu6:=v2 _ _ hfu;have v12:=v1.trans v2;generalize upd (upd H4 fu (.lst [])) q1 (.tup [.int ((x.1 - 1:Nat):Int),.int (x.2:Nat)])=H6 at v2 k1 hfu6 v12 |-;have tax6:=tax.same v12;refine⟨_,_,cj.of tax6,x1,?_⟩;nofun;refine⟨_,_,cj.of tax6,x2,two,λq2 n2=>?_⟩;nofun;have v3:=(bJ.refl H6).new (o:=.tup [.int ((x.1:Nat)+1),.int (x.2:Nat)]) n2;have k2:b6 (upd H6 q2 (.tup [.int ((x.1:Nat)+1),.int (x.2:Nat)])) q2 (fh (x.1+1,x.2)):=aG;have hfu7:=v3 _ _ hfu6;have v13:=v12.trans v3;have k1:=k1.same v3;generalize upd H6 q2 (.tup [.int ((x.1:Nat)+1),.int (x.2:Nat)])=H7 at v3 k1 k2 hfu7 v13 |-;have tax7:=tax.same v13;refine⟨_,_,cj.of tax7,x1,_,_,cj.of tax7,x2,?_⟩;nofun;refine⟨two,λq3 n3=>?_⟩;nofun;rw[c2];have v4:=(bJ.refl H7).new (o:=.tup [.int (x.1:Nat),.int ((x.2 - 1:Nat):Int)]) n3;have k3:b6 (upd H7 q3 (.tup [.int (x.1:Nat),.int ((x.2 - 1:Nat):Int)])) q3 (fh (x.1,x.2 - 1)):=aG;have hfu8:=v4 _ _ hfu7;have v14:=v13.trans v4;have k1:=k1.same v4;have k2:=k2.same v4;generalize upd H7 q3 (.tup [.int (x.1:Nat),.int ((x.2 - 1:Nat):Int)])=H8 at v4 k1 k2 k3 hfu8 v14 |-;have tax8:=tax.same v14;refine⟨_,_,cj.of tax8,x1,_,_,cj.of tax8,x2,?_⟩;nofun;refine⟨two,λq4 n4=>?_⟩;nofun;have v5:=(bJ.refl H8).new (o:=.tup [.int (x.1:Nat),.int ((x.2:Nat)+1)]) n4;have k4:b6 (upd H8 q4 (.tup [.int (x.1:Nat),.int ((x.2:Nat)+1)])) q4 (fh (x.1,x.2+1)):=aG;have hfu9:=v5 _ _ hfu8;have v15:=v14.trans v5;have k1:=k1.same v5;have k2:=k2.same v5;have k3:=k3.same v5;generalize upd H8 q4 (.tup [.int (x.1:Nat),.int ((x.2:Nat)+1)])=H9 at v5 k1 k2 k3 k4 hfu9 v15 |-;refine⟨(show 4<=sizeLine by decide),λL nL=>?_⟩;have v6:=(bJ.refl H9).new (o:=.lst [.ref q1,.ref q2,.ref q3,.ref q4]) nL;have hL:upd H9 L (.lst [.ref q1,.ref q2,.ref q3,.ref q4]) L=some (.lst ([q1,q2,q3,q4].map V.ref)):=aG;have hfuA:=v6 _ _ hfu9;have v16:=v15.trans v6;have prs:Paired (b6 (upd H9 L (.lst [.ref q1,.ref q2,.ref q3,.ref q4]))) [q1,q2,q3,q4] ((Er x).map fh):=.cons (k1.same v6) (.cons (k2.same v6) (.cons (k3.same v6) (.cons (k4.same v6) .nil)));have Lfu:L≠fu:=(bI hfu9 nL).symm;generalize upd H9 L (.lst [.ref q1,.ref q2,.ref q3,.ref q4])=HA at v6 hL hfuA v16 prs |-;clear k1 k2 k3 k4 v2 v3 v4 v5 v6 v12 v13 v14 v15 n1 n2 n3 n4 tax5 tax6 tax7 tax8 hfu6 hfu7 hfu8 hfu9 hll5;obtain⟨pv,hpv⟩:∃pv:Option nO,∀d:nO,(∀A' z,(c8 b ns).take t=A'++[z]->d≠z)<->some d≠pv:=⟨((c8 b ns).take t).getLast?,λd=>by
    constructor
    .intro h e;rcases g6 ((c8 b ns).take t) with z | ⟨A',z,hz⟩
     .rw[z] at e;cases e
     .rw[hz] at e;have:d=z:=by simpa using e
      exact h A' z (by rw[hz];simp) this
    .intro h A' z hz e;rw[hz,e] at h;simp at h⟩
   have fl:(Er x).filter (λd=>sf b ns d.1 d.2&&decide (some d≠pv))=[y]:=by
    refine uR (Ep xin.1 xin.2.2.1) ?_ λd hd=>?_
    .exact(z9 xin.1 xin.2.2.1).mpr ((Cw O nc W2).mpr rfl).1
    .rw[ao,U3,<-hpv,<-Cw O nc W2];exact⟨λh=>⟨(z9 xin.1 xin.2.2.1).mp hd,h⟩,λh=>h.2⟩
   refine⟨⟨_,cI.of hL⟩,?_⟩;refine iV (xs:=[q1,q2,q3,q4].map V.ref) (λi Z HB=>∃x7:Option V,Z=[Ua ll,Ua p,y2,y3,some va,Ua ta,Ua fu,x7]/\(∀b o,b≠fu->HA b=some o->HB b=some o)/\BowsAt HB fu ((((Er x).take i).filter (λd=>sf b ns d.1 d.2&&decide (some d≠pv))).map fh)) ⟨_,rfl,λ_ _ _ h=>h,[],hfuA,.nil⟩ (by rintro i Z HB _ ⟨_,_,kp,_⟩;exact cI.of (kp _ _ Lfu hL)) ?_ ?_
   .rintro i v Z HB hv ⟨x7,rfl,kp,boB⟩;obtain⟨qd,hqd,rfl⟩:=lm hv;obtain⟨cz,hcz,tqd⟩:=m6 prs hqd;rw[aR] at hcz;obtain⟨d,hd,rfl⟩:=fD.mp hcz;have dm:=(z9 xin.1 xin.2.2.1).mp (aT hd);have db:d.1<2*ns.length+5/\d.2<dt (c7 b ns false) (c7 b ns true):=by
     unfold GP at dm;lia
    have qdf:qd≠fu:=λe=>by rw[e] at tqd;rw[show HA fu=_ from tqd] at hfuA;cases hfuA
    have tqB:b6 HB qd (fh d):=kp _ _ qdf tqd;have hllA:=v16 _ _ hll4;have hllB:=kp _ _ (bI hll4 nfu) hllA;have d1:oR [V.int (fh d).1,V.int (fh d).2] 0=some (.int (d.1:Nat)):=rfl;have d2:oR [V.int (fh d).1,V.int (fh d).2] 1=some (.int (d.2:Nat)):=rfl;have tk3:(Er x).take (i+1)=(Er x).take i++[d]:=by rw[bE,hd];rfl
    nofun;refine⟨_,_,cj.of tqB,d1,?_⟩;nofun;refine sq (by lia) ⟨_,.inl (cI.of hllB),?_⟩;nofun;rw[lln];refine pc (by lia) ⟨_,_,cj.of tqB,d2,?_⟩;nofun;refine sq (by lia) ⟨_,_,cj.of tqB,d1,?_⟩;nofun;refine⟨_,_,cI.of hllB,lat d.1 db.1,_,rfl,by rw[szl];exact wsz,?_⟩;nofun;rw[szl];refine pc (by lia) ?_;have celi:∀{c e:nO},fh c=fh e->c=e:=fun {c e} h=>by
     unfold fh at h;simp only[mJ] at h;exact fZ (by lia) (by lia)
    have hne:∀R:VK,R (.bl (decide (some d≠pv))) HB->zJ K true (.ref qd) va HB R:=λR hR=>by
     rcases hva with ⟨t0,rfl⟩ | ⟨aa,z',t',rfl,rfl,hz',taa⟩
     .refine Eo tqB ?_;have:some d≠pv:=(hpv d).mp λA' z' e=>by rw[t0] at e;simp at e
      rw[U5 this] at hR;exact hR
     .have aaf:aa≠fu:=λe=>by rw[e] at taa;rw[show H4 fu=_ from taa] at nfu;cases nfu
      have taB:b6 HB aa (fh z'):=kp _ _ aaf (v16 _ _ taa);refine Hc tqB taB ?_;have tkz:(c8 b ns).take (t'+1)=(c8 b ns).take t'++[z']:=by rw[bE,hz'];rfl
      have:(!decide (fh d=fh z'))=decide (some d≠pv):=by
       by_cases e:d=z'
       .have h2:¬(some d≠pv):=λh=>(hpv d).mpr h _ _ tkz e;rw[U4 h2,e,U5 rfl];rfl
       .have h2:some d≠pv:=(hpv d).mp λA' z2 h3 h4=>by
         rw[tkz] at h3;have:=congrArg List.getLast? h3;simp at this;exact e (by rw[h4,this])
        rw[U5 h2,U4 λh=>e (celi h)];rfl
      rw[this];exact hR
    have skip:(sf b ns d.1 d.2&&decide (some d≠pv))=false->BowsAt HB fu ((((Er x).take (i+1)).filter (λd=>sf b ns d.1 d.2&&decide (some d≠pv))).map fh):=λh=>by
     rw[tk3,dA,nI (by rw[h];decide),List.filter_nil,cE];exact boB
    refine hne _ ⟨_,rfl,gh (λnp'=>?_) (λnp'=>?_)⟩
    .refine⟨_,_,cj.of tqB,d1,?_⟩;nofun;refine⟨_,_,cI.of hllB,lat d.1 db.1,_,_,cj.of tqB,d2,?_⟩;nofun;refine⟨by rw[szl];exact wsz,_,cat d.1 d.2 db.2,?_⟩;rw[sh];refine gh (λno=>?_) (λno=>?_)
     .have op:sf b ns d.1 d.2=true:=by
       cases e:sf b ns d.1 d.2 with
       | true=>rfl
       | false=>exact absurd ((ch1 _ _).mpr (wC.mpr e)) no
      obtain⟨fs,f1,f2⟩:=id boB;have fl4:fs.length<=4:=by
       rw[bK f2,aA];exact bN (fN _ _) (by rw[cB];exact Nat.min_le_right _ _)
      refine⟨gi f1,_,f1,by rw[aA];exact bS (by lia),_,by first | rfl | trivial,λu o nu hu=>by rw[aO nu];exact kp u o nu hu,?_⟩;rw[tk3,dA,nH (by rw[op,eQ];exact np'),List.filter_nil,aX];exact mo f1 f2 tqB
     .have op:sf b ns d.1 d.2=false:=wC.mp ((ch1 _ _).mp (f7.mp no));exact⟨_,by first | rfl | trivial,kp,skip (by rw[op];rfl)⟩
    .exact⟨_,rfl,kp,skip (by rw[mD];intro h;rw[ao] at h;exact np' h.2)⟩
   .rintro Z HB ⟨x7,rfl,kp,boB⟩;rw[show ([q1,q2,q3,q4].map V.ref).length=(Er x).length from rfl,bf,fl] at boB;exact⟨_,rfl,λb o nb hb=>kp b o nb (v16 _ _ hb),boB⟩
  rintro Z H7 ⟨x7,rfl,kp7,bo7⟩;have a7:=kp7 _ _ fup.symm a1;have bo47:BowsAt H7 p (((c8 b ns).take (t+1)).map fh):=⟨as,a7,Paired.mapP a2 λu w hu=>kp7 _ _ (λe=>by rw[e] at hu;rw[show H4 fu=_ from hu] at nfu;cases nfu) hu⟩
  have s7:bJ H H7:=λu o hu=>kp7 _ _ (λe=>by rw[e] at hu;rw[s4 _ _ hu] at nfu;cases nfu) (s4 _ _ hu);have hll7:=kp7 _ _ (bI hll4 nfu) hll4;have tax7:b6 H7 ta (fh x):=kp7 _ _ (λe=>by rw[e] at tax;rw[show H4 fu=_ from tax] at nfu;cases nfu) tax;obtain⟨fs,f1,f2⟩:=id bo7
  match fs,f2 with
  | [qy],.cons ty .nil=>
   refine ba (λZ H8=>Z=[Ua ll,Ua p,y2,y3,some va,Ua ta,Ua fu,x7]/\H8=H7) ?_ ?_
   .nofun;exact⟨_,.inl (cI.of f1),pc (by simp) ⟨_,.inl (cI.of a7),pc (by rw[aA];lia) ⟨by first | rfl | trivial,by first | rfl | trivial⟩⟩⟩
   rintro Z H8 ⟨rfl,e8⟩;have e8':=e8.symm;subst e8';nofun;have tap:ta≠p:=λe=>by rw[e] at tax7;rw[show H7 p=_ from tax7] at a7;cases a7
   refine⟨gi a7,_,_,cI.of f1,rfl,_,a7,by rw[aA,Tg];lia,_,_,_,_,_,ta,rfl,s7.new np,by rw[aO lp];exact hll7,?_,?_⟩
   .rw[tk2,aX];obtain⟨as',b1,b2⟩:=bo47;rw[a7] at b1;have ea:as.map V.ref=as'.map V.ref:=by injection b1 with b1;injection b1
    rw[ea] at a7 |-;exact mo a7 b2 ty
   .show upd H7 p _ ta=_;rw[aO tap];exact tax7
 .have e64:=(ch1 _ _).mp (f7.mp z);have hd:=isl.mp (xsg.2.1.mp e64);have tl:(c8 b ns).take (t+1)=c8 b ns:=by
   have:=jZ (t+1) (c8 b ns);rw[hd,cE] at this;exact this
  rw[tl] at bo4;exact q p H4 np s4 bo4
theorem zV {OC d7 OL OG OW OK OM OI ON OX:Addr} (B:qV mg) (SQ:mg "NoMaze"=some (.ref OC)) (PQ:mg "Crossed"=some (.ref d7)) (SR:mg "NoWord"=some (.ref OL)) (Q9:mg "NoDrawing"=some (.ref OG)) (Se:mg "NoBow"=some (.ref OW))
  (R9:mg "NoRound"=some (.ref OK)) (SS:mg "NoCode"=some (.ref OM)) (Qo:mg "NoNumber"=some (.ref OI)) (ST:mg "NoName"=some (.ref ON)) (Sf:mg "NoRow"=some (.ref OX))
  (E:Fn K mg "_law_is_just" mU Uz):IV P w K mg base 1 "_law_is_just" mU Uz (Ag K [OC,d7,OL,OG,OW,OK,OM,OI,ON,OX]):=E.mkH λf fd F a=>by
 refine F.okH kq (by ac_nf) (λcdv A outer s H vs Q E hr h=>?_)
 obtain⟨C,due,rfl,hx,⟨D,hD⟩,J,q⟩:=h;refine⟨[Ua a,Ub due,none,none],_,rfl,(L2.jW.h (aK (2^^^kq^^^(ce (cV (ac (fI (K:=K) rfl) (by rfl) B.isinstance ai (aF (ae 0) (aF (gV (by rfl) SQ) aC))) (cV (ac (fI (K:=K) rfl) (by rfl) B.isinstance ai (aF (ae 0) (aF (gV (by rfl) PQ) aC))) (cV (ac (fI (K:=K) rfl) (by rfl) B.isinstance ai (aF (ae 0) (aF (gV (by rfl) SR) aC))) (cV (ac (fI (K:=K) rfl) (by rfl) B.isinstance ai (aF (ae 0) (aF (gV (by rfl) Q9) aC))) aC))))))
  (aK (2^^^kq^^^(aw qJ (ae 2) (ce (cV (ac (fI (K:=K) rfl) (by rfl) B.isinstance ai (aF (ae 0) (aF (gV (by rfl) Se) aC))) (cV (ac (fI (K:=K) rfl) (by rfl) B.isinstance ai (aF (ae 0) (aF (gV (by rfl) R9) aC))) (cV (ac (fI (K:=K) rfl) (by rfl) B.isinstance ai (aF (ae 0) (aF (gV (by rfl) SS) aC))) (cV (ac (fI (K:=K) rfl) (by rfl) B.isinstance ai (aF (ae 0) (aF (gV (by rfl) Qo) aC))) aC)))))))
  (aK (2^^^kq^^^(aw qJ (ae 2) (ce (cV (ac (fI (K:=K) rfl) (by rfl) B.isinstance ai (aF (ae 0) (aF (gV (by rfl) ST) aC))) (cV (ac (fI (K:=K) rfl) (by rfl) B.isinstance ai (aF (ae 0) (aF (gV (by rfl) Sf) aC))) aC)))))
  (aK (ES bD hr.hd (by rfl) B.range (bx aD aC) (3^^^kq)
  (aM (cT (bO ou (aS (xu (K:=K) rfl) (ae 2) (ae 3) (λ_ _=>rfl)) (cm gI (ae 3) (ae 1) (bZ _)) (bZ _))
   (aM (bQ ja))
   b9)))
  (aM (bQ (ac (fI (K:=K) rfl) (by rfl) B.isinstance ai (aF (ae 0) (aF (lM (v:=.ty "ValueError") (by rfl) B.ValueError L2.sP rfl) aC)))))))))),?_⟩
 nofun;refine ui hx (J.kit 0 _ rfl) (ui hx (J.kit 1 _ rfl) (ui hx (J.kit 2 _ rfl) (ui hx (J.kit 3 _ rfl) ⟨(by show 4<=sizeLine;decide),λp1 n1=>?_⟩)));have s1:=(bJ.refl H).new (o:=.lst [.bl (decide (0=due)),.bl (decide (1=due)),.bl (decide (2=due)),.bl (decide (3=due))]) n1;have hx1:=hx.same s1;refine ui hx1 (J.kit 4 _ rfl) (ui hx1 (J.kit 5 _ rfl) (ui hx1 (J.kit 6 _ rfl) (ui hx1 (J.kit 7 _ rfl) ⟨(by show 4<=sizeLine;decide),λp2 n2=>?_⟩)));have n12:p1≠p2:=λe=>by subst e;rw[aG] at n2;cases n2
 have s2:=s1.new (o:=.lst [.bl (decide (4=due)),.bl (decide (5=due)),.bl (decide (6=due)),.bl (decide (7=due))]) (s1.free n2);refine⟨p1,p2,_,_,rfl,rfl,by rw[aO n12,aG],aG,(by show 8<=sizeLine;decide),λp3 n3=>?_⟩;have s3:=s2.new (o:=.lst ([.bl (decide (0=due)),.bl (decide (1=due)),.bl (decide (2=due)),.bl (decide (3=due))]++[.bl (decide (4=due)),.bl (decide (5=due)),.bl (decide (6=due)),.bl (decide (7=due))])) (s2.free n3);have hx3:=hx.same s3;refine ui hx3 (J.kit 8 _ rfl) (ui hx3 (J.kit 9 _ rfl) ⟨(by show 2<=sizeLine;decide),λp4 n4=>?_⟩);have n34:p3≠p4:=λe=>by subst e;rw[aG] at n4;cases n4
 have s4:=s3.new (o:=.lst [.bl (decide (8=due)),.bl (decide (9=due))]) (s3.free n4);refine⟨p3,p4,_,_,rfl,rfl,by rw[aO n34,aG],aG,(by show 10<=sizeLine;decide),λp5 n5=>?_⟩;have e10:[V.bl (decide (0=due)),.bl (decide (1=due)),.bl (decide (2=due)),.bl (decide (3=due))]++[.bl (decide (4=due)),.bl (decide (5=due)),.bl (decide (6=due)),.bl (decide (7=due))]++[.bl (decide (8=due)),.bl (decide (9=due))]=(List.range 10).map λj=>V.bl (decide (j=due)):=rfl;rw[e10];have s5:=s4.new (o:=.lst ((List.range 10).map λj=>V.bl (decide (j=due)))) (s4.free n5);refine⟨by decide,by decide,?_⟩;have h5:upd (upd (upd (upd (upd H p1 (.lst [.bl (decide (0=due)),.bl (decide (1=due)),.bl (decide (2=due)),.bl (decide (3=due))])) p2 (.lst [.bl (decide (4=due)),.bl (decide (5=due)),.bl (decide (6=due)),.bl (decide (7=due))])) p3 (.lst ([.bl (decide (0=due)),.bl (decide (1=due)),.bl (decide (2=due)),.bl (decide (3=due))]++[.bl (decide (4=due)),.bl (decide (5=due)),.bl (decide (6=due)),.bl (decide (7=due))]))) p4 (.lst [.bl (decide (8=due)),.bl (decide (9=due))])) p5 (.lst ((List.range 10).map λj=>V.bl (decide (j=due)))) p5=_:=aG;generalize upd (upd (upd (upd (upd H p1 (.lst [.bl (decide (0=due)),.bl (decide (1=due)),.bl (decide (2=due)),.bl (decide (3=due))])) p2 (.lst [.bl (decide (4=due)),.bl (decide (5=due)),.bl (decide (6=due)),.bl (decide (7=due))])) p3 (.lst ([.bl (decide (0=due)),.bl (decide (1=due)),.bl (decide (2=due)),.bl (decide (3=due))]++[.bl (decide (4=due)),.bl (decide (5=due)),.bl (decide (6=due)),.bl (decide (7=due))]))) p4 (.lst [.bl (decide (8=due)),.bl (decide (9=due))])) p5 (.lst ((List.range 10).map λj=>V.bl (decide (j=due))))=H5 at s5 h5 |-;refine fP (n:=10) (λi Z H'=>∃x3:Option V,Z=[Ua a,Ub due,Ua p5,x3]/\H'=H5) ⟨none,rfl,rfl⟩ ?_ ?_
 .rintro i Z H' hi ⟨x3,rfl,rfl⟩;nofun;refine⟨_,.bl (decide (i=due)),cI.of h5,?_,?_⟩
  .rw[iK];exact df (by simp[aR,eZ hi])
  .have e:decide (0+(i:Int)=(due:Int))=decide (i=due):=decide_eq_decide.mpr (by lia);rw[e];nofun;exact pc (λz=>z trivial) ⟨_,rfl,trivial⟩
 .rintro Z H' ⟨x3,rfl,rfl⟩;refine⟨⟨C,D,s5 _ _ hD⟩,?_⟩;nofun;exact MN (hx.same s5) J.val (q _ s5)
theorem zR {OC d7 OD:Addr} {ds:ld} (B:qV mg) (Qa:mg "RingError"=some (.ref OD)) (PQ:mg "Crossed"=some (.ref d7)) (XM:W.exmOne K (.ref d7) (.ref OD)=some true) (XS:W.exmOne K (.ref d7) (.ref d7)=some true) (XK:yh K d7) (IA:Ck K d7 "bows") (J:Kv K d7 ds 1) (E:Fn K mg "_law_refused" mQ Va)
  (O5:uq P w K mg base 6 "drawn" pQ Ud (tJ OC d7)) (PR:IV P w K mg base 1 "_law_is_just" mU Uz (Ag K ds)):(7&&&"_law_refused") mQ Va rM:=by
 refine' ko
 obtain⟨m,o,fdl,g,b,ns,rfl,hm,O,bl,nn,q⟩:=h;refine⟨[Ua m,Ua fdl,none,none,none],_,rfl,(L2.jW.h (bv (xU rfl rfl (Az O5 (hr.mono (by decide)) (by rfl) (aF (ae 0) aC)) (JE (i:=2) rfl (by rfl) Qa ko.nd rfl rfl (λa=>(aM (cT (kY (jB (zO (a:=a) PR (pF.of (hr.mono (by decide))) (by rfl) (aF (ae 2) (bx aD aC)))))
   (aM (bQ ja))
   b9))) EX))
  (aK (xU rfl rfl (Az O5 (hr.mono (by decide)) (by rfl) (aF (ae 0) aC)) (JE (i:=2) rfl (by rfl) PQ ko.nd rfl rfl (λa=>(bv (3^^^ko^^^(EV (ae 2)))
   (bv (cT (QW.pt (lJ (kY (jB (ac (Cj (K:=K) rfl) (by rfl) B.isinstance ai (aF (ae 3) (aF (lM (v:=.ty "tuple") (by rfl) B.tuple dY rfl) aC))))) (lJ (bO ou (ac (qC (K:=K) rfl) (by rfl) B.len aY (aF (ae 3) aC)) aD (bZ _)) (jf (bO (qI (K:=K) rfl (have h:=oI hr;h)) (aS (fq (K:=K) rfl) (ae 3) aD (λ_ _=>rfl)) (ce (bx cO (bx cO aC))) (by with_unfolding_all rfl))))))
   (aM (bQ ja))
   b9)
   (bv (4^^^ko^^^(aS (xu (K:=K) rfl) (ae 1) (dE km (by rfl) B.int dL (iu (cm gI (aS (fq (K:=K) rfl) (ae 3) aD (λ_ _=>rfl)) cO (bZ _)) aC)) (λ_ _=>rfl)))
   (bv (cT (QW.pt (lJ (bO (qI (K:=K) rfl (have h:=oI hr;h)) (aS (fq (K:=K) rfl) (ae 3) aD (λ_ _=>rfl)) (ae 4) (by with_unfolding_all rfl)) (jf (bO (qI (K:=K) rfl (have h:=oI hr;h)) (aS (fq (K:=K) rfl) (ae 3) aD (λ_ _=>rfl)) (ae 4) (by with_unfolding_all rfl)))))
   (aM (bQ ja))
   b9)
   (aM (bQ (kZ (cm kP (aS (fq (K:=K) rfl) (aS (fq (K:=K) rfl) (ae 3) aD (λ_ _=>rfl)) aD (λ_ _=>rfl)) (aS (fq (K:=K) rfl) (aS (fq (K:=K) rfl) (ae 3) aD (λ_ _=>rfl)) aD (λ_ _=>rfl)) (bZ _)) (kZ (cm kP (aS (fq (K:=K) rfl) (aS (fq (K:=K) rfl) (ae 3) aD (λ_ _=>rfl)) aD (λ_ _=>rfl)) (aS (fq (K:=K) rfl) (aS (fq (K:=K) rfl) (ae 3) aD (λ_ _=>rfl)) aD (λ_ _=>rfl)) (bZ _)) (nW (cm kP (aS (fq (K:=K) rfl) (aS (fq (K:=K) rfl) (ae 3) aD (λ_ _=>rfl)) aD (λ_ _=>rfl)) (aS (fq (K:=K) rfl) (aS (fq (K:=K) rfl) (ae 3) aD (λ_ _=>rfl)) aD (λ_ _=>rfl)) (bZ _)))))))))))) EX))
  (aM (bQ ja))))),?_⟩
 refine ba (λZ H'=>Z=[Ua m,Ua fdl,none,none,none]/\bJ H H') ?_ ?_
 .nofun;refine⟨_,_,rfl,hm.dat,za,.inr ⟨m,o,b,ns,rfl,hm,rfl,O,λnc=>absurd nc nn,λu p hp q' hq z t dx H3 s3 ct hdx=>⟨d7,rfl,.inl ⟨XM,λa na=>?_⟩⟩⟩⟩;have ea:upd H3 a (jv (some dx) d7 a) a=some (jv (some dx) d7 a):=aG;have sx:=(bJ.refl H3).new (o:=jv (some dx) d7 a) na;refine⟨d7,1,rfl,.dict ea (sx _ _ hdx) XK,⟨_,ea⟩,J,λH4 s4=>?_⟩;nofun;exact pc (by decide) ⟨rfl,s3.trans (sx.trans s4)⟩
 rintro Z H4 ⟨rfl,s14⟩;have hm4:=hm.same s14;have bl4:=bl.same s14;nofun;refine⟨_,_,rfl,hm4.dat,za,.inr ⟨m,o,b,ns,rfl,hm4,rfl,O,λnc=>absurd nc nn,λu p hp q' hq z t dx H5 s5 ct hdx=>⟨d7,rfl,.inl ⟨XS,λa na=>?_⟩⟩⟩⟩;have ea:upd H5 a (jv (some dx) d7 a) a=some (jv (some dx) d7 a):=aG;have sx:=(bJ.refl H5).new (o:=jv (some dx) d7 a) na;have s16:=s14.trans (s5.trans sx);have ct6:=ct.same sx;have bl6:=bl4.same (s5.trans sx);have cr:OA b ns u p q':=⟨hp,hq,z⟩
 have hdx6:=sx _ _ hdx;generalize upd H5 a (jv (some dx) d7 a)=H6 at s16 ct6 bl6 ea hdx6 |-;clear sx hdx ct s5 bl4 hm4 s14;refine ba (λZ H'=>Z=[Ua m,Ua fdl,Ua a,Ua t,none]/\H6=H') ?_ ?_
 .nofun;exact⟨a,d7,dx,_,rfl,ea,hdx6,IA,rfl,trivial⟩
 rintro Z H' ⟨rfl,rfl⟩;clear ea hdx6;obtain⟨a1,c1,h1,h2,h3⟩:=ct6;refine ba (λZ H'=>Z=[Ua m,Ua fdl,Ua a,Ua t,none]/\bJ H6 H') ?_ ?_
 .nofun;refine m8 (.tup h1 (.cons (.str _) (.cons (.tup h2 (.cons (.int _) (.cons (.int _) .nil))) (.cons (.tup h3 (.cons (.int _) (.cons (.int _) .nil))) .nil)))) ⟨true,rfl,pc (by decide) ?_⟩;refine⟨_,.inr (cj.of h1),pc (λz=>z rfl) ⟨_,_,cj.of h1,rfl,by decide,λp1 n1=>?_⟩⟩;have s1:=(bJ.refl H6).new (o:=.lst [V.str (Str.ofString "l"),V.str (Str.ofString "r")]) n1;have g1:upd H6 p1 (.lst [V.str (Str.ofString "l"),V.str (Str.ofString "r")]) p1=some (.lst [V.str (Str.ofString "l"),V.str (Str.ofString "r")]):=aG;exact⟨.str (sd u),[.str (Str.ofString "l"),.str (Str.ofString "r")],p1,_,.str _,rfl,.inl (cI.of g1),.cons (.str _) (.cons (.str _) .nil),by cases u<;>symm,by symm,ah _,false,by cases u<;>symm,pc (by decide) ⟨trivial,s1⟩⟩
 rintro Z H7 ⟨rfl,s1⟩;have k1:=s1 _ _ h1;have b1:=bl6.same s1;have ta:=b6.same s1 h2;have tc:=b6.same s1 h3;refine ba (λZ H'=>Z=[Ua m,Ua fdl,Ua a,Ua t,Ua (g u)]/\H7=H') ?_ ?_
 .nofun;refine⟨_,_,cj.of k1,rfl,?_⟩;nofun;exact⟨_,.ref (g u),cI.of b1.fd,by cases u<;>rfl,rfl,trivial⟩
 rintro Z H' ⟨rfl,rfl⟩;obtain⟨z1,z2,z3⟩:=C8 cr.z;refine ba (λZ H'=>Z=[Ua m,Ua fdl,Ua a,Ua t,Ua (g u)]/\H7=H') ?_ ?_
 .nofun;refine⟨_,_,cj.of k1,rfl,BJ ta (b1.at_ u) ?_⟩;rw[U2 rfl,U5 cr.hp];refine⟨false,rfl,pc (by decide) ⟨_,_,cj.of k1,rfl,BJ tc (b1.at_ u) ?_⟩⟩;rw[U2 rfl,U5 cr.hq];exact⟨false,rfl,pc (by decide) ⟨trivial,rfl⟩⟩
 rintro Z H' ⟨rfl,rfl⟩;nofun;refine⟨_,_,cj.of k1,rfl,a1,_,0,_,rfl,rfl,cj.of ta,rfl,_,_,cj.of k1,rfl,c1,_,0,_,rfl,rfl,cj.of tc,rfl,?_⟩;nofun;refine sq z1 ⟨_,_,cj.of k1,rfl,c1,_,0,_,rfl,rfl,cj.of tc,rfl,_,_,cj.of k1,rfl,a1,_,1,_,rfl,rfl,cj.of ta,rfl,?_⟩;nofun;refine sq z2 ⟨_,_,cj.of k1,rfl,a1,_,1,_,rfl,rfl,cj.of ta,rfl,_,_,cj.of k1,rfl,c1,_,1,_,rfl,rfl,cj.of tc,rfl,?_⟩;nofun;rw[U5 z3];exact q _ (s16.trans s1)
theorem Ee (B:qV mg) (E:Fn K mg "_law_rings" qf ["_law_steps"]):(1&&&"_law_rings") qf ["_law_steps"] Ad:=by
 refine' qe
 obtain⟨l,b,ns,rfl,hl,O,nc,q⟩:=h;refine⟨[Ua l,none,none,none],_,rfl,(L2.jW.h (aK (1^^^qe^^^(ce aC))
  (aK (dc bD rfl (lK (by rfl) B.range (bx aD (cV (ac bC (by rfl) B.len aY (aF (ae 0) aC)) aC))) (2^^^qe)
  (aM (cT (bO gI (bw>>>(aS bV (ae 0) (ae 2) (λ_ _=>rfl))) (bw>>>(aS bV (ae 0) (aw gq (ae 2) aD) (λ_ _=>rfl))) (bZ _))
   (bv (cT (bO gI (aw gu (bw>>>(aS bV (ae 0) (ae 2) (λ_ _=>rfl))) aD) aD (bZ _))
    (aM (bQ jg))
    b9)
    (bv (3^^^qe^^^(aw jD (bw>>>(aS bV (ae 0) (ae 2) (λ_ _=>rfl))) aD))
    (aM (cT (QW.pt (lJ (bO gI (ac bC (by rfl) B.len aY (aF (ae 1) aC)) aD (bZ _)) (jf (bO ou (aS bV (ae 1) (oq o8 aD) (λ_ _=>rfl)) (ae 3) (bZ _)))))
    (aM (cU (ef a9 ar aq dC (ae 1) (aF (ae 3) aC))))
    b9))))
   b9)))
  (aM (bQ (ae 1)))))),?_⟩
 obtain⟨as,hl1,pr⟩:=hl;have la:=bK pr;rw[aA] at la;have W1:=vq O nc (b:=b);have Wl:0<(c8 b ns).length:=by
  obtain⟨w0,hw0⟩:=pI (b:=b) (ns:=ns) ns.length;rw[show c8 b ns=_ from hw0];simp
 nofun;refine⟨ah _,λp np=>?_⟩;have s1:=(bJ.refl H).new (o:=.lst []) np;have hp1:upd H p (.lst []) p=some (.lst []):=aG;generalize upd H p (.lst [])=H1 at s1 hp1 |-;refine⟨_,.inl (cI.of (s1 _ _ hl1)),?_⟩;have ln:(((as.map V.ref).length:Int) - 1).toNat=(c8 b ns).length - 1:=by rw[aA];lia
 rw[ln];refine⟨⟨by decide,by decide,by rw[aA];lia,by rw[aA];lia⟩,fP (λi Z H'=>∃(S:im) (x2 x3:Option V),Z=[Ua l,Ua p,x2,x3]/\bJ H H'/\H' p=some (.lst ((xn S).map V.int))/\gb jq (some []) ((c8 b ns).take (i+1))=some S) ⟨[],_,_,rfl,s1,hp1,?_⟩ ?_ ?_⟩
 .cases hw:c8 b ns with
  | nil=>rw[hw] at Wl;cases Wl
  | cons x t=>rfl
 .rintro i Z H' hi ⟨S,x2,x3,rfl,sm,hp,hS⟩;have hi0:i<(c8 b ns).length:=by lia
  have hi1:i+1<(c8 b ns).length:=by lia
  have gx:as[i]? = some (as[i]'(by lia)):=aE _;have gy:as[i+1]? = some (as[i+1]'(by lia)):=aE _;obtain⟨cx,hcx,tx0⟩:=m6 pr gx;obtain⟨cy,hcy,ty0⟩:=m6 pr gy;rw[aR,aE hi0] at hcx;rw[aR,aE hi1] at hcy;cases hcx;cases hcy;have t1:=tx0.same sm;have t2:=ty0.same sm;have hl':=sm _ _ hl1;have ax:oR (as.map V.ref) ((1+(i:Int)) - 1)=some (.ref (as[i]'(by lia))):=by
   rw[show (1+(i:Int)) - 1=((i:Nat):Int) by lia];exact df (by rw[aR,gx];rfl)
  have ay:oR (as.map V.ref) (1+(i:Int))=some (.ref (as[i+1]'(by lia))):=by
   rw[show (1+(i:Int))=((i+1:Nat):Int) by lia];exact df (by rw[aR,gy];rfl)
  generalize hx:(c8 b ns)[i]=x at t1 |-;generalize hy:(c8 b ns)[i+1]=y at t2 |-;have two:(c8 b ns).take (i+1+1)=(c8 b ns).take i++[x,y]:=by
   rw[bE,aE hi1,bE,aE hi0,hx,hy];simp
  have one:(c8 b ns).take (i+1)=(c8 b ns).take i++[x]:=by
   rw[bE,aE hi0,hx];rfl
  have nxt:gb jq (some []) ((c8 b ns).take (i+1+1))=jq (some S) x y:=by
   rw[two,C1,<-one,hS]
  obtain⟨S',hS'⟩:=EH O nc (b:=b) (i+1+1);have x1:oR [V.int (fh x).1,V.int (fh x).2] 0=some (.int (x.1:Nat)):=rfl;have y1:oR [V.int (fh y).1,V.int (fh y).2] 0=some (.int (y.1:Nat)):=rfl;nofun;refine⟨_,_,cI.of hl',ay,_,_,_,_,rfl,rfl,cj.of t2,y1,_,_,cI.of hl',ax,_,_,_,_,rfl,rfl,cj.of t1,x1,?_⟩;nofun;refine gh (λh1=>?_) (λh1=>⟨S,_,_,rfl,sm,hp,by rw[nxt];unfold jq;dsimp only;rw[U1 (by lia)]⟩);have h1':y.1=x.1:=by lia
  have odd2:¬y.1 % 2=0:=λz=>by
   rw[nxt] at hS';unfold jq at hS';dsimp only at hS';rw[U2 h1',U2 z] at hS';cases hS'
  refine ba (λZ H''=>Z=[Ua l,Ua p,Ub (1+(i:Int)),x3]/\H'=H'') ?_ ?_
  .nofun;refine⟨_,_,cI.of hl',ay,_,_,_,_,rfl,rfl,cj.of t2,y1,?_⟩;nofun;exact⟨by decide,pc (by lia) ⟨trivial,trivial⟩⟩
  rintro Z H'' ⟨rfl,rfl⟩;refine ba (λZ H''=>Z=[Ua l,Ua p,Ub (1+(i:Int)),Ub ((y.1 / 2:Nat):Int)]/\H'=H'') ?_ ?_
  .nofun;refine⟨_,_,cI.of hl',ay,_,_,_,_,rfl,rfl,cj.of t2,y1,?_⟩;nofun;rw[show ((y.1:Nat):Int) / 2=((y.1 / 2:Nat):Int) by lia];exact⟨by constructor<;>lia,rfl,trivial⟩
  rintro Z H'' ⟨rfl,rfl⟩;nofun;have sl:=Aq _ _ _ hS;rw[cB] at sl;have nl:((xn S).map V.int).length=S.length:=by unfold xn;rw[aA,aA]
  have put:S.getLast?≠some (y.1 / 2)->GM K "list" (V.ref p) H'/\∃xs,H' p=some (.lst xs)/\xs.length<sizeLine/\∃(S:im) (x2 x3:Option V),[some (V.ref l),some (V.ref p),some (V.int (1+(i:Int))),some (V.int ((y.1 / 2:Nat):Int))]=[some (V.ref l),some (V.ref p),x2,x3]/\bJ H (upd H' p (.lst (xs++[V.int ((y.1 / 2:Nat):Int)])))/\upd H' p (.lst (xs++[V.int ((y.1 / 2:Nat):Int)])) p=some (.lst ((xn S).map V.int))/\gb jq (some []) ((c8 b ns).take (i+1+1))=some S:=λhne=>by
   refine⟨gi hp,_,hp,?_,S++[y.1 / 2],_,_,rfl,sm.new np,by rw[aG];unfold xn;simp,?_⟩
   .rw[nl,Tg];simp at sl;lia
   .rw[nxt];unfold jq;dsimp only;rw[U2 h1',U1 odd2,U1 hne]
  refine⟨_,.inl (cI.of hp),?_⟩;rw[nl];refine gh (λh2=>put ?_) (λh2=>?_)
  .have:S=[]:=List.length_eq_zero_iff.mp (by lia);rw[this];exact λz=>nomatch z
  .obtain⟨a,A,rfl⟩:∃a A,S=A++[a]:=by
    rcases g6 S with e | ⟨A,a,e⟩
    .rw[e] at h2;exact absurd rfl h2
    .exact⟨a,A,by rw[e,j0]⟩
   have al:oR ((xn (A++[a])).map V.int) (-1)=some (.int (a:Nat)):=by
    unfold xn;rw[aX,aX];exact mq _ _
   refine⟨_,_,cI.of hp,al,?_⟩;nofun;refine gh (λh3=>put ?_) (λh3=>⟨_,_,_,rfl,sm,hp,?_⟩)
   .simp;lia
   .rw[nxt];unfold jq;dsimp only;rw[U2 h1',U1 odd2,U2 (by simp;lia)]
 .rintro Z H' ⟨S,x2,x3,rfl,sm,hp,hS⟩;rw[dD (by lia),show c8 b ns=wS b ns ns.length from rfl,wH O nc (aI _)] at hS;cases hS;nofun;refine q p H' np sm ?_;rw[hp];rw[<-Gz O];unfold xn;rw[bn];rfl
theorem KO {OC d7:Addr} (B:qV mg) (E:Fn K mg "law" rz Uj) (Og:(1&&&"_law_cell_at") mX Uo (Dx K)) (Pa:(2&&&"_law_digits") om Ut xD) (Ow:(5&&&"_law_drawable") lH Ui tK) (Ox:(2&&&"_law_order_by") lE Uu ux)
  (Qp:(1&&&"_law_bows") tU ["_law_maze"] Al) (OQ:(1&&&"_law_crossing") iz ["_law_bows_here"] rj) (PU:(7&&&"_law_refused") mQ Va rM) (O5:uq P w K mg base 6 "drawn" pQ Ud (tJ OC d7)) (Qq:(1&&&"_law_walk") tQ ["_law_lines"] Dp) (Px:(1&&&"_law_rings") qf ["_law_steps"] Ad):(8&&&"law") rz Uj (xA K):=by
 refine' mE
 obtain⟨a,cs,rfl,hS,hlen,kQ⟩:=h;refine⟨[Ua a,none,none,none,none,none,none,none,none],_,rfl,(L2.jW.h (aK (1^^^mE^^^(aS uK cO (aw gu (Og<<<(aF (ae 0) (bx aD aC))) aD) (λ_ _=>rfl)))
  (aK (2^^^mE^^^(Og<<<(aF (ae 0) (bx aD aC))))
  (aK (3^^^mE^^^(eM (aF (ae 1) (cV (Ox<<<(dn (aw jD (ae 2) aD) (bx aD aC))) aC))))
  (bv (cT (bO gI (aw gu (ae 2) aD) aD (bZ _))
  (aM (3^^^mE^^^(Ow<<<(aF (ae 1) (cV (Pa<<<(dn (aw jD (ae 2) aD) (bx aD aC))) aC)))))
  b9)
  (bv (4^^^mE^^^(Qp<<<(aF (ae 3) aC)))
  (aK (cT (QW.pt (lJ (jB (OQ<<<(a8 (bV>>>(ae 4)) aC))) (jf (jB (OQ<<<(a8 (bV>>>(ae 4)) aC))))))
  (aM (bQ (PU<<<(aF (ae 3) (aF (ae 4) aC)))))
  b9)
  (aK (5^^^mE^^^(Bu O5 (hr.mono (by decide)) (by rfl) (aF (ae 3) aC)))
  (aK (cT (kY (jB (ac mn (by rfl) B.isinstance ai (aF (ae 5) (aF (lM (v:=.ty "str") (by rfl) B.str PyProof.Rows.boot_str rfl) aC)))))
  (aM (bQ ja))
  b9)
  (aK (6^^^mE^^^(ef jJ PySem.F.slot_str_split PySem.F.type_str_split Es (ae 5) (bx cO aC)))
  (aK (7^^^mE^^^(Qq<<<(aF (ae 6) aC)))
  (aK (cT (bO KG (ae 7) jg (bZ _))
  (aM (bQ ja))
  b9)
  (bv (8^^^mE^^^(ac (AC rfl) (by rfl) B.sum PyProof.Rows.boot_sum (iE (lL (own:=["_law_line"]) (ns:=[]) (caps:=[]) rfl ⟨rfl,by symm,by symm,by symm⟩ .nil (fH (ae 6)) (λC s H fp pn=>(bi (i:=0) (show List.Nodup ((["_law_line"]:List Str)++([]:List Str)) by symm) rfl (Or.inl rfl))) (λC s H fp pn=>nV) (λC s H fp pn=>(ac (qC (K:=K) rfl) (by rfl) B.len aY (iE (lL (own:=["_law_sign"]) (ns:=[]) (caps:=[]) rfl ⟨rfl,by symm,by symm,by symm⟩ .nil (Aw (ae 0)) (λC s H fp pn=>(bi (i:=0) (show List.Nodup ((["_law_sign"]:List Str)++([]:List Str)) by symm) rfl (Or.inl rfl))) (λC s H fp pn=>(Ax (bO ou (ae 0) cO (bZ _)))) (λC s H fp pn=>(ae 0))) aC)))) aC)))
  (aM (bQ (kZ (cm gI (ae 8) (ac bC (by rfl) B.len aY (aF (ae 7) aC)) (bZ _)) (kZ (cm gI (zM rfl (oI hr) (by rfl) B.len (by rfl) B.set (ae 7)) (ac bC (by rfl) B.len aY (aF (ae 7) aC)) (bZ _)) (nW (cm (wN (oI hr)) (Px<<<(aF (ae 7) aC)) (dE n8 (by rfl) B.list fB (a8 (bw>>>(ae 3)) aC)) (bZ _)))))))))))))))))))),?_⟩
 nofun;refine⟨a,cs,1,rfl,hS,?_⟩;nofun;refine⟨by decide,by decide,_,MK (i5 _ (by decide)) (gO _ (by decide)),?_⟩;rw[MJ];generalize decide (cs.getD 1 0 % 2=1)=b;refine⟨a,cs,0,rfl,hS,?_⟩;nofun;refine⟨⟨by decide,by decide⟩,_,21,rfl,by decide,by decide,λl ns H1 nl s1 hl hlt pm=>⟨(by show 2<=sizeLine;decide),λm nm=>?_⟩⟩;have s2:=(bJ.refl H1).new (o:=.tup [.str (sd b),.ref l]) nm;have hm:gY (upd H1 m (.tup [.str (sd b),.ref l])) m l b ns:=⟨aG,s2 _ _ hl⟩
 have s12:=s1.trans s2;generalize upd H1 m (.tup [.str (sd b),.ref l])=H2 at s2 hm s12 |-;have O:fO ns:=⟨by lia,pm⟩
 generalize cs.getD 0 0=cz;refine ba (λZ H'=>∃m o ns,Z=[Ua a,Uc (sd b),Ub cz,Ua m,none,none,none,none,none]/\bJ H H'/\gY H' m o b ns/\fO ns) ?_ ?_
 .nofun;refine⟨by decide,gh (λe=>?_) (λe=>⟨m,l,ns,rfl,s12,hm,O⟩)⟩;refine⟨⟨by decide,by decide⟩,_,4,rfl,by decide,by decide,λdl ds H3 nd s3 hd hdl=>?_⟩;refine⟨b,dl,ds,rfl,hd,by lia,λm o ns H4 nm no s4 hm O=>⟨m,o,ns,rfl,s12.trans (s3.trans s4),hm,O⟩⟩
 clear hm O pm hlt hl nm nl s12 s2 s1;rintro Z' H3 ⟨m,o,ns,rfl,s3,hm,O⟩;refine ba (λZ H'=>∃fdl g,Z=[Ua a,Uc (sd b),Ub cz,Ua m,Ua fdl,none,none,none,none]/\bJ H H'/\gY H' m o b ns/\u4 H' fdl g b ns) ?_ ?_
 .nofun;exact⟨m,o,b,ns,rfl,hm,by have:=O.len;lia,λfdl g H4 nf ng s4 hf hg _=>⟨fdl,g,rfl,s3.trans s4,hm.same s4,hf,hg⟩⟩
 clear hm s3;rintro Z' H4 ⟨fdl,g,rfl,s4,hm,bl⟩;nofun;refine⟨_,_,cI.of bl.fd,rfl,_,_,rfl,bl.at_ false,_,rfl,?_⟩;have tellC:∀u,lR (bH b ns u (ns.length+1))=true->¬NC b ns:=λu h nc=>by rw[sE (nc u)] at h;cases h
 have bad:¬NC b ns->rM [V.ref m,V.ref fdl] H4 Q E0:=λnn=>⟨m,o,fdl,g,b,ns,rfl,hm,O,bl,nn,λH5 s5=>kQ _⟩
 refine gh (λh=>bad (tellC false h)) (λh0=>⟨_,_,cI.of bl.fd,rfl,_,_,rfl,bl.at_ true,_,rfl,gh (λh=>bad (tellC true h)) (λh1=>?_)⟩);have nc:NC b ns:=λu p hp q hq=>by
  cases e:ci p q with
  | false=>rfl
  | true=>
   exfalso;have:lR (bH b ns u (ns.length+1))=true:=by
    unfold lR;rw[cM];exact⟨p,hp,by rw[cM];exact⟨q,hq,e⟩⟩
   cases u
   .exact h0 this
   .exact h1 this
 clear h0 h1 bad tellC;refine⟨_,_,rfl,hm.dat,za,.inr ⟨m,o,b,ns,rfl,hm,rfl,O,λ_ L R H5 sL sR s5=>?_,λu p hp q hq z=>by rw[nc u p hp q hq] at z;cases z⟩⟩;rw[D6 O sL sR];have hm5:=hm.same s5;clear hm bl sL sR;have l20:=O.len;have w85:=yk (b:=b) O;refine Hj (.str _) ⟨true,rfl,pc (by decide) ?_⟩;refine⟨rfl,_,_,rfl,rfl,by symm,?_,λll nll=>?_⟩
 .have h1:=vW (~~~sA) λr hr=>by
   obtain⟨i,_,rfl⟩:=aU.mp hr;rw[sW];lia
  have h2:(~~~sA).length<=45:=by unfold sA;rw[aA,dJ];lia
  rw[vt];show (fg (~~~sA)).length<=100000;lia
 have e':(Txt.split (tx (~~~B6)) (Str.ofString "\n")).map V.str=(~~~p8):=congrArg (List.map V.str) (Do (rs:=(~~~sA)) (EE _ _ _) zF);rw[e'];have s6:=(bJ.refl H5).new (o:=.lst (~~~p8)) nll;have hl6:upd H5 ll (.lst (~~~p8)) ll=some (.lst (~~~p8)):=aG;generalize upd H5 ll (.lst (~~~p8))=H6 at s6 hl6 |-;refine⟨ll,b,ns,rfl,hl6,O,nc,λst H7 nst s7 bo7=>⟨trivial,pc (λz=>nomatch z) ?_⟩⟩;have hl7:=s7 _ _ hl6;have hm7:=hm5.same (s6.trans s7);clear hl6 e' nst nll hm5 s6 s7 s5 s4;refine ba (λZ H'=>Z=[Ua a,Uc (sd b),Ub cz,Ua m,Ua fdl,Uc (tx (~~~B6)),Ua ll,Ua st,Ub ((c8 b ns).length:Nat)]/\bJ H7 H') ?_ ?_
 .nofun;have lln:(~~~p8).length=2*ns.length+5:=by rw[aA,aA,aA,dJ]
  refine⟨⟨_,cI.of hl7⟩,pZ (xs:=(~~~p8)) (λi ys Z H'=>bJ H7 H'/\ys=((List.range i).map λj=>V.int ((Ed ns b j).length:Nat))/\∃x,Z=[x]) ⟨bJ.refl _,rfl,_,rfl⟩ ?_ (by rw[lln];exact bT (bS (by lia))) ?_ ?_⟩
  .rintro i ys Z H' ⟨s8,rfl,_⟩;exact⟨cI.of (s8 _ _ hl7),by simp⟩
  .rintro i x ys Z H' N hx ⟨s8,rfl,x',rfl⟩ hN;have hi:i<2*ns.length+5:=by rw[<-lln];exact(aH.mp hx).1
   have ex:x=.str (tx ((~~~i8) i)):=by
    have h1:=FG (n:=ns.length) (S0:=c7 b ns false) (S1:=c7 b ns true) hi;rw[df hx] at h1;exact av h1
   subst ex;nofun;have cs_i:(tx ((~~~i8) i)).cps.size=((~~~i8) i).length:=by unfold tx;simp
   refine⟨D8 λc hc=>?_,Fp (λj ys Z H''=>H''=H'/\ys=(((((~~~i8) i).take j).filter λc=>decide (c≠35)).map λc=>V.str ⟨#[c]⟩)/\∃x,Z=[x]) ⟨rfl,rfl,_,rfl⟩ ?_ ?_ ?_ ?_⟩
   .unfold i8 at hc;obtain⟨z,_,rfl⟩:=aU.mp hc;rcases Gm (n:=ns.length) (S0:=c7 b ns false) (S1:=c7 b ns true) i z with e | e | e | e<;>rw[e]<;>decide
   .rintro j ys Z H'' ⟨rfl,rfl,_⟩;rw[aA];refine bN (fN _ _) ?_;rw[cB];lia
   .rw[cs_i,sW];exact bT (bS (by lia))
   .rintro j c ys Z H'' N2 hc ⟨rfl,rfl,x2,rfl⟩ hN2;have hc':((~~~i8) i)[j]? = some c:=by rw[<-cZ,yn] at hc;exact hc
    have tk:((~~~i8) i).take (j+1)=((~~~i8) i).take j++[c]:=by
     rw[bE,hc'];rfl
    have sh:Str.ofString "#"=(⟨#[35]⟩:Str):=by symm
    have ch1:((⟨#[c]⟩:Str)=⟨#[35]⟩)<->c=35:=⟨λe=>by injection e with e;simpa using e,λe=>by rw[e]⟩
    nofun;rw[sh];refine gh (λh=>?_) (λh=>?_)
    .refine hN2 _ _ _ ⟨rfl,?_,_,rfl⟩;rw[tk,dA,aX];have:c≠35:=λe=>h (ch1.mpr e);simp[nJ,this]
    .refine hN2 _ _ _ ⟨rfl,?_,_,rfl⟩;rw[tk,dA,aX];have:c=35:=ch1.mp (f7.mp h);simp[nJ,this]
   .rintro ys Z H'' p ⟨rfl,rfl,_⟩ np;have s9:=(bJ.refl H'').new (o:=.lst (((((~~~i8) i).take (tx ((~~~i8) i)).cps.size).filter λc=>decide (c≠35)).map λc=>V.str ⟨#[c]⟩)) np;refine⟨p,_,rfl,.inl (cI.of aG),hN _ _ _ ⟨s8.trans s9,?_,_,rfl⟩⟩;rw[cs_i,bf,aA,dP,aX];rfl
  .rintro ys Z H' p ⟨s8,rfl,_⟩ np;rw[lln];have s9:=(bJ.refl H').new (o:=.lst ((List.range (2*ns.length+5)).map λj=>V.int ((Ed ns b j).length:Nat))) np;have e1:((List.range (2*ns.length+5)).map λj=>V.int ((Ed ns b j).length:Nat))=((List.range (2*ns.length+5)).map λj=>((Ed ns b j).length:Int)).map V.int:=by rw[bn];rfl
   refine⟨p,(List.range (2*ns.length+5)).map λj=>((Ed ns b j).length:Int),rfl,cI.of (by rw[aG,e1]),fits_of (λx hx=>?_) (by simp;lia),?_,s8.trans s9⟩
   .obtain⟨j,_,rfl⟩:=aU.mp hx;have:=KH (ns:=ns) (b:=b) j;exact⟨by lia,by lia⟩
   .rw[Cc O nc]
 rintro Z' H8 ⟨rfl,s8⟩;have bo8:=bo7.same s8;have hm8:=hm7.same s8;obtain⟨as,a1,a2⟩:=id bo8;have la:=bK a2;rw[aA] at la;have W1:=vq O nc (b:=b);nofun;have nd:((c8 b ns).map fh).Nodup:=by
  unfold List.Nodup;rw[cW];refine List.Pairwise.imp (fun {x y} ne e=>ne ?_) (mP O nc (b:=b) (aI _));have h1:((x.1:Nat):Int)=y.1:=(Prod.mk.inj e).1;have h2:((x.2:Nat):Int)=y.2:=(Prod.mk.inj e).2;exact fZ (by lia) (by lia)
 refine⟨_,.inl (cI.of a1),sq (by rw[aA];lia) ⟨_,bo8,nd,by rw[aA];lia,_,.inl (cI.of a1),sq (by rw[aA,aA];lia) ?_⟩⟩;refine⟨st,b,ns,rfl,bo8,O,nc,λp H9 np s9 hp=>?_⟩;have hm9:=hm8.same s9;refine⟨_,_,cj.of hm9.1,rfl,o,_,rfl,.inr (cj.of hm9.2),λl nl=>?_⟩;have s10:=(bJ.refl H9).new (o:=.lst (ns.map V.int)) nl;refine yM (cI.of (s10 _ _ hp)) (cI.of aG) ?_;rw[U5 rfl];exact kQ _
end
def f6(K:U9)(x:Str)(st:Stmt):Prop:=∃(f:Addr) (oc:Value) (od an:Option Addr) (osl:Array (bt)) (kV doc pm cdv ct:Value),W.nsIn K mainGlobals x=some (some (.ref f))/\K.lookup f=some ⟨oc,od,.func (W.fnOf x x (k6 st) (iG st) (bB st) .none kV doc pm an cdv ct),osl⟩/\W.codeIn K cdv x=true/\W.keepIn K (.ref f)=true
theorem fnIn{K:U9}{x:Str}{st:Stmt}{f:Addr}{oc:Value}{od an:Option Addr}{osl:Array (bt)}{kV doc pm cdv ct:Value}(a:W.nsIn K mainGlobals x=some (some (.ref f)))(l:K.lookup f=some ⟨oc,od,.func (W.fnOf x x (k6 st) (iG st) (bB st) .none kV doc pm an cdv ct),osl⟩)(c:W.codeIn K cdv x=true)(k:W.keepIn K (.ref f)=true):f6 K x st:=⟨_,_,_,_,_,_,_,_,_,_,a,l,c,k⟩
theorem dU{K:U9}{h:Heap}{mg:Str->bt}(X:K.In h)(G:h.Ns mainGlobals mg){x:Str}{st:Stmt}{ps:List Str}(a:f6 K x st)
  (hb:∀(kV doc pm:Value) (an:Option Addr) (cdv ct:Value) (us:ag),us.length=ps.length->bindArgs (W.fnOf x x (k6 st) (iG st) (bB st) .none kV doc pm an cdv ct) ⟨us,[]⟩=pure (ps.zip us):=by intro _ _ _ _ _ _;first | exact L2.NZ λ_=>rfl | exact L2.Mo λ_ _=>rfl | exact L2.NY λ_ _ _=>rfl | exact L2.Nl λ_ _ _ _=>rfl):Fn K mg x st ps:=by
 obtain⟨f,_,_,_,_,_,_,_,_,_,a,l,c,k⟩:=a;have F:=F7 (st:=st) l c k;exact⟨f,_,F,bY X G a,F.binds hb⟩
theorem all_mk{l:W.OpenLaw}
  {w:World}
  {K:U9}
  {h:Heap}
  {mg:Str->bt}
  {fa:Addr}
  (X:K.In h)
  (G:h.Ns mainGlobals mg)
  (hfa:mg "law"=some (.ref fa))
  (Qr:f6 K "crossing" lI)
  (Sx:f6 K "span" tR)
  (Pk:f6 K "lies_within" iS)
  (Ra:f6 K "heights" j8)
  (Qs:f6 K "is_whole" lF)
  (Rb:f6 K "is_side" mS)
  (Qu:f6 K "is_order" lG)
  (Rc:f6 K "is_maze" mT)
  (Py:f6 K "other_side" iy)
  (Pb:f6 K "side_of_step" gk)
  (Pm:f6 K "rows_of_way" iR)
  (Re:f6 K "bows_of" kh)
  (Rf:f6 K "crossed" mW)
  (TX:f6 K "vet" xO)
  (Rg:f6 K "line_of" j7)
  (PH:f6 K "greatest_height" fX)
  (SU:f6 K "by_row" mY)
  (Pd:f6 K "left_columns" gl)
  (P8:f6 K "right_columns" gS)
  (Pz:f6 K "carve_bows" jA)
  (Pn:f6 K "carve_rings" iT)
  (Sy:f6 K "mark" tT)
  (Sg:f6 K "drawn" pQ)
  (Rh:f6 K "_law_cell_at" mX)
  (TZ:f6 K "_law_mix" vE)
  (SV:f6 K "_law_digits" om)
  (Qv:f6 K "_law_order_by" lE)
  (T1:f6 K "_law_can" xP)
  (T3:f6 K "_law_put" vD)
  (Sh:f6 K "_law_ended" qh)
  (Sz:f6 K "_law_need" tS)
  (Ri:f6 K "_law_fitting" mV)
  (Si:f6 K "_law_grown" qg)
  (Qw:f6 K "_law_order_of" lD)
  (Qx:f6 K "_law_drawable" lH)
  (TB:f6 K "_law_bows" tU)
  (QC:f6 K "_law_crossing" iz)
  (TC:f6 K "_law_walk" tQ)
  (Rj:f6 K "_law_is_just" mU)
  (Rk:f6 K "_law_refused" mQ)
  (Sj:f6 K "_law_rings" qf)
  (Qb:f6 K "law" rz)
  {QD:Tok}
  (QJ:W.nsIn K mainGlobals "MOST_RINGS"=some (some (.int 20 QD)))
  {TD:Tok}
  (TF:W.nsIn K mainGlobals "WALL"=some (some (.str (Str.ofString "#") TD)))
  {Qc:Tok}
  (Qd:W.nsIn K mainGlobals "OPEN_CELL"=some (some (.str (Str.ofString ".") Qc)))
  {Sk:Tok}
  (Sl:W.nsIn K mainGlobals "MOUTH"=some (some (.str (Str.ofString "v") Sk)))
  {SW:Tok}
  (SX:W.nsIn K mainGlobals "MIDDLE"=some (some (.str (Str.ofString "@") SW)))
  {OD:Addr}
  (PY:W.nsIn K mainGlobals "RingError"=some (some (.ref OD)))
  {OC:Addr}
  (Pe:W.nsIn K mainGlobals "NoMaze"=some (some (.ref OC)))
  {d7:Addr}
  (PV:W.nsIn K mainGlobals "Crossed"=some (some (.ref d7)))
  {OL:Addr}
  (SY:W.nsIn K mainGlobals "NoWord"=some (some (.ref OL)))
  {OG:Addr}
  (Qe:W.nsIn K mainGlobals "NoDrawing"=some (some (.ref OG)))
  {OW:Addr}
  (Sm:W.nsIn K mainGlobals "NoBow"=some (some (.ref OW)))
  {OK:Addr}
  (Rl:W.nsIn K mainGlobals "NoRound"=some (some (.ref OK)))
  {OM:Addr}
  (SZ:W.nsIn K mainGlobals "NoCode"=some (some (.ref OM)))
  {OI:Addr}
  (Qy:W.nsIn K mainGlobals "NoNumber"=some (some (.ref OI)))
  {ON:Addr}
  (S3:W.nsIn K mainGlobals "NoName"=some (some (.ref ON)))
  {OX:Addr}
  (Sn:W.nsIn K mainGlobals "NoRow"=some (some (.ref OX)))
  {NR:Addr}
  {dR_x dM_x:Option Addr}
  {cdR_x:ClassData}
  {slR_x slM_x:Array (bt)}
  {cM_x:Value}
  {es2_x:Array DictEntry}
  {ep2_x:Nat}
  (x_lkR:K.lookup OD=some ⟨.type "type",dR_x,.cls cdR_x,slR_x⟩)
  (x_eR:cdR_x.ns=NR)
  (x_lkM:K.lookup NR=some ⟨cM_x,dM_x,.dict es2_x ep2_x,slM_x⟩)
  (x_nR:L2.strKeys es2_x=true)
  (x_r1:W.nsIn K NR "__init__"=some none)
  (x_r2:W.nsIn K NR "__getattribute__"=some none)
  (x_r3:W.nsIn K NR "__getattr__"=some none)
  (x_r4:W.nsIn K NR "args"=some none)
  (x_sp:W.specialIn K (.builtin "object.__class__") "__get__"=some (some (.builtin "getset_descriptor.__get__")))
  (x_tk:W.takesIn K (.builtin "object.__class__")=some true)
  (x_rb:W.mroIn K OD (.type "BaseException")=some true)
  (x_rd:W.readsIn K OD (.type "type")=true)
  (x_sg:W.specialIn K (.ref OD) "__getattribute__"=some (some (.builtin "type.__getattribute__")))
  (x_fi:W.findCls K (.ref OD) (.type "type") "__init__"=some (.val (.builtin "ValueError.__init__")))
  {S4:Option Addr}
  {Rn:ClassData}
  {Ro:Array (bt)}
  (x_lk_NoWord:K.lookup OL=some ⟨.type "type",S4,.cls Rn,Ro⟩)
  {Qf:Option Addr}
  {QK:ClassData}
  {QL:Array (bt)}
  (x_lk_NoDrawing:K.lookup OG=some ⟨.type "type",Qf,.cls QK,QL⟩)
  {So:Option Addr}
  {S5:ClassData}
  {S6:Array (bt)}
  (x_lk_NoBow:K.lookup OW=some ⟨.type "type",So,.cls S5,S6⟩)
  {Rp:Option Addr}
  {Qz:ClassData}
  {RA:Array (bt)}
  (x_lk_NoRound:K.lookup OK=some ⟨.type "type",Rp,.cls Qz,RA⟩)
  {S7:Option Addr}
  {Rq:ClassData}
  {Rr:Array (bt)}
  (x_lk_NoCode:K.lookup OM=some ⟨.type "type",S7,.cls Rq,Rr⟩)
  {RB:Option Addr}
  {Qg:ClassData}
  {Qh:Array (bt)}
  (x_lk_NoNumber:K.lookup OI=some ⟨.type "type",RB,.cls Qg,Qh⟩)
  {S8:Option Addr}
  {Rt:ClassData}
  {Ru:Array (bt)}
  (x_lk_NoName:K.lookup ON=some ⟨.type "type",S8,.cls Rt,Ru⟩)
  {Sq:Option Addr}
  {S9:ClassData}
  {Sa:Array (bt)}
  (x_lk_NoRow:K.lookup OX=some ⟨.type "type",Sq,.cls S9,Sa⟩)
  {Pf:Addr}
  {Rv Sb:Str}
  {Rw:ag}
  {Rx:Bool}
  {Ry:List Str}
  {RC:ag}
  {Rz:Bool}
  {RD:Option Bool}
  {SA SB:Option Addr}
  {SD SE SG SH SI:bt}
  {RE:Array (bt)}
  {SJ:Value}
  {Ps:Array DictEntry}
  {SK:Nat}
  (O6:K.lookup OC=some (excClassObj Rv Sb OC Pf Rw (.ref OD::[.type "ValueError",.type "Exception",.type "BaseException",.type "object"]) Rx Ry RC Rz RD SA SD SE SG SH SI "ValueError.__new__"))
  (PJ:K.lookup Pf=some ⟨SJ,SB,.dict Ps SK,RE⟩)
  (PZ:L2.strKeys Ps=true)
  (P3:W.nsIn K Pf "__init__"=some none)
  (P4:W.findIn K (.ref OC) "__getattribute__"=some (some (.builtin "BaseException.__getattribute__")))
  (P5:W.findIn K (.ref OC) "__getattr__"=some none)
  (P6:W.findIn K (.ref OC) "__class__"=some (some (.builtin "object.__class__")))
  (P7:W.mroIn K OC (.type "object")=some true)
  {PX:Addr}
  {RF SL:Str}
  {RG:ag}
  {RH:List Str}
  {Qi:ag}
  {RI:Bool}
  {Qj:Option Bool}
  {RJ RK:Option Addr}
  {RL RM RN RO RP:bt}
  {Qk:Array (bt)}
  {RQ:Value}
  {Pg:Array DictEntry}
  {RS:Nat}
  {OV:Addr}
  {RT RU:Option Addr}
  {RV:Array (bt)}
  {RW RX RY RZ Ph R0:Value}
  (O2:K.lookup d7=some (excClassObj RF SL d7 PX RG (.ref OD::[.type "ValueError",.type "Exception",.type "BaseException",.type "object"]) true RH Qi RI Qj RJ RL RM RN RO RP "ValueError.__new__"))
  (Po:K.lookup PX=some ⟨RQ,RK,.dict Pg RS,Qk⟩)
  (QM:L2.strKeys Pg=true)
  (QN:W.nsIn K PX "__init__"=some (some (.ref OV)))
  (QP:W.findIn K (.ref d7) "__getattribute__"=some (some (.builtin "BaseException.__getattribute__")))
  (QQ:W.findIn K (.ref d7) "__getattr__"=some none)
  (QR:W.findIn K (.ref d7) "__class__"=some (some (.builtin "object.__class__")))
  (QU:W.mroIn K d7 (.type "object")=some true)
  (QV:W.mroIn K d7 (.ref OD)=some true)
  (QX:W.mroIn K d7 (.type "ValueError")=some true)
  (QY:W.mroIn K d7 (.ref d7)=some true)
  (QZ:W.mroIn K d7 (.type "BaseException")=some true)
  (Oh:W.mroIn K d7 (.ref OC)=some false)
  (Oi:(Value.ref d7==Value.ref OC)=false)
  (Oj:W.mroIn K d7 (.ref OL)=some false)
  (Ol:(Value.ref d7==Value.ref OL)=false)
  (O7:W.mroIn K d7 (.ref OG)=some false)
  (O8:(Value.ref d7==Value.ref OG)=false)
  (Oy:W.mroIn K d7 (.ref OW)=some false)
  (Oz:(Value.ref d7==Value.ref OW)=false)
  (Oc:W.mroIn K d7 (.ref OK)=some false)
  (Od:(Value.ref d7==Value.ref OK)=false)
  (Om:W.mroIn K d7 (.ref OM)=some false)
  (On:(Value.ref d7==Value.ref OM)=false)
  (Oa:W.mroIn K d7 (.ref OI)=some false)
  (Ob:(Value.ref d7==Value.ref OI)=false)
  (Oo:W.mroIn K d7 (.ref ON)=some false)
  (Oq:(Value.ref d7==Value.ref ON)=false)
  (PB:W.mroIn K d7 (.ref OX)=some false)
  (PD:(Value.ref d7==Value.ref OX)=false)
  (Q0:W.findIn K (.ref d7) "__setattr__"=some (some (.builtin "object.__setattr__")))
  (Q1:W.findIn K (.ref d7) "bows"=some none)
  (Q2:K.lookup OV=some ⟨RW,RT,.func (W.fnOf "__init__" "Crossed.__init__" (k6 gT) (iG gT) (bB gT) .none RX RY RZ RU Ph R0),RV⟩)
  (Q3:W.codeIn K Ph "Crossed.__init__"=true)
  (Q4:W.keepIn K (.ref OV)=true)
  (Q5:W.typeIn K (.ref OV)=some (.type "function"))
  (Q6:W.keepIn K (.ref d7)=true)
  {R7:Addr}
  {R8:Obj}
  (Sr:W.nsIn K mainGlobals "SIDES"=some (some (.ref R7)))
  (Ss:K.lookup R7=some R8)
  (Su:L2.AJ R8 ["l","r"])
  (zz:∀n∈["len","range","enumerate","int","list","tuple","isinstance","str","bool","sorted","all","any","zip","max","min","reversed","ValueError","set","sum"],W.nsIn K mainGlobals n=some none) :
  ∃fd:FuncData,(∀(s:Shared) (v:Value),BindsTo s fd ⟨[v],[]⟩ [("_law_script",v)])/\∀base:Heap,K.In base->base.Ns mainGlobals mg->nw l.prog w K mg base we 8 fa fd Uj (xA K):=by
 have zn:=λn h=>W.mg_none_of X G (zz n h);simp only[List.forall_mem_cons] at zn;obtain⟨T4,Sv,Ql,T5,TJ,Sw,Q7,T6,TK,Sd,T7,T8,T9,Ta,Tb,R1,Q8,Tc,Td,_⟩:=zn;have B:qV mg:=⟨T4,Sv,Ql,T5,TJ,Sw,Q7,T6,TK,Sd,T7,T8,T9,Ta,Tb,R1,Q8,Tc,Td,⟨_,bY X G QJ⟩,⟨_,bY X G TF⟩,⟨_,bY X G Qd⟩,⟨_,bY X G Sl⟩,⟨_,bY X G SX⟩⟩
 have SM:L2.GL K OC/\∀base:Heap,K.In base->base.Ns mainGlobals mg->OwnCls "NoMaze" OC [.type "ValueError",.type "Exception",.type "BaseException",.type "object"] "ValueError.__new__" mg base:=⟨(L2.vb X G Pe O6 x_lkR (L2.pX PJ PZ) P3 x_eR (L2.pX x_lkM x_nR) x_r1 x_r2 x_r3 x_r4 j4 P4 P5 P6 x_sp x_tk P7).2,λbase KB GB=>(L2.vb KB GB Pe O6 x_lkR (L2.pX PJ PZ) P3 x_eR (L2.pX x_lkM x_nR) x_r1 x_r2 x_r3 x_r4 j4 P4 P5 P6 x_sp x_tk P7).1⟩
 have O9:=λ(base:Heap) (KB:K.In base) (GB:base.Ns mainGlobals mg)=>L2.zq (f:="bows") KB GB PV O2 x_lkR (L2.pX Po QM) QN x_eR (L2.pX x_lkM x_nR) x_r1 x_r2 x_r3 x_r4 j4 QP QQ Q0 Q1 (by simp) F.store_ValueError.passes;have Pi:L2.Ck K d7 "bows":=(O9 h X G).2.1;have Pj:=F7 (st:=gT) Q2 Q3 Q4;have R3:L2.yh K d7:=L2.Fe (cR:=.type "type") (cdR:=cdR_x) (dR:=dR_x) (slR:=slR_x) (NR:=NR) O2 Pi QR x_sp x_tk QU;have R4:L2.Kv K d7 [OC,d7,OL,OG,OW,OK,OM,OI,ON,OX] 1:=⟨λj d h=>match j,h with | 0,h=>by cases h;exact L2.iF Oi O6 Oh | 1,h=>by cases h;exact L2.FQ | 2,h=>by cases h;exact L2.iF Ol x_lk_NoWord Oj | 3,h=>by cases h;exact L2.iF O8 x_lk_NoDrawing O7 | 4,h=>by cases h;exact L2.iF Oz x_lk_NoBow Oy | 5,h=>by cases h;exact L2.iF Od x_lk_NoRound Oc | 6,h=>by cases h;exact L2.iF On x_lk_NoCode Om | 7,h=>by cases h;exact L2.iF Ob x_lk_NoNumber Oa | 8,h=>by cases h;exact L2.iF Oq x_lk_NoName Oo | 9,h=>by cases h;exact L2.iF PD x_lk_NoRow PB | j+10,h=>by simp at h,L2.FP (by decide) QX⟩
 have R5:W.exmOne K (.ref d7) (.ref OD)=some true:=L2.BW x_lkR QV x_rb;have R6:W.exmOne K (.ref d7) (.ref d7)=some true:=L2.BW O2 QY QZ;have UK:L2.NN K OD "ValueError.__init__":=⟨x_rd,x_sg,x_fi,L2.CV⟩
 have Of:=L2.F6 X G Sr Ss Su;have key:∀base:Heap,K.In base->base.Ns mainGlobals mg->fU l.prog w K mg base 8 "law" rz Uj (xA K):=λbase KB GB=>by
  have P9:=SM.2 base KB GB;have PL:L2.Ky l.prog w K mg base 1 "Crossed" d7 "bows" L2.HY:=⟨OV,_,_,_,_,_,_,(O9 base KB GB).1,hZ,tq (O9 base KB GB).1 hZ UK (bY X G PY) (O9 h X G).2.2 Pj,Q5,Q6,Pj.binds λ_ _ _ _ _ _=>L2.Mo λ_ _=>rfl,L2.Ei⟩
  have Ou:=xm (P:=l.prog) (w:=w) (base:=base) (dU X G Qr);have Os:=xj (P:=l.prog) (w:=w) (base:=base) B (dU X G Qs);have PK:=zT (P:=l.prog) (w:=w) (base:=base) Of (dU X G Rb);have Ot:=xk B (dU X G Qu) Os;have PM:=zU B (dU X G Rc) PK Ot;have O4:=uf (P:=l.prog) (w:=w) (base:=base) (dU X G Py);have OT:=sH (dU X G Pb) O4;have OY:=tj (P:=l.prog) (w:=w) (base:=base) B (dU X G Pm);have OS:=z0 B (dU X G Re) OT OY;have PN:=zY B Of (dU X G Rf) OS Ou;have SN:=KJ PL P9 (dU X G TX) PM PN;have Qm:=HU (P:=l.prog) (w:=w) (base:=base) (dU X G Sx);have OZ:=tm (P:=l.prog) (w:=w) (base:=base) (dU X G Pk);have OJ:=zW B (dU X G Ra) Qm OZ;have OE:=zS (P:=l.prog) (w:=w) (base:=base) (dU X G Rg);have OH:=qK B (dU X G PH) OJ;have O3:=CC (P:=l.prog) (w:=w) (base:=base) B (dU X G SU);have OU:=sI B (dU X G Pd) OJ O3;have OO:=rT B (dU X G P8) OJ O3;have OP:=uh B (dU X G Pz) OE;have O1:=tu B (dU X G Pn) OE;have Pt:=HW (P:=l.prog) (w:=w) (base:=base) B (dU X G Sy);have O5:=Eh B (dU X G Sg) SN OS OE OH OU OO OP O1 Pt;have Og:=zZ (P:=l.prog) (w:=w) (base:=base) B (dU X G Rh);have Pp:=KM (P:=l.prog) (w:=w) (base:=base) (dU X G TZ);have Pa:=CB B (dU X G SV) Pp;have Ox:=xi B (dU X G Qv) Pp;have Qn:=HV (P:=l.prog) (w:=w) (base:=base) (dU X G Sz);have SO:=KP (P:=l.prog) (w:=w) (base:=base) B (dU X G T1);have Pq:=KL (P:=l.prog) (w:=w) (base:=base) B (dU X G T3);have PP:=zX B (dU X G Ri) SO Qn;have Pu:=Eg B (dU X G Sh) Pq;have Pw:=Ef B (dU X G Si) PP Pq Pu;have Ov:=xh (P:=l.prog) (w:=w) (base:=base) B (dU X G Qw);have Ow:=xl (dU X G Qx) Pw Ov;have Qp:=HX (P:=l.prog) (w:=w) (base:=base) B (dU X G TB);have OQ:=ug (P:=l.prog) (w:=w) (base:=base) (dU X G QC);have Qq:=HS (P:=l.prog) (w:=w) (base:=base) B (dU X G TC);have PR:=zV (P:=l.prog) (w:=w) (base:=base) B (bY X G Pe) (bY X G PV) (bY X G SY) (bY X G Qe) (bY X G Sm) (bY X G Rl) (bY X G SZ) (bY X G Qy) (bY X G S3) (bY X G Sn) (dU X G Rj);have PU:=zR B (bY X G PY) (bY X G PV) R5 R6 R3 Pi R4 (dU X G Rk) O5 PR;have Px:=Ee (P:=l.prog) (w:=w) (base:=base) B (dU X G Sj);exact KO B (dU X G Qb) Og Pa Ow Ox Qp OQ PU O5 Qq Px
 obtain⟨f0,oc0,od0,TL,sl0,TN,TQ,TR,TU,TV,Qb,Te,_,_⟩:=Qb;have e:=hfa.symm.trans (bY X G Qb);cases e;refine⟨W.fnOf "law" "law" (k6 rz) (iG rz) (bB rz) .none TN TQ TR TL TU TV,λs v=>.of_eq rfl,λbase KB GB=>?_⟩;obtain⟨f,fd,F,m,b,ok⟩:=(key base KB GB).ex;rw[bY X G Qb] at m;cases m;obtain⟨_,_,_,_,_,_,_,_,_,rfl,lk,_⟩:=F.ex;rw[Te] at lk;cases lk;exact ok
theorem walk{l:W.OpenLaw}{q:Program}{loose:List Str}{XP:(Str->bt)->Heap->Prop}{YP:World->Heap->Prop}{d:DefRec}{K:Params->U9}(hn:l.most=some 63)(hdf:d.params.defaults=[])
  (hY:∀(w:World) (h:Heap),YP w h->(K w.params).In h)
  (F:∀(w:World) (mg:Str->bt) (fa:Addr) (h:Heap),(K w.params).In h->h.Ns mainGlobals mg->mg d.name=some (.ref fa) →
   ∃fd:FuncData,(∀(s:Shared) (u:Value),BindsTo s fd ⟨[u],[]⟩ [("_law_script",u)])/\∀base:Heap,(K w.params).In base->base.Ns mainGlobals mg->nw l.prog w (K w.params) mg base we 8 fa fd Uj (xA (K w.params))) :
  W.WalkO q loose XP YP l.row.toRowW d [] (λf vs=>PySem.call f vs):=
 L2.AM (n:=63) (k:=8) (x:="_law_script") (CX:=λ_=>we) (sp:=λw=>xA (K w.params)) hn (by decide) hdf ⟨rfl,by decide,by decide,rfl⟩ hY F (λ_ _ a ns hl _ hS=>⟨a,ns,rfl,hS,hl,λ_=>rfl⟩) λ_ _ _ _ _ z=>z
end Rm
end
open PySem PySem.W PyProof.Rows
local macro_rules | `(tactic| walk_at "kf") => `(tactic| exact Rm.fnIn (by k_is) (by k_is) (by k_is) (by k_is))
set_option maxRecDepth 100000 in
set_option maxHeartbeats 0 in
theorem PySem.Challenge.cw_ringmaze_k12_whole_walked_to_the_middle_holds : PySem.Challenge.rw_ringmaze_k12_whole_walked_to_the_middle.Holds := by
 w_on; o_law; k_head; (case hw => w_witness2)
 k_fill
 refine Rm.walk (l := PySem.Challenge.rw_ringmaze_k12_whole_walked_to_the_middle) rfl rfl (λw h Y => PySem.W.kIn_of Y) ?F
 case F =>
  intro w mg fa h KX G hmg;apply Rm.all_mk KX G hmg
  all_goals first | walk_at "kf" | k_is | rfl | exact L2.Bb rfl rfl (by decide) (.cons ⟨_, rfl⟩ (.cons ⟨_, rfl⟩ .nil)) | (simp only[List.forall_mem_cons]; (repeat' apply And.intro) <;> first | k_is | simp)
#print axioms PySem.Challenge.cw_ringmaze_k12_whole_walked_to_the_middle_holds
