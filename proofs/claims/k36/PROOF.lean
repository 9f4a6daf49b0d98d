import PyProof.Rows.All
import Wide.All
import OpenK.AllK
import Wide.FinOn
import Lean
import PyProof.EqAt
import PyProof.EqKinds
import PyProof.TupleCall
import KE.LcSums
import PyProof.StrLawsJoin
import KE.KSortTup
import KE.KSortKey
import PyProof.WalkInts
import PyProof.MinMaxWalk
import KE.KRevIter
import KE.KSortedM
import PyProof.ReprLen
import PyProof.P3Eq
import PySem.Challenge.RW_ringmaze_k36_numbers_of_mazes
abbrev Vy:=@PySem.wpAny_truthy_bool
abbrev Vz:=@PySem.wpAny_execs_nil
abbrev WA:=@PySem.wpAny_execs_cons
abbrev WB:=@PySem.wpAny_holding
abbrev WC:=@PySem.wpAny_standAt
abbrev WD:=@PySem.wpAny_passesOwn
abbrev WE:=@PySem.wpAny_pure
abbrev WF:=@PySem.wpAny_pyIter_tuple
abbrev WG:=@PySem.wpAny_pyIter_range
abbrev WH:=@PySem.sizeLine_eq
abbrev WI:=@PyProof.Rows.vals1
abbrev WJ:=@PySem.wpAny_call
abbrev WK:=@PySem.codeAny_mono
abbrev WL:=@PySem.wpAny_Call_Name_kw
abbrev WM:=@PySem.typeIs_str
abbrev WN:=@PySem.tupleKind_room_in1
abbrev WO:=@PySem.wpAny_newObj_type
abbrev WP:=@PyProof.Rows.mirror_perm
abbrev WQ:=@PySem.wpAny_call_entry
abbrev WR:=@PySem.wpAny_attempt
abbrev WS:=@PySem.wpAny_field
abbrev WT:=@PySem.wpAny_setField
abbrev WU:=@PySem.wpAny_ite_false
abbrev WV:=@PySem.codeAny_call_builtin
abbrev WW:=@PySem.wpAny_check_ga_own
abbrev WX:=@PySem.wpAny_seqItems
abbrev WY:=@PySem.wpAny_setField_rec
abbrev WZ:=@PySem.wpAny_pyIter_zip
abbrev W0:=@PySem.post_val_or_str
abbrev W1:=@PyProof.Rows.ints_snoc
abbrev W2:=@PySem.wpAny_loadPart_at
abbrev W3:=@PySem.wpAny_typeOf_ref
abbrev W4:=@if_neg
abbrev W5:=@if_pos
abbrev W6:=@decide_eq_true_eq
abbrev W7:=@decide_eq_false
abbrev W8:=@decide_eq_true
abbrev W9:=@if_true
abbrev Wa:=@if_false
abbrev Wb:=PySem.W.Frag
abbrev aA:=@PySem.Heap.get?_push_of_some
abbrev aF:=@List.mem_cons
abbrev aG:=@List.length_map
abbrev aI:=@Nat.le_refl
abbrev aK:=@List.getElem?_eq_some_iff
abbrev aL:=@PySem.Heap.get?_push_size
abbrev aN:=@PySem.Heap.lt_size
abbrev aO:=@List.mem_cons_of_mem
abbrev aQ:=@List.mem_append
abbrev aR:=@List.map_append
abbrev aT:=@Nat.lt_of_lt_of_le
abbrev aV:=@Nat.ne_of_lt
abbrev aW:=@List.getElem?_eq_getElem
abbrev aX:=@List.size_toArray
abbrev aZ:=@List.map_cons
abbrev ac:=@PyProof.Rows.boot_isinstance
abbrev af:=@List.mem_append_right
abbrev ah:=@PySem.boot_len
abbrev ai:=@List.getElem?_append_right
abbrev aj:=@List.drop_eq_getElem_cons
abbrev am:=@List.nil_sublist
abbrev ao:=@List.mem_cons_self
abbrev aq:=@Bool.false_ne_true
abbrev au:=@List.getElem?_map
abbrev av:=@List.flatMap_cons
abbrev aw:=@List.append_assoc
abbrev ay:=@List.exists_cons_of_length_eq_add_one
abbrev bA:=@List.nil_append
abbrev bB:=@List.not_mem_nil
abbrev bC:=@List.eq_nil_of_length_eq_zero
abbrev bG:=@PySem.W.mg_none_of
abbrev bH:=@List.length_append
abbrev bI:=@Option.some.inj
abbrev bM:=@List.mem_of_getElem?
abbrev bN:=@List.mem_map
abbrev bQ:=@List.mem_singleton
abbrev bS:=@Nat.lt_succ_of_lt
abbrev bT:=@List.getElem?_append_left
abbrev bU:=@Nat.zero_le
abbrev bV:=@List.mem_append_left
abbrev bW:=@PyProof.Rows.callWith_type1
abbrev bY:=@PySem.W.nsMap_none_of_in
abbrev bZ:=@List.count_eq_zero
abbrev b6:=@PySem.PassesOwn.never
abbrev b9:=@Nat.le_trans
abbrev ba:=@Nat.le_of_lt
abbrev bc:=@Ne.symm
abbrev bi:=@PySem.W.Looks.at
abbrev bq:=@PySem.Heap.size_push
abbrev bx:=@List.singleton_sublist
abbrev cA:=@List.map_map
abbrev cI:=@List.length_take
abbrev cJ:=@List.length_cons
abbrev cK:=@PySem.W.mg_of
abbrev cM:=@Array.getD_eq_getD_getElem?
abbrev cO:=@List.count_cons
abbrev cP:=@List.getD_eq_getElem?_getD
abbrev cQ:=@Bool.and_eq_true
abbrev cS:=@Nat.lt_irrefl
abbrev cT:=@List.take_add_one
abbrev cV:=@Int.emod_lt_of_pos
abbrev cW:=@PySem.W.kia_one
abbrev cX:=@List.append_nil
abbrev cY:=@Int.emod_nonneg
abbrev c7:=@PySem.Heap.get?_update_self
abbrev c8:=@List.count_append
abbrev c9:=@PySem.F.excBase_ValueError
abbrev ce:=@Nat.mod_two_eq_zero_or_one
abbrev cf:=@PySem.F.slot_tuple_iterator_next
abbrev cn:=@List.countP_cons
abbrev cy:=@PySem.mem_of_lookup
abbrev cz:=@PySem.W.InstAt.type
abbrev dA:=@List.map_congr_left
abbrev dB:=@List.length_pos_iff
abbrev dC:=@List.filterMap_cons
abbrev dF:=@List.perm_append_comm
abbrev dI:=@List.nodup_cons
abbrev dL:=@PySem.W.looks_findIn
abbrev dM:=@PySem.F.plainAttrs_list
abbrev dN:=@PyProof.Rows.boot_tuple
abbrev dP:=@List.perm_middle
abbrev dQ:=@List.length_eq_zero_iff
abbrev dS:=@List.cons_append
abbrev dY:=@List.take_of_length_le
abbrev d8:=@Array.length_toList
abbrev df:=@PyProof.Rows.boot_int
abbrev dg:=@PySem.W.isNs_of_in
abbrev dh:=@Bool.false_eq_true
abbrev di:=@PySem.F.type_list_append
abbrev dj:=@PySem.F.slot_list_append
abbrev dk:=@PyProof.Rows.boot_sorted
abbrev dq:=@List.pairwise_append
abbrev dr:=@List.mem_range
abbrev dt:=@Int.le_refl
abbrev dw:=@Int.eq_ofNat_of_zero_le
abbrev eF:=@List.dropLast_concat_getLast
abbrev eK:=@PySem.F.plainAttrs_str
abbrev eO:=@PyProof.Rows.boot_list
abbrev eQ:=@PySem.Paired.length
abbrev eS:=@Nat.le_succ
abbrev eX:=@Nat.lt_succ_self
abbrev eY:=@List.take_length
abbrev ez:=@List.append_of_mem
abbrev fB:=@PySem.F.attrBase_ValueError
abbrev fF:=@Array.getElem?_eq_getElem
abbrev fG:=@PySem.Heap.Ns.of_isNs
abbrev fK:=@Nat.mul_le_mul_right
abbrev fL:=@List.map_nil
abbrev fM:=@Int.toNat_natCast
abbrev fX:=@List.length_reverse
abbrev fb:=@List.length_drop
abbrev fy:=@PySem.Heap.get?_update_of_ne
abbrev gA:=@List.range_succ
abbrev gB:=@List.mem_filter
abbrev gC:=@List.length_set
abbrev gD:=@List.length_nil
abbrev gE:=@List.isPerm_iff
abbrev gF:=@List.find?_cons
abbrev gG:=@List.cons.injEq
abbrev gH:=@PySem.F.args_tuple_iterator_next_1
abbrev gR:=@List.any_cons
abbrev gS:=@PyProof.Rows.cnt_cons
abbrev gT:=@List.singleton_append
abbrev gU:=@List.length_singleton
abbrev gY:=@PySem.F.entry_tuple_iterator_next
abbrev gm:=@PySem.W.hideAll_none
abbrev gn:=@List.drop_zero
abbrev gp:=@PySem.Heap.get?_none_of_le
abbrev gq:=@Array.perm_iff_toList_perm
abbrev iD:=@Nat.ne_of_gt
abbrev iE:=@List.getElem_mem
abbrev iF:=@List.all_eq_true
abbrev iG:=@List.pairwise_iff_getElem
abbrev iI:=@PySem.Heap.get?_update_ne
abbrev iO:=@Option.map_some
abbrev iP:=@Bool.eq_iff_iff
abbrev iX:=@PySem.W.callWith_K
abbrev iY:=@Nat.add_sub_cancel
abbrev i7:=@Nat.add_sub_cancel_left
abbrev i8:=@List.getElem?_cons_succ
abbrev io:=@PySem.W.cellsFrom_some
abbrev ip:=@Nat.lt_or_ge
abbrev iq:=@List.pairwise_map
abbrev ir:=@List.length_eq_one_iff
abbrev iu:=@List.getElem?_set_self
abbrev iw:=@List.any_eq_false
abbrev ix:=@PySem.Heap.get?_update_other
abbrev iy:=@PySem.Heap.get?_push_ne
abbrev jB:=@PySem.F.type_str_join
abbrev jC:=@PySem.F.slot_str_join
abbrev jD:=@PyProof.Rows.boot_max
abbrev jE:=@List.take_append_drop
abbrev jF:=@List.filterMap_append
abbrev jU:=@PyProof.Rows.callWith_builtin1
abbrev jV:=@List.mem_flatMap
abbrev jW:=@List.lookup_cons
abbrev jX:=@List.drop_length
abbrev jY:=@List.append_inj'
abbrev jZ:=@Bool.not_eq_true
abbrev j4:=@List.cons.inj
abbrev jh:=@List.take_append_of_le_length
abbrev ji:=@List.getElem?_set_ne
abbrev jj:=@List.getElem?_of_mem
abbrev jl:=@List.count_cons_self
abbrev jr:=@PySem.W.exm_one
abbrev ju:=@Nat.min_eq_left
abbrev jv:=@List.of_mem_zip
abbrev jw:=@List.forIn_cons
abbrev jx:=@PySem.F.slot_zip_next
abbrev kC:=@PySem.W.hideAll_get
abbrev kD:=@PySem.Heap.SameBut.update
abbrev kM:=@Nat.zero_add
abbrev kN:=@Nat.succ_mul
abbrev kO:=@Eq.symm
abbrev ki:=@PySem.W.of_hideAll
abbrev kj:=@PySem.W.looks_find
abbrev km:=@List.mem_filterMap
abbrev ko:=@List.filter_append
abbrev kq:=@List.count_pos_iff
abbrev kt:=@List.Sublist.trans
abbrev ku:=@PySem.F.slot_range_iterator_next
abbrev ky:=@PySem.F.args_str_split_2
abbrev kz:=@PySem.Code.quiet_builtin
abbrev lE:=@PySem.Calls.spliced_cons
abbrev lF:=@PySem.Calls.Name_function_global
abbrev lH:=@Decidable.byContradiction
abbrev lI:=@Classical.byContradiction
abbrev lO:=@PySem.W.handed_on
abbrev lP:=@Nat.lt_trichotomy
abbrev lQ:=@List.nodup_append
abbrev lS:=@List.length_range
abbrev lT:=@PySem.F.entry_str_split
abbrev lW:=@Classical.not_not
abbrev lX:=@PySem.Calls.spliced_nil
abbrev lY:=@Array.size_append
abbrev lg:=@Option.isSome_iff_exists
abbrev lh:=@List.sum_cons
abbrev lj:=@List.length_filterMap_le
abbrev lq:=@Bool.or_false
abbrev mR:=@PyProof.Rows.boot_range
abbrev mS:=@Option.getD_some
abbrev mT:=@Nat.max_eq_right
abbrev mU:=@Nat.le_add_right
abbrev mV:=@List.sublist_append_iff
abbrev mW:=@List.reverse_eq_nil_iff
abbrev mX:=@List.getElem_inj
abbrev mY:=@List.getElem?_replicate
abbrev mZ:=@List.flatMap_nil
abbrev m5:=@List.filter_cons
abbrev m6:=@List.ext_getElem
abbrev m7:=@PySem.Heap.size_update
abbrev m8:=@PySem.F.slot_str_split
abbrev nI:=@PySem.Txt.slice_le
abbrev nJ:=@PyProof.Rows.boot_bool
abbrev nK:=@Option.map_eq_some_iff
abbrev nL:=@List.range_succ_eq_map
abbrev nM:=@List.drop_of_length_le
abbrev nN:=@Array.getElem?_eq_none
abbrev nS:=@PySem.F.entry_bexc_ga
abbrev nT:=@Bool.or_eq_true
abbrev nZ:=@PyProof.Rows.boot_min
abbrev nh:=@PyProof.Rows.boot_abs
abbrev ni:=@List.length_replicate
abbrev nj:=@List.cons_lt_cons_iff
abbrev nq:=@List.Perm.append_left
abbrev nv:=@Array.mem_of_getElem?
abbrev oP:=@Prod.ext
abbrev oS:=@Int.min_def
abbrev oT:=@Int.max_def
abbrev oX:=@PySem.Draws.strAscii
abbrev pW:=@Bool.true_and
abbrev qr:=@Nat.sub_zero
abbrev qt:=@Nat.sub_self
abbrev qu:=@Nat.le_of_eq
abbrev qw:=@Bool.or_true
set_option Elab.async false
set_option linter.all false
set_option maxRecDepth 100000
set_option maxHeartbeats 4000000
def PySem.W.Fast.tw790026982155688131:Nat:=0
def PySem.W.Fast.tw10975550243314970115:Nat:=0
def PySem.W.Fast.tw7479494672111873406:Nat:=0
def PySem.W.Fast.tw4621385816698660263:Nat:=0
def PySem.W.Fast.tw15252580979567207149:Nat:=0
def PySem.W.Fast.tw16207992839747681822:Nat:=0
def PySem.W.Fast.tw12900885716397762651:Nat:=0
def PySem.W.Fast.tw5214112408985205928:Nat:=0
def PySem.W.Fast.tw7565959536654029986:Nat:=0
def PySem.W.Fast.tw5212939271631672510:Nat:=0
def PySem.W.Fast.tw2954937205179222923:Nat:=0
def PySem.W.Fast.tw6219064526103722540:Nat:=0
def PySem.W.Fast.tw9049004513544604422:Nat:=0
def PySem.W.Fast.tw11752770149021709236:Nat:=0
def PySem.W.Fast.tw4087800599278694944:Nat:=0
def PySem.W.Fast.tw12414972458154925799:Nat:=0
def PySem.W.Fast.tw15004058225988041904:Nat:=0
def PySem.W.Fast.tw2265041208636009567:Nat:=0
def PySem.W.Fast.tw463371710149021492:Nat:=0
def PySem.W.Fast.tw5849257857726986038:Nat:=0
def PySem.W.Fast.tw4789695649021781482:Nat:=0
def PySem.W.Fast.tw15604443999698550779:Nat:=0
def PySem.W.Fast.tw6386342973017494367:Nat:=0
def PySem.W.Fast.tw10503656183472572461:Nat:=0
def PySem.W.Fast.tw1567085762060975694:Nat:=0
def PySem.W.Fast.tw10819844077988622126:Nat:=0
def PySem.W.Fast.tw18302586790214002749:Nat:=0
def PySem.W.Fast.tw15418350837200173256:Nat:=0
def PySem.W.Fast.tw3670957914464222406:Nat:=0
def PySem.W.Fast.tw2235045831639805835:Nat:=0
def PySem.W.Fast.tw13705809060855880558:Nat:=0
def PySem.W.Fast.tw7694066832926023715:Nat:=0
def PySem.W.Fast.tw11178150598314938389:Nat:=0
def PySem.W.Fast.tw17261619022808163069:Nat:=0
def PySem.W.Fast.tw12439223795827683231:Nat:=0
def PySem.W.Fast.tw2721316289579262562:Nat:=0
def PySem.W.Fast.tw4036544984416797859:Nat:=0
def PySem.W.Fast.tw1606373463063015140:Nat:=0
def PySem.W.Fast.tw7656404392957292745:Nat:=0
def PySem.W.Fast.tw8394786950725043360:Nat:=0
def PySem.W.Fast.tw11604446801009621315:Nat:=0
def PySem.W.Fast.tw2808627333783260643:Nat:=0
def PySem.W.Fast.tw2179964574798563120:Nat:=0
def PySem.W.Fast.tw3755472809546084236:Nat:=0
def PySem.W.Fast.tw12269093888237683650:Nat:=0
def PySem.W.Fast.tw3628093811035264455:Nat:=0
def PySem.W.Fast.tw15053646135735719352:Nat:=0
def PySem.W.Fast.tw11868579046488771136:Nat:=0
def PySem.W.Fast.tw10114600727353742241:Nat:=0
def PySem.W.Fast.tw16642734195519251949:Nat:=0
def PySem.W.Fast.tw15601765099835427472:Nat:=0
namespace PySem.W.Fast
def tw6346632202551480688:=0
def tw14705561018717448822:=0
def tw9638871113314673312:=0
def tw15655673898743601518:=0
def tw13712124613822291066:=0
def tw585579262599133468:=0
def tw15388415702785310951:=0
def tw6692974490572446958:=0
def tw9184254953444156832:=0
def tw9058003499711363028:=0
def tw9811416894019867500:=0
def tw10703902584898739137:=0
def tw4389549643959233376:=0
def tw7495055751539858151:=0
def tw15764578920406876593:=0
def tw13414065651787199757:=0
def tw10330407793198851418:=0
def tw4411870698093694061:=0
def tw927896683382609996:=0
def tw9441277191827214648:=0
def tw673203395297465568:=0
def tw2425114824741580113:=0
def tw15259199498168950995:=0
def tw13797987115981983542:=0
def tw9967392518396290364:=0
def tw11833229540912923744:=0
def tw5871817335192162948:=0
def tw7559142158435710222:=0
def tw6983139011014182952:=0
def tw12794397083335477468:=0
def tw15912649940481902559:=0
def tw15135842191479509228:=0
def tw3238385551090340173:=0
def tw4565794599058260384:=0
def tw6139821591722212267:=0
def tw3198422756202871149:=0
def tw15043982090316301254:=0
def tw14644972899622718595:=0
def tw5307438076836675806:=0
def tw2877560957779537799:=0
def tw5128907385953946662:=0
def tw6743963512606562136:=0
def tw1434839659827487843:=0
def tw15603819855701726767:=0
def tw14231218880490235419:=0
def tw14766527807679087859:=0
def tw10099130383115804819:=0
def tw16195137758897895503:=0
def tw1201235658091589833:=0
def tw12760690822478544497:=0
def tw12691523908964957247:=0
def tw3208754716170521574:=0
def tw6812494326505097803:=0
def tw13965488286681061842:=0
def tw6193437369089443397:=0
def tw13694618515048423684:=0
def tw62916438978508351:=0
def tw11416087858578140147:=0
def tw433672175265839613:=0
def tw3694200104226656526:=0
def tw12266167859530692265:=0
def tw14916063533186555879:=0
def tw16816792465197847347:=0
def tw8647239757149744218:=0
def tw12297252284960849459:=0
def tw14865643508714315115:=0
def tw11030697079432251511:=0
def tw6883207585323196604:=0
def tw9348962574783115134:=0
def tw10368943489125159170:=0
def tw2255530769163839825:=0
def tw936113823789551042:=0
def tw12072224845533516421:=0
def tw3472291692399042006:=0
def tw8146259391345265199:=0
def tw15792777520487350063:=0
def tw6417386855795245118:=0
def tw1312797546144243892:=0
def tw4539119300478428534:=0
def tw16662412589643948806:=0
def tw10277646653405853985:=0
def tw9048775076957912093:=0
def tw8635562791451175995:=0
def tw9261670176027829863:=0
def tw721549843009099414:=0
def tw6491203781081708063:=0
def tw3604151670218302944:=0
def tw6623499708790988284:=0
def tw2216564362063745876:=0
def tw10818403870464205883:=0
def tw17127838867905242184:=0
def tw645376203048662962:=0
def tw3959870695759494419:=0
def tw8181125236890336030:=0
def tw4901228376570289999:=0
def tw9771952709033101770:=0
def tw8659632185103271216:=0
def tw17522570723822663703:=0
def tw14075499346417346765:=0
def tw14486402476700953519:=0
def tw3590638886697962626:=0
def tw15864049447575281784:=0
def tw11565539943943324310:=0
def tw18143843714087404826:=0
def tw3477434541648707260:=0
def tw8929949857557318024:=0
def tw5118254869700759310:=0
def tw12616328557085001678:=0
def tw7406753607081301484:=0
def tw18032118705490608476:=0
def tw2206807925378634472:=0
def tw538402968672113746:=0
def tw5306790682855761660:=0
def tw5585998764593163634:=0
def tw7771032295311938969:=0
def tw12507468179922971007:=0
def tw5830982633301362392:=0
def tw7633795012297782615:=0
def tw2909059597460367450:=0
def tw2356659218351257692:=0
def tw2345056664805199662:=0
def tw14048232935555789986:=0
def tw8240437647259850182:=0
def tw12409983812968586810:=0
def tw8372069398739809812:=0
def tw15983308969471076621:=0
def tw5358298427306912438:=0
def tw5876182687993238714:=0
def tw6917321338240238816:=0
def tw2346698837735942526:=0
def tw14066036543832422245:=0
def tw9318814848590122038:=0
def tw8653103119822677742:=0
def tw4643552101501920949:=0
def tw3852611096986845889:=0
def tw9483587908417092302:=0
def tw3184959688258285296:=0
def tw2978396492179905812:=0
def tw2233807157930576543:=0
def tw3307515170243704720:=0
def tw15304175367246161179:=0
def tw8195653615628930729:=0
def tw8248723326050766678:=0
def tw2162167197090259802:=0
def tw14757089764120461946:=0
def tw14675567972769481241:=0
def tw2021181038717705757:=0
def tw8232126958454525329:=0
def tw15179574505016717545:=0
def tw2340302187508573490:=0
def tw17737539464299460828:=0
def tw15566627389867342915:=0
def tw13643485885993597566:=0
def tw17815722493787406958:=0
def tw9306071540869750627:=0
def tw17362892493223390825:=0
def tw18424513747832798332:=0
def tw14983440165578077473:=0
def tw7577077823417990543:=0
def tw8570727159075821734:=0
def tw8248345793759758732:=0
def tw18273635907460036732:=0
def tw4086402880580163996:=0
def tw14680390939472549132:=0
def tw5653720930611038532:=0
def tw18038676962609879195:=0
def tw6518365917069449427:=0
def tw18427463351220529021:=0
def tw5275710091497861071:=0
def tw4334018844159863336:=0
def tw915812801370227900:=0
def tw2897459519545213445:=0
def tw5816003609316491201:=0
def tw15947189022704291251:=0
def tw14784502133955978567:=0
def tw13896803759143549614:=0
def tw12278659959474388798:=0
def tw107438545294450566:=0
def tw5376774546901927643:=0
def tw3225823768392662887:=0
def tw15514183117349912260:=0
def tw15506088407831323959:=0
def tw820109299000749251:=0
def tw16742246964668695063:=0
def tw1066567522296846767:=0
def tw13701067222913667287:=0
def tw6340474952607936659:=0
def tw17629492642312527875:=0
def tw11516975055831227385:=0
def tw15619178494647518725:=0
def tw9419486938091974919:=0
def tw15914726311868159312:=0
def tw11430253280857993994:=0
def tw17653773248761053663:=0
def tw7764343029751386434:=0
def tw3544788701074129962:=0
def tw14627443350314053305:=0
def tw3893728857357455595:=0
def tw3921768082477358682:=0
def tw16944275963074445094:=0
def tw1522694520157564813:=0
def tw5957753084737644885:=0
def tw2581346127613151520:=0
def tw1731722755114047405:=0
def tw11697931896565945758:=0
def tw10873977662082010454:=0
def tw2905187955114427845:=0
def tw276327564250226307:=0
def tw17057506427923418086:=0
def tw15163486797658439738:=0
def tw10258940307265039177:=0
def tw1291976811271155211:=0
def tw2589188221446594511:=0
def tw18190805312818786640:=0
def tw12893163956740206737:=0
def tw10649815979663336160:=0
def tw9433844215048739361:=0
def tw5927720248402558549:=0
def tw1934063138526607955:=0
def tw16982991966052888590:=0
def tw13427661126345795534:=0
def tw994670778009799819:=0
def tw9298210142498743645:=0
def tw9133102071333969254:=0
def tw8935006521113257672:=0
def tw8880626816643406729:=0
def tw8286511458285307087:=0
def tw8242248682821262405:=0
def tw8159936187278256501:=0
def tw7886534975141355230:=0
def tw7700809539530751761:=0
def tw754958659248030956:=0
def tw7383433403369437064:=0
def tw7219294601852620169:=0
def tw719299046069556151:=0
def tw7123821135108259397:=0
def tw7082065941829065298:=0
def tw6975251098563339275:=0
def tw645198928174600927:=0
def tw6430511918140171017:=0
def tw6310400914814871357:=0
def tw6205676604184805082:=0
def tw5986160711628633768:=0
def tw5649096969470189864:=0
def tw5398568981935382911:=0
def tw52424893761120143:=0
def tw5216707163641100448:=0
def tw5101290960648009370:=0
def tw4734415770535367916:=0
def tw4704897658801552809:=0
def tw4388168274237349995:=0
def tw4343264192485595122:=0
def tw4225140989945969482:=0
def tw39120327313235873:=0
def tw3864305931757957702:=0
def tw3836321131788826208:=0
def tw3634215420008226243:=0
def tw3611480632220076747:=0
def tw3466962173588241222:=0
def tw3159832895359280293:=0
def tw2792663421496036379:=0
def tw2711776992948728821:=0
def tw2471047220645726449:=0
def tw2439872130046521012:=0
def tw2281450010116567237:=0
def tw2203699372734701658:=0
def tw1853470276900601489:=0
def tw18348291324133488871:=0
def tw18061832437091671541:=0
def tw17978032560229710548:=0
def tw17940317472645547449:=0
def tw1770075116582827811:=0
def tw17681056837195849669:=0
def tw17458894464793006375:=0
def tw17398505071042591988:=0
def tw17305159220092024636:=0
def tw17156949992349180224:=0
def tw16940021207083081328:=0
def tw16932879626337806211:=0
def tw16869352094577774125:=0
def tw16353070284715295569:=0
def tw16345926426844318426:=0
def tw16305374315675093815:=0
def tw1626025074532890222:=0
def tw15941220959742946341:=0
def tw15778322615675217646:=0
def tw15709758656773459414:=0
def tw15536599699855878803:=0
def tw15452818929502014758:=0
def tw14726310712720770647:=0
def tw14591268618294992319:=0
def tw14566697783052304576:=0
def tw14384686008531441354:=0
def tw14112750955884655930:=0
def tw13819533072669223180:=0
def tw13778256173477211758:=0
def tw13565383168511656729:=0
def tw13343098970793785957:=0
end PySem.W.Fast
local macro_rules | `(tactic| lia) => `(tactic| first | lia -verbose | omega)
namespace Rm
structure EW (R:List Int):Prop where
 nn:∀ x∈R,0<=x
 z1:R.count 0=1
 two:∀ x∈R,0<x->R.count x=2
 nc:∀ u v,[u,v,u,v].Sublist R->u=v
 top:∀ u,¬ [u,0,u].Sublist R
section
variable {U W:List Int} {x y:Int}
def jA{s1 s2:List Int}{a:Int}(h1:s1.Sublist U)(h2:s2.Sublist W)(ha:a=x\/a=y):(s1++a::s2).Sublist (U++x::y::W):=by
 refine h1.append ?_;rcases ha with rfl | rfl
 ·exact(h2.cons y).cons_cons a
 ·exact(h2.cons_cons a).cons x
def sub_0{s:List Int}(h:s.Sublist (U++W)):s.Sublist (U++x::y::W):=
 h.trans ((List.Sublist.refl U).append (((List.Sublist.refl W).cons y).cons x))
def EQ{a b c d:Int}(h:[a,b,c,d].Sublist (U++W)):
  [a,b,c,d].Sublist W\/([a].Sublist U/\[b,c,d].Sublist W)\/([a,b].Sublist U/\[c,d].Sublist W)\/([a,b,c].Sublist U/\[d].Sublist W)\/[a,b,c,d].Sublist U:=by
 obtain⟨s1,s2,e,h1,h2⟩:=mV.mp h
 match s1,e with
 | [],e=>simp at e;subst e;exact .inl h2
 | [_],e=>simp at e;obtain⟨rfl,rfl⟩:=e;exact .inr (.inl ⟨h1,h2⟩)
 | [_,_],e=>simp at e;obtain⟨rfl,rfl,rfl⟩:=e;exact .inr (.inr (.inl ⟨h1,h2⟩))
 | [_,_,_],e=>simp at e;obtain⟨rfl,rfl,rfl,rfl⟩:=e;exact .inr (.inr (.inr (.inl ⟨h1,h2⟩)))
 | _::_::_::_::r,e=>simp at e;obtain⟨rfl,rfl,rfl,rfl,rfl,rfl⟩:=e;exact .inr (.inr (.inr (.inr h1)))
def zE{a b c:Int}(h:[a,b,c].Sublist (U++W)):
  [a,b,c].Sublist W\/([a].Sublist U/\[b,c].Sublist W)\/([a,b].Sublist U/\[c].Sublist W)\/[a,b,c].Sublist U:=by
 obtain⟨s1,s2,e,h1,h2⟩:=mV.mp h
 match s1,e with
 | [],e=>simp at e;subst e;exact .inl h2
 | [_],e=>simp at e;obtain⟨rfl,rfl⟩:=e;exact .inr (.inl ⟨h1,h2⟩)
 | [_,_],e=>simp at e;obtain⟨rfl,rfl,rfl⟩:=e;exact .inr (.inr (.inl ⟨h1,h2⟩))
 | _::_::_::r,e=>simp at e;obtain⟨rfl,rfl,rfl,rfl,rfl⟩:=e;exact .inr (.inr (.inr h1))
def KU{a:Int}{s l:List Int}(h:(a::s).Sublist l):s.Sublist l:=(List.sublist_cons_self a s).trans h
def Lg{a b c d:Int}{l:List Int}(h:[a,b,c,d].Sublist l):[a,b,c].Sublist l:=kt (by simp:[a,b,c].Sublist [a,b,c,d]) h
def N3{a b c:Int}{l:List Int}(h:[a,b,c].Sublist l):[a,b].Sublist l:=kt (by simp) h
def N4{a b:Int}{l:List Int}(h:[a,b].Sublist l):[a].Sublist l:=kt (by simp) h
def EW.k1(E:EW (U++x::y::W)){a c v:Int}(ha:a=x\/a=y)(hc:c=x\/c=y)(h:[a,v,c,v].Sublist (U++W)):v=a\/v=c:=by
 rcases EQ h with h | ⟨h1,h2⟩ | ⟨h1,h2⟩ | ⟨h1,h2⟩ | h
 ·exact .inr (E.nc _ _ (jA (am U) (KU h) hc)).symm
 ·exact .inr (E.nc _ _ (jA (am U) h2 hc)).symm
 ·exact .inl (E.nc _ _ (jA h1 (KU h2) ha)).symm
 ·exact .inl (E.nc _ _ (jA (N3 h1) h2 ha)).symm
 ·exact .inr (E.nc _ _ (jA (KU h) (am W) hc))
def EW.k2(E:EW (U++x::y::W)){a c u:Int}(ha:a=x\/a=y)(hc:c=x\/c=y)(h:[u,a,u,c].Sublist (U++W)):u=a\/u=c:=by
 rcases EQ h with h | ⟨h1,h2⟩ | ⟨h1,h2⟩ | ⟨h1,h2⟩ | h
 ·exact .inl (E.nc _ _ (jA (am U) (Lg h) ha)).symm
 ·exact .inr (E.nc _ _ (jA h1 (KU h2) hc))
 ·exact .inr (E.nc _ _ (jA (N4 h1) h2 hc))
 ·exact .inl (E.nc _ _ (jA h1 (am W) ha))
 ·exact .inl (E.nc _ _ (jA (Lg h) (am W) ha))
def EW.k3(E:EW (U++x::y::W)){a c:Int}(ha:a=x\/a=y)(hc:c=x\/c=y)(h:[a,0,c].Sublist (U++W)):False:=by
 rcases zE h with h | ⟨h1,h2⟩ | ⟨h1,h2⟩ | h
 ·exact E.top _ (jA (am U) (KU h) hc)
 ·exact E.top _ (jA (am U) h2 hc)
 ·exact E.top _ (jA h1 (am W) ha)
 ·exact E.top _ (jA (N3 h) (am W) ha)
def EW.k4(E:EW (U++x::y::W)){u v:Int}(h0:x=0\/y=0)(hv:v=x\/v=y)(h:[u,v,u].Sublist (U++W)):u=v:=by
 have hz:(0:Int)=x\/(0:Int)=y:=h0.imp kO kO;rcases zE h with h | ⟨h1,h2⟩ | ⟨h1,h2⟩ | h
 ·exact(E.nc _ _ (jA (am U) h hv)).symm
 ·exact(E.top _ (jA h1 (KU h2) hz)).elim
 ·exact(E.top _ (jA (N4 h1) h2 hz)).elim
 ·exact E.nc _ _ (jA h (am W) hv)
end
def rn(lo hi v:Int):Int:=if v=hi then lo else v
def tw{lo hi v:Int}(hne:lo≠hi):∀l:List Int,(l.map (rn lo hi)).count v=if v=hi then 0 else if v=lo then l.count lo+l.count hi else l.count v
 | []=>by simp
 | a::l=>by
  have ih:=tw (v:=v) hne l;simp only[aZ,cO,ih,rn,beq_iff_eq];by_cases h1:v=hi
  ·subst h1;by_cases h2:a=v
   ·simp[h2,hne]
   ·simp[h2]
  ·by_cases h3:v=lo
   ·subst h3;by_cases h2:a=hi
    ·subst h2;simp[h1,bc h1];lia
    ·simp[h1,h2];lia
   ·by_cases h2:a=hi
    ·subst h2;simp[h1,h3,bc h3,bc h1]
    ·simp[h1,h2,h3]
def qF{U W:List Int}{x y v:Int}:(U++x::y::W).count v=(U++W).count v+(if x=v then 1 else 0)+(if y=v then 1 else 0):=by
 simp only[c8,cO,beq_iff_eq];lia
def oI{lo hi a:Int}:(a=hi/\rn lo hi a=lo)\/(a≠hi/\rn lo hi a=a):=by
 by_cases h:a=hi
 ·exact .inl ⟨h,by simp[rn,h]⟩
 ·exact .inr ⟨h,by simp[rn,h]⟩
def O7{f:Int->Int}{l:List Int}{u v p q:Int}(h:[u,v,p,q].Sublist (l.map f)):∃a b c d,[a,b,c,d].Sublist l/\u=f a/\v=f b/\p=f c/\q=f d:=by
 obtain⟨l',hl,e⟩:=List.sublist_map_iff.mp h;have hn:l'.length=4:=by have:=congrArg List.length e;simp at this;lia
 obtain⟨a,r,rfl⟩:=ay hn;obtain⟨b,r,rfl⟩:=ay (l:=r) (n:=2) (by simpa using hn);obtain⟨c,r,rfl⟩:=ay (l:=r) (n:=1) (by simpa using hn);obtain⟨d,r,rfl⟩:=ay (l:=r) (n:=0) (by simpa using hn);have:r=[]:=bC (by simpa using hn);subst this;simp only[aZ,fL,gG,and_true] at e;exact⟨a,b,c,d,hl,e⟩
def O8{f:Int->Int}{l:List Int}{u v p:Int}(h:[u,v,p].Sublist (l.map f)):∃a b c,[a,b,c].Sublist l/\u=f a/\v=f b/\p=f c:=by
 obtain⟨l',hl,e⟩:=List.sublist_map_iff.mp h;have hn:l'.length=3:=by have:=congrArg List.length e;simp at this;lia
 obtain⟨a,r,rfl⟩:=ay hn;obtain⟨b,r,rfl⟩:=ay (l:=r) (n:=1) (by simpa using hn);obtain⟨c,r,rfl⟩:=ay (l:=r) (n:=0) (by simpa using hn);have:r=[]:=bC (by simpa using hn);subst this;simp only[aZ,fL,gG,and_true] at e;exact⟨a,b,c,hl,e⟩
def EW.join{U W:List Int}{x y lo hi:Int}(E:EW (U++x::y::W))(hlh:lo<hi)(hp:(lo=x/\hi=y)\/(lo=y/\hi=x)):EW ((U++W).map (rn lo hi)):=by
 have hne:lo≠hi:=by lia
 have hlo:lo=x\/lo=y:=hp.elim (λh=>.inl h.1) (λh=>.inr h.1);have hhi:hi=x\/hi=y:=hp.elim (λh=>.inr h.2) (λh=>.inl h.2);have mlo:lo∈U++x::y::W:=by rcases hlo with rfl | rfl<;>simp
 have mhi:hi∈U++x::y::W:=by rcases hhi with rfl | rfl<;>simp
 have n0:=E.nn _ mlo;have chi:(U++W).count hi=1:=by
  have:=E.two hi mhi (by lia);rw[qF] at this;rcases hp with ⟨rfl,rfl⟩ | ⟨rfl,rfl⟩
  ·rw[W4 hne,W5 rfl] at this;lia
  ·rw[W5 rfl,W4 hne] at this;lia
 have clo:(U++W).count lo=if lo=0 then 0 else 1:=by
  have e:(U++x::y::W).count lo=(U++W).count lo+1:=by
   rw[qF];rcases hp with ⟨rfl,rfl⟩ | ⟨rfl,rfl⟩
   ·rw[W5 rfl,W4 (bc hne)]
   ·rw[W5 rfl,W4 (bc hne)]
  by_cases h:lo=0
  ·rw[W5 h];have:=E.z1;rw[<-h,e] at this;lia
  ·rw[W4 h];have:=E.two lo mlo (by lia);lia
 have oth:∀v,v≠lo->v≠hi->(U++W).count v=(U++x::y::W).count v:=λv h1 h2=>by
  rw[qF];rcases hp with ⟨rfl,rfl⟩ | ⟨rfl,rfl⟩
  ·rw[W4 (bc h1),W4 (bc h2)];rfl
  ·rw[W4 (bc h2),W4 (bc h1)];rfl
 have mem0:∀v,v∈(U++W).map (rn lo hi)->v≠hi/\(v=lo\/v∈U++W):=λv hv=>by
  obtain⟨a,ha,rfl⟩:=bN.mp hv;rcases oI (lo:=lo) (hi:=hi) (a:=a) with ⟨h1,h2⟩ | ⟨h1,h2⟩
  ·rw[h2];exact⟨hne,.inl rfl⟩
  ·rw[h2];exact⟨h1,.inr ha⟩
 have inR:∀v,v∈U++W->v∈U++x::y::W:=λv hv=>by
  rcases aQ.mp hv with h | h
  ·exact bV _ h
  ·exact af _ (aO _ (aO _ h))
 have pick:∀a c u,rn lo hi a=u->rn lo hi c=u->a=c\/(u=lo/\(a=x\/a=y)/\(c=x\/c=y)):=λa c u h1 h2=>by
  rcases oI (lo:=lo) (hi:=hi) (a:=a) with ⟨h3,h4⟩ | ⟨h3,h4⟩<;>rcases oI (lo:=lo) (hi:=hi) (a:=c) with ⟨h5,h6⟩ | ⟨h5,h6⟩
  ·exact .inl (h3.trans h5.symm)
  ·have e1:u=lo:=by rw[<-h1,h4]
   have e2:c=lo:=by rw[<-h6,h2,e1]
   exact .inr ⟨e1,h3▸hhi,e2▸hlo⟩
  ·have e1:u=lo:=by rw[<-h2,h6]
   have e2:a=lo:=by rw[<-h4,h1,e1]
   exact .inr ⟨e1,e2▸hlo,h5▸hhi⟩
  ·exact .inl (by rw[<-h4,<-h6,h1,h2])
 have xy:∀a:Int,a=x\/a=y->rn lo hi a=lo:=λa h=>by
  have:a=lo\/a=hi:=by
   rcases hp with ⟨rfl,rfl⟩ | ⟨rfl,rfl⟩
   ·exact h
   ·exact h.symm
  rcases this with rfl | rfl
  ·simp[rn,hne]
  ·simp[rn]
 refine⟨λv hv=>?_,?_,λv hv h0=>?_,λu v h=>?_,λu h=>?_⟩
 ·rcases(mem0 v hv).2 with rfl | h
  ·exact n0
  ·exact E.nn v (inR v h)
 ·rw[tw hne,W4 (by lia)];by_cases h:(0:Int)=lo
  ·rw[W5 h,clo,W5 h.symm,chi]
  ·rw[W4 h,oth 0 h (by lia),E.z1]
 ·obtain⟨h1,h2⟩:=mem0 v hv;rw[tw hne,W4 h1];by_cases h:v=lo
  ·rw[W5 h,clo,W4 (by lia),chi]
  ·rw[W4 h,oth v h h1];exact E.two v (inR v (h2.resolve_left h)) h0
 ·obtain⟨a,b,c,d,hl,e1,e2,e3,e4⟩:=O7 h
  ·skip
   rcases pick a c u e1.symm e3.symm with rfl | ⟨hu,ha,hc⟩
   ·rcases pick b d v e2.symm e4.symm with rfl | ⟨hv,hb,hd⟩
    ·have:=E.nc _ _ (sub_0 hl);subst this;rw[e1,e2]
    ·rcases E.k2 hb hd hl with z | z
     ·rw[e1,z,hv];exact xy b hb
     ·rw[e1,z,hv];exact xy d hd
   ·rcases pick b d v e2.symm e4.symm with rfl | ⟨hv,hb,hd⟩
    ·rcases E.k1 ha hc hl with z | z
     ·rw[e2,z,hu];exact(xy a ha).symm
     ·rw[e2,z,hu];exact(xy c hc).symm
    ·rw[hu,hv]
 ·obtain⟨a,b,c,hl,e1,e2,e3⟩:=O8 h
  ·skip
   by_cases hl0:lo=0
   ·have h0n:(0:Int)∉U++W:=by rw[<-bZ,<-hl0,clo,W5 hl0]
    have hb:b∈U++W:=hl.subset (by simp);have ha:a∈U++W:=hl.subset (by simp);have bh:b=hi:=by
     rcases oI (lo:=lo) (hi:=hi) (a:=b) with ⟨h3,h4⟩ | ⟨h3,h4⟩
     ·exact h3
     ·rw[h4] at e2;exact(h0n (e2▸hb)).elim
    have hz:x=0\/y=0:=hlo.elim (λz=>.inl (z▸hl0)) (λz=>.inr (z▸hl0));rcases pick a c u e1.symm e3.symm with rfl | ⟨hu,ha',hc'⟩
    ·have eab:a=b:=E.k4 hz (bh▸hhi) hl;have:=hl.count_le hi;rw[chi,eab,bh] at this;simp at this
    ·have:a=hi:=by
      have:a=lo\/a=hi:=by
       rcases hp with ⟨rfl,rfl⟩ | ⟨rfl,rfl⟩
       ·exact ha'
       ·exact ha'.symm
      rcases this with z | z
      ·exact(h0n (by rw[<-hl0,<-z];exact ha)).elim
      ·exact z
     have cc:=hl.count_le hi;rw[chi,this,bh] at cc;simp at cc
   ·have b0:b=0:=by
     rcases oI (lo:=lo) (hi:=hi) (a:=b) with ⟨h3,h4⟩ | ⟨h3,h4⟩
     ·rw[h4] at e2;exact(hl0 e2.symm).elim
     ·rw[h4] at e2;exact e2.symm
    subst b0;rcases pick a c u e1.symm e3.symm with rfl | ⟨hu,ha',hc'⟩
    ·exact E.top _ (sub_0 hl)
    ·exact E.k3 ha' hc' hl
def OM{U W:List Int}{z v:Int}(hU:z∉U)(hW:z∉W)(hv:v≠z):¬[z,v,z].Sublist (U++z::z::W):=λh=>by
 have hw:∀{r:List Int},¬(v::z::r).Sublist W:=λh=>hW (h.subset (by simp));rcases zE h with h | ⟨h1,h2⟩ | ⟨h1,h2⟩ | h
 ·have h':[v,z].Sublist (z::W):=(List.cons_sublist_cons.mp h)
  cases h' with
  | cons _ h''=>exact hw h''
  | cons_cons _ _=>exact hv rfl
 ·exact hU (h1.subset (by simp))
 ·exact hU (h1.subset (by simp))
 ·exact hU (h.subset (by simp))
def GF{l:List Int}{z:Int}(h:z∉l):l.filter (λa=>!decide (a=z))=l:=
 List.filter_eq_self.mpr λa ha=>by simp only[Bool.not_eq_true',decide_eq_false_iff_not];exact λe=>h (e▸ha)
def EW.ins{U W:List Int}{z:Int}(E:EW (U++W))(hz:0<z)(hU:z∉U)(hW:z∉W):EW (U++z::z::W):=by
 have c0:(U++W).count z=0:=bZ.mpr λh=>(aQ.mp h).elim hU hW;have inn:∀v,v∈U++z::z::W->v=z\/v∈U++W:=λv h=>by
  simp only[aQ,aF] at h ⊢;rcases h with h | h | h | h<;>simp[h]
 have fl:∀s:List Int,z∉s->s.Sublist (U++z::z::W)->s.Sublist (U++W):=λs hs h=>by
  have h2:=h.filter (λa=>!decide (a=z));have e1:=GF hs;have e2:(U++z::z::W).filter (λa=>!decide (a=z))=U++W:=by
   rw[ko,m5,m5];simp only[decide_true,Bool.not_true,dh,Wa];rw[GF hU,GF hW]
  rw[e1,e2] at h2;exact h2
 refine⟨λv hv=>?_,?_,λv hv h0=>?_,λu v h=>?_,λu h=>?_⟩
 ·rcases inn v hv with rfl | h
  ·lia
  ·exact E.nn v h
 ·rw[qF,W4 (by lia),E.z1]
 ·rcases inn v hv with rfl | h
  ·rw[qF,c0,W5 rfl]
  ·by_cases hvz:z=v
   ·subst hvz;rw[qF,c0,W5 rfl]
   ·rw[qF,W4 hvz];exact E.two v h h0
 ·by_cases huv:u=v
  ·exact huv
  by_cases hu:u=z
  ·subst hu;exact(OM hU hW (bc huv) (Lg h)).elim
  by_cases hv:v=z
  ·subst hv;exact(OM hU hW huv (KU h)).elim
  exact E.nc _ _ (fl _ (by simp[bc hu,bc hv]) h)
 ·by_cases hu:u=z
  ·subst hu;exact OM hU hW (by lia) h
  exact E.top _ (fl _ (by simp[bc hu];lia) h)
def oE(pre:List Int)(x:Int):Nat:=if 0<x then (if x∈pre then 41 else 40) else 42
def cC:List Int->List Int->List Nat
 | _,[]=>[]
 | pre,x::r=>oE pre x::cC (pre++[x]) r
def dU:∀(A pre B:List Int),cC pre (A++B)=cC pre A++cC (pre++A) B
 | [],pre,B=>by simp[cC]
 | x::A,pre,B=>by simp[cC,dU A]
def cN:∀(A pre:List Int),(cC pre A).length=A.length
 | [],_=>rfl
 | x::A,pre=>by simp[cC,cN A]
def dD{A pre B:List Int}{x:Int}:cC pre (A++x::B)=cC pre A++oE (pre++A) x::cC (pre++A++[x]) B:=by rw[dU];rfl
def zJ(pre:List Int)(x:Int):oE pre x=40\/oE pre x=41\/oE pre x=42:=by unfold oE;split<;>(try split)<;>simp
def zK:∀(A pre:List Int),∀c∈cC pre A,c=40\/c=41\/c=42
 | [],_,c,h=>by simp[cC] at h
 | x::A,pre,c,h=>by
  rcases aF.mp h with rfl | h
  ·exact zJ pre x
  ·exact zK A _ c h
def j7{pre:List Int}{x:Int}(h0:0<x)(h:x∉pre):oE pre x=40:=by simp[oE,h0,h]
def j6{pre:List Int}{x:Int}(h0:0<x)(h:x∈pre):oE pre x=41:=by simp[oE,h0,h]
def BH{pre:List Int}:oE pre 0=42:=by simp[oE]
def eZ{x y:Int}:∀(V pre pre':List Int),(∀v∈V,v≠x/\v≠y)->(∀v,v≠x->v≠y->(v∈pre<->v∈pre'))->cC pre V=cC pre' V
 | [],_,_,_,_=>rfl
 | v::V,pre,pre',hV,hp=>by
  have h1:=hV v (by simp);have e:oE pre v=oE pre' v:=by simp only[oE,hp v h1.1 h1.2]
  simp only[cC,e];rw[eZ V (pre++[v]) (pre'++[v]) (λw hw=>hV w (aO _ hw)) λw a b=>by simp[hp w a b]]
def EZ(V pre:List Int)(j:Nat):(cC pre V).take j=cC pre (V.take j):=by
 by_cases h:j<=V.length
 ·have e:cC pre V=cC pre (V.take j)++cC (pre++V.take j) (V.drop j):=by rw[<-dU,jE]
  rw[e,jh (by rw[cN,cI];lia),dY (by rw[cN,cI];lia)]
 ·rw[dY (by rw[cN];lia),dY (by lia)]
def vl(c:Nat):Int:=if c=40 then 1 else if c=41 then -1 else 0
def ps(cs:List Nat):Int:=(cs.map vl).sum
def pp:ps []=0:=rfl
def pA(c:Nat)(cs:List Nat):ps (c::cs)=vl c+ps cs:=by simp[ps]
def rB(a b:List Nat):ps (a++b)=ps a+ps b:=by simp[ps]
structure Cl (V:List Nat):Prop where
 z:ps V=0
 nn:∀ j,0<=ps (V.take j)
def sC{pre:List Int}:∀(V D o:List Int),o.Nodup->(∀v,v∈o<->D.count v=1)->(∀v∈D++V,0<v/\v∉pre/\(D++V).count v<=2) →
  ∃o':List Int,o'.Nodup/\(o'.length:Int)=o.length+ps (cC (pre++D) V)/\∀v,v∈o'<->(D++V).count v=1
 | [],D,o,nd,ho,h=>⟨o,nd,by simp[cC,pp],by simpa using ho⟩
 | v::V,D,o,nd,ho,h=>by
  have e:D++v::V=(D++[v])++V:=by simp
  obtain⟨h0,hp,h2⟩:=h v (by simp);have hc:(D++v::V).count v=D.count v+1+V.count v:=by simp[c8,cO];lia
  have hw:∀w,(D++[v]).count w=D.count w+if v=w then 1 else 0:=λw=>by simp[c8,cO]
  rw[e] at h ⊢;by_cases hv:v∈D
  ·have c1:D.count v=1:=by have:=kq.mpr hv;lia
   have vo:=(ho v).mpr c1;obtain⟨o',n',l',m'⟩:=sC (pre:=pre) V (D++[v]) (o.erase v) (nd.erase v) (λw=>by
    rw[nd.mem_erase_iff,ho w,hw w];by_cases e:v=w
    ·subst e;simp[c1]
    ·simp[e,bc e]) h
   refine⟨o',n',?_,m'⟩;have hl:=List.length_erase_of_mem vo;have hpos:=List.length_pos_of_mem vo;rw[l',cC,pA,j6 h0 (af _ hv),hl,aw];have:vl 41=-1:=by decide
   lia
  ·have c0:D.count v=0:=bZ.mpr hv;obtain⟨o',n',l',m'⟩:=sC (pre:=pre) V (D++[v]) (v::o) (dI.mpr ⟨λz=>(by rw[ho v,c0] at z;cases z),nd⟩) (λw=>by
    rw[aF,ho w,hw w];by_cases e:v=w
    ·subst e;simp[c0]
    ·simp[e,bc e]) h
   refine⟨o',n',?_,m'⟩;rw[l',cC,pA,j7 h0 (λz=>(aQ.mp z).elim hp hv),cJ,aw];have:vl 40=1:=by decide
   lia
def N9{pre V:List Int}(h:∀v∈V,0<v/\v∉pre/\V.count v=2):Cl (cC pre V):=by
 refine⟨?_,λj=>?_⟩
 ·obtain⟨o,_,l,m⟩:=sC (pre:=pre) V [] [] .nil (by simp) (λv hv=>⟨(h v (by simpa using hv)).1,(h v (by simpa using hv)).2.1,by have:=(h v (by simpa using hv)).2.2;simp only[bA];lia⟩);have:o=[]:=by
   rcases o with _ | ⟨v,o⟩
   ·rfl
   ·have c:=(m v).mp (by simp);simp only[bA] at c;have hv:v∈V:=kq.mp (by lia);have:=(h v hv).2.2;lia
  subst this;simpa using l.symm
 ·rw[EZ];obtain⟨o,_,l,m⟩:=sC (pre:=pre) (V.take j) [] [] .nil (by simp) (λv hv=>by
   have hv':v∈V:=List.mem_of_mem_take (by simpa using hv);have:=(h v hv').2.2;have c:=(List.take_sublist j V).count_le v;exact⟨(h v hv').1,(h v hv').2.1,by simp only[bA];lia⟩)
  simp at l;lia
def Bi{A V B:List Int}{x v:Int}:(A++x::(V++x::B)).count v=A.count v+V.count v+B.count v+(if x=v then 2 else 0):=by
 simp only[c8,cO,beq_iff_eq];split<;>lia
def EW.seg{A V B:List Int}{x:Int}(E:EW (A++x::(V++x::B)))(hx:0<x):Cl (cC (A++[x]) V)/\x∉A/\x∉V/\x∉B:=by
 have c:=E.two x (by simp) hx;rw[Bi,W5 rfl] at c;have nA:x∉A:=bZ.mp (by lia);have nV:x∉V:=bZ.mp (by lia);have nB:x∉B:=bZ.mp (by lia);refine⟨N9 λv hv=>?_,nA,nV,nB⟩;have vx:x≠v:=λe=>nV (e▸hv);have hs:[v].Sublist V:=bx.mpr hv;have v0:v≠0:=λe=>by
  subst e;exact E.top x ((am A).append ((hs.append (((am B).cons_cons x):[x].Sublist (x::B))).cons_cons x))
 have hA:v∉A:=λh=>vx.symm (E.nc v x ((bx.mpr h).append ((hs.append ((am B).cons_cons x)).cons_cons x)));have hB:v∉B:=λh=>vx (E.nc x v ((am A).append ((hs.append ((bx.mpr h).cons_cons x)).cons_cons x)));have hn:=E.nn v (by simp[hv]);have c2:=E.two v (by simp[hv]) (by lia);rw[Bi,W4 vx,bZ.mpr hA,bZ.mpr hB] at c2;exact⟨by lia,by simp[hA,bc vx],by lia⟩
inductive yn (cs:List Nat):Nat->Nat->Prop
 | star {P S:List Nat} {p:Nat} (h:cs=P++42::S) (hp:p=P.length):yn cs p p
 | right {P V S:List Nat} {p q:Nat} (h:cs=P++40::(V++41::S)) (c:Cl V) (hp:p=P.length) (hq:q=P.length+V.length+1):yn cs p q
 | left {P V S:List Nat} {p q:Nat} (h:cs=P++40::(V++41::S)) (c:Cl V) (hp:p=P.length+V.length+1) (hq:q=P.length):yn cs p q
def j0{P S:List Nat}{c d k:Nat}(h:k=P.length):(P++c::S).set k d=P++d::S:=by
 subst h;rw[List.set_append_right _ _ (aI _)];simp
def sK{P Q:List Nat}{a b k:Nat}(h:k=P.length):(P++a::b::Q).take k++(P++a::b::Q).drop (k+2)=P++Q/\(P++a::b::Q).length=P.length+Q.length+2:=by
 subst h;refine⟨?_,by simp;lia⟩;rw[List.take_left,List.drop_append];simp
def jn(cs:List Nat)(p a b m0 m1:Nat):List Nat:=((cs.set a m0).set b m1).take p++((cs.set a m0).set b m1).drop (p+2)
def Ld{A V C F:List Nat}{a x y b p i j m0 m1:Nat}(hi:i=A.length)(hj:j=A.length+V.length+C.length+3)(hp:p=A.length+V.length+1):
  jn (A++a::(V++x::y::(C++b::F))) p i j m0 m1=A++m0::(V++(C++m1::F)):=by
 unfold jn;rw[j0 hi,show A++m0::(V++x::y::(C++b::F))=(A++m0::(V++x::y::C))++b::F by simp,j0 (by simp;lia),
  show (A++m0::(V++x::y::C))++m1::F=(A++m0::V)++x::y::(C++m1::F) by simp,(sK (by simp;lia)).1]
 simp
def Fm{P C D F:List Nat}{x y b d p i j m0 m1:Nat}(hi:i=P.length+C.length+2)(hj:j=P.length+C.length+D.length+3)(hp:p=P.length):
  jn (P++x::y::(C++b::(D++d::F))) p i j m0 m1=P++(C++m0::(D++m1::F)):=by
 unfold jn;rw[show P++x::y::(C++b::(D++d::F))=(P++x::y::C)++b::(D++d::F) by simp,j0 (by simp;lia),
  show (P++x::y::C)++m0::(D++d::F)=(P++x::y::(C++m0::D))++d::F by simp,j0 (by simp;lia),
  show (P++x::y::(C++m0::D))++m1::F=P++x::y::(C++m0::(D++m1::F)) by simp,(sK hp).1]
def IY{A B C S:List Nat}{a b x y p i j m0 m1:Nat}(hi:i=A.length)(hj:j=A.length+B.length+1)(hp:p=A.length+B.length+C.length+2):
  jn (A++a::(B++b::(C++x::y::S))) p i j m0 m1=A++m0::(B++m1::(C++S)):=by
 unfold jn;rw[j0 hi,show A++m0::(B++b::(C++x::y::S))=(A++m0::B)++b::(C++x::y::S) by simp,j0 (by simp;lia),
  show (A++m0::B)++m1::(C++x::y::S)=(A++m0::(B++m1::C))++x::y::S by simp,(sK (by simp;lia)).1]
 simp
def N1{P C F:List Nat}{x y b p i j m0 m1:Nat}(hi:i=P.length)(hj:j=P.length+C.length+2)(hp:p=P.length):
  jn (P++x::y::(C++b::F)) p i j m0 m1=P++(C++m1::F):=by
 unfold jn;rw[j0 hi,show P++m0::y::(C++b::F)=(P++m0::y::C)++b::F by simp,j0 (by simp;lia),
  show (P++m0::y::C)++m1::F=P++m0::y::(C++m1::F) by simp,(sK hp).1]
def N2{A V S:List Nat}{a x y p i j m0 m1:Nat}(hi:i=A.length)(hj:j=A.length+V.length+2)(hp:p=A.length+V.length+1):
  jn (A++a::(V++x::y::S)) p i j m0 m1=A++m0::(V++S):=by
 unfold jn;rw[j0 hi,show A++m0::(V++x::y::S)=(A++m0::(V++[x]))++y::S by simp,j0 (by simp;lia),
  show (A++m0::(V++[x]))++m1::S=(A++m0::V)++x::m1::S by simp,(sK (by simp;lia)).1]
 simp
def Fg{lo hi:Int}:∀{l:List Int},hi∉l->l.map (rn lo hi)=l
 | [],_=>rfl
 | a::l,h=>by
  simp only[aF,not_or] at h;rw[aZ,Fg h.2];simp[rn,bc h.1]
def J4{lo hi:Int}:rn lo hi lo=lo:=by unfold rn;split<;>rfl
def J5{lo hi:Int}:rn lo hi hi=lo:=by simp[rn]
structure Ni (cs:List Nat) (p:Nat) (st:Prop) (out:List Nat):Prop where
 ex:∃ q0 q1,yn cs p q0/\yn cs (p+1) q1/\q0≠p+1/\q0≠q1/\q0<cs.length/\q1<cs.length ∧
  ((st/\jn cs p (min q0 q1) (max q0 q1) 42 42=out)\/(¬ st/\jn cs p (min q0 q1) (max q0 q1) 40 41=out))
def EW.two_in{R:List Int}(E:EW R){A B:List Int}{x:Int}(e:R=A++x::B)(hx:0<x):(∃C D,A=C++x::D)\/(∃C D,B=C++x::D):=by
 have c:=E.two x (by rw[e];simp) hx;rw[e] at c;simp only[c8,cO,beq_self_eq_true,W9] at c;by_cases h:x∈A
 ·exact .inl (ez h)
 ·have:=bZ.mpr h;exact .inr (ez (kq.mp (by lia)))
section
variable {x y:Int}
def off{l:List Int}(h1:x∉l)(h2:y∉l):∀v∈l,v≠x/\v≠y:=λv hv=>⟨λe=>h1 (e▸hv),λe=>h2 (e▸hv)⟩
end
def EW.d{U W:List Int}{x y lo hi:Int}(E:EW (U++x::y::W))(hlh:lo<hi)(hp:(lo=x/\hi=y)\/(lo=y/\hi=x)):
  Ni (cC [] (U++x::y::W)) U.length (x=0\/y=0) (cC [] ((U++W).map (rn lo hi))):=by
 have hxy:x≠y:=by lia
 have x0:=E.nn x (by simp);have y0:=E.nn y (by simp);have rx:rn lo hi x=lo:=by rcases hp with ⟨rfl,rfl⟩ | ⟨rfl,rfl⟩;exact J4;exact J5
 have ry:rn lo hi y=lo:=by rcases hp with ⟨rfl,rfl⟩ | ⟨rfl,rfl⟩;exact J5;exact J4
 have hh:hi=x\/hi=y:=hp.elim (λh=>.inr h.2) (λh=>.inl h.2);have hl:lo=x\/lo=y:=hp.elim (λh=>.inl h.1) (λh=>.inr h.1);have mp:∀l:List Int,x∉l->y∉l->l.map (rn lo hi)=l:=λl h1 h2=>Fg (by rcases hh with rfl | rfl<;>assumption);have ll:∀l:List Int,x∉l->y∉l->lo∉l:=λl h1 h2=>by rcases hl with rfl | rfl<;>assumption
 by_cases hx:x=0
 ·-- the mouth's piece on the left
  subst hx;have hy:0<y:=by lia
  have el:lo=0:=by lia
  rcases E.two_in (A:=U++[0]) (B:=W) (x:=y) (by simp) hy with ⟨C,D,e⟩ | ⟨C,D,e⟩
  ·exfalso;have:y∈U:=by
    have:y∈U++[0]:=by rw[e];simp
    simpa [bc hxy] using this
   exact E.top y ((bx.mpr this).append (((am W).cons_cons y).cons_cons 0))
  ·subst e;obtain⟨cl,n1,n2,n3⟩:=EW.seg (A:=U++[0]) (V:=C) (B:=D) (x:=y) (by simpa using E) hy;have c0:=E.z1;simp only[c8,cO,beq_self_eq_true,W9] at c0;have z1:(0:Int)∉U:=bZ.mp (by lia);have z2:(0:Int)∉C:=bZ.mp (by lia);have z3:(0:Int)∉D:=bZ.mp (by lia);have n1':y∉U:=λh=>n1 (by simp[h]);have ec:cC [] (U++0::y::(C++y::D))=cC [] U++42::40::(cC (U++[0]++[y]) C++41::cC (U++[0]++[y]++C++[y]) D):=by
    rw[dD,cC,dD];simp only[bA];rw[BH,j7 hy n1,j6 hy (by simp)]
   have eo:cC [] ((U++(C++y::D)).map (rn lo hi))=cC [] U++(cC (U++[0]++[y]) C++42::cC (U++[0]++[y]++C++[y]) D):=by
    rw[aR,aR,aZ,ry,mp U z1 n1',mp C z2 n2,mp D z3 n3,dU,dD,el,BH];rw[eZ (x:=0) (y:=y) C _ (U++[0]++[y]) (off z2 n2) (λv a b=>by simp[a,b]),eZ (x:=0) (y:=y) D _ (U++[0]++[y]++C++[y]) (off z3 n3) (λv a b=>by simp[a,b])]
   rw[ec,eo];have lU:=cN U [];have lC:=cN C (U++[0]++[y]);clear ec eo E c0;generalize cC [] U=u at *;generalize cC (U++[0]++[y]) C=c at *;generalize cC (U++[0]++[y]++C++[y]) D=d at *;refine⟨U.length,U.length+C.length+2,.star rfl (by lia),.right (P:=u++[42]) (V:=c) (S:=d) (by simp) cl (by simp;lia) (by simp;lia),by lia,by lia,by simp;lia,by simp;lia,.inl ⟨.inl rfl,?_⟩⟩;rw[ju (by lia),mT (by lia)];exact N1 (by lia) (by lia) (by lia)
 ·have hx':0<x:=by lia
  by_cases hy:y=0
  ·subst hy;have el:lo=0:=by lia
   rcases E.two_in (A:=U) (B:=0::W) (x:=x) rfl hx' with ⟨A,V,e⟩ | ⟨C,D,e⟩
   ·subst e;have E':EW (A++x::(V++x::(0::W))):=by simpa using E
    obtain⟨cl,n1,n2,n3⟩:=E'.seg hx';have c0:=E.z1;simp only[c8,cO,beq_self_eq_true,W9] at c0;have z1:(0:Int)∉A:=bZ.mp (by lia);have z2:(0:Int)∉V:=bZ.mp (by lia);have z3:(0:Int)∉W:=bZ.mp (by lia);have n3':x∉W:=λh=>n3 (by simp[h]);have ec:cC [] (A++x::V++x::0::W)=cC [] A++40::(cC (A++[x]) V++41::42::cC (A++[x]++V++[x]++[0]) W):=by
     rw[show A++x::V++x::0::W=A++x::(V++x::0::W) by simp,dD,dD,cC];simp only[bA];rw[BH,j7 hx' n1,j6 hx' (by simp)]
    have eo:cC [] ((A++x::V++W).map (rn lo hi))=cC [] A++42::(cC (A++[x]) V++cC (A++[x]++V++[x]++[0]) W):=by
     rw[show A++x::V++W=A++x::(V++W) by simp,aR,aZ,aR,rx,mp A n1 z1,mp V n2 z2,mp W n3' z3,dD,dU,el,BH];simp only[bA];rw[eZ (x:=x) (y:=0) V _ (A++[x]) (off n2 z2) (λv a b=>by simp[a,b]),eZ (x:=x) (y:=0) W _ (A++[x]++V++[x]++[0]) (off n3' z3) (λv a b=>by simp[a,b])]
    rw[ec,eo];have lA:=cN A [];have lV:=cN V (A++[x]);clear ec eo E E' c0;have lU:(A++x::V).length=A.length+V.length+1:=by simp;lia
    rw[lU];generalize cC [] A=a at *;generalize cC (A++[x]) V=v at *;generalize cC (A++[x]++V++[x]++[0]) W=w at *;refine⟨A.length,A.length+V.length+2,.left rfl cl (by lia) (by lia),.star (P:=a++40::(v++[41])) (S:=w) (by simp) (by simp;lia),by lia,by lia,by simp;lia,by simp;lia,.inl ⟨.inr rfl,?_⟩⟩;rw[ju (by lia),mT (by lia)];exact N2 (by lia) (by lia) (by lia)
   ·exfalso;have:x∈W:=by
     have:x∈(0:Int)::W:=by rw[e];simp
     simpa [hxy] using this
    exact E.top x ((am U).append (((bx.mpr this).cons_cons 0).cons_cons x))
  ·have hy':0<y:=by lia
   have hst:¬(x=0\/y=0):=by lia
   have hl0:0<lo:=by rcases hl with rfl | rfl<;>assumption
   rcases E.two_in (A:=U) (B:=y::W) (x:=x) rfl hx' with ⟨A,V,e⟩ | ⟨C,D,e⟩
   ·subst e;have E':EW (A++x::(V++x::(y::W))):=by simpa using E
    obtain⟨cl,n1,n2,n3⟩:=E'.seg hx';have n3':x∉W:=λh=>n3 (by simp[h]);rcases E.two_in (A:=A++x::V++[x]) (B:=W) (x:=y) (by simp) hy' with ⟨C,D,e⟩ | ⟨C,F,e⟩
    ·-- )):y begins ahead of x
     have yA:y∈A:=by
      have:y∈A++x::V++[x]:=by rw[e];simp
      simp only[aQ,aF,bQ,bB,or_false] at this;rcases this with (h | h | h) | h
      ·exact h
      ·exact absurd h.symm hxy
      ·exact absurd (E'.nc x y ((am A).append ((((bx.mpr h).append (((am W).cons_cons y).cons_cons x))).cons_cons x))) hxy
      ·exact absurd h.symm hxy
     obtain⟨A,B,rfl⟩:=ez yA;have E2:EW (A++y::((B++x::(V++[x]))++y::W)):=by simpa using E
     obtain⟨cl2,m1,m2,m3⟩:=E2.seg hy';have xA:x∉A:=λh=>n1 (by simp[h]);have xB:x∉B:=λh=>n1 (by simp[h]);have yB:y∉B:=λh=>m2 (by simp[h]);have yV:y∉V:=λh=>m2 (by simp[h]);have ec:cC [] (A++y::B++x::V++x::y::W)=cC [] A++40::(cC (A++[y]) B++40::(cC (A++y::B++[x]) V++41::41::cC (A++[y]++B++[x]++V++[x]++[y]) W)):=by
      rw[show A++y::B++x::V++x::y::W=A++y::(B++x::(V++x::y::W)) by simp,dD,dD,dD,cC];simp only[bA];rw[j7 hy' m1,j7 hx' (by simp[xA,xB,hxy]),j6 hx' (by simp),j6 hy' (by simp)];simp
     have cl2':cC (A++[y]) (B++x::(V++[x]))=cC (A++[y]) B++40::(cC (A++y::B++[x]) V++[41]):=by
      rw[dD,dU,cC,cC];rw[j7 hx' (by simp[xA,xB,hxy]),j6 hx' (by simp)];simp
     rw[cl2'] at cl2;have eo:cC [] ((A++y::B++x::V++W).map (rn lo hi))=cC [] A++40::(cC (A++[y]) B++41::(cC (A++y::B++[x]) V++cC (A++[y]++B++[x]++V++[x]++[y]) W)):=by
      rw[show A++y::B++x::V++W=A++y::(B++x::(V++W)) by simp,aR,aZ,aR,aZ,aR,rx,ry,mp A xA m1,mp B xB yB,mp V n2 yV,mp W n3' m3,dD,dD,dU];simp only[bA];rw[j7 hl0 (ll A xA m1),j6 hl0 (by simp)];rw[eZ (x:=x) (y:=y) B _ (A++[y]) (off xB yB) (λv a b=>by rcases hl with rfl | rfl<;>simp[a,b]),eZ (x:=x) (y:=y) V _ (A++y::B++[x]) (off n2 yV) (λv a b=>by rcases hl with rfl | rfl<;>simp[a,b]),eZ (x:=x) (y:=y) W _ (A++[y]++B++[x]++V++[x]++[y]) (off n3' m3) (λv a b=>by rcases hl with rfl | rfl<;>simp[a,b])]
     rw[ec,eo];have lA:=cN A [];have lB:=cN B (A++[y]);have lV:=cN V (A++y::B++[x]);clear ec eo E E' E2 cl2' e;have lU:(A++y::B++x::V).length=A.length+B.length+V.length+2:=by simp;lia
     rw[lU];generalize cC [] A=a at *;generalize cC (A++[y]) B=b at *;generalize cC (A++y::B++[x]) V=v at *;generalize cC (A++[y]++B++[x]++V++[x]++[y]) W=w at *;refine⟨A.length+B.length+1,A.length,.left (P:=a++40::b) (V:=v) (S:=41::w) (by simp) cl (by simp;lia) (by simp;lia),.left (P:=a) (V:=b++40::(v++[41])) (S:=w) (by simp) cl2 (by simp;lia) (by lia),by lia,by lia,by simp;lia,by simp;lia,.inr ⟨hst,?_⟩⟩;rw[Nat.min_eq_right (by lia),Nat.max_eq_left (by lia)];exact IY (by lia) (by lia) (by lia)
    ·-- )(
     subst e;have E2:EW ((A++x::V++[x])++y::(C++y::F)):=by simpa using E
     obtain⟨cl2,m1,m2,m3⟩:=E2.seg hy';have yA:y∉A:=λh=>m1 (by simp[h]);have yV:y∉V:=λh=>m1 (by simp[h]);have xC:x∉C:=λh=>n3' (by simp[h]);have xF:x∉F:=λh=>n3' (by simp[h]);have ec:cC [] (A++x::V++x::y::(C++y::F))=cC [] A++40::(cC (A++[x]) V++41::40::(cC (A++x::V++[x]++[y]) C++41::cC (A++[x]++V++[x]++[y]++C++[y]) F)):=by
      rw[show A++x::V++x::y::(C++y::F)=A++x::(V++x::y::(C++y::F)) by simp,dD,dD,cC,dD];simp only[bA];rw[j7 hx' n1,j6 hx' (by simp),j7 hy' (by simp[yA,yV,bc hxy]),j6 hy' (by simp)];simp
     have eo:cC [] ((A++x::V++(C++y::F)).map (rn lo hi))=cC [] A++40::(cC (A++[x]) V++(cC (A++x::V++[x]++[y]) C++41::cC (A++[x]++V++[x]++[y]++C++[y]) F)):=by
      rw[show A++x::V++(C++y::F)=A++x::(V++(C++y::F)) by simp,aR,aZ,aR,aR,aZ,rx,ry,mp A n1 yA,mp V n2 yV,mp C xC m2,mp F xF m3,dD,dU,dD];simp only[bA];rw[j7 hl0 (ll A n1 yA),j6 hl0 (by simp)];rw[eZ (x:=x) (y:=y) V _ (A++[x]) (off n2 yV) (λv a b=>by rcases hl with rfl | rfl<;>simp[a,b]),eZ (x:=x) (y:=y) C _ (A++x::V++[x]++[y]) (off xC m2) (λv a b=>by rcases hl with rfl | rfl<;>simp[a,b]),eZ (x:=x) (y:=y) F _ (A++[x]++V++[x]++[y]++C++[y]) (off xF m3) (λv a b=>by rcases hl with rfl | rfl<;>simp[a,b])]
     rw[ec,eo];have lA:=cN A [];have lV:=cN V (A++[x]);have lC:=cN C (A++x::V++[x]++[y]);clear ec eo E E' E2;have lU:(A++x::V).length=A.length+V.length+1:=by simp;lia
     rw[lU];generalize cC [] A=a at *;generalize cC (A++[x]) V=v at *;generalize cC (A++x::V++[x]++[y]) C=c at *;generalize cC (A++[x]++V++[x]++[y]++C++[y]) F=f at *;refine⟨A.length,A.length+V.length+C.length+3,.left (P:=a) (V:=v) rfl cl (by lia) (by lia),.right (P:=a++40::(v++[41])) (V:=c) (S:=f) (by simp) cl2 (by simp;lia) (by simp;lia),by lia,by lia,by simp;lia,by simp;lia,.inr ⟨hst,?_⟩⟩;rw[ju (by lia),mT (by lia)];exact Ld (by lia) (by lia) (by lia)
   ·-- ((
    have xW:x∈W:=by
     have:x∈y::W:=by rw[e];simp
     simpa [hxy] using this
    rcases E.two_in (A:=U++[x]) (B:=W) (x:=y) (by simp) hy' with ⟨C',D',e'⟩ | ⟨C',D',e'⟩
    ·exfalso;have yU:y∈U:=by
      have:y∈U++[x]:=by rw[e'];simp
      simpa [bc hxy] using this
     exact hxy (E.nc y x ((bx.mpr yU).append ((((bx.mpr xW).cons_cons y)).cons_cons x))).symm
    ·subst e';have E1:EW ((U++[x])++y::(C'++y::D')):=by simpa using E
     obtain⟨cl2,m1,m2,m3⟩:=E1.seg hy';have yU:y∉U:=λh=>m1 (by simp[h]);have xD:x∈D':=by
      simp only[aQ,aF] at xW;rcases xW with h | h | h
      ·exact absurd (E.nc x y ((am U).append (((am [y]).append ((bx.mpr h).append ((am D').cons_cons y)) |> λz=>((bx.mpr h).append ((am D').cons_cons y)).cons_cons y).cons_cons x))) hxy
      ·exact absurd h hxy
      ·exact h
     obtain⟨D,F,rfl⟩:=ez xD;have E2:EW (U++x::((y::(C'++y::D))++x::F)):=by simpa using E
     obtain⟨cl,n1,n2,n3⟩:=E2.seg hx';have xC:x∉C':=λh=>n2 (by simp[h]);have xD':x∉D:=λh=>n2 (by simp[h]);have yD:y∉D:=λh=>m3 (by simp[h]);have yF:y∉F:=λh=>m3 (by simp[h]);have ec:cC [] (U++x::y::(C'++y::(D++x::F)))=cC [] U++40::40::(cC (U++[x]++[y]) C'++41::(cC (U++[x]++[y]++C'++[y]) D++41::cC (U++[x]++[y]++C'++[y]++D++[x]) F)):=by
      rw[dD,cC,dD,dD];simp only[bA];rw[j7 hx' n1,j7 hy' m1,j6 hy' (by simp),j6 hx' (by simp)]
     have cl':cC (U++[x]) (y::(C'++y::D))=40::(cC (U++[x]++[y]) C'++41::cC (U++[x]++[y]++C'++[y]) D):=by
      rw[cC,dD];rw[j7 hy' m1,j6 hy' (by simp)]
     rw[cl'] at cl;have eo:cC [] ((U++(C'++y::(D++x::F))).map (rn lo hi))=cC [] U++(cC (U++[x]++[y]) C'++40::(cC (U++[x]++[y]++C'++[y]) D++41::cC (U++[x]++[y]++C'++[y]++D++[x]) F)):=by
      rw[aR,aR,aZ,aR,aZ,rx,ry,mp U n1 yU,mp C' xC m2,mp D xD' yD,mp F n3 yF,dU,dD,dD];simp only[bA];rw[j7 hl0 (λh=>(aQ.mp h).elim (ll U n1 yU) (ll C' xC m2)),j6 hl0 (by simp)];rw[eZ (x:=x) (y:=y) C' _ (U++[x]++[y]) (off xC m2) (λv a b=>by rcases hl with rfl | rfl<;>simp[a,b]),eZ (x:=x) (y:=y) D _ (U++[x]++[y]++C'++[y]) (off xD' yD) (λv a b=>by rcases hl with rfl | rfl<;>simp[a,b]),eZ (x:=x) (y:=y) F _ (U++[x]++[y]++C'++[y]++D++[x]) (off n3 yF) (λv a b=>by rcases hl with rfl | rfl<;>simp[a,b])]
     rw[ec,eo];have lU:=cN U [];have lC:=cN C' (U++[x]++[y]);have lD:=cN D (U++[x]++[y]++C'++[y]);clear ec eo E E1 E2 e cl';generalize cC [] U=u at *;generalize cC (U++[x]++[y]) C'=c at *;generalize cC (U++[x]++[y]++C'++[y]) D=d at *;generalize cC (U++[x]++[y]++C'++[y]++D++[x]) F=f at *;refine⟨U.length+C'.length+D.length+3,U.length+C'.length+2,.right (P:=u) (V:=40::(c++41::d)) (S:=f) (by simp) cl (by lia) (by simp;lia),.right (P:=u++[40]) (V:=c) (S:=d++41::f) (by simp) cl2 (by simp;lia) (by simp;lia),by lia,by lia,by simp;lia,by simp;lia,.inr ⟨hst,?_⟩⟩;rw[Nat.min_eq_right (by lia),Nat.max_eq_left (by lia)];exact Fm (by lia) (by lia) (by lia)
def EW.same{U W:List Int}{x:Int}(E:EW (U++x::x::W)):yn (cC [] (U++x::x::W)) U.length (U.length+1):=by
 have x0:=E.nn x (by simp);have hx:0<x:=by
  rcases Int.lt_or_eq_of_le x0 with h | h
  ·exact h
  ·subst h;have:=E.z1;simp only[c8,cO,beq_self_eq_true,W9] at this;lia
 obtain⟨_,n1,_,_⟩:=EW.seg (A:=U) (V:=[]) (B:=W) (x:=x) E hx;refine .right (P:=cC [] U) (V:=[]) (S:=cC (U++[x]++[x]) W) ?_ ⟨rfl,λj=>by simp[pp]⟩ (cN U []).symm (by simp[cN]);rw[dD,cC];simp only[bA];rw[j7 hx n1,j6 hx (by simp)]
def gu(L R:List Int):List Nat:=cC [] L++124::cC L R.reverse
def mx:List Int->Int
 | []=>0
 | x::l=>max x (mx l)
def BU:∀{l:List Int} {x:Int},x∈l->x<=mx l
 | a::l,x,h=>by
  simp only[mx];rcases aF.mp h with rfl | h
  ·lia
  ·have:=BU h;lia
def J9:∀{l:List Int} {m:Int},0<=m->(∀x∈l,x<=m)->mx l<=m
 | [],m,h0,_=>h0
 | a::l,m,h0,h=>by
  have h1:=h a (by simp);have h2:=J9 h0 (λx hx=>h x (aO _ hx));simp only[mx];lia
def Fa:∀(l:List Int),0<=mx l
 | []=>dt 0
 | a::l=>by have:=Fa l;simp only[mx];lia
def NX{l:List Int}{m:Int}(h:m∈l)(h0:0<=m)(hm:∀x∈l,x<=m):m=mx l:=by
 have h1:=BU h;have h2:=J9 h0 hm;lia
def cZ(L R:List Int)(c:Nat):Option (List Int×List Int):=
 if c=97 then some (L++[1+mx (L++R)],R++[1+mx (L++R)])
 else if c=98 then (match R.getLast? with | some v=>some (L++[v],R.dropLast) | none=>none)
 else if c=99 then (match L.getLast? with | some v=>some (L.dropLast,R++[v]) | none=>none)
 else match L.getLast?,R.getLast? with
  | some x,some y=>if x=y then none else some (L.dropLast.map (rn (min x y) (max x y)),R.dropLast.map (rn (min x y) (max x y)))
  | _,_=>none
def EE(L R:List Int):Prop:=EW (L++R.reverse)
def cG{l:List Int}(h:l≠[]):∃P x,l=P++[x]:=⟨l.dropLast,l.getLast h,(eF h).symm⟩
def pT{L Q:List Int}{v:Int}:cZ L (Q++[v]) 98=some (L++[v],Q):=by simp[cZ]
def nE{L:List Int}:cZ L [] 98=none:=by simp[cZ]
def pS{P R:List Int}{v:Int}:cZ (P++[v]) R 99=some (P,R++[v]):=by simp[cZ]
def nD{R:List Int}:cZ [] R 99=none:=by simp[cZ]
def pR{P Q:List Int}{x y:Int}:cZ (P++[x]) (Q++[y]) 100=if x=y then none else some (P.map (rn (min x y) (max x y)),Q.map (rn (min x y) (max x y))):=by simp[cZ]
def mz{R:List Int}:cZ [] R 100=none:=by simp[cZ]
def mw{L:List Int}:cZ L [] 100=none:=by
 unfold cZ;simp only[List.getLast?_nil];cases L.getLast?<;>simp
def AG{L R:List Int}(E:EE L R):0<1+mx (L++R)/\1+mx (L++R)∉L/\1+mx (L++R)∉R.reverse:=by
 have:=Fa (L++R);refine⟨by lia,λh=>?_,λh=>?_⟩
 ·have:=BU (l:=L++R) (bV _ h);lia
 ·have:=BU (l:=L++R) (af _ (List.mem_reverse.mp h));lia
def EK{L R:List Int}(E:EE L R):cC [] L++[40,124,41]++cC L R.reverse=gu (L++[1+mx (L++R)]) (R++[1+mx (L++R)]):=by
 obtain⟨h0,h1,h2⟩:=AG E;generalize 1+mx (L++R)=z at *;unfold gu;rw[dU,cC,cC,bA,j7 h0 h1,List.reverse_append,List.reverse_singleton,gT,cC,j6 h0 (by simp)];simp;exact eZ (x:=z) (y:=z) R.reverse L _ (off h2 h2) λv a b=>by simp[a]
def EE.a{L R:List Int}(E:EE L R):EE (L++[1+mx (L++R)]) (R++[1+mx (L++R)]):=by
 obtain⟨h0,h1,h2⟩:=AG E;unfold EE;have:=EW.ins E h0 h1 h2;simpa using this
def EE.b{L Q:List Int}{v:Int}(E:EE L (Q++[v])):EE (L++[v]) Q:=by unfold EE at *;simpa using E
def EE.c{P R:List Int}{v:Int}(E:EE (P++[v]) R):EE P (R++[v]):=by unfold EE at *;simpa using E
def EE.d{P Q:List Int}{x y:Int}(E:EE (P++[x]) (Q++[y]))(h:x≠y):EE (P.map (rn (min x y) (max x y))) (Q.map (rn (min x y) (max x y))):=by
 unfold EE at *;have:=EW.join (U:=P) (W:=Q.reverse) (x:=x) (y:=y) (lo:=min x y) (hi:=max x y) (by simpa using E) (by lia) (by lia);simpa using this
def EE.go{L R L' R':List Int}{c:Nat}(E:EE L R)(hc:c=97\/c=98\/c=99\/c=100)(h:cZ L R c=some (L',R')):EE L' R':=by
 rcases hc with rfl | rfl | rfl | rfl
 ·simp only[cZ,W9,Option.some.injEq,Prod.mk.injEq] at h;obtain⟨rfl,rfl⟩:=h;exact E.a
 ·by_cases hR:R=[]
  ·subst hR;rw[nE] at h;cases h
  ·obtain⟨Q,v,rfl⟩:=cG hR;rw[pT] at h;cases h;exact E.b
 ·by_cases hL:L=[]
  ·subst hL;rw[nD] at h;cases h
  ·obtain⟨P,v,rfl⟩:=cG hL;rw[pS] at h;cases h;exact E.c
 ·by_cases hL:L=[]
  ·subst hL;rw[mz] at h;cases h
  ·by_cases hR:R=[]
   ·subst hR;rw[mw] at h;cases h
   ·obtain⟨P,x,rfl⟩:=cG hL;obtain⟨Q,y,rfl⟩:=cG hR;rw[pR] at h;by_cases e:x=y
    ·rw[W5 e] at h;cases h
    ·rw[W4 e] at h;cases h;exact E.d e
def EE.one:EE [0] []:=by
 refine⟨by simp,by decide,by simp,λu v h=>?_,λu h=>?_⟩
 ·have:=h.length_le;simp at this
 ·have:=h.length_le;simp at this
def EE.two:EE [] [0]:=EE.one
def EJ{L Q:List Int}{v:Int}:cC [] L++[oE L v]++124::cC (L++[v]) Q.reverse=gu (L++[v]) Q:=by
 unfold gu;rw[dU];rfl
def pf{L Q:List Int}{v:Int}:cC L (Q++[v]).reverse=oE L v::cC (L++[v]) Q.reverse:=by simp[cC]
def ph{P:List Int}{v:Int}:cC [] (P++[v])=cC [] P++[oE P v]:=by rw[dU];rfl
def EI{P R:List Int}{v:Int}:cC [] P++124::(oE P v::cC (P++[v]) R.reverse)=gu P (R++[v]):=by
 unfold gu;rw[pf]
def wj{P Q:List Int}{x y:Int}(E:EE (P++[x]) (Q++[y]))(h:x≠y):∃q0 q1,yn (cC [] (P++x::y::Q.reverse)) P.length q0/\yn (cC [] (P++x::y::Q.reverse)) (P.length+1) q1/\q0≠P.length+1/\q0≠q1 ∧
  q0<(cC [] (P++x::y::Q.reverse)).length/\q1<(cC [] (P++x::y::Q.reverse)).length/\∃m0 m1,((x=0\/y=0)/\m0=42/\m1=42\/¬(x=0\/y=0)/\m0=40/\m1=41) ∧
  (((cC [] (P++x::y::Q.reverse)).set (min q0 q1) m0).set (max q0 q1) m1).take P.length++124::(((cC [] (P++x::y::Q.reverse)).set (min q0 q1) m0).set (max q0 q1) m1).drop (P.length+2)=gu (P.map (rn (min x y) (max x y))) (Q.map (rn (min x y) (max x y))):=by
 have E':EW (P++x::y::Q.reverse):=by unfold EE at E;simpa using E
 obtain⟨q0,q1,f0,f1,n1,n2,l0,l1,r⟩:=(E'.d (lo:=min x y) (hi:=max x y) (by lia) (by lia)).ex;have hl:(cC [] (P++x::y::Q.reverse)).length=P.length+Q.length+2:=by rw[cN];simp;lia
 have fin:∀m0 m1,jn (cC [] (P++x::y::Q.reverse)) P.length (min q0 q1) (max q0 q1) m0 m1=cC [] ((P++Q.reverse).map (rn (min x y) (max x y))) →
   (((cC [] (P++x::y::Q.reverse)).set (min q0 q1) m0).set (max q0 q1) m1).take P.length++124::(((cC [] (P++x::y::Q.reverse)).set (min q0 q1) m0).set (max q0 q1) m1).drop (P.length+2)=gu (P.map (rn (min x y) (max x y))) (Q.map (rn (min x y) (max x y))):=λm0 m1 hj=>by
  unfold jn at hj;unfold gu;rw[aR,dU (P.map (rn (min x y) (max x y))) [],bA,List.map_reverse] at hj;obtain⟨e1,e2⟩:=List.append_inj hj (by rw[cN,aG,cI,gC,gC,hl];lia);rw[e1,e2]
 refine⟨q0,q1,f0,f1,n1,n2,l0,l1,?_⟩;rcases r with ⟨h1,h2⟩ | ⟨h1,h2⟩
 ·exact⟨42,42,.inl ⟨h1,rfl,rfl⟩,fin _ _ h2⟩
 ·exact⟨40,41,.inr ⟨h1,rfl,rfl⟩,fin _ _ h2⟩
def tq{P Q:List Int}{x:Int}(E:EE (P++[x]) (Q++[x])):yn (cC [] (P++x::x::Q.reverse)) P.length (P.length+1):=by
 have E':EW (P++x::x::Q.reverse):=by unfold EE at E;simpa using E
 exact E'.same
def v4{P Q:List Int}{x y:Int}:cC [] (P++[x])++cC (P++[x]) (Q++[y]).reverse=cC [] (P++x::y::Q.reverse):=by
 rw[show P++x::y::Q.reverse=(P++[x])++(Q++[y]).reverse by simp,dU (P++[x]) []];rfl
def yn.walk{cs:List Nat}{p q:Nat}(h:yn cs p q):(cs[p]? = some 42/\q=p)\/∃(st:Int) (n:Nat) (d:Nat->Int),((st=1/\cs[p]? = some 40)\/(st=-1/\cs[p]? = some 41))/\d 0=st/\(∀j,j<n->d j≠0)/\d n=0/\(p:Int)+st*n=q ∧
  ∀j,j<n->∃i c:Nat,(p:Int)+st*j+st=i/\cs[i]? = some c/\d (j+1)=d j+vl c:=by
 cases h with
 | @star P S _ h hp=>exact .inl ⟨by rw[h,hp];simp,rfl⟩
 | @right P V S _ _ h c hp hq=>
  refine .inr ⟨1,V.length+1,λj=>1+ps ((V++[41]).take j),.inl ⟨rfl,by rw[h,hp];simp⟩,by simp[pp],λj hj=>?_,?_,by lia,λj hj=>?_⟩
  ·have:=c.nn j;simp only;rw[jh (by lia)];lia
  ·have:=c.z;simp only;rw[dY (by simp),rB,pA,pp,this];decide
  ·have hl:j<(V++[41]).length:=by simp;lia
   refine⟨p+j+1,(V++[41])[j],by lia,?_,?_⟩
   ·rw[h,hp,show P.length+j+1=P.length+(j+1) by lia,ai (by lia)];rw[show P.length+(j+1)-P.length=j+1 by lia,i8,show V++41::S=(V++[41])++S by simp,bT hl,aW hl]
   ·simp only;rw[cT,aW hl,rB];simp[pA,pp];lia
 | @left P V S _ _ h c hp hq=>
  have hd:∀k,k<=V.length->ps (V.drop k)=- ps (V.take k):=λk hk=>by
   have:=rB (V.take k) (V.drop k);rw[jE,c.z] at this;lia
  refine .inr ⟨-1,V.length+1,λj=>-1+ps ((40::V).drop (V.length+1-j)),.inr ⟨rfl,?_⟩,?_,λj hj=>?_,?_,by lia,λj hj=>?_⟩
  ·rw[h,hp,show P.length+V.length+1=P.length+(V.length+1) by lia,ai (by lia)];rw[show P.length+(V.length+1)-P.length=V.length+1 by lia,i8,ai (aI _)];simp
  ·simp only;rw[nM (by simp)];simp[pp]
  ·have hk:V.length+1-j=(V.length-j)+1:=by lia
   simp only;rw[hk,List.drop_succ_cons,hd _ (by lia)];have:=c.nn (V.length-j);lia
  ·simp only;rw[qt,gn,pA,c.z];decide
  ·have hl:V.length-j<(40::V).length:=by simp;lia
   refine⟨P.length+(V.length-j),(40::V)[V.length-j],by lia,?_,?_⟩
   ·rw[h,ai (by lia)];rw[show P.length+(V.length-j)-P.length=V.length-j by lia,show 40::(V++41::S)=(40::V)++41::S by simp,bT hl,aW hl]
   ·simp only;have e1:V.length+1-(j+1)=V.length-j:=by lia
    have e2:V.length+1-j=(V.length-j)+1:=by lia
    rw[e1,e2,aj hl,pA];lia
def Mr:gu [0] []=[42,124]:=by decide
def Mq:gu [] [0]=[124,42]:=by decide
def Cr{P Q:List Int}{x:Int}(E:EE (P++[x]) (Q++[x])):yn (cC [] (P++x::x::Q.reverse)) (P.length+1) P.length:=by
 have E':EW (P++x::x::Q.reverse):=by unfold EE at E;simpa using E
 have x0:=E'.nn x (by simp);have hx:0<x:=by
  rcases Int.lt_or_eq_of_le x0 with h | h
  ·exact h
  ·subst h;have:=E'.z1;simp only[c8,cO,beq_self_eq_true,W9] at this;lia
 obtain⟨_,n1,_,_⟩:=EW.seg (A:=P) (V:=[]) (B:=Q.reverse) (x:=x) E' hx;refine .left (P:=cC [] P) (V:=[]) (S:=cC (P++[x]++[x]) Q.reverse) ?_ ⟨rfl,λj=>by simp[pp]⟩ (by simp[cN]) (cN P []).symm;rw[dD,cC];simp only[bA];rw[j7 hx n1,j6 hx (by simp)]
def Mt{P Q:List Int}{x y:Int}:(cC [] (P++x::y::Q))[P.length]? = some (oE P x)/\(cC [] (P++x::y::Q))[P.length+1]? = some (oE (P++[x]) y):=by
 rw[dD,cC];simp only[bA];have h:=cN P [];constructor
 ·rw[ai (by lia),h];simp
 ·rw[ai (by lia),h];simp
def wz{pre:List Int}{x:Int}(h:0<=x):oE pre x=42<->x=0:=by
 unfold oE;by_cases h0:0<x
 ·rw[W5 h0];split<;>(constructor<;>intro z<;>lia)
 ·rw[W4 h0];exact⟨λ_=>by lia,λ_=>rfl⟩
def yn.one{cs:List Nat}{p q q':Nat}(h:yn cs p q)(h':yn cs p q'):q=q':=by
 rcases h.walk with ⟨a,rfl⟩ | ⟨st,n,d,hs,d0,dn,dz,e,uK⟩
 ·rcases h'.walk with ⟨_,rfl⟩ | ⟨st,n,d,hs,_⟩
  ·rfl
  ·rcases hs with ⟨_,b⟩ | ⟨_,b⟩<;>(rw[a] at b;cases b)
 ·rcases h'.walk with ⟨a,rfl⟩ | ⟨st',n',d',hs',d0',dn',dz',e',stp'⟩
  ·rcases hs with ⟨_,b⟩ | ⟨_,b⟩<;>(rw[a] at b;cases b)
  ·have est:st=st':=by
    rcases hs with ⟨rfl,b⟩ | ⟨rfl,b⟩<;>rcases hs' with ⟨rfl,b'⟩ | ⟨rfl,b'⟩
    ·rfl
    ·rw[b] at b';cases b'
    ·rw[b] at b';cases b'
    ·rfl
   subst est;have hd:∀j,j<=n->j<=n'->d j=d' j:=by
    intro j
    induction j with
    | zero=>intro _ _;rw[d0,d0']
    | succ j ih=>
     intro h1 h2;obtain⟨i,c,e1,e2,e3⟩:=uK j (by lia);obtain⟨i',c',e1',e2',e3'⟩:=stp' j (by lia);have:i=i':=by lia
     subst this;rw[e2] at e2';cases e2';rw[e3,e3',ih (by lia) (by lia)]
   have:n=n':=by
    rcases lP n n' with h | h | h
    ·have:=hd n (aI _) (by lia);rw[dz] at this;exact absurd this.symm (dn' n h)
    ·exact h
    ·have:=hd n' (by lia) (aI _);rw[dz'] at this;exact absurd this (dn n' h)
   subst this;lia
def Ox:Option (List Int×List Int)->Option (List Nat)
 | none=>none
 | some (L,R)=>some (gu L R)
def BG{pre:List Int}{x:Int}(h:0<=x):oE pre x=42<->x=0:=by
 unfold oE;by_cases h0:0<x
 ·rw[W5 h0];split<;>(constructor<;>intro z<;>lia)
 ·rw[W4 h0];exact⟨λ_=>by lia,λ_=>rfl⟩
def GZ{A B:List Nat}(hA:124∉A):∀(X Y:List Nat),124∉X->X++124::Y=A++124::B->X=A/\Y=B:=by
 induction A with
 | nil=>
  intro X Y hX e;cases X with
  | nil=>simpa using e
  | cons x X=>simp at e hX;exact absurd e.1.symm hX.1
 | cons a A ih=>
  intro X Y hX e;simp only[aF,not_or] at hA;cases X with
  | nil=>simp at e;exact absurd e.1 hA.1
  | cons x X=>
   simp only[dS,gG] at e;simp only[aF,not_or] at hX;obtain⟨h1,h2⟩:=ih hA.2 X Y hX.2 e.2;exact⟨by rw[e.1,h1],h2⟩
def BR(pre A:List Int):124∉cC pre A:=λh=>by have:=zK A pre 124 h;lia
def sQ{L R L' R':List Int}(h:gu L R=gu L' R'):cC [] L=cC [] L'/\cC L R.reverse=cC L' R'.reverse/\L.length=L'.length/\R.length=R'.length:=by
 obtain⟨h1,h2⟩:=GZ (BR [] L') _ _ (BR [] L) h;refine⟨h1,h2,?_,?_⟩
 ·rw[<-cN L [],h1,cN]
 ·have:=congrArg List.length h2;simpa [cN] using this
def Lk{L R L' R':List Int}{c:Nat}(E:EE L R)(E':EE L' R')(h:gu L R=gu L' R')(hc:c=97\/c=98\/c=99\/c=100):Ox (cZ L R c)=Ox (cZ L' R' c):=by
 obtain⟨h1,h2,l1,l2⟩:=sQ h;rcases hc with rfl | rfl | rfl | rfl
 ·show some (gu _ _)=some (gu _ _);rw[<-EK E,<-EK E',h1,h2]
 ·by_cases hR:R=[]
  ·have hR':R'=[]:=by subst hR;exact bC l2.symm
   subst hR hR';rw[nE,nE]
  ·have hR':R'≠[]:=λe=>hR (by subst e;exact bC l2);obtain⟨Q,v,rfl⟩:=cG hR;obtain⟨Q',v',rfl⟩:=cG hR';rw[pT,pT];show some (gu _ _)=some (gu _ _);rw[pf,pf] at h2;have h2a:=(j4 h2).1;have h2b:=(j4 h2).2;rw[<-EJ,<-EJ,h1,h2a,h2b]
 ·by_cases hL:L=[]
  ·have hL':L'=[]:=by subst hL;exact bC l1.symm
   subst hL hL';rw[nD,nD]
  ·have hL':L'≠[]:=λe=>hL (by subst e;exact bC l1);obtain⟨P,v,rfl⟩:=cG hL;obtain⟨P',v',rfl⟩:=cG hL';rw[pS,pS];show some (gu _ _)=some (gu _ _);rw[ph,ph] at h1;obtain⟨h1a,h1b⟩:=jY h1 rfl;rw[<-EI,<-EI,h1a,(j4 h1b).1,h2]
 ·by_cases hL:L=[]
  ·have hL':L'=[]:=by subst hL;exact bC l1.symm
   subst hL hL';rw[mz,mz]
  ·have hL':L'≠[]:=λe=>hL (by subst e;exact bC l1);by_cases hR:R=[]
   ·have hR':R'=[]:=by subst hR;exact bC l2.symm
    subst hR hR';rw[mw,mw]
   ·have hR':R'≠[]:=λe=>hR (by subst e;exact bC l2);obtain⟨P,x,rfl⟩:=cG hL;obtain⟨P',x',rfl⟩:=cG hL';obtain⟨Q,y,rfl⟩:=cG hR;obtain⟨Q',y',rfl⟩:=cG hR';have ecs:cC [] (P++x::y::Q.reverse)=cC [] (P'++x'::y'::Q'.reverse):=by rw[<-v4,<-v4,h1,h2]
    have ep:P.length=P'.length:=by simpa using l1
    have nx:=E.nn x (by simp);have ny:=E.nn y (by simp);have nx':=E'.nn x' (by simp);have ny':=E'.nn y' (by simp);rw[ph,ph] at h1;obtain⟨_,h1b⟩:=jY h1 rfl;rw[pf,pf] at h2;have sx:x=0<->x'=0:=by rw[<-BG (pre:=P) nx,(j4 h1b).1,BG nx']
    have sy:y=0<->y'=0:=by rw[<-BG (pre:=P++[x]) ny,(j4 h2).1,BG ny']
    rw[pR,pR];by_cases e:x=y
    ·by_cases e':x'=y'
     ·rw[W5 e,W5 e']
     ·exfalso;subst e;obtain⟨q0,q1,f0,f1,n1,_⟩:=wj E' e';have:=tq E;rw[ecs,ep] at this;exact n1 (f0.one this)
    ·by_cases e':x'=y'
     ·exfalso;subst e';obtain⟨q0,q1,f0,f1,n1,_⟩:=wj E e;have:=tq E';rw[<-ecs,<-ep] at this;exact n1 (f0.one this)
     ·rw[W4 e,W4 e'];show some (gu _ _)=some (gu _ _);obtain⟨q0,q1,f0,f1,n1,_,_,_,m0,m1,hm,ht⟩:=wj E e;obtain⟨q0',q1',f0',f1',n1',_,_,_,m0',m1',hm',ht'⟩:=wj E' e';rw[<-ecs,<-ep] at f0' f1' ht';have e0:=f0.one f0';have e1:=f1.one f1';subst e0 e1;have em:m0=m0'/\m1=m1':=by
       rcases hm with ⟨a,b,c⟩ | ⟨a,b,c⟩<;>rcases hm' with ⟨a',b',c'⟩ | ⟨a',b',c'⟩
       ·exact⟨by rw[b,b'],by rw[c,c']⟩
       ·exact absurd (by rw[<-sx,<-sy];exact a) a'
       ·exact absurd (by rw[sx,sy];exact a') a
       ·exact⟨by rw[b,b'],by rw[c,c']⟩
      rw[<-ht,<-ht',em.1,em.2]
def dG:Nat->List Int->List Int->Nat
 | 0,L,R=>if L.length+R.length=1 then 1 else 0
 | n+1,L,R=>(match cZ L R 97 with | none=>0 | some (a,b)=>dG n a b)+(match cZ L R 98 with | none=>0 | some (a,b)=>dG n a b)+(match cZ L R 99 with | none=>0 | some (a,b)=>dG n a b)+(match cZ L R 100 with | none=>0 | some (a,b)=>dG n a b)
def eE(n:Nat):Option (List Int×List Int)->Nat
 | none=>0
 | some (L,R)=>dG n L R
def f9(n:Nat)(L R:List Int):dG (n+1) L R=eE n (cZ L R 97)+eE n (cZ L R 98)+eE n (cZ L R 99)+eE n (cZ L R 100):=by
 rw[dG];rcases cZ L R 97 with _ | ⟨a,b⟩<;>rcases cZ L R 98 with _ | ⟨a,b⟩<;>rcases cZ L R 99 with _ | ⟨a,b⟩<;>rcases cZ L R 100 with _ | ⟨a,b⟩<;>rfl
def Bk:∀(n:Nat) {L R L' R':List Int},EE L R->EE L' R'->gu L R=gu L' R'->dG n L R=dG n L' R'
 | 0,L,R,L',R',E,E',h=>by
  obtain⟨_,_,l1,l2⟩:=sQ h;simp only[dG,l1,l2]
 | n+1,L,R,L',R',E,E',h=>by
  have key:∀c,(c=97\/c=98\/c=99\/c=100)->eE n (cZ L R c)=eE n (cZ L' R' c):=λc hc=>by
   have hd:=Lk E E' h hc;cases e1:cZ L R c with
   | none=>
    cases e2:cZ L' R' c with
    | none=>rfl
    | some p=>rw[e1,e2] at hd;cases hd
   | some p=>
    cases e2:cZ L' R' c with
    | none=>rw[e1,e2] at hd;cases hd
    | some q=>
     rw[e1,e2] at hd;obtain⟨a,b⟩:=p;obtain⟨a',b'⟩:=q;exact Bk n (E.go hc e1) (E'.go hc e2) (bI hd)
  rw[f9,f9,key 97 (by lia),key 98 (by lia),key 99 (by lia),key 100 (by lia)]
def N6{L R L' R':List Int}{c:Nat}(h:cZ L R c=some (L',R')):L.length+R.length<=L'.length+R'.length+2:=by
 unfold cZ at h
 split at h
 ·cases h;simp;lia
 ·split at h
  ·split at h
   ·cases h;simp;lia
   ·cases h
  ·split at h
   ·split at h
    ·cases h;simp;lia
    ·cases h
   ·split at h
    ·split at h
     ·cases h
     ·cases h;simp;lia
    ·cases h
def yb:∀(n:Nat) {L R:List Int},2*n+1<L.length+R.length->dG n L R=0
 | 0,L,R,h=>by simp only[dG];rw[W4 (by lia)]
 | n+1,L,R,h=>by
  have key:∀c,eE n (cZ L R c)=0:=λc=>by
   cases e1:cZ L R c with
   | none=>rfl
   | some p=>
    obtain⟨a,b⟩:=p;have:=N6 e1;exact yb n (by lia)
  rw[f9,key,key,key,key]
def EE.pos{L R:List Int}(E:EE L R):1<=L.length+R.length:=by
 have:=E.z1;have h:=List.count_le_length (l:=L++R.reverse) (a:=(0:Int));simp at h;simp at this;lia
end Rm
namespace L2
open PySem PySem.Spec PyProof.Rows
abbrev Key:=Sum Int Str
def ur:Key->Value->Bool
 | .inl k,v=>Value.isInt k v
 | .inr x,v=>Value.isStrOf x v
def Oc(w:World):Key->Int
 | .inl k=>hashInt k
 | .inr x=>hashStr w x
def fJ:∀{k:Key} {v:Value},ur k v=true->(∃i t,k=Sum.inl i/\v=Value.int i t)\/(∃x t,k=Sum.inr x/\v=Value.str x t)
 | .inl i,v,h=>by
  obtain⟨t,e⟩:=Value.isInt_shape (k:=i) (v:=v) h;exact .inl ⟨i,t,rfl,e⟩
 | .inr x,v,h=>by
  obtain⟨t,e⟩:=Value.isStrOf_shape (x:=x) (v:=v) h;exact .inr ⟨x,t,rfl,e⟩
def Cg(i:Int)(t:Tok):ur (.inl i) (.int i t)=true:=by simp[ur,Value.isInt]
def Cf(x:Str)(t:Tok):ur (.inr x) (.str x t)=true:=by simp[ur,Value.isStrOf]
def Lc(a b:Int):decide ((Sum.inl a:Key)=Sum.inl b)=(a==b):=by
 by_cases e:a=b
 ·subst e;simp
 ·have h:¬(Sum.inl a:Key)=Sum.inl b:=λq=>e (Sum.inl.inj q);rw[W7 h];exact(beq_eq_false_iff_ne.mpr e).symm
def L9(a b:Str):decide ((Sum.inr a:Key)=Sum.inr b)=decide (a=b):=by
 by_cases e:a=b
 ·subst e;simp
 ·have h:¬(Sum.inr a:Key)=Sum.inr b:=λq=>e (Sum.inr.inj q);rw[W7 h,W7 e]
def Lb(a:Int)(b:Str):decide ((Sum.inl a:Key)=Sum.inr b)=false:=W7 (λq=>nomatch q)
def La(a:Str)(b:Int):decide ((Sum.inr a:Key)=Sum.inl b)=false:=W7 (λq=>nomatch q)
def fV (prog : Program) (w : World) : PySem.KeyKind prog w Key where
  is := ur
  hash := Oc w
  inj := fun v a b ha hb => by
    rcases fJ ha with ⟨i, t, rfl, rfl⟩ | ⟨x, t, rfl, rfl⟩
    · rcases fJ hb with ⟨j, u, rfl, e⟩ | ⟨y, u, rfl, e⟩
      · injection e with e1 _; rw [e1]
      · exact nomatch e
    · rcases fJ hb with ⟨j, u, rfl, e⟩ | ⟨y, u, rfl, e⟩
      · exact nomatch e
      · injection e with e1 _; rw [e1]
  byValue := fun k v h => by
    rcases fJ h with ⟨i, t, rfl, rfl⟩ | ⟨x, t, rfl, rfl⟩ <;> rfl
  pyHash := fun hv h => by
    rcases fJ hv with ⟨i, t, rfl, rfl⟩ | ⟨x, t, rfl, rfl⟩
    · exact wpAny_pyHash_int h
    · exact wpAny_pyHash_str h
  eqBool := fun hu hv h => by
    rcases fJ hu with ⟨i, t, rfl, rfl⟩ | ⟨x, t, rfl, rfl⟩
    · rcases fJ hv with ⟨j, u, rfl, rfl⟩ | ⟨y, u, rfl, rfl⟩
      · rw [Lc] at h; exact wpAny_eqBool_int h
      · rw [Lb] at h; exact SeqAt.EqAt.int_str i t y u _ _ _ _ h
    · rcases fJ hv with ⟨j, u, rfl, rfl⟩ | ⟨y, u, rfl, rfl⟩
      · rw [La] at h; exact SeqAt.EqAt.str_int x t j u _ _ _ _ h
      · rw [L9] at h; exact wpAny_eqBool_str h
  «strs» := fun k x t v h => by
    rcases fJ h with ⟨i, u, rfl, e⟩ | ⟨y, u, rfl, e⟩
    · exact nomatch e
    · injection e with e1 _
      subst e1
      cases v <;> rfl
def xr(prog:Program)(w:World)(i:Int)(t:Tok):(fV prog w).is (.inl i) (.int i t)=true:=Cg i t
def xq(prog:Program)(w:World)(x:Str)(t:Tok):(fV prog w).is (.inr x) (.str x t)=true:=Cf x t
inductive V where
 | non | bl (b:Bool) | int (i:Int) | str (x:Str) | byt (b:Array UInt8) | flt (b:UInt64) | ref (a:Addr) | ty (n:String)
 deriving DecidableEq
def RelV:V->Value->Prop
 | .non,u=>u=Value.none
 | .bl b,u=>u=Value.bool b
 | .int i,u=>∃t,u=Value.int i t
 | .str x,u=>∃t,u=Value.str x t
 | .byt b,u=>∃t,u=Value.bytes b t
 | .flt b,u=>∃t,u=Value.float b t
 | .ref a,u=>u=Value.ref a
 | .ty n,u=>u=Value.type n
abbrev cH:List V->List Value->Prop:=Paired RelV
def cH.length{xs:List V}{us:List Value}(r:cH xs us):xs.length=us.length:=eQ r
def cH.get:∀{xs:List V} {us:List Value} {i:Nat} {x:V},cH xs us->xs[i]? = some x->∃u,us[i]? = some u/\RelV x u
 | _,_,_,_,.nil,e=>by simp at e
 | _,_,0,_,.cons r _,e=>by simp at e;subst e;exact⟨_,rfl,r⟩
 | _,_,i+1,x,.cons _ t,e=>by
  obtain⟨u,h1,h2⟩:=cH.get (i:=i) (x:=x) t (by simpa using e);exact⟨u,by simpa using h1,h2⟩
def cH.set{x:V}{u:Value}(r:RelV x u):∀{xs:List V} {us:List Value} (i:Nat),cH xs us->cH (xs.set i x) (us.set i u)
 | _,_,_,.nil=>.nil
 | _,_,0,.cons _ t=>.cons r t
 | _,_,i+1,.cons q t=>.cons q (cH.set r i t)
def cH.append:∀{xs ys:List V} {us ws:List Value},cH xs us->cH ys ws->cH (xs++ys) (us++ws)
 | _,_,_,_,.nil,s=>s
 | _,_,_,_,.cons r t,s=>.cons r (cH.append t s)
def cH.take:∀{xs:List V} {us:List Value} (n:Nat),cH xs us->cH (xs.take n) (us.take n)
 | _,_,0,_=>.nil
 | _,_,_+1,.nil=>.nil
 | _,_,n+1,.cons r t=>.cons r (cH.take n t)
def cH.drop:∀{xs:List V} {us:List Value} (n:Nat),cH xs us->cH (xs.drop n) (us.drop n)
 | _,_,0,r=>r
 | _,_,_+1,.nil=>.nil
 | _,_,n+1,.cons _ t=>cH.drop n t
def rf:Option V->Option Value->Prop
 | some v,some u=>RelV v u
 | none,none=>True
 | _,_=>False
def KV{κ:Type}:List (κ×V)->List (κ×Value)->Prop:=Paired λ(p:κ×V) (q:κ×Value)=>p.1=q.1/\RelV p.2 q.2
def kV:Key->V
 | .inl i=>.int i
 | .inr x=>.str x
inductive HO where
  | lst (xs:List V)
  | tup (xs:List V)
  | dK (kvs:List (Key×V)) | dT (kvs:List (List Key×V))
  | set (S:Int->Bool) (n:Nat)
  | ins (C dx:Addr) (fs:List (Str×V))
  | own (x:Addr)
  | xd (fs:List (Str×V))
  | met (f x:Addr)
  | rng (lo hi:Int)
  | frz (o:Obj) (u:HO)
  | tbl (ps:Array Value)
  | ext (φ:Heap->Prop)
abbrev Hp:=Addr->Option HO
def bP(H:Hp)(a:Addr)(o:HO):Hp:=λb=>if b=a then some o else H b
def aD{H:Hp}{a:Addr}{o:HO}:bP H a o a=some o:=by unfold bP;rw[W5 rfl]
def aS{H:Hp}{a b:Addr}{o:HO}(h:b≠a):bP H a o b=H b:=by unfold bP;rw[W4 h]
def BS{H:Hp}{a b:Addr}{o u:HO}(h:H a=some o)(h':H b=some u)(d:o≠u):a≠b:=by
 intro e;subst e;rw[h] at h';exact d (bI h')
def bD{H:Hp}{a b:Addr}{o:HO}(h:H a=some o)(h':H b=none):a≠b:=by
 intro e;subst e;rw[h] at h';cases h'
section
variable (P:Program) (w:World)
def cw (H : Hp) (h : Heap) (a : Addr) : HO → Prop
 | .lst xs => xs.length ≤ sizeLine ∧ ∃ (its : List Value) (n : Nat), cH xs its ∧ h.get? a = some { cls := .type "list", data := .seq its.toArray n }
 | .tup xs => xs.length ≤ sizeLine ∧ ∃ its : List Value, cH xs its ∧ IsTup h a its.toArray
 | .dK kvs => kvs.length ≤ sizeLine ∧ (a == sysModules) = false ∧ ∃ vs, KV kvs vs ∧ h.DictOf (fV P w) a vs
 | .dT kvs => kvs.length ≤ sizeLine ∧ (a == sysModules) = false ∧ ∃ xs : List (List Key × Addr × Value),
   Paired (fun (p : List Key × V) (q : List Key × Addr × Value) => p.1 = q.1 ∧ H q.2.1 = some (.tup (p.1.map kV)) ∧ RelV p.2 q.2.2) kvs xs ∧
   ∃ o es ep, h.get? a = some o ∧ o.ExactDict ∧ o.data = .dict es ep ∧ es.toList = xs.map (entryOfKey (tupleKind (fV P w))) ∧ (xs.map (·.1)).Nodup
 | .set S n => h.SetOf (intKind P w) a S n
 | .ins C dx fs => H dx = some (.own a) ∧ fs.length ≤ 1000 ∧ dx ≠ a ∧ h.get? a = some (PySem.W.instObj C dx) ∧
   ∃ mA, h.Ns1 dx mA ∧ (∀ f, rf (fs.lookup f) (mA f)) ∧ PySem.Within mA (fs.map (·.1))
 | .own _ => ∃ o, h.get? a = some o
 | .xd fs => ∃ mA, h.Ns1 a mA ∧ ∀ f, rf (fs.lookup f) (mA f)
 | .rng lo hi => ∃ t u v, h.get? a = some { cls := .type "range", data := .fields #[.int lo t, .int hi u, .int 1 v] }
 | .frz o u => h.get? a = some o ∧ cw H h a u
 | .tbl ps => h.get? a = some { cls := .none, data := .fields ps }
 | .met f x => h.get? a = some (PySem.W.methodObj (.ref f) (.ref x))
 | .ext φ => φ h ∧ (∃ o, h.get? a = some o) ∧ ∀ h1 h2 : Heap, φ h1 → (∀ o, h1.get? a = some o → h2.get? a = some o) → φ h2
def pI(H:Hp)(h:Heap):Prop:=∀a o,H a=some o->cw P w H h a o
end
section
variable {P:Program} {w:World} {H H':Hp} {h h':Heap} {a:Addr} {o:HO}
def cw.lt(x:cw P w H h a o):a<h.objs.size:=by
 cases o with
 | lst xs=>obtain⟨_,_,_,_,e⟩:=x;exact aN e
 | tup xs=>obtain⟨_,_,_,p⟩:=x;exact p.lt
 | dK kvs=>obtain⟨_,_,_,_,o,_,_,e,_⟩:=x;exact aN e
 | dT kvs=>obtain⟨_,_,_,_,o,_,_,e,_⟩:=x;exact aN e
 | set S n=>obtain⟨o,_,_,_,e,_⟩:=x;exact aN e
 | ins C dx fs=>obtain⟨_,_,_,e,_⟩:=x;exact aN e
 | own y=>obtain⟨_,e⟩:=x;exact aN e
 | xd fs=>obtain⟨_,⟨_,_,_,e,_⟩,_⟩:=x;exact aN e
 | rng lo hi=>obtain⟨_,_,_,e⟩:=x;exact aN e
 | frz ob u=>obtain⟨e,_⟩:=x;exact aN e
 | tbl ps=>exact aN (show h.get? a=some _ from x)
 | met f y=>exact aN (show h.get? a=some _ from x)
 | ext φ=>obtain⟨_,⟨_,e⟩,_⟩:=x;exact aN e
def Paired.mapP{α β:Type}{F G:α->β->Prop}:∀{l₁:List α} {l₂:List β},Paired F l₁ l₂->(∀a b,F a b->G a b)->Paired G l₁ l₂
 | _,_,.nil,_=>.nil
 | _,_,.cons r t,f=>.cons (f _ _ r) (Paired.mapP t f)
def cw.stay(x:cw P w H h a o)(k:∀b u,(b=a\/H b=some (.own a))->h.get? b=some u->h'.get? b=some u)
  (ho:∀b,H b=some (.own a)->H' b=some (.own a)) (ht:∀b xs,H b=some (.tup xs)->H' b=some (.tup xs)):cw P w H' h' a o:=by
 induction o with
 | lst xs=>obtain⟨z,its,n,r,e⟩:=x;exact⟨z,its,n,r,k _ _ (.inl rfl) e⟩
 | tup xs=>obtain⟨z,its,r,ob,e,c⟩:=x;exact⟨z,its,r,ob,k _ _ (.inl rfl) e,c⟩
 | dK kvs=>obtain⟨z,y,vs,r,ob,es,ep,e,c⟩:=x;exact⟨z,y,vs,r,ob,es,ep,k _ _ (.inl rfl) e,c⟩
 | dT kvs=>
  obtain⟨z,y,xs,r,ob,es,ep,e,c⟩:=x;exact⟨z,y,xs,Paired.mapP r λp q z=>⟨z.1,ht _ _ z.2.1,z.2.2⟩,ob,es,ep,k _ _ (.inl rfl) e,c⟩
 | set S n=>obtain⟨ob,es,ep,t,e,c⟩:=x;exact⟨ob,es,ep,t,k _ _ (.inl rfl) e,c⟩
 | ins C dx fs=>
  obtain⟨d,z,ne,e,mA,⟨od,es,ep,e2,c⟩,r⟩:=x;exact⟨ho _ d,z,ne,k _ _ (.inl rfl) e,mA,⟨od,es,ep,k _ _ (.inr d) e2,c⟩,r⟩
 | own y=>obtain⟨ob,e⟩:=x;exact⟨ob,k _ _ (.inl rfl) e⟩
 | xd fs=>obtain⟨mA,⟨od,es,ep,e,c⟩,r⟩:=x;exact⟨mA,⟨od,es,ep,k _ _ (.inl rfl) e,c⟩,r⟩
 | rng lo hi=>obtain⟨t,u,v,e⟩:=x;exact⟨t,u,v,k _ _ (.inl rfl) e⟩
 | frz ob u ih=>obtain⟨e,q⟩:=x;exact⟨k _ _ (.inl rfl) e,ih q⟩
 | tbl ps=>
  have e:h.get? a=some { cls:=.none,data:=.fields ps }:=x;show h'.get? a=some { cls:=.none,data:=.fields ps };exact k a _ (.inl rfl) e
 | met f y=>
  have e:h.get? a=some (PySem.W.methodObj (.ref f) (.ref y)):=x;show h'.get? a=some (PySem.W.methodObj (.ref f) (.ref y));exact k a _ (.inl rfl) e
 | ext φ=>obtain⟨p,⟨o,e⟩,st⟩:=x;exact⟨st _ _ p λo q=>k _ _ (.inl rfl) q,⟨o,k _ _ (.inl rfl) e⟩,st⟩
def pI.lt(x:pI P w H h)(e:H a=some o):a<h.objs.size:=(x a o e).lt
def pI.fresh(x:pI P w H h)(e:h.objs.size<=a):H a=none:=by
 cases q:H a with
 | none=>rfl
 | some u=>exact absurd (aT (x.lt q) e) (cS _)
def pI.kept(x:pI P w H h)(k:∀b u,h.get? b=some u->h'.get? b=some u):pI P w H h':=λa o e=>
 (x a o e).stay (λb u _ q=>k b u q) (λ_ q=>q) λ_ _ q=>q
def pI.laid(x:pI P w H h)(k:∀b u,h.get? b=some u->h'.get? b=some u)(hp:h.objs.size<=a)(new:cw P w (bP H a o) h' a o):pI P w (bP H a o) h':=λb u e=>by
 have hn:=x.fresh hp;by_cases hb:b=a
 ·subst hb;rw[aD] at e;cases e;exact new
 ·rw[aS hb] at e;exact(x b u e).stay (λc v _ q=>k c v q) (λc q=>by rw[aS (bD q hn)];exact q) λc xs q=>by rw[aS (bD q hn)];exact q
end
def Rd(H:Hp)(a:Addr)(u:HO):Prop:=H a=some u\/∃o,H a=some (.frz o u)
def Rd.ok{P:Program}{w:World}{H:Hp}{h:Heap}{a:Addr}{u:HO}(r:Rd H a u)(x:pI P w H h):cw P w H h a u:=by
 rcases r with r | ⟨o,r⟩
 ·exact x a u r
 ·obtain⟨_,q⟩:=x a _ r;exact q
def Nd:Option HO->Prop
 | some (.lst _)=>True
 | some (.dK _)=>True
 | some (.dT _)=>True
 | some (.set _ _)=>True
 | some (.ins _ _ _)=>True
 | some (.ext _)=>True
 | _=>False
section
variable {P:Program} {w:World} {H:Hp} {h h':Heap} {x e:Addr} {o':HO}
def pI.write(ok:pI P w H h)(mu:Nd (H x))(he:e=x\/H e=some (.own x))(k:∀b u,b≠e->h.get? b=some u->h'.get? b=some u)(heo:∃u,h'.get? e=some u)
  (new:cw P w (bP H x o') h' x o'):pI P w (bP H x o') h':=λb u q=>by
 have nown:∀c y,H c=some (.own y)->c≠x:=λc y r z=>by subst z;rw[r] at mu;exact mu
 have ntup:∀c xs,H c=some (.tup xs)->c≠x:=λc xs r z=>by subst z;rw[r] at mu;exact mu
 by_cases hb:b=x
 ·subst hb;rw[aD] at q;cases q;exact new
 ·rw[aS hb] at q;by_cases hbe:b=e
  ·have q':H b=some (.own x):=by
    rcases he with z | z
    ·exact absurd (hbe.trans z) hb
    ·rw[hbe];exact z
   rw[q] at q';cases q';obtain⟨v,hv⟩:=heo;exact⟨v,by rw[hbe];exact hv⟩
  ·refine(ok b u q).stay (λc v hc r=>k c v ?_ r) (λc r=>by rw[aS (nown c b r)];exact r) λc xs r=>by rw[aS (ntup c xs r)];exact r
   rcases hc with rfl | hc
   ·exact hbe
   ·rintro rfl;rcases he with z | z
    ·exact nown c b hc z
    ·rw[hc] at z;cases z;exact hb rfl
end
structure Un (fs ex:List Addr) (H H':Hp) (h h':Heap):Prop where
 keep:∀ b o,h.get? b=some o->H b=none->b∉fs->b∉ex->h'.get? b=some o
 slot:∀ b o,h.get? b=some o->H b=none->b∈fs->b∉ex->∃ sl,h'.get? b=some { o with slots:=sl }
 free:∀ b o,h.get? b=some o->H b=none->b∉ex->H' b=none
 there:∀ b o,h.get? b=some o->b∉ex->∃ o',h'.get? b=some o'
 tups:∀ b xs,H b=some (.tup xs)->H' b=some (.tup xs)
 frzs:∀ b o u,H b=some (.frz o u)->H' b=some (.frz o u)
 tbls:∀ b ps,H b=some (.tbl ps)->∃ more,H' b=some (.tbl (ps++more))
section
variable {fs ex:List Addr} {H H1:Hp} {h h1 h':Heap} {a x e:Addr} {o:HO}
def Un.any(u:Un fs ex H H1 h h1){b:Addr}{ob:Obj}(q:h.get? b=some ob)(n:H b=none)(hx:b∉ex):∃sl,h1.get? b=some { ob with slots:=sl }:=by
 by_cases hb:b∈fs
 ·exact u.slot b ob q n hb hx
 ·exact⟨ob.slots,u.keep b ob q n hb hx⟩
def Un.kept(k:∀b u,h.get? b=some u->h'.get? b=some u):Un fs ex H H h h':=
 ⟨λb ob q _ _ _=>k b ob q,λb ob q _ _ _=>⟨ob.slots,k b ob q⟩,λ_ _ _ n _=>n,λb ob q _=>⟨ob,k b ob q⟩,λ_ _ q=>q,λ_ _ _ q=>q,λ_ ps q=>⟨#[],by rw[q];simp⟩⟩
def Un.refl:Un fs ex H H h h:=Un.kept λ_ _ q=>q
def Un.laid(k:∀b u,h.get? b=some u->h'.get? b=some u)(hp:h.objs.size<=a)(hn:H a=none):Un fs ex H (bP H a o) h h' where
 keep:=λb u q _ _ _=>k b u q
 slot:=λb u q _ _ _=>⟨u.slots,k b u q⟩
 free:=λb u q n _=>by rw[aS (aV (aT (aN q) hp))];exact n
 there:=λb u q _=>⟨u,k b u q⟩
 tups:=λb xs q=>by rw[aS (bD q hn)];exact q
 frzs:=λb u xs q=>by rw[aS (bD q hn)];exact q
 tbls:=λb ps q=>⟨#[],by rw[aS (bD q hn),q];simp⟩
def Un.write(mu:Nd (H x))(he:e=x\/H e=some (.own x))(k:∀b u,b≠e->h.get? b=some u->h'.get? b=some u)(heo:∃u,h'.get? e=some u):Un fs ex H (bP H x o) h h':=by
 have hx:∀b,H b=none->b≠x:=λb n z=>by subst z;rw[n] at mu;exact mu
 have hb:∀b,H b=none->b≠e:=λb n z=>by
  subst z;rcases he with r | r
  ·exact hx b n r
  ·rw[n] at r;cases r
 have hm:∀b u,H b=some u->¬Nd (some u)->b≠x:=λb u q nm z=>by subst z;rw[q] at mu;exact nm mu
 refine⟨λb u q n _ _=>k b u (hb b n) q,λb u q n _ _=>⟨u.slots,k b u (hb b n) q⟩,λb u q n _=>by rw[aS (hx b n)];exact n,λb u q _=>?_,
  λb xs q=>by rw[aS (hm b _ q λz=>z)];exact q,λb u xs q=>by rw[aS (hm b _ q λz=>z)];exact q,λb ps q=>⟨#[],by rw[aS (hm b _ q λz=>z),q];simp⟩⟩
 by_cases hbe:b=e
 ·subst hbe;exact heo
 ·exact⟨u,k b u hbe q⟩
end
def trk(h:Heap)(H:Hp):List Addr:=(List.range h.objs.size).filter λa=>(H a).isSome
def wH(h:Heap)(H:Hp):Heap:=PySem.W.hideAll h (trk h H)
def Cj(h:Heap)(H:Hp):(wH h H).objs.size=h.objs.size:=PySem.W.hideAll_size _ _
def Fy{h:Heap}{H:Hp}{b:Addr}{o:Obj}(e:h.get? b=some o)(n:H b=none):(wH h H).get? b=some o:=
 kC _ e λhm=>by
  have q:(H b).isSome=true:=(gB.mp hm).2;rw[n] at q;simp at q
def IH{h:Heap}{H:Hp}{b:Addr}{o:Obj}(e:(wH h H).get? b=some o):h.get? b=some o/\H b=none:=by
 have e':h.get? b=some o:=ki (trk h H) e;refine⟨e',?_⟩;cases q:H b with
 | none=>rfl
 | some x=>
  have hm:b∈trk h H:=gB.mpr ⟨dr.mpr (aN e'),by simp[q]⟩;have z:(wH h H).get? b=none:=gm (trk h H) hm;rw[z] at e;cases e
def JD(g h:Heap)(L:Addr):List (Addr×Obj):=(List.range h.objs.size).filterMap λa=>if a=L\/(g.get? a).isSome=true then none else (h.get? a).map λo=>(a,o)
def rest(g h:Heap)(L d:Addr):List (Addr×Obj):=(JD g h L).filter λp=>decide (p.1≠d)
structure Mod (K:Wb) (mg:Str->Option Value) (base:Heap):Prop where
 kin:K.In base
 glob:base.Ns mainGlobals mg
 blt:∃ mb,base.Ns builtinsNs mb/\∀ x:Str,x≠"__name__"->mb x=bootBuiltins x
 nolimit:base.NoLimit
structure Cx where
 prog:Program
 w:World
 K:Wb
 mg:Str->Option Value
 base:Heap
 A:Around
 N:List Str
 s₀:Shared
 H₀:Hp
 env:Env
 outer:List Env
 stack:List Env
 ex:List Addr
 fn:Str->Bool
 calm:Bool
 pn:List (Addr×Obj)
 xe:Value->Shared->Prop
def lN(l:List Env):List Addr:=l.filterMap (·.frame)
abbrev Cx.fs (X:Cx):List Addr:=lN X.outer
def MS(sc:Scope)(x:Str):Prop:=sc.names.lookup x=some .local\/sc.names.lookup x=some .cell\/sc.names.lookup x=some .free
def Loc(sc:Scope)(x:Str):Prop:=sc.names.lookup x=some .local\/sc.names.lookup x=some .cell
def Look(env:Env)(h:Heap)(m:Str->Option Value)(x:Str)(u:Value):Prop:=
 (env.kindOf x=some .local/\m x=some u)\/((env.kindOf x=some .cell\/env.kindOf x=some .free)/\∃c,env.cells.lookup x=some c/\h.IsCell c (some u))
structure Cx.Ok (X:Cx):Prop where
 mod:Mod X.K X.mg X.base
 kind:X.env.scope.kind=.function
 glob:X.env.globals=mainGlobals
 blt:X.env.builtins=builtinsNs
 above:X.s₀.heap.objs.size<=X.env.locals
 inj:∀ x y c,X.env.cells.lookup x=some c->X.env.cells.lookup y=some c->x=y
 has:∀ x,(X.env.kindOf x=some .cell\/X.env.kindOf x=some .free)->∃ c,X.env.cells.lookup x=some c
 cab:∀ x c,X.fn x=true->X.env.cells.lookup x=some c->X.s₀.heap.objs.size<=c
 hd:X.calm=true->X.A.handled=none
 frames:X.A.frames=some X.stack
 stk:X.stack=X.outer\/(X.stack=X.env::X.outer/\X.env.frame=some X.env.locals)
 exf:∀ b∈X.ex,b≠X.env.locals/\∀ x c,X.env.cells.lookup x=some c->c≠b
 bs:∀ b o,X.base.get? b=some o->X.s₀.heap.get? b=some o/\X.H₀ b=none
 bsz:X.base.objs.size<=X.s₀.heap.objs.size
 noex:∀ b o,X.base.get? b=some o->b∉X.ex
 exfs:∀ b∈X.ex,b∉X.fs
 funs:X.s₀.heap.FunFrames X.base X.outer
 frf:∀ b∈X.fs,X.H₀ b=none
structure bX (X:Cx) (pins:List (Addr×Obj)) (σ:List (Option V)) (H:Hp) (s:Shared):Prop where
 ok:X.Ok
 os:s.os=X.s₀.os
 bare:AllBare s.gens
 base:Un X.fs X.ex X.H₀ H X.s₀.heap s.heap
 loc:∃ m,s.heap.Ns X.env.locals m/\∀ (i:Nat) (x:Str) (v:V),X.N[i]? = some x->σ[i]? = some (some v)->MS X.env.scope x->∃ u,RelV v u/\Look X.env s.heap m x u
 cell:∀ x c,X.env.cells.lookup x=some c->∃ v,s.heap.IsCell c v
 free:H X.env.locals=none
 freeC:∀ x c,X.env.cells.lookup x=some c->H c=none
 pin:∀ p∈X.pn++pins,s.heap.get? p.1=some p.2/\H p.1=none/\p.1≠X.env.locals/\p.1∉X.fs/\∀ v,p.2.data≠.cell v
 hok:pI X.prog X.w H s.heap
 len:σ.length=X.N.length
section
variable {X:Cx} {pins:List (Addr×Obj)} {σ:List (Option V)} {H H':Hp} {s:Shared} {h':Heap}
def Cx.Ok.nofr(ok:X.Ok){b:Addr}{o:Obj}(e:X.base.get? b=some o):b∉X.fs:=λhb=>by
 have:=(ok.funs.mem hb).1;rw[e] at this;cases this
def bX.bs(I:bX X pins σ H s):∀b o,X.base.get? b=some o->s.heap.get? b=some o/\H b=none:=λb o e=>
 ⟨I.base.keep b o (I.ok.bs b o e).1 (I.ok.bs b o e).2 (I.ok.nofr e) (I.ok.noex b o e),I.base.free b o (I.ok.bs b o e).1 (I.ok.bs b o e).2 (I.ok.noex b o e)⟩
def bX.bk(I:bX X pins σ H s):∀b o,X.base.get? b=some o->s.heap.get? b=some o:=λb o e=>(I.bs b o e).1
def bX.mod(I:bX X pins σ H s):Mod X.K X.mg X.base:=I.ok.mod
def bX.kIn(I:bX X pins σ H s):X.K.In s.heap:=I.ok.mod.kin.keeps I.bk
def bX.lt(I:bX X pins σ H s):X.env.locals<s.heap.objs.size:=let ⟨_,hn,_⟩:=I.loc;hn.lt
def bX.sz(I:bX X pins σ H s):X.s₀.heap.objs.size<=s.heap.objs.size:=b9 I.ok.above (ba I.lt)
def bX.nofs(I:bX X pins σ H s){a:Addr}(h:s.heap.objs.size<=a):a∉X.fs:=λhb=>by
 obtain⟨_,o,ho,_⟩:=I.ok.funs.mem hb;exact absurd (aT (aN ho) (b9 I.sz h)) (cS _)
def bX.cne(I:bX X pins σ H s):∀x c,X.env.cells.lookup x=some c->c≠X.env.locals:=λx c e z=>by
 obtain⟨v,o,ho,hd⟩:=I.cell x c e;obtain⟨m,⟨o',es,ep,ho',hd',_⟩,_⟩:=I.loc;rw[z,ho'] at ho;cases ho;rw[hd'] at hd;cases hd
def bX.funs(I:bX X pins σ H s):s.heap.FunFrames X.base X.outer:=by
 have all:∀(l:List Env),(∀b∈lN l,b∈X.fs)->X.s₀.heap.FunFrames X.base l->s.heap.FunFrames X.base l:=by
  intro l
  induction l with
  | nil=>intro _ _;trivial
  | cons env r ih=>
   intro hs hl;obtain⟨hk,⟨L,o,hf,hn,ho,hd⟩,hr⟩:=hl;have hL:L∈X.fs:=hs L (by unfold lN;rw[dC,hf];exact ao);obtain⟨sl,e⟩:=I.base.slot L o ho (I.ok.frf L hL) hL λz=>I.ok.exfs L z hL;exact⟨hk,⟨L,_,hf,hn,e,hd⟩,ih (λb hb=>hs b (by unfold lN;rw[dC,hf];exact aO _ hb)) hr⟩
 exact all X.outer (λ_ hb=>hb) I.ok.funs
def bX.stack(I:bX X pins σ H s):s.heap.FunFrames X.base X.stack:=by
 rcases I.ok.stk with e | ⟨e,hf⟩
 ·rw[e];exact I.funs
 ·rw[e];obtain⟨m,hn,_⟩:=I.loc;refine .cons (by rw[I.ok.kind];decide) hf hn ?_ I.funs;exact gp (b9 I.ok.bsz I.ok.above)
def bX.stkSub(I:bX X pins σ H s):∀b∈lN X.stack,b∈X.env.locals::X.fs:=λb hb=>by
 rcases I.ok.stk with e | ⟨e,hf⟩
 ·rw[e] at hb;exact aO _ hb
 ·rw[e] at hb;unfold lN at hb;rw[dC,hf] at hb;exact hb
def bX.stkFree(I:bX X pins σ H s):∀b∈lN X.stack,H b=none:=λb hb=>by
 rcases aF.mp (I.stkSub b hb) with e | hb
 ·rw[e];exact I.free
 ·obtain⟨_,o,ho,_⟩:=I.ok.funs.mem hb;exact I.base.free b o ho (I.ok.frf b hb) λz=>I.ok.exfs b z hb
def bX.step{g':Array GenState}{t':Nat}{d':Drawn}{ch:List Addr}(I:bX X pins σ H s)
  (hch:∀b∈ch,(b∈X.ex\/X.s₀.heap.objs.size<=b)/\b≠X.env.locals/\(∀x c,X.env.cells.lookup x=some c->c≠b)/\∀p∈X.pn++pins,p.1≠b)
  (keep:∀b o,b≠X.env.locals->b∉X.fs->b∉ch->s.heap.get? b=some o->H b=none->h'.get? b=some o)
  (slot:∀b o,b≠X.env.locals->b∈X.fs->b∉ch->s.heap.get? b=some o->H b=none->∃sl,h'.get? b=some { o with slots:=sl }) (free:∀b o,b∉ch->s.heap.get? b=some o->H b=none->H' b=none)
  (there:∀b o,b∉ch->s.heap.get? b=some o->∃o',h'.get? b=some o')
  (tups:∀b xs,H b=some (.tup xs)->H' b=some (.tup xs)) (frzs:∀b o u,H b=some (.frz o u)->H' b=some (.frz o u)) (tbls:∀b ps,H b=some (.tbl ps)->∃more,H' b=some (.tbl (ps++more)))
  (ns:∀m,s.heap.Ns X.env.locals m->h'.Ns X.env.locals m) (hok:pI X.prog X.w H' h') (hg:AllBare g') :
  bX X pins σ H' { s with heap:=h',gens:=g',drawn:=d',toks:=t' }:=by
 have neL:∀b o,X.s₀.heap.get? b=some o->b≠X.env.locals:=λb o e=>aV (aT (aN e) I.ok.above);have neC:∀b o,X.s₀.heap.get? b=some o->b∉X.ex->b∉ch:=λb o e hx hb=>by
  rcases(hch b hb).1 with z | z
  ·exact hx z
  ·exact absurd (aT (aN e) z) (cS _)
 have cellK:∀x c,X.env.cells.lookup x=some c->∀v,s.heap.IsCell c v->h'.IsCell c v:=λx c e v ⟨o,ho,hd⟩=>by
  have nch:c∉ch:=λz=>(hch c z).2.2.1 x c e rfl;by_cases hc:c∈X.fs
  ·obtain⟨sl,q⟩:=slot c o (I.cne x c e) hc nch ho (I.freeC x c e);exact⟨_,q,hd⟩
  ·exact⟨o,keep c o (I.cne x c e) hc nch ho (I.freeC x c e),hd⟩
 refine⟨I.ok,I.os,hg,⟨λb o e n hb hx=>?_,λb o e n hb hx=>?_,λb o e n hx=>?_,λb o e hx=>?_,λb xs e=>tups b xs (I.base.tups b xs e),λb o xs e=>frzs b o xs (I.base.frzs b o xs e),λb ps e=>?_⟩,?_,λx c e=>?_,?_,λx c e=>?_,λp hp=>?_,hok,I.len⟩
 ·exact keep b o (neL b o e) hb (neC b o e hx) (I.base.keep b o e n hb hx) (I.base.free b o e n hx)
 ·obtain⟨sl,e1⟩:=I.base.slot b o e n hb hx;obtain⟨sl',e2⟩:=slot b _ (neL b o e) hb (neC b o e hx) e1 (I.base.free b o e n hx);exact⟨sl',e2⟩
 ·obtain⟨o',e1⟩:=I.base.there b o e hx;exact free b o' (neC b o e hx) e1 (I.base.free b o e n hx)
 ·obtain⟨o',e1⟩:=I.base.there b o e hx;exact there b o' (neC b o e hx) e1
 ·obtain⟨m1,e1⟩:=I.base.tbls b ps e;obtain⟨m2,e2⟩:=tbls b _ e1;exact⟨m1++m2,by rw[e2,Array.append_assoc]⟩
 ·obtain⟨m,hn,hl⟩:=I.loc;refine⟨m,ns m hn,λi x v e1 e2 e3=>?_⟩;obtain⟨u,r,l⟩:=hl i x v e1 e2 e3;refine⟨u,r,?_⟩;rcases l with l | ⟨k,c,e,z⟩
  ·exact .inl l
  ·exact .inr ⟨k,c,e,cellK x c e _ z⟩
 ·obtain⟨v,z⟩:=I.cell x c e;exact⟨v,cellK x c e v z⟩
 ·obtain⟨m,⟨o,_,_,ho,_⟩,_⟩:=I.loc;exact free _ o (λz=>(hch _ z).2.1 rfl) ho I.free
 ·obtain⟨v,o,ho,hd⟩:=I.cell x c e;exact free c o (λz=>(hch c z).2.2.1 x c e rfl) ho (I.freeC x c e)
 ·obtain⟨e,n,ne,nf,d⟩:=I.pin p hp;have nch:p.1∉ch:=λz=>(hch p.1 z).2.2.2 p hp rfl;exact⟨keep p.1 p.2 ne nf nch e n,free p.1 p.2 nch e n,ne,nf,d⟩
def bX.un{t':Nat}(I:bX X pins σ H s)(u:Un X.fs [] H H' s.heap h')(hok:pI X.prog X.w H' h'):bX X pins σ H' { s with heap:=h',toks:=t' }:=by
 obtain⟨m,⟨o,es,ep,ho,r⟩,_⟩:=id I.loc;obtain⟨sl,hL⟩:=u.any ho I.free (by simp);exact I.step (g':=s.gens) (d':=s.drawn) (ch:=[]) (λ_ z=>nomatch z) (λb o _ hb _ e n=>u.keep b o e n hb (by simp)) (λb o _ hb _ e n=>u.slot b o e n hb (by simp)) (λb o _ e n=>u.free b o e n (by simp)) (λb o _ e=>u.there b o e (by simp)) u.tups u.frzs u.tbls (λm' hm=>by
  obtain⟨o',es',ep',ho',r'⟩:=hm;rw[ho] at ho';cases ho';exact⟨_,es',ep',hL,r'⟩) hok I.bare
def bX.call{g':Array GenState}{t':Nat}{d':Drawn}{ch:List Addr}(I:bX X pins σ H s)(u:Un (lN X.stack) ch H H' s.heap h')(hok:pI X.prog X.w H' h')(hg:AllBare g')
  (hch:∀b∈ch,(b∈X.ex\/X.s₀.heap.objs.size<=b)/\b≠X.env.locals/\(∀x c,X.env.cells.lookup x=some c->c≠b)/\∀p∈X.pn++pins,p.1≠b) :
  bX X pins σ H' { s with heap:=h',gens:=g',drawn:=d',toks:=t' }:=by
 obtain⟨m,⟨o,es,ep,ho,r⟩,_⟩:=id I.loc;obtain⟨sl,hL⟩:=u.any ho I.free λz=>(hch _ z).2.1 rfl;exact I.step (ch:=ch) hch (λb o hL hb hc e n=>u.keep b o e n (λz=>(aF.mp (I.stkSub b z)).elim hL hb) hc) (λb o _ _ hc e n=>u.any e n hc) (λb o hc e n=>u.free b o e n hc) (λb o hc e=>u.there b o e hc) u.tups u.frzs u.tbls (λm' hm=>by
  obtain⟨o',es',ep',ho',r'⟩:=hm;rw[ho] at ho';cases ho';exact⟨_,es',ep',hL,r'⟩) hok hg
def bX.turned{t':Nat}{it:Addr}(I:bX X pins σ H s)(k:∀b o,b≠it->s.heap.get? b=some o->h'.get? b=some o)(hn:H it=none)(hL:it≠X.env.locals)
  (h1:it∈X.ex\/X.s₀.heap.objs.size<=it) (h2:∀x c,X.env.cells.lookup x=some c->c≠it) (h3:∀p∈X.pn++pins,p.1≠it):bX X pins σ H { s with heap:=h',toks:=t' }:=by
 have nit:∀b u,H b=some u->b≠it:=λb u e z=>by rw[z,hn] at e;cases e
 refine I.step (g':=s.gens) (d':=s.drawn) (ch:=[it]) (λb hb=>?_) (λb o _ _ hc e _=>k b o (λz=>hc (by simp[z])) e) (λb o _ _ hc e _=>⟨o.slots,k b o (λz=>hc (by simp[z])) e⟩) (λ_ _ _ _ n=>n)
  (λb o hc e=>⟨o,k b o (λz=>hc (by simp[z])) e⟩) (λ_ _ e=>e) (λ_ _ _ e=>e) (λb ps e=>⟨#[],by rw[e];simp⟩) (λm hm=>?_) (λb u e=>?_) I.bare
 ·have e:b=it:=by simpa using hb
  subst e;exact⟨h1,hL,h2,h3⟩
 ·obtain⟨o,es,ep,ho,r⟩:=hm;exact⟨o,es,ep,k _ o (bc hL) ho,r⟩
 ·refine(I.hok b u e).stay (λc v hc q=>k c v ?_ q) (λ_ q=>q) λ_ _ q=>q;rcases hc with z | z
  ·rw[z];exact nit b u e
  ·exact nit c _ z
def bX.tok(I:bX X pins σ H s)(t:Nat):bX X pins σ H { s with toks:=t }:=I.un (h':=s.heap) (t':=t) Un.refl I.hok
def bX.kept{t':Nat}(I:bX X pins σ H s)(k:∀b u,s.heap.get? b=some u->h'.get? b=some u):bX X pins σ H { s with heap:=h',toks:=t' }:=I.un (Un.kept k) (I.hok.kept k)
def bX.laid{a:Addr}{o:HO}{t':Nat}(I:bX X pins σ H s)(k:∀b u,s.heap.get? b=some u->h'.get? b=some u)(hp:s.heap.objs.size<=a)(new:cw X.prog X.w (bP H a o) h' a o):
  bX X pins σ (bP H a o) { s with heap:=h',toks:=t' }:=I.un (Un.laid k hp (I.hok.fresh hp)) (I.hok.laid k hp new)
def bX.write{x e:Addr}{o:HO}{t':Nat}(I:bX X pins σ H s)(mu:Nd (H x))(he:e=x\/H e=some (.own x))(k:∀b u,b≠e->s.heap.get? b=some u->h'.get? b=some u)(heo:∃u,h'.get? e=some u)
  (new:cw X.prog X.w (bP H x o) h' x o):bX X pins σ (bP H x o) { s with heap:=h',toks:=t' }:=I.un (Un.write mu he k heo) (I.hok.write mu he k heo new)
def bX.pins_of{pins':List (Addr×Obj)}(I:bX X pins σ H s)(h:∀p∈pins',s.heap.get? p.1=some p.2/\H p.1=none/\p.1≠X.env.locals/\p.1∉X.fs/\∀v,p.2.data≠.cell v):bX X pins' σ H s:=
 ⟨I.ok,I.os,I.bare,I.base,I.loc,I.cell,I.free,I.freeC,λp hp=>(aQ.mp hp).elim (λz=>I.pin p (bV _ z)) (h p),I.hok,I.len⟩
def tO{N:List Str}(hN:N.Nodup){i j:Nat}{x:Str}(a:N[i]? = some x)(b:N[j]? = some x):i=j:=by
 obtain⟨h1,e1⟩:=aK.mp a;obtain⟨h2,e2⟩:=aK.mp b;exact(mX hN).mp (e1.trans e2.symm)
def ud{M:Model}{A:Around}{E:Value->Shared->Prop}{i:Nat}{x:Str}{v:V}{u:Value}{Q:Unit->Shared->Prop}(I:bX X pins σ H s)(hN:X.N.Nodup)(hi:X.N[i]? = some x)(hx:Loc X.env.scope x)(r:RelV v u)
  (h:∀s',bX X pins (σ.set i (some v)) H s'->(∃a,Heap.SameBut a s.heap s'.heap/\(a=X.env.locals\/X.env.cells.lookup x=some a))->Q () s') (hf:X.fn x=true\/X.env.scope.names.lookup x=some .local:=by first | exact .inl rfl | exact .inr rfl | assumption):wpAny M A (storeName X.env x u) Q E s:=by
 obtain⟨m,hn,hl⟩:=id I.loc;have hcls:(X.env.scope.kind==.class || (X.env.scope.kind==.module&&X.env.locals != X.env.globals))=false:=by rw[I.ok.kind];rfl
 have hiσ:i<σ.length:=by rw[I.len];exact(aK.mp hi).1
 have cne:=I.cne;have tracked:∀{a:Addr} {h':Heap},(∃o,s.heap.get? a=some o/\H a=none)->Heap.SameBut a s.heap h'->pI X.prog X.w H h':=fun {a h'} ha hs b ob e=>by
  obtain⟨_,_,hfree⟩:=ha;refine(I.hok b ob e).stay (λc w' hc q=>(hs.2 c ?_).trans q) (λ_ q=>q) λ_ _ q=>q;rintro rfl;rcases hc with rfl | hc
  ·rw[hfree] at e;cases e
  ·rw[hfree] at hc;cases hc
 rcases hx with hk | hk
 ·refine wpAny_storeName_local hk hn (λh' hn' hs=>?_) hcls;obtain⟨oL,_,_,hoL,_⟩:=id hn;refine h _ ⟨I.ok,I.os,I.bare,⟨λb o e n hb hx=>?_,λb o e n hb hx=>?_,I.base.free,λb o e hx=>?_,I.base.tups,I.base.frzs,I.base.tbls⟩,⟨_,hn',λj y v' e1 e2 e3=>?_⟩,λy c e=>?_,I.free,I.freeC,λp hp=>?_,tracked ⟨oL,hoL,I.free⟩ hs,by simpa using I.len⟩ ⟨_,hs,.inl rfl⟩
  ·exact(hs.2 b (aV (aT (aN e) I.ok.above))).trans (I.base.keep b o e n hb hx)
  ·obtain⟨sl,e1⟩:=I.base.slot b o e n hb hx;exact⟨sl,(hs.2 b (aV (aT (aN e) I.ok.above))).trans e1⟩
  ·obtain⟨o',e1⟩:=I.base.there b o e hx;exact⟨o',(hs.2 b (aV (aT (aN e) I.ok.above))).trans e1⟩
  ·by_cases hj:j=i
   ·subst hj;rw[hi] at e1;cases e1;rw[iu hiσ] at e2;cases e2;exact⟨u,r,.inl ⟨hk,by simp⟩⟩
   ·rw[ji (bc hj)] at e2;obtain⟨u',r',q⟩:=hl j y v' e1 e2 e3;refine⟨u',r',?_⟩;rcases q with ⟨k,e⟩ | ⟨k,c,e,z⟩
    ·refine .inl ⟨k,?_⟩;have:y≠x:=λe=>hj (tO hN e1 (e▸hi));simp[this,e]
    ·exact .inr ⟨k,c,e,z.sameBut hs (cne y c e)⟩
  ·obtain⟨w',z⟩:=I.cell y c e;exact⟨w',z.sameBut hs (cne y c e)⟩
  ·obtain⟨e,n,ne,nf,d⟩:=I.pin p hp;exact⟨(hs.2 p.1 ne).trans e,n,ne,nf,d⟩
 ·have hfn:X.fn x=true:=by
   rcases hf with z | z
   ·exact z
   ·rw[z] at hk;cases hk
  obtain⟨c,hc⟩:=I.ok.has x (.inl hk);obtain⟨w',z⟩:=I.cell x c hc;refine wpAny_storeName_cell I.ok.kind hk hc z (λh' hc' hs=>?_);obtain⟨oc,hoc,hocd⟩:=id z;refine h { s with heap:=h' } ⟨I.ok,I.os,I.bare,⟨λb o e n hb hx=>?_,λb o e n hb hx=>?_,I.base.free,λb o e hx=>?_,I.base.tups,I.base.frzs,I.base.tbls⟩,⟨m,hn.sameBut hs (bc (cne x c hc)),λj y v' e1 e2 e3=>?_⟩,λy c' e=>?_,I.free,I.freeC,λp hp=>?_,tracked ⟨oc,hoc,I.freeC x c hc⟩ hs,by simpa using I.len⟩ ⟨c,hs,.inr hc⟩
  ·exact(hs.2 b (aV (aT (aN e) (I.ok.cab x c hfn hc)))).trans (I.base.keep b o e n hb hx)
  ·obtain⟨sl,e1⟩:=I.base.slot b o e n hb hx;exact⟨sl,(hs.2 b (aV (aT (aN e) (I.ok.cab x c hfn hc)))).trans e1⟩
  ·obtain⟨o',e1⟩:=I.base.there b o e hx;exact⟨o',(hs.2 b (aV (aT (aN e) (I.ok.cab x c hfn hc)))).trans e1⟩
  ·by_cases hj:j=i
   ·subst hj;rw[hi] at e1;cases e1;rw[iu hiσ] at e2;cases e2;exact⟨u,r,.inr ⟨.inl hk,c,hc,hc'⟩⟩
   ·rw[ji (bc hj)] at e2;obtain⟨u',r',q⟩:=hl j y v' e1 e2 e3;refine⟨u',r',?_⟩;rcases q with q | ⟨k,c',e,z'⟩
    ·exact .inl q
    ·refine .inr ⟨k,c',e,z'.sameBut hs ?_⟩;rintro rfl;exact hj (tO hN e1 (I.ok.inj _ _ _ e hc▸hi))
  ·by_cases hcc:c'=c
   ·subst hcc;exact⟨_,hc'⟩
   ·obtain⟨w2,z2⟩:=I.cell y c' e;exact⟨w2,z2.sameBut hs hcc⟩
  ·obtain⟨e,n,ne,nf,d⟩:=I.pin p hp;refine⟨(hs.2 p.1 ?_).trans e,n,ne,nf,d⟩;intro q;rw[q,hoc] at e;have q':oc=p.2:=bI e;exact d w' (by rw[<-q'];exact hocd)
def qR{M:Model}{A:Around}{E:Value->Shared->Prop}{i:Nat}{x:Str}{v:V}{u:Value}{Q:Unit->Shared->Prop}(I:bX X pins σ H s)(hN:X.N.Nodup)(hi:X.N[i]? = some x)(hx:Loc X.env.scope x)(r:RelV v u)
  (h:∀s',bX X pins (σ.set i (some v)) H s'->Q () s') (hf:X.fn x=true\/X.env.scope.names.lookup x=some .local:=by first | exact .inl rfl | exact .inr rfl | assumption):wpAny M A (storeName X.env x u) Q E s:=
 ud I hN hi hx r (λs' I' _=>h s' I') hf
def bX.call'{s':Shared}{ch:List Addr}(I:bX X pins σ H s)(ho:s'.os=s.os)(u:Un (lN X.stack) ch H H' s.heap s'.heap)(hok:pI X.prog X.w H' s'.heap)(hg:AllBare s'.gens)
  (hch:∀b∈ch,(b∈X.ex\/X.s₀.heap.objs.size<=b)/\b≠X.env.locals/\(∀x c,X.env.cells.lookup x=some c->c≠b)/\∀p∈X.pn++pins,p.1≠b):bX X pins σ H' s':=by
 obtain⟨h',g',d',t',o'⟩:=s';have e:o'=s.os:=ho;subst e;exact I.call (g':=g') (t':=t') (d':=d') u hok hg hch
end
abbrev XK:=Value->Option Addr->Hp->Prop
abbrev St:=List (Option V)
abbrev VK:=V->Hp->Prop
abbrev TE:=St->Hp->VK->Prop
abbrev TT:=St->Hp->(Bool->Hp->Prop)->Prop
abbrev TA:=St->Hp->(List V->Hp->Prop)->Prop
structure Ends where
 nx:St->Hp->Prop
 rt:VK
 bk:St->Hp->Prop:=fun _ _=>False
 ct:St->Hp->Prop:=fun _ _=>False
abbrev TS:=Ends->St->Hp->Prop
def EP(X:Cx)(pins:List (Addr×Obj))(σ:St)(Q:VK)(u:Value)(s':Shared):Prop:=∃v H',bX X pins σ H' s'/\RelV v u/\Q v H'
def TP(X:Cx)(pins:List (Addr×Obj))(σ:St)(Q:Bool->Hp->Prop)(b:Bool)(s':Shared):Prop:=∃H',bX X pins σ H' s'/\Q b H'
def AP(X:Cx)(pins:List (Addr×Obj))(σ:St)(Q:List V->Hp->Prop)(us:List Value)(s':Shared):Prop:=∃vs H',bX X pins σ H' s'/\cH vs us/\Q vs H'
def SP(X:Cx)(pins:List (Addr×Obj))(D:Ends)(f:Flow)(s':Shared):Prop:=
 match f with
 | .next=>∃σ' H',bX X pins σ' H' s'/\D.nx σ' H'
 | .brk=>∃σ' H',bX X pins σ' H' s'/\D.bk σ' H'
 | .cont=>∃σ' H',bX X pins σ' H' s'/\D.ct σ' H'
 | .ret u=>∃v σ' H',bX X pins σ' H' s'/\RelV v u/\D.rt v H'
def PE(X:Cx)(e:Expr)(t:TE):Prop:=
 ∀(pins:List (Addr×Obj)) (s:Shared) (σ:St) (H:Hp) (Q:VK),bX X pins σ H s->t σ H Q->wpAny (model X.prog X.w) X.A (eval e X.env) (EP X pins σ Q) X.xe s
def PT(X:Cx)(e:Expr)(t:TT):Prop:=
 ∀(pins:List (Addr×Obj)) (s:Shared) (σ:St) (H:Hp) (Q:Bool->Hp->Prop),bX X pins σ H s->t σ H Q->wpAny (model X.prog X.w) X.A (isTrue e X.env (eval e X.env)) (TP X pins σ Q) X.xe s
def PW(X:Cx)(e:Expr)(t:TT):Prop:=
 ∀(whole:Sem Value) (pins:List (Addr×Obj)) (s:Shared) (σ:St) (H:Hp) (Q:Bool->Hp->Prop),bX X pins σ H s->t σ H Q->wpAny (model X.prog X.w) X.A (isTrue e X.env whole) (TP X pins σ Q) X.xe s
def PW.pt{X:Cx}{e:Expr}{t:TT}(h:PW X e t):PT X e t:=h _
def PA(X:Cx)(es:List Expr)(t:TA):Prop:=
 ∀(pos:Pos) (pins:List (Addr×Obj)) (s:Shared) (σ:St) (H:Hp) (Q:List V->Hp->Prop),bX X pins σ H s->t σ H Q->wpAny (model X.prog X.w) X.A (spliced (backTo pos (starEach es X.env))) (AP X pins σ Q) X.xe s
def PS(X:Cx)(st:Stmt)(t:TS):Prop:=
 ∀(pins:List (Addr×Obj)) (s:Shared) (σ:St) (H:Hp) (D:Ends),bX X pins σ H s->t D σ H->wpAny (model X.prog X.w) X.A (exec st X.env) (SP X pins D) X.xe s
def vJ(X:Cx)(st:List Stmt)(t:TS):Prop:=
 ∀(pins:List (Addr×Obj)) (s:Shared) (σ:St) (H:Hp) (D:Ends),bX X pins σ H s->t D σ H->wpAny (model X.prog X.w) X.A (execs st X.env) (SP X pins D) X.xe s
def dJ{α:Type}{t:Sem α}{Q Q':α->Shared->Prop}{M:Model}{A:Around}{E:Value->Shared->Prop}{s:Shared}(h:wpAny M A t Q E s)(hQ:∀a s,Q a s->Q' a s):wpAny M A t Q' E s:=wpAny_mono h hQ λ_ _ x=>x
section
variable {X:Cx}
def bin{a b:Expr}{ta tb:TE}(ha:PE X a ta)(hb:PE X b tb){pins:List (Addr×Obj)}{s:Shared}{σ:St}{H:Hp}{R:V->V->Hp->Prop}(I:bX X pins σ H s)(h:ta σ H λx H1=>tb σ H1 λy H2=>R x y H2)
  {α:Type} {Q:α->Shared->Prop} {f:Value->Value->Sem α}
  (hf:∀v u s2 x y H2,bX X pins σ H2 s2->RelV x v->RelV y u->R x y H2->wpAny (model X.prog X.w) X.A (f v u) Q X.xe s2) :
  wpAny (model X.prog X.w) X.A (eval a X.env) (λv s₁=>wpAny (model X.prog X.w) X.A (eval b X.env) (λu s₂=>wpAny (model X.prog X.w) X.A (f v u) Q X.xe s₂) X.xe s₁) X.xe s:=by
 refine dJ (ha pins s σ H _ I h) λv s1 ⟨x,H1,I1,r1,q1⟩=>?_;refine dJ (hb pins s1 σ H1 _ I1 q1) λu s2 ⟨y,H2,I2,r2,q2⟩=>?_;exact hf v u s2 x y H2 I2 r1 r2 q2
def sN(i:Nat):TE:=λσ H Q=>∃v,σ[i]? = some (some v)/\Q v H
def tC(v:V):TE:=λ_ H Q=>Q v H
def LH {i:Nat} {x:Str} {pos:Pos} (hN:X.N[i]? = some x) (hv:MS X.env.scope x) (hd:(x==("__debug__":Str))=false:=by decide) (hcd:(x==("__classdict__":Str))=false:=by decide):PE X (.Name x pos) (sN i):=by
 intro pins s σ H Q I h;obtain⟨v,e,h⟩:=h;obtain⟨m,hn,hl⟩:=I.loc;obtain⟨u,r,l⟩:=hl i x v hN e hv;have fin:EP X pins σ Q u s:=⟨v,H,I,r,h⟩
 rcases l with ⟨hk,hm⟩ | ⟨hk,c,hc,hcell⟩
 ·exact wpAny_Name (wpAny_loadName_local I.ok.kind hk hn hm fin) hd
 ·rcases hk with hk | hk
  ·exact wpAny_Name (wpAny_loadName_cell I.ok.kind hk hc hcell fin) hd
  ·exact wpAny_Name (wpAny_loadName_free I.ok.kind hk hc hcell fin hcd) hd
def LO{i j pos}:PE X (.Constant (.int i) j pos) (tC (.int i)):=λ_ _ _ H _ I h=>wpAny_Constant_int ⟨.int i,H,I.tok _,⟨_,rfl⟩,h⟩
def NQ{b j pos}:PE X (.Constant (.bool b) j pos) (tC (.bl b)):=λ_ _ _ H _ I h=>Constant_bool ⟨.bl b,H,I,rfl,h⟩
def LM{j pos}:PE X (.Constant .none j pos) (tC .non):=λ_ _ _ H _ I h=>Constant_none ⟨.non,H,I,rfl,h⟩
def LJ{x j pos}:PE X (.Constant (.str x) j pos) (tC (.str x)):=λ_ _ _ H _ I h=>Calls.Constant_str ⟨.str x,H,I.tok _,⟨_,rfl⟩,h⟩
def Gl(X:Cx)(x:Str):Prop:=X.env.kindOf x=some .globalImplicit
def kJ{E:Value->Shared->Prop}{pins:List (Addr×Obj)}{s:Shared}{σ:St}{H:Hp}{x:Str}{u:Value}{pos:Pos}{Q:Value->Shared->Prop}(I:bX X pins σ H s)(hg:Gl X x)(hm:X.mg x=some u)(h:Q u s)
  (hd:(x==("__debug__":Str))=false:=by decide):wpAny (model X.prog X.w) X.A (eval (.Name x pos) X.env) Q E s:=
 lF I.ok.kind hg (Calls.loadGlobal_global (by rw[I.ok.glob];exact I.mod.glob.keeps I.bk) hm h) hd
def jm{E:Value->Shared->Prop}{pins:List (Addr×Obj)}{s:Shared}{σ:St}{H:Hp}{x:Str}{u:Value}{pos:Pos}{Q:Value->Shared->Prop}(I:bX X pins σ H s)(hg:Gl X x)(hm:X.mg x=none)(hv:bootBuiltins x=some u)(h:Q u s)
  (hn:x≠"__name__":=by decide) (hd:(x==("__debug__":Str))=false:=by decide):wpAny (model X.prog X.w) X.A (eval (.Name x pos) X.env) Q E s:=by
 obtain⟨mb,h1,h2⟩:=I.mod.blt;exact lF I.ok.kind hg (Calls.loadGlobal_builtin (by rw[I.ok.glob];exact I.mod.glob.keeps I.bk) hm (by rw[I.ok.blt];exact h1.keeps I.bk) ((h2 x hn).trans hv) h) hd
def sB {x:Str} {v:V} {u:Value} {pos:Pos} (hg:Gl X x) (hm:X.mg x=some u) (r:RelV v u) (hd:(x==("__debug__":Str))=false:=by decide):PE X (.Name x pos) (tC v):=
 λ_ _ _ H _ I h=>kJ I hg hm ⟨v,H,I,r,h⟩ hd
def Hx {x:Str} {v:V} {u:Value} {pos:Pos} (hg:Gl X x) (hm:X.mg x=none) (hv:bootBuiltins x=some u) (r:RelV v u) (hn:x≠"__name__":=by decide) (hd:(x==("__debug__":Str))=false:=by decide):PE X (.Name x pos) (tC v):=
 λ_ _ _ H _ I h=>jm I hg hm hv ⟨v,H,I,r,h⟩ hn hd
variable {a b:Expr} {ta tb:TE} {pos:Pos}
def PC(X:Cx)(op:CmpOp)(a b:Expr)(t:TE):Prop:=
 ∀(pins:List (Addr×Obj)) (s:Shared) (σ:St) (H:Hp) (Q:VK),bX X pins σ H s->t σ H Q →
  wpAny (model X.prog X.w) X.A (eval a X.env) (λv s₁=>wpAny (model X.prog X.w) X.A (eval b X.env) (λu s₂=>wpAny (model X.prog X.w) X.A (compareOp op v u) (EP X pins σ Q) X.xe s₂) X.xe s₁) X.xe s
def F6(b:Expr){op:CmpOp}(h:op≠.In)(h2:op≠.NotIn):behindInMarks op b=false:=by
 have e1:(op==CmpOp.In)=false:=by cases op<;>first | rfl | exact absurd rfl h
 have e2:(op==CmpOp.NotIn)=false:=by cases op<;>first | rfl | exact absurd rfl h2
 cases b<;>simp[behindInMarks,e1,e2]
def tB(t:TE):TT:=λσ H Q=>t σ H λx H1=>∃c,x=.bl c/\Q c H1
def Ks{op:CmpOp}{t:TE}(h:PC X op a b t)(h1:behindInMarks op b=false:=by first | exact F6 _ (by decide) (by decide) | rfl):PT X (.Compare a [op] [b] pos) (tB t):=by
 intro pins s σ H Q I hw;refine wpAny_isTrue_Compare1 (dJ (h pins s σ H _ I hw) λv s1 h1=>dJ h1 λu s2 h2=>dJ h2 λc s3 ⟨x,H1,I1,r1,q1⟩=>?_) h1;obtain⟨d,rfl,q⟩:=q1;cases r1;exact Vy ⟨H1,I1,q⟩
def Ko{e:Expr}{t:TE}(h:PE X e t)(he:∀whole,isTrue e X.env whole=(do let v <-whole;standAt e.pos;holding [v] (truthy v)):=by intro _;rfl):PT X e (tB t):=by
 intro pins s σ H Q I hw;refine isTrue_plain (dJ (h pins s σ H _ I hw) λv s1 ⟨x,H1,I1,r1,q1⟩=>?_) (he _);obtain⟨d,rfl,q⟩:=q1;cases r1;exact Vy ⟨H1,I1,q⟩
variable {tA tB':TT} {rest:List Expr}
def K8(t u:TT):TT:=λσ H Q=>t σ H λc H1=>if c=true then u σ H1 Q else Q false H1
def OU(t u:TT):TT:=λσ H Q=>t σ H λc H1=>if c=true then Q true H1 else u σ H1 Q
def K1(t:TT):TT:=λσ H Q=>t σ H λc H1=>Q (!c) H1
def HY(ha:PT X a tA):PW X (.BoolOp .And [a] pos) tA:=by
 intro wh pins s σ H Q I h;refine isTrue_and (dJ (ha pins s σ H Q I h) λc s1 e=>?_);cases c with
 | true=>exact isTrue_and_nil e
 | false=>exact e
def Km(ha:PT X a tA):PW X (.BoolOp .Or [a] pos) tA:=by
 intro wh pins s σ H Q I h;refine isTrue_or (dJ (ha pins s σ H Q I h) λc s1 e=>?_);cases c with
 | false=>exact isTrue_or_nil e
 | true=>exact e
def Kn(ha:PT X a tA)(hb:PW X (.BoolOp .And (b::rest) pos) tB'):PW X (.BoolOp .And (a::b::rest) pos) (K8 tA tB'):=by
 intro wh pins s σ H Q I h;refine isTrue_and (dJ (ha pins s σ H _ I h) λc s1 ⟨H1,I1,q1⟩=>?_);cases c with
 | true=>exact hb wh pins s1 σ H1 Q I1 q1
 | false=>exact⟨H1,I1,q1⟩
def NK(ha:PT X a tA)(hb:PW X (.BoolOp .Or (b::rest) pos) tB'):PW X (.BoolOp .Or (a::b::rest) pos) (OU tA tB'):=by
 intro wh pins s σ H Q I h;refine isTrue_or (dJ (ha pins s σ H _ I h) λc s1 ⟨H1,I1,q1⟩=>?_);cases c with
 | true=>exact⟨H1,I1,q1⟩
 | false=>exact hb wh pins s1 σ H1 Q I1 q1
def Kr(ha:PT X a tA):PT X (.UnaryOp .Not a pos) (K1 tA):=by
 intro pins s σ H Q I h;exact isTrue_not (ha pins s σ H (λc H1=>Q (!c) H1) I h)
def EH(ta tb:TE):TE:=λσ H Q=>ta σ H λx H1=>∃c,x=.bl c/\if c=true then tb σ H1 Q else Q (.bl false) H1
def OT(ta tb:TE):TE:=λσ H Q=>ta σ H λx H1=>∃c,x=.bl c/\if c=true then Q (.bl true) H1 else tb σ H1 Q
def Dx(ta:TE):TE:=λσ H Q=>ta σ H λx H1=>∃c,x=.bl c/\Q (.bl (!c)) H1
def LK{op}{t:TE}(h:PE X a t):PE X (.BoolOp op [a] pos) t:=λpins s σ H Q I hw=>BoolOp_one (h pins s σ H Q I hw)
def LR(ha:PE X a ta)(hb:PE X (.BoolOp .And (b::rest) pos) tb):PE X (.BoolOp .And (a::b::rest) pos) (EH ta tb):=by
 intro pins s σ H Q I h;refine BoolOp_and (dJ (ha pins s σ H _ I h) λv s1 ⟨x,H1,I1,r1,q1⟩=>?_);obtain⟨c,rfl,q1⟩:=q1;cases r1;refine Vy ?_;cases c with
 | true=>exact hb pins s1 σ H1 Q I1 q1
 | false=>exact⟨.bl false,H1,I1,rfl,q1⟩
def LL(ha:PE X a ta):PE X (.UnaryOp .Not a pos) (Dx ta):=by
 intro pins s σ H Q I h;refine UnaryOp_ (dJ (ha pins s σ H _ I h) λv s1 ⟨x,H1,I1,r1,q1⟩=>?_);obtain⟨c,rfl,q1⟩:=q1;cases r1;exact not_of (Vy ⟨.bl (!c),H1,I1,rfl,q1⟩)
def OV(t:TT)(ta tb:TE):TE:=λσ H Q=>t σ H λc H1=>if c=true then ta σ H1 Q else tb σ H1 Q
def FD{c:Expr}(hc:PT X c tA)(ha:PE X a ta)(hb:PE X b tb):PE X (.IfExp c a b pos) (OV tA ta tb):=by
 intro pins s σ H Q I h;refine wpAny_IfExp (dJ (hc pins s σ H _ I h) λd s1 ⟨H1,I1,q1⟩=>?_);cases d with
 | true=>exact ha pins s1 σ H1 Q I1 q1
 | false=>exact hb pins s1 σ H1 Q I1 q1
end
def c6(K:Wb)(H:Hp)(a:Addr)(xs:List V):Prop:=
 Rd H a (.lst xs) ∨
  ∃(o:Obj) (its:Array Value) (n:Nat),K.lookup a=some o/\o.cls=.type "list"/\o.dict=none/\o.data=.seq its n/\its.size<=sizeLine/\cH xs its.toList
def de(K:Wb)(H:Hp)(a:Addr)(xs:List V):Prop:=
 Rd H a (.tup xs) ∨
  ∃(o:Obj) (its:Array Value) (n:Nat),K.lookup a=some o/\o.cls=.type "tuple"/\o.data=.seq its n/\its.size<=sizeLine/\cH xs its.toList
def Ol:Value->Option V
 | .none=>some .non
 | .bool b=>some (.bl b)
 | .int i _=>some (.int i)
 | .str x _=>some (.str x)
 | .bytes b _=>some (.byt b)
 | .float b _=>some (.flt b)
 | .ref a=>some (.ref a)
 | .type n=>some (.ty n)
 | _=>none
def RelV.abs{x:V}{u:Value}(r:RelV x u):Ol u=some x:=by
 cases x with
 | non=>cases r;rfl
 | bl _=>cases r;rfl
 | int _=>obtain⟨t,rfl⟩:=r;rfl
 | str _=>obtain⟨t,rfl⟩:=r;rfl
 | byt _=>obtain⟨t,rfl⟩:=r;rfl
 | flt _=>obtain⟨t,rfl⟩:=r;rfl
 | ref _=>cases r;rfl
 | ty _=>cases r;rfl
def RelV.inj{x y:V}{u:Value}(r:RelV x u)(q:RelV y u):x=y:=bI (r.abs.symm.trans q.abs)
def cH.inj:∀{xs ys:List V} {us:List Value},cH xs us->cH ys us->xs=ys
 | _,_,_,.nil,.nil=>rfl
 | _,_,_,.cons r t,.cons r' t'=>by rw[r.inj r',cH.inj t t']
section
variable {X:Cx} {pins:List (Addr×Obj)} {σ:St} {H:Hp} {s:Shared} {a:Addr} {xs ys:List V}
def c6.of{K:Wb}(h:H a=some (.lst xs)):c6 K H a xs:=.inl (.inl h)
def de.of{K:Wb}(h:H a=some (.tup xs)):de K H a xs:=.inl (.inl h)
def bX.list(I:bX X pins σ H s)(h:c6 X.K H a xs):∃its:List Value,cH xs its/\PlainL s.heap a its.toArray/\xs.length<=sizeLine:=by
 rcases h with h | ⟨o,its,n,hk,hc,hd,hs,hz,r⟩
 ·obtain⟨z,its,n,r,e⟩:=h.ok I.hok;exact⟨its,r,⟨_,n,e,rfl,rfl,rfl⟩,z⟩
 ·refine⟨its.toList,r,⟨o,n,I.kIn a o hk,hc,hd,by simpa using hs⟩,?_⟩;have e:=r.length;simp only[d8] at e;lia
def bX.tuple(I:bX X pins σ H s)(h:de X.K H a xs):∃its:List Value,cH xs its/\IsTup s.heap a its.toArray/\xs.length<=sizeLine:=by
 rcases h with h | ⟨o,its,n,hk,hc,hs,hz,r⟩
 ·obtain⟨z,its,r,p⟩:=h.ok I.hok;exact⟨its,r,p,z⟩
 ·refine⟨its.toList,r,⟨o,I.kIn a o hk,hc,n,by simpa using hs⟩,?_⟩;have e:=r.length;simp only[d8] at e;lia
def bX.list_inj(I:bX X pins σ H s)(h:c6 X.K H a xs)(h':c6 X.K H a ys):xs=ys:=by
 obtain⟨its,r,⟨o,n,e,_,_,d⟩,_⟩:=I.list h;obtain⟨its',r',⟨o',n',e',_,_,d'⟩,_⟩:=I.list h';rw[e] at e';cases e';rw[d] at d';injection d' with d1 _
 have:its=its':=by simpa using congrArg Array.toList d1
 subst this;exact r.inj r'
def bX.tuple_inj(I:bX X pins σ H s)(h:de X.K H a xs)(h':de X.K H a ys):xs=ys:=by
 obtain⟨its,r,⟨o,e,_,n,d⟩,_⟩:=I.tuple h;obtain⟨its',r',⟨o',e',_,n',d'⟩,_⟩:=I.tuple h';rw[e] at e';cases e';rw[d] at d';injection d' with d1 _
 have:its=its':=by simpa using congrArg Array.toList d1
 subst this;exact r.inj r'
end
abbrev Cx.wish (X:Cx) (E:Value->Shared->Prop):Cx:={ X with xe:=E }
abbrev Cx.nox (X:Cx):Cx:=X.wish λ_ _=>False
def Cx.Ok.wish{X:Cx}(ok:X.Ok)(E:Value->Shared->Prop):(X.wish E).Ok:=
 ⟨ok.mod,ok.kind,ok.glob,ok.blt,ok.above,ok.inj,ok.has,ok.cab,ok.hd,ok.frames,ok.stk,ok.exf,ok.bs,ok.bsz,ok.noex,ok.exfs,ok.funs,ok.frf⟩
def Cx.Ok.unwish{X:Cx}{E:Value->Shared->Prop}(ok:(X.wish E).Ok):X.Ok:=
 ⟨ok.mod,ok.kind,ok.glob,ok.blt,ok.above,ok.inj,ok.has,ok.cab,ok.hd,ok.frames,ok.stk,ok.exf,ok.bs,ok.bsz,ok.noex,ok.exfs,ok.funs,ok.frf⟩
section
variable {X:Cx} {pins:List (Addr×Obj)} {σ:St} {H:Hp} {s:Shared} {E:Value->Shared->Prop}
def bX.wish(I:bX X pins σ H s)(E:Value->Shared->Prop):bX (X.wish E) pins σ H s:=⟨I.ok.wish E,I.os,I.bare,I.base,I.loc,I.cell,I.free,I.freeC,I.pin,I.hok,I.len⟩
def bX.unwish(I:bX (X.wish E) pins σ H s):bX X pins σ H s:=⟨I.ok.unwish,I.os,I.bare,I.base,I.loc,I.cell,I.free,I.freeC,I.pin,I.hok,I.len⟩
def SP.unwish{D:Ends}{f:Flow}{s':Shared}(h:SP (X.wish E) pins D f s'):SP X pins D f s':=by
 cases f with
 | next=>obtain⟨σ',H',I,q⟩:=h;exact⟨σ',H',I.unwish,q⟩
 | brk=>obtain⟨σ',H',I,q⟩:=h;exact⟨σ',H',I.unwish,q⟩
 | cont=>obtain⟨σ',H',I,q⟩:=h;exact⟨σ',H',I.unwish,q⟩
 | ret u=>obtain⟨v,σ',H',I,r,q⟩:=h;exact⟨v,σ',H',I.unwish,r,q⟩
def PT.nox{e:Expr}{t:TT}(h:PT X.nox e t):PT X e t:=λpins s σ H Q I hw=>
 wpAny_mono (h pins s σ H Q (I.wish _) hw) (λ_ _ ⟨H',I',q⟩=>⟨H',I'.unwish,q⟩) λ_ _ z=>False.elim z
def vJ.nox{st:List Stmt}{t:TS}(h:vJ X.nox st t):vJ X st t:=λpins s σ H D I hw=>
 wpAny_mono (h pins s σ H D (I.wish _) hw) (λ_ _ q=>q.unwish) λ_ _ z=>False.elim z
end
section
variable {X:Cx} {st:Stmt} {rest:List Stmt} {t u:TS} {e:Expr} {te:TE} {pos:Pos}
def Dz:TS:=λD σ H=>D.nx σ H
def KY(t u:TS):TS:=λD σ H=>t { D with nx:=u D } σ H
def Hc:vJ X [] Dz:=λ_ _ σ H _ I h=>Vz ⟨σ,H,I,h⟩
def Er(h1:PS X st t)(h2:vJ X rest u):vJ X (st::rest) (KY t u):=by
 intro pins s σ H D I h;refine WA (dJ (h1 pins s σ H { D with nx:=u D } I h) λf s1 q=>?_);cases f with
 | next=>
  obtain⟨σ',H',I',q⟩:=q;exact h2 pins s1 σ' H' D I' q
 | ret v=>exact q
 | brk=>exact q
 | cont=>exact q
def Ha(h1:PS X st t):vJ X [st] t:=by
 intro pins s σ H D I h;refine WA (dJ (h1 pins s σ H D I h) λf s1 q=>?_);cases f with
 | next=>exact Vz q
 | ret v=>exact q
 | brk=>exact q
 | cont=>exact q
def K5:TS:=λD σ H=>D.bk σ H
def Mo:TS:=λD σ H=>D.ct σ H
def bX.quiet{pins:List (Addr×Obj)}{σ:St}{H:Hp}{s:Shared}(I:bX X pins σ H s):interactive X.env=false:=by simp[interactive,I.ok.kind]
def ED(te:TE):TS:=λD σ H=>te σ H λ_ H1=>D.nx σ H1
def Hg(he:PE X e te)(hs:swapsWith e none pos.line X.env=pure false:=by rfl):PS X (.Expr e pos) (ED te):=by
 intro pins s σ H D I h;exact wpAny_Expr_any (dJ (he pins s σ H _ I h) λv s1 ⟨x,H1,I1,r1,q1⟩=>⟨σ,H1,I1,q1⟩) I.quiet hs
def K0(te:TE):TS:=λD σ H=>te σ H D.rt
def Ku(he:PE X e te):PS X (.Return (some e) pos) (K0 te):=by
 intro pins s σ H D I h;exact wpAny_Return_some (dJ (he pins s σ H _ I h) λv s1 ⟨x,H1,I1,r1,q1⟩=>⟨x,σ,H1,I1,r1,q1⟩)
def Mn:TS:=λD _ H=>D.rt .non H
def K2(c:TT)(t u:TS):TS:=λD σ H=>c σ H λb H1=>if b=true then t D σ H1 else u D σ H1
def NL{c:Expr}{a b:List Stmt}{tc:TT}(hc:PT X c tc)(ha:vJ X a t)(hb:vJ X b u):PS X (.If c a b pos) (K2 tc t u):=by
 intro pins s σ H D I h;refine wpAny_If (dJ (hc pins s σ H _ I h) λd s1 ⟨H1,I1,q1⟩=>?_);cases d with
 | true=>exact ha pins s1 σ H1 D I1 q1
 | false=>exact hb pins s1 σ H1 D I1 q1
def EA:TS:=λ_ _ _=>False
def Eu:PS X st EA:=λ_ _ _ _ _ _ h=>h.elim
end
abbrev TG:=V->St->Hp->(St->Hp->Prop)->Prop
abbrev DO:=List V->St->Hp->(St->Hp->Prop)->Prop
def PG(X:Cx)(target:Expr)(t:TG):Prop:=
 ∀(pins:List (Addr×Obj)) (s:Shared) (σ:St) (H:Hp) (v:V) (u:Value) (Q:St->Hp->Prop),bX X pins σ H s->RelV v u->t v σ H Q →
  wpAny (model X.prog X.w) X.A (assign target X.env u) (λ_ s'=>∃σ' H',bX X pins σ' H' s'/\Q σ' H') X.xe s
def Nc(X:Cx)(ts:List Expr)(t:DO):Prop:=
 ∀(pins:List (Addr×Obj)) (s:Shared) (σ:St) (H:Hp) (vs:List V) (us:List Value) (Q:St->Hp->Prop),bX X pins σ H s->cH vs us->t vs σ H Q →
  wpAny (model X.prog X.w) X.A (assignInOrder ((assignEach ts X.env).map (·.2)) us) (λ_ s'=>∃σ' H',bX X pins σ' H' s'/\Q σ' H') X.xe s
abbrev G4:=V->V->V->Hp->(Hp->Prop)->Prop
def MA(X:Cx)(t:G4):Prop:=
 ∀(pins:List (Addr×Obj)) (s:Shared) (σ:St) (H:Hp) (o i v:V) (ov iv u:Value) (Q:Hp->Prop),bX X pins σ H s->RelV o ov->RelV i iv->RelV v u->t o i v H Q →
  wpAny (model X.prog X.w) X.A (setItem ov iv u) (λ_ s'=>∃H',bX X pins σ H' s'/\Q H') X.xe s
abbrev MT:=V->V->Hp->VK->Prop
def OJ(X:Cx)(op:Operator)(t:MT):Prop:=
 ∀(pins:List (Addr×Obj)) (s:Shared) (σ:St) (H:Hp) (x y:V) (v u:Value) (Q:VK),bX X pins σ H s->RelV x v->RelV y u->t x y H Q →
  wpAny (model X.prog X.w) X.A (inplaceOp op v u) (EP X pins σ Q) X.xe s
section
variable {X:Cx} {pos:Pos}
def nP(i:Nat):TG:=λv σ H Q=>Q (σ.set i (some v)) H
def Hr{i:Nat}{x:Str}(hN:X.N.Nodup)(hi:X.N[i]? = some x)(hx:Loc X.env.scope x)(hf:X.fn x=true\/X.env.scope.names.lookup x=some .local:=by first | exact .inl rfl | exact .inr rfl | assumption):PG X (.Name x pos) (nP i):=by
 intro pins s σ H v u Q I r h;exact wpAny_assign_Name (qR I hN hi hx r (λs' I'=>⟨_,H,I',h⟩) hf)
def Ln:DO:=λvs σ H Q=>vs=[]/\Q σ H
def GA(t:TG)(u:DO):DO:=λvs σ H Q=>∃v r,vs=v::r/\t v σ H λσ' H'=>u r σ' H' Q
def Hq:Nc X [] Ln:=by
 intro pins s σ H vs us Q I r h;obtain⟨e,h⟩:=h;subst e;cases r;exact assignInOrder_nil ⟨σ,H,I,h⟩
def Ey{e:Expr}{es:List Expr}{t:TG}{u:DO}(h1:PG X e t)(h2:Nc X es u)
  (hs:(assignEach (e::es) X.env).map (·.2)=assign e X.env::(assignEach es X.env).map (·.2):=by rfl):Nc X (e::es) (GA t u):=by
 intro pins s σ H vs us Q I r h;obtain⟨v,vr,e1,h⟩:=h;subst e1;cases r with
 | cons r rr=>
  rw[hs];refine assignInOrder_cons (dJ (h1 pins s σ H _ _ _ I r h) λ_ s1 ⟨σ1,H1,I1,q1⟩=>?_);exact h2 pins s1 σ1 H1 _ _ Q I1 rr q1
def Ll(K:Wb)(n:Nat)(t:DO):TG:=λv σ H Q=>∃a xs,v=.ref a/\de K H a xs/\xs.length=n/\t xs σ H Q
def LC{es:List Expr}{k:Nat}{t:DO}{n:Nat}(hc:X.calm=true)(h:Nc X es t)
  (hn:(assignEach es X.env).length=n:=by rfl) (hst:(assignEach es X.env).findIdx? (·.1)=none:=by rfl):PG X (.Tuple es k pos) (Ll X.K n t):=by
 intro pins s σ H v u Q I r hw;obtain⟨a,xs,e1,hq,hl,hw⟩:=hw;subst e1;cases r;obtain⟨its,rv,ht,hz⟩:=I.tuple hq;refine assign_Tuple_tuple (I.ok.hd hc) ht (by simp[hn,<-hl,rv.length]) hst λh' hx=>?_;have I1:bX X pins σ H { s with heap:=h' }:=I.kept (t':=s.toks) λb o e=>hx b o (aV (aN e)) e;exact h pins _ σ H xs _ Q I1 (by simpa using rv) hw
def Lm(to ti:TE)(t:G4):TG:=λv σ H Q=>to σ H λo H1=>ti σ H1 λi H2=>t o i v H2 λH3=>Q σ H3
def LD{o i:Expr}{to ti:TE}{t:G4}(ho:PE X o to)(hi:PE X i ti)(hs:MA X t)
  (ha:∀v,assign (.Subscript o i pos) X.env v=(do
   let ov <-holding [v] (eval o X.env)
   let iv <-holding [v,ov] (eval i X.env)
   standAt pos
   holding [v,ov,iv] (setItem ov iv v)
   release [v,ov,iv] []):=by intro _;rfl):PG X (.Subscript o i pos) (Lm to ti t):=by
 intro pins s σ H v u Q I r h;rw[ha];refine wpAny_bind (WB (dJ (ho pins s σ H _ I h) λov s1 ⟨x,H1,I1,r1,q1⟩=>?_));refine wpAny_bind (WB (dJ (hi pins s1 σ H1 _ I1 q1) λiv s2 ⟨y,H2,I2,r2,q2⟩=>?_));refine wpAny_bind (WC (wpAny_bind (WB (dJ (hs pins s2 σ H2 x y v ov iv u _ I2 r1 r2 r q2) λ_ s3 ⟨H3,I3,q3⟩=>?_))));exact wpAny_release ⟨σ,H3,I3,q3⟩
def zC(te:TE)(g:TG):TS:=λD σ H=>te σ H λx H1=>g x σ H1 D.nx
def Ky{tg e:Expr}{te:TE}{g:TG}(he:PE X e te)(hg:PG X tg g)(hs:swapsWithSole [tg] e pos.line X.env=pure false:=by rfl)(hw:swappedStores [tg] e X.env=pure none:=by rfl)
  (h1:(assignEach [tg] X.env).map (·.2)=[assign tg X.env]:=by rfl):PS X (.Assign [tg] e pos) (zC te g):=by
 intro pins s σ H D I h;refine wpAny_Assign_stores (dJ (he pins s σ H _ I h) λv s1 ⟨x,H1,I1,r1,q1⟩=>?_) hs hw;rw[h1];exact dJ (hg pins s1 σ H1 x v _ I1 r1 q1) λ_ s2 q=>q
def Kt{i:Nat}{x:Str}{e:Expr}{te:TE}{pos':Pos}(hN:X.N.Nodup)(hi:X.N[i]? = some x)(hx:Loc X.env.scope x)(he:PE X e te)(hs:swapsWith e (some (.Name x pos')) pos.line X.env=pure false:=by rfl)(hf:X.fn x=true\/X.env.scope.names.lookup x=some .local:=by first | exact .inl rfl | exact .inr rfl | assumption):
  PS X (.Assign [.Name x pos'] e pos) (zC te (nP i)):=by
 intro pins s σ H D I h;refine wpAny_Assign_Name (dJ (he pins s σ H _ I h) λv s1 ⟨y,H1,I1,r1,q1⟩=>?_) hs;exact qR I1 hN hi hx r1 (λs2 I2=>⟨_,H1,I2,q1⟩) hf
def K7(i:Nat)(te:TE)(ti:MT):TS:=λD σ H=>∃x,σ[i]? = some (some x)/\te σ H λy H1=>ti x y H1 λz H2=>D.nx (σ.set i (some z)) H2
def Kx{i:Nat}{x:Str}{e:Expr}{te:TE}{op:Operator}{ti:MT}{pos':Pos}(hN:X.N.Nodup)(hi:X.N[i]? = some x)(hx:Loc X.env.scope x)(he:PE X e te)(ho:OJ X op ti)(hf:X.fn x=true\/X.env.scope.names.lookup x=some .local:=by first | exact .inl rfl | exact .inr rfl | assumption):
  PS X (.AugAssign (.Name x pos') op e pos) (K7 i te ti):=by
 intro pins s σ H D I h;obtain⟨v,e1,h⟩:=h;obtain⟨m,hn,hl⟩:=I.loc;have vis:MS X.env.scope x:=by rcases hx with k | k;exact .inl k;exact .inr (.inl k)
 obtain⟨u,r,l⟩:=hl i x v hi e1 vis;refine wpAny_AugAssign_Name ?_;have go:wpAny (model X.prog X.w) X.A (eval e X.env) (λw s₂=>wpAny (model X.prog X.w) X.A (inplaceOp op u w) (λr s₃=>wpAny (model X.prog X.w) X.A (storeName X.env x r) (λ_=>SP X pins D .next) X.xe s₃) X.xe s₂) X.xe s:=by
  refine dJ (he pins s σ H _ I h) λw s1 ⟨y,H1,I1,r1,q1⟩=>?_;refine dJ (ho pins s1 σ H1 v y u w _ I1 r r1 q1) λz s2 ⟨zv,H2,I2,r2,q2⟩=>?_;exact qR I2 hN hi hx r2 (λs3 I3=>⟨_,H2,I3,q2⟩) hf
 rcases l with ⟨hk,hm⟩ | ⟨hk,c,hc,hcell⟩
 ·exact wpAny_loadName_local I.ok.kind hk hn hm go
 ·rcases hk with hk | hk
  ·exact wpAny_loadName_cell I.ok.kind hk hc hcell go
  ·rcases hx with k | k
   ·have:X.env.scope.names.lookup x=some .free:=hk;rw[k] at this;cases this
   ·have:X.env.scope.names.lookup x=some .free:=hk;rw[k] at this;cases this
def Od(f:Int->Int->Int):MT:=λx y H Q=>∃i j,x=.int i/\y=.int j/\Q (.int (f i j)) H
def AD:OJ X .Add (Od λi j=>i+j):=by
 intro pins s σ H x y v u Q I r1 r2 h;obtain⟨i,j,e1,e2,q⟩:=h;subst e1;subst e2;obtain⟨t,rfl⟩:=r1;obtain⟨t',rfl⟩:=r2;exact iadd_int ⟨.int _,H,I.tok _,⟨_,rfl⟩,q⟩
def Fp:OJ X .Sub (Od λi j=>i-j):=by
 intro pins s σ H x y v u Q I r1 r2 h;obtain⟨i,j,e1,e2,q⟩:=h;subst e1;subst e2;obtain⟨t,rfl⟩:=r1;obtain⟨t',rfl⟩:=r2;exact isub_int ⟨.int _,H,I.tok _,⟨_,rfl⟩,q⟩
end
section
variable {X:Cx} {pos:Pos}
def Du(c:TT)(tb:TS):TS:=λD σ H=>∃W:Nat->St->Hp->Prop,(∃m,W m σ H)/\∀m σ H,W m σ H →
 c σ H λb H1=>if b=true then ∃N:St->Hp->Prop,(∀σ' H',N σ' H'->∃m',m'<m/\W m' σ' H')/\tb { D with nx:=N,ct:=N,bk:=D.nx } σ H1 else D.nx σ H1
def Es{c:Expr}{body:List Stmt}{tc:TT}{tb:TS}(hp:PassesOwn (model X.prog X.w) X.A X.env X.xe)(hc:PT X c tc)(hb:vJ X body tb):PS X (.While c body [] pos) (Du tc tb):=by
 intro pins s σ H D I h;obtain⟨W,⟨m0,w0⟩,turn⟩:=h;refine wpAny_While (codeAny_whileLoop (λn s'=>∃σ' H',bX X pins σ' H' s'/\W n σ' H') ?_ m0 ⟨σ,H,I,w0⟩);rintro n s1 ⟨σ1,H1,I1,w1⟩;refine WD hp (dJ (hc pins s1 σ1 H1 _ I1 (turn n σ1 H1 w1)) λb s2 ⟨H2,I2,q2⟩=>?_);cases b with
 | true=>
  obtain⟨N,hN,q2⟩:=q2;rw[W5 rfl];refine WD hp (dJ (hb pins s2 σ1 H2 _ I2 q2) λf s3 q3=>?_);cases f with
  | next=>
   obtain⟨σ3,H3,I3,n3⟩:=q3;obtain⟨m',hm,w3⟩:=hN σ3 H3 n3;exact⟨m',hm,σ3,H3,I3,w3⟩
  | cont=>
   obtain⟨σ3,H3,I3,n3⟩:=q3;obtain⟨m',hm,w3⟩:=hN σ3 H3 n3;exact⟨m',hm,σ3,H3,I3,w3⟩
  | brk=>exact q3
  | ret v=>exact q3
 | false=>
  rw[W4 aq];exact Vz ⟨σ1,H2,I2,q2⟩
end
structure It where
 go:Nat->Hp->Prop
 yld:Nat->Hp->V->Hp->Prop
 stop:Nat->Hp->Prop
def oU(X:Cx)(pins:List (Addr×Obj))(H:Hp)(b:Addr):Prop:=
 H b=none/\b≠X.env.locals/\b∉X.fs/\(b∈X.ex\/X.s₀.heap.objs.size<=b)/\(∀x c,X.env.cells.lookup x=some c->c≠b)/\∀p∈X.pn++pins,p.1≠b
def bX.fpOk{X:Cx}{pins:List (Addr×Obj)}{σ:St}{H H':Hp}{s:Shared}{b:Addr}(I:bX X pins σ H s)(hb:s.heap.objs.size<=b)(hn:H' b=none):oU X pins H' b:=by
 refine⟨hn,iD (aT I.lt hb),I.nofs hb,.inr (b9 I.sz hb),λx c e z=>?_,λp hp z=>?_⟩
 ·obtain⟨v,q⟩:=I.cell x c e;exact absurd (aT q.lt (by rw[z];exact hb)) (cS _)
 ·exact absurd (aT (aN (I.pin p hp).1) (by rw[z];exact hb)) (cS _)
structure Turn (P : Program) (w : World) (K : Wb) (tg : Expr) (J : It) (fp : List Addr) (it : Addr) (tn : Nat → Heap → Prop) : Prop where
  mem : it ∈ fp
  obj : ∀ i h, tn i h → ∀ b ∈ fp, ∃ o, h.get? b = some o ∧ ∀ v, o.data ≠ .cell v
  keep : ∀ i h h', tn i h → (∀ b ∈ fp, ∀ o, h.get? b = some o → h'.get? b = some o) → tn i h'
  item : ∀ (X : Cx), X.prog = P → X.w = w → X.K = K → X.calm = true → ∀ (i : Nat) (pins : List (Addr × Obj)) (s : Shared) (σ : St) (H : Hp) (E : Value → Shared → Prop), bX X pins σ H s → (∀ b ∈ fp, oU X pins H b) → tn i s.heap → J.go i H →
    wpAny (model P w) X.A (pyNext (.ref it)) (fun r s1 => ∃ u, r = some u ∧
      wpAny (model P w) X.A (letOwnedTupleGo tg (.ref it) u) (fun _ s2 => ∃ x H', bX X pins σ H' s2 ∧ RelV x u ∧ J.yld i H x H' ∧ tn (i + 1) s2.heap ∧ ∀ b ∈ fp, H' b = none) E s1) E s
  done : ∀ (X : Cx), X.prog = P → X.w = w → X.K = K → X.calm = true → ∀ (i : Nat) (pins : List (Addr × Obj)) (s : Shared) (σ : St) (H : Hp) (E : Value → Shared → Prop), bX X pins σ H s → (∀ b ∈ fp, oU X pins H b) → tn i s.heap → J.stop i H →
    wpAny (model P w) X.A (pyNext (.ref it)) (fun r s1 => r = none ∧ bX X pins σ H s1) E s
  self : ∀ (A : Around) (i : Nat) (s : Shared) (Q : Value → Shared → Prop) (E : Value → Shared → Prop), tn i s.heap → Q (.ref it) s → wpAny (model P w) A (pyIter (.ref it)) Q E s
abbrev TI:=St->Hp->(It->Hp->Prop)->Prop
def Oo(X:Cx)(pins:List (Addr×Obj))(σ:St)(tg:Expr)(R:It->Hp->Prop)(itv:Value)(s2:Shared):Prop:=
 ∃(it:Addr) (fp:List Addr) (tn:Nat->Heap->Prop) (J:It) (H':Hp),itv=.ref it/\bX X pins σ H' s2/\Turn X.prog X.w X.K tg J fp it tn/\tn 0 s2.heap/\(∀b∈fp,oU X pins H' b)/\R J H'
def PI(X:Cx)(tg iter:Expr)(wi:TI):Prop:=
 ∀(pins:List (Addr×Obj)) (s:Shared) (σ:St) (H:Hp) (R:It->Hp->Prop),bX X pins σ H s->wi σ H R →
  wpAny (model X.prog X.w) X.A (eval iter X.env) (λv s1=>wpAny (model X.prog X.w) X.A (pyIter v) (Oo X pins σ tg R) X.xe s1) X.xe s
def ux {M : Model} {A : Around} {E : Value → Shared → Prop} {s : Shared} {tg : Expr} {it : Addr} {u : Value} {o : Obj} {n : String} {vs : Array Value} {Q : Unit → Shared → Prop} (ho : s.heap.get? it = some o) (hc : o.cls = .type n) (hd : o.data = .fields vs)
    (hn : ["enumerate", "zip", "dict_itemiterator", "dict_reverseitemiterator", "odict_iterator", "itertools.zip_longest", "itertools.pairwise"].contains n = false) (hQ : Q () s) : wpAny M A (letOwnedTupleGo tg (.ref it) u) Q E s := by
  unfold letOwnedTupleGo
  cases tg <;> first
    | exact WE hQ
    | (cases u <;> first
        | exact WE hQ
        | (refine wpAny_bind (wpAny_load ho ?_)
           rw [hc, hd]
           show wpAny M A (if (["enumerate", "zip", "dict_itemiterator", "dict_reverseitemiterator", "odict_iterator", "itertools.zip_longest", "itertools.pairwise"].contains n && vs[0]? == some (rawInt _)) = true then _ else _) Q E s
           rw [W4 (by intro h; rw [hn, Bool.false_and] at h; cases h)]
           exact WE hQ))
def Gf(K:Wb)(a:Addr):It:=
 ⟨λi H=>∃xs x,c6 K H a xs/\xs[i]? = some x,λi H x H'=>H'=H/\∀xs,c6 K H a xs->xs[i]? = some x,λi H=>∃xs,c6 K H a xs/\xs.length<=i⟩
def Nj(K:Wb)(a:Addr):It:=
 ⟨λi H=>∃xs x,de K H a xs/\xs[i]? = some x,λi H x H'=>H'=H/\∀xs,de K H a xs->xs[i]? = some x,λi H=>∃xs,de K H a xs/\xs.length<=i⟩
def DP(lo:Int)(n:Nat):It:=⟨λi _=>i<n,λi H x H'=>H'=H/\x=.int (lo+i),λi _=>n<=i⟩
def Bt {P : Program} {w : World} {K : Wb} {tg : Expr} (a it : Addr) : Turn P w K tg (Gf K a) [it] it (fun i h => h.IsListIter it a i) where
  mem := by simp
  obj := fun i h st b hb => by
    have e : b = it := by simpa using hb
    subst e
    obtain ⟨o, e, c, d⟩ := st
    exact ⟨o, e, fun v z => by rw [d] at z; cases z⟩
  keep := fun i h h' st k => st.at fun o e => k it (by simp) o e
  item := by
    intro X hP hw hK hc i pins s σ H E I hf st hg
    subst hP hw hK
    obtain ⟨xs, x, hq, hx⟩ := hg
    obtain ⟨its, rv, p, hz⟩ := I.list hq
    obtain ⟨u, hu, ru⟩ := rv.get hx
    obtain ⟨f0, f1, f2, f3, f4, f5⟩ := hf it (by simp)
    refine wpAny_pyNext_list_item st p.isList (x := u) (by simpa using hu) fun h' st' sb => ?_
    have I1 : bX X pins σ H { s with heap := h' } := I.turned (t' := s.toks) (fun b o hb e => (sb.2 b hb).trans e) f0 f1 f3 f4 f5
    obtain ⟨o, e, c, d⟩ := id st'
    exact ⟨u, rfl, ux (s := { s with heap := h' }) e c d (by decide) ⟨x, H, I1, ru, ⟨rfl, fun ys hy => by rw [I.list_inj hy hq]; exact hx⟩, st', fun b hb => (hf b hb).1⟩⟩
  done := by
    intro X hP hw hK hc i pins s σ H E I hf st hg
    subst hP hw hK
    obtain ⟨xs, hq, hx⟩ := hg
    obtain ⟨its, rv, p, hz⟩ := I.list hq
    obtain ⟨f0, f1, f2, f3, f4, f5⟩ := hf it (by simp)
    have hl := rv.length
    exact wpAny_pyNext_list_end (I.ok.hd hc) st p.isList (by simp; lia) fun h' eb => ⟨rfl, I.turned (t' := s.toks) (fun b o hb e => eb b o hb e) f0 f1 f3 f4 f5⟩
  self := fun _ _ _ _ _ st h => wpAny_pyIter_listiter st h
def yt {P : Program} {w : World} {K : Wb} {tg : Expr} (a it : Addr) : Turn P w K tg (Nj K a) [it] it (fun i h => h.IsTupleIter it a i) where
  mem := by simp
  obj := fun i h st b hb => by
    have e : b = it := by simpa using hb
    subst e
    obtain ⟨o, e, c, d⟩ := st
    exact ⟨o, e, fun v z => by rw [d] at z; cases z⟩
  keep := fun i h h' st k => st.at fun o e => k it (by simp) o e
  item := by
    intro X hP hw hK hc i pins s σ H E I hf st hg
    subst hP hw hK
    obtain ⟨xs, x, hq, hx⟩ := hg
    obtain ⟨its, rv, p, hz⟩ := I.tuple hq
    obtain ⟨u, hu, ru⟩ := rv.get hx
    obtain ⟨f0, f1, f2, f3, f4, f5⟩ := hf it (by simp)
    refine wpAny_pyNext_tuple_item st (show s.heap.IsTuple a its.toArray from p) (x := u) (by simpa using hu) fun h' st' sb => ?_
    have I1 : bX X pins σ H { s with heap := h' } := I.turned (t' := s.toks) (fun b o hb e => (sb.2 b hb).trans e) f0 f1 f3 f4 f5
    obtain ⟨o, e, c, d⟩ := id st'
    exact ⟨u, rfl, ux (s := { s with heap := h' }) e c d (by decide) ⟨x, H, I1, ru, ⟨rfl, fun ys hy => by rw [I.tuple_inj hy hq]; exact hx⟩, st', fun b hb => (hf b hb).1⟩⟩
  done := by
    intro X hP hw hK hc i pins s σ H E I hf st hg
    subst hP hw hK
    obtain ⟨xs, hq, hx⟩ := hg
    obtain ⟨its, rv, p, hz⟩ := I.tuple hq
    obtain ⟨f0, f1, f2, f3, f4, f5⟩ := hf it (by simp)
    have hl := rv.length
    exact wpAny_pyNext_tuple_end (I.ok.hd hc) st (show s.heap.IsTuple a its.toArray from p) (by simp; lia) fun h' eb => ⟨rfl, I.turned (t' := s.toks) (fun b o hb e => eb b o hb e) f0 f1 f3 f4 f5⟩
  self := fun _ _ _ _ _ st h => wpAny_pyIter_tupleiter st h
def yu {P : Program} {w : World} {K : Wb} {tg : Expr} (it : Addr) (lo : Int) (n : Nat) : Turn P w K tg (DP lo n) [it] it (fun i h => IsRangeIter h it (lo + (i : Nat) * 1) ((n : Int) - (i : Nat)) 1) where
  mem := by simp
  obj := fun i h st b hb => by
    have e : b = it := by simpa using hb
    subst e
    exact ⟨_, st, fun v z => by
      have z' : Data.fields _ = Data.cell v := z
      cases z'⟩
  keep := fun i h h' st k => k it (by simp) _ st
  item := by
    intro X hP hw hK hc i pins s σ H E I hf st hg
    subst hP hw hK
    obtain ⟨f0, f1, f2, f3, f4, f5⟩ := hf it (by simp)
    have W := Walks.range (prog := X.prog) (w := X.w) (I.ok.hd hc) it lo 1 n
    refine W.item i s _ _ hg st fun v h' tk hv st' kk => ?_
    obtain ⟨t, rfl⟩ := hv
    have I1 : bX X pins σ H { s with heap := h', toks := tk } := I.turned (fun b o hb e => kk b o (by simpa using hb) e) f0 f1 f3 f4 f5
    refine ⟨_, rfl, ux (s := { s with heap := h', toks := tk }) (n := "range_iterator") st' rfl rfl (by decide) ⟨.int (lo + i), H, I1, ⟨t, ?_⟩, ⟨rfl, rfl⟩, st', fun b hb => (hf b hb).1⟩⟩
    rw [Int.mul_one]
  done := by
    intro X hP hw hK hc i pins s σ H E I hf st hg
    subst hP hw hK
    obtain ⟨f0, f1, f2, f3, f4, f5⟩ := hf it (by simp)
    exact wpAny_pyNext_range_end (I.ok.hd hc) st (by have : n ≤ i := hg; lia) fun h' eb => ⟨rfl, I.turned (t' := s.toks) (fun b o hb e => eb b o hb e) f0 f1 f3 f4 f5⟩
  self := fun _ _ _ _ _ st h => wpAny_pyIter_rangeiter st h
section
variable {X:Cx} {tg:Expr}
def B5(K:Wb)(tl:TE):TI:=λσ H R=>tl σ H λx H1=>∃a,x=.ref a/\(∃xs,c6 K H1 a xs)/\R (Gf K a) H1
def Ic(K:Wb)(tl:TE):TI:=λσ H R=>tl σ H λx H1=>∃a,x=.ref a/\(∃xs,de K H1 a xs)/\R (Nj K a) H1
def Hm{l:Expr}{tl:TE}(hl:PE X l tl):PI X tg l (B5 X.K tl):=by
 intro pins s σ H R I h;refine dJ (hl pins s σ H _ I h) λv s1 ⟨x,H1,I1,r1,q1⟩=>?_;obtain⟨a,e,⟨xs,hq⟩,q⟩:=q1;subst e;cases r1;obtain⟨its,rv,p,hz⟩:=I1.list hq;refine wpAny_pyIter_list p.isList ?_;refine⟨s1.heap.objs.size,[s1.heap.objs.size],_,_,H1,rfl,I1.kept (t':=s1.toks) λb o e=>aA _ e,Bt a _,⟨_,aL _ rfl,rfl,rfl⟩,λb hb=>?_,q⟩;have e:b=s1.heap.objs.size:=by simpa using hb
 subst e;exact I1.fpOk (aI _) (I1.hok.fresh (aI _))
def LA{l:Expr}{tl:TE}(hl:PE X l tl):PI X tg l (Ic X.K tl):=by
 intro pins s σ H R I h;refine dJ (hl pins s σ H _ I h) λv s1 ⟨x,H1,I1,r1,q1⟩=>?_;obtain⟨a,e,⟨xs,hq⟩,q⟩:=q1;subst e;cases r1;obtain⟨its,rv,p,hz⟩:=I1.tuple hq;refine WF (show s1.heap.IsTuple a its.toArray from p) ?_;refine⟨s1.heap.objs.size,[s1.heap.objs.size],_,_,H1,rfl,I1.kept (t':=s1.toks) λb o e=>aA _ e,yt a _,⟨_,aL _ rfl,rfl,rfl⟩,λb hb=>?_,q⟩;have e:b=s1.heap.objs.size:=by simpa using hb
 subst e;exact I1.fpOk (aI _) (I1.hok.fresh (aI _))
def xO{pins:List (Addr×Obj)}{σ:St}{H:Hp}{s:Shared}{R:It->Hp->Prop}{E:Value->Shared->Prop}{lo hi:Int}{t u v:Tok}{tk:Nat}(I:bX X pins σ H s)(h1:-(2 ^ 62)<=lo)(h2:lo<2 ^ 62)(h3:-(2 ^ 62)<=hi)(h4:hi<2 ^ 62)
  (q:R (DP lo (hi-lo).toNat) H):wpAny (model X.prog X.w) X.A (pyIter (.ref s.heap.objs.size)) (Oo X pins σ tg R) E { s with heap:=s.heap.push { cls:=.type "range",data:=.fields #[.int lo t,.int hi u,.int 1 v] },toks:=tk }:=by
 refine WG (IsRange.new ..) (small_one h1 h2 h3 h4) ?_;have I1:bX X pins σ H { s with heap:=s.heap.push { cls:=.type "range",data:=.fields #[.int lo t,.int hi u,.int 1 v] },toks:=tk }:=I.kept λb o e=>aA _ e;refine⟨(s.heap.push { cls:=.type "range",data:=.fields #[.int lo t,.int hi u,.int 1 v] }).objs.size,[(s.heap.push { cls:=.type "range",data:=.fields #[.int lo t,.int hi u,.int 1 v] }).objs.size],_,_,H,rfl,
  I1.kept (t':=tk) λb o e=>aA _ e,yu _ lo (hi-lo).toNat,?_,λb hb=>?_,q⟩
 ·have e1:lo+((0:Nat):Int)*1=lo:=by simp
  have e2:(((hi-lo).toNat:Nat):Int)-((0:Nat):Int)=Builtin.Range.rangeSize lo hi 1:=by rw[rangeSize_one];split<;>lia
  show IsRangeIter _ _ (lo+((0:Nat):Int)*1) ((((hi-lo).toNat:Nat):Int)-((0:Nat):Int)) 1;rw[e1,e2];exact aL _ rfl
 ·have e:b=(s.heap.push { cls:=.type "range",data:=.fields #[.int lo t,.int hi u,.int 1 v] }).objs.size:=by simpa using hb
  subst e;exact I1.fpOk (aI _) (I1.hok.fresh (aI _))
def B4(ta:TA):TI:=λσ H R=>ta σ H λvs H1=>∃j:Int,vs=[.int j]/\-(2 ^ 62)<=j/\j<2 ^ 62/\R (DP 0 j.toNat) H1
def B3(ta:TA):TI:=λσ H R=>ta σ H λvs H1=>∃i j:Int,vs=[.int i,.int j]/\(-(2 ^ 62)<=i/\i<2 ^ 62/\-(2 ^ 62)<=j/\j<2 ^ 62)/\R (DP i (j-i).toNat) H1
def CY {a:Expr} {ta:TA} {p pos:Pos} (hg:Gl X "range") (hm:X.mg "range"=none) (ha:PA X [a] ta) (hs:starEach [a] X.env=[(false,eval a X.env)]:=by rfl):PI X tg (.Call (.Name "range" p) [a] [] pos) (B4 ta):=by
 intro pins s σ H R I h;refine Call_ (jm I hg hm boot_range (bW (dJ (ha pos pins s σ H _ I h) λus s1 ⟨vs,H1,I1,r1,q1⟩=>?_) hs rfl));obtain⟨j,e,q1,q2,q⟩:=q1;subst e;cases r1 with
 | cons r rr=>
  cases rr;obtain⟨t,rfl⟩:=r;exact call_range_1 (xO I1 (by lia) (by lia) q1 q2 (by simpa using q))
def CW {a b:Expr} {ta:TA} {p pos:Pos} (hg:Gl X "range") (hm:X.mg "range"=none) (ha:PA X [a,b] ta) (hs:starEach [a,b] X.env=[(false,eval a X.env),(false,eval b X.env)]:=by rfl) (hs2:starEach [b] X.env=[(false,eval b X.env)]:=by rfl) :
  PI X tg (.Call (.Name "range" p) [a,b] [] pos) (B3 ta):=by
 intro pins s σ H R I h;refine Call_ (jm I hg hm boot_range (bW (dJ (ha pos pins s σ H _ I h) λus s1 ⟨vs,H1,I1,r1,q1⟩=>?_) (by rw[hs,hs2]) (by rw[hs2];rfl)));obtain⟨i,j,e,⟨q1,q2,q3,q4⟩,q⟩:=q1;subst e;cases r1 with
 | cons r rr=>
  cases rr with
  | cons r' rr=>
   cases rr;obtain⟨t,rfl⟩:=r;obtain⟨t',rfl⟩:=r';exact call_range_2 (xO I1 q1 q2 q3 q4 q)
def pJ(wi:TI)(g:TG)(tb:TS):TS:=λD σ H=>wi σ H λJ H1=>∃W:Nat->Nat->St->Hp->Prop,(∃m,W 0 m σ H1)/\∀i m σ H,W i m σ H →
 (J.stop i H/\D.nx σ H)\/(J.go i H/\∃N:St->Hp->Prop,(∀σ' H',N σ' H'->∃m',m'<m/\W (i+1) m' σ' H')/\∀x H',J.yld i H x H'->g x σ H' λσ2 H2=>tb { D with nx:=N,ct:=N,bk:=D.nx } σ2 H2)
def l6(fp:List Addr)(h:Heap):List (Addr×Obj):=fp.filterMap λb=>(h.get? b).map λo=>(b,o)
def jS{fp:List Addr}{h:Heap}{b:Addr}{o:Obj}(hb:b∈fp)(e:h.get? b=some o):(b,o)∈l6 fp h:=km.mpr ⟨b,hb,by rw[e];rfl⟩
def uo{fp:List Addr}{h:Heap}{p:Addr×Obj}(hp:p∈l6 fp h):p.1∈fp/\h.get? p.1=some p.2:=by
 obtain⟨b,hb,e⟩:=km.mp hp;cases q:h.get? b with
 | none=>rw[q] at e;cases e
 | some o=>
  rw[q] at e;have e':(b,o)=p:=bI e;subst e';exact⟨hb,q⟩
def bX.pinned{pins:List (Addr×Obj)}{σ:St}{H:Hp}{s:Shared}{fp:List Addr}(I:bX X pins σ H s)(hf:∀b∈fp,oU X pins H b)(ho:∀b∈fp,∃o,s.heap.get? b=some o/\∀v,o.data≠.cell v):bX X (pins++l6 fp s.heap) σ H s:=
 I.pins_of λp hp=>(aQ.mp hp).elim (λz=>I.pin p (af _ z)) λz=>by
  obtain⟨hb,e⟩:=uo z;obtain⟨f0,f1,f2,_⟩:=hf p.1 hb;obtain⟨o,e',d⟩:=ho p.1 hb;rw[e] at e';cases e';exact⟨e,f0,f1,f2,d⟩
def bX.unpinned{pins pl:List (Addr×Obj)}{σ:St}{H:Hp}{s:Shared}(I:bX X (pins++pl) σ H s):bX X pins σ H s:=I.pins_of λp hp=>I.pin p (af _ (bV _ hp))
def Kw{iter:Expr}{body:List Stmt}{wi:TI}{g:TG}{tb:TS}{pos:Pos}(hp:PassesOwn (model X.prog X.w) X.A X.env X.xe)(hc:X.calm=true)(hi:PI X tg iter wi)(hg:PG X tg g)(hb:vJ X body tb)
  (hs:∀x,foldedSetIterable iter X.env x=pure x:=by intro _;rfl):PS X (.For tg iter body [] pos) (pJ wi g tb):=by
 intro pins s σ H D I h;refine wpAny_For (dJ (hi pins s σ H _ I h) λv s1 h1=>dJ h1 λitv s2 h2=>?_) hs;obtain⟨it,fp,tn,J,H2,e,I2,T,st2,f2,W,⟨m0,w0⟩,turn⟩:=h2;subst e;have stat:∀{H':Hp},(∀b∈fp,H' b=none)->∀b∈fp,oU X pins H' b:=λhn b hb=>⟨hn b hb,(f2 b hb).2⟩
 refine codeAny_forLoop_any (λn s'=>∃i σ' H',bX X pins σ' H' s'/\tn i s'.heap/\(∀b∈fp,H' b=none)/\W i n σ' H') ?_ m0 ⟨0,σ,H2,I2,st2,λb hb=>(f2 b hb).1,w0⟩;rintro n s3 ⟨i,σ3,H3,I3,st3,fr3,w3⟩;rcases turn i n σ3 H3 w3 with ⟨stop,qn⟩ | ⟨go,N,hN,step⟩
 ·refine WD hp (dJ (T.done X rfl rfl rfl hc i pins s3 σ3 H3 X.xe I3 (stat fr3) st3 stop) λr s4 ⟨hr,I4⟩=>?_);subst hr;exact Vz ⟨σ3,H3,I4,qn⟩
 ·refine WD hp (dJ (T.item X rfl rfl rfl hc i pins s3 σ3 H3 X.xe I3 (stat fr3) st3 go) λr s4 ⟨u,hr,h4⟩=>?_);subst hr;refine WD hp (dJ h4 λ_ s5 ⟨x,H5,I5,r5,y5,st5,fr5⟩=>?_);have I5':=I5.pinned (stat fr5) (T.obj _ _ st5);refine WD hp (dJ (hg _ s5 σ3 H5 x u _ I5' r5 (step x H5 y5)) λ_ s6 ⟨σ6,H6,I6,q6⟩=>?_);refine WD hp (dJ (hb _ s6 σ6 H6 _ I6 q6) λf s7 q7=>?_);have again:∀{σ7:St} {H7:Hp},bX X (pins++l6 fp s5.heap) σ7 H7 s7->N σ7 H7->∃m,m<n/\∃i σ' H',bX X pins σ' H' s7/\tn i s7.heap/\(∀b∈fp,H' b=none)/\W i m σ' H':=fun {σ7 H7} I7 n7=>by
   obtain⟨m',hm,w7⟩:=hN σ7 H7 n7;refine⟨m',hm,i+1,σ7,H7,I7.unpinned,T.keep _ _ _ st5 λb hb o e=>(I7.pin (b,o) (af _ (af _ (jS hb e)))).1,λb hb=>?_,w7⟩;obtain⟨o,e,d⟩:=T.obj _ _ st5 b hb;exact(I7.pin (b,o) (af _ (af _ (jS hb e)))).2.1
  cases f with
  | next=>obtain⟨σ7,H7,I7,n7⟩:=q7;exact again I7 n7
  | cont=>obtain⟨σ7,H7,I7,n7⟩:=q7;exact again I7 n7
  | brk=>obtain⟨σ7,H7,I7,q7⟩:=q7;exact⟨σ7,H7,I7.unpinned,q7⟩
  | ret v=>obtain⟨x7,σ7,H7,I7,r7,q7⟩:=q7;exact⟨x7,σ7,H7,I7.unpinned,r7,q7⟩
end
def tj{K:Wb}{a:Addr}{xs:List V}{g:TG}{tb:TS}{D:Ends}{σ:St}{H:Hp}(Pv:Nat->St->Hp->Prop)(h0:Pv 0 σ H)(hl:∀i σ H,i<=xs.length->Pv i σ H->c6 K H a xs)
  (hs:∀i x σ H,xs[i]? = some x->Pv i σ H->g x σ H λσ2 H2=>tb { D with nx:=Pv (i+1),ct:=Pv (i+1),bk:=D.nx } σ2 H2) (hd:∀σ H,Pv xs.length σ H->D.nx σ H) :
  ∃W:Nat->Nat->St->Hp->Prop,(∃m,W 0 m σ H)/\∀i m σ H,W i m σ H →
   ((Gf K a).stop i H/\D.nx σ H)\/((Gf K a).go i H/\∃N:St->Hp->Prop,(∀σ' H',N σ' H'->∃m',m'<m/\W (i+1) m' σ' H')/\∀x H',(Gf K a).yld i H x H'->g x σ H' λσ2 H2=>tb { D with nx:=N,ct:=N,bk:=D.nx } σ2 H2):=by
 refine⟨λi m σ H=>m=xs.length-i/\i<=xs.length/\Pv i σ H,⟨xs.length,by simp,bU _,h0⟩,?_⟩;rintro i m σ H ⟨rfl,hi,p⟩;have q:=hl i σ H hi p;by_cases hlt:i<xs.length
 ·refine .inr ⟨⟨xs,xs[i],q,by simp[hlt]⟩,Pv (i+1),λσ' H' p'=>⟨xs.length-(i+1),by lia,rfl,hlt,p'⟩,λx H' y=>?_⟩;obtain⟨e,y⟩:=y;subst e;exact hs i x σ _ (y xs q) p
 ·have e:i=xs.length:=by lia
  subst e;exact .inl ⟨⟨xs,q,aI _⟩,hd σ H p⟩
def uy{lo:Int}{n:Nat}{g:TG}{tb:TS}{D:Ends}{σ:St}{H:Hp}(Pv:Nat->St->Hp->Prop)(h0:Pv 0 σ H)
  (hs:∀i σ H,i<n->Pv i σ H->g (.int (lo+i)) σ H λσ2 H2=>tb { D with nx:=Pv (i+1),ct:=Pv (i+1),bk:=D.nx } σ2 H2) (hd:∀σ H,Pv n σ H->D.nx σ H) :
  ∃W:Nat->Nat->St->Hp->Prop,(∃m,W 0 m σ H)/\∀i m σ H,W i m σ H →
   ((DP lo n).stop i H/\D.nx σ H)\/((DP lo n).go i H/\∃N:St->Hp->Prop,(∀σ' H',N σ' H'->∃m',m'<m/\W (i+1) m' σ' H')/\∀x H',(DP lo n).yld i H x H'->g x σ H' λσ2 H2=>tb { D with nx:=N,ct:=N,bk:=D.nx } σ2 H2):=by
 refine⟨λi m σ H=>m=n-i/\i<=n/\Pv i σ H,⟨n,by simp,bU _,h0⟩,?_⟩;rintro i m σ H ⟨rfl,hi,p⟩;by_cases hlt:i<n
 ·refine .inr ⟨hlt,Pv (i+1),λσ' H' p'=>⟨n-(i+1),by lia,rfl,hlt,p'⟩,λx H' y=>?_⟩;obtain⟨e,y⟩:=y;subst e y;exact hs i σ _ hlt p
 ·have e:i=n:=by lia
  subst e;exact .inl ⟨aI _,hd σ H p⟩
abbrev R2:=V->V->Hp->VK->Prop
def jt(X:Cx)(f:Value->Value->Sem Value)(r:R2):Prop:=
 ∀(pins:List (Addr×Obj)) (s:Shared) (σ:St) (H:Hp) (x y:V) (v u:Value) (Q:VK),bX X pins σ H s->RelV x v->RelV y u->r x y H Q →
  wpAny (model X.prog X.w) X.A (f v u) (EP X pins σ Q) X.xe s
def OG(X:Cx)(f:Value->Sem Value)(r:V->Hp->VK->Prop):Prop:=
 ∀(pins:List (Addr×Obj)) (s:Shared) (σ:St) (H:Hp) (x:V) (v:Value) (Q:VK),bX X pins σ H s->RelV x v->r x H Q →
  wpAny (model X.prog X.w) X.A (f v) (EP X pins σ Q) X.xe s
def fN(X:Cx)(f:Value)(r:List V->Hp->VK->Prop):Prop:=
 ∀(pins:List (Addr×Obj)) (s:Shared) (σ:St) (H:Hp) (xs:List V) (us:List Value) (Q:VK),bX X pins σ H s->cH xs us->r xs H Q →
  wpAny (model X.prog X.w) X.A (call f us) (EP X pins σ Q) X.xe s
def On(X:Cx)(r:V->Hp->(Bool->Hp->Prop)->Prop):Prop:=
 ∀(pins:List (Addr×Obj)) (s:Shared) (σ:St) (H:Hp) (x:V) (v:Value) (Q:Bool->Hp->Prop),bX X pins σ H s->RelV x v->r x H Q →
  wpAny (model X.prog X.w) X.A (truthy v) (TP X pins σ Q) X.xe s
def Dw(r:R2)(ta tb:TE):TE:=λσ H Q=>ta σ H λx H1=>tb σ H1 λy H2=>r x y H2 Q
def OQ(r:V->Hp->VK->Prop)(ta:TE):TE:=λσ H Q=>ta σ H λx H1=>r x H1 Q
def rI(C:Int->Int->Prop)(g:Int->Int->V):R2:=λx y H Q=>∃i j,x=.int i/\y=.int j/\C i j/\Q (g i j) H
def HP(g:Int->Int->V):R2:=λx y H Q=>∃i j,x=.int i/\y=.int j/\Q (g i j) H
def rU(g:Int->V):V->Hp->VK->Prop:=λx H Q=>∃i,x=.int i/\Q (g i) H
section
variable {X:Cx} {a b:Expr} {ta tb:TE} {pos:Pos}
def Lw(ha:PE X a ta)(hb:PE X b tb){pins:List (Addr×Obj)}{s:Shared}{σ:St}{H:Hp}{R:V->V->Hp->Prop}(I:bX X pins σ H s)
  (h:ta σ H λx H1=>tb σ H1 λy H2=>R x y H2) {Q:Value->Shared->Prop} {f:Value->Value->Sem Value}
  (hf:∀v u s2 x y H2,bX X pins σ H2 s2->RelV x v->RelV y u->R x y H2->wpAny (model X.prog X.w) X.A (f v u) Q X.xe s2) :
  wpAny (model X.prog X.w) X.A (eval a X.env) (λv s₁=>wpAny (model X.prog X.w) X.A (eval b X.env) (λu s₂=>wpAny (model X.prog X.w) X.A (f v u) Q X.xe s₂) X.xe s₁) X.xe s:=by
 refine dJ (ha pins s σ H _ I h) λv s1 ⟨x,H1,I1,r1,q1⟩=>?_;refine dJ (hb pins s1 σ H1 _ I1 q1) λu s2 ⟨y,H2,I2,r2,q2⟩=>?_;exact hf v u s2 x y H2 I2 r1 r2 q2
def NN{op:Operator}{r:R2}(ho:jt X (binaryOp op) r)(ha:PE X a ta)(hb:PE X b tb):PE X (.BinOp a op b pos) (Dw r ta tb):=by
 intro pins s σ H Q I h;exact wpAny_BinOp (Lw ha hb I h λv u s2 x y H2 I2 rx ry q=>ho pins s2 σ H2 x y v u Q I2 rx ry q)
def NM{op:UnaryOp}{r:V->Hp->VK->Prop}(ho:OG X (unaryOp op) r)(ha:PE X a ta):PE X (.UnaryOp op a pos) (OQ r ta):=by
 intro pins s σ H Q I h;exact UnaryOp_ (dJ (ha pins s σ H _ I h) λv s1 ⟨x,H1,I1,r1,q1⟩=>ho pins s1 σ H1 x v Q I1 r1 q1)
def OB{f:Value->Value->Sem Value}{C:Int->Int->Prop}{g:Int->Int->Int}
  (rule:∀(i j:Int) (t u:Tok) (s:Shared) (Q:Value->Shared->Prop) (E:Value->Shared->Prop),C i j->Q (.int (g i j) s.toks) { s with toks:=s.toks+1 }->wpAny (model X.prog X.w) X.A (f (.int i t) (.int j u)) Q E s) :
  jt X f (rI C λi j=>.int (g i j)):=by
 intro pins s σ H x y v u Q I rx ry h;obtain⟨i,j,rfl,rfl,hc,q⟩:=h;obtain⟨t,rfl⟩:=rx;obtain⟨t',rfl⟩:=ry;exact rule i j t t' s _ _ hc ⟨.int (g i j),H,I.tok _,⟨_,rfl⟩,q⟩
def NV{f:Value->Value->Sem Value}{g:Int->Int->Int}
  (rule:∀(i j:Int) (t u:Tok) (s:Shared) (Q:Value->Shared->Prop) (E:Value->Shared->Prop),Q (.int (g i j) s.toks) { s with toks:=s.toks+1 }->wpAny (model X.prog X.w) X.A (f (.int i t) (.int j u)) Q E s) :
  jt X f (HP λi j=>.int (g i j)):=by
 intro pins s σ H x y v u Q I rx ry h;obtain⟨i,j,rfl,rfl,q⟩:=h;obtain⟨t,rfl⟩:=rx;obtain⟨t',rfl⟩:=ry;exact rule i j t t' s _ _ ⟨.int (g i j),H,I.tok _,⟨_,rfl⟩,q⟩
def IE{f:Value->Value->Sem Value}{g:Int->Int->Bool}
  (rule:∀(i j:Int) (t u:Tok) (s:Shared) (Q:Value->Shared->Prop) (E:Value->Shared->Prop),Q (.bool (g i j)) s->wpAny (model X.prog X.w) X.A (f (.int i t) (.int j u)) Q E s) :
  jt X f (HP λi j=>.bl (g i j)):=by
 intro pins s σ H x y v u Q I rx ry h;obtain⟨i,j,rfl,rfl,q⟩:=h;obtain⟨t,rfl⟩:=rx;obtain⟨t',rfl⟩:=ry;exact rule i j t t' s _ _ ⟨.bl (g i j),H,I,rfl,q⟩
def Nm(i j:Int):Prop:=0<j/\j<1073741824
def Ou(i j:Int):Prop:=0<=j/\j<=1000000/\i.natAbs<2 ^ 64
def MH(i j:Int):Prop:=(-(2 ^ 64)<i/\i<2 ^ 64)\/(-(2 ^ 64)<j/\j<2 ^ 64)
def MH.ok{i j:Int}(h:MH i j):IntMulOk i j:=by
 rcases h with ⟨h1,h2⟩ | ⟨h1,h2⟩
 ·exact .of_left (intBits_le_64 h1 h2)
 ·exact .of_right (intBits_le_64 h1 h2)
def fS:jt X (binaryOp .Add) (HP λi j=>.int (i+j)):=NV λ_ _ _ _ _ _ _ q=>add_int q
def iV:jt X (binaryOp .Sub) (HP λi j=>.int (i-j)):=NV λ_ _ _ _ _ _ _ q=>sub_int q
def rC:jt X (binaryOp .Mult) (rI MH λi j=>.int (i*j)):=OB λ_ _ _ _ _ _ _ hc q=>mul_int q hc.ok
def gX:jt X (binaryOp .FloorDiv) (rI Nm λi j=>.int (i / j)):=OB λi j _ _ _ _ _ hc q=>by
 have h1:(0:Int)<j:=hc.1;have h2:j<1073741824:=hc.2;exact floordiv_int (by lia) (by rw[Int.fdiv_eq_ediv_of_nonneg i (by lia)];exact q) (.inl (PyProof.noPylong_small (by lia)))
def fZ:jt X (binaryOp .Mod) (rI (λ_ j=>0<j) λi j=>.int (i % j)):=OB λi j _ _ _ _ _ hc q=>by
 have h1:(0:Int)<j:=hc;exact mod_int' (by lia) (by rw[Int.fmod_eq_emod_of_nonneg i (by lia)];exact q)
def tD:jt X (binaryOp .Pow) (rI Ou λi j=>.int (i ^ j.toNat)):=OB λ_ _ _ _ _ _ _ hc q=>pow_int_small hc.1 hc.2.1 hc.2.2 q
def PQ{f:Value->Sem Value}{g:Int->Int}
  (rule:∀(i:Int) (t:Tok) (s:Shared) (Q:Value->Shared->Prop) (E:Value->Shared->Prop),Q (.int (g i) s.toks) { s with toks:=s.toks+1 }->wpAny (model X.prog X.w) X.A (f (.int i t)) Q E s) :
  OG X f (rU λi=>.int (g i)):=by
 intro pins s σ H x v Q I rx h;obtain⟨i,rfl,q⟩:=h;obtain⟨t,rfl⟩:=rx;exact rule i t s _ _ ⟨.int (g i),H,I.tok _,⟨_,rfl⟩,q⟩
def fO:OG X (unaryOp .USub) (rU λi=>.int (-i)):=PQ λ_ _ _ _ _ q=>neg_int q
end
def Kc:V->V->Bool
 | .non,.non=>true | .non,.int _=>true | .int _,.non=>true | .non,.bl _=>true | .bl _,.non=>true | .non,.str _=>true | .str _,.non=>true
 | .int _,.int _=>true | .bl _,.bl _=>true | .str _,.str _=>true | .byt _,.byt _=>true
 | .int _,.str _=>true | .str _,.int _=>true | .bl _,.str _=>true | .str _,.bl _=>true
 | _,_=>false
def NI:R2:=λx y H Q=>Kc x y=true/\Q (.bl (decide (x=y))) H
def Ny:R2:=λx y H Q=>Kc x y=true/\Q (.bl (!decide (x=y))) H
def Bf{i j:Int}:decide (V.int i=V.int j)=(i==j):=by
 rw[iP];simp
def GN{i j:Bool}:decide (V.bl i=V.bl j)=(i==j):=by
 rw[iP];simp
def Bd{i j:Str}:decide (V.str i=V.str j)=(i==j):=by
 rw[iP];simp
def Bg{i j:Array UInt8}:decide (V.byt i=V.byt j)=(i.toList==j.toList):=by
 rw[iP];cases i;cases j;simp
section
variable {X:Cx} {a b c:Expr} {ta tb tc:TE} {pos:Pos}
def ck{pins:List (Addr×Obj)}{σ:St}{H:Hp}{s:Shared}{Q:VK}{k k':Bool}(I:bX X pins σ H s)(q:Q (.bl k) H)(e:k=k'):EP X pins σ Q (.bool k') s:=by
 subst e;exact⟨.bl k,H,I,rfl,q⟩
def f6:jt X (compareOp .Eq) NI:=by
 intro pins s σ H x y v u Q I rx ry h;obtain⟨hs,q⟩:=h;cases x with
 | non=>
  cases rx;cases y with
  | non=>cases ry;exact PySem.EqNone.eq_none_none (ck I q (by simp))
  | bl j=>cases ry;exact PySem.EqNone.eq_none_bool (ck I q (by simp))
  | int j=>obtain⟨t',rfl⟩:=ry;exact PySem.EqNone.eq_none_int (ck I q (by simp))
  | str j=>obtain⟨t',rfl⟩:=ry;exact PySem.EqNone.eq_none_str (ck I q (by simp))
  | _=>exact absurd (show false=true from hs) aq
 | bl i=>
  cases rx;cases y with
  | non=>cases ry;exact PySem.EqNone.eq_bool_none (ck I q (by simp))
  | bl j=>cases ry;exact eq_bool (ck I q GN)
  | str j=>obtain⟨t',rfl⟩:=ry;exact PySem.EqMixed.eq_bool_str (ck I q (by simp))
  | _=>exact absurd (show false=true from hs) aq
 | int i=>
  obtain⟨t,rfl⟩:=rx;cases y with
  | non=>cases ry;exact PySem.EqNone.eq_int_none (ck I q (by simp))
  | int j=>obtain⟨t',rfl⟩:=ry;exact eq_int (ck I q Bf)
  | str j=>obtain⟨t',rfl⟩:=ry;exact PySem.EqMixed.eq_int_str (ck I q (by simp))
  | _=>exact absurd (show false=true from hs) aq
 | str i=>
  obtain⟨t,rfl⟩:=rx;cases y with
  | non=>cases ry;exact PySem.EqNone.eq_str_none (ck I q (by simp))
  | bl j=>cases ry;exact PySem.EqMixed.eq_str_bool (ck I q (by simp))
  | int j=>obtain⟨t',rfl⟩:=ry;exact PySem.EqMixed.eq_str_int (ck I q (by simp))
  | str j=>obtain⟨t',rfl⟩:=ry;exact eq_str (ck I q Bd)
  | _=>exact absurd (show false=true from hs) aq
 | byt i=>
  obtain⟨t,rfl⟩:=rx;cases y with
  | byt j=>obtain⟨t',rfl⟩:=ry;exact PySem.W.eq_bytes (ck I q Bg)
  | _=>exact absurd (show false=true from hs) aq
 | _=>cases y<;>exact absurd (show false=true from hs) aq
def qb:jt X (compareOp .NotEq) Ny:=by
 intro pins s σ H x y v u Q I rx ry h;obtain⟨hs,q⟩:=h;cases x with
 | non=>
  cases rx;cases y with
  | non=>cases ry;exact PySem.EqNone.ne_none_none (ck I q (by simp))
  | bl j=>cases ry;exact PySem.EqNone.ne_none_bool (ck I q (by simp))
  | int j=>obtain⟨t',rfl⟩:=ry;exact PySem.EqNone.ne_none_int (ck I q (by simp))
  | str j=>obtain⟨t',rfl⟩:=ry;exact PySem.EqNone.ne_none_str (ck I q (by simp))
  | _=>exact absurd (show false=true from hs) aq
 | bl i=>
  cases rx;cases y with
  | non=>cases ry;exact PySem.EqNone.ne_bool_none (ck I q (by simp))
  | bl j=>cases ry;exact ne_bool (ck I q (congrArg not GN))
  | str j=>obtain⟨t',rfl⟩:=ry;exact PySem.EqMixed.ne_bool_str (ck I q (by simp))
  | _=>exact absurd (show false=true from hs) aq
 | int i=>
  obtain⟨t,rfl⟩:=rx;cases y with
  | non=>cases ry;exact PySem.EqNone.ne_int_none (ck I q (by simp))
  | int j=>obtain⟨t',rfl⟩:=ry;exact ne_int (ck I q (congrArg not Bf))
  | str j=>obtain⟨t',rfl⟩:=ry;exact PySem.EqMixed.ne_int_str (ck I q (by simp))
  | _=>exact absurd (show false=true from hs) aq
 | str i=>
  obtain⟨t,rfl⟩:=rx;cases y with
  | non=>cases ry;exact PySem.EqNone.ne_str_none (ck I q (by simp))
  | bl j=>cases ry;exact PySem.EqMixed.ne_str_bool (ck I q (by simp))
  | int j=>obtain⟨t',rfl⟩:=ry;exact PySem.EqMixed.ne_str_int (ck I q (by simp))
  | str j=>obtain⟨t',rfl⟩:=ry;exact ne_str (ck I q (congrArg not Bd))
  | _=>exact absurd (show false=true from hs) aq
 | byt i=>
  obtain⟨t,rfl⟩:=rx;cases y with
  | byt j=>obtain⟨t',rfl⟩:=ry;exact PySem.W.ne_bytes (ck I q (congrArg not Bg))
  | _=>exact absurd (show false=true from hs) aq
 | _=>cases y<;>exact absurd (show false=true from hs) aq
def ke:jt X (compareOp .Lt) (HP λi j=>.bl (decide (i<j))):=IE λ_ _ _ _ _ _ _ q=>lt_int q
def xb:jt X (compareOp .LtE) (HP λi j=>.bl (decide (i<=j))):=IE λ_ _ _ _ _ _ _ q=>le_int q
def xf:jt X (compareOp .Gt) (HP λi j=>.bl (decide (j<i))):=IE λ_ _ _ _ _ _ _ q=>gt_int q
def NU:jt X (compareOp .GtE) (HP λi j=>.bl (decide (j<=i))):=IE λ_ _ _ _ _ _ _ q=>ge_int q
def C6:jt X (compareOp .Lt) (λx y H Q=>∃i j,x=.str i/\y=.str j/\Q (.bl (decide (i.cps.toList<j.cps.toList))) H):=by
 intro pins s σ H x y v u Q I rx ry h;obtain⟨i,j,rfl,rfl,q⟩:=h;obtain⟨t,rfl⟩:=rx;obtain⟨t',rfl⟩:=ry;exact lt_str (ck I q rfl)
def um:jt X (compareOp .In) (λx y H Q=>∃i j,x=.str i/\y=.str j/\Q (.bl (!(Builtin.Str.occurrences j i 0 j.length 1).isEmpty)) H):=by
 intro pins s σ H x y v u Q I rx ry h;obtain⟨i,j,rfl,rfl,q⟩:=h;obtain⟨t,rfl⟩:=rx;obtain⟨t',rfl⟩:=ry;exact in_str (ck I q rfl)
def vq:jt X (compareOp .Is) (λx y H Q=>y=.non/\Q (.bl (decide (x=.non))) H):=by
 intro pins s σ H x y v u Q I rx ry h;obtain⟨rfl,q⟩:=h;cases ry;refine is_none_gen (ck I q ?_);cases x<;>first
  | (cases rx;rfl)
  | (obtain⟨t,rfl⟩:=rx;rfl)
def vn:jt X (compareOp .IsNot) (λx y H Q=>y=.non/\Q (.bl (!decide (x=.non))) H):=by
 intro pins s σ H x y v u Q I rx ry h;obtain⟨rfl,q⟩:=h;cases ry;refine isnot_none_gen (ck I q ?_);cases x<;>first
  | (cases rx;rfl)
  | (obtain⟨t,rfl⟩:=rx;rfl)
def bK(b:Expr){op:CmpOp}(h:op≠.In:=by decide)(h2:op≠.NotIn:=by decide):behindInMarks op b=false:=by
 have e1:(op==CmpOp.In)=false:=by cases op<;>first | rfl | exact absurd rfl h
 have e2:(op==CmpOp.NotIn)=false:=by cases op<;>first | rfl | exact absurd rfl h2
 cases b<;>simp[behindInMarks,e1,e2]
def Hw{op:CmpOp}{r:R2}(ho:jt X (compareOp op) r)(ha:PE X a ta)(hb:PE X b tb)(hm:behindInMarks op b=false):PE X (.Compare a [op] [b] pos) (Dw r ta tb):=by
 intro pins s σ H Q I h;exact wpAny_Compare1 (Lw ha hb I h λv u s2 x y H2 I2 rx ry q=>ho pins s2 σ H2 x y v u Q I2 rx ry q) hm
def sO(t:TE):TT:=λσ H Q=>t σ H λx H'=>∃k,x=.bl k/\Q k H'
def HZ{op:CmpOp}{r:R2}(ho:jt X (compareOp op) r)(ha:PE X a ta)(hb:PE X b tb)(hm:behindInMarks op b=false):PT X (.Compare a [op] [b] pos) (sO (Dw r ta tb)):=by
 intro pins s σ H Q I h;refine wpAny_isTrue_Compare1 (dJ (ha pins s σ H _ I h) λv s1 ⟨x,H1,I1,r1,q1⟩=>dJ (hb pins s1 σ H1 _ I1 q1) λu s2 ⟨y,H2,I2,r2,q2⟩=>
  dJ (ho pins s2 σ H2 x y v u _ I2 r1 r2 q2) λc s3 ⟨z,H3,I3,r3,k,e,q3⟩=>?_) hm
 subst e;cases r3;exact Vy ⟨H3,I3,q3⟩
def sP(r r':R2)(ta tb tc:TE):TE:=λσ H Q=>ta σ H λx H1=>tb σ H1 λy H2=>r x y H2 λz H3=>∃k,z=.bl k ∧
 (if k=true then tc σ H3 λw' H4=>r' y w' H4 Q else Q (.bl false) H3)
def FJ{op op':CmpOp}{r r':R2}(ho:jt X (compareOp op) r)(ho':jt X (compareOp op') r')(ha:PE X a ta)(hb:PE X b tb)(hc:PE X c tc)
  (hm:lastMarks [op,op'] [b,c]=false:=by with_unfolding_all rfl):PE X (.Compare a [op,op'] [b,c] pos) (sP r r' ta tb tc):=by
 intro pins s σ H Q I h;refine Compare_chain (dJ (ha pins s σ H _ I h) λv s1 ⟨x,H1,I1,r1,q1⟩=>chain_link (dJ (hb pins s1 σ H1 _ I1 q1) λu s2 ⟨y,H2,I2,r2,q2⟩=>
  dJ (ho pins s2 σ H2 x y v u _ I2 r1 r2 q2) λd s3 ⟨z,H3,I3,r3,k,e,q3⟩=>?_)) hm
 subst e;cases r3;refine Vy ?_;cases k with
 | false=>exact ite_ff ⟨.bl false,H3,I3,rfl,q3⟩
 | true=>exact ite_tt (chain_last (dJ (hc pins s3 σ H3 _ I3 q3) λw' s4 ⟨z',H4,I4,r4,q4⟩=>ho' pins s4 σ H4 y z' u w' Q I4 r2 r4 q4))
def Ep{op op':CmpOp}{r r':R2}(ho:jt X (compareOp op) r)(ho':jt X (compareOp op') r')(ha:PE X a ta)(hb:PE X b tb)(hc:PE X c tc)
  (hm:lastMarks [op,op'] [b,c]=false:=by with_unfolding_all rfl):PT X (.Compare a [op,op'] [b,c] pos) (sO (sP r r' ta tb tc)):=by
 intro pins s σ H Q I h;refine isTrue_chain (dJ (ha pins s σ H _ I h) λv s1 ⟨x,H1,I1,r1,q1⟩=>test_link (dJ (hb pins s1 σ H1 _ I1 q1) λu s2 ⟨y,H2,I2,r2,q2⟩=>
  dJ (ho pins s2 σ H2 x y v u _ I2 r1 r2 q2) λd s3 ⟨z,H3,I3,r3,k,e,q3⟩=>?_)) hm
 subst e;cases r3;refine Vy ?_;cases k with
 | false=>
  obtain⟨k',e',q'⟩:=q3;cases e';exact ite_ff ⟨H3,I3,q'⟩
 | true=>
  refine ite_tt (test_last (dJ (hc pins s3 σ H3 _ I3 q3) λw' s4 ⟨z',H4,I4,r4,q4⟩=>dJ (ho' pins s4 σ H4 y z' u w' _ I4 r2 r4 q4) λd' s5 ⟨z2,H5,I5,r5,k2,e2,q5⟩=>?_));subst e2;cases r5;exact Vy ⟨H5,I5,q5⟩
def JG(K:Wb)(x:V)(H:Hp)(k:Bool):Prop:=
 match x with
 | .non=>k=false
 | .bl b=>k=b
 | .int i=>k=(i != 0)
 | .str y=>y.length<=sizeLine/\k=((y.length:Int) != 0)
 | .byt y=>y.size<=sizeLine/\k=((y.size:Int) != 0)
 | .ref p=>(∃xs,c6 K H p xs/\k=!xs.isEmpty)\/(∃xs,de K H p xs/\k=!xs.isEmpty)\/∃kvs,H p=some (.dK kvs)/\k=!kvs.isEmpty
 | _=>False
def AC{κ:Type}{kvs:List (κ×V)}{vs:List (κ×Value)}(r:KV kvs vs):(!vs.isEmpty)=!kvs.isEmpty:=by
 cases r<;>rfl
def tX{xs:List V}{its:List Value}(r:cH xs its):(!its.toArray.isEmpty)=!xs.isEmpty:=by
 cases r<;>simp
def qD:(sizeLine:Nat)<2 ^ 63:=by rw[WH];decide
def KR:On X (λx H Q=>∃k,JG X.K x H k/\Q k H):=by
 intro pins s σ H x v Q I rx h;obtain⟨k,e,q⟩:=h;have hl:=qD;have hs:sizeLine=16777216:=WH;cases x with
 | non=>
  cases rx;have e':k=false:=e;subst e';exact truthy_none ⟨H,I,q⟩
 | bl b=>
  cases rx;have e':k=b:=e;subst e';exact Vy ⟨H,I,q⟩
 | int i=>
  obtain⟨t,rfl⟩:=rx;have e':k=(i != 0):=e;subst e';exact PySem.P.truthy_int ⟨H,I,q⟩
 | str y=>
  obtain⟨t,rfl⟩:=rx;obtain⟨hy,e'⟩:y.length<=sizeLine/\k=((y.length:Int) != 0):=e;subst e';exact PySem.P.truthy_str (by lia) ⟨H,I.tok _,q⟩
 | byt y=>
  obtain⟨t,rfl⟩:=rx;obtain⟨hy,e'⟩:y.size<=sizeLine/\k=((y.size:Int) != 0):=e;subst e';exact PySem.W.truthy_bytes (by lia) ⟨H,I.tok _,q⟩
 | ref p=>
  cases rx;have e':(∃xs,c6 X.K H p xs/\k=!xs.isEmpty)\/(∃xs,de X.K H p xs/\k=!xs.isEmpty)\/∃kvs,H p=some (.dK kvs)/\k=!kvs.isEmpty:=e;rcases e' with ⟨xs,hx,e'⟩ | ⟨xs,hx,e'⟩ | ⟨kvs,hx,e'⟩
  ·subst e';obtain⟨its,r,pl,hz⟩:=I.list hx;have hlen:=r.length;exact wpAny_truthy_list pl.isList (by simp only[aX];lia) ⟨H,I.tok _,by rw[tX r];exact q⟩
  ·subst e';obtain⟨its,r,pl,hz⟩:=I.tuple hx;have hlen:=r.length;exact truthy_tuple pl (by simp only[aX];lia) ⟨H,I.tok _,by rw[tX r];exact q⟩
  ·subst e';obtain⟨hz,hS,vs,r,m⟩:kvs.length<=sizeLine/\(p==sysModules)=false/\∃vs,KV kvs vs/\s.heap.DictOf (fV X.prog X.w) p vs:=I.hok p _ hx;have hlen:kvs.length=vs.length:=eQ r;exact wpAny_truthy_dict hS m (by lia) ⟨H,I.tok _,by rw[AC r];exact q⟩
 | _=>exact(show False from e).elim
def Eo(ha:PE X a ta)(he:∀whole,isTrue a X.env whole=(do let v <-whole;standAt a.pos;holding [v] (truthy v))):
  PT X a (λσ H Q=>ta σ H λx H'=>∃k,JG X.K x H' k/\Q k H'):=by
 intro pins s σ H Q I h;exact isTrue_plain (dJ (ha pins s σ H _ I h) λv s1 ⟨x,H1,I1,r1,q1⟩=>KR pins s1 σ H1 x v Q I1 r1 q1) (he _)
def dy:jt X (binaryOp .Add) (λx y H Q=>∃i j,x=.str i/\y=.str j/\i.length+j.length<=sizeLine/\Q (.str (i++j)) H):=by
 intro pins s σ H x y v u Q I rx ry h;obtain⟨i,j,rfl,rfl,hz,q⟩:=h;obtain⟨t,rfl⟩:=rx;obtain⟨t',rfl⟩:=ry;exact add_str (λt' tk=>⟨.str (i++j),H,I.tok _,⟨_,rfl⟩,q⟩) hz
def yG:jt X (inplaceOp .Add) (λx y H Q=>∃i j,x=.str i/\y=.str j/\i.length+j.length<=sizeLine/\Q (.str (i++j)) H):=by
 intro pins s σ H x y v u Q I rx ry h;obtain⟨i,j,rfl,rfl,hz,q⟩:=h;obtain⟨t,rfl⟩:=rx;obtain⟨t',rfl⟩:=ry;exact iadd_str (λt' tk=>⟨.str (i++j),H,I.tok _,⟨_,rfl⟩,q⟩) hz
def WI{x:V}{us:List Value}(r:cH [x] us):∃u,us=[u]/\RelV x u:=by
 cases r with
 | cons r1 r2=>cases r2;exact⟨_,rfl,r1⟩
def vals2{x y:V}{us:List Value}(r:cH [x,y] us):∃u w',us=[u,w']/\RelV x u/\RelV y w':=by
 cases r with
 | cons r1 r2=>
  cases r2 with
  | cons r3 r4=>cases r4;exact⟨_,_,rfl,r1,r3⟩
def yf:fN X (.builtin "abs") (λxs H Q=>∃i,xs=[.int i]/\Q (.int (if i<0 then -i else i)) H):=by
 intro pins s σ H xs us Q I r h;obtain⟨i,rfl,q⟩:=h;obtain⟨u,rfl,t,rfl⟩:=WI r;exact call_abs_int λu tk=>⟨.int (if i<0 then -i else i),H,I.tok _,⟨_,rfl⟩,q⟩
def DF (hc:X.calm=true):fN X (.builtin "max") (λxs H Q=>∃i j,xs=[.int i,.int j]/\Q (.int (if j > i then j else i)) H):=by
 intro pins s σ H xs us Q I r h;obtain⟨i,j,rfl,q⟩:=h;obtain⟨u,w',rfl,⟨t,rfl⟩,⟨t',rfl⟩⟩:=vals2 r;refine max_two_ints (I.ok.hd hc) λh' tk k=>⟨_,H,I.kept k,?_,q⟩
 by_cases hj:j > i
 ·rw[W5 hj,W5 hj];exact⟨_,rfl⟩
 ·rw[W4 hj,W4 hj];exact⟨_,rfl⟩
def DD (hc:X.calm=true):fN X (.builtin "min") (λxs H Q=>∃i j,xs=[.int i,.int j]/\Q (.int (if j<i then j else i)) H):=by
 intro pins s σ H xs us Q I r h;obtain⟨i,j,rfl,q⟩:=h;obtain⟨u,w',rfl,⟨t,rfl⟩,⟨t',rfl⟩⟩:=vals2 r;refine min_two_ints (I.ok.hd hc) λh' tk k=>⟨_,H,I.kept k,?_,q⟩
 by_cases hj:j<i
 ·rw[W5 hj,W5 hj];exact⟨_,rfl⟩
 ·rw[W4 hj,W4 hj];exact⟨_,rfl⟩
def pH:fN X (.type "int") (λxs H Q=>(∃i,xs=[.int i]/\Q (.int i) H)\/∃k,xs=[.bl k]/\Q (.int (if k then 1 else 0)) H):=by
 intro pins s σ H xs us Q I r h;rcases h with ⟨i,rfl,q⟩ | ⟨k,rfl,q⟩
 ·obtain⟨u,rfl,t,rfl⟩:=WI r;exact call_int_int ⟨.int i,H,I,⟨_,rfl⟩,q⟩
 ·obtain⟨u,rfl,r1⟩:=WI r;cases r1;exact call_int_bool ⟨.int (if k then 1 else 0),H,I.tok _,⟨_,rfl⟩,q⟩
end
structure MC (h:Heap) (x dx C:Addr) (mA:Str->Option Value):Prop where
 obj:h.get? x=some (PySem.W.instObj C dx)
 ns:h.Ns1 dx mA
 ne:dx≠x
def rG{h:Heap}{dx:Addr}{mA:Str->Option Value}(n:h.Ns1 dx mA):∃od,h.get? dx=some od/\∀name,PySem.W.lookIn name od=some (mA name):=by
 obtain⟨o,es,ep,ho,hd,hk,_,hm⟩:=n;refine⟨o,ho,λname=>?_⟩;have e:=hm name;unfold nsFind findBy at e;rw[<-Array.find?_toList] at e;unfold PySem.W.lookIn;rw[hd];dsimp only
 split
 ·rename_i y q;rw[q] at e;exact congrArg some e
 ·rename_i q;rw[q] at e;have a:es.toList.any (·.refKey)=false:=by
   rw[iw];intro y hy;obtain⟨z,t,hkey⟩:=hk y (Array.mem_toList_iff.mp hy);simp[DictEntry.refKey,hkey]
  have a':¬es.toList.any (·.refKey)=true:=by rw[a];exact aq
  rw[W4 a'];exact congrArg some e
def MC.look{h:Heap}{x dx C:Addr}{mA:Str->Option Value}(I:MC h x dx C mA):∃od,PySem.W.InstAt h x (PySem.W.instObj C dx) C (some od)/\∀name,PySem.W.lookIn name od=some (mA name):=
 let ⟨od,ho,hl⟩:=rG I.ns
 ⟨od,⟨I.obj,rfl,rfl,ho⟩,hl⟩
def rf.some_of{v:V}{o:Option Value}(r:rf (some v) o):∃u,o=some u/\RelV v u:=by
 cases o with
 | none=>exact(show False from r).elim
 | some u=>exact⟨u,rfl,r⟩
def Cm{v:V}{u:Value}(r:RelV v u):PySem.W.handedIn u=true:=by
 cases v with
 | non=>cases (show u=Value.none from r);rfl
 | bl b=>cases (show u=Value.bool b from r);rfl
 | int i=>obtain⟨t,e⟩:=(show ∃t,u=Value.int i t from r);cases e;rfl
 | str x=>obtain⟨t,e⟩:=(show ∃t,u=Value.str x t from r);cases e;rfl
 | byt b=>obtain⟨t,e⟩:=(show ∃t,u=Value.bytes b t from r);cases e;rfl
 | flt b=>obtain⟨t,e⟩:=(show ∃t,u=Value.float b t from r);cases e;rfl
 | ref a=>cases (show u=Value.ref a from r);rfl
 | ty n=>cases (show u=Value.type n from r);rfl
section
variable {P:Program} {w:World} {H:Hp} {h:Heap} {a C dx:Addr} {fs:List (Str×V)}
def Ia(hok:pI P w H h)(e:H a=some (.ins C dx fs)):∃mA,MC h a dx C mA/\(∀f,rf (fs.lookup f) (mA f))/\PySem.Within mA (fs.map (·.1))/\fs.length<=1000/\H dx=some (.own a):=by
 obtain⟨d,z,ne,ob,mA,n,r,q⟩:=(show cw P w H h a (.ins C dx fs) from hok a _ e)
 exact⟨mA,⟨ob,n,ne⟩,r,q,z,d⟩
end
structure Ot (K:Wb) (C:Addr):Prop where
 pg:PySem.W.plainGet K C Str.empty=true
 hd:PySem.W.hasDictIn K C=true
 po:PySem.W.plainOver K C=true
 sa:PySem.W.findIn K (.ref C) "__setattr__"=some (some (.builtin "object.__setattr__"))
def Ot.get{K:Wb}{C:Addr}(c:Ot K C)(f:Str):PySem.W.plainGet K C f=true:=c.pg
section
variable {s:Shared} {f:Str} {A:Around} {E:Value->Shared->Prop}
def JB{prog:Program}{w:World}{env:Env}{e:Expr}{f:Str}{pos:Pos}{s:Shared}{Q:Value->Shared->Prop}(hb:attributeBase e f env (eval e env)=eval e env)
  (h:wpAny (model prog w) A (eval e env) (λo s₁=>wpAny (model prog w) A (getAttr o f true) Q E s₁) E s):wpAny (model prog w) A (eval (.Attribute e f pos) env) Q E s:=
 Attribute_any_ h (by rw[arm_eval_Attribute,hb])
end
section
variable {X:Cx} {pins:List (Addr×Obj)} {σ:St} {H:Hp} {s:Shared} {A:Around} {E:Value->Shared->Prop} {Q:Value->Shared->Prop} {c:Value} {b:Bool}
inductive qI (K : Wb) (H : Hp) : V → Value → Prop where
 | non : qI K H .non (.type "NoneType")
 | bl (x : Bool) : qI K H (.bl x) (.type "bool")
 | int (i : Int) : qI K H (.int i) (.type "int")
 | str (x : Str) : qI K H (.str x) (.type "str")
 | flt (x : UInt64) : qI K H (.flt x) (.type "float")
 | lst {a : Addr} {xs : List V} (e : H a = some (.lst xs)) : qI K H (.ref a) (.type "list")
 | frz {a : Addr} {o : Obj} {xs : List V} (e : H a = some (.frz o (.lst xs))) : qI K H (.ref a) (.type "list")
 | tup {a : Addr} {xs : List V} (e : H a = some (.tup xs)) : qI K H (.ref a) (.type "tuple")
 | dK {a : Addr} {kvs : List (Key × V)} (e : H a = some (.dK kvs)) : qI K H (.ref a) (.type "dict")
 | dT {a : Addr} {kvs : List (List Key × V)} (e : H a = some (.dT kvs)) : qI K H (.ref a) (.type "dict")
 | ins {a C dx : Addr} {fs : List (Str × V)} (e : H a = some (.ins C dx fs)) (cl : Ot K C) (ha : PySem.W.findIn K (.ref C) "__class__" = some (some (.builtin "object.__class__")))
   (hn : PySem.W.specialIn K (.builtin "object.__class__") "__get__" = some (some (.builtin "getset_descriptor.__get__"))) (htk : PySem.W.takesIn K (.builtin "object.__class__") = some true)
   (hm : PySem.W.mroIn K C (.type "object") = some true) : qI K H (.ref a) (.ref C)
def Ci{x:V}{u t:Value}(I:bX X pins σ H s)(rx:RelV x u)(ty:qI X.K H x t)(e:PySem.W.kitOne X.K t c=some b)(h:∀tk,Q (.bool b) { s with toks:=tk }):
  wpAny (model X.prog X.w) A (call (.builtin "isinstance") [u,c]) Q E s:=by
 cases ty with
 | non=>cases (show u=Value.none from rx);exact cW PySem.W.kitx_none I.kIn True.intro e (λz=>nomatch z) h
 | bl y=>cases (show u=Value.bool y from rx);exact cW PySem.W.kitx_bool I.kIn True.intro e (λz=>nomatch z) h
 | int i=>obtain⟨t,q⟩:=(show ∃t,u=Value.int i t from rx);cases q;exact cW PySem.W.kitx_int I.kIn True.intro e (λz=>nomatch z) h
 | str y=>obtain⟨t,q⟩:=(show ∃t,u=Value.str y t from rx);cases q;exact cW PySem.W.kitx_str I.kIn True.intro e (λz=>nomatch z) h
 | flt y=>obtain⟨t,q⟩:=(show ∃t,u=Value.float y t from rx);cases q;exact cW PySem.W.kitx_float I.kIn True.intro e (λz=>nomatch z) h
 | @lst a xs ea=>
  cases (show u=Value.ref a from rx);obtain⟨_,_,n,_,h1⟩:=(show cw X.prog X.w H s.heap a (.lst xs) from I.hok a _ ea)
  exact cW PySem.W.kitx_list I.kIn ⟨_,h1,rfl⟩ e (λz=>nomatch z) h
 | @frz a ob xs ea=>
  cases (show u=Value.ref a from rx);obtain⟨_,_,_,n,_,h1⟩:=(show cw X.prog X.w H s.heap a (.frz ob (.lst xs)) from I.hok a _ ea)
  exact cW PySem.W.kitx_list I.kIn ⟨_,h1,rfl⟩ e (λz=>nomatch z) h
 | @tup a xs ea=>
  cases (show u=Value.ref a from rx);obtain⟨_,_,_,p⟩:=(show cw X.prog X.w H s.heap a (.tup xs) from I.hok a _ ea)
  obtain⟨o,h1,h2,_⟩:=p;exact cW PySem.W.kitx_tuple I.kIn ⟨o,h1,h2⟩ e (λz=>nomatch z) h
 | @dK a kvs ea=>
  cases (show u=Value.ref a from rx);obtain⟨_,_,vs,_,p⟩:=(show cw X.prog X.w H s.heap a (.dK kvs) from I.hok a _ ea)
  obtain⟨o,es,ep,h1,h2,_⟩:=p;exact cW PySem.W.kitx_dict I.kIn ⟨o,h1,h2.1⟩ e (λz=>nomatch z) h
 | @dT a kvs ea=>
  cases (show u=Value.ref a from rx);obtain⟨_,_,xs,_,o,es,ep,h1,h2,_⟩:=(show cw X.prog X.w H s.heap a (.dT kvs) from I.hok a _ ea)
  exact cW PySem.W.kitx_dict I.kIn ⟨o,h1,h2.1⟩ e (λz=>nomatch z) h
 | @ins a C dx fs ea cl ha hn htk hm=>
  cases (show u=Value.ref a from rx);obtain⟨mA,O,_⟩:=Ia I.hok ea;obtain⟨od,J,_⟩:=O.look;exact cW (PySem.W.kitx_own (cl.get _) cl.hd ha hn htk hm) I.kIn J e (λz=>nomatch z) h
end
structure g0 (k:Nat) (A:Around):Prop where
 hd:A.handled=none
 dp:A.depth+3 * k+5<recursionLimit
 un:A.units+16 * k+200<cLine
 gd:A.guards=some []
def g0.mono{j k:Nat}{A:Around}(r:g0 k A)(h:j<=k):g0 j A:=⟨r.hd,by have:=r.dp;lia,by have:=r.un;lia,r.gd⟩
def g0.deeper{k:Nat}{A:Around}(r:g0 (k+1) A)(env:Env):g0 k (A.deeper env):=
 ⟨r.hd,by have:=r.dp;show A.depth+1+3*k+5<_;lia,by have:=r.un;show A.units+3+16*k+200<_;lia,r.gd⟩
def zy {A:Around} {C:Addr} {us:List Value} {kw:List (Str×Value)}:(A.under (.builtin "type.__call__" ⟨.ref C::us,kw⟩)).depth=A.depth+1:=by
 first | rfl | simp[Around.under,Code.weight,Code.isCreation,Code.isGuard,Code.isCaller,Code.frames,Code.isFrame,guardIds]
def zx {A:Around} {C:Addr} {us:List Value} {kw:List (Str×Value)}:(A.under (.builtin "type.__call__" ⟨.ref C::us,kw⟩)).units=A.units+1:=by
 first | rfl | simp[Around.under,Code.cUnits,Code.frames,Code.isFrame]
def xv {A:Around} {C:Addr} {us:List Value} {kw:List (Str×Value)}:(A.under (.builtin "type.__call__" ⟨.ref C::us,kw⟩)).guards=A.guards:=by
 first | rfl | simp[Around.under,Code.guards,Code.isGuard,guardIds,pushGuards]
def g0.make {k:Nat} {A:Around} (r:g0 (k+1) A) (C:Addr) (us:List Value) (kw:List (Str×Value)):g0 k (A.under (.builtin "type.__call__" ⟨.ref C::us,kw⟩)):=
 ⟨r.hd,by have:=r.dp;rw[zy];lia,by have:=r.un;rw[zx];lia,by rw[xv];exact r.gd⟩
def g0.depth{k:Nat}{A:Around}(r:g0 k A):A.depth<recursionLimit:=by have:=r.dp;lia
def g0.units{k:Nat}{A:Around}(r:g0 k A):A.units+64<cLine:=by have:=r.un;lia
def Dy:TA:=λ_ H Q=>Q [] H
def fD(ta:TE)(tr:TA):TA:=λσ H Q=>ta σ H λx H1=>tr σ H1 λxs H2=>Q (x::xs) H2
section
variable {X:Cx} {e:Expr} {es:List Expr} {te:TE} {t:TA} {pos:Pos}
def LS:PA X [] Dy:=λ_ _ _ _ H Q I h=>lX ⟨[],H,I,.nil,h⟩
def gz(ha:PE X e te)(hr:PA X es t)(hs:starEach (e::es) X.env=(false,eval e X.env)::starEach es X.env:=by rfl):PA X (e::es) (fD te t):=by
 intro pos pins s σ H Q I h;rw[hs];show wpAny _ _ (spliced ((false,eval e X.env)::backTo pos (starEach es X.env))) _ _ s;refine lE (dJ (ha pins s σ H _ I h) λu s1 ⟨x,H1,I1,r1,q1⟩=>?_);exact dJ (hr pos pins s1 σ H1 _ I1 q1) λus s2 ⟨xs,H2,I2,r2,q2⟩=>⟨x::xs,H2,I2,.cons r1 r2,q2⟩
def KW(t:TA):TE:=λσ H Q=>t σ H λxs H1=>xs.length<=sizeLine/\∀p,H1 p=none->Q (.ref p) (bP H1 p (.tup xs))
def HC(t:TA):TE:=λσ H Q=>t σ H λxs H1=>xs.length<=sizeLine/\∀p,H1 p=none->Q (.ref p) (bP H1 p (.lst xs))
def LI{x1}(h:PA X es t):PE X (.Tuple es x1 pos) (KW t):=by
 intro pins s σ H Q I hq;refine wpAny_Tuple_spliced (dJ (h pos pins s σ H _ I hq) λus s1 ⟨xs,H1,I1,r,z,q⟩=>⟨by rw[<-r.length];exact z,?_⟩);have hf:H1 s1.heap.objs.size=none:=I1.hok.fresh (aI _);refine⟨.ref s1.heap.objs.size,bP H1 s1.heap.objs.size (.tup xs),I1.laid (t':=s1.toks) (λb u e=>aA _ e) (aI _) ?_,rfl,q _ hf⟩;exact⟨z,us,r,⟨_,aL _ rfl,rfl,_,rfl⟩⟩
def LN(h:PA X es t):PE X (.List es pos) (HC t):=by
 intro pins s σ H Q I hq;refine wpAny_List_spliced (dJ (h pos pins s σ H _ I hq) λus s1 ⟨xs,H1,I1,r,z,q⟩=>⟨by rw[<-r.length];exact z,?_⟩);have hf:H1 s1.heap.objs.size=none:=I1.hok.fresh (aI _);refine⟨.ref s1.heap.objs.size,bP H1 s1.heap.objs.size (.lst xs),I1.laid (t':=s1.toks) (λb u e=>aA _ e) (aI _) ?_,rfl,q _ hf⟩;exact⟨z,us,0,r,aL _ rfl⟩
end
abbrev Sp:=List V->Hp->VK->XK->Prop
abbrev DQ:=List Env->Hp->Shared->XK->Value->Shared->Prop
structure wX (P:Program) (w:World) (K:Wb) (mg:Str->Option Value) (base:Heap) (A:Around) (outer:List Env) (s:Shared) (H:Hp):Prop where
 frames:A.frames=some outer
 mod:Mod K mg base
 bs:∀ b o,base.get? b=some o->s.heap.get? b=some o/\H b=none
 bsz:base.objs.size<=s.heap.objs.size
 funs:s.heap.FunFrames base outer
 frf:∀ b∈lN outer,H b=none
 hok:pI P w H s.heap
 bare:AllBare s.gens
def CE(outer:List Env)(P:Program)(w:World)(H:Hp)(s:Shared)(Q:VK)(u:Value)(s':Shared):Prop:=
 ∃v H',s'.os=s.os/\AllBare s'.gens/\Un (lN outer) [] H H' s.heap s'.heap/\pI P w H' s'.heap/\RelV v u/\Q v H'
def CR(CX:DQ)(outer:List Env)(P:Program)(w:World)(H:Hp)(s:Shared)(Q:VK)(E:XK)(r:Result)(s':Shared):Prop:=
 match r with
 | .ok (.ret u)=>CE outer P w H s Q u s'
 | .ok _=>False
 | .error e=>CX outer H s E e s'
structure oW (P:Program) (w:World) (K:Wb) (mg:Str->Option Value) (base:Heap) (CX:DQ) (k:Nat) (f:Addr) (fd:FuncData) (ps:List Str) (sp:Sp):Prop where
 len:∀ vs H Q E,sp vs H Q E->vs.length=ps.length
 run:∀ (A:Around) (outer:List Env) (s:Shared) (H:Hp) (args:Args) (us:List Value) (vs:List V) (Q:VK) (E:XK),g0 k A->wX P w K mg base A outer s H->BindsTo s fd args (ps.zip us)->cH vs us->sp vs H Q E →
  codeAny (model P w) A (.call (.ref f) args) (CR CX outer P w H s Q E) s
def wX.make{P:Program}{w:World}{K:Wb}{mg:Str->Option Value}{base:Heap}{A:Around}{outer:List Env}{s:Shared}{H:Hp}(e:wX P w K mg base A outer s H)(C:Addr)(us:List Value)(kw:List (Str×Value)):
  wX P w K mg base (A.under (.builtin "type.__call__" ⟨.ref C::us,kw⟩)) outer s H:=⟨by first | exact e.frames | (simpa [Around.under,Code.envs,Code.isFrame,pushEnvs] using e.frames),e.mod,e.bs,e.bsz,e.funs,e.frf,e.hok,e.bare⟩
section
variable {X:Cx} {pins:List (Addr×Obj)} {σ:St} {H:Hp} {s s':Shared}
def bX.env0(I:bX X pins σ H s):wX X.prog X.w X.K X.mg X.base X.A X.stack s H:=
 ⟨I.ok.frames,I.ok.mod,I.bs,b9 I.ok.bsz I.sz,I.stack,I.stkFree,I.hok,I.bare⟩
def bX.after{Q:VK}{u:Value}(I:bX X pins σ H s)(h:CE X.stack X.prog X.w H s Q u s'):EP X pins σ Q u s':=by
 obtain⟨v,H',os,bare,un,hok,r,q⟩:=h;obtain⟨hh,g,d,t,os'⟩:=s';obtain rfl:os'=s.os:=os;exact⟨v,H',I.call (h':=hh) (g':=g) (d':=d) (t':=t) (ch:=[]) un hok bare (λb z=>absurd z (by simp)),r,q⟩
end
def pM(sp:Sp)(dvs:List V)(E:XK)(t:TA):TE:=λσ H Q=>t σ H λvs H1=>sp (vs++dvs) H1 Q E
def Binds(K:Wb)(fd:FuncData)(ps:List Str)(ds:List Value):Prop:=
 ∀(s:Shared) (us:List Value),K.In s.heap->(us++ds).length=ps.length->BindsTo s fd ⟨us,[]⟩ (ps.zip (us++ds))
def Binds.all{K:Wb}{fd:FuncData}{ps:List Str}(h:∀us:List Value,us.length=ps.length->bindArgs fd ⟨us,[]⟩=pure (ps.zip us)):Binds K fd ps []:=λs us _ hl=>by
 rw[cX] at hl ⊢;exact .of_eq (h us hl)
def uI(CX:DQ)(X:Cx)(E:XK):Prop:=∀(pins:List (Addr×Obj)) (σ:St) (H:Hp) (s:Shared) (e:Value) (s':Shared),bX X pins σ H s->CX X.stack H s E e s'->X.xe e s'
section
variable {X:Cx} {CX:DQ} {k:Nat} {f:Addr} {fd:FuncData} {ps:List Str} {sp:Sp} {dvs:List V} {ds:List Value} {E:XK} {x:Str} {p pos:Pos} {e:Expr} {es:List Expr} {t:TA}
def Kd{pins:List (Addr×Obj)}{σ:St}{H:Hp}{s:Shared}{Q:VK}{us:List Value}{vs:List V}(F:oW X.prog X.w X.K X.mg X.base CX k f fd ps sp)(hr:g0 k X.A)(hb:Binds X.K fd ps ds)(hd:cH dvs ds)(hx:uI CX X E)
  (I:bX X pins σ H s) (r:cH vs us) (h:sp (vs++dvs) H Q E):wpAny (model X.prog X.w) X.A (call (.ref f) us) (EP X pins σ Q) X.xe s:=by
 have r2:cH (vs++dvs) (us++ds):=r.append hd;have hl:(us++ds).length=ps.length:=by rw[<-r2.length];exact F.len _ _ _ _ h
 refine WJ (WK (F.run X.A X.stack s H ⟨us,[]⟩ (us++ds) (vs++dvs) Q E hr I.env0 (hb s us I.kIn hl) r2 h) λr s' hq=>?_);cases r with
 | error e=>exact hx pins σ H s e s' I hq
 | ok fl=>
  cases fl with
  | ret u=>exact I.after hq
  | next=>exact False.elim hq
  | brk=>exact False.elim hq
  | cont=>exact False.elim hq
def vi(F:oW X.prog X.w X.K X.mg X.base CX k f fd ps sp)(hr:g0 k X.A)(hg:Gl X x)(hm:X.mg x=some (.ref f))(hk:PySem.W.keepIn X.K (.ref f)=true)(hb:Binds X.K fd ps ds)(hd:cH dvs ds)(hx:uI CX X E)
  (ha:PA X (e::es) t) (hdb:(x==("__debug__":Str))=false:=by decide) (he:starEach (e::es) X.env=(false,eval e X.env)::starEach es X.env:=by rfl) (hpl:(backTo pos (starEach es X.env)).any (·.1)=false:=by rfl) :
  PE X (.Call (.Name x p) (e::es) [] pos) (pM sp dvs E t):=by
 intro pins s σ H Q I h;refine WL (kJ I hg hm ?_ hdb);refine iX (h₀:=X.base) I.ok.mod.kin hk (dJ (ha pos pins s σ H _ I h) λus s1 ⟨vs,H1,I1,r,q⟩=>⟨I1.kIn,?_⟩) he hpl;exact Kd F hr hb hd hx I1 r q
end
structure bO (N P:List Str) (sc:Scope):Prop where
 kind:sc.kind=.function
 co:sc.isCoroutine=false
 gen:sc.isGenerator=false
 nd:N.Nodup
 pre:N.take P.length=P
 par:∀ x∈P,sc.names.lookup x=some .local\/sc.names.lookup x=some .cell
 nofree:∀ y∈sc.names,y.2≠.free
def vE{kindOf:Str->Option NameKind}{x:Str}:∀{binds:List (Str×Value)} {m:Str->Option Value},(∀v,(x,v)∉binds)->bindL kindOf binds m x=m x
 | [],_,_=>rfl
 | (n,v)::r,m,h=>by
  unfold bindL;rw[vE λw hw=>h w (aO _ hw)]
  split
  ·have:x≠n:=by rintro rfl;exact h v ao
   simp[this]
  ·rfl
def vG{kindOf:Str->Option NameKind}{x:Str}:∀{binds:List (Str×Value)} {m:Str->Option Value},(∀v,(x,v)∉binds)->bindC kindOf binds m x=m x
 | [],_,_=>rfl
 | (n,v)::r,m,h=>by
  unfold bindC;rw[vG λw hw=>h w (aO _ hw)]
  split
  ·rfl
  ·have:x≠n:=by rintro rfl;exact h v ao
   simp[this]
def vF{kindOf:Str->Option NameKind}{x:Str}{v:Value}:∀{P:List Str} {vs:List Value} {i:Nat} {m:Str->Option Value},P.Nodup->P[i]? = some x->vs[i]? = some v->kindOf x=some .local →
  bindL kindOf (P.zip vs) m x=some v
 | [],_,_,_,_,h,_,_=>by simp at h
 | _::_,[],_,_,_,_,h,_=>by simp at h
 | p::P,w::vs,0,m,nd,h1,h2,hk=>by
  simp at h1 h2;subst h1;subst h2;show bindL kindOf ((p,w)::P.zip vs) m p=_;unfold bindL;rw[vE λv hv=>(dI.mp nd).1 (jv hv).1,W5 hk];simp
 | p::P,w::vs,i+1,m,nd,h1,h2,hk=>by
  show bindL kindOf ((p,w)::P.zip vs) m x=_;unfold bindL;exact vF (i:=i) (dI.mp nd).2 (by simpa using h1) (by simpa using h2) hk
def vH{kindOf:Str->Option NameKind}{x:Str}{v:Value}:∀{P:List Str} {vs:List Value} {i:Nat} {m:Str->Option Value},P.Nodup->P[i]? = some x->vs[i]? = some v->kindOf x≠some .local →
  bindC kindOf (P.zip vs) m x=some v
 | [],_,_,_,_,h,_,_=>by simp at h
 | _::_,[],_,_,_,_,h,_=>by simp at h
 | p::P,w::vs,0,m,nd,h1,h2,hk=>by
  simp at h1 h2;subst h1;subst h2;show bindC kindOf ((p,w)::P.zip vs) m p=_;unfold bindC;rw[vG λv hv=>(dI.mp nd).1 (jv hv).1,W4 hk];simp
 | p::P,w::vs,i+1,m,nd,h1,h2,hk=>by
  show bindC kindOf ((p,w)::P.zip vs) m x=_;unfold bindC;exact vH (i:=i) (dI.mp nd).2 (by simpa using h1) (by simpa using h2) hk
def start(N:List Str)(vs:List V):St:=vs.map some++List.replicate (N.length-vs.length) none
def jq(CX:DQ)(P:Program)(w:World)(K:Wb)(mg:Str->Option Value)(base:Heap)(N:List Str)(qual:Str)(scope:Scope)(f:Addr)(cd:Value)(A:Around)(outer:List Env)(s:Shared)(H:Hp)(E:XK):Cx where
 prog:=P
 w:=w
 K:=K
 mg:=mg
 base:=base
 A:=A.deeper (envOfC qual scope s.heap.objs.size f cd)
 N:=N
 s₀:=s
 H₀:=H
 env:=envOfC qual scope s.heap.objs.size f cd
 outer:=outer
 stack:=envOfC qual scope s.heap.objs.size f cd::outer
 ex:=[]
 calm:=true
 fn:=λ_=>true
 pn:=[]
 xe:=λe s'=>wpAny (model P w) (A.deeper (envOfC qual scope s.heap.objs.size f cd)) (leaving (envOfC qual scope s.heap.objs.size f cd) e) (λ_ s''=>CX outer H s E e s'') (λe' s''=>CX outer H s E e' s'') s'
def yd{sc:Scope}{n:Nat}{x:Str}(h:sc.names.lookup x=some .cell):∃c,(cellsFrom n sc.names []).lookup x=some c:=by
 have q:=io sc.names n [] (.inl h);exact lg.mp q
def uv{CX:DQ}{P:Program}{w:World}{K:Wb}{mg:Str->Option Value}{base:Heap}{N ps:List Str}{qual:Str}{scope:Scope}{f:Addr}{cd:Value}{A:Around}{outer:List Env}{s s1:Shared}{H:Hp}{E:XK}{us:List Value}{vs:List V}
  (S:bO N ps scope) (hd:A.handled=none) (e0:wX P w K mg base A outer s H) (hl:vs.length=ps.length) (r:cH vs us)
  (x:InCallC s s.heap.objs.size (bindL (envOfC qual scope s.heap.objs.size f cd).kindOf (ps.zip us) λ_=>none) (cellsFrom (s.heap.objs.size+1) scope.names []) (bindC (envOfC qual scope s.heap.objs.size f cd).kindOf (ps.zip us) λ_=>none) s1) :
  bX (jq CX P w K mg base N qual scope f cd A outer s H E) [] (start N vs) H s1:=by
 have hpl:ps.length<=N.length:=by have:=congrArg List.length S.pre;rw[cI] at this;lia
 obtain⟨h1,tk,rfl,hk⟩:=x.done;have noA:∀b:Addr,b∉(jq CX P w K mg base N qual scope f cd A outer s H E).ex:=λb z=>absurd (show b∈([]:List Addr) from z) (by simp);refine⟨⟨e0.mod,S.kind,rfl,rfl,aI _,λy z c h1 h2=>?_,λy hy=>?_,λy c _ h=>?_,λ_=>hd,Around.frames_deeper e0.frames,.inr ⟨rfl,rfl⟩,λb z=>absurd z (noA b),e0.bs,e0.bsz,λb _ _=>noA b,λb z=>absurd z (noA b),e0.funs,e0.frf⟩,
  rfl,e0.bare,Un.kept hk,⟨_,x.toInCall.ns,λi y v h1 h2 h3=>?_⟩,λy c h=>⟨_,x.cell y c h⟩,e0.hok.fresh (aI _),λy c h=>?_,λp hp=>absurd (show p∈([]:List (Addr×Obj)) from hp) (by simp),e0.hok.kept hk,?_⟩
 ·exact name_of_addr x.apart (cy h1) (cy h2)
 ·have hy:scope.names.lookup y=some .cell\/scope.names.lookup y=some .free:=hy;rcases hy with hy | hy
  ·exact yd hy
  ·exact absurd rfl (S.nofree _ (cy hy))
 ·exact ba (x.above y c (cy h))
 ·have hi:i<vs.length:=by
   unfold start at h2;by_cases hi:i<vs.length
   ·exact hi
   ·rw[ai (by simpa using hi)] at h2;rw[mY] at h2
    split at h2<;>cases h2
  have ha:vs[i]? = some v:=by
   unfold start at h2;rw[bT (by simpa using hi),au] at h2;cases e:vs[i]? with
   | none=>rw[e] at h2;cases h2
   | some a=>rw[e] at h2;cases h2;rfl
  obtain⟨u,hu,rv⟩:=r.get ha;have hp:ps[i]? = some y:=by
   rw[<-S.pre,List.getElem?_take_of_lt (by lia)];exact h1
  have ndP:ps.Nodup:=by rw[<-S.pre];exact S.nd.sublist (List.take_sublist _ _)
  refine⟨u,rv,?_⟩;rcases S.par y (bM hp) with k | k
  ·exact .inl ⟨k,vF ndP hp hu k⟩
  ·obtain⟨c,e⟩:=yd (n:=s.heap.objs.size+1) k;refine .inr ⟨.inl k,c,e,?_⟩;have q:=x.cell y c e;rw[vH ndP hp hu (by show scope.names.lookup y≠_;rw[k];decide)] at q;exact q
 ·exact e0.hok.fresh (ba (x.above y c (cy h)))
 ·unfold start;show _=N.length;rw[bH,aG,ni];lia
def Je{CX:DQ}{P:Program}{w:World}{K:Wb}{mg:Str->Option Value}{base:Heap}{k:Nat}{f:Addr}{name qual:Str}{params:Arguments}{body:List Stmt}{scope:Scope}{dV kV doc pm cdv ct oc:Value}{an od:Option Addr}
  {osl:Array (Option Value)} {N ps:List Str} {sp:Sp} (lk:K.lookup f=some ⟨oc,od,.func (PySem.W.fnOf name qual params body scope dV kV doc pm an cdv ct),osl⟩) (hcd:PySem.W.codeIn K cdv qual=true) (S:bO N ps scope)
  (len:∀vs H Q E,sp vs H Q E->vs.length=ps.length)
  (hbody:∀(A:Around) (outer:List Env) (s:Shared) (H:Hp) (vs:List V) (Q:VK) (E:XK),g0 k (A.deeper (envOfC qual scope s.heap.objs.size f cdv))->sp vs H Q E →
   ∃t,vJ (jq CX P w K mg base N qual scope f cdv A outer s H E) body t/\t { nx:=λ_ H'=>Q .non H',rt:=Q } (start N vs) H) :
  oW P w K mg base CX (k+1) f (PySem.W.fnOf name qual params body scope dV kV doc pm an cdv ct) ps sp:=by
 refine⟨len,λA outer s H args us vs Q E hr e0 hb r hsp=>?_⟩;have hl:=len _ _ _ _ hsp;have KX:K.In s.heap:=e0.mod.kin.keeps λb o e=>(e0.bs b o e).1;have lim:s.heap.NoLimit:=e0.mod.nolimit.keeps λb o e=>(e0.bs b o e).1;have hkind:∀y∈ps.zip us,scope.names.lookup y.1=some .local\/(scope.names.lookup y.1=some .cell/\((cellsFrom (s.heap.objs.size+1) scope.names []).lookup y.1).isSome=true):=λ⟨n,v⟩ hy=>by
  rcases S.par n (jv hy).1 with q | q
  ·exact .inl q
  ·exact .inr ⟨q,io _ _ _ (.inl q)⟩
 refine codeAny_call_function hr.depth (KX _ _ lk) rfl S.co S.gen rfl (PySem.W.codeRec_of KX hcd) (hb _ _ _ _ ?_);refine wpAny_newFunctionEnv_cells S.kind hkind λenv he s1 x=>?_;subst he;refine⟨lim.keeps x.toInCall.keep,codeAny_func ?_⟩;obtain⟨t,ht,hq⟩:=hbody A outer s H vs Q E (hr.deeper _) hsp;have I:bX (jq CX P w K mg base N qual scope f cdv A outer s H E) [] (start N vs) H s1:=uv S hr.hd e0 hl r x;refine wpAny_mono (ht [] s1 (start N vs) H _ I hq) (λfl s' hs=>?_) λe s' hs=>hs;have fin:∀{σ':St} {H':Hp} {v:V} {u:Value},bX (jq CX P w K mg base N qual scope f cdv A outer s H E) [] σ' H' s'->RelV v u->Q v H'->CE outer P w H s Q u s':=
  fun {σ' H' v u} J rv q=>⟨v,H',J.os,J.bare,J.base,J.hok,rv,q⟩
 cases fl with
 | ret u=>
  obtain⟨v,σ',H',J,rv,q⟩:=hs;exact fin J rv q
 | next=>
  obtain⟨σ',H',J,q⟩:=hs;exact fin (v:=V.non) (u:=Value.none) J rfl q
 | brk=>
  obtain⟨_,_,_,q⟩:=hs;exact False.elim q
 | cont=>
  obtain⟨_,_,_,q⟩:=hs;exact False.elim q
section
variable {X:Cx} {x:Str} {p pos:Pos} {e:Expr} {es:List Expr} {t:TA} {id T:String} {r:List V->Hp->VK->Prop}
def MM(r:List V->Hp->VK->Prop)(t:TA):TE:=λσ H Q=>t σ H λvs H1=>r vs H1 Q
def FN (hc:fN X (.builtin id) r) (hg:Gl X x) (hm:X.mg x=none) (hv:bootBuiltins x=some (.builtin id)) (ha:PA X (e::es) t) (hn:x≠"__name__":=by decide) (hdb:(x==("__debug__":Str))=false:=by decide)
  (he:starEach (e::es) X.env=(false,eval e X.env)::starEach es X.env:=by rfl) (hpl:(backTo pos (starEach es X.env)).any (·.1)=false:=by rfl):PE X (.Call (.Name x p) (e::es) [] pos) (MM r t):=by
 intro pins s σ H Q I h;refine WL (jm I hg hm hv ?_ hn hdb);exact jU (dJ (ha pos pins s σ H _ I h) λus s1 ⟨vs,H1,I1,r1,q1⟩=>hc pins s1 σ H1 vs us Q I1 r1 q1) he hpl
def CZ (hc:fN X (.type T) r) (hg:Gl X x) (hm:X.mg x=none) (hv:bootBuiltins x=some (.type T)) (ha:PA X (e::es) t) (hn:x≠"__name__":=by decide) (hdb:(x==("__debug__":Str))=false:=by decide)
  (he:starEach (e::es) X.env=(false,eval e X.env)::starEach es X.env:=by rfl) (hpl:(backTo pos (starEach es X.env)).any (·.1)=false:=by rfl):PE X (.Call (.Name x p) (e::es) [] pos) (MM r t):=by
 intro pins s σ H Q I h;refine WL (jm I hg hm hv ?_ hn hdb);exact bW (dJ (ha pos pins s σ H _ I h) λus s1 ⟨vs,H1,I1,r1,q1⟩=>hc pins s1 σ H1 vs us Q I1 r1 q1) he hpl
end
end L2
namespace HT
open PySem PyProof.Rows
section
def sIx(n d:Nat):Option Int->Nat
 | none=>d
 | some v=>if v<0 then (v+(n:Int)).toNat else min v.toNat n
def sIx_none(n d:Nat):sIx n d none=d:=rfl
def sIx_nat(n d k:Nat):sIx n d (some (k:Int))=min k n:=by
 show (if (k:Int)<0 then ((k:Int)+(n:Int)).toNat else min (k:Int).toNat n)=min k n;rw[W4 (by lia),fM]
end
end HT
namespace L2
open PySem PySem.Spec PyProof.Rows
abbrev TO:=St->Hp->(Option Int->Hp->Prop)->Prop
def PO(X:Cx)(e:Option Expr)(t:TO):Prop:=
 ∀(pins:List (Addr×Obj)) (s:Shared) (σ:St) (H:Hp) (Q:Option Int->Hp->Prop),bX X pins σ H s->t σ H Q →
  wpAny (model X.prog X.w) X.A (evalPart e X.env) (λu s'=>∃o H',bX X pins σ H' s'/\IsPart u o/\Q o H') X.xe s
def vQ:TO:=λ_ H Q=>Q none H
def Dv(t:TE):TO:=λσ H Q=>t σ H λx H1=>∃i,x=.int i/\Q (some i) H1
section
variable {X:Cx} {e:Expr} {te:TE} {lo hi:Option Expr} {tl th:TO} {pos p2:Pos}
def Hl:PO X none vQ:=by
 intro pins s σ H Q I h;rw[evalPart_none];exact WE ⟨none,H,I,.none,h⟩
def Hk(h:PE X e te):PO X (some e) (Dv te):=by
 intro pins s σ H Q I hw;rw[evalPart_some];refine dJ (h pins s σ H _ I hw) λu s1 ⟨x,H1,I1,r1,q1⟩=>?_;obtain⟨i,rfl,q⟩:=q1;obtain⟨t,rfl⟩:=r1;exact⟨some i,H1,I1,.int i t,q⟩
def OH(X:Cx)(r:V->Option Int->Option Int->Hp->VK->Prop):Prop:=
 ∀(pins:List (Addr×Obj)) (s:Shared) (σ:St) (H:Hp) (x:V) (v vl vu:Value) (lo hi:Option Int) (sl:Addr) (Q:VK),bX X pins σ H s->RelV x v->s.heap.IsSliceOf sl vl vu .none->IsPart vl lo->IsPart vu hi->r x lo hi H Q →
  ∃T id,typeLookup (.type T) "__getitem__"=pure (some (.builtin id))/\s.TypeIs v T/\wpAny (model X.prog X.w) X.A (getItem v (.ref sl)) (EP X pins σ Q) X.xe s
def OS(r:V->Option Int->Option Int->Hp->VK->Prop)(te:TE)(tl th:TO):TE:=λσ H Q=>te σ H λx H1=>tl σ H1 λl H2=>th σ H2 λu H3=>r x l u H3 Q
def FA{r:V->Option Int->Option Int->Hp->VK->Prop}(hr:OH X r)(he:PE X e te)(hl:PO X lo tl)(hu:PO X hi th):PE X (.Subscript e (.Slice lo hi none p2) pos) (OS r te tl th):=by
 intro pins s σ H Q I h;refine Subscript_ (dJ (he pins s σ H _ I h) λv s1 ⟨x,H1,I1,r1,q1⟩=>?_);refine wpAny_Slice (dJ (hl pins s1 σ H1 _ I1 q1) λvl s2 ⟨l,H2,I2,pl,q2⟩=>dJ (hu pins s2 σ H2 _ I2 q2) λvu s3 ⟨u,H3,I3,pu,q3⟩=>?_);rw[evalPart_none];refine WE ?_;have I4:bX X pins σ H3 { s3 with heap:=s3.heap.push { cls:=.type "slice",data:=.fields #[vl,vu,.none] } }:=I3.kept (t':=s3.toks) λb ob q=>aA _ q;obtain⟨T,id,hT,ht,hg⟩:=hr pins { s3 with heap:=s3.heap.push { cls:=.type "slice",data:=.fields #[vl,vu,.none] } } σ H3 x v vl vu l u s3.heap.objs.size Q I4 r1 (Heap.IsSliceOf.new ..) pl pu q3;show wpAny (model X.prog X.w) X.A (subscriptTail e (.Slice lo hi none p2) v (.ref s3.heap.objs.size)) (EP X pins σ Q) X.xe { s3 with heap:=s3.heap.push { cls:=.type "slice",data:=.fields #[vl,vu,.none] } };exact tail_any (ops:=[.ref s3.heap.objs.size,v]) ht hT hg (by with_unfolding_all rfl)
def qk(xs:List V)(lo hi:Option Int):List V:=(xs.drop (HT.sIx xs.length 0 lo)).take (HT.sIx xs.length xs.length hi-HT.sIx xs.length 0 lo)
def yZ(xs:List V)(lo hi:Option Int):(qk xs lo hi).length<=xs.length:=by
 unfold qk;rw[cI,fb];lia
end
def Gc(n:Nat)(i:Int):Option Nat:=if 0<=i then (if i<n then some i.toNat else none) else if -(n:Int)<=i then some (i+n).toNat else none
def vI{α:Type}(xs:List α)(i:Int):Option α:=(Gc xs.length i).bind λj=>xs[j]?
def BY{n:Nat}{i:Int}{j:Nat}(h:Gc n i=some j):seqIndex? i n=some j/\j<n/\-(n:Int)<=i/\i<n:=by
 unfold Gc at h;by_cases h0:0<=i
 ·rw[W5 h0] at h;by_cases h1:i<n
  ·rw[W5 h1] at h;have e:i.toNat=j:=bI h;exact⟨by rw[seqIndex_of h0 h1,e],by lia,by lia,h1⟩
  ·rw[W4 h1] at h;cases h
 ·rw[W4 h0] at h;by_cases h1:-(n:Int)<=i
  ·rw[W5 h1] at h;have e:(i+n).toNat=j:=bI h;exact⟨by rw[seqIndex_neg (by lia) h1,e],by lia,h1,by lia⟩
  ·rw[W4 h1] at h;cases h
def wQ{α:Type}{xs:List α}{i:Int}{v:α}(h:vI xs i=some v):∃j,seqIndex? i xs.length=some j/\xs[j]? = some v/\j<xs.length/\-(xs.length:Int)<=i/\i<xs.length:=by
 unfold vI at h;cases e:Gc xs.length i with
 | none=>rw[e] at h;cases h
 | some j=>
  rw[e] at h;obtain⟨h1,h2,h3,h4⟩:=BY e;exact⟨j,h1,h,h2,h3,h4⟩
def kL{α:Type}{xs:List α}{j:Nat}{v:α}(h:xs[j]? = some v):vI xs (j:Int)=some v:=by
 have hj:j<xs.length:=(aK.mp h).1;have e:Gc xs.length (j:Int)=some j:=by
  unfold Gc;rw[W5 (by lia),W5 (by lia)];simp
 unfold vI;rw[e];exact h
def Bp(b:Expr):Prop:=∀o i,subscripted b false o i=operate [o,i] (getItem o i)
def ME(X:Cx)(r:R2):Prop:=
 ∀(value slice:Expr) (pins:List (Addr×Obj)) (s:Shared) (σ:St) (H:Hp) (x y:V) (v u:Value) (Q:VK),bX X pins σ H s->RelV x v->RelV y u->r x y H Q →
  subscripted slice false v u=operate [v,u] (getItem v u)->wpAny (model X.prog X.w) X.A (subscriptTail value slice v u) (EP X pins σ Q) X.xe s
def Nf(X:Cx)(id:String)(r:V->List V->Hp->VK->Prop):Prop:=
 ∀(pins:List (Addr×Obj)) (s:Shared) (σ:St) (H:Hp) (x:V) (xs:List V) (v:Value) (us:List Value) (Q:VK),bX X pins σ H s->RelV x v->cH xs us->r x xs H Q →
  wpAny (model X.prog X.w) X.A (call (.builtin id) (v::us)) (EP X pins σ Q) X.xe s
section
variable {X:Cx} {a b:Expr} {ta tb:TE} {pos:Pos}
def NO{r:R2}(hr:ME X r)(ha:PE X a ta)(hb:PE X b tb)(hs:Bp b):PE X (.Subscript a b pos) (Dw r ta tb):=by
 intro pins s σ H Q I h;exact Subscript_ (Lw ha hb I h λv u s2 x y H2 I2 rx ry q=>hr a b pins s2 σ H2 x y v u Q I2 rx ry q (hs _ _))
def HN(K:Wb):R2:=λx y H Q=>∃p xs i v,x=.ref p/\y=.int i/\c6 K H p xs/\vI xs i=some v/\Q v H
def Kj(K:Wb):R2:=λx y H Q=>∃p xs i v,x=.ref p/\y=.int i/\de K H p xs/\vI xs i=some v/\Q v H
def NH:R2:=λx y H Q=>∃z i c,x=.str z/\y=.int i/\z.length<=sizeLine/\vI z.cps.toList i=some c/\Q (.str ⟨#[c]⟩) H
def dH:ME X (HN X.K):=by
 intro value slice pins s σ H x y v u Q I rx ry h hs;obtain⟨p,xs,i,z,rfl,rfl,hq,he,q⟩:=h;cases rx;obtain⟨t,rfl⟩:=ry;obtain⟨its,r,pl,hz⟩:=I.list hq;obtain⟨j,h1,h2,h3,h4,h5⟩:=wQ he;obtain⟨w,ew,rw'⟩:=r.get h2;have hl:=r.length;have hn:=qD;have fin:EP X pins σ Q w s:=⟨z,H,I,rw',q⟩
 by_cases h0:0<=i
 ·have hj:i.toNat=j:=by
   rw[seqIndex_of h0 h5] at h1;exact bI h1
  exact item_listR pl.isList h0 (by lia) (by rw[hj];simpa using ew) fin hs
 ·have hj:(i+(its.toArray.size:Int)).toNat=j:=by
   rw[seqIndex_neg (by lia) h4] at h1;rw[aX,<-hl];exact bI h1
  exact subscriptTail_builtinR (x:=w) pl.isList.typeIs slot_list_getitem.lookup
   (wpAny_getItem_list_neg (Q:=λr s'=>r=w/\EP X pins σ Q r s') pl.isList (by lia) (by rw[aX]<;>lia) (by lia) (by rw[hj];simpa using ew) ⟨rfl,fin⟩) hs
def fu:ME X (Kj X.K):=by
 intro value slice pins s σ H x y v u Q I rx ry h hs;obtain⟨p,xs,i,z,rfl,rfl,hq,he,q⟩:=h;cases rx;obtain⟨t,rfl⟩:=ry;obtain⟨its,r,pl,hz⟩:=I.tuple hq;obtain⟨j,h1,h2,h3,h4,h5⟩:=wQ he;obtain⟨w,ew,rw'⟩:=r.get h2;have hl:=r.length;have hn:=qD;have fin:EP X pins σ Q w s:=⟨z,H,I,rw',q⟩
 exact subscriptTail_builtinR (x:=w) pl.typeIs slot_tuple_getitem.lookup
  (getItem_tuple (j:=j) (Q:=λr s'=>r=w/\EP X pins σ Q r s') pl (by lia) (by lia) (by rw[aX,<-hl];exact h1) (by simpa using ew) ⟨rfl,fin⟩) hs
def tW:ME X NH:=by
 intro value slice pins s σ H x y v u Q I rx ry h hs;obtain⟨z,i,c,rfl,rfl,hz,he,q⟩:=h;obtain⟨t,rfl⟩:=rx;obtain⟨t',rfl⟩:=ry;obtain⟨j,h1,h2,h3,h4,h5⟩:=wQ he;have hl:z.cps.toList.length=z.length:=by simp[Str.length]
 rw[hl] at h1 h4 h5;have hn:=qD;exact tail_any (WM s z t) slot_str_getitem.lookup (getItem_str (c:=c) (by
  have e1:decide (i < -(2 ^ 63:Int))=false:=W7 (by lia);have e2:decide (i>=2 ^ 63)=false:=W7 (by lia);rw[e1,e2,lq]) (by rw[h1];simpa using h2) ⟨.str ⟨#[c]⟩,H,I.tok _,⟨_,rfl⟩,q⟩) hs
def zw (its:List Value) (n j:Nat) (u:Value):Obj.mapSeq (·.setIfInBounds j u) { cls:=.type "list",data:=.seq its.toArray n }={ cls:=.type "list",data:=.seq (its.set j u).toArray n }:=by
 simp[Obj.mapSeq]
def bX.lst{pins:List (Addr×Obj)}{σ:St}{H:Hp}{s:Shared}{p:Addr}{xs:List V}(I:bX X pins σ H s)(h:H p=some (.lst xs)):
  ∃(its:List Value) (n:Nat),cH xs its/\s.heap.get? p=some { cls:=.type "list",data:=.seq its.toArray n }/\xs.length<=sizeLine:=by
 obtain⟨z,its,n,r,e⟩:=I.hok p _ h;exact⟨its,n,r,e,z⟩
def bX.lstUpd{pins:List (Addr×Obj)}{σ:St}{H:Hp}{s:Shared}{p:Addr}{xs ys:List V}{its its':List Value}{n n':Nat}{f:Obj->Obj}(I:bX X pins σ H s)(h:H p=some (.lst xs))
  (ho:s.heap.get? p=some { cls:=.type "list",data:=.seq its.toArray n }) (hf:f { cls:=.type "list",data:=.seq its.toArray n }={ cls:=.type "list",data:=.seq its'.toArray n' }) (r:cH ys its') (hz:ys.length<=sizeLine) (t:Nat) :
  bX X pins σ (bP H p (.lst ys)) { s with heap:=s.heap.update p f,toks:=t }:=by
 have e:(s.heap.update p f).get? p=some { cls:=.type "list",data:=.seq its'.toArray n' }:=by
  rw[c7 f ho (by rw[hf]<;>rfl),hf]
 refine I.write (x:=p) (e:=p) (by rw[h];trivial) (.inl rfl) (λb u hb q=>(ix _ _ (bc hb)).trans q) ⟨_,e⟩ ?_;exact⟨hz,its',n',r,e⟩
def NE:V->V->V->Hp->(Hp->Prop)->Prop:=λo i v H Q=>∃p xs k j,o=.ref p/\i=.int k/\H p=some (.lst xs)/\Gc xs.length k=some j/\Q (bP H p (.lst (xs.set j v)))
def set_list:MA X NE:=by
 intro pins s σ H o i v ov iv u Q I ro ri rv h;obtain⟨p,xs,k,j,rfl,rfl,hp,hj,q⟩:=h;cases ro;obtain⟨t,rfl⟩:=ri;obtain⟨its,n,r,ho,hz⟩:=I.lst hp;obtain⟨h1,h2,h3,h4⟩:=BY hj;have hl:=r.length;have hn:=qD;have I':bX X pins σ (bP H p (.lst (xs.set j v))) { s with heap:=s.heap.update p (Obj.mapSeq (·.setIfInBounds j u)) }:=
  I.lstUpd hp ho (zw its n j u) (r.set rv j) (by rw[gC];exact hz) s.toks
 by_cases h0:0<=k
 ·have hk:k.toNat=j:=by
   rw[seqIndex_of h0 h4] at h1;exact bI h1
  exact PySem.W.ki_setAt ho h0 (by lia) (by rw[aX,<-hl];exact h4) (by rw[hk];exact⟨_,I',q⟩)
 ·have hk:(k+(its.toArray.size:Int)).toNat=j:=by
   rw[seqIndex_neg (by lia) h3] at h1;rw[aX,<-hl];exact bI h1
  exact PySem.W.ki_setBack ho (by lia) (by rw[aX,<-hl];exact h3) (by lia) (by rw[hk];exact⟨_,I',q⟩)
def vY(lo hi:Option Int)(n:Nat):(sliceBounds lo hi none n).1=((HT.sIx n 0 lo:Nat):Int)/\(sliceBounds lo hi none n).2.1=((HT.sIx n n hi:Nat):Int)/\(sliceBounds lo hi none n).2.2=1:=by
 refine⟨?_,?_,rfl⟩
 ·cases lo with
  | none=>simp[sliceBounds,HT.sIx]
  | some i=>
   simp only[sliceBounds,HT.sIx,Option.getD_none,show (1:Int) > 0 by decide,W9];by_cases h:i<0
   ·simp only[h,W9]<;>lia
   ·simp only[h,Wa]<;>lia
 ·cases hi with
  | none=>simp[sliceBounds,HT.sIx]
  | some i=>
   simp only[sliceBounds,HT.sIx,Option.getD_none,show (1:Int) > 0 by decide,W9];by_cases h:i<0
   ·simp only[h,W9]<;>lia
   ·simp only[h,Wa]<;>lia
def uL(its:List Value)(lo hi:Option Int):slicePick its.toArray lo hi none=((its.drop (HT.sIx its.length 0 lo)).take (HT.sIx its.length its.length hi-HT.sIx its.length 0 lo)).toArray:=by
 obtain⟨h1,h2,h3⟩:=vY lo hi its.toArray.size;unfold slicePick;rw[h1,h2,h3];simp only[sliceRange_one,pick_run,aX]<;>rfl
def Ef(K:Wb):V->Option Int->Option Int->Hp->VK->Prop:=λx lo hi H Q=>∃a xs,x=.ref a/\c6 K H a xs/\∀p,H p=none->Q (.ref p) (bP H p (.lst (qk xs lo hi)))
def kF:OH X (Ef X.K):=by
 intro pins s σ H x v vl vu lo hi sl Q I rx hs pl pu h;obtain⟨a,xs,rfl,hx,q⟩:=h;cases rx;obtain⟨its,r,ht,hz⟩:=I.list hx;have hlen:=r.length;refine⟨"list",_,slot_list_getitem.lookup,ht.isList.typeIs,?_⟩;refine wpAny_getItem_list_slice ht.isList hs pl pu .none (by simp) ?_ (by rw[aX]<;>lia);rw[uL,<-hlen];refine⟨.ref s.heap.objs.size,_,I.laid (t':=s.toks) (o:=.lst (qk xs lo hi)) (λb ob q=>aA _ q) (aI _) ?_,rfl,q _ (I.hok.fresh (aI _))⟩;exact⟨b9 (yZ xs lo hi) hz,_,0,(r.drop (HT.sIx xs.length 0 lo)).take (HT.sIx xs.length xs.length hi-HT.sIx xs.length 0 lo),aL _ rfl⟩
def cU:fN X (.builtin "len") (λxs H Q=>∃p ys,xs=[.ref p]/\(c6 X.K H p ys\/de X.K H p ys)/\Q (.int ys.length) H):=by
 intro pins s σ H xs us Q I r h;obtain⟨p,ys,rfl,hq,q⟩:=h;obtain⟨u,rfl,rx⟩:=WI r;cases rx;have hn:=qD;rcases hq with hq | hq
 ·obtain⟨its,r',pl,hz⟩:=I.list hq;have hlen:=r'.length;exact Calls.call_len_list pl.isList (by simp only[aX]<;>lia) ⟨.int ys.length,H,I.tok _,⟨s.toks+1,by rw[aX,hlen]⟩,q⟩
 ·obtain⟨its,r',pl,hz⟩:=I.tuple hq;have hlen:=r'.length;exact len_tuple pl (by simp only[aX]<;>lia) ⟨.int ys.length,H,I.tok _,⟨s.toks+1,by rw[aX,hlen]⟩,q⟩
def cm:fN X (.builtin "len") (λxs H Q=>∃z,xs=[.str z]/\z.length<=sizeLine/\Q (.int z.length) H):=by
 intro pins s σ H xs us Q I r h;obtain⟨z,rfl,hz,q⟩:=h;obtain⟨u,rfl,t,rfl⟩:=WI r;have hn:=qD;exact len_str (by lia) ⟨.int z.length,H,I.tok _,⟨_,rfl⟩,q⟩
def qo:fN X (.type "list") (λxs H Q=>∃p ys,xs=[.ref p]/\(c6 X.K H p ys\/de X.K H p ys)/\∀l,H l=none->Q (.ref l) (bP H l (.lst ys))):=by
 intro pins s σ H xs us Q I r h;obtain⟨p,ys,rfl,hq,q⟩:=h;obtain⟨u,rfl,rx⟩:=WI r;cases rx;have fin:∀(its:List Value),cH ys its->ys.length<=sizeLine->∀(h':Heap) (c':Nat),(∀b o',s.heap.get? b=some o'->h'.get? b=some o') →
   h'.get? s.heap.objs.size=some { cls:=.type "list",dict:=none,data:=.seq its.toArray c',slots:=#[] }->EP X pins σ Q (.ref s.heap.objs.size) { s with heap:=h' }:=λits r' hz h' c' kp e=>
  ⟨.ref s.heap.objs.size,_,I.laid (t':=s.toks) kp (aI _) (show cw X.prog X.w _ h' _ (.lst ys) from ⟨hz,its,c',r',e⟩),rfl,q _ (I.hok.fresh (aI _))⟩
 rcases hq with hq | hq
 ·obtain⟨its,r',pl,hz⟩:=I.list hq;have hlen:=r'.length;obtain⟨o,ho,hc,n,hd⟩:=pl.isList;exact call_list_seq p (.inl rfl) ho hc hd (λh' c' kp e=>fin its r' hz h' c' kp e) (by simp only[aX]<;>lia)
 ·obtain⟨its,r',pl,hz⟩:=I.tuple hq;have hlen:=r'.length;obtain⟨o,ho,hc,n,hd⟩:=pl;exact call_list_seq p (.inr rfl) ho hc hd (λh' c' kp e=>fin its r' hz h' c' kp e) (by simp only[aX]<;>lia)
def l8:fN X (.type "tuple") (λxs H Q=>∃p ys,xs=[.ref p]/\((c6 X.K H p ys/\∀l,H l=none->Q (.ref l) (bP H l (.tup ys)))\/(de X.K H p ys/\Q (.ref p) H))):=by
 intro pins s σ H xs us Q I r h;obtain⟨p,ys,rfl,h⟩:=h;obtain⟨u,rfl,rx⟩:=WI r;cases rx;rcases h with ⟨hq,q⟩ | ⟨hq,q⟩
 ·obtain⟨its,r',pl,hz⟩:=I.list hq;have hlen:=r'.length;refine call_tuple_list pl.isList (λh' kp=>?_) (by simp only[aX]<;>lia);have I1:bX X pins σ H { s with heap:=h' }:=I.kept (t':=s.toks) kp;have I2:bX X pins σ (bP H h'.objs.size (.tup ys)) { s with heap:=h'.push { cls:=.type "tuple",data:=.seq its.toArray } }:=
   I1.laid (t':=s.toks) (λb o e=>aA _ e) (aI _) (show cw X.prog X.w _ _ _ (.tup ys) from ⟨hz,its,r',IsTup.new _ _⟩)
  exact⟨.ref h'.objs.size,_,I2,rfl,q _ (I1.hok.fresh (aI _))⟩
 ·obtain⟨its,r',pl,hz⟩:=I.tuple hq;exact call_tuple_same pl ⟨.ref p,H,I,rfl,q⟩
def ML (K : Wb) (T : String) (x : V) (H : Hp) : Prop := match x with
 | .str _ => T = "str"
 | .int _ => T = "int"
 | .ref p => (T = "list" ∧ ∃ xs, c6 K H p xs) ∨ (T = "tuple" ∧ ∃ o, K.lookup p = some o ∧ o.cls = .type "tuple" ∧ o.dict = none) ∨
   (T = "dict" ∧ ((∃ kvs, H p = some (.dK kvs)) ∨ ∃ kvs, H p = some (.dT kvs))) ∨ (T = "set" ∧ ∃ S n, H p = some (.set S n))
 | _ => False
def Do{pins:List (Addr×Obj)}{σ:St}{H:Hp}{s:Shared}{T:String}{x:V}{v:Value}(I:bX X pins σ H s)(r:RelV x v)(ty:ML X.K T x H):
  s.TypeIs v T/\∀a,v=.ref a->∃ob,s.heap.get? a=some ob/\ob.dict=none:=by
 cases x with
 | str z=>
  obtain⟨t,rfl⟩:=r;cases (show T="str" from ty);exact⟨WM s z t,λ_ e=>nomatch e⟩
 | int i=>
  obtain⟨t,rfl⟩:=r;cases (show T="int" from ty);exact⟨typeIs_int s i t,λ_ e=>nomatch e⟩
 | ref p=>
  cases r;rcases ty with ⟨rfl,xs,hq⟩ | ⟨rfl,o,hk,hc,hd⟩ | ⟨rfl,hk⟩ | ⟨rfl,S,n,hk⟩
  ·obtain⟨its,_,pl,_⟩:=I.list hq;refine⟨pl.isList.typeIs,λa e=>?_⟩;cases e;obtain⟨o,n,e,c,hd,_⟩:=pl;exact⟨o,e,hd⟩
  ·refine⟨⟨o,I.kIn p o hk,hc⟩,λa e=>?_⟩;cases e;exact⟨o,I.kIn _ o hk,hd⟩
  ·have z:∃o,s.heap.get? p=some o/\o.ExactDict:=by
    rcases hk with ⟨kvs,hk⟩ | ⟨kvs,hk⟩
    ·obtain⟨_,_,_,_,o,_,_,e,ex,_⟩:=I.hok p _ hk;exact⟨o,e,ex⟩
    ·obtain⟨_,_,_,_,o,_,_,e,ex,_⟩:=I.hok p _ hk;exact⟨o,e,ex⟩
   obtain⟨o,e,ex⟩:=z;refine⟨⟨o,e,ex.1⟩,λa e2=>?_⟩;cases e2;exact⟨o,e,ex.2.1⟩
  ·obtain⟨o,_,_,_,e,ex,_⟩:=I.hok p _ hk;refine⟨⟨o,e,ex.1⟩,λa e2=>?_⟩;cases e2;exact⟨o,e,ex.2.1⟩
 | _=>exact False.elim ty
def K6(K:Wb)(T:String)(r:V->List V->Hp->VK->Prop)(to:TE):TE:=λσ H Q=>to σ H λx H1=>ML K T x H1/\r x [] H1 Q
def Mp(K:Wb)(T:String)(r:V->List V->Hp->VK->Prop)(to:TE)(t:TA):TE:=λσ H Q=>to σ H λx H1=>ML K T x H1/\t σ H1 λxs H2=>r x xs H2 Q
variable {o e:Expr} {es:List Expr} {to:TE} {t:TA} {name:Str} {apos cpos:Pos} {T id:String} {r:V->List V->Hp->VK->Prop}
def LQ (pa:PlainAttrs T) (slot:Slot T name id) (hty:typeOf (.builtin id)=pure (.type "method_descriptor")) (hm:Nf X id r) (ho:PE X o to)
  (hbase:attributeBase o name X.env (eval o X.env)=eval o X.env:=by rfl) (hline:(apos.endLine==cpos.line)=true:=by rfl):PE X (.Call (.Attribute o name apos) [] [] cpos) (K6 X.K T r to):=by
 intro pins s σ H Q I h;refine wpAny_Call_method0_late hbase hline (dJ (ho pins s σ H _ I h) λv s1 ⟨x,H1,I1,r1,ty,q1⟩=>?_);obtain⟨h1,h2⟩:=Do I1 r1 ty;exact⟨T,id,pa,slot,hty,h1,h2,Calls.callWith_builtin rfl (PySem.evalArgs_none (hm pins s1 σ H1 x [] v [] Q I1 r1 .nil q1))⟩
def NP (pa:PlainAttrs T) (slot:Slot T name id) (hty:typeOf (.builtin id)=pure (.type "method_descriptor")) (hm:Nf X id r) (ho:PE X o to) (ha:PA X (e::es) t)
  (hbase:attributeBase o name X.env (eval o X.env)=eval o X.env:=by rfl)
  (hfew:((backTo cpos (starEach (e::es) X.env)).all (λx=>!x.1)&&(backToKw cpos (keywordEach [] X.env)).all (λx=>x.1.isSome)
   && decide ((e::es).length+([]:List Keyword).length+(if ([]:List Keyword).isEmpty then 0 else 1)<30))=true:=by rfl)
  (hline:(apos.endLine==cpos.line)=true:=by rfl) (hs:starEach (e::es) X.env=(false,eval e X.env)::starEach es X.env:=by rfl) (hplain:(backTo cpos (starEach es X.env)).any (·.1)=false:=by rfl) :
  PE X (.Call (.Attribute o name apos) (e::es) [] cpos) (Mp X.K T r to t):=by
 intro pins s σ H Q I h;refine wpAny_Call_method_late hbase hfew hline rfl (dJ (ho pins s σ H _ I h) λv s1 ⟨x,H1,I1,r1,ty,q1⟩=>?_);obtain⟨h1,h2⟩:=Do I1 r1 ty;refine⟨T,id,pa,slot,hty,h1,h2,?_⟩;have hA:=ha cpos pins s1 σ H1 _ I1 q1;rw[hs] at hA ⊢;refine Calls.callWith_builtin (by show (false || (backTo cpos (starEach es X.env)).any (·.1))=false;rw[hplain]<;>rfl) (Calls.evalArgs_plain ?_);exact dJ hA λus s2 ⟨vs,H2,I2,r2,q2⟩=>hm pins s2 σ H2 x vs v us Q I2 r1 r2 q2
/- xs.append(e),list.index on a module's tuple .. are Nf facts of 06m -/
end
def Ng(X:Cx)(id:String)(r:V->List V->Hp->VK->Prop):Prop:=
 ∀(pins:List (Addr×Obj)) (s:Shared) (σ:St) (H:Hp) (x:V) (xs:List V) (v:Value) (us:List Value) (Q:VK),bX X pins σ H s->RelV x v->cH xs us->r x xs H Q →
  wpAny (model X.prog X.w) X.A (call (.builtin id) (v::us)) (EP X pins σ Q) X.xe s
def cH.one:∀{x:V} {us:List Value},cH [x] us->∃u,us=[u]/\RelV x u
 | _,_,.cons r .nil=>⟨_,rfl,r⟩
def cH.two:∀{x y:V} {us:List Value},cH [x,y] us->∃u v,us=[u,v]/\RelV x u/\RelV y v
 | _,_,_,.cons r (.cons q .nil)=>⟨_,_,rfl,r,q⟩
def cH.zero:∀{us:List Value},cH [] us->us=[]
 | _,.nil=>rfl
def cH.dropLast{xs:List V}{us:List Value}(h:cH xs us):cH xs.dropLast us.dropLast:=by
 induction h with
 | nil=>exact .nil
 | cons r t ih=>
  cases t with
  | nil=>exact .nil
  | cons q t'=>exact .cons r ih
def AM{α:Type}(l:List α):l.eraseIdx (l.length - 1)=l.dropLast:=by
 induction l with
 | nil=>rfl
 | cons a r ih=>
  cases r with
  | nil=>rfl
  | cons b r=>
   have e:(a::b::r).length - 1=((b::r).length - 1)+1:=by
    have h1:(a::b::r).length=r.length+2:=rfl;have h2:(b::r).length=r.length+1:=rfl;lia
   rw[e,List.eraseIdx_cons_succ,ih]
   all_goals rfl
section
variable {X:Cx} {pins:List (Addr×Obj)} {σ:St} {H:Hp} {s:Shared} {l:Addr} {xs ys:List V}
def bX.lset{its its':List Value}{n:Nat}{f:Array Value->Array Value}{t':Nat}(I:bX X pins σ H s)(hH:H l=some (.lst xs))
  (e:s.heap.get? l=some { cls:=.type "list",data:=.seq its.toArray n }) (hf:f its.toArray=its'.toArray) (hv:cH ys its') (hz:ys.length<=sizeLine) :
  bX X pins σ (bP H l (.lst ys)) { s with heap:=s.heap.update l (Obj.mapSeq f),toks:=t' }:=by
 have q:=PySem.IsL.update e f;rw[hf] at q;refine I.write (x:=l) (e:=l) (by rw[hH];exact trivial) (.inl rfl) (λb' u hb hu=>(ix s.heap (Obj.mapSeq f) (bc hb)).trans hu) ⟨_,q⟩ ?_;exact⟨hz,its',_,hv,q⟩
def bX.lnew{its:List Value}{t':Nat}(I:bX X pins σ H s)(hv:cH ys its)(hz:ys.length<=sizeLine):
  bX X pins σ (bP H s.heap.objs.size (.lst ys)) { s with heap:=s.heap.push { cls:=.type "list",data:=.seq its.toArray },toks:=t' }:=
 I.laid (λ_ _ q=>aA _ q) (aI _) ⟨hz,its,0,hv,aL _ rfl⟩
def bX.fresh(I:bX X pins σ H s):H s.heap.objs.size=none:=I.hok.fresh (aI _)
def bX.lstM (I:bX X pins σ H s) (hH:H l=some (.lst xs)):xs.length<=sizeLine/\∃(its:List Value) (n:Nat),cH xs its/\xs.length=its.length/\s.heap.get? l=some { cls:=.type "list",data:=.seq its.toArray n }:=by
 obtain⟨z,its,n,r,e⟩:=I.hok l _ hH;exact⟨z,its,n,r,r.length,e⟩
end
section
variable {X:Cx}
def BM:V->List V->Hp->VK->Prop:=λx vs H Q=>∃l xs y,x=.ref l/\vs=[y]/\H l=some (.lst xs)/\xs.length<sizeLine/\Q .non (bP H l (.lst (xs++[y])))
def mH:Ng X "list.append" BM:=by
 intro pins s σ H x vs v us Q I rx rv h;obtain⟨l,xs,y,rfl,rfl,hH,hz,q⟩:=h;cases rx;obtain⟨u,rfl,ru⟩:=rv.one;obtain⟨z,its,n,r,hl,e⟩:=I.lstM hH;refine call_meets F.slot_list_append ⟨_,e,rfl⟩ F.entry_list_append (F.args_list_append_2 _ _) (PySem.list_append l its.toArray n u (by rw[aX];lia)) ⟨e,?_⟩;refine⟨.non,_,I.lset (its':=its++[u]) hH e (by simp) (r.append (.cons ru .nil)) ?_,rfl,q⟩;rw[bH,gU];lia
def NF:V->List V->Hp->VK->Prop:=λx vs H Q=>∃l xs y,x=.ref l/\vs=[]/\H l=some (.lst xs)/\xs[xs.length - 1]? = some y/\Q y (bP H l (.lst xs.dropLast))
def L5:Ng X "list.pop" NF:=by
 intro pins s σ H x vs v us Q I rx rv h;obtain⟨l,xs,y,rfl,rfl,hH,hy,q⟩:=h;cases rx;have hus:=rv.zero;subst hus;obtain⟨z,its,n,r,hl,e⟩:=I.lstM hH;obtain⟨u,hu,ru⟩:=r.get hy;have hy':its.toArray[its.toArray.size - 1]? = some u:=by
  show its.toArray[its.length - 1]? = some u;rw[<-Array.getElem?_toList,<-hl];exact hu
 refine call_meets F.slot_list_pop ⟨_,e,rfl⟩ F.entry_list_pop (F.args_list_pop_1 _) (MeetsSeq.list_pop_last l its.toArray n u hy' (by rw[aX];lia)) ⟨e,?_⟩;refine⟨y,_,I.lset (its':=its.dropLast) hH e ?_ r.dropLast ?_,ru,q⟩
 ·show its.toArray.eraseIdxIfInBounds (its.toArray.size - 1)=its.dropLast.toArray;rw[aX,List.eraseIdxIfInBounds_toArray,AM]
 ·rw[List.length_dropLast];lia
def NJ:R2:=λx y H Q=>∃l b xs zs,x=.ref l/\y=.ref b/\H l=some (.lst xs)/\H b=some (.lst zs)/\xs.length+zs.length<=sizeLine/\∀p,H p=none->Q (.ref p) (bP H p (.lst (xs++zs)))
def jR:jt X (binaryOp .Add) NJ:=by
 intro pins s σ H x y v u Q I rx ry h;obtain⟨l,b,xs,zs,rfl,rfl,hH,hB,hz,q⟩:=h;cases rx;cases ry;obtain⟨z,its,n,r,hl,e⟩:=I.lstM hH;obtain⟨z2,its2,n2,r2,hl2,e2⟩:=I.lstM hB;refine PySem.P.add_list e e2 ?_ (by rw[aX,aX];lia);have ea:its.toArray++its2.toArray=(its++its2).toArray:=by simp
 rw[ea];exact⟨.ref _,_,I.lnew (t':=s.toks) (r.append r2) (by rw[bH];lia),rfl,q _ I.fresh⟩
end
section
set_option maxRecDepth 100000 in
end
end L2
namespace Att
open PySem PySem.W PySem.Calls PyProof.Rows
def rZ{P:Params}{h:Heap}:∀(ns:List Int) (vs:List Value),WellAll P h vs (ns.map WData.int)->IntsAre vs ns:=by
 intro ns
 induction ns with
 | nil=>
  intro vs w;rw[fL] at w;cases w;exact .nil
 | cons n ns ih=>
  intro vs w;rw[aZ] at w;cases w with
  | cons a b=>
   cases a;exact .cons _ _ (ih _ b)
def CF{l:OpenLaw}{n:Nat}(hn:l.most=some n){P:Params}{h:Heap}{args:List WData}{vals:List Value}
  (hpre:l.row.toRowW.claim.pre args=true) (hwl:WellAll P h vals args) :
  ∃a vs ns,vals=[Value.ref a]/\args=[WData.list (ns.map WData.int)]/\h.get? a=some { cls:=.type "list",data:=.seq vs.toArray }/\IntsAre vs ns/\ns.length<=n:=by
 have hsh:WShape.hasAll [] args [.list .int]=true:=(pre_splitW hpre).1;have hc:l.pre.holds [] { args:=args }=true:=(pre_splitW hpre).2;obtain⟨d,r,rfl,h1,h2⟩:=hasAllW_cons hsh;obtain rfl:=hasAllW_nil h2;obtain⟨xs,rfl,h3⟩:=hasW_list h1;obtain⟨ns,rfl⟩:=items_int h3;have hlen:ns.length<=n:=by
  unfold OpenLaw.pre at hc;have h4:(WTm.not (.lt (.lit (.int (n:Int))) (.len (.arg 0)))).holds [] { args:=[.list (ns.map .int)] }=true:=by
   have h4:=(holds_andW hc).1;rw[hn] at h4;exact h4
  have h5:=condW_of h4 (w_not (w_lt w_lit (w_len_list (w_arg rfl))));rw[aG] at h5;refine Nat.le_of_not_lt λq=>?_;have q':(n:Int)<((ns.length:Nat):Int):=by lia
  first
   | (rw[W8 q'] at h5;exact absurd h5 (by decide))
   | (simp at h5;lia)
 cases hwl with
 | cons w1 w2=>
  cases w2;cases w1 with
  | list ho hall=>exact⟨_,_,ns,rfl,rfl,ho,rZ ns _ hall,hlen⟩
def CV(l:OpenLaw)(args:List WData):l.row.toRowW.claim.post args (.bool true) args=true:=
 postW_of (r:=l.row.toRowW) (X:=(true==true))
  (show WShape.has [] (.bool true) .bool=true by first | rfl | decide | simp[WShape.has,WShape.arms,WShape.armsAll])
  (show (WTm.eq .res (.lit (.bool true))).value [] { args:=args,res:=some (.bool true),after:=args }=some (.bool (true==true)) from w_eq_bool (w_res rfl) w_lit) rfl
def attach_call{l:OpenLaw}{n:Nat}{q:Program}{loose:List Str}{XP:(Str->Option Value)->Heap->Prop}{YP:World->Heap->Prop}{d:DefRec}
  (hn:l.most=some n) (hdf:d.params.defaults=[])
  (call:∀(w:World) (s₀ s₁:Shared) (mg mb:Str->Option Value) (fa:Addr) (o:Obj) (pm cd doc:Value) (a:Addr) (vs:List Value) (ns:List Int),
   Ground q loose [] XP w s₀ mg mb s₁.heap->YP w s₁.heap →
   s₁.heap.get? fa=some o->o.data=.func (docDef d.name d.params d.body d.scope pm cd doc)->s₁.heap.CodeRec cd d.name->mg d.name=some (.ref fa) →
   s₁.heap.get? a=some { cls:=.type "list",data:=.seq vs.toArray }->IntsAre vs ns->ns.length<=n->s₁.gens=#[] →
   codeAny (model l.prog w) callerA (.call (.ref fa) ⟨[.ref a],[]⟩) (λr s'=>r=.ok (.ret (.bool true))/\OldK s₁.heap s'.heap/\s'.os=s₁.os/\AllBare s'.gens) s₁) :
  WalkO q loose XP YP l.row.toRowW d [] (λf vs=>PySem.call f vs):=by
 intro w s₀ s₁ mg mb G Y fa o pm cd doc dV kV ho hd hcd hD hmg hg args vals as hpre hlay hrd hwl hlo;obtain rfl:dV=.none:=Dflts.none hD hdf;obtain rfl:kV=.none:=Dflts.noKw hD;obtain⟨a,vs,ns,rfl,rfl,hobj,hints,hlen⟩:=CF hn hpre hwl;refine enter_call (WK (call w s₀ s₁ mg mb fa o pm cd doc a vs ns G Y ho (fd_plain hd) hcd hmg hobj hints hlen hg) λr s' hq=>?_);obtain⟨rfl,h2,h3,h4⟩:=hq;exact⟨.inl ⟨.bool true,.bool true,[],rfl,λ_=>rfl,.bool true,CV l _,λ_=>⟨List.Pairwise.nil,λ_ hm=>(nomatch hm)⟩⟩,h2,h3,h4⟩
end Att
namespace L2
open PySem PySem.Spec PyProof.Rows
def o7:∀{vs:List Value} {ns:List Int},IntsAre vs ns->cH (ns.map V.int) vs
 | _,_,.nil=>.nil
 | _,_,.cons n t h=>.cons ⟨t,rfl⟩ (o7 h)
def MB(H:Hp):Prop:=∀b,H b=none\/∃o xs,H b=some (.frz o (.lst xs))
def Fk{P:Program}{w:World}{K:Wb}{mg mb:Str->Option Value}{CX:DQ}{k:Nat}{fa a:Addr}{fd:FuncData}{x:Str}{sp:Sp}{s₁:Shared}{vs:List Value}{ns:List Int}
  (KX:K.In s₁.heap) (hns:s₁.heap.Ns mainGlobals mg) (hb:s₁.heap.Ns builtinsNs mb) (hbb:∀x:Str,x≠"__name__"->mb x=bootBuiltins x) (hlim:s₁.heap.NoLimit) (hg:s₁.gens=#[])
  (ha:s₁.heap.get? a=some { cls:=.type "list",data:=.seq vs.toArray }) (hi:IntsAre vs ns) (hl:ns.length<=sizeLine) (hr:g0 k callerA)
  (F:∀base:Heap,K.In base->base.Ns mainGlobals mg->oW P w K mg base CX k fa fd [x] sp) (hbind:∀(s:Shared) (u:Value),BindsTo s fd ⟨[u],[]⟩ [(x,u)])
  (hsp:∀H:Hp,MB H->c6 K H a (ns.map V.int)->sp [.ref a] H (λv _=>v=.bl true) λ_ _ _=>False)
  (hCX:∀H e s',CX [] H s₁ (λ_ _ _=>False) e s'->False) :
  codeAny (model P w) callerA (.call (.ref fa) ⟨[.ref a],[]⟩) (λr s'=>r=.ok (.ret (.bool true))/\OldK s₁.heap s'.heap/\s'.os=s₁.os/\AllBare s'.gens) s₁:=by
 have rv:=o7 hi;have lenV:=hi.length;have core:∀H:Hp,MB H->c6 K H a (ns.map V.int)->pI P w H s₁.heap->(∀b,H b≠none->b=a)->(H a≠none->K.lookup a=none) →
   codeAny (model P w) callerA (.call (.ref fa) ⟨[.ref a],[]⟩) (λr s'=>r=.ok (.ret (.bool true))/\OldK s₁.heap s'.heap/\s'.os=s₁.os/\AllBare s'.gens) s₁:=by
  intro H hO hS hok hA hK;have base_of:∀{b:Addr} {o:Obj},s₁.heap.get? b=some o->H b=none->(wH s₁.heap H).get? b=some o:=λe n=>Fy e n;have noA:∀{b:Addr} {o:Obj} {es:Array DictEntry} {ep:Nat},s₁.heap.get? b=some o->o.data=.dict es ep->H b=none:=fun {b o es ep} e d=>by
   cases q:H b with
   | none=>rfl
   | some u=>
    have e':b=a:=hA b (by rw[q];simp);subst e';rw[ha] at e;cases e;have d':Data.seq vs.toArray _=Data.dict es ep:=d;cases d'
  have nsK:∀{b:Addr} {m:Str->Option Value},s₁.heap.Ns b m->(wH s₁.heap H).Ns b m:=fun {b m} ⟨o,es,ep,e,d,r⟩=>⟨o,es,ep,base_of e (noA e d),d,r⟩
  have hKb:K.In (wH s₁.heap H):=λb o e=>base_of (KX b o e) (by
   cases q:H b with
   | none=>rfl
   | some u=>
    have e':b=a:=hA b (by rw[q];simp);subst e';rw[hK (by rw[q];simp)] at e;cases e)
  have hM:Mod K mg (wH s₁.heap H):=⟨hKb,nsK hns,⟨mb,nsK hb,hbb⟩,let ⟨mc,h1,h2⟩:=hlim;⟨mc,nsK h1,h2⟩⟩
  have e0:wX P w K mg (wH s₁.heap H) callerA [] s₁ H:=⟨rfl,hM,λb o e=>IH e,qu (Cj _ _),trivial,λb hb=>absurd (show b∈([]:List Addr) from hb) (by simp),hok,.of_eq hg⟩
  refine WK ((F _ hKb (nsK hns)).run callerA [] s₁ H ⟨[.ref a],[]⟩ [.ref a] [.ref a] _ _ hr e0 (hbind s₁ (.ref a)) (.cons rfl .nil) (hsp H hO hS)) λr s' h=>?_;cases r with
  | error e=>exact(hCX H e s' h).elim
  | ok fl=>
   cases fl with
   | next=>exact False.elim h
   | brk=>exact False.elim h
   | cont=>exact False.elim h
   | ret u=>
    obtain⟨v,H',os,bare,un,hok',r',q⟩:=h;have q':v=.bl true:=q;subst q';obtain rfl:u=Value.bool true:=r';refine⟨rfl,OldK.of_keep λb o e=>?_,os,bare⟩;cases q:H b with
    | none=>exact un.keep b o e q (by intro z;exact absurd (show b∈([]:List Addr) from z) (by simp)) (by simp)
    | some u=>
     rcases hO b with z | ⟨ob,xs,z⟩
     ·rw[q] at z;cases z
     ·have z2:=un.frzs b ob _ z;obtain⟨e1,_⟩:=hok b _ z;obtain⟨e2,_⟩:=hok' b _ z2;rw[e] at e1;cases e1;exact e2
 cases hk:K.lookup a with
 | some o=>
  have e:=KX a o hk;rw[ha] at e;cases e;refine core (λ_=>none) (λ_=>.inl rfl) (.inr ⟨_,vs.toArray,_,hk,rfl,rfl,rfl,by rw[aX,lenV];exact hl,by simpa using rv⟩) (λb u z=>by have z':(none:Option HO)=some u:=z;cases z') (λb z=>absurd rfl z) λz=>absurd rfl z
 | none=>
  refine core (λb=>if b=a then some (.frz { cls:=.type "list",data:=.seq vs.toArray } (.lst (ns.map V.int))) else none) (λb=>?_) (.inl (.inr ⟨{ cls:=.type "list",data:=.seq vs.toArray },W5 rfl⟩)) (λb u z=>?_) (λb z=>?_) λ_=>hk
  ·by_cases hb:b=a
   ·exact .inr ⟨_,_,W5 hb⟩
   ·exact .inl (W4 hb)
  ·by_cases hb:b=a
   ·have z':=(W5 hb).symm.trans z;cases z';subst hb;exact⟨ha,by rw[aG];exact hl,vs,_,rv,ha⟩
   ·have z':=(W4 hb).symm.trans z;cases z'
  ·by_cases hb:b=a
   ·exact hb
   ·exact absurd (W4 hb) z
abbrev PJ {K:Wb} {h:Heap} (_:K.In h):Wb:=K
def A4{l:PySem.W.OpenLaw}{n k:Nat}{q:Program}{loose:List Str}{XP:(Str->Option Value)->Heap->Prop}{YP:World->Heap->Prop}{d:DefRec}{K:Params->Wb}{CX:World->DQ}{sp:World->Sp}{x:Str}
  (hn:l.most=some n) (hn2:n<=sizeLine) (hdf:d.params.defaults=[]) (hr:g0 k callerA)
  (hY:∀(w:World) (h:Heap),YP w h->(K w.params).In h)
  (F:∀(w:World) (mg:Str->Option Value) (fa:Addr) (h:Heap),(K w.params).In h->h.Ns mainGlobals mg->mg d.name=some (.ref fa) →
   ∃fd:FuncData,(∀(s:Shared) (u:Value),BindsTo s fd ⟨[u],[]⟩ [(x,u)]) ∧
    ∀base:Heap,(K w.params).In base->base.Ns mainGlobals mg->oW l.prog w (K w.params) mg base (CX w) k fa fd [x] (sp w))
  (hsp:∀(w:World) (H:Hp) (a:Addr) (ns:List Int),ns.length<=n->MB H->c6 (K w.params) H a (ns.map V.int)->sp w [.ref a] H (λv _=>v=.bl true) λ_ _ _=>False)
  (hCX:∀(w:World) (H:Hp) (s:Shared) (e:Value) (s':Shared),CX w [] H s (λ_ _ _=>False) e s'->False) :
  PySem.W.WalkO q loose XP YP l.row.toRowW d [] (λf vs=>PySem.call f vs):=by
 refine Att.attach_call hn hdf λw s₀ s₁ mg mb fa o pm cd doc a vs ns G Y ho hd hcd hmg hobj hints hlen hg=>?_;have KX:=hY w _ Y;obtain⟨fd,hb,hF⟩:=F w mg fa _ KX G.T.g hmg;exact Fk KX G.T.g G.T.b G.T.builtins G.T.nolimit hg hobj hints (b9 hlen hn2) hr hF hb (λH hO hS=>hsp w H a ns hlen hO hS) λH e s'=>hCX w H s₁ e s'
end L2
/- THE LAST THEOREM (shape;LID,My.* are yours):
   My.Adr: a structure of the addresses that your layer names (classes,functions);My.Txt K t: a structure (Prop) of the equations over K;
   My.txt_mk:{K} {implicit addresses ..} (e1:nsIn K mainGlobals "law"=some (some (.ref f))) (e2:K.lookup f=some ⟨oc,od,.func (fnOf "law" "law" params body scope dV kV doc pm an cdv ct),sl⟩) (e3:codeIn K cdv "law"=true) ..:∃t,My.Txt K t
set_option maxRecDepth 100000 in
set_option maxHeartbeats 0 in
theorem PySem.Challenge.cw_LID_holds : PySem.Challenge.rw_LID.Holds := by
 w_on; o_law; k_head; (case hw => w_witness2)
 k_fill
 refine L2.A4 (l := PySem.Challenge.rw_LID) (n := 63) (k := 40) (x := "script") (CX := λw => ..) (sp := λ_ => My.sp_law) rfl (by decide) rfl ⟨rfl, by decide, by decide⟩ (λw h Y => PySem.W.kIn_of Y) ?F ?S ?C
 case F =>
  intro w mg fa h KX G hmg;have T : ∃t, My.Txt (L2.PJ KX) t := by
   dsimp only [L2.PJ]                          -- K must stand as «<heap const> w.params» for k_is;refine' My.txt_mk ?e1 ?e2 ?e3 ..
   (case e1 => PySem.W.k_is)                    -- in the order: a name -> its address -> its object -> its parts
   (case e2 => PySem.W.k_is)
   ..
  obtain ⟨t, T⟩ := T;have e0 := hmg.symm.trans (cK KX G T.law);cases e0                                       -- fa is the law's own address;exact ⟨_, λs u => .of_eq rfl, λbase kb nb => My.law_fn T kb nb⟩     -- if «.of_eq rfl» comes too early: refine' ⟨_, ?b, λbase kb nb => My.law_fn T kb nb⟩; exact λs u => .of_eq rfl
 case S => exact λw H a ns hl hO hS => ..
 case C => exact ..
(the tactic k_is has no namespace: write k_is) -/
namespace L2
open PySem PySem.Spec PyProof.Rows
def kK(s:Stmt):Arguments:=match s with
 | .FunctionDef _ a _ _ _ _ _ _ _ _=>a
 | _=>{ posonlyargs:=[],args:=[],vararg:=none,kwonlyargs:=[],kw_defaults:=[],kwarg:=none,defaults:=[] }
def iB(s:Stmt):List Stmt:=match s with
 | .FunctionDef _ _ b _ _ _ _ _ _ _=>b
 | _=>[]
def a9(s:Stmt):Scope:=match s with
 | .FunctionDef _ _ _ _ _ _ sc _ _ _=>sc
 | _=>{ kind:=.function,names:=[],isGenerator:=false,isCoroutine:=false }
abbrev yo:DQ:=λ_ _ _ _ _ _=>False
abbrev E0:XK:=λ_ _ _=>False
def NT{X:Cx}:uI yo X E0:=λ_ _ _ _ _ _ _ h=>h.elim
structure wV (K:Wb) (x qual:Str) (st:Stmt) (f:Addr) (fd:FuncData):Prop where
 ex:∃ (oc:Value) (od:Option Addr) (kV doc pm:Value) (an:Option Addr) (cdv ct:Value) (osl:Array (Option Value)),
  fd=PySem.W.fnOf x qual (kK st) (iB st) (a9 st) .none kV doc pm an cdv ct/\K.lookup f=some ⟨oc,od,.func fd,osl⟩/\PySem.W.codeIn K cdv qual=true
 kp:PySem.W.keepIn K (.ref f)=true
section
variable {P:Program} {w:World} {K:Wb} {mg:Str->Option Value} {base:Heap}
def wV.ok{x qual:Str}{st:Stmt}{f:Addr}{fd:FuncData}{N ps:List Str}{k:Nat}{sp:Sp}(F:wV K x qual st f fd)(S:bO N ps (a9 st))(len:∀vs H Q E,sp vs H Q E->vs.length=ps.length)
  (hbody:∀(cdv:Value) (A:Around) (outer:List Env) (s:Shared) (H:Hp) (vs:List V) (Q:VK) (E:XK),g0 k (A.deeper (envOfC qual (a9 st) s.heap.objs.size f cdv))->sp vs H Q E →
   ∃t,vJ (jq yo P w K mg base N qual (a9 st) f cdv A outer s H E).nox (iB st) t/\t { nx:=λ_ H'=>Q .non H',rt:=Q } (start N vs) H):oW P w K mg base yo (k+1) f fd ps sp:=by
 obtain⟨oc,od,kV,doc,pm,an,cdv,ct,osl,rfl,lk,hcd⟩:=F.ex;refine Je lk hcd S len λA outer s H vs Q E hr hsp=>?_;obtain⟨t,h,q⟩:=hbody cdv A outer s H vs Q E hr hsp;exact⟨t,h.nox,q⟩
def wV.binds{x qual:Str}{st:Stmt}{f:Addr}{fd:FuncData}{ps:List Str}(F:wV K x qual st f fd)
  (h:∀(kV doc pm:Value) (an:Option Addr) (cdv ct:Value) (us:List Value),us.length=ps.length->bindArgs (PySem.W.fnOf x qual (kK st) (iB st) (a9 st) .none kV doc pm an cdv ct) ⟨us,[]⟩=pure (ps.zip us)):Binds K fd ps []:=by
 obtain⟨oc,od,kV,doc,pm,an,cdv,ct,osl,rfl,lk,hcd⟩:=F.ex;exact .all (h kV doc pm an cdv ct)
def GC{x qual:Str}{st:Stmt}{f:Addr}{oc:Value}{od an:Option Addr}{osl:Array (Option Value)}{kV doc pm cdv ct:Value}(l:K.lookup f=some ⟨oc,od,.func (PySem.W.fnOf x qual (kK st) (iB st) (a9 st) .none kV doc pm an cdv ct),osl⟩)
  (c:PySem.W.codeIn K cdv qual=true) (k:PySem.W.keepIn K (.ref f)=true):wV K x qual st f (PySem.W.fnOf x qual (kK st) (iB st) (a9 st) .none kV doc pm an cdv ct):=⟨⟨oc,od,kV,doc,pm,an,cdv,ct,osl,rfl,l,c⟩,k⟩
end
def cB{n:Nat}(h:n<=1000):n<sizeLine:=Nat.lt_of_le_of_lt h (by decide)
section
variable {X:Cx}
def pv (i:Nat) {x:Str} {pos:Pos} (hN:X.N[i]? = some x:=by rfl) (hv:MS X.env.scope x:=by first | exact Or.inl rfl | exact Or.inr (Or.inl rfl) | exact Or.inr (Or.inr rfl)) (hd:(x==("__debug__":Str))=false:=by decide)
  (hcd:(x==("__classdict__":Str))=false:=by decide):PE X (.Name x pos) (sN i):=LH hN hv hd hcd
end
def Lf{A B:Prop}(h:B):if false=true then A else B:=by
 rw[W4 aq];exact h
def Le{A B:Prop}(h:A):if true=true then A else B:=by
 rw[W5 rfl];exact h
def iz{c A B:Prop} [Decidable c] (h1:c->A) (h2:¬c->B):if c then A else B:=by
 by_cases h:c
 ·rw[W5 h];exact h1 h
 ·rw[W4 h];exact h2 h
def aP(H H':Hp):Prop:=∀b o,H b=some o->H' b=some o
def aP.refl(H:Hp):aP H H:=λ_ _ h=>h
def aP.trans{H H1 H2:Hp}(a:aP H H1)(b:aP H1 H2):aP H H2:=λc o h=>b c o (a c o h)
def aP.free{H H':Hp}(e:aP H H'){l:Addr}(h:H' l=Option.none):H l=Option.none:=by
 cases q:H l with
 | none=>rfl
 | some o=>
  rw[e l o q] at h;cases h
def aP.seq{K:Wb}{H H':Hp}{a:Addr}{xs:List V}(e:aP H H')(h:c6 K H a xs):c6 K H' a xs:=by
 rcases h with (h | ⟨o,h⟩) | h
 ·exact .inl (.inl (e _ _ h))
 ·exact .inl (.inr ⟨o,e _ _ h⟩)
 ·exact .inr h
section
variable {κ:Type} [DecidableEq κ]
def i9(kvs:List (κ×V))(k:κ):Option V:=(kvs.find? λkv=>decide (kv.1=k)).map (·.2)
def putK(kvs:List (κ×V))(k:κ)(v:V):List (κ×V):=
 if (kvs.any λkv=>decide (kv.1=k))=true then kvs.map (λkv=>if kv.1=k then (kv.1,v) else kv) else kvs++[(k,v)]
def g6{p:κ×V}{r:List (κ×V)}{k:κ}(e:p.1=k):i9 (p::r) k=some p.2:=by simp[i9,gF,e]
def g9{p:κ×V}{r:List (κ×V)}{k:κ}(e:¬p.1=k):i9 (p::r) k=i9 r k:=by simp[i9,gF,e]
def qP(k:κ):∀kvs:List (κ×V),(kvs.any λkv=>decide (kv.1=k))=(i9 kvs k).isSome
 | []=>rfl
 | p::r=>by
  rw[gR];by_cases e:p.1=k
  ·simp only[g6 e,W8 e,Bool.true_or,Option.isSome_some]
  ·rw[g9 e,W7 e,Bool.false_or];exact qP k r
def wc(k j:κ)(y:V):∀kvs:List (κ×V),i9 (kvs.map λkv=>if kv.1=k then (kv.1,y) else kv) j=(i9 kvs j).map λx=>if j=k then y else x
 | []=>rfl
 | p::r=>by
  have ih:=wc k j y r;rw[aZ];by_cases h:p.1=k
  ·rw[W5 h];by_cases e:p.1=j
   ·rw[g6 (p:=(p.1,y)) e,g6 e,iO,W5 (e.symm.trans h)]
   ·rw[g9 (p:=(p.1,y)) e,g9 e,ih]
  ·rw[W4 h];by_cases e:p.1=j
   ·rw[g6 (p:=p) e,g6 e,iO,W4 (λz=>h (e.trans z))]
   ·rw[g9 (p:=p) e,g9 e,ih]
def uc(k j:κ)(y:V):∀kvs:List (κ×V),i9 kvs k=none->i9 (kvs++[(k,y)]) j=if j=k then some y else i9 kvs j
 | [],_=>by
  by_cases e:k=j
  ·rw[W5 e.symm];exact g6 (p:=(k,y)) e
  ·rw[W4 (λz=>e z.symm)];exact g9 (p:=(k,y)) e
 | p::r,hn=>by
  rw[dS];have hk:¬p.1=k:=λz=>by rw[g6 z] at hn;cases hn
  rw[g9 hk] at hn;have ih:=uc k j y r hn;by_cases e:p.1=j
  ·rw[g6 e,g6 e,W4 (λz=>hk (e.trans z))]
  ·rw[g9 e,g9 e,ih]
def sI(kvs:List (κ×V))(k j:κ)(y:V):i9 (putK kvs k y) j=if j=k then some y else i9 kvs j:=by
 unfold putK;by_cases a:(kvs.any λkv=>decide (kv.1=k))=true
 ·rw[W5 a,wc];rw[qP] at a;by_cases e:j=k
  ·obtain⟨x,hx⟩:=lg.mp a;rw[W5 e,e,hx,iO,W5 rfl]
  ·rw[W4 e];cases i9 kvs j with
   | none=>rfl
   | some x=>rw[iO,W4 e]
 ·rw[W4 a];refine uc k j y kvs ?_;rw[qP] at a;cases q:i9 kvs k with
  | none=>rfl
  | some x=>rw[q] at a;exact(a rfl).elim
def fI(kvs:List (κ×V))(k:κ)(v:V):(putK kvs k v).length<=kvs.length+1:=by
 unfold putK
 split
 ·rw[aG];lia
 ·rw[bH,cJ,gD];lia
def rf.isSome_eq{o:Option V}{u:Option Value}(r:rf o u):o.isSome=u.isSome:=by
 cases o with
 | none=>cases u with
  | none=>rfl
  | some _=>exact(show False from r).elim
 | some _=>cases u with
  | none=>exact(show False from r).elim
  | some _=>rfl
def KV.val{kvs:List (κ×V)}{vs:List (κ×Value)}(r:KV kvs vs)(k:κ):rf (i9 kvs k) (valueAt vs k):=by
 unfold KV at r
 induction r with
 | nil=>exact True.intro
 | @cons p q ps qs h t ih=>
  obtain⟨h1,h2⟩:=h;by_cases e:p.1=k
  ·have e':q.1=k:=h1.symm.trans e;have b:valueAt (q::qs) k=some q.2:=by simp[valueAt,gF,e']
   rw[g6 e,b];exact h2
  ·have e':¬q.1=k:=λz=>e (h1.trans z);have b:valueAt (q::qs) k=valueAt qs k:=by simp[valueAt,gF,e']
   rw[g9 e,b];exact ih
def KV.any{kvs:List (κ×V)}{vs:List (κ×Value)}(r:KV kvs vs)(k:κ):(kvs.any λkv=>decide (kv.1=k))=vs.any λkv=>decide (kv.1=k):=by
 unfold KV at r
 induction r with
 | nil=>rfl
 | cons h t ih=>rw[gR,gR,ih,h.1]
def KV.repl{kvs:List (κ×V)}{vs:List (κ×Value)}(r:KV kvs vs)(k:κ){y:V}{u:Value}(ry:RelV y u):
  KV (kvs.map λkv=>if kv.1=k then (kv.1,y) else kv) (vs.map λkv=>if kv.1=k then (kv.1,u) else kv):=by
 unfold KV at r ⊢
 induction r with
 | nil=>exact .nil
 | @cons p q ps qs h t ih=>
  rw[aZ,aZ];refine .cons ?_ ih;obtain⟨h1,h2⟩:=h;by_cases e:p.1=k
  ·rw[W5 e,W5 (h1.symm.trans e)];exact⟨h1,ry⟩
  ·rw[W4 e,W4 (λz=>e (h1.trans z))];exact⟨h1,h2⟩
def KV.put{kvs:List (κ×V)}{vs:List (κ×Value)}(r:KV kvs vs)(k:κ){y:V}{u:Value}(ry:RelV y u):KV (putK kvs k y) (stored vs k u):=by
 unfold putK stored;rw[r.any k];by_cases e:(vs.any λkv=>decide (kv.1=k))=true
 ·rw[W5 e,W5 e];exact r.repl k ry
 ·rw[W4 e,W4 e];exact Paired.snoc r ⟨rfl,ry⟩
def KV.length{kvs:List (κ×V)}{vs:List (κ×Value)}(r:KV kvs vs):kvs.length=vs.length:=eQ r
end
def xx{P:Program}{w:World}{k:Key}{u:Value}(r:RelV (kV k) u):(fV P w).is k u=true:=by
 cases k with
 | inl i=>obtain⟨t,e⟩:=(show ∃t,u=Value.int i t from r);subst e;exact xr P w i t
 | inr x=>obtain⟨t,e⟩:=(show ∃t,u=Value.str x t from r);subst e;exact xq P w x t
def uu{P:Program}{w:World}:∀{ks:List Key} {us:List Value},cH (ks.map kV) us->ItemsAre (fV P w) ks us
 | [],_,r=>by rw[fL] at r;cases r;exact .nil
 | k::ks,_,r=>by
  rw[aZ] at r;cases r with
  | cons h t=>exact .cons (xx h) (uu t)
abbrev KT (H:Hp):List (List Key×V)->List (List Key×Addr×Value)->Prop:=Paired λp q=>p.1=q.1/\H q.2.1=some (.tup (p.1.map kV))/\RelV p.2 q.2.2
def KT.val{H:Hp}{kvs:List (List Key×V)}{xs:List (List Key×Addr×Value)}(r:KT H kvs xs)(k:List Key):rf (i9 kvs k) ((atKey xs k).map (·.2)):=by
 induction r with
 | nil=>exact True.intro
 | @cons p q ps qs h t ih=>
  obtain⟨h1,_,h2⟩:=h;by_cases e:p.1=k
  ·have e':q.1=k:=h1.symm.trans e;have b:atKey (q::qs) k=some q.2:=by simp[atKey,gF,e']
   rw[g6 e,b];exact h2
  ·have e':¬q.1=k:=λz=>e (h1.trans z);have b:atKey (q::qs) k=atKey qs k:=by simp[atKey,gF,e']
   rw[g9 e,b];exact ih
def KT.repl{H:Hp}{kvs:List (List Key×V)}{xs:List (List Key×Addr×Value)}(r:KT H kvs xs)(k:List Key){y:V}{u:Value}(ry:RelV y u):
  KT H (kvs.map λkv=>if kv.1=k then (kv.1,y) else kv) (xs.map (putAt k u)):=by
 induction r with
 | nil=>exact .nil
 | @cons p q ps qs h t ih=>
  rw[aZ,aZ];refine .cons ?_ ih;obtain⟨h1,h2,h3⟩:=h;unfold putAt;by_cases e:p.1=k
  ·rw[W5 e,W5 (h1.symm.trans e)];exact⟨h1,h2,ry⟩
  ·rw[W4 e,W4 (λz=>e (h1.trans z))];exact⟨h1,h2,h3⟩
def KT.put{H:Hp}{kvs:List (List Key×V)}{xs:List (List Key×Addr×Value)}(r:KT H kvs xs)(k:List Key){b:Addr}{y:V}{u:Value}(hb:H b=some (.tup (k.map kV)))(ry:RelV y u):
  KT H (putK kvs k y) (storedH xs k b u):=by
 have e:(kvs.any λkv=>decide (kv.1=k))=(atKey xs k).isSome:=by
  rw[qP,(r.val k).isSome_eq,Option.isSome_map]
 unfold putK storedH;rw[e];by_cases q:(atKey xs k).isSome=true
 ·rw[W5 q,W5 q];exact r.repl k ry
 ·rw[W4 q,W4 q];exact Paired.snoc r ⟨rfl,hb,ry⟩
def KT.keeps{H H':Hp}{kvs:List (List Key×V)}{xs:List (List Key×Addr×Value)}(r:KT H kvs xs)(ht:∀b ys,H b=some (.tup ys)->H' b=some (.tup ys)):KT H' kvs xs:=
 Paired.mapP r λ_ _ z=>⟨z.1,ht _ _ z.2.1,z.2.2⟩
section
variable {P:Program} {w:World} {H:Hp} {h:Heap} {a:Addr}
def J6{u:HO}(ok:pI P w H h)(e:Rd H a u):cw P w H h a u:=e.ok ok
def Bc{kvs:List (Key×V)}(ok:pI P w H h)(e:Rd H a (.dK kvs)):kvs.length<=sizeLine/\(a==sysModules)=false/\∃vs,KV kvs vs/\h.DictOf (fV P w) a vs:=
 show cw P w H h a (.dK kvs) from J6 ok e
def Jf{kvs:List (Key×V)}(ok:pI P w H h)(e:H a=some (.dK kvs)):kvs.length<=sizeLine/\(a==sysModules)=false/\∃vs,KV kvs vs/\h.DictOf (fV P w) a vs:=Bc ok (.inl e)
def wG{ks:List Key}(ok:pI P w H h)(e:H a=some (.tup (ks.map kV))):(tupleKind (fV P w)).is h ks a:=by
 obtain⟨_,its,r,o,h1,h2,n,h3⟩:=(show cw P w H h a (.tup (ks.map kV)) from ok a _ e)
 exact⟨o,its.toArray,n,h1,h2,h3,by simpa using uu r⟩
def Bb{kvs:List (List Key×V)}(ok:pI P w H h)(e:Rd H a (.dT kvs)):kvs.length<=sizeLine/\(a==sysModules)=false ∧
  ∃xs,KT H kvs xs/\h.DictOfH (tupleKind (fV P w)) a xs:=by
 obtain⟨z,y,xs,r,o,es,ep,h1,h2,h3,h4,h5⟩:=(show cw P w H h a (.dT kvs) from J6 ok e)
 refine⟨z,y,xs,r,o,es,ep,h1,h2,h3,h4,λx hx=>?_,h5⟩;have all:∀{l:List (List Key×V)} {m:List (List Key×Addr×Value)},KT H l m->∀x∈m,(tupleKind (fV P w)).is h x.1 x.2.1:=by
  intro l m q
  induction q with
  | nil=>intro x hx;exact nomatch hx
  | @cons p q ps qs hq t ih=>
   intro x hx;rcases aF.mp hx with e | hx
   ·subst e;exact wG ok (by rw[<-hq.1];exact hq.2.1)
   ·exact ih x hx
 exact all r x hx
def N8{kvs:List (List Key×V)}(ok:pI P w H h)(e:H a=some (.dT kvs)):kvs.length<=sizeLine/\(a==sysModules)=false ∧
  ∃xs,KT H kvs xs/\h.DictOfH (tupleKind (fV P w)) a xs:=Bb ok (.inl e)
end
def nu(H:Hp)(a:Addr)(y:V)(r:Option V):Prop:=
 (∃kvs k,Rd H a (.dK kvs)/\y=kV k/\r=i9 kvs k)\/∃kvs k b,Rd H a (.dT kvs)/\y=.ref b/\H b=some (.tup (k.map kV))/\r=i9 kvs k
def uJ(H:Hp)(a:Addr)(y v:V)(H':Hp):Prop:=
 (∃kvs k,H a=some (.dK kvs)/\y=kV k/\kvs.length<sizeLine/\H'=bP H a (.dK (putK kvs k v))) ∨
 ∃kvs k b,H a=some (.dT kvs)/\y=.ref b/\H b=some (.tup (k.map kV))/\kvs.length<sizeLine/\H'=bP H a (.dT (putK kvs k v))
def nu.k{H:Hp}{a:Addr}{kvs:List (Key×V)}{k:Key}(e:H a=some (.dK kvs)):nu H a (kV k) (i9 kvs k):=.inl ⟨kvs,k,.inl e,rfl,rfl⟩
def nu.t{H:Hp}{a b:Addr}{kvs:List (List Key×V)}{k:List Key}(e:H a=some (.dT kvs))(eb:H b=some (.tup (k.map kV))):nu H a (.ref b) (i9 kvs k):=.inr ⟨kvs,k,b,.inl e,rfl,eb,rfl⟩
def uJ.k{H:Hp}{a:Addr}{kvs:List (Key×V)}{k:Key}{v:V}(e:H a=some (.dK kvs))(hl:kvs.length<sizeLine):uJ H a (kV k) v (bP H a (.dK (putK kvs k v))):=.inl ⟨kvs,k,e,rfl,hl,rfl⟩
def uJ.t{H:Hp}{a b:Addr}{kvs:List (List Key×V)}{k:List Key}{v:V}(e:H a=some (.dT kvs))(eb:H b=some (.tup (k.map kV)))(hl:kvs.length<sizeLine):
  uJ H a (.ref b) v (bP H a (.dT (putK kvs k v))):=.inr ⟨kvs,k,b,e,rfl,eb,hl,rfl⟩
section
variable {X:Cx} {pins:List (Addr×Obj)} {σ:St} {H:Hp} {s:Shared} {a:Addr} {y v:V} {u r:Value} {o:Option V} {A:Around} {E:Value->Shared->Prop}
def bX.big(I:bX X pins σ H s):sysModules<s.heap.objs.size:=by
 have h:mainGlobals<s.heap.objs.size:=(I.mod.glob.keeps I.bk).lt;exact Nat.lt_trans (by decide) h
def Cu{Q:Value->Shared->Prop}(hu:A.units+1<cLine)(I:bX X pins σ H s)(g:nu H a y (some v))(ry:RelV y u)(h:∀w' s',bX X pins σ H s'->RelV v w'->Q w' s'):
  wpAny (model X.prog X.w) A (getItem (.ref a) u) Q E s:=by
 rcases g with ⟨kvs,k,e,ey,l⟩ | ⟨kvs,k,b,e,ey,eb,l⟩
 ·subst ey;obtain⟨z,hd,vs,rel,dd⟩:=Bc I.hok e;obtain⟨w',hw,rw'⟩:=rf.some_of (v:=v) (o:=valueAt vs k) (by rw[l];exact rel.val k);exact wpAny_getItem_of (xx ry) dd.mapOf hw (h w' _ (I.tok _) rw')
 ·subst ey;cases (show u=Value.ref b from ry);obtain⟨z,hd,xs,rel,dd⟩:=Bb I.hok e;obtain⟨w',hw,rw'⟩:=rf.some_of (v:=v) (o:=(atKey xs k).map (·.2)) (by rw[l];exact rel.val k);obtain⟨p,hp,hp2⟩:=nK.mp hw;refine wpAny_getItem_heap (WN hu) (wG I.hok eb) dd hp ?_;rw[hp2];exact h w' _ (I.tok _) rw'
def Im{Q:Value->Shared->Prop}(hu:A.units+1<cLine)(I:bX X pins σ H s)(g:nu H a y o)(ry:RelV y u)(h:∀s',bX X pins σ H s'->Q (.bool (!o.isSome)) s'):
  wpAny (model X.prog X.w) A (compareOp .NotIn u (.ref a)) Q E s:=by
 rcases g with ⟨kvs,k,e,ey,l⟩ | ⟨kvs,k,b,e,ey,eb,l⟩
 ·subst ey;obtain⟨z,hd,vs,rel,dd⟩:=Bc I.hok e;refine wpAny_notIn_of (xx ry) hd dd.mapOf ?_;rw[<-(rel.val k).isSome_eq,<-l];exact h _ (I.tok _)
 ·subst ey;cases (show u=Value.ref b from ry);obtain⟨z,hd,xs,rel,dd⟩:=Bb I.hok e;refine wpAny_notIn_heap (WN hu) (wG I.hok eb) hd dd ?_;have q:=(rel.val k).isSome_eq;rw[Option.isSome_map] at q;rw[<-q,<-l];exact h _ (I.tok _)
def wJ{h':Heap}{t':Nat}{ob:HO}(I:bX X pins σ H s)(mu:Nd (H a))(hs:Heap.SameBut a s.heap h')(he:∃q,h'.get? a=some q)(new:cw X.prog X.w (bP H a ob) h' a ob):
  bX X pins σ (bP H a ob) { s with heap:=h',toks:=t' }:=
 I.write (x:=a) (e:=a) mu (.inl rfl) (λb q hb z=>(hs.2 b hb).trans z) he new
def GM{P:Program}{w:World}{H':Hp}{h':Heap}{kvs:List (Key×V)}{vs:List (Key×Value)}(z:kvs.length<=sizeLine)(hd:(a==sysModules)=false)(rel:KV kvs vs)(dd:h'.DictOf (fV P w) a vs):
  cw P w H' h' a (.dK kvs):=⟨z,hd,vs,rel,dd⟩
def Ct{H':Hp}{Q:Unit->Shared->Prop}(hu:A.units+1<cLine)(I:bX X pins σ H s)(g:uJ H a y v H')(ry:RelV y u)(rv:RelV v r)(h:∀s',bX X pins σ H' s'->Q () s'):
  wpAny (model X.prog X.w) A (setItem (.ref a) u r) Q E s:=by
 rcases g with ⟨kvs,k,e,ey,l,eH⟩ | ⟨kvs,k,b,e,ey,eb,l,eH⟩
 ·subst ey eH;obtain⟨z,hd,vs,rel,dd⟩:=Jf I.hok e;have hz:vs.length<=sizeLine:=by rw[<-rel.length];exact z
  have hl:(putK kvs k v).length<=sizeLine:=by have:=fI kvs k v;lia
  refine wpAny_setItem_pairs (hsz:=hz) (xx ry) dd λh' dd' hs=>h _ ?_;have he:∃q,h'.get? a=some q:=let ⟨q,_,_,hq,_⟩:=dd';⟨q,hq⟩;exact wJ I (by rw[e];exact True.intro) hs he (GM hl hd (rel.put k rv) dd')
 ·subst ey eH;cases (show u=Value.ref b from ry);obtain⟨z,hd,xs,rel,dd⟩:=N8 I.hok e;have hz:xs.length<=sizeLine:=by rw[<-eQ rel];exact z
  have hl:(putK kvs k v).length<=sizeLine:=by have:=fI kvs k v;lia
  refine wpAny_setItem_heap (hsz:=hz) (WN hu) (wG I.hok eb) dd λh' dd' hs=>h _ ?_;obtain⟨q,es,ep,hq,h2,h3,h4,_,h5⟩:=dd';refine wJ I (by rw[e];exact True.intro) hs ⟨q,hq⟩ ⟨hl,hd,_,(rel.put k eb rv).keeps λc ys ec=>?_,q,es,ep,hq,h2,h3,h4,h5⟩;rw[aS (BS ec e (λz=>nomatch z))];exact ec
end
def MD(i:Expr):Prop:=∀ov iv,subscripted i false ov iv=operate [ov,iv] (getItem ov iv)
def HD{prog:Program}{w:World}{A:Around}{E:Value->Shared->Prop}{s:Shared}{env:Env}{value slice:Expr}{pos:Pos}{T id:String}{Q:Value->Shared->Prop}
  (hl:typeLookup (.type T) "__getitem__"=pure (some (.builtin id))) (hs:MD slice)
  (h:wpAny (model prog w) A (eval value env) (λo s₁=>wpAny (model prog w) A (eval slice env) (λi s₂=>s₂.TypeIs o T/\wpAny (model prog w) A (getItem o i) Q E s₂) E s₁) E s) :
  wpAny (model prog w) A (eval (.Subscript value slice pos) env) Q E s:=by
 refine Subscript_ (wpAny_mono h (λo s₁ h₁=>wpAny_mono h₁ (λi s₂ h₂=>?_) λ_ _ x=>x) λ_ _ x=>x);obtain⟨hT,h₂⟩:=h₂;unfold subscriptTail;refine wpAny_bind ?_;rw[getitemInPython_of_ne hT.not_modules];refine wpAny_bind (wpAny_specialOf hT hl ?_);have fin:wpAny (model prog w) A (subscripted slice false o i) (λr s₃=>wpAny (model prog w) A (letTemporaryGo value o r>>=λ_=>pure r) Q E s₃) E s₂:=by
  rw[hs o i];exact wpAny_operating (wpAny_mono h₂ (λr s₃ h₃=>wpAny_bind (wpAny_letTemporaryGo (WE h₃))) λ_ _ x=>x)
 first
  | exact WE (wpAny_bind fin)
  | exact wpAny_bind (WE (wpAny_bind fin))
  | exact wpAny_bind fin
def yR {X:Cx} {pins:List (Addr×Obj)} {σ:St} {H:Hp} {s:Shared} {a:Addr} {y:V} {o:Option V} (I:bX X pins σ H s) (g:nu H a y o):s.TypeIs (.ref a) "dict":=by
 rcases g with ⟨kvs,k,e,_,_⟩ | ⟨kvs,k,b,e,_,_,_⟩
 ·obtain⟨_,_,vs,_,dd⟩:=Bc I.hok e;exact dd.typeIs
 ·obtain⟨_,_,xs,_,dd⟩:=Bb I.hok e;exact dd.typeIs
def EG(td ty:TE):TE:=λσ H Q=>td σ H λx H1=>ty σ H1 λy H2=>∃a v,x=.ref a/\nu H2 a y (some v)/\Q v H2
def rh(ty td:TE):TE:=λσ H Q=>ty σ H λy H1=>td σ H1 λx H2=>∃a o,x=.ref a/\nu H2 a y o/\Q (.bl (!o.isSome)) H2
def Ea(td ty tv:TE):TS:=λD σ H=>tv σ H λv H1=>td σ H1 λx H2=>ty σ H2 λy H3=>∃a H4,x=.ref a/\uJ H3 a y v H4/\D.nx σ H4
section
variable {X:Cx} {o i value:Expr} {pos pos':Pos} {td ty tv:TE}
def Hu(hu:X.A.units+1<cLine)(ho:PE X o td)(hi:PE X i ty)(hs:MD i):PE X (.Subscript o i pos) (EG td ty):=by
 intro pins s σ H Q I h;refine HD PySem.F.slot_dict_getitem.lookup hs (dJ (ho pins s σ H _ I h) λu s1 ⟨x,H1,I1,rx,q1⟩=>dJ (hi pins s1 σ H1 _ I1 q1) λiv s2 ⟨y,H2,I2,ry,a,v,ex,g,q2⟩=>?_);subst ex;obtain rfl:u=Value.ref a:=rx;exact⟨yR I2 g,Cu hu I2 g ry λw' s3 I3 rw'=>⟨v,H2,I3,rw',q2⟩⟩
def C2(hu:X.A.units+1<cLine)(hi:PE X i ty)(ho:PE X o td):PC X .NotIn i o (rh ty td):=by
 intro pins s σ H Q I h;refine dJ (hi pins s σ H _ I h) λiv s1 ⟨y,H1,I1,ry,q1⟩=>dJ (ho pins s1 σ H1 _ I1 q1) λu s2 ⟨x,H2,I2,rx,a,ov,ex,g,q2⟩=>?_;subst ex;obtain rfl:u=Value.ref a:=rx;exact Im hu I2 g ry λs3 I3=>⟨.bl (!ov.isSome),H2,I3,rfl,q2⟩
def Hh(hu:X.A.units+1<cLine)(ho:PE X o td)(hi:PE X i ty)(hv:PE X value tv)(hs:swapsWith value (some (.Subscript o i pos')) pos.line X.env=pure false):
  PS X (.Assign [.Subscript o i pos'] value pos) (Ea td ty tv):=by
 intro pins s σ H D I h;refine wpAny_Assign_Subscript (dJ (hv pins s σ H _ I h) λr s1 ⟨v,H1,I1,rv,q1⟩=>dJ (ho pins s1 σ H1 _ I1 q1) λu s2 ⟨x,H2,I2,rx,q2⟩=>dJ (hi pins s2 σ H2 _ I2 q2) λiv s3 ⟨y,H3,I3,ry,a,H4,ex,g,q3⟩=>?_) hs;subst ex;obtain rfl:u=Value.ref a:=rx;exact Ct hu I3 g ry rv λs4 I4=>⟨σ,H4,I4,q3⟩
end
def yO {P:Program} {w:World} {H:Hp} (h:Heap) (hb:sysModules<h.objs.size):cw P w H (h.push { cls:=.type "dict",data:=.dict #[] }) h.objs.size (.dK []):=
 ⟨bU _,beq_eq_false_iff_ne.mpr (bc (aV hb)),[],.nil,Heap.DictOf.new h⟩
def GL {P:Program} {w:World} {H:Hp} (h:Heap) (hb:sysModules<h.objs.size):cw P w H (h.push { cls:=.type "dict",data:=.dict #[] }) h.objs.size (.dT []):=
 ⟨bU _,beq_eq_false_iff_ne.mpr (bc (aV hb)),[],.nil,_,#[],0,aL _ rfl,⟨rfl,rfl,rfl⟩,rfl,rfl,List.nodup_nil⟩
def zB:TE:=λ_ H Q=>∀p,H p=none->Q (.ref p) (bP H p (.dK []))
def zA:TE:=λ_ H Q=>∀p,H p=none->Q (.ref p) (bP H p (.dT []))
section
variable {X:Cx} {pos:Pos}
def FI:PE X (.Dict [] [] pos) zB:=λpins s σ H Q I h=>
 wpAny_Dict_empty ⟨.ref s.heap.objs.size,_,I.laid (a:=s.heap.objs.size) (o:=.dK []) (t':=s.toks) (λ_ _ q=>aA _ q) (aI _) (yO s.heap I.big),rfl,h _ (I.hok.fresh (aI _))⟩
def FH:PE X (.Dict [] [] pos) zA:=λpins s σ H Q I h=>
 wpAny_Dict_empty ⟨.ref s.heap.objs.size,_,I.laid (a:=s.heap.objs.size) (o:=.dT []) (t':=s.toks) (λ_ _ q=>aA _ q) (aI _) (GL s.heap I.big),rfl,h _ (I.hok.fresh (aI _))⟩
end
def pY:List (TE×TE)->St->Hp->(List (V×V)->Hp->Prop)->Prop
 | [],_,H,Q=>Q [] H
 | (tk,tv)::r,σ,H,Q=>tk σ H λx H1=>tv σ H1 λy H2=>pY r σ H2 λps H3=>Q ((x,y)::ps) H3
abbrev VV:List (V×V)->List (Value×Value)->Prop:=Paired λp q=>RelV p.1 q.1/\RelV p.2 q.2
def Nb(X:Cx)(pos:Pos)(keys:List (Option Expr))(values:List Expr)(trs:List (TE×TE)):Prop:=
 ∀(pins:List (Addr×Obj)) (s:Shared) (σ:St) (H:Hp) (Q:List (V×V)->Hp->Prop),bX X pins σ H s->pY trs σ H Q →
  wpAny (model X.prog X.w) X.A (evalPairs (pairTrees keys values X.env pos)) (λvs s'=>∃ps H',bX X pins σ H' s'/\VV ps vs/\Q ps H') X.xe s
def Hj{X:Cx}{pos:Pos}:Nb X pos [] [] []:=λpins s σ H Q I h=>pairTrees_nil_walk ⟨[],H,I,.nil,h⟩
def Ew{X:Cx}{pos:Pos}{k v:Expr}{ks:List (Option Expr)}{vs:List Expr}{tk tv:TE}{trs:List (TE×TE)}(hk:PE X k tk)(hv:PE X v tv)(hr:Nb X pos ks vs trs):
  Nb X pos (some k::ks) (v::vs) ((tk,tv)::trs):=λpins s σ H Q I h=>
 pairTrees_cons_walk (dJ (hk pins s σ H _ I h) λu s1 ⟨x,H1,I1,rx,q1⟩=>dJ (hv pins s1 σ H1 _ I1 q1) λw2 s2 ⟨y,H2,I2,ry,q2⟩=>
  dJ (hr pins s2 σ H2 _ I2 q2) λws s3 ⟨ps,H3,I3,rel,q3⟩=>⟨(x,y)::ps,H3,I3,.cons ⟨rx,ry⟩ rel,q3⟩)
def qA(kvs more:List (Key×V)):List (Key×V):=more.foldl (λacc kv=>putK acc kv.1 kv.2) kvs
def KV.merge:∀{more:List (Key×V)} {rs:List (Key×Value)} {kvs:List (Key×V)} {vs:List (Key×Value)},KV more rs->KV kvs vs->KV (qA kvs more) (merged vs rs):=by
 intro more rs kvs vs r;unfold KV at r
 induction r generalizing kvs vs with
 | nil=>intro q;exact q
 | @cons p q ps qs h t ih=>
  intro r0;have e:KV (putK kvs p.1 p.2) (stored vs q.1 q.2):=by
   have:=r0.put p.1 h.2;rw[<-h.1];exact this
  exact ih e
def pQ:∀(more kvs:List (Key×V)),(qA kvs more).length<=kvs.length+more.length
 | [],kvs=>by show kvs.length<=kvs.length+0;lia
 | p::r,kvs=>by
  have h1:=pQ r (putK kvs p.1 p.2);have h2:=fI kvs p.1 p.2;show (qA (putK kvs p.1 p.2) r).length<=_;rw[cJ];lia
def uD{P:Program}{w:World}:∀{kvs:List (Key×V)} {ws:List (Value×Value)},VV (kvs.map λkv=>(kV kv.1,kv.2)) ws->∃rs,Carries (fV P w) ws rs/\KV kvs rs
 | [],_,r=>by rw[fL] at r;cases r;exact⟨[],True.intro,.nil⟩
 | p::kvs,_,r=>by
  rw[aZ] at r;cases r with
  | @cons a b as bs h t=>
   obtain⟨rs,c,q⟩:=uD (P:=P) (w:=w) t;obtain⟨b1,b2⟩:=b;exact⟨(p.1,b2)::rs,⟨xx h.1,rfl,c⟩,.cons ⟨rfl,h.2⟩ q⟩
def EF(trs:List (TE×TE)):TE:=λσ H Q=>∀p,H p=none->pY trs σ (bP H p (.dK [])) λps H2=>H2 p=some (.dK [])/\∃kvs:List (Key×V),ps=kvs.map (λkv=>(kV kv.1,kv.2))/\kvs.length<=15/\Q (.ref p) (bP H2 p (.dK (qA [] kvs)))
def Ht{X:Cx}{pos:Pos}{keys:List (Option Expr)}{values:List Expr}{trs:List (TE×TE)}(h:Nb X pos keys values trs)(hall:keys.all (·.isSome)=true)(hl:keys.length=values.length)(h0:keys≠[])
  (h15:keys.length<=15):PE X (.Dict keys values pos) (EF trs):=by
 intro pins s σ H Q I q;have hn:=I.hok.fresh (aI s.heap.objs.size);have I1:=I.laid (a:=s.heap.objs.size) (o:=.dK []) (h':=s.heap.push { cls:=.type "dict",data:=.dict #[] }) (t':=s.toks) (λ_ _ q=>aA _ q) (aI _) (yO s.heap I.big);refine wpAny_Dict_walk (knd:=fV X.prog X.w) hall hl h0 h15 (dJ (h pins _ σ _ _ I1 (q _ hn)) λws s2 ⟨ps,H2,I2,rel,e,kvs,ep,lk,q2⟩=>?_);subst ep;obtain⟨rs,c,rk⟩:=uD (P:=X.prog) (w:=X.w) rel;obtain⟨z,hd,vs0,r0,dd⟩:=Jf I2.hok e;cases r0;refine⟨rs,c,dd,λh' dd' hs=>⟨.ref s.heap.objs.size,_,?_,rfl,q2⟩⟩;have hz:(qA [] kvs).length<=sizeLine:=by
  have h1:=pQ kvs [];rw[gD] at h1;rw[WH];lia
 have he:∃q,h'.get? s.heap.objs.size=some q:=let ⟨q,_,_,hq,_⟩:=dd';⟨q,hq⟩;exact wJ I2 (by rw[e];exact True.intro) hs he (GM hz hd (rk.merge .nil) dd')
mutual
inductive Rep (K:Wb) (H:Hp):V->PyData->Prop
 | non:Rep K H .non .none
 | bl (b:Bool):Rep K H (.bl b) (.bool b)
 | int (i:Int):Rep K H (.int i) (.int i)
 | str (x:Str):Rep K H (.str x) (.str x)
 | tup {a:Addr} {xs:List V} {ds:List PyData}:de K H a xs->qJ K H xs ds->Rep K H (.ref a) (.tuple ds)
 | lst {a:Addr} {xs:List V} {ds:List PyData}:c6 K H a xs->qJ K H xs ds->Rep K H (.ref a) (.list ds)
inductive qJ (K:Wb) (H:Hp):List V->List PyData->Prop
 | nil:qJ K H [] []
 | cons {x:V} {xs:List V} {d:PyData} {ds:List PyData}:Rep K H x d->qJ K H xs ds->qJ K H (x::xs) (d::ds)
end
section
variable {X:Cx} {pins:List (Addr×Obj)} {σ:St} {H:Hp} {s:Shared}
mutual
def Rep.reads(I:bX X pins σ H s):∀{x:V} {d:PyData} {u:Value},Rep X.K H x d->RelV x u->∃as,Reads s.heap u d as
 | _,_,_,.non,r=>by cases r;exact⟨_,.none⟩
 | _,_,_,.bl b,r=>by cases r;exact⟨_,.bool b⟩
 | _,_,_,.int i,r=>by obtain⟨t,rfl⟩:=r;exact⟨_,.int i t⟩
 | _,_,_,.str x,r=>by obtain⟨t,rfl⟩:=r;exact⟨_,.str x t⟩
 | _,_,_,.tup h hl,r=>by
  cases r;obtain⟨its,vs,⟨o,e,c,n,dd⟩,_⟩:=I.tuple h;obtain⟨as,ra⟩:=qJ.reads I hl vs;exact⟨_,.tuple e c dd (by simpa using ra)⟩
 | _,_,_,.lst h hl,r=>by
  cases r;obtain⟨its,vs,pl,_⟩:=I.list h;obtain⟨o,e,c,n,dd⟩:=pl.isList;obtain⟨as,ra⟩:=qJ.reads I hl vs;exact⟨_,.list e c dd (by simpa using ra)⟩
def qJ.reads(I:bX X pins σ H s):∀{xs:List V} {ds:List PyData} {us:List Value},qJ X.K H xs ds->cH xs us->∃as,ReadsAll s.heap us ds as
 | _,_,_,.nil,.nil=>⟨_,.nil⟩
 | _,_,_,.cons h hl,.cons r rs=>by
  obtain⟨as,ra⟩:=Rep.reads I h r;obtain⟨bs,rb⟩:=qJ.reads I hl rs;exact⟨_,.cons ra rb⟩
end
end
def CL(K:Wb)(neg:Bool):R2:=λx y H Q=>∃d e,Rep K H x d/\Rep K H y e/\d.canLay0=true/\e.canLay0=true/\min d.depth e.depth<=60 ∧
 Q (.bl (if neg then !PyData.eqv d e else PyData.eqv d e)) H
section
variable {X:Cx}
def ze(hu:X.A.units+64<cLine):jt X (compareOp .Eq) (CL X.K false):=by
 intro pins s σ H x y v u Q I rx ry h;obtain⟨d,e,h1,h2,h3,h4,h5,q⟩:=h;obtain⟨as,ra⟩:=h1.reads I rx;obtain⟨bs,rb⟩:=h2.reads I ry;exact SeqAt.compareEq_reads ra rb h3 h4 (by lia) ⟨.bl _,H,I,rfl,q⟩
def vp(hu:X.A.units+64<cLine):jt X (compareOp .NotEq) (CL X.K true):=by
 intro pins s σ H x y v u Q I rx ry h;obtain⟨d,e,h1,h2,h3,h4,h5,q⟩:=h;obtain⟨as,ra⟩:=h1.reads I rx;obtain⟨bs,rb⟩:=h2.reads I ry;exact SeqAt.compareNe_reads ra rb h3 h4 (by lia) ⟨.bl _,H,I,rfl,q⟩
open Classical in
noncomputable def eqR (h:Heap) (d:PyData) (u:Value):Bool:=if z:∃e as,Reads h u e as/\e.canLay0=true then PyData.eqv z.choose d else false
def GJ{h:Heap}{d e:PyData}{u:Value}{as:List Addr}(r:Reads h u e as)(c:e.canLay0=true):eqR h d u=PyData.eqv e d:=by
 have z:∃e as,Reads h u e as/\e.canLay0=true:=⟨e,as,r,c⟩
 unfold eqR;rw[dif_pos z];obtain⟨as',r',c'⟩:=z.choose_spec;rw[SeqAt.Reads.unique _ _ _ _ _ c' r' r]
def qp{h:Heap}{d:PyData}:∀{us:List Value} {es:List PyData} {as:List Addr},ReadsAll h us es as->PyData.canLayAll0 es=true->us.any (eqR h d)=es.any λe=>PyData.eqv e d
 | _,_,_,.nil,_=>rfl
 | _,_,_,.cons r rs,c=>by
  have c':(PyData.canLay0 _&&PyData.canLayAll0 _)=true:=c;rw[cQ] at c';rw[gR,gR,GJ r c'.1,qp rs c'.2]
def qd{A:Around}{s:Shared}{d:PyData}{x:Value}{bs:List Addr}(rx:Reads s.heap x d bs)(cx:d.canLay0=true)(hu:A.units+d.depth<cLine):
  ∀{us:List Value} {es:List PyData} {as:List Addr},ReadsAll s.heap us es as->PyData.canLayAll0 es=true->∀u∈us,SeqAt.EqAt A s u x (eqR s.heap d u)
 | _,_,_,.nil,_=>λu hu=>nomatch hu
 | _,_,_,.cons r rs,c=>λu hm=>by
  have c':(PyData.canLay0 _&&PyData.canLayAll0 _)=true:=c;rw[cQ] at c';rcases aF.mp hm with rfl | hm
  ·rw[GJ r c'.1];exact SeqAt.eqAt_reads _ _ A s _ _ _ _ r rx c'.1 cx (by lia)
  ·exact qd rx cx hu rs c'.2 u hm
def zR(K:Wb)(neg:Bool):R2:=λx y H Q=>∃d es p xs,Rep K H x d/\y=.ref p/\(c6 K H p xs\/de K H p xs)/\qJ K H xs es/\d.canLay0=true/\PyData.canLayAll0 es=true/\d.depth<=60 ∧
 Q (.bl (if neg then !(es.any λe=>PyData.eqv e d) else es.any λe=>PyData.eqv e d)) H
def zd(hu:X.A.units+64<cLine):jt X (compareOp .In) (zR X.K false):=by
 intro pins s σ H x y v u Q I rx ry h;obtain⟨d,es,p,xs,h1,rfl,hq,h2,h3,h4,h5,q⟩:=h;cases ry;obtain⟨as,ra⟩:=h1.reads I rx;rcases hq with hq | hq
 ·obtain⟨its,r,pl,hz⟩:=I.list hq;obtain⟨bs,rb⟩:=h2.reads I r;refine SeqAt.in_listAt (eqR s.heap d) pl.isList (λz hz=>qd (A:=X.A.in1) ra h3 (by show X.A.units+1+d.depth<cLine;lia) rb h4 z (by simpa using hz)) ⟨.bl _,H,I,rfl,?_⟩;rw[show its.toArray.any (eqR s.heap d)=its.any (eqR s.heap d) by simp,qp rb h4];exact q
 ·obtain⟨its,r,pl,hz⟩:=I.tuple hq;obtain⟨bs,rb⟩:=h2.reads I r;refine SeqAt.in_tupleAt (eqR s.heap d) pl (λz hz=>qd (A:=X.A.in1) ra h3 (by show X.A.units+1+d.depth<cLine;lia) rb h4 z (by simpa using hz)) ⟨.bl _,H,I,rfl,?_⟩;rw[show its.toArray.any (eqR s.heap d)=its.any (eqR s.heap d) by simp,qp rb h4];exact q
def C5(hu:X.A.units+64<cLine):jt X (compareOp .NotIn) (zR X.K true):=by
 intro pins s σ H x y v u Q I rx ry h;obtain⟨d,es,p,xs,h1,rfl,hq,h2,h3,h4,h5,q⟩:=h;cases ry;obtain⟨as,ra⟩:=h1.reads I rx;rcases hq with hq | hq
 ·obtain⟨its,r,pl,hz⟩:=I.list hq;obtain⟨bs,rb⟩:=h2.reads I r;refine SeqAt.notIn_listAt (eqR s.heap d) pl.isList (λz hz=>qd (A:=X.A.in1) ra h3 (by show X.A.units+1+d.depth<cLine;lia) rb h4 z (by simpa using hz)) ⟨.bl _,H,I,rfl,?_⟩;rw[show its.toArray.any (eqR s.heap d)=its.any (eqR s.heap d) by simp,qp rb h4];exact q
 ·obtain⟨its,r,pl,hz⟩:=I.tuple hq;obtain⟨bs,rb⟩:=h2.reads I r;refine SeqAt.notIn_tupleAt (eqR s.heap d) pl (λz hz=>qd (A:=X.A.in1) ra h3 (by show X.A.units+1+d.depth<cLine;lia) rb h4 z (by simpa using hz)) ⟨.bl _,H,I,rfl,?_⟩;rw[show its.toArray.any (eqR s.heap d)=its.any (eqR s.heap d) by simp,qp rb h4];exact q
def CK(K:Wb):List V->Hp->VK->Prop:=λxs H Q=>∃x T t b,xs=[x,.ty T]/\qI K H x t/\PySem.W.kitOne K t (.type T)=some b/\Q (.bl b) H
def jg:fN X (.builtin "isinstance") (CK X.K):=by
 intro pins s σ H xs us Q I r h;obtain⟨x,T,t,b,rfl,ty,e,q⟩:=h;obtain⟨u,w,rfl,rx,rw'⟩:=cH.two r;cases (show w=Value.type T from rw');exact Ci I rx ty e λtk=>⟨.bl b,H,I.tok tk,rfl,q⟩
def rj(r r' r2:R2)(ta tb tc td:TE):TE:=λσ H Q=>ta σ H λx H1=>tb σ H1 λy H2=>r x y H2 λz H3=>∃k,z=.bl k ∧
 (if k=true then tc σ H3 λw' H4=>r' y w' H4 λz2 H5=>∃k2,z2=.bl k2/\(if k2=true then td σ H5 λe H6=>r2 w' e H6 Q else Q (.bl false) H5) else Q (.bl false) H3)
def CT{a b c d:Expr}{ta tb tc td:TE}{pos:Pos}{op op' op2:CmpOp}{r r' r2:R2}(ho:jt X (compareOp op) r)(ho':jt X (compareOp op') r')(ho2:jt X (compareOp op2) r2)(ha:PE X a ta)(hb:PE X b tb)(hc:PE X c tc)(hd:PE X d td)
  (hm:lastMarks [op,op',op2] [b,c,d]=false:=by with_unfolding_all rfl):PT X (.Compare a [op,op',op2] [b,c,d] pos) (sO (rj r r' r2 ta tb tc td)):=by
 intro pins s σ H Q I h;refine isTrue_chain (dJ (ha pins s σ H _ I h) λv s1 ⟨x,H1,I1,r1,q1⟩=>test_link (dJ (hb pins s1 σ H1 _ I1 q1) λu s2 ⟨y,H2,I2,r2',q2⟩=>
  dJ (ho pins s2 σ H2 x y v u _ I2 r1 r2' q2) λe s3 ⟨z,H3,I3,r3,k,ek,q3⟩=>?_)) hm
 subst ek;cases r3;refine Vy ?_;cases k with
 | false=>
  obtain⟨k',e',q'⟩:=q3;cases e';exact ite_ff ⟨H3,I3,q'⟩
 | true=>
  refine ite_tt (test_link (dJ (hc pins s3 σ H3 _ I3 q3) λw' s4 ⟨z',H4,I4,r4,q4⟩=>dJ (ho' pins s4 σ H4 y z' u w' _ I4 r2' r4 q4) λd' s5 ⟨z2,H5,I5,r5,k2,e2,q5⟩=>?_));subst e2;cases r5;refine Vy ?_;cases k2 with
  | false=>
   obtain⟨k',e',q'⟩:=q5;cases e';exact ite_ff ⟨H5,I5,q'⟩
  | true=>
   refine ite_tt (test_last (dJ (hd pins s5 σ H5 _ I5 q5) λw2 s6 ⟨z6,H6,I6,r6,q6⟩=>dJ (ho2 pins s6 σ H6 z' z6 w' w2 _ I6 r4 r6 q6) λd7 s7 ⟨z7,H7,I7,r7,k7,e7,q7⟩=>?_));subst e7;cases r7;exact Vy ⟨H7,I7,q7⟩
def fU(lo:Int)(n:Nat):List Int:=(List.range n).map λ(i:Nat)=>lo+(i:Int)
def Ak:∀{xs:List V} {us:List Value},xs.length=us.length->(∀(j:Nat) x u,xs[j]? = some x->us[j]? = some u->RelV x u)->cH xs us
 | [],[],_,_=>.nil
 | [],_::_,h,_=>by simp at h
 | _::_,[],h,_=>by simp at h
 | x::xs,u::us,h,f=>.cons (f 0 x u rfl rfl) (Ak (by simpa using h) λj a b ha hb=>f (j+1) a b (by simpa using ha) (by simpa using hb))
def AB{lo:Int}{n:Nat}{acc:Array Value}(h:ItemsOf (λi v=>∃t,v=.int (lo+i*1) t) acc n):cH ((fU lo n).map V.int) acc.toList:=by
 refine Ak (by simp[fU,h.1]) λj x u hx hu=>?_;obtain⟨t,rfl⟩:=h.2 j u (by simpa using hu);have hj:j<n:=by
  have:=(aK.mp hx).1;simpa [fU] using this
 have e:((fU lo n).map V.int)[j]? = some (.int (lo+(j:Int))):=by simp[fU,hj]
 rw[e] at hx;cases hx;exact⟨t,by simp⟩
def vB:fN X (.type "range") (λxs H Q=>∃i j:Int,xs=[.int i,.int j]/\∀p,H p=none->Q (.ref p) (bP H p (.rng i j))):=by
 intro pins s σ H xs us Q I r h;obtain⟨i,j,rfl,q⟩:=h;obtain⟨u,u',rfl,⟨t,rfl⟩,t',rfl⟩:=cH.two r;exact call_range_2 ⟨.ref s.heap.objs.size,_,I.laid (λb o e=>aA _ e) (aI _) (show cw X.prog X.w _ _ _ (.rng i j) from ⟨_,_,_,aL _ rfl⟩),rfl,q _ (I.hok.fresh (aI _))⟩
def pV (hc:X.calm=true):fN X (.type "list") (λxs H Q=>∃p lo hi,xs=[.ref p]/\H p=some (.rng lo hi)/\(-(2 ^ 30)<=lo/\lo<2 ^ 30/\-(2 ^ 30)<=hi/\hi<2 ^ 30/\(hi-lo).toNat<=1000) ∧
  ∀l,H l=none->Q (.ref l) (bP H l (.lst ((fU lo (hi-lo).toNat).map V.int)))):=by
 intro pins s σ H xs us Q I r h;obtain⟨p,lo,hi,rfl,hp,⟨b1,b2,b3,b4,b5⟩,q⟩:=h;obtain⟨u,rfl,rx⟩:=WI r;cases rx;obtain⟨t,u,v,e⟩:=(show cw X.prog X.w H s.heap p (.rng lo hi) from I.hok p _ hp)
 have hn:Builtin.Range.rangeSize lo hi 1=(((hi-lo).toNat:Nat):Int):=by rw[rangeSize_one];split<;>lia
 refine call_list_range (n:=(hi-lo).toNat) (I.ok.hd hc) (show IsRange s.heap p lo hi 1 t u v from e) (small_one (by lia) (by lia) (by lia) (by lia)) hn (by lia) λh' tk acc' c' kp e' hit=>?_;have hv:=AB hit;have hz:((fU lo (hi-lo).toNat).map V.int).length<=sizeLine:=by
  rw[aG,fU,aG,lS];exact ba (cB b5)
 exact⟨.ref s.heap.objs.size,_,I.laid kp (aI _) (show cw X.prog X.w _ h' _ (.lst _) from ⟨hz,acc'.toList,c',hv,by simpa using e'⟩),rfl,q _ (I.hok.fresh (aI _))⟩
end
structure Fn (K:Wb) (mg:Str->Option Value) (x:Str) (st:Stmt) (ps:List Str):Prop where
 ex:∃ f fd,wV K x x st f fd/\mg x=some (.ref f)/\Binds K fd ps []
structure eG (P:Program) (w:World) (K:Wb) (mg:Str->Option Value) (base:Heap) (k:Nat) (x:Str) (st:Stmt) (ps:List Str) (sp:Sp):Prop where
 ex:∃ f fd,wV K x x st f fd/\mg x=some (.ref f)/\Binds K fd ps []/\oW P w K mg base yo k f fd ps sp
def Fn.mk'{P:Program}{w:World}{K:Wb}{mg:Str->Option Value}{base:Heap}{k:Nat}{x:Str}{st:Stmt}{ps:List Str}{sp:Sp}(E:Fn K mg x st ps)
  (h:∀f fd,wV K x x st f fd->oW P w K mg base yo k f fd ps sp):eG P w K mg base k x st ps sp:=by
 obtain⟨f,fd,F,m,b⟩:=E.ex;exact⟨f,fd,F,m,b,h f fd F⟩
def aP.new{H H2:Hp}{l:Addr}{o:HO}(s:aP H H2)(h:H l=none):aP H (bP H2 l o):=λb u e=>by rw[aS (bD e h)];exact s b u e
def rV{α β:Type}{R:α->β->Prop}:∀{xs:List α} {ys:List β} {x:α} {y:β},Paired R xs ys->R x y->Paired R (xs++[x]) (ys++[y])
 | _,_,_,_,.nil,h=>.cons h .nil
 | _,_,_,_,.cons r t,h=>.cons r (rV t h)
def ft{α β:Type}{R S:α->β->Prop}:∀{xs:List α} {ys:List β},Paired R xs ys->(∀a b,R a b->S a b)->Paired S xs ys
 | _,_,.nil,_=>.nil
 | _,_,.cons r t,f=>.cons (f _ _ r) (ft t f)
def jQ{α β:Type}{R:α->β->Prop}:∀{xs:List α} {ys:List β} {i:Nat} {x:α},Paired R xs ys->xs[i]? = some x->∃y,ys[i]? = some y/\R x y
 | _,_,_,_,.nil,e=>by simp at e
 | _,_,0,_,.cons r _,e=>by simp at e;subst e;exact⟨_,rfl,r⟩
 | _,_,i+1,x,.cons _ t,e=>by
  obtain⟨y,h1,h2⟩:=jQ (i:=i) (x:=x) t (by simpa using e);exact⟨y,by simpa using h1,h2⟩
def FF {X:Cx} {x:Str} {i:Int} {pos:Pos} (hg:Gl X x) (hm:∃t,X.mg x=some (.int i t)) (hd:(x==("__debug__":Str))=false:=by decide):PE X (.Name x pos) (tC (.int i)):=
 let ⟨t,h⟩:=hm
 sB hg h ⟨t,rfl⟩ hd
def FM{X:Cx}{k:Nat}{x:Str}{st:Stmt}{ps:List Str}{sp:Sp}{e:Expr}{es:List Expr}{t:TA}{p pos:Pos}(D:eG X.prog X.w X.K X.mg X.base k x st ps sp)(hr:g0 k X.A)(hg:Gl X x)(ha:PA X (e::es) t)
  (hdb:(x==("__debug__":Str))=false:=by decide) (he:starEach (e::es) X.env=(false,eval e X.env)::starEach es X.env:=by rfl) (hpl:(backTo pos (starEach es X.env)).any (·.1)=false:=by rfl) :
  PE X (.Call (.Name x p) (e::es) [] pos) (pM sp [] E0 t):=by
 obtain⟨f,fd,F,m,b,G⟩:=D.ex;exact vi G hr hg m F.kp b .nil NT ha hdb he hpl
section
variable {σ:St} {H:Hp} {Q:VK} {D:Ends}
def Jl{v:V}:sN 0 (some v::σ) H Q=Q v H:=propext ⟨λ⟨_,e,h⟩=>by cases e;exact h,λh=>⟨v,rfl,h⟩⟩
def DT{i:Nat}{x:Option V}:sN (i+1) (x::σ) H Q=sN i σ H Q:=rfl
def Ov{v:V}:tC v σ H Q=Q v H:=rfl
def M3{r:R2}{ta tb:TE}:Dw r ta tb σ H Q=ta σ H λx H1=>tb σ H1 λy H2=>r x y H2 Q:=rfl
def MW{r:V->Hp->VK->Prop}{ta:TE}:OQ r ta σ H Q=ta σ H λx H1=>r x H1 Q:=rfl
def Gy{g:Int->Int->V}{i j:Int}:HP g (.int i) (.int j) H Q=Q (g i j) H:=propext ⟨λ⟨_,_,e,e',h⟩=>by cases e;cases e';exact h,λh=>⟨i,j,rfl,rfl,h⟩⟩
def PP{C:Int->Int->Prop}{g:Int->Int->V}{i j:Int}:rI C g (.int i) (.int j) H Q=(C i j/\Q (g i j) H):=propext ⟨λ⟨_,_,e,e',h⟩=>by cases e;cases e';exact h,λh=>⟨i,j,rfl,rfl,h⟩⟩
def PN{g:Int->V}{i:Int}:rU g (.int i) H Q=Q (g i) H:=propext ⟨λ⟨_,e,h⟩=>by cases e;exact h,λh=>⟨i,rfl,h⟩⟩
def Mh{i j:Int}:NI (.int i) (.int j) H Q=Q (.bl (decide (i=j))) H:=propext ⟨λ⟨_,h⟩=>by simpa using h,λh=>⟨rfl,by simpa using h⟩⟩
def M4{i j:Int}:Ny (.int i) (.int j) H Q=Q (.bl (!decide (i=j))) H:=propext ⟨λ⟨_,h⟩=>by simpa using h,λh=>⟨rfl,by simpa using h⟩⟩
def Mg{i j:Str}:NI (.str i) (.str j) H Q=Q (.bl (decide (i=j))) H:=propext ⟨λ⟨_,h⟩=>by simpa using h,λh=>⟨rfl,by simpa using h⟩⟩
def JT{i j:Str}:Ny (.str i) (.str j) H Q=Q (.bl (!decide (i=j))) H:=propext ⟨λ⟨_,h⟩=>by simpa using h,λh=>⟨rfl,by simpa using h⟩⟩
def Mi{i j:Bool}:NI (.bl i) (.bl j) H Q=Q (.bl (decide (i=j))) H:=propext ⟨λ⟨_,h⟩=>by simpa using h,λh=>⟨rfl,by simpa using h⟩⟩
def M5{i j:Bool}:Ny (.bl i) (.bl j) H Q=Q (.bl (!decide (i=j))) H:=propext ⟨λ⟨_,h⟩=>by simpa using h,λh=>⟨rfl,by simpa using h⟩⟩
def Mf{b:Bool}{q:Bool->Prop}:(∃k,V.bl b=.bl k/\q k)=q b:=propext ⟨λ⟨_,e,h⟩=>by cases e;exact h,λh=>⟨b,rfl,h⟩⟩
def Me{b:Int}{q:Int->Prop}:(∃k,V.int b=.int k/\q k)=q b:=propext ⟨λ⟨_,e,h⟩=>by cases e;exact h,λh=>⟨b,rfl,h⟩⟩
def KI{i j:Str}{q:Str->Str->Prop}:(∃a b,V.str i=.str a/\V.str j=.str b/\q a b)=q i j:=
 propext ⟨λ⟨_,_,e,e',h⟩=>by cases e;cases e';exact h,λh=>⟨i,j,rfl,rfl,h⟩⟩
def Ow{CX:DQ}{P:Program}{w:World}{K:Wb}{mg:Str->Option Value}{base:Heap}{N:List Str}{qual:Str}{scope:Scope}{f:Addr}{cd:Value}{A:Around}{outer:List Env}{s:Shared}{H:Hp}{E:XK}:(jq CX P w K mg base N qual scope f cd A outer s H E).K=K:=rfl
def JY{i:Nat}{te:TE}{ti:MT}:K7 i te ti D σ H=sN i σ H λx _=>te σ H λy H1=>ti x y H1 λz H2=>D.nx (σ.set i (some z)) H2:=rfl
def ON{f:Int->Int->Int}{i j:Int}:Od f (.int i) (.int j) H Q=Q (.int (f i j)) H:=propext ⟨λ⟨_,_,e,e',h⟩=>by cases e;cases e';exact h,λh=>⟨i,j,rfl,rfl,h⟩⟩
def Jv{a b:Bool}{q:Bool->Bool->Prop}:(∃c d,V.bl a=.bl c/\V.bl b=.bl d/\q c d)=q a b:=propext ⟨λ⟨_,_,e,e',h⟩=>by cases e;cases e';exact h,λh=>⟨a,b,rfl,rfl,h⟩⟩
def Md{a:Addr}{q:Addr->Prop}:(∃b,V.ref a=.ref b/\q b)=q a:=propext ⟨λ⟨_,e,h⟩=>by cases e;exact h,λh=>⟨a,rfl,h⟩⟩
def Ju{α:Type}{a:Addr}{q:Addr->α->Prop}:(∃b y,V.ref a=.ref b/\q b y)=∃y,q a y:=propext ⟨λ⟨_,y,e,h⟩=>by cases e;exact⟨y,h⟩,λ⟨y,h⟩=>⟨a,y,rfl,h⟩⟩
def KA{i:Int}{q:Int->Prop}:(∃j,[V.int i]=[.int j]/\q j)=q i:=propext ⟨λ⟨_,e,h⟩=>by cases e;exact h,λh=>⟨i,rfl,h⟩⟩
def Jy{i:Str}{q:Str->Prop}:(∃j,[V.str i]=[.str j]/\q j)=q i:=propext ⟨λ⟨_,e,h⟩=>by cases e;exact h,λh=>⟨i,rfl,h⟩⟩
def Jz{α:Type}{i:Addr}{q:Addr->α->Prop}:(∃j y,[V.ref i]=[.ref j]/\q j y)=∃y,q i y:=propext ⟨λ⟨_,y,e,h⟩=>by cases e;exact⟨y,h⟩,λ⟨y,h⟩=>⟨i,y,rfl,h⟩⟩
def Jw{α β:Type}{i:Addr}{q:Addr->α->β->Prop}:(∃j y z,[V.ref i]=[.ref j]/\q j y z)=∃y z,q i y z:=propext ⟨λ⟨_,y,z,e,h⟩=>by cases e;exact⟨y,z,h⟩,λ⟨y,z,h⟩=>⟨i,y,z,rfl,h⟩⟩
def Jx{i j:Int}{q:Int->Int->Prop}:(∃a b,[V.int i,V.int j]=[.int a,.int b]/\q a b)=q i j:=propext ⟨λ⟨_,_,e,h⟩=>by cases e;exact h,λh=>⟨i,j,rfl,h⟩⟩
def Jo{b:Bool}{q:Int->Prop}{r:Bool->Prop}:((∃i,[V.bl b]=[.int i]/\q i)\/∃k,[V.bl b]=[.bl k]/\r k)=r b:=
 propext ⟨λh=>by rcases h with ⟨_,e,_⟩ | ⟨_,e,h⟩<;>cases e;exact h,λh=>.inr ⟨b,rfl,h⟩⟩
def M7{z:Str}{i:Int}:NH (.str z) (.int i) H Q=(z.length<=sizeLine/\∃c,vI z.cps.toList i=some c/\Q (.str ⟨#[c]⟩) H):=
 propext ⟨λ⟨_,_,c,e,e',h1,h2,h3⟩=>by cases e;cases e';exact⟨h1,c,h2,h3⟩,λ⟨h1,c,h2,h3⟩=>⟨z,i,c,rfl,rfl,h1,h2,h3⟩⟩
def M8{K:Wb}{p:Addr}{i:Int}:HN K (.ref p) (.int i) H Q=∃xs v,c6 K H p xs/\vI xs i=some v/\Q v H:=
 propext ⟨λ⟨_,xs,_,v,e,e',h⟩=>by cases e;cases e';exact⟨xs,v,h⟩,λ⟨xs,v,h⟩=>⟨p,xs,i,v,rfl,rfl,h⟩⟩
def M6{K:Wb}{p:Addr}{i:Int}:Kj K (.ref p) (.int i) H Q=∃xs v,de K H p xs/\vI xs i=some v/\Q v H:=
 propext ⟨λ⟨_,xs,_,v,e,e',h⟩=>by cases e;cases e';exact⟨xs,v,h⟩,λ⟨xs,v,h⟩=>⟨p,xs,i,v,rfl,rfl,h⟩⟩
def Ml{l:Addr}{y:V}:BM (.ref l) [y] H Q=∃xs,H l=some (.lst xs)/\xs.length<sizeLine/\Q .non (bP H l (.lst (xs++[y]))):=
 propext ⟨λ⟨_,xs,_,e,e',h⟩=>by cases e;cases e';exact⟨xs,h⟩,λ⟨xs,h⟩=>⟨l,xs,y,rfl,rfl,h⟩⟩
def M2{l:Addr}:NF (.ref l) [] H Q=∃xs y,H l=some (.lst xs)/\xs[xs.length - 1]? = some y/\Q y (bP H l (.lst xs.dropLast)):=
 propext ⟨λ⟨_,xs,y,e,_,h⟩=>by cases e;exact⟨xs,y,h⟩,λ⟨xs,y,h⟩=>⟨l,xs,y,rfl,rfl,h⟩⟩
def pF{α:Type}{f:α->V}{l:List α}{k:Nat}{y:V}(h:(l.map f)[k]? = some y):∃x,l[k]? = some x/\y=f x:=by
 rw[au] at h;cases e:l[k]? with
 | none=>rw[e] at h;cases h
 | some x=>rw[e] at h;exact⟨x,rfl,(bI h).symm⟩
def u7 {K:Wb} {l:Addr} {xs:List V} (h:H l=some (.lst xs)):ML K "list" (.ref l) H:=.inl ⟨rfl,xs,c6.of h⟩
def DU{t:TE}{q:Bool->Hp->Prop}:sO t σ H q=t σ H λx H'=>∃k,x=.bl k/\q k H':=rfl
def MX{t:TE}{q:Bool->Hp->Prop}:tB t σ H q=t σ H λx H'=>∃k,x=.bl k/\q k H':=rfl
def w_and{t u:TT}{q:Bool->Hp->Prop}:K8 t u σ H q=t σ H λc H1=>if c=true then u σ H1 q else q false H1:=rfl
def w_or{t u:TT}{q:Bool->Hp->Prop}:OU t u σ H q=t σ H λc H1=>if c=true then q true H1 else u σ H1 q:=rfl
def w_not{t:TT}{q:Bool->Hp->Prop}:K1 t σ H q=t σ H λc H1=>q (!c) H1:=rfl
def Dm{ta tb:TE}:EH ta tb σ H Q=ta σ H λx H1=>∃c,x=.bl c/\if c=true then tb σ H1 Q else Q (.bl false) H1:=rfl
def JR{ta tb:TE}:OT ta tb σ H Q=ta σ H λx H1=>∃c,x=.bl c/\if c=true then Q (.bl true) H1 else tb σ H1 Q:=rfl
def D3{ta:TE}:Dx ta σ H Q=ta σ H λx H1=>∃c,x=.bl c/\Q (.bl (!c)) H1:=rfl
def M9{t:TT}{ta tb:TE}:OV t ta tb σ H Q=t σ H λc H1=>if c=true then ta σ H1 Q else tb σ H1 Q:=rfl
def JP{t u:TS}:KY t u D σ H=t { nx:=u D,rt:=D.rt,bk:=D.bk,ct:=D.ct } σ H:=rfl
def w_next:Dz D σ H=D.nx σ H:=rfl
def JW:K5 D σ H=D.bk σ H:=rfl
def Dk:Mo D σ H=D.ct σ H:=rfl
def Dg{te:TE}:ED te D σ H=te σ H λ_ H1=>D.nx σ H1:=rfl
def JQ{te:TE}:K0 te D σ H=te σ H D.rt:=rfl
def DY:Mn D σ H=D.rt .non H:=rfl
def JV{c:TT}{t u:TS}:K2 c t u D σ H=c σ H λb H1=>if b=true then t D σ H1 else u D σ H1:=rfl
def JZ{te:TE}{g:TG}:zC te g D σ H=te σ H λx H1=>g x σ H1 D.nx:=rfl
def A9{i:Nat}{v:V}{q:St->Hp->Prop}:nP i v σ H q=q (σ.set i (some v)) H:=rfl
def DX{v:V}{x:Option V}:List.set (x::σ) 0 (some v)=some v::σ:=rfl
def DW{i:Nat}{v:V}{x:Option V}:List.set (x::σ) (i+1) (some v)=x::List.set σ i (some v):=rfl
def JS{q:List V->Hp->Prop}:Dy σ H q=q [] H:=rfl
def Dl{ta:TE}{tr:TA}{q:List V->Hp->Prop}:fD ta tr σ H q=ta σ H λx H1=>tr σ H1 λxs H2=>q (x::xs) H2:=rfl
def Mj{r:List V->Hp->VK->Prop}{t:TA}:MM r t σ H Q=t σ H λvs H1=>r vs H1 Q:=rfl
def JO{t:TA}:KW t σ H Q=t σ H λxs H1=>xs.length<=sizeLine/\∀p,H1 p=none->Q (.ref p) (bP H1 p (.tup xs)):=rfl
def JU{t:TA}:HC t σ H Q=t σ H λxs H1=>xs.length<=sizeLine/\∀p,H1 p=none->Q (.ref p) (bP H1 p (.lst xs)):=rfl
def w_call{sp:Sp}{dvs:List V}{E:XK}{t:TA}:pM sp dvs E t σ H Q=t σ H λvs H1=>sp (vs++dvs) H1 Q E:=rfl
def Mk{K:Wb}{T:String}{r:V->List V->Hp->VK->Prop}{to:TE}{t:TA}:Mp K T r to t σ H Q=to σ H λx H1=>ML K T x H1/\t σ H1 λxs H2=>r x xs H2 Q:=rfl
def JX{K:Wb}{T:String}{r:V->List V->Hp->VK->Prop}{to:TE}:K6 K T r to σ H Q=to σ H λx H1=>ML K T x H1/\r x [] H1 Q:=rfl
def oV(J:It)(g:TG)(tb:TS)(D:Ends)(σ:St)(H1:Hp):Prop:=∃W:Nat->Nat->St->Hp->Prop,(∃m,W 0 m σ H1)/\∀i m σ H,W i m σ H →
 (J.stop i H/\D.nx σ H)\/(J.go i H/\∃N:St->Hp->Prop,(∀σ' H',N σ' H'->∃m',m'<m/\W (i+1) m' σ' H')/\∀x H',J.yld i H x H'->g x σ H' λσ2 H2=>tb { D with nx:=N,ct:=N,bk:=D.nx } σ2 H2)
def De{ta:TA}{g:TG}{tb:TS}:pJ (B4 ta) g tb D σ H=ta σ H λvs H1=>∃j:Int,vs=[.int j]/\-(2 ^ 62)<=j/\j<2 ^ 62/\oV (DP 0 j.toNat) g tb D σ H1:=rfl
def Dd{ta:TA}{g:TG}{tb:TS}:pJ (B3 ta) g tb D σ H=ta σ H λvs H1=>∃i j:Int,vs=[.int i,.int j]/\(-(2 ^ 62)<=i/\i<2 ^ 62/\-(2 ^ 62)<=j/\j<2 ^ 62)/\oV (DP i (j-i).toNat) g tb D σ H1:=rfl
def Da{K:Wb}{tl:TE}{g:TG}{tb:TS}:pJ (B5 K tl) g tb D σ H=tl σ H λx H1=>∃a,x=.ref a/\(∃xs,c6 K H1 a xs)/\oV (Gf K a) g tb D σ H1:=rfl
def D8{K:Wb}{tl:TE}{g:TG}{tb:TS}:pJ (Ic K tl) g tb D σ H=tl σ H λx H1=>∃a,x=.ref a/\(∃xs,de K H1 a xs)/\oV (Nj K a) g tb D σ H1:=rfl
def D6{K:Wb}{n:Nat}{t:DO}{v:V}{q:St->Hp->Prop}:Ll K n t v σ H q=∃a xs,v=.ref a/\de K H a xs/\xs.length=n/\t xs σ H q:=rfl
def Jq{q:St->Hp->Prop}:Ln [] σ H q=q σ H:=propext ⟨λh=>h.2,λh=>⟨rfl,h⟩⟩
def Gq{t:TG}{u:DO}{v:V}{r:List V}{q:St->Hp->Prop}:GA t u (v::r) σ H q=t v σ H λσ' H'=>u r σ' H' q:=propext ⟨λ⟨_,_,e,h⟩=>by cases e;exact h,λh=>⟨v,r,rfl,h⟩⟩
def wb{r r' r2:R2}{ta tb tc td:TE}:rj r r' r2 ta tb tc td σ H Q=ta σ H λx H1=>tb σ H1 λy H2=>r x y H2 λz H3=>∃k,z=.bl k ∧
 (if k=true then tc σ H3 λw' H4=>r' y w' H4 λz2 H5=>∃k2,z2=.bl k2/\(if k2=true then td σ H5 λe H6=>r2 w' e H6 Q else Q (.bl false) H5) else Q (.bl false) H3):=rfl
def Ai{r r':R2}{ta tb tc:TE}:sP r r' ta tb tc σ H Q=ta σ H λx H1=>tb σ H1 λy H2=>r x y H2 λz H3=>∃k,z=.bl k ∧
 (if k=true then tc σ H3 λw' H4=>r' y w' H4 Q else Q (.bl false) H3):=rfl
end
def rg{P:List Value->Prop}(h:∀a:Value,P [a]):∀us:List Value,us.length=1->P us
 | [a],_=>h a
def OO{P:List Value->Prop}{n:Nat}(h:∀(a:Value) (r:List Value),r.length=n->P (a::r)):∀us:List Value,us.length=n+1->P us
 | a::r,e=>h a r (Nat.succ.inj e)
def yq{P:List Value->Prop}(h:∀a b:Value,P [a,b]):∀us:List Value,us.length=2->P us:=OO λa=>rg λb=>h a b
def KJ{P:List Value->Prop}(h:∀a b c:Value,P [a,b,c]):∀us:List Value,us.length=3->P us:=OO λa=>yq λb c=>h a b c
def OP{P:List Value->Prop}(h:∀a b c d:Value,P [a,b,c,d]):∀us:List Value,us.length=4->P us:=OO λa=>KJ λb c d=>h a b c d
section
variable {X:Cx} {pins:List (Addr×Obj)} {σ:St} {H:Hp} {s:Shared} {h':Heap}
def bX.turnNew{fp:List Addr}{p:Addr}{o:HO}{t':Nat}(I:bX X pins σ H s)(hf:∀b∈fp,oU X pins H b)(k:∀b u,b∉fp->s.heap.get? b=some u->h'.get? b=some u)(hp:s.heap.objs.size<=p)
  (new:cw X.prog X.w (bP H p o) h' p o):bX X pins σ (bP H p o) { s with heap:=h',toks:=t' }:=by
 have hn:H p=none:=I.hok.fresh hp;have nfp:∀b u,H b=some u->b∉fp:=λb u e z=>by rw[(hf b z).1] at e;cases e
 refine I.step (g':=s.gens) (d':=s.drawn) (ch:=fp) (λb hb=>?_) (λb u _ _ hc e _=>k b u hc e) (λb u _ _ hc e _=>⟨u.slots,k b u hc e⟩)
  (λb u _ e n=>by rw[aS (aV (aT (aN e) hp))];exact n) (λb u hc e=>⟨u,k b u hc e⟩) (λb xs e=>by rw[aS (bD e hn)];exact e)
  (λb u xs e=>by rw[aS (bD e hn)];exact e) (λb ps e=>⟨#[],by rw[aS (bD e hn),e];simp⟩) (λm hm=>?_) (λb u e=>?_) I.bare
 ·obtain⟨_,f1,_,f3,f4,f5⟩:=hf b hb;exact⟨f3,f1,f4,f5⟩
 ·obtain⟨ob,es,ep,ho,r⟩:=hm;exact⟨ob,es,ep,k _ ob (λz=>(hf _ z).2.1 rfl) ho,r⟩
 ·by_cases hb:b=p
  ·subst hb;rw[aD] at e;cases e;exact new
  ·rw[aS hb] at e;refine(I.hok b u e).stay (λc v hc q=>k c v ?_ q) (λc q=>by rw[aS (bD q hn)];exact q) λc xs q=>by rw[aS (bD q hn)];exact q
   rcases hc with z | z
   ·rw[z];exact nfp b u e
   ·exact nfp c _ z
end
def MU(x:Str):It:=⟨λi _=>i<x.cps.size,λi H v H'=>H'=H/\∃c,x.cps[i]? = some c/\v=.str ⟨#[c]⟩,λi _=>x.cps.size<=i⟩
def Ds {P : Program} {w : World} {K : Wb} {tg : Expr} (it : Addr) (x : Str) (t : Tok) : Turn P w K tg (MU x) [it] it (fun i h => h.IsStrIter it "str_ascii_iterator" x t i) where
  mem := by simp
  obj := fun i h st b hb => by
    have e : b = it := by simpa using hb
    subst e
    obtain ⟨o, e, c, d⟩ := st
    exact ⟨o, e, fun v z => by rw [d] at z; cases z⟩
  keep := fun i h h' st k => by
    obtain ⟨o, e, r⟩ := st
    exact ⟨o, k it (by simp) o e, r⟩
  item := by
    intro X hP hw hK hc i pins s σ H E I hf st hg
    subst hP hw hK
    obtain ⟨f0, f1, f2, f3, f4, f5⟩ := hf it (by simp)
    have hx : x.cps[i]? = some x.cps[i] := fF hg
    refine wpAny_pyNext_ascii_item st hx fun h' st' sb => ?_
    have I1 : bX X pins σ H { s with heap := h', toks := s.toks + 1 } := I.turned (t' := s.toks + 1) (fun b o hb e => (sb.2 b hb).trans e) f0 f1 f3 f4 f5
    obtain ⟨o, e, c, d⟩ := id st'
    exact ⟨_, rfl, ux (s := { s with heap := h', toks := s.toks + 1 }) e c d (by decide) ⟨.str ⟨#[x.cps[i]]⟩, H, I1, ⟨_, rfl⟩, ⟨rfl, _, hx, rfl⟩, st', fun b hb => (hf b hb).1⟩⟩
  done := by
    intro X hP hw hK hc i pins s σ H E I hf st hg
    subst hP hw hK
    obtain ⟨f0, f1, f2, f3, f4, f5⟩ := hf it (by simp)
    exact wpAny_pyNext_ascii_end (I.ok.hd hc) st (nN hg) fun h' eb => ⟨rfl, I.turned (t' := s.toks) (fun b o hb e => eb b o hb e) f0 f1 f3 f4 f5⟩
  self := fun _ _ _ _ _ st h => wpAny_pyIter_striter_ascii st h
def Ie(tl:TE):TI:=λσ H R=>tl σ H λx H1=>∃z,x=.str z/\z.cps.all (·<128)=true/\R (MU z) H1
def LB{X:Cx}{tg l:Expr}{tl:TE}(hl:PE X l tl):PI X tg l (Ie tl):=by
 intro pins s σ H R I h;refine dJ (hl pins s σ H _ I h) λv s1 ⟨x,H1,I1,r1,z,e,ha,q⟩=>?_;subst e;obtain⟨t,rfl⟩:=r1;refine wpAny_pyIter_ascii ha ?_;exact⟨s1.heap.objs.size,[s1.heap.objs.size],_,_,H1,rfl,I1.kept (t':=s1.toks) λb o e=>aA _ e,Ds _ z t,⟨_,aL _ rfl,rfl,rfl⟩,
  λb hb=>by
   have e:b=s1.heap.objs.size:=by simpa using hb
   subst e;exact I1.fpOk (aI _) (I1.hok.fresh (aI _)),q⟩
def OL(x:Str):It:=⟨λi _=>i<x.cps.size,λi H v H'=>∃p c,H p=none/\x.cps[i]? = some c/\v=.ref p/\H'=bP H p (.tup [.int i,.str ⟨#[c]⟩]),λi _=>i=x.cps.size⟩
def Bu {P : Program} {w : World} {K : Wb} {elts : List Expr} {x1 : Nat} {pos : Pos} (e it : Addr) (hne : e ≠ it) (x : Str) (t : Tok) :
    Turn P w K (.Tuple elts x1 pos) (OL x) [e, it] e (fun i h => (∃ old, IsEnum h e it i old) ∧ h.IsStrIter it "str_ascii_iterator" x t i) where
  mem := by simp
  obj := fun i h st b hb => by
    obtain ⟨⟨old, he⟩, o, ei, c, d⟩ := st
    rcases aF.mp hb with z | z
    · subst z; exact ⟨_, he, fun v z => by cases z⟩
    · have z' : b = it := by simpa using z
      subst z'
      exact ⟨o, ei, fun v z => by rw [d] at z; cases z⟩
  keep := fun i h h' st k => by
    obtain ⟨⟨old, he⟩, o, ei, r⟩ := st
    exact ⟨⟨old, k e (by simp) _ he⟩, o, k it (by simp) o ei, r⟩
  item := by
    intro X hP hw hK hc i pins s σ H E I hf st hg
    subst hP hw hK
    obtain ⟨⟨old, he⟩, hst⟩ := st
    have D : Draws X.prog X.w X.A.in1 it [it] x.cps.size _ _ := oX (show X.A.in1.handled = none from I.ok.hd hc) it x t
    refine wpAny_pyNext_enum_itemD D he hst hg hne (by simpa using hne) fun v h' tk hv ho st' ht hsz kp => ?_
    obtain ⟨c, u, hx, rfl⟩ := hv
    refine ⟨_, rfl, wpAny_letOwnedTupleGo_enum ho fun h2 he2 hs2 => ?_⟩
    have het : s.heap.objs.size ≠ e := iD (aN he)
    have ht2 : h2.get? s.heap.objs.size = some { cls := .type "tuple", data := .seq #[.int i tk, .str ⟨#[c]⟩ u] } := (hs2.2 _ het).trans ht
    have hn : H s.heap.objs.size = none := I.hok.fresh (aI _)
    refine ⟨.ref s.heap.objs.size, bP H s.heap.objs.size (.tup [.int i, .str ⟨#[c]⟩]), I.turnNew (fp := [e, it]) hf (fun b o hb q => ?_) (aI _) (show cw X.prog X.w _ h2 _ (.tup _) from ⟨(by show 2 ≤ sizeLine; decide), [.int i tk, .str ⟨#[c]⟩ u], .cons ⟨_, rfl⟩ (.cons ⟨_, rfl⟩ .nil), _, ht2, rfl, _, rfl⟩), rfl, ⟨_, c, hn, hx, rfl, rfl⟩, ⟨⟨_, by exact_mod_cast he2⟩, ?_⟩, fun b hb => ?_⟩
    · have n1 : b ≠ e := fun z => hb (by simp [z])
      have n2 : b ≠ it := fun z => hb (by simp [z])
      exact (hs2.2 b n1).trans (kp b o n1 n2 q)
    · obtain ⟨o, ei, r⟩ := st'
      exact ⟨o, (hs2.2 it hne.symm).trans ei, r⟩
    · have hb' := (hf b hb).1
      rw [aS (fun z => ?_)]
      · exact hb'
      · obtain ⟨o, q, _⟩ := hst
        rcases aF.mp hb with y | y
        · exact het (z.symm.trans y)
        · have y' : b = it := by simpa using y
          exact absurd (y'.symm.trans z) (aV (aN q))
  done := by
    intro X hP hw hK hc i pins s σ H E I hf st hg
    subst hP hw hK
    obtain ⟨⟨old, he⟩, hst⟩ := st
    have hg' : i = x.cps.size := hg
    subst hg'
    obtain ⟨f0, f1, f2, f3, f4, f5⟩ := hf it (by simp)
    have D : Draws X.prog X.w X.A.in1 it [it] x.cps.size _ _ := oX (show X.A.in1.handled = none from I.ok.hd hc) it x t
    exact wpAny_pyNext_enum_endD D he hst fun h' eb => ⟨rfl, I.turned (t' := s.toks) (fun b o hb q => eb b o hb q) f0 f1 f3 f4 f5⟩
  self := fun _ _ _ _ _ st h => by
    obtain ⟨⟨old, he⟩, _⟩ := st
    exact wpAny_pyIter_enum he h
def Fw(ta:TA):TI:=λσ H R=>ta σ H λvs H1=>∃z,vs=[.str z]/\z.cps.all (·<128)=true/\R (OL z) H1
def Ho {X:Cx} {a:Expr} {ta:TA} {elts:List Expr} {x1:Nat} {p pos tpos:Pos} (hg:Gl X "enumerate") (hm:X.mg "enumerate"=none) (ha:PA X [a] ta) (hs:starEach [a] X.env=[(false,eval a X.env)]:=by rfl) :
  PI X (.Tuple elts x1 tpos) (.Call (.Name "enumerate" p) [a] [] pos) (Fw ta):=by
 intro pins s σ H R I h;refine Call_ (jm I hg hm boot_enumerate (bW (dJ (ha pos pins s σ H _ I h) λus s1 ⟨vs,H1,I1,r1,z,e,hz,q⟩=>?_) hs rfl));subst e;obtain⟨u,rfl,t,rfl⟩:=WI r1;refine call_enumerate_str λh' he hit hsz kp=>?_;have ht:strIterType z="str_ascii_iterator":=by unfold strIterType;rw[W5 hz]
 rw[ht] at hit;refine wpAny_pyIter_enum he ?_;have I2:bX X pins σ H1 { s1 with heap:=h' }:=I1.kept (t':=s1.toks) kp;exact⟨s1.heap.objs.size+1,[s1.heap.objs.size+1,s1.heap.objs.size],_,_,H1,rfl,I2,Bu _ _ (Nat.succ_ne_self _) z t,⟨⟨_,he⟩,hit⟩,
  λb hb=>by
   have hle:s1.heap.objs.size<=b:=by
    rcases aF.mp hb with y | y
    ·rw[y];exact eS _
    ·have y':b=s1.heap.objs.size:=by simpa using y
     exact qu y'.symm
   exact I1.fpOk hle (I1.hok.fresh hle),q⟩
section
variable {σ:St} {H:Hp} {D:Ends}
def D9{tl:TE}{g:TG}{tb:TS}:pJ (Ie tl) g tb D σ H=tl σ H λx H1=>∃z,x=.str z/\z.cps.all (·<128)=true/\oV (MU z) g tb D σ H1:=rfl
def Dc{ta:TA}{g:TG}{tb:TS}:pJ (Fw ta) g tb D σ H=ta σ H λvs H1=>∃z,vs=[.str z]/\z.cps.all (·<128)=true/\oV (OL z) g tb D σ H1:=rfl
def Mc{a:Str}{q:Str->Prop}:(∃b,V.str a=.str b/\q b)=q a:=propext ⟨λ⟨_,e,h⟩=>by cases e;exact h,λh=>⟨a,rfl,h⟩⟩
def Ba{x:Str}{g:TG}{tb:TS}(Pv:Nat->St->Hp->Prop)(h0:Pv 0 σ H)
  (hs:∀i c σ H,x.cps[i]? = some c->Pv i σ H->g (.str ⟨#[c]⟩) σ H λσ2 H2=>tb { D with nx:=Pv (i+1),ct:=Pv (i+1),bk:=D.nx } σ2 H2) (hd:∀σ H,Pv x.cps.size σ H->D.nx σ H):oV (MU x) g tb D σ H:=by
 refine⟨λi m σ H=>m+i=x.cps.size/\Pv i σ H,⟨x.cps.size,rfl,h0⟩,?_⟩;rintro i m σ H ⟨hm,hp⟩;by_cases hi:i<x.cps.size
 ·refine .inr ⟨hi,Pv (i+1),λσ' H' h=>⟨m - 1,by lia,by lia,h⟩,?_⟩;rintro v H' ⟨rfl,c,hc,rfl⟩;exact hs i c σ H' hc hp
 ·have e:i=x.cps.size:=by lia
  subst e;exact .inl ⟨aI _,hd σ H hp⟩
def tm{x:Str}{g:TG}{tb:TS}(Pv:Nat->St->Hp->Prop)(h0:Pv 0 σ H)
  (hs:∀i c σ H p,x.cps[i]? = some c->Pv i σ H->H p=none->g (.ref p) σ (bP H p (.tup [.int i,.str ⟨#[c]⟩])) λσ2 H2=>tb { D with nx:=Pv (i+1),ct:=Pv (i+1),bk:=D.nx } σ2 H2) (hd:∀σ H,Pv x.cps.size σ H->D.nx σ H):oV (OL x) g tb D σ H:=by
 refine⟨λi m σ H=>m+i=x.cps.size/\Pv i σ H,⟨x.cps.size,rfl,h0⟩,?_⟩;rintro i m σ H ⟨hm,hp⟩;by_cases hi:i<x.cps.size
 ·refine .inr ⟨hi,Pv (i+1),λσ' H' h=>⟨m - 1,by lia,by lia,h⟩,?_⟩;rintro v H' ⟨p,c,hn,hc,rfl,rfl⟩;exact hs i c σ H p hc hp hn
 ·have e:i=x.cps.size:=by lia
  subst e;exact .inl ⟨rfl,hd σ H hp⟩
end
def mL:∀{ns:List Int} {us:List Value},cH (ns.map V.int) us->IntsAre us ns
 | [],_,.nil=>.nil
 | n::ns,_,.cons ⟨t,e⟩ r=>by subst e;exact .cons n t (mL r)
def sG:∀{bs:List Bool} {us:List Value},cH (bs.map V.bl) us->LSm.BoolsAre us bs
 | [],_,.nil=>.nil
 | b::bs,_,.cons r t=>by
  have e:_=Value.bool b:=r;subst e;exact .cons b (sG t)
def u9:∀{ts:List Str} {us:List Value},cH (ts.map V.str) us->∃l:List (Str×Tok),us=strValues l/\l.map (·.1)=ts
 | [],_,.nil=>⟨[],rfl,rfl⟩
 | t::ts,_,.cons ⟨k,e⟩ r=>by
  subst e;obtain⟨l,e1,e2⟩:=u9 r;exact⟨(t,k)::l,by rw[e1];rfl,by rw[aZ,e2]⟩
section
variable {X:Cx}
def Kh(K:Wb):List V->Hp->VK->Prop:=λxs H Q=>∃(p:Addr) (ns:List Int),xs=[.ref p]/\c6 K H p (ns.map V.int)/\ns.length<64 ∧
 ∀(l:Addr) (ms:List Int),H l=none->ms.Perm ns->ms.Pairwise (·<=·)->Q (.ref l) (bP H l (.lst (ms.map V.int)))
def mO:fN X (.builtin "sorted") (Kh X.K):=by
 intro pins s σ H xs us Q I r h;obtain⟨p,ns,rfl,hq,hl,q⟩:=h;obtain⟨u,rfl,rx⟩:=WI r;cases rx;obtain⟨its,rv,pl,hz⟩:=I.list hq;have hi:=mL rv;have hlen:its.length=ns.length:=by have:=rv.length;simpa using this.symm
 refine sorted_ints pl.isList hi (by lia) λout ms hm hp hs=>?_;obtain⟨c,hc⟩:=sortedAll_at s.heap its out;have hml:ms.length=ns.length:=hp.length_eq;exact⟨.ref (s.heap.objs.size+1),bP H (s.heap.objs.size+1) (.lst (ms.map V.int)),I.laid (t':=s.toks) (λb o e=>sortedAll_old e) (eS _)
  (show cw X.prog X.w _ _ _ (.lst _) from ⟨by rw[aG,hml];exact ba (cB (by lia)),out.toList,c,o7 hm,by simpa using hc⟩),rfl,q _ ms (I.hok.fresh (eS _)) hp hs⟩
def O5(K:Wb)(f:List Bool->Bool):List V->Hp->VK->Prop:=λxs H Q=>∃(p:Addr) (bs:List Bool),xs=[.ref p]/\c6 K H p (bs.map V.bl)/\Q (.bl (f bs)) H
def AA{s:Shared}{h':Heap}{o:Obj}(hk:∀b x,b∉[s.heap.objs.size]->(s.heap.push o).get? b=some x->h'.get? b=some x):∀b x,s.heap.get? b=some x->h'.get? b=some x:=
 λb x e=>hk b x (λhm=>by rw[bQ.mp hm] at e;exact cS _ (aN e)) (aA _ e)
def ye (hc:X.calm=true):fN X (.builtin "all") (O5 X.K λbs=>bs.all id):=by
 intro pins s σ H xs us Q I r h;obtain⟨p,bs,rfl,hq,q⟩:=h;obtain⟨u,rfl,rx⟩:=WI r;cases rx;obtain⟨its,rv,pl,hz⟩:=I.list hq;have hb:=sG rv;have hl:=pl.isList;have hlt:p<s.heap.objs.size:=by obtain⟨_,e,_⟩:=hl;exact aN e
 refine call_all_walk (wpAny_pyIter_list hl ?_);refine⟨s.heap.objs.size,[s.heap.objs.size,p],[s.heap.objs.size],its.toArray.size,_,_,λi=>(bs[i]?).getD true,rfl,Walks.list (A:=X.A.in1) (I.ok.hd hc) _ p (aV hlt) its.toArray,
  ⟨⟨_,aL _ rfl,rfl,rfl⟩,hl.push _⟩,λi v s' Q' E' hP hQ=>?_,λh' tk hk=>?_⟩
 ·obtain⟨b,e,rfl⟩:=hb.get i v (by simpa using hP);simp only[e,mS] at hQ;exact Vy hQ
 ·have e1:its.toArray.size=bs.length:=by have:=rv.length;simp at this;simp[this]
  rw[e1,LSm.range_all];exact⟨.bl _,H,I.kept (AA hk),rfl,q⟩
def rJoin(K:Wb):V->List V->Hp->VK->Prop:=λx vs H Q=>∃(z:Str) (p:Addr) (ts:List Str),x=.str z/\vs=[.ref p]/\c6 K H p (ts.map V.str)/\JoinOk z ts=true/\Q (.str (Txt.join z ts)) H
def wC:Ng X "str.join" (rJoin X.K):=by
 intro pins s σ H x xs v us Q I r rv h;obtain⟨z,p,ts,rfl,rfl,hq,ok,q⟩:=h;obtain⟨t,rfl⟩:=r;obtain⟨u,rfl,rx⟩:=WI rv;cases rx;obtain⟨its,rv',pl,hz⟩:=I.list hq;obtain⟨l,rfl,e⟩:=u9 rv';exact SC.join pl.isList e ok λt' k=>⟨.str _,H,I.tok k,⟨t',rfl⟩,q⟩
end
mutual
inductive Dat (H:Hp):V->PyData->Prop
 | non:Dat H .non .none
 | bl (b:Bool):Dat H (.bl b) (.bool b)
 | int (i:Int):Dat H (.int i) (.int i)
 | str (x:Str):Dat H (.str x) (.str x)
 | tup {a:Addr} {xs:List V} {ds:List PyData}:H a=some (.tup xs)->gI H xs ds->Dat H (.ref a) (.tuple ds)
 | lst {a:Addr} {xs:List V} {ds:List PyData}:H a=some (.lst xs)->gI H xs ds->Dat H (.ref a) (.list ds)
inductive gI (H:Hp):List V->List PyData->Prop
 | nil:gI H [] []
 | cons {x:V} {xs:List V} {d:PyData} {ds:List PyData}:Dat H x d->gI H xs ds->gI H (x::xs) (d::ds)
end
mutual
def Dat.rep{K:Wb}{H:Hp}:∀{x:V} {d:PyData},Dat H x d->Rep K H x d
 | _,_,.non=>.non
 | _,_,.bl b=>.bl b
 | _,_,.int i=>.int i
 | _,_,.str x=>.str x
 | _,_,.tup h r=>.tup (de.of h) (gI.rep r)
 | _,_,.lst h r=>.lst (c6.of h) (gI.rep r)
def gI.rep{K:Wb}{H:Hp}:∀{xs:List V} {ds:List PyData},gI H xs ds->qJ K H xs ds
 | _,_,.nil=>.nil
 | _,_,.cons h r=>.cons (Dat.rep h) (gI.rep r)
end
mutual
def Dat.same{H H':Hp}(s:aP H H'):∀{x:V} {d:PyData},Dat H x d->Dat H' x d
 | _,_,.non=>.non
 | _,_,.bl b=>.bl b
 | _,_,.int i=>.int i
 | _,_,.str x=>.str x
 | _,_,.tup h r=>.tup (s _ _ h) (gI.same s r)
 | _,_,.lst h r=>.lst (s _ _ h) (gI.same s r)
def gI.same{H H':Hp}(s:aP H H'):∀{xs:List V} {ds:List PyData},gI H xs ds->gI H' xs ds
 | _,_,.nil=>.nil
 | _,_,.cons h r=>.cons (Dat.same s h) (gI.same s r)
end
def gI.len{H:Hp}:∀{xs:List V} {ds:List PyData},gI H xs ds->xs.length=ds.length
 | _,_,.nil=>rfl
 | _,_,.cons _ r=>by simp[gI.len r]
def gI.get{H:Hp}:∀{xs:List V} {ds:List PyData} {i:Nat} {x:V},gI H xs ds->xs[i]? = some x->∃d,ds[i]? = some d/\Dat H x d
 | _,_,_,_,.nil,e=>by simp at e
 | _,_,0,_,.cons h _,e=>by simp at e;subst e;exact⟨_,rfl,h⟩
 | _,_,i+1,x,.cons _ r,e=>by
  obtain⟨d,h1,h2⟩:=gI.get (i:=i) (x:=x) r (by simpa using e);exact⟨d,by simpa using h1,h2⟩
def PR:PyData->Value
 | .none=>.type "NoneType"
 | .bool _=>.type "bool"
 | .int _=>.type "int"
 | .str _=>.type "str"
 | .list _=>.type "list"
 | .tuple _=>.type "tuple"
 | .dict _=>.type "dict"
def Dat.ty{K:Wb}{H:Hp}{x:V}{d:PyData}(h:Dat H x d):qI K H x (PR d):=by
 cases h with
 | non=>exact .non
 | bl b=>exact .bl b
 | int i=>exact .int i
 | str x=>exact .str x
 | tup h _=>exact .tup h
 | lst h _=>exact .lst h
def isI:PyData->Bool | .int _=>true | .bool _=>true | _=>false
def OD:PyData->Bool | .bool _=>true | _=>false
def PB:PyData->Bool | .str _=>true | _=>false
def OC:PyData->Bool | .tuple _=>true | _=>false
def isL:PyData->Bool | .list _=>true | _=>false
section
variable {K:Wb} {H:Hp} {x:V} {d:PyData} {Q:VK}
def I9 (h:Dat H x d) (q:Q (.bl (isI d)) H):CK K [x,.ty "int"] H Q:=⟨x,"int",_,isI d,rfl,h.ty,by cases h<;>rfl,q⟩
def Fo (h:Dat H x d) (q:Q (.bl (OD d)) H):CK K [x,.ty "bool"] H Q:=⟨x,"bool",_,OD d,rfl,h.ty,by cases h<;>rfl,q⟩
def IZ (h:Dat H x d) (q:Q (.bl (PB d)) H):CK K [x,.ty "str"] H Q:=⟨x,"str",_,PB d,rfl,h.ty,by cases h<;>rfl,q⟩
def mK (h:Dat H x d) (q:Q (.bl (OC d)) H):CK K [x,.ty "tuple"] H Q:=⟨x,"tuple",_,OC d,rfl,h.ty,by cases h<;>rfl,q⟩
end
def ints_rep{K:Wb}{H:Hp}:∀(ns:List Int),qJ K H (ns.map V.int) (ns.map PyData.int)
 | []=>.nil
 | n::ns=>.cons (.int n) (ints_rep ns)
def qh:∀ms ns:List Int,PyData.eqvAll (ms.map PyData.int) (ns.map PyData.int)=decide (ms=ns)
 | [],[]=>rfl
 | [],_::_=>by simp[PyData.eqvAll]
 | _::_,[]=>by simp[PyData.eqvAll]
 | p::ps,q::qs=>by
  show (PyData.eqv (.int p) (.int q)&&PyData.eqvAll (ps.map PyData.int) (qs.map PyData.int))=_;rw[qh ps qs];by_cases h1:p=q<;>by_cases h2:ps=qs<;>simp[PyData.eqv,h1,h2]
def gi:∀ns:List Int,PyData.canLayAll0 (ns.map PyData.int)=true
 | []=>rfl
 | n::ns=>by
  show (PyData.canLay0 (.int n)&&PyData.canLayAll0 (ns.map PyData.int))=true;rw[gi ns];rfl
def mq:∀ns:List Int,PyData.depthAll (ns.map PyData.int)=0
 | []=>rfl
 | n::ns=>by
  show max (PyData.depth (.int n)) (PyData.depthAll (ns.map PyData.int))=0;rw[mq ns];rfl
def GK{K:Wb}{H:Hp}{a b:Addr}{ms ns:List Int}{Q:VK}(ha:c6 K H a (ms.map V.int))(hb:c6 K H b (ns.map V.int))(q:Q (.bl (decide (ms=ns))) H):CL K false (.ref a) (.ref b) H Q:=by
 refine⟨.list (ms.map PyData.int),.list (ns.map PyData.int),.lst ha (ints_rep ms),.lst hb (ints_rep ns),gi ms,gi ns,?_,?_⟩
 ·refine b9 (Nat.min_le_left _ _) ?_;show PyData.depthAll (ms.map PyData.int)+1<=60;rw[mq];decide
 ·show Q (.bl (PyData.eqvAll (ms.map PyData.int) (ns.map PyData.int))) H;rw[qh];exact q
def Fq(n:Int)(ns:List Int):((ns.map PyData.int).any λe=>PyData.eqv e (.int n))=decide (n∈ns):=by
 induction ns with
 | nil=>simp
 | cons m ns ih=>
  rw[aZ,gR,ih];by_cases h1:n=m
  ·subst h1;simp[PyData.eqv]
  ·have h2:¬m=n:=λe=>h1 e.symm;by_cases h3:n∈ns<;>simp[PyData.eqv,h1,h2,h3]
def B0{K:Wb}{H:Hp}{b:Addr}{n:Int}{ns:List Int}{neg:Bool}{Q:VK}(hb:c6 K H b (ns.map V.int)\/de K H b (ns.map V.int))(q:Q (.bl (if neg then !decide (n∈ns) else decide (n∈ns))) H):zR K neg (.int n) (.ref b) H Q:=by
 refine⟨.int n,ns.map PyData.int,b,_,.int n,rfl,hb,ints_rep ns,rfl,gi ns,bU _,?_⟩;rw[Fq];exact q
def nX(env:Env):List (Str×NameKind)->List (Str×Addr)->List (Str×Addr)
 | [],acc=>acc
 | (n,k)::r,acc=>nX env r (if (k==NameKind.free)=true then (n,(env.cells.lookup n).getD 0)::acc else acc)
def uX{scope:Scope}{env:Env}(h:∀x∈scope.names,x.2=.free->∃c,env.cells.lookup x.1=some c):closureFor scope env=pure (nX env scope.names []):=by
 simp only[closureFor];generalize ([]:List (Str×Addr))=acc
 revert h
 generalize scope.names=l;intro h
 induction l generalizing acc with
 | nil=>rfl
 | cons x l ih=>
  obtain⟨n,k⟩:=x;have ih':=λacc=>ih acc λy hy=>h y (aO _ hy);rw[jw];cases hk:(k==NameKind.free) with
  | false=>
   simp only[dh,Wa,pure_bind];rw[show nX env ((n,k)::l) acc=nX env l acc by simp[nX,hk]];exact ih' acc
  | true=>
   obtain⟨c,hc⟩:=h (n,k) ao (by simpa using hk);have e:cellOf env n=pure c:=by unfold cellOf;rw[hc]
   simp only[W9,e,pure_bind];rw[show nX env ((n,k)::l) acc=nX env l ((n,c)::acc) by simp[nX,hk,hc]];exact ih' ((n,c)::acc)
def oO{env:Env}{x:Str}{c:Addr}:∀{l:List (Str×NameKind)} {acc:List (Str×Addr)},(∀y∈l,y.2=.free->∃c,env.cells.lookup y.1=some c)->(nX env l acc).lookup x=some c->acc.lookup x=some c\/env.cells.lookup x=some c
 | [],acc,_,h=>.inl h
 | (n,k)::l,acc,hf,h=>by
  have ih:=oO (l:=l) (acc:=if (k==NameKind.free)=true then (n,(env.cells.lookup n).getD 0)::acc else acc) (λy hy=>hf y (aO _ hy)) h;rcases ih with e | e
  ·cases hk:(k==NameKind.free) with
   | false=>rw[hk] at e;exact .inl (by simpa using e)
   | true=>
    rw[hk] at e;simp only[W9,jW] at e;cases hx:x==n with
    | false=>rw[hx] at e;exact .inl e
    | true=>
     rw[hx] at e;obtain⟨c',hc⟩:=hf (n,k) ao (by simpa using hk);have hxn:x=n:=by simpa using hx
     subst hxn;rw[hc] at e;simp only[mS] at e;exact .inr (hc.trans e)
  ·exact .inr e
def vA{env:Env}{x:Str}:∀{l:List (Str×NameKind)} {acc:List (Str×Addr)},(∃c,acc.lookup x=some c)->∃c,(nX env l acc).lookup x=some c
 | [],acc,h=>h
 | (n,k)::l,acc,h=>by
  refine vA (l:=l) ?_;cases hk:(k==NameKind.free) with
  | false=>simpa using h
  | true=>
   simp only[W9,jW];cases hx:x==n with
   | false=>exact h
   | true=>exact⟨_,rfl⟩
def uB{env:Env}{x:Str}:∀{l:List (Str×NameKind)} {acc:List (Str×Addr)},(x,NameKind.free)∈l->∃c,(nX env l acc).lookup x=some c
 | [],_,h=>nomatch h
 | (n,k)::l,acc,h=>by
  rcases aF.mp h with e | e
  ·cases e;refine vA (l:=l) ?_;simp
  ·exact uB (l:=l) e
def DN(env:Env)(p:Str×NameKind):Str×NameKind:=if (p.2==NameKind.free&&env.scope.kind==.function&&env.kindOf p.1==some .cell) then (p.1,NameKind.cell) else p
def pN(scope:Scope)(env:Env):(relabel scope env).names=scope.names.map (DN env):=by
 show scope.names.map _=_;congr 1
def HI(env:Env)(p:Str×NameKind):(DN env p).1=p.1:=by unfold DN;split<;>rfl
def qC{env:Env}{x:Str}:∀{names:List (Str×NameKind)},(names.map (DN env)).lookup x=(names.lookup x).map λk=>(DN env (x,k)).2
 | []=>rfl
 | (n,q)::r=>by
  rw[aZ];have e:DN env (n,q)=(n,(DN env (n,q)).2):=oP (HI env _) rfl;rw[e,jW,jW];cases hx:x==n with
  | true=>
   have hxn:x=n:=by simpa using hx
   subst hxn;rfl
  | false=>exact qC (names:=r)
def qX{scope:Scope}{env:Env}{x:Str}{k:NameKind}(h:(relabel scope env).names.lookup x=some k):scope.names.lookup x=some k\/(k=.cell/\scope.names.lookup x=some .free):=by
 rw[pN,qC] at h;cases e:scope.names.lookup x with
 | none=>rw[e] at h;cases h
 | some q=>
  rw[e] at h;have h':(DN env (x,q)).2=k:=bI h;unfold DN at h'
  split at h'
  ·rename_i hc;have hq:q=.free:=by
    have:=(cQ _ _).mp ((cQ _ _).mp hc).1;simpa using this.1
   exact .inr ⟨h'.symm,by rw[hq]⟩
  ·exact .inl (by rw[<-h'])
def vd{scope:Scope}{env:Env}{x:Str}(h:scope.names.lookup x=some .free):(relabel scope env).names.lookup x=some .cell\/(relabel scope env).names.lookup x=some .free:=by
 rw[pN,qC,h];show some (DN env (x,.free)).2=_\/some (DN env (x,.free)).2=_;unfold DN
 split
 ·exact .inl rfl
 ·exact .inr rfl
def wK(X:Cx)(N:List Str)(scope:Scope)(C:Addr)(s:Shared)(H:Hp)(fp:List Addr)(pn:List (Addr×Obj)):Cx:=
 { X with N:=N,s₀:=s,H₀:=H,env:=compEnvC scope (nX X.env scope.names []) C X.env,outer:=X.stack,ex:=fp,fn:=λ_=>false,pn:=pn,xe:=λ_ _=>False }
structure qK (scope:Scope) (ns:List Str):Prop where
 kind:scope.kind=.function
 nocell:∀ y∈scope.names,y.2≠.cell
 names:∀ y∈scope.names,y.2=.local->scope.names.lookup y.1=some .local
 frees:∀ y∈scope.names,y.2=.free->y.1∈ns
inductive oY (X:Cx) (scope:Scope):List Str->List Nat->Prop
 | nil:oY X scope [] []
 | cons {x:Str} {i:Nat} {ns:List Str} {is:List Nat}:X.N[i]? = some x->scope.names.lookup x=some .free->(X.env.kindOf x=some .cell\/X.env.kindOf x=some .free)->oY X scope ns is->oY X scope (x::ns) (i::is)
def oY.mem{X:Cx}{scope:Scope}{ns:List Str}{is:List Nat}{x:Str}(c:oY X scope ns is)(h:x∈ns):X.env.kindOf x=some .cell\/X.env.kindOf x=some .free:=by
 induction c with
 | nil=>exact nomatch h
 | cons _ _ k _ ih=>
  rcases aF.mp h with e | e
  ·subst e;exact k
  ·exact ih e
def oY.len{X:Cx}{scope:Scope}{ns:List Str}{is:List Nat}(c:oY X scope ns is):is.length=ns.length:=by
 induction c with
 | nil=>rfl
 | cons _ _ _ _ ih=>simp[ih]
def oY.at_{X:Cx}{scope:Scope}{ns:List Str}{is:List Nat}(c:oY X scope ns is){j:Nat}{x:Str}(h:ns[j]? = some x):
  ∃i,is[j]? = some i/\X.N[i]? = some x/\scope.names.lookup x=some .free/\(X.env.kindOf x=some .cell\/X.env.kindOf x=some .free):=by
 induction c generalizing j with
 | nil=>simp at h
 | cons a b k _ ih=>
  cases j with
  | zero=>simp at h;subst h;exact⟨_,rfl,a,b,k⟩
  | succ j=>exact ih (by simpa using h)
def Co(σ:St)(i:Nat):Option V:=(σ[i]?).join
def jf(k:Nat)(caps:List Nat)(σ:St):St:=List.replicate k none++caps.map λi=>Co σ i
section
variable {X:Cx} {pins:List (Addr×Obj)} {σ:St} {H:Hp} {s s4:Shared}
def AR{own ns:List Str}{caps:List Nat}{scope:Scope}{C:Addr}{fp:List Addr}(I:bX X pins σ H s)(S:qK scope ns)(cp:oY X scope ns caps)(hf:∀b∈fp,oU X pins H b)
  (hfl:∀b∈fp,b<s.heap.objs.size) (hC:s.heap.objs.size<=C) (os:s4.os=s.os) (gens:s4.gens=s.gens) (k:∀b o,s.heap.get? b=some o->s4.heap.get? b=some o) {m:Str->Option Value} (hn:s4.heap.Ns C m) :
  bX (wK X (own++ns) scope C s H fp (X.pn++pins)) [] (jf own.length caps σ) H s4:=by
 have cells:∀x c,(nX X.env scope.names []).lookup x=some c->X.env.cells.lookup x=some c:=λx c e=>by
  rcases oO (λy hy hfr=>I.ok.has y.1 (cp.mem (S.frees y hy hfr))) e with z | z
  ·simp at z
  ·exact z
 have neL:C≠X.env.locals:=iD (aT I.lt hC);have inFs:∀b,b∈lN X.stack->b=X.env.locals\/b∈X.fs:=λb hb=>aF.mp (I.stkSub b hb);have nst:∀b,b≠X.env.locals->b∉X.fs->b∉lN X.stack:=λb h1 h2 z=>(inFs b z).elim h1 h2;have cle:∀x c,X.env.cells.lookup x=some c->c<s.heap.objs.size:=λx c e=>by obtain⟨v,q⟩:=I.cell x c e;exact q.lt
 refine⟨⟨I.ok.mod,S.kind,I.ok.glob,I.ok.blt,hC,λx y c h1 h2=>I.ok.inj x y c (cells _ _ h1) (cells _ _ h2),λx hx=>?_,(λx c h=>nomatch h),I.ok.hd,I.ok.frames,.inl rfl,λb hb=>⟨λz=>?_,λx c e=>(hf b hb).2.2.2.2.1 x c (cells _ _ e)⟩,
   I.bs,b9 I.ok.bsz I.sz,λb o e hb=>?_,λb hb=>nst b (hf b hb).2.1 (hf b hb).2.2.1,I.stack,I.stkFree⟩,
  os,by rw[gens];exact I.bare,Un.kept k,⟨m,hn,λi x v e1 e2 e3=>?_⟩,λx c e=>?_,?_,λx c e=>I.freeC x c (cells _ _ e),λp hp=>?_,I.hok.kept k,?_⟩
 ·have hx':(relabel scope X.env).names.lookup x=some .cell\/(relabel scope X.env).names.lookup x=some .free:=hx;have hfree:scope.names.lookup x=some .free:=by
   rcases hx' with z | z
   ·rcases qX z with q | q
    ·exact absurd rfl (S.nocell _ (cy q))
    ·exact q.2
   ·rcases qX z with q | q
    ·exact q
    ·exact absurd q.1 (by decide)
  exact uB (cy hfree)
 ·exact absurd (aT (hfl b hb) hC) (by rw[show b=C from z];exact cS _)
 ·obtain⟨f0,f1,f2,f3,f4,f5⟩:=hf b hb;rcases f3 with z | z
  ·exact I.ok.noex b o e z
  ·exact absurd (aT (aN e) (b9 I.ok.bsz z)) (cS _)
 ·have e2':(List.replicate own.length none++caps.map λi=>Co σ i)[i]? = some (some v):=e2;have e1':(own++ns)[i]? = some x:=e1;by_cases hi:i<own.length
  ·rw[bT (by simpa using hi),mY,W5 hi] at e2';cases e2'
  ·rw[ai (by simpa using hi),ni,au] at e2';rw[ai (by lia)] at e1';obtain⟨i',h1,h2,h3,h4⟩:=cp.at_ e1';rw[h1] at e2';have e4:(σ[i']?).join=some v:=bI e2';have e5:σ[i']? = some (some v):=by
    cases q:σ[i']? with
    | none=>rw[q] at e4;cases e4
    | some w'=>rw[q] at e4;rw[show w'=some v from e4]
   obtain⟨m',hn',hl'⟩:=I.loc;have vis:MS X.env.scope x:=h4.elim (λz=>.inr (.inl z)) λz=>.inr (.inr z);obtain⟨u,r,l⟩:=hl' i' x v h2 e5 vis;refine⟨u,r,.inr ⟨vd h3,?_⟩⟩;obtain⟨c,hc⟩:=uB (env:=X.env) (acc:=[]) (cy h3);rcases l with ⟨z,_⟩ | ⟨_,c',e6,z⟩
   ·rcases h4 with y | y<;>· rw[y] at z;cases z
   ·have:=cells _ _ hc;rw[e6] at this;cases this;obtain⟨o,ho,hd⟩:=z;exact⟨_,hc,o,k _ _ ho,hd⟩
 ·obtain⟨v,o,ho,hd⟩:=I.cell x c (cells _ _ e);exact⟨v,o,k _ _ ho,hd⟩
 ·exact I.hok.fresh hC
 ·have hp':p∈X.pn++pins:=by simpa [wK] using hp
  obtain⟨a1,a2,a3,a4,a5⟩:=I.pin p hp';exact⟨k _ _ a1,a2,aV (aT (aN a1) hC),nst _ a3 a4,a5⟩
 ·show (jf own.length caps σ).length=(own++ns).length;simp[jf,cp.len]
end
def PF(X:Cx)(ifs:List Expr)(t:TT):Prop:=
 ∀(pins:List (Addr×Obj)) (s:Shared) (σ:St) (H:Hp) (Q:Bool->Hp->Prop),bX X pins σ H s->t σ H Q →
  wpAny (model X.prog X.w) X.A (forIn ifs true λc r=>if r=true then do let ok <-isTrue c X.env (eval c X.env);pure (ForInStep.yield ok) else pure (ForInStep.yield r)) (TP X pins σ Q) X.xe s
def rQ:TT:=λ_ H q=>q true H
def LG{X:Cx}:PF X [] rQ:=λ_ _ _ H _ I h=>WE ⟨H,I,h⟩
def LF{X:Cx}{c:Expr}{t:TT}(h:PT X c t):PF X [c] t:=by
 intro pins s σ H Q I hq;rw[jw];simp only[W9,bind_assoc,pure_bind];refine wpAny_bind (dJ (h pins s σ H Q I hq) λb s1 q=>?_);exact WE q
def kE(J:It)(g:TG)(tf:TT)(te:TE)(Q:VK)(σ:St)(H1:Hp):Prop:=∃W:Nat->Nat->List V->St->Hp->Prop,(∃m,W 0 m [] σ H1)/\∀i m ys σ H,W i m ys σ H →
 (J.stop i H/\ys.length<=sizeLine/\∀p,H p=none->Q (.ref p) (bP H p (.lst ys))) ∨
 (J.go i H/\ys.length<sizeLine/\∀x H',J.yld i H x H'->g x σ H' λσ2 H2=>tf σ2 H2 λb H3=>
  if b=true then te σ2 H3 λy H4=>∃m',m'<m/\W (i+1) m' (ys++[y]) σ2 H4 else ∃m',m'<m/\W (i+1) m' ys σ2 H3)
section
variable {X:Cx} {pins:List (Addr×Obj)} {σ:St} {H:Hp} {s:Shared}
def uV {prog : Program} {w : World} {A : Around} {R : Result → Shared → Prop} {s : Shared} {elt target iter : Expr} {ifs : List Expr} {scope : Scope} {pos : Pos} {it acc : Value} {env : Env} (I : Nat → Shared → Prop)
  (turn : ∀ n s, I n s → wpAny (model prog w) A (pyNext it) (fun r s₁ => match r with
   | none => R (.ok .next) s₁
   | some v => wpAny (model prog w) A (letOwnedTupleGo target it v) (fun _ s₁ => wpAny (model prog w) A (assign target env v) (fun _ s₂ =>
     wpAny (model prog w) A (forIn ifs true fun c r => if r = true then do let ok ← isTrue c env (eval c env); pure (ForInStep.yield ok) else pure (ForInStep.yield r)) (fun ok s₃ =>
      if ok = true then wpAny (model prog w) A (eval elt env) (fun x s₄ =>
       wpAny (model prog w) A (call (.builtin "list.append") [acc, x]) (fun _ s₅ => ∃ m, m < n ∧ I m s₅) (notedBy (model prog w) A env fun e s' => R (.error e) s') s₄) (notedBy (model prog w) A env fun e s' => R (.error e) s') s₃
      else ∃ m, m < n ∧ I m s₃) (notedBy (model prog w) A env fun e s' => R (.error e) s') s₂) (notedBy (model prog w) A env fun e s' => R (.error e) s') s₁) (notedBy (model prog w) A env fun e s' => R (.error e) s') s₁) (notedBy (model prog w) A env fun e s' => R (.error e) s') s)
  (n : Nat) (h : I n s) : codeAny (model prog w) A (.compLoop (.ListComp elt [⟨target, iter, ifs, 0⟩] scope pos) 0 it acc env) R s := by
 refine codeAny_loop rfl I (fun n s hI => ?_) n h
 show wpAny _ A ((compTurn (.ListComp elt [⟨target, iter, ifs, 0⟩] scope pos) 0 it acc env).onRaise (fun x => do noteFrame x env; theTreesLotGoes x)) _ _ s
 refine wpAny_noted ?_
 rw [compTurn_list]
 refine wpAny_bind (WC (wpAny_bind (wpAny_mono (turn n s hI) (fun r s₁ h₁ => ?_) fun _ _ h' => h')))
 cases r with
 | none => exact WE h₁
 | some v =>
  refine wpAny_bind (wpAny_mono h₁ (fun _ s₁ h₁ => ?_) fun _ _ h' => h')
  refine wpAny_bind (wpAny_mono h₁ (fun _ s₂ h₂ => wpAny_bind (wpAny_mono h₂ (fun ok s₃ h₃ => ?_) fun _ _ h' => h')) fun _ _ h' => h')
  cases ok with
  | false => exact WE ⟨rfl, h₃⟩
  | true =>
   exact wpAny_bind (wpAny_bind (wpAny_mono h₃ (fun x s₄ h₄ => wpAny_bind (wpAny_mono h₄ (fun _ s₅ h₅ => WE (WE ⟨rfl, h₅⟩)) fun _ _ h' => h')) fun _ _ h' => h'))
def y9{own ns:List Str}{caps:List Nat}{elt tg iter:Expr}{ifs:List Expr}{scope:Scope}{pos:Pos}{it:Addr}{fp:List Addr}{tn:Nat->Heap->Prop}{J:It}{g:TG}{tf:TT}{te:TE}{Q:VK}{E:Value->Shared->Prop}{RR:Value->Addr->Result->Shared->Prop}
  (hc:X.calm=true) (S:qK scope ns) (cp:oY X scope ns caps)
  (hg:∀C s H fp pn,PG (wK X (own++ns) scope C s H fp pn) tg g) (ht:∀C s H fp pn,PF (wK X (own++ns) scope C s H fp pn) ifs tf) (he:∀C s H fp pn,PE (wK X (own++ns) scope C s H fp pn) elt te)
  (I:bX X pins σ H s) (T:Turn X.prog X.w X.K tg J fp it tn) (st:tn 0 s.heap) (hf:∀b∈fp,oU X pins H b) (hJ:kE J g tf te Q (jf own.length caps σ) H)
  (fin:∀D C m s' H' ys,D≠C->s'.heap.Ns C m->oU X pins (bP H' D (.lst ys)) C->bX X pins σ (bP H' D (.lst ys)) s'->Q (.ref D) (bP H' D (.lst ys))->RR (.ref D) C (.ok .next) s') :
  wpAny (model X.prog X.w) X.A (newList []) (λacc s₃=>wpAny (model X.prog X.w) X.A (newFunctionEnv scope X.env.globals (nX X.env scope.names []) [] X.env.qual none .none (some X.env)) (λcenv s₄=>
   codeAny (model X.prog X.w) X.A (.compStart (.ListComp elt [⟨tg,iter,ifs,0⟩] scope pos) 0 (.ref it) acc { cenv with scope:=relabel scope X.env }) (RR acc cenv.locals) s₄) E s₃) E s:=by
 refine WO (wpAny_newFunctionEnv S.nocell (by intro y hy;simp at hy) (λh₁ hns₁ hsb₁=>?_) S.kind);dsimp only at hns₁ hsb₁ ⊢;generalize hH2:s.heap.push { cls:=.type "list",dict:=none,data:=.seq ([]:List Value).toArray }=H2 at hns₁ hsb₁ ⊢;have hC:H2.objs.size=s.heap.objs.size+1:=by rw[<-hH2,bq]
 have hDC:s.heap.objs.size≠H2.objs.size:=by rw[hC];exact aV (eX _)
 have hCle:s.heap.objs.size<=H2.objs.size:=by rw[hC];exact eS _
 have old:∀b o,s.heap.get? b=some o->h₁.get? b=some o:=λb o e=>hsb₁.extBut b o (by rw[hC];exact aV (bS (aN e))) (aA _ (hH2▸aA _ e));have hacc:h₁.PlainList s.heap.objs.size #[]:=⟨_,hsb₁.extBut _ _ hDC (aA _ (hH2▸aL _ rfl))⟩
 have hfl:∀b∈fp,b<s.heap.objs.size:=λb hb=>by obtain⟨o,e,_⟩:=T.obj _ _ st b hb;exact aN e
 generalize hD:s.heap.objs.size=D at hDC hacc ⊢;generalize hCe:H2.objs.size=C at hns₁ hsb₁ hDC hCle hC ⊢;have hDle:s.heap.objs.size<=D:=by rw[hD];exact aI _
 have hCle':s.heap.objs.size<=C:=by rw[hD];rw[hD] at hCle;exact hCle
 have I₁:bX (wK X (own++ns) scope C s H fp (X.pn++pins)) [] (jf own.length caps σ) H { s with heap:=h₁,toks:=s.toks+([]:List (Str×Value)).length }:=
  AR I S cp hf hfl hCle' rfl rfl old hns₁
 have st₁:tn 0 h₁:=T.keep _ _ _ st λb _ o e=>old b o e;generalize hY:wK X (own++ns) scope C s H fp (X.pn++pins)=Y at I₁;have hgY:PG Y tg g:=hY▸hg C s H fp (X.pn++pins);have htY:PF Y ifs tf:=hY▸ht C s H fp (X.pn++pins);have heY:PE Y elt te:=hY▸he C s H fp (X.pn++pins);have yP:Y.prog=X.prog:=by rw[<-hY];rfl
 have yW:Y.w=X.w:=by rw[<-hY];rfl
 have yK:Y.K=X.K:=by rw[<-hY];rfl
 have yA:Y.A=X.A:=by rw[<-hY];rfl
 have yC:Y.calm=true:=by rw[<-hY];exact hc
 have yE:Y.env=compEnvC scope (nX X.env scope.names []) C X.env:=by rw[<-hY];rfl
 have yX:Y.xe=λ_ _=>False:=by rw[<-hY];rfl
 have yF:Y.fs=lN X.stack:=by rw[<-hY];rfl
 have yQ:Y.pn=X.pn++pins:=by rw[<-hY];rfl
 have yI:Y.ex=fp:=by rw[<-hY];rfl
 have yS:Y.s₀=s:=by rw[<-hY];rfl
 have yH:Y.H₀=H:=by rw[<-hY];rfl
 have cells:∀x c,Y.env.cells.lookup x=some c->X.env.cells.lookup x=some c:=λx c e=>by
  rw[yE] at e;rcases oO (λy hy hfr=>I.ok.has y.1 (cp.mem (S.frees y hy hfr))) (show (nX X.env scope.names []).lookup x=some c from e) with z | z
  ·simp at z
  ·exact z
 have nst:∀b,b≠X.env.locals->b∉X.fs->b∉Y.fs:=λb h1 h2 z=>by
  rw[yF] at z;exact(aF.mp (I.stkSub b z)).elim h1 h2
 have fpY:∀{H':Hp},(∀b∈fp,H' b=none)->∀b∈fp,oU Y [] H' b:=fun {H'} hn b hb=>by
  obtain⟨f0,f1,f2,f3,f4,f5⟩:=hf b hb;refine⟨hn b hb,?_,nst b f1 f2,.inl (by rw[yI];exact hb),λx c e=>f4 x c (cells x c e),λp hp=>f5 p (by simpa [yQ] using hp)⟩;rw[yE];exact aV (aT (hfl b hb) hCle')
 have fpD:∀{H':Hp},H' D=none->oU Y [] H' D:=fun {H'} hn=>by
  obtain⟨f0,f1,f2,f3,f4,f5⟩:=I.fpOk (H':=H') hDle hn;refine⟨hn,by rw[yE];exact hDC,nst D f1 f2,.inr (by rw[yS];exact hDle),λx c e=>f4 x c (cells x c e),λp hp=>f5 p (by simpa [yQ] using hp)⟩
 have hDf:D∉fp:=λz=>cS _ (aT (hfl D z) hDle);have objD:∀{h:Heap} {us:List Value},h.PlainList D us.toArray->∃o,h.get? D=some o/\∀v,o.data≠.cell v:=fun {h us} ⟨n,e⟩=>⟨_,e,λv z=>by cases z⟩
 have noErr:∀{α:Type} {t:Sem α} {Qt:α->Shared->Prop} {sx:Shared} {E':Value->Shared->Prop},wpAny (model Y.prog Y.w) Y.A t Qt Y.xe sx->wpAny (model X.prog X.w) X.A t Qt E' sx:=fun {α t Qt sx E'} h=>by
  rw[yP,yW,yA,yX] at h;exact wpAny_mono h (λ_ _ q=>q) λ_ _ f=>f.elim
 obtain⟨W,⟨m0,w0⟩,turn⟩:=hJ;have TY:Turn Y.prog Y.w Y.K tg J fp it tn:=by rw[yP,yW,yK];exact T
 have loop:∀s₃:Shared,s₃={ s with heap:=h₁,toks:=s.toks+([]:List (Str×Value)).length } →
   codeAny (model X.prog X.w) X.A (.compLoop (.ListComp elt [⟨tg,iter,ifs,0⟩] scope pos) 0 (.ref it) (.ref D) (compEnvC scope (nX X.env scope.names []) C X.env)) (RR (.ref D) C) s₃:=by
  rintro s₃ rfl;refine uV (λn s'=>∃i ys us σ' H',bX Y [] σ' H' s'/\tn i s'.heap/\(∀b∈fp,H' b=none)/\H' D=none/\s'.heap.PlainList D us.toArray/\cH ys us/\W i n ys σ' H') ?_ m0
   ⟨0,[],[],_,H,I₁,st₁,λb hb=>(hf b hb).1,I.hok.fresh hDle,hacc,.nil,w0⟩
  rintro n s3 ⟨i,ys,us,σ3,H3,I3,st3,fr3,hD3,OA,v3,w3⟩;have fD3:∀b∈[D],oU Y [] H3 b:=λb hb=>by
   have e:b=D:=by simpa using hb
   subst e;exact fpD hD3
  have I3':bX Y ([]++l6 [D] s3.heap) σ3 H3 s3:=I3.pinned fD3 λb hb=>by
   have e:b=D:=by simpa using hb
   subst e;exact objD OA
  rw[bA] at I3';have fpY':∀{H':Hp},(∀b∈fp,H' b=none)->∀b∈fp,oU Y (l6 [D] s3.heap) H' b:=fun {H'} hn b hb=>by
   obtain⟨f0,f1,f2,f3,f4,f5⟩:=fpY hn b hb;refine⟨f0,f1,f2,f3,f4,λp hp=>?_⟩;rcases aQ.mp hp with z | z
   ·exact f5 p (by simpa using z)
   ·have e:p.1=D:=by simpa using (uo z).1
    exact λq=>hDf (by rw[<-e,q];exact hb)
  obtain⟨oD,eD,cD⟩:=objD OA;have keepD:∀{σ':St} {H':Hp} {s':Shared} {pl:List (Addr×Obj)},bX Y (l6 [D] s3.heap++pl) σ' H' s'->s'.heap.PlainList D us.toArray/\H' D=none:=fun {σ' H' s' pl} I'=>by
   have:=I'.pin (D,oD) (af _ (bV _ (jS (by simp) eD)));refine⟨?_,this.2.1⟩;obtain⟨k,e⟩:=OA;rw[e] at eD;cases eD;exact⟨k,this.1⟩
  rcases turn i n ys σ3 H3 w3 with ⟨stop,hlen,qn⟩ | ⟨go,hlen,step⟩
  ·refine noErr (dJ (TY.done Y rfl rfl rfl yC i _ s3 σ3 H3 Y.xe I3' (fpY' fr3) st3 stop) λr s4 ⟨hr,I4⟩=>?_);subst hr;obtain⟨pl4,hD4⟩:=keepD (pl:=[]) (by rw[cX];exact I4);have hun:Un (lN X.stack) fp H H3 s.heap s4.heap:=by have:=I4.base;rw[yF,yI,yS,yH] at this;exact this
   have hok:pI X.prog X.w H3 s4.heap:=by have:=I4.hok;rw[yP,yW] at this;exact this
   obtain⟨m4,hn4,_⟩:=I4.loc;rw[yE] at hn4;have hC4:H3 C=none:=by have:=I4.free;rw[yE] at this;exact this
   have ne:∀b u,H3 b=some u->b≠D:=λb u e z=>by rw[z,hD4] at e;cases e
   refine fin D C m4 s4 H3 ys hDC hn4 (I.fpOk hCle' (by rw[aS (bc hDC)];exact hC4)) (I.call' (ch:=fp) ?_ ?_ ?_ I4.bare ?_) (qn D hD4)
   ·have:=I4.os;rw[yS] at this;exact this
   ·exact⟨hun.keep,hun.slot,λb o e n hx=>by rw[aS (λz=>by rw[z] at e;exact absurd (aN e) (Nat.not_lt.mpr hDle))];exact hun.free b o e n hx,hun.there,
     λb xs e=>by have:=hun.tups b xs e;rw[aS (ne _ _ this)];exact this,λb o u e=>by have:=hun.frzs b o u e;rw[aS (ne _ _ this)];exact this,
     λb ps e=>by obtain⟨more,q⟩:=hun.tbls b ps e;exact⟨more,by rw[aS (ne _ _ q)];exact q⟩⟩
   ·intro b u e;by_cases hb:b=D
    ·subst hb;rw[aD] at e;cases e;obtain⟨k,e4⟩:=pl4;exact⟨hlen,us,k,v3,e4⟩
    ·rw[aS hb] at e;exact(hok b u e).stay (λc v _ q=>q) (λc q=>by rw[aS (ne _ _ q)];exact q) λc xs q=>by rw[aS (ne _ _ q)];exact q
   ·intro b hb;obtain⟨f0,f1,f2,f3,f4,f5⟩:=hf b hb;exact⟨f3,f1,f4,f5⟩
  ·refine noErr (dJ (TY.item Y rfl rfl rfl yC i _ s3 σ3 H3 Y.xe I3' (fpY' fr3) st3 go) λr s4 ⟨u,hr,h4⟩=>?_);subst hr;refine noErr (dJ h4 λ_ s5 ⟨x,H5,I5,r5,y5,st5,fr5⟩=>?_);have I5':=I5.pinned (fpY' fr5) (T.obj _ _ st5);rw[<-yE];refine noErr (dJ (hgY _ s5 σ3 H5 x u _ I5' r5 (step x H5 y5)) λ_ s6 ⟨σ6,H6,I6,q6⟩=>?_);refine noErr (dJ (htY _ s6 σ6 H6 _ I6 q6) λok s7 ⟨H7,I7,q7⟩=>?_);have fpK:∀{σ':St} {H':Hp} {s':Shared},bX Y (l6 [D] s3.heap++l6 fp s5.heap) σ' H' s'->tn (i+1) s'.heap/\∀b∈fp,H' b=none:=fun {σ' H' s'} I'=>
    ⟨T.keep _ _ _ st5 λb hb o e=>(I'.pin (b,o) (af _ (af _ (jS hb e)))).1,λb hb=>by
     obtain⟨o,e,_⟩:=T.obj _ _ st5 b hb;exact(I'.pin (b,o) (af _ (af _ (jS hb e)))).2.1⟩
   cases ok with
   | false=>
    rw[W4 aq] at q7 ⊢;obtain⟨m',hm,w7⟩:=q7;obtain⟨pl7,hD7⟩:=keepD I7;obtain⟨st7,fr7⟩:=fpK I7;exact⟨m',hm,i+1,ys,us,σ6,H7,I7.pins_of (λp hp=>nomatch hp),st7,fr7,hD7,pl7,v3,w7⟩
   | true=>
    rw[W5 rfl] at q7 ⊢;refine noErr (dJ (heY _ s7 σ6 H7 _ I7 q7) λy s8 ⟨yv,H8,I8,r8,m',hm,w8⟩=>?_);obtain⟨pl8,hD8⟩:=keepD I8;obtain⟨st8,fr8⟩:=fpK I8;have hul:us.length=ys.length:=v3.length.symm;refine wpAny_list_append_plain (hsz:=by rw[aX,hul];exact ba hlen) pl8 λh9 pl9 sb9=>?_;obtain⟨d0,d1,d2,d3,d4,d5⟩:=fpD hD8;refine⟨m',hm,i+1,ys++[yv],us++[y],σ6,H8,?_,?_,fr8,hD8,by simpa using pl9,v3.append (.cons r8 .nil),w8⟩
    ·exact(I8.pins_of (pins':=[]) λp hp=>nomatch hp).turned (t':=s8.toks) (λb o hb e=>(sb9.2 b hb).trans e) hD8 d1 d3 d4 d5
    ·exact T.keep _ _ _ st8 λb hb o e=>(sb9.2 b (λz=>hDf (z▸hb))).trans e
 exact codeAny_compStart_list (loop _ rfl) (T.self _ 0 _ _ _ st₁ (loop _ rfl))
def pL(k:Nat)(caps:List Nat)(wi:TI)(g:TG)(tf:TT)(te:TE):TE:=λσ H Q=>wi σ H λJ H1=>kE J g tf te Q (jf k caps σ) H1
def oY.cl{scope:Scope}{ns:List Str}{caps:List Nat}(I:bX X pins σ H s)(S:qK scope ns)(cp:oY X scope ns caps):closureFor scope X.env=pure (nX X.env scope.names []):=
 uX λy hy hfr=>I.ok.has y.1 (cp.mem (S.frees y hy hfr))
def Hv{own ns:List Str}{caps:List Nat}{elt tg iter:Expr}{ifs:List Expr}{scope:Scope}{pos:Pos}{wi:TI}{g:TG}{tf:TT}{te:TE}(hc:X.calm=true)(S:qK scope ns)(cp:oY X scope ns caps)(hi:PI X tg iter wi)
  (hg:∀C s H fp pn,PG (wK X (own++ns) scope C s H fp pn) tg g) (ht:∀C s H fp pn,PF (wK X (own++ns) scope C s H fp pn) ifs tf) (he:∀C s H fp pn,PE (wK X (own++ns) scope C s H fp pn) elt te)
  (hs:∀x,foldedSetIterable iter X.env x=pure x:=by intro _;rfl):PE X (.ListComp elt [⟨tg,iter,ifs,0⟩] scope pos) (pL own.length caps wi g tf te):=by
 intro pins s σ H Q I h;rw[eval_ListComp];refine wpAny_comprehension_free (use:=none) rfl hs (cp.cl I S) S.kind S.names (dJ (hi pins s σ H _ I h) λv s1 h1=>dJ h1 λitv s2 h2=>?_);obtain⟨it,fp,tn,J,H2,e,I2,T,st2,f2,hJ⟩:=h2;subst e;refine y9 hc S cp hg ht he I2 T st2 f2 hJ (RR:=λacc C=>compPost (model X.prog X.w) X.A X.xe none (EP X pins σ Q) acc C) λD C m s' H' ys hDC hn fC I' q=>?_;refine⟨m,hn,λh' hs'=>⟨.ref D,_,?_,rfl,q⟩⟩;obtain⟨f0,f1,f2,f3,f4,f5⟩:=fC;exact I'.turned (t':=s'.toks) (λb o hb e=>(hs'.2 b hb).trans e) f0 f1 f3 f4 f5
def Hf{i:Nat}{x:Str}{own ns:List Str}{caps:List Nat}{elt tg iter:Expr}{ifs:List Expr}{scope:Scope}{pos pos' spos:Pos}{wi:TI}{g:TG}{tf:TT}{te:TE}(hN:X.N.Nodup)(hi:X.N[i]? = some x)(hx:Loc X.env.scope x)(hc:X.calm=true)(S:qK scope ns)(cp:oY X scope ns caps)(hit:PI X tg iter wi)
  (hg:∀C s H fp pn,PG (wK X (own++ns) scope C s H fp pn) tg g) (ht:∀C s H fp pn,PF (wK X (own++ns) scope C s H fp pn) ifs tf) (he:∀C s H fp pn,PE (wK X (own++ns) scope C s H fp pn) elt te)
  (hs:∀x,foldedSetIterable iter X.env x=pure x:=by intro _;rfl) (hsw:swapsWith (.ListComp elt [⟨tg,iter,ifs,0⟩] scope pos) (some (.Name x pos')) spos.line X.env=pure true:=by rfl)
  (hf:X.fn x=true\/X.env.scope.names.lookup x=some .local:=by first | exact .inl rfl | exact .inr rfl | assumption) :
  PS X (.Assign [.Name x pos'] (.ListComp elt [⟨tg,iter,ifs,0⟩] scope pos) spos) (zC (pL own.length caps wi g tf te) (nP i)):=by
 intro pins s σ H D I h;rw[exec_Assign_Name_used _ _ _ _ hsw];refine wpAny_bind (WC (wpAny_bind ?_));show wpAny _ X.A (do let _ <-comprehension (.ListComp elt [⟨tg,iter,ifs,0⟩] scope pos) scope X.env _ (newList []) false (eval iter X.env) (some (assign (.Name x pos') X.env))) _ _ s;refine wpAny_bind (wpAny_mono (wpAny_comprehension_free (use:=some (assign (.Name x pos') X.env)) (Q:=λ_ s'=>SP X pins D .next s') rfl hs (cp.cl I S) S.kind S.names
  (dJ (hit pins s σ H _ I h) λv s1 h1=>dJ h1 λitv s2 h2=>?_)) (λ_ s' hq=>WE (WE hq)) λ_ _ e=>e)
 obtain⟨it,fp,tn,J,H2,e,I2,T,st2,f2,hJ⟩:=h2;subst e;refine y9 hc S cp hg ht he I2 T st2 f2 hJ (RR:=λacc C=>compPost (model X.prog X.w) X.A X.xe (some (assign (.Name x pos') X.env)) (λ_ s'=>SP X pins D .next s') acc C) λL C m s' H' ys hDC hn fC I' q=>?_;show wpAny _ X.A (assign (.Name x pos') X.env (.ref L)) _ _ _;refine wpAny_assign_Name (ud I' hN hi hx (v:=.ref L) (u:=.ref L) rfl (λs'' I'' ⟨a,sb,ha⟩=>?_) hf);obtain⟨f0,f1,f2,f3,f4,f5⟩:=fC;have hCa:C≠a:=by
  rcases ha with z | z
  ·rw[z];exact f1
  ·exact λy=>f4 _ _ z y.symm
 exact⟨m,hn.sameBut sb hCa,λh' hs'=>⟨_,_,I''.turned (t':=s''.toks) (λb o hb e=>(hs'.2 b hb).trans e) f0 f1 f3 f4 f5,q⟩⟩
def Af{k:Nat}{caps:List Nat}{K:Wb}{tl:TE}{g:TG}{tf:TT}{te:TE}{Q:VK}:pL k caps (B5 K tl) g tf te σ H Q=tl σ H λx H1=>∃a,x=.ref a/\(∃xs,c6 K H1 a xs)/\kE (Gf K a) g tf te Q (jf k caps σ) H1:=rfl
def Ae{k:Nat}{caps:List Nat}{K:Wb}{tl:TE}{g:TG}{tf:TT}{te:TE}{Q:VK}:pL k caps (Ic K tl) g tf te σ H Q=tl σ H λx H1=>∃a,x=.ref a/\(∃xs,de K H1 a xs)/\kE (Nj K a) g tf te Q (jf k caps σ) H1:=rfl
def Ah{k:Nat}{caps:List Nat}{ta:TA}{g:TG}{tf:TT}{te:TE}{Q:VK}:pL k caps (B4 ta) g tf te σ H Q=ta σ H λvs H1=>∃j:Int,vs=[.int j]/\-(2 ^ 62)<=j/\j<2 ^ 62/\kE (DP 0 j.toNat) g tf te Q (jf k caps σ) H1:=rfl
def Ag{k:Nat}{caps:List Nat}{ta:TA}{g:TG}{tf:TT}{te:TE}{Q:VK}:pL k caps (B3 ta) g tf te σ H Q=ta σ H λvs H1=>∃i j:Int,vs=[.int i,.int j]/\(-(2 ^ 62)<=i/\i<2 ^ 62/\-(2 ^ 62)<=j/\j<2 ^ 62)/\kE (DP i (j-i).toNat) g tf te Q (jf k caps σ) H1:=rfl
def A8{x:Str}{l:List Str}{caps:List Nat}:jf (x::l).length caps σ=none::jf l.length caps σ:=rfl
def A6{i:Nat}{is:List Nat}:jf ([]:List Str).length (i::is) σ=Co σ i::jf ([]:List Str).length is σ:=rfl
def A7:jf ([]:List Str).length [] σ=[]:=rfl
def D5{x:Option V}:Co (x::σ) 0=x:=rfl
def w_getS{x:Option V}{i:Nat}:Co (x::σ) (i+1)=Co σ i:=rfl
def D4{q:Bool->Hp->Prop}:rQ σ H q=q true H:=rfl
end
section
variable {K:Wb} {a:Addr} {xs:List V} {g:TG} {tf:TT} {te:TE} {Q:VK} {σ:St} {H:Hp}
def wM{J:It}(n:Nat)(hsz:n<=sizeLine)(Pv:Nat->List V->St->Hp->Prop)(h0:Pv 0 [] σ H)(hlen:∀i ys σ H,Pv i ys σ H->ys.length<=i)(hgo:∀i ys σ H,i<n->Pv i ys σ H->J.go i H)(hstop:∀ys σ H,Pv n ys σ H->J.stop n H)
  (hs:∀i ys σ H x H' (N:List V->St->Hp->Prop),i<n->Pv i ys σ H->J.yld i H x H'->(∀ys σ H,Pv (i+1) ys σ H->N ys σ H)->g x σ H' λσ2 H2=>tf σ2 H2 λb H3=>if b=true then te σ2 H3 λy H4=>N (ys++[y]) σ2 H4 else N ys σ2 H3)
  (hd:∀ys σ H p,Pv n ys σ H->H p=none->Q (.ref p) (bP H p (.lst ys))):kE J g tf te Q σ H:=by
 refine⟨λi m ys σ H=>m=n-i/\i<=n/\Pv i ys σ H,⟨n,by simp,bU _,h0⟩,?_⟩;rintro i m ys σ H ⟨rfl,hi,p⟩;have hy:=hlen i ys σ H p;by_cases hlt:i<n
 ·refine .inr ⟨hgo i ys σ H hlt p,by lia,λx H' y=>?_⟩;exact hs i ys σ H x H' (λys σ H=>∃m',m'<n-i/\m'=n-(i+1)/\i+1<=n/\Pv (i+1) ys σ H) hlt p y λys σ H z=>⟨n-(i+1),by lia,rfl,hlt,z⟩
 ·have e:i=n:=by lia
  subst e;exact .inl ⟨hstop ys σ H p,by lia,λp' hp=>hd ys σ H p' p hp⟩
def rL(Pv:Nat->List V->St->Hp->Prop)(h0:Pv 0 [] σ H)(hl:∀i ys σ H,Pv i ys σ H->c6 K H a xs/\ys.length<=i)(hsz:xs.length<=sizeLine)
  (hs:∀i x ys σ H (N:List V->St->Hp->Prop),xs[i]? = some x->Pv i ys σ H->(∀ys σ H,Pv (i+1) ys σ H->N ys σ H)->g x σ H λσ2 H2=>tf σ2 H2 λb H3=>if b=true then te σ2 H3 λy H4=>N (ys++[y]) σ2 H4 else N ys σ2 H3)
  (hd:∀ys σ H p,Pv xs.length ys σ H->H p=none->Q (.ref p) (bP H p (.lst ys))):kE (Gf K a) g tf te Q σ H:=by
 refine wM xs.length hsz Pv h0 (λi ys σ H p=>(hl i ys σ H p).2) (λi ys σ H hi p=>⟨xs,xs[i],(hl i ys σ H p).1,by simp[hi]⟩) (λys σ H p=>⟨xs,(hl _ ys σ H p).1,aI _⟩) ?_ hd;rintro i ys σ H x H' N hi p ⟨rfl,y⟩ hN;exact hs i x ys σ H' N (y xs (hl i ys σ _ p).1) p hN
def uA{J:It}(n:Nat)(hsz:n<=sizeLine){rest:St}(xs ys:List V)(hl:ys.length=n)(hgo:∀i,i<n->J.go i H)(hstop:J.stop n H)(hy:∀i x H',i<n->J.yld i H x H'->H'=H/\xs[i]? = some x)
  (hs:∀(i:Nat) (x y:V) (Q':VK),xs[i]? = some x->ys[i]? = some y->Q' y H->te (some x::rest) H Q')
  (q:∀p,H p=none->Q (.ref p) (bP H p (.lst ys))):kE J (nP 0) rQ te Q (none::rest) H:=by
 refine wM n hsz (λi zs σ H'=>H'=H/\zs=ys.take i/\∃x,σ=x::rest) ⟨rfl,by simp,_,rfl⟩ ?_ ?_ ?_ ?_ ?_
 ·rintro i zs σ H' ⟨rfl,rfl,_⟩;rw[cI];lia
 ·rintro i zs σ H' hi ⟨rfl,_,_⟩;exact hgo i hi
 ·rintro zs σ H' ⟨rfl,_,_⟩;exact hstop
 ·rintro i zs σ H1 x H' N hi ⟨rfl,rfl,z,rfl⟩ y hN;obtain⟨rfl,hx⟩:=hy i x H' hi y;show te (some x::rest) H' _;have hyi:ys[i]? = some ys[i]:=aW (by lia);refine hs i x ys[i] _ hx hyi (hN _ _ _ ⟨rfl,?_,_,rfl⟩);rw[cT,hyi];rfl
 ·rintro zs σ H' p ⟨rfl,rfl,_⟩ hp;rw[<-hl,eY];exact q p hp
def rK{rest:St}(hx:c6 K H a xs)(hsz:xs.length<=sizeLine)(ys:List V)(hl:ys.length=xs.length)
  (hs:∀(i:Nat) (x y:V) (Q':VK),xs[i]? = some x->ys[i]? = some y->Q' y H->te (some x::rest) H Q')
  (q:∀p,H p=none->Q (.ref p) (bP H p (.lst ys))):kE (Gf K a) (nP 0) rQ te Q (none::rest) H:=by
 refine uA xs.length hsz xs ys hl (λi hi=>⟨xs,xs[i],hx,by simp[hi]⟩) ⟨xs,hx,aI _⟩ (λi x H' hi y=>⟨y.1,y.2 xs hx⟩) hs q
def Cw{rest:St}(hx:de K H a xs)(hsz:xs.length<=sizeLine)(ys:List V)(hl:ys.length=xs.length)
  (hs:∀(i:Nat) (x y:V) (Q':VK),xs[i]? = some x->ys[i]? = some y->Q' y H->te (some x::rest) H Q')
  (q:∀p,H p=none->Q (.ref p) (bP H p (.lst ys))):kE (Nj K a) (nP 0) rQ te Q (none::rest) H:=
 uA xs.length hsz xs ys hl (λi hi=>⟨xs,xs[i],hx,by simp[hi]⟩) ⟨xs,hx,aI _⟩ (λi x H' hi y=>⟨y.1,y.2 xs hx⟩) hs q
def Cy{lo:Int}{n:Nat}{rest:St}(hsz:n<=sizeLine)(ys:List V)(hl:ys.length=n)
  (hs:∀(i:Nat) y (Q':VK),i<n->ys[i]? = some y->Q' y H->te (some (.int (lo+i))::rest) H Q')
  (q:∀p,H p=none->Q (.ref p) (bP H p (.lst ys))):kE (DP lo n) (nP 0) rQ te Q (none::rest) H:=by
 refine uA n hsz ((List.range n).map λi:Nat=>V.int (lo+i)) ys hl (λi hi=>hi) (aI _) (λi x H' hi y=>⟨y.1,by simp[hi,y.2]⟩) (λi x y Q' hx hy hq=>?_) q;have hi:i<n:=by
  have:=(aK.mp hx).1;simpa using this
 have e:x=.int (lo+i):=by simp[hi] at hx;exact hx.symm
 subst e;exact hs i y Q' hi hy hq
end
def iH{c:Prop} [Decidable c] {A B:Prop} (h:¬c) (b:B):if c then A else B:=by rw[W4 h];exact b
def lw{c:Prop} [Decidable c] {A B:Prop} (h:c) (a:A):if c then A else B:=by rw[W5 h];exact a
section
variable {X:Cx} {K:Wb}
def mJ(h:X.K=K):ME X (HN K):=h▸dH
def fW(h:X.K=K):ME X (Kj K):=h▸fu
def BQ(h:X.K=K)(hu:X.A.units+64<cLine):jt X (compareOp .In) (zR K false):=h▸zd hu
def pw(h:X.K=K)(hu:X.A.units+64<cLine):jt X (compareOp .NotIn) (zR K true):=h▸C5 hu
def DH (h:X.K=K):fN X (.builtin "isinstance") (CK K):=h▸jg
def l9 (h:X.K=K):fN X (.builtin "len") (λxs H Q=>∃p ys,xs=[.ref p]/\(c6 K H p ys\/de K H p ys)/\Q (.int ys.length) H):=h▸cU
def u4 (h:X.K=K):fN X (.type "list") (λxs H Q=>∃p ys,xs=[.ref p]/\(c6 K H p ys\/de K H p ys)/\∀l,H l=none->Q (.ref l) (bP H l (.lst ys))):=h▸qo
end
def AZ (o:Obj) (xs:List Str):Prop:=o.cls=.type "tuple"/\∃its n,o.data=.seq its n/\its.size<=sizeLine/\cH (xs.map V.str) its.toList
def Bx {o:Obj} {xs:List Str} {its:Array Value} {n:Nat} (h1:o.cls=.type "tuple") (h2:o.data=.seq its n) (h3:its.size<=sizeLine) (h4:cH (xs.map V.str) its.toList):AZ o xs:=⟨h1,its,n,h2,h3,h4⟩
def Fz{K:Wb}{h:Heap}{mg:Str->Option Value}{x:Str}{a:Addr}{o:Obj}{xs:List Str}(X:K.In h)(G:h.Ns mainGlobals mg)(y:PySem.W.nsIn K mainGlobals x=some (some (.ref a)))(l:K.lookup a=some o)(t:AZ o xs):
  ∃a,mg x=some (.ref a)/\∀H,de K H a (xs.map V.str):=by
 obtain⟨h1,its,n,h2,h3,h4⟩:=t;exact⟨a,cK X G y,λH=>.inr ⟨o,its,n,l,h1,h2,h3,h4⟩⟩
def yy(K:Wb)(xs:List V):TE:=λ_ H Q=>∀a,(∀H,de K H a xs)->Q (.ref a) H
def FE {X:Cx} {x:Str} {K:Wb} {xs:List V} {pos:Pos} (hg:Gl X x) (hm:∃a,X.mg x=some (.ref a)/\∀H,de K H a xs) (hd:(x==("__debug__":Str))=false:=by decide):PE X (.Name x pos) (yy K xs):=by
 obtain⟨a,h1,h2⟩:=hm;intro pins s σ H Q I h;exact sB (v:=.ref a) hg h1 rfl hd pins s σ H Q I (h a h2)
def Gp{K:Wb}{xs:List V}{σ:St}{H:Hp}{Q:VK}:yy K xs σ H Q=∀a,(∀H,de K H a xs)->Q (.ref a) H:=rfl
def K4(t u:TS):TS:=λD σ H=>∃J:St->Hp->Prop,t { D with nx:=J } σ H/\∀σ' H',J σ' H'->u D σ' H'
def Hd{X:Cx}{st:Stmt}{rest:List Stmt}{t u:TS}(h1:PS X st t)(h2:vJ X rest u):vJ X (st::rest) (K4 t u):=by
 intro pins s σ H D I h;obtain⟨J,h,hJ⟩:=h;refine WA (dJ (h1 pins s σ H { D with nx:=J } I h) λf s1 q=>?_);cases f with
 | next=>
  obtain⟨σ',H',I',q⟩:=q;exact h2 pins s1 σ' H' D I' (hJ _ _ q)
 | ret v=>exact q
 | brk=>exact q
 | cont=>exact q
section
variable {X:Cx} {es:List Expr} {te:TE} {t:TA}
def FQ{a0:PySem.Expr}{a1:PySem.Operator}{a2:PySem.Expr}{a3:PySem.Pos}(ha:PE X (Expr.BinOp a0 a1 a2 a3) te)(hr:PA X es t):PA X ((Expr.BinOp a0 a1 a2 a3)::es) (fD te t):=gz ha hr rfl
def za{a0:PySem.UnaryOp}{a1:PySem.Expr}{a2:PySem.Pos}(ha:PE X (Expr.UnaryOp a0 a1 a2) te)(hr:PA X es t):PA X ((Expr.UnaryOp a0 a1 a2)::es) (fD te t):=gz ha hr rfl
def xZ{a0:PySem.Expr}{a1:List Comprehension}{a2:PySem.Scope}{a3:PySem.Pos}(ha:PE X (Expr.ListComp a0 a1 a2 a3) te)(hr:PA X es t):PA X ((Expr.ListComp a0 a1 a2 a3)::es) (fD te t):=gz ha hr rfl
def zb{a0:PySem.Expr}{a1:List CmpOp}{a2:List Expr}{a3:PySem.Pos}(ha:PE X (Expr.Compare a0 a1 a2 a3) te)(hr:PA X es t):PA X ((Expr.Compare a0 a1 a2 a3)::es) (fD te t):=gz ha hr rfl
def IC{a0:PySem.Expr}{a1:List Expr}{a2:List Keyword}{a3:PySem.Pos}(ha:PE X (Expr.Call a0 a1 a2 a3) te)(hr:PA X es t):PA X ((Expr.Call a0 a1 a2 a3)::es) (fD te t):=gz ha hr rfl
def x9{a0:PySem.Const}{a1:Nat}{a2:PySem.Pos}(ha:PE X (Expr.Constant a0 a1 a2) te)(hr:PA X es t):PA X ((Expr.Constant a0 a1 a2)::es) (fD te t):=gz ha hr rfl
def vk{a0:PySem.Expr}{a1:PySem.Str}{a2:PySem.Pos}(ha:PE X (Expr.Attribute a0 a1 a2) te)(hr:PA X es t):PA X ((Expr.Attribute a0 a1 a2)::es) (fD te t):=gz ha hr rfl
def vj{a0:PySem.Expr}{a1:PySem.Expr}{a2:PySem.Pos}(ha:PE X (Expr.Subscript a0 a1 a2) te)(hr:PA X es t):PA X ((Expr.Subscript a0 a1 a2)::es) (fD te t):=gz ha hr rfl
def Hy{a0:PySem.Str}{a1:PySem.Pos}(ha:PE X (Expr.Name a0 a1) te)(hr:PA X es t):PA X ((Expr.Name a0 a1)::es) (fD te t):=gz ha hr rfl
def Hz{a0:List Expr}{a1:PySem.Pos}(ha:PE X (Expr.List a0 a1) te)(hr:PA X es t):PA X ((Expr.List a0 a1)::es) (fD te t):=gz ha hr rfl
def FP{a0:List Expr}{a1:Nat}{a2:PySem.Pos}(ha:PE X (Expr.Tuple a0 a1 a2) te)(hr:PA X es t):PA X ((Expr.Tuple a0 a1 a2)::es) (fD te t):=gz ha hr rfl
def IB{a0:List (Option Expr)}{a1:List Expr}{a2:PySem.Pos}(ha:PE X (Expr.Dict a0 a1 a2) te)(hr:PA X es t):PA X ((Expr.Dict a0 a1 a2)::es) (fD te t):=gz ha hr rfl
end
def D7{to ti:TE}{t:G4}{v:V}{σ:St}{H:Hp}{q:St->Hp->Prop}:Lm to ti t v σ H q=to σ H λo H1=>ti σ H1 λi H2=>t o i v H2 λH3=>q σ H3:=rfl
def bb{t u:TS}{D:Ends}{σ:St}{H:Hp}(J:St->Hp->Prop)(h1:t { nx:=J,rt:=D.rt,bk:=D.bk,ct:=D.ct } σ H)(h2:∀σ' H',J σ' H'->u D σ' H'):K4 t u D σ H:=⟨J,h1,h2⟩
end L2
namespace Rm
def dl(b:Bool):Int:=if b then 1 else -1
def D(bs:List Bool)(i:Nat):Int:=((bs.take i).map dl).sum
structure Nh (bs:List Bool) (k m:Nat):Prop where
 lt:k<m
 ml:m<bs.length
 op:bs[k]? = some true
 cl:bs[m]? = some false
 eq:D bs (m+1)=D bs k
 gt:∀ i,k<i->i<=m->D bs k<D bs i
end Rm
namespace L2
open PySem PySem.Spec PyProof.Rows
def wV.okS{P:Program}{w:World}{K:Wb}{mg:Str->Option Value}{base:Heap}{x qual:Str}{st:Stmt}{f:Addr}{fd:FuncData}{N ps:List Str}{k:Nat}{sp:Sp}(F:wV K x qual st f fd)(S:bO N ps (a9 st))(len:∀vs H Q E,sp vs H Q E->vs.length=ps.length)
  (hbody:∀(cdv:Value) (A:Around) (outer:List Env) (s:Shared) (H:Hp) (vs:List V) (Q:VK) (E:XK),g0 k (A.deeper (envOfC qual (a9 st) s.heap.objs.size f cdv))->sp vs H Q E →
   ∃(σ:St) (t:TS),start N vs=σ/\vJ (jq yo P w K mg base N qual (a9 st) f cdv A outer s H E).nox (iB st) t/\t { nx:=λ_ H'=>Q .non H',rt:=Q } σ H):oW P w K mg base yo (k+1) f fd ps sp:=
 F.ok S len λcdv A outer s H vs Q E hr h=>by
  obtain⟨σ,t,e,h1,h2⟩:=hbody cdv A outer s H vs Q E hr h;exact⟨t,h1,by rw[e];exact h2⟩
def oJ{A:Around}{k:Nat}(hr:g0 k A):A.units+64<cLine:=hr.units
end L2
namespace Rm
open PySem L2
def PZ(b:Bool):Nat:=if b then 40 else 41
def wd(bs:List Bool):Str:=⟨(bs.map PZ).toArray⟩
abbrev Bw:=Int×Int
def ff(H:Hp)(a:Addr)(p:Bw):Prop:=H a=some (.tup [.int p.1,.int p.2])
def gW(H:Hp)(l:Addr)(ps:List Bw):Prop:=∃as:List Addr,H l=some (.lst (as.map V.ref))/\Paired (ff H) as ps
def ff.same{H H':Hp}(s:aP H H'){a:Addr}{p:Bw}(h:ff H a p):ff H' a p:=s _ _ h
def gW.same{H H':Hp}(s:aP H H'){l:Addr}{ps:List Bw}(h:gW H l ps):gW H' l ps:=
 let ⟨as,h1,h2⟩:=h
 ⟨as,s _ _ h1,ft h2 λ_ _ z=>z.same s⟩
def DI{H:Hp}{l t:Addr}{as:List Addr}{ps:List Bw}{x y:Int}(h1:H l=some (.lst (as.map V.ref)))(h2:Paired (ff H) as ps)(ht:H t=none):
  gW (bP (bP H t (.tup [.int x,.int y])) l (.lst (as.map V.ref++[V.ref t]))) l (ps++[(x,y)]):=by
 have ntl:t≠l:=λe=>by subst e;rw[h1] at ht;cases ht
 refine⟨as++[t],by rw[aD,aR];rfl,rV (ft h2 λa p z=>?_) ?_⟩
 ·have z':H a=some (.tup [.int p.1,.int p.2]):=z;have n1:a≠l:=BS z' h1 (by intro q;cases q);have n2:a≠t:=bD z' ht;show bP _ _ _ a=_;rw[aS n1,aS n2];exact z'
 ·show bP _ _ _ t=_;rw[aS ntl,aD]
def yh{H:Hp}{l f:Addr}{ps:List Bw}{xs ys:List V}(h:gW H f ps)(hl:H l=some (.lst xs))(ne:f≠l):gW (bP H l (.lst ys)) f ps:=by
 obtain⟨as,h1,h2⟩:=h;refine⟨as,by rw[aS ne];exact h1,ft h2 λa p z=>?_⟩;have z':H a=some (.tup [.int p.1,.int p.2]):=z;show bP _ _ _ a=_;rw[aS (BS z' hl (by intro q;cases q))];exact z'
def vD{H:Hp}{l hd:Addr}{as:List Addr}{ps:List Bw}(h2:Paired (ff H) as ps)(hn:H hd=none):gW (bP H hd (.lst (as.map V.ref))) hd ps:=
 ⟨as,aD,ft h2 λa p z=>by
  have z':H a=some (.tup [.int p.1,.int p.2]):=z;show bP _ _ _ a=_;rw[aS (bD z' hn)];exact z'⟩
def gW.get{H:Hp}{l:Addr}{ps:List Bw}(h:gW H l ps):∃as:List Addr,H l=some (.lst (as.map V.ref))/\as.length=ps.length/\∀(i:Nat) x,(as.map V.ref)[i]? = some x->∃a p,x=.ref a/\ps[i]? = some p/\ff H a p:=by
 obtain⟨as,h1,h2⟩:=h;refine⟨as,h1,eQ h2,λi x hx=>?_⟩;rw[au] at hx;cases e:as[i]? with
 | none=>rw[e] at hx;cases hx
 | some a=>
  rw[e] at hx;obtain⟨p,hp,ht⟩:=jQ h2 e;exact⟨a,p,(bI hx).symm,hp,ht⟩
def eB(p q:Bw):Bool:=decide (p.1<q.1)&&(decide (q.1<p.2)&&decide (p.2<q.2))
def nU(ws:List Nat):List V:=ws.map λ(n:Nat)=>V.int (n:Int)
def xp(ws:List Nat):(nU ws).length=ws.length:=by simp[nU]
def rF(ws:List Nat)(k:Nat):nU (ws++[k])=nU ws++[.int k]:=by simp[nU]
def Cc(ws:List Nat)(k:Nat):(nU (ws++[k])).dropLast=nU ws:=by rw[rF];simp
def Cb(ws:List Nat)(k:Nat):(nU (ws++[k]))[(nU (ws++[k])).length - 1]? = some (.int k):=by rw[rF];simp
def sR:Sp:=λvs H Q _=>∃l ps,vs=[.ref l]/\gW H l ps/\((∀p∈ps,∀q∈ps,eB p q=false)->Q .non H) ∧
 ∀p∈ps,∀q∈ps,eB p q=true->∀t a b H',H t=none->aP H H'->H' t=some (.tup [.ref a,.ref b])->ff H' a p->ff H' b q->Q (.ref t) H'
def rm (K:Wb):Sp:=λvs H Q _=>∃(x:V) (t:Value) (b c:Bool),vs=[x]/\qI K H x t/\PySem.W.kitOne K t (.type "int")=some b/\PySem.W.kitOne K t (.type "bool")=some c/\Q (.bl (b&&!c)) H
def wu(K:Wb):Sp:=λvs H Q _=>∃(a:Addr) (ns:List Int),vs=[.ref a]/\c6 K H a (ns.map V.int)/\ns.length<=63/\∀H',Q (.bl true) H'
end Rm
namespace Rm
open PySem PySem.W PyProof.Rows
section
variable {r:Nat->Int} {N:Nat} {cmp:Nat->Nat->(Bool->Shared->Prop)->Shared->Prop} {s:Shared}
def Told(r:Nat->Int)(N:Nat)(cmp:Nat->Nat->(Bool->Shared->Prop)->Shared->Prop)(s:Shared):Prop:=
 ∀i j,i<N->j<N->∀C:Bool->Shared->Prop,C (decide (r i<r j)) s->cmp i j C s
def In(N:Nat)(p:Array Nat):Prop:=p.size=N/\∀i,p.getD i 0<N
def Kk(r:Nat->Int)(p:Array Nat)(i:Nat):Int:=r (p.getD i 0)
def yl(r:Nat->Int)(p:Array Nat)(k:Nat):Prop:=∀i j,i<=j->j<k->Kk r p i<=Kk r p j
def Jj(r:Nat->Int)(p:Array Nat)(k:Nat):Prop:=∀i j,i<=j->j<k->Kk r p j<=Kk r p i
def oR{p q:Array Nat}{i j:Nat}(h:p[i]? = q[j]?):Kk r p i=Kk r q j:=by
 unfold Kk;rw[cM,cM,h]
def wU{p:Array Nat}{i j:Nat}(hj:j<=p.size)(k:Nat):Kk r (kas_rev p i j) k=if i<=k/\k<j then Kk r p (i+j - 1-k) else Kk r p k:=by
 have e:=getElem?_mirror_all (i:=i) hj k;unfold kas_rev;by_cases h1:i<=k/\k<j
 ·rw[W5 h1] at e ⊢;exact oR e
 ·rw[W4 h1] at e ⊢;exact oR e
def vK{p:Array Nat}{src d:Nat}(hs:src<p.size)(hd:d<=src)(k:Nat):Kk r (bubble p src d) k=if k=src-d then Kk r p src else if src-d<k/\k<=src then Kk r p (k - 1) else Kk r p k:=by
 have e:=getElem?_bubble hs d hd k;by_cases h1:k=src-d
 ·rw[W5 h1] at e ⊢;exact oR e
 ·rw[W4 h1] at e ⊢;by_cases h2:src-d<k/\k<=src
  ·rw[W5 h2] at e ⊢;exact oR e
  ·rw[W4 h2] at e ⊢;exact oR e
def In.of_perm{p q:Array Nat}(h:In N p)(hp:q.Perm p):In N q:=by
 refine⟨hp.size_eq.trans h.1,λi=>?_⟩;rw[cM];cases e:q[i]? with
 | none=>
  have:=h.2 N;rw[cM,nN (qu h.1)] at this;exact this
 | some x=>
  have hx:x∈q:=nv e;have hx':x∈p:=hp.mem_iff.mp hx;obtain⟨j,hj,rfl⟩:=Array.mem_iff_getElem.mp hx';have:=h.2 j;rw[cM,fF hj] at this;exact this
def In.rev{p:Array Nat}(h:In N p)(i j:Nat):In N (kas_rev p i j):=h.of_perm (WP _ _ _ _)
def uG(T:Told r N cmp s){G:Nat->Shared->Prop}{p:Array Nat}(hp:In N p):∀(f n:Nat),1<=n->yl r p n->(∀m,n<=m->m<=n+f->yl r p m->(m<n+f->Kk r p m<Kk r p (m - 1))->G m s)->(kas_asc p f n).kasWp cmp G s
 | 0,n,_,ha,hG=>hG n (aI _) (aI _) ha (λh=>absurd h (by lia))
 | f+1,n,h1,ha,hG=>by
  refine T _ _ (hp.2 _) (hp.2 _) _ ?_;by_cases c:Kk r p n<Kk r p (n - 1)
  ·have c':r (p.getD n 0)<r (p.getD (n - 1) 0):=c;rw[W8 c'];exact hG n (aI _) (by lia) ha λ_=>c
  ·have c':¬r (p.getD n 0)<r (p.getD (n - 1) 0):=c;rw[W7 c'];refine uG T hp f (n+1) (by lia) (λi j hij hj=>?_) λm a b c2 d=>hG m (by lia) (by lia) c2 λe=>d (by lia);by_cases e:j=n
   ·subst e;by_cases e2:i=j
    ·subst e2;exact dt _
    ·have:=ha i (j - 1) (by lia) (by lia);lia
   ·exact ha i j hij (by lia)
def Lx(r:Nat->Int)(p:Array Nat)(n q:Nat):Prop:=q<n/\∀k,n-(q+1)<=k->k<n->Kk r p k=Kk r p (n - 1)
def xN{p:Array Nat}{n q:Nat}(hn:n<=p.size)(h:Lx r p n q)(k:Nat):Kk r (kas_rev p (n-(q+1)) n) k=Kk r p k:=by
 rw[wU hn]
 split
 ·rw[h.2 _ (by have:=h.1;lia) (by lia),h.2 k (by lia) (by lia)]
 ·rfl
def Jj.same{p p':Array Nat}{n:Nat}(h:Jj r p n)(e:∀k,Kk r p' k=Kk r p k):Jj r p' n:=λi j a b=>by rw[e,e];exact h i j a b
def rJ(T:Told r N cmp s){G:Array Nat×Nat×Nat->Shared->Prop}:∀(f:Nat) (p:Array Nat) (n q:Nat),In N p->n+f<=N->Jj r p n->Lx r p n q →
  (∀p' n' q',p'.Perm p->n<=n'->n'<=n+f->Jj r p' n'->Lx r p' n' q'->G (p',n',q') s)->(kas_desc f p n q).kasWp cmp G s
 | 0,p,n,q,_,_,hd,ht,hG=>hG p n q (.refl _) (aI _) (aI _) hd ht
 | f+1,p,n,q,hp,hN,hd,ht,hG=>by
  refine T _ _ (hp.2 _) (hp.2 _) _ ?_;by_cases c:Kk r p n<Kk r p (n - 1)
  ·have c':r (p.getD n 0)<r (p.getD (n - 1) 0):=c;rw[W8 c'];have hq:=ht.1;have grow:∀p':Array Nat,p'.Perm p->(∀k,Kk r p' k=Kk r p k)->(kas_desc f p' (n+1) 0).kasWp cmp G s:=λp' hpp e=>by
    refine rJ T f p' (n+1) 0 (hp.of_perm hpp) (by lia) (λi j hij hj=>?_) ⟨by lia,λk h1 h2=>by have e9:k=n:=(by lia);rw[e9];rfl⟩ λp2 n2 q2 a b c2 d e2=>hG p2 n2 q2 (a.trans hpp) (by lia) (by lia) d e2;rw[e,e];by_cases e3:j=n
    ·subst e3;by_cases e4:i=j
     ·subst e4;exact dt _
     ·have:=hd i (j - 1) (by lia) (by lia);lia
    ·exact hd i j hij (by lia)
   show KasT.kasWp cmp (if true=true then (if q > 0 then kas_desc f (kas_rev p (n-(q+1)) n) (n+1) 0 else kas_desc f p (n+1) 0) else _) G s;rw[W5 rfl]
   split
   ·exact grow _ (WP _ _ _ _) (xN (by rw[hp.1];lia) ht)
   ·exact grow p (.refl _) λ_=>rfl
  ·have c':¬r (p.getD n 0)<r (p.getD (n - 1) 0):=c;rw[W7 c'];show KasT.kasWp cmp (if false=true then _ else KasT.ask (p.getD (n - 1) 0) (p.getD n 0) λd=>if d=true then .ret (p,n,q) else kas_desc f p (n+1) (q+1)) G s;rw[W4 (by simp)];refine T _ _ (hp.2 _) (hp.2 _) _ ?_;by_cases d:Kk r p (n - 1)<Kk r p n
   ·have d':r (p.getD (n - 1) 0)<r (p.getD n 0):=d;rw[W8 d'];exact hG p n q (.refl _) (aI _) (by lia) hd ht
   ·have d':¬r (p.getD (n - 1) 0)<r (p.getD n 0):=d;rw[W7 d'];have hq:=ht.1;have eq:Kk r p n=Kk r p (n - 1):=by lia
    refine rJ T f p (n+1) (q+1) hp (by lia) (λi j hij hj=>?_) ⟨by lia,λk h1 h2=>?_⟩ λp2 n2 q2 a b c2 d2 e2=>hG p2 n2 q2 a (by lia) (by lia) d2 e2
    ·by_cases e3:j=n
     ·subst e3;by_cases e4:i=j
      ·subst e4;exact dt _
      ·have:=hd i (j - 1) (by lia) (by lia);lia
     ·exact hd i j hij (by lia)
    ·show Kk r p k=Kk r p n;by_cases e3:k=n
     ·rw[e3]
     ·rw[eq];exact ht.2 k (by lia) (by lia)
def MV(r:Nat->Int)(p:Array Nat)(nrem:Nat)(G:Nat×Array Nat->Shared->Prop)(s:Shared):Prop:=∀n p',p'.Perm p->1<=n->n<=nrem->yl r p' n->G (n,p') s
def sM(T:Told r N cmp s){G:Nat×Array Nat->Shared->Prop}{p:Array Nat}{n:Nat}(hp:In N p)(h1:1<=n)(hn:n<=N)(hd:Jj r p n)(hG:MV r p N G s):(kas_tail3 n N p).kasWp cmp G s:=by
 unfold kas_tail3;rw[KasT.kasWp_bind];refine uG T (hp.rev 0 n) (N-n) n h1 (λi j hij hj=>?_) λm a b c _=>hG m _ (WP _ _ _ _) (by lia) (by lia) c;rw[wU (by rw[hp.1];exact hn),wU (by rw[hp.1];exact hn),W5 (by lia),W5 (by lia)];exact hd _ _ (by lia) (by lia)
def MV.perm{p q:Array Nat}{G:Nat×Array Nat->Shared->Prop}(h:MV r p N G s)(hp:q.Perm p):MV r q N G s:=λn p' a b c d=>h n p' (a.trans hp) b c d
def pU(T:Told r N cmp s){G:Nat×Array Nat->Shared->Prop}{p:Array Nat}{n:Nat}(hp:In N p)(hn:n+1<=N)(h1:1<=n)(hd:Jj r p (n+1))(hG:MV r p N G s):(kas_descPart n N p).kasWp cmp G s:=by
 unfold kas_descPart;rw[KasT.kasWp_bind];refine rJ T _ p (n+1) 0 hp (by lia) hd ⟨by lia,λk a b=>by have e9:k=n:=(by lia);rw[e9];rfl⟩ λp' n' q' a b c d e=>?_;dsimp only;have hp':=hp.of_perm a
 split
 ·exact sM T (hp'.rev _ _) (by lia) (by lia) (d.same (xN (by rw[hp'.1];lia) e)) (hG.perm ((WP _ _ _ _).trans a))
 ·exact sM T hp' (by lia) (by lia) d (hG.perm a)
def AQ(T:Told r N cmp s){G:Nat×Array Nat->Shared->Prop}{p:Array Nat}(hp:In N p)(hN:1<=N)(hG:MV r p N G s):(kas_count N p).kasWp cmp G s:=by
 unfold kas_count;rw[KasT.kasWp_bind];refine uG T hp (N - 1) 1 (aI _) (λi j a b=>by have e9:i=j:=(by lia);rw[e9];exact dt _) λn h1 h2 ha hb=>?_;by_cases e:n=N
 ·subst e;rw[W5 (by simp)];exact hG n p (.refl _) h1 (aI _) ha
 ·rw[W4 (by simp[e])];have hlt:=hb (by lia)
  split
  ·refine T _ _ (hp.2 _) (hp.2 _) _ ?_;by_cases c:Kk r p 0<Kk r p (n - 1)
   ·have c':r (p.getD 0 0)<r (p.getD (n - 1) 0):=c;rw[W8 c'];exact hG n p (.refl _) h1 (by lia) ha
   ·have c':¬r (p.getD 0 0)<r (p.getD (n - 1) 0):=c;rw[W7 c'];have alike:∀k,k<n->Kk r p k=Kk r p (n - 1):=λk hk=>by
     have a1:=ha 0 k (by lia) hk;have a2:=ha k (n - 1) (by lia) (by lia);lia
    have same:∀k,Kk r (kas_rev p 0 n) k=Kk r p k:=λk=>by
     rw[wU (by rw[hp.1];lia)]
     split
     ·rw[alike _ (by lia),alike k (by lia)]
     ·rfl
    refine pU T (hp.rev 0 n) (by lia) h1 (Jj.same (p:=p) (λi j hij hj=>?_) same) (hG.perm (WP _ _ _ _));by_cases e3:j=n
    ·subst e3;by_cases e4:i=j
     ·subst e4;exact dt _
     ·rw[alike i (by lia)];lia
    ·rw[alike i (by lia),alike j (by lia)];exact dt _
  ·have:n=1:=by lia
   subst this;refine pU T hp (by lia) (aI _) (λi j hij hj=>?_) hG;have hj':j=0\/j=1:=by lia
   have hi':i=0\/i=1:=by lia
   rcases hj' with rfl | rfl<;>rcases hi' with rfl | rfl
   ·exact dt _
   ·lia
   ·have:Kk r p 1<Kk r p 0:=hlt;lia
   ·exact dt _
def place_spec(T:Told r N cmp s){G:Nat->Shared->Prop}{p:Array Nat}{k:Nat}(hp:In N p)(hs:yl r p k):∀(f l e:Nat),e<=k->e<=l+f->l<=e->(∀i,i<l->Kk r p i<=Kk r p k)->(∀i,e<=i->i<k->Kk r p k<Kk r p i) →
  (∀l,l<=k->(∀i,i<l->Kk r p i<=Kk r p k)->(∀i,l<=i->i<k->Kk r p k<Kk r p i)->G l s)->(kas_place p k f l e).kasWp cmp G s
 | 0,l,e,h1,h2,h3,h4,h5,hG=>by
  have:l=e:=by lia
  subst this;exact hG l h1 h4 h5
 | f+1,l,e,h1,h2,h3,h4,h5,hG=>by
  unfold kas_place
  split
  ·have:l=e:=by lia
   subst this;exact hG l h1 h4 h5
  ·refine T _ _ (hp.2 _) (hp.2 _) _ ?_;by_cases c:Kk r p k<Kk r p ((l+e) / 2)
   ·have c':r (p.getD k 0)<r (p.getD ((l+e) / 2) 0):=c;rw[W8 c'];refine place_spec T hp hs f l ((l+e) / 2) (by lia) (by lia) (by lia) h4 (λi a b=>?_) hG;have:=hs ((l+e) / 2) i a b;lia
   ·have c':¬r (p.getD k 0)<r (p.getD ((l+e) / 2) 0):=c;rw[W7 c'];refine place_spec T hp hs f ((l+e) / 2+1) e h1 (by lia) (by lia) (λi a=>?_) h5 hG;have:=hs i ((l+e) / 2) (by lia) (by lia);lia
def AY{p:Array Nat}{k l:Nat}(hk:k<p.size)(hs:yl r p k)(hl:l<=k)(h1:∀i,i<l->Kk r p i<=Kk r p k)(h2:∀i,l<=i->i<k->Kk r p k<Kk r p i):yl r (bubble p k (k-l)) (k+1):=λi j hij hj=>by
 rw[vK hk (by lia),vK hk (by lia)];have e:k-(k-l)=l:=by lia
 rw[e];by_cases i1:i=l
 ·rw[W5 i1];by_cases j1:j=l
  ·rw[W5 j1];exact dt _
  ·rw[W4 j1,W5 (by lia)];have:=h2 (j - 1) (by lia) (by lia);lia
 ·rw[W4 i1];by_cases i2:l<i/\i<=k
  ·rw[W5 i2,W4 (by lia),W5 (by lia)];exact hs _ _ (by lia) (by lia)
  ·rw[W4 i2];by_cases j1:j=l
   ·rw[W5 j1];exact h1 i (by lia)
   ·rw[W4 j1];by_cases j2:l<j/\j<=k
    ·rw[W5 j2];exact hs _ _ (by lia) (by lia)
    ·rw[W4 j2];exact hs _ _ (by lia) (by lia)
def yi(T:Told r N cmp s){G:Array Nat->Shared->Prop}:∀(f:Nat) (p:Array Nat) (k:Nat),In N p->k+f=N->yl r p k->(∀p',p'.Perm p->yl r p' N->G p' s)->(kas_bin f p k).kasWp cmp G s
 | 0,p,k,hp,hk,hs,hG=>hG p (.refl _) (by have e9:k=N:=(by lia);rw[<-e9];exact hs)
 | f+1,p,k,hp,hk,hs,hG=>by
  unfold kas_bin;rw[KasT.kasWp_bind];refine place_spec T hp hs k 0 k (aI _) (by lia) (by lia) (λi h=>absurd h (by lia)) (λi h h'=>absurd h' (by lia)) λl h1 h2 h3=>?_;refine yi T f _ (k+1) (hp.of_perm (bubble_perm _ _ _)) (by lia) (AY (by rw[hp.1];lia) hs h1 h2 h3) λp' a b=>hG p' (a.trans (bubble_perm _ _ _)) b
def CA(T:Told r N cmp s){G:Array Nat->Shared->Prop}(hN:1<=N)(hG:∀p:Array Nat,p.Perm (List.toArray (List.range N))->yl r p N->G p s):(kas_sort N).kasWp cmp G s:=by
 have h0:In N (List.toArray (List.range N)):=⟨by simp,λi=>by
  rw[cM];cases e:(List.toArray (List.range N))[i]? with
  | none=>exact hN
  | some x=>
   have:=nv e;simpa using this⟩
 unfold kas_sort;rw[KasT.kasWp_bind];refine AQ T h0 hN λn p a b c d=>?_;dsimp only;have hp:=h0.of_perm a
 split
 ·have e:max n 1=n:=by lia
  rw[e];exact yi T _ p n hp (by lia) d λp' x y=>hG p' (x.trans a) y
 ·have:n=N:=by lia
  subst this;exact hG p a d
end
section
variable {prog:Program} {w:World} {A:Around} {E:Value->Shared->Prop} {s:Shared}
def kc(vs:List Value)(p:Array Nat):Array Value:=List.toArray (p.toList.map λi=>vs.getD i Value.none)
def CC:∀vs:List Value,vs.length<2->(vs.toArray.zip vs.toArray).map (·.2)=kc vs (List.toArray (List.range vs.length))
 | [],_=>by simp[kc]
 | [v],_=>by simp[kc]
 | _::_::_,h=>by simp at h;lia
def Kp(a:Addr)(h h':Heap):Prop:=∀b o,b≠a->h.get? b=some o->h'.get? b=some o
def tR {a:Addr} {vs:List Value} {n:Nat} {P:PySem.Fin->Shared->Prop} {r:Nat->Int} (κ:SortKind) (ho:s.heap.get? a=some (seqObj "list" vs.toArray n)) (h64:vs.length<64)
  (hk:2<=vs.length->∀(h':Heap) (Q:SortKind->Shared->Prop),Kp a s.heap h'->Q κ { s with heap:=h' }->wpAny (model prog w) A (keyKind' vs.toArray) Q E { s with heap:=h' })
  (hc:∀i j,i<vs.length->j<vs.length->∀(h':Heap) (C:Bool->Shared->Prop),Kp a s.heap h'->C (decide (r i<r j)) { s with heap:=h' }->wpAny (model prog w) A (keyLt' κ (vs.getD i Value.none) (vs.getD j Value.none)) C (λ_ _=>False) { s with heap:=h' })
  (h:∀p:Array Nat,p.Perm (List.toArray (List.range vs.length))->yl r p vs.length->P (.done (.ret .none)) { s with heap:=sortedHeap s.heap a vs (kc vs p) }) :
  wpAny (model prog w) A (Builtin.«list.sort» ⟨[.ref a],[]⟩) P E s:=by
 rw[list_sort_plain];have ha:a<s.heap.objs.size:=aN ho;refine wpAny_bind (listItems_at ho rfl ?_);refine wpAny_bind (listUpdate_at ho rfl ?_);obtain⟨e1,ho1⟩:∃e1,(s.heap.update a (Obj.mapSeq λ_=>#[])).get? a=some (seqObj "list" #[] e1):=⟨_,get?_update_seq ho (λ_=>#[])⟩
 refine wpAny_bind (seqEpoch_at ho1 rfl ?_);refine wpAny_bind (wpAny_newTuple ?_);refine wpAny_bind (wpAny_newList ?_);refine WB ?_;have ho6:(((s.heap.update a (Obj.mapSeq λ_=>#[])).push (seqObj "tuple" vs.toArray 0)).push (seqObj "list" #[] 0)).get? a=some (seqObj "list" #[] e1):=by
  rw[iy _ _ _ (by rw[size_push',m7];exact aV (bS ha)),iy _ _ _ (by rw[m7];exact aV ha)];exact ho1
 have kp6:Kp a s.heap (((s.heap.update a (Obj.mapSeq λ_=>#[])).push (seqObj "tuple" vs.toArray 0)).push (seqObj "list" #[] 0)):=λb o hb e=>
  aA _ (aA _ (by rw[iI _ _ _ _ hb];exact e))
 show wpAny (model prog w) A _ P E { s with heap:=((s.heap.update a (Obj.mapSeq λ_=>#[])).push (seqObj "tuple" vs.toArray 0)).push (seqObj "list" #[] 0) };dsimp only;have hsz:vs.toArray.size=vs.length:=by simp
 by_cases h2:vs.toArray.size<2
 ·rw[W5 h2,W5 h2];refine wpAny_bind (WE ?_);rw[StateT.run_pure];refine wpAny_bind (WE ?_);dsimp only;refine wpAny_bind (seqEpoch_at ho6 rfl ?_);refine wpAny_bind (listUpdate_at ho6 rfl ?_ (hsz2:=by rw[Array.size_map];show (pairsOf vs).size<=_;rw[pairsOf_size,WH];lia));simp only[bne_self_eq_false,dh,Wa];have e:(arrOf (SortSt.mk' general' (vs.toArray.zip vs.toArray) #[] 7 none)).map (·.2)=kc vs (List.toArray (List.range vs.length)):=by
   exact CC vs (by lia)
  rw[e];refine WE (h (List.toArray (List.range vs.length)) (Array.Perm.refl _) ?_);intro i j hij hj;have e9:i=j:=by lia
  rw[e9];exact dt _
 ·rw[W4 h2,W4 h2];refine wpAny_bind (hk (by lia) _ _ kp6 ?_);have T:Told r vs.length (kas_ask prog w A κ vs) { s with heap:=((s.heap.update a (Obj.mapSeq λ_=>#[])).push (seqObj "tuple" vs.toArray 0)).push (seqObj "list" #[] 0) }:=λi j hi hj C hC=>hc i j hi hj _ C kp6 hC;refine wpAny_bind (wpAny_mono (kat_run (ks:=vs) (vs:=vs) (Q:=λst' s'=>s'={ s with heap:=((s.heap.update a (Obj.mapSeq λ_=>#[])).push (seqObj "tuple" vs.toArray 0)).push (seqObj "list" #[] 0) }/\∃p:Array Nat,p.size=vs.length/\arrOf st'=p.map (kas_item (vs.toArray.zip vs.toArray))/\failedOf st'=none/\p.Perm (List.toArray (List.range vs.length))/\yl r p vs.length)
   (G:=λp s'=>s'={ s with heap:=((s.heap.update a (Obj.mapSeq λ_=>#[])).push (seqObj "tuple" vs.toArray 0)).push (seqObj "list" #[] 0) }/\p.Perm (List.toArray (List.range vs.length))/\yl r p vs.length)
   rfl (by lia) h64 (λp' st' s' a1 a2 a3 a4=>⟨a4.1,p',a1,a2,a3,a4.2⟩) (CA T (by lia) λp hp ha=>⟨rfl,hp,ha⟩)) ?_ λ_ _ e=>e)
  rintro⟨⟨⟩,st'⟩ s' ⟨rfl,p,hps,har,hf,hp,hs⟩;dsimp only;have hout:=kat_snds (ks:=vs) (vs:=vs) rfl har;rw[hout];refine wpAny_bind (seqEpoch_at ho6 rfl ?_);refine wpAny_bind (listUpdate_at ho6 rfl ?_ (hsz2:=by rw[aX,aG,d8,hps,WH];lia));rw[hf];simp only[bne_self_eq_false,dh,Wa];exact WE (h p hp hs)
def oC {l:Addr} {vs:List Value} {Q:Value->Shared->Prop} {r:Nat->Int} (κ:SortKind) (hcol:∀(A:Around) (E:Value->Shared->Prop) (Q:List Value->Shared->Prop),Q vs { s with heap:=(s.heap.push (seqObj "list" #[] 0)).update s.heap.objs.size (Obj.mapSeq (·++vs.toArray)) }->wpAny (model prog w) A (collect (.ref l)) Q E s) (h64:vs.length<64)
  (hk:2<=vs.length->∀(h':Heap) (Q:SortKind->Shared->Prop),(∀b o,s.heap.get? b=some o->h'.get? b=some o)->Q κ { s with heap:=h' }->wpAny (model prog w) A.in1.in1 (keyKind' vs.toArray) Q (λ_ _=>False) { s with heap:=h' })
  (hc:∀i j,i<vs.length->j<vs.length->∀(h':Heap) (C:Bool->Shared->Prop),(∀b o,s.heap.get? b=some o->h'.get? b=some o)->C (decide (r i<r j)) { s with heap:=h' }->wpAny (model prog w) A.in1.in1 (keyLt' κ (vs.getD i Value.none) (vs.getD j Value.none)) C (λ_ _=>False) { s with heap:=h' })
  (h:∀p:Array Nat,p.Perm (List.toArray (List.range vs.length))->yl r p vs.length->Q (.ref (s.heap.objs.size+1)) { s with heap:=sortedAll s.heap vs (kc vs p) }) :
  wpAny (model prog w) A (call (.builtin "sorted") [.ref l]) Q E s:=by
 refine Calls.call_function_entry kind_sorted plain_sorted entry_sorted (args_sorted1 _) ?_;unfold Builtin.«sorted»;refine wpAny_bind (m:=checkCount "sorted" 1 1 _) (WE ?_);refine wpAny_bind (hcol _ _ _ ?_);refine wpAny_bind (wpAny_newList ?_);have hsz:((s.heap.push (seqObj "list" #[] 0)).update s.heap.objs.size (Obj.mapSeq (·++vs.toArray))).objs.size=s.heap.objs.size+1:=by
  rw[m7,size_push']
 have hoL:(((s.heap.push (seqObj "list" #[] 0)).update s.heap.objs.size (Obj.mapSeq (·++vs.toArray))).push (seqObj "list" vs.toArray 0)).get? (s.heap.objs.size+1)=some (seqObj "list" vs.toArray 0):=by
  rw[<-hsz];exact aL _ rfl
 have keep:∀b o,s.heap.get? b=some o->(((s.heap.push (seqObj "list" #[] 0)).update s.heap.objs.size (Obj.mapSeq (·++vs.toArray))).push (seqObj "list" vs.toArray 0)).get? b=some o:=λb o q=>by
  have hlt:b<s.heap.objs.size:=aN q;rw[iy _ _ _ (by rw[hsz];exact aV (bS hlt)),iI _ _ _ _ (aV hlt),iy _ _ _ (aV hlt)];exact q
 have keep2:∀h',Kp (s.heap.objs.size+1) (((s.heap.push (seqObj "list" #[] 0)).update s.heap.objs.size (Obj.mapSeq (·++vs.toArray))).push (seqObj "list" vs.toArray 0)) h'->∀b o,s.heap.get? b=some o->h'.get? b=some o:=λh' k b o q=>
  k b o (aV (bS (aN q))) (keep b o q)
 show wpAny _ _ _ _ _ { s with heap:=((s.heap.push (seqObj "list" #[] 0)).update s.heap.objs.size (Obj.mapSeq (·++vs.toArray))).push (seqObj "list" vs.toArray 0) };rw[hsz];refine wpAny_bind (WB (WQ slot_list_sort ⟨_,hoL,rfl⟩ entry_list_sort (tR (r:=r) κ hoL h64 (λh2 h' Q k q=>?_) (λi j hi hj h' C k q=>?_) λp hp ha=>⟨_,rfl,?_⟩) (args_list_sort _)))
 ·exact wpAny_mono (hk h2 h' Q (keep2 h' k) q) (λ_ _ z=>z) λ_ _ z=>z.elim
 ·exact hc i j hi hj h' C (keep2 h' k) q
 ·exact WE ⟨_,rfl,h p hp ha⟩
def rR{l:Addr}{vs:List Value}{Q:Value->Shared->Prop}{r:Nat->Int}(κ:SortKind)(hl:s.heap.IsList l vs.toArray)(h64:vs.length<64)
  (hk:2<=vs.length->∀(h':Heap) (Q:SortKind->Shared->Prop),(∀b o,s.heap.get? b=some o->h'.get? b=some o)->Q κ { s with heap:=h' }->wpAny (model prog w) A.in1.in1 (keyKind' vs.toArray) Q (λ_ _=>False) { s with heap:=h' })
  (hc:∀i j,i<vs.length->j<vs.length->∀(h':Heap) (C:Bool->Shared->Prop),(∀b o,s.heap.get? b=some o->h'.get? b=some o)->C (decide (r i<r j)) { s with heap:=h' }->wpAny (model prog w) A.in1.in1 (keyLt' κ (vs.getD i Value.none) (vs.getD j Value.none)) C (λ_ _=>False) { s with heap:=h' })
  (h:∀p:Array Nat,p.Perm (List.toArray (List.range vs.length))->yl r p vs.length->Q (.ref (s.heap.objs.size+1)) { s with heap:=sortedAll s.heap vs (kc vs p) }) :
  wpAny (model prog w) A (call (.builtin "sorted") [.ref l]) Q E s:=
 oC κ (λA E Q q=>collect_list hl q (by rw[WH];lia)) h64 hk hc h
def ya{l:Addr}{vs:List Value}{Q:List Value->Shared->Prop}(hl:IsTup s.heap l vs.toArray)
  (h:Q vs { s with heap:=(s.heap.push (seqObj "list" #[] 0)).update s.heap.objs.size (Obj.mapSeq (·++vs.toArray)) }) (hsz:vs.length<=sizeLine) :
  wpAny (model prog w) A (collect (.ref l)) Q E s:=by
 obtain⟨o,ho,hc,n,hd⟩:=id hl;unfold collect;refine wpAny_bind (wpAny_runValue (codeAny_builtin entry_proto_collect' ?_));show wpAny _ _ (do again (.builtin "list.__iadd__" ⟨[<-newList [],.ref l],[]⟩)) _ _ s;refine wpAny_bind (wpAny_newList (WE ⟨kz _ (by decide +kernel),codeAny_builtin entry_list_iadd' ?_⟩));show wpAny _ _ (Builtin.List.listExtendWith (.ref s.heap.objs.size) (.ref l) (.ref s.heap.objs.size)) _ _ { s with heap:=s.heap.push (seqObj "list" #[] 0) };unfold Builtin.List.listExtendWith;have ho':(s.heap.push (seqObj "list" #[] 0)).get? l=some o:=aA _ ho;refine wpAny_bind (wpAny_typeOf (T:="tuple") ⟨o,ho',hc⟩ ?_);have ht:(Value.type "tuple"==Value.type "tuple")=true:=by rfl
 rw[W5 (by rw[ht];simp)];refine wpAny_bind (listItems_at ho' hd ?_);refine wpAny_bind (listItems_at (xs:=#[]) (n:=0) (aL _ rfl) rfl ?_);rw[W4 (by simp)];refine wpAny_bind (listUpdate_at (xs:=#[]) (n:=0) (aL _ rfl) rfl ?_ (bU _) (by show (#[]++vs.toArray).size<=sizeLine+1;simp only[lY,aX,gD];lia));refine WE ?_;show wpAny (model prog w) A (do
   let o <-load s.heap.objs.size
   match o.data with
   | .seq xs _=>pure xs.toList
   | _=>unsupported "internal:collect") Q E { s with heap:=(s.heap.push (seqObj "list" #[] 0)).update s.heap.objs.size (Obj.mapSeq (·++vs.toArray)) }
 refine wpAny_bind (wpAny_load (get?_update_seq (aL _ rfl) _) ?_);show wpAny _ _ (pure ((#[]:Array Value)++vs.toArray).toList) Q E _;rw[show ((#[]:Array Value)++vs.toArray).toList=vs by simp];exact WE h
def vW{l:Addr}{vs:List Value}{Q:Value->Shared->Prop}{r:Nat->Int}(κ:SortKind)(hl:IsTup s.heap l vs.toArray)(h64:vs.length<64)
  (hk:2<=vs.length->∀(h':Heap) (Q:SortKind->Shared->Prop),(∀b o,s.heap.get? b=some o->h'.get? b=some o)->Q κ { s with heap:=h' }->wpAny (model prog w) A.in1.in1 (keyKind' vs.toArray) Q (λ_ _=>False) { s with heap:=h' })
  (hc:∀i j,i<vs.length->j<vs.length->∀(h':Heap) (C:Bool->Shared->Prop),(∀b o,s.heap.get? b=some o->h'.get? b=some o)->C (decide (r i<r j)) { s with heap:=h' }->wpAny (model prog w) A.in1.in1 (keyLt' κ (vs.getD i Value.none) (vs.getD j Value.none)) C (λ_ _=>False) { s with heap:=h' })
  (h:∀p:Array Nat,p.Perm (List.toArray (List.range vs.length))->yl r p vs.length->Q (.ref (s.heap.objs.size+1)) { s with heap:=sortedAll s.heap vs (kc vs p) }) :
  wpAny (model prog w) A (call (.builtin "sorted") [.ref l]) Q E s:=
 oC κ (λA E Q q=>ya hl q (by rw[WH];lia)) h64 hk hc h
end
end Rm
namespace Rm
open PySem PySem.W PyProof.Rows L2
def oZ:∀{as:List Addr} {us:List Value},cH (as.map V.ref) us->us=as.map Value.ref
 | [],_,.nil=>rfl
 | a::as,u::us,.cons r t=>by
  have e:u=Value.ref a:=r;rw[e,oZ t];rfl
def CH(as:List Addr):cH (as.map V.ref) (as.map Value.ref):=by
 induction as with
 | nil=>exact .nil
 | cons a as ih=>exact .cons rfl ih
def JF (h:Heap) (a:Addr) (p:Bw):Prop:=∃o t u n,h.get? a=some o/\o.cls=.type "tuple"/\o.data=.seq #[.int p.1 t,.int p.2 u] n
def KP{X:Cx}{pins:List (Addr×Obj)}{σ:L2.St}{H:Hp}{s:Shared}(I:bX X pins σ H s){a:Addr}{p:Bw}(h:ff H a p):JF s.heap a p:=by
 obtain⟨_,its,v,o,e,c,n,d⟩:=I.hok a _ h;obtain⟨u,w,rfl,⟨t,rfl⟩,t',rfl⟩:=cH.two v;exact⟨o,t,t',n,e,c,by rw[d]⟩
def JF.kept{h h':Heap}{a:Addr}{p:Bw}(x:JF h a p)(k:∀b o,h.get? b=some o->h'.get? b=some o):JF h' a p:=by
 obtain⟨o,t,u,n,e,c,d⟩:=x;exact⟨o,t,u,n,k _ _ e,c,d⟩
def we{h:Heap}:∀{as:List Addr} {ps:List Bw},Paired (JF h) as ps->∃fs,KatTups h (as.map Value.ref) fs/\fs.length=as.length/\∀v∈fs,∃n t,v=Value.int n t
 | _,_,.nil=>⟨[],KatTups.nil,rfl,(λv hv=>nomatch hv)⟩
 | _,_,.cons r t=>by
  obtain⟨o,t1,u1,n,e,c,d⟩:=r;obtain⟨fs,h1,h2,h3⟩:=we t;exact⟨.int _ t1::fs,KatTups.cons e c d rfl h1,by simp[h2],λv hv=>by
   rcases aF.mp hv with rfl | hv
   ·exact⟨_,_,rfl⟩
   ·exact h3 v hv⟩
def kA(p:Bw):Int:=p.1*1000+p.2
def kB:SortKind:=tuples' (Value.type "int" != Value.type "tuple")
def KQ{prog:Program}{w:World}{A:Around}{s:Shared}{a b:Addr}{p q:Bw}{C:Bool->Shared->Prop}(ha:JF s.heap a p)(hb:JF s.heap b q)(hp:0<=p.2/\p.2<1000)(hq:0<=q.2/\q.2<1000)
  (h:C (decide (kA p<kA q)) s):wpAny (model prog w) A (keyLt' kB (.ref a) (.ref b)) C (λ_ _=>False) s:=by
 obtain⟨oa,t,u,n,ea,ca,da⟩:=ha;obtain⟨ob,t',u',n',eb,cb,db⟩:=hb;refine kat_lt ea da eb db ?_;show KatLex prog w A _ _ C [(Value.int p.1 t,Value.int q.1 t'),(Value.int p.2 u,Value.int q.2 u')] 0 s;refine kat_cons (wpAny_eqBool_int (kat_go (λe=>?_) (λe=>?_)))
 ·have e1:p.1=q.1:=by simpa using e
  refine kat_yes (kat_cons (wpAny_eqBool_int (kat_go (λe=>?_) (λe=>?_))))
  ·have e2:p.2=q.2:=by simpa using e
   refine kat_yes (kat_nil ?_);have z:decide (kA p<kA q)=false:=W7 (by unfold kA;lia);rw[z] at h;exact h
  ·have e2:¬p.2=q.2:=by simpa using e
   refine kat_no ?_;have z:decide (kA p<kA q)=decide (p.2<q.2):=by
    by_cases y:p.2<q.2
    ·rw[W8 y,W8 (by unfold kA;lia)]
    ·rw[W7 y,W7 (by unfold kA;lia)]
   rw[z] at h;have b0:((Value.type "int" != Value.type "tuple")&&((0+1:Nat)==0))=false:=by decide
   rw[b0];exact kat_one _ _ (lt_int h)
 ·have e1:¬p.1=q.1:=by simpa using e
  refine kat_no ?_;have z:decide (kA p<kA q)=decide (p.1<q.1):=by
   by_cases y:p.1<q.1
   ·rw[W8 y,W8 (by unfold kA;lia)]
   ·rw[W7 y,W7 (by unfold kA;lia)]
  rw[z] at h;have b0:((Value.type "int" != Value.type "tuple")&&((0:Nat)==0))=true:=by decide
  rw[b0];exact oneLt_int h
def pick{α:Type}(d:α)(xs:List α)(p:Array Nat):List α:=p.toList.map λi=>xs.getD i d
def pC{α:Type}(d:α)(xs:List α){p:Array Nat}(hp:p.Perm (List.toArray (List.range xs.length))):(pick d xs p).Perm xs:=by
 have h1:p.toList.Perm (List.range xs.length):=by simpa using gq.mp hp
 have h2:=h1.map λi=>xs.getD i d;have e:(List.range xs.length).map (λi=>xs.getD i d)=xs:=by
  apply m6
  ·simp
  ·intro i h1 h2;simp at h1;simp[h1]
 rw[e] at h2;exact h2
def xX{α β:Type}{R:α->β->Prop}(d:α)(e:β){xs:List α}{ys:List β}(h:Paired R xs ys){p:Array Nat}(hp:∀i∈p.toList,i<xs.length):Paired R (pick d xs p) (pick e ys p):=by
 unfold pick
 revert hp
 induction p.toList with
 | nil=>intro _;exact .nil
 | cons i r ih=>
  intro hp;refine .cons ?_ (ih λj hj=>hp j (aO _ hj));have hi:=hp i ao;have hx:xs[i]? = some xs[i]:=aW hi;obtain⟨y,hy,hr⟩:=jQ h hx;have e1:xs.getD i d=xs[i]:=by simp[List.getD,hx]
  have e2:ys.getD i e=y:=by simp[List.getD,hy]
  show R (xs.getD i d) (ys.getD i e);rw[e1,e2];exact hr
def xY{r:Nat->Int}{n:Nat}{p:Array Nat}(hn:p.size=n)(ha:yl r p n){α:Type}(d:α)(xs:List α)(f:α->Int)(hf:∀i,r i=f (xs.getD i d)):(pick d xs p).Pairwise λa b=>f a<=f b:=by
 rw[iG];intro i j hi hj hij;have hi':i<p.size:=by simpa [pick] using hi
 have hj':j<p.size:=by simpa [pick] using hj
 have h1:=ha i j (ba hij) (by lia);unfold Kk at h1;rw[hf,hf] at h1;simp only[cM,fF hi',fF hj',mS] at h1;simpa [pick] using h1
def leB(p q:Bw):Prop:=p.1<q.1\/p.1=q.1/\p.2<=q.2
def Ki(K:Wb):List V->Hp->VK->Prop:=λxs H Q=>∃(l:Addr) (as:List Addr) (ps:List Bw),xs=[.ref l]/\c6 K H l (as.map V.ref)/\Paired (ff H) as ps/\ps.length<64/\(∀p∈ps,0<=p.2/\p.2<1000) ∧
 ∀l' as' ps',H l'=none->Paired (ff H) as' ps'->ps'.Perm ps->ps'.Pairwise leB->Q (.ref l') (bP H l' (.lst (as'.map V.ref)))
def mP {X:Cx}:fN X (.builtin "sorted") (Ki X.K):=by
 intro pins s σ H xs us Q I rr h;obtain⟨l,as,ps,rfl,hq,hP,h64,hb,q⟩:=h;obtain⟨u,rfl,rx⟩:=WI rr;cases rx;obtain⟨its,rv,pl,hz⟩:=I.list hq;have e:=oZ rv;subst e;have hlen:as.length=ps.length:=eQ hP;have two:Paired (JF s.heap) as ps:=ft hP λa p z=>KP I z;have at_:∀i,i<as.length->∃a p,(as.map Value.ref).getD i Value.none=.ref a/\ps.getD i (0,0)=p/\JF s.heap a p/\0<=p.2/\p.2<1000:=λi hi=>by
  have hx:as[i]? = some as[i]:=aW hi;obtain⟨p,hp,ht⟩:=jQ two hx;exact⟨as[i],p,by simp[List.getD,hi],by simp[List.getD,hp],ht,hb p (bM hp)⟩
 refine rR (r:=λi=>kA (ps.getD i (0,0))) kB pl.isList (by rw[aG];lia) (λh2 h' Q' k q'=>?_) (λi j hi hj h' C k q'=>?_) λp hp ha=>?_
 ·obtain⟨fs,k1,k2,k3⟩:=we (ft two λa p z=>z.kept k);refine kat_kind (T:=.type "int") k1 (by rw[aG] at h2;lia) (λv hv=>?_) rfl q';obtain⟨n,t,rfl⟩:=k3 v hv;exact(show Looks _ _ (pure (Value.type "int")) (Value.type "int") from .now)
 ·rw[aG] at hi hj;obtain⟨a,p,e1,e2,t1,b1⟩:=at_ i hi;obtain⟨c,p',e3,e4,t2,b2⟩:=at_ j hj;rw[e1,e3];refine KQ (t1.kept k) (t2.kept k) b1 b2 ?_;rw[<-e2,<-e4];exact q'
 ·rw[aG] at hp ha;obtain⟨c,hc⟩:=sortedAll_at s.heap (as.map Value.ref) (kc (as.map Value.ref) p);have hin:∀i∈p.toList,i<as.length:=λi hi=>by
   have h1:p.toList.Perm (List.range as.length):=by simpa using gq.mp hp
   simpa using h1.mem_iff.mp hi
  have eo:kc (as.map Value.ref) p=List.toArray ((pick 0 as p).map Value.ref):=by
   unfold kc pick;rw[cA];congr 1;refine dA λi hi=>?_;have:=hin i hi;simp[List.getD,this]
  have hps:(pick 0 as p).length<=sizeLine:=by
   have:=(pC 0 as hp).length_eq;rw[this];exact ba (cB (by lia))
  rw[eo] at hc;have hp':p.Perm (List.toArray (List.range ps.length)):=by rw[<-hlen];exact hp
  refine⟨.ref (s.heap.objs.size+1),bP H (s.heap.objs.size+1) (.lst ((pick 0 as p).map V.ref)),I.laid (t':=s.toks) (λb o e=>sortedAll_old e) (eS _) ?_,rfl,?_⟩
  ·exact(show cw X.prog X.w _ _ _ (.lst _) from ⟨by rw[aG];exact hps,(pick 0 as p).map Value.ref,c,CH _,by rw[eo];exact hc⟩)
  ·have hasc:=xY (n:=as.length) (by have:=hp.size_eq;simpa using this) ha (0,0) ps kA λi=>rfl;have hmem:∀x∈pick (0,0) ps p,0<=x.2/\x.2<1000:=λx hx=>hb x ((pC (0,0) ps hp').mem_iff.mp hx);refine q _ _ (pick (0,0) ps p) (I.hok.fresh (eS _)) (xX 0 (0,0) hP hin) (pC (0,0) ps hp') ?_;refine List.Pairwise.imp_of_mem (fun {a b} ma mb hab=>?_) hasc;have h1:=hmem a ma;have h2:=hmem b mb;unfold kA at hab;unfold leB;lia
end Rm
namespace L2
open PySem PySem.W PySem.Spec PyProof.Rows Rm
section
variable {X:Cx}
def ints_getD:∀{us:List Value} {ns:List Int},IntsAre us ns->∀i,i<us.length->∃t,us.getD i Value.none=.int (ns.getD i 0) t
 | _,_,.nil,i,h=>by simp at h
 | _,_,.cons n t r,0,_=>⟨t,rfl⟩
 | _,_,.cons n t r,i+1,h=>by
  obtain⟨t',e⟩:=ints_getD r i (by simpa using h);exact⟨t',by simpa using e⟩
def uw{us:List Value}{ns:List Int}(hi:IntsAre us ns):∀(p:List Nat),(∀i∈p,i<us.length)->IntsAre (p.map λi=>us.getD i Value.none) (p.map λi=>ns.getD i 0)
 | [],_=>.nil
 | i::p,h=>by
  obtain⟨t,e⟩:=ints_getD hi i (h i ao);rw[aZ,aZ,e];exact .cons _ t (uw hi p λj hj=>h j (aO _ hj))
def tY{us:List Value}{ns:List Int}(hi:IntsAre us ns):us.length=ns.length:=by
 induction hi with
 | nil=>rfl
 | cons _ _ _ ih=>simp[ih]
def yL:∀{us:List Value} {ns:List Int},IntsAre us ns->∀v∈us,∃n t,v=Value.int n t
 | _,_,.nil,v,h=>nomatch h
 | _,_,.cons n t r,v,h=>by
  rcases aF.mp h with rfl | h
  ·exact⟨n,t,rfl⟩
  ·exact yL r v h
def Kg(K:Wb):List V->Hp->VK->Prop:=λxs H Q=>∃(p:Addr) (ns:List Int),xs=[.ref p]/\(c6 K H p (ns.map V.int)\/de K H p (ns.map V.int))/\ns.length<64 ∧
 ∀(l:Addr) (ms:List Int),H l=none->ms.Perm ns->ms.Pairwise (·<=·)->Q (.ref l) (bP H l (.lst (ms.map V.int)))
def qm:fN X (.builtin "sorted") (Kg X.K):=by
 intro pins s σ H xs us Q I r h;obtain⟨p,ns,rfl,hq,hl,q⟩:=h;obtain⟨u,rfl,rx⟩:=WI r;cases rx;have fin:∀its:List Value,IntsAre its ns->∀pr:Array Nat,pr.Perm (List.toArray (List.range its.length))->yl (λi=>ns.getD i 0) pr its.length →
   EP X pins σ Q (.ref (s.heap.objs.size+1)) { s with heap:=sortedAll s.heap its (kc its pr) }:=λits hi pr hp ha=>by
  obtain⟨c,hc⟩:=sortedAll_at s.heap its (kc its pr);have hil:=tY hi;have hin:∀i∈pr.toList,i<its.length:=λi him=>by
   have h1:pr.toList.Perm (List.range its.length):=by simpa using gq.mp hp
   simpa using h1.mem_iff.mp him
  have hp':pr.Perm (List.toArray (List.range ns.length)):=by rw[<-hil];exact hp
  have hpk:=pC 0 ns hp';have hlen:=hpk.length_eq;refine⟨.ref (s.heap.objs.size+1),bP H (s.heap.objs.size+1) (.lst ((pick 0 ns pr).map V.int)),I.laid (t':=s.toks) (λb o e=>sortedAll_old e) (eS _)
   (show cw X.prog X.w _ _ _ (.lst _) from ⟨by rw[aG,hlen];exact ba (cB (by lia)),(kc its pr).toList,c,o7 ?_,by simpa using hc⟩),rfl,q _ _ (I.hok.fresh (eS _)) hpk ?_⟩
  ·have:=uw hi pr.toList hin;simpa [kc,pick] using this
  ·exact xY (n:=its.length) (by have:=hp.size_eq;simpa using this) ha 0 ns (λx=>x) λi=>rfl
 have kind:∀(A:Around) (its:List Value),IntsAre its ns->2<=its.length->∀(h':Heap) (Q:SortKind->Shared->Prop),Q oneType' { s with heap:=h' }->wpAny (model X.prog X.w) A (keyKind' its.toArray) Q (λ_ _=>False) { s with heap:=h' }:=λA its hi h2 h' Q q'=>by
  refine kas_kind (T:=.type "int") h2 (λv hv=>?_) (by decide) (by decide) q';obtain⟨n,t,rfl⟩:=yL hi v hv;exact(show Looks _ _ (pure (Value.type "int")) (Value.type "int") from .now)
 have lt:∀(A:Around) (its:List Value),IntsAre its ns->∀i j,i<its.length->j<its.length->∀(h':Heap) (C:Bool->Shared->Prop),C (decide (ns.getD i 0<ns.getD j 0)) { s with heap:=h' } →
   wpAny (model X.prog X.w) A (keyLt' oneType' (its.getD i Value.none) (its.getD j Value.none)) C (λ_ _=>False) { s with heap:=h' }:=λA its hi i j h1 h2 h' C q'=>by
  obtain⟨t,e⟩:=ints_getD hi i h1;obtain⟨t',e'⟩:=ints_getD hi j h2;rw[e,e'];exact kat_lt_int q'
 rcases hq with hq | hq
 ·obtain⟨its,rv,pl,hz⟩:=I.list hq;have hi:=mL rv;have hil:=tY hi;exact rR (r:=λi=>ns.getD i 0) oneType' pl.isList (by lia) (λh2 h' Q k q'=>kind _ its hi h2 h' Q q') (λi j h1 h2 h' C k q'=>lt _ its hi i j h1 h2 h' C q') (fin its hi)
 ·obtain⟨its,rv,pl,hz⟩:=I.tuple hq;have hi:=mL rv;have hil:=tY hi;exact vW (r:=λi=>ns.getD i 0) oneType' pl (by lia) (λh2 h' Q k q'=>kind _ its hi h2 h' Q q') (λi j h1 h2 h' C k q'=>lt _ its hi i j h1 h2 h' C q') (fin its hi)
end
end L2
namespace L2
open PySem PySem.Spec PyProof.Rows
section
variable {X:Cx} {σ:St} {H:Hp} {a:Addr} {o:Obj}
def Di{td ty:TE}{Q:VK}:EG td ty σ H Q=td σ H λx H1=>ty σ H1 λy H2=>∃a v,x=.ref a/\nu H2 a y (some v)/\Q v H2:=rfl
def Dh{td ty tv:TE}{D:Ends}:Ea td ty tv D σ H=tv σ H λv H1=>td σ H1 λx H2=>ty σ H2 λy H3=>∃a H4,x=.ref a/\uJ H3 a y v H4/\D.nx σ H4:=rfl
def Gv{Q:VK}:zA σ H Q=∀p,H p=none->Q (.ref p) (bP H p (.dT [])):=rfl
def Ac{Q:VK}:zB σ H Q=∀p,H p=none->Q (.ref p) (bP H p (.dK [])):=rfl
def wa{ty td:TE}{Q:VK}:rh ty td σ H Q=ty σ H λy H1=>td σ H1 λx H2=>∃a o,x=.ref a/\nu H2 a y o/\Q (.bl (!o.isSome)) H2:=rfl
def CS{k d:Expr}{ty td:TE}{pos:Pos}(hu:X.A.units+1<cLine)(hk:PE X k ty)(hd:PE X d td)(hm:behindInMarks .NotIn d=false:=by first | rfl | with_unfolding_all rfl):PT X (.Compare k [.NotIn] [d] pos) (tB (rh ty td)):=Ks (C2 hu hk hd) hm
end
section
def rH{A:Around}{k:Nat}(hr:g0 k A):A.units+1<cLine:=by have:=hr.units;lia
end
def rP(dO:Option Addr)(e:Addr)(h:Heap):Prop:=∃o vs,h.get? e=some o/\(o.dict=dO/\o.data=.fields vs)/\vs[2]? = some .none
abbrev PM (e:Addr) (h:Heap):Prop:=rP none e h
structure eW {α:Type} (I:Heap->Prop) (t:Sem α):Prop where
 out:∀ (M:Model) (Γ:PySem.Ctx) (P:α->Pos->Shared->Prop) (E:Value->Pos->Shared->Prop) (p:Pos) (s:Shared),I s.heap->Sem.wp M Γ t P E p s->Sem.wp M Γ t (fun a p' s'=>P a p' s'/\I s'.heap) E p s
section
variable {α β:Type} {I:Heap->Prop}
def eW.pure(a:α):eW I (Pure.pure a:Sem α):=⟨λM Γ P E p s i h=>⟨h,i⟩⟩
def eW.un(w:String):eW I (unsupported w:Sem α):=⟨λM Γ P E p s i h=>False.elim h⟩
def eW.load(a:Addr):eW I (load a):=⟨λM Γ P E p s i ⟨o,e,h⟩=>⟨o,e,h,i⟩⟩
def eW.stack:eW I stack:=⟨λM Γ P E p s i h=>⟨h,i⟩⟩
def eW.update{a:Addr}{f:Obj->Obj}(k:∀h,I h->I (h.update a f)):eW I (update a f):=⟨λM Γ P E p s i ⟨e,h⟩=>⟨e,h,k _ i⟩⟩
def eW.alloc{o:Obj}(k:∀h,I h->I (h.push o)):eW I (alloc o):=⟨λM Γ P E p s i h=>⟨h,k _ i⟩⟩
def eW.bind{m:Sem α}{f:α->Sem β}(hm:eW I m)(hf:∀a,eW I (f a)):eW I (m>>=f):=⟨λM Γ P E p s i h=>by
 have h':Sem.wp M Γ (m.bind f) P E p s:=h;show Sem.wp M Γ (m.bind f) _ E p s;rw[Sem.wp_bind] at h' ⊢;exact Sem.wp_mono M Γ m (λa p' s' ⟨h1,i1⟩=>(hf a).out M Γ P E p' s' i1 h1) (λ_ _ _ z=>z) _ _ (hm.out M Γ _ E p s i h')⟩
def eW.ite{c:Prop} [Decidable c] {a b:Sem α} (ha:eW I a) (hb:eW I b):eW I (if c then a else b):=by split<;>assumption
def eW.newObjT{T:String}{vs:List Value}(k:∀h o,I h->I (h.push o)):eW I (newFields T vs):=by
 unfold newFields newObj;exact eW.ite (.bind (.un _) λ_=>.bind (.alloc λh i=>k h _ i) λa=>.pure _) (.bind (.alloc λh i=>k h _ i) λa=>.pure _)
end
def Ip{dO:Option Addr}{e:Addr}{h:Heap}{o:Obj}(c:rP dO e h):rP dO e (h.push o):=by
 obtain⟨ob,vs,e1,e2,e3⟩:=c;exact⟨ob,vs,aA _ e1,e2,e3⟩
def GR{dO:Option Addr}{e a:Addr}{h:Heap}{f:Obj->Obj}(k:∀o vs,o.dict=dO/\o.data=.fields vs->vs[2]? = some Value.none->∃ws,((f o).dict=dO/\(f o).data=.fields ws)/\ws[2]? = some Value.none)(c:rP dO e h):rP dO e (h.update a f):=by
 obtain⟨ob,vs,e1,e2,e3⟩:=c;by_cases z:a=e
 ·subst z;obtain⟨ws,e4,e5⟩:=k ob vs e2 e3;exact⟨_,ws,c7 f e1 (by clear e5;revert e4;generalize f ob=z;intro ⟨_,e4⟩;obtain⟨c,d,da,sl⟩:=z;cases e4;rfl),e4,e5⟩
 ·exact⟨ob,vs,fy f z e1,e2,e3⟩
def eW.setField{dO:Option Addr}{e:Addr}{v x:Value}{i:Nat}(hi:i≠2):eW (rP dO e) (PySem.setField v i x):=by
 unfold PySem.setField
 split
 ·unfold updateField;refine .bind (.load _) λo=>?_
  split
  ·refine .ite (.update λh c=>GR (λo vs e1 e2=>?_) c) (.un _);obtain⟨c,d,da,sl⟩:=o;obtain⟨e0,e1⟩:=e1;cases e1;refine⟨_,⟨e0,rfl⟩,?_⟩;rw[Array.getElem?_setIfInBounds,W4 hi];exact e2
  ·exact .un _
 ·exact .un _
def eW.field{I:Heap->Prop}{v:Value}{i:Nat}:eW I (PySem.field v i):=by
 unfold PySem.field fieldsOf;refine .bind ?_ λvs=>?_
 ·split
  ·refine .bind (.load _) λo=>?_
   split
   ·exact .pure _
   ·exact .un _
  ·exact .un _
 ·split
  ·exact .pure _
  ·exact .un _
def eW.ready{dO:Option Addr}{e:Addr}:∀l:List Env,eW (rP dO e) (readyFrames l)
 | []=>.pure _
 | env::outer=>by
  unfold readyFrames
  split
  ·refine .bind (.load _) λo=>.ite (.pure _) (.bind ?_ λb=>.bind ?_ λc=>.bind (.update λh c=>GR (λo vs e1 e2=>⟨vs,e1,e2⟩) c) λ_=>eW.ready outer)
   ·unfold behindIsImport;exact .ite (.pure _) (.ite (.pure _) (.bind .field λ_=>.pure _))
   ·unfold keptBack
    split
    ·refine .ite (.pure _) (.bind ?_ λ_=>.pure _);unfold underTheClaimsCaller;exact .bind .stack λ_=>.pure _
    ·exact .pure _
  ·exact .un _
def eW.note{dO:Option Addr}{e:Addr}{v:Value}{env:Env}:eW (rP dO e) (noteFrame v env):=by
 have jp:∀(f:Addr) (head:Value),eW (rP dO e) (do
   let a <-PySem.frameOf env
   let b <-entryPlaceOf f (head != Value.none)
   let c <-EntryCells.newEntry head a Value.none (rawInt ↑f) Value.none b
   PySem.setField v 1 c):=λf head=>by
  refine .bind ?_ λa=>.bind ?_ λb=>.bind ?_ λc=>.setField (by decide)
  ·unfold PySem.frameOf frameEnvs;refine .bind (.bind .stack λ_=>.pure _) λl=>.bind ?_ λo=>?_
   ·unfold frameObject
    split
    ·exact .pure _
    ·exact .bind (eW.ready _) λ_=>.pure _
   ·split
    ·exact .pure _
    ·exact .un _
  ·unfold entryPlaceOf;refine .bind .stack λacts=>?_
   split
   ·exact .pure _
   ·exact .pure _
  ·unfold EntryCells.newEntry;exact .newObjT λh o c=>Ip c
 unfold noteFrame
 split
 ·refine .bind .field λhead=>?_;refine .ite (.bind .field λx=>.ite (.pure _) (.bind (.setField (by decide)) λ_=>jp _ _)) (jp _ _)
 ·exact .un _
def eW.flight{dO:Option Addr}{e:Addr}{v:Value}{fr:Option Addr}:eW (rP dO e) (setFlight v fr):=by
 unfold setFlight;exact .bind .field λtb=>.ite (.setField (by decide)) (.pure _)
def eW.leave{dO:Option Addr}{e:Addr}{v:Value}{env:Env}:eW (rP dO e) (leaving env v):=by
 unfold leaving;exact .bind .note λ_=>.flight
def eW.any{α:Type}{I:Heap->Prop}{t:Sem α}(p:eW I t){M:Model}{A:Around}{Q:α->Shared->Prop}{E:Value->Shared->Prop}{s:Shared}(i:I s.heap)(h:wpAny M A t Q E s):wpAny M A t (λa s'=>Q a s'/\I s'.heap) E s:=
 fun Γ q hΓ=>p.out M Γ _ _ q s i (h Γ q hΓ)
def iQ{α:Type}{I:Heap->Prop}{t:Sem α}(p:eW I t){M:Model}{A:Around}{Q:α->Shared->Prop}{E:Value->Shared->Prop}{s:Shared}(i:I s.heap)(h:wpAny M A t (λa s'=>I s'.heap->Q a s') E s):wpAny M A t Q E s:=
 wpAny_mono (p.any i h) (λ_ _ ⟨q,c⟩=>q c) λ_ _ z=>z
def IU{h h':Heap}{e:Addr}{cls:Value}{vs:List Value}(M:h.MadeExcOf h' e cls vs):PM e h':=by
 obtain⟨t,e1,_⟩:=M.there;exact⟨_,_,e1,⟨rfl,rfl⟩,rfl⟩
def pK:entryFor table "proto.unchain"=some Builtin.«proto.unchain»:=entryFor_of_tree (Eq.refl (entriesT.find (code "proto.unchain")))
def rY{prog:Program}{w:World}{A:Around}{E:Value->Shared->Prop}{s:Shared}{it hx:Addr}{x left step:Int}{Q:Option Value->Shared->Prop}{dO:Option Addr}(hh:A.handled=some (.ref hx))(hc:rP dO hx s.heap)
  (hit:IsRangeIter s.heap it x left step) (hleft:left<=0) (hQ:∀h',Heap.ExtBut it s.heap h'->Q none { s with heap:=h' }):wpAny (model prog w) A (pyNext (.ref it)) Q E s:=by
 have hT:s.TypeIs (.ref it) "range_iterator":=⟨_,hit,rfl⟩
 unfold pyNext;refine wpAny_bind (WR (wpAny_callSpecial?_slot hT ku (WQ ku hT F.entry_range_iterator_next ?_)));show wpAny (model prog w) A.in1 (Bind.bind (field (Value.ref it) 0) _) _ _ s;refine wpAny_bind (WS hit rfl rfl ?_);show wpAny (model prog w) A.in1 (Bind.bind (field (Value.ref it) 1) _) _ _ s;refine wpAny_bind (WS hit rfl rfl ?_);show wpAny (model prog w) A.in1 (Bind.bind (field (Value.ref it) 2) _) _ _ s;refine wpAny_bind (WS hit rfl rfl ?_);show wpAny (model prog w) A.in1 (if left<=0 then _ else _) _ _ s;rw[W5 hleft];refine wpAny_bind (wpAny_rule (wpAny_bind ?_));show wpAny (model prog w) A.in1 (Bind.bind (newExc (Value.type "StopIteration") []) raiseNew) _ _ s;refine wpAny_bind ?_;show wpAny (model prog w) A.in1 (Bind.bind (newTuple []) _) _ _ s;refine wpAny_bind (WO (wpAny_bind (wpAny_of_eq (Eq.refl (firstArgMember (Value.type "StopIteration") [])) (WO ?_))));generalize hh1:(s.heap.push _).push _=h1;unfold raiseNew;refine wpAny_bind (wpAny_handled ?_);rw[show A.in1.handled=some (.ref hx) from hh];dsimp only;obtain⟨o,vs,e1,⟨_,e2⟩,e3⟩:=hc;have lt:=aN e1;have sz:(s.heap.push { cls:=Value.type "tuple",data:=Data.seq #[] }).objs.size=s.heap.objs.size+1:=bq _ _;rw[sz];have nx:hx≠s.heap.objs.size+1:=aV (bS lt);have k1:∀b u,s.heap.get? b=some u->h1.get? b=some u:=λb u q=>by
  rw[<-hh1];exact aA _ (aA _ q)
 have new1:∃ob ws,h1.get? (s.heap.objs.size+1)=some ob/\ob.data=.fields ws/\2<ws.size/\ob.cls=.type "StopIteration":=by
  rw[<-hh1,<-sz];exact⟨_,_,aL _ rfl,rfl,by rw[lY];exact aT (show 2<6 by decide) (mU _ _),rfl⟩
 obtain⟨ob,ws,n1,n2,n3,n4⟩:=new1;rw[W5 (by simp[nx])];refine wpAny_bind (WB (runValue_entry pK ?_));show wpAny _ _ (Bind.bind (field (Value.ref hx) 2) _) _ _ _;refine wpAny_bind (WS (k1 _ _ e1) e2 e3 ?_);rw[W5 (show (Value.none==Value.none)=true from rfl)];refine WE ⟨_,rfl,?_⟩;show wpAny _ _ (Bind.bind (setField (Value.ref (s.heap.objs.size+1)) 2 (Value.ref hx)) _) _ _ _;refine wpAny_bind (WT n1 n2 n3 (wpAny_throw ?_));have up:=c7 (Obj.mapFields λz=>z.setIfInBounds 2 (Value.ref hx)) n1 (by obtain⟨c,d,da,sl⟩:=ob;cases n2;rfl);refine wpAny_bind (wpAny_isInstance (T:="StopIteration") ⟨_,up,by obtain⟨c,d,da,sl⟩:=ob;cases n2;exact n4⟩ isSubtype_stop (WE (hQ _ λb o hb q=>?_)));have ne:b≠s.heap.objs.size+1:=aV (bS (aN q));exact fy _ (bc ne) (k1 b o q)
def cw.ex{P:Program}{w:World}{H:Hp}{h:Heap}{a:Addr}{o:HO}(x:cw P w H h a o):∃ob,h.get? a=some ob:=by
 cases o with
 | lst xs=>obtain⟨_,_,_,_,e⟩:=x;exact⟨_,e⟩
 | tup xs=>obtain⟨_,_,_,ob,e,_⟩:=x;exact⟨_,e⟩
 | dK kvs=>obtain⟨_,_,_,_,o,_,_,e,_⟩:=x;exact⟨_,e⟩
 | dT kvs=>obtain⟨_,_,_,_,o,_,_,e,_⟩:=x;exact⟨_,e⟩
 | set S n=>obtain⟨o,_,_,_,e,_⟩:=x;exact⟨_,e⟩
 | ins C dx fs=>obtain⟨_,_,_,e,_⟩:=x;exact⟨_,e⟩
 | own y=>exact x
 | xd fs=>obtain⟨_,⟨_,_,_,e,_⟩,_⟩:=x;exact⟨_,e⟩
 | rng lo hi=>obtain⟨_,_,_,e⟩:=x;exact⟨_,e⟩
 | frz ob u=>obtain⟨e,_⟩:=x;exact⟨_,e⟩
 | tbl ps=>exact⟨_,show h.get? a=some _ from x⟩
 | met f y=>exact⟨_,show h.get? a=some _ from x⟩
 | ext φ=>obtain⟨_,e,_⟩:=x;exact e
structure Os (B h:Heap) (H':Hp) (outer:List Env):Prop where
 old:∀ b o,h.get? b=some o->b∉lN outer->∃ o',B.get? b=some o'
 trk:∀ b u,H' b=some u->∃ o',B.get? b=some o'
def qv(P:Program)(w:World):DQ:=λouter H s E e s'=>∃(a C t:Addr) (H':Hp) (B:Heap) (dO:Option Addr),e=.ref a/\s'.os=s.os/\AllBare s'.gens/\Un (lN outer) [] H H' s.heap s'.heap/\pI P w H' s'.heap ∧
 B.FlyingW outer a (.ref C) (.ref t) s'.heap/\Os B s.heap H' outer/\rP dO a s'.heap/\E (.ref C) dO H'
def NS{P:Program}{w:World}{X:Cx}:uI (qv P w) X E0:=λ_ _ _ _ _ _ _ ⟨_,_,_,_,_,_,_,_,_,_,_,_,_,_,h⟩=>h.elim
def oK {h base B : Heap} : ∀ {l : List Env}, h.FunFrames base l → (∀ b ∈ lN l, B.get? b = none) → h.FunFrames B l
 | [], _, _ => trivial
 | env :: r, ⟨hk, ⟨L, o, hf, hn, ho, hd⟩, hr⟩, hb => ⟨hk, ⟨L, o, hf, hb L (by unfold lN; rw [dC, hf]; exact ao), ho, hd⟩,
   oK hr fun b m => hb b (by unfold lN; rw [dC, hf]; exact aO _ m)⟩
def Lz(X:Cx)(E:XK):Prop:=∀(pins:List (Addr×Obj)) (σ:St) (H:Hp) (s:Shared) (h':Heap) (e C:Addr) (vs:List Value),bX X pins σ H s->s.heap.MadeExcOf h' e (.ref C) vs->E (.ref C) none H->X.xe (.ref e) { s with heap:=h' }
def qY{P:Program}{w:World}{K:Wb}{mg:Str->Option Value}{base:Heap}{N:List Str}{qual:Str}{scope:Scope}{f:Addr}{cd:Value}{A:Around}{outer:List Env}{s0:Shared}{H0:Hp}{E:XK}:
  Lz (jq (qv P w) P w K mg base N qual scope f cd A outer s0 H0 E) E:=by
 intro pins σ H s h' e C vs I M hE;generalize hX:jq (qv P w) P w K mg base N qual scope f cd A outer s0 H0 E=X at I ⊢;have hst:X.stack=X.env::X.outer:=by rw[<-hX];rfl
 have hfr:X.env.frame=some X.env.locals:=by rw[<-hX];rfl
 have hxe:X.xe=λe s'=>wpAny (model X.prog X.w) X.A (leaving X.env e) (λ_ s''=>qv X.prog X.w X.outer X.H₀ X.s₀ E e s'') (λe' s''=>qv X.prog X.w X.outer X.H₀ X.s₀ E e' s'') s':=by rw[<-hX];rfl
 have hex:X.ex=[]:=by rw[<-hX];rfl
 have hfs:lN X.stack=X.env.locals::X.fs:=by rw[hst];unfold lN;rw[dC,hfr];rfl
 clear hX;rw[hxe];have hB:∀b o,s.heap.get? b=some o->b∉lN X.stack->(PySem.W.hideAll s.heap (lN X.stack)).get? b=some o:=λb o e1 e2=>kC _ e1 e2;refine iQ (eW.leave (dO:=none) (e:=e)) (IU M) ?_;refine wpAny_leaves_madeW (base:=PySem.W.hideAll s.heap (lN X.stack)) (h:=s.heap) (outer:=X.outer) (L:=X.env.locals) (by rw[I.ok.frames,hst]) hfr (λb o e1=>ki _ e1)
  (oK (hst▸I.stack) λb m=>gm _ (hst▸m)) M λh2 t fl _ _ up ct=>?_
 have lt0:∀b o,X.s₀.heap.get? b=some o->b≠X.env.locals:=λb o e1=>aV (aT (aN e1) I.ok.above);have out:∀b o,X.s₀.heap.get? b=some o->b∉X.fs->b∉lN X.stack:=λb o e1 e2 z=>by
  rw[hfs] at z;exact(aF.mp z).elim (lt0 b o e1) e2
 have ne:∀b,b∉X.ex:=λb z=>by rw[hex] at z;cases z
 have stay:=fl.1;have slot:∀b o,s.heap.get? b=some o->b∈X.fs->∃sl,h2.get? b=some { o with slots:=sl }:=λb o e1 m=>by
  obtain⟨_,o',e2,nf⟩:=I.funs.mem m;rw[e1] at e2;cases e2;obtain⟨sl,q⟩:=up b o (M.keeps b o e1) nf;exact⟨sl,q⟩
 have u:=I.base;rw[hex] at u;refine⟨e,C,t,H,_,none,rfl,I.os,I.bare,⟨λb o e1 e2 e3 e4=>?_,λb o e1 e2 e3 e4=>?_,u.free,λb o e1 e2=>?_,u.tups,u.frzs,u.tbls⟩,λb o e1=>?_,fl,⟨λb o e1 e2=>?_,λb o e1=>?_⟩,ct,hE⟩
 ·exact stay b o (hB b o (u.keep b o e1 e2 e3 e4) (out b o e1 e3))
 ·obtain⟨sl,q⟩:=u.slot b o e1 e2 e3 e4;obtain⟨sl',q'⟩:=slot b _ q e3;exact⟨sl',q'⟩
 ·obtain⟨o',q⟩:=u.there b o e1 e2;by_cases m:b∈X.fs
  ·obtain⟨sl,q'⟩:=slot b o' q m;exact⟨_,q'⟩
  ·exact⟨o',stay b o' (hB b o' q (out b o e1 m))⟩
 ·refine(I.hok b o e1).stay (λc v hc q=>stay c v (hB c v q λz=>?_)) (λ_ q=>q) λ_ _ q=>q;have n:=I.stkFree c z;rcases hc with r | r
  ·rw[r,e1] at n;cases n
  ·rw[r] at n;cases n
 ·obtain⟨o',q⟩:=u.there b o e1 (by simp);exact⟨o',hB b o' q (out b o e1 e2)⟩
 ·obtain⟨ob,q⟩:=(I.hok b o e1).ex;refine⟨ob,hB b ob q λz=>?_⟩;have n:=I.stkFree b z;rw[e1] at n;cases n
def sL{h:Heap}{bmB:List Value}{v:Value}(hv:bmB.contains v=true):∀{l:List Value},OwnTail h bmB l->l.contains v=true
 | _,.base=>hv
 | _,.own _ _ _ t=>by rw[List.contains_cons,sL hv t,qw]
def tN{h h':Heap}(k:∀b o,h.get? b=some o->h'.get? b=some o){N:Addr}{m:Str->Option Value}(x:h.Ns N m):h'.Ns N m:=by
 obtain⟨o,es,ep,ho,r⟩:=x;exact⟨o,es,ep,k _ _ ho,r⟩
def md{h h':Heap}(k:∀b o,h.get? b=some o->h'.get? b=some o){bmB:List Value}:∀{l:List Value},OwnTail h bmB l->OwnTail h' bmB l
 | _,.base=>.base
 | _,.own a b c t=>.own (k _ _ a) (tN k b) c (md k t)
def yw(C:Addr)(E:XK)(t:TA):TS:=λ_ σ H=>t σ H λvs H1=>vs.length<=sizeLine/\E (.ref C) none H1
section
variable {X:Cx}
def Et{x:Str}{C:Addr}{bmB:List Value}{B newId initId:String}{E:XK}{e:Expr}{es:List Expr}{t:TA}{np cpos pos:Pos}(R:Lz X E)(O:OwnCls x C bmB newId X.mg X.base)(F:ExcBaseFacts B newId initId bmB)(hc:X.calm=true)(hg:Gl X x)(ha:PA X (e::es) t)
  (hdb:(x==("__debug__":Str))=false:=by decide) (he:starEach (e::es) X.env=(false,eval e X.env)::starEach es X.env:=by rfl) (hpl:(backTo cpos (starEach es X.env)).any (·.1)=false:=by rfl) :
  PS X (.Raise (some (.Call (.Name x np) (e::es) [] cpos)) none pos) (yw C E t):=by
 intro pins s σ H D I h;obtain⟨bm,N,nm,q,bs,hdct,sn,sub,ab,col,dd,k0,k1,k2,k3,k5,mN,hC,hN,hi,ot⟩:=O.obj;have eq:backTo cpos (starEach (e::es) X.env)=(false,eval e X.env)::backTo cpos (starEach es X.env):=by rw[he];rfl
 have hb:(backTo cpos (starEach (e::es) X.env)).any (·.1)=false:=by rw[eq,gR,hpl];rfl
 refine wpAny_Raise_call_subT (nm:=nm) (q:=q) (N:=N) (bs:=bs) (hdct:=hdct) (sn:=sn) (sub:=sub) (ab:=ab) (col:=col) (dd:=dd) (k0:=k0) (k1:=k1) (k2:=k2) (k3:=k3) (k5:=k5) F (sL F.hasBase ot) (I.ok.hd hc) hb hi (kJ I hg O.bound ⟨rfl,?_⟩ hdb);have pl:=ha cpos pins s σ H _ I h;rw[eq] at pl ⊢;refine Calls.evalArgs_plain (dJ pl λus s1 ⟨vs,H1,I1,r,z,q1⟩=>⟨rfl,by rw[<-r.length];exact z,I1.bk _ _ hC,tN I1.bk hN,md I1.bk ot,λh' a M=>R pins σ H1 s1 h' a C us I1 M q1⟩)
end
def lG(dO:Option Addr)(C a:Addr):HO:=.ext λh=>(∃o,h.get? a=some o/\o.cls=.ref C)/\rP dO a h
abbrev yN (C a:Addr):HO:=lG none C a
def Cx.exc(X:Cx)(a:Addr):Cx:={ X with A:=X.A.mark (some (.ref a)),calm:=false,xe:=λ_ _=>False }
section
variable {X:Cx} {pins:List (Addr×Obj)} {σ:St} {H H':Hp} {s s':Shared}
def Cx.Ok.exc(ok:X.Ok)(a:Addr):(X.exc a).Ok:=
 ⟨ok.mod,ok.kind,ok.glob,ok.blt,ok.above,ok.inj,ok.has,ok.cab,(λz=>nomatch z),ok.frames,ok.stk,ok.exf,ok.bs,ok.bsz,ok.noex,ok.exfs,ok.funs,ok.frf⟩
def bX.exc(I:bX X pins σ H s)(a:Addr):bX (X.exc a) pins σ H s:=⟨I.ok.exc a,I.os,I.bare,I.base,I.loc,I.cell,I.free,I.freeC,I.pin,I.hok,I.len⟩
def bX.unexc{a:Addr}(I:bX (X.exc a) pins σ H s)(ok:X.Ok):bX X pins σ H s:=⟨ok,I.os,I.bare,I.base,I.loc,I.cell,I.free,I.freeC,I.pin,I.hok,I.len⟩
def UpToSlots.trans{h1 h2 h3:Heap}(a:h1.UpToSlots h2)(b:h2.UpToSlots h3):h1.UpToSlots h3:=λc o e nf=>by
 obtain⟨sl,e1⟩:=a c o e nf;obtain⟨sl',e2⟩:=b c _ e1 nf;exact⟨sl',e2⟩
def bX.land{dO:Option Addr}{B:Heap}{a C t:Addr}{h4:Heap}{E:XK}(I:bX X pins σ H s)(os:s'.os=s.os)(bare:AllBare s'.gens)(un:Un (lN X.stack) [] H H' s.heap s'.heap)(hok:pI X.prog X.w H' s'.heap)(f1:B.FlyingW X.stack a (.ref C) (.ref t) s'.heap)
  (cov:Os B s.heap H' X.stack) (f4:B.FlyingW X.stack a (.ref C) (.ref t) h4) (up:s'.heap.UpToSlots h4) (ct:rP dO a h4):bX X pins σ (bP H' a (lG dO C a)) { s' with heap:=h4 }:=by
 have Bn:B.get? a=none:=f1.2.1;have ntr:∀b u,H' b=some u->b≠a:=λb u e z=>by
  obtain⟨o,q⟩:=cov.trk b u e;rw[z,Bn] at q;cases q
 have na:∀b o,s.heap.get? b=some o->b≠a:=λb o e z=>by
  subst z;by_cases m:b∈lN X.stack
  ·obtain⟨_,o1,e1,nf⟩:=f4.2.2.1.mem m;obtain⟨oe,vs,_,_,_,e2,_,e3,_⟩:=f4.2.2.2;rw[e1] at e2;cases e2;exact nf vs e3
  ·obtain⟨o',q⟩:=cov.old b o e m;rw[Bn] at q;cases q
 have fr:∀b o,s'.heap.get? b=some o->b∈lN X.stack->∃sl,h4.get? b=some { o with slots:=sl }:=λb o e m=>by
  obtain⟨_,o1,e1,nf⟩:=f1.2.2.1.mem m;rw[e] at e1;cases e1;exact up b o e nf
 have same:∀b o ob,B.get? b=some ob->s'.heap.get? b=some o->h4.get? b=some o:=λb o ob e e1=>by
  have e2:=f1.1 b ob e;rw[e1] at e2;cases e2;exact f4.1 b o e
 refine I.call' (s':={ s' with heap:=h4 }) (ch:=[]) os ⟨λb o e n hb _=>?_,λb o e n hb hx=>?_,λb o e n hx=>?_,λb o e hx=>?_,λb xs e=>?_,λb o u e=>?_,λb ps e=>?_⟩ (λb o e=>?_) bare (λb z=>nomatch z)
 ·have e1:=un.keep b o e n hb (by simp);obtain⟨ob,q⟩:=cov.old b o e hb;exact same b o ob q e1
 ·obtain⟨sl,e1⟩:=un.slot b o e n hb (by simp);obtain⟨sl',e2⟩:=fr b _ e1 hb;exact⟨sl',e2⟩
 ·rw[aS (na b o e)];exact un.free b o e n (by simp)
 ·obtain⟨o',e1⟩:=un.there b o e (by simp);by_cases m:b∈lN X.stack
  ·obtain⟨sl,q⟩:=fr b o' e1 m;exact⟨_,q⟩
  ·obtain⟨ob,q⟩:=cov.old b o e m;exact⟨_,f4.1 b ob q⟩
 ·have e1:=un.tups b xs e;rw[aS (ntr b _ e1)];exact e1
 ·have e1:=un.frzs b o u e;rw[aS (ntr b _ e1)];exact e1
 ·obtain⟨more,e1⟩:=un.tbls b ps e;exact⟨more,by rw[aS (ntr b _ e1)];exact e1⟩
 ·by_cases z:b=a
  ·subst z;rw[aD] at e;cases e;obtain⟨oe,_,_,_,_,e2,⟨e3,_⟩,_⟩:=f4.2.2.2;refine⟨⟨⟨oe,e2,e3⟩,ct⟩,⟨oe,e2⟩,λh1 h2 ⟨⟨o,e5,e6⟩,⟨o',vs,e7,e8⟩⟩ k=>⟨⟨o,k o e5,e6⟩,⟨o',vs,k o' e7,e8⟩⟩⟩
  ·rw[aS z] at e;refine(hok b o e).stay (λc v hc q=>?_) (λc q=>by rw[aS (ntr c _ q)];exact q) λc xs q=>by rw[aS (ntr c _ q)];exact q
   obtain⟨ob,q'⟩:∃ob,B.get? c=some ob:=by
    rcases hc with r | r
    ·rw[r];exact cov.trk b o e
    ·exact cov.trk c _ r
   exact same c v ob q' q
end
def sD{X:Cx}{pins:List (Addr×Obj)}{σ:St}{H:Hp}{s:Shared}{M:Model}{A:Around}{E:Value->Shared->Prop}{i:Nat}{n:Str}{pos:Pos}{Q:Unit->Shared->Prop}(I:bX X pins σ H s)(hN:X.N.Nodup)(hi:X.N[i]? = some n)(hx:X.env.scope.names.lookup n=some .local)
  (h:∀s',bX X pins (σ.set i none) H s'->Q () s'):wpAny M A (do bindName X.env n Value.none;unbindBehindTheSuite X.env n pos) Q E s:=by
 obtain⟨m,hn,hl⟩:=id I.loc;have hcls:(X.env.scope.kind==.class || (X.env.scope.kind==.module&&X.env.locals != X.env.globals))=false:=by rw[I.ok.kind];rfl
 have cne:=I.cne;refine wpAny_nameGoes_keeps hx hn hcls λh' v hn' hs=>?_;obtain⟨oL,_,_,hoL,_⟩:=id hn;refine h _ ⟨I.ok,I.os,I.bare,⟨λb o e n hb hx=>?_,λb o e n hb hx=>?_,I.base.free,λb o e hx=>?_,I.base.tups,I.base.frzs,I.base.tbls⟩,⟨_,hn',λj y v' e1 e2 e3=>?_⟩,λy c e=>?_,I.free,I.freeC,λp hp=>?_,λb ob e=>?_,by simpa using I.len⟩
 ·exact(hs.2 b (aV (aT (aN e) I.ok.above))).trans (I.base.keep b o e n hb hx)
 ·obtain⟨sl,e1⟩:=I.base.slot b o e n hb hx;exact⟨sl,(hs.2 b (aV (aT (aN e) I.ok.above))).trans e1⟩
 ·obtain⟨o',e1⟩:=I.base.there b o e hx;exact⟨o',(hs.2 b (aV (aT (aN e) I.ok.above))).trans e1⟩
 ·have hj:j≠i:=λz=>by
   subst z;have:j<σ.length:=by rw[I.len];exact(aK.mp e1).1
   rw[iu this] at e2;cases e2
  rw[ji (bc hj)] at e2;obtain⟨u',r',q⟩:=hl j y v' e1 e2 e3;refine⟨u',r',?_⟩;rcases q with ⟨k,e⟩ | ⟨k,c,e,z⟩
  ·refine .inl ⟨k,?_⟩;have:y≠n:=λe=>hj (tO hN e1 (e▸hi));simp[this,e]
  ·exact .inr ⟨k,c,e,z.sameBut hs (cne y c e)⟩
 ·obtain⟨w',z⟩:=I.cell y c e;exact⟨w',z.sameBut hs (cne y c e)⟩
 ·obtain⟨e,n,ne,nf,d⟩:=I.pin p hp;exact⟨(hs.2 p.1 ne).trans e,n,ne,nf,d⟩
 ·refine(I.hok b ob e).stay (λc w' hc q=>(hs.2 c ?_).trans q) (λ_ q=>q) λ_ _ q=>q;rintro rfl;have hfree:=I.free;rcases hc with rfl | hc
  ·rw[hfree] at e;cases e
  ·rw[hfree] at hc;cases hc
structure mQ (a:Addr) (k:Nat) (A:Around):Prop where
 hd:A.handled=some (.ref a)
 dp:A.depth+3 * k+5<recursionLimit
 un:A.units+16 * k+200<cLine
def mQ.deeper{a:Addr}{k:Nat}{A:Around}(r:mQ a (k+1) A)(env:Env):mQ a k (A.deeper env):=
 ⟨r.hd,by have:=r.dp;show A.depth+1+3*k+5<_;lia,by have:=r.un;show A.units+3+16*k+200<_;lia⟩
def mQ.of{a:Addr}{k:Nat}{A:Around}(r:g0 k A):mQ a k (A.mark (some (.ref a))):=⟨rfl,r.dp,r.un⟩
structure yj (P:Program) (w:World) (K:Wb) (mg:Str->Option Value) (base:Heap) (a:Addr) (k:Nat) (f:Addr) (fd:FuncData) (ps:List Str) (sp:Sp):Prop where
 len:∀ vs H Q E,sp vs H Q E->vs.length=ps.length
 run:∀ (A:Around) (outer:List Env) (s:Shared) (H:Hp) (args:Args) (us:List Value) (vs:List V) (Q:VK) (E:XK),mQ a k A->wX P w K mg base A outer s H->BindsTo s fd args (ps.zip us)->cH vs us->sp vs H Q E →
  codeAny (model P w) A (.call (.ref f) args) (CR yo outer P w H s Q E) s
def OE(P:Program)(w:World)(K:Wb)(mg:Str->Option Value)(base:Heap)(N:List Str)(qual:Str)(scope:Scope)(f:Addr)(cd:Value)(A:Around)(outer:List Env)(s:Shared)(H:Hp)(E:XK):Cx:=
 { jq yo P w K mg base N qual scope f cd A outer s H E with calm:=false,xe:=λ_ _=>False }
def Lp{P:Program}{w:World}{K:Wb}{mg:Str->Option Value}{base:Heap}{a:Addr}{k:Nat}{f:Addr}{name qual:Str}{params:Arguments}{body:List Stmt}{scope:Scope}{dV kV doc pm cdv ct oc:Value}{an od:Option Addr}
  {osl:Array (Option Value)} {N ps:List Str} {sp:Sp} (lk:K.lookup f=some ⟨oc,od,.func (PySem.W.fnOf name qual params body scope dV kV doc pm an cdv ct),osl⟩) (hcd:PySem.W.codeIn K cdv qual=true) (S:bO N ps scope)
  (len:∀vs H Q E,sp vs H Q E->vs.length=ps.length)
  (hbody:∀(A:Around) (outer:List Env) (s:Shared) (H:Hp) (vs:List V) (Q:VK) (E:XK),mQ a k (A.deeper (envOfC qual scope s.heap.objs.size f cdv))->sp vs H Q E →
   ∃t,vJ (OE P w K mg base N qual scope f cdv A outer s H E) body t/\t { nx:=λ_ H'=>Q .non H',rt:=Q } (start N vs) H) :
  yj P w K mg base a (k+1) f (PySem.W.fnOf name qual params body scope dV kV doc pm an cdv ct) ps sp:=by
 refine⟨len,λA outer s H args us vs Q E hr e0 hb r hsp=>?_⟩;have hl:=len _ _ _ _ hsp;have KX:K.In s.heap:=e0.mod.kin.keeps λb o e=>(e0.bs b o e).1;have lim:s.heap.NoLimit:=e0.mod.nolimit.keeps λb o e=>(e0.bs b o e).1;have hkind:∀y∈ps.zip us,scope.names.lookup y.1=some .local\/(scope.names.lookup y.1=some .cell/\((cellsFrom (s.heap.objs.size+1) scope.names []).lookup y.1).isSome=true):=λ⟨n,v⟩ hy=>by
  rcases S.par n (jv hy).1 with q | q
  ·exact .inl q
  ·exact .inr ⟨q,io _ _ _ (.inl q)⟩
 refine codeAny_call_function (by have:=hr.dp;lia) (KX _ _ lk) rfl S.co S.gen rfl (PySem.W.codeRec_of KX hcd) (hb _ _ _ _ ?_);refine wpAny_newFunctionEnv_cells S.kind hkind λenv he s1 x=>?_;subst he;refine⟨lim.keeps x.toInCall.keep,codeAny_func ?_⟩;obtain⟨t,ht,hq⟩:=hbody A outer s H vs Q E (hr.deeper _) hsp;have e1:wX P w K mg base { A with handled:=none } outer s H:=⟨e0.frames,e0.mod,e0.bs,e0.bsz,e0.funs,e0.frf,e0.hok,e0.bare⟩
 have I0:=uv (CX:=yo) (E:=E) (f:=f) (qual:=qual) (cd:=cdv) S (A:={ A with handled:=none }) rfl e1 hl r x;have ok0:=I0.ok;have I:bX (OE P w K mg base N qual scope f cdv A outer s H E) [] (start N vs) H s1:=
  ⟨⟨ok0.mod,ok0.kind,ok0.glob,ok0.blt,ok0.above,ok0.inj,ok0.has,ok0.cab,(λz=>nomatch z),Around.frames_deeper e0.frames,ok0.stk,ok0.exf,ok0.bs,ok0.bsz,ok0.noex,ok0.exfs,ok0.funs,ok0.frf⟩,I0.os,I0.bare,I0.base,I0.loc,I0.cell,I0.free,I0.freeC,I0.pin,I0.hok,I0.len⟩
 refine wpAny_mono (ht [] s1 (start N vs) H _ I hq) (λfl s' hs=>?_) λe s' hs=>False.elim hs;have fin:∀{σ':St} {H':Hp} {v:V} {u:Value},bX (OE P w K mg base N qual scope f cdv A outer s H E) [] σ' H' s'->RelV v u->Q v H'->CE outer P w H s Q u s':=
  fun {σ' H' v u} J rv q=>⟨v,H',J.os,J.bare,J.base,J.hok,rv,q⟩
 cases fl with
 | ret u=>
  obtain⟨v,σ',H',J,rv,q⟩:=hs;exact fin J rv q
 | next=>
  obtain⟨σ',H',J,q⟩:=hs;exact fin (v:=V.non) (u:=Value.none) J rfl q
 | brk=>
  obtain⟨_,_,_,q⟩:=hs;exact False.elim q
 | cont=>
  obtain⟨_,_,_,q⟩:=hs;exact False.elim q
def FL{X:Cx}{a:Addr}{k:Nat}{f:Addr}{fd:FuncData}{ps:List Str}{sp:Sp}{x:Str}{e:Expr}{es:List Expr}{t:TA}{p pos:Pos}(F:yj X.prog X.w X.K X.mg X.base a k f fd ps sp)(hr:mQ a k X.A)(hg:Gl X x)(hm:X.mg x=some (.ref f))(hk:PySem.W.keepIn X.K (.ref f)=true)(hb:Binds X.K fd ps [])
  (ha:PA X (e::es) t) (hdb:(x==("__debug__":Str))=false:=by decide) (he:starEach (e::es) X.env=(false,eval e X.env)::starEach es X.env:=by rfl) (hpl:(backTo pos (starEach es X.env)).any (·.1)=false:=by rfl) :
  PE X (.Call (.Name x p) (e::es) [] pos) (pM sp [] E0 t):=by
 intro pins s σ H Q I h;refine WL (kJ I hg hm ?_ hdb);refine iX (h₀:=X.base) I.ok.mod.kin hk (dJ (ha pos pins s σ H _ I h) λus s1 ⟨vs,H1,I1,r,q⟩=>⟨I1.kIn,?_⟩) he hpl;have r2:cH (vs++[]) (us++[]):=r.append .nil;have hl:(us++[]).length=ps.length:=by rw[<-r2.length];exact F.len _ _ _ _ q
 refine WJ (WK (F.run X.A X.stack s1 H1 ⟨us,[]⟩ (us++[]) (vs++[]) Q E0 hr I1.env0 (hb s1 us I1.kIn hl) r2 q) λr s' hq=>?_);cases r with
 | error e=>exact False.elim hq
 | ok fl=>
  cases fl with
  | ret u=>exact I1.after hq
  | next=>exact False.elim hq
  | brk=>exact False.elim hq
  | cont=>exact False.elim hq
def Cs{prog:Program}{w:World}{A:Around}{E:Value->Shared->Prop}{s:Shared}{K:Wb}{a C N:Addr}{o:Obj}{bs bm bmB:List Value}{nm q:Str}{hdct:Bool}{sn:List Str}{sub:List Value}{ab:Bool}{col:Option Bool}{dd:Option Addr}{k0 k1 k2 k3 k5:Option Value}{B newId:String}{Q:Option Value->Shared->Prop}
  (X:K.In s.heap) (I:PySem.W.InstAt s.heap a o C none) (hga:PySem.W.findIn K (.ref C) "__getattribute__"=some (some (.builtin "BaseException.__getattribute__"))) (hgt:PySem.W.findIn K (.ref C) "__getattr__"=some none)
  (hf:PySem.W.findObj K C none "__class__"=some (.bind (.builtin "getset_descriptor.__get__") (.builtin "object.__class__"))) (hm:PySem.W.mroIn K C (.type "object")=some true) (FB:ExcAttrBase B bmB)
  (hC:s.heap.get? C=some (excClassObj nm q C N bs bm hdct sn sub ab col dd k0 k1 k2 k3 k5 newId)) (T:OwnTailQ s.heap bmB bm) (hq:Q (some (.ref C)) { s with toks:=s.toks+1 }):wpAny (model prog w) A (getAttr? (.ref a) "__class__") Q E s:=by
 obtain⟨h,g,d,t,os⟩:=s;unfold getAttr?;refine wpAny_bind (wpAny_mkText ?_);unfold getAttrBy?;refine wpAny_bind (WR ?_);unfold getAttrBy;refine WB (wpAny_bind (bi (cz I) (wpAny_bind (bi (dL X hga) ?_))));refine WU (by rfl) ?_;unfold getAttrByItsOwn hookBefore;refine wpAny_bind (wpAny_ite_true (by rfl) (bi (dL X hgt) (wpAny_bind (WR (WB ?_)))));unfold callGetattribute boundAndCalled;refine WU (by rfl) (wpAny_bind (wpAny_of_eq (FB.ga.bind (Value.ref a)) (WJ (WV FB.ga.plain nS (WW FB hC T I.at_ I.cls ?_)))));unfold Builtin.«object.__getattribute__»;refine wpAny_bind ?_;unfold slotArgs;refine WU (by rfl) (WU (by rfl) (WE ?_));show wpAny _ _ (Bind.bind (Builtin.ObjectAttr.attrName (Value.str (Str.ofString "__class__") _)) _) _ _ _;refine wpAny_bind ?_;unfold Builtin.ObjectAttr.attrName;refine WE ?_;refine wpAny_bind (bi (cz I) (wpAny_bind (bi (kj X I hf) ?_)));unfold Builtin.ObjectAttr.bindTo;refine wpAny_bind (WB (WJ (PySem.W.class_get X I hm ?_)));refine WE ?_;refine lO rfl ?_;exact WE hq
structure wW (K:Wb) (C:Addr):Prop where
 ga:PySem.W.findIn K (.ref C) "__getattribute__"=some (some (.builtin "BaseException.__getattribute__"))
 gt:PySem.W.findIn K (.ref C) "__getattr__"=some none
 fo:PySem.W.findObj K C none "__class__"=some (.bind (.builtin "getset_descriptor.__get__") (.builtin "object.__class__"))
 mro:PySem.W.mroIn K C (.type "object")=some true
 lk:∃ c dd cd sl,K.lookup C=some ⟨c,dd,.cls cd,sl⟩
 own:∃ B bmB,ExcAttrBase B bmB/\∀ h:Heap,K.In h->∃ nm q N bs bm hdct sn sub ab col dd k0 k1 k2 k3 k5 newId,h.get? C=some (excClassObj nm q C N bs bm hdct sn sub ab col dd k0 k1 k2 k3 k5 newId)/\OwnTailQ h bmB bm
def MF(C a:Addr)(h:Heap):Prop:=(∃o,h.get? a=some o/\o.cls=.ref C)/\PM a h
def MF.inst{C a:Addr}{h:Heap}(x:MF C a h):∃o,PySem.W.InstAt h a o C none:=by
 obtain⟨⟨o,e1,e2⟩,o',vs,e3,⟨e4,e5⟩,_⟩:=x;rw[e1] at e3;cases e3;exact⟨o,e1,e2,by unfold PySem.W.notCls;rw[e5],by rw[e4];trivial⟩
def Fl{K:Wb}{C a:Addr}(k:wW K C):PySem.W.KitX K (.ref a) (.ref C) (MF C a):=by
 obtain⟨c,dd,cd,sl,lk⟩:=k.lk;refine⟨λM h _ x=>?_,λM h X _ A Q E s kp hq=>?_,λh tp dd' its n sl' X htp=>?_,fun {prog w A E Q s} X x hq=>?_⟩
 ·obtain⟨o,I⟩:=x.inst;exact cz I
 ·exact wpAny_bind (wpAny_loadPart (kp C _ (X C _ lk)) (WE hq))
 ·refine Bool.eq_false_iff.mpr λq=>?_;have e:=Value.ref.inj (beq_iff_eq.mp q);subst e;rw[X C _ lk] at htp;cases htp
 ·obtain⟨o,I⟩:=x.inst;obtain⟨B,bmB,FB,ow⟩:=k.own;obtain⟨nm,q,N,bs,bm,hdct,sn,sub,ab,col,dd,k0,k1,k2,k3,k5,newId,hC,T⟩:=ow s.heap X;exact Cs X I k.ga k.gt k.fo k.mro FB hC T hq
section
variable {K:Wb} {C D R:Addr} {dd:Option Addr} {cd:ClassData} {sl:Array (Option Value)} {b:Bool}
def Bl (lk:K.lookup D=some ⟨.type "type",dd,.cls cd,sl⟩) (m:PySem.W.mroIn K C (.ref D)=some b):PySem.W.kitCls K (.ref C) (.ref D)=some b:=by
 have e1:PySem.W.clsIn K D=some cd:=by unfold PySem.W.clsIn;rw[lk]
 have e2:PySem.W.typeIn K (.ref D)=some (.type "type"):=by show Option.map (λx=>x.cls) (List.lookup D K)=_;rw[lk];rfl
 show (if ((PySem.W.clsIn K D).isSome&&PySem.W.typeIn K (Value.ref D)==some (Value.type "type"))=true then PySem.W.subIn K (Value.ref C) (Value.ref D) else none)=some b;rw[e1,e2];rw[W5 (by simp)];exact m
def iA (ne:(Value.ref C==Value.ref D)=false) (lk:K.lookup D=some ⟨.type "type",dd,.cls cd,sl⟩) (m:PySem.W.mroIn K C (.ref D)=some b):PySem.W.kitOne K (.ref C) (.ref D)=some b:=by
 unfold PySem.W.kitOne;rw[W4 (by rw[ne];exact aq)];exact Bl lk m
def tV:PySem.W.kitOne K (.ref C) (.ref C)=some true:=by
 unfold PySem.W.kitOne;rw[W5 (beq_self_eq_true _)]
def tU{T:String}(mt:PySem.W.kitMeta T=true)(m:PySem.W.mroIn K C (.type T)=some b):PySem.W.kitOne K (.ref C) (.type T)=some b:=by
 unfold PySem.W.kitOne PySem.W.kitCls;rw[W4 (by exact λz=>nomatch (beq_iff_eq.mp z))];simp only[mt,W9];exact m
def iN (lk:K.lookup R=some ⟨.type "type",dd,.cls cd,sl⟩) (m:PySem.W.mroIn K C (.ref R)=some b) (e:PySem.W.mroIn K R (.type "BaseException")=some true):PySem.W.exmOne K (.ref C) (.ref R)=some b:=by
 unfold PySem.W.exmOne;rw[W5 (by show (PySem.W.mroIn K R (.type "BaseException")==some true)=true;rw[e];rfl)];exact Bl lk m
def find_none {name:Str} {a g:Value} (lk:K.lookup C=some ⟨.type "type",dd,.cls cd,sl⟩) (h1:PySem.W.findIn K (.ref C) name=some (some a)) (h2:PySem.W.specialIn K a "__get__"=some (some g)) (h3:PySem.W.takesIn K a=some true):PySem.W.findObj K C none name=some (.bind g a):=by
 have e1:PySem.W.clsIn K C=some cd:=by unfold PySem.W.clsIn;rw[lk]
 unfold PySem.W.findObj;simp only[e1,h1,h2,h3,Option.bind_some]
end
def strKeys(es:Array DictEntry):Bool:=es.toList.all λe=>match e.key with | .str _ _=>true | _=>false
def j3{K:Wb}{N:Addr}{c:Value}{d:Option Addr}{es:Array DictEntry}{ep:Nat}{sl:Array (Option Value)}(lk:K.lookup N=some ⟨c,d,.dict es ep,sl⟩)(h:strKeys es=true):PySem.W.nsOkIn K N=true:=by
 unfold PySem.W.nsOkIn;rw[lk];unfold strKeys at h;rw[Array.all_toList] at h;exact h
def Eg {P:Str->Prop} (h1:P "__init__") (h2:P "__getattribute__") (h3:P "__getattr__") (h4:P "args"):∀n∈quietNames,P n:=λn hn=>by
 unfold quietNames at hn;simp only[aF,bB,or_false] at hn;rcases hn with rfl | rfl | rfl | rfl<;>assumption
def pG{K:Wb}{C R N NR:Addr}{nm q x:Str}{bs bmB:List Value}{hdct:Bool}{sn:List Str}{sub:List Value}{ab:Bool}{col:Option Bool}{dd dR:Option Addr}{k0 k1 k2 k3 k5:Option Value}{newId B:String}{cR:Value}{cdR:ClassData}{slR:Array (Option Value)}{mg:Str->Option Value}{base:Heap}
  (KX:K.In base) (G:base.Ns mainGlobals mg) (e0:PySem.W.nsIn K mainGlobals x=some (some (.ref C))) (lkC:K.lookup C=some (excClassObj nm q C N bs (.ref R::bmB) hdct sn sub ab col dd k0 k1 k2 k3 k5 newId)) (lkR:K.lookup R=some ⟨cR,dR,.cls cdR,slR⟩)
  (nC:PySem.W.nsOkIn K N=true) (iC:PySem.W.nsIn K N "__init__"=some none) (eR:cdR.ns=NR) (nR:PySem.W.nsOkIn K NR=true) (r1:PySem.W.nsIn K NR "__init__"=some none) (r2:PySem.W.nsIn K NR "__getattribute__"=some none) (r3:PySem.W.nsIn K NR "__getattr__"=some none) (r4:PySem.W.nsIn K NR "args"=some none)
  (FB:ExcAttrBase B bmB) (ga:PySem.W.findIn K (.ref C) "__getattribute__"=some (some (.builtin "BaseException.__getattribute__"))) (gt:PySem.W.findIn K (.ref C) "__getattr__"=some none) (gc:PySem.W.findIn K (.ref C) "__class__"=some (some (.builtin "object.__class__")))
  (sp:PySem.W.specialIn K (.builtin "object.__class__") "__get__"=some (some (.builtin "getset_descriptor.__get__"))) (tk:PySem.W.takesIn K (.builtin "object.__class__")=some true) (mr:PySem.W.mroIn K C (.type "object")=some true):OwnCls x C bmB newId mg base/\wW K C:=by
 subst eR;refine⟨⟨cK KX G e0,?_⟩,⟨ga,gt,find_none lkC gc sp tk,mr,⟨_,_,_,_,lkC⟩,B,bmB,FB,λh X=>?_⟩⟩
 ·exact⟨_,N,nm,q,bs,hdct,sn,sub,ab,col,dd,k0,k1,k2,k3,k5,_,KX _ _ lkC,fG (dg KX nC),bY KX nC iC,
   .own (KX _ _ lkR) (fG (dg KX nR)) (bY KX nR r1) .base⟩
 ·exact⟨nm,q,N,bs,_,hdct,sn,sub,ab,col,dd,k0,k1,k2,k3,k5,newId,X _ _ lkC,.own (X _ _ lkR) (fG (dg X nR))
   (Eg (bY X nR r1) (bY X nR r2) (bY X nR r3) (bY X nR r4)) .base⟩
structure lm (P:Program) (w:World) (K:Wb) (mg:Str->Option Value) (base:Heap) (k:Nat) (x:Str) (st:Stmt) (ps:List Str) (sp:Sp):Prop where
 ex:∃ f fd,wV K x x st f fd/\mg x=some (.ref f)/\Binds K fd ps []/\oW P w K mg base (qv P w) k f fd ps sp
structure Ga (P:Program) (w:World) (K:Wb) (mg:Str->Option Value) (base:Heap) (k:Nat) (x:Str) (st:Stmt) (ps:List Str) (sp:Addr->Sp):Prop where
 ex:∃ f fd,wV K x x st f fd/\mg x=some (.ref f)/\Binds K fd ps []/\∀ a,yj P w K mg base a k f fd ps (sp a)
section
variable {P:Program} {w:World} {K:Wb} {mg:Str->Option Value} {base:Heap} {k:Nat} {x:Str} {st:Stmt} {ps:List Str} {sp:Sp}
def Fn.mkX(E:Fn K mg x st ps)(h:∀f fd,wV K x x st f fd->oW P w K mg base (qv P w) k f fd ps sp):lm P w K mg base k x st ps sp:=by
 obtain⟨f,fd,F,m,b⟩:=E.ex;exact⟨f,fd,F,m,b,h f fd F⟩
def Fn.mkH{sp:Addr->Sp}(E:Fn K mg x st ps)(h:∀f fd,wV K x x st f fd->∀a,yj P w K mg base a k f fd ps (sp a)):Ga P w K mg base k x st ps sp:=by
 obtain⟨f,fd,F,m,b⟩:=E.ex;exact⟨f,fd,F,m,b,h f fd F⟩
def wV.okX{qual:Str}{f:Addr}{fd:FuncData}{N:List Str}(F:wV K x qual st f fd)(S:bO N ps (a9 st))(len:∀vs H Q E,sp vs H Q E->vs.length=ps.length)
  (hbody:∀(cdv:Value) (A:Around) (outer:List Env) (s:Shared) (H:Hp) (vs:List V) (Q:VK) (E:XK),g0 k (A.deeper (envOfC qual (a9 st) s.heap.objs.size f cdv))->sp vs H Q E →
   ∃(σ:St) (t:TS),start N vs=σ/\vJ (jq (qv P w) P w K mg base N qual (a9 st) f cdv A outer s H E) (iB st) t/\t { nx:=λ_ H'=>Q .non H',rt:=Q } σ H):oW P w K mg base (qv P w) (k+1) f fd ps sp:=by
 obtain⟨oc,od,kV,doc,pm,an,cdv,ct,osl,rfl,lk,hcd⟩:=F.ex;refine Je lk hcd S len λA outer s H vs Q E hr hsp=>?_;obtain⟨σ,t,e,h,q⟩:=hbody cdv A outer s H vs Q E hr hsp;exact⟨t,h,by rw[e];exact q⟩
def wV.okH{a:Addr}{qual:Str}{f:Addr}{fd:FuncData}{N:List Str}(F:wV K x qual st f fd)(S:bO N ps (a9 st))(len:∀vs H Q E,sp vs H Q E->vs.length=ps.length)
  (hbody:∀(cdv:Value) (A:Around) (outer:List Env) (s:Shared) (H:Hp) (vs:List V) (Q:VK) (E:XK),mQ a k (A.deeper (envOfC qual (a9 st) s.heap.objs.size f cdv))->sp vs H Q E →
   ∃(σ:St) (t:TS),start N vs=σ/\vJ (OE P w K mg base N qual (a9 st) f cdv A outer s H E) (iB st) t/\t { nx:=λ_ H'=>Q .non H',rt:=Q } σ H):yj P w K mg base a (k+1) f fd ps sp:=by
 obtain⟨oc,od,kV,doc,pm,an,cdv,ct,osl,rfl,lk,hcd⟩:=F.ex;refine Lp lk hcd S len λA outer s H vs Q E hr hsp=>?_;obtain⟨σ,t,e,h,q⟩:=hbody cdv A outer s H vs Q E hr hsp;exact⟨t,h,by rw[e];exact q⟩
end
section
variable {X:Cx}
def Kv{st:Stmt}{t:TS}(h:PS X.nox st t):PS X st t:=λpins s σ H D I hw=>
 wpAny_mono (h pins s σ H D (I.wish _) hw) (λ_ _ q=>q.unwish) λ_ _ z=>False.elim z
def Kq{e:Expr}{t:TT}(h:PT X.nox e t):PT X e t:=h.nox
def FG {x:Str} {C:Addr} {pos:Pos} (hg:Gl X x) (hm:X.mg x=some (.ref C)) (hd:(x==("__debug__":Str))=false:=by decide):PE X (.Name x pos) (tC (.ref C)):=sB hg hm rfl hd
def FK{k:Nat}{x:Str}{st:Stmt}{ps:List Str}{sp:Sp}{e:Expr}{es:List Expr}{t:TA}{p pos:Pos}(D:lm X.prog X.w X.K X.mg X.base k x st ps sp)(hr:g0 k X.A)(hg:Gl X x)(ha:PA X (e::es) t)
  (hdb:(x==("__debug__":Str))=false:=by decide) (he:starEach (e::es) X.env=(false,eval e X.env)::starEach es X.env:=by rfl) (hpl:(backTo pos (starEach es X.env)).any (·.1)=false:=by rfl) :
  PE X (.Call (.Name x p) (e::es) [] pos) (pM sp [] E0 t):=by
 obtain⟨f,fd,F,m,b,G⟩:=D.ex;exact vi G hr hg m F.kp b .nil NS ha hdb he hpl
def C1{a:Addr}{k:Nat}{x:Str}{st:Stmt}{ps:List Str}{sp:Addr->Sp}{e:Expr}{es:List Expr}{t:TA}{p pos:Pos}(D:Ga X.prog X.w X.K X.mg X.base k x st ps sp)(hr:mQ a k X.A)(hg:Gl X x)(ha:PA X (e::es) t)
  (hdb:(x==("__debug__":Str))=false:=by decide) (he:starEach (e::es) X.env=(false,eval e X.env)::starEach es X.env:=by rfl) (hpl:(backTo pos (starEach es X.env)).any (·.1)=false:=by rfl) :
  PE X (.Call (.Name x p) (e::es) [] pos) (pM (sp a) [] E0 t):=by
 obtain⟨f,fd,F,m,b,G⟩:=D.ex;exact FL (G a) hr hg m F.kp b ha hdb he hpl
end
section
variable {σ:St} {H:Hp}
def A5{C:Addr}{E:XK}{t:TA}{D:Ends}:yw C E t D σ H=t σ H λvs H1=>vs.length<=sizeLine/\E (.ref C) none H1:=rfl
end
def nQ:bootBuiltins "ValueError"=some (.type "ValueError"):=by decide +kernel
structure OK (K:Wb) (C:Addr) (ds:List Addr) (due:Nat):Prop where
 ek:wW K C
 kit:∀ j d,ds[j]? = some d->PySem.W.kitOne K (.ref C) (.ref d)=some (decide (j=due))
 val:PySem.W.kitOne K (.ref C) (.type "ValueError")=some true
def F5:typeLookup (.type "list_reverseiterator") "__len__"=pure none:=by rw[typeLookup_type,builtinLookup_eq_fast];kernel_rfl
def Ig:typeLookup (.type "list_reverseiterator") "__length_hint__"=pure (some (.builtin "list_reverseiterator.__length_hint__")):=by rw[typeLookup_type,builtinLookup_eq_fast];kernel_rfl
section
variable {prog:Program} {w:World} {A:Around} {E:Value->Shared->Prop} {s:Shared}
def Fx{I l:Addr}{i:Int}{Q:Bool->Shared->Prop}(hit:s.heap.IsRevIter I l i)(h:Q false s):wpAny (model prog w) A (Builtin.List.listLengthHint (.ref I)) Q E s:=by
 unfold Builtin.List.listLengthHint;refine wpAny_bind (wpAny_specialOf hit.typeIs F5 ?_);show wpAny _ A (specialOf (Value.ref I) (Str.ofString "__length_hint__")>>=_) _ _ _;refine wpAny_bind (wpAny_specialOf hit.typeIs Ig ?_);generalize hid:("list_reverseiterator.__length_hint__":String)=id0
 wp_delta
 rw[show splitId id0=some ("list_reverseiterator","__length_hint__") from by subst hid;decide +kernel];subst hid;refine wpAny_bind (wpAny_isInstance (b:=true) hit.typeIs (by rw[isSubtype_type];kernel_rfl) ?_);refine WE ?_;exact h
def AJ{R:Result->Shared->Prop}{l I:Addr}{items:Array Value}(hh:A.handled=none)(hit:s.heap.IsRevIter I l ((items.size:Int) - 1))(hl:s.heap.IsList l items)(hne:l≠I)(hlen:items.size<=1000)(S:Addr)(res:Value)(c₀:Nat)
  (hS:s.heap.get? S=some { cls:=.type "list",data:=.seq #[] c₀ }) (hSI:S≠I) (hSl:S≠l)
  (hR:∀h' tk acc' c',(∀b o,b≠S->b≠I->s.heap.get? b=some o->h'.get? b=some o)->h'.get? S=some { cls:=.type "list",dict:=none,data:=.seq acc' c',slots:=#[] } →
   ItemsOf (λi v=>items[items.size - 1-i]? = some v) acc' items.size->R (.ok (.ret res)) { s with heap:=h',toks:=tk }) :
  wpAny (model prog w) A.in1 (Builtin.List.listExtendWith (.ref S) (.ref I) res)
   (λfin s'=>match fin with | .done f=>R (.ok f) s' | .again c'=>c'.quiet=true/\codeAny (model prog w) A c' R s') (λe s'=>R (.error e) s') s:=by
 have hSf:S∉[I,l]:=λhm=>by
  rcases aF.mp hm with e | e
  ·exact hSI e
  ·exact hSl (bQ.mp e)
 have W:=(Walks.listRev (prog:=prog) (w:=w) (A:=A.in1) hh I l hne items).toS;have h1:Builtin.List.listSameRef (.ref S) (.ref I)=false:=by simp[Builtin.List.listSameRef,hSI]
 have h2:(Value.type "list_reverseiterator"==Value.type "list")=false:=by decide
 have h3:(Value.type "list_reverseiterator"==Value.type "tuple")=false:=by decide
 have hz:((items.size:Int) - 1-((0:Nat):Int))=(items.size:Int) - 1:=by simp
 unfold Builtin.List.listExtendWith;refine wpAny_bind (wpAny_typeOf hit.typeIs ?_);simp only[h1,h2,h3,lq,dh,Wa];refine wpAny_bind (wpAny_pyIter_revIter hit ?_);refine wpAny_bind (WB (Fx hit ?_));refine WE ⟨plainId_quiet F.plain_extend_loop _,?_⟩;refine codeAny_extend_loopS W (ba (cB hlen)) S hSf res items.size 0 _ #[] c₀ rfl (bU _) ⟨bU _,by rw[hz];exact hit,hl⟩ hS (ItemsOf.nil _) λs' acc' c' hm hS' hacc=>?_;rw[Moved.eq_with hm];refine hR s'.heap s'.toks acc' c' (λb o hb hb2 e=>hm.heap b o (λhmem=>?_) e) hS' hacc;rcases aF.mp hmem with e' | hmem
 ·exact hb e'
 ·exact hb2 (bQ.mp hmem)
def Ft{R:Result->Shared->Prop}{l I:Addr}{items:Array Value}(hh:A.handled=none)(hit:s.heap.IsRevIter I l ((items.size:Int) - 1))(hl:s.heap.IsList l items)(hne:l≠I)(hlen:items.size<=1000)(S:Addr)
  (hS:s.heap.get? S=some { cls:=.type "list",data:=.seq #[] }) (hSI:S≠I) (hSl:S≠l)
  (hR:∀h' tk acc' c',(∀b o,b≠S->b≠I->s.heap.get? b=some o->h'.get? b=some o)->h'.get? S=some { cls:=.type "list",dict:=none,data:=.seq acc' c',slots:=#[] } →
   ItemsOf (λi v=>items[items.size - 1-i]? = some v) acc' items.size->R (.ok (.ret .none)) { s with heap:=h',toks:=tk }) :
  wpAny (model prog w) A.in1 (Builtin.«list.__init__» ⟨[.ref S,.ref I],[]⟩)
   (λfin s'=>match fin with | .done f=>R (.ok f) s' | .again c'=>c'.quiet=true/\codeAny (model prog w) A c' R s') (λe s'=>R (.error e) s') s:=by
 show wpAny _ _ (do let old <-Builtin.List.listItems (.ref S);Builtin.List.listUpdate (.ref S) (λ_=>#[]);letGo old.toList.reverse;Builtin.List.listExtendWith (.ref S) (.ref I) .none) _ _ s;refine wpAny_bind ?_;unfold Builtin.List.listItems;refine wpAny_bind (WX hS rfl (WE ?_));show wpAny _ _ (updateSeq S (λ_=>#[])>>=λ_=>letGo (#[]:Array Value).toList.reverse>>=λ_=>Builtin.List.listExtendWith (.ref S) (.ref I) .none) _ _ s;refine wpAny_bind (wpAny_updateSeq hS rfl ?_);have hS₂:=c7 (Obj.mapSeq (λ_=>(#[]:Array Value))) hS rfl;have oth:∀b o,b≠S->s.heap.get? b=some o->(s.heap.update S (Obj.mapSeq (λ_=>(#[]:Array Value)))).get? b=some o:=
  λb o hb e=>(ix _ _ (bc hb)).trans e
 refine wpAny_bind (wpAny_letGo ?_);refine AJ hh (hit.at λo e=>oth I o hSI.symm e) (hl.at λo e=>oth l o hSl.symm e) hne hlen S .none _ hS₂ hSI hSl λh' tk acc' c' hk hS' hacc=>?_;exact hR h' tk acc' c' (λb o hb hb2 e=>hk b o hb hb2 (oth b o hb e)) hS' hacc
def uZ{Q:Value->Shared->Prop}{l I:Addr}{items:Array Value}(hh:A.handled=none)(hit:s.heap.IsRevIter I l ((items.size:Int) - 1))(hl:s.heap.IsList l items)(hne:l≠I)(hlen:items.size<=1000)
  (hQ:∀h' tk acc' c',(∀b o,b≠I->s.heap.get? b=some o->h'.get? b=some o) →
   h'.get? s.heap.objs.size=some { cls:=.type "list",dict:=none,data:=.seq acc' c',slots:=#[] }->ItemsOf (λi v=>items[items.size - 1-i]? = some v) acc' items.size->Q (.ref s.heap.objs.size) { s with heap:=h',toks:=tk }) :
  wpAny (model prog w) A (call (.type "list") [.ref I]) Q E s:=by
 refine callType_codes (Q₁:=λobj s₁=>obj=.ref s.heap.objs.size/\s₁={ s with heap:=s.heap.push { cls:=.type "list",data:=.seq #[] } }) F.called_list (F.typeCall_list_1 _) F.entry_list_init
  (code_list_new _ ⟨rfl,rfl⟩) λobj s₁ h₁=>?_
 obtain⟨rfl,rfl⟩:=h₁;have hS:(s.heap.push { cls:=.type "list",data:=.seq #[] }).get? s.heap.objs.size=some { cls:=.type "list",data:=.seq #[] }:=aL _ rfl;obtain⟨o1,e1,_⟩:=id hit;obtain⟨o2,e2,_⟩:=id hl;have n1:s.heap.objs.size≠I:=(aV (aN e1)).symm;have n2:s.heap.objs.size≠l:=(aV (aN e2)).symm;refine⟨⟨_,hS,rfl⟩,F.args_list_init_2 _ _,Ft (A:=A.in1) hh (hit.at λo e=>aA _ e) (hl.at λo e=>aA _ e) hne hlen _ hS n1 n2 λh' tk acc' c' hk hS' hacc=>?_⟩;exact⟨rfl,hQ h' tk acc' c' (λb o hb e=>hk b o (aV (aN e)) hb (aA _ e)) hS' hacc⟩
end
def KZ(te:TE):TE:=λσ H Q=>te σ H λx H1=>∃(a:Addr) (xs:List V),x=.ref a/\H1 a=some (.lst xs)/\xs.length<=1000/\∀l,H1 l=none->Q (.ref l) (bP H1 l (.lst xs.reverse))
def w_rev{te:TE}{σ:St}{H:Hp}{Q:VK}:KZ te σ H Q=te σ H λx H1=>∃(a:Addr) (xs:List V),x=.ref a/\H1 a=some (.lst xs)/\xs.length<=1000/\∀l,H1 l=none->Q (.ref l) (bP H1 l (.lst xs.reverse)):=rfl
def Dn{xs:List V}{us:List Value}(r:cH xs us):∀{i:Nat} {x:V} {u:Value},xs[i]? = some x->us[i]? = some u->RelV x u:=by
 induction r with
 | nil=>intro i x u h;simp at h
 | cons a b ih=>
  intro i x u h h';cases i with
  | zero=>cases h;cases h';exact a
  | succ i=>exact ih h h'
def Aj{xs:List V}{us:List Value}(hl:xs.length=us.length)(h:∀(i:Nat) x u,xs[i]? = some x->us[i]? = some u->RelV x u):cH xs us:=by
 induction xs generalizing us with
 | nil=>cases us with | nil=>exact .nil | cons a b=>simp at hl
 | cons x xs ih=>
  cases us with
  | nil=>simp at hl
  | cons u us=>exact .cons (h 0 x u rfl rfl) (ih (by simpa using hl) λi y v h1 h2=>h (i+1) y v h1 h2)
def z9 {X:Cx} {e:Expr} {te:TE} {p p2 pos2 pos:Pos} (hc:X.calm=true) (hgl:Gl X "list") (hml:X.mg "list"=none) (hgr:Gl X "reversed") (hmr:X.mg "reversed"=none) (he:PE X e te)
  (hs:starEach [.Call (.Name "reversed" p2) [e] [] pos2] X.env=[(false,eval (.Call (.Name "reversed" p2) [e] [] pos2) X.env)]:=by rfl) (hs2:starEach [e] X.env=[(false,eval e X.env)]:=by rfl) :
  PE X (.Call (.Name "list" p) [.Call (.Name "reversed" p2) [e] [] pos2] [] pos) (KZ te):=by
 intro pins s σ H Q I h;refine WL (jm I hgl hml boot_list ?_);refine bW ?_ hs rfl;rw[hs];show wpAny _ _ (spliced ((false,eval (.Call (.Name "reversed" p2) [e] [] pos2) X.env)::[])) _ _ s;refine lE (WL (jm I hgr hmr boot_reversed (bW ?_ hs2 rfl)));rw[hs2];show wpAny _ _ (spliced ((false,eval e X.env)::[])) _ _ s;refine lE (dJ (he pins s σ H _ I h) λu s1 ⟨x,H1,I1,r1,a,xs,ex,hx,hle,q⟩=>?_);subst ex;cases r1;obtain⟨hz,its,n,rv,hlen,ho⟩:=I1.lstM hx;have hL:s1.heap.IsList a its.toArray:=⟨_,ho,rfl,n,rfl⟩
 have hsz:its.toArray.size=its.length:=by simp
 have hal:=aN ho;refine lX (call_reversed_list hL (lX ?_));refine uZ (I:=s1.heap.objs.size) (l:=a) (items:=its.toArray) (I1.ok.hd hc) ⟨_,aL _ rfl,rfl,rfl⟩ (hL.at λo e=>aA _ e) (aV hal) (by rw[hsz];lia) λh' tk acc' c' kp e' hit=>?_;have sz:(s1.heap.push (revObj a ((its.toArray.size:Int) - 1))).objs.size=s1.heap.objs.size+1:=bq _ _;have hv:cH xs.reverse acc'.toList:=by
  obtain⟨a1,a2⟩:=hit;rw[hsz] at a1 a2;have al:acc'.toList.length=its.length:=by rw[<-a1];simp
  refine Aj (by rw[fX,hlen,al]) λi x u h1 h2=>?_;have hu:acc'[i]? = some u:=by simpa using h2
  have h3:=a2 i u hu;have hi:i<its.length:=by rw[<-a1];exact(Array.getElem?_eq_some_iff.mp hu).1
  rw[List.getElem?_reverse (by rw[hlen];exact hi),hlen] at h1;have h4:its[its.length - 1-i]? = some u:=by simpa using h3
  exact Dn rv h1 h4
 refine⟨.ref _,_,I1.laid (h':=h') (t':=tk) (λb o e=>kp b o (aV (aN e)) (aA _ e)) (by rw[sz];exact eS _) (show cw X.prog X.w _ h' _ (.lst _) from ⟨by rw[fX];exact hz,acc'.toList,c',hv,by simpa using e'⟩),rfl,q _ (I1.hok.fresh (by rw[sz];exact eS _))⟩
structure QE (X:Cx) (e:Expr) (t:TE):Prop where
 h:PE X e t
structure QT (X:Cx) (e:Expr) (t:TT):Prop where
 h:PT X e t
structure QA (X:Cx) (es:List Expr) (t:TA):Prop where
 h:PA X es t
structure QS (X:Cx) (st:Stmt) (t:TS):Prop where
 h:PS X st t
structure ij (X:Cx) (sts:List Stmt) (t:TS):Prop where
 h:vJ X sts t
structure QG (X:Cx) (e:Expr) (t:TG):Prop where
 h:PG X e t
structure OI (X:Cx) (es:List Expr) (t:DO):Prop where
 h:Nc X es t
structure QF (X:Cx) (es:List Expr) (t:TT):Prop where
 h:PF X es t
structure QW (X:Cx) (e:Expr) (t:TT):Prop where
 h:PW X e t
structure QO (X:Cx) (e:Option Expr) (t:TO):Prop where
 h:PO X e t
structure JH (X:Cx) (pos:Pos) (keys:List (Option Expr)) (values:List Expr) (trs:List (TE×TE)):Prop where
 h:Nb X pos keys values trs
structure QI (X:Cx) (tg iter:Expr) (t:TI):Prop where
 h:PI X tg iter t
def QW.pt{X:Cx}{e:Expr}{t:TT}(h:QW X e t):QT X e t:=⟨h.h.pt⟩
section
variable {X:Cx}
def aE{i j pos}:QE X (.Constant (.int i) j pos) (tC (.int i)):=⟨LO ⟩
end
section
variable {X:Cx}
def ci{b j pos}:QE X (.Constant (.bool b) j pos) (tC (.bl b)):=⟨NQ ⟩
end
section
variable {X:Cx}
def du{j pos}:QE X (.Constant .none j pos) (tC .non):=⟨LM ⟩
end
section
variable {X:Cx}
def ar{x j pos}:QE X (.Constant (.str x) j pos) (tC (.str x)):=⟨LJ ⟩
end
section
variable {X:Cx}
def iL {x:Str} {v:V} {u:Value} {pos:Pos} (hg:Gl X x) (hm:X.mg x=none) (hv:bootBuiltins x=some u) (r:RelV v u) (hn:x≠"__name__":=by decide) (hd:(x==("__debug__":Str))=false:=by decide):QE X (.Name x pos) (tC v):=⟨Hx hg hm hv r hn hd⟩
end
section
variable {X:Cx} {pos:Pos}
def eI{e:Expr}{t:TE}(h:QE X e t)(he:∀whole,isTrue e X.env whole=(do let v <-whole;standAt e.pos;holding [v] (truthy v)):=by intro _;rfl):QT X e (tB t):=⟨Ko h.h he⟩
end
section
variable {X:Cx} {a:Expr} {pos:Pos} {tA:TT}
def ka(ha:QT X a tA):QW X (.BoolOp .And [a] pos) tA:=⟨HY ha.h⟩
end
section
variable {X:Cx} {a:Expr} {pos:Pos} {tA:TT}
def kH(ha:QT X a tA):QW X (.BoolOp .Or [a] pos) tA:=⟨Km ha.h⟩
end
section
variable {X:Cx} {a b:Expr} {pos:Pos} {tA tB':TT} {rest:List Expr}
def mi(ha:QT X a tA)(hb:QW X (.BoolOp .And (b::rest) pos) tB'):QW X (.BoolOp .And (a::b::rest) pos) (K8 tA tB'):=⟨Kn ha.h hb.h⟩
end
section
variable {X:Cx} {a b:Expr} {pos:Pos} {tA tB':TT} {rest:List Expr}
def jO(ha:QT X a tA)(hb:QW X (.BoolOp .Or (b::rest) pos) tB'):QW X (.BoolOp .Or (a::b::rest) pos) (OU tA tB'):=⟨NK ha.h hb.h⟩
end
section
variable {X:Cx} {a:Expr} {pos:Pos} {tA:TT}
def fq(ha:QT X a tA):QT X (.UnaryOp .Not a pos) (K1 tA):=⟨Kr ha.h⟩
end
section
variable {X:Cx} {a:Expr} {pos:Pos}
def vf{op}{t:TE}(h:QE X a t):QE X (.BoolOp op [a] pos) t:=⟨LK h.h⟩
end
section
variable {X:Cx} {a b:Expr} {ta tb:TE} {pos:Pos} {rest:List Expr}
def vg(ha:QE X a ta)(hb:QE X (.BoolOp .And (b::rest) pos) tb):QE X (.BoolOp .And (a::b::rest) pos) (EH ta tb):=⟨LR ha.h hb.h⟩
end
section
variable {X:Cx} {a:Expr} {ta:TE} {pos:Pos}
def HV(ha:QE X a ta):QE X (.UnaryOp .Not a pos) (Dx ta):=⟨LL ha.h⟩
end
section
variable {X:Cx} {a b:Expr} {ta tb:TE} {pos:Pos} {tA:TT}
def dv{c:Expr}(hc:QT X c tA)(ha:QE X a ta)(hb:QE X b tb):QE X (.IfExp c a b pos) (OV tA ta tb):=⟨FD hc.h ha.h hb.h⟩
end
section
variable {X:Cx}
def bF  : ij X [] Dz:=⟨Hc ⟩
end
section
variable {X:Cx} {st:Stmt} {rest:List Stmt} {t u:TS}
def aH(h1:QS X st t)(h2:ij X rest u):ij X (st::rest) (KY t u):=⟨Er h1.h h2.h⟩
end
section
variable {X:Cx} {st:Stmt} {t:TS}
def aM(h1:QS X st t):ij X [st] t:=⟨Ha h1.h⟩
end
section
variable {X:Cx} {e:Expr} {te:TE} {pos:Pos}
def iJ(he:QE X e te)(hs:swapsWith e none pos.line X.env=pure false:=by rfl):QS X (.Expr e pos) (ED te):=⟨Hg he.h hs⟩
end
section
variable {X:Cx} {e:Expr} {te:TE} {pos:Pos}
def aa(he:QE X e te):QS X (.Return (some e) pos) (K0 te):=⟨Ku he.h⟩
end
section
variable {X:Cx} {t u:TS} {pos:Pos}
def bw{c:Expr}{a b:List Stmt}{tc:TT}(hc:QT X c tc)(ha:ij X a t)(hb:ij X b u):QS X (.If c a b pos) (K2 tc t u):=⟨NL hc.h ha.h hb.h⟩
end
section
variable {X:Cx} {st:Stmt}
def oq  : QS X st EA:=⟨Eu ⟩
end
section
variable {X:Cx} {pos:Pos}
def bp{i:Nat}{x:Str}(hN:X.N.Nodup)(hi:X.N[i]? = some x)(hx:Loc X.env.scope x)(hf:X.fn x=true\/X.env.scope.names.lookup x=some .local:=by first | exact .inl rfl | exact .inr rfl | assumption):QG X (.Name x pos) (nP i):=⟨Hr hN hi hx hf⟩
end
section
variable {X:Cx}
def jb  : OI X [] Ln:=⟨Hq ⟩
end
section
variable {X:Cx}
def dZ{e:Expr}{es:List Expr}{t:TG}{u:DO}(h1:QG X e t)(h2:OI X es u)(hs:(assignEach (e::es) X.env).map (·.2)=assign e X.env::(assignEach es X.env).map (·.2):=by rfl):OI X (e::es) (GA t u):=⟨Ey h1.h h2.h hs⟩
end
section
variable {X:Cx} {pos:Pos}
def lM{es:List Expr}{k:Nat}{t:DO}{n:Nat}(hc:X.calm=true)(h:OI X es t)(hn:(assignEach es X.env).length=n:=by rfl)(hst:(assignEach es X.env).findIdx? (·.1)=none:=by rfl):QG X (.Tuple es k pos) (Ll X.K n t):=⟨LC hc h.h hn hst⟩
end
section
variable {X:Cx} {pos:Pos}
def HS{o i:Expr}{to ti:TE}{t:G4}(ho:QE X o to)(hi:QE X i ti)(hs:MA X t)(ha:∀v,assign (.Subscript o i pos) X.env v=(do
   let ov <-holding [v] (eval o X.env)
   let iv <-holding [v,ov] (eval i X.env)
   standAt pos
   holding [v,ov,iv] (setItem ov iv v)
   release [v,ov,iv] []):=by intro _;rfl):QG X (.Subscript o i pos) (Lm to ti t):=⟨LD ho.h hi.h hs ha⟩
end
section
variable {X:Cx} {pos:Pos}
def BN{tg e:Expr}{te:TE}{g:TG}(he:QE X e te)(hg:QG X tg g)(hs:swapsWithSole [tg] e pos.line X.env=pure false:=by rfl)(hw:swappedStores [tg] e X.env=pure none:=by rfl)(h1:(assignEach [tg] X.env).map (·.2)=[assign tg X.env]:=by rfl):QS X (.Assign [tg] e pos) (zC te g):=⟨Ky he.h hg.h hs hw h1⟩
end
section
variable {X:Cx} {pos:Pos}
def a6{i:Nat}{x:Str}{e:Expr}{te:TE}{pos':Pos}(hN:X.N.Nodup)(hi:X.N[i]? = some x)(hx:Loc X.env.scope x)(he:QE X e te)(hs:swapsWith e (some (.Name x pos')) pos.line X.env=pure false:=by rfl)(hf:X.fn x=true\/X.env.scope.names.lookup x=some .local:=by first | exact .inl rfl | exact .inr rfl | assumption):QS X (.Assign [.Name x pos'] e pos) (zC te (nP i)):=⟨Kt hN hi hx he.h hs hf⟩
end
section
variable {X:Cx} {pos:Pos}
def ou{i:Nat}{x:Str}{e:Expr}{te:TE}{op:Operator}{ti:MT}{pos':Pos}(hN:X.N.Nodup)(hi:X.N[i]? = some x)(hx:Loc X.env.scope x)(he:QE X e te)(ho:OJ X op ti)(hf:X.fn x=true\/X.env.scope.names.lookup x=some .local:=by first | exact .inl rfl | exact .inr rfl | assumption):QS X (.AugAssign (.Name x pos') op e pos) (K7 i te ti):=⟨Kx hN hi hx he.h ho hf⟩
end
section
variable {X:Cx} {pos:Pos}
def oj{c:Expr}{body:List Stmt}{tc:TT}{tb:TS}(hp:PassesOwn (model X.prog X.w) X.A X.env X.xe)(hc:QT X c tc)(hb:ij X body tb):QS X (.While c body [] pos) (Du tc tb):=⟨Es hp hc.h hb.h⟩
end
section
variable {X:Cx} {tg:Expr}
def iK{l:Expr}{tl:TE}(hl:QE X l tl):QI X tg l (B5 X.K tl):=⟨Hm hl.h⟩
end
section
variable {X:Cx} {tg:Expr}
def HR{l:Expr}{tl:TE}(hl:QE X l tl):QI X tg l (Ic X.K tl):=⟨LA hl.h⟩
end
section
variable {X:Cx} {tg:Expr}
def zW {a:Expr} {ta:TA} {p pos:Pos} (hg:Gl X "range") (hm:X.mg "range"=none) (ha:QA X [a] ta) (hs:starEach [a] X.env=[(false,eval a X.env)]:=by rfl):QI X tg (.Call (.Name "range" p) [a] [] pos) (B4 ta):=⟨CY hg hm ha.h hs⟩
end
section
variable {X:Cx} {tg:Expr}
def sr {a b:Expr} {ta:TA} {p pos:Pos} (hg:Gl X "range") (hm:X.mg "range"=none) (ha:QA X [a,b] ta) (hs:starEach [a,b] X.env=[(false,eval a X.env),(false,eval b X.env)]:=by rfl) (hs2:starEach [b] X.env=[(false,eval b X.env)]:=by rfl):QI X tg (.Call (.Name "range" p) [a,b] [] pos) (B3 ta):=⟨CW hg hm ha.h hs hs2⟩
end
section
variable {X:Cx} {tg:Expr}
def gx{iter:Expr}{body:List Stmt}{wi:TI}{g:TG}{tb:TS}{pos:Pos}(hp:PassesOwn (model X.prog X.w) X.A X.env X.xe)(hc:X.calm=true)(hi:QI X tg iter wi)(hg:QG X tg g)(hb:ij X body tb)(hs:∀x,foldedSetIterable iter X.env x=pure x:=by intro _;rfl):QS X (.For tg iter body [] pos) (pJ wi g tb):=⟨Kw hp hc hi.h hg.h hb.h hs⟩
end
section
variable {X:Cx} {a b:Expr} {ta tb:TE} {pos:Pos}
def a7{op:Operator}{r:R2}(ho:jt X (binaryOp op) r)(ha:QE X a ta)(hb:QE X b tb):QE X (.BinOp a op b pos) (Dw r ta tb):=⟨NN ho ha.h hb.h⟩
end
section
variable {X:Cx} {a:Expr} {ta:TE} {pos:Pos}
def fR{op:UnaryOp}{r:V->Hp->VK->Prop}(ho:OG X (unaryOp op) r)(ha:QE X a ta):QE X (.UnaryOp op a pos) (OQ r ta):=⟨NM ho ha.h⟩
end
section
variable {X:Cx} {a b:Expr} {ta tb:TE} {pos:Pos}
def eh{op:CmpOp}{r:R2}(ho:jt X (compareOp op) r)(ha:QE X a ta)(hb:QE X b tb)(hm:behindInMarks op b=false):QE X (.Compare a [op] [b] pos) (Dw r ta tb):=⟨Hw ho ha.h hb.h hm⟩
end
section
variable {X:Cx} {a b:Expr} {ta tb:TE} {pos:Pos}
def ae{op:CmpOp}{r:R2}(ho:jt X (compareOp op) r)(ha:QE X a ta)(hb:QE X b tb)(hm:behindInMarks op b=false):QT X (.Compare a [op] [b] pos) (sO (Dw r ta tb)):=⟨HZ ho ha.h hb.h hm⟩
end
section
variable {X:Cx} {a b c:Expr} {ta tb tc:TE} {pos:Pos}
def CQ{op op':CmpOp}{r r':R2}(ho:jt X (compareOp op) r)(ho':jt X (compareOp op') r')(ha:QE X a ta)(hb:QE X b tb)(hc:QE X c tc)(hm:lastMarks [op,op'] [b,c]=false:=by with_unfolding_all rfl):QE X (.Compare a [op,op'] [b,c] pos) (sP r r' ta tb tc):=⟨FJ ho ho' ha.h hb.h hc.h hm⟩
end
section
variable {X:Cx} {a b c:Expr} {ta tb tc:TE} {pos:Pos}
def CM{op op':CmpOp}{r r':R2}(ho:jt X (compareOp op) r)(ho':jt X (compareOp op') r')(ha:QE X a ta)(hb:QE X b tb)(hc:QE X c tc)(hm:lastMarks [op,op'] [b,c]=false:=by with_unfolding_all rfl):QT X (.Compare a [op,op'] [b,c] pos) (sO (sP r r' ta tb tc)):=⟨Ep ho ho' ha.h hb.h hc.h hm⟩
end
section
variable {X:Cx} {a:Expr} {ta:TE} {pos:Pos}
def mD(ha:QE X a ta)(he:∀whole,isTrue a X.env whole=(do let v <-whole;standAt a.pos;holding [v] (truthy v))):QT X a (λσ H Q=>ta σ H λx H'=>∃k,JG X.K x H' k/\Q k H'):=⟨Eo ha.h he⟩
end
section
variable {X:Cx}
def aB  : QA X [] Dy:=⟨LS ⟩
end
section
variable {X:Cx} {e:Expr} {es:List Expr} {te:TE} {t:TA}
def qa(ha:QE X e te)(hr:QA X es t)(hs:starEach (e::es) X.env=(false,eval e X.env)::starEach es X.env:=by rfl):QA X (e::es) (fD te t):=⟨gz ha.h hr.h hs⟩
end
section
variable {X:Cx} {es:List Expr} {t:TA} {pos:Pos}
def cL{x1}(h:QA X es t):QE X (.Tuple es x1 pos) (KW t):=⟨LI h.h⟩
end
section
variable {X:Cx} {es:List Expr} {t:TA} {pos:Pos}
def bf(h:QA X es t):QE X (.List es pos) (HC t):=⟨LN h.h⟩
end
section
variable {X:Cx} {x:Str} {p pos:Pos} {e:Expr} {es:List Expr} {t:TA} {id:String} {r:List V->Hp->VK->Prop}
def a8 (hc:fN X (.builtin id) r) (hg:Gl X x) (hm:X.mg x=none) (hv:bootBuiltins x=some (.builtin id)) (ha:QA X (e::es) t) (hn:x≠"__name__":=by decide) (hdb:(x==("__debug__":Str))=false:=by decide) (he:starEach (e::es) X.env=(false,eval e X.env)::starEach es X.env:=by rfl) (hpl:(backTo pos (starEach es X.env)).any (·.1)=false:=by rfl):QE X (.Call (.Name x p) (e::es) [] pos) (MM r t):=⟨FN hc hg hm hv ha.h hn hdb he hpl⟩
end
section
variable {X:Cx} {x:Str} {p pos:Pos} {e:Expr} {es:List Expr} {t:TA} {T:String} {r:List V->Hp->VK->Prop}
def dX (hc:fN X (.type T) r) (hg:Gl X x) (hm:X.mg x=none) (hv:bootBuiltins x=some (.type T)) (ha:QA X (e::es) t) (hn:x≠"__name__":=by decide) (hdb:(x==("__debug__":Str))=false:=by decide) (he:starEach (e::es) X.env=(false,eval e X.env)::starEach es X.env:=by rfl) (hpl:(backTo pos (starEach es X.env)).any (·.1)=false:=by rfl):QE X (.Call (.Name x p) (e::es) [] pos) (MM r t):=⟨CZ hc hg hm hv ha.h hn hdb he hpl⟩
end
section
variable {X:Cx}
def fz  : QO X none vQ:=⟨Hl ⟩
end
section
variable {X:Cx} {e:Expr} {te:TE}
def fH(h:QE X e te):QO X (some e) (Dv te):=⟨Hk h.h⟩
end
section
variable {X:Cx} {e:Expr} {te:TE} {lo hi:Option Expr} {tl th:TO} {pos p2:Pos}
def eV{r:V->Option Int->Option Int->Hp->VK->Prop}(hr:OH X r)(he:QE X e te)(hl:QO X lo tl)(hu:QO X hi th):QE X (.Subscript e (.Slice lo hi none p2) pos) (OS r te tl th):=⟨FA hr he.h hl.h hu.h⟩
end
section
variable {X:Cx} {a b:Expr} {ta tb:TE} {pos:Pos}
def bJ{r:R2}(hr:ME X r)(ha:QE X a ta)(hb:QE X b tb)(hs:Bp b):QE X (.Subscript a b pos) (Dw r ta tb):=⟨NO hr ha.h hb.h hs⟩
end
section
variable {X:Cx} {o:Expr} {to:TE} {name:Str} {apos cpos:Pos} {T id:String} {r:V->List V->Hp->VK->Prop}
def HX (pa:PlainAttrs T) (slot:Slot T name id) (hty:typeOf (.builtin id)=pure (.type "method_descriptor")) (hm:Nf X id r) (ho:QE X o to) (hbase:attributeBase o name X.env (eval o X.env)=eval o X.env:=by rfl) (hline:(apos.endLine==cpos.line)=true:=by rfl):QE X (.Call (.Attribute o name apos) [] [] cpos) (K6 X.K T r to):=⟨LQ pa slot hty hm ho.h hbase hline⟩
end
section
variable {X:Cx} {o e:Expr} {es:List Expr} {to:TE} {t:TA} {name:Str} {apos cpos:Pos} {T id:String} {r:V->List V->Hp->VK->Prop}
def l4 (pa:PlainAttrs T) (slot:Slot T name id) (hty:typeOf (.builtin id)=pure (.type "method_descriptor")) (hm:Nf X id r) (ho:QE X o to) (ha:QA X (e::es) t) (hbase:attributeBase o name X.env (eval o X.env)=eval o X.env:=by rfl) (hfew:((backTo cpos (starEach (e::es) X.env)).all (λx=>!x.1)&&(backToKw cpos (keywordEach [] X.env)).all (λx=>x.1.isSome)
   && decide ((e::es).length+([]:List Keyword).length+(if ([]:List Keyword).isEmpty then 0 else 1)<30))=true:=by rfl) (hline:(apos.endLine==cpos.line)=true:=by rfl) (hs:starEach (e::es) X.env=(false,eval e X.env)::starEach es X.env:=by rfl) (hplain:(backTo cpos (starEach es X.env)).any (·.1)=false:=by rfl):QE X (.Call (.Attribute o name apos) (e::es) [] cpos) (Mp X.K T r to t):=⟨NP pa slot hty hm ho.h ha.h hbase hfew hline hs hplain⟩
end
section
variable {X:Cx}
def aY (i:Nat) {x:Str} {pos:Pos} (hN:X.N[i]? = some x:=by rfl) (hv:MS X.env.scope x:=by first | exact Or.inl rfl | exact Or.inr (Or.inl rfl) | exact Or.inr (Or.inr rfl)) (hd:(x==("__debug__":Str))=false:=by decide) (hcd:(x==("__classdict__":Str))=false:=by decide):QE X (.Name x pos) (sN i):=⟨pv i hN hv hd hcd⟩
end
section
variable {X:Cx}
def zT{a b c d:Expr}{ta tb tc td:TE}{pos:Pos}{op op' op2:CmpOp}{r r' r2:R2}(ho:jt X (compareOp op) r)(ho':jt X (compareOp op') r')(ho2:jt X (compareOp op2) r2)(ha:QE X a ta)(hb:QE X b tb)(hc:QE X c tc)(hd:QE X d td)(hm:lastMarks [op,op',op2] [b,c,d]=false:=by with_unfolding_all rfl):QT X (.Compare a [op,op',op2] [b,c,d] pos) (sO (rj r r' r2 ta tb tc td)):=⟨CT ho ho' ho2 ha.h hb.h hc.h hd.h hm⟩
end
section
def qz {X:Cx} {x:Str} {i:Int} {pos:Pos} (hg:Gl X x) (hm:∃t,X.mg x=some (.int i t)) (hd:(x==("__debug__":Str))=false:=by decide):QE X (.Name x pos) (tC (.int i)):=⟨FF hg hm hd⟩
end
section
def aU {X:Cx} {k:Nat} {x:Str} {st:Stmt} {ps:List Str} {sp:Sp} {e:Expr} {es:List Expr} {t:TA} {p pos:Pos} (D:eG X.prog X.w X.K X.mg X.base k x st ps sp) (hr:g0 k X.A) (hg:Gl X x) (ha:QA X (e::es) t) (hdb:(x==("__debug__":Str))=false:=by decide) (he:starEach (e::es) X.env=(false,eval e X.env)::starEach es X.env:=by rfl) (hpl:(backTo pos (starEach es X.env)).any (·.1)=false:=by rfl):QE X (.Call (.Name x p) (e::es) [] pos) (pM sp [] E0 t):=⟨FM D hr hg ha.h hdb he hpl⟩
end
section
def ve{X:Cx}{tg l:Expr}{tl:TE}(hl:QE X l tl):QI X tg l (Ie tl):=⟨LB hl.h⟩
end
section
def su {X:Cx} {a:Expr} {ta:TA} {elts:List Expr} {x1:Nat} {p pos tpos:Pos} (hg:Gl X "enumerate") (hm:X.mg "enumerate"=none) (ha:QA X [a] ta) (hs:starEach [a] X.env=[(false,eval a X.env)]:=by rfl):QI X (.Tuple elts x1 tpos) (.Call (.Name "enumerate" p) [a] [] pos) (Fw ta):=⟨Ho hg hm ha.h hs⟩
end
section
def kI{X:Cx}:QF X [] rQ:=⟨LG ⟩
end
section
def HU{X:Cx}{c:Expr}{t:TT}(h:QT X c t):QF X [c] t:=⟨LF h.h⟩
end
section
variable {X:Cx} {H:Hp} {s:Shared}
def jd{own ns:List Str}{caps:List Nat}{elt tg iter:Expr}{ifs:List Expr}{scope:Scope}{pos:Pos}{wi:TI}{g:TG}{tf:TT}{te:TE}(hc:X.calm=true)(S:qK scope ns)(cp:oY X scope ns caps)(hi:QI X tg iter wi)(hg:∀C s H fp pn,QG (wK X (own++ns) scope C s H fp pn) tg g)(ht:∀C s H fp pn,QF (wK X (own++ns) scope C s H fp pn) ifs tf)(he:∀C s H fp pn,QE (wK X (own++ns) scope C s H fp pn) elt te)(hs:∀x,foldedSetIterable iter X.env x=pure x:=by intro _;rfl):QE X (.ListComp elt [⟨tg,iter,ifs,0⟩] scope pos) (pL own.length caps wi g tf te):=⟨Hv hc S cp hi.h (λC s H fp pn=>(hg C s H fp pn).h) (λC s H fp pn=>(ht C s H fp pn).h) (λC s H fp pn=>(he C s H fp pn).h) hs⟩
end
section
variable {X:Cx} {H:Hp} {s:Shared}
def xQ{i:Nat}{x:Str}{own ns:List Str}{caps:List Nat}{elt tg iter:Expr}{ifs:List Expr}{scope:Scope}{pos pos' spos:Pos}{wi:TI}{g:TG}{tf:TT}{te:TE}(hN:X.N.Nodup)(hi:X.N[i]? = some x)(hx:Loc X.env.scope x)(hc:X.calm=true)(S:qK scope ns)(cp:oY X scope ns caps)(hit:QI X tg iter wi)(hg:∀C s H fp pn,QG (wK X (own++ns) scope C s H fp pn) tg g)(ht:∀C s H fp pn,QF (wK X (own++ns) scope C s H fp pn) ifs tf)(he:∀C s H fp pn,QE (wK X (own++ns) scope C s H fp pn) elt te)(hs:∀x,foldedSetIterable iter X.env x=pure x:=by intro _;rfl)(hsw:swapsWith (.ListComp elt [⟨tg,iter,ifs,0⟩] scope pos) (some (.Name x pos')) spos.line X.env=pure true:=by rfl)(hf:X.fn x=true\/X.env.scope.names.lookup x=some .local:=by first | exact .inl rfl | exact .inr rfl | assumption):QS X (.Assign [.Name x pos'] (.ListComp elt [⟨tg,iter,ifs,0⟩] scope pos) spos) (zC (pL own.length caps wi g tf te) (nP i)):=⟨Hf hN hi hx hc S cp hit.h (λC s H fp pn=>(hg C s H fp pn).h) (λC s H fp pn=>(ht C s H fp pn).h) (λC s H fp pn=>(he C s H fp pn).h) hs hsw hf⟩
end
section
def ul {X:Cx} {x:Str} {K:Wb} {xs:List V} {pos:Pos} (hg:Gl X x) (hm:∃a,X.mg x=some (.ref a)/\∀H,de K H a xs) (hd:(x==("__debug__":Str))=false:=by decide):QE X (.Name x pos) (yy K xs):=⟨FE hg hm hd⟩
end
section
def cE{X:Cx}{st:Stmt}{rest:List Stmt}{t u:TS}(h1:QS X st t)(h2:ij X rest u):ij X (st::rest) (K4 t u):=⟨Hd h1.h h2.h⟩
end
section
variable {X:Cx} {es:List Expr} {te:TE} {t:TA}
def bu{a0:PySem.Expr}{a1:PySem.Operator}{a2:PySem.Expr}{a3:PySem.Pos}(ha:QE X (Expr.BinOp a0 a1 a2 a3) te)(hr:QA X es t):QA X ((Expr.BinOp a0 a1 a2 a3)::es) (fD te t):=⟨FQ ha.h hr.h⟩
end
section
variable {X:Cx} {es:List Expr} {te:TE} {t:TA}
def rT{a0:PySem.UnaryOp}{a1:PySem.Expr}{a2:PySem.Pos}(ha:QE X (Expr.UnaryOp a0 a1 a2) te)(hr:QA X es t):QA X ((Expr.UnaryOp a0 a1 a2)::es) (fD te t):=⟨za ha.h hr.h⟩
end
section
variable {X:Cx} {es:List Expr} {te:TE} {t:TA}
def ig{a0:PySem.Expr}{a1:List Comprehension}{a2:PySem.Scope}{a3:PySem.Pos}(ha:QE X (Expr.ListComp a0 a1 a2 a3) te)(hr:QA X es t):QA X ((Expr.ListComp a0 a1 a2 a3)::es) (fD te t):=⟨xZ ha.h hr.h⟩
end
section
variable {X:Cx} {es:List Expr} {te:TE} {t:TA}
def fg{a0:PySem.Expr}{a1:List CmpOp}{a2:List Expr}{a3:PySem.Pos}(ha:QE X (Expr.Compare a0 a1 a2 a3) te)(hr:QA X es t):QA X ((Expr.Compare a0 a1 a2 a3)::es) (fD te t):=⟨zb ha.h hr.h⟩
end
section
variable {X:Cx} {es:List Expr} {te:TE} {t:TA}
def cF{a0:PySem.Expr}{a1:List Expr}{a2:List Keyword}{a3:PySem.Pos}(ha:QE X (Expr.Call a0 a1 a2 a3) te)(hr:QA X es t):QA X ((Expr.Call a0 a1 a2 a3)::es) (fD te t):=⟨IC ha.h hr.h⟩
end
section
variable {X:Cx} {es:List Expr} {te:TE} {t:TA}
def aJ{a0:PySem.Const}{a1:Nat}{a2:PySem.Pos}(ha:QE X (Expr.Constant a0 a1 a2) te)(hr:QA X es t):QA X ((Expr.Constant a0 a1 a2)::es) (fD te t):=⟨x9 ha.h hr.h⟩
end
section
variable {X:Cx} {es:List Expr} {te:TE} {t:TA}
def uQ{a0:PySem.Expr}{a1:PySem.Str}{a2:PySem.Pos}(ha:QE X (Expr.Attribute a0 a1 a2) te)(hr:QA X es t):QA X ((Expr.Attribute a0 a1 a2)::es) (fD te t):=⟨vk ha.h hr.h⟩
end
section
variable {X:Cx} {es:List Expr} {te:TE} {t:TA}
def ak{a0:PySem.Expr}{a1:PySem.Expr}{a2:PySem.Pos}(ha:QE X (Expr.Subscript a0 a1 a2) te)(hr:QA X es t):QA X ((Expr.Subscript a0 a1 a2)::es) (fD te t):=⟨vj ha.h hr.h⟩
end
section
variable {X:Cx} {es:List Expr} {te:TE} {t:TA}
def aC{a0:PySem.Str}{a1:PySem.Pos}(ha:QE X (Expr.Name a0 a1) te)(hr:QA X es t):QA X ((Expr.Name a0 a1)::es) (fD te t):=⟨Hy ha.h hr.h⟩
end
section
variable {X:Cx} {es:List Expr} {te:TE} {t:TA}
def je{a0:List Expr}{a1:PySem.Pos}(ha:QE X (Expr.List a0 a1) te)(hr:QA X es t):QA X ((Expr.List a0 a1)::es) (fD te t):=⟨Hz ha.h hr.h⟩
end
section
variable {X:Cx} {es:List Expr} {te:TE} {t:TA}
def cj{a0:List Expr}{a1:Nat}{a2:PySem.Pos}(ha:QE X (Expr.Tuple a0 a1 a2) te)(hr:QA X es t):QA X ((Expr.Tuple a0 a1 a2)::es) (fD te t):=⟨FP ha.h hr.h⟩
end
section
variable {X:Cx} {es:List Expr} {te:TE} {t:TA}
def El{a0:List (Option Expr)}{a1:List Expr}{a2:PySem.Pos}(ha:QE X (Expr.Dict a0 a1 a2) te)(hr:QA X es t):QA X ((Expr.Dict a0 a1 a2)::es) (fD te t):=⟨IB ha.h hr.h⟩
end
section
variable {X:Cx} {o i:Expr} {pos:Pos} {td ty:TE}
def jc(hu:X.A.units+1<cLine)(ho:QE X o td)(hi:QE X i ty)(hs:MD i):QE X (.Subscript o i pos) (EG td ty):=⟨Hu hu ho.h hi.h hs⟩
end
section
variable {X:Cx} {o i value:Expr} {pos pos':Pos} {td ty tv:TE}
def q9(hu:X.A.units+1<cLine)(ho:QE X o td)(hi:QE X i ty)(hv:QE X value tv)(hs:swapsWith value (some (.Subscript o i pos')) pos.line X.env=pure false):QS X (.Assign [.Subscript o i pos'] value pos) (Ea td ty tv):=⟨Hh hu ho.h hi.h hv.h hs⟩
end
section
variable {X:Cx} {pos:Pos}
def CP  : QE X (.Dict [] [] pos) zB:=⟨FI ⟩
end
section
variable {X:Cx} {pos:Pos}
def rA  : QE X (.Dict [] [] pos) zA:=⟨FH ⟩
end
section
def xS{X:Cx}{pos:Pos}:JH X pos [] [] []:=⟨Hj ⟩
end
section
def oy{X:Cx}{pos:Pos}{k v:Expr}{ks:List (Option Expr)}{vs:List Expr}{tk tv:TE}{trs:List (TE×TE)}(hk:QE X k tk)(hv:QE X v tv)(hr:JH X pos ks vs trs):JH X pos (some k::ks) (v::vs) ((tk,tv)::trs):=⟨Ew hk.h hv.h hr.h⟩
end
section
def xU{X:Cx}{pos:Pos}{keys:List (Option Expr)}{values:List Expr}{trs:List (TE×TE)}(h:JH X pos keys values trs)(hall:keys.all (·.isSome)=true)(hl:keys.length=values.length)(h0:keys≠[])(h15:keys.length<=15):QE X (.Dict keys values pos) (EF trs):=⟨Ht h.h hall hl h0 h15⟩
end
section
variable {X:Cx}
def zS{k d:Expr}{ty td:TE}{pos:Pos}(hu:X.A.units+1<cLine)(hk:QE X k ty)(hd:QE X d td)(hm:behindInMarks .NotIn d=false:=by first | rfl | with_unfolding_all rfl):QT X (.Compare k [.NotIn] [d] pos) (tB (rh ty td)):=⟨CS hu hk.h hd.h hm⟩
end
section
variable {X:Cx}
def oo {x:Str} {C:Addr} {bmB:List Value} {B newId initId:String} {E:XK} {e:Expr} {es:List Expr} {t:TA} {np cpos pos:Pos} (R:Lz X E) (O:OwnCls x C bmB newId X.mg X.base) (F:ExcBaseFacts B newId initId bmB) (hc:X.calm=true) (hg:Gl X x) (ha:QA X (e::es) t) (hdb:(x==("__debug__":Str))=false:=by decide) (he:starEach (e::es) X.env=(false,eval e X.env)::starEach es X.env:=by rfl) (hpl:(backTo cpos (starEach es X.env)).any (·.1)=false:=by rfl):QS X (.Raise (some (.Call (.Name x np) (e::es) [] cpos)) none pos) (yw C E t):=⟨Et R O F hc hg ha.h hdb he hpl⟩
end
section
variable {X:Cx}
def eJ{st:Stmt}{t:TS}(h:QS X.nox st t):QS X st t:=⟨Kv h.h⟩
end
section
variable {X:Cx}
def qZ{e:Expr}{t:TT}(h:QT X.nox e t):QT X e t:=⟨Kq h.h⟩
end
section
variable {X:Cx}
def mE {x:Str} {C:Addr} {pos:Pos} (hg:Gl X x) (hm:X.mg x=some (.ref C)) (hd:(x==("__debug__":Str))=false:=by decide):QE X (.Name x pos) (tC (.ref C)):=⟨FG hg hm hd⟩
end
section
variable {X:Cx}
def jP {k:Nat} {x:Str} {st:Stmt} {ps:List Str} {sp:Sp} {e:Expr} {es:List Expr} {t:TA} {p pos:Pos} (D:lm X.prog X.w X.K X.mg X.base k x st ps sp) (hr:g0 k X.A) (hg:Gl X x) (ha:QA X (e::es) t) (hdb:(x==("__debug__":Str))=false:=by decide) (he:starEach (e::es) X.env=(false,eval e X.env)::starEach es X.env:=by rfl) (hpl:(backTo pos (starEach es X.env)).any (·.1)=false:=by rfl):QE X (.Call (.Name x p) (e::es) [] pos) (pM sp [] E0 t):=⟨FK D hr hg ha.h hdb he hpl⟩
end
section
variable {X:Cx}
def zY {a:Addr} {k:Nat} {x:Str} {st:Stmt} {ps:List Str} {sp:Addr->Sp} {e:Expr} {es:List Expr} {t:TA} {p pos:Pos} (D:Ga X.prog X.w X.K X.mg X.base k x st ps sp) (hr:mQ a k X.A) (hg:Gl X x) (ha:QA X (e::es) t) (hdb:(x==("__debug__":Str))=false:=by decide) (he:starEach (e::es) X.env=(false,eval e X.env)::starEach es X.env:=by rfl) (hpl:(backTo pos (starEach es X.env)).any (·.1)=false:=by rfl):QE X (.Call (.Name x p) (e::es) [] pos) (pM (sp a) [] E0 t):=⟨C1 D hr hg ha.h hdb he hpl⟩
end
section
def xT {X:Cx} {e:Expr} {te:TE} {p p2 pos2 pos:Pos} (hc:X.calm=true) (hgl:Gl X "list") (hml:X.mg "list"=none) (hgr:Gl X "reversed") (hmr:X.mg "reversed"=none) (he:QE X e te) (hs:starEach [.Call (.Name "reversed" p2) [e] [] pos2] X.env=[(false,eval (.Call (.Name "reversed" p2) [e] [] pos2) X.env)]:=by rfl) (hs2:starEach [e] X.env=[(false,eval e X.env)]:=by rfl):QE X (.Call (.Name "list" p) [.Call (.Name "reversed" p2) [e] [] pos2] [] pos) (KZ te):=⟨z9 hc hgl hml hgr hmr he.h hs hs2⟩
end
open AutoSeq1 (wpAny_loadPart')
section
variable {prog:Program} {w:World} {A:Around} {E:Value->Shared->Prop} {s:Shared}
def zu{it t:Addr}{i:Nat}{items}{x:Value}{Q:Value->Shared->Prop}(hit:s.heap.IsTupleIter it t i)(ht:s.heap.IsTuple t items)(hx:items[i]? = some x)
  (hQ:∀h',h'.IsTupleIter it t (i+1)->Heap.SameBut it s.heap h'->Q x { s with heap:=h' }):wpAny (model prog w) A (Builtin.SmallTypes.nextOf (.ref it)) Q E s:=by
 obtain⟨o,ho,hc,hd⟩:=id hit;obtain⟨ol,hol,_,nl,hdl⟩:=ht;unfold Builtin.SmallTypes.nextOf;refine wpAny_bind (wpAny_callSpecial?_slot (name:=Str.ofString "__next__") hit.typeIs cf (WQ cf hit.typeIs gY ?_ (gH _)));show wpAny _ _ (field (.ref it) 0>>=_) _ _ s;refine wpAny_bind (WS ho hd (x:=.ref t) rfl ?_);show wpAny _ _ (if (Value.ref t==Value.none)=true then _ else _) _ _ s;rw[W4 (show ¬((Value.ref t==Value.none)=true) from aq)];show wpAny _ _ (field (.ref it) 1>>=_) _ _ s;refine wpAny_bind (WS ho hd (x:=.int i 0) rfl ?_);show wpAny _ _ (seqItems? (.ref t)>>=_) _ _ s;refine wpAny_bind (WX hol hdl ?_);simp only[fM,hx];refine wpAny_bind (WT ho hd (by simp) (WE ⟨x,rfl,WE (hQ _ ?_ (kD ..))⟩));exact⟨_,c7 _ ho (Obj.isFreed_of_fields (Obj.data_mapFields hd _)),(Obj.cls_mapFields ..).trans hc,by rw[Obj.data_mapFields hd];simp[rawInt]⟩
def Ca{it t:Addr}{i:Nat}{items}{Q:Value->Shared->Prop}(hh:A.handled=none)(hit:s.heap.IsTupleIter it t i)(ht:s.heap.IsTuple t items)(hx:items[i]? = none)
  (hE:∀h' e,Heap.ExtBut it s.heap h'->(∃o,h'.get? e=some o/\o.cls=.type "StopIteration")->E (.ref e) { s with heap:=h' }):wpAny (model prog w) A (Builtin.SmallTypes.nextOf (.ref it)) Q E s:=by
 obtain⟨o,ho,hc,hd⟩:=id hit;obtain⟨ol,hol,_,nl,hdl⟩:=ht;unfold Builtin.SmallTypes.nextOf;refine wpAny_bind (wpAny_callSpecial?_slot (name:=Str.ofString "__next__") hit.typeIs cf (WQ cf hit.typeIs gY ?_ (gH _)));show wpAny _ _ (field (.ref it) 0>>=_) _ _ s;refine wpAny_bind (WS ho hd (x:=.ref t) rfl ?_);show wpAny _ _ (if (Value.ref t==Value.none)=true then _ else _) _ _ s;rw[W4 (show ¬((Value.ref t==Value.none)=true) from aq)];show wpAny _ _ (field (.ref it) 1>>=_) _ _ s;refine wpAny_bind (WS ho hd (x:=.int i 0) rfl ?_);show wpAny _ _ (seqItems? (.ref t)>>=_) _ _ s;refine wpAny_bind (WX hol hdl ?_);simp only[fM,hx];refine wpAny_bind (wpAny_rule (wpAny_bind (WT ho hd (by simp) ?_)));show wpAny _ _ (newExc (.type "StopIteration") []>>=_) _ _ _;refine wpAny_bind ?_;simp only[newExc,newTuple];refine wpAny_bind (WO ?_ (by size_fits));refine wpAny_bind (m:=firstArgMember _ _) (wpAny_of_eq (a:=Value.none) (by first | rfl | (simp only[firstArgMember];rfl)) ?_);refine WO ?_ (by size_fits);simp only[raiseNew];refine wpAny_bind (wpAny_handled ?_);first | rw[show A.in1.handled=none from hh] | rw[hh]
 refine wpAny_bind (WE (wpAny_throw ?_));exact hE _ _ (((kD ..).extBut.push _).push _) ⟨_,aL _ rfl,rfl⟩
def Draws.tup(hh:A.handled=none)(it t:Addr)(hne:t≠it)(items:Array Value):Draws prog w A it [it,t] items.size (λi v=>items[i]? = some v) (λi h=>h.IsTupleIter it t i/\h.IsTuple t items) where
 live:=λ_ _ st=>let ⟨o,ho,_⟩:=st.1;⟨o,ho⟩
 frame:=λ_ _ _ st hk=>by
  obtain⟨st1,o,ho,r⟩:=st;exact⟨st1.at λo e=>hk it (by simp) o e,o,hk t (by simp) o ho,r⟩
 item:=λi s Q E hi st hQ=>zu st.1 st.2 (x:=items[i]) (by simp[hi]) λh' hit' hs'=>hQ _ h' s.toks (by simp[hi]) ⟨hit',st.2.extBut hs'.extBut hne⟩ hs'
 done:=λs Q E st hE=>Ca hh st.1 st.2 (by simp) hE
end
section
variable {X:Cx} {pins:List (Addr×Obj)} {σ:St} {H:Hp} {s:Shared} {h':Heap}
def bX.turnAll{fp:List Addr}{t':Nat}(I:bX X pins σ H s)(hf:∀b∈fp,oU X pins H b)(k:∀b u,b∉fp->s.heap.get? b=some u->h'.get? b=some u):bX X pins σ H { s with heap:=h',toks:=t' }:=by
 have nfp:∀b u,H b=some u->b∉fp:=λb u e z=>by rw[(hf b z).1] at e;cases e
 refine I.step (g':=s.gens) (d':=s.drawn) (ch:=fp) (λb hb=>?_) (λb o _ _ hc e _=>k b o hc e) (λb o _ _ hc e _=>⟨o.slots,k b o hc e⟩) (λ_ _ _ _ n=>n)
  (λb o hc e=>⟨o,k b o hc e⟩) (λ_ _ e=>e) (λ_ _ _ e=>e) (λb ps e=>⟨#[],by rw[e];simp⟩) (λm hm=>?_) (λb u e=>?_) I.bare
 ·obtain⟨_,f1,_,f3,f4,f5⟩:=hf b hb;exact⟨f3,f1,f4,f5⟩
 ·obtain⟨ob,es,ep,ho,r⟩:=hm;exact⟨ob,es,ep,k _ ob (λz=>(hf _ z).2.1 rfl) ho,r⟩
 ·refine(I.hok b u e).stay (λc v hc q=>k c v ?_ q) (λ_ q=>q) λ_ _ q=>q;rcases hc with z | z
  ·rw[z];exact nfp b u e
  ·exact nfp c _ z
end
def Nk(K:Wb)(a:Addr):It:=
 ⟨λi H=>∃xs x,de K H a xs/\xs[i]? = some x,λi H v H'=>∃p x,H p=none/\(∀xs,de K H a xs->xs[i]? = some x)/\v=.ref p/\H'=bP H p (.tup [.int i,x]),λi H=>∃xs,de K H a xs/\xs.length=i⟩
def Li(K:Wb)(ta:TA):TI:=λσ H R=>ta σ H λvs H1=>∃a,vs=[.ref a]/\(∃xs,de K H1 a xs)/\R (Nk K a) H1
def PK(K:Wb)(a b:Addr):It:=
  ⟨λi H=>∃xs ys x y,c6 K H a xs/\c6 K H b ys/\xs[i]? = some x/\ys[i]? = some y,
   λi H v H'=>∃p x y,H p=none/\(∀xs,c6 K H a xs->xs[i]? = some x)/\(∀ys,c6 K H b ys->ys[i]? = some y)/\v=.ref p/\H'=bP H p (.tup [x,y]),
   λi H=>∃xs ys,c6 K H a xs/\c6 K H b ys/\(xs.length<=i\/ys.length<=i)⟩
def Og(K:Wb)(ta:TA):TI:=λσ H R=>ta σ H λvs H1=>∃a b,vs=[.ref a,.ref b]/\(∃xs,c6 K H1 a xs)/\(∃ys,c6 K H1 b ys)/\R (PK K a b) H1
end L2
namespace L2
open PySem PySem.Spec PyProof.Rows HT
section
variable {σ:St} {H:Hp} {D:Ends} {K:Wb}
def Ab{ta:TA}{g:TG}{tb:TS}:pJ (Li K ta) g tb D σ H=ta σ H λvs H1=>∃a,vs=[.ref a]/\(∃xs,de K H1 a xs)/\oV (Nk K a) g tb D σ H1:=rfl
def Ad{k:Nat}{caps:List Nat}{ta:TA}{g:TG}{tf:TT}{te:TE}{Q:VK}:pL k caps (Og K ta) g tf te σ H Q=ta σ H λvs H1=>∃a b,vs=[.ref a,.ref b]/\(∃xs,c6 K H1 a xs)/\(∃ys,c6 K H1 b ys)/\kE (PK K a b) g tf te Q (jf k caps σ) H1:=rfl
end
end L2
namespace L2
open PySem PySem.Spec PyProof.Rows
structure rN (z TI TO i1 i2:Addr) (f1 f2:List Addr):Prop where
 tz:TI≠z
 oz:TO≠z
 az:i1≠z
 bz:i2≠z
 to:TI≠TO
 ta:TI≠i1
 tb:TI≠i2
 oa:TO≠i1
 ob:TO≠i2
 ab:i1≠i2
 z1:z∉f1
 o1:TO∉f1
 b1:i2∉f1
 z2:z∉f2
 o2:TO∉f2
 a2:i1∉f2
section
variable {prog:Program} {w:World} {A:Around} {E:Value->Shared->Prop} {s:Shared} {z TI TO i1 i2:Addr} {f1 f2:List Addr} {n1 n2 k:Nat} {P1 P2:Nat->Value->Prop} {S1 S2:Nat->Heap->Prop} {a b:Value}
def fv{it:Addr}{fp:List Addr}{n i:Nat}{P:Nat->Value->Prop}{S:Nat->Heap->Prop}{h h':Heap}{c:Addr}(D:Draws prog w A it fp n P S)(st:S i h)(sb:Heap.SameBut c h h')(hc:c∉fp):S i h':=
 D.frame i h h' st λb hb o e=>(sb.2 b (λq=>hc (q▸hb))).trans e
def Bq{Q:Value->Shared->Prop}(D1:Draws prog w A i1 f1 n1 P1 S1)(D2:Draws prog w A i2 f2 n2 P2 S2)(ap:rN z TI TO i1 i2 f1 f2)(hz:IsZip s.heap z TI TO .none)(hTI:IsPair s.heap TI (.ref i1) (.ref i2))(hTO:IsPair s.heap TO a b)(h1:S1 k s.heap)(h2:S2 k s.heap)(k1:k<n1)(k2:k<n2)
  (hQ:∀(h':Heap) (x y:Value) (tk:Nat),P1 k x->P2 k y->IsZip h' z TI TO (rawInt s.heap.objs.size)->IsPair h' TO x y->S1 (k+1) h'->S2 (k+1) h'->IsPair h' s.heap.objs.size x y->(∀c o,c≠z->c≠TO->c≠i1->c≠i2->s.heap.get? c=some o->h'.get? c=some o)->Q (.ref s.heap.objs.size) { s with heap:=h',toks:=tk }) :
  wpAny (model prog w) A (Builtin.«zip.__next__» ⟨[.ref z],[]⟩) (λfin s'=>∃v,fin=.done (.ret v)/\Q v s') E s:=by
 show wpAny _ _ (field (.ref z) 2>>=_) _ _ _;refine wpAny_bind (WS hz rfl (x:=.bool false) rfl ?_);show wpAny _ _ (field (.ref z) 3>>=_) _ _ _;refine wpAny_bind (WS hz rfl (x:=.ref TI) rfl ?_);refine wpAny_bind (WX hTI rfl ?_);show wpAny _ _ (Builtin.SmallTypes.ownedTupleIsFree (.ref z)>>=_) _ _ _;refine wpAny_bind ?_;unfold Builtin.SmallTypes.ownedTupleIsFree;refine wpAny_bind (WS hz rfl (x:=.none) rfl (WE ?_));simp only[W9];refine wpAny_bind (wpAny_rule ?_);refine wpAny_bind (WS hz rfl (x:=.ref TO) rfl ?_);refine wpAny_bind (WY hz (by simp) λg1 hz1 b1=>?_)
 replace hz1:IsZip g1 z TI TO .ellipsis:=hz1
 refine wpAny_bind ?_;simp only[List.zipIdx_cons,List.zipIdx_nil,jw,List.forIn_nil];refine wpAny_bind (wpAny_bind (wpAny_onRaise ?_));show wpAny _ _ (Builtin.SmallTypes.nextOf (.ref i1)>>=_) _ _ _;refine wpAny_bind (D1.item k { s with heap:=g1 } _ _ k1 (fv D1 h1 b1 ap.z1) λx g2 t2 px s2 b2=>WE ?_);have hT2:IsPair g2 TO a b:=b2.extBut _ _ ap.oa (b1.extBut _ _ ap.oz hTO);refine wpAny_bind (WX hT2 rfl ?_);refine wpAny_bind (wpAny_updateSeq_pair hT2 λg3 hT3 b3=>?_)
 replace hT3:IsPair g3 TO x b:=hT3
 refine wpAny_bind (wpAny_letGo (WE ?_));refine wpAny_bind (wpAny_bind (wpAny_onRaise ?_));show wpAny _ _ (Builtin.SmallTypes.nextOf (.ref i2)>>=_) _ _ _;refine wpAny_bind (D2.item k { s with heap:=g3,toks:=t2 } _ _ k2 (fv D2 (fv D2 (fv D2 h2 b1 ap.z2) b2 ap.a2) b3 ap.o2) λy g4 t4 py s4 b4=>WE ?_);have hT4:IsPair g4 TO x b:=b4.extBut _ _ ap.ob hT3;refine wpAny_bind (WX hT4 rfl ?_);refine wpAny_bind (wpAny_updateSeq_pair hT4 λg5 hT5 b5=>?_)
 replace hT5:IsPair g5 TO x y:=hT5
 refine wpAny_bind (wpAny_letGo (WE (WE ?_)));refine wpAny_bind (WX hT5 rfl ?_);refine wpAny_bind (wpAny_newTuple ?_);have hsz:g5.objs.size=s.heap.objs.size:=by rw[b5.1,b4.1,b3.1,b2.1,b1.1]
 have hz5:IsZip g5 z TI TO .ellipsis:=b5.extBut _ _ ap.oz.symm (b4.extBut _ _ ap.bz.symm (b3.extBut _ _ ap.oz.symm (b2.extBut _ _ ap.az.symm hz1)));have kp5:∀c o,c≠z->c≠TO->c≠i1->c≠i2->s.heap.get? c=some o->g5.get? c=some o:=λc o c1 c2 c3 c4 e=>b5.extBut _ _ c2 (b4.extBut _ _ c4 (b3.extBut _ _ c2 (b2.extBut _ _ c3 (b1.extBut _ _ c1 e))));have w1:S1 (k+1) g5:=fv D1 (fv D1 (fv D1 s2 b3 ap.o1) b4 ap.b1) b5 ap.o1;have w2:S2 (k+1) g5:=fv D2 s4 b5 ap.o2;have zlt:z<g5.objs.size:=aN hz5;show wpAny _ _ (Builtin.SmallTypes.ownedTupleHandOut (.ref z) (.ref g5.objs.size)>>=_) _ _ _;refine wpAny_bind ?_;unfold Builtin.SmallTypes.ownedTupleHandOut;have hz6:IsZip (g5.push { cls:=.type "tuple",data:=.seq #[x,y] }) z TI TO .ellipsis:=aA _ hz5;refine wpAny_bind (WY hz6 (by simp) λg7 hz7 b7=>?_)
 replace hz7:IsZip g7 z TI TO (rawInt g5.objs.size):=hz7
 refine WY hz7 (by simp) λg8 hz8 b8=>?_
 replace hz8:IsZip g8 z TI TO (rawInt g5.objs.size):=hz8
 have up:∀c o,c≠z->g5.get? c=some o->g8.get? c=some o:=λc o c1 e=>b8.extBut _ _ c1 (b7.extBut _ _ c1 (aA _ e));have hP:IsPair g8 g5.objs.size x y:=b8.extBut _ _ (iD zlt) (b7.extBut _ _ (iD zlt) (aL _ rfl));rw[hsz] at hz8 hP;refine WE ⟨_,rfl,?_⟩;show Q (.ref g5.objs.size) _;rw[hsz];exact hQ g8 x y t4 px py hz8 (up _ _ ap.oz hT5) (D1.frame _ _ _ w1 λc hc o e=>up c o (λq=>ap.z1 (q▸hc)) e) (D2.frame _ _ _ w2 λc hc o e=>up c o (λq=>ap.z2 (q▸hc)) e) hP λc o c1 c2 c3 c4 e=>up c o c1 (kp5 c o c1 c2 c3 c4 e)
def DS{Q:Fin->Shared->Prop}(D1:Draws prog w A i1 f1 n1 P1 S1)(ap:rN z TI TO i1 i2 f1 f2)(hz:IsZip s.heap z TI TO .none)(hTI:IsPair s.heap TI (.ref i1) (.ref i2))(h1:S1 n1 s.heap)
  (hE:∀h' e,(∀c o,c≠z->c≠i1->s.heap.get? c=some o->h'.get? c=some o)->(∃o,h'.get? e=some o/\o.cls=.type "StopIteration")->E (.ref e) { s with heap:=h' }):wpAny (model prog w) A (Builtin.«zip.__next__» ⟨[.ref z],[]⟩) Q E s:=by
 show wpAny _ _ (field (.ref z) 2>>=_) _ _ _;refine wpAny_bind (WS hz rfl (x:=.bool false) rfl ?_);show wpAny _ _ (field (.ref z) 3>>=_) _ _ _;refine wpAny_bind (WS hz rfl (x:=.ref TI) rfl ?_);refine wpAny_bind (WX hTI rfl ?_);show wpAny _ _ (Builtin.SmallTypes.ownedTupleIsFree (.ref z)>>=_) _ _ _;refine wpAny_bind ?_;unfold Builtin.SmallTypes.ownedTupleIsFree;refine wpAny_bind (WS hz rfl (x:=.none) rfl (WE ?_));simp only[W9];refine wpAny_bind (wpAny_rule ?_);refine wpAny_bind (WS hz rfl (x:=.ref TO) rfl ?_);refine wpAny_bind (WY hz (by simp) λg1 hz1 b1=>?_)
 replace hz1:IsZip g1 z TI TO .ellipsis:=hz1
 refine wpAny_bind ?_;simp only[List.zipIdx_cons,List.zipIdx_nil,jw,List.forIn_nil];refine wpAny_bind (wpAny_bind (wpAny_onRaise ?_));show wpAny _ _ (Builtin.SmallTypes.nextOf (.ref i1)>>=_) _ _ _;refine wpAny_bind (D1.done { s with heap:=g1 } _ _ (fv D1 h1 b1 ap.z1) λg2 e b2 he=>?_);obtain⟨oe,hoe,hce⟩:=he;have hz2:IsZip g2 z TI TO .ellipsis:=b2 _ _ ap.az.symm hz1;have hez:e≠z:=λx=>by subst x;rw[hz2] at hoe;cases hoe;simp at hce
 exact WY hz2 (by simp) λg3 _ b3=>hE g3 e (λc o c1 c3 x=>b3.extBut _ _ c1 (b2 _ _ c3 (b1.extBut _ _ c1 x))) ⟨oe,b3.extBut _ _ hez hoe,hce⟩
def tP{Q:Option Value->Shared->Prop}(D1:Draws prog w A.in1 i1 f1 n1 P1 S1)(D2:Draws prog w A.in1 i2 f2 n2 P2 S2)(ap:rN z TI TO i1 i2 f1 f2)(hz:IsZip s.heap z TI TO .none)(hTI:IsPair s.heap TI (.ref i1) (.ref i2))(hTO:IsPair s.heap TO a b)(h1:S1 k s.heap)(h2:S2 k s.heap)(k1:k<n1)(k2:k<n2)
  (hQ:∀(h':Heap) (x y:Value) (tk:Nat),P1 k x->P2 k y->IsZip h' z TI TO (rawInt s.heap.objs.size)->IsPair h' TO x y->S1 (k+1) h'->S2 (k+1) h'->IsPair h' s.heap.objs.size x y->(∀c o,c≠z->c≠TO->c≠i1->c≠i2->s.heap.get? c=some o->h'.get? c=some o)->Q (some (.ref s.heap.objs.size)) { s with heap:=h',toks:=tk }) :
  wpAny (model prog w) A (pyNext (.ref z)) Q E s:=by
 have hT:s.TypeIs (.ref z) "zip":=⟨_,hz,rfl⟩
 unfold pyNext;exact wpAny_bind (WR (wpAny_callSpecial?_slot (name:=Str.ofString "__next__") hT jx (WQ jx hT F.entry_zip_next (Bq D1 D2 ap hz hTI hTO h1 h2 k1 k2 λh' x y tk q1 q2 q3 q4 q5 q6 q7 q8=>WE (hQ h' x y tk q1 q2 q3 q4 q5 q6 q7 q8)) (F.args_zip_next_1 _))))
def uq{Q:Option Value->Shared->Prop}(D1:Draws prog w A.in1 i1 f1 n1 P1 S1)(ap:rN z TI TO i1 i2 f1 f2)(hz:IsZip s.heap z TI TO .none)(hTI:IsPair s.heap TI (.ref i1) (.ref i2))(h1:S1 n1 s.heap)
  (hQ:∀h',(∀c o,c≠z->c≠i1->s.heap.get? c=some o->h'.get? c=some o)->Q none { s with heap:=h' }):wpAny (model prog w) A (pyNext (.ref z)) Q E s:=by
 have hT:s.TypeIs (.ref z) "zip":=⟨_,hz,rfl⟩
 unfold pyNext;refine wpAny_bind (WR (wpAny_callSpecial?_slot (name:=Str.ofString "__next__") hT jx (WQ jx hT F.entry_zip_next (DS D1 ap hz hTI h1 λh' e hk he=>?_) (F.args_zip_next_1 _))));obtain⟨o,ho,hc⟩:=he;exact wpAny_bind (wpAny_isInstance (T:="StopIteration") (b:=true) ⟨o,ho,hc⟩ isSubtype_stop (WE (hQ _ hk)))
end
abbrev DR (h:Heap) (l:Addr):Heap:=h.push { cls:=.type "tuple_iterator",data:=.fields #[.ref l,.int 0 0] }
abbrev Np (h:Heap) (l1 l2:Addr):Heap:=(DR (DR h l1) l2).push { cls:=.type "tuple",data:=.seq #[.ref h.objs.size,.ref (DR h l1).objs.size] }
abbrev Nn (h:Heap) (l1 l2:Addr):Heap:=(Np h l1 l2).push { cls:=.type "tuple",data:=.seq #[.none,.none] }
abbrev MJ (h:Heap) (l1 l2:Addr):Heap:=(Nn h l1 l2).push { cls:=.type "zip",data:=.fields #[.none,.bool false,.bool false,.ref (DR (DR h l1) l2).objs.size,.ref (Np h l1 l2).objs.size] }
def IS (l1 l2:Addr) (xs ys:Array Value):Meets (Builtin.«zip.__new__» ⟨[.type "zip",.ref l1,.ref l2],[]⟩) (λ_ R s=>s.heap.IsTuple l1 xs/\s.heap.IsTuple l2 ys/\R (.ok (.ret (.ref (Nn s.heap l1 l2).objs.size))) { s with heap:=MJ s.heap l1 l2 }):=.of_wp λprog w A R s h=>by
  obtain⟨hp,g,d,tk,os⟩:=s;obtain⟨hl1,hl2,h⟩:=h;have hsub:=sub_zip;have hL1:Heap.IsTuple (Shared.heap ⟨hp,g,d,tk,os⟩) l1 xs:=hl1;have hL2:Heap.IsTuple (Shared.heap ⟨hp.push { cls:=.type "tuple_iterator",data:=.fields #[.ref l1,.int 0 0] },g,d,tk,os⟩) l2 ys:=Heap.IsTuple.push hl2 _
  wp_walk using WF hL1,WF hL2;exact⟨_,rfl,h⟩
def Lr{prog:Program}{w:World}{A:Around}{E:Value->Shared->Prop}{s:Shared}{l1 l2:Addr}{xs ys:Array Value}{Q:Value->Shared->Prop}(hl1:s.heap.IsTuple l1 xs)(hl2:s.heap.IsTuple l2 ys)
  (h:∀h' n,n=s.heap.objs.size->IsZip h' (n+4) (n+2) (n+3) .none->IsPair h' (n+2) (.ref n) (.ref (n+1))->IsPair h' (n+3) .none .none->h'.IsTupleIter n l1 0->h'.IsTupleIter (n+1) l2 0->(∀c o,s.heap.get? c=some o->h'.get? c=some o)->Q (.ref (n+4)) { s with heap:=h' }):wpAny (model prog w) A (call (.type "zip") [.ref l1,.ref l2]) Q E s:=by
 refine callType_new F.called_zip (by decide) (F.typeCall_zip_2 _ _) (F.newCall_zip_2 _ _) (λobj=>F.args_object_init_3 obj _ _) F.entry_zip_new (IS l1 l2 xs ys) ⟨hl1,hl2,?_⟩;have z1:(DR s.heap l1).objs.size=s.heap.objs.size+1:=bq ..;have z2:(DR (DR s.heap l1) l2).objs.size=s.heap.objs.size+2:=by rw[bq,z1]
 have z3:(Np s.heap l1 l2).objs.size=s.heap.objs.size+3:=by rw[bq,z2]
 have z4:(Nn s.heap l1 l2).objs.size=s.heap.objs.size+4:=by rw[bq,z3]
 have g5:(MJ s.heap l1 l2).get? (Nn s.heap l1 l2).objs.size=some _:=aL _ rfl;have g4:(MJ s.heap l1 l2).get? (Np s.heap l1 l2).objs.size=some _:=aA _ (aL _ rfl);have g3:(MJ s.heap l1 l2).get? (DR (DR s.heap l1) l2).objs.size=some _:=aA _ (aA _ (aL _ rfl));have g2:(MJ s.heap l1 l2).get? (DR s.heap l1).objs.size=some _:=aA _ (aA _ (aA _ (aL _ rfl)));have g1:(MJ s.heap l1 l2).get? s.heap.objs.size=some _:=aA _ (aA _ (aA _ (aA _ (aL _ rfl))));show _/\_;rw[z2,z3,z4] at g5;rw[z1,z2] at g3;rw[z3] at g4;rw[z1] at g2;rw[z4];exact⟨⟨_,g5,rfl⟩,h _ _ rfl g5 g3 g4 ⟨_,g1,rfl,rfl⟩ ⟨_,g2,rfl,rfl⟩ λc o x=>aA _ (aA _ (aA _ (aA _ (aA _ x))))⟩
def JI(K:Wb)(a b:Addr):It:=
  ⟨λi H=>∃xs ys x y,de K H a xs/\de K H b ys/\xs[i]? = some x/\ys[i]? = some y,
   λi H v H'=>∃p x y,H p=none/\(∀xs,de K H a xs->xs[i]? = some x)/\(∀ys,de K H b ys->ys[i]? = some y)/\v=.ref p/\H'=bP H p (.tup [x,y]),
   λi H=>∃xs,de K H a xs/\xs.length=i⟩
def Br {P : Program} {w : World} {K : Wb} {elts : List Expr} {x1 : Nat} {pos : Pos} (n a b : Addr) (ha : a < n) (hb : b < n) :
    Turn P w K (.Tuple elts x1 pos) (JI K a b) [n + 4, n + 2, n + 3, n, n + 1] (n + 4) (fun i h => IsZip h (n + 4) (n + 2) (n + 3) .none ∧ IsPair h (n + 2) (.ref n) (.ref (n + 1)) ∧ (∃ u v, IsPair h (n + 3) u v) ∧ h.IsTupleIter n a i ∧ h.IsTupleIter (n + 1) b i) := by
  have hap : rN (n + 4) (n + 2) (n + 3) n (n + 1) [n, a] [n + 1, b] := by
    have h1 : @LT.lt Nat _ a n := ha
    have h2 : @LT.lt Nat _ b n := hb
    constructor <;> first
      | (intro h; simp only [aF, bB, or_false] at h; rcases h with h | h <;> (have h' : @Eq Nat _ _ := h; lia))
      | (intro h; have h' : @Eq Nat _ _ := h; lia)
  exact {
    mem := by simp
    obj := fun i h st c hb => by
      obtain ⟨h1, h2, ⟨u, v, h3⟩, ⟨o4, e4, c4, d4⟩, ⟨o5, e5, c5, d5⟩⟩ := st
      simp only [aF, bB, or_false] at hb
      rcases hb with rfl | rfl | rfl | rfl | rfl
      · exact ⟨_, h1, fun v z => by cases z⟩
      · exact ⟨_, h2, fun v z => by cases z⟩
      · exact ⟨_, h3, fun v z => by cases z⟩
      · exact ⟨o4, e4, fun v z => by rw [d4] at z; cases z⟩
      · exact ⟨o5, e5, fun v z => by rw [d5] at z; cases z⟩
    keep := fun i h h' st k => by
      obtain ⟨h1, h2, ⟨u, v, h3⟩, h4, h5⟩ := st
      exact ⟨k _ (by simp) _ h1, k _ (by simp) _ h2, ⟨u, v, k _ (by simp) _ h3⟩, h4.at fun o e => k _ (by simp) o e, h5.at fun o e => k _ (by simp) o e⟩
    item := by
      intro X hP hw hK hc i pins s σ H E I hf st hg
      subst hP hw hK
      obtain ⟨h1, h2, ⟨u0, v0, h3⟩, h4, h5⟩ := st
      obtain ⟨xs, ys, x, y, hqa, hqb, hx, hy⟩ := hg
      obtain ⟨ia, ra, pa, _⟩ := I.tuple hqa
      obtain ⟨ib, rb, pb, _⟩ := I.tuple hqb
      obtain ⟨ua, hua, rua⟩ := ra.get hx
      obtain ⟨ub, hub, rub⟩ := rb.get hy
      have hA : X.A.in1.handled = none := I.ok.hd hc
      have la : i < ia.toArray.size := by rw [aX]; exact (aK.mp hua).1
      have lb : i < ib.toArray.size := by rw [aX]; exact (aK.mp hub).1
      refine tP (Draws.tup hA n a (aV ha) ia.toArray) (Draws.tup hA (n + 1) b (aV (bS hb)) ib.toArray) hap h1 h2 h3 ⟨h4, pa⟩ ⟨h5, pb⟩ la lb fun h' x' y' tk e1 e2 hz ho hi1 hi2 hp kp => ?_
      have e1' : x' = ua := by have : ia[i]? = some x' := by simpa using e1
                               rw [hua] at this; cases this; rfl
      have e2' : y' = ub := by have : ib[i]? = some y' := by simpa using e2
                               rw [hub] at this; cases this; rfl
      subst e1' e2'
      refine ⟨_, rfl, wpAny_letOwnedTupleGo_zip hz fun hh hz2 hs2 => ?_⟩
      have hn : H s.heap.objs.size = none := I.hok.fresh (aI _)
      have lz : s.heap.objs.size ≠ n + 4 := iD (aN h1)
      have ht2 : hh.get? s.heap.objs.size = some { cls := .type "tuple", data := .seq #[x', y'] } := (hs2.2 _ lz).trans hp
      refine ⟨.ref s.heap.objs.size, bP H s.heap.objs.size (.tup [x, y]), I.turnNew (fp := [n + 4, n + 2, n + 3, n, n + 1]) hf (fun c o hb q => ?_) (aI _) (show cw X.prog X.w _ hh _ (.tup _) from ⟨(by show 2 ≤ sizeLine; decide), [x', y'], .cons rua (.cons rub .nil), _, ht2, rfl, _, rfl⟩), rfl, ⟨_, x, y, hn, fun zs hz => by rw [I.tuple_inj hz hqa]; exact hx, fun zs hz => by rw [I.tuple_inj hz hqb]; exact hy, rfl, rfl⟩, ?_, fun c hb => ?_⟩
      · simp only [aF, bB, or_false, not_or] at hb
        exact (hs2.2 c hb.1).trans (kp c o hb.1 hb.2.2.1 hb.2.2.2.1 hb.2.2.2.2 q)
      · exact ⟨hz2, (hs2.2 _ hap.tz).trans (kp _ _ hap.tz hap.to hap.ta hap.tb h2), ⟨_, _, (hs2.2 _ hap.oz).trans ho⟩, hi1.1.at fun o e => (hs2.2 _ hap.az).trans e, hi2.1.at fun o e => (hs2.2 _ hap.bz).trans e⟩
      · have hb' := (hf c hb).1
        rw [aS (fun z => ?_)]
        · exact hb'
        · have hz4 : @LT.lt Nat _ (n + 4) s.heap.objs.size := aN h1
          have z' : @Eq Nat c s.heap.objs.size := z
          simp only [aF, bB, or_false] at hb
          rcases hb with h | h | h | h | h <;> (have h' : @Eq Nat _ _ := h; lia)
    done := by
      intro X hP hw hK hc i pins s σ H E I hf st hg
      subst hP hw hK
      obtain ⟨h1, h2, ⟨u0, v0, h3⟩, h4, h5⟩ := st
      obtain ⟨xs, hqa, hx⟩ := hg
      obtain ⟨ia, ra, pa, _⟩ := I.tuple hqa
      have la := ra.length
      have hA : X.A.in1.handled = none := I.ok.hd hc
      have ei : ia.toArray.size = i := by rw [aX]; lia
      refine uq (Draws.tup hA n a (aV ha) ia.toArray) hap h1 h2 ⟨by rw [ei]; exact h4, pa⟩ fun h' kp => ⟨rfl, I.turnAll (t' := s.toks) hf fun c o hb q => ?_⟩
      simp only [aF, bB, or_false, not_or] at hb
      exact kp c o hb.1 hb.2.2.2.1 q
    self := fun _ _ _ _ _ st h => WZ st.1 h }
def Ja(K:Wb)(ta:TA):TI:=λσ H R=>ta σ H λvs H1=>∃a b,vs=[.ref a,.ref b]/\(∃xs,de K H1 a xs)/\(∃ys,de K H1 b ys)/\R (JI K a b) H1
def Ei {X:Cx} {a b:Expr} {ta:TA} {elts:List Expr} {x1:Nat} {p pos tpos:Pos} (hg:Gl X "zip") (hm:X.mg "zip"=none) (ha:QA X [a,b] ta) (hs:starEach [a,b] X.env=(false,eval a X.env)::starEach [b] X.env:=by rfl) (hpl:(backTo pos (starEach [b] X.env)).any (·.1)=false:=by rfl) :
  QI X (.Tuple elts x1 tpos) (.Call (.Name "zip" p) [a,b] [] pos) (Ja X.K ta):=⟨by
 intro pins s σ H R I h;refine Call_ (jm I hg hm boot_zip (bW (dJ (ha.h pos pins s σ H _ I h) λus s1 ⟨vs,H1,I1,r1,z1,z2,e,⟨xs,hx⟩,⟨ys,hy⟩,q⟩=>?_) hs hpl));subst e;obtain⟨u,u',rfl,r2,r3⟩:=vals2 r1;cases r2;cases r3;obtain⟨ia,ra,pa,_⟩:=I1.tuple hx;obtain⟨ib,rb,pb,_⟩:=I1.tuple hy;have ha':s1.heap.IsTuple z1 ia.toArray:=pa;have hb':s1.heap.IsTuple z2 ib.toArray:=pb;obtain⟨oa,hoa,_⟩:=id ha';obtain⟨ob,hob,_⟩:=id hb';refine Lr ha' hb' λh' n en hz hti hto hi1 hi2 kp=>?_;refine WZ hz ?_;have I2:bX X pins σ H1 { s1 with heap:=h' }:=I1.kept (t':=s1.toks) kp;refine⟨_,_,_,_,H1,rfl,I2,Br n z1 z2 (by rw[en];exact aN hoa) (by rw[en];exact aN hob),⟨hz,hti,⟨_,_,hto⟩,hi1,hi2⟩,λb hb=>?_,q⟩;have hle:s1.heap.objs.size<=b:=by
  simp only[aF,bB,or_false] at hb;have en':@Eq Nat n s1.heap.objs.size:=en;show @LE.le Nat _ _ _;rcases hb with h | h | h | h | h<;>(have h':@Eq Nat _ _:=h;lia)
 exact I1.fpOk hle (I1.hok.fresh hle)⟩
def Aa{K:Wb}{σ:St}{H:Hp}{D:Ends}{ta:TA}{g:TG}{tb:TS}:pJ (Ja K ta) g tb D σ H=ta σ H λvs H1=>∃a b,vs=[.ref a,.ref b]/\(∃xs,de K H1 a xs)/\(∃ys,de K H1 b ys)/\oV (JI K a b) g tb D σ H1:=rfl
def GD{K:Wb}{σ:St}{H:Hp}{D:Ends}{a b:Addr}{xs ys:List V}{g:TG}{tb:TS}(hle:xs.length<=ys.length)(Pv:Nat->St->Hp->Prop)(h0:Pv 0 σ H)(hl:∀i σ H,Pv i σ H->de K H a xs/\de K H b ys)
  (hs:∀i x y σ H p,xs[i]? = some x->ys[i]? = some y->Pv i σ H->H p=none->g (.ref p) σ (bP H p (.tup [x,y])) λσ2 H2=>tb { D with nx:=Pv (i+1),ct:=Pv (i+1),bk:=D.nx } σ2 H2) (hd:∀σ H,Pv xs.length σ H->D.nx σ H):oV (JI K a b) g tb D σ H:=by
 refine⟨λi m σ H=>m+i=xs.length/\Pv i σ H,⟨xs.length,rfl,h0⟩,?_⟩;rintro i m σ H ⟨hm,hp⟩;obtain⟨q1,q2⟩:=hl i σ H hp;by_cases hi:i<xs.length
 ·refine .inr ⟨⟨xs,ys,xs[i],ys[i],q1,q2,by simp[hi],by simp[aT hi hle]⟩,Pv (i+1),λσ' H' h=>⟨m - 1,by lia,by lia,h⟩,?_⟩;rintro v H' ⟨p,x,y,hn,hx,hy,rfl,rfl⟩;exact hs i x y σ H p (hx xs q1) (hy ys q2) hp hn
 ·have e:i=xs.length:=by lia
  subst e;exact .inl ⟨⟨xs,q1,rfl⟩,hd σ H hp⟩
end L2
namespace Rm
open PySem L2
def Ec(lo:Int)(n:Nat):(fU lo n).length=n:=by simp[fU]
def fh(d:PyData):Bool:=isI d&&!OD d
def wZ{K:Wb}{H:Hp}{x:V}{d:PyData}{Q:VK}{E:XK}(h:Dat H x d)(q:Q (.bl (fh d)) H):rm K [x] H Q E:=
 ⟨x,_,isI d,OD d,rfl,h.ty,by cases h<;>rfl,by cases h<;>rfl,q⟩
def Il{H:Hp}{xs:List V}{d e:PyData}(h:gI H xs [d,e]):∃x y,xs=[x,y]/\Dat H x d/\Dat H y e:=by
 cases h with
 | cons h1 h2=>
  cases h2 with
  | cons h3 h4=>cases h4;exact⟨_,_,rfl,h1,h3⟩
def intOf:PyData->Int
 | .int n=>n
 | _=>0
def sF:∀{d:PyData},fh d=true->d=.int (intOf d)
 | .int n,_=>rfl
def kd:PyData->Bool
 | .tuple ds=>decide (ds.length<=20)&&(ds.all fh&&(ds.map intOf).isPerm (fU 1 ds.length))
 | _=>false
def j5:PyData->Bool
 | .str z=>decide (z=Str.ofString "l") || decide (z=Str.ofString "r")
 | _=>false
def mI:PyData->Bool
 | .tuple [a,b]=>j5 a&&kd b
 | _=>false
def xt{x:Int}{n:Nat}:x∈fU 1 n<->1<=x/\x<=n:=by
 unfold fU;rw[bN];constructor
 ·rintro⟨i,hi,rfl⟩;have:=dr.mp hi;lia
 ·rintro⟨h1,h2⟩;exact⟨(x - 1).toNat,dr.mpr (by lia),by lia⟩
def Ed(n:Nat):(fU 1 n).Pairwise (·<=·):=by
 unfold fU;rw[iq,iG];intro i j hi hj hij;simp;lia
def sh(n:Nat):(fU 1 n).Nodup:=by
 unfold fU List.Nodup;rw[iq];exact(List.nodup_range (n:=n)).imp λh e=>h (by lia)
def vX{ms ns:List Int}(hp:ms.Perm ns)(hs:ms.Pairwise (·<=·)):decide (ms=fU 1 ns.length)=ns.isPerm (fU 1 ns.length):=by
 by_cases h:ns.Perm (fU 1 ns.length)
 ·rw[gE.mpr h];exact W8 (PySem.W.ksm_same (hp.trans h) hs (Ed _))
 ·have h2:ns.isPerm (fU 1 ns.length)=false:=by
   cases e:ns.isPerm (fU 1 ns.length) with
   | false=>rfl
   | true=>exact absurd (gE.mp e) h
  rw[h2];exact W7 λe=>h (e▸hp.symm)
def C3{ds:List PyData}{i:Nat}{d:PyData}(h:ds[i]? = some d)(hb:fh d=false\/intOf d<1\/(ds.length:Int)<intOf d\/intOf d∈(ds.map intOf).take i):kd (.tuple ds)=false:=by
 cases e:kd (.tuple ds) with
 | false=>rfl
 | true=>
  have e':(decide (ds.length<=20)&&(ds.all fh&&(ds.map intOf).isPerm (fU 1 ds.length)))=true:=e;rw[cQ,cQ] at e';obtain⟨_,e1,e2⟩:=e';have hp:=gE.mp e2;have hm:=bM h;have hr:=xt.mp (hp.mem_iff.mp (bN.mpr ⟨d,hm,rfl⟩));rcases hb with z | z | z | z
  ·rw[iF.mp e1 d hm] at z;cases z
  ·lia
  ·lia
  ·have nd:(ds.map intOf).Nodup:=hp.nodup_iff.mpr (sh _);have e3:(ds.map intOf)[i]? = some (intOf d):=by rw[au,h];rfl
   obtain⟨j,hj,ej⟩:=List.getElem_of_mem z;rw[cI] at hj;rw[List.getElem_take] at ej;obtain⟨hi,e4⟩:=aK.mp e3;have:=(mX nd (h₀:=by lia) (h₁:=hi)).mp (ej.trans e4.symm);lia
def BX:(Str.ofString "l")=⟨#[108]⟩:=by decide +kernel
def BW:(Str.ofString "r")=⟨#[114]⟩:=by decide +kernel
def EY (d:PyData):([PyData.str (Str.ofString "l"),.str (Str.ofString "r")].any λe=>PyData.eqv e d)=j5 d:=by
 cases d with
 | str z=>
  show (decide (Str.ofString "l"=z) || (decide (Str.ofString "r"=z) || false))=_;rw[lq];show _=(decide (z=Str.ofString "l") || decide (z=Str.ofString "r"))
  congr 1
  ·exact decide_eq_decide.mpr ⟨kO,kO⟩
  ·exact decide_eq_decide.mpr ⟨kO,kO⟩
 | _=>rfl
structure Pl (d:PyData) (n:Nat):Prop where
 lay:d.canLay0=true
 deep:d.depth<=n
def qS:Sp:=λvs H Q _=>∃x d,vs=[x]/\Dat H x d/\Pl d 60/\Q (.bl (j5 d)) H
def ue:Sp:=λvs H Q _=>∃x d,vs=[x]/\Dat H x d/\∀H',aP H H'->Q (.bl (kd d)) H'
def wv:Sp:=λvs H Q _=>∃x d,vs=[x]/\Dat H x d/\Pl d 60/\∀H',aP H H'->Q (.bl (mI d)) H'
mutual
def Oa:PyData->Bool
 | .list _=>false
 | .tuple ds=>IP ds
 | .dict _=>false
 | _=>true
def IP:List PyData->Bool
 | []=>true
 | d::ds=>Oa d&&IP ds
end
mutual
def Ik{H:Hp}{l:Addr}{ys:List V}{o:HO}(hl:H l=some (.lst ys)):∀{x:V} {d:PyData},Dat H x d->Oa d=true->Dat (bP H l o) x d
 | _,_,.non,_=>.non
 | _,_,.bl b,_=>.bl b
 | _,_,.int i,_=>.int i
 | _,_,.str x,_=>.str x
 | _,_,.tup h r,n=>.tup (by rw[aS (BS h hl (by intro q;cases q))];exact h) (yT hl r n)
 | _,_,.lst h r,n=>nomatch n
def yT{H:Hp}{l:Addr}{ys:List V}{o:HO}(hl:H l=some (.lst ys)):∀{xs:List V} {ds:List PyData},gI H xs ds->IP ds=true->gI (bP H l o) xs ds
 | _,_,.nil,_=>.nil
 | _,_,.cons h r,n=>by
  have n':(Oa _&&IP _)=true:=n;rw[cQ] at n';exact .cons (Ik hl h n'.1) (yT hl r n'.2)
end
def gj{H:Hp}:∀ns:List Int,gI H (ns.map V.int) (ns.map PyData.int)
 | []=>.nil
 | n::ns=>.cons (.int n) (gj ns)
def yY{H:Hp}:∀{xs ys:List V} {ds es:List PyData},gI H xs ds->gI H ys es->gI H (xs++ys) (ds++es)
 | _,_,_,_,.nil,h=>h
 | _,_,_,_,.cons a r,h=>.cons a (yY r h)
end Rm
namespace L2
open PySem PySem.Spec PyProof.Rows
section
variable {σ:St} {H:Hp}
def KD{trs:List (TE×TE)}{Q:VK}:EF trs σ H Q=∀p,H p=none->pY trs σ (bP H p (.dK [])) λps H2=>H2 p=some (.dK [])/\∃kvs:List (Key×V),ps=kvs.map (λkv=>(kV kv.1,kv.2))/\kvs.length<=15/\Q (.ref p) (bP H2 p (.dK (qA [] kvs))):=rfl
def M1{Q:List (V×V)->Hp->Prop}:pY [] σ H Q=Q [] H:=rfl
def M0{tk tv:TE}{r:List (TE×TE)}{Q:List (V×V)->Hp->Prop}:pY ((tk,tv)::r) σ H Q=tk σ H λx H1=>tv σ H1 λy H2=>pY r σ H2 λps H3=>Q ((x,y)::ps) H3:=rfl
def MZ{r:V->Option Int->Option Int->Hp->VK->Prop}{te:TE}{tl th:TO}{Q:VK}:OS r te tl th σ H Q=te σ H λx H1=>tl σ H1 λl H2=>th σ H2 λu H3=>r x l u H3 Q:=rfl
def D0{t:TE}{Q:Option Int->Hp->Prop}:Dv t σ H Q=t σ H λx H1=>∃i,x=.int i/\Q (some i) H1:=rfl
def w9{Q:Option Int->Hp->Prop}:vQ σ H Q=Q none H:=rfl
end
end L2
namespace Rm
open PySem L2
def sd (b:Bool):Str:=if b then Str.ofString "r" else Str.ofString "l"
def Mu (b:Bool):(sd b=Str.ofString "l")=(b=false):=by cases b<;>simp[sd,BX,BW]
def OW (b:Bool):(sd b=Str.ofString "r")=(b=true):=by cases b<;>simp[sd,BX,BW]
def Kb{a b:Bool}(h:sd a=sd b):a=b:=by cases a<;>cases b<;>simp[sd,BX,BW] at h<;>rfl
def L7:(Str.ofString "lr")=⟨#[108,114]⟩:=by decide +kernel
def N0 {i:Int} (h0:0<=i) (h1:i<2):vI (Str.ofString "lr").cps.toList i=some (if i=1 then 114 else 108):=by
 have e:i=0\/i=1:=by lia
 rw[L7];rcases e with rfl | rfl<;>rfl
def NZ(i:Int):(⟨#[if i=1 then 114 else 108]⟩:Str)=sd (decide (i=1)):=by
 by_cases h:i=1
 ·simp[h,sd,BW]
 ·simp[h,sd,BX]
def odd(i:Nat):Bool:=i % 2==1
def mF(i:Nat):odd (i+1)=!odd i:=by
 unfold odd;rcases ce i with h | h<;>simp[Nat.add_mod,h]
def ef(ns:List Int):List Int:=0::(ns++[(ns.length:Int)+1])
def jN(ns:List Int):(ef ns).length=ns.length+2:=by simp[ef]
def bj(ns:List Int)(i:Nat):Int:=(ef ns).getD i 0
def jz(ns:List Int)(i:Nat):Bw:=(min (bj ns i) (bj ns (i+1)),max (bj ns i) (bj ns (i+1)))
def dc(b s:Bool)(i:Nat):Bool:=(b ^^ odd i)==s
def bE(b:Bool)(ns:List Int)(s:Bool)(m:Nat):List Bw:=((List.range m).filter (dc b s)).map (jz ns)
def qU{b:Bool}{ns:List Int}{s:Bool}{i:Nat}(h:dc b s i=true):bE b ns s (i+1)=bE b ns s i++[jz ns i]:=by
 unfold bE;rw[gA,ko,aR];simp[h]
def rS{b:Bool}{ns:List Int}{s:Bool}{i:Nat}(h:dc b s i=false):bE b ns s (i+1)=bE b ns s i:=by
 unfold bE;rw[gA,ko,aR];simp[h]
def xg(b:Bool)(i:Nat):dc b (b ^^ odd i) i=true:=by simp[dc]
def ic(b:Bool)(ns:List Int)(s:Bool)(m:Nat):(bE b ns s m).length<=m:=by
 unfold bE;rw[aG];exact b9 (List.length_filter_le _ _) (by rw[lS];exact aI _)
structure oQ (ns:List Int):Prop where
 len:ns.length<=20
 perm:ns.Perm (fU 1 ns.length)
def oQ.mem{ns:List Int}(O:oQ ns){x:Int}:x∈ns<->1<=x/\x<=ns.length:=O.perm.mem_iff.trans xt
def oQ.rows_nodup{ns:List Int}(O:oQ ns):(ef ns).Nodup:=by
 have nd:ns.Nodup:=O.perm.nodup_iff.mpr (sh _);unfold ef;rw[dI,lQ];refine⟨λh=>?_,nd,by simp,λa ha b hb e=>?_⟩
 ·rcases aQ.mp h with z | z
  ·have:=O.mem.mp z;lia
  ·have:(0:Int)=ns.length+1:=by simpa using z
   lia
 ·have:b=(ns.length:Int)+1:=by simpa using hb
  have:=O.mem.mp ha;lia
def oQ.rows_mem{ns:List Int}(O:oQ ns){x:Int}(h:x∈ef ns):0<=x/\x<=(ns.length:Int)+1:=by
 unfold ef at h;rcases aF.mp h with z | z
 ·lia
 ·rcases aQ.mp z with z | z
  ·have:=O.mem.mp z;lia
  ·have:x=(ns.length:Int)+1:=by simpa using z
   lia
def ja{ns:List Int}{i:Nat}(h:i<ns.length+2):(ef ns)[i]? = some (bj ns i):=by
 unfold bj;have:i<(ef ns).length:=by rw[jN];exact h
 simp[List.getD,this]
def oQ.row_inj{ns:List Int}(O:oQ ns){i j:Nat}(hi:i<ns.length+2)(hj:j<ns.length+2)(h:bj ns i=bj ns j):i=j:=by
 have h1:=aK.mp (ja hi);have h2:=aK.mp (ja hj);exact(mX O.rows_nodup (h₀:=h1.1) (h₁:=h2.1)).mp (h1.2.trans (h.trans h2.2.symm))
def oQ.row_in{ns:List Int}(O:oQ ns){i:Nat}(hi:i<ns.length+2):0<=bj ns i/\bj ns i<=(ns.length:Int)+1:=O.rows_mem (bM (ja hi))
def Ke(ns:List Int):bj ns 0=0:=rfl
def uk(ns:List Int):bj ns (ns.length+1)=(ns.length:Int)+1:=by simp[bj,ef,List.getD]
def Eb{ns:List Int}{i:Nat}{x:Int}(h:(ns++[(ns.length:Int)+1])[i]? = some x):bj ns (i+1)=x:=by simp only[bj,ef,List.getD,i8,h];rfl
def uj{ns:List Int}{i:Nat}{x:Int}(h:ns[i]? = some x):bj ns (i+1)=x:=Eb (by rw[bT (aK.mp h).1];exact h)
def oQ.step_lt{ns:List Int}(O:oQ ns){i:Nat}(hi:i<=ns.length):(jz ns i).1<(jz ns i).2:=by
 have:bj ns i≠bj ns (i+1):=λe=>by
  have:=O.row_inj (by lia) (by lia) e;lia
 show min (bj ns i) (bj ns (i+1))<max (bj ns i) (bj ns (i+1));lia
def oQ.step_in{ns:List Int}(O:oQ ns){i:Nat}(hi:i<=ns.length):0<=(jz ns i).1/\(jz ns i).2<=(ns.length:Int)+1:=by
 have h1:=O.row_in (i:=i) (by lia);have h2:=O.row_in (i:=i+1) (by lia);show 0<=min (bj ns i) (bj ns (i+1))/\max (bj ns i) (bj ns (i+1))<=_;lia
def ly{b:Bool}{ns:List Int}{s:Bool}{m:Nat}{p:Bw}(h:p∈bE b ns s m):∃i,i<m/\dc b s i=true/\p=jz ns i:=by
 unfold bE at h;obtain⟨i,hi,rfl⟩:=bN.mp h;obtain⟨h1,h2⟩:=gB.mp hi;exact⟨i,dr.mp h1,h2,rfl⟩
def sU{b:Bool}{ns:List Int}{s:Bool}{m i:Nat}(h:i<m)(hs:dc b s i=true):jz ns i∈bE b ns s m:=
 bN.mpr ⟨i,gB.mpr ⟨dr.mpr h,hs⟩,rfl⟩
def Ih(x:Int)(p:Bw):Bool:=decide (x=p.1) || decide (x=p.2)
def oQ.has_iff{ns:List Int}(O:oQ ns){i j:Nat}(hi:i<ns.length+2)(hj:j<=ns.length):Ih (bj ns i) (jz ns j)=decide (j=i\/j+1=i):=by
 have e:Ih (bj ns i) (jz ns j)=decide (bj ns i=bj ns j\/bj ns i=bj ns (j+1)):=by
  show (decide (bj ns i=min (bj ns j) (bj ns (j+1))) || decide (bj ns i=max (bj ns j) (bj ns (j+1))))=_;rw[<-Bool.decide_or];exact decide_eq_decide.mpr (by lia)
 rw[e];refine decide_eq_decide.mpr ⟨λh=>?_,λh=>?_⟩
 ·rcases h with h | h
  ·exact .inl (O.row_inj hi (by lia) h).symm
  ·exact .inr (O.row_inj hi (by lia) h).symm
 ·rcases h with rfl | rfl
  ·exact .inl rfl
  ·exact .inr rfl
def F1{b s:Bool}{j k:Nat}(h1:dc b s j=true)(h2:dc b s k=true)(h:j=k+1):False:=by
 subst h;simp only[dc,mF,beq_iff_eq] at h1 h2;cases b<;>cases s<;>cases hk:odd k<;>simp[hk] at h1 h2
structure uH (b:Bool) (ns:List Int) (s:Bool) (L:List Bw):Prop where
 perm:L.Perm (bE b ns s (ns.length+1))
 asc:L.Pairwise leB
def uH.len{b:Bool}{ns:List Int}{s:Bool}{L:List Bw}(h:uH b ns s L)(O:oQ ns):L.length<=21:=by
 have h1:=h.perm.length_eq;have h2:=ic b ns s (ns.length+1);have:=O.len;lia
def yr{x y:Int}{ms:List Int}(h:ms.Perm [x,y])(hs:ms.Pairwise (·<=·)):ms=[min x y,max x y]:=by
 have:(if x<=y then [x,y] else [y,x]).Perm [x,y]:=by
  by_cases e:x<=y
  ·rw[W5 e]
  ·rw[W4 e];exact List.Perm.swap x y []
 have e2:[min x y,max x y]=(if x<=y then [x,y] else [y,x]):=by
  by_cases e:x<=y
  ·rw[W5 e];simp[oS,oT,e]
  ·rw[W4 e];have:y<=x:=by lia
   simp[oS,oT,e]
 rw[e2];refine List.Perm.eq_of_pairwise (le:=(·<=·)) (λa b _ _ h h'=>by lia) hs ?_ (h.trans this.symm);by_cases e:x<=y
 ·rw[W5 e];simp[e]
 ·rw[W4 e];simp;lia
def Io{ns:List Int}{i:Nat}(h:i<=ns.length):qk ((ef ns).map V.int) (some (0+(i:Int))) (some (0+(i:Int)+2))=[bj ns i,bj ns (i+1)].map V.int:=by
 have e1:HT.sIx ((ef ns).map V.int).length 0 (some (0+(i:Int)))=i:=by
  show (if (0+(i:Int))<0 then (0+(i:Int)+(((ef ns).map V.int).length:Int)).toNat else min (0+(i:Int)).toNat ((ef ns).map V.int).length)=i;rw[W4 (by lia),aG,jN];lia
 have e2:HT.sIx ((ef ns).map V.int).length ((ef ns).map V.int).length (some (0+(i:Int)+2))=i+2:=by
  show (if (0+(i:Int)+2)<0 then (0+(i:Int)+2+(((ef ns).map V.int).length:Int)).toNat else min (0+(i:Int)+2).toNat ((ef ns).map V.int).length)=i+2;rw[W4 (by lia),aG,jN];lia
 unfold qk;rw[e1,e2,show i+2-i=2 by lia,<-List.map_drop,<-List.map_take];congr 1;have h1:=aK.mp (ja (ns:=ns) (i:=i) (by lia));have h2:=aK.mp (ja (ns:=ns) (i:=i+1) (by lia));rw[aj h1.1,aj h2.1,h1.2,h2.2];rfl
def fE(H:Hp)(m o:Addr)(b:Bool)(ns:List Int):Prop:=H m=some (.tup [.str (sd b),.ref o])/\H o=some (.tup (ns.map V.int))
def fE.same{H H':Hp}{m o:Addr}{b:Bool}{ns:List Int}(h:fE H m o b ns)(s:aP H H'):fE H' m o b ns:=⟨s _ _ h.1,s _ _ h.2⟩
def vU:Sp:=λvs H Q _=>∃b,vs=[.str (sd b)]/\Q (.str (sd !b)) H
def wq:Sp:=λvs H Q _=>∃m o b ns,∃k:Nat,vs=[.ref m,.int k]/\fE H m o b ns/\Q (.str (sd (b ^^ odd k))) H
def ES:Sp:=λvs H Q _=>∃m o b ns,vs=[.ref m]/\fE H m o b ns/\ns.length<=40/\∀l H',H l=none->aP H H'->H' l=some (.lst ((ef ns).map V.int))->Q (.ref l) H'
structure MI (H:Hp) (t l r:Addr) (b:Bool) (ns:List Int) (L R:List Bw):Prop where
 tup:H t=some (.tup [.ref l,.ref r])
 left:gW H l L
 right:gW H r R
 isL:uH b ns false L
 isR:uH b ns true R
 ne:l≠r
def sS:Sp:=λvs H Q _=>∃m o b ns,vs=[.ref m]/\fE H m o b ns/\oQ ns/\∀t l r L R H',H t=none->H l=none->H r=none->aP H H'->MI H' t l r b ns L R->Q (.ref t) H'
def vC{H:Hp}{l t:Addr}{as:List Addr}{ps:List Bw}{p:Bw}(h1:H l=some (.lst (as.map V.ref)))(h2:Paired (ff H) as ps)(ht:ff H t p):gW (bP H l (.lst (as.map V.ref++[.ref t]))) l (ps++[p]):=by
 have st:∀{a:Addr} {p:Bw},ff H a p->ff (bP H l (.lst (as.map V.ref++[.ref t]))) a p:=fun {a p} h=>by
  have:a≠l:=λe=>by subst e;unfold ff at h;rw[h1] at h;cases h
  unfold ff;rw[aS this];exact h
 refine⟨as++[t],by rw[aD,aR];rfl,?_⟩;clear h1;generalize bP H l (.lst (as.map V.ref++[.ref t]))=H' at st ⊢
 induction h2 with
 | nil=>exact .cons (st ht) .nil
 | cons a b ih=>exact .cons (st a) ih
end Rm
namespace L2
open PySem PySem.Spec PyProof.Rows
def ND:V->Option Int->Option Int->Hp->VK->Prop:=λx lo hi H Q=>∃z,x=.str z/\z.length<=sizeLine/\Q (.str (Txt.slice z lo hi)) H
section
variable {X:Cx}
def vZ:OH X ND:=by
 intro pins s σ H x v vl vu lo hi sl Q I rx hs pl pu h;obtain⟨z,rfl,hz,q⟩:=h;obtain⟨t,rfl⟩:=rx;have fin:∀t' k,EP X pins σ Q (.str (Txt.slice z lo hi) t') { s with toks:=k }:=λt' k=>⟨.str _,H,I.tok k,⟨t',rfl⟩,q⟩
 refine⟨"str",_,F.slot_str_getitem.lookup,WM _ _ _,?_⟩;cases pl with
 | none=>
  cases pu with
  | none=>exact wpAny_getItem_str_slice (l:=none) (u:=none) (st:=none) hs rfl (W0 ⟨b9 (nI z _ _) hz,fin⟩)
  | int j u=>exact wpAny_getItem_str_slice (l:=none) (u:=some (j,u)) (st:=none) hs rfl (W0 ⟨b9 (nI z _ _) hz,fin⟩)
 | int i w=>
  cases pu with
  | none=>exact wpAny_getItem_str_slice (l:=some (i,w)) (u:=none) (st:=none) hs rfl (W0 ⟨b9 (nI z _ _) hz,fin⟩)
  | int j u=>exact wpAny_getItem_str_slice (l:=some (i,w)) (u:=some (j,u)) (st:=none) hs rfl (W0 ⟨b9 (nI z _ _) hz,fin⟩)
def MY{z:Str}{lo hi:Option Int}{H:Hp}{Q:VK}:ND (.str z) lo hi H Q=(z.length<=sizeLine/\Q (.str (Txt.slice z lo hi)) H):=
 propext ⟨λ⟨_,e,h⟩=>by cases e;exact h,λh=>⟨z,rfl,h⟩⟩
end
end L2
namespace Rm
open PySem L2
def wo(H:Hp)(m:Addr):Hp:=λb=>if b=m then none else H b
def vM(H:Hp)(m:Addr):aP (wo H m) H:=λb o e=>by
 unfold wo at e;by_cases h:b=m
 ·rw[W5 h] at e;cases e
 ·rw[W4 h] at e;exact e
def A3(H:Hp)(m:Addr)(o:HO):wo (bP H m o) m=wo H m:=by
 funext b;unfold wo;by_cases h:b=m
 ·rw[W5 h,W5 h]
 ·rw[W4 h,W4 h,aS h]
def yp{H:Hp}{m t:Addr}{o:HO}(h:H t=none):aP (wo H m) (wo (bP H t o) m):=λb u e=>by
 have e':=vM H m b u e;unfold wo at e ⊢;by_cases hb:b=m
 ·rw[W5 hb] at e;cases e
 ·rw[W4 hb,aS (bD e' h)];exact e'
def JL{H:Hp}{m t:Addr}{u:HO}(h:t≠m)(e:H t=some u):wo H m t=some u:=by unfold wo;rw[W4 h];exact e
def Gj{H:Hp}{m:Addr}(h:H m=none):wo H m=H:=by
 funext b;unfold wo;by_cases e:b=m
 ·rw[W5 e,e,h]
 ·rw[W4 e]
end Rm
namespace L2
open PySem PySem.Spec PyProof.Rows PySem.Builtin PySem.Builtin.Str
def By{prog:Program}{w:World}{A:Around}{E:Value->Shared->Prop}{s:Shared}{x y:Str}{t u:Tok}{Q:Value->Shared->Prop}(hy:(y.length==0)=false)(hsz:x.length+2<=sizeLine)
  (hq:∀(l:List (Str×Tok)) (k:Nat),l.map (·.1)=Txt.split x y->Q (.ref s.heap.objs.size) { s with heap:=s.heap.push { cls:=.type "list",data:=.seq (strValues l).toArray },toks:=k }) :
  wpAny (model prog w) A (call (.builtin "str.split") [.str x t,.str y u]) Q E s:=by
 have hle:=split_le x y;cases h1:(decide (x.length<y.length) || decide (strKind x<strKind y))
 ·cases hf:(occurrences x y 0 x.length (x.length+1)).isEmpty
  ·have es:Txt.split x y=partsBetween x (occurrences x y 0 x.length (x.length+1)) y.length:=(W4 (ne_true_of_eq_false h1)).trans (W4 (ne_true_of_eq_false hf));rw[es] at hle;refine call_meets m8 (WM _ _ _) lT (ky _ _) (meets_str_split_sep x y t u h1 hy hf (b9 (mU _ _) hsz) (b9 hle hsz)) ?_;show wants Q E _ { s with toks:=_,heap:=s.heap.push { cls:=.type "list",data:=.seq (strsFrom s.toks (partsBetween x (occurrences x y 0 x.length (x.length+1)) y.length)).toArray } };rw[strsFrom_eq];exact hq (numbered s.toks _) _ ((numbered_texts _ _).trans es.symm)
  ·exact call_meets m8 (WM _ _ _) lT (ky _ _) (meets_str_split_not_found x y t u h1 hy hf)
    (hq [(x,t)] s.toks ((W4 (ne_true_of_eq_false h1)).trans (W5 hf)).symm)
 ·exact call_meets m8 (WM _ _ _) lT (ky _ _) (meets_str_split_cannot_occur x y t u h1)
   (hq [(x,t)] s.toks (W5 h1).symm)
def qO:∀(l:List (Str×Tok)),cH ((l.map (·.1)).map V.str) (strValues l)
 | []=>.nil
 | (a,t)::l=>.cons ⟨t,rfl⟩ (qO l)
section
variable {X:Cx}
def Kf:V->List V->Hp->VK->Prop:=λx vs H Q=>∃z y,x=.str z/\vs=[.str y]/\(y.length==0)=false/\z.length<=100000/\∀l,H l=none->Q (.ref l) (bP H l (.lst ((Txt.split z y).map V.str)))
def Fd:Ng X "str.split" Kf:=by
 intro pins s σ H x xs v us Q I r rv h;obtain⟨z,y,rfl,rfl,hy,hz,q⟩:=h;obtain⟨t,rfl⟩:=r;obtain⟨u,rfl,t2,rfl⟩:=WI rv;have hz2:z.length+2<=sizeLine:=by rw[WH];lia
 refine By hy hz2 λl k e=>?_;have hl:((Txt.split z y).map V.str).length<=sizeLine:=by rw[aG];exact b9 (split_le z y) hz2
 have hv:cH ((Txt.split z y).map V.str) (strValues l):=e▸qO l;exact⟨.ref s.heap.objs.size,_,I.laid (λb o e=>aA _ e) (aI _) (show cw X.prog X.w _ _ _ (.lst _) from ⟨hl,strValues l,_,hv,aL _ rfl⟩),rfl,q _ (I.hok.fresh (aI _))⟩
def uY (hc:X.calm=true):fN X (.type "list") (λxs H Q=>∃z,xs=[.str z]/\z.cps.size<=1000/\∀l,H l=none->Q (.ref l) (bP H l (.lst (z.cps.toList.map λc=>V.str ⟨#[c]⟩)))):=by
 intro pins s σ H xs us Q I r h;obtain⟨z,rfl,hz,q⟩:=h;obtain⟨u,rfl,t,rfl⟩:=WI r;have hz2:z.cps.size<=sizeLine:=ba (cB hz);refine call_list_str (I.ok.hd hc) z t (λh' tk acc' c' kp e' hit=>?_) hz2;have hv:cH (z.cps.toList.map λc=>V.str ⟨#[c]⟩) acc'.toList:=by
  refine Aj (by simp[hit.1]) λi x u h1 h2=>?_;obtain⟨c,t',hc',rfl⟩:=hit.2 i u (by simpa using h2);have:x=V.str ⟨#[c]⟩:=by
   rw[au] at h1;have:z.cps.toList[i]? = some c:=by simpa using hc'
   rw[this] at h1;exact(bI h1).symm
  subst this;exact⟨t',rfl⟩
 have hl:(z.cps.toList.map λc=>V.str ⟨#[c]⟩).length<=sizeLine:=by simpa using hz2
 exact⟨.ref s.heap.objs.size,_,I.laid kp (aI _) (show cw X.prog X.w _ h' _ (.lst _) from ⟨hl,acc'.toList,c',hv,by simpa using e'⟩),rfl,q _ (I.hok.fresh (aI _))⟩
def NG(K:Wb):List V->Hp->VK->Prop:=λxs H Q=>∃(p:Addr) (ns:List Int),xs=[.ref p]/\c6 K H p (ns.map V.int)/\0<ns.length/\∀M,M∈ns->(∀a∈ns,a<=M)->Q (.int M) H
def AV (hc:X.calm=true):fN X (.builtin "max") (NG X.K):=by
 intro pins s σ H xs us Q I r h;obtain⟨p,ns,rfl,hq,hn,q⟩:=h;obtain⟨u,rfl,rx⟩:=WI r;cases rx;obtain⟨its,rv,pl,hz⟩:=I.list hq;have hi:=mL rv;have hl:=pl.isList;obtain⟨xs,e⟩:=hi.allInts.items;have hns:ns=xs.toList.map (·.1):=by rw[<-hi.numsOf,<-nums_intItems,<-e]
 have hsz:0<xs.size:=by
  have h3:=hn;rw[hns,aG,d8] at h3;exact h3
 rw[e] at hl;refine max_intList (I.ok.hd hc) hl hsz λv h' tk hv hk=>?_;obtain⟨t,rfl⟩:=intItems_at hv;obtain⟨h1,h2⟩:=argBest_gt (numAt xs) (xs.size - 1);refine⟨.int _,H,I.kept hk,⟨t,rfl⟩,q _ ?_ λa ha=>?_⟩
 ·rw[hns,numAt_eq];exact getD_mem (by rw[aG,d8];lia)
 ·rw[hns] at ha;obtain⟨j,hj,rfl⟩:=mem_getD ha;rw[aG,d8] at hj;rw[<-numAt_eq];exact h2 j (by lia)
end
abbrev Nu (h:Heap) (l:Addr):Heap:=h.push { cls:=.type "list_iterator",data:=.fields #[.ref l,.int 0 0] }
abbrev Nt (h:Heap) (l:Addr) (z:Str) (t:Tok):Heap:=(Nu h l).push { cls:=.type "str_ascii_iterator",data:=.fields #[.str z t,.int 0 0] }
abbrev Nr (h:Heap) (l:Addr) (z:Str) (t:Tok):Heap:=(Nt h l z t).push { cls:=.type "tuple",data:=.seq #[.ref h.objs.size,.ref (Nu h l).objs.size] }
abbrev Nq (h:Heap) (l:Addr) (z:Str) (t:Tok):Heap:=(Nr h l z t).push { cls:=.type "tuple",data:=.seq #[.none,.none] }
abbrev MK (h:Heap) (l:Addr) (z:Str) (t:Tok):Heap:=(Nq h l z t).push { cls:=.type "zip",data:=.fields #[.none,.bool false,.bool false,.ref (Nt h l z t).objs.size,.ref (Nr h l z t).objs.size] }
def IT (l1:Addr) (xs:Array Value) (z:Str) (t:Tok) (ha:z.cps.all (·<128)=true):Meets (Builtin.«zip.__new__» ⟨[.type "zip",.ref l1,.str z t],[]⟩) (λ_ R s=>s.heap.IsList l1 xs/\R (.ok (.ret (.ref (Nq s.heap l1 z t).objs.size))) { s with heap:=MK s.heap l1 z t }):=.of_wp λprog w A R s h=>by
  obtain⟨hp,g,d,tk,os⟩:=s;obtain⟨hl1,h⟩:=h;have hsub:=sub_zip;have hL1:Heap.IsList (Shared.heap ⟨hp,g,d,tk,os⟩) l1 xs:=hl1
  wp_walk using wpAny_pyIter_list hL1,wpAny_pyIter_ascii ha;exact⟨_,rfl,h⟩
def Ls{prog:Program}{w:World}{A:Around}{E:Value->Shared->Prop}{s:Shared}{l1:Addr}{xs:Array Value}{z:Str}{t:Tok}{Q:Value->Shared->Prop}(ha:z.cps.all (·<128)=true)(hl1:s.heap.IsList l1 xs)
  (h:∀h' n,n=s.heap.objs.size->IsZip h' (n+4) (n+2) (n+3) .none->IsPair h' (n+2) (.ref n) (.ref (n+1))->IsPair h' (n+3) .none .none->h'.IsListIter n l1 0->h'.IsStrIter (n+1) "str_ascii_iterator" z t 0->(∀c o,s.heap.get? c=some o->h'.get? c=some o)->Q (.ref (n+4)) { s with heap:=h' }):wpAny (model prog w) A (call (.type "zip") [.ref l1,.str z t]) Q E s:=by
 refine callType_new F.called_zip (by decide) (F.typeCall_zip_2 _ _) (F.newCall_zip_2 _ _) (λobj=>F.args_object_init_3 obj _ _) F.entry_zip_new (IT l1 xs z t ha) ⟨hl1,?_⟩;have z1:(Nu s.heap l1).objs.size=s.heap.objs.size+1:=bq ..;have z2:(Nt s.heap l1 z t).objs.size=s.heap.objs.size+2:=by rw[bq,z1]
 have z3:(Nr s.heap l1 z t).objs.size=s.heap.objs.size+3:=by rw[bq,z2]
 have z4:(Nq s.heap l1 z t).objs.size=s.heap.objs.size+4:=by rw[bq,z3]
 have g5:(MK s.heap l1 z t).get? (Nq s.heap l1 z t).objs.size=some _:=aL _ rfl;have g4:(MK s.heap l1 z t).get? (Nr s.heap l1 z t).objs.size=some _:=aA _ (aL _ rfl);have g3:(MK s.heap l1 z t).get? (Nt s.heap l1 z t).objs.size=some _:=aA _ (aA _ (aL _ rfl));have g2:(MK s.heap l1 z t).get? (Nu s.heap l1).objs.size=some _:=aA _ (aA _ (aA _ (aL _ rfl)));have g1:(MK s.heap l1 z t).get? s.heap.objs.size=some _:=aA _ (aA _ (aA _ (aA _ (aL _ rfl))));show _/\_;rw[z2,z3,z4] at g5;rw[z1,z2] at g3;rw[z3] at g4;rw[z1] at g2;rw[z4];exact⟨⟨_,g5,rfl⟩,h _ _ rfl g5 g3 g4 ⟨_,g1,rfl,rfl⟩ ⟨_,g2,rfl,rfl⟩ λc o x=>aA _ (aA _ (aA _ (aA _ (aA _ x))))⟩
def JJ(K:Wb)(a:Addr)(z:Str):It:=
  ⟨λi H=>∃xs x,c6 K H a xs/\xs[i]? = some x/\i<z.cps.size,
   λi H v H'=>∃p x c,H p=none/\(∀xs,c6 K H a xs->xs[i]? = some x)/\z.cps[i]? = some c/\v=.ref p/\H'=bP H p (.tup [x,.str ⟨#[c]⟩]),
   λi H=>∃xs,c6 K H a xs/\xs.length=i⟩
def Bs {P : Program} {w : World} {K : Wb} {elts : List Expr} {x1 : Nat} {pos : Pos} (n a : Addr) (ha : a < n) (z : Str) (t : Tok) :
    Turn P w K (.Tuple elts x1 pos) (JJ K a z) [n + 4, n + 2, n + 3, n, n + 1] (n + 4) (fun i h => IsZip h (n + 4) (n + 2) (n + 3) .none ∧ IsPair h (n + 2) (.ref n) (.ref (n + 1)) ∧ (∃ u v, IsPair h (n + 3) u v) ∧ h.IsListIter n a i ∧ h.IsStrIter (n + 1) "str_ascii_iterator" z t i) := by
  have hap : rN (n + 4) (n + 2) (n + 3) n (n + 1) [n, a] [n + 1] := by
    have h1 : @LT.lt Nat _ a n := ha
    constructor <;> first
      | (intro h; simp only [aF, bB, or_false] at h; rcases h with h | h <;> (have h' : @Eq Nat _ _ := h; lia))
      | (intro h; simp only [bQ] at h; have h' : @Eq Nat _ _ := h; lia)
      | (intro h; have h' : @Eq Nat _ _ := h; lia)
  exact {
    mem := by simp
    obj := fun i h st c hb => by
      obtain ⟨h1, h2, ⟨u, v, h3⟩, ⟨o4, e4, c4, d4⟩, ⟨o5, e5, c5, d5⟩⟩ := st
      simp only [aF, bB, or_false] at hb
      rcases hb with rfl | rfl | rfl | rfl | rfl
      · exact ⟨_, h1, fun v z => by cases z⟩
      · exact ⟨_, h2, fun v z => by cases z⟩
      · exact ⟨_, h3, fun v z => by cases z⟩
      · exact ⟨o4, e4, fun v z => by rw [d4] at z; cases z⟩
      · exact ⟨o5, e5, fun v z => by rw [d5] at z; cases z⟩
    keep := fun i h h' st k => by
      obtain ⟨h1, h2, ⟨u, v, h3⟩, h4, ⟨o5, e5, r5⟩⟩ := st
      exact ⟨k _ (by simp) _ h1, k _ (by simp) _ h2, ⟨u, v, k _ (by simp) _ h3⟩, h4.at fun o e => k _ (by simp) o e, ⟨o5, k _ (by simp) o5 e5, r5⟩⟩
    item := by
      intro X hP hw hK hc i pins s σ H E I hf st hg
      subst hP hw hK
      obtain ⟨h1, h2, ⟨u0, v0, h3⟩, h4, h5⟩ := st
      obtain ⟨xs, x, hqa, hx, hi⟩ := hg
      obtain ⟨ia, ra, pa, _⟩ := I.list hqa
      obtain ⟨ua, hua, rua⟩ := ra.get hx
      have hA : X.A.in1.handled = none := I.ok.hd hc
      have la : i < ia.toArray.size := by rw [aX]; exact (aK.mp hua).1
      refine tP (Draws.list hA n a (aV ha) ia.toArray) (oX hA (n + 1) z t) hap h1 h2 h3 ⟨h4, pa.isList⟩ h5 la hi fun h' x' y' tk e1 e2 hz ho hi1 hi2 hp kp => ?_
      have e1' : x' = ua := by have : ia[i]? = some x' := by simpa using e1
                               rw [hua] at this; cases this; rfl
      obtain ⟨c, u, hcx, e2'⟩ := e2
      subst e1' e2'
      refine ⟨_, rfl, wpAny_letOwnedTupleGo_zip hz fun hh hz2 hs2 => ?_⟩
      have hn : H s.heap.objs.size = none := I.hok.fresh (aI _)
      have lz : s.heap.objs.size ≠ n + 4 := iD (aN h1)
      have ht2 : hh.get? s.heap.objs.size = some { cls := .type "tuple", data := .seq #[x', .str ⟨#[c]⟩ u] } := (hs2.2 _ lz).trans hp
      refine ⟨.ref s.heap.objs.size, bP H s.heap.objs.size (.tup [x, .str ⟨#[c]⟩]), I.turnNew (fp := [n + 4, n + 2, n + 3, n, n + 1]) hf (fun c o hb q => ?_) (aI _) (show cw X.prog X.w _ hh _ (.tup _) from ⟨(by show 2 ≤ sizeLine; decide), [x', .str ⟨#[c]⟩ u], .cons rua (.cons ⟨u, rfl⟩ .nil), _, ht2, rfl, _, rfl⟩), rfl, ⟨_, x, c, hn, fun zs hz => by rw [I.list_inj hz hqa]; exact hx, hcx, rfl, rfl⟩, ?_, fun c hb => ?_⟩
      · simp only [aF, bB, or_false, not_or] at hb
        exact (hs2.2 c hb.1).trans (kp c o hb.1 hb.2.2.1 hb.2.2.2.1 hb.2.2.2.2 q)
      · obtain ⟨o5, e5, r5⟩ := hi2
        exact ⟨hz2, (hs2.2 _ hap.tz).trans (kp _ _ hap.tz hap.to hap.ta hap.tb h2), ⟨_, _, (hs2.2 _ hap.oz).trans ho⟩, hi1.1.at fun o e => (hs2.2 _ hap.az).trans e, ⟨o5, (hs2.2 _ hap.bz).trans e5, r5⟩⟩
      · have hb' := (hf c hb).1
        rw [aS (fun z => ?_)]
        · exact hb'
        · have hz4 : @LT.lt Nat _ (n + 4) s.heap.objs.size := aN h1
          have z' : @Eq Nat c s.heap.objs.size := z
          simp only [aF, bB, or_false] at hb
          rcases hb with h | h | h | h | h <;> (have h' : @Eq Nat _ _ := h; lia)
    done := by
      intro X hP hw hK hc i pins s σ H E I hf st hg
      subst hP hw hK
      obtain ⟨h1, h2, ⟨u0, v0, h3⟩, h4, h5⟩ := st
      obtain ⟨xs, hqa, hx⟩ := hg
      obtain ⟨ia, ra, pa, _⟩ := I.list hqa
      have la := ra.length
      have hA : X.A.in1.handled = none := I.ok.hd hc
      have ei : ia.toArray.size = i := by rw [aX]; lia
      refine uq (Draws.list hA n a (aV ha) ia.toArray) hap h1 h2 ⟨by rw [ei]; exact h4, pa.isList⟩ fun h' kp => ⟨rfl, I.turnAll (t' := s.toks) hf fun c o hb q => ?_⟩
      simp only [aF, bB, or_false, not_or] at hb
      exact kp c o hb.1 hb.2.2.2.1 q
    self := fun _ _ _ _ _ st h => WZ st.1 h }
def Jb(K:Wb)(ta:TA):TI:=λσ H R=>ta σ H λvs H1=>∃a z,vs=[.ref a,.str z]/\(∃xs,c6 K H1 a xs)/\z.cps.all (·<128)=true/\R (JJ K a z) H1
def Ej {X:Cx} {a b:Expr} {ta:TA} {elts:List Expr} {x1:Nat} {p pos tpos:Pos} (hg:Gl X "zip") (hm:X.mg "zip"=none) (ha:QA X [a,b] ta) (hs:starEach [a,b] X.env=(false,eval a X.env)::starEach [b] X.env:=by rfl) (hpl:(backTo pos (starEach [b] X.env)).any (·.1)=false:=by rfl) :
  QI X (.Tuple elts x1 tpos) (.Call (.Name "zip" p) [a,b] [] pos) (Jb X.K ta):=⟨by
 intro pins s σ H R I h;refine Call_ (jm I hg hm boot_zip (bW (dJ (ha.h pos pins s σ H _ I h) λus s1 ⟨vs,H1,I1,r1,z1,z,e,⟨xs,hx⟩,hz,q⟩=>?_) hs hpl));subst e;obtain⟨u,u',rfl,r2,r3⟩:=vals2 r1;cases r2;obtain⟨t,rfl⟩:=r3;obtain⟨ia,ra,pa,_⟩:=I1.list hx;obtain⟨oa,hoa,_⟩:=id pa.isList;refine Ls hz pa.isList λh' n en hz hti hto hi1 hi2 kp=>?_;refine WZ hz ?_;have I2:bX X pins σ H1 { s1 with heap:=h' }:=I1.kept (t':=s1.toks) kp;refine⟨_,_,_,_,H1,rfl,I2,Bs n z1 (by rw[en];exact aN hoa) z t,⟨hz,hti,⟨_,_,hto⟩,hi1,hi2⟩,λb hb=>?_,q⟩;have hle:s1.heap.objs.size<=b:=by
  simp only[aF,bB,or_false] at hb;have en':@Eq Nat n s1.heap.objs.size:=en;show @LE.le Nat _ _ _;rcases hb with h | h | h | h | h<;>(have h':@Eq Nat _ _:=h;lia)
 exact I1.fpOk hle (I1.hok.fresh hle)⟩
def Gs{K:Wb}{σ:St}{H:Hp}{D:Ends}{ta:TA}{g:TG}{tb:TS}:pJ (Jb K ta) g tb D σ H=ta σ H λvs H1=>∃a z,vs=[.ref a,.str z]/\(∃xs,c6 K H1 a xs)/\z.cps.all (·<128)=true/\oV (JJ K a z) g tb D σ H1:=rfl
def GE{K:Wb}{σ:St}{H:Hp}{D:Ends}{a:Addr}{xs:List V}{z:Str}{g:TG}{tb:TS}(hle:xs.length<=z.cps.size)(Pv:Nat->St->Hp->Prop)(h0:Pv 0 σ H)(hl:∀i σ H,Pv i σ H->c6 K H a xs)
  (hs:∀i x c σ H p,xs[i]? = some x->z.cps[i]? = some c->Pv i σ H->H p=none->g (.ref p) σ (bP H p (.tup [x,.str ⟨#[c]⟩])) λσ2 H2=>tb { D with nx:=Pv (i+1),ct:=Pv (i+1),bk:=D.nx } σ2 H2) (hd:∀σ H,Pv xs.length σ H->D.nx σ H):oV (JJ K a z) g tb D σ H:=by
 refine⟨λi m σ H=>m+i=xs.length/\Pv i σ H,⟨xs.length,rfl,h0⟩,?_⟩;rintro i m σ H ⟨hm,hp⟩;have q1:=hl i σ H hp;by_cases hi:i<xs.length
 ·refine .inr ⟨⟨xs,xs[i],q1,by simp[hi],aT hi hle⟩,Pv (i+1),λσ' H' h=>⟨m - 1,by lia,by lia,h⟩,?_⟩;rintro v H' ⟨p,x,c,hn,hx,hc,rfl,rfl⟩;exact hs i x c σ H p (hx xs q1) hc hp hn
 ·have e:i=xs.length:=by lia
  subst e;exact .inl ⟨⟨xs,q1,rfl⟩,hd σ H hp⟩
end L2
namespace Rm
open PySem L2 PyProof.Rows
def seg(ns:List Int)(s c:Nat):List Int:=((ns.take c).drop s).map (· - (s:Int))
def ft{α β:Type}{R T:α->β->Prop}(f:∀a b,R a b->T a b):∀{xs:List α} {ys:List β},Paired R xs ys->Paired T xs ys
 | _,_,.nil=>.nil
 | _,_,.cons r t=>.cons (f _ _ r) (ft f t)
def jQ{α β:Type}{R:α->β->Prop}:∀{xs:List α} {ys:List β},Paired R xs ys->∀{i:Nat} {x:α},xs[i]? = some x->∃y,ys[i]? = some y/\R x y
 | _,_,.nil,i,x,h=>by simp at h
 | _,_,.cons r t,0,x,h=>by simp at h;subst h;exact⟨_,rfl,r⟩
 | _,_,.cons r t,i+1,x,h=>jQ t (by simpa using h)
def PY{K:Wb}{H:Hp}{a b o1 o2:Addr}{s t:Bool}{ms ns:List Int}{Q:VK}(ha:fE H a o1 s ms)(hb:fE H b o2 t ns)(q:Q (.bl (decide (s=t)&&decide (ms=ns))) H):CL K false (.ref a) (.ref b) H Q:=by
 refine⟨.tuple [.str (sd s),.tuple (ms.map PyData.int)],.tuple [.str (sd t),.tuple (ns.map PyData.int)],.tup (de.of ha.1) (.cons (.str _) (.cons (.tup (de.of ha.2) (ints_rep ms)) .nil)),.tup (de.of hb.1) (.cons (.str _) (.cons (.tup (de.of hb.2) (ints_rep ns)) .nil)),?_,?_,?_,?_⟩
 ·show (PyData.canLay0 (.str (sd s))&&(PyData.canLayAll0 (ms.map PyData.int)&&true))=true;rw[gi];cases s<;>decide +kernel
 ·show (PyData.canLay0 (.str (sd t))&&(PyData.canLayAll0 (ns.map PyData.int)&&true))=true;rw[gi];cases t<;>decide +kernel
 ·refine b9 (Nat.min_le_left _ _) ?_;show max 0 (max (PyData.depthAll (ms.map PyData.int)+1) 0)+1<=60;rw[mq];decide
 ·show Q (.bl (PyData.eqv (.str (sd s)) (.str (sd t))&&(PyData.eqvAll (ms.map PyData.int) (ns.map PyData.int)&&true))) H;rw[qh,Bool.and_true];have e:PyData.eqv (.str (sd s)) (.str (sd t))=decide (s=t):=by cases s<;>cases t<;>decide +kernel
  rw[e];exact q
def BC(K:Wb):Sp:=λvs H Q _=>∃(a:Addr) (ns:List Int) (k:Nat),vs=[.ref a,.int k]/\c6 K H a (ns.map V.int)/\∀v:Int,Q (.int v) H
end Rm
namespace Rm
open PySem L2
def tx(cs:List Nat):Str:=⟨cs.toArray⟩
def uM(c:Nat):V:=V.str ⟨#[c]⟩
def be(cs:List Nat):(tx cs).length=cs.length:=by simp[tx,Str.length]
def pX(cs:List Nat):(tx cs).cps.toList=cs:=by simp[tx]
def lJ(cs:List Nat):(tx cs).cps.size=cs.length:=by simp[tx]
def fP(a b:List Nat):tx a++tx b=tx (a++b):=by
 show Str.mk _=Str.mk _;simp[tx]
def Dp{a b:List Nat}(h:tx a=tx b):a=b:=by
 have:=congrArg (λz:Str=>z.cps.toList) h;simpa [tx] using this
def EM(z:Str):z=tx z.cps.toList:=by cases z;simp[tx]
def pz(c:Nat):(⟨#[c]⟩:Str)=tx [c]:=rfl
def E8:Str.ofString "|"=tx [124]:=by decide +kernel
def vb:Str.ofString "("=tx [40]:=by decide +kernel
def xM:Str.ofString ")"=tx [41]:=by decide +kernel
def uP:Str.ofString "*"=tx [42]:=by decide +kernel
def OX:Str.ofString "**"=tx [42,42]:=by decide +kernel
def OZ:Str.ofString "()"=tx [40,41]:=by decide +kernel
def Mv:Str.ofString "(|)"=tx [40,124,41]:=by decide +kernel
def OY:Str.ofString "*|"=tx [42,124]:=by decide +kernel
def O3:Str.ofString "|*"=tx [124,42]:=by decide +kernel
def Mw:Str.ofString ""=tx []:=by decide +kernel
def NA:Str.ofString "a"=tx [97]:=by decide +kernel
def Mz:Str.ofString "b"=tx [98]:=by decide +kernel
def Mx:Str.ofString "c"=tx [99]:=by decide +kernel
def Nx:Str.ofString "d"=tx [100]:=by decide +kernel
def O0:Str.ofString "l"=tx [108]:=by decide +kernel
def sZ:Str.ofString "abcd"=tx [97,98,99,100]:=by decide +kernel
def ii{a b:Nat}:((⟨#[a]⟩:Str)=tx [b])=(a=b):=propext ⟨λh=>by have:=Dp (show tx [a]=tx [b] from h);simpa using this,λh=>by rw[h];rfl⟩
def Dr{cs:List Nat}(h:∀c∈cs,c<128):(tx cs).cps.all (·<128)=true:=by
 rw[<-Array.all_toList,pX,iF];intro c hc;exact W8 (h c hc)
def Mm{cs:List Nat}{i:Nat}{c:Nat}(h:cs[i]? = some c):vI (tx cs).cps.toList (i:Int)=some c:=by rw[pX];exact kL h
def Bj(c:Nat):∀(a b:List Nat),PyProof.Rows.cnt c (a++b)=PyProof.Rows.cnt c a+PyProof.Rows.cnt c b
 | [],b=>by rw[PyProof.Rows.cnt_nil,bA];lia
 | x::a,b=>by rw[dS,gS,gS,Bj c a b];lia
def wN{c:Nat}:∀{a:List Nat},c∉a->PyProof.Rows.cnt c a=0
 | [],_=>PyProof.Rows.cnt_nil c
 | x::a,h=>by
  simp only[aF,not_or] at h;rw[gS,wN h.2,W4 (bc h.1)];rfl
def JA{A B:List Nat}(hA:124∉A):∀(X Y:List Nat),124∉X->X++124::Y=A++124::B->X=A/\Y=B:=by
 induction A with
 | nil=>
  intro X Y hX e;cases X with
  | nil=>simpa using e
  | cons x X=>simp at e hX;exact absurd e.1.symm hX.1
 | cons a A ih=>
  intro X Y hX e;simp only[aF,not_or] at hA;cases X with
  | nil=>simp at e;exact absurd e.1 hA.1
  | cons x X=>
   simp only[dS,gG] at e;simp only[aF,not_or] at hX;obtain⟨h1,h2⟩:=ih hA.2 X Y hX.2 e.2;exact⟨by rw[e.1,h1],h2⟩
def Bz{A B:List Nat}(hA:124∉A)(hB:124∉B):Txt.split (tx (A++124::B)) (tx [124])=[tx A,tx B]:=by
 have hc:Rm.tx [124]=(⟨#[124]⟩:Str):=rfl;rw[hc];have hl:=PyProof.Rows.split_len (tx (A++124::B)) 124;have hf:=StrLaws.split_free (tx (A++124::B)) 124;have hj:=StrLaws.join_split (tx (A++124::B)) ⟨#[124]⟩;rw[pX,Bj,gS,wN hA,wN hB,W5 rfl] at hl;generalize Txt.split (tx (A++124::B)) ⟨#[124]⟩=l at *;have h2:l.length=2:=by lia
 obtain⟨p,r,rfl⟩:=ay h2;obtain⟨q,r,rfl⟩:=ay (l:=r) (n:=0) (by simpa using h2);have:r=[]:=bC (by simpa using h2);subst this;have fp:=hf p (by simp);have e:p.cps.toList++124::q.cps.toList=A++124::B:=by
  have hj':p++(⟨#[124]⟩:Str)++q=tx (A++124::B):=hj;have:=congrArg (λz:Str=>z.cps.toList) hj';rw[pX] at this;rw[<-this];show _=(p.cps++#[124]++q.cps).toList;simp
 obtain⟨e1,e2⟩:=JA hA _ _ fp e;rw[EM p,EM q,e1,e2]
def Gg{n:Nat}:Builtin.Str.strSliceIndices none (some (-1)) 1 n=List.range (n - 1):=by
 unfold Builtin.Str.strSliceIndices sliceRange;simp only[show (1:Int) > 0 by decide,W9,show (-1:Int)<0 by decide];have e:max 0 (min (-1+(n:Int)) (n:Int))=((n - 1:Nat):Int):=by lia
 rw[e];have e2:(if (0:Int)<((n - 1:Nat):Int) then (((n - 1:Nat):Int) - 0+1 - 1) / 1 else 0).toNat=n - 1:=by split<;>lia
 rw[e2];have e3:(λk:Nat=>(0+1*(k:Int)).toNat)=id:=by funext k;show (0+1*(k:Int)).toNat=k;lia
 rw[e3,List.map_id]
def Gh{n p:Nat}(h:p<=n):Builtin.Str.strSliceIndices (some (p:Int)) none 1 n=(List.range (n-p)).map (p+·):=by
 unfold Builtin.Str.strSliceIndices sliceRange;simp only[show (1:Int) > 0 by decide,W9];have e:max 0 (min (if (p:Int)<0 then (p:Int)+n else p) (n:Int))=p:=by rw[W4 (by lia)];lia
 rw[e];have e2:(if (p:Int)<n then ((n:Int)-p+1 - 1) / 1 else 0).toNat=n-p:=by split<;>lia
 rw[e2];refine dA λk _=>?_;show ((p:Int)+1*(k:Int)).toNat=p+k;lia
def vL{α:Type}(l:List α):∀p,p<=l.length->(List.range p).filterMap (λi=>l[i]?)=l.take p
 | 0,_=>rfl
 | p+1,h=>by
  rw[gA,jF,vL l p (by lia),cT];have:l[p]? = some l[p]:=aW (by lia);simp[this]
def Gi{α:Type}(l:List α)(p:Nat)(h:p<=l.length):((List.range (l.length-p)).map (p+·)).filterMap (λi=>l[i]?)=l.drop p:=by
 rw[List.filterMap_map];have e:((λi=>l[i]?)∘λx=>p+x)=λj=>(l.drop p)[j]?:=by funext j;show l[p+j]? = _;rw[List.getElem?_drop]
 rw[e,vL _ _ (by rw[fb];lia),dY (by rw[fb];lia)]
def Dq(cs:List Nat):(λi:Nat=>(tx cs).cps[i]?)=λi=>cs[i]?:=by funext i;simp[tx]
def Gz{P:List Nat}{c:Nat}:Txt.slice (tx (P++[c])) none (some (-1))=tx P:=by
 unfold Txt.slice;rw[be,Gg];have e:(P++[c]).length - 1=P.length:=by simp
 rw[e]
 split
 ·rename_i h;simp at h
 ·rw[Dq,vL _ _ (by simp),List.take_left];rfl
def HA{cs:List Nat}{p:Nat}(h:p<=cs.length):Txt.slice (tx cs) (some (p:Int)) none=tx (cs.drop p):=by
 unfold Txt.slice;rw[be,Gh h]
 split
 ·rename_i c;have:cs.length-p=cs.length:=by simpa using c
  have hz:p=0\/cs.length=0:=by lia
  rcases hz with rfl | hz
  ·rfl
  ·have:=dQ.mp hz;subst this;simp
 ·rw[Dq,Gi _ _ h];rfl
def jT{α:Type}{P:List α}{c:α}:vI (P++[c]) (-1)=some c:=by
 unfold vI Gc;have e:(P++[c]).length=P.length+1:=by simp
 rw[e,W4 (by decide),W5 (by lia)];show (P++[c])[(-1+((P.length+1:Nat):Int)).toNat]? = some c;rw[show (-1+((P.length+1:Nat):Int)).toNat=P.length by lia];simp
def GO{xs:List V}{k:Nat}(h:k<=xs.length):qk xs none (some (k:Int))=xs.take k:=by
 unfold qk;rw[HT.sIx_nat,HT.sIx_none,ju h];rfl
def AO{xs:List V}{k:Nat}(h:k<=xs.length):qk xs (some (k:Int)) none=xs.drop k:=by
 unfold qk;rw[HT.sIx_nat,HT.sIx_none,show min k xs.length=k by lia];exact dY (by rw[fb];lia)
def GP{P:List V}{c:V}:qk (P++[c]) none (some (-1))=P:=by
 unfold qk;have e:HT.sIx (P++[c]).length (P++[c]).length (some (-1))=P.length:=by unfold HT.sIx;simp;lia
 rw[e,HT.sIx_none,gn];simp
def GQ{P:List V}{c:V}:qk (P++[c]) (some (-1)) none=[c]:=by
 unfold qk;have e:HT.sIx (P++[c]).length 0 (some (-1))=P.length:=by unfold HT.sIx;simp;lia
 rw[e,HT.sIx_none,List.drop_left];simp
def Al:∀(cs:List Nat) (acc:Array Nat),(cs.map λc=>(⟨#[c]⟩:Str)).foldl (λacc p=>acc++(Str.ofString "").cps++p.cps) acc=acc++cs.toArray
 | [],acc=>by simp
 | c::cs,acc=>by
  rw[aZ,List.foldl_cons,Al cs];have:(Str.ofString "").cps=#[]:=by decide +kernel
  rw[this];simp
def vO (cs:List Nat):Txt.join (Str.ofString "") (cs.map λc=>(⟨#[c]⟩:Str))=tx cs:=by
 cases cs with
 | nil=>rfl
 | cons c cs=>
  show Str.mk (((((c::cs).map λc=>(⟨#[c]⟩:Str)).drop 1).foldl (λacc p=>acc++(Str.ofString "").cps++p.cps) (((c::cs).map λc=>(⟨#[c]⟩:Str)).headD Str.empty).cps))=_;rw[aZ,List.drop_one,List.tail_cons,List.headD_cons,Al];simp[tx]
def qx {cs:List Nat} (hl:cs.length<=900):JoinOk (Str.ofString "") (cs.map λc=>(⟨#[c]⟩:Str))=true:=by
 unfold JoinOk;have e:Builtin.Str.tooLong ((cs.map λc=>(⟨#[c]⟩:Str)).toArray.foldl (λa t=>a+t.length+(Str.ofString "").length) 0)=false:=by
  have h0:∀(cs:List Nat) (a:Nat),(cs.map λc=>(⟨#[c]⟩:Str)).foldl (λa t=>a+t.length+(Str.ofString "").length) a=a+cs.length:=by
   intro cs
   induction cs with
   | nil=>intro a;rfl
   | cons b cs ih=>
    intro a;rw[aZ,List.foldl_cons,ih];have h1:(⟨#[b]⟩:Str).length=1:=rfl;have h2:(Str.ofString "").length=0:=by decide +kernel
    rw[h1,h2,cJ];lia
  rw[List.foldl_toArray',h0];unfold Builtin.Str.tooLong;exact W7 (by have:=cB (n:=0+cs.length) (by lia);lia);simp
 rw[e];rfl
def vm:Option (List Int×List Int)->V
 | none=>.non
 | some (L,R)=>.str (tx (gu L R))
def jo(c:Nat):Prop:=c=97\/c=98\/c=99\/c=100
def gV(H:Hp)(a:Addr)(L R:List Int):Prop:=∃l r,H a=some (.tup [.ref l,.ref r])/\H l=some (.lst (L.map V.int))/\H r=some (.lst (R.map V.int))
def gV.same{H H':Hp}{a:Addr}{L R:List Int}(h:gV H a L R)(s:aP H H'):gV H' a L R:=let ⟨l,r,h1,h2,h3⟩:=h;⟨l,r,s _ _ h1,s _ _ h2,s _ _ h3⟩
def PL(H:Hp)(v:V):Option (List Int×List Int)->Prop
 | none=>v=.non
 | some (L,R)=>∃a,v=.ref a/\gV H a L R
def kZ(c:Nat):List Int×List Int:=if c=108 then ([0],[]) else ([],[0])
def qT:Sp:=λvs H Q _=>∃c:Nat,vs=[.str ⟨#[c]⟩]/\Q (.str (tx (gu (kZ c).1 (kZ c).2))) H
def wr:Sp:=λvs H Q _=>∃(a:Addr) (cs:List Nat) (p q:Nat),vs=[.ref a,.int (p:Nat)]/\H a=some (.lst (cs.map uM))/\cs.length<=900/\yn cs p q/\Q (.int (q:Nat)) H
def Au:Sp:=λvs H Q _=>∃(L R:List Int) (x y:Int),vs=[.str (tx (cC [] (L++[x]))),.str (tx (cC (L++[x]) (R++[y]).reverse))]/\EE (L++[x]) (R++[y])/\L.length+R.length<=400/\∀H',aP H H'->Q (vm (cZ (L++[x]) (R++[y]) 100)) H'
def qy:Sp:=λvs H Q _=>∃(L R:List Int) (c:Nat),vs=[.str (tx (gu L R)),.str ⟨#[c]⟩]/\jo c/\EE L R/\L.length+R.length<=400/\∀H',aP H H'->Q (vm (cZ L R c)) H'
def wt:Sp:=λvs H Q _=>∃n:Int,vs=[.int n]/\∀m:Int,0<=m->m<2 ^ 61->Q (.int m) H
def Ap:Sp:=λvs H Q _=>∃n:Int,vs=[.int n]/\∀m:Int,Q (.int m) H
def Ms:Sp:=λvs H Q _=>∃(a:Addr) (L R:List Int) (c:Nat),vs=[.ref a,.str ⟨#[c]⟩]/\gV H a L R/\jo c/\EE L R/\L.length+R.length<=400/\∀v H',aP H H'->PL H' v (cZ L R c)->Q v H'
def Ax:Sp:=λvs H Q _=>∃c:Nat,vs=[.str ⟨#[c]⟩]/\∀a H',aP H H'->gV H' a (kZ c).1 (kZ c).2->Q (.ref a) H'
def Am(L R:List Int):(gu L R).length=L.length+R.length+1:=by unfold gu;simp[cN];lia
def Ij{L R L' R':List Int}{c:Nat}(h:cZ L R c=some (L',R')):L'.length+R'.length<=L.length+R.length+2:=by
 unfold cZ at h
 split at h
 ·cases h;simp;lia
 ·split at h
  ·split at h
   ·cases h;simp;lia
   ·cases h
  ·split at h
   ·split at h
    ·cases h;simp;lia
    ·cases h
   ·split at h
    ·split at h
     ·cases h
     ·cases h;simp;lia
    ·cases h
def F7(pre A:List Int):124∉cC pre A:=λh=>by have:=zK A pre 124 h;lia
section
variable {K:Wb} {H:Hp} {Q:VK} {a b:Addr} {xs ys:List V}
def F9{R:Addr->Hp->Prop}{o:HO}(q:∀p H',H p=none->aP H H'->H' p=some o->R p H'):∀p,H p=none->R p (bP H p o):=λp hp=>q p _ hp ((aP.refl H).new hp) aD
def uC(ha:H a=some (.lst xs))(hb:H b=some (.lst ys))(hz:xs.length+ys.length<=1000)(q:∀p H',H p=none->aP H H'->H' p=some (.lst (xs++ys))->Q (.ref p) H'):NJ (.ref a) (.ref b) H Q:=
 ⟨a,b,xs,ys,rfl,rfl,ha,hb,ba (cB hz),F9 (R:=λp H'=>Q (.ref p) H') q⟩
def Ka{k:Nat}(ha:H a=some (.lst xs))(h:k<=xs.length)(q:∀p H',H p=none->aP H H'->H' p=some (.lst (xs.take k))->Q (.ref p) H'):Ef K (.ref a) none (some (k:Int)) H Q:=
 ⟨a,xs,rfl,c6.of ha,by rw[GO h];exact F9 (R:=λp H'=>Q (.ref p) H') q⟩
def EV{k:Nat}(ha:H a=some (.lst xs))(h:k<=xs.length)(q:∀p H',H p=none->aP H H'->H' p=some (.lst (xs.drop k))->Q (.ref p) H'):Ef K (.ref a) (some (k:Int)) none H Q:=
 ⟨a,xs,rfl,c6.of ha,by rw[AO h];exact F9 (R:=λp H'=>Q (.ref p) H') q⟩
def rq{c:V}(ha:H a=some (.lst (xs++[c])))(q:∀p H',H p=none->aP H H'->H' p=some (.lst xs)->Q (.ref p) H'):Ef K (.ref a) none (some (-1)) H Q:=
 ⟨a,xs++[c],rfl,c6.of ha,by rw[GP];exact F9 (R:=λp H'=>Q (.ref p) H') q⟩
def BE{c:V}(ha:H a=some (.lst (xs++[c])))(q:∀p H',H p=none->aP H H'->H' p=some (.lst [c])->Q (.ref p) H'):Ef K (.ref a) (some (-1)) none H Q:=
 ⟨a,xs++[c],rfl,c6.of ha,by rw[GQ];exact F9 (R:=λp H'=>Q (.ref p) H') q⟩
def gV.new{l r:Addr}{L R:List Int}(hl:H l=some (.lst (L.map V.int)))(hr:H r=some (.lst (R.map V.int)))(na:H a=none):gV (bP H a (.tup [.ref l,.ref r])) a L R:=
 ⟨l,r,aD,by rw[aS (bD hl na)];exact hl,by rw[aS (bD hr na)];exact hr⟩
def W1(L:List Int)(x:Int):(L++[x]).map V.int=L.map V.int++[V.int x]:=by simp
end
def lx{n:Nat}(h:n<=900):n<=sizeLine:=ba (cB (by lia))
def m9{K:Wb}{H:Hp}{cs:List Nat}(h:cs.length<=900):JG K (.str (tx cs)) H (!cs.isEmpty):=by
 refine⟨by rw[be];exact lx h,?_⟩;rw[be];cases cs with
 | nil=>rfl
 | cons a cs=>
  show true=(((cs.length+1:Nat):Int) != 0)
  have:((cs.length+1:Nat):Int)≠0:=by lia
  simp[bne,this];lia
def Fv {K:Wb} {H:Hp} {t:Addr} {a b:Nat} {Q:VK} (ha:a=40\/a=41\/a=42) (hb:b=40\/b=41\/b=42) (h:H t=some (.tup [uM a,uM b])) (q:Q (.bl (decide (a=42) || decide (b=42))) H):zR K false (.str (Str.ofString "*")) (.ref t) H Q:=by
 refine⟨.str (Str.ofString "*"),[.str ⟨#[a]⟩,.str ⟨#[b]⟩],t,_,.str _,rfl,.inr (de.of h),.cons (.str _) (.cons (.str _) .nil),by decide +kernel,(by rcases ha with rfl | rfl | rfl<;>rcases hb with rfl | rfl | rfl<;>decide +kernel),by decide +kernel,?_⟩;have e:∀c:Nat,PyData.eqv (.str ⟨#[c]⟩) (.str (Str.ofString "*"))=decide (c=42):=λc=>by
  show decide ((⟨#[c]⟩:Str)=Str.ofString "*")=_;rw[uP];exact decide_eq_decide.mpr (by rw[ii])
 show Q (.bl (PyData.eqv (.str ⟨#[a]⟩) (.str (Str.ofString "*")) || (PyData.eqv (.str ⟨#[b]⟩) (.str (Str.ofString "*")) || false))) H;rw[e,e,lq];exact q
def Ez{ms:List Int}{a b:Nat}(hp:ms.Perm [(a:Int),(b:Int)])(hs:ms.Pairwise (·<=·)):ms=[((min a b:Nat):Int),((max a b:Nat):Int)]:=by
 have hl:=hp.length_eq
 match ms,hl with
 | [u,v],_=>
  have h1:u=a\/u=b:=by simpa using hp.mem_iff.mp (by simp:u∈[u,v])
  have h2:v=a\/v=b:=by simpa using hp.mem_iff.mp (by simp:v∈[u,v])
  have h3:(a:Int)=u\/(a:Int)=v:=by simpa using hp.mem_iff.mpr (by simp:(a:Int)∈[(a:Int),(b:Int)])
  have h4:(b:Int)=u\/(b:Int)=v:=by simpa using hp.mem_iff.mpr (by simp:(b:Int)∈[(a:Int),(b:Int)])
  have h5:u<=v:=by simpa using hs
  have e1:u=((min a b:Nat):Int):=by lia
  have e2:v=((max a b:Nat):Int):=by lia
  rw[e1,e2]
def E3(cs:List Nat)(i c:Nat):(cs.map uM).set i (V.str ⟨#[c]⟩)=(cs.set i c).map uM:=by rw[List.map_set];rfl
def BI(cs:List Nat):cs.map uM=(cs.map λc=>(⟨#[c]⟩:Str)).map V.str:=by rw[cA];rfl
end Rm
namespace L2
open PySem PySem.Spec PyProof.Rows
section
variable {X:Cx}
def NB(K:Wb):List V->Hp->VK->Prop:=λxs H Q=>∃(p:Addr) (ns:List Int),xs=[.ref p]/\c6 K H p (ns.map V.int)/\PySem.SumFits ns/\Q (.int ns.sum) H
def AS (hc:X.calm=true):fN X (.builtin "sum") (NB X.K):=by
 intro pins s σ H xs us Q I r h;obtain⟨p,ns,rfl,hq,hf,q⟩:=h;obtain⟨u,rfl,rx⟩:=WI r;cases rx;obtain⟨its,rv,pl,hz⟩:=I.list hq;have hi:=mL rv;have hl:=pl.isList;obtain⟨xs,e⟩:=hi.allInts.items;have hns:ns=xs.toList.map (·.1):=by rw[<-hi.numsOf,<-nums_intItems,<-e]
 have hsz:xs.size=ns.length:=by rw[hns,aG,d8]
 rw[e] at hl;refine sum_intList (I.ok.hd hc) hl (λj hj=>?_) λh' tk t' hk=>?_
 ·have:=hf j (by lia);rw[preSum_eq,numAt_eq,<-hns];exact this
 ·refine⟨.int ns.sum,H,I.kept hk,⟨t',?_⟩,q⟩;rw[preSum_eq,<-hns,hsz,eY]
end
def i6 {X:Cx} {x:Str} {z:Str} {pos:Pos} (hg:Gl X x) (hm:∃t,X.mg x=some (.str z t)) (hd:(x==("__debug__":Str))=false:=by decide):QE X (.Name x pos) (tC (.str z)):=
 let ⟨t,h⟩:=hm
 ⟨sB hg h ⟨t,rfl⟩ hd⟩
def Gw{k:Nat}{caps:List Nat}{tl:TE}{g:TG}{tf:TT}{te:TE}{σ:St}{H:Hp}{Q:VK}:pL k caps (Ie tl) g tf te σ H Q=tl σ H λx H1=>∃z,x=.str z/\z.cps.all (·<128)=true/\kE (MU z) g tf te Q (jf k caps σ) H1:=rfl
def GU{x:Str}{g:TG}{tf:TT}{te:TE}{σ:St}{H:Hp}{Q:VK}(Pv:Nat->List V->St->Hp->Prop)(h0:Pv 0 [] σ H)(hl:∀i ys σ H,Pv i ys σ H->ys.length<=i)(hsz:x.cps.size<=sizeLine)
  (hs:∀i c ys σ H (N:List V->St->Hp->Prop),x.cps[i]? = some c->Pv i ys σ H->(∀ys σ H,Pv (i+1) ys σ H->N ys σ H)->g (.str ⟨#[c]⟩) σ H λσ2 H2=>tf σ2 H2 λb H3=>if b=true then te σ2 H3 λy H4=>N (ys++[y]) σ2 H4 else N ys σ2 H3)
  (hd:∀ys σ H p,Pv x.cps.size ys σ H->H p=none->Q (.ref p) (bP H p (.lst ys))):kE (MU x) g tf te Q σ H:=by
 refine wM x.cps.size hsz Pv h0 hl (λi ys σ H hi p=>hi) (λys σ H p=>aI _) ?_ hd;rintro i ys σ H v H' N hi p ⟨rfl,c,hc,rfl⟩ hN;exact hs i c ys σ H' N hc p hN
def fits_of:∀{ns:List Int},(∀x∈ns,0<=x/\x<=2 ^ 40)->ns.length<=1000->PySem.SumFits ns:=by
 intro ns h hl j hj;have hs:∀l:List Int,(∀x∈l,0<=x/\x<=2 ^ 40)->0<=l.sum/\l.sum<=2 ^ 40*l.length:=by
  intro l
  induction l with
  | nil=>intro _;simp
  | cons a l ih=>
   intro hh;have h1:=hh a (by simp);have h2:=ih λx hx=>hh x (aO _ hx);simp only[lh,cJ];lia
 have h1:=h (ns.getD j 0) (by rw[cP,aW hj];exact iE hj);have h2:=hs (ns.take (j+1)) λx hx=>h x (List.mem_of_mem_take hx);have h3:(ns.take (j+1)).length<=1000:=by rw[cI];lia
 exact⟨⟨by lia,by lia⟩,⟨by lia,by lia⟩⟩
end L2
namespace Rm
open PySem L2
def GV:∀(n:Nat) (L R:List Int),dG n L R<=4 ^ n
 | 0,L,R=>by simp only[dG];split<;>simp
 | n+1,L,R=>by
  have key:∀o,eE n o<=4 ^ n:=λo=>by
   rcases o with _ | ⟨a,b⟩
   ·exact bU _
   ·exact GV n a b
  rw[f9,Nat.pow_succ];have h1:=key (cZ L R 97);have h2:=key (cZ L R 98);have h3:=key (cZ L R 99);have h4:=key (cZ L R 100);lia
def mG(L R:List Int):List (List Int×List Int):=[97,98,99,100].filterMap (cZ L R)
def DB(n:Nat)(L R:List Int):dG (n+1) L R=((mG L R).map λp=>dG n p.1 p.2).sum:=by
 rw[f9];unfold mG;rcases h1:cZ L R 97 with _ | ⟨a,b⟩<;>rcases h2:cZ L R 98 with _ | ⟨a',b'⟩<;>rcases h3:cZ L R 99 with _ | ⟨c,d⟩<;>rcases h4:cZ L R 100 with _ | ⟨c',d'⟩<;>simp[List.filterMap,h1,h2,h3,h4,eE]<;>lia
def F8{L R:List Int}{p:List Int×List Int}(h:p∈mG L R):∃c,jo c/\cZ L R c=some p:=by
 obtain⟨c,hc,e⟩:=km.mp h;refine⟨c,?_,e⟩;simp only[aF,bB,or_false] at hc;exact hc
def rE(L R:List Int):(mG L R).length<=4:=lj _ _
def fx(kvs:List (List Key×V)):Prop:=∀k v,i9 kvs k=some v->∃(L R:List Int) (m:Nat),EE L R/\k=[.inr (tx (gu L R)),.inl (m:Int)]/\v=.int ((dG m L R:Nat):Int)
def oA:Nat->Nat
 | 0=>0
 | n+1=>4*oA n+1
def zH:Sp:=λvs H Q _=>∃(L R:List Int),vs=[.str (tx (gu L R))]/\L.length+R.length<=400/\Q (.int ((L.length+R.length:Nat):Int)) H
def ww:Sp:=λvs H Q _=>∃(L R:List Int) (n:Nat),vs=[.str (tx (gu L R)),.int (n:Nat)]/\L.length+R.length<=400/\n<=100/\Q (.bl (decide (L.length+R.length<=2*n+1))) H
def Nv(p:List Int×List Int):V:=.str (tx (gu p.1 p.2))
def Aq:Sp:=λvs H Q _=>∃(L R:List Int),vs=[.str (tx (gu L R))]/\EE L R/\L.length+R.length<=400/\∀l H',H l=none->aP H H'->H' l=some (.lst ((mG L R).map Nv))->Q (.ref l) H'
def pZ(n:Nat):Sp:=λvs H Q _=>∃(L R:List Int) (m:Nat) (d:Addr) (kvs:List (List Key×V)),vs=[.str (tx (gu L R)),.int (m:Nat),.ref d]/\m<n/\m<=12/\EE L R/\L.length+R.length+2*m<=400/\H d=some (.dT kvs)/\fx kvs/\kvs.length+oA m<=12000000 ∧
 ∀H' kvs',aP (wo H d) (wo H' d)->H' d=some (.dT kvs')->fx kvs'->kvs'.length<=kvs.length+oA m->Q (.int ((dG m L R:Nat):Int)) H'
def Az:Sp:=λvs H Q _=>∃(L R:List Int) (m:Nat),vs=[.str (tx (gu L R)),.int (m:Nat)]/\m<=12/\EE L R/\L.length+R.length+2*m<=400/\∀H',aP H H'->Q (.int ((dG m L R:Nat):Int)) H'
def fx.nil:fx []:=λk v h=>nomatch h
def fx.put{kvs:List (List Key×V)}{L R:List Int}{m:Nat}(h:fx kvs)(E:EE L R):fx (putK kvs [.inr (tx (gu L R)),.inl (m:Int)] (.int ((dG m L R:Nat):Int))):=λk v hv=>by
 rw[sI] at hv;by_cases e:k=[.inr (tx (gu L R)),.inl (m:Int)]
 ·rw[W5 e] at hv;exact⟨L,R,m,E,e,(bI hv).symm⟩
 ·rw[W4 e] at hv;exact h k v hv
def fx.get{kvs:List (List Key×V)}{L R:List Int}{m:Nat}{v:V}(h:fx kvs)(E:EE L R)(e:i9 kvs [.inr (tx (gu L R)),.inl (m:Int)]=some v):v=.int ((dG m L R:Nat):Int):=by
 obtain⟨L',R',m',E',ek,ev⟩:=h _ _ e;simp only[gG,Sum.inr.injEq,Sum.inl.injEq,and_true] at ek;have em:m=m':=by lia
 subst em;rw[ev,Bk m E' E (Dp ek.1).symm]
def qM{H H':Hp}{f:Addr}(s:aP H H'):aP (wo H f) (wo H' f):=λb o e=>by
 by_cases h:b=f
 ·subst h;unfold wo at e;rw[W5 rfl] at e;cases e
 ·unfold wo at e ⊢;rw[W4 h] at e ⊢;exact s b o e
def vN{H H':Hp}{f l:Addr}{o:HO}(s:aP (wo H f) (wo H' f))(h:H l=some o)(hne:l≠f):H' l=some o:=vM H' f _ _ (s _ _ (JL hne h))
def wg(n:Nat):∀l:List (List Int×List Int),(l.map λp=>((dG n p.1 p.2:Nat):Int)).sum=(((l.map λp=>dG n p.1 p.2).sum:Nat):Int)
 | []=>rfl
 | p::l=>by simp only[aZ,lh,wg n l];lia
def Lv:∀m,m<=12->oA m<=12000000:=by decide
end Rm
set_option maxHeartbeats 400000
namespace Rm
def gZ(L R:List Int):List Nat->Nat->Option Nat
 | [],i=>if L.length+R.length=1 then none else some i
 | c::cs,i=>match cZ L R c with | none=>some i | some p=>gZ p.1 p.2 cs (i+1)
def mh{L R:List Int}{c:Nat}{cs:List Nat}{i:Nat}(h:cZ L R c=none):gZ L R (c::cs) i=some i:=by simp only[gZ,h]
def lK{L R L' R':List Int}{c:Nat}{cs:List Nat}{i:Nat}(h:cZ L R c=some (L',R')):gZ L R (c::cs) i=gZ L' R' cs (i+1):=by simp only[gZ,h]
def isIn(k:Bool)(c:Nat):Bool:=c==97 || (if k then c==99 else c==98)
def nW(m:Nat->Option Nat)(a b:Nat):Nat->Option Nat:=λx=>if x=a then some b else if x=b then some a else m x
abbrev Ge:=List Nat×(Nat->Option Nat)
def uK(k:Bool)(s:Ge)(row c:Nat):Ge:=if isIn k c then (s.1++[row],s.2) else match s.1.getLast? with | some o=>(s.1.dropLast,nW s.2 row o) | none=>s
def An(k b:Bool):Ge:=(if k=b then [0] else [],λ_=>none)
def stN(k b:Bool)(cs:List Nat):Nat->Ge
 | 0=>An k b
 | i+1=>uK k (stN k b cs i) (i+1) (cs.getD i 0)
def zD{k:Bool}{s:Ge}{row c:Nat}(h:isIn k c=true):uK k s row c=(s.1++[row],s.2):=by unfold uK;rw[W5 h]
def vR{k:Bool}{s:Ge}{P:List Nat}{o row c:Nat}(h:isIn k c=false)(e:s.1=P++[o]):uK k s row c=(P,nW s.2 row o):=by
 unfold uK;rw[W4 (by rw[h];decide),e];simp
structure ym (k b:Bool) (i:Nat) (s:Ge):Prop where
 nd:s.1.Nodup
 le:∀ x∈s.1,x<=i
 out:∀ x∈s.1,s.2 x=none
 sym:∀ x y,s.2 x=some y->s.2 y=some x
 irr:∀ x y,s.2 x=some y->y≠x
 bd:∀ x y,s.2 x=some y->x<=i
 tot:∀ x,x<=i->(x=0->k=b)->x∈s.1\/∃ y,s.2 x=some y
 z:k≠b->0∉s.1/\s.2 0=none
def ym.zero(k b:Bool):ym k b 0 (An k b):=by
 unfold An;refine⟨?_,λx h=>?_,λ_ _=>rfl,λ_ _ h=>(by cases h),λ_ _ h=>(by cases h),λ_ _ h=>(by cases h),λx hx h=>.inl ?_,λh=>⟨?_,rfl⟩⟩
 ·dsimp only;split<;>simp
 ·dsimp only at h;split at h<;>simp at h;lia
 ·have hx0:x=0:=by lia
  dsimp only;rw[W5 (h hx0),hx0];simp
 ·dsimp only;rw[W4 h];simp
def tS{l:List Nat}(h:l≠[]):∃P x,l=P++[x]:=⟨l.dropLast,l.getLast h,(eF h).symm⟩
def ym.step{k b:Bool}{i c:Nat}{s:Ge}(I:ym k b i s)(h:isIn k c=false->s.1≠[]):ym k b (i+1) (uK k s (i+1) c):=by
 have new:s.2 (i+1)=none:=by
  cases e:s.2 (i+1) with
  | none=>rfl
  | some y=>have:=I.bd _ _ e;lia
 by_cases hc:isIn k c=true
 ·rw[zD hc];refine⟨?_,λx hx=>?_,λx hx=>?_,I.sym,I.irr,λx y e=>by have:=I.bd x y e;lia,λx hx h0=>?_,λhk=>⟨?_,(I.z hk).2⟩⟩
  ·rw[lQ];refine⟨I.nd,by simp,λa ha b hb e=>?_⟩;have:=I.le a ha;simp at hb;lia
  ·rcases aQ.mp hx with h1 | h1
   ·have:=I.le x h1;lia
   ·simp at h1;lia
  ·rcases aQ.mp hx with h1 | h1
   ·exact I.out x h1
   ·simp at h1;subst h1;exact new
  ·by_cases e:x=i+1
   ·exact .inl (by subst e;simp)
   ·rcases I.tot x (by lia) h0 with h1 | h1
    ·exact .inl (bV _ h1)
    ·exact .inr h1
  ·intro z;rcases aQ.mp z with h1 | h1
   ·exact(I.z hk).1 h1
   ·simp at h1
 ·have hc':isIn k c=false:=by simpa using hc
  obtain⟨P,o,e⟩:=tS (h hc');rw[vR hc' e];have om:o∈s.1:=by rw[e];simp
  have ole:=I.le o om;have on:=I.out o om;have nd:=I.nd;rw[e,lQ] at nd;have onP:o∉P:=λz=>nd.2.2 o z o (by simp) rfl;have inP:∀x∈P,x∈s.1:=λx hx=>by rw[e];exact bV _ hx
  have ms:∀x y,nW s.2 (i+1) o x=some y->(x=i+1/\y=o)\/(x=o/\y=i+1)\/(x≠i+1/\x≠o/\s.2 x=some y):=λx y h=>by
   unfold nW at h
   split at h
   ·rename_i z;cases h;exact .inl ⟨z,rfl⟩
   ·split at h
    ·rename_i z;cases h;exact .inr (.inl ⟨z,rfl⟩)
    ·rename_i z1 z2;exact .inr (.inr ⟨z1,z2,h⟩)
  have mo:∀x,x≠i+1->x≠o->nW s.2 (i+1) o x=s.2 x:=λx h1 h2=>by unfold nW;rw[W4 h1,W4 h2]
  refine⟨nd.1,λx hx=>by have:=I.le x (inP x hx);lia,λx hx=>?_,λx y h=>?_,λx y h=>?_,λx y h=>?_,λx hx h0=>?_,λhk=>⟨λz=>(I.z hk).1 (inP 0 z),?_⟩⟩<;>dsimp only at *
  ·have:=I.le x (inP x hx);rw[mo x (by lia) (λz=>onP (z▸hx))];exact I.out x (inP x hx)
  ·rcases ms x y h with ⟨rfl,rfl⟩ | ⟨rfl,rfl⟩ | ⟨h1,h2,h3⟩
   ·unfold nW;rw[W4 (by lia),W5 rfl]
   ·unfold nW;rw[W5 rfl]
   ·have hy:=I.sym x y h3;rw[mo y (λz=>by rw[z,new] at hy;cases hy) (λz=>by rw[z,on] at hy;cases hy)];exact hy
  ·rcases ms x y h with ⟨rfl,rfl⟩ | ⟨rfl,rfl⟩ | ⟨h1,h2,h3⟩
   ·lia
   ·lia
   ·exact I.irr x y h3
  ·rcases ms x y h with ⟨rfl,rfl⟩ | ⟨rfl,rfl⟩ | ⟨h1,h2,h3⟩
   ·lia
   ·lia
   ·have:=I.bd x y h3;lia
  ·by_cases z1:x=i+1
   ·exact .inr ⟨o,by unfold nW;rw[W5 z1]⟩
   ·by_cases z2:x=o
    ·exact .inr ⟨i+1,by unfold nW;rw[W4 z1,W5 z2]⟩
    ·rcases I.tot x (by lia) h0 with h1 | ⟨y,h1⟩
     ·rw[e] at h1;rcases aQ.mp h1 with h2 | h2
      ·exact .inl h2
      ·simp at h2;exact absurd h2 z2
     ·exact .inr ⟨y,by rw[mo x z1 z2];exact h1⟩
  ·rw[mo 0 (by lia) (λz=>(I.z hk).1 (z▸om))];exact(I.z hk).2
def vS{k:Bool}{s:Ge}{row c:Nat}:(uK k s row c).1.length=if isIn k c then s.1.length+1 else s.1.length - 1:=by
 unfold uK
 split
 ·simp
 ·cases e:s.1.getLast? with
  | none=>simp at e;simp[e]
  | some o=>simp
def tZ{L R L' R':List Int}{c:Nat}(hc:c=97\/c=98\/c=99\/c=100)(h:cZ L R c=some (L',R')):
  (isIn false c=false->L≠[])/\(isIn true c=false->R≠[])/\L'.length=(if isIn false c then L.length+1 else L.length - 1)/\R'.length=(if isIn true c then R.length+1 else R.length - 1):=by
 rcases hc with rfl | rfl | rfl | rfl
 ·simp only[cZ,W9,Option.some.injEq,Prod.mk.injEq] at h;obtain⟨rfl,rfl⟩:=h;simp[isIn]
 ·by_cases hR:R=[]
  ·subst hR;rw[nE] at h;cases h
  ·obtain⟨Q,v,rfl⟩:=cG hR;rw[pT] at h;cases h;simp[isIn]
 ·by_cases hL:L=[]
  ·subst hL;rw[nD] at h;cases h
  ·obtain⟨P,v,rfl⟩:=cG hL;rw[pS] at h;cases h;simp[isIn]
 ·by_cases hL:L=[]
  ·subst hL;rw[mz] at h;cases h
  ·by_cases hR:R=[]
   ·subst hR;rw[mw] at h;cases h
   ·obtain⟨P,x,rfl⟩:=cG hL;obtain⟨Q,y,rfl⟩:=cG hR;rw[pR] at h;by_cases e:x=y
    ·rw[W5 e] at h;cases h
    ·rw[W4 e] at h;cases h;simp[isIn]
structure Run (b:Bool) (cs:List Nat) (i:Nat) (L R:List Int):Prop where
 ee:EE L R
 li:ym false b i (stN false b cs i)
 ri:ym true b i (stN true b cs i)
 ll:(stN false b cs i).1.length=L.length
 rl:(stN true b cs i).1.length=R.length
def Run.step{b:Bool}{cs:List Nat}{i c:Nat}{L R L' R':List Int}(h:Run b cs i L R)(e:cs[i]? = some c)(hc:c=97\/c=98\/c=99\/c=100)(g:cZ L R c=some (L',R')):Run b cs (i+1) L' R':=by
 obtain⟨n1,n2,s1,s2⟩:=tZ hc g;have eg:cs.getD i 0=c:=by rw[cP,e];rfl
 have k1:isIn false c=false->(stN false b cs i).1≠[]:=λz=>by have:=dB.mpr (n1 z);exact dB.mp (by rw[h.ll];exact this)
 have k2:isIn true c=false->(stN true b cs i).1≠[]:=λz=>by have:=dB.mpr (n2 z);exact dB.mp (by rw[h.rl];exact this)
 refine⟨h.ee.go hc g,?_,?_,?_,?_⟩
 ·show ym false b (i+1) (uK false _ _ _);rw[eg];exact h.li.step k1
 ·show ym true b (i+1) (uK true _ _ _);rw[eg];exact h.ri.step k2
 ·show (uK false _ _ _).1.length=_;rw[eg,vS,s1,h.ll]
 ·show (uK true _ _ _).1.length=_;rw[eg,vS,s2,h.rl]
def Run.zero(b:Bool)(cs:List Nat):Run b cs 0 (if b then [] else [0]) (if b then [0] else []):=by
 cases b
 ·exact⟨EE.one,.zero _ _,.zero _ _,rfl,rfl⟩
 ·exact⟨EE.two,.zero _ _,.zero _ _,rfl,rfl⟩
def yM(n:Nat)(s:Ge)(x:Nat):Option Nat:=if x∈s.1 then some (n+1) else s.2 x
structure Ji (n:Nat) (b:Bool) (f:Bool->Nat->Option Nat):Prop where
 sym:∀ k x y,f k x=some y->y<=n->f k y=some x
 irr:∀ k x y,f k x=some y->x<=n->y≠x
 tot:∀ k x,x<=n->(x=0->k=b)->∃ y,f k x=some y/\y<=n+1
 z:f (!b) 0=none
def fin2(b:Bool)(cs:List Nat)(k:Bool):Nat->Option Nat:=yM cs.length (stN k b cs cs.length)
def L6{b:Bool}{cs:List Nat}(h:∀k,ym k b cs.length (stN k b cs cs.length)):Ji cs.length b (fin2 b cs):=by
 refine⟨λk x y e hy=>?_,λk x y e hx=>?_,λk x hx h0=>?_,?_⟩
 ·unfold fin2 yM at e ⊢
  split at e
  ·cases e;lia
  ·have e2:=(h k).sym x y e;rw[W4 (λz=>by rw[(h k).out y z] at e2;cases e2)];exact e2
 ·unfold fin2 yM at e
  split at e
  ·cases e;lia
  ·exact(h k).irr x y e
 ·unfold fin2 yM
  split
  ·exact⟨_,rfl,by lia⟩
  ·rename_i nx;rcases(h k).tot x hx h0 with h1 | ⟨y,h1⟩
   ·exact absurd h1 nx
   ·exact⟨y,h1,by have:=(h k).bd y x ((h k).sym x y h1);lia⟩
 ·unfold fin2 yM;have:=(h (!b)).z (by cases b<;>decide);rw[W4 this.1];exact this.2
def pth(f:Bool->Nat->Option Nat)(b:Bool):Nat->Nat×Bool
 | 0=>(0,b)
 | i+1=>((f (pth f b i).2 (pth f b i).1).getD 0,!(pth f b i).2)
def vh{f:Bool->Nat->Option Nat}{b:Bool}:∀i j,i % 2=j % 2->(pth f b i).2=(pth f b j).2:=by
 have h:∀i,(pth f b i).2=(b ^^ decide (i % 2=1)):=by
  intro i
  induction i with
  | zero=>simp[pth]
  | succ i ih=>
   show (!(pth f b i).2)=_;rw[ih];rcases ce i with e | e
   ·have e2:(i+1) % 2=1:=by lia
    simp[e,e2]
   ·have e2:(i+1) % 2=0:=by lia
    simp[e,e2]
 intro i j e;rw[h,h,e]
structure Gd (n:Nat) (b:Bool) (f:Bool->Nat->Option Nat) (N:Nat):Prop where
 le:∀ i,i<N->(pth f b i).1<=n
 st:∀ i,i<N->f (pth f b i).2 (pth f b i).1=some (pth f b (i+1)).1
section
variable {n:Nat} {b:Bool} {f:Bool->Nat->Option Nat}
def Ji.back(M:Ji n b f){N i:Nat}(V:Gd n b f N)(hi:i<N)(hl:(pth f b (i+1)).1<=n):f (pth f b i).2 (pth f b (i+1)).1=some (pth f b i).1:=M.sym _ _ _ (V.st i hi) hl
def Ji.nz(M:Ji n b f){N:Nat}(V:Gd n b f N)(h1:1<=N):(pth f b N).1≠0:=by
 intro h0;obtain⟨i,rfl⟩:∃i,N=i+1:=⟨N - 1,by lia⟩
 have e0:=M.back V (i:=i) (by lia) (by rw[h0];lia);rw[h0] at e0;have hb:(pth f b i).2=b:=by
  cases hh:(pth f b i).2==b with
  | true=>exact beq_iff_eq.mp hh
  | false=>
   have:(pth f b i).2=!b:=by
    have:=beq_eq_false_iff_ne.mp hh;cases hb2:(pth f b i).2<;>cases b<;>simp_all
   rw[this,M.z] at e0;cases e0
 have ev:i % 2=0:=by
  rcases ce i with e | e
  ·exact e
  ·have:=vh (f:=f) (b:=b) i 1 e;rw[hb] at this;have h2:(pth f b 1).2=!b:=rfl;rw[h2] at this;cases b<;>cases this
 have pal:∀j,j<=i+1->(pth f b (i+1-j)).1=(pth f b j).1:=by
  intro j
  induction j with
  | zero=>intro _;rw[qr];exact h0
  | succ j ih=>
   intro hj;have e1:=ih (by lia);have e2:i+1-j=(i-j)+1:=by lia
   rw[e2] at e1;have hjn:j<i+1:=by lia
   have b1:=M.back V (i:=i-j) (by lia) (by rw[e1];exact V.le j hjn);rw[e1,vh (i-j) j (by lia),V.st j hjn] at b1;rw[show i+1-(j+1)=i-j by lia];exact(bI b1).symm
 have t:=pal (i / 2) (by lia);rw[show i+1-i / 2=i / 2+1 by lia] at t;exact M.irr _ _ _ (V.st (i / 2) (by lia)) (V.le _ (by lia)) t
def Oz:∀(n:Nat) (g:Nat->Nat),(∀i,i<=n->g i<n)->∃i j,i<j/\j<=n/\g i=g j
 | 0,g,h=>absurd (h 0 (by lia)) (by lia)
 | n+1,g,h=>by
  by_cases hv:∃i,i<=n/\g i=g (n+1)
  ·obtain⟨i,hi,e⟩:=hv;exact⟨i,n+1,by lia,by lia,e⟩
  ·have hv':∀i,i<=n->g i≠g (n+1):=λi hi e=>hv ⟨i,hi,e⟩;obtain⟨i,j,h1,h2,h3⟩:=Oz n (λi=>if g i=n then g (n+1) else g i) (λi hi=>by
    have a:=h i (by lia);have c:=h (n+1) (by lia);have d:=hv' i hi;show (if g i=n then g (n+1) else g i)<n
    split<;>lia)
   refine⟨i,j,h1,by lia,?_⟩;have d1:=hv' i (by lia);have d2:=hv' j (by lia)
   split at h3<;>split at h3<;>lia
def Ji.ends(M:Ji n b f):∃T,1<=T/\T<=2*n+4/\Gd n b f T/\(pth f b T).1=n+1:=by
 have go:∀N,N<=2*n+4->(∃T,1<=T/\T<=2*n+4/\Gd n b f T/\(pth f b T).1=n+1)\/(Gd n b f N/\(pth f b N).1<=n):=by
  intro N
  induction N with
  | zero=>intro _;exact .inr ⟨⟨λi h=>by lia,λi h=>by lia⟩,bU _⟩
  | succ N ih=>
   intro hN;rcases ih (by lia) with h | ⟨V,hl⟩
   ·exact .inl h
   ·have h0:(pth f b N).1=0->(pth f b N).2=b:=λz=>by
     rcases Nat.eq_zero_or_pos N with e | e
     ·subst e;rfl
     ·exact absurd z (M.nz V e)
    obtain⟨y,e1,e2⟩:=M.tot _ _ hl h0;have ey:(pth f b (N+1)).1=y:=by show (f _ _).getD 0=y;rw[e1];rfl
    have V':Gd n b f (N+1):=⟨λi hi=>by
      rcases ip i N with h | h
      ·exact V.le i h
      ·rw[show i=N by lia];exact hl,λi hi=>by
      rcases ip i N with h | h
      ·exact V.st i h
      ·rw[show i=N by lia,ey];exact e1⟩
    by_cases hy:y=n+1
    ·exact .inl ⟨N+1,by lia,hN,V',ey.trans hy⟩
    ·exact .inr ⟨V',by rw[ey];lia⟩
 rcases go (2*n+4) (aI _) with h | ⟨V,hl⟩
 ·exact h
 ·exfalso;obtain⟨i,j,h1,h2,h3⟩:=Oz (n+1) (λi=>(pth f b (2*i)).1) (λi hi=>by have:=V.le (2*i) (by lia);lia);have bk:∀d,d<=2*i->(pth f b (2*i-d)).1=(pth f b (2*j-d)).1:=by
   intro d
   induction d with
   | zero=>intro _;exact h3
   | succ d ih=>
    intro hd;have e1:=ih (by lia);rw[show 2*i-d=(2*i-(d+1))+1 by lia,show 2*j-d=(2*j-(d+1))+1 by lia] at e1;have b1:=M.back V (i:=2*i-(d+1)) (by lia) (V.le _ (by lia));have b2:=M.back V (i:=2*j-(d+1)) (by lia) (V.le _ (by lia));rw[e1,vh (2*i-(d+1)) (2*j-(d+1)) (by lia),b2] at b1;exact(bI b1).symm
  have e0:=bk (2*i) (aI _);rw[qt] at e0;exact M.nz (N:=2*j - 2*i) ⟨λt ht=>V.le t (by lia),λt ht=>V.st t (by lia)⟩ (by lia) e0.symm
end
def tu(L:List Int)(p:Nat):Prop:=1<=p/\p<L.length/\L[p-1]?≠L[p]?
instance (L:List Int) (p:Nat):Decidable (tu L p):=by unfold tu;infer_instance
def wB(L:List Int)(p:Nat):Nat:=if tu L p then 0 else if p=0 then (if L[0]? = L[1]? then 2 else 1) else if p=L.length then (if L[p-2]? = L[p-1]? then 2 else 1) else 1
def L4(L:List Int)(p:Nat):wB L p<=2:=by unfold wB;(repeat' split)<;>lia
def Fc{L:List Int}{p:Nat}(h:tu L p):wB L p=0:=by unfold wB;rw[W5 h]
def Th(L:List Int):Prop:=∀i,i+2<L.length->¬(L[i]? = L[i+1]?/\L[i+1]? = L[i+2]?)
def EW.th{R:List Int}(E:EW R):Th R:=λi hi ⟨e1,e2⟩=>by
 have e:R=R.take i++(R[i]::R[i+1]::R[i+2]::R.drop (i+3)):=by
  conv=>lhs;rw[<-jE i R]
  rw[aj (by lia:i<R.length),aj (by lia:i+1<R.length),aj (by lia:i+1+1<R.length)]
 rw[aW (by lia),aW (by lia)] at e1 e2;have a1:=bI e1;have a2:=bI e2;have hm:R[i]∈R:=iE _;have c3:3<=R.count R[i]:=by
  have c1:R.count R[i]=(R.take i++(R[i]::R[i+1]::R[i+2]::R.drop (i+3))).count R[i]:=by rw[<-e]
  rw[c1,<-a2,<-a1,c8,jl,jl,jl];lia
 have n0:=E.nn _ hm;by_cases z:R[i]=0
 ·have:=E.z1;rw[<-z] at this;lia
 ·have:=E.two _ hm (by lia);lia
def EW.three{R:List Int}(E:EW R)(h:1<R.length):3<=R.length:=by
 match R,E,h with
 | [a,b],E,_=>
  exfalso;have z:=E.z1;have na:=E.nn a (by simp);have nb:=E.nn b (by simp);by_cases ha:a=0
  ·by_cases hb:b=0
   ·subst ha hb;simp at z
   ·have:=E.two b (by simp) (by lia);subst ha;simp[cO,bc hb] at this
  ·have:=E.two a (by simp) (by lia);by_cases hb:b=a
   ·subst hb;simp[cO,ha] at z
   ·simp[cO,hb] at this
 | _::_::_::_,_,_=>simp
def A0(L R:List Int):Nat:=if L.length+R.length<=1 then 0 else 3*((L.length+R.length) / 2 - 1)+1+wB (L++R.reverse) L.length
def Jh{L R:List Int}(E:EE L R):A0 L R<=3*((L.length+R.length) / 2):=by
 unfold A0
 split
 ·lia
 ·have h3:3<=(L++R.reverse).length:=E.three (by simp;lia);have:=L4 (L++R.reverse) L.length;simp at h3;lia
def Lj{L:List Int}(th:Th L)(h3:3<=L.length):∃p,tu L p:=by
 by_cases h:L[0]? = L[1]?
 ·exact⟨2,by lia,by lia,λz=>th 0 (by lia) ⟨h,z⟩⟩
 ·exact⟨1,by lia,by lia,h⟩
structure G6 (L:List Int) (p best:Nat):Prop where
 d:tu L best
 m:∀ k,tu L k->((best:Int) - p).natAbs<=((k:Int) - p).natAbs
def LZ{L:List Int}{p best:Nat}(th:Th L)(h3:3<=L.length)(hp:p<=L.length)(N:G6 L p best)(h:best<p):wB L (p - 1)+1<=wB L p:=by
 have nd:¬tu L p:=λz=>by have:=N.m p z;lia
 obtain⟨b1,b2,b3⟩:=N.d;unfold wB;rw[W4 nd,W4 (by lia:¬p=0)];by_cases hl:p=L.length
 ·rw[W5 hl];by_cases e:L[p-2]? = L[p-1]?
  ·rw[W5 e];have e1:¬tu L (p - 1):=λz=>z.2.2 (by rw[show p - 1 - 1=p - 2 by lia];exact e);rw[W4 e1,W4 (by lia),W4 (by lia)];lia
  ·rw[W4 e];have e1:tu L (p - 1):=⟨by lia,by lia,by rw[show p - 1 - 1=p - 2 by lia];exact e⟩
   rw[W5 e1];lia
 ·rw[W4 hl];have ee:L[p-1]? = L[p]?:=lI λz=>nd ⟨by lia,by lia,z⟩;have b4:best=p - 1:=by
   rcases(show p=1\/2<=p by lia) with e | e
   ·lia
   ·have:=th (p - 2) (by lia);rw[show p - 2+1=p - 1 by lia,show p - 2+2=p by lia] at this;have e1:tu L (p - 1):=⟨by lia,by lia,by rw[show p - 1 - 1=p - 2 by lia];exact λz=>this ⟨z,ee⟩⟩
    have:=N.m _ e1;lia
  rw[<-b4,W5 N.d];lia
def L0{L:List Int}{p best:Nat}(th:Th L)(h3:3<=L.length)(hp:p<=L.length)(N:G6 L p best)(h:p<best):wB L (p+1)+1<=wB L p:=by
 have nd:¬tu L p:=λz=>by have:=N.m p z;lia
 obtain⟨b1,b2,b3⟩:=N.d;by_cases h0:p=0
 ·subst h0;have m0:wB L 0=if L[0]? = L[1]? then 2 else 1:=by unfold wB;rw[W4 nd,W5 rfl]
  by_cases e:L[0]? = L[1]?
  ·have e1:¬tu L 1:=λz=>z.2.2 e;have m1:wB L 1=1:=by unfold wB;rw[W4 e1,W4 (by lia),W4 (by lia)]
   rw[m0,W5 e,m1];lia
  ·have e1:tu L 1:=⟨by lia,by lia,e⟩
   rw[m0,W4 e,Fc e1];lia
 ·have mp:wB L p=1:=by unfold wB;rw[W4 nd,W4 h0,W4 (by lia)]
  have ee:L[p-1]? = L[p]?:=lI λz=>nd ⟨by lia,by lia,z⟩;have b4:best=p+1:=by
   rcases(show p+1=L.length\/p+1<L.length by lia) with e | e
   ·lia
   ·have:=th (p - 1) (by lia);rw[show p - 1+1=p by lia,show p - 1+2=p+1 by lia] at this;have e1:tu L (p+1):=⟨by lia,by lia,by rw[show p+1 - 1=p by lia];exact λz=>this ⟨ee,z⟩⟩
    have:=N.m _ e1;lia
  rw[mp,<-b4,Fc N.d];lia
def DC(p best:Nat):Nat:=if best=p then 100 else if best<p then 99 else 98
def GW{L R:List Int}{best:Nat}(E:EE L R)(h:1<L.length+R.length)(N:G6 (L++R.reverse) L.length best):∃L' R',cZ L R (DC L.length best)=some (L',R')/\EE L' R'/\A0 L' R'+1<=A0 L R:=by
 have hl:(L++R.reverse).length=L.length+R.length:=by simp
 have h3:3<=(L++R.reverse).length:=E.three (by lia);have th:Th (L++R.reverse):=E.th;obtain⟨b1,b2,b3⟩:=N.d;have p1:A0 L R=3*((L.length+R.length) / 2 - 1)+1+wB (L++R.reverse) L.length:=by unfold A0;rw[W4 (by lia)]
 unfold DC;by_cases e:best=L.length
 ·rw[W5 e];have hL:L≠[]:=λz=>by rw[z] at e;simp at e;lia
  have hR:R≠[]:=λz=>by rw[z] at b2;simp at b2;lia
  obtain⟨P,x,rfl⟩:=cG hL;obtain⟨Q,y,rfl⟩:=cG hR;have hxy:x≠y:=λz=>b3 (by
   subst z e;simp[List.getElem?_append])
  rw[pR,W4 hxy];have E':=E.d hxy;refine⟨_,_,rfl,E',?_⟩;have:=Jh E';rw[aG,aG] at this;rw[p1];simp only[bH,gU];simp only[bH,gU] at h hl;lia
 ·rw[W4 e];by_cases c:best<L.length
  ·rw[W5 c];have hL:L≠[]:=λz=>by rw[z] at c;simp at c
   obtain⟨P,x,rfl⟩:=cG hL;rw[pS];have E':=E.c;refine⟨_,_,rfl,E',?_⟩;have nc:=LZ th h3 (by simp) N c;have er:P++(R++[x]).reverse=(P++[x])++R.reverse:=by simp
   have p2:A0 P (R++[x])=3*(((P++[x]).length+R.length) / 2 - 1)+1+wB ((P++[x])++R.reverse) ((P++[x]).length - 1):=by
    unfold A0;have hh:P.length+(R++[x]).length=(P++[x]).length+R.length:=by simp;lia
    rw[hh,W4 (by lia),er];congr 2;simp
   rw[p1,p2];lia
  ·rw[W4 c];have hR:R≠[]:=λz=>by rw[z] at b2;simp at b2;lia
   obtain⟨Q,y,rfl⟩:=cG hR;rw[pT];have E':=E.b;refine⟨_,_,rfl,E',?_⟩;have nb:=L0 th h3 (by simp) N (by lia);have er:(L++[y])++Q.reverse=L++(Q++[y]).reverse:=by simp
   have p2:A0 (L++[y]) Q=3*((L.length+(Q++[y]).length) / 2 - 1)+1+wB (L++(Q++[y]).reverse) (L.length+1):=by
    unfold A0;have hh:(L++[y]).length+Q.length=L.length+(Q++[y]).length:=by simp;lia
    rw[hh,W4 (by lia),er];congr 2;simp
   rw[p1,p2];lia
def mM{L R L' R':List Int}{c:Nat}(hc:c=97\/c=98\/c=99\/c=100)(h:cZ L R c=some (L',R')):L'.length+R'.length<=L.length+R.length+2:=by
 obtain⟨_,_,s1,s2⟩:=tZ hc h
 split at s1<;>split at s2<;>lia
def N7(L R:List Int):∃L' R',cZ L R 97=some (L',R'):=⟨_,_,rfl⟩
end Rm
namespace L2
open PySem PySem.Spec PyProof.Rows
section
variable {prog:Program} {w:World} {A:Around} {E:Value->Shared->Prop} {h:Heap} {g:Array GenState} {d:Drawn} {t:Nat} {os:OsState}
variable {nm q:Str} {C N:Addr} {bs bm bmB:List Value} {hdct:Bool} {sn:List Str} {sub:List Value} {ab:Bool} {col:Option Bool} {dd:Option Addr} {k0 k1 k2 k3 k5:Option Value} {B newId initId:String}
def wI(F:ExcBaseFacts B newId initId bmB)(tl:OwnTail h bmB bm){mC:Str->Option Value}{us:List Value}{fi:Addr}{of:Obj}{R:Fin->Shared->Prop}
  (hK:h.get? C=some (excClassObj nm q C N bs bm hdct sn sub ab col dd k0 k1 k2 k3 k5 newId)) (hNs:h.Ns N mC) (hin:mC "__init__"=some (.ref fi)) (hof:h.get? fi=some of) (hfn:of.cls=.type "function") (hlen:us.length<=sizeLine)
  (go:∀hh x,Heap.MadeExcOf h hh x (.ref C) us->wpAny (model prog w) A (call (.ref fi) (.ref x::us)) (λr z=>r=.none/\R (.done (.ret (.ref x))) z) E ⟨hh,g,d,t,os⟩) :
  wpAny (model prog w) A (Builtin.«type.__call__» ⟨.ref C::us,[]⟩) R E ⟨h,g,d,t,os⟩:=by
 repeat (first | (with_reducible refine W2 hK ?_) | (with_reducible refine wpAny_madeBy_exc hK ?_) | wp_step)
 refine codeAny_call_builtin_code (kz _ F.quiet) (wpAny_check_new_subT F tl hK ?_);refine codeAny_exc_new_subT F tl hK ?_ hlen;show wpAny _ _ _ _ _ _;generalize hh1:h.push { cls:=.type "tuple",data:=.seq us.toArray }=h1;generalize hh2:h1.push { cls:=.ref C,data:=.fields #[.ref h.objs.size,.none,.none,.none,.bool false,.none] }=h2;have kp:∀b o,h.get? b=some o->h2.get? b=some o:=λb o e=>by rw[<-hh2,<-hh1];exact aA _ (aA _ e)
 have sz:h1.objs.size=h.objs.size+1:=by rw[<-hh1];exact bq _ _
 have at2:h2.get? (h.objs.size+1)=some { cls:=.ref C,data:=.fields #[.ref h.objs.size,.none,.none,.none,.bool false,.none] }:=by rw[<-hh2,<-sz];exact aL _ rfl
 have at1:h2.get? h.objs.size=some { cls:=.type "tuple",data:=.seq us.toArray }:=by rw[<-hh2];refine aA _ ?_;rw[<-hh1];exact aL _ rfl
 have hK2:=kp _ _ hK;have tl2:=tl.keeps kp;have hN2:h2.Ns N mC:=let ⟨o,es,ep,e,r⟩:=hNs;⟨o,es,ep,kp _ _ e,r⟩;have own:(Value.ref C::bm).contains (.ref C)=true:=by simp
 unfold isInstance
 repeat (first | (with_reducible refine W2 at2 ?_) | (with_reducible refine wpAny_isSubtype_exc hK2 ?_;rw[own]) | wp_step)
 show wpAny _ _ (typeLookup (.ref C) _) _ _ _;refine wpAny_typeLookup_tail hK2 hN2 tl2 F.mroIs F.init.lookup ?_;rw[hin];refine WB (wpAny_bind ?_);unfold bindSpecial;refine wpAny_bind (wpAny_typeOf (T:="function") ⟨_,kp _ _ hof,hfn⟩ ?_);rw[W5 (by decide)];refine WE (wpAny_bind (wpAny_mono (go h2 (h.objs.size+1) ⟨kp,gp (eS _),h.objs.size,at2,gp (aI _),at1⟩) (λr z hr=>?_) λ_ _ y=>y));obtain⟨rfl,hR⟩:=hr
 wp_walk
 exact hR
def GH(F:ExcBaseFacts B newId initId bmB)(tl:OwnTail h bmB bm){mC:Str->Option Value}{us:List Value}{fi:Addr}{of:Obj}{R:Value->Shared->Prop}
  (hK:h.get? C=some (excClassObj nm q C N bs bm hdct sn sub ab col dd k0 k1 k2 k3 k5 newId)) (hNs:h.Ns N mC) (hin:mC "__init__"=some (.ref fi)) (hof:h.get? fi=some of) (hfn:of.cls=.type "function") (hlen:us.length<=sizeLine)
  (go:∀hh x,Heap.MadeExcOf h hh x (.ref C) us->wpAny (model prog w) (A.under (.builtin "type.__call__" ⟨.ref C::us,[]⟩)) (call (.ref fi) (.ref x::us)) (λr z=>r=.none/\R (.ref x) z) E ⟨hh,g,d,t,os⟩) :
  wpAny (model prog w) A (call (.ref C) us) R E ⟨h,g,d,t,os⟩:=by
 have l1:=tc_lookup;have l2:=tc_bind (.ref C);have ty:(⟨h,g,d,t,os⟩:Shared).TypeIs (.ref C) "type":=⟨_,hK,rfl⟩
 refine WJ (codeAny_of_tree ?_);show wpAny _ _ (callAny (.ref C) _) _ _ _
 repeat (any_goals (first | assumption | (with_reducible refine W2 hK ?_) | wp_step))
 refine⟨rfl,?_⟩;exact codeAny_call_builtin_at (kz _ (by decide +kernel)) entry_typeCall (wpAny_check_type_call_sub hK (wI F tl hK hNs hin hof hfn hlen λhh x m=>go hh x m))
end
section
variable {M:Model} {A:Around} {E:Value->Shared->Prop} {env:Env}
variable {nm q:Str} {C N:Addr} {bs bm:List Value} {hdct:Bool} {sn:List Str} {sub:List Value} {ab:Bool} {col:Option Bool} {dd:Option Addr} {k0 k1 k2 k3 k5:Option Value} {newId:String}
def zQ {s:Shared} {x:Sem Value} {R:Flow->Shared->Prop} (hb:bm.contains (.type "BaseException")=true) (hh:A.handled=none)
  (go:wpAny M A x (λv z=>∃e dO a0 sl,v=.ref e/\z.heap.get? C=some (excClassObj nm q C N bs bm hdct sn sub ab col dd k0 k1 k2 k3 k5 newId)/\z.heap.get? e=some ⟨.ref C,dO,.fields #[a0,.none,.none,.none,.bool false,.none],sl⟩/\E (.ref e) z) E s) :
  wpAny M A (raiseStmt env (some x) none) R E s:=by
 have has:(Value.ref C::bm).contains (.type "BaseException")=true:=by rw[List.contains_cons,hb,qw]
 unfold raiseStmt;refine wpAny_bind (wpAny_mono go (λv z h1=>?_) λ_ _ y=>y);obtain⟨e,dO,a0,sl,rfl,hK,he,hE⟩:=h1;obtain⟨hp,g,d,tk,os⟩:=z
 repeat (first | (with_reducible refine W2 he ?_) | (with_reducible refine W2 hK ?_) | (with_reducible refine wpAny_isSubtype_exc hK ?_;rw[has]) | wp_step)
 exact wpAny_raiseNew_none hh hE
end
def kh(dO:Option Addr)(C t:Addr):Obj:=⟨.ref C,dO,.fields #[.ref t,.none,.none,.none,.bool false,.none],#[]⟩
def iZ(dO:Option Addr)(C e:Addr):HO:=.ext λh=>∃t,h.get? e=some (kh dO C t)
def v7{P:Program}{w:World}{H:Hp}{h:Heap}{dO:Option Addr}{C e t:Addr}(he:h.get? e=some (kh dO C t)):cw P w H h e (iZ dO C e):=
 ⟨⟨t,he⟩,⟨_,he⟩,λ_ _ ⟨t,a⟩ k=>⟨t,k _ a⟩⟩
structure rO (x:Str) (C fi:Addr) (bmB:List Value) (newId:String) (mg:Str->Option Value) (base:Heap):Prop where
 bound:mg x=some (.ref C)
 obj:∃ (bm:List Value) (N:Addr) (nm q:Str) (bs:List Value) (hdct:Bool) (sn:List Str) (sub:List Value) (ab:Bool) (col:Option Bool) (dd:Option Addr) (k0 k1 k2 k3 k5:Option Value) (mN:Str->Option Value),
  base.get? C=some (excClassObj nm q C N bs bm hdct sn sub ab col dd k0 k1 k2 k3 k5 newId)/\base.Ns N mN/\mN "__init__"=some (.ref fi)/\OwnTail base bmB bm
def yx(C:Addr)(t:TA):TE:=λσ H Q=>t σ H λvs H1=>∃e v,vs=[.ref e,v]/\H1 e=some (iZ none C e)/\Q .non H1
def KL{H:Hp}{a:Addr}{o:HO}(h:H a=some o):bP H a o=H:=by
 funext b;unfold bP
 split
 ·rename_i z;rw[z,h]
 ·rfl
section
variable {X:Cx}
def Fs{prog:Program}{w:World}{A:Around}{E:Value->Shared->Prop}{s:Shared}{bm bmB:List Value}{C N e t0:Addr}{nm q:Str}{bs:List Value}{hdct:Bool}{sn:List Str}{sub:List Value}{ab:Bool}{col:Option Bool}{dd:Option Addr}{k0 k1 k2 k3 k5:Option Value}{B newId initId:String}{v:Value}{Q:Value->Shared->Prop}
  (F:ExcBaseFacts B newId initId bmB) (tl:OwnTail s.heap bmB bm) (hK:s.heap.get? C=some (excClassObj nm q C N bs bm hdct sn sub ab col dd k0 k1 k2 k3 k5 newId)) (he:s.heap.get? e=some (kh none C t0))
  (hq:∀h' t1,h'.get? e=some (kh none C t1)->(∀b o,b≠e->s.heap.get? b=some o->h'.get? b=some o)->Q .none { s with heap:=h' }) :
  wpAny (model prog w) A (call (.builtin initId) [.ref e,v]) Q E s:=by
 obtain⟨h,g,d,t,os⟩:=s;refine WJ (WV F.init.plain F.initEntry (wpAny_check_init_subT F tl hK he rfl ?_));unfold Builtin.«BaseException.__init__»;dsimp only;rw[W4 (by simp)];unfold newTuple Builtin.BaseException.bexcPut;have he1:=aA (h:=h) { cls:=.type "tuple",data:=.seq [v].toArray } he;refine wpAny_bind (WO (wpAny_bind (wpAny_bind (WS he1 rfl rfl (wpAny_bind (WT he1 rfl (by show 0<6;decide) ?_))))) (by show 1<=sizeLine;rw[WH];lia));refine wpAny_letGo (WE (hq _ h.objs.size ?_ λb o nb hb=>?_))
 ·exact(c7 _ he1 rfl).trans rfl
 ·exact(fy _ (bc nb) (aA _ hb))
def FC{xR:Str}{x:Str}{R C fi:Addr}{bmB:List Value}{B newId initId:String}{e:Expr}{es:List Expr}{t:TA}{p apos pos:Pos}{pl:Sem Bool}(F:ExcBaseFacts B newId initId bmB)(O:rO x C fi bmB newId X.mg X.base)(hgR:Gl X xR)(hmR:X.mg xR=some (.ref R))
  (rd:PySem.W.readsIn X.K R (.type "type")=true) (sg:PySem.W.specialIn X.K (.ref R) "__getattribute__"=some (some (.builtin "type.__getattribute__"))) (fc:PySem.W.findCls X.K (.ref R) (.type "type") "__init__"=some (.val (.builtin initId)))
  (hh:PySem.W.handedIn (.builtin initId)=true) (ha:PA X (e::es) t) (hdb:(xR==("__debug__":Str))=false:=by decide)
  (hst:starEach (e::es) X.env=(false,eval e X.env)::starEach es X.env:=by rfl) (hpl:(backTo pos (starEach es X.env)).any (·.1)=false:=by rfl)
  (ht:eval (.Call (.Attribute (.Name xR p) "__init__" apos) (e::es) [] pos) X.env=(do
   let ov <-eval (.Name xR p) X.env
   standAt apos.atName
   let (f,fst) <-holding [ov] (getMethod ov "__init__" pl)
   callWith pos f fst (backTo pos (starEach (e::es) X.env)) (backToKw pos (keywordEach [] X.env))):=by rfl) :
  PE X (.Call (.Attribute (.Name xR p) "__init__" apos) (e::es) [] pos) (yx C t):=by
 intro pins s σ H Q I h;refine PySem.W.methodCall_KW (pl:=pl) (kJ I hgR hmR (PySem.W.method_cls I.kIn sg (PySem.W.cls_value I.kIn rd fc hh ?_)) hdb) ht;have It:=I.tok (s.toks+1);refine jU (dJ (ha pos pins _ σ H _ It h) λus s1 ⟨vs,H1,I1,r,x0,v,ev,hx,q⟩=>?_) hst hpl;subst ev;obtain⟨bm,N,nm,q0,bs,hdct,sn,sub,ab,col,dd,k0,k1,k2,k3,k5,mN,hC,hN,hi,ot⟩:=O.obj;obtain⟨u0,u1,rfl,r0,r1⟩:=cH.two r;cases (show u0=Value.ref x0 from r0);obtain⟨t0,hx0⟩:=(I1.hok x0 _ hx).1;refine Fs (A:=X.A) F (md I1.bk ot) (I1.bk _ _ hC) hx0 λh' t1 e1 k=>?_;have I2:=I1.write (x:=x0) (e:=x0) (o:=iZ none C x0) (t':=s1.toks) (by rw[hx];exact True.intro) (.inl rfl) (λb o nb hb=>k b o nb hb) ⟨_,e1⟩ (v7 e1);rw[KL hx] at I2;exact⟨.non,_,I2,rfl,q⟩
end
def ID{prog:Program}{w:World}{A:Around}{R:Result->Shared->Prop}{s:Shared}{K:Wb}{x C:Addr}{cd:ClassData}{name:Str}{tk:Tok}{v:Value}{t0:Addr}(Xk:K.In s.heap)(hx:s.heap.get? x=some (kh none C t0))
  (hc:PySem.W.clsIn K C=some cd) (hdc:cd.hasDict=true) (hob:cd.mro.contains (.type "object")=true) (hpass:refuseLoop (.ref x) "__setattr__" cd.mro=pure ()) (hn:PySem.W.findIn K (.ref C) name=some none)
  (go:∀h' tk' dx,s.heap.get? dx=none->h'.get? x=some (kh (some dx) C t0)->h'.Ns1 dx (λy=>if y=name then some v else none)->(∀b o,b≠x->s.heap.get? b=some o->h'.get? b=some o)->R (.ok (.ret .none)) { s with heap:=h',toks:=tk' }) :
  codeAny (model prog w) A (.call (.builtin "object.__setattr__") ⟨[.ref x,.str name tk,v],[]⟩) R s:=by
 have SF:=PySem.F.store_object;obtain⟨h,g,d,t,os⟩:=s;have ty:PySem.W.InstAt h x (kh none C t0) C none:=⟨hx,rfl,rfl,trivial⟩
 have ne:cd.mro.isEmpty=false:=by cases q:cd.mro with | nil=>rw[q] at hob;cases hob | cons _ _=>rfl
 have sub:PySem.W.Looks (model prog w) h (isInstance (.ref x) (.type "object")) true:=ty.type.andThen (PySem.W.looks_mroIn Xk (by unfold PySem.W.mroIn;rw[hc,Option.bind_some,W4 (by rw[ne];decide),hob]));refine WV SF.slot.plain SF.entry (@PySem.W.check_slot (model prog w) _ _ ⟨h,g,d,t,os⟩ "object.__setattr__" "object" "__setattr__" (.ref x) [.str name tk,v] [] _ SF.kind SF.split sub (SF.args (.ref x) (.str name tk) v) ?_);have mr:PySem.W.Looks (model prog w) h (mroOf (.ref C)) cd.mro:=(PySem.W.looks_clsIn Xk hc).andThen .now;rw[PySem.W.osa_eq,refuse_eq];refine wpAny_bind (wpAny_bind (ty.type.here (wpAny_bind (mr.here ?_))));rw[hpass];refine WE (wpAny_bind (ty.type.here (wpAny_bind ((dL Xk hn).here (wpAny_bind (WE ?_))))));show wpAny _ _ (Builtin.ObjectAttr.storeInOwnDict (.ref x) (.ref C) (.str name tk) name v false) _ _ _;unfold Builtin.ObjectAttr.storeInOwnDict;refine wpAny_bind (WE (wpAny_bind (wpAny_bind (wpAny_loadPart hx (wpAny_bind ((PySem.W.looks_clsIn Xk hc).here ?_))))));rw[hdc];have hx1:(h.push { cls:=.type "dict",data:=.dict #[] }).get? x=some (kh none C t0):=aA _ hx;have ns:x≠h.objs.size:=aV (aN hx);refine wpAny_bind (wpAny_alloc' (wpAny_bind (wpAny_update' hx1 ?_)));refine WE ?_;generalize hh2:(h.push { cls:=.type "dict",data:=.dict #[] }).update x _=h2;have dNew:h2.get? h.objs.size=some { cls:=.type "dict",data:=.dict #[] }:=by rw[<-hh2];exact(iI _ _ _ _ (bc ns)).trans (aL _ rfl)
 have x2:h2.get? x=some (kh (some h.objs.size) C t0):=by rw[<-hh2];exact(c7 _ hx1 rfl).trans rfl
 have nsE:h2.Ns h.objs.size (λ_=>none):=⟨_,#[],_,dNew,rfl,λe he=>absurd he (by simp),λ_=>rfl⟩
 show wpAny _ _ (Builtin.ObjectAttr.storeInDict h.objs.size (.str name tk) name v) _ _ _;unfold Builtin.ObjectAttr.storeInDict Builtin.ObjectAttr.newKeyGuard;refine wpAny_bind (WE (wpAny_bind (wpAny_nsSet1 (Heap.Ns1.of_empty nsE) λh3 n3 s3=>?_)));obtain⟨oD,esD,epD,e1,e2,e3⟩:=n3.count (Within.cons name v Within.nil);refine wpAny_bind (wpAny_lookBehind e1 (by rw[e2];exact pastItsLine_dict (b9 e3 (by rw[cJ,gD,WH];lia))) ?_);refine WE (go h3 _ h.objs.size (gp (aI _)) ((s3.2 x ns).trans x2) n3 λb o nb hb=>(s3.2 b (aV (aN hb))).trans ?_);rw[<-hh2];exact(iI _ _ _ _ nb).trans (aA _ hb)
structure JK (K:Wb) (C:Addr) (f:Str):Prop where
 sa:PySem.W.findIn K (.ref C) "__setattr__"=some (some (.builtin "object.__setattr__"))
 cls:∃ cd,PySem.W.clsIn K C=some cd/\cd.hasDict=true/\cd.mro.contains (.type "object")=true/\∀ self,refuseLoop self "__setattr__" cd.mro=pure ()
 no:PySem.W.findIn K (.ref C) f=some none
def E9(C:Addr)(f:Str)(ta tv:TE):TS:=λD σ H=>tv σ H λy H1=>ta σ H1 λx H2=>∃e,x=.ref e/\H2 e=some (iZ none C e)/\∀dx,H2 dx=none->dx≠e->D.nx σ (bP (bP H2 dx (.xd [(f,y)])) e (iZ (some dx) C e))
section
variable {X:Cx}
def bX.dicted{pins:List (Addr×Obj)}{σ:St}{H:Hp}{s:Shared}{e dx C t0:Addr}{f:Str}{y:V}{u:Value}{h':Heap}{tk:Nat}(I:bX X pins σ H s)(he:H e=some (iZ none C e))(nd:s.heap.get? dx=none)(ne:dx≠e)(ry:RelV y u)
  (e1:h'.get? e=some (kh (some dx) C t0)) (n1:h'.Ns1 dx (λz=>if z=f then some u else none)) (kp:∀b o,b≠e->s.heap.get? b=some o->h'.get? b=some o) :
  H dx=none/\bX X pins σ (bP (bP H dx (.xd [(f,y)])) e (iZ (some dx) C e)) { s with heap:=h',toks:=tk }:=by
 have hn:H dx=none:=by
  cases z:H dx with
  | none=>rfl
  | some o=>obtain⟨ob,q⟩:=(I.hok dx o z).ex;rw[nd] at q;cases q
 have oth:∀b,b≠e->b≠dx->bP (bP H dx (.xd [(f,y)])) e (iZ (some dx) C e) b=H b:=λb h1 h2=>by rw[aS h1,aS h2]
 have inh:∀b o,s.heap.get? b=some o->b≠dx:=λb o q z=>by subst z;rw[nd] at q;cases q
 have trk:∀b o,H b=some o->b≠dx:=λb o q z=>by subst z;rw[hn] at q;cases q
 have net:∀b o,H b=some o->(∀φ,o≠.ext φ)->b≠e:=λb o q n z=>by subst z;rw[he] at q;cases q;exact n _ rfl
 have unt:∀b,H b=none->b≠e:=λb q z=>by subst z;rw[he] at q;cases q
 refine⟨hn,I.un ⟨λb o q n _ _=>kp b o (unt b n) q,λb o q n _ _=>⟨o.slots,kp b o (unt b n) q⟩,λb o q n _=>by rw[oth b (unt b n) (inh b o q)];exact n,λb o q _=>?_,
  λb xs q=>by rw[oth b (net b _ q λφ z=>by cases z) (trk b _ q)];exact q,λb o v q=>by rw[oth b (net b _ q λφ z=>by cases z) (trk b _ q)];exact q,λb ps q=>⟨#[],by rw[oth b (net b _ q λφ z=>by cases z) (trk b _ q),q];simp⟩⟩ λb o q=>?_⟩
 ·by_cases z:b=e
  ·exact⟨_,z▸e1⟩
  ·exact⟨o,kp b o z q⟩
 ·by_cases z:b=e
  ·subst z;rw[aD] at q;cases q;exact v7 e1
  ·rw[aS z] at q;by_cases z2:b=dx
   ·subst z2;rw[aD] at q;cases q;refine⟨_,n1,λg=>?_⟩;by_cases zg:g=f
    ·subst zg;simp only[List.lookup,beq_self_eq_true,W9];exact ry
    ·have:(g==f)=false:=beq_eq_false_iff_ne.mpr zg;simp only[List.lookup,this,W4 zg];trivial
   ·rw[aS z2] at q;refine(I.hok b o q).stay (λc v hc q'=>kp c v ?_ q') (λc q'=>by rw[oth c (net c _ q' λφ z=>by cases z) (trk c _ q')];exact q') λc xs q'=>by rw[oth c (net c _ q' λφ z=>by cases z) (trk c _ q')];exact q'
    rcases hc with r | r
    ·rw[r];exact z
    ·exact net c _ r λφ z=>by cases z
def He{o value:Expr}{f:Str}{C:Addr}{pos pos':Pos}{ta tv:TE}(k:JK X.K C f)(ha:PE X o ta)(hv:PE X value tv)(hs:swapsWith value (some (.Attribute o f pos')) pos.line X.env=pure false):PS X (.Assign [.Attribute o f pos'] value pos) (E9 C f ta tv):=by
 intro pins s σ H D I h;refine plainObj_wpAny_Assign_Attribute (dJ (hv pins s σ H _ I h) λu s1 ⟨y,H1,I1,ry,q⟩=>dJ (ha pins s1 σ H1 _ I1 q) λov s2 ⟨x,H2,I2,rx,e,ex,he,q2⟩=>?_) hs;subst ex;obtain rfl:ov=Value.ref e:=rx;obtain⟨t0,hx⟩:=(I2.hok e _ he).1;obtain⟨cd,hc,hd,ho,hp⟩:=k.cls;refine PySem.W.set_plain I2.kIn (ox:=kh none C t0) (od:=none) ⟨hx,rfl,rfl,trivial⟩ k.sa (ID (s:={ s2 with toks:=s2.toks+1 }) I2.kIn hx hc hd ho (hp _) k.no λh' tk' dx nd e1 n1 kp=>?_);have ne:dx≠e:=λz=>by subst z;rw[show s2.heap.get? dx=none from nd] at hx;cases hx
 obtain⟨hn,I3⟩:=bX.dicted (tk:=tk') I2 he nd ne ry e1 n1 kp;exact⟨_,_,I3,q2 dx hn ne⟩
end
def C9:∀n:Nat,n<=60->(PySem.Str.ofString (toString (n:Int))).length<=2/\(n:Int).natAbs.log2<1920:=by
 have h:∀n:Fin 61,(PySem.Str.ofString (toString ((n:Nat):Int))).length<=2/\((n:Nat):Int).natAbs.log2<1920:=by decide +kernel
 exact λn hn=>h ⟨n,by lia⟩
def AN(H:Hp)(e:Addr):Hp:=λb=>if b=e then none else H b
def nG{H:Hp}{e b:Addr}(h:b≠e):AN H e b=H b:=W4 h
def uz{H:Hp}{e b:Addr}{o:HO}(h:AN H e b=some o):b≠e/\H b=some o:=by
 unfold AN at h
 split at h
 ·cases h
 ·rename_i z;exact⟨z,h⟩
def G5(X:Cx)(E:XK):Prop:=∀(pins:List (Addr×Obj)) (σ:St) (H1 H:Hp) (s1 s:Shared) (e C:Addr) (dO:Option Addr),bX X pins σ H1 s1->s1.heap.get? e=none->bX X pins σ H s->H e=some (iZ dO C e)->E (.ref C) dO (AN H e)->X.xe (.ref e) s
def CJ{P:Program}{w:World}{K:Wb}{mg:Str->Option Value}{base:Heap}{N:List Str}{qual:Str}{scope:Scope}{f:Addr}{cd:Value}{A:Around}{outer:List Env}{s0:Shared}{H0:Hp}{E:XK}:
  G5 (jq (qv P w) P w K mg base N qual scope f cd A outer s0 H0 E) E:=by
 intro pins σ H1 H s1 s e C dO I1 n1 I he hE;generalize hX:jq (qv P w) P w K mg base N qual scope f cd A outer s0 H0 E=X at I I1 ⊢;have hst:X.stack=X.env::X.outer:=by rw[<-hX];rfl
 have hfr:X.env.frame=some X.env.locals:=by rw[<-hX];rfl
 have hxe:X.xe=λe s'=>wpAny (model X.prog X.w) X.A (leaving X.env e) (λ_ s''=>qv X.prog X.w X.outer X.H₀ X.s₀ E e s'') (λe' s''=>qv X.prog X.w X.outer X.H₀ X.s₀ E e' s'') s':=by rw[<-hX];rfl
 have hex:X.ex=[]:=by rw[<-hX];rfl
 have hfs:lN X.stack=X.env.locals::X.fs:=by rw[hst];unfold lN;rw[dC,hfr];rfl
 clear hX;have ne0:∀b o,X.s₀.heap.get? b=some o->b≠e:=λb o q z=>by
  subst z;obtain⟨o',q'⟩:=I1.base.there b o q (by rw[hex];simp);rw[n1] at q';cases q'
 rw[hxe];obtain⟨t0,hobj⟩:=(I.hok e _ he).1;have hB:∀b o,s.heap.get? b=some o->b≠e->b∉lN X.stack->(PySem.W.hideAll s.heap (e::lN X.stack)).get? b=some o:=λb o q1 q2 q3=>kC _ q1 (λz=>(aF.mp z).elim q2 q3);have Be:(PySem.W.hideAll s.heap (e::lN X.stack)).get? e=none:=gm _ ao;refine iQ (eW.leave (dO:=dO) (e:=e)) ⟨_,_,hobj,⟨rfl,rfl⟩,rfl⟩ ?_;refine wpAny_leaving_firstW (base:=PySem.W.hideAll s.heap (e::lN X.stack)) (outer:=X.outer) (L:=X.env.locals) (a0:=.ref t0) (by rw[I.ok.frames,hst]) (oK (hst▸I.stack) λb m=>gm _ (aO _ (hst▸m))) hfr hobj
  (λb o q=>ki _ q) Be rfl rfl rfl λh2 hL ct=>?_
 obtain⟨stay,⟨_,_,k2⟩,k3,up⟩:=hL;have out:∀b o,X.s₀.heap.get? b=some o->b∉X.fs->b∉lN X.stack:=λb o q1 q2 z=>by
  rw[hfs] at z;exact(aF.mp z).elim (aV (aT (aN q1) I.ok.above)) q2
 have slot:∀b o,s.heap.get? b=some o->b∈X.fs->∃sl,h2.get? b=some { o with slots:=sl }:=λb o q m=>by
  obtain⟨_,o',q2,nf⟩:=I.funs.mem m;rw[q] at q2;cases q2;obtain⟨sl,z⟩:=up b o q nf;exact⟨sl,z⟩
 have u:=I.base;rw[hex] at u;have net:∀b o,H b=some o->(∀φ,o≠.ext φ)->b≠e:=λb o q n z=>by subst z;rw[he] at q;cases q;exact n _ rfl
 refine⟨e,C,t0,AN H e,_,dO,rfl,I.os,I.bare,⟨λb o q1 q2 q3 q4=>?_,λb o q1 q2 q3 q4=>?_,λb o q1 q2 q3=>?_,λb o q1 q2=>?_,λb xs q=>?_,λb o v q=>?_,λb ps q=>?_⟩,λb o q1=>?_,⟨stay,Be,k2,k3⟩,⟨λb o q1 q2=>?_,λb o q1=>?_⟩,ct,hE⟩
 ·exact stay b o (hB b o (u.keep b o q1 q2 q3 q4) (ne0 b o q1) (out b o q1 q3))
 ·obtain⟨sl,q⟩:=u.slot b o q1 q2 q3 q4;exact(slot b _ q q3).imp λsl' z=>z
 ·rw[nG (ne0 b o q1)];exact u.free b o q1 q2 q3
 ·obtain⟨o',q⟩:=u.there b o q1 q2;by_cases m:b∈X.fs
  ·obtain⟨sl,q'⟩:=slot b o' q m;exact⟨_,q'⟩
  ·exact⟨o',stay b o' (hB b o' q (ne0 b o q1) (out b o q1 m))⟩
 ·have q':=u.tups b xs q;rw[nG (net b _ q' λφ z=>by cases z)];exact q'
 ·have q':=u.frzs b o v q;rw[nG (net b _ q' λφ z=>by cases z)];exact q'
 ·obtain⟨more,q'⟩:=u.tbls b ps q;exact⟨more,by rw[nG (net b _ q' λφ z=>by cases z)];exact q'⟩
 ·obtain⟨nb,q2⟩:=uz q1;refine(I.hok b o q2).stay (λc v hc q=>stay c v (hB c v q ?_ λz=>?_)) (λc q=>by rw[nG (net c _ q λφ z=>by cases z)];exact q) λc xs q=>by rw[nG (net c _ q λφ z=>by cases z)];exact q
  ·rcases hc with r | r
   ·rw[r];exact nb
   ·exact net c _ r λφ z=>by cases z
  ·have n:=I.stkFree c z;rcases hc with r | r
   ·rw[r,q2] at n;cases n
   ·rw[r] at n;cases n
 ·obtain⟨o',q⟩:=u.there b o q1 (by simp);exact⟨o',hB b o' q (ne0 b o q1) (out b o q1 q2)⟩
 ·obtain⟨nb,q2⟩:=uz q1;obtain⟨ob,q⟩:=(I.hok b o q2).ex;refine⟨ob,hB b ob q nb λz=>?_⟩;have n:=I.stkFree b z;rw[q2] at n;cases n
def Aw(C:Addr)(f:Str)(ok:V->Hp->Prop):Sp:=λvs H Q _=>∃e v,vs=[.ref e,v]/\ok v H/\H e=some (iZ none C e)/\∀dx,H dx=none->dx≠e->Q .non (bP (bP H dx (.xd [(f,v)])) e (iZ (some dx) C e))
def vP(C:Addr)(f:Str)(ok:V->Hp->Prop)(E:XK)(t:TA):TS:=λ_ σ H=>t σ H λvs H1=>∃v,vs=[v]/\ok v H1/\∀dx,H1 dx=none->E (.ref C) (some dx) (bP H1 dx (.xd [(f,v)]))
section
variable {X:Cx}
def bX.freshV{pins:List (Addr×Obj)}{σ:St}{H:Hp}{s:Shared}{a:Addr}{o:HO}{h':Heap}(I:bX X pins σ H s)(na:s.heap.get? a=none)(k:∀b u,s.heap.get? b=some u->h'.get? b=some u)(new:cw X.prog X.w (bP H a o) h' a o):H a=none/\bX X pins σ (bP H a o) { s with heap:=h' }:=by
 have hn:H a=none:=by
  cases z:H a with
  | none=>rfl
  | some o=>obtain⟨ob,q⟩:=(I.hok a o z).ex;rw[na] at q;cases q
 have inh:∀b o,s.heap.get? b=some o->b≠a:=λb o q z=>by subst z;rw[na] at q;cases q
 have trk:∀b o,H b=some o->b≠a:=λb o q z=>by subst z;rw[hn] at q;cases q
 refine⟨hn,I.un (t':=s.toks) ⟨λb o q n _ _=>k b o q,λb o q n _ _=>⟨o.slots,k b o q⟩,λb o q n _=>by rw[aS (inh b o q)];exact n,λb o q _=>⟨o,k b o q⟩,λb xs q=>by rw[aS (trk b _ q)];exact q,λb o v q=>by rw[aS (trk b _ q)];exact q,λb ps q=>⟨#[],by rw[aS (trk b _ q),q];simp⟩⟩ λb u q=>?_⟩;by_cases z:b=a
 ·subst z;rw[aD] at q;cases q;exact new
 ·rw[aS z] at q;exact(I.hok b u q).stay (λc v hc q'=>k c v q') (λc q'=>by rw[aS (trk c _ q')];exact q') λc xs q'=>by rw[aS (trk c _ q')];exact q'
def CU{x f:Str}{ok:V->Hp->Prop}{C fi:Addr}{fd:FuncData}{ps:List Str}{k:Nat}{bmB:List Value}{B newId initId:String}{E:XK}{e:Expr}{es:List Expr}{t:TA}{np cpos pos:Pos}(R:G5 X E)(O:rO x C fi bmB newId X.mg X.base)(F:ExcBaseFacts B newId initId bmB)
  (G:oW X.prog X.w X.K X.mg X.base yo k fi fd ps (Aw C f ok)) (hty:PySem.W.typeIn X.K (.ref fi)=some (.type "function")) (hkp:PySem.W.keepIn X.K (.ref C)=true) (hb:Binds X.K fd ps []) (hok:∀v H x o,H x=none->ok v H->ok v (bP H x o)) (hr:g0 (k+1) X.A) (hg:Gl X x) (ha:PA X (e::es) t)
  (hdb:(x==("__debug__":Str))=false:=by decide) (he:starEach (e::es) X.env=(false,eval e X.env)::starEach es X.env:=by rfl) (hpl:(backTo cpos (starEach es X.env)).any (·.1)=false:=by rfl) :
  PS X (.Raise (some (.Call (.Name x np) (e::es) [] cpos)) none pos) (vP C f ok E t):=by
 intro pins s σ H D I h;obtain⟨bm,N,nm,q,bs,hdct,sn,sub,ab,col,dd,k0,k1,k2,k3,k5,mN,hC,hN,hi,ot⟩:=O.obj;obtain⟨of,hof,hfn⟩:∃of,X.K.lookup fi=some of/\of.cls=.type "function":=by
  have hty':Option.map (λx=>x.cls) (List.lookup fi X.K)=some (.type "function"):=hty;obtain⟨of,h1,h2⟩:=nK.mp hty';exact⟨of,h1,h2⟩
 rw[arm_exec_Raise];refine wpAny_bind (WC (zQ (C:=C) (nm:=nm) (q:=q) (N:=N) (bs:=bs) (bm:=bm) (hdct:=hdct) (sn:=sn) (sub:=sub) (ab:=ab) (col:=col) (dd:=dd) (k0:=k0) (k1:=k1) (k2:=k2) (k3:=k3) (k5:=k5) (newId:=newId) (sL F.hasBase ot) hr.hd ?_));refine wpAny_bind (wpAny_mono (Q:=λv z=>∃e dO a0 sl,v=.ref e/\z.heap.get? C=some (excClassObj nm q C N bs bm hdct sn sub ab col dd k0 k1 k2 k3 k5 newId)/\z.heap.get? e=some ⟨.ref C,dO,.fields #[a0,.none,.none,.none,.bool false,.none],sl⟩/\X.xe (.ref e) z) ?_ (λv s3 h3=>wpAny_bind (WC (WE h3))) λ_ _ y=>y);refine WL (kJ I hg O.bound ?_ hdb);refine iX (h₀:=X.base) I.ok.mod.kin hkp (dJ (ha cpos pins s σ H _ I h) λus s1 ⟨vs,H1,I1,r,v,ev,okv,qE⟩=>⟨I1.kIn,?_⟩) he hpl;subst ev;obtain⟨h1,g1,d1,t1,os1⟩:=s1;have hlen:us.length<=sizeLine:=by rw[<-r.length];show 1<=sizeLine;rw[WH];lia
 refine GH F (md I1.bk ot) (I1.bk _ _ hC) (tN I1.bk hN) hi (I1.kIn _ _ hof) hfn hlen λhh x0 m=>?_;obtain⟨t0,m1,m2,m3⟩:=m.there;obtain⟨nx,I2⟩:=I1.freshV (o:=iZ none C x0) m.new m.keeps (v7 (t:=t0) m1);have r2:cH ([V.ref x0,v]++[]) ((Value.ref x0::us)++[]):=cH.append (.cons rfl r) .nil;have sp0:Aw C f ok ([V.ref x0,v]++[]) (bP H1 x0 (iZ none C x0)) (λy H3=>y=.non/\∃dx,H1 dx=none/\dx≠x0/\H3=bP (bP (bP H1 x0 (iZ none C x0)) dx (.xd [(f,v)])) x0 (iZ (some dx) C x0)) E0:=
  ⟨x0,v,rfl,hok _ _ _ _ nx okv,aD,λdx n1 n2=>⟨rfl,dx,by rw[aS n2] at n1;exact n1,n2,rfl⟩⟩
 have hl:((Value.ref x0::us)++[]).length=ps.length:=by rw[<-r2.length];exact G.len _ _ _ _ sp0
 refine WJ (WK (G.run _ X.stack _ _ ⟨Value.ref x0::us,[]⟩ ((Value.ref x0::us)++[]) ([V.ref x0,v]++[]) _ E0 (hr.make C us []) (I2.env0.make C us []) (hb _ (Value.ref x0::us) I2.kIn hl) r2 sp0) λrs s' hq=>?_);cases rs with
 | error ev=>exact False.elim hq
 | ok fl=>
  cases fl with
  | ret u=>
   obtain⟨y,H3,I3,ry,rfl,dx,n1,n2,rfl⟩:=I2.after hq;obtain⟨t3,o3⟩:=(I3.hok x0 _ aD).1;refine⟨ry,x0,some dx,.ref t3,#[],rfl,I3.bk _ _ hC,o3,R pins σ H1 _ _ _ x0 C (some dx) I1 m.new I3 aD ?_⟩;have e:AN (bP (bP (bP H1 x0 (iZ none C x0)) dx (.xd [(f,v)])) x0 (iZ (some dx) C x0)) x0=bP H1 dx (.xd [(f,v)]):=by
    funext b;by_cases z:b=x0
    ·subst z;unfold AN;rw[W5 rfl,aS (bc n2),nx]
    ·rw[nG z,aS z];by_cases z2:b=dx
     ·subst z2;rw[aD,aD]
     ·rw[aS z2,aS z2,aS z]
   rw[e];exact qE dx n1
  | next=>exact False.elim hq
  | brk=>exact False.elim hq
  | cont=>exact False.elim hq
end
def GG{prog:Program}{w:World}{A:Around}{E:Value->Shared->Prop}{s:Shared}{K:Wb}{a C N:Addr}{o od:Obj}{bs bm bmB:List Value}{nm q:Str}{hdct:Bool}{sn:List Str}{sub:List Value}{ab:Bool}{col:Option Bool}{dd:Option Addr}{k0 k1 k2 k3 k5:Option Value}{B newId:String}{name:Str}{expr:Bool}{v:Value}{Q:Value->Shared->Prop}
  (X:K.In s.heap) (I:PySem.W.InstAt s.heap a o C (some od)) (hga:PySem.W.findIn K (.ref C) "__getattribute__"=some (some (.builtin "BaseException.__getattribute__"))) (hgt:PySem.W.findIn K (.ref C) "__getattr__"=some none)
  (hf:PySem.W.findObj K C (some od) name=some (.value v)) (FB:ExcAttrBase B bmB) (hC:s.heap.get? C=some (excClassObj nm q C N bs bm hdct sn sub ab col dd k0 k1 k2 k3 k5 newId)) (T:OwnTailQ s.heap bmB bm) (hh:PySem.W.handedIn v=true) (hq:Q v { s with toks:=s.toks+1 }) :
  wpAny (model prog w) A (getAttr (.ref a) name expr) Q E s:=by
 obtain⟨h,g,d,t,os⟩:=s;unfold getAttr getAttrBy;refine wpAny_bind (wpAny_mkText (WB (wpAny_bind (bi (cz I) (wpAny_bind (bi (dL X hga) ?_))))));refine WU (by rfl) ?_;unfold getAttrByItsOwn hookBefore;refine wpAny_bind (wpAny_ite_true (by rfl) (bi (dL X hgt) (wpAny_bind (WR (WB ?_)))));unfold callGetattribute boundAndCalled;refine WU (by cases expr<;>rfl) (wpAny_bind (wpAny_of_eq (FB.ga.bind (Value.ref a)) (WJ (WV FB.ga.plain nS (WW FB hC T I.at_ I.cls ?_)))));unfold Builtin.«object.__getattribute__»;refine wpAny_bind ?_;unfold slotArgs;refine WU (by rfl) (WU (by rfl) (WE ?_));show wpAny _ _ (Bind.bind (Builtin.ObjectAttr.attrName (Value.str name _)) _) _ _ _;refine wpAny_bind ?_;unfold Builtin.ObjectAttr.attrName;refine WE ?_;refine wpAny_bind (bi (cz I) (wpAny_bind (bi (kj X I hf) ?_)));refine WE ?_;refine lO hh ?_;exact hq
structure DK (K:Wb) (C:Addr) (f:Str):Prop where
 ga:PySem.W.findIn K (.ref C) "__getattribute__"=some (some (.builtin "BaseException.__getattribute__"))
 gt:PySem.W.findIn K (.ref C) "__getattr__"=some none
 no:PySem.W.findIn K (.ref C) f=some none
 hd:PySem.W.hasDictIn K C=true
 own:∃ B bmB,ExcAttrBase B bmB/\∀ h:Heap,K.In h->∃ nm q N bs bm hdct sn sub ab col dd k0 k1 k2 k3 k5 newId,h.get? C=some (excClassObj nm q C N bs bm hdct sn sub ab col dd k0 k1 k2 k3 k5 newId)/\OwnTailQ h bmB bm
def EC(K:Wb)(f:Str)(ta:TE):TE:=λσ H Q=>ta σ H λx H1=>∃a C dx v,x=.ref a/\H1 a=some (lG (some dx) C a)/\H1 dx=some (.xd [(f,v)])/\DK K C f/\Q v H1
section
variable {X:Cx}
def Hs{e:Expr}{f:Str}{ta:TE}{pos:Pos}(he:PE X e ta)(hb:attributeBase e f X.env (eval e X.env)=eval e X.env):PE X (.Attribute e f pos) (EC X.K f ta):=by
 intro pins s σ H Q I h;refine JB hb (dJ (he pins s σ H _ I h) λu s1 ⟨x,H1,I1,rx,a,C,dx,v,ex,ea,ed,k,q⟩=>?_);subst ex;obtain rfl:u=Value.ref a:=rx;obtain⟨⟨⟨o,o1,o2⟩,o',vs,o3,⟨o4,o5⟩,o6⟩,_⟩:=I1.hok a _ ea;rw[o1] at o3;cases o3;obtain⟨mA,n1,rl⟩:=I1.hok dx _ ed;obtain⟨od,d1,d2⟩:=rG n1;obtain⟨u',hu,ru⟩:=rf.some_of (v:=v) (o:=mA f) (by have:=rl f;simp only[List.lookup,beq_self_eq_true] at this;exact this);obtain⟨B,bmB,FB,ow⟩:=k.own;obtain⟨nm,q0,N,bs,bm,hdct,sn,sub,ab,col,dd,k0,k1,k2,k3,k5,newId,hC,T⟩:=ow s1.heap I1.kIn;have J:PySem.W.InstAt s1.heap a o C (some od):=⟨o1,o2,by unfold PySem.W.notCls;rw[o5],by rw[o4];exact d1⟩
 exact GG I1.kIn J k.ga k.gt (PySem.W.findObj_own k.hd k.no rfl (by rw[d2,hu])) FB hC T (Cm ru) ⟨v,H1,I1.tok _,ru,q⟩
end
def LY{K:Wb}{h:Heap}{N:Addr}{m:Str->Option Value}{x:Str}{v:Value}(KX:K.In h)(G:h.Ns N m)(q:PySem.W.nsIn K N x=some (some v)):m x=some v:=by
 obtain⟨o,es,ep,ho,hd,hk,hf⟩:=G;unfold PySem.W.nsIn at q
 revert q
 split
 ·rename_i c d es' n' sl lk;have e1:=KX _ _ lk;rw[ho] at e1;cases e1;cases hd;intro q
  split at q
  ·rename_i en fe;cases q;rw[<-hf];unfold nsFind findBy;rw[<-Array.find?_toList,fe];rfl
  ·split at q<;>cases q
 ·intro q;cases q
def AK{K:Wb}{C R N NR fi:Addr}{nm q x f:Str}{bs bmB:List Value}{sn:List Str}{sub:List Value}{ab:Bool}{col:Option Bool}{dd dR:Option Addr}{k0 k1 k2 k3 k5:Option Value}{newId B:String}{cR:Value}{cdR:ClassData}{slR:Array (Option Value)}{mg:Str->Option Value}{base:Heap}
  (KX:K.In base) (G:base.Ns mainGlobals mg) (e0:PySem.W.nsIn K mainGlobals x=some (some (.ref C))) (lkC:K.lookup C=some (excClassObj nm q C N bs (.ref R::bmB) true sn sub ab col dd k0 k1 k2 k3 k5 newId)) (lkR:K.lookup R=some ⟨cR,dR,.cls cdR,slR⟩)
  (nC:PySem.W.nsOkIn K N=true) (iC:PySem.W.nsIn K N "__init__"=some (some (.ref fi))) (eR:cdR.ns=NR) (nR:PySem.W.nsOkIn K NR=true) (r1:PySem.W.nsIn K NR "__init__"=some none) (r2:PySem.W.nsIn K NR "__getattribute__"=some none) (r3:PySem.W.nsIn K NR "__getattr__"=some none) (r4:PySem.W.nsIn K NR "args"=some none)
  (FB:ExcAttrBase B bmB) (ga:PySem.W.findIn K (.ref C) "__getattribute__"=some (some (.builtin "BaseException.__getattribute__"))) (gt:PySem.W.findIn K (.ref C) "__getattr__"=some none) (sa:PySem.W.findIn K (.ref C) "__setattr__"=some (some (.builtin "object.__setattr__"))) (no:PySem.W.findIn K (.ref C) f=some none)
  (hob:(Value.ref C::.ref R::bmB).contains (.type "object")=true) (pass:∀self,refuseLoop self "__setattr__" bmB=pure ()):rO x C fi bmB newId mg base/\DK K C f/\JK K C f:=by
 subst eR;have hcl:∃cd,PySem.W.clsIn K C=some cd/\cd.hasDict=true/\cd.mro=.ref C::.ref R::bmB:=by
  unfold PySem.W.clsIn;rw[lkC];exact⟨_,rfl,rfl,rfl⟩
 obtain⟨cd,c1,c2,c3⟩:=hcl;refine⟨⟨cK KX G e0,?_⟩,⟨ga,gt,no,?_,B,bmB,FB,λh X=>?_⟩,⟨sa,⟨cd,c1,c2,by rw[c3];exact hob,λself=>by rw[c3,refuseLoop_ref,refuseLoop_ref];exact pass self⟩,no⟩⟩
 ·exact⟨_,N,nm,q,bs,true,sn,sub,ab,col,dd,k0,k1,k2,k3,k5,_,KX _ _ lkC,fG (dg KX nC),LY KX (fG (dg KX nC)) iC,.own (KX _ _ lkR) (fG (dg KX nR)) (bY KX nR r1) .base⟩
 ·unfold PySem.W.hasDictIn;rw[c1];exact c2
 ·exact⟨nm,q,N,bs,_,true,sn,sub,ab,col,dd,k0,k1,k2,k3,k5,newId,X _ _ lkC,.own (X _ _ lkR) (fG (dg X nR))
   (Eg (bY X nR r1) (bY X nR r2) (bY X nR r3) (bY X nR r4)) .base⟩
def Of:Stmt->Stmt
 | .ClassDef _ _ _ (b::r) _ _ _ _ _ _ _=>b
 | st=>st
structure Om (K:Wb) (R:Addr) (initId:String):Prop where
 rd:PySem.W.readsIn K R (.type "type")=true
 sg:PySem.W.specialIn K (.ref R) "__getattribute__"=some (some (.builtin "type.__getattribute__"))
 fc:PySem.W.findCls K (.ref R) (.type "type") "__init__"=some (.val (.builtin initId))
 hh:PySem.W.handedIn (.builtin initId)=true
def Ck:PySem.W.handedIn (.builtin "ValueError.__init__")=true:=by decide +kernel
structure MG (P:Program) (w:World) (K:Wb) (mg:Str->Option Value) (base:Heap) (k:Nat) (x:Str) (C:Addr) (f:Str) (ok:V->Hp->Prop):Prop where
 ex:∃ fi fd ps bmB newId B initId,rO x C fi bmB newId mg base/\ExcBaseFacts B newId initId bmB/\oW P w K mg base yo k fi fd ps (Aw C f ok)/\PySem.W.typeIn K (.ref fi)=some (.type "function")/\PySem.W.keepIn K (.ref C)=true/\Binds K fd ps []/\∀ (v:V) (H:Hp) (x:Addr) (o:HO),H x=none->ok v H->ok v (bP H x o)
section
variable {X:Cx}
def CO{xR x:Str}{R C fi:Addr}{bmB:List Value}{B newId initId:String}{e:Expr}{es:List Expr}{t:TA}{p apos pos:Pos}{pl:Sem Bool}(F:ExcBaseFacts B newId initId bmB)(O:rO x C fi bmB newId X.mg X.base)(hmR:X.mg xR=some (.ref R))(u:Om X.K R initId)(hgR:Gl X xR)(ha:QA X (e::es) t)
  (hdb:(xR==("__debug__":Str))=false:=by decide) (hst:starEach (e::es) X.env=(false,eval e X.env)::starEach es X.env:=by rfl) (hpl:(backTo pos (starEach es X.env)).any (·.1)=false:=by rfl)
  (ht:eval (.Call (.Attribute (.Name xR p) "__init__" apos) (e::es) [] pos) X.env=(do
   let ov <-eval (.Name xR p) X.env
   standAt apos.atName
   let (f,fst) <-holding [ov] (getMethod ov "__init__" pl)
   callWith pos f fst (backTo pos (starEach (e::es) X.env)) (backToKw pos (keywordEach [] X.env))):=by rfl) :
  QE X (.Call (.Attribute (.Name xR p) "__init__" apos) (e::es) [] pos) (yx C t):=⟨FC F O hgR hmR u.rd u.sg u.fc u.hh ha.h hdb hst hpl ht⟩
def Eh{o value:Expr}{f:Str}{C:Addr}{pos pos':Pos}{ta tv:TE}(k:JK X.K C f)(ha:QE X o ta)(hv:QE X value tv)(hs:swapsWith value (some (.Attribute o f pos')) pos.line X.env=pure false:=by rfl):QS X (.Assign [.Attribute o f pos'] value pos) (E9 C f ta tv):=⟨He k ha.h hv.h hs⟩
def zU{k:Nat}{x f:Str}{ok:V->Hp->Prop}{C:Addr}{E:XK}{e:Expr}{es:List Expr}{t:TA}{np cpos pos:Pos}(R:G5 X E)(D:MG X.prog X.w X.K X.mg X.base k x C f ok)(hr:g0 (k+1) X.A)(hg:Gl X x)(ha:QA X (e::es) t)
  (hdb:(x==("__debug__":Str))=false:=by decide) (he:starEach (e::es) X.env=(false,eval e X.env)::starEach es X.env:=by rfl) (hpl:(backTo cpos (starEach es X.env)).any (·.1)=false:=by rfl) :
  QS X (.Raise (some (.Call (.Name x np) (e::es) [] cpos)) none pos) (vP C f ok E t):=by
 obtain⟨fi,fd,ps,bmB,newId,B,initId,O,F,G,ty,kp,b,hok⟩:=D.ex;exact⟨CU R O F G ty kp b hok hr hg ha.h hdb he hpl⟩
def Ek{e:Expr}{f:Str}{ta:TE}{pos:Pos}(he:QE X e ta)(hb:attributeBase e f X.env (eval e X.env)=eval e X.env:=by rfl):QE X (.Attribute e f pos) (EC X.K f ta):=⟨Hs he.h hb⟩
end
section
variable {σ:St} {H:Hp} {Q:VK} {D:Ends}
def Gk{C:Addr}{t:TA}:yx C t σ H Q=t σ H λvs H1=>∃e v,vs=[.ref e,v]/\H1 e=some (iZ none C e)/\Q .non H1:=rfl
def Jn{C:Addr}{f:Str}{ta tv:TE}:E9 C f ta tv D σ H=tv σ H λy H1=>ta σ H1 λx H2=>∃e,x=.ref e/\H2 e=some (iZ none C e)/\∀dx,H2 dx=none->dx≠e->D.nx σ (bP (bP H2 dx (.xd [(f,y)])) e (iZ (some dx) C e)):=rfl
def DZ{C:Addr}{f:Str}{ok:V->Hp->Prop}{E:XK}{t:TA}:vP C f ok E t D σ H=t σ H λvs H1=>∃v,vs=[v]/\ok v H1/\∀dx,H1 dx=none->E (.ref C) (some dx) (bP H1 dx (.xd [(f,v)])):=rfl
def Jt{K:Wb}{f:Str}{ta:TE}:EC K f ta σ H Q=ta σ H λx H1=>∃a C dx v,x=.ref a/\H1 a=some (lG (some dx) C a)/\H1 dx=some (.xd [(f,v)])/\DK K C f/\Q v H1:=rfl
end
def FO{P:Program}{w:World}{K:Wb}{mg:Str->Option Value}{base:Heap}{N:List Str}{qual:Str}{scope:Scope}{f:Addr}{cd:Value}{A:Around}{outer:List Env}{s0:Shared}{H0:Hp}{E:XK}:
  uI (qv P w) (jq (qv P w) P w K mg base N qual scope f cd A outer s0 H0 E) E:=by
 intro pins σ H s e s' I hc;generalize hX:jq (qv P w) P w K mg base N qual scope f cd A outer s0 H0 E=X at I hc ⊢;have hst:X.stack=X.env::X.outer:=by rw[<-hX];rfl
 have hfr:X.env.frame=some X.env.locals:=by rw[<-hX];rfl
 have hxe:X.xe=λe s'=>wpAny (model X.prog X.w) X.A (leaving X.env e) (λ_ s''=>qv X.prog X.w X.outer X.H₀ X.s₀ E e s'') (λe' s''=>qv X.prog X.w X.outer X.H₀ X.s₀ E e' s'') s':=by rw[<-hX];rfl
 have hex:X.ex=[]:=by rw[<-hX];rfl
 have hP:X.prog=P:=by rw[<-hX];rfl
 have hw:X.w=w:=by rw[<-hX];rfl
 have hfs:lN X.stack=X.env.locals::X.fs:=by rw[hst];unfold lN;rw[dC,hfr];rfl
 clear hX;subst hP hw;rw[hxe];obtain⟨a,C,t,H',B,dO,rfl,os,bare,un,hok,f1,cov,ct,hE⟩:=hc;refine iQ (eW.leave (e:=a)) ct ?_;refine wpAny_leaves_onW (base:=B) (outer:=X.outer) (L:=X.env.locals) (by rw[I.ok.frames,hst]) hfr (hst▸f1) λh2 f4 up ct2=>?_;have lt0:∀b o,X.s₀.heap.get? b=some o->b≠X.env.locals:=λb o e1=>aV (aT (aN e1) I.ok.above);have out:∀b o,X.s₀.heap.get? b=some o->b∉X.fs->b∉lN X.stack:=λb o e1 e2 z=>by
  rw[hfs] at z;exact(aF.mp z).elim (lt0 b o e1) e2
 have mem:∀b,b∈X.fs->b∈lN X.stack:=λb m=>by rw[hfs];exact aO _ m
 have same:∀b o ob,B.get? b=some ob->s'.heap.get? b=some o->h2.get? b=some o:=λb o ob e e1=>by
  have e2:=f1.1 b ob e;rw[e1] at e2;cases e2;exact f4.1 b o e
 have fr:∀b o,s'.heap.get? b=some o->b∈lN X.stack->∃sl,h2.get? b=some { o with slots:=sl }:=λb o e m=>by
  obtain⟨_,o1,e1,nf⟩:=f1.2.2.1.mem m;rw[e] at e1;cases e1;exact up b o e nf
 have u:=I.base;rw[hex] at u;refine⟨a,C,t,H',B,dO,rfl,os.trans I.os,bare,⟨λb o e1 e2 e3 e4=>?_,λb o e1 e2 e3 e4=>?_,λb o e1 e2 e4=>?_,λb o e1 e2=>?_,λb xs e1=>?_,λb o v e1=>?_,λb ps e1=>?_⟩,λb o e1=>?_,f4,⟨λb o e1 e2=>?_,cov.trk⟩,ct2,hE⟩
 ·have k1:=u.keep b o e1 e2 e3 e4;have n1:=out b o e1 e3;have k2:=un.keep b o k1 (u.free b o e1 e2 e4) n1 (by simp);obtain⟨ob,q⟩:=cov.old b o k1 n1;exact same b o ob q k2
 ·obtain⟨sl,q⟩:=u.slot b o e1 e2 e3 e4;obtain⟨sl1,q1⟩:=un.slot b _ q (u.free b o e1 e2 e4) (mem b e3) (by simp);obtain⟨sl2,q2⟩:=fr b _ q1 (mem b e3);exact⟨sl2,q2⟩
 ·obtain⟨o',q⟩:=u.there b o e1 e4;exact un.free b o' q (u.free b o e1 e2 e4) (by simp)
 ·obtain⟨o',q⟩:=u.there b o e1 e2;obtain⟨o2,q2⟩:=un.there b o' q (by simp);by_cases m:b∈lN X.stack
  ·obtain⟨sl,q'⟩:=fr b o2 q2 m;exact⟨_,q'⟩
  ·obtain⟨ob,q'⟩:=cov.old b o' q m;exact⟨_,f4.1 b ob q'⟩
 ·exact un.tups b xs (u.tups b xs e1)
 ·exact un.frzs b o v (u.frzs b o v e1)
 ·obtain⟨m1,q1⟩:=u.tbls b ps e1;obtain⟨m2,q2⟩:=un.tbls b _ q1;exact⟨m1++m2,by rw[q2,Array.append_assoc]⟩
 ·refine(hok b o e1).stay (λc v hc q=>?_) (λ_ q=>q) λ_ _ q=>q;obtain⟨ob,q'⟩:∃ob,B.get? c=some ob:=by
   rcases hc with r | r
   ·rw[r];exact cov.trk b o e1
   ·exact cov.trk c _ r
  exact same c v ob q' q
 ·obtain⟨o',q⟩:=u.there b o e1 (by simp);exact cov.old b o' q (out b o e1 e2)
section
variable {P:Program} {w:World} {K:Wb} {mg:Str->Option Value} {base:Heap} {N:List Str} {qual:Str} {scope:Scope} {f:Addr} {cd:Value} {A:Around} {outer:List Env} {s0:Shared} {H0:Hp} {E:XK}
def mj{k:Nat}{x:Str}{st:Stmt}{ps:List Str}{sp:Sp}{e:Expr}{es:List Expr}{t:TA}{p pos:Pos}(D:lm P w K mg base k x st ps sp)(hr:g0 k (jq (qv P w) P w K mg base N qual scope f cd A outer s0 H0 E).A)(hg:Gl (jq (qv P w) P w K mg base N qual scope f cd A outer s0 H0 E) x)
  (ha:QA (jq (qv P w) P w K mg base N qual scope f cd A outer s0 H0 E) (e::es) t) (hdb:(x==("__debug__":Str))=false:=by decide)
  (he:starEach (e::es) (jq (qv P w) P w K mg base N qual scope f cd A outer s0 H0 E).env=(false,eval e (jq (qv P w) P w K mg base N qual scope f cd A outer s0 H0 E).env)::starEach es (jq (qv P w) P w K mg base N qual scope f cd A outer s0 H0 E).env:=by rfl)
  (hpl:(backTo pos (starEach es (jq (qv P w) P w K mg base N qual scope f cd A outer s0 H0 E).env)).any (·.1)=false:=by rfl) :
  QE (jq (qv P w) P w K mg base N qual scope f cd A outer s0 H0 E) (.Call (.Name x p) (e::es) [] pos) (pM sp [] E t):=by
 obtain⟨g,fd,F,m,b,G⟩:=D.ex;exact⟨vi (X:=jq (qv P w) P w K mg base N qual scope f cd A outer s0 H0 E) G hr hg m F.kp b .nil FO ha.h hdb he hpl⟩
end
end L2
namespace Rm
open PySem L2
structure View where
 φ:Hp->Hp
 ok:Hp->Prop
 new:∀ {H t o},ok H->H t=none->ok (bP H t o)/\aP (φ H) (φ (bP H t o))/\φ (bP H t o) t=some o
def View.all:View:=⟨id,λ_=>True,λ_ h=>⟨trivial,(aP.refl _).new h,aD⟩⟩
def View.but(m:Addr):View:=⟨λH=>wo H m,λH=>∃o,H m=some o,fun {H t o} ⟨u,hu⟩ h=>⟨⟨u,by rw[aS (bD hu h)];exact hu⟩,yp h,JL (bD hu h).symm aD⟩⟩
structure DE (w:View) (σ:St) (H0:Hp) (te:TE) (d:PyData):Prop where
 run:∀ (H:Hp) (Q:VK),w.ok H->aP H0 H->aP (w.φ H0) (w.φ H)->(∀ x H',w.ok H'->aP H H'->aP (w.φ H) (w.φ H')->Dat (w.φ H') x d->Q x H')->te σ H Q
structure DA (w:View) (σ:St) (H0:Hp) (ta:TA) (ds:List PyData):Prop where
 run:∀ (H:Hp) (Q:List V->Hp->Prop),w.ok H->aP H0 H->aP (w.φ H0) (w.φ H)->(∀ xs H',w.ok H'->aP H H'->aP (w.φ H) (w.φ H')->gI (w.φ H') xs ds->Q xs H')->ta σ H Q
def qj{H:Hp}{xs:List V}{ds:List PyData}{i:Int}(h:gI H xs ds)(h0:0<=i)(h1:i<ds.length):∃v d,vI xs i=some v/\d∈ds/\Dat H v d:=by
 have hi:i.toNat<xs.length:=by rw[h.len];lia
 obtain⟨d,hd,hv⟩:=h.get (aW hi);refine⟨_,d,?_,bM hd,hv⟩;have:=kL (xs:=xs) (j:=i.toNat) (aW hi)
 rwa [Int.toNat_of_nonneg h0] at this
abbrev wY (cs:List Nat):Prop:=∀c∈cs,jo c
def MO(b:Bool):Nat:=if b then 114 else 108
def bL(b:Bool):List Int:=if b then [] else [0]
def bR(b:Bool):List Int:=if b then [0] else []
def rz(b:Bool):kZ (MO b)=(bL b,bR b):=by cases b<;>rfl
def Nw(b:Bool):sd b=⟨#[MO b]⟩:=by cases b<;>decide +kernel
def se{b:Bool}{cs:List Nat}(hl:wY cs)(h:gZ (bL b) (bR b) cs 0=none):∀i,i<=cs.length->∃L R,Run b cs i L R/\gZ L R (cs.drop i) i=none
 | 0,_=>⟨_,_,Run.zero b cs,by rw[gn];exact h⟩
 | i+1,hi=>by
  obtain⟨L,R,r,e⟩:=se hl h i (by lia);have hc:cs[i]? = some cs[i]:=aW (by lia);have lt:=hl _ (bM hc);rw[aj (by lia:i<cs.length)] at e;cases g:cZ L R cs[i] with
  | none=>rw[mh g] at e;cases e
  | some p=>
   obtain⟨L',R'⟩:=p;rw[lK g] at e;exact⟨L',R',r.step hc lt g,e⟩
def HH{b:Bool}{cs:List Nat}(hl:wY cs)(h:gZ (bL b) (bR b) cs 0=none):∃L R,Run b cs cs.length L R/\L.length+R.length=1:=by
 obtain⟨L,R,r,e⟩:=se hl h cs.length (aI _);rw[jX] at e;refine⟨L,R,r,?_⟩;unfold gZ at e
 split at e
 ·assumption
 ·cases e
def EO{b:Bool}{cs:List Nat}(hl:wY cs)(h:gZ (bL b) (bR b) cs 0=none)(k:Bool)(i:Nat)(hi:i<cs.length)(hk:isIn k (cs.getD i 0)=false):(stN k b cs i).1≠[]:=by
 obtain⟨L,R,r,e⟩:=se hl h i (by lia);have hc:cs[i]? = some cs[i]:=aW (by lia);have lt:=hl _ (bM hc);rw[aj (by lia:i<cs.length)] at e;have eg:cs.getD i 0=cs[i]:=by rw[cP,hc];rfl
 rw[eg] at hk;cases g:cZ L R cs[i] with
 | none=>rw[mh g] at e;cases e
 | some p=>
  obtain⟨L',R'⟩:=p;obtain⟨n1,n2,_,_⟩:=tZ lt g;cases k
  ·exact dB.mp (by rw[r.ll];exact dB.mpr (n1 hk))
  ·exact dB.mp (by rw[r.rl];exact dB.mpr (n2 hk))
def HM{b:Bool}{cs:List Nat}(hl:wY cs)(h:gZ (bL b) (bR b) cs 0=none):Ji cs.length b (fin2 b cs):=by
 obtain⟨L,R,r,_⟩:=HH hl h;exact L6 λk=>by cases k;exact r.li;exact r.ri
structure nY (kvs:List (Key×V)) (n:Nat) (m:Nat->Option Nat):Prop where
 get:∀ r,r<=n->i9 kvs (.inl (r:Int):Key)=(m r).map fun x=>V.int (x:Nat)
 len:kvs.length<=100
def nY.nil{n:Nat}:nY [] n (λ_=>none):=⟨λ_ _=>rfl,by decide⟩
def ordF(f:Bool->Nat->Option Nat)(b:Bool)(n:Nat):List Int:=(List.range n).map λi=>((pth f b (i+1)).1:Int)
def A1(H:Hp)(a:Addr)(b:Bool)(cs:List Nat):Prop:=∃o T,H a=some (.tup [.str (sd b),.ref o])/\1<=T/\T<=2*cs.length+4/\Gd cs.length b (fin2 b cs) T/\(pth (fin2 b cs) b T).1=cs.length+1/\H o=some (.tup ((ordF (fin2 b cs) b (T - 1)).map V.int))
def Ao:Sp:=λvs H Q _=>∃(k b:Bool) (cs:List Nat),vs=[.str (tx cs),.str (tx [97,if k then 99 else 98]),.bl (decide (k=b))]/\wY cs/\cs.length<=20/\(∀i,i<cs.length->isIn k (cs.getD i 0)=false->(stN k b cs i).1≠[]) ∧
 ∀d kvs H',aP H H'->H d=none->H' d=some (.dK kvs)->nY kvs cs.length (fin2 b cs k)->Q (.ref d) H'
def nY.put{kvs:List (Key×V)}{n a b:Nat}{m:Nat->Option Nat}(h:nY kvs n m)(hl:kvs.length<100):nY (putK kvs (.inl (a:Int):Key) (.int (b:Nat))) n (λx=>if x=a then some b else m x):=by
 refine⟨λr hr=>?_,by have:=fI kvs (.inl (a:Int):Key) (.int (b:Nat));lia⟩;rw[sI];by_cases e:r=a
 ·subst e;rw[W5 rfl,W5 rfl];rfl
 ·have ne:¬((.inl (r:Int):Key)=.inl (a:Int)):=λz=>e (by have:=Sum.inl.inj z;lia);rw[W4 ne,W4 e];exact h.get r hr
def nY.congr{kvs:List (Key×V)}{n:Nat}{m m':Nat->Option Nat}(h:nY kvs n m)(e:∀x,x<=n->m x=m' x):nY kvs n m':=⟨λr hr=>by rw[h.get r hr,e r hr],h.len⟩
def IR{m:Nat->Option Nat}{a o:Nat}(h:o≠a):(λx=>if x=o then some a else (λx=>if x=a then some o else m x) x)=nW m a o:=by
 funext x;unfold nW;by_cases e:x=a
 ·subst e;simp[bc h]
 ·simp[e]
def Cq(n:Nat)(W:List Nat)(m:Nat->Option Nat)(j:Nat):Nat->Option Nat:=λx=>if x∈W.take j then some (n+1) else m x
def Cp{n o j:Nat}{W:List Nat}{m:Nat->Option Nat}(h:W[j]? = some o):(λx=>if x=o then some (n+1) else Cq n W m j x)=Cq n W m (j+1):=by
 funext x;unfold Cq;rw[cT,h];by_cases e:x=o
 ·subst e;simp
 ·simp[e]
def vT(k b:Bool)(cs:List Nat):∀i,(stN k b cs i).1.length<=i+1
 | 0=>by unfold stN An;dsimp only;split<;>simp
 | i+1=>by
  have:=vT k b cs i;show (uK k _ _ _).1.length<=_;rw[vS]
  split<;>lia
def En{f:Bool->Nat->Option Nat}{b:Bool}(i:Nat):(pth f b (i+1)).2=!(pth f b i).2:=rfl
def C4{f:Bool->Nat->Option Nat}{b:Bool}(i:Nat):ordF f b (i+1)=ordF f b i++[((pth f b (i+1)).1:Int)]:=by unfold ordF;rw[gA,aR];rfl
def FR{f:Bool->Nat->Option Nat}{b:Bool}(i:Nat):(ordF f b i).length=i:=by simp[ordF]
def Ly{n:Nat}{b:Bool}{f:Bool->Nat->Option Nat}{T T':Nat}(V:Gd n b f T)(e:(pth f b T).1=n+1)(V':Gd n b f T')(e':(pth f b T').1=n+1):T=T':=by
 rcases lP T T' with h | h | h
 ·have:=V'.le T h;lia
 ·exact h
 ·have:=V.le T' h;lia
def ug:Sp:=λvs H Q _=>∃(a:Addr) (L R:List Int),vs=[.ref a]/\gV H a L R/\EE L R/\1<L.length+R.length/\L.length+R.length<=100/\∀best H',aP H H'->G6 (L++R.reverse) L.length best->Q (.str ⟨#[DC L.length best]⟩) H'
def Gb(L:List Int)(p i:Nat)(v:V):Prop:=(v=.non/\∀k,k<i->¬tu L k)\/∃best:Nat,v=.int best/\tu L best/\∀k,k<i->tu L k->((best:Int)-p).natAbs<=((k:Int)-p).natAbs
def GT{tc:TT}{σ:L2.St}{H:Hp}{C0:Bool->Hp->Prop}(P:Bool->Hp->Prop)(h:∀C:Bool->Hp->Prop,(∀k H',P k H'->C k H')->tc σ H C)(hk:∀k H',P k H'->C0 k H'):tc σ H C0:=h C0 hk
def Fh{cs:List Nat}{c:Nat}(h:wY cs)(hc:jo c):wY (cs++[c]):=λx hx=>by
 rcases aQ.mp hx with h1 | h1
 ·exact h x h1
 ·simp at h1;subst h1;exact hc
def JE (r:Int):∃c:Nat,vI (Str.ofString "abcd").cps.toList (r % 4)=some c/\jo c:=by
 have h:r % 4=0\/r % 4=1\/r % 4=2\/r % 4=3:=by lia
 rcases h with e | e | e | e<;>rw[e]
 ·exact⟨97,by decide +kernel,.inl rfl⟩
 ·exact⟨98,by decide +kernel,.inr (.inl rfl)⟩
 ·exact⟨99,by decide +kernel,.inr (.inr (.inl rfl))⟩
 ·exact⟨100,by decide +kernel,.inr (.inr (.inr rfl))⟩
def GX(p best:Nat):jo (DC p best):=by
 unfold DC
 split
 ·exact .inr (.inr (.inr rfl))
 ·split
  ·exact .inr (.inr (.inl rfl))
  ·exact .inr (.inl rfl)
abbrev Oe:=Int×Int
def chain:Bool->List Int->Bool->List Bw
 | s,a::b::rest,t=>(if (!s)=t then [(min a b,max a b)] else [])++chain (!s) (b::rest) t
 | _,_,_=>[]
def f7(s:Bool)(R:List Int):Bool:=s ^^ odd R.length
def B8(R:List Int):Int:=R.head?.getD 0
def ltZ(R:List Int):Int:=R.getLast?.getD 0
def tT(s:Bool)(a:Int)(R:List Int):f7 s (a::R)=f7 (!s) R:=by
 unfold f7;rw[cJ,mF];cases s<;>cases odd R.length<;>rfl
def zz(s:Bool)(R:List Int)(r:Int):f7 s (R++[r])=!f7 s R:=by
 unfold f7;rw[bH,gU,mF];cases s<;>cases odd R.length<;>rfl
def Fi(R:List Int)(r:Int):ltZ (R++[r])=r:=by simp[ltZ]
def Fj(a b:Int)(R:List Int):ltZ (a::b::R)=ltZ (b::R):=by simp[ltZ]
def B6(R:List Int):B8 R.reverse=ltZ R:=by simp[B8,ltZ]
def wF(R:List Int):ltZ R.reverse=B8 R:=by simp[B8,ltZ]
def B7{R S:List Int}(h:R≠[]):B8 (R++S)=B8 R:=by cases R with | nil=>exact absurd rfl h | cons a R=>rfl
def BV{R S:List Int}(h:S≠[]):ltZ (R++S)=ltZ S:=by
 unfold ltZ;rw[List.getLast?_append];cases e:S.getLast? with
 | none=>exact absurd (List.getLast?_eq_none_iff.mp e) h
 | some x=>rfl
def qG:∀{R:List Int} (s:Bool) (r:Int) (S:List Int) (t:Bool),R≠[]->chain s (R++r::S) t=chain s R t++(if f7 s R=t then [(min (ltZ R) r,max (ltZ R) r)] else [])++chain (f7 s R) (r::S) t
 | [a],s,r,S,t,_=>by
  show (if (!s)=t then [(min a r,max a r)] else [])++chain (!s) (r::S) t=[]++_++_;have e:f7 s [a]=!s:=by cases s<;>rfl
  rw[e];rfl
 | a::b::R,s,r,S,t,_=>by
  show (if (!s)=t then [(min a b,max a b)] else [])++chain (!s) ((b::R)++r::S) t=((if (!s)=t then [(min a b,max a b)] else [])++chain (!s) (b::R) t)++_++_;rw[qG (!s) r S t (by simp),tT s a (b::R),Fj];simp only[aw]
def chain_snoc{R:List Int}(s:Bool)(r:Int)(t:Bool)(h:R≠[]):chain s (R++[r]) t=chain s R t++(if f7 s R=t then [(min (ltZ R) r,max (ltZ R) r)] else []):=by
 rw[qG s r [] t h];show _++[]=_;rw[cX]
def rM:∀(R:List Int) (s t:Bool),(chain (f7 s R) R.reverse t).Perm (chain s R t)
 | [],_,_=>.refl _
 | [a],s,t=>.refl _
 | a::b::R,s,t=>by
  have ih:=rM (b::R) (!s) t;rw[List.reverse_cons,tT,chain_snoc _ _ _ (by simp)];have e:f7 (f7 (!s) (b::R)) (b::R).reverse=!s:=by
   unfold f7;rw[fX];cases s<;>cases odd (b::R).length<;>rfl
  rw[e,wF];show (chain (f7 (!s) (b::R)) (b::R).reverse t++(if (!s)=t then [(min b a,max b a)] else [])).Perm ((if (!s)=t then [(min a b,max a b)] else [])++chain (!s) (b::R) t);rw[Int.min_comm b a,Int.max_comm b a];exact dF.trans (ih.append_left _)
structure Pc where
 lab:Int
 rows:List Int
 s:Bool
 main:Bool
def Pc.fst(p:Pc):Oe×Bool:=((B8 p.rows,p.lab),p.s)
def Pc.lst(p:Pc):Oe×Bool:=((ltZ p.rows,p.lab),f7 p.s p.rows)
def Pc.more(p:Pc):List (Oe×Bool):=if p.main then [] else [p.fst]
def Pc.ends(p:Pc):List (Oe×Bool):=p.lst::p.more
def Pc.rev(p:Pc):Pc:={ p with rows:=p.rows.reverse,s:=f7 p.s p.rows }
def Pc.bows(t:Bool)(p:Pc):List Bw:=chain p.s p.rows t
def vc(p:Pc):p.rev.lst=p.fst:=by
 show ((ltZ p.rows.reverse,p.lab),f7 (f7 p.s p.rows) p.rows.reverse)=((B8 p.rows,p.lab),p.s)
 rw[wF];congr 1;unfold f7;rw[fX];cases p.s<;>cases odd p.rows.length<;>rfl
def HK(p:Pc):p.rev.fst=p.lst:=by
 show ((B8 p.rows.reverse,p.lab),f7 p.s p.rows)=_;rw[B6];rfl
def eA(st:Bool->List Oe):List (Oe×Bool):=(st false).map (·,false)++(st true).map (·,true)
def nF{st:Bool->List Oe}{t:Bool}{st':List Oe}{e:Oe}(h:st t=st'++[e]):(eA st).Perm ((e,t)::eA λu=>if u=t then st' else st u):=by
 unfold eA;cases t with
 | false=>
  simp only[h,W9,Bool.true_eq_false,Wa,aR,aZ,fL,aw,dS,bA];exact dP
 | true=>
  simp only[h,W9,dh,Wa,aR,aZ,fL];rw[<-aw];exact dF
def oM{st:Bool->List Oe}{t:Bool}{e:Oe}:(eA λu=>if u=t then st u++[e] else st u).Perm ((e,t)::eA st):=by
 have h:=nF (st:=λu=>if u=t then st u++[e] else st u) (t:=t) (st':=st t) (e:=e) (by simp);refine h.trans ?_;have:(λu=>if u=t then st t else if u=t then st u++[e] else st u)=st:=by
  funext u;by_cases z:u=t
  ·simp[z]
  ·simp[z]
 rw[this]
structure u6 (st:List Oe) (f:List Bw) (r:Nat):Prop where
 inc:st.Pairwise fun a b=>a.1<b.1
 low:∀ e∈st,0<=e.1/\e.1<r
 bow:∀ p∈f,0<=p.1/\p.1<p.2/\p.2<r
 nc:∀ p∈f,∀ q∈f,eB p q=false
 un:∀ p∈f,∀ e∈st,¬ (p.1<e.1/\e.1<p.2)
def u6.push{st:List Oe}{f:List Bw}{r:Nat}(S:u6 st f r)(l:Int):u6 (st++[((r:Int),l)]) f (r+1):=by
 refine⟨dq.mpr ⟨S.inc,by simp,λa ha b hb=>?_⟩,λe h=>?_,λp h=>by have:=S.bow p h;lia,S.nc,λp hp e h=>?_⟩
 ·have e:b=((r:Int),l):=by simpa using hb
  subst e;exact(S.low a ha).2
 ·rcases aQ.mp h with z | z
  ·have:=S.low e z;lia
  ·have e':e=((r:Int),l):=by simpa using z
   subst e';simp only;lia
 ·rcases aQ.mp h with z | z
  ·exact S.un p hp e z
  ·have e':e=((r:Int),l):=by simpa using z
   subst e';have:=S.bow p hp;simp only;lia
def u6.close{st:List Oe}{f:List Bw}{r:Nat}{o l:Int}(S:u6 (st++[(o,l)]) f r):u6 st (f++[(o,(r:Int))]) (r+1):=by
 have ho:=S.low (o,l) (by simp);simp only at ho;have low:∀e∈st,e.1<o:=λe he=>(dq.mp S.inc).2.2 e he (o,l) (by simp);have cr:∀p q:Bw,(¬(p.1<q.1/\q.1<p.2/\p.2<q.2))->eB p q=false:=λp q h=>by
  unfold eB;by_cases a:p.1<q.1
  ·by_cases b:q.1<p.2
   ·have c:¬p.2<q.2:=λc=>h ⟨a,b,c⟩;simp[c]
   ·simp[b]
  ·simp[a]
 refine⟨(dq.mp S.inc).1,λe h=>by have:=S.low e (bV _ h);lia,λp h=>?_,λp hp q hq=>?_,λp hp e h=>?_⟩
 ·rcases aQ.mp h with z | z
  ·have:=S.bow p z;lia
  ·have e':p=(o,(r:Int)):=by simpa using z
   subst e';simp only;lia
 ·rcases aQ.mp hp with z | z
  ·rcases aQ.mp hq with y | y
   ·exact S.nc p z q y
   ·have e':q=(o,(r:Int)):=by simpa using y
    subst e';have h1:=S.un p z (o,l) (by simp);exact cr _ _ λh=>h1 ⟨h.1,h.2.1⟩
  ·have e':p=(o,(r:Int)):=by simpa using z
   subst e';rcases aQ.mp hq with y | y
   ·have h1:=S.bow q y;exact cr _ _ λh=>by simp only at h;lia
   ·have e':q=(o,(r:Int)):=by simpa using y
    subst e';exact cr _ _ λh=>by simp only at h;lia
 ·have h1:=low e h;rcases aQ.mp hp with z | z
  ·exact S.un p z e (bV _ h)
  ·have e':p=(o,(r:Int)):=by simpa using z
   subst e';simp only;lia
def u6.map{st:List Oe}{f:List Bw}{r:Nat}(S:u6 st f r)(g:Int->Int):u6 (st.map λe=>(e.1,g e.2)) f r:=by
 refine⟨?_,λe h=>?_,S.bow,S.nc,λp hp e h=>?_⟩
 ·rw[iq];exact S.inc
 ·obtain⟨x,hx,rfl⟩:=bN.mp h;exact S.low x hx
 ·obtain⟨x,hx,rfl⟩:=bN.mp h;exact S.un p hp x hx
structure Gr (b:Bool) (st:Bool->List Oe) (f:Bool->List Bw) (r:Nat) (is:List Pc):Prop where
 ne:∀ p∈is,p.rows≠[]
 rows:(is.flatMap Pc.rows).Perm (fU 0 r)
 labs:(is.map Pc.lab).Nodup
 lr:∀ p∈is,p.lab<r
 one:is.countP Pc.main=1
 hd:∀ p∈is,p.main=true->p.rows.head? = some 0/\p.s=!b
 ends:(eA st).Perm (is.flatMap Pc.ends)
 bows:∀ t,(f t).Perm (is.flatMap (Pc.bows t))
 stk:∀ t,u6 (st t) (f t) r
section
variable {b:Bool} {st:Bool->List Oe} {f:Bool->List Bw} {r:Nat} {is js:List Pc} {p q:Pc}
def Gr.perm(G:Gr b st f r is)(h:is.Perm js):Gr b st f r js:=
 ⟨λp hp=>G.ne p (h.mem_iff.mpr hp),(h.flatMap_right _).symm.trans G.rows,(h.map _).nodup_iff.mp G.labs,λp hp=>G.lr p (h.mem_iff.mpr hp),(h.countP_eq _).symm.trans G.one,λp hp=>G.hd p (h.mem_iff.mpr hp),
  G.ends.trans (h.flatMap_right _),λt=>(G.bows t).trans (h.flatMap_right _),G.stk⟩
def Gr.flip(G:Gr b st f r (p::is))(h:p.main=false):Gr b st f r (p.rev::is):=by
 have more:p.more=[p.fst]:=by unfold Pc.more;rw[h];rfl
 have more':p.rev.more=[p.lst]:=by
  unfold Pc.more;rw[show p.rev.main=false from h,HK];rfl
 refine⟨λq hq=>?_,?_,G.labs,λq hq=>?_,?_,λq hq hm=>?_,?_,λt=>?_,G.stk⟩
 ·rcases aF.mp hq with z | z
  ·subst z;exact λe=>G.ne p ao (mW.mp e)
  ·exact G.ne q (aO _ z)
 ·exact((List.reverse_perm p.rows).append_right _).trans G.rows
 ·rcases aF.mp hq with z | z
  ·subst z;exact G.lr p ao
  ·exact G.lr q (aO _ z)
 ·have:=G.one;rw[cn] at this ⊢;exact this
 ·rcases aF.mp hq with z | z
  ·subst z;rw[show p.rev.main=false from h] at hm;cases hm
  ·exact G.hd q (aO _ z) hm
 ·refine G.ends.trans ?_;rw[av,av];refine List.Perm.append_right _ ?_;unfold Pc.ends;rw[more,more',vc];exact List.Perm.swap _ _ _
 ·refine(G.bows t).trans ?_;rw[av,av];exact(rM p.rows p.s t).symm.append_right _
def Gr.pick(G:Gr b st f r is){e:Oe×Bool}(h:e∈eA st):∃p js,p.lst=e/\Gr b st f r (p::js)/\∀q∈js,q∈is:=by
 obtain⟨p,hp,he⟩:=jV.mp (G.ends.mem_iff.mp h);obtain⟨A,B,rfl⟩:=ez hp;have G1:=G.perm dP;have sub:∀q∈A++B,q∈A++p::B:=λq hq=>by
  rcases aQ.mp hq with z | z
  ·exact bV _ z
  ·exact af _ (aO _ z)
 rcases aF.mp he with z | z
 ·exact⟨p,A++B,z.symm,G1,sub⟩
 ·unfold Pc.more at z;cases hm:p.main with
  | true=>rw[hm] at z;cases z
  | false=>
   rw[hm] at z;have e':e=p.fst:=by simpa using z
   exact⟨p.rev,A++B,by rw[vc,e'],G1.flip hm,sub⟩
def sf(r:Nat):fU 0 (r+1)=fU 0 r++[(r:Int)]:=by
 unfold fU;rw[gA,aR];simp
def Gr.opA(G:Gr b st f r is):Gr b (λu=>st u++[((r:Int),(r:Int))]) f (r+1) (⟨r,[(r:Int)],false,false⟩::is):=by
 refine⟨λq hq=>?_,?_,?_,λq hq=>?_,?_,λq hq hm=>?_,?_,λt=>?_,λt=>(G.stk t).push _⟩
 ·rcases aF.mp hq with z | z
  ·subst z;simp
  ·exact G.ne q z
 ·rw[sf];exact(G.rows.cons (r:Int)).trans (dF (l₁:=[(r:Int)]) (l₂:=fU 0 r))
 ·rw[aZ,dI];refine⟨λz=>?_,G.labs⟩;obtain⟨q,hq,e⟩:=bN.mp z;have:=G.lr q hq;simp only at e;lia
 ·rcases aF.mp hq with z | z
  ·subst z;simp only;lia
  ·have:=G.lr q z;lia
 ·rw[cn,G.one];rfl
 ·rcases aF.mp hq with z | z
  ·subst z;cases hm
  ·exact G.hd q z hm
 ·have h1:=oM (st:=st) (t:=false) (e:=((r:Int),(r:Int)));have h2:=oM (st:=λu=>if u=false then st u++[((r:Int),(r:Int))] else st u) (t:=true) (e:=((r:Int),(r:Int)));have e:(λu=>if u=true then (if u=false then st u++[((r:Int),(r:Int))] else st u)++[((r:Int),(r:Int))] else if u=false then st u++[((r:Int),(r:Int))] else st u)=λu=>st u++[((r:Int),(r:Int))]:=by
   funext u;cases u<;>rfl
  rw[e] at h2;refine h2.trans ((h1.cons _).trans ?_);rw[av];exact((G.ends.cons _).cons _)
 ·refine(G.bows t).trans ?_;rw[av];exact .refl _
def Gr.ext{t:Bool}{st':List Oe}{o l:Int}(G:Gr b st f r (p::is))(hl:p.lst=((o,l),t))(hs:st t=st'++[(o,l)]):
  Gr b (λu=>if u=t then st' else st u++[((r:Int),l)]) (λu=>if u=t then f u++[(o,(r:Int))] else f u) (r+1) ({ p with rows:=p.rows++[(r:Int)] }::is):=by
 have pne:=G.ne p ao;have e1:ltZ p.rows=o:=congrArg (λx=>x.1.1) hl;have e2:p.lab=l:=congrArg (λx=>x.1.2) hl;have e3:f7 p.s p.rows=t:=congrArg (λx=>x.2) hl;have low:=(G.stk t).low (o,l) (by rw[hs];simp);simp only at low;have lst':Pc.lst { p with rows:=p.rows++[(r:Int)] }=(((r:Int),l),!t):=by
  show ((ltZ (p.rows++[(r:Int)]),p.lab),f7 p.s (p.rows++[(r:Int)]))=_;rw[Fi,zz,e2,e3]
 have more':Pc.more { p with rows:=p.rows++[(r:Int)] }=p.more:=by
  unfold Pc.more Pc.fst;rw[B7 pne]
 refine⟨λq hq=>?_,?_,G.labs,λq hq=>?_,?_,λq hq hm=>?_,?_,λu=>?_,λu=>?_⟩
 ·rcases aF.mp hq with z | z
  ·subst z;simp
  ·exact G.ne q (aO _ z)
 ·have h1:=G.rows;rw[av] at h1 ⊢;rw[sf];show ((p.rows++[(r:Int)])++is.flatMap Pc.rows).Perm _;rw[aw];exact(dP (l₁:=p.rows) (a:=(r:Int)) (l₂:=is.flatMap Pc.rows)).trans ((h1.cons _).trans (dF (l₁:=[(r:Int)])))
 ·rcases aF.mp hq with z | z
  ·subst z;have:=G.lr p ao;simp only;lia
  ·have:=G.lr q (aO _ z);lia
 ·have:=G.one;rw[cn] at this ⊢;exact this
 ·rcases aF.mp hq with z | z
  ·subst z;obtain⟨a,c⟩:=G.hd p ao hm;refine⟨?_,c⟩;show (p.rows++[(r:Int)]).head? = _;rw[List.head?_append,a];rfl
  ·exact G.hd q (aO _ z) hm
 ·have h1:=(nF hs).symm.trans G.ends;rw[av] at h1 ⊢;have h2:(eA λu=>if u=t then st' else st u).Perm (p.more++is.flatMap Pc.ends):=by
   have e:p.ends++is.flatMap Pc.ends=((o,l),t)::(p.more++is.flatMap Pc.ends):=by
    unfold Pc.ends;rw[hl];rfl
   rw[e] at h1;exact h1.cons_inv
  have e:(λu=>if u=t then st' else st u++[((r:Int),l)])=λu=>if u=(!t) then (if u=t then st' else st u)++[((r:Int),l)] else (if u=t then st' else st u):=by
   funext u;cases u<;>cases t<;>rfl
  rw[e];refine oM.trans ((h2.cons _).trans ?_);have e4:Pc.ends { p with rows:=p.rows++[(r:Int)] }=(((r:Int),l),!t)::p.more:=by
   unfold Pc.ends;rw[lst',more']
  rw[e4];exact .refl _
 ·have h1:=G.bows u;rw[av] at h1 ⊢;have e4:Pc.bows u { p with rows:=p.rows++[(r:Int)] }=p.bows u++if u=t then [(o,(r:Int))] else []:=by
   show chain p.s (p.rows++[(r:Int)]) u=chain p.s p.rows u++_;rw[chain_snoc _ _ _ pne,e1,e3];have m1:min o (r:Int)=o:=by lia
   have m2:max o (r:Int)=(r:Int):=by lia
   rw[m1,m2];congr 1;cases t<;>cases u<;>rfl
  rw[e4];by_cases z:u=t
  ·rw[W5 z,W5 z,aw];exact(h1.append_right _).trans (by rw[aw];exact nq _ dF)
  ·rw[W4 z,W4 z,cX];exact h1
 ·by_cases z:u=t
  ·subst z;simp only[W9];have:=G.stk u;rw[hs] at this;exact this.close
  ·simp only[z,Wa];exact(G.stk u).push l
def Gr.pick2{o1 l1 o2 l2:Int}{n' f':List Oe}(G:Gr b st f r is)(h1:st false=n'++[(o1,l1)])(h2:st true=f'++[(o2,l2)])(hne:l1≠l2):∃p q js,p.lst=((o1,l1),false)/\q.lst=((o2,l2),true)/\Gr b st f r (p::q::js):=by
 obtain⟨p,js,hp,G1,_⟩:=G.pick (e:=((o1,l1),false)) (by unfold eA;rw[h1];simp);have hm:((o2,l2),true)∈eA st:=by unfold eA;rw[h2];simp
 obtain⟨q,hq,he⟩:=jV.mp (G1.ends.mem_iff.mp hm);have lab:∀(x:Pc) e,e∈x.ends->e.1.2=x.lab:=λx e h=>by
  rcases aF.mp h with z | z
  ·subst z;rfl
  ·unfold Pc.more at z;cases hm:x.main with
   | true=>rw[hm] at z;cases z
   | false=>
    rw[hm] at z;have e':e=x.fst:=by simpa using z
    subst e';rfl
 have pl:p.lab=l1:=congrArg (λx=>x.1.2) hp;have ql:=lab q _ he;rcases aF.mp hq with z | z
 ·subst z;simp only at ql;exact absurd (pl.symm.trans ql.symm) hne
 ·obtain⟨A,B,rfl⟩:=ez z;have G2:Gr b st f r (q::p::(A++B)):=G1.perm ((dP.cons p).trans (List.Perm.swap _ _ _));rcases aF.mp he with y | y
  ·exact⟨p,q,A++B,hp,y.symm,G2.perm (List.Perm.swap _ _ _)⟩
  ·unfold Pc.more at y;cases hm:q.main with
   | true=>rw[hm] at y;cases y
   | false=>
    rw[hm] at y;have e':((o2,l2),true)=q.fst:=by simpa using y
    exact⟨p,q.rev,A++B,hp,by rw[vc,<-e'],(G2.flip hm).perm (List.Perm.swap _ _ _)⟩
def k9(x y:Int)(e:Oe):Oe:=(e.1,if e.2=x then y else e.2)
def Gr.join0{ta:Bool}{o:Bool->Int}{la lb l1 l2:Int}{st':Bool->List Oe}(G:Gr b st f r (p::q::is))(hp:p.lst=((o ta,la),ta))(hq:q.lst=((o (!ta),lb),!ta))(hs:∀u,st u=st' u++[(o u,if u=ta then la else lb)])(hm:q.main=false)(hlab:(l1=la/\l2=lb)\/(l1=lb/\l2=la)):
  Gr b (λu=>(st' u).map (k9 l2 l1)) (λu=>f u++[(o u,(r:Int))]) (r+1) (⟨l1,p.rows++(r:Int)::q.rows.reverse,p.s,p.main⟩::is):=by
 have pne:=G.ne p ao;have qne:=G.ne q (aO _ ao);have qrne:q.rows.reverse≠[]:=λe=>qne (mW.mp e);have p1:ltZ p.rows=o ta:=congrArg (λx=>x.1.1) hp;have p2:p.lab=la:=congrArg (λx=>x.1.2) hp;have p3:f7 p.s p.rows=ta:=congrArg (λx=>x.2) hp;have q1:ltZ q.rows=o (!ta):=congrArg (λx=>x.1.1) hq;have q2:q.lab=lb:=congrArg (λx=>x.1.2) hq;have q3:f7 q.s q.rows=!ta:=congrArg (λx=>x.2) hq;have low:∀u,0<=o u/\o u<r:=λu=>(G.stk u).low (o u,if u=ta then la else lb) (by rw[hs u];simp);have nd:=G.labs;rw[aZ,aZ,dI,dI,p2,q2] at nd;obtain⟨n1,n2,n3⟩:=nd;have nab:la≠lb:=λe=>n1 (by rw[e];exact ao);have nla:∀x∈is,x.lab≠la:=λx hx e=>n1 (aO _ (bN.mpr ⟨x,hx,e⟩));have nlb:∀x∈is,x.lab≠lb:=λx hx e=>n2 (bN.mpr ⟨x,hx,e⟩);have n1':∀x∈is,x.lab≠l1:=λx hx=>by rcases hlab with ⟨e,_⟩ | ⟨e,_⟩<;>rw[e];exact nla x hx;exact nlb x hx
 have n2':∀x∈is,x.lab≠l2:=λx hx=>by rcases hlab with ⟨_,e⟩ | ⟨_,e⟩<;>rw[e];exact nlb x hx;exact nla x hx
 have rla:(if la=l2 then l1 else la)=l1:=by
  rcases hlab with ⟨e,e'⟩ | ⟨e,e'⟩
  ·rw[e',W4 nab,e]
  ·rw[e',W5 rfl]
 have rlb:(if lb=l2 then l1 else lb)=l1:=by
  rcases hlab with ⟨e,e'⟩ | ⟨e,e'⟩
  ·rw[e',W5 rfl]
  ·rw[e',W4 nab.symm,e]
 refine⟨λx hx=>?_,?_,?_,λx hx=>?_,?_,λx hx hmx=>?_,?_,λu=>?_,λu=>?_⟩
 ·rcases aF.mp hx with z | z
  ·subst z;simp
  ·exact G.ne x (aO _ (aO _ z))
 ·have h1:=G.rows;rw[av,av] at h1;rw[av,sf];show ((p.rows++(r:Int)::q.rows.reverse)++is.flatMap Pc.rows).Perm _;rw[aw,dS];refine dP.trans (List.Perm.trans ?_ (dF (l₁:=[(r:Int)])));refine List.Perm.cons _ (List.Perm.trans ?_ h1);exact nq _ ((List.reverse_perm q.rows).append_right _)
 ·rw[aZ,dI];refine⟨λz=>?_,n3⟩;obtain⟨x,hx,e⟩:=bN.mp z;exact n1' x hx e
 ·rcases aF.mp hx with z | z
  ·subst z;have h1:=G.lr p ao;have h2:=G.lr q (aO _ ao);simp only;rcases hlab with ⟨e,_⟩ | ⟨e,_⟩<;>rw[e]<;>lia
  ·have:=G.lr x (aO _ (aO _ z));lia
 ·have:=G.one;rw[cn,cn,hm] at this;rw[cn];simpa using this
 ·rcases aF.mp hx with z | z
  ·subst z;obtain⟨a,c⟩:=G.hd p ao hmx;refine⟨?_,c⟩;show (p.rows++(r:Int)::q.rows.reverse).head? = _;rw[List.head?_append,a];rfl
  ·exact G.hd x (aO _ (aO _ z)) hmx
 ·have h0:(eA st).Perm (((o ta,la),ta)::((o (!ta),lb),!ta)::eA st'):=by
   have e1:(eA st).Perm _:=nF (t:=ta) (hs ta);refine e1.trans ?_;rw[W5 rfl];refine List.Perm.cons _ ?_;have e2:=nF (st:=λu=>if u=ta then st' ta else st u) (t:=!ta) (st':=st' (!ta)) (e:=(o (!ta),lb)) (by
    have z:¬(!ta)=ta:=by cases ta<;>decide
    simp only[z,Wa];rw[hs (!ta),W4 z])
   refine e2.trans (List.Perm.cons _ ?_);have:(λu=>if u=(!ta) then st' (!ta) else if u=ta then st' ta else st u)=st':=by
    funext u;cases u<;>cases ta<;>rfl
   rw[this]
  have h1:=h0.symm.trans G.ends;rw[av,av] at h1;have eqm:q.more=[q.fst]:=by unfold Pc.more;rw[hm];rfl
  have h2:(eA st').Perm (p.more++(q.fst::is.flatMap Pc.ends)):=by
   have e:(p.ends++(q.ends++is.flatMap Pc.ends)).Perm (((o ta,la),ta)::((o (!ta),lb),!ta)::(p.more++(q.fst::is.flatMap Pc.ends))):=by
    unfold Pc.ends;rw[hp,hq,eqm];refine List.Perm.cons _ ?_;exact dP
   exact(h1.trans e).cons_inv.cons_inv
  have hmap:(eA λu=>(st' u).map (k9 l2 l1))=(eA st').map λx=>(k9 l2 l1 x.1,x.2):=by
   unfold eA;rw[aR,cA,cA,cA,cA];rfl
  rw[hmap];refine(h2.map _).trans ?_;rw[aR,aZ,av];have r1:(is.flatMap Pc.ends).map (λx=>(k9 l2 l1 x.1,x.2))=is.flatMap Pc.ends:=by
   have:∀x∈is.flatMap Pc.ends,(k9 l2 l1 x.1,x.2)=x:=λx hx=>by
    obtain⟨y,hy,he⟩:=jV.mp hx;have:x.1.2=y.lab:=by
     rcases aF.mp he with z | z
     ·subst z;rfl
     ·unfold Pc.more at z;cases hm:y.main with
      | true=>rw[hm] at z;cases z
      | false=>
       rw[hm] at z;have e':x=y.fst:=by simpa using z
       subst e';rfl
    unfold k9;rw[W4 (by rw[this];exact n2' y hy)]
   exact(dA this).trans (List.map_id _)
  have r2:(k9 l2 l1 q.fst.1,q.fst.2)=Pc.lst ⟨l1,p.rows++(r:Int)::q.rows.reverse,p.s,p.main⟩:=by
   show ((B8 q.rows,if q.lab=l2 then l1 else q.lab),q.s)=((ltZ (p.rows++(r:Int)::q.rows.reverse),l1),f7 p.s (p.rows++(r:Int)::q.rows.reverse))
   rw[q2,rlb,BV (by simp)];have e1:ltZ ((r:Int)::q.rows.reverse)=B8 q.rows:=by
    have:(r:Int)::q.rows.reverse=[(r:Int)]++q.rows.reverse:=rfl;rw[this,BV qrne,wF]
   rw[e1];congr 1;unfold f7 at p3 q3 ⊢;rw[bH,cJ,fX];have:odd (p.rows.length+(q.rows.length+1))=(odd p.rows.length ^^ !odd q.rows.length):=by
    unfold odd;rcases ce p.rows.length with h | h<;>rcases ce q.rows.length with h' | h'<;>simp[Nat.add_mod,h,h']
   rw[this]
   revert p3 q3
   cases p.s<;>cases q.s<;>cases odd p.rows.length<;>cases odd q.rows.length<;>cases ta<;>decide
  have r3:p.more.map (λx=>(k9 l2 l1 x.1,x.2))=Pc.more ⟨l1,p.rows++(r:Int)::q.rows.reverse,p.s,p.main⟩:=by
   unfold Pc.more;cases hmp:p.main with
   | true=>rfl
   | false=>
    show [((B8 p.rows,if p.lab=l2 then l1 else p.lab),p.s)]=[((B8 (p.rows++(r:Int)::q.rows.reverse),l1),p.s)]
    rw[B7 pne,p2,rla]
  rw[r1,r2,r3];exact dP
 ·have h1:=G.bows u;rw[av,av] at h1;rw[av];have e4:(Pc.bows u ⟨l1,p.rows++(r:Int)::q.rows.reverse,p.s,p.main⟩).Perm ((o u,(r:Int))::(p.bows u++q.bows u)):=by
   show (chain p.s (p.rows++(r:Int)::q.rows.reverse) u).Perm _;rw[qG _ _ _ _ pne,p1,p3];obtain⟨x,R,hR⟩:∃x R,q.rows.reverse=x::R:=by
    cases e:q.rows.reverse with
    | nil=>exact absurd e qrne
    | cons x R=>exact⟨x,R,rfl⟩
   have hx:x=o (!ta):=by
    rw[<-q1,<-B6,hR];rfl
   have e5:chain ta ((r:Int)::q.rows.reverse) u=(if (!ta)=u then [(o (!ta),(r:Int))] else [])++chain (!ta) q.rows.reverse u:=by
    rw[hR];show (if (!ta)=u then [(min (r:Int) x,max (r:Int) x)] else [])++chain (!ta) (x::R) u=_;have:=low (!ta);rw[hx];have m1:min (r:Int) (o (!ta))=o (!ta):=by lia
    have m2:max (r:Int) (o (!ta))=(r:Int):=by lia
    rw[m1,m2]
   have m1:min (o ta) (r:Int)=o ta:=by have:=low ta;lia
   have m2:max (o ta) (r:Int)=(r:Int):=by have:=low ta;lia
   rw[e5,m1,m2];have cq:(chain (!ta) q.rows.reverse u).Perm (q.bows u):=by
    have:=rM q.rows q.s u;rw[q3] at this;exact this
   by_cases z:ta=u
   ·have z':¬(!ta)=u:=by rw[<-z];cases ta<;>decide
    rw[W5 z,W4 z',<-z,bA,aw];refine(dP (l₁:=chain p.s p.rows ta) (a:=(o ta,(r:Int))) (l₂:=chain (!ta) q.rows.reverse ta)).trans ?_;rw[<-z] at cq;exact(cq.append_left _).cons _
   ·have z':(!ta)=u:=by revert z;cases ta<;>cases u<;>decide
    rw[W4 z,W5 z',cX];refine(dP (l₁:=chain p.s p.rows u) (a:=(o (!ta),(r:Int))) (l₂:=chain (!ta) q.rows.reverse u)).trans ?_;rw[<-z'];rw[<-z'] at cq;exact(cq.append_left _).cons _
  refine List.Perm.trans ?_ (e4.symm.append_right _);refine(dF (l₁:=f u) (l₂:=[(o u,(r:Int))])).trans ?_;refine List.Perm.cons _ (h1.trans ?_);show (Pc.bows u p++(Pc.bows u q++is.flatMap (Pc.bows u))).Perm ((Pc.bows u p++Pc.bows u q)++is.flatMap (Pc.bows u));rw[aw]
 ·have:=G.stk u;rw[hs u] at this;exact this.close.map λx=>if x=l2 then l1 else x
def Gr.many(G:Gr b st f r is):(st false).length+(st true).length+1=2*is.length:=by
 have h1:=G.ends.length_eq;unfold eA at h1;rw[bH,aG,aG] at h1;have h2:∀js:List Pc,(js.flatMap Pc.ends).length+js.countP Pc.main=2*js.length:=by
  intro js
  induction js with
  | nil=>rfl
  | cons p js ih=>
   rw[av,bH,cn,cJ];have:p.ends.length+(if p.main=true then 1 else 0)=2:=by
    unfold Pc.ends Pc.more;cases p.main<;>rfl
   lia
 have:=h2 is;rw[G.one] at this;lia
def Gr.start (b : Bool) : Gr b (fun u => if u = b then [((0 : Int), (0 : Int))] else []) (fun _ => []) 1 [⟨0, [0], !b, true⟩] := by
  refine ⟨fun p hp => ?_, ?_, by simp, fun p hp => ?_, rfl, fun p hp _ => ?_, ?_, fun t => .refl _, fun t => ?_⟩
  · have e : p = ⟨0, [0], !b, true⟩ := by simpa using hp
    subst e; simp
  · exact .refl _
  · have e : p = ⟨0, [0], !b, true⟩ := by simpa using hp
    subst e; exact (by decide : (0 : Int) < 1)
  · have e : p = ⟨0, [0], !b, true⟩ := by simpa using hp
    subst e; exact ⟨rfl, rfl⟩
  · cases b <;> exact .refl _
  · by_cases z : t = b
    · simp only [z, W9]
      exact ⟨by simp, fun e h => by have e' : e = (0, 0) := by simpa using h
                                    subst e'; decide, fun p h => (nomatch h), fun p h => (nomatch h), fun p h => (nomatch h)⟩
    · simp only [z, Wa]
      exact ⟨.nil, fun p h => (nomatch h), fun p h => (nomatch h), fun p h => (nomatch h), fun p h => (nomatch h)⟩
def Gr.last{t:Bool}{o l:Int}(G:Gr b st f r is)(h1:st t=[(o,l)])(h2:st (!t)=[]):
  ∃ns:List Int,ns.length+1=r/\ns.Perm (fU 1 ns.length)/\∀u,(if u=t then f u++[(o,(r:Int))] else f u).Perm (bE b ns u (ns.length+1))/\∀p∈bE b ns u (ns.length+1),∀q∈bE b ns u (ns.length+1),eB p q=false:=by
 have hl:=G.many;have h3:(st false).length+(st true).length=1:=by
  cases t
  ·rw[h1,show st true=[] from h2];rfl
  ·rw[h1,show st false=[] from h2];rfl
 obtain⟨p,rfl⟩:∃p,is=[p]:=by
  match is,(show is.length=1 by lia) with
  | [p],_=>exact⟨p,rfl⟩
 have hm:p.main=true:=by
  have:=G.one;rw[cn] at this;cases z:p.main with
  | true=>rfl
  | false=>rw[z] at this;simp at this
 obtain⟨hd,hs⟩:=G.hd p (by simp) hm;have he:=G.ends;have hp:p.lst=((o,l),t):=by
  have e:eA st=[((o,l),t)]:=by
   unfold eA;cases t
   ·rw[h1,show st true=[] from h2];rfl
   ·rw[h1,show st false=[] from h2];rfl
  rw[e,av,mZ,cX] at he;unfold Pc.ends Pc.more at he;rw[hm] at he;have:=List.perm_singleton.mp he.symm;simpa using this
 have G':=G.ext hp (st':=[]) h1;obtain⟨ns,hns⟩:∃ns,p.rows=0::ns:=by
  cases e:p.rows with
  | nil=>rw[e] at hd;cases hd
  | cons a R=>rw[e] at hd;cases hd;exact⟨R,rfl⟩
 have hr:=G.rows;rw[av,mZ,cX,hns] at hr;have hlen:=hr.length_eq;rw[cJ,Ec] at hlen;have hr1:ns.Perm (fU 1 ns.length):=by
  have e:fU 0 r=0::fU 1 ns.length:=by
   rw[<-hlen];unfold fU;rw[nL,aZ,cA];congr 1;refine dA λi _=>?_;simp only[Function.comp]
   push_cast
   lia
  rw[e] at hr;exact hr.cons_inv
 have er:p.rows++[(r:Int)]=ef ns:=by
  rw[hns,<-hlen];unfold ef
  push_cast
  rfl
 have ch:∀(k m:Nat) (u:Bool),m=ns.length+1-k->k<=ns.length+1->chain (!(b ^^ odd k)) ((ef ns).drop k) u=(((List.range m).map (·+k)).filter (dc b u)).map (jz ns):=by
  intro k m
  induction m generalizing k with
  | zero=>
   intro u hm hk;have e:k=ns.length+1:=by lia
   have:(ef ns).drop k=[bj ns k]:=by
    have h:=aK.mp (ja (ns:=ns) (i:=k) (by lia));rw[aj h.1,h.2,nM (by rw[jN];lia)]
   rw[this];rfl
  | succ m ih=>
   intro u hm hk;have h:=aK.mp (ja (ns:=ns) (i:=k) (by lia));have h':=aK.mp (ja (ns:=ns) (i:=k+1) (by lia));have ih':=ih (k+1) u (by lia) (by lia);rw[aj h.1,h.2,aj h'.1,h'.2];show (if (!!(b ^^ odd k))=u then [(min (bj ns k) (bj ns (k+1)),max (bj ns k) (bj ns (k+1)))] else [])++chain (!!(b ^^ odd k)) (bj ns (k+1)::(ef ns).drop (k+1+1)) u=_;have e2:chain (!!(b ^^ odd k)) (bj ns (k+1)::(ef ns).drop (k+1+1)) u=(((List.range m).map (·+(k+1))).filter (dc b u)).map (jz ns):=by
    rw[<-ih',mF];have e3:(!(b ^^ !odd k))=!!(b ^^ odd k):=by cases b<;>cases odd k<;>rfl
    rw[e3];congr 1;rw[aj h'.1,h'.2]
   rw[e2,nL,aZ,cA,m5];have e4:((λx=>x+k)∘Nat.succ)=λx=>x+(k+1):=by funext x;simp only[Function.comp];lia
   rw[e4];show _=List.map (jz ns) (if dc b u (0+k)=true then _ else _);rw[kM];have e5:dc b u k=decide ((!!(b ^^ odd k))=u):=by unfold dc;cases b<;>cases u<;>cases odd k<;>rfl
   rw[e5];by_cases z:(!!(b ^^ odd k))=u
   ·rw[W5 z,W8 z,W5 rfl];rfl
   ·rw[W4 z,W7 z,W4 aq];rfl
 have sb:∀u,Pc.bows u { p with rows:=p.rows++[(r:Int)] }=bE b ns u (ns.length+1):=λu=>by
  show chain p.s (p.rows++[(r:Int)]) u=_;have:=ch 0 (ns.length+1) u rfl (bU _);rw[show odd 0=false from rfl,Bool.xor_false] at this;rw[hs,er];refine Eq.trans this ?_;unfold bE;congr 2;simp
 have pu:∀u,(if u=t then f u++[(o,(r:Int))] else f u).Perm (bE b ns u (ns.length+1)):=λu=>by
  have:=G'.bows u;rw[av,mZ,cX,sb u] at this;exact this
 refine⟨ns,hlen,hr1,λu=>⟨pu u,λx hx y hy=>?_⟩⟩;exact(G'.stk u).nc x ((pu u).mem_iff.mpr hx) y ((pu u).mem_iff.mpr hy)
end
def NC(b:Bool)(ns:List Int):Prop:=∀u,∀p∈bE b ns u (ns.length+1),∀q∈bE b ns u (ns.length+1),eB p q=false
inductive wR (st:Bool->List Oe) (f:Bool->List Bw) (r:Nat):Nat->(Bool->List Oe)->(Bool->List Bw)->Prop
 | a:wR st f r 0 (fun u=>st u++[((r:Int),(r:Int))]) f
 | b {S:List Oe} {o l:Int}:st true=S++[(o,l)]->wR st f r 1 (fun u=>if u=true then S else st u++[((r:Int),l)]) (fun u=>if u=true then f u++[(o,(r:Int))] else f u)
 | c {S:List Oe} {o l:Int}:st false=S++[(o,l)]->wR st f r 2 (fun u=>if u=false then S else st u++[((r:Int),l)]) (fun u=>if u=false then f u++[(o,(r:Int))] else f u)
 | d {n' f':List Oe} {o1 l1 o2 l2:Int}:st false=n'++[(o1,l1)]->st true=f'++[(o2,l2)]->l1≠l2->wR st f r 3 (fun u=>(if u then f' else n').map (k9 (max l1 l2) (min l1 l2))) (fun u=>f u++[(if u then o2 else o1,(r:Int))])
section
variable {b:Bool} {st:Bool->List Oe} {f:Bool->List Bw} {r:Nat} {is:List Pc}
def Gr.joinS{o1 l1 o2 l2 x y:Int}{n' f':List Oe}(G:Gr b st f r is)(h1:st false=n'++[(o1,l1)])(h2:st true=f'++[(o2,l2)])(hne:l1≠l2)(hxy:(y=l1/\x=l2)\/(y=l2/\x=l1)):
  ∃js,Gr b (λu=>(if u then f' else n').map (k9 x y)) (λu=>f u++[(if u then o2 else o1,(r:Int))]) (r+1) js:=by
 obtain⟨p,q,js,hp,hq,G2⟩:=G.pick2 h1 h2 hne;cases hm:q.main with
 | false=>
  exact⟨_,G2.join0 (ta:=false) (o:=λu=>if u then o2 else o1) (st':=λu=>if u then f' else n') hp hq (λu=>by cases u;exact h1;exact h2) hm hxy⟩
 | true=>
  have hm2:p.main=false:=by
   have:=G2.one;rw[cn,cn,hm] at this;cases z:p.main with
   | false=>rfl
   | true=>rw[z] at this;simp at this
  have G3:=G2.perm (List.Perm.swap q p js);exact⟨_,G3.join0 (ta:=true) (o:=λu=>if u then o2 else o1) (st':=λu=>if u then f' else n') hq hp (λu=>by cases u;exact h1;exact h2) hm2 hxy.symm⟩
def wR.gr{st':Bool->List Oe}{f':Bool->List Bw}{k:Nat}(P:wR st f r k st' f')(G:Gr b st f r is):∃js,Gr b st' f' (r+1) js:=by
 cases P with
 | a=>exact⟨_,G.opA⟩
 | @b S o l h=>obtain⟨p,js,hp,G1,_⟩:=G.pick (e:=((o,l),true)) (by unfold eA;rw[h];simp);exact⟨_,G1.ext hp h⟩
 | @c S o l h=>obtain⟨p,js,hp,G1,_⟩:=G.pick (e:=((o,l),false)) (by unfold eA;rw[h];simp);exact⟨_,G1.ext hp h⟩
 | d h h' ne=>exact G.joinS h h' ne (by lia)
def PH(L:List Int)(p:Nat):Prop:=1<=p/\p<L.length/\L[p-1]?≠L[p]?
instance (L:List Int) (p:Nat):Decidable (PH L p):=by unfold PH;infer_instance
end
end Rm
namespace Rm
open PySem L2 PyProof.Rows
section
variable {σ:L2.St} {H0:Hp}
abbrev D1 (σ:L2.St) (H0:Hp) (te:TE) (d:PyData):Prop:=DE View.all σ H0 te d
abbrev D2 (σ:L2.St) (H0:Hp) (ta:TA) (ds:List PyData):Prop:=DA View.all σ H0 ta ds
end
def jy(H:Hp)(t:Addr)(u:Bool)(p q:Bw):Prop:=∃a c,H t=some (.tup [.str (sd u),.ref a,.ref c])/\ff H a p/\ff H c q
def uf:Sp:=λvs H Q _=>∃m o b ns,vs=[.ref m]/\fE H m o b ns/\oQ ns/\(NC b ns->∀H',aP H H'->Q .non H') ∧
 ∀u,∀p∈bE b ns u (ns.length+1),∀q∈bE b ns u (ns.length+1),eB p q=true->∀t H',aP H H'->jy H' t u p q->Q (.ref t) H'
def L3(b:Bool)(ns:List Int):PyData:=.tuple [.str (sd b),.tuple (ns.map PyData.int)]
def fE.dat{H:Hp}{m o:Addr}{b:Bool}{ns:List Int}(h:fE H m o b ns):Dat H (.ref m) (L3 b ns):=.tup h.1 (.cons (.str _) (.cons (.tup h.2 (gj ns)) .nil))
def L1{b:Bool}{ns:List Int}(O:oQ ns):mI (L3 b ns)=true:=by
 show (j5 (.str (sd b))&&kd (.tuple (ns.map PyData.int)))=true;have e1:j5 (.str (sd b))=true:=by cases b<;>decide +kernel
 have e2:(ns.map PyData.int).map intOf=ns:=by rw[cA];show ns.map id=ns;exact List.map_id _
 have e3:(ns.map PyData.int).all fh=true:=by rw[List.all_map,iF];intro _ _;rfl
 rw[e1,pW];show (decide ((ns.map PyData.int).length<=20)&&((ns.map PyData.int).all fh&&((ns.map PyData.int).map intOf).isPerm (fU 1 (ns.map PyData.int).length)))=true;rw[e2,e3,aG,W8 O.len,gE.mpr O.perm];rfl
def wA{b:Bool}{ns:List Int}:Pl (L3 b ns) 60:=by
 refine⟨?_,?_⟩
 ·show (PyData.canLay0 (.str (sd b))&&(PyData.canLayAll0 (ns.map PyData.int)&&true))=true;rw[gi];cases b<;>decide +kernel
 ·show max 0 (max (PyData.depthAll (ns.map PyData.int)+1) 0)+1<=60;rw[mq];decide
def xu{d e:PyData}(h:j5 d=false):mI (.tuple [d,e])=false:=by show (j5 d&&kd e)=false;rw[h];rfl
def kf{d e:PyData}(h:kd e=false):mI (.tuple [d,e])=false:=by show (j5 d&&kd e)=false;rw[h,Bool.and_false]
def pE:∀{ds:List PyData},(∀d∈ds,d.canLay0=true)->PyData.canLayAll0 ds=true
 | [],_=>rfl
 | d::ds,h=>by
  show (d.canLay0&&PyData.canLayAll0 ds)=true;rw[h d (by simp),pE λe he=>h e (by simp[he])];rfl
def oN{k:Nat}:∀{ds:List PyData},(∀d∈ds,d.depth<=k)->PyData.depthAll ds<=k
 | [],_=>bU _
 | d::ds,h=>by
  show max d.depth (PyData.depthAll ds)<=k;exact Nat.max_le.mpr ⟨h d (by simp),oN λe he=>h e (by simp[he])⟩
def mn{ds:List PyData}{k:Nat}(h:∀d∈ds,Pl d k):Pl (.tuple ds) (k+1):=⟨pE λd hd=>(h d hd).lay,Nat.succ_le_succ (oN λd hd=>(h d hd).deep)⟩
def Kz{ds:List PyData}{k:Nat}(h:∀d∈ds,Pl d k):Pl (.list ds) (k+1):=⟨pE λd hd=>(h d hd).lay,Nat.succ_le_succ (oN λd hd=>(h d hd).deep)⟩
def Pl.le{d:PyData}{j k:Nat}(h:Pl d j)(e:j<=k):Pl d k:=⟨h.lay,b9 h.deep e⟩
def zZ(n:Int){k:Nat}:Pl (.int n) k:=⟨rfl,bU _⟩
def Ex{z:Str}{k:Nat}(h:PyData.canLay0 (.str z)=true):Pl (.str z) k:=⟨h,bU _⟩
def xV(b:Bool){k:Nat}:Pl (.str (sd b)) k:=Ex (by cases b<;>decide +kernel)
def PX{d:PyData}{k:Nat}(h:Pl d k):∀e∈[d],Pl e k:=λe he=>by rw[bQ] at he;subst he;exact h
def J8{d e:PyData}{k:Nat}(h:Pl d k)(g:Pl e k):∀f∈[d,e],Pl f k:=λf hf=>by
 rcases aF.mp hf with rfl | hf
 ·exact h
 ·exact PX g f hf
def OA{d e f:PyData}{k:Nat}(h:Pl d k)(g:Pl e k)(i:Pl f k):∀x∈[d,e,f],Pl x k:=λx hx=>by
 rcases aF.mp hx with rfl | hx
 ·exact h
 ·exact J8 g i x hx
def Kc:PyData->Bool
 | .none | .bool _ | .int _ | .str _=>true
 | _=>false
def G0{b:Bool}{ds:List PyData}{i:Nat}{d:PyData}(h:ds[i]? = some d)(hb:fh d=false\/intOf d<1\/(ds.length:Int)<intOf d):mI (.tuple [.str (sd b),.tuple ds])=false:=
 kf (C3 h (hb.imp id (Or.imp id .inl)))
end Rm
namespace L2
open PySem PySem.Spec PyProof.Rows
def oZ:∀{cs:List Addr} {us:List Value},cH (cs.map V.ref) us->us=cs.map Value.ref
 | [],_,.nil=>rfl
 | c::cs,_,.cons r t=>by
  rw[oZ t];cases r;rfl
def IG(v:V)(H:Hp):Prop:=∃a d,v=.ref a/\Dat H v d/\d.showable=true/\d.hasDict=false/\d.depth<=10/\d.shown.length<=500
def FZ:∀(v:V) (H:Hp) (x:Addr) (o:HO),H x=none->IG v H->IG v (bP H x o):=λ_ H _ _ hn ⟨a,d,e,h,r⟩=>⟨a,d,e,h.same ((aP.refl H).new hn),r⟩
def PV(x y:Str):(tupleText [x,y]).length<=x.length+y.length+7:=by
 have:=tupleText_len_le [x,y];simp only[aZ,fL,lh,List.sum_nil,cJ,gD] at this;lia
def PU(x y z:Str):(tupleText [x,y,z]).length<=x.length+y.length+z.length+9:=by
 have:=tupleText_len_le [x,y,z];simp only[aZ,fL,lh,List.sum_nil,cJ,gD] at this;lia
abbrev pB (a b:Int):PyData:=.tuple [.int a,.int b]
def wx{a:Int}(h0:0<=a)(h1:a<=60):(PyData.shown (.int a)).length<=2/\PyData.showable (.int a)=true:=by
 obtain⟨n,rfl⟩:=dw h0;obtain⟨e1,e2⟩:=C9 n (by lia);exact⟨e1,by simp only[PyData.showable];exact W8 e2⟩
def wy{a b:Int}(a0:0<=a)(a1:a<=60)(b0:0<=b)(b1:b<=60):(PyData.shown (pB a b)).length<=11/\PyData.showable (pB a b)=true:=by
 obtain⟨x1,x2⟩:=wx a0 a1;obtain⟨y1,y2⟩:=wx b0 b1;refine⟨?_,?_⟩
 ·show (tupleText [PyData.shown (.int a),PyData.shown (.int b)]).length<=11;have:=PV (PyData.shown (.int a)) (PyData.shown (.int b));lia
 ·show (PyData.showable (.int a)&&(PyData.showable (.int b)&&true))=true;rw[x2,y2];rfl
def C8 {H:Hp} {p:Addr} {z:Str} {a b c d:Int} (hz:z=Str.ofString "l"\/z=Str.ofString "r") (h:Dat H (.ref p) (.tuple [.str z,pB a b,pB c d])) (a0:0<=a) (a1:a<=60) (b0:0<=b) (b1:b<=60) (c0:0<=c) (c1:c<=60) (d0:0<=d) (d1:d<=60):IG (.ref p) H:=by
 obtain⟨x1,x2⟩:=wy a0 a1 b0 b1;obtain⟨y1,y2⟩:=wy c0 c1 d0 d1;have z1:(PyData.shown (.str z)).length<=10:=by rcases hz with rfl | rfl<;>decide +kernel
 refine⟨p,_,rfl,h,?_,rfl,by simp[PyData.depth,PyData.depthAll],?_⟩
 ·show (PyData.showable (.str z)&&(PyData.showable (pB a b)&&(PyData.showable (pB c d)&&true)))=true;rw[x2,y2];rfl
 ·show (tupleText [PyData.shown (.str z),PyData.shown (pB a b),PyData.shown (pB c d)]).length<=500;have:=PU (PyData.shown (.str z)) (PyData.shown (pB a b)) (PyData.shown (pB c d));lia
def K3(ta tb:TE):TE:=λσ H Q=>ta σ H λx H1=>∃c,x=.str c/\c.length<=400/\tb σ H1 λy H2=>IG y H2/\∀z,Q (.str z) H2
section
variable {X:Cx}
def LP{k:Nat}{v1 v2:Expr}{fpos pos:Pos}{ta tb:TE}(hr:g0 k X.A)(ha:PE X v1 ta)(hb:PE X v2 tb):PE X (.JoinedStr [v1,.FormattedValue v2 114 none fpos] pos) (K3 ta tb):=by
 intro pins s σ H Q I h;refine JoinedStr_many (joinParts_cons (dJ (ha pins s σ H _ I h) λu s1 ⟨x,H1,I1,rx,c,ex,hc,q⟩=>?_));subst ex;obtain⟨tk,rfl⟩:∃tk,u=Value.str c tk:=rx;have l0:(Str.empty++c).length=c.length:=by rw[strLen_append];exact kM _
 refine⟨by rw[l0];exact ba (cB (by lia)),joinParts_cons (wpAny_FormattedValue_repr (dJ (hb pins s1 σ H1 _ I1 q) λu2 s2 ⟨y,H2,I2,ry,ok,q2⟩=>?_))⟩;obtain⟨a,d,rfl,hd,h1,h2,h3,h4⟩:=ok;obtain rfl:u2=Value.ref a:=ry;obtain⟨as,r⟩:=(hd.rep (K:=X.K)).reads I2 rfl;refine pyReprObj_of_reads r h1 (PyData.noDict_hsm h2) hr.gd (by have:=hr.un;lia) (λ_ _ e=>e) (λh' u tk hk=>?_) (ba (cB (by lia)));have l1:((Str.empty++c)++d.shown).length<=sizeLine:=by rw[strLen_append,l0];exact ba (cB (by lia))
 exact wpAny_formatField_str ⟨l1,joinParts_nil ⟨.str ((Str.empty++c)++d.shown),H2,I2.kept hk,⟨_,rfl⟩,q2 _⟩ l1⟩ ⟨l1,joinParts_nil ⟨.str ((Str.empty++c)++d.shown),H2,I2.kept hk,⟨_,rfl⟩,q2 _⟩ l1⟩ (ba (cB (by lia)))
def HW{k:Nat}{v1 v2:Expr}{fpos pos:Pos}{ta tb:TE}(hr:g0 k X.A)(ha:QE X v1 ta)(hb:QE X v2 tb):QE X (.JoinedStr [v1,.FormattedValue v2 114 none fpos] pos) (K3 ta tb):=⟨LP hr ha.h hb.h⟩
end
def Mb{σ:St}{H:Hp}{Q:VK}{ta tb:TE}:K3 ta tb σ H Q=ta σ H λx H1=>∃c,x=.str c/\c.length<=400/\tb σ H1 λy H2=>IG y H2/\∀z,Q (.str z) H2:=rfl
def AL{prog:Program}{w:World}{A:Around}{E:Value->Shared->Prop}{s:Shared}{K:Wb}{a C N:Addr}{o:Obj}{od:Option Obj}{bs bm bmB:List Value}{nm q:Str}{hdct:Bool}{sn:List Str}{sub:List Value}{ab:Bool}{col:Option Bool}{dd:Option Addr}{k0 k1 k2 k3 k5:Option Value}{B newId:String}{Q:Option Value->Shared->Prop}
  (X:K.In s.heap) (I:PySem.W.InstAt s.heap a o C od) (hga:PySem.W.findIn K (.ref C) "__getattribute__"=some (some (.builtin "BaseException.__getattribute__"))) (hgt:PySem.W.findIn K (.ref C) "__getattr__"=some none)
  (hf:PySem.W.findObj K C od "__class__"=some (.bind (.builtin "getset_descriptor.__get__") (.builtin "object.__class__"))) (hm:PySem.W.mroIn K C (.type "object")=some true) (FB:ExcAttrBase B bmB)
  (hC:s.heap.get? C=some (excClassObj nm q C N bs bm hdct sn sub ab col dd k0 k1 k2 k3 k5 newId)) (T:OwnTailQ s.heap bmB bm) (hq:Q (some (.ref C)) { s with toks:=s.toks+1 }):wpAny (model prog w) A (getAttr? (.ref a) "__class__") Q E s:=by
 obtain⟨h,g,d,t,os⟩:=s;unfold getAttr?;refine wpAny_bind (wpAny_mkText ?_);unfold getAttrBy?;refine wpAny_bind (WR ?_);unfold getAttrBy;refine WB (wpAny_bind (bi (cz I) (wpAny_bind (bi (dL X hga) ?_))));refine WU (by rfl) ?_;unfold getAttrByItsOwn hookBefore;refine wpAny_bind (wpAny_ite_true (by rfl) (bi (dL X hgt) (wpAny_bind (WR (WB ?_)))));unfold callGetattribute boundAndCalled;refine WU (by rfl) (wpAny_bind (wpAny_of_eq (FB.ga.bind (Value.ref a)) (WJ (WV FB.ga.plain nS (WW FB hC T I.at_ I.cls ?_)))));unfold Builtin.«object.__getattribute__»;refine wpAny_bind ?_;unfold slotArgs;refine WU (by rfl) (WU (by rfl) (WE ?_));show wpAny _ _ (Bind.bind (Builtin.ObjectAttr.attrName (Value.str (Str.ofString "__class__") _)) _) _ _ _;refine wpAny_bind ?_;unfold Builtin.ObjectAttr.attrName;refine WE ?_;refine wpAny_bind (bi (cz I) (wpAny_bind (bi (kj X I hf) ?_)));unfold Builtin.ObjectAttr.bindTo;refine wpAny_bind (WB (WJ (PySem.W.class_get X I hm ?_)));refine WE ?_;refine lO rfl ?_;exact WE hq
structure yk (K:Wb) (C:Addr):Prop where
 ga:PySem.W.findIn K (.ref C) "__getattribute__"=some (some (.builtin "BaseException.__getattribute__"))
 gt:PySem.W.findIn K (.ref C) "__getattr__"=some none
 fo:∀ od:Obj,PySem.W.findObj K C (some od) "__class__"=some (.bind (.builtin "getset_descriptor.__get__") (.builtin "object.__class__"))
 mro:PySem.W.mroIn K C (.type "object")=some true
 lk:∃ c dd cd sl,K.lookup C=some ⟨c,dd,.cls cd,sl⟩
 own:∃ B bmB,ExcAttrBase B bmB/\∀ h:Heap,K.In h->∃ nm q N bs bm hdct sn sub ab col dd k0 k1 k2 k3 k5 newId,h.get? C=some (excClassObj nm q C N bs bm hdct sn sub ab col dd k0 k1 k2 k3 k5 newId)/\OwnTailQ h bmB bm
def Nl(C a:Addr)(h:Heap):Prop:=∃o od,PySem.W.InstAt h a o C (some od)
def Ce{K:Wb}{C a:Addr}(k:yk K C):PySem.W.KitX K (.ref a) (.ref C) (Nl C a):=by
 obtain⟨c,dd,cd,sl,lk⟩:=k.lk;refine⟨λM h _ x=>?_,λM h X _ A Q E s kp hq=>?_,λh tp dd' its n sl' X htp=>?_,fun {prog w A E Q s} X x hq=>?_⟩
 ·obtain⟨o,od,I⟩:=x;exact cz I
 ·exact wpAny_bind (wpAny_loadPart (kp C _ (X C _ lk)) (WE hq))
 ·refine Bool.eq_false_iff.mpr λq=>?_;have e:=Value.ref.inj (beq_iff_eq.mp q);subst e;rw[X C _ lk] at htp;cases htp
 ·obtain⟨o,od,I⟩:=x;obtain⟨B,bmB,FB,ow⟩:=k.own;obtain⟨nm,q,N,bs,bm,hdct,sn,sub,ab,col,dd,k0,k1,k2,k3,k5,newId,hC,T⟩:=ow s.heap X;exact AL X I k.ga k.gt (k.fo od) k.mro FB hC T hq
inductive ExcAt (K:Wb) (H:Hp) (a C:Addr):Prop
 | bare:H a=some (yN C a)->wW K C->ExcAt K H a C
 | dict {dx:Addr} {f:Str} {v:V}:H a=some (lG (some dx) C a)->H dx=some (.xd [(f,v)])->yk K C->ExcAt K H a C
def ExcAt.same{K:Wb}{H H':Hp}{a C:Addr}(h:ExcAt K H a C)(s:aP H H'):ExcAt K H' a C:=by
 cases h with
 | bare h k=>exact .bare (s _ _ h) k
 | dict h h2 k=>exact .dict (s _ _ h) (s _ _ h2) k
def ExcAt.kit{X:Cx}{pins:List (Addr×Obj)}{σ:St}{H:Hp}{s:Shared}{a C:Addr}(I:bX X pins σ H s)(h:ExcAt X.K H a C):∃R:Heap->Prop,PySem.W.KitX X.K (.ref a) (.ref C) R/\R s.heap:=by
 cases h with
 | bare h k=>exact⟨_,Fl k,(I.hok a _ h).1⟩
 | dict h h2 k=>
  refine⟨_,Ce k,?_⟩;obtain⟨⟨⟨o,o1,o2⟩,o',vs,o3,⟨o4,o5⟩,o6⟩,_⟩:=I.hok a _ h;rw[o1] at o3;cases o3;obtain⟨mA,n1,rl⟩:=I.hok _ _ h2;obtain⟨od,d1,d2⟩:=rG n1;exact⟨o,od,o1,o2,by unfold PySem.W.notCls;rw[o5],by rw[o4];exact d1⟩
def sq(K:Wb):List V->Hp->VK->Prop:=λxs H Q=>∃a C c cv b,xs=[.ref a,c]/\ExcAt K H a C/\((∃T,c=.ty T/\cv=Value.type T)\/∃D,c=.ref D/\cv=Value.ref D)/\PySem.W.kitOne K (.ref C) cv=some b/\Q (.bl b) H
def DG {X:Cx}:fN X (.builtin "isinstance") (sq X.K):=by
 intro pins s σ H xs us Q I r h;obtain⟨a,C,c,cv,b,rfl,hC,hc,e,q⟩:=h;obtain⟨u,w,rfl,rx,rw'⟩:=cH.two r;cases (show u=Value.ref a from rx);have ew:w=cv:=by
  rcases hc with ⟨T,rfl,rfl⟩ | ⟨D,rfl,rfl⟩
  ·exact rw'
  ·exact rw'
 subst ew;obtain⟨R,kx,hx⟩:=hC.kit I;exact cW kx I.kIn hx e (λz=>nomatch z) λtk=>⟨.bl b,H,I.tok tk,rfl,q⟩
def iW {X:Cx} {K:Wb} (h:X.K=K):fN X (.builtin "isinstance") (sq K):=h▸DG
def uU{K:Wb}{a C D:Addr}{H:Hp}{b:Bool}{Q:VK}(hC:ExcAt K H a C)(e:PySem.W.kitOne K (.ref C) (.ref D)=some b)(q:Q (.bl b) H):sq K [.ref a,.ref D] H Q:=⟨a,C,_,_,b,rfl,hC,.inr ⟨D,rfl,rfl⟩,e,q⟩
def BZ{K:Wb}{a C:Addr}{T:String}{H:Hp}{b:Bool}{Q:VK}(hC:ExcAt K H a C)(e:PySem.W.kitOne K (.ref C) (.type T)=some b)(q:Q (.bl b) H):sq K [.ref a,.ty T] H Q:=⟨a,C,_,_,b,rfl,hC,.inl ⟨T,rfl,rfl⟩,e,q⟩
structure DJ (K:Wb) (C:Addr) (ds:List Addr) (due:Nat):Prop where
 kit:∀ j d,ds[j]? = some d->PySem.W.kitOne K (.ref C) (.ref d)=some (decide (j=due))
 val:PySem.W.kitOne K (.ref C) (.type "ValueError")=some true
def OK.d{K:Wb}{C:Addr}{ds:List Addr}{due:Nat}(h:OK K C ds due):DJ K C ds due:=⟨h.kit,h.val⟩
def GI{K:Wb}{C R N NR:Addr}{nm q:Str}{bs bmB:List Value}{hdct:Bool}{sn:List Str}{sub:List Value}{ab:Bool}{col:Option Bool}{dd dR:Option Addr}{k0 k1 k2 k3 k5:Option Value}{newId:String}{cR:Value}{cdR:ClassData}{slR:Array (Option Value)}{f:Str}
  (lkC:K.lookup C=some (excClassObj nm q C N bs (.ref R::bmB) hdct sn sub ab col dd k0 k1 k2 k3 k5 newId)) (A:DK K C f) (gc:PySem.W.findIn K (.ref C) "__class__"=some (some (.builtin "object.__class__")))
  (sp:PySem.W.specialIn K (.builtin "object.__class__") "__get__"=some (some (.builtin "getset_descriptor.__get__"))) (tk:PySem.W.takesIn K (.builtin "object.__class__")=some true) (mr:PySem.W.mroIn K C (.type "object")=some true):yk K C:=
 ⟨A.ga,A.gt,λod=>PySem.W.findObj_data (by unfold PySem.W.clsIn;rw[lkC];rfl) gc sp tk,mr,⟨_,_,_,_,lkC⟩,A.own⟩
end L2
namespace Rm
open PySem L2 PyProof.Rows
structure P0 (S:List Bw) (n:Int):Prop where
 lt:∀ p∈S,p.1<p.2
 bd:∀ p∈S,0<=p.1/\p.2<=n+1
 has:∀ x,1<=x->x<=n->∃ p∈S,p.1=x\/p.2=x
 one:∀ p∈S,∀ q∈S,∀ x,(p.1=x\/p.2=x)->(q.1=x\/q.2=x)->p=q
 nc:∀ p∈S,∀ q∈S,eB p q=false
def AF{x:Int}{p:Bw}:Ih x p=true<->(p.1=x\/p.2=x):=by
 unfold Ih;rw[nT,W6,W6];exact⟨λh=>h.imp kO kO,λh=>h.imp kO kO⟩
def EX{b:Bool}{ns:List Int}(O:oQ ns)(nc:NC b ns)(u:Bool):P0 (bE b ns u (ns.length+1)) ns.length where
 lt:=λp hp=>by obtain⟨i,hi,_,rfl⟩:=ly hp;exact O.step_lt (by lia)
 bd:=λp hp=>by obtain⟨i,hi,_,rfl⟩:=ly hp;exact O.step_in (by lia)
 has:=λx h1 h2=>by
  obtain⟨i,hi⟩:=jj (O.mem.mpr ⟨h1,h2⟩);have il:=(aK.mp hi).1;have er:=uj hi;have:dc b u i=true\/dc b u (i+1)=true:=by
   unfold dc;rw[mF];cases b<;>cases u<;>cases odd i<;>simp
  rcases this with s | s
  ·refine⟨_,sU (by lia) s,?_⟩;rw[<-AF,<-er,O.has_iff (by lia) (by lia)];simp
  ·refine⟨_,sU (by lia) s,?_⟩;rw[<-AF,<-er,O.has_iff (by lia) (by lia)];simp
 one:=λp hp q hq x h1 h2=>by
  obtain⟨i,hi,si,rfl⟩:=ly hp;obtain⟨j,hj,sj,rfl⟩:=ly hq;have hx:∃k,k<ns.length+2/\x=bj ns k/\(i=k\/i+1=k):=by
   have e:x=bj ns i\/x=bj ns (i+1):=by
    have h1':min (bj ns i) (bj ns (i+1))=x\/max (bj ns i) (bj ns (i+1))=x:=h1;lia
   rcases e with e | e
   ·exact⟨i,by lia,e,.inl rfl⟩
   ·exact⟨i+1,by lia,e,.inr rfl⟩
  obtain⟨k,hk,rfl,ik⟩:=hx;have h2':=AF.mpr h2;rw[O.has_iff hk (by lia)] at h2';have jk:=of_decide_eq_true h2';have:i=j\/i=j+1\/j=i+1:=by lia
  rcases this with z | z | z
  ·rw[z]
  ·exact absurd z λz=>F1 si sj z
  ·exact absurd z λz=>F1 sj si z
 nc:=nc u
def BF{b:Bool}{ns:List Int}(O:oQ ns){u:Bool}{p:Bw}(hp:p∈bE b ns u (ns.length+1)):0<=p.1/\p.1<p.2/\p.2<=21:=by
 obtain⟨i,hi,_,rfl⟩:=ly hp;have h1:=O.step_in (i:=i) (by lia);have h2:=O.step_lt (i:=i) (by lia);have:=O.len;exact⟨h1.1,h2,by lia⟩
def jy.dat{H:Hp}{t:Addr}{u:Bool}{p q:Bw}(h:jy H t u p q):Dat H (.ref t) (.tuple [.str (sd u),pB p.1 p.2,pB q.1 q.2]):=by
 obtain⟨a,c,h1,h2,h3⟩:=h;exact .tup h1 (.cons (.str _) (.cons (.tup h2 (.cons (.int _) (.cons (.int _) .nil))) (.cons (.tup h3 (.cons (.int _) (.cons (.int _) .nil))) .nil)))
def jy.same{H H':Hp}{t:Addr}{u:Bool}{p q:Bw}(h:jy H t u p q)(s:aP H H'):jy H' t u p q:=by
 obtain⟨a,c,h1,h2,h3⟩:=h;exact⟨a,c,s _ _ h1,s _ _ h2,s _ _ h3⟩
def jy.ok{H:Hp}{t:Addr}{u:Bool}{p q:Bw}{b:Bool}{ns:List Int}(h:jy H t u p q)(O:oQ ns)(hp:p∈bE b ns u (ns.length+1))(hq:q∈bE b ns u (ns.length+1)):IG (.ref t) H:=by
 have h1:=BF O hp;have h2:=BF O hq;exact C8 (by cases u;exact .inl rfl;exact .inr rfl) h.dat (by lia) (by lia) (by lia) (by lia) (by lia) (by lia) (by lia) (by lia)
def ER(M C:Addr):Sp:=λvs H Q E=>∃x d,vs=[x]/\Dat H x d/\Pl d 60/\((mI d=false/\∀H',aP H H'->E (.ref M) none H')\/∃m o b ns,x=.ref m/\fE H m o b ns/\d=L3 b ns/\oQ ns/\(NC b ns->∀H',aP H H'->Q (.bl true) H') ∧
 ∀u,∀p∈bE b ns u (ns.length+1),∀q∈bE b ns u (ns.length+1),eB p q=true->∀t dx H',aP H H'->jy H' t u p q->H' dx=some (.xd [("bows",.ref t)])->E (.ref C) (some dx) H')
structure P4 (b:Bool) (ns:List Int) (u:Bool) (p q:Bw):Prop where
 hp:p∈bE b ns u (ns.length+1)
 hq:q∈bE b ns u (ns.length+1)
 z:eB p q=true
def Bm(p:Bw):PyData:=pB p.1 p.2
def Iw(p q:Bw):PyData.eqv (Bm p) (Bm q)=decide (p=q):=by
 show PyData.eqvAll ([p.1,p.2].map PyData.int) ([q.1,q.2].map PyData.int)=_;rw[qh];refine decide_eq_decide.mpr ⟨λh=>?_,λh=>by rw[h]⟩;simp only[gG,and_true] at h;exact oP h.1 h.2
def Dt{H:Hp}{a:Addr}{p:Bw}(h:ff H a p):Dat H (.ref a) (Bm p):=.tup h (.cons (.int _) (.cons (.int _) .nil))
def Iv{H:Hp}{as:List Addr}{ps:List Bw}(h:Paired (ff H) as ps):gI H (as.map V.ref) (ps.map Bm):=by
 induction h with
 | nil=>exact .nil
 | cons r _ ih=>exact .cons (Dt r) ih
def AX(p:Bw){k:Nat}:Pl (Bm p) (k+1):=mn (J8 (zZ _) (zZ _))
def Lu(ps:List Bw){k:Nat}:∀d∈ps.map Bm,Pl d (k+1):=λd hd=>by obtain⟨p,_,rfl⟩:=bN.mp hd;exact AX p
def B1{K:Wb}{H:Hp}{a l:Addr}{p:Bw}{ps:List Bw}{neg:Bool}{Q:VK}(ha:ff H a p)(hl:gW H l ps)(q:Q (.bl (if neg then !decide (p∈ps) else decide (p∈ps))) H):zR K neg (.ref a) (.ref l) H Q:=by
 obtain⟨as,h1,h2⟩:=hl;refine⟨Bm p,ps.map Bm,l,_,(Dt ha).rep,rfl,.inl (c6.of h1),(Iv h2).rep,(AX p (k:=0)).lay,pE λd hd=>(Lu ps (k:=0) d hd).lay,b9 (AX p (k:=0)).deep (by decide),?_⟩;have e:(ps.map Bm).any (λe=>PyData.eqv e (Bm p))=decide (p∈ps):=by
  rw[List.any_map];have:(λx=>(λe=>PyData.eqv e (Bm p)) (Bm x))=λx=>decide (x=p):=by funext x;exact Iw x p
  show ps.any (λx=>PyData.eqv (Bm x) (Bm p))=_;rw[this];rw[iP,List.any_eq_true,W6];exact⟨λ⟨x,h,e⟩=>by rw[W6] at e;rw[<-e];exact h,λh=>⟨p,h,W8 rfl⟩⟩
 rw[e];exact q
def Cv{p q:Bw}(h:eB p q=true):p.1<q.1/\q.1<p.2/\p.2<q.2:=by
 unfold eB at h;rw[cQ,cQ,W6,W6,W6] at h;exact h
def nz(x:Nat):Int:=(x:Int)
structure Sd (u b:Bool) (cs:List Nat) (i:Nat) (S:List Oe) (F:List Bw):Prop where
 row:S.map (·.1)=(stN u b cs i).1.map nz
 bow:∀ p∈F,∃ x y:Nat,p=(nz x,nz y)/\(stN u b cs i).2 x=some y/\1<=y/\y<=i/\isIn u (cs.getD (y - 1) 0)=false/\(x=0\/isIn u (cs.getD (x - 1) 0)=true)
 top:∀ x∈(stN u b cs i).1,x=0\/isIn u (cs.getD (x - 1) 0)=true
section
variable {u b:Bool} {cs:List Nat} {i c:Nat} {S:List Oe} {F:List Bw}
def Sd.push(h:Sd u b cs i S F)(hc:cs.getD i 0=c)(hi:isIn u c=true)(l:Int):Sd u b cs (i+1) (S++[(((i+1:Nat):Int),l)]) F:=by
 have e:stN u b cs (i+1)=((stN u b cs i).1++[i+1],(stN u b cs i).2):=by
  show uK u (stN u b cs i) (i+1) (cs.getD i 0)=_;rw[hc,zD hi]
 refine⟨by rw[e,aR,aR,h.row];rfl,λp hp=>?_,λx hx=>?_⟩
 ·obtain⟨x,y,e1,e2,e3,e4,e5,e6⟩:=h.bow p hp;rw[e];exact⟨x,y,e1,e2,e3,by lia,e5,e6⟩
 ·rw[e] at hx;rcases aQ.mp hx with z | z
  ·exact h.top x z
  ·rw[bQ] at z;subst z;exact .inr (by rw[iY,hc];exact hi)
def Sd.pop{o l:Int}(h:Sd u b cs i (S++[(o,l)]) F)(I:ym u b i (stN u b cs i))(hc:cs.getD i 0=c)(hi:isIn u c=false):Sd u b cs (i+1) S (F++[(o,((i+1:Nat):Int))]):=by
 have hr:=h.row;rw[aR] at hr;obtain⟨P,w,hs⟩:=tS (l:=(stN u b cs i).1) (λz=>by rw[z] at hr;simp at hr);rw[hs,aR] at hr;obtain⟨r1,r2⟩:=jY hr rfl;have ow:o=nz w:=by simpa using r2
 have e:stN u b cs (i+1)=(P,nW (stN u b cs i).2 (i+1) w):=by
  show uK u (stN u b cs i) (i+1) (cs.getD i 0)=_;rw[hc,vR hi hs]
 have wm:w∈(stN u b cs i).1:=by rw[hs];simp
 have wl:=I.le w wm;refine⟨by rw[e];exact r1,λp hp=>?_,λx hx=>?_⟩
 ·rw[e];rcases aQ.mp hp with z | z
  ·obtain⟨x,y,e1,e2,e3,e4,e5,e6⟩:=h.bow p z;refine⟨x,y,e1,?_,e3,by lia,e5,e6⟩;have n1:x≠i+1:=λz=>by have:=I.bd x y e2;lia
   have n2:x≠w:=λz=>by rw[z,I.out w wm] at e2;cases e2
   show nW _ _ _ x=_;unfold nW;rw[W4 n1,W4 n2];exact e2
  ·rw[bQ] at z;subst z;refine⟨w,i+1,by rw[ow];rfl,?_,by lia,by lia,by rw[iY,hc];exact hi,h.top w wm⟩;show nW _ _ _ w=_;unfold nW;rw[W4 (by lia),W5 rfl]
 ·rw[e] at hx;exact h.top x (by rw[hs];exact bV _ hx)
def Sd.lab(h:Sd u b cs i S F)(g:Oe->Oe)(hg:∀e,(g e).1=e.1):Sd u b cs i (S.map g) F:=by
 refine⟨?_,h.bow,h.top⟩;rw[<-h.row,cA];exact dA λe _=>hg e
end
structure Oq (g:Int->Int) (L R:List Int) (st:Bool->List Oe):Prop where
 inj:∀ x∈L++R,∀ y∈L++R,g x=g y->x=y
 l:(st false).map (·.2)=L.map g
 r:(st true).map (·.2)=R.map g
structure Sm (b:Bool) (cs:List Nat) (i:Nat) (L R:List Int) (st:Bool->List Oe) (f:Bool->List Bw):Prop where
 gr:∃ is,Gr b st f (i+1) is
 lab:∃ g,Oq g L R st
 sd:∀ u,Sd u b cs i (st u) (f u)
def Sm.start(b:Bool)(cs:List Nat):Sm b cs 0 (bL b) (bR b) (λu=>if u=b then [((0:Int),(0:Int))] else []) (λ_=>[]):=by
 refine⟨⟨_,Gr.start b⟩,⟨id,?_⟩,λu=>?_⟩
 ·cases b
  ·exact⟨λx _ y _ h=>h,rfl,rfl⟩
  ·exact⟨λx _ y _ h=>h,rfl,rfl⟩
 ·refine⟨?_,(λp h=>nomatch h),λx hx=>?_⟩
  ·show _=(An u b).1.map nz;unfold An;by_cases h:u=b
   ·rw[W5 h,W5 h];rfl
   ·rw[W4 h,W4 h];rfl
  ·have hx:x∈(An u b).1:=hx;unfold An at hx
   split at hx
   ·left;simpa using hx
   ·cases hx
def Gr.lab_lt{b:Bool}{st:Bool->List Oe}{f:Bool->List Bw}{r:Nat}{is:List Pc}(G:Gr b st f r is){u:Bool}{e:Oe}(h:e∈st u):e.2<r:=by
 have hm:(e,u)∈eA st:=by
  unfold eA;cases u
  ·exact bV _ (bN.mpr ⟨e,h,rfl⟩)
  ·exact af _ (bN.mpr ⟨e,h,rfl⟩)
 obtain⟨p,hp,he⟩:=jV.mp (G.ends.mem_iff.mp hm);have hl:=G.lr p hp;unfold Pc.ends at he;rcases aF.mp he with z | z
 ·have:e=(ltZ p.rows,p.lab):=congrArg Prod.fst z;rw[this];exact hl
 ·unfold Pc.more at z
  split at z
  ·cases z
  ·have:e=(B8 p.rows,p.lab):=by rw[bQ] at z;exact congrArg Prod.fst z
   rw[this];exact hl
def qe{α β:Type}{f:α->β}{l:List α}{Q:List β}{v:β}(h:l.map f=Q++[v]):∃S e,l=S++[e]/\S.map f=Q/\f e=v:=by
 have hne:l≠[]:=λz=>by rw[z] at h;simp at h
 refine⟨l.dropLast,l.getLast hne,(eF hne).symm,?_⟩;rw[<-eF hne,aR] at h;obtain⟨h1,h2⟩:=jY h rfl;exact⟨h1,by simpa using h2⟩
section
variable {b:Bool} {cs:List Nat} {i c:Nat} {L R L' R':List Int} {st:Bool->List Oe} {f:Bool->List Bw}
def Sm.la(h:Sm b cs i L R st f)(E:EE L R)(hc:cs.getD i 0=97):Sm b cs (i+1) (L++[1+mx (L++R)]) (R++[1+mx (L++R)]) (λu=>st u++[(((i+1:Nat):Int),((i+1:Nat):Int))]) f:=by
 obtain⟨is,G⟩:=h.gr;obtain⟨g,M⟩:=h.lab;obtain⟨f0,f1,f2⟩:=AG E;have f2:1+mx (L++R)∉R:=λz=>f2 (List.mem_reverse.mpr z);refine⟨(wR.a (st:=st) (f:=f) (r:=i+1)).gr G,⟨λx=>if x=1+mx (L++R) then ((i+1:Nat):Int) else g x,?_⟩,λu=>(h.sd u).push hc (by cases u<;>rfl) _⟩;generalize 1+mx (L++R)=m at f1 f2;have gl:∀x∈L++R,g x<((i+1:Nat):Int):=λx hx=>by
  rcases aQ.mp hx with z | z
  ·have:g x∈(st false).map (·.2):=by rw[M.l];exact bN.mpr ⟨x,z,rfl⟩
   obtain⟨e,he,e2⟩:=bN.mp this;rw[<-e2];exact G.lab_lt he
  ·have:g x∈(st true).map (·.2):=by rw[M.r];exact bN.mpr ⟨x,z,rfl⟩
   obtain⟨e,he,e2⟩:=bN.mp this;rw[<-e2];exact G.lab_lt he
 have ng:∀x∈L++R,x≠m:=λx hx z=>by
  rcases aQ.mp hx with w | w
  ·exact f1 (z▸w)
  ·exact f2 (z▸w)
 have mm:∀l:List Int,(∀x∈l,x∈L++R)->l.map g++[((i+1:Nat):Int)]=(l++[m]).map (λx=>if x=m then ((i+1:Nat):Int) else g x):=λl hl=>by
  rw[aR];congr 1
  ·exact dA λx hx=>by rw[W4 (ng x (hl x hx))]
  ·simp
 have mem:∀x,x∈(L++[m])++(R++[m])->x=m\/x∈L++R:=λx hx=>by
  simp only[aQ,bQ] at hx ⊢;rcases hx with (z | z) | (z | z)
  ·exact .inr (.inl z)
  ·exact .inl z
  ·exact .inr (.inr z)
  ·exact .inl z
 refine⟨λx hx y hy e=>?_,?_,?_⟩
 ·rcases mem x hx with z | z<;>rcases mem y hy with w | w
  ·rw[z,w]
  ·rw[W5 z,W4 (ng y w)] at e;have:=gl y w;lia
  ·rw[W4 (ng x z),W5 w] at e;have:=gl x z;lia
  ·rw[W4 (ng x z),W4 (ng y w)] at e;exact M.inj x z y w e
 ·show (st false++_).map _=_;rw[aR,M.l];exact mm L λx hx=>bV _ hx
 ·show (st true++_).map _=_;rw[aR,M.r];exact mm R λx hx=>af _ hx
def Sm.lb{Q:List Int}{v:Int}(h:Sm b cs i L (Q++[v]) st f)(I:∀u,ym u b i (stN u b cs i))(hc:cs.getD i 0=98):∃st' f',Sm b cs (i+1) (L++[v]) Q st' f':=by
 obtain⟨is,G⟩:=h.gr;obtain⟨g,M⟩:=h.lab;have hr:=M.r;rw[aR] at hr;obtain⟨S,⟨o,l⟩,e1,e2,e3⟩:=qe hr;have e3:l=g v:=e3;refine⟨_,_,(wR.b (st:=st) (f:=f) (r:=i+1) e1).gr G,⟨g,λx hx y hy e=>M.inj x ?_ y ?_ e,?_,?_⟩,λu=>?_⟩
 ·simp only[aQ,bQ] at hx ⊢;rcases hx with (z | z) | z<;>simp[z]
 ·simp only[aQ,bQ] at hy ⊢;rcases hy with (z | z) | z<;>simp[z]
 ·simp[M.l,e3]
 ·simpa using e2
 ·have hs:=h.sd u;cases u with
  | false=>simpa using hs.push hc (by rfl) l
  | true=>
   rw[e1] at hs;simpa using hs.pop (I true) hc (by rfl)
def Sm.lc{P:List Int}{v:Int}(h:Sm b cs i (P++[v]) R st f)(I:∀u,ym u b i (stN u b cs i))(hc:cs.getD i 0=99):∃st' f',Sm b cs (i+1) P (R++[v]) st' f':=by
 obtain⟨is,G⟩:=h.gr;obtain⟨g,M⟩:=h.lab;have hr:=M.l;rw[aR] at hr;obtain⟨S,⟨o,l⟩,e1,e2,e3⟩:=qe hr;have e3:l=g v:=e3;refine⟨_,_,(wR.c (st:=st) (f:=f) (r:=i+1) e1).gr G,⟨g,λx hx y hy e=>M.inj x ?_ y ?_ e,?_,?_⟩,λu=>?_⟩
 ·simp only[aQ,bQ] at hx ⊢;rcases hx with z | (z | z)<;>simp[z]
 ·simp only[aQ,bQ] at hy ⊢;rcases hy with z | (z | z)<;>simp[z]
 ·simpa using e2
 ·simp[M.r,e3]
 ·have hs:=h.sd u;cases u with
  | true=>simpa using hs.push hc (by rfl) l
  | false=>
   rw[e1] at hs;simpa using hs.pop (I false) hc (by rfl)
def Sm.ld{P Q:List Int}{x y:Int}(h:Sm b cs i (P++[x]) (Q++[y]) st f)(I:∀u,ym u b i (stN u b cs i))(hc:cs.getD i 0=100)(hxy:x≠y):∃st' f',Sm b cs (i+1) (P.map (rn (min x y) (max x y))) (Q.map (rn (min x y) (max x y))) st' f':=by
 obtain⟨is,G⟩:=h.gr;obtain⟨g,M⟩:=h.lab;have hl:=M.l;have hr:=M.r;rw[aR] at hl hr;obtain⟨n',⟨o1,l1⟩,e1,e2,e3⟩:=qe hl;obtain⟨f',⟨o2,l2⟩,d1,d2,d3⟩:=qe hr;have e3:l1=g x:=e3;have d3:l2=g y:=d3;have mx1:x∈(P++[x])++(Q++[y]):=by simp
 have my1:y∈(P++[x])++(Q++[y]):=by simp
 have hne:l1≠l2:=λz=>hxy (M.inj x mx1 y my1 (by rw[<-e3,<-d3];exact z));have lohi:(min x y=x/\max x y=y)\/(min x y=y/\max x y=x):=by lia
 have LOHI:(min l1 l2=l1/\max l1 l2=l2)\/(min l1 l2=l2/\max l1 l2=l1):=by lia
 have lne:min x y≠max x y:=by lia
 have Lne:min l1 l2≠max l1 l2:=by lia
 have xy:∀v∈(P++[x])++(Q++[y]),(g v=l1->v=x)/\(g v=l2->v=y):=λv hv=>⟨λz=>M.inj v hv x mx1 (by rw[z,e3]),λz=>M.inj v hv y my1 (by rw[z,d3])⟩
 generalize min x y=lo at *;generalize max x y=hi at *;generalize min l1 l2=Lo at *;generalize max l1 l2=Hi at *;refine⟨λu=>(if u then f' else n').map (k9 Hi Lo),λu=>f u++[(if u then o2 else o1,((i+1:Nat):Int))],?_,⟨λw=>if w=lo then Lo else g w,?_⟩,λu=>?_⟩
 ·exact G.joinS e1 d1 hne (by rcases LOHI with ⟨a,b⟩ | ⟨a,b⟩<;>simp[a,b])
 ·have key:∀v∈(P++[x])++(Q++[y]),(if rn lo hi v=lo then Lo else g (rn lo hi v))=rn Lo Hi (g v):=λv hv=>by
   obtain⟨k1,k2⟩:=xy v hv;unfold rn;by_cases v1:v=hi
   ·rw[W5 v1,W5 rfl];have:g v=Lo\/g v=Hi:=by
     rcases lohi with ⟨a,c⟩ | ⟨a,c⟩<;>rcases LOHI with ⟨a',c'⟩ | ⟨a',c'⟩<;>rw[v1,c]<;>simp only[<-e3,<-d3]<;>lia
    split
    ·rfl
    ·lia
   ·rw[W4 v1];by_cases v2:v=lo
    ·rw[W5 v2];have:g v=Lo\/g v=Hi:=by
      rcases lohi with ⟨a,c⟩ | ⟨a,c⟩<;>rcases LOHI with ⟨a',c'⟩ | ⟨a',c'⟩<;>rw[v2,a]<;>simp only[<-e3,<-d3]<;>lia
     split
     ·rfl
     ·lia
    ·rw[W4 v2,W4];intro z;rcases lohi with ⟨a,c⟩ | ⟨a,c⟩<;>rcases LOHI with ⟨a',c'⟩ | ⟨a',c'⟩<;>lia
  have sub:∀w,w∈P.map (rn lo hi)++Q.map (rn lo hi)->∃v∈(P++[x])++(Q++[y]),w=rn lo hi v:=λw hw=>by
   rcases aQ.mp hw with z | z
   ·obtain⟨v,hv,e⟩:=bN.mp z;exact⟨v,by simp[hv],e.symm⟩
   ·obtain⟨v,hv,e⟩:=bN.mp z;exact⟨v,by simp[hv],e.symm⟩
  have rnn:∀v,rn lo hi v≠hi:=λv=>by unfold rn;split<;>lia
  have inL:∀w,w∈P.map (rn lo hi)++Q.map (rn lo hi)->w=lo\/(w∈(P++[x])++(Q++[y])/\w≠hi):=λw hw=>by
   obtain⟨v,hv,rfl⟩:=sub w hw;by_cases z:v=hi
   ·left;unfold rn;rw[W5 z]
   ·right;exact⟨by unfold rn;rw[W4 z];exact hv,rnn v⟩
  have noLo:∀w,w∈(P++[x])++(Q++[y])->w≠hi->w≠lo->g w≠Lo:=λw hw n1 n2 z=>by
   obtain⟨k1,k2⟩:=xy w hw;rcases lohi with ⟨a,c⟩ | ⟨a,c⟩<;>rcases LOHI with ⟨a',c'⟩ | ⟨a',c'⟩<;>lia
  refine⟨λv hv w hw e=>?_,?_,?_⟩
  ·rcases inL v hv with z | ⟨z,zn⟩<;>rcases inL w hw with t | ⟨t,tn⟩
   ·rw[z,t]
   ·by_cases tl:w=lo
    ·rw[z,tl]
    ·rw[W5 z,W4 tl] at e;exact absurd e.symm (noLo w t tn tl)
   ·by_cases zl:v=lo
    ·rw[zl,t]
    ·rw[W4 zl,W5 t] at e;exact absurd e (noLo v z zn zl)
   ·by_cases zl:v=lo
    ·by_cases tl:w=lo
     ·rw[zl,tl]
     ·rw[W5 zl,W4 tl] at e;exact absurd e.symm (noLo w t tn tl)
    ·by_cases tl:w=lo
     ·rw[W4 zl,W5 tl] at e;exact absurd e (noLo v z zn zl)
     ·rw[W4 zl,W4 tl] at e;exact M.inj v z w t e
  ·show (n'.map (k9 Hi Lo)).map (·.2)=_;rw[cA,cA];have:n'.map ((·.2)∘k9 Hi Lo)=(n'.map (·.2)).map (rn Lo Hi):=by rw[cA];rfl
   rw[this,e2,cA];exact dA λv hv=>(key v (by simp[hv])).symm
  ·show (f'.map (k9 Hi Lo)).map (·.2)=_;rw[cA,cA];have:f'.map ((·.2)∘k9 Hi Lo)=(f'.map (·.2)).map (rn Lo Hi):=by rw[cA];rfl
   rw[this,d2,cA];exact dA λv hv=>(key v (by simp[hv])).symm
 ·have hs:=h.sd u;cases u with
  | false=>
   rw[e1] at hs;exact(hs.pop (I false) hc (by rfl)).lab _ λe=>rfl
  | true=>
   rw[d1] at hs;exact(hs.pop (I true) hc (by rfl)).lab _ λe=>rfl
def Sm.step(h:Sm b cs i L R st f)(Rn:Run b cs i L R)(e:cs[i]? = some c)(hc:jo c)(g:cZ L R c=some (L',R')):∃st' f',Sm b cs (i+1) L' R' st' f':=by
 have hg:cs.getD i 0=c:=by rw[cP,e];rfl
 have I:∀u,ym u b i (stN u b cs i):=λu=>by cases u;exact Rn.li;exact Rn.ri
 rcases hc with rfl | rfl | rfl | rfl
 ·cases g;exact⟨_,_,h.la Rn.ee hg⟩
 ·by_cases z:R=[]
  ·subst z;rw[nE] at g;cases g
  ·obtain⟨Q,v,rfl⟩:=cG z;rw[pT] at g;cases g;exact h.lb I hg
 ·by_cases z:L=[]
  ·subst z;rw[nD] at g;cases g
  ·obtain⟨P,v,rfl⟩:=cG z;rw[pS] at g;cases g;exact h.lc I hg
 ·by_cases z:L=[]
  ·subst z;rw[mz] at g;cases g
  ·by_cases z2:R=[]
   ·subst z2;rw[mw] at g;cases g
   ·obtain⟨P,x,rfl⟩:=cG z;obtain⟨Q,y,rfl⟩:=cG z2;rw[pR] at g
    split at g
    ·cases g
    ·cases g;exact h.ld I hg (by assumption)
end
def oQ.row_leC{ns:List Int}(O:oQ ns){j:Nat}(h:j<ns.length+1):0<=bj ns j/\bj ns j<=ns.length:=by
 have h1:=O.row_in (i:=j) (by lia);have:bj ns j≠(ns.length:Int)+1:=λe=>by
  rw[<-uk ns] at e;have:=O.row_inj (by lia) (by lia) e;lia
 lia
def BD{b:Bool}{cs:List Nat}(hl:wY cs)(h:gZ (bL b) (bR b) cs 0=none):∀i,i<=cs.length->∃L R st f,Run b cs i L R/\gZ L R (cs.drop i) i=none/\Sm b cs i L R st f
 | 0,_=>⟨_,_,_,_,Run.zero b cs,h,Sm.start b cs⟩
 | i+1,hi=>by
  obtain⟨L,R,st,f,rn,re,sm⟩:=BD hl h i (by lia);have hi':i<cs.length:=by lia
  rw[aj hi'] at re;have hc:jo cs[i]:=hl _ (iE hi');cases g:cZ L R cs[i] with
  | none=>rw[mh g] at re;cases re
  | some p=>
   obtain⟨L',R'⟩:=p;rw[lK g] at re;obtain⟨st',f',sm'⟩:=sm.step rn (aW hi') hc g;exact⟨L',R',st',f',rn.step (aW hi') hc g,re,sm'⟩
structure DM (b:Bool) (cs:List Nat) (ns:List Int):Prop where
 len:ns.length=cs.length
 ord:oQ ns
 nc:NC b ns
 step:∀ j,j<=cs.length->fin2 b cs (b ^^ odd j) (bj ns j).toNat=some (bj ns (j+1)).toNat
 lets:∀ u,∀ r:Nat,1<=r->r<=cs.length->decide ((r:Int)∈(bE b ns u (ns.length+1)).map (·.1))=isIn u (cs.getD (r - 1) 0)
def Cz{b:Bool}{cs:List Nat}(hl:wY cs)(h20:cs.length<=20)(h:gZ (bL b) (bR b) cs 0=none):∃ns,DM b cs ns:=by
 obtain⟨L,R,st,f,rn,re,sm⟩:=BD hl h cs.length (aI _);rw[jX] at re;have one:L.length+R.length=1:=by
  unfold gZ at re
  split at re
  ·assumption
  ·cases re
 obtain⟨g,M⟩:=sm.lab;obtain⟨is,G⟩:=sm.gr;have I:∀u,ym u b cs.length (stN u b cs cs.length):=λu=>by cases u;exact rn.li;exact rn.ri
 have l1:(st false).length=L.length:=by have:=congrArg List.length M.l;simpa using this
 have l2:(st true).length=R.length:=by have:=congrArg List.length M.r;simpa using this
 obtain⟨t,o,l,h1,h2⟩:∃t o l,st t=[(o,l)]/\st (!t)=[]:=by
  by_cases z:(st false).length=1
  ·obtain⟨⟨o,l⟩,e⟩:=ir.mp z;exact⟨false,o,l,e,dQ.mp (by show (st true).length=0;lia)⟩
  ·obtain⟨⟨o,l⟩,e⟩:=ir.mp (show (st true).length=1 by lia);exact⟨true,o,l,e,dQ.mp (by show (st false).length=0;lia)⟩
 obtain⟨ns,e1,e2,e3⟩:=G.last h1 h2;have en:ns.length=cs.length:=by lia
 have O:oQ ns:=⟨by lia,e2⟩
 have NCs:NC b ns:=λu=>(e3 u).2;have lt:=(sm.sd t).row;rw[h1] at lt;obtain⟨w,hw⟩:∃w,(stN t b cs cs.length).1=[w]:=by
  have:(stN t b cs cs.length).1.length=1:=by have:=congrArg List.length lt;simpa using this.symm
  exact ir.mp this
 have ow:o=nz w:=by rw[hw] at lt;simpa using lt
 have fin_in:∀u x y,(stN u b cs cs.length).2 x=some y->fin2 b cs u x=some y:=λu x y e=>by
  unfold fin2 yM;rw[W4 (λz=>by rw[(I u).out x z] at e;cases e)];exact e
 have pairs:∀u,∀p∈bE b ns u (ns.length+1),∃x y:Nat,p=(nz x,nz y)/\fin2 b cs u x=some y/\(y<=cs.length->fin2 b cs u y=some x/\1<=y/\isIn u (cs.getD (y - 1) 0)=false)/\(x=0\/isIn u (cs.getD (x - 1) 0)=true):=by
  intro u p hp;have hp:=(e3 u).1.mem_iff.mpr hp;have old:p∈f u->∃x y:Nat,p=(nz x,nz y)/\fin2 b cs u x=some y/\(y<=cs.length->fin2 b cs u y=some x/\1<=y/\isIn u (cs.getD (y - 1) 0)=false)/\(x=0\/isIn u (cs.getD (x - 1) 0)=true):=λhp=>by
   obtain⟨x,y,p1,p2,p3,p4,p5,p6⟩:=(sm.sd u).bow p hp;exact⟨x,y,p1,fin_in u x y p2,λ_=>⟨fin_in u y x ((I u).sym x y p2),p3,p5⟩,p6⟩
  by_cases ut:u=t
  ·rw[W5 ut] at hp;rcases aQ.mp hp with z | z
   ·exact old z
   ·rw[bQ] at z;subst ut;refine⟨w,cs.length+1,by rw[z,ow];rfl,?_,λz=>by lia,(sm.sd u).top w (by rw[hw];simp)⟩;unfold fin2 yM;rw[W5 (by rw[hw];simp)]
  ·rw[W4 ut] at hp;exact old hp
 refine⟨ns,en,O,NCs,λj hj=>?_,λu r hr1 hr2=>?_⟩
 ·obtain⟨x,y,p1,p2,p3,p4⟩:=pairs _ _ (sU (b:=b) (ns:=ns) (m:=ns.length+1) (i:=j) (by lia) (xg b j));have q1:min (bj ns j) (bj ns (j+1))=nz x:=congrArg Prod.fst p1;have q2:max (bj ns j) (bj ns (j+1))=nz y:=congrArg Prod.snd p1;have b1:=O.row_leC (j:=j) (by lia);unfold nz at q1 q2;by_cases le:bj ns j<=bj ns (j+1)
  ·rw[show (bj ns j).toNat=x by lia,show (bj ns (j+1)).toNat=y by lia];exact p2
  ·rw[show (bj ns j).toNat=y by lia,show (bj ns (j+1)).toNat=x by lia];exact(p3 (by lia)).1
 ·cases hi:isIn u (cs.getD (r - 1) 0) with
  | true=>
   refine W8 ?_;obtain⟨p,hp,e⟩:=(EX O NCs u).has (r:Int) (by lia) (by lia);rcases e with e | e
   ·exact bN.mpr ⟨p,hp,e⟩
   ·obtain⟨x,y,p1,p2,p3,p4⟩:=pairs u p hp;rw[p1] at e;have e:nz y=(r:Int):=e;unfold nz at e;have ey:y=r:=by lia
    subst ey;rw[(p3 hr2).2.2] at hi;cases hi
  | false=>
   refine W7 λz=>?_;obtain⟨p,hp,e⟩:=bN.mp z;obtain⟨x,y,p1,p2,p3,p4⟩:=pairs u p hp;rw[p1] at e;have e:nz x=(r:Int):=e;unfold nz at e;have ex:x=r:=by lia
   subst ex;rcases p4 with z | z
   ·lia
   ·rw[hi] at z;cases z
section
variable {b:Bool} {cs:List Nat} {ns:List Int}
def DM.pth(C:DM b cs ns):∀j,j<=cs.length+1->pth (fin2 b cs) b j=((bj ns j).toNat,b ^^ odd j)
 | 0,_=>by
  show (0,b)=_;rw[Ke];cases b<;>rfl
 | j+1,h=>by
  have ih:=C.pth j (by lia);show ((fin2 b cs (Rm.pth (fin2 b cs) b j).2 (Rm.pth (fin2 b cs) b j).1).getD 0,!(Rm.pth (fin2 b cs) b j).2)=_;rw[ih];simp only;rw[C.step j (by lia),mF];cases b<;>cases odd j<;>rfl
def DM.vld(C:DM b cs ns):Gd cs.length b (fin2 b cs) (cs.length+1):=by
 refine⟨λi hi=>?_,λi hi=>?_⟩
 ·rw[C.pth i (by lia)];have:=C.ord.row_leC (j:=i) (by rw[C.len];lia);have:=C.len;simp only;lia
 ·rw[C.pth i (by lia),C.pth (i+1) (by lia)];exact C.step i (by lia)
def DM.last(C:DM b cs ns):(Rm.pth (fin2 b cs) b (cs.length+1)).1=cs.length+1:=by
 rw[C.pth _ (aI _)];simp only;rw[<-C.len,uk];lia
def DM.ordF(C:DM b cs ns):ordF (fin2 b cs) b cs.length=ns:=by
 unfold Rm.ordF;apply m6
 ·simp[C.len]
 ·intro i h1 h2;have hi:i<cs.length:=by simpa using h1
  simp only[List.getElem_map,List.getElem_range];rw[C.pth _ (by lia)];simp only;rw[uj (aW h2)];have:=C.ord.mem.mp (iE h2);lia
def A1.maze{H:Hp}{a:Addr}(h:A1 H a b cs)(C:DM b cs ns):∃o,fE H a o b ns:=by
 obtain⟨o,T,h1,h2,h3,V,e,h4⟩:=h;have:=Ly V e C.vld C.last;subst this;rw[iY,C.ordF] at h4;exact⟨o,h1,h4⟩
end
def IX(l r:Bool):Nat:=if l then (if r then 97 else 98) else if r then 99 else 100
def uW(b:Bool)(ns:List Int):List Nat:=(List.range ns.length).map λi:Nat=>IX (decide (((i+1:Nat):Int)∈(bE b ns false (ns.length+1)).map (·.1))) (decide (((i+1:Nat):Int)∈(bE b ns true (ns.length+1)).map (·.1)))
def IW{c:Nat}(h:jo c):IX (isIn false c) (isIn true c)=c:=by rcases h with rfl | rfl | rfl | rfl<;>rfl
def DM.code{b:Bool}{cs:List Nat}{ns:List Int}(C:DM b cs ns)(hl:wY cs):uW b ns=cs:=by
 unfold uW;apply m6
 ·simp[C.len]
 ·intro i h1 h2;simp only[List.getElem_map,List.getElem_range];rw[C.lets false (i+1) (by lia) (by lia),C.lets true (i+1) (by lia) (by lia),iY];have e:cs.getD i 0=cs[i]:=by rw[cP,aW h2];rfl
  rw[e,IW (hl _ (iE h2))]
def HL{L R:List Int}{i:Nat}(E:EE L R)(h:L.length+R.length<=1):gZ L R [] i=none:=by
 have z:=E.z1;have:L.length+R.length=1:=by
  have h2:(L++R.reverse).length≠0:=λe=>by rw[dQ.mp e] at z;simp at z
  simp at h2;have:L.length+R.length≠0:=λe=>h2 (dQ.mp (by lia)) (dQ.mp (by lia));lia
 show (if L.length+R.length=1 then none else some i)=none;rw[W5 this]
end Rm
namespace L2
open PySem PySem.Spec PyProof.Rows
def G9(lo:Int)(n:Nat):It:=⟨λi _=>i<n,λi H x H'=>H'=H/\x=.int (lo+i*2),λi _=>n<=i⟩
def pO(a b:Int):Builtin.Range.rangeSize a b 2=(((b-a+1) / 2).toNat:Int):=by
 unfold Builtin.Range.rangeSize;simp
 split<;>lia
def CB{a b:Int}(ha:-(2 ^ 61)<=a)(ha':a<2 ^ 61)(hb:-(2 ^ 61)<=b)(hb':b<2 ^ 61):Builtin.Range.small a b 2=true:=by
 unfold Builtin.Range.small;rw[pO];simp only[Builtin.Range.rangeFitsLong,cQ,nT,W6,beq_iff_eq,show (2:Int) > 0 by decide,W9];lia
section
def B2(ta:TA):TI:=λσ H R=>ta σ H λvs H1=>∃i j:Int,vs=[.int i,.int j,.int 2]/\(-(2 ^ 61)<=i/\i<2 ^ 61/\-(2 ^ 61)<=j/\j<2 ^ 61)/\R (G9 i ((j-i+1) / 2).toNat) H1
def Js{σ:St}{H:Hp}{D:Ends}{ta:TA}{g:TG}{tb:TS}:pJ (B2 ta) g tb D σ H=ta σ H λvs H1=>∃i j:Int,vs=[.int i,.int j,.int 2]/\(-(2 ^ 61)<=i/\i<2 ^ 61/\-(2 ^ 61)<=j/\j<2 ^ 61)/\oV (G9 i ((j-i+1) / 2).toNat) g tb D σ H1:=rfl
def AI{lo:Int}{n:Nat}{g:TG}{tb:TS}{D:Ends}{σ:St}{H:Hp}(Pv:Nat->St->Hp->Prop)(h0:Pv 0 σ H)
  (hs:∀i σ H,i<n->Pv i σ H->g (.int (lo+i*2)) σ H λσ2 H2=>tb { D with nx:=Pv (i+1),ct:=Pv (i+1),bk:=D.nx } σ2 H2) (hd:∀σ H,Pv n σ H->D.nx σ H):oV (G9 lo n) g tb D σ H:=by
 refine⟨λi m σ H=>m+i=n/\Pv i σ H,⟨n,rfl,h0⟩,?_⟩;rintro i m σ H ⟨hm,hp⟩;by_cases hi:i<n
 ·refine .inr ⟨hi,Pv (i+1),λσ' H' h=>⟨m - 1,by lia,by lia,h⟩,?_⟩;rintro v H' ⟨rfl,rfl⟩;exact hs i σ H' hi hp
 ·have e:i=n:=by lia
  subst e;exact .inl ⟨aI _,hd σ H hp⟩
end
end L2
namespace Rm
open PySem L2
def qH(d:PyData)(n:Nat):Bool:=fh d&&(decide (0<=intOf d)&&decide (intOf d<n))
def vV:Sp:=λvs H Q _=>∃v d n,vs=[v,.int ((n:Nat):Int)]/\Dat H v d/\Q (.bl (qH d n)) H
def Fb(a b:List Int):mx (a++b)=max (mx a) (mx b):=by
 induction a with
 | nil=>have:=Fa b;simp only[bA,mx];lia
 | cons x a ih=>simp only[dS,mx,ih];lia
def IQ(a b:List Int):mx (a++b)=mx (b++a):=by rw[Fb,Fb];lia
def MN:Option (List Int×List Int)->Option (List Int×List Int)
 | none=>none
 | some (a,b)=>some (b,a)
def Ii(L R:List Int):cZ R L 97=MN (cZ L R 97)/\cZ R L 98=MN (cZ L R 99)/\cZ R L 99=MN (cZ L R 98)/\cZ R L 100=MN (cZ L R 100):=by
 refine⟨?_,?_,?_,?_⟩
 ·simp[cZ,MN,IQ R L]
 ·by_cases hL:L=[]
  ·subst hL;rw[nE,nD];rfl
  ·obtain⟨P,v,rfl⟩:=cG hL;rw[pT,pS];rfl
 ·by_cases hR:R=[]
  ·subst hR;rw[nE,nD];rfl
  ·obtain⟨P,v,rfl⟩:=cG hR;rw[pT,pS];rfl
 ·by_cases hL:L=[]
  ·subst hL;rw[mz,mw];rfl
  ·by_cases hR:R=[]
   ·subst hR;rw[mz,mw];rfl
   ·obtain⟨P,x,rfl⟩:=cG hL;obtain⟨Q,y,rfl⟩:=cG hR;rw[pR,pR];by_cases e:x=y
    ·rw[W5 e,W5 e.symm];rfl
    ·rw[W4 e,W4 (bc e),Int.min_comm y x,Int.max_comm y x];rfl
def cmp_swap:∀(n:Nat) (L R:List Int),dG n R L=dG n L R
 | 0,L,R=>by simp only[dG];rw[Nat.add_comm]
 | n+1,L,R=>by
  have key:∀o,eE n (MN o)=eE n o:=λo=>by
   rcases o with _ | ⟨a,b⟩
   ·rfl
   ·exact cmp_swap n a b
  obtain⟨h1,h2,h3,h4⟩:=Ii L R;rw[f9,f9,h1,h2,h3,h4,key,key,key,key];lia
def fT(o:List Int):List Int:=[0]++o++[(o.length:Int)+1]
def MR(r:List Int)(k:Nat):Int×Int:=(min (r.getD k 0) (r.getD (k+1) 0),max (r.getD k 0) (r.getD (k+1) 0))
def u5(r:List Int)(t:Nat)(n:Nat):List (Int×Int):=(List.range n).map λj=>MR r (t+j*2)
def x2(a b:Int×Int):Bool:=decide (a.1<b.1)&&(decide (b.1<a.2)&&decide (a.2<b.2))
def Jk(bs:List (Int×Int)):Bool:=bs.any λa=>bs.any λb=>x2 a b
def KS(o:List Int)(t:Nat):Bool:=Jk (u5 (fT o) t ((o.length+2-t) / 2))
def y6(o:List Int):Bool:=KS o 0 || KS o 1
def zF(C:Addr):Sp:=λvs H Q E=>∃v d,vs=[v]/\Dat H v d/\((qH d 21=true/\Q (.bl true) H)\/(qH d 21=false/\E (.ref C) none H))
def Ay(C:Addr):Sp:=λvs H Q E=>∃v d,vs=[v]/\Dat H v d/\((∃n:Nat,n<=12/\d=.int (n:Int)/\∀H',aP H H'->Q (.int ((dG n [0] []:Nat):Int)) H')\/(qH d 21=false/\E (.ref C) none H))
def KO{cs:List Nat}{i:Nat}:(tx cs).cps[i]? = cs[i]?:=by simp[tx]
def HB{cs:List Nat}(h:∀c∈cs,c<128):(tx cs).cps.all (·<128)=true:=by
 rw[Array.all_eq_true'];intro x hx;have:=h x (by simpa [tx] using hx);exact W8 this
def sJ{cs:List Nat}(h:wY cs):(tx cs).cps.all (·<128)=true:=HB λx hx=>by rcases h x hx with z | z | z | z<;>lia
end Rm
namespace L2
open PySem PySem.Spec PyProof.Rows
def zX{X:Cx}{a b c d:Expr}{ta tb tc td:TE}{pos:Pos}{op op' op2:CmpOp}{r r' r2:R2}(ho:jt X (compareOp op) r)(ho':jt X (compareOp op') r')(ho2:jt X (compareOp op2) r2)(ha:QE X a ta)(hb:QE X b tb)(hc:QE X c tc)(hd:QE X d td)
  (hm:lastMarks [op,op',op2] [b,c,d]=false:=by with_unfolding_all rfl):QE X (.Compare a [op,op',op2] [b,c,d] pos) (rj r r' r2 ta tb tc td):=⟨by
 intro pins s σ H Q I h;refine Compare_chain (dJ (ha.h pins s σ H _ I h) λv s1 ⟨x,H1,I1,r1,q1⟩=>chain_link (dJ (hb.h pins s1 σ H1 _ I1 q1) λu s2 ⟨y,H2,I2,r2',q2⟩=>
  dJ (ho pins s2 σ H2 x y v u _ I2 r1 r2' q2) λe s3 ⟨z,H3,I3,r3,k,ek,q3⟩=>?_)) hm
 subst ek;cases r3;refine Vy ?_;cases k with
 | false=>exact ite_ff ⟨.bl false,H3,I3,rfl,q3⟩
 | true=>
  refine ite_tt (chain_link (dJ (hc.h pins s3 σ H3 _ I3 q3) λw' s4 ⟨z',H4,I4,r4,q4⟩=>dJ (ho' pins s4 σ H4 y z' u w' _ I4 r2' r4 q4) λd' s5 ⟨z2,H5,I5,r5,k2,e2,q5⟩=>?_));subst e2;cases r5;refine Vy ?_;cases k2 with
  | false=>exact ite_ff ⟨.bl false,H5,I5,rfl,q5⟩
  | true=>exact ite_tt (chain_last (dJ (hd.h pins s5 σ H5 _ I5 q5) λw2 s6 ⟨z3,H6,I6,r6,q6⟩=>ho2 pins s6 σ H6 z' z3 w' w2 Q I6 r4 r6 q6))⟩
def rP.keep{dO:Option Addr}{e:Addr}{h h':Heap}(c:rP dO e h)(k:∀o,h.get? e=some o->h'.get? e=some o):rP dO e h':=by
 obtain⟨o,vs,e1,e2,e3⟩:=c;exact⟨o,vs,k o e1,e2,e3⟩
def rX{prog:Program}{w:World}{A:Around}{E:Value->Shared->Prop}{s:Shared}{it t hx:Addr}{i:Nat}{items:Array Value}{Q:Option Value->Shared->Prop}{dO:Option Addr}(hh:A.handled=some (.ref hx))(hc:rP dO hx s.heap)(hne:hx≠it)
  (hit:s.heap.IsTupleIter it t i) (ht:s.heap.IsTuple t items) (hxn:items[i]? = none)
  (hQ:∀h',Heap.ExtBut it s.heap h'->Q none { s with heap:=h' }):wpAny (model prog w) A (pyNext (.ref it)) Q E s:=by
 obtain⟨o0,ho,hc0,hd⟩:=id hit;obtain⟨ol,hol,_,nl,hdl⟩:=ht;unfold pyNext;refine wpAny_bind (WR (wpAny_callSpecial?_slot (name:=Str.ofString "__next__") hit.typeIs cf
  (WQ cf hit.typeIs gY ?_ (gH _))))
 show wpAny _ _ (field (.ref it) 0>>=_) _ _ s;refine wpAny_bind (WS ho hd (x:=.ref t) rfl ?_);show wpAny _ _ (if (Value.ref t==Value.none)=true then _ else _) _ _ s;rw[W4 (show ¬((Value.ref t==Value.none)=true) from aq)];show wpAny _ _ (field (.ref it) 1>>=_) _ _ s;refine wpAny_bind (WS ho hd (x:=.int i 0) rfl ?_);show wpAny _ _ (seqItems? (.ref t)>>=_) _ _ s;refine wpAny_bind (WX hol hdl ?_);simp only[fM,hxn];refine wpAny_bind (wpAny_rule (wpAny_bind (WT ho hd (by simp) ?_)));generalize hg:s.heap.update it _=g;have kg:Heap.ExtBut it s.heap g:=by rw[<-hg];exact(kD ..).extBut
 have szg:g.objs.size=s.heap.objs.size:=by rw[<-hg];simp[Heap.update]
 have hcg:rP dO hx g:=hc.keep λo q=>kg hx o hne q;show wpAny (model prog w) A.in1 (Bind.bind (newExc (Value.type "StopIteration") []) raiseNew) _ _ _;refine wpAny_bind ?_;show wpAny (model prog w) A.in1 (Bind.bind (newTuple []) _) _ _ _;refine wpAny_bind (WO (wpAny_bind (wpAny_of_eq (Eq.refl (firstArgMember (Value.type "StopIteration") [])) (WO ?_))));generalize hh1:(g.push _).push _=h1;unfold raiseNew;refine wpAny_bind (wpAny_handled ?_);rw[show A.in1.handled=some (.ref hx) from hh];dsimp only;obtain⟨o,vs,e1,⟨_,e2⟩,e3⟩:=hcg;have lt:=aN e1;have sz:(g.push { cls:=Value.type "tuple",data:=Data.seq #[] }).objs.size=g.objs.size+1:=bq _ _;rw[sz];have nx:hx≠g.objs.size+1:=aV (bS lt);have k1:∀b u,g.get? b=some u->h1.get? b=some u:=λb u q=>by
  rw[<-hh1];exact aA _ (aA _ q)
 have new1:∃ob ws,h1.get? (g.objs.size+1)=some ob/\ob.data=.fields ws/\2<ws.size/\ob.cls=.type "StopIteration":=by
  rw[<-hh1,<-sz];exact⟨_,_,aL _ rfl,rfl,by rw[lY];exact aT (show 2<6 by decide) (mU _ _),rfl⟩
 obtain⟨ob,ws,n1,n2,n3,n4⟩:=new1;rw[W5 (by simp[nx])];refine wpAny_bind (WB (runValue_entry pK ?_));show wpAny _ _ (Bind.bind (field (Value.ref hx) 2) _) _ _ _;refine wpAny_bind (WS (k1 _ _ e1) e2 e3 ?_);rw[W5 (show (Value.none==Value.none)=true from rfl)];refine WE ⟨_,rfl,?_⟩;show wpAny _ _ (Bind.bind (setField (Value.ref (g.objs.size+1)) 2 (Value.ref hx)) _) _ _ _;refine wpAny_bind (WT n1 n2 n3 (wpAny_throw ?_));have up:=c7 (Obj.mapFields λz=>z.setIfInBounds 2 (Value.ref hx)) n1 (by obtain⟨c,d,da,sl⟩:=ob;cases n2;rfl);refine wpAny_bind (wpAny_isInstance (T:="StopIteration") ⟨_,up,by obtain⟨c,d,da,sl⟩:=ob;cases n2;exact n4⟩ isSubtype_stop (WE (hQ _ λb o hb q=>?_)));have qg:=kg b o hb q;have ne:b≠g.objs.size+1:=aV (bS (aN qg));exact fy _ (bc ne) (k1 b o qg)
def qN{prog:Program}{w:World}{A:Around}{hx:Addr}{dO:Option Addr}(hh:A.handled=some (.ref hx))(I ax:Addr)(hne:ax≠I)(hnx:hx≠I)(items:Array Value):
  Walks prog w A I [I,ax,hx] [I] items.size (λi v=>items[i]? = some v) (λi h=>(h.IsTupleIter I ax i/\h.IsTuple ax items)/\rP dO hx h) where
 sub:=λb hb=>by simp at hb;simp[hb]
 frame:=λ_ _ _ st hk=>⟨⟨st.1.1.at λo e=>hk I (by simp) o e,st.1.2.at λo e=>hk ax (by simp) o e⟩,st.2.keep λo e=>hk hx (by simp) o e⟩
 item:=λi s Q E hi st hQ=>by
  refine wpAny_pyNext_tuple_item st.1.1 st.1.2 (x:=items[i]) (by simp[hi]) λh' hit' hs'=>?_;exact hQ _ h' s.toks (by simp[hi]) ⟨⟨hit',st.1.2.extBut hs'.extBut hne⟩,st.2.keep λo e=>hs'.extBut hx o hnx e⟩ λb o hb e=>hs'.extBut b o (λh=>hb (by simp[h])) e
 done:=λs Q E st hQ=>rX hh st.2 hnx st.1.1 st.1.2 (by simp) λh' he'=>hQ h' s.toks λb o hb e=>he' b o (λh=>hb (by simp[h])) e
 self:=λ_ _ _ _ st hQ=>wpAny_pyIter_tupleiter st.1.1 hQ
def Ff{prog:Program}{w:World}{A:Around}{E:Value->Shared->Prop}{s:Shared}{hx:Addr}{dO:Option Addr}{a b:Int}{t u:Tok}{Q:Value->Shared->Prop}(hh:A.handled=some (.ref hx))(hc:rP dO hx s.heap)
  (h:∀h' tk,(∀c o,s.heap.get? c=some o->h'.get? c=some o)->Q (if b > a then .int b u else .int a t) { s with heap:=h',toks:=tk }) :
  wpAny (model prog w) A (call (.builtin "max") [.int a t,.int b u]) Q E s:=by
 have hT:(s.heap.push { cls:=.type "tuple",data:=.seq #[.int a t,.int b u] }).IsTuple s.heap.objs.size (intItems #[(a,t),(b,u)]):=⟨_,aL _ rfl,rfl,0,by simp[intItems]⟩
 refine call_max_two (WF hT ?_);have hlt:hx<s.heap.objs.size:=by obtain⟨_,_,e1,_⟩:=hc;exact aN e1
 have hsz:(s.heap.push { cls:=.type "tuple",data:=.seq #[.int a t,.int b u] }).objs.size=s.heap.objs.size+1:=bq ..;refine⟨_,[_,s.heap.objs.size,hx],[_],_,_,_,_,rfl,qN (A:=A.in1) (dO:=dO) hh _ s.heap.objs.size (by rw[hsz];exact aV (eX _)) (by rw[hsz];exact aV (bS hlt)) (intItems #[(a,t),(b,u)]),
  ⟨⟨⟨_,aL _ rfl,rfl,rfl⟩,hT.push _⟩,hc.keep λo e=>aA _ (aA _ e)⟩,λc hcm=>?_,by simp[intItems],CmpOf.ints_gt (numAt #[(a,t),(b,u)]) (λ_ _=>intItems_at),λv h' tk hP hk=>?_⟩
 ·show c<((s.heap.push _).push _).objs.size;rw[bq,hsz];rcases aF.mp hcm with rfl | hc
  ·rw[hsz];exact eX _
  ·rcases aF.mp hc with rfl | hc
   ·exact bS (eX _)
   ·rcases aF.mp hc with rfl | hc
    ·exact bS (bS hlt)
    ·cases hc
 ·have hold:∀c o,s.heap.get? c=some o->h'.get? c=some o:=λc o e=>by
   refine hk c o (λhm=>?_) (aA _ (aA _ e));rcases aF.mp hm with e1 | hm
   ·have:=aN e;rw[e1,hsz] at this;exact cS _ (Nat.lt_of_succ_lt this)
   ·cases hm
  have:=h h' tk hold;have hv:v=if b > a then Value.int b u else Value.int a t:=by
   have hP':(intItems #[(a,t),(b,u)])[argBest (λi j=>decide (numAt #[(a,t),(b,u)] i > numAt #[(a,t),(b,u)] j)) 1]? = some v:=by
    have hsz2:(intItems #[(a,t),(b,u)]).size - 1=1:=by simp[intItems]
    rw[<-hsz2];exact hP
   by_cases hba:b > a
   ·have e:argBest (λi j=>decide (numAt #[(a,t),(b,u)] i > numAt #[(a,t),(b,u)] j)) 1=1:=by simp[argBest,numAt,hba]
    rw[e] at hP';simpa [intItems,hba] using hP'.symm
   ·have e:argBest (λi j=>decide (numAt #[(a,t),(b,u)] i > numAt #[(a,t),(b,u)] j)) 1=0:=by simp[argBest,numAt,hba]
    rw[e] at hP';simpa [intItems,hba] using hP'.symm
  rw[hv];exact this
def AW {X:Cx} {a:Addr} (hh:X.A.handled=some (.ref a)):fN X (.builtin "max") (λxs H Q=>(∃C dO,H a=some (lG dO C a))/\∃i j,xs=[.int i,.int j]/\Q (.int (if j > i then j else i)) H):=by
 intro pins s σ H xs us Q I r h;obtain⟨⟨C,dO,hC⟩,i,j,rfl,q⟩:=h;obtain⟨u,w',rfl,⟨t,rfl⟩,⟨t',rfl⟩⟩:=vals2 r;have ct:rP dO a s.heap:=by
  obtain⟨⟨_,c⟩,_⟩:=I.hok a _ hC;exact c
 refine Ff hh ct λh' tk k=>⟨_,H,I.kept k,?_,q⟩
 by_cases hj:j > i
 ·rw[W5 hj,W5 hj];exact⟨_,rfl⟩
 ·rw[W4 hj,W4 hj];exact⟨_,rfl⟩
def Fe{prog:Program}{w:World}{A:Around}{E:Value->Shared->Prop}{s:Shared}{hx:Addr}{dO:Option Addr}{a b:Int}{t u:Tok}{Q:Value->Shared->Prop}(hh:A.handled=some (.ref hx))(hc:rP dO hx s.heap)
  (h:∀h' tk,(∀c o,s.heap.get? c=some o->h'.get? c=some o)->Q (if b<a then .int b u else .int a t) { s with heap:=h',toks:=tk }) :
  wpAny (model prog w) A (call (.builtin "min") [.int a t,.int b u]) Q E s:=by
 have hT:(s.heap.push { cls:=.type "tuple",data:=.seq #[.int a t,.int b u] }).IsTuple s.heap.objs.size (intItems #[(a,t),(b,u)]):=⟨_,aL _ rfl,rfl,0,by simp[intItems]⟩
 refine call_min_two (WF hT ?_);have hlt:hx<s.heap.objs.size:=by obtain⟨_,_,e1,_⟩:=hc;exact aN e1
 have hsz:(s.heap.push { cls:=.type "tuple",data:=.seq #[.int a t,.int b u] }).objs.size=s.heap.objs.size+1:=bq ..;refine⟨_,[_,s.heap.objs.size,hx],[_],_,_,_,_,rfl,qN (A:=A.in1) (dO:=dO) hh _ s.heap.objs.size (by rw[hsz];exact aV (eX _)) (by rw[hsz];exact aV (bS hlt)) (intItems #[(a,t),(b,u)]),
  ⟨⟨⟨_,aL _ rfl,rfl,rfl⟩,hT.push _⟩,hc.keep λo e=>aA _ (aA _ e)⟩,λc hcm=>?_,by simp[intItems],CmpOf.ints_lt (numAt #[(a,t),(b,u)]) (λ_ _=>intItems_at),λv h' tk hP hk=>?_⟩
 ·show c<((s.heap.push _).push _).objs.size;rw[bq,hsz];rcases aF.mp hcm with rfl | hc
  ·rw[hsz];exact eX _
  ·rcases aF.mp hc with rfl | hc
   ·exact bS (eX _)
   ·rcases aF.mp hc with rfl | hc
    ·exact bS (bS hlt)
    ·cases hc
 ·have hold:∀c o,s.heap.get? c=some o->h'.get? c=some o:=λc o e=>by
   refine hk c o (λhm=>?_) (aA _ (aA _ e));rcases aF.mp hm with e1 | hm
   ·have:=aN e;rw[e1,hsz] at this;exact cS _ (Nat.lt_of_succ_lt this)
   ·cases hm
  have:=h h' tk hold;have hv:v=if b<a then Value.int b u else Value.int a t:=by
   have hP':(intItems #[(a,t),(b,u)])[argBest (λi j=>decide (numAt #[(a,t),(b,u)] i<numAt #[(a,t),(b,u)] j)) 1]? = some v:=by
    have hsz2:(intItems #[(a,t),(b,u)]).size - 1=1:=by simp[intItems]
    rw[<-hsz2];exact hP
   by_cases hba:b<a
   ·have e:argBest (λi j=>decide (numAt #[(a,t),(b,u)] i<numAt #[(a,t),(b,u)] j)) 1=1:=by simp[argBest,numAt,hba]
    rw[e] at hP';simpa [intItems,hba] using hP'.symm
   ·have e:argBest (λi j=>decide (numAt #[(a,t),(b,u)] i<numAt #[(a,t),(b,u)] j)) 1=0:=by simp[argBest,numAt,hba]
    rw[e] at hP';simpa [intItems,hba] using hP'.symm
  rw[hv];exact this
def AU {X:Cx} {a:Addr} (hh:X.A.handled=some (.ref a)):fN X (.builtin "min") (λxs H Q=>(∃C dO,H a=some (lG dO C a))/\∃i j,xs=[.int i,.int j]/\Q (.int (if j<i then j else i)) H):=by
 intro pins s σ H xs us Q I r h;obtain⟨⟨C,dO,hC⟩,i,j,rfl,q⟩:=h;obtain⟨u,w',rfl,⟨t,rfl⟩,⟨t',rfl⟩⟩:=vals2 r;have ct:rP dO a s.heap:=by
  obtain⟨⟨_,c⟩,_⟩:=I.hok a _ hC;exact c
 refine Fe hh ct λh' tk k=>⟨_,H,I.kept k,?_,q⟩
 by_cases hj:j<i
 ·rw[W5 hj,W5 hj];exact⟨_,rfl⟩
 ·rw[W4 hj,W4 hj];exact⟨_,rfl⟩
def AE{A:Around}{a:Addr}{k:Nat}(hr:mQ a k A):A.units+64<cLine:=by have:=hr.un;lia
def Na(X:Cx)(pins:List (Addr×Obj))(σ:St)(R:It->Hp->Prop)(itv:Value)(s2:Shared):Prop:=
 ∃(it:Addr) (lo:Int) (n:Nat) (H':Hp),itv=.ref it/\bX X pins σ H' s2/\IsRangeIter s2.heap it (lo+((0:Nat):Int)*2) ((n:Int)-((0:Nat):Int)) 2/\oU X pins H' it/\R (G9 lo n) H'
def zP{X:Cx}{pins:List (Addr×Obj)}{σ:St}{H:Hp}{s:Shared}{R:It->Hp->Prop}{E:Value->Shared->Prop}{lo hi:Int}{t u v:Tok}{tk:Nat}(I:bX X pins σ H s)(h1:-(2 ^ 61)<=lo)(h2:lo<2 ^ 61)(h3:-(2 ^ 61)<=hi)(h4:hi<2 ^ 61)
  (q:R (G9 lo ((hi-lo+1) / 2).toNat) H):wpAny (model X.prog X.w) X.A (pyIter (.ref s.heap.objs.size)) (Na X pins σ R) E { s with heap:=s.heap.push { cls:=.type "range",data:=.fields #[.int lo t,.int hi u,.int 2 v] },toks:=tk }:=by
 refine WG (IsRange.new ..) (CB h1 h2 h3 h4) ?_;have I1:bX X pins σ H { s with heap:=s.heap.push { cls:=.type "range",data:=.fields #[.int lo t,.int hi u,.int 2 v] },toks:=tk }:=I.kept λb o e=>aA _ e;refine⟨(s.heap.push { cls:=.type "range",data:=.fields #[.int lo t,.int hi u,.int 2 v] }).objs.size,lo,((hi-lo+1) / 2).toNat,H,rfl,
  I1.kept (t':=tk) λb o e=>aA _ e,?_,I1.fpOk (aI _) (I1.hok.fresh (aI _)),q⟩
 have e1:lo+((0:Nat):Int)*2=lo:=by simp
 have e2:((((hi-lo+1) / 2).toNat:Nat):Int)-((0:Nat):Int)=Builtin.Range.rangeSize lo hi 2:=by rw[pO];simp
 show IsRangeIter _ _ (lo+((0:Nat):Int)*2) (((((hi-lo+1) / 2).toNat:Nat):Int)-((0:Nat):Int)) 2;rw[e1,e2];exact aL _ rfl
def z8 {X:Cx} {a b c:Expr} {ta:TA} {p pos:Pos} (hg:Gl X "range") (hm:X.mg "range"=none) (ha:QA X [a,b,c] ta) (hs:starEach [a,b,c] X.env=(false,eval a X.env)::starEach [b,c] X.env) (hpl:(backTo pos (starEach [b,c] X.env)).any (·.1)=false) (pins:List (Addr×Obj)) (s:Shared) (σ:St) (H:Hp) (R:It->Hp->Prop) (I:bX X pins σ H s) (h:B2 ta σ H R) :
  wpAny (model X.prog X.w) X.A (eval (.Call (.Name "range" p) [a,b,c] [] pos) X.env) (λv s1=>wpAny (model X.prog X.w) X.A (pyIter v) (Na X pins σ R) X.xe s1) X.xe s:=by
 refine Call_ (jm I hg hm boot_range (bW (dJ (ha.h pos pins s σ H _ I h) λus s1 ⟨vs,H1,I1,r1,q1⟩=>?_) hs hpl));obtain⟨i,j,e,⟨q1,q2,q3,q4⟩,q⟩:=q1;subst e;cases r1 with
 | cons r rr=>
  cases rr with
  | cons r' rr=>
   cases rr with
   | cons r'' rr=>
    cases rr;obtain⟨t,rfl⟩:=r;obtain⟨t',rfl⟩:=r';obtain⟨t'',rfl⟩:=r'';exact call_range_3 (by decide) (zP I1 q1 q2 q3 q4 q)
def yz(a:Addr)(ta:TA)(g:TG)(tb:TS):TS:=λD σ H=>pJ (B2 ta) g tb { D with nx:=λσ H=>(∃C dO,H a=some (lG dO C a))/\D.nx σ H } σ H
def Gu{a:Addr}{ta:TA}{g:TG}{tb:TS}{D:Ends}{σ:St}{H:Hp}:yz a ta g tb D σ H=pJ (B2 ta) g tb { D with nx:=λσ H=>(∃C dO,H a=some (lG dO C a))/\D.nx σ H } σ H:=rfl
def CN {X:Cx} {tg:Expr} {a:Addr} {e e1 e2:Expr} {ta:TA} {body:List Stmt} {g:TG} {tb:TS} {p ipos pos:Pos} (hp:PassesOwn (model X.prog X.w) X.A X.env X.xe) (hh:X.A.handled=some (.ref a)) (hgr:Gl X "range") (hm:X.mg "range"=none) (ha:QA X [e,e1,e2] ta) (hg:QG X tg g) (hb:ij X body tb)
  (hse:starEach [e,e1,e2] X.env=(false,eval e X.env)::starEach [e1,e2] X.env:=by rfl) (hpl:(backTo ipos (starEach [e1,e2] X.env)).any (·.1)=false:=by rfl) (hs:∀x,foldedSetIterable (.Call (.Name "range" p) [e,e1,e2] [] ipos) X.env x=pure x:=by intro _;rfl):QS X (.For tg (.Call (.Name "range" p) [e,e1,e2] [] ipos) body [] pos) (yz a ta g tb):=⟨by
 intro pins s σ H D I h;unfold yz pJ at h;refine wpAny_For (dJ (z8 hgr hm ha hse hpl pins s σ H _ I h) λv s1 h1=>dJ h1 λitv s2 h2=>?_) hs;obtain⟨it,lo,n,H2,e,I2,st2,f2,W,⟨m0,w0⟩,turn⟩:=h2;subst e;have stat:∀{H':Hp},H' it=none->∀b∈[it],oU X pins H' b:=λhn b hb=>by
  have e:b=it:=by simpa using hb
  subst e;exact⟨hn,f2.2⟩
 refine codeAny_forLoop_any (λm s'=>∃i σ' H',bX X pins σ' H' s'/\IsRangeIter s'.heap it (lo+(i:Nat)*2) ((n:Int)-(i:Nat)) 2/\H' it=none/\W i m σ' H') ?_ m0 ⟨0,σ,H2,I2,st2,f2.1,w0⟩;rintro m s3 ⟨i,σ3,H3,I3,st3,fr3,w3⟩;obtain⟨f0,f1,f2',f3,f4,f5⟩:=stat fr3 it (by simp);rcases turn i m σ3 H3 w3 with ⟨stop,⟨C,dO,hC⟩,qn⟩ | ⟨go,N,hN,step⟩
 ·have ct:rP dO a s3.heap:=by
   obtain⟨⟨_,c⟩,_⟩:=I3.hok a _ hC;exact c
  refine WD hp (rY hh ct st3 (by have:n<=i:=stop;lia) λh' eb=>?_);exact Vz ⟨σ3,H3,I3.turned (t':=s3.toks) (λb o hb e=>eb b o hb e) f0 f1 f3 f4 f5,qn⟩
 ·refine WD hp (wpAny_pyNext_range_item st3 (by have:i<n:=go;lia) λh' st' sb=>?_);have I4:bX X pins σ3 H3 { s3 with heap:=h',toks:=s3.toks+1 }:=I3.turned (λb o hb e=>(sb.2 b hb).trans e) f0 f1 f3 f4 f5;have st5:IsRangeIter h' it (lo+((i+1:Nat):Int)*2) ((n:Int)-((i+1:Nat):Int)) 2:=by
   have e1:lo+((i+1:Nat):Int)*2=lo+(i:Nat)*2+2:=by push_cast;lia
   have e2:(n:Int)-((i+1:Nat):Int)=(n:Int)-(i:Nat) - 1:=by push_cast;lia
   rw[e1,e2];exact st'
  refine WD hp (ux (s:={ s3 with heap:=h',toks:=s3.toks+1 }) (n:="range_iterator") st' rfl rfl (by decide) ?_);have I5':=I4.pinned (fp:=[it]) (stat fr3) (λb hb=>by
   have e:b=it:=by simpa using hb
   subst e;exact⟨_,st5,λv z=>by
    have z':Data.fields _=Data.cell v:=z;cases z'⟩)
  refine WD hp (dJ (hg.h _ _ σ3 H3 (.int (lo+i*2)) _ _ I5' ⟨_,rfl⟩ (step (.int (lo+i*2)) H3 ⟨rfl,rfl⟩)) λ_ s6 ⟨σ6,H6,I6,q6⟩=>?_);refine WD hp (dJ (hb.h _ s6 σ6 H6 _ I6 q6) λf s7 q7=>?_);have again:∀{σ7:St} {H7:Hp},bX X (pins++l6 [it] h') σ7 H7 s7->N σ7 H7->∃m',m'<m/\∃i σ' H',bX X pins σ' H' s7/\IsRangeIter s7.heap it (lo+(i:Nat)*2) ((n:Int)-(i:Nat)) 2/\H' it=none/\W i m' σ' H':=fun {σ7 H7} I7 n7=>by
   obtain⟨m',hm,w7⟩:=hN σ7 H7 n7;have pq:=I7.pin (it,_) (af _ (af _ (jS (by simp) st5)));exact⟨m',hm,i+1,σ7,H7,I7.unpinned,pq.1,pq.2.1,w7⟩
  cases f with
  | next=>obtain⟨σ7,H7,I7,n7⟩:=q7;exact again I7 n7
  | cont=>obtain⟨σ7,H7,I7,n7⟩:=q7;exact again I7 n7
  | brk=>obtain⟨σ7,H7,I7,q7⟩:=q7;exact⟨σ7,H7,I7.unpinned,q7.2⟩
  | ret v=>obtain⟨x7,σ7,H7,I7,r7,q7⟩:=q7;exact⟨x7,σ7,H7,I7.unpinned,r7,q7⟩⟩
end L2
namespace Rm
open PySem L2 PyProof.Rows
def yg(o:List Int){k:Nat}(h:k<=o.length):MR (fT o) k=jz o k:=by
 have e:fT o=ef o:=by simp[fT,ef]
 unfold MR jz bj;rw[e]
def sE{b:Bool}{o:List Int}{t:Nat}{u:Bool}(ht:t=0/\u=b\/t=1/\u=!b){p:Bw}:p∈u5 (fT o) t ((o.length+2-t) / 2)<->p∈bE b o u (o.length+1):=by
 unfold u5 bE;rw[bN,bN];constructor
 ·rintro⟨j,hj,rfl⟩;have hj:=dr.mp hj;refine⟨t+j*2,gB.mpr ⟨dr.mpr (by lia),?_⟩,(yg o (by lia)).symm⟩;unfold dc odd;rcases ht with ⟨rfl,rfl⟩ | ⟨rfl,rfl⟩
  ·rw[show (0+j*2) % 2=0 by lia];cases u<;>rfl
  ·rw[show (1+j*2) % 2=1 by lia];cases b<;>rfl
 ·rintro⟨i,hi,rfl⟩;obtain⟨h1,h2⟩:=gB.mp hi;have h1:=dr.mp h1;have h3:i % 2=t:=by
   unfold dc odd at h2;rcases ce i with e | e
   ·rw[e] at h2;rcases ht with ⟨rfl,rfl⟩ | ⟨rfl,rfl⟩
    ·exact e
    ·cases b<;>cases h2
   ·rw[e] at h2;rcases ht with ⟨rfl,rfl⟩ | ⟨rfl,rfl⟩
    ·cases u<;>cases h2
    ·exact e
  exact⟨i / 2,dr.mpr (by lia),by rw[show t+i / 2*2=i by lia];exact yg o (by lia)⟩
def A2{ps qs:List Bw}(h:∀p,p∈ps<->p∈qs):Jk ps=false<->∀p∈qs,∀q∈qs,eB p q=false:=by
 unfold Jk;rw[iw];constructor
 ·intro z p hp q hq;have:=z p ((h p).mpr hp);rw[jZ,iw] at this;have:=this q ((h q).mpr hq);rw[jZ] at this;exact this
 ·intro z p hp;rw[jZ,iw];intro q hq;rw[jZ];exact z p ((h p).mp hp) q ((h q).mp hq)
def Iq(b:Bool)(o:List Int):y6 o=false<->NC b o:=by
 unfold y6 KS;rw[Bool.or_eq_false_iff,A2 (λp=>sE (b:=b) (.inl ⟨rfl,rfl⟩)),A2 (λp=>sE (b:=b) (.inr ⟨rfl,rfl⟩))];constructor
 ·rintro⟨h1,h2⟩ u;by_cases e:u=b
  ·rw[e];exact h1
  ·have:u=!b:=by cases u<;>cases b<;>first | rfl | exact absurd rfl e
   rw[this];exact h2
 ·intro h;exact⟨h b,h (!b)⟩
def As:Sp:=λvs H Q _=>∃l r,vs=[.bl l,.bl r]/\Q (.str (tx [IX l r])) H
def BA(M C:Addr):Sp:=λvs H Q E=>∃x d,vs=[x]/\Dat H x d/\Pl d 60/\((mI d=false/\∀H',aP H H'->E (.ref M) none H')\/∃m o b ns,x=.ref m/\fE H m o b ns/\d=L3 b ns/\oQ ns/\(NC b ns->∀H',aP H H'->Q (.str (tx (uW b ns))) H') ∧
 ∀u,∀p∈bE b ns u (ns.length+1),∀q∈bE b ns u (ns.length+1),eB p q=true->∀t dx H',aP H H'->jy H' t u p q->H' dx=some (.xd [("bows",.ref t)])->E (.ref C) (some dx) H')
def Av(a:Addr):Sp:=λvs H Q _=>∃(t o:Addr) (b:Bool) (ns:List Int) (u:Bool) (p q:Bw),vs=[.ref t,.str (sd b),.ref o]/\H o=some (.tup (ns.map V.int))/\oQ ns/\jy H t u p q/\P4 b ns u p q/\(∃C D,H a=some (lG D C a))/\∀H',aP H H'->Q (.bl true) H'
def tI(ns:List Int):PyData:=.tuple (ns.map PyData.int)
def yJ(ns:List Int):∀d∈ns.map PyData.int,Pl d 0:=λd hd=>by obtain⟨n,_,rfl⟩:=bN.mp hd;exact zZ n
def Ee{L R:List Int}:∀(cs:List Nat) (i j:Nat),gZ L R cs i=none->gZ L R cs j=none:=by
 intro cs
 induction cs generalizing L R with
 | nil=>
  intro i j h;unfold gZ at h ⊢
  split at h
  ·rename_i e;rw[W5 e]
  ·cases h
 | cons c cs ih=>
  intro i j h;cases g:cZ L R c with
  | none=>rw[mh g] at h;cases h
  | some p=>
   obtain⟨L',R'⟩:=p;rw[lK g] at h ⊢;exact ih _ _ h
def qi{K:Wb}{H:Hp}{x y:V}{d:PyData}{neg:Bool}{Q:VK}(hx:Dat H x d)(hy:Dat H y d)(lay:d.canLay0=true)(dp:d.depth<=60)(q:Q (.bl (!neg)) H):CL K neg x y H Q:=by
 refine⟨_,_,hx.rep,hy.rep,lay,lay,by rw[Nat.min_self];exact dp,?_⟩;rw[PySem.SeqAt.eqv_refl _ lay];cases neg
 ·exact q
 ·exact q
def iM(S:List Int->List Int->List (List Nat))(c:Nat):Option (List Int×List Int)->List (List Nat)
 | none=>[]
 | some (L,R)=>(S L R).map (c::·)
def eU:Nat->List Int->List Int->List (List Nat)
 | 0,L,R=>if L.length+R.length=1 then [[]] else []
 | n+1,L,R=>iM (eU n) 97 (cZ L R 97)++iM (eU n) 98 (cZ L R 98)++iM (eU n) 99 (cZ L R 99)++iM (eU n) 100 (cZ L R 100)
def v5:∀(n:Nat) (L R:List Int),(eU n L R).length=dG n L R
 | 0,L,R=>by
  unfold eU dG
  split<;>rfl
 | n+1,L,R=>by
  have key:∀c o,(iM (eU n) c o).length=eE n o:=λc o=>by
   rcases o with _ | ⟨a,b⟩
   ·rfl
   ·show ((eU n a b).map _).length=dG n a b;rw[aG,v5 n a b]
  rw[f9];unfold eU;simp only[bH,key]
def tQ(c n:Nat)(L R:List Int):Nat:=(if 97<c then eE n (cZ L R 97) else 0)+(if 98<c then eE n (cZ L R 98) else 0)+(if 99<c then eE n (cZ L R 99) else 0)
def hZ:List Nat->List Int->List Int->Nat
 | [],_,_=>0
 | c::cs,L,R=>tQ c cs.length L R+(match cZ L R c with | none=>0 | some (L',R')=>hZ cs L' R')
def eu{n c:Nat}{o:Option (List Int×List Int)}:(iM (eU n) c o).length=eE n o:=by
 rcases o with _ | ⟨a,b⟩
 ·rfl
 ·show ((eU n a b).map _).length=dG n a b;rw[aG,v5 n a b]
def E4{n c i:Nat}{L R L' R':List Int}{cs:List Nat}(hc:jo c)(g:cZ L R c=some (L',R'))(h:(eU n L' R')[i]? = some cs):(eU (n+1) L R)[tQ c n L R+i]? = some (c::cs):=by
 have hi:i<(eU n L' R').length:=(aK.mp h).1;have at_:(iM (eU n) c (cZ L R c))[i]? = some (c::cs):=by
  rw[g];show ((eU n L' R').map (c::·))[i]? = _;rw[au,h];rfl
 have hl:i<(iM (eU n) c (cZ L R c)).length:=(aK.mp at_).1;unfold eU tQ;rcases hc with rfl | rfl | rfl | rfl
 ·simp only[cS,show ¬(98:Nat)<97 by decide,show ¬(99:Nat)<97 by decide,Wa,kM];rw[aw,aw,bT hl];exact at_
 ·simp only[cS,show (97:Nat)<98 by decide,show ¬(99:Nat)<98 by decide,Wa,W9,Nat.add_zero];rw[aw,aw,ai (by rw[eu];lia),eu,i7,bT hl];exact at_
 ·simp only[cS,show (97:Nat)<99 by decide,show (98:Nat)<99 by decide,Wa,W9,Nat.add_zero];rw[aw,ai (by rw[bH,eu,eu];lia),bH,eu,eu,i7,bT hl];exact at_
 ·simp only[show (97:Nat)<100 by decide,show (98:Nat)<100 by decide,show (99:Nat)<100 by decide,W9];rw[ai (by rw[bH,bH,eu,eu,eu];lia),bH,bH,eu,eu,eu,i7];exact at_
def sW:∀{cs:List Nat} {L R:List Int} {i:Nat},wY cs->gZ L R cs i=none->(eU cs.length L R)[hZ cs L R]? = some cs
 | [],L,R,i,_,h=>by
  unfold gZ at h
  split at h
  ·rename_i e;show (if L.length+R.length=1 then [[]] else [])[0]? = _;rw[W5 e];rfl
  ·cases h
 | c::cs,L,R,i,hl,h=>by
  cases g:cZ L R c with
  | none=>rw[mh g] at h;cases h
  | some p=>
   obtain⟨L',R'⟩:=p;rw[lK g] at h;have:=sW (λx hx=>hl x (aO _ hx)) h;have e:hZ (c::cs) L R=tQ c cs.length L R+hZ cs L' R':=by
    show tQ c cs.length L R+(match cZ L R c with | none=>0 | some (L',R')=>hZ cs L' R')=_;rw[g]
   rw[e];exact E4 (hl c ao) g this
def Iu{n c i:Nat}{o:Option (List Int×List Int)}{cs:List Nat}(h:(iM (eU n) c o)[i]? = some cs):∃L' R' ds,o=some (L',R')/\cs=c::ds/\(eU n L' R')[i]? = some ds:=by
 rcases o with _ | ⟨a,b⟩
 ·simp[iM] at h
 ·have h:((eU n a b).map (c::·))[i]? = some cs:=h;rw[au] at h;cases e:(eU n a b)[i]? with
  | none=>rw[e] at h;cases h
  | some ds=>rw[e] at h;cases h;exact⟨a,b,ds,rfl,rfl,e⟩
def HG{n k:Nat}{L R:List Int}{cs:List Nat}(h:(eU (n+1) L R)[k]? = some cs):∃c i L' R' ds,jo c/\cZ L R c=some (L',R')/\k=tQ c n L R+i/\cs=c::ds/\(eU n L' R')[i]? = some ds:=by
 unfold eU at h;rw[aw,aw] at h;have la:=eu (n:=n) (c:=97) (o:=cZ L R 97);have lb:=eu (n:=n) (c:=98) (o:=cZ L R 98);have lc:=eu (n:=n) (c:=99) (o:=cZ L R 99);have go:∀c j,jo c->(iM (eU n) c (cZ L R c))[j]? = some cs->k=tQ c n L R+j->∃c i L' R' ds,jo c/\cZ L R c=some (L',R')/\k=tQ c n L R+i/\cs=c::ds/\(eU n L' R')[i]? = some ds:=λc j hc h e=>by
  obtain⟨L',R',ds,h1,h2,h3⟩:=Iu h;exact⟨c,j,L',R',ds,hc,h1,e,h2,h3⟩
 by_cases h1:k<(iM (eU n) 97 (cZ L R 97)).length
 ·rw[bT h1] at h;exact go 97 k (.inl rfl) h (by simp[tQ])
 ·rw[ai (by lia)] at h;by_cases h2:k-(iM (eU n) 97 (cZ L R 97)).length<(iM (eU n) 98 (cZ L R 98)).length
  ·rw[bT h2] at h;exact go 98 _ (.inr (.inl rfl)) h (by simp[tQ];lia)
  ·rw[ai (by lia)] at h;by_cases h3:k-(iM (eU n) 97 (cZ L R 97)).length-(iM (eU n) 98 (cZ L R 98)).length<(iM (eU n) 99 (cZ L R 99)).length
   ·rw[bT h3] at h;exact go 99 _ (.inr (.inr (.inl rfl))) h (by simp[tQ];lia)
   ·rw[ai (by lia)] at h;exact go 100 _ (.inr (.inr (.inr rfl))) h (by simp[tQ];lia)
def BJ:∀{n:Nat} {L R:List Int} {k:Nat} {cs:List Nat},(eU n L R)[k]? = some cs->cs.length=n/\wY cs/\(∀i,gZ L R cs i=none)/\k=hZ cs L R
 | 0,L,R,k,cs,h=>by
  unfold eU at h
  split at h
  ·rename_i e;cases k with
   | zero=>cases h;exact⟨rfl,(λx hx=>by cases hx),λi=>by unfold gZ;rw[W5 e],rfl⟩
   | succ k=>simp at h
  ·simp at h
 | n+1,L,R,k,cs,h=>by
  obtain⟨c,i,L',R',ds,hc,g,e,rfl,h'⟩:=HG h;obtain⟨h1,h2,h3,h4⟩:=BJ h';refine⟨by rw[cJ,h1],λx hx=>?_,λj=>by rw[lK g];exact h3 _,?_⟩
  ·rcases aF.mp hx with z | z
   ·rw[z];exact hc
   ·exact h2 x z
  ·show k=tQ c ds.length L R+(match cZ L R c with | none=>0 | some (L',R')=>hZ ds L' R')
   rw[g,h1,e,h4]
def LX{cs:List Nat}{L R:List Int}{i:Nat}(hl:wY cs)(h:gZ L R cs i=none):hZ cs L R<dG cs.length L R:=by
 rw[<-v5];exact(aK.mp (sW hl h)).1
def zc(b:Bool)(cs:List Nat):List Int:=ordF (fin2 b cs) b cs.length
structure DL (b:Bool) (cs:List Nat):Prop where
 lts:wY cs
 len:cs.length<=20
 res:gZ (bL b) (bR b) cs 0=none
def DL.maze{b:Bool}{cs:List Nat}(C:DL b cs):DM b cs (zc b cs):=by
 obtain⟨ns,M⟩:=Cz C.lts C.len C.res;have:zc b cs=ns:=M.ordF;rw[this];exact M
def DL.code{b:Bool}{cs:List Nat}(C:DL b cs):uW b (zc b cs)=cs:=C.maze.code C.lts
def BK{b:Bool}{n k:Nat}{cs:List Nat}(hn:n<=20)(h:(eU n (bL b) (bR b))[k]? = some cs):DL b cs/\cs.length=n/\k=hZ cs (bL b) (bR b):=by
 obtain⟨h1,h2,h3,h4⟩:=BJ h;exact⟨⟨h2,by lia,h3 0⟩,h1,h4⟩
end Rm
namespace L2
open PySem PySem.Spec PyProof.Rows
section
variable {X:Cx}
def HQ(K:Wb):V->List V->Hp->VK->Prop:=λx vs H Q=>∃d es p xs y,x=.ref p/\vs=[y]/\Rep K H y d/\c6 K H p xs/\qJ K H xs es/\d.canLay0=true/\PyData.canLayAll0 es=true/\d.depth<=60/\Q (.int ((es.countP λe=>PyData.eqv e d:Nat):Int)) H
def Dj{K:Wb}{p:Addr}{y:V}{H:Hp}{Q:VK}:HQ K (.ref p) [y] H Q=∃d es xs,Rep K H y d/\c6 K H p xs/\qJ K H xs es/\d.canLay0=true/\PyData.canLayAll0 es=true/\d.depth<=60/\Q (.int ((es.countP λe=>PyData.eqv e d:Nat):Int)) H:=propext ⟨λ⟨d,es,_,xs,_,e,e',h⟩=>by cases e;cases e';exact⟨d,es,xs,h⟩,λ⟨d,es,xs,h⟩=>⟨d,es,p,xs,y,rfl,rfl,h⟩⟩
def BL:V->List V->Hp->VK->Prop:=λx vs H Q=>∃z y,x=.str z/\vs=[.str y]/\∃(i:Nat) (rest:List Nat),Builtin.Str.occurrences z y 0 z.length 1=i::rest/\Q (.int i) H
def Cd:Ng X "str.index" BL:=by
 intro pins s σ H x xs v us Q I r rv h;obtain⟨z,y,rfl,rfl,i,rest,ho,q⟩:=h;obtain⟨t,rfl⟩:=r;obtain⟨u,rfl,t2,rfl⟩:=WI rv;exact SC.index ho ⟨.int i,H,I.tok _,⟨_,rfl⟩,q⟩
def DV{z y:Str}{H:Hp}{Q:VK}:BL (.str z) [.str y] H Q=∃(i:Nat) (rest:List Nat),Builtin.Str.occurrences z y 0 z.length 1=i::rest/\Q (.int i) H:=propext ⟨λ⟨_,_,e,e',h⟩=>by cases e;cases e';exact h,λh=>⟨z,y,rfl,rfl,h⟩⟩
end
def G8(lo:Int)(n:Nat):It:=⟨λi _=>i<n,λi H x H'=>H'=H/\x=.int (lo+i*(-1)),λi _=>n<=i⟩
def wf {P : Program} {w : World} {K : Wb} {tg : Expr} (it : Addr) (lo : Int) (n : Nat) : Turn P w K tg (G8 lo n) [it] it (fun i h => IsRangeIter h it (lo + (i : Nat) * (-1)) ((n : Int) - (i : Nat)) (-1)) where
  mem := by simp
  obj := fun i h st b hb => by
    have e : b = it := by simpa using hb
    subst e
    exact ⟨_, st, fun v z => by
      have z' : Data.fields _ = Data.cell v := z
      cases z'⟩
  keep := fun i h h' st k => k it (by simp) _ st
  item := by
    intro X hP hw hK hc i pins s σ H E I hf st hg
    subst hP hw hK
    obtain ⟨f0, f1, f2, f3, f4, f5⟩ := hf it (by simp)
    have W := Walks.range (prog := X.prog) (w := X.w) (I.ok.hd hc) it lo (-1) n
    refine W.item i s _ _ hg st fun v h' tk hv st' kk => ?_
    obtain ⟨t, rfl⟩ := hv
    have I1 : bX X pins σ H { s with heap := h', toks := tk } := I.turned (fun b o hb e => kk b o (by simpa using hb) e) f0 f1 f3 f4 f5
    exact ⟨_, rfl, ux (s := { s with heap := h', toks := tk }) (n := "range_iterator") st' rfl rfl (by decide) ⟨.int (lo + i * (-1)), H, I1, ⟨t, rfl⟩, ⟨rfl, rfl⟩, st', fun b hb => (hf b hb).1⟩⟩
  done := by
    intro X hP hw hK hc i pins s σ H E I hf st hg
    subst hP hw hK
    obtain ⟨f0, f1, f2, f3, f4, f5⟩ := hf it (by simp)
    exact wpAny_pyNext_range_end (I.ok.hd hc) st (by have : n ≤ i := hg; lia) fun h' eb => ⟨rfl, I.turned (t' := s.toks) (fun b o hb e => eb b o hb e) f0 f1 f3 f4 f5⟩
  self := fun _ _ _ _ _ st h => wpAny_pyIter_rangeiter st h
def pP(a b:Int):Builtin.Range.rangeSize a b (-1)=((a-b).toNat:Int):=by
 unfold Builtin.Range.rangeSize;simp
 split<;>lia
def CD{a b:Int}(ha:-(2 ^ 61)<=a)(ha':a<2 ^ 61)(hb:-(2 ^ 61)<=b)(hb':b<2 ^ 61):Builtin.Range.small a b (-1)=true:=by
 unfold Builtin.Range.small;rw[pP];simp only[Builtin.Range.rangeFitsLong,cQ,nT,W6,beq_iff_eq,show ¬(-1:Int) > 0 by decide,Wa];lia
section
variable {X:Cx} {tg:Expr}
def CI{pins:List (Addr×Obj)}{σ:St}{H:Hp}{s:Shared}{R:It->Hp->Prop}{E:Value->Shared->Prop}{lo hi:Int}{t u v:Tok}{tk:Nat}(I:bX X pins σ H s)(h1:-(2 ^ 61)<=lo)(h2:lo<2 ^ 61)(h3:-(2 ^ 61)<=hi)(h4:hi<2 ^ 61)
  (q:R (G8 lo (lo-hi).toNat) H):wpAny (model X.prog X.w) X.A (pyIter (.ref s.heap.objs.size)) (Oo X pins σ tg R) E { s with heap:=s.heap.push { cls:=.type "range",data:=.fields #[.int lo t,.int hi u,.int (-1) v] },toks:=tk }:=by
 refine WG (IsRange.new ..) (CD h1 h2 h3 h4) ?_;have I1:bX X pins σ H { s with heap:=s.heap.push { cls:=.type "range",data:=.fields #[.int lo t,.int hi u,.int (-1) v] },toks:=tk }:=I.kept λb o e=>aA _ e;refine⟨(s.heap.push { cls:=.type "range",data:=.fields #[.int lo t,.int hi u,.int (-1) v] }).objs.size,[(s.heap.push { cls:=.type "range",data:=.fields #[.int lo t,.int hi u,.int (-1) v] }).objs.size],_,_,H,rfl,
  I1.kept (t':=tk) λb o e=>aA _ e,wf _ lo (lo-hi).toNat,?_,λb hb=>?_,q⟩
 ·have e1:lo+((0:Nat):Int)*(-1)=lo:=by simp
  have e2:(((lo-hi).toNat:Nat):Int)-((0:Nat):Int)=Builtin.Range.rangeSize lo hi (-1):=by rw[pP];simp
  show IsRangeIter _ _ (lo+((0:Nat):Int)*(-1)) ((((lo-hi).toNat:Nat):Int)-((0:Nat):Int)) (-1);rw[e1,e2];exact aL _ rfl
 ·have e:b=(s.heap.push { cls:=.type "range",data:=.fields #[.int lo t,.int hi u,.int (-1) v] }).objs.size:=by simpa using hb
  subst e;exact I1.fpOk (aI _) (I1.hok.fresh (aI _))
def Jc(ta:TA):TI:=λσ H R=>ta σ H λvs H1=>∃i j:Int,vs=[.int i,.int j,.int (-1)]/\(-(2 ^ 61)<=i/\i<2 ^ 61/\-(2 ^ 61)<=j/\j<2 ^ 61)/\R (G8 i (i-j).toNat) H1
def zV {a b c:Expr} {ta:TA} {p pos:Pos} (hg:Gl X "range") (hm:X.mg "range"=none) (ha:QA X [a,b,c] ta) (hs:starEach [a,b,c] X.env=(false,eval a X.env)::starEach [b,c] X.env:=by rfl) (hpl:(backTo pos (starEach [b,c] X.env)).any (·.1)=false:=by rfl) :
  QI X tg (.Call (.Name "range" p) [a,b,c] [] pos) (Jc ta):=⟨by
 intro pins s σ H R I h;refine Call_ (jm I hg hm boot_range (bW (dJ (ha.h pos pins s σ H _ I h) λus s1 ⟨vs,H1,I1,r1,q1⟩=>?_) hs hpl));obtain⟨i,j,e,⟨q1,q2,q3,q4⟩,q⟩:=q1;subst e;cases r1 with
 | cons r rr=>
  cases rr with
  | cons r' rr=>
   cases rr with
   | cons r'' rr=>
    cases rr;obtain⟨t,rfl⟩:=r;obtain⟨t',rfl⟩:=r';obtain⟨t'',rfl⟩:=r'';exact call_range_3 (by decide) (CI I1 q1 q2 q3 q4 q)⟩
def Jr{σ:St}{H:Hp}{D:Ends}{ta:TA}{g:TG}{tb:TS}:pJ (Jc ta) g tb D σ H=ta σ H λvs H1=>∃i j:Int,vs=[.int i,.int j,.int (-1)]/\(-(2 ^ 61)<=i/\i<2 ^ 61/\-(2 ^ 61)<=j/\j<2 ^ 61)/\oV (G8 i (i-j).toNat) g tb D σ H1:=rfl
def AH{lo:Int}{n:Nat}{g:TG}{tb:TS}{D:Ends}{σ:St}{H:Hp}(Pv:Nat->St->Hp->Prop)(h0:Pv 0 σ H)
  (hs:∀i σ H,i<n->Pv i σ H->g (.int (lo+i*(-1))) σ H λσ2 H2=>tb { D with nx:=Pv (i+1),ct:=Pv (i+1),bk:=D.nx } σ2 H2) (hd:∀σ H,Pv n σ H->D.nx σ H):oV (G8 lo n) g tb D σ H:=by
 refine⟨λi m σ H=>m+i=n/\Pv i σ H,⟨n,rfl,h0⟩,?_⟩;rintro i m σ H ⟨hm,hp⟩;by_cases hi:i<n
 ·refine .inr ⟨hi,Pv (i+1),λσ' H' h=>⟨m - 1,by lia,by lia,h⟩,?_⟩;rintro v H' ⟨rfl,rfl⟩;exact hs i σ H' hi hp
 ·have e:i=n:=by lia
  subst e;exact .inl ⟨aI _,hd σ H hp⟩
end
end L2
namespace Rm
open PySem L2 PyProof.Rows
def wn:Sp:=λvs H Q _=>∃(b:Bool) (cs:List Nat),vs=[.str (sd b),.str (tx cs)]/\DL b cs/\∀H',aP H H'->Q (.bl true) H'
def zI:Sp:=λvs H Q _=>∃(b:Bool) (cs:List Nat),vs=[.str (sd b),.str (tx cs)]/\DL b cs/\∀m o H',aP H H'->fE H' m o b (zc b cs)->Q (.ref m) H'
def BB:Sp:=λvs H Q _=>∃(r:Int) (b:Bool) (m:Nat),vs=[.int r,.str (sd b),.int m]/\m<=5/\∀cs H',aP H H'->DL b cs->cs.length<=4*m->Q (.str (tx cs)) H'
def sT:Sp:=λvs H Q _=>∃(L R:List Int) (c m:Nat) (d:Addr) (kvs:List (List Key×V)),vs=[.str (tx (gu L R)),.str ⟨#[c]⟩,.int (m:Nat),.ref d]/\jo c/\m<=12/\EE L R/\L.length+R.length+2*m<=300/\H d=some (.dT kvs)/\fx kvs/\kvs.length+oA m<=12000000 ∧
 ∀H' kvs',aP (wo H d) (wo H' d)->H' d=some (.dT kvs')->fx kvs'->kvs'.length<=kvs.length+oA m->Q (.int ((eE m (cZ L R c):Nat):Int)) H'
def rD(n:Nat)(L R:List Int)(k:Nat):Nat×Nat:=
 if k<eE n (cZ L R 97) then (97,k) else if k-eE n (cZ L R 97)<eE n (cZ L R 98) then (98,k-eE n (cZ L R 97)) else
 if k-eE n (cZ L R 97)-eE n (cZ L R 98)<eE n (cZ L R 99) then (99,k-eE n (cZ L R 97)-eE n (cZ L R 98)) else (100,k-eE n (cZ L R 97)-eE n (cZ L R 98)-eE n (cZ L R 99))
def IK{n k:Nat}{L R:List Int}(h:k<dG (n+1) L R):jo (rD n L R k).1/\k=tQ (rD n L R k).1 n L R+(rD n L R k).2/\∃L' R',cZ L R (rD n L R k).1=some (L',R')/\(rD n L R k).2<dG n L' R':=by
 have go:∀(o:Option (List Int×List Int)) (j:Nat),j<eE n o->∃L' R',o=some (L',R')/\j<dG n L' R':=λo j hj=>by
  rcases o with _ | ⟨a,b⟩
  ·exact absurd hj (Nat.not_lt_zero _)
  ·exact⟨a,b,rfl,hj⟩
 rw[f9] at h;unfold rD;by_cases h1:k<eE n (cZ L R 97)
 ·rw[W5 h1];exact⟨.inl rfl,by simp[tQ],go _ _ h1⟩
 ·rw[W4 h1];by_cases h2:k-eE n (cZ L R 97)<eE n (cZ L R 98)
  ·rw[W5 h2];exact⟨.inr (.inl rfl),by simp[tQ];lia,go _ _ h2⟩
  ·rw[W4 h2];by_cases h3:k-eE n (cZ L R 97)-eE n (cZ L R 98)<eE n (cZ L R 99)
   ·rw[W5 h3];exact⟨.inr (.inr (.inl rfl)),by simp[tQ];lia,go _ _ h3⟩
   ·rw[W4 h3];exact⟨.inr (.inr (.inr rfl)),by simp[tQ];lia,go (cZ L R 100) _ (by lia)⟩
def Ar:Sp:=λvs H Q _=>∃(L R:List Int) (m k:Nat) (d:Addr) (kvs:List (List Key×V)),vs=[.str (tx (gu L R)),.int (m:Nat),.int (k:Nat),.ref d]/\m<=12/\EE L R/\L.length+R.length+2*m<=300/\H d=some (.dT kvs)/\fx kvs/\kvs.length+3*oA m<=12000000 ∧
 ∀t H' kvs',H t=none->aP (wo H d) (wo H' d)->H' d=some (.dT kvs')->fx kvs'->kvs'.length<=kvs.length+3*oA m->H' t=some (.tup [.str ⟨#[(rD m L R k).1]⟩,.int ((rD m L R k).2:Nat)])->Q (.ref t) H'
def qB:List Nat:=[97,98,99,100]
def wD{k c:Nat}(h:qB[k]? = some c):jo c:=by
 match k,h with
 | 0,h=>cases h;exact .inl rfl
 | 1,h=>cases h;exact .inr (.inl rfl)
 | 2,h=>cases h;exact .inr (.inr (.inl rfl))
 | 3,h=>cases h;exact .inr (.inr (.inr rfl))
 | j+4,h=>simp[qB] at h
def uE:Nat->Nat
 | 0=>0
 | n+1=>uE n+3*oA n
def Iz:∀n,n<=12->uE n<=12000000:=by decide
def IV(k n:Nat)(L R:List Int):Nat:=((qB.take k).map λc=>eE n (cZ L R c)).sum
def xw{k n c:Nat}{L R:List Int}(h:qB[k]? = some c):IV (k+1) n L R=IV k n L R+eE n (cZ L R c):=by
 unfold IV;rw[cT,h,aR,List.sum_append];simp
def NY{c n:Nat}{L R:List Int}(h:jo c):tQ c n L R=IV (c - 97) n L R:=by
 rcases h with rfl | rfl | rfl | rfl<;>simp[tQ,IV,qB]<;>lia
def F2 {c:Nat} (h:jo c):Builtin.Str.occurrences (Str.ofString "abcd") ⟨#[c]⟩ 0 (Str.ofString "abcd").length 1=[c - 97]:=by rcases h with rfl | rfl | rfl | rfl<;>decide +kernel
def va{H H1 H2:Hp}{d:Addr}(h:H d=none)(s:aP H H1)(w:aP (wo H1 d) (wo H2 d)):aP H H2:=λb o e=>by
 have ne:b≠d:=λz=>by rw[z,h] at e;cases e
 exact vN w (s _ _ e) ne
def HF {c:Nat} (h:jo c):Txt.slice (Str.ofString "abcd") none (some ((c - 97:Nat):Int))=tx (qB.take (c - 97)):=by rcases h with rfl | rfl | rfl | rfl<;>decide +kernel
def qf{j k c:Nat}(h:(qB.take j)[k]? = some c):qB[k]? = some c/\k<j:=by
 rw[List.getElem?_take] at h
 split at h
 ·exact⟨h,by assumption⟩
 ·cases h
def F4{c:Nat}{cs:List Nat}{L R L' R':List Int}(g:cZ L R c=some (L',R')):hZ (c::cs) L R=tQ c cs.length L R+hZ cs L' R':=by
 show tQ c cs.length L R+(match cZ L R c with | none=>0 | some (L',R')=>hZ cs L' R')=_;rw[g]
def K9:Txt.slice (Str.ofString "abcd") none (some (-1))=tx (qB.take 3):=by decide +kernel
def IL{j c m k rest:Nat}{L R:List Int}(hj:j<3)(hc:qB[j]? = some c)(e:rest+IV j m L R=k)(h:rest<eE m (cZ L R c)):rD m L R k=(c,rest):=by
 unfold rD
 match j,hj,hc with
 | 0,_,hc=>
  cases hc;have e:rest+0=k:=e;rw[W5 (by lia)];exact oP rfl (by lia)
 | 1,_,hc=>
  cases hc;have e:rest+(eE m (cZ L R 97)+0)=k:=e;rw[W4 (by lia),W5 (by lia)];exact oP rfl (by simp only;lia)
 | 2,_,hc=>
  cases hc;have e:rest+(eE m (cZ L R 97)+(eE m (cZ L R 98)+0))=k:=e;rw[W4 (by lia),W4 (by lia),W5 (by lia)];exact oP rfl (by simp only;lia)
def F3{m k rest:Nat}{L R:List Int}(e:rest+IV 3 m L R=k):rD m L R k=(100,rest):=by
 unfold rD;have e:rest+(eE m (cZ L R 97)+(eE m (cZ L R 98)+(eE m (cZ L R 99)+0)))=k:=e;rw[W4 (by lia),W4 (by lia),W4 (by lia)];exact oP rfl (by simp only;lia)
def B9{H H1:Hp}{d t:Addr}{o:HO}(w:aP (wo H d) (wo H1 d))(hd:H1 d=some o)(h:H1 t=none):H t=none:=by
 cases e:H t with
 | none=>rfl
 | some u=>
  have ne:t≠d:=λz=>by rw[z,hd] at h;cases h
  rw[vN w e ne] at h;cases h
def Bo{k n:Nat}(h:k<n):qH (.int (k:Nat)) n=true:=by
 show (true&&(decide ((0:Int)<=(k:Int))&&decide ((k:Int)<(n:Int))))=true;rw[W8 (by lia),W8 (by lia)];rfl
def Ob{K:Wb}{H:Hp}{a b o1 o2:Addr}{s:Bool}{ms ns:List Int}{Q:VK}(ha:fE H a o1 s ms)(hb:fE H b o2 s ns)(q:Q (.bl (!decide (ms=ns))) H):CL K true (.ref a) (.ref b) H Q:=by
 obtain⟨d,e,h1,h2,h3,h4,h5,h6⟩:=PY (K:=K) (Q:=λv H'=>v=.bl (decide (ms=ns))/\H'=H) ha hb ⟨by simp,rfl⟩;refine⟨d,e,h1,h2,h3,h4,h5,?_⟩;have:PyData.eqv d e=decide (ms=ns):=by have:=h6.1;injection this
 rw[W5 rfl,this];exact q
def L8{a b:Nat}(h:a<b)(x y:List Nat):a::x<b::y:=nj.mpr (.inl h)
def y7{S:List Int->List Int->List (List Nat)}{c:Nat}{o:Option (List Int×List Int)}{x:List Nat}(h:x∈iM S c o):∃y,x=c::y:=by
 rcases o with _ | ⟨a,b⟩
 ·cases h
 ·obtain⟨y,_,rfl⟩:=bN.mp h;exact⟨y,rfl⟩
def sV:∀(n:Nat) (L R:List Int),(eU n L R).Pairwise (·<·)
 | 0,L,R=>by
  unfold eU
  split
  ·exact List.pairwise_singleton _ _
  ·exact .nil
 | n+1,L,R=>by
  have one:∀c o,(iM (eU n) c o).Pairwise (·<·):=λc o=>by
   rcases o with _ | ⟨a,b⟩
   ·exact .nil
   ·exact iq.mpr ((sV n a b).imp λh=>nj.mpr (.inr ⟨rfl,h⟩))
  have two:∀{c d o p},c<d->∀x∈iM (eU n) c o,∀y∈iM (eU n) d p,x<y:=λh x hx y hy=>by
   obtain⟨u,rfl⟩:=y7 hx;obtain⟨v,rfl⟩:=y7 hy;exact L8 h u v
  unfold eU;refine dq.mpr ⟨dq.mpr ⟨dq.mpr ⟨one _ _,one _ _,two (by decide)⟩,one _ _,λx hx y hy=>?_⟩,one _ _,λx hx y hy=>?_⟩
  ·rcases aQ.mp hx with h | h
   ·exact two (by decide) x h y hy
   ·exact two (by decide) x h y hy
  ·rcases aQ.mp hx with h | h
   ·rcases aQ.mp h with h | h
    ·exact two (by decide) x h y hy
    ·exact two (by decide) x h y hy
   ·exact two (by decide) x h y hy
def yc(n:Nat)(b:Bool):dG n (bL b) (bR b)=dG n [0] []:=by
 cases b
 ·rfl
 ·exact cmp_swap n [0] []
def Bv(a b c:Bool):PyData:=.list [.bool a,.bool b,.bool c]
def zG(M C:Addr):Sp:=λvs H Q E=>∃x d,vs=[x]/\Dat H x d/\Pl d 60/\((mI d=false/\∀H',aP H H'->E (.ref M) none H')\/∃m o b ns,x=.ref m/\fE H m o b ns/\d=L3 b ns/\oQ ns ∧
 ((∃cs,ns=zc b cs/\DL b cs/\cs.length<=12/\∀H',aP H H'->Q (.int ((hZ cs (bL b) (bR b):Nat):Int)) H') ∨
 (¬NC b ns/\∀u,∀p∈bE b ns u (ns.length+1),∀q∈bE b ns u (ns.length+1),eB p q=true->∀t dx H',aP H H'->jy H' t u p q->H' dx=some (.xd [("bows",.ref t)])->E (.ref C) (some dx) H')))
def EU(M N:Addr):Sp:=λvs H Q E=>∃x1 x2 x3 d1 d2 d3,vs=[x1,x2,x3]/\Dat H x1 d1/\Pl d1 60/\Dat H x2 d2/\Dat H x3 d3/\((j5 d1=false/\∀H',aP H H'->E (.ref M) none H')\/∃b,x1=.str (sd b)/\((qH d2 21=false/\∀H',aP H H'->E (.ref N) none H') ∨
 ∃n:Nat,x2=.int (n:Nat)/\n<=12/\((qH d3 (dG n (bL b) (bR b))=false/\∀H',aP H H'->E (.ref N) none H')\/∃k:Nat,x3=.int (k:Nat)/\k<dG n (bL b) (bR b)/\∀cs m o H',aP H H'->(eU n (bL b) (bR b))[k]? = some cs->fE H' m o b (zc b cs)->Q (.ref m) H')))
def J3:Sp:=λvs H Q _=>∃x d,vs=[x]/\Dat H x d/\Pl d 60/\((mI d=false/\∀v H',aP H H'->Dat H' v (Bv true false true)->Q v H')\/∃m o b ns,x=.ref m/\fE H m o b ns/\d=L3 b ns/\oQ ns/\¬NC b ns/\∀v H',aP H H'->Dat H' v (Bv false true true)->Q v H')
def J1:Sp:=λvs H Q _=>∃(c:Int) (b:Bool),vs=[.int c,.str (sd b)]/\∀H',aP H H'->Q (.bl true) H'
def J2:Sp:=λvs H Q _=>∃x1 x2 x3 d1 d2 d3,vs=[x1,x2,x3]/\Dat H x1 d1/\Pl d1 60/\Dat H x2 d2/\Dat H x3 d3/\((j5 d1=false/\∀v H',aP H H'->Dat H' v (Bv true false true)->Q v H')\/∃b,x1=.str (sd b)/\(∀v H',aP H H'->Dat H' v (Bv false true true)->Q v H')/\(qH d2 21=false\/∃n:Nat,x2=.int (n:Nat)/\n<=12/\qH d3 (dG n (bL b) (bR b))=false))
def ET:Sp:=λvs H Q _=>∃(c:Int) (b:Bool) (n:Nat),vs=[.int c,.str (sd b),.int (n:Nat),.int ((dG n (bL b) (bR b):Nat):Int)]/\n<=12/\∀H',aP H H'->Q (.bl true) H'
def qQ(a b c:Bool):(Bv a b c).canLay0=true:=rfl
def oB(a b c:Bool):(Bv a b c).depth<=60:=by show 1<=60;decide
def Iy:∀n,n<=12->oA n+uE n<=12000000:=by decide
def MP (b:Bool) (far:Int):List PyData:=[.tuple [.str (sd b),tI [1,1]],.tuple [.str (sd b),tI [2]],.tuple [.str (Str.ofString "q"),tI [1]],.tuple [.str (sd b),.list [.int 1]],.none,.tuple [.str (sd b)],.tuple [.str (sd b),.tuple [.int 1,.bool true]]]++[.tuple [.str (sd b),tI [3+far,1]]]
def II{b:Bool}{far:Int}(h:0<=far):∀d∈MP b far,mI d=false:=by
 intro d hd;simp only[MP,dS,bA,aF,bB,or_false] at hd;rcases hd with rfl | rfl | rfl | rfl | rfl | rfl | rfl | rfl
 ·exact kf (by decide +kernel)
 ·exact kf (by decide +kernel)
 ·exact xu (by decide +kernel)
 ·exact kf rfl
 ·rfl
 ·rfl
 ·exact kf (by decide +kernel)
 ·exact G0 (i:=0) (d:=.int (3+far)) rfl (.inr (.inr (by show ((2:Nat):Int)<3+far;lia)))
def LW{b:Bool}{far:Int}:∀d∈MP b far,Pl d 60:=by
 have ti:∀l:List Int,Pl (tI l) 1:=λl=>mn (yJ l);have sb:Pl (.str (sd b)) 1:=xV b;intro d hd;simp only[MP,dS,bA,aF,bB,or_false] at hd;rcases hd with rfl | rfl | rfl | rfl | rfl | rfl | rfl | rfl
 ·exact(mn (J8 sb (ti _))).le (by decide)
 ·exact(mn (J8 sb (ti _))).le (by decide)
 ·exact(mn (J8 (Ex (by decide +kernel)) (ti _))).le (by decide)
 ·exact(mn (J8 sb (Kz (yJ [1])))).le (by decide)
 ·exact⟨rfl,by decide⟩
 ·exact(mn (k:=1) (λd hd=>by rw[bQ] at hd;rw[hd];exact sb)).le (by decide)
 ·exact(mn (J8 sb (⟨by decide,by decide⟩:Pl (.tuple [.int 1,.bool true]) 1))).le (by decide)
 ·exact(mn (J8 sb (ti _))).le (by decide)
def uF{z:Int}{n:Nat}(h:z<0\/(n:Int)<=z):qH (.int z) n=false:=by
 show (true&&(decide (0<=z)&&decide (z<(n:Int))))=false;rw[pW,Bool.and_eq_false_iff];rcases h with h | h
 ·exact .inl (W7 (by lia))
 ·exact .inr (W7 (by lia))
def O9 (m far:Int):List PyData:=[.int m,.int (m+far),.int (-1-far),.bool true,.str (Str.ofString "0"),.none,.list [.int 0],.tuple [.int 0]]
def IJ{m:Nat}{far:Int}(h:0<=far):∀d∈O9 m far,qH d m=false:=by
 intro d hd;simp only[O9,aF,bB,or_false] at hd;rcases hd with rfl | rfl | rfl | rfl | rfl | rfl | rfl | rfl
 ·exact uF (.inr (dt _))
 ·exact uF (.inr (by lia))
 ·exact uF (.inl (by lia))
 all_goals rfl
def O4 (far:Int):List PyData:=[.int (-1-far),.int (21+far),.bool true,.str (Str.ofString "3"),.none,.list [.int 3],.tuple [.int 3]]
def HJ{far:Int}(h:0<=far):∀d∈O4 far,qH d 21=false:=by
 intro d hd;simp only[O4,aF,bB,or_false] at hd;rcases hd with rfl | rfl | rfl | rfl | rfl | rfl | rfl
 ·exact uF (.inl (by lia))
 ·exact uF (.inr (by lia))
 all_goals rfl
def strN:List PyData:=[.str (Str.ofString ""),.str (Str.ofString "L"),.none,.int 0,.str (Str.ofString "lr"),.list [.str (Str.ofString "l")],.tuple [.str (Str.ofString "l")]]
def EN:∀d∈strN,j5 d=false:=by
 intro d hd;simp only[strN,aF,bB,or_false] at hd;rcases hd with rfl | rfl | rfl | rfl | rfl | rfl | rfl<;>decide +kernel
def HE:∀d∈strN,Pl d 60:=by
 intro d hd;simp only[strN,aF,bB,or_false] at hd;rcases hd with rfl | rfl | rfl | rfl | rfl | rfl | rfl<;>exact⟨by decide +kernel,by decide +kernel⟩
def wL(r:Nat):List Int:=[2,1,3]++fU 4 r
def Ir:∀r,r<6->oQ (wL r)/\y6 (wL r)=true:=by
 intro r hr;have:∀r,r<6->((wL r).length<=20/\(wL r).isPerm (fU 1 (wL r).length)=true)/\y6 (wL r)=true:=by decide +kernel
 obtain⟨⟨a,b⟩,c⟩:=this r hr;exact⟨⟨a,gE.mp b⟩,c⟩
def GS:∀r,r<6->oQ ((0::wL r).map (1+·))/\y6 ((0::wL r).map (1+·))=true:=by
 intro r hr;have:∀r,r<6->(((0::wL r).map (1+·)).length<=20/\((0::wL r).map (1+·)).isPerm (fU 1 ((0::wL r).map (1+·)).length)=true)/\y6 ((0::wL r).map (1+·))=true:=by decide +kernel
 obtain⟨⟨a,b⟩,c⟩:=this r hr;exact⟨⟨a,gE.mp b⟩,c⟩
def Lq{b:Bool}{ns:List Int}(h:y6 ns=true):¬NC b ns:=λnc=>by rw[(Iq b ns).mpr nc] at h;cases h
def IM{b:Bool}{cs ds:List Nat}(C:DL b cs)(D:DL b ds)(e:ds.length=cs.length):decide (hZ ds (bL b) (bR b)<hZ cs (bL b) (bR b))=decide (ds<cs):=by
 have h1:=sW C.lts C.res;have h2:=sW D.lts D.res;rw[e] at h2;obtain⟨i1,e1⟩:=aK.mp h1;obtain⟨i2,e2⟩:=aK.mp h2;have so:=iG.mp (sV cs.length (bL b) (bR b));rcases lP (hZ ds (bL b) (bR b)) (hZ cs (bL b) (bR b)) with h | h | h
 ·have:=so _ _ i2 i1 h;rw[e1,e2] at this;rw[W8 h,W8 this]
 ·have:ds=cs:=by
   rw[h] at h2;rw[h1] at h2;cases h2;rfl
  subst this;rw[W7 (cS _),W7 (List.lt_irrefl _)]
 ·have:=so _ _ i1 i2 h;rw[e1,e2] at this;rw[W7 (Nat.lt_asymm h),W7 (List.lt_asymm this)]
def wO:∀(n:Nat) (b:Bool),0<dG n (bL b) (bR b)
 | 0,b=>by cases b<;>decide
 | n+1,false=>by
  have:=wO n true;have g:cZ (bL false) (bR false) 99=some (bL true,bR true):=by decide +kernel
  rw[f9,g];have e:eE n (some (bL true,bR true))=dG n (bL true) (bR true):=rfl;lia
 | n+1,true=>by
  have:=wO n false;have g:cZ (bL true) (bR true) 98=some (bL false,bR false):=by decide +kernel
  rw[f9,g];have e:eE n (some (bL false,bR false))=dG n (bL false) (bR false):=rfl;lia
end Rm
namespace L2
open PySem PySem.Spec PyProof.Rows
structure QB (X:Cx) (body:List Stmt) (tb:XK->TS):Prop where
 h:∀ (pins:List (Addr×Obj)) (s:Shared) (σ:St) (H:Hp) (D:Ends) (E:XK),bX X pins σ H s->tb E D σ H->wpAny (model X.prog X.w) X.A (execs body X.env) (SP X pins D) (fun ev s'=>∃ H1 s1,bX X pins σ H1 s1/\qv X.prog X.w X.stack H1 s1 E ev s') s
structure G7 (X:Cx) (pins:List (Addr×Obj)) (σ:St) (a C t0:Addr) (dO:Option Addr) (H2:Hp) (s':Shared) (h3:Heap):Prop where
 ex:∃ (B:Heap) (H1:Hp) (s1:Shared),bX X pins σ H1 s1/\s'.os=s1.os/\AllBare s'.gens/\Un (lN X.stack) [] H1 H2 s1.heap s'.heap/\pI X.prog X.w H2 s'.heap/\B.FlyingW X.stack a (.ref C) (.ref t0) s'.heap/\Os B s1.heap H2 X.stack/\B.FlyingW (X.env::X.outer) a (.ref C) (.ref t0) h3/\s'.heap.UpToSlots h3/\rP dO a h3
abbrev TH:=Ends->St->Addr->Option Addr->Hp->Prop
structure QH (X:Cx) (hs:List ExceptHandler) (th:TH):Prop where
 h:∀ (pins:List (Addr×Obj)) (σ:St) (D:Ends) (a C t0:Addr) (dO:Option Addr) (H2:Hp) (s':Shared) (h3:Heap),G7 X pins σ a C t0 dO H2 s' h3->H2 a=none->th D σ C dO H2->wpAny (model X.prog X.w) X.A (handleBy (.ref a) X.env hs) (SP X pins D) X.xe { s' with heap:=h3 }
def N5:TH:=λ_ _ _ _ _=>False
def Jd(K:Wb)(c:Value)(ts:Addr->TS)(th:TH):TH:=λD σ C dO H2=>(PySem.W.exmOne K (.ref C) c=some true/\∀a,H2 a=none->ts a D σ (bP H2 a (lG dO C a)))\/(PySem.W.exmOne K (.ref C) c=some false/\th D σ C dO H2)
def PD(K:Wb)(c:Value)(i:Nat)(ts:Addr->TS)(th:TH):TH:=λD σ C dO H2=>(PySem.W.exmOne K (.ref C) c=some true/\∀a,H2 a=none->ts a { nx:=λσ' H'=>D.nx (σ'.set i none) H',rt:=D.rt,bk:=λσ' H'=>D.bk (σ'.set i none) H',ct:=λσ' H'=>D.ct (σ'.set i none) H' } (σ.set i (some (.ref a))) (bP H2 a (lG dO C a)))\/(PySem.W.exmOne K (.ref C) c=some false/\th D σ C dO H2)
section
variable {X:Cx}
def Em:QH X [] N5:=⟨λ_ _ _ _ _ _ _ _ _ _ _ _ h=>h.elim⟩
def G7.inv{pins:List (Addr×Obj)}{σ:St}{a C t0:Addr}{dO:Option Addr}{H2:Hp}{s':Shared}{h3:Heap}(hst:X.stack=X.env::X.outer)(L:G7 X pins σ a C t0 dO H2 s' h3):bX X pins σ (bP H2 a (lG dO C a)) { s' with heap:=h3 }/\∃oe,h3.get? a=some oe/\oe.cls=.ref C:=by
 obtain⟨B,H1,s1,I1,os,bare,un,hok,fl,cov,fl3,up3,ct3⟩:=L.ex;have fl3':=fl3;rw[<-hst] at fl3';exact⟨I1.land (E:=E0) os bare un hok fl cov fl3' up3 ct3,Heap.FlyingW.there fl3⟩
def Nz {cx:Str} {c:Value} {b₀:Stmt} {suite:List Stmt} {ts:Addr->TS} {th:TH} {hs:List ExceptHandler} {np hpos:Pos} (hst:X.stack=X.env::X.outer) (hgc:Gl X cx) (hmc:X.mg cx=some c) (hsu:∀a,ij (X.exc a) (b₀::suite) (ts a)) (hh:QH X hs th) (hdc:(cx==("__debug__":Str))=false:=by decide) :
  QH X (.ExceptHandler (some (.Name cx np)) none (b₀::suite) hpos::hs) (Jd X.K c ts th):=⟨by
 intro pins σ D a C t0 dO H2 s' h3 L Hn hq;obtain⟨I3,oe,e1,e2⟩:=L.inv hst;refine wpAny_handleBy_cons (codeAny_handlers_test (kJ (X:=X.exc a) (I3.exc a) hgc hmc ?_ hdc)) (λz=>nomatch z);rcases hq with ⟨hx,q⟩ | ⟨hx,q⟩
 ·refine jr (K:=X.K) (h:=h3) (cls:=.ref C) I3.kIn (λA Q E s k hq=>W3 (k _ _ e1) (by rw[e2];exact hq)) hx _ _ _ _ (λb o e=>e) ?_;obtain⟨B,H1,s1,I1,os,bare,un,hok,fl,cov,fl3,up3,ct3⟩:=L.ex;refine codeAny_handlers_suite (iQ (eW.flight (e:=a)) ct3 (lands_againW fl3 λh4 fl4 up4 ct4=>?_));have fl4':=fl4;rw[<-hst] at fl4';have I4:bX X pins σ (bP H2 a (lG dO C a)) { s' with heap:=h4 }:=I1.land (E:=E0) os bare un hok fl cov fl4' (UpToSlots.trans up3 up4) ct4;refine wpAny_mono ((hsu a).h pins _ _ _ _ (I4.exc a) (q a Hn)) (λfw s6 h6=>?_) (λ_ _ z=>False.elim z);obtain⟨B',H1',s1',I1',_⟩:=L.ex;cases fw with
  | next=>obtain⟨σ6,H6,I6,q6⟩:=h6;exact⟨_,_,I6.unexc I1.ok,q6⟩
  | brk=>obtain⟨σ6,H6,I6,q6⟩:=h6;exact⟨_,_,I6.unexc I1.ok,q6⟩
  | cont=>obtain⟨σ6,H6,I6,q6⟩:=h6;exact⟨_,_,I6.unexc I1.ok,q6⟩
  | ret u=>obtain⟨v6,σ6,H6,I6,r6,q6⟩:=h6;exact⟨v6,_,_,I6.unexc I1.ok,r6,q6⟩
 ·refine jr (K:=X.K) (h:=h3) (cls:=.ref C) I3.kIn (λA Q E s k hq=>W3 (k _ _ e1) (by rw[e2];exact hq)) hx _ _ _ _ (λb o e=>e) ?_;exact hh.h pins σ D a C t0 dO H2 s' h3 L Hn q⟩
def J7 {cx n:Str} {c:Value} {i:Nat} {b₀:Stmt} {suite:List Stmt} {ts:Addr->TS} {th:TH} {hs:List ExceptHandler} {np hpos:Pos} (hst:X.stack=X.env::X.outer) (hgc:Gl X cx) (hmc:X.mg cx=some c) (hN:X.N.Nodup) (hi:X.N[i]? = some n) (hl:X.env.scope.names.lookup n=some .local) (hsu:∀a,ij (X.exc a) (b₀::suite) (ts a)) (hh:QH X hs th) (hdc:(cx==("__debug__":Str))=false:=by decide) :
  QH X (.ExceptHandler (some (.Name cx np)) (some n) (b₀::suite) hpos::hs) (PD X.K c i ts th):=⟨by
 intro pins σ D a C t0 dO H2 s' h3 L Hn hq;obtain⟨I3,oe,e1,e2⟩:=L.inv hst;refine wpAny_handleBy_cons (codeAny_handlers_test (kJ (X:=X.exc a) (I3.exc a) hgc hmc ?_ hdc)) (λz=>nomatch z);rcases hq with ⟨hx,q⟩ | ⟨hx,q⟩
 ·refine jr (K:=X.K) (h:=h3) (cls:=.ref C) I3.kIn (λA Q E s k hq=>W3 (k _ _ e1) (by rw[e2];exact hq)) hx _ _ _ _ (λb o e=>e) ?_;obtain⟨B,H1,s1,I1,os,bare,un,hok,fl,cov,fl3,up3,ct3⟩:=L.ex;refine codeAny_handlers_suite_as (iQ (eW.flight (e:=a)) ct3 (lands_againW fl3 λh4 fl4 up4 ct4=>?_));have fl4':=fl4;rw[<-hst] at fl4';have I4:bX X pins σ (bP H2 a (lG dO C a)) { s' with heap:=h4 }:=I1.land (E:=E0) os bare un hok fl cov fl4' (UpToSlots.trans up3 up4) ct4;refine qR I4 hN hi (.inl hl) (show RelV (.ref a) (.ref a) from rfl) (λs5 I5=>?_) (.inr hl);refine wpAny_mono ((hsu a).h pins s5 _ _ _ (I5.exc a) (q a Hn)) (λfw s6 h6=>?_) (λ_ _ z=>False.elim z);cases fw with
  | next=>obtain⟨σ6,H6,I6,q6⟩:=h6;exact sD (I6.unexc I1.ok) hN hi hl λs7 I7=>⟨_,_,I7,q6⟩
  | brk=>obtain⟨σ6,H6,I6,q6⟩:=h6;exact sD (I6.unexc I1.ok) hN hi hl λs7 I7=>⟨_,_,I7,q6⟩
  | cont=>obtain⟨σ6,H6,I6,q6⟩:=h6;exact sD (I6.unexc I1.ok) hN hi hl λs7 I7=>⟨_,_,I7,q6⟩
  | ret u=>obtain⟨v6,σ6,H6,I6,r6,q6⟩:=h6;exact sD (I6.unexc I1.ok) hN hi hl λs7 I7=>⟨v6,_,_,I7,r6,q6⟩
 ·refine jr (K:=X.K) (h:=h3) (cls:=.ref C) I3.kIn (λA Q E s k hq=>W3 (k _ _ e1) (by rw[e2];exact hq)) hx _ _ _ _ (λb o e=>e) ?_;exact hh.h pins σ D a C t0 dO H2 s' h3 L Hn q⟩
def J0(tb:XK->TS)(th:TH):TS:=λD σ H=>tb (λcls dO H2=>∃C,cls=Value.ref C/\th D σ C dO H2) D σ H
def xP{body:List Stmt}{h₀:ExceptHandler}{hs:List ExceptHandler}{tb:XK->TS}{th:TH}{pos:Pos}(hst:X.stack=X.env::X.outer)(hfr:X.env.frame=some X.env.locals)(hb:QB X body tb)(hh:QH X (h₀::hs) th):QS X (.Try body (h₀::hs) [] [] pos) (J0 tb th):=⟨by
 intro pins s σ H D I h;refine wpAny_Try_except (wpAny_mono (hb.h pins s σ H D _ I h) (λf s1 h1=>?_) λev s' ⟨H1,s1,I1,hx⟩=>?_)
 ·cases f with
  | next=>exact Vz h1
  | brk=>exact h1
  | cont=>exact h1
  | ret u=>exact h1
 ·obtain⟨a,C,t0,H2,B,dO,rfl,os,bare,un,hok,fl,cov,ct,C',eC,q⟩:=hx;cases eC;have Hn:H2 a=none:=by
   cases z:H2 a with
   | none=>rfl
   | some u=>
    obtain⟨o,e'⟩:=cov.trk a u z;rw[fl.2.1] at e';cases e'
  have fl':=fl;rw[hst] at fl';refine iQ (eW.note (e:=a)) ct ?_;refine wpAny_looks_onW (base:=B) (env:=X.env) (outer:=X.outer) (by rw[I.ok.frames,hst]) hfr fl' λh2 held up2 ct2=>?_;refine iQ (eW.flight (e:=a)) ct2 ?_;refine wpAny_landsW held λh3 fl3 up3 ct3=>?_;exact hh.h pins σ D a C t0 dO H2 s' h3 ⟨B,H1,s1,I1,os,bare,un,hok,fl,cov,fl3,UpToSlots.trans up2 up3,ct3⟩ Hn q⟩
def GY{k:Nat}{st:Stmt}{ps:List Str}{sp:Sp}{x:Str}{e:Expr}{es:List Expr}{t:TA}{p cpos:Pos}{pins:List (Addr×Obj)}{s:Shared}{σ:St}{H:Hp}{Q:VK}{E:XK}(Df:lm X.prog X.w X.K X.mg X.base k x st ps sp)(hr:g0 k X.A)(hg:Gl X x)(ha:QA X.nox (e::es) t)(I:bX X pins σ H s)(h:t σ H λvs H1=>sp vs H1 Q E)
  (hdb:(x==("__debug__":Str))=false) (he:starEach (e::es) X.env=(false,eval e X.env)::starEach es X.env) (hpl:(backTo cpos (starEach es X.env)).any (·.1)=false) :
  wpAny (model X.prog X.w) X.A (eval (.Call (.Name x p) (e::es) [] cpos) X.env) (EP X pins σ Q) (λev s'=>∃H1 s1,bX X pins σ H1 s1/\qv X.prog X.w X.stack H1 s1 E ev s') s:=by
 obtain⟨f,fd,Fu,hm,hb,F⟩:=Df.ex;have hk:=Fu.kp;refine WL (kJ I hg hm ?_ hdb);refine iX (h₀:=X.base) I.ok.mod.kin hk (wpAny_mono (ha.h cpos pins s σ H _ (I.wish _) h) (λus s1 ⟨vs,H1,I1,r,q⟩=>⟨I1.kIn,?_⟩) λ_ _ z=>False.elim z) he hpl;have I1:=I1.unwish;have r2:cH (vs++[]) (us++[]):=r.append .nil;have q2:sp (vs++[]) H1 Q E:=by rw[cX];exact q
 have hlen:(us++[]).length=ps.length:=by rw[<-r2.length];exact F.len _ _ _ _ q2
 refine WJ (WK (F.run X.A X.stack s1 H1 ⟨us,[]⟩ (us++[]) (vs++[]) _ E hr I1.env0 (hb s1 us I1.kIn hlen) r2 q2) λr s' hq=>?_);cases r with
 | error ev=>exact⟨H1,s1,I1,hq⟩
 | ok fl=>
  cases fl with
  | ret u=>exact I1.after hq
  | next=>exact False.elim hq
  | brk=>exact False.elim hq
  | cont=>exact False.elim hq
section
variable {k:Nat} {st:Stmt} {ps:List Str} {sp:Sp} {x:Str} {e:Expr} {es:List Expr} {t:TA} {p cpos:Pos}
def Jg(sp:Sp)(t:TA):XK->TS:=λE D σ H=>t σ H λvs H1=>sp vs H1 (λ_ H2=>D.nx σ H2) E
def Oj(sp:Sp)(j:Nat)(t:TA):XK->TS:=λE D σ H=>t σ H λvs H1=>sp vs H1 (λv H2=>D.nx (σ.set j (some v)) H2) E
def Oh(sp:Sp)(z:Str)(t:TA):XK->TS:=λE D σ H=>t σ H λvs H1=>sp vs H1 (λv H2=>∀q,H2 q=none->D.rt (.ref q) (bP H2 q (.tup [.str z,v]))) E
def Oi(sp:Sp)(z:Str)(t:TA):XK->TS:=λE D σ H=>t σ H λvs H1=>sp vs H1 (λv H2=>∀q,H2 q=none->D.rt (.ref q) (bP H2 q (.lst [.str z,v]))) E
def BP{epos:Pos}(Df:lm X.prog X.w X.K X.mg X.base k x st ps sp)(hr:g0 k X.A)(hg:Gl X x)(ha:QA X.nox (e::es) t)
  (hdb:(x==("__debug__":Str))=false:=by decide) (he:starEach (e::es) X.env=(false,eval e X.env)::starEach es X.env:=by rfl) (hpl:(backTo cpos (starEach es X.env)).any (·.1)=false:=by rfl):QB X [.Expr (.Call (.Name x p) (e::es) [] cpos) epos] (Jg sp t):=⟨λpins s σ H D E I h=>
 WA (wpAny_Expr_any (wpAny_mono (GY Df hr hg ha I h hdb he hpl) (λv s1 ⟨_,H1,I1,_,q⟩=>Vz ⟨_,H1,I1,q⟩) λ_ _ z=>z) I.quiet (by rfl))⟩
end
end
section
variable {σ:St} {H H2:Hp} {D:Ends} {E:XK} {C:Addr} {dO:Option Addr} {K:Wb} {c:Value} {sp:Sp} {t:TA} {ts:Addr->TS} {th:TH} {tb:XK->TS} {z:Str} {i j:Nat}
def Jm:J0 tb th D σ H=tb (λcls dO H2=>∃C,cls=Value.ref C/\th D σ C dO H2) D σ H:=rfl
def Jp:N5 D σ C dO H2=False:=rfl
def Gn:Jd K c ts th D σ C dO H2=((PySem.W.exmOne K (.ref C) c=some true/\∀a,H2 a=none->ts a D σ (bP H2 a (lG dO C a)))\/(PySem.W.exmOne K (.ref C) c=some false/\th D σ C dO H2)):=rfl
def Ma:PD K c i ts th D σ C dO H2=((PySem.W.exmOne K (.ref C) c=some true/\∀a,H2 a=none->ts a { nx:=λσ' H'=>D.nx (σ'.set i none) H',rt:=D.rt,bk:=λσ' H'=>D.bk (σ'.set i none) H',ct:=λσ' H'=>D.ct (σ'.set i none) H' } (σ.set i (some (.ref a))) (bP H2 a (lG dO C a)))\/(PySem.W.exmOne K (.ref C) c=some false/\th D σ C dO H2)):=rfl
def Gx:Jg sp t E D σ H=t σ H λvs H1=>sp vs H1 (λ_ H2=>D.nx σ H2) E:=rfl
def KH:Oj sp j t E D σ H=t σ H λvs H1=>sp vs H1 (λv H2=>D.nx (σ.set j (some v)) H2) E:=rfl
def KF:Oh sp z t E D σ H=t σ H λvs H1=>sp vs H1 (λv H2=>∀q,H2 q=none->D.rt (.ref q) (bP H2 q (.tup [.str z,v]))) E:=rfl
def KG:Oi sp z t E D σ H=t σ H λvs H1=>sp vs H1 (λv H2=>∀q,H2 q=none->D.rt (.ref q) (bP H2 q (.lst [.str z,v]))) E:=rfl
end
end L2
namespace Rm
open PySem L2 PyProof.Rows
def Pr(bs:List Bool)(x y:Nat):Prop:=Nh bs x y\/Nh bs y x
open Classical in
noncomputable def mtF (bs:List Bool) (x:Nat):Nat:=if h:∃y,Pr bs x y then h.choose else x
def gv(g:List Int)(x:Nat):Int:=g.getD x 0
def MQ(L R:Nat->Nat)(e:Nat):Nat->Nat
 | 0=>e
 | i+1=>R (L (MQ L R e i))
def Oy(L R:Nat->Nat)(e:Nat):Nat->List Nat
 | 0=>[]
 | i+1=>Oy L R e i++[MQ L R e i]++[L (MQ L R e i)]
def Inj(L R:Nat->Nat)(e i:Nat):Prop:=∀j k,j<i->k<i->MQ L R e j=MQ L R e k->j=k
structure P3 (L R:Nat->Nat) (e i:Nat):Prop where
 pos:0<i
 inj:Inj L R e i
 back:MQ L R e i=e
open Classical in
noncomputable def perF (L R:Nat->Nat) (e:Nat):Nat:=if h:∃i,P3 L R e i then h.choose else 0
noncomputable def rdF (L R:Nat->Nat) (e:Nat):List Nat:=Oy L R e (perF L R e)
open Classical in
noncomputable def rsF (L R:Nat->Nat):Nat->List (List Nat)
 | 0=>[]
 | i+1=>if ∃r∈rsF L R i,i∈r then rsF L R i else rsF L R i++[rdF L R i]
def rk(G:Nat->Bool):Nat->Nat
 | 0=>0
 | k+1=>if G k then rk G k else rk G k+1
def dK(G:Nat->Bool)(bs:List Bool):Nat->Int
 | 0=>0
 | k+1=>if G k then dK G bs k else dK G bs k+((bs[k]?).toList.map dl).sum
end Rm
namespace L2
open PySem PySem.Spec PyProof.Rows
def Kl:V->List V->Hp->VK->Prop:=λx vs H Q=>∃(l:Addr) (ks:List Int) (z:Int) (j:Nat),x=.ref l/\vs=[.int z]/\H l=some (.lst (ks.map V.int))/\ks.length<=1000/\ks[j]? = some z/\(∀m,m<j->ks[m]?≠some z)/\Q (.int j) H
def O6{X:Cx}{K:Wb}{e:Expr}{T:String}{r:V->List V->Hp->VK->Prop}{to:TE}{t:TA}(hK:X.K=K)(h:QE X e (Mp X.K T r to t)):QE X e (Mp K T r to t):=hK▸h
def Gm{l:Addr}{z:Int}{H:Hp}{Q:VK}:Kl (.ref l) [.int z] H Q=∃(ks:List Int) (j:Nat),H l=some (.lst (ks.map V.int))/\ks.length<=1000/\ks[j]? = some z/\(∀m,m<j->ks[m]?≠some z)/\Q (.int j) H:=
 propext ⟨λ⟨_,ks,_,j,e,e',h⟩=>by cases e;cases e';exact⟨ks,j,h⟩,λ⟨ks,j,h⟩=>⟨l,ks,z,j,rfl,rfl,h⟩⟩
end L2
namespace Rm
open PySem L2 PyProof.Rows
def top(i:Nat):Stmt:=PySem.Challenge.pw_ringmaze_k36_numbers_of_mazes.main.body.getD i (.Pass ⟨0,0,0,0⟩)
abbrev jK:Stmt:=top 7
def j9:bO ["bows","a","b","c","d"] ["bows"] (a9 jK):=⟨rfl,rfl,rfl,by decide +kernel,rfl,by decide +kernel,by decide +kernel⟩
abbrev iT:Stmt:=top 11
def xH:bO ["thing"] ["thing"] (a9 iT):=⟨rfl,rfl,rfl,by decide +kernel,rfl,by decide +kernel,by decide +kernel⟩
abbrev iU:Stmt:=top 12
def xJ:bO ["thing","bound"] ["thing","bound"] (a9 iU):=⟨rfl,rfl,rfl,by decide +kernel,rfl,by decide +kernel,by decide +kernel⟩
abbrev i5:Stmt:=top 13
def zL:bO ["thing"] ["thing"] (a9 i5):=⟨rfl,rfl,rfl,by decide +kernel,rfl,by decide +kernel,by decide +kernel⟩
abbrev jI:Stmt:=top 14
def xI:bO ["thing"] ["thing"] (a9 jI):=⟨rfl,rfl,rfl,by decide +kernel,rfl,by decide +kernel,by decide +kernel⟩
abbrev kS:Stmt:=top 15
def zM:bO ["thing"] ["thing"] (a9 kS):=⟨rfl,rfl,rfl,by decide +kernel,rfl,by decide +kernel,by decide +kernel⟩
abbrev fk:Stmt:=top 17
def uN:bO ["side"] ["side"] (a9 fk):=⟨rfl,rfl,rfl,by decide +kernel,rfl,by decide +kernel,by decide +kernel⟩
abbrev fY:Stmt:=top 18
def nO:bO ["maze","step","side"] ["maze","step"] (a9 fY):=⟨rfl,rfl,rfl,by decide +kernel,rfl,by decide +kernel,by decide +kernel⟩
abbrev gK:Stmt:=top 19
def oF:bO ["maze","order"] ["maze"] (a9 gK):=⟨rfl,rfl,rfl,by decide +kernel,rfl,by decide +kernel,by decide +kernel⟩
abbrev jL:Stmt:=top 20
def k8:bO ["maze","rows","told","step","bow"] ["maze"] (a9 jL):=⟨rfl,rfl,rfl,by decide +kernel,rfl,by decide +kernel,by decide +kernel⟩
abbrev kT:Stmt:=top 21
def mf:bO ["maze","side","bows","found"] ["maze"] (a9 kT):=⟨rfl,rfl,rfl,by decide +kernel,rfl,by decide +kernel,by decide +kernel⟩
abbrev ui:Stmt:=top 22
def E5:bO ["maze","found"] ["maze"] (a9 ui):=⟨rfl,rfl,rfl,by decide +kernel,rfl,by decide +kernel,by decide +kernel⟩
abbrev kG:Stmt:=top 25
def E7:bO ["side"] ["side"] (a9 kG):=⟨rfl,rfl,rfl,by decide +kernel,rfl,by decide +kernel,by decide +kernel⟩
abbrev fm:Stmt:=top 26
def uO:bO ["state"] ["state"] (a9 fm):=⟨rfl,rfl,rfl,by decide +kernel,rfl,by decide +kernel,by decide +kernel⟩
abbrev i3:Stmt:=top 27
def fj:bO ["signs","place","stride","depth","here"] ["signs","place"] (a9 i3):=⟨rfl,rfl,rfl,by decide +kernel,rfl,by decide +kernel,by decide +kernel⟩
abbrev mB:Stmt:=top 28
def i0:bO ["left","right","signs","inner_right","inner_left","far","marks","place","mark"] ["left","right"] (a9 mB):=⟨rfl,rfl,rfl,by decide +kernel,rfl,by decide +kernel,by decide +kernel⟩
abbrev l3:Stmt:=top 29
def sA:bO ["state","letter","halves","left","right"] ["state","letter"] (a9 l3):=⟨rfl,rfl,rfl,by decide +kernel,rfl,by decide +kernel,by decide +kernel⟩
abbrev i4:Stmt:=top 33
def v9:bO ["left_inwards","right_inwards"] ["left_inwards","right_inwards"] (a9 i4):=⟨rfl,rfl,rfl,by decide +kernel,rfl,by decide +kernel,by decide +kernel⟩
abbrev oh:Stmt:=top 34
def qV:bO ["maze","bows","lefts","rights"] ["maze"] (a9 oh):=⟨rfl,rfl,rfl,by decide +kernel,rfl,by decide +kernel,by decide +kernel⟩
abbrev jH:Stmt:=top 35
def j8:bO ["side","code","state","at","sign"] ["side","code"] (a9 jH):=⟨rfl,rfl,rfl,by decide +kernel,rfl,by decide +kernel,by decide +kernel⟩
abbrev gL:Stmt:=top 36
def dm:bO ["code","inwards","begins_here","told","waiting","place","letter","row","outer"] ["code","inwards","begins_here"] (a9 gL):=⟨rfl,rfl,rfl,by decide +kernel,rfl,by decide +kernel,by decide +kernel⟩
abbrev jJ:Stmt:=top 37
def iR:bO ["side","code","across","order","bow_side","row"] ["side","code"] (a9 jJ):=⟨rfl,rfl,rfl,by decide +kernel,rfl,by decide +kernel,by decide +kernel⟩
abbrev kY:Stmt:=top 39
def zO:bO ["state","rows"] ["state","rows"] (a9 kY):=⟨rfl,rfl,rfl,by decide +kernel,rfl,by decide +kernel,by decide +kernel⟩
abbrev gM:Stmt:=top 40
def oG:bO ["state","reached"] ["state"] (a9 gM):=⟨rfl,rfl,rfl,by decide +kernel,rfl,by decide +kernel,by decide +kernel⟩
abbrev d9:Stmt:=top 41
def me:bO ["state","rows","known","key"] ["state","rows","known"] (a9 d9):=⟨rfl,rfl,rfl,by decide +kernel,rfl,by decide +kernel,by decide +kernel⟩
abbrev fQ:Stmt:=top 42
def oH:bO ["state","letter","rows","known","ahead"] ["state","letter","rows","known"] (a9 fQ):=⟨rfl,rfl,rfl,by decide +kernel,rfl,by decide +kernel,by decide +kernel⟩
abbrev gQ:Stmt:=top 43
def sY:bO ["state","rows"] ["state","rows"] (a9 gQ):=⟨rfl,rfl,rfl,by decide +kernel,rfl,by decide +kernel,by decide +kernel⟩
abbrev gg:Stmt:=top 44
def v8:bO ["n"] ["n"] (a9 gg):=⟨rfl,rfl,rfl,by decide +kernel,rfl,by decide +kernel,by decide +kernel⟩
abbrev og:Stmt:=top 45
def E6:bO ["n"] ["n"] (a9 og):=⟨rfl,rfl,rfl,by decide +kernel,rfl,by decide +kernel,by decide +kernel⟩
abbrev gh:Stmt:=top 46
def dW:bO ["maze","code","known","state","ahead","place","letter","rows","lesser"] ["maze"] (a9 gh):=⟨rfl,rfl,rfl,by decide +kernel,rfl,by decide +kernel,by decide +kernel⟩
abbrev gN:Stmt:=top 47
def gb:bO ["state","rows","ahead","known","rest","letter","many"] ["state","rows","ahead","known"] (a9 gN):=⟨rfl,rfl,rfl,by decide +kernel,rfl,by decide +kernel,by decide +kernel⟩
abbrev iS:Stmt:=top 48
def eP:bO ["side","n","number","known","state","code","ahead","rows","found"] ["side","n","number"] (a9 iS):=⟨rfl,rfl,rfl,by decide +kernel,rfl,by decide +kernel,by decide +kernel⟩
abbrev kX:Stmt:=top 50
def zN:bO ["_law_script","_law_k"] ["_law_script","_law_k"] (a9 kX):=⟨rfl,rfl,rfl,by decide +kernel,rfl,by decide +kernel,by decide +kernel⟩
abbrev o8:Stmt:=top 51
def xE:bO ["_law_cell","_law_rest"] ["_law_cell"] (a9 o8):=⟨rfl,rfl,rfl,by decide +kernel,rfl,by decide +kernel,by decide +kernel⟩
abbrev kP:Stmt:=top 52
def pj:bO ["_law_cell","_law_top"] ["_law_cell"] (a9 kP):=⟨rfl,rfl,rfl,by decide +kernel,rfl,by decide +kernel,by decide +kernel⟩
abbrev CG:Stmt:=top 53
def uh:bO ["_law_ends","_law_letter","_law_left","_law_right","_law_new","_law_low","_law_high"] ["_law_ends","_law_letter"] (a9 CG):=⟨rfl,rfl,rfl,by decide +kernel,rfl,by decide +kernel,by decide +kernel⟩
abbrev jM:Stmt:=top 54
def xK:bO ["_law_side"] ["_law_side"] (a9 jM):=⟨rfl,rfl,rfl,by decide +kernel,rfl,by decide +kernel,by decide +kernel⟩
abbrev kW:Stmt:=top 55
def jG:bO ["_law_ends","_law_row","_law_here","_law_best","_law_k"] ["_law_ends"] (a9 kW):=⟨rfl,rfl,rfl,by decide +kernel,rfl,by decide +kernel,by decide +kernel⟩
abbrev kU:Stmt:=top 56
def gf:bO ["_law_rest","_law_side","_law_many","_law_ends","_law_code","_law_letter"] ["_law_rest","_law_side","_law_many"] (a9 kU):=⟨rfl,rfl,rfl,by decide +kernel,rfl,by decide +kernel,by decide +kernel⟩
abbrev gO:Stmt:=top 57
def ie:bO ["_law_found","_law_side","_law_order","_law_road","_law_bows","_law_k"] ["_law_found","_law_side","_law_order"] (a9 gO):=⟨rfl,rfl,rfl,by decide +kernel,rfl,by decide +kernel,by decide +kernel⟩
abbrev oi:Stmt:=top 58
def xL:bO ["_law_maze","e"] ["_law_maze"] (a9 oi):=⟨rfl,rfl,rfl,by decide +kernel,rfl,by decide +kernel,by decide +kernel⟩
abbrev gw:Stmt:=top 59
def gJ:bO ["_law_cell","_law_side","_law_far","_law_odd","_law_rings","_law_order"] ["_law_cell","_law_side"] (a9 gw):=⟨rfl,rfl,rfl,by decide +kernel,rfl,by decide +kernel,by decide +kernel⟩
abbrev o9:Stmt:=top 60
def xG:bO ["_law_side","_law_n","_law_number","e"] ["_law_side","_law_n","_law_number"] (a9 o9):=⟨rfl,rfl,rfl,by decide +kernel,rfl,by decide +kernel,by decide +kernel⟩
abbrev kR:Stmt:=top 61
def k6:bO ["_law_cell","_law_side","_law_n","_law_many","_law_far","_law_odd","_law_rings","_law_strange"] ["_law_cell","_law_side","_law_n","_law_many"] (a9 kR):=⟨rfl,rfl,rfl,by decide +kernel,rfl,by decide +kernel,by decide +kernel⟩
abbrev qW:Stmt:=top 62
def lZ:bO ["_law_script","_law_head","_law_side","_law_code","_law_maze","_law_found","_law_other","_law_n","_law_many","_law_number"] ["_law_script"] (a9 qW):=⟨rfl,rfl,rfl,by decide +kernel,rfl,by decide +kernel,by decide +kernel⟩
abbrev gP:Stmt:=L2.Of (top 3)
def sX:bO ["self","bows"] ["self","bows"] (a9 gP):=⟨rfl,rfl,rfl,by decide +kernel,rfl,by decide +kernel,by decide +kernel⟩
structure qL (mg:Str->Option Value):Prop where
 len:mg "len"=none
 range:mg "range"=none
 int:mg "int"=none
 list:mg "list"=none
 tuple:mg "tuple"=none
 isinstance:mg "isinstance"=none
 str:mg "str"=none
 bool:mg "bool"=none
 sorted:mg "sorted"=none
 all:mg "all"=none
 zip:mg "zip"=none
 max:mg "max"=none
 min:mg "min"=none
 reversed:mg "reversed"=none
 enumerate:mg "enumerate"=none
 abs:mg "abs"=none
 sum:mg "sum"=none
 ValueError:mg "ValueError"=none
 MOST_RINGS:∃ t,mg "MOST_RINGS"=some (.int 20 t)
 LETTERS:∃ t,mg "LETTERS"=some (.str (Str.ofString "abcd") t)
 LEFT_INWARDS:∃ t,mg "LEFT_INWARDS"=some (.str (Str.ofString "ab") t)
 RIGHT_INWARDS:∃ t,mg "RIGHT_INWARDS"=some (.str (Str.ofString "ac") t)
local macro_rules | `(tactic| nofun) => `(tactic| (try dsimp (maxSteps := 3000000) only [L2.DT, L2.Ov, L2.M3, L2.MW, L2.JY, L2.Ow, L2.DU, L2.MX, L2.w_and, L2.w_or, L2.w_not, L2.Dm, L2.JR, L2.D3, L2.M9, L2.JP, L2.w_next, L2.JW, L2.Dk, L2.Dg, L2.JQ, L2.DY, L2.JV, L2.JZ, L2.A9, L2.DX, L2.DW, L2.JS, L2.Dl, L2.Mj, L2.JO, L2.JU, L2.w_call, L2.Mk, L2.JX, L2.Ai, L2.wb, L2.De, L2.Dd, L2.Da, L2.D8, L2.D6, L2.D9, L2.Dc, L2.Af, L2.Ae, L2.Ah, L2.Ag, L2.Ad, L2.Ab, L2.Aa, L2.D4, L2.A8, L2.A6, L2.A7, L2.D5, L2.w_getS, L2.D7, L2.MZ, L2.D0, L2.w9, L2.Di, L2.Dh, L2.wa, L2.Ac, L2.A5]); (try simp (maxSteps := 3000000) only [L2.Jl, L2.DT, L2.Ov, L2.M3, L2.MW, L2.Gy, L2.PP, L2.PN, L2.Mh, L2.M4, L2.Mg, L2.JT, L2.Mi, L2.M5, L2.Mf, L2.Me, L2.Jv, L2.KI, L2.JY, L2.ON, W9, Wa, dh, L2.Ow, L2.Md, L2.Ju, L2.KA, L2.Jy, L2.Jz, L2.Jw, L2.Jx, L2.Jo, L2.M7, L2.M8, L2.M6, L2.Ml, L2.M2, L2.DU, L2.MX, L2.w_and, L2.w_or, L2.w_not, L2.Dm, L2.JR, L2.D3, L2.M9, L2.JP, L2.w_next, L2.JW, L2.Dk, L2.Dg, L2.JQ, L2.DY, L2.JV, L2.JZ, L2.A9, L2.DX, L2.DW, L2.JS, L2.Dl, L2.Mj, L2.JO, L2.JU, L2.w_call, L2.Mk, L2.JX, L2.Ai, L2.wb, L2.De, L2.Dd, L2.Da, L2.D8, L2.D6, L2.Jq, L2.Gq, cX, W6, Bool.not_eq_true', decide_eq_false_iff_not, L2.D9, L2.Dc, L2.Af, L2.Ae, L2.Ah, L2.Ag, L2.Ad, L2.Gw, L2.Ab, L2.Aa, L2.Gs, L2.Js, L2.Jr, L2.D4, L2.Mc, L2.A8, L2.A6, L2.A7, L2.D5, L2.w_getS, L2.Gp, L2.D7, L2.MZ, L2.D0, L2.w9, L2.MY, L2.Di, L2.Dh, L2.wa, L2.Ac, L2.Gv, L2.KD, L2.M1, L2.M0, L2.w_rev, L2.Gm, L2.DV, L2.Dj, L2.Gk, L2.Jn, L2.Mb, L2.DZ, L2.Jt, L2.Gu, L2.A5, L2.Jm, L2.Jp, L2.Gn, L2.Ma, L2.Gx, L2.KH, L2.KF, L2.KG]))
section
variable {P:Program} {w:World} {K:Wb} {mg:Str->Option Value} {base:Heap}
def xn (E:Fn K mg "crossing" jK ["bows"]):eG P w K mg base 1 "crossing" jK ["bows"] sR:=E.mk' λf fd F=>by
 refine F.okS j9 (λvs H Q E h=>?_) (λcdv A outer s H vs Q E hr h=>?_)
 ·obtain⟨l,ps,rfl,_⟩:=h;rfl
 ·obtain⟨l,ps,rfl,bo,qn,qs⟩:=h;obtain⟨as,b1,bl,bg⟩:=bo.get;refine⟨[some (.ref l),none,none,none,none],_,rfl,(L2.ij.h (aH (gx b6 rfl (iK (aY 0)) (lM (n:=2) rfl (dZ (bp (i:=1) j9.nd rfl (Or.inl rfl)) (dZ (bp (i:=2) j9.nd rfl (Or.inl rfl)) jb)))
   (aM (gx b6 rfl (iK (aY 0)) (lM (n:=2) rfl (dZ (bp (i:=3) j9.nd rfl (Or.inl rfl)) (dZ (bp (i:=4) j9.nd rfl (Or.inl rfl)) jb)))
    (aM (bw (zT ke ke ke (aY 1) (aY 3) (aY 2) (aY 4))
     (aM (aa (cL (cj (cL (aC (aY 1) (aC (aY 2) aB))) (cj (cL (aC (aY 3) (aC (aY 4) aB))) aB)))))
     bF)))))
   (aM (aa du)))),?_⟩
  nofun;refine⟨⟨_,c6.of b1⟩,tj (xs:=as.map V.ref) (λi σ H2=>∃x1 x2 x3 x4:Option V,σ=[some (.ref l),x1,x2,x3,x4]/\H2=H/\∀p∈ps.take i,∀q∈ps,eB p q=false) ⟨none,none,none,none,rfl,rfl,λp hp=>by simp at hp⟩ (λi σ H2 _ ⟨_,_,_,_,_,e,_⟩=>by rw[e];exact c6.of b1) ?_ ?_⟩
  ·rintro i x σ H2 hx ⟨x1,x2,x3,x4,rfl,rfl,hn⟩;obtain⟨a,p,rfl,hp,ta⟩:=bg i x hx;nofun;refine⟨_,de.of ta,rfl,?_⟩;nofun;refine⟨⟨_,c6.of b1⟩,tj (xs:=as.map V.ref) (λj σ H3=>∃x3 x4:Option V,σ=[some (.ref l),some (.int p.1),some (.int p.2),x3,x4]/\H3=H2/\∀q∈ps.take j,eB p q=false) ⟨x3,x4,rfl,rfl,λp hp=>by simp at hp⟩ (λi σ H2 _ ⟨_,_,_,e,_⟩=>by rw[e];exact c6.of b1) ?_ ?_⟩
   ·rintro j y σ H3 hy ⟨y3,y4,rfl,rfl,hm⟩;obtain⟨c,q,rfl,hq,tc⟩:=bg j y hy;nofun;refine⟨_,de.of tc,rfl,?_⟩;nofun;have nx:eB p q=false->∃x3 x4:Option V,[some (V.ref l),some (V.int p.1),some (V.int p.2),some (V.int q.1),some (V.int q.2)]=[some (V.ref l),some (V.int p.1),some (V.int p.2),x3,x4]/\True/\∀q∈ps.take (j+1),eB p q=false:=λe=>by
     refine⟨_,_,rfl,trivial,λq' hq'=>?_⟩;rw[cT,hq] at hq';rcases aQ.mp hq' with z | z
     ·exact hm q' z
     ·have e':q'=q:=by simpa using z
      rw[e'];exact e
    refine iz (λh1=>iz (λh2=>iz (λh3=>?_) (λh3=>nx (by simp[eB,h3]))) (λh2=>nx (by simp[eB,h2]))) (λh1=>nx (by simp[eB,h1]));refine⟨(by show 2<=sizeLine;decide),λt1 n1=>⟨(by show 2<=sizeLine;decide),λt2 n2=>⟨(by show 2<=sizeLine;decide),λt3 n3=>?_⟩⟩⟩;have s1:aP H3 (bP H3 t1 (.tup [.int p.1,.int p.2])):=(aP.refl _).new n1;have s2:=s1.new (o:=.tup [.int q.1,.int q.2]) (s1.free n2);have s3:=s2.new (o:=.tup [.ref t1,.ref t2]) (s2.free n3);have e12:t1≠t2:=λe=>by subst e;rw[aD] at n2;cases n2
    have e23:t2≠t3:=λe=>by subst e;rw[aD] at n3;cases n3
    have e13:t1≠t3:=λe=>by subst e;rw[aS e12,aD] at n3;cases n3
    refine qs p (bM hp) q (bM hq) (by simp[eB,h1,h2,h3]) t3 t1 t2 _ (s2.free n3) s3 aD ?_ ?_
    ·show bP _ _ _ t1=_;rw[aS e13,aS e12,aD]
    ·show bP _ _ _ t2=_;rw[aS e23,aD]
   ·rintro σ H3 ⟨y3,y4,rfl,rfl,hm⟩;refine⟨_,_,y3,y4,rfl,rfl,λp' hp'=>?_⟩;rw[cT,hp] at hp';rcases aQ.mp hp' with z | z
    ·exact hn p' z
    ·have e:p'=p:=by simpa using z
     subst e;intro q hq;refine hm q ?_;rw[aG,bl,eY];exact hq
  ·rintro σ H2 ⟨x1,x2,x3,x4,rfl,rfl,hn⟩;nofun;refine qn λp hp=>hn p ?_;rw[aG,bl,eY];exact hp
def xj (B:qL mg) (E:Fn K mg "is_whole" iT ["thing"]):eG P w K mg base 1 "is_whole" iT ["thing"] (rm K):=E.mk' λf fd F=>by
 refine F.okS xH (λvs H Q E h=>?_) (λcdv A outer s H vs Q E hr h=>?_)
 ·obtain⟨x,t,b,c,rfl,_⟩:=h;rfl
 ·obtain⟨x,t,b,c,rfl,ty,e1,e2,q⟩:=h;refine⟨[some x],_,rfl,(L2.ij.h (aM (aa (vg (a8 jg (by rfl) B.isinstance ac (aC (aY 0) (aC (iL (v:=.ty "int") (by rfl) B.int df rfl) aB))) (vf (HV (a8 jg (by rfl) B.isinstance ac (aC (aY 0) (aC (iL (v:=.ty "bool") (by rfl) B.bool nJ rfl) aB))))))))),?_⟩;nofun;refine⟨_,_,_,b,rfl,ty,e1,?_⟩;nofun;cases b with
  | false=>exact Lf q
  | true=>exact Le ⟨_,_,_,c,rfl,ty,e2,_,rfl,q⟩
def xm (E:Fn K mg "is_below" iU ["thing","bound"]) (Q0:eG P w K mg base 1 "is_whole" iT ["thing"] (rm K)):eG P w K mg base 2 "is_below" iU ["thing","bound"] vV:=E.mk' λf fd F=>by
 refine F.okS xJ (λvs H Q E h=>?_) (λcdv A outer s H vs Q E hr h=>?_)
 ·obtain⟨v,d,n,rfl,_⟩:=h;rfl
 ·obtain⟨v,d,n,rfl,hd,q⟩:=h;refine⟨[some v,some (.int n)],_,rfl,(L2.ij.h (aM (aa (vg (aU Q0 (hr.mono (by decide)) (by rfl) (aC (aY 0) aB)) (vf (CQ xb ke aE (aY 0) (aY 1))))))),?_⟩;nofun;refine wZ hd ?_;unfold qH at q;nofun;cases hw:fh d with
  | false=>
   rw[hw] at q;exact Lf q
  | true=>
   rw[hw] at q;have ed:=sF hw;generalize intOf d=z at ed q;subst ed;cases hd;refine Le ?_;nofun;by_cases h0:0<=z
   ·rw[W5 h0];rw[W8 h0] at q;exact q
   ·rw[W4 h0];rw[W7 h0] at q;exact q
def zi (Rq:∃a,mg "SIDES"=some (.ref a)/\∀H,de K H a (([("l":Str),"r"]:List Str).map V.str)) (E:Fn K mg "is_side" i5 ["thing"]):eG P w K mg base 1 "is_side" i5 ["thing"] qS:=E.mk' λf fd F=>by
 refine F.okS zL (λvs H Q E h=>?_) (λcdv A outer s H vs Q E hr h=>?_)
 ·obtain⟨x,d,rfl,_⟩:=h;rfl
 ·obtain⟨x,d,rfl,hd,pl,q⟩:=h;refine⟨[some x],_,rfl,(L2.ij.h (aM (aa (eh (zd (oJ hr)) (aY 0) (ul (by rfl) Rq) (by with_unfolding_all rfl))))),?_⟩;nofun;intro a ha;refine⟨d,[.str (Str.ofString "l"),.str (Str.ofString "r")],a,_,hd.rep,rfl,.inr (ha H),.cons (.str _) (.cons (.str _) .nil),pl.lay,by decide +kernel,pl.deep,?_⟩;rw[EY];exact q
def xk (B:qL mg) (E:Fn K mg "is_order" jI ["thing"]) (Q0:eG P w K mg base 1 "is_whole" iT ["thing"] (rm K)):eG P w K mg base 2 "is_order" jI ["thing"] ue:=E.mk' λf fd F=>by
 refine F.okS xI (λvs H Q E h=>?_) (λcdv A outer s H vs Q E hr h=>?_)
 ·obtain⟨x,d,rfl,_⟩:=h;rfl
 ·obtain⟨x,d,rfl,hd,q⟩:=h;refine⟨[some x],_,rfl,(L2.ij.h (aH (bw (QW.pt (jO (fq (eI (a8 jg (by rfl) B.isinstance ac (aC (aY 0) (aC (iL (v:=.ty "tuple") (by rfl) B.tuple dN rfl) aB))))) (kH (ae xf (a8 cU (by rfl) B.len ah (aC (aY 0) aB)) (qz (by rfl) B.MOST_RINGS) (bK _)))))
   (aM (aa ci))
   bF)
   (aH (bw (fq (eI (a8 (ye rfl) (by rfl) B.all PyProof.Rows.boot_all (ig (jd (own:=["ring"]) (ns:=[]) (caps:=[]) rfl ⟨rfl,by decide +kernel,by decide +kernel,by decide +kernel⟩ .nil (HR (aY 0)) (λC s H fp pn=>(bp (i:=0) (show List.Nodup ((["ring"]:List Str)++([]:List Str)) by decide +kernel) rfl (Or.inl rfl))) (λC s H fp pn=>kI) (λC s H fp pn=>(aU Q0 (hr.mono (by decide)) (by rfl) (aC (aY 0) aB)))) aB))))
   (aM (aa ci))
   bF)
   (aM (aa (eh (ze (oJ hr)) (a8 qm (by rfl) B.sorted dk (aC (aY 0) aB)) (dX (pV rfl) (by rfl) B.list eO (qa (dX vB (by rfl) B.range mR (aJ aE (bu (a7 fS (a8 cU (by rfl) B.len ah (aC (aY 0) aB)) aE) aB))) aB)) (bK _))))))),?_⟩
  cases id hd with
  | tup h1 h2=>
   rename_i a xs ds;nofun;refine mK hd ?_;nofun;refine iH (by simp[OC]) ⟨_,.inr (de.of h1),?_⟩;have hl:=h2.len;refine iz (λhn=>?_) (λhn=>?_)
   ·have e:kd (.tuple ds)=false:=by
     show (decide (ds.length<=20)&&_)=false;rw[W7 (by lia)];rfl
    rw[e] at q;exact q H (aP.refl _)
   ·have hn':xs.length<=20:=by lia
    have hz:xs.length<=sizeLine:=ba (cB (by lia));have hds:ds.length=xs.length:=hl.symm;have e0:kd (.tuple ds)=(ds.all fh&&(ds.map intOf).isPerm (fU 1 ds.length)):=by
     show (decide (ds.length<=20)&&_)=_;rw[W8 (by lia)];rfl
    rw[e0] at q;refine⟨⟨_,de.of h1⟩,Cw (de.of h1) hz ((ds.map fh).map V.bl) (by simp[hds]) (λi x y Q' hx hy hq=>?_) λp1 n1=>?_⟩
    ·obtain⟨d,hd1,hd2⟩:=h2.get hx;nofun;refine wZ hd2 ?_;have ey:y=V.bl (fh d):=by simp[hd1] at hy;exact hy.symm
     rw[ey] at hq;exact hq
    ·have s1:aP H (bP H p1 (.lst ((ds.map fh).map V.bl))):=(aP.refl _).new n1;refine⟨p1,_,rfl,c6.of aD,_,rfl,?_⟩;have ea:(ds.map fh).all id=ds.all fh:=by rw[List.all_map];rfl
     cases hb:ds.all fh with
     | false=>
      rw[hb] at q;exact lw (show (ds.map fh).all id=false by rw[ea,hb]) (q _ s1)
     | true=>
      rw[hb,pW] at q;rw[iF] at hb;have hq1:=s1 _ _ h1;have ex:xs=(ds.map intOf).map V.int:=by
       apply List.ext_getElem?;intro i;cases e:xs[i]? with
       | none=>
        have:xs.length<=i:=by rw[<-List.getElem?_eq_none_iff];exact e
        rw[List.getElem?_eq_none (by simp;lia)]
       | some x=>
        obtain⟨d,hd1,hd2⟩:=h2.get e;have hw:=sF (hb d (bM hd1));rw[hw] at hd2;cases hd2;simp[hd1]
      refine iH (show ¬(ds.map fh).all id=false by rw[ea,iF.mpr hb];decide) ⟨a,ds.map intOf,rfl,.inr (by rw[<-ex];exact de.of hq1),by rw[aG];lia,λl5 ms n5 hp hs=>?_⟩;have s5:=s1.new (o:=.lst (ms.map V.int)) (s1.free n5);nofun;refine⟨_,.inr (de.of (s5 _ _ h1)),λp6 n6=>⟨1,_,aD,⟨by decide,by decide,by lia,by lia,by lia⟩,λl7 n7=>?_⟩⟩;have s6:=s5.new (o:=.rng 1 ((xs.length:Int)+1)) (s5.free n6);have n56:l5≠p6:=λe=>by subst e;rw[aD] at n6;cases n6
      have n57:l5≠l7:=λe=>by subst e;rw[aS n56,aD] at n7;cases n7
      have eN:((xs.length:Int)+1 - 1).toNat=(ds.map intOf).length:=by rw[aG];lia
      refine GK (c6.of (by rw[aS n57,aS n56,aD])) (c6.of aD) ?_;rw[eN,vX hp hs];rw[aG];exact q _ (s6.new (s6.free n7))
  | _=>
   nofun;refine mK hd ?_;nofun;exact lw (by rfl) (q H (aP.refl _))
def zj (B:qL mg) (E:Fn K mg "is_maze" kS ["thing"]) (Py:eG P w K mg base 1 "is_side" i5 ["thing"] qS) (Rx:eG P w K mg base 2 "is_order" jI ["thing"] ue):eG P w K mg base 3 "is_maze" kS ["thing"] wv:=E.mk' λf fd F=>by
 refine F.okS zM (λvs H Q E h=>?_) (λcdv A outer s H vs Q E hr h=>?_)
 ·obtain⟨x,d,rfl,_⟩:=h;rfl
 ·obtain⟨x,d,rfl,hd,pl,q⟩:=h;refine⟨[some x],_,rfl,(L2.ij.h (aH (bw (QW.pt (jO (fq (eI (a8 jg (by rfl) B.isinstance ac (aC (aY 0) (aC (iL (v:=.ty "tuple") (by rfl) B.tuple dN rfl) aB))))) (kH (ae qb (a8 cU (by rfl) B.len ah (aC (aY 0) aB)) aE (bK _)))))
   (aM (aa ci))
   bF)
   (aM (aa (vg (aU Py (hr.mono (by decide)) (by rfl) (ak (bJ fu (aY 0) aE (λ_ _=>rfl)) aB)) (vf (aU Rx (hr.mono (by decide)) (by rfl) (ak (bJ fu (aY 0) aE (λ_ _=>rfl)) aB)))))))),?_⟩
  cases id hd with
  | tup h1 h2=>
   rename_i a xs ds;nofun;refine mK hd ?_;nofun;refine iH (by simp[OC]) ⟨_,.inr (de.of h1),?_⟩;have hl:=h2.len;refine iz (λhn=>?_) (λhn=>?_)
   ·have e:mI (.tuple ds)=false:=by
     match ds,hl with
     | [],_=>rfl
     | [u],_=>rfl
     | [u,v],hl=>exact absurd (by rw[hl];rfl) hn
     | u::v::w::r,_=>rfl
    rw[e] at q;exact q H (aP.refl _)
   ·have hn':xs.length=2:=by
     have:(xs.length:Int)=2:=lW.mp hn;lia
    obtain⟨d,e,rfl⟩:∃d e,ds=[d,e]:=match ds,hl.symm.trans hn' with
     | [u,v],_=>⟨u,v,rfl⟩
    obtain⟨x,y,rfl,hx,hy⟩:=Il h2;have hlay:d.canLay0=true:=by
     have:(PyData.canLay0 d&&(PyData.canLay0 e&&true))=true:=pl.lay;rw[cQ] at this;exact this.1
    have hdp:d.depth<=60:=by
     have:max d.depth (max e.depth 0)+1<=60:=pl.deep;lia
    refine⟨_,x,de.of h1,rfl,x,d,rfl,hx,⟨hlay,hdp⟩,?_⟩;nofun;cases es:j5 d with
    | false=>
     refine Lf ?_;have e:mI (.tuple [d,e])=false:=by show (j5 d&&_)=false;rw[es];rfl
     rw[e] at q;exact q H (aP.refl _)
    | true=>
     have e:mI (.tuple [d,e])=kd e:=by show (j5 d&&_)=_;rw[es];rfl
     rw[e] at q;exact Le ⟨_,y,de.of h1,rfl,y,_,rfl,hy,q⟩
  | _=>
   nofun;refine mK hd ?_;nofun;exact lw (by rfl) (q H (aP.refl _))
def uS (E:Fn K mg "other_side" fk ["side"]):eG P w K mg base 1 "other_side" fk ["side"] vU:=E.mk' λf fd F=>by
 refine F.okS uN (λvs H Q E h=>?_) (λcdv A outer s H vs Q E hr h=>?_)
 ·obtain⟨b,rfl,_⟩:=h;rfl
 ·obtain⟨b,rfl,q⟩:=h;refine⟨[some (.str (sd b))],_,rfl,(L2.ij.h (aM (aa (dv (ae f6 (aY 0) ar (bK _)) ar ar)))),?_⟩;nofun;simp only[Mu];refine iz (λh=>?_) (λh=>?_)
  ·subst h;exact q
  ·have e:b=true:=by cases b;exact absurd rfl h;rfl
   subst e;exact q
def rW (E:Fn K mg "side_of_step" fY ["maze","step"]) (Pz:eG P w K mg base 1 "other_side" fk ["side"] vU):eG P w K mg base 2 "side_of_step" fY ["maze","step"] wq:=E.mk' λf fd F=>by
 refine F.okS nO (λvs H Q E h=>?_) (λcdv A outer s H vs Q E hr h=>?_)
 ·obtain⟨m,o,b,ns,k,rfl,_⟩:=h;rfl
 ·obtain⟨m,o,b,ns,k,rfl,hm,q⟩:=h;refine⟨[some (.ref m),some (.int k),none],_,rfl,(L2.ij.h (aH (a6 (i:=2) nO.nd rfl (Or.inl rfl) (bJ fu (aY 0) aE (λ_ _=>rfl)))
   (aM (aa (dv (ae f6 (a7 fZ (aY 1) aE) aE (bK _)) (aY 2) (aU Pz (hr.mono (by decide)) (by rfl) (aC (aY 2) aB))))))),?_⟩
  nofun;refine⟨_,_,de.of hm.1,rfl,?_⟩;refine⟨by decide,iz (λh=>?_) (λh=>?_)⟩
  ·have e:odd k=false:=by simp[odd];lia
   rw[e,Bool.xor_false] at q;exact q
  ·have e:odd k=true:=by simp[odd];lia
   rw[e,Bool.xor_true] at q;exact⟨b,rfl,q⟩
def tE (B:qL mg) (E:Fn K mg "rows_of_way" gK ["maze"]):eG P w K mg base 1 "rows_of_way" gK ["maze"] ES:=E.mk' λf fd F=>by
 refine F.okS oF (λvs H Q E h=>?_) (λcdv A outer s H vs Q E hr h=>?_)
 ·obtain⟨m,o,b,ns,rfl,_⟩:=h;rfl
 ·obtain⟨m,o,b,ns,rfl,hm,hl,q⟩:=h;refine⟨[some (.ref m),none],_,rfl,(L2.ij.h (aH (a6 (i:=1) oF.nd rfl (Or.inl rfl) (bJ fu (aY 0) aE (λ_ _=>rfl)))
   (aM (aa (a7 jR (a7 jR (bf (aJ aE aB)) (dX qo (by rfl) B.list eO (aC (aY 1) aB))) (bf (bu (a7 fS (a8 cU (by rfl) B.len ah (aC (aY 1) aB)) aE) aB))))))),?_⟩
  nofun;refine⟨_,_,de.of hm.1,rfl,(by show 1<=sizeLine;decide),λp1 n1=>?_⟩;have s1:=(aP.refl H).new (o:=.lst [.int 0]) n1;refine⟨o,_,rfl,.inr (de.of (s1 _ _ hm.2)),λp2 n2=>?_⟩;have s2:=s1.new (o:=.lst (ns.map V.int)) (s1.free n2);have e12:p1≠p2:=λe=>by subst e;rw[aD] at n2;cases n2
  refine⟨p1,p2,_,_,rfl,rfl,by rw[aS e12,aD],aD,ba (cB (by simp;lia)),λp3 n3=>?_⟩;have s3:=s2.new (o:=.lst ([.int 0]++ns.map V.int)) (s2.free n3);refine⟨o,_,rfl,.inr (de.of (s3 _ _ hm.2)),(by show 1<=sizeLine;decide),λp4 n4=>?_⟩;have s4:=s3.new (o:=.lst [.int (((ns.map V.int).length:Int)+1)]) (s3.free n4);have e34:p3≠p4:=λe=>by subst e;rw[aD] at n4;cases n4
  refine⟨p3,p4,_,_,rfl,rfl,by rw[aS e34,aD],aD,ba (cB (by simp;lia)),λp5 n5=>?_⟩;have s5:=s4.new (o:=.lst ([.int 0]++ns.map V.int++[.int (((ns.map V.int).length:Int)+1)])) (s4.free n5);refine q p5 _ (s4.free n5) s5 ?_;rw[aD];simp[ef]
def zt (B:qL mg) (E:Fn K mg "bows_of" jL ["maze"]) (Qf:eG P w K mg base 2 "side_of_step" fY ["maze","step"] wq) (Qr:eG P w K mg base 1 "rows_of_way" gK ["maze"] ES):eG P w K mg base 3 "bows_of" jL ["maze"] sS:=E.mk' λf fd F=>by
 refine F.okS k8 (λvs H Q E h=>?_) (λcdv A outer s H vs Q E hr h=>?_)
 ·obtain⟨m,o,b,ns,rfl,_⟩:=h;rfl
 ·obtain⟨m,o,b,ns,rfl,hm,O,q⟩:=h;have hlen:=O.len;refine⟨[some (.ref m),none,none,none,none],_,rfl,(L2.ij.h (aH (a6 (i:=1) k8.nd rfl (Or.inl rfl) (aU Qr (hr.mono (by decide)) (by rfl) (aC (aY 0) aB)))
   (aH (a6 (i:=2) k8.nd rfl (Or.inl rfl) (xU (oy ar (bf aB) (oy ar (bf aB) xS)) rfl rfl (λz=>nomatch z) (by decide)))
   (aH (gx b6 rfl (zW (by rfl) B.range (bu (a7 iV (a8 cU (by rfl) B.len ah (aC (aY 1) aB)) aE) aB)) (bp (i:=3) k8.nd rfl (Or.inl rfl))
   (aH (a6 (i:=4) k8.nd rfl (Or.inl rfl) (dX l8 (by rfl) B.tuple dN (cF (a8 mO (by rfl) B.sorted dk (ak (eV kF (aY 1) (fH (aY 3)) (fH (a7 fS (aY 3) aE))) aB)) aB)))
    (aM (iJ (l4 dM dj di mH (jc (rH hr) (aY 2) (aU Qf (hr.mono (by decide)) (by rfl) (aC (aY 0) (aC (aY 3) aB))) (λ_ _=>rfl)) (aC (aY 4) aB))))))
   (aM (aa (cL (cF (a8 mP (by rfl) B.sorted dk (ak (jc (rH hr) (aY 2) ar (λ_ _=>rfl)) aB)) (cF (a8 mP (by rfl) B.sorted dk (ak (jc (rH hr) (aY 2) ar (λ_ _=>rfl)) aB)) aB))))))))),?_⟩
  nofun;refine⟨m,o,b,ns,rfl,hm,by lia,λrl H1 nrl s1 hrl=>?_⟩;nofun;intro d nd;have sd1:=s1.new (o:=.dK []) (s1.free nd);refine⟨bU _,λl1 nl1=>?_⟩;have edl:d≠l1:=λe=>by subst e;rw[aD] at nl1;cases nl1
  have sl1:=sd1.new (o:=.lst []) (sd1.free nl1);refine⟨bU _,λr1 nr1=>?_⟩;have edr:d≠r1:=λe=>by subst e;rw[aS edl,aD] at nr1;cases nr1
  have elr:l1≠r1:=λe=>by subst e;rw[aD] at nr1;cases nr1
  have sr1:=sl1.new (o:=.lst []) (sl1.free nr1);refine⟨by rw[aS edr,aS edl,aD],[(.inr (Str.ofString "l"),.ref l1),(.inr (Str.ofString "r"),.ref r1)],rfl,(by show 2<=15;decide),?_⟩;have fd0:H d=none:=s1.free nd;have fl0:H l1=none:=sd1.free nl1;have fr0:H r1=none:=sl1.free nr1;have erl:rl≠d:=bD hrl nd;have erl1:rl≠l1:=bD (((aP.refl H1).new (o:=.dK []) nd) _ _ hrl) nl1;have erl2:rl≠r1:=bD ((((aP.refl H1).new (o:=.dK []) nd).new (o:=.lst []) (((aP.refl H1).new (o:=.dK []) nd).free nl1)) _ _ hrl) nr1;generalize hkv:qA [] [((.inr (Str.ofString "l"):Key),V.ref l1),(.inr (Str.ofString "r"),.ref r1)]=kvs;have kl:i9 kvs (.inr (Str.ofString "l"))=some (.ref l1):=by subst hkv;rfl
  have kr:i9 kvs (.inr (Str.ofString "r"))=some (.ref r1):=by subst hkv;rfl
  have ks:∀s:Bool,i9 kvs (.inr (sd s))=some (.ref (if s then r1 else l1)):=λs=>by cases s;exact kl;exact kr
  refine⟨_,.inl (c6.of (by rw[aS erl,aS erl2,aS erl1,aS erl];exact hrl)),by rw[aG,jN];lia,by rw[aG,jN];lia,?_⟩;have eN:(((ef ns).map V.int).length - 1:Int).toNat=ns.length+1:=by rw[aG,jN];lia
  rw[eN];refine uy (n:=ns.length+1) (λi σ H2=>∃(x3 x4:Option V),σ=[some (.ref m),some (.ref rl),some (.ref d),x3,x4]/\aP H H2/\H2 rl=some (.lst ((ef ns).map V.int))/\H2 d=some (.dK kvs)/\gW H2 l1 (bE b ns false i)/\gW H2 r1 (bE b ns true i))
   ⟨none,none,rfl,sr1.new fd0,by rw[aS erl,aS erl2,aS erl1,aS erl];exact hrl,aD,⟨[],by rw[aS edl.symm,aS elr,aD];rfl,.nil⟩,⟨[],by rw[aS edr.symm,aD];rfl,.nil⟩⟩ ?_ ?_
  ·rintro i σ H2 hi ⟨x3,x4,rfl,sm,hrl2,hd2,bl,br⟩;nofun;refine⟨rl,_,rfl,c6.of hrl2,λp1 n1=>?_⟩;rw[Io (by lia)];have t1:=(aP.refl H2).new (o:=.lst ([bj ns i,bj ns (i+1)].map V.int)) n1;refine⟨p1,_,rfl,c6.of aD,(by show 2<64;decide),λp2 ms n2 hp hs=>?_⟩;rw[yr hp hs];have t2:=t1.new (o:=.lst ([min (bj ns i) (bj ns (i+1)),max (bj ns i) (bj ns (i+1))].map V.int)) (t1.free n2);refine⟨p2,_,rfl,.inl ⟨c6.of aD,λt n3=>?_⟩⟩;have t3:=t2.new (o:=.tup ([min (bj ns i) (bj ns (i+1)),max (bj ns i) (bj ns (i+1))].map V.int)) (t2.free n3);have sm3:=sm.trans t3;refine⟨m,o,b,ns,i,by simp,hm.same sm3,?_⟩;have bl3:=bl.same t3;have br3:=br.same t3;refine⟨_,.inl ⟨kvs,.inr (sd (b ^^ odd i)),.inl (t3 _ _ hd2),rfl,(ks _).symm⟩,?_⟩;have tt:ff (bP (bP (bP H2 p1 (.lst ([bj ns i,bj ns (i+1)].map V.int))) p2 (.lst ([min (bj ns i) (bj ns (i+1)),max (bj ns i) (bj ns (i+1))].map V.int))) t (.tup ([min (bj ns i) (bj ns (i+1)),max (bj ns i) (bj ns (i+1))].map V.int))) t (jz ns i):=aD;generalize bP (bP (bP H2 p1 (.lst ([bj ns i,bj ns (i+1)].map V.int))) p2 (.lst ([min (bj ns i) (bj ns (i+1)),max (bj ns i) (bj ns (i+1))].map V.int))) t (.tup ([min (bj ns i) (bj ns (i+1)),max (bj ns i) (bj ns (i+1))].map V.int))=H3 at *;cases hs:(b ^^ odd i) with
   | false=>
    have h1:dc b false i=true:=by simp[dc,hs]
    have h2:dc b true i=false:=by simp[dc,hs]
    rw[qU h1,rS h2];obtain⟨as,b1,b2⟩:=bl3;have ha:as.length=(bE b ns false i).length:=eQ b2;have:=ic b ns false i;refine⟨u7 b1,l1,as.map V.ref,_,rfl,rfl,b1,by rw[aG];exact cB (by lia),_,_,rfl,sm3.new fl0,by rw[aS erl1];exact t3 _ _ hrl2,by rw[aS edl];exact t3 _ _ hd2,vC b1 b2 tt,yh br3 b1 elr.symm⟩
   | true=>
    have h1:dc b true i=true:=by simp[dc,hs]
    have h2:dc b false i=false:=by simp[dc,hs]
    rw[qU h1,rS h2];obtain⟨as,b1,b2⟩:=br3;have ha:as.length=(bE b ns true i).length:=eQ b2;have:=ic b ns true i;refine⟨u7 b1,r1,as.map V.ref,_,rfl,rfl,b1,by rw[aG];exact cB (by lia),_,_,rfl,sm3.new fr0,by rw[aS erl2];exact t3 _ _ hrl2,by rw[aS edr];exact t3 _ _ hd2,yh bl3 b1 elr,vC b1 b2 tt⟩
  ·rintro σ H2 ⟨x3,x4,rfl,sm,hrl2,hd2,bl,br⟩;nofun;have bnd:∀s,∀p∈bE b ns s (ns.length+1),0<=p.2/\p.2<1000:=λs p hp=>by
    obtain⟨i,hi,_,rfl⟩:=ly hp;have:=O.step_in (i:=i) (by lia);have:=O.step_lt (i:=i) (by lia);lia
   obtain⟨as,b1,b2⟩:=bl;have:=ic b ns false (ns.length+1);refine⟨_,.inl ⟨kvs,.inr (Str.ofString "l"),.inl hd2,rfl,kl.symm⟩,l1,as,_,rfl,c6.of b1,b2,by lia,bnd false,λl as' L nl hP hp hs=>?_⟩;have t1:=(aP.refl H2).new (o:=.lst (as'.map V.ref)) nl;obtain⟨bs,c1,c2⟩:=br.same t1;have:=ic b ns true (ns.length+1);refine⟨_,.inl ⟨kvs,.inr (Str.ofString "r"),.inl (t1 _ _ hd2),rfl,kr.symm⟩,r1,bs,_,rfl,c6.of c1,c2,by lia,bnd true,λr bs' R nr hP2 hp2 hs2=>?_⟩;have t2:=(aP.refl (bP H2 l (.lst (as'.map V.ref)))).new (o:=.lst (bs'.map V.ref)) nr;refine⟨(by show 2<=sizeLine;decide),λt nt=>?_⟩;have t3:=(aP.refl (bP (bP H2 l (.lst (as'.map V.ref))) r (.lst (bs'.map V.ref)))).new (o:=.tup [.ref l,.ref r]) nt;have elr2:l≠r:=λe=>by subst e;rw[aD] at nr;cases nr
   refine q t l r L R _ (sm.free (t1.free (t2.free nt))) (sm.free nl) (sm.free (t1.free nr)) (((sm.trans t1).trans t2).trans t3) ⟨aD,?_,?_,⟨hp,hs⟩,⟨hp2,hs2⟩,elr2⟩
   ·exact((vD (l:=l) hP nl).same t2).same t3
   ·exact(vD (l:=r) hP2 nr).same t3
def zm (B:qL mg) (Rq:∃a,mg "SIDES"=some (.ref a)/\∀H,de K H a (([("l":Str),"r"]:List Str).map V.str)) (E:Fn K mg "crossed" kT ["maze"]) (Qe:eG P w K mg base 3 "bows_of" jL ["maze"] sS) (Ry:eG P w K mg base 1 "crossing" jK ["bows"] sR):eG P w K mg base 4 "crossed" kT ["maze"] uf:=E.mk' λf fd F=>by
 refine F.okS mf (λvs H Q E h=>?_) (λcdv A outer s H vs Q E hr h=>?_)
 ·obtain⟨m,o,b,ns,rfl,_⟩:=h;rfl
 ·obtain⟨m,o,b,ns,rfl,hm,O,qn,qc⟩:=h;refine⟨[some (.ref m),none,none,none],_,rfl,(L2.ij.h (aH (gx b6 rfl (Ei (by rfl) B.zip (aC (ul (by rfl) Rq) (cF (aU Qe (hr.mono (by decide)) (by rfl) (aC (aY 0) aB)) aB))) (lM (n:=2) rfl (dZ (bp (i:=1) mf.nd rfl (Or.inl rfl)) (dZ (bp (i:=2) mf.nd rfl (Or.inl rfl)) jb)))
   (aH (a6 (i:=3) mf.nd rfl (Or.inl rfl) (aU Ry (hr.mono (by decide)) (by rfl) (aC (aY 2) aB)))
    (aM (bw (ae vn (aY 3) du (bK _))
    (aM (aa (cL (aC (aY 1) (ak (bJ fu (aY 3) aE (λ_ _=>rfl)) (ak (bJ fu (aY 3) aE (λ_ _=>rfl)) aB))))))
    bF))))
   (aM (aa du)))),?_⟩
  nofun;intro a ha;refine⟨m,o,b,ns,rfl,hm,O,λt l r L R H1 nt nl nr s1 BO=>⟨a,t,rfl,⟨_,ha _⟩,⟨_,de.of BO.tup⟩,?_⟩⟩;refine GD (xs:=[V.str (sd false),.str (sd true)]) (ys:=[.ref l,.ref r]) (aI _) (λi σ H'=>∃x1 x2 x3:Option V,σ=[some (.ref m),x1,x2,x3]/\aP H1 H'/\∀u:Bool,(if u then 2 else 1)<=i->∀p∈bE b ns u (ns.length+1),∀q∈bE b ns u (ns.length+1),eB p q=false)
   ⟨_,_,_,rfl,aP.refl _,λu hu=>by cases u<;>simp at hu⟩ (λi σ H' ⟨_,_,_,_,s2,_⟩=>⟨ha _,de.of (s2 _ _ BO.tup)⟩) ?_ ?_
  ·rintro i x y σ H2 p hx hy ⟨x1,x2,x3,rfl,s2,hn⟩ np;obtain⟨u,lu,S,rfl,rfl,hBS,hS,hi⟩:∃(u:Bool) (lu:Addr) (S:List Bw),x=.str (sd u)/\y=.ref lu/\gW H2 lu S/\uH b ns u S/\i+1=(if u then 2 else 1):=by
    match i,hx,hy with
    | 0,hx,hy=>cases hx;cases hy;exact⟨false,l,L,rfl,rfl,BO.left.same s2,BO.isL,rfl⟩
    | 1,hx,hy=>cases hx;cases hy;exact⟨true,r,R,rfl,rfl,BO.right.same s2,BO.isR,rfl⟩
    | j+2,hx,hy=>simp at hx
   nofun;refine⟨_,de.of aD,rfl,?_⟩;have s3:=(aP.refl H2).new (o:=.tup [.str (sd u),.ref lu]) np;nofun;refine⟨lu,S,rfl,hBS.same s3,λhc=>⟨trivial,?_⟩,λe1 h1 e2 h2 z t2 a2 b2 H3 nt2 s4 ht2 ta tb=>⟨trivial,?_⟩⟩
   ·nofun;refine iH (λz=>z trivial) ⟨_,_,_,rfl,s2.trans s3,λv hv=>?_⟩;by_cases e:v=u
    ·subst e;exact λp hp q hq=>hc p (hS.perm.mem_iff.mpr hp) q (hS.perm.mem_iff.mpr hq)
    ·refine hn v ?_;cases u<;>cases v<;>simp_all
   ·nofun;refine lw (λz=>nomatch z) ⟨_,_,de.of ht2,rfl,_,_,de.of ht2,rfl,(by show 3<=sizeLine;decide),λt3 nt3=>?_⟩;have s5:=(aP.refl H3).new (o:=.tup [.str (sd u),.ref a2,.ref b2]) nt3;exact qc u e1 (hS.perm.mem_iff.mp h1) e2 (hS.perm.mem_iff.mp h2) z t3 _ ((((s1.trans s2).trans s3).trans s4).trans s5) ⟨a2,b2,aD,s5 _ _ ta,s5 _ _ tb⟩
  ·rintro σ H2 ⟨x1,x2,x3,rfl,s2,hn⟩;nofun;exact qn (λu=>hn u (by cases u<;>decide)) _ (s1.trans s2)
def tK {R C fi:Addr} {fd:FuncData} {bmB:List Value} {B newId initId:String} (O:rO "Crossed" C fi bmB newId mg base) (F0:ExcBaseFacts B newId initId bmB) (u:Om K R initId) (hR:mg "RingError"=some (.ref R)) (k:JK K C "bows") (F:wV K "__init__" "Crossed.__init__" gP fi fd) :
  oW P w K mg base yo 1 fi fd ["self","bows"] (Aw C "bows" IG):=by
 refine F.okS sX (λvs H Q E h=>?_) (λcdv A outer s H vs Q E hr h=>?_)
 ·obtain⟨e,v,rfl,_⟩:=h;rfl
 ·obtain⟨e,v,rfl,ok,he,q⟩:=h;refine⟨[some (.ref e),some v],_,rfl,(L2.ij.h (aH (iJ (CO F0 O hR u (by rfl) (qa (aY 0) (qa (HW hr ar (aY 1)) aB)))) (aM (Eh k (aY 0) (aY 1))))),?_⟩;nofun;exact⟨by decide +kernel,ok,λz=>⟨e,_,rfl,he,he,λdx nd ne=>q dx nd ne⟩⟩
def LU {P7 P6:Addr} (SO:MG P w K mg base 1 "Crossed" P6 "bows" IG) (RI:OwnCls "NoMaze" P7 [.type "ValueError",.type "Exception",.type "BaseException",.type "object"] "ValueError.__new__" mg base) (E:Fn K mg "vet" ui ["maze"]) (SQ:eG P w K mg base 3 "is_maze" kS ["thing"] wv) (SR:eG P w K mg base 4 "crossed" kT ["maze"] uf):lm P w K mg base 5 "vet" ui ["maze"] (ER P7 P6):=E.mkX λf fd F=>by
 refine F.okX E5 (λvs H Q E h=>?_) (λcdv A outer s H vs Q E hr h=>?_)
 ·obtain⟨x,d,rfl,_⟩:=h;rfl
 ·obtain⟨x,d,rfl,hd,pl,h⟩:=h;refine⟨[some x,none],_,rfl,(L2.ij.h (aH (bw (qZ (fq (eI (aU SQ (hr.mono (by decide)) (by rfl) (aC (aY 0) aB)))))
   (aM (oo qY RI c9 rfl (by rfl) (aJ ar aB)))
   bF)
   (aH (eJ (a6 (i:=1) E5.nd rfl (Or.inl rfl) (aU SR (hr.mono (by decide)) (by rfl) (aC (aY 0) aB))))
   (aH (bw (qZ (ae vn (aY 1) du (bK _)))
   (aM (zU CJ SO (hr.mono (by lia)) (by rfl) (aC (aY 1) aB)))
   bF)
   (aM (eJ (aa ci))))))),?_⟩
  nofun;refine⟨x,d,rfl,hd,pl,λH1 s1=>?_⟩;rcases h with ⟨hf,q⟩ | ⟨m,o,b,ns,rfl,hm,rfl,O,q,qc⟩
  ·rw[hf];nofun;exact⟨(by show 1<=sizeLine;decide),q _ s1⟩
  ·rw[L1 O];nofun;refine⟨m,o,b,ns,rfl,hm.same s1,O,λnc H2 s2=>⟨trivial,?_⟩,λu p hp q' hq z t H2 s2 ct=>⟨trivial,?_⟩⟩
   ·nofun;exact iH (λz=>z trivial) (q nc _ (s1.trans s2))
   ·nofun;refine lw (λz=>nomatch z) ⟨_,rfl,ct.ok O hp hq,λdx nd=>?_⟩;exact qc u p hp q' hq z t dx _ ((s1.trans s2).trans ((aP.refl _).new nd)) (ct.same ((aP.refl _).new nd)) aD
def FX (E:Fn K mg "begun" kG ["side"]):eG P w K mg base 1 "begun" kG ["side"] qT:=E.mk' λf fd F=>by
 refine F.okS E7 (λvs H Q E h=>?_) (λcdv A outer s H vs Q E hr h=>?_)
 ·obtain⟨c,rfl,_⟩:=h;rfl
 ·obtain⟨c,rfl,q⟩:=h;refine⟨[some (.str ⟨#[c]⟩)],_,rfl,(L2.ij.h (aM (aa (dv (ae f6 (aY 0) ar (bK _)) ar ar)))),?_⟩;nofun;rw[O0,OY,O3];simp only[ii];unfold kZ at q;refine iz (λh=>?_) (λh=>?_)
  ·rw[W5 h] at q;dsimp only at q;rw[Mr] at q;exact q
  ·rw[W4 h] at q;dsimp only at q;rw[Mq] at q;exact q
def uT (B:qL mg) (E:Fn K mg "leading_on" fm ["state"]):eG P w K mg base 1 "leading_on" fm ["state"] zH:=E.mk' λf fd F=>by
 refine F.okS uO (λvs H Q E h=>?_) (λcdv A outer s H vs Q E hr h=>?_)
 ·obtain⟨L,R,rfl,_⟩:=h;rfl
 ·obtain⟨L,R,rfl,hl,q⟩:=h;refine⟨[some (.str (tx (gu L R)))],_,rfl,(L2.ij.h (aM (aa (a7 iV (a8 cm (by rfl) B.len ah (aC (aY 0) aB)) aE)))),?_⟩;nofun;rw[be,Am];refine⟨lx (by lia),?_⟩;have e:((L.length+R.length+1:Nat):Int) - 1=((L.length+R.length:Nat):Int):=by lia
  rw[e];exact q
def vv (E:Fn K mg "other_end" i3 ["signs","place"]):eG P w K mg base 1 "other_end" i3 ["signs","place"] wr:=E.mk' λf fd F=>by
 refine F.okS fj (λvs H Q E h=>?_) (λcdv A outer s H vs Q E hr h=>?_)
 ·obtain⟨a,cs,p,q,rfl,_⟩:=h;rfl
 ·obtain⟨a,cs,p,q,rfl,ha,hl,far,hq⟩:=h;have rd:∀(i c:Nat),cs[i]? = some c->vI (cs.map uM) (i:Int)=some (V.str ⟨#[c]⟩):=λi c h=>kL (by rw[au,h];rfl);refine⟨[some (.ref a),some (.int (p:Nat)),none,none,none],_,rfl,(L2.ij.h (aH (bw (ae f6 (bJ dH (aY 0) (aY 1) (λ_ _=>rfl)) ar (bK _))
   (aM (aa (aY 1)))
   bF)
   (aH (a6 (i:=2) fj.nd rfl (Or.inl rfl) (dv (ae f6 (bJ dH (aY 0) (aY 1) (λ_ _=>rfl)) ar (bK _)) aE (fR fO aE)))
   (aH (a6 (i:=3) fj.nd rfl (Or.inl rfl) (aY 2))
   (aH (a6 (i:=4) fj.nd rfl (Or.inl rfl) (aY 1))
   (aH (oj b6 (ae qb (aY 3) aE (bK _))
   (aH (ou (i:=4) fj.nd rfl (Or.inl rfl) (aY 2) AD)
    (aM (bw (ae f6 (bJ dH (aY 0) (aY 4) (λ_ _=>rfl)) ar (bK _))
    (aM (ou (i:=3) fj.nd rfl (Or.inl rfl) aE AD))
    (aM (bw (ae f6 (bJ dH (aY 0) (aY 4) (λ_ _=>rfl)) ar (bK _))
     (aM (ou (i:=3) fj.nd rfl (Or.inl rfl) aE Fp))
     bF))))))
   (aM (aa (aY 4))))))))),?_⟩
  rcases far.walk with ⟨h0,rfl⟩ | ⟨st,n,d,hs,d0,dn,dz,eq,uK⟩
  ·nofun;refine⟨_,_,c6.of ha,rd _ _ h0,?_⟩;nofun;rw[uP,vb];simp only[ii,W9];exact hq
  ·rcases hs with ⟨rfl,h0⟩ | ⟨rfl,h0⟩
   ·nofun;refine⟨_,_,c6.of ha,rd _ _ h0,?_⟩;nofun;simp only[uP,vb,xM,ii];refine iH (by decide) ⟨_,_,c6.of ha,rd _ _ h0,?_⟩;nofun;simp only[uP,vb,xM,ii];refine lw (by decide) ?_;refine⟨λm σ H3=>∃j:Nat,j<=n/\m=n-j/\σ=[some (.ref a),some (.int (p:Nat)),some (.int 1),some (.int (d j)),some (.int ((p:Int)+1*j))]/\H3=H,⟨_,0,bU _,rfl,by simp[d0],rfl⟩,?_⟩;rintro m σ H3 ⟨j,hj,rfl,rfl,rfl⟩;nofun;refine iz (λh=>?_) (λh=>?_)
    ·have hjn:j<n:=by
      rcases ip j n with z | z
      ·exact z
      ·have:j=n:=by lia
       subst this;exact absurd dz h
     obtain⟨i,c,ei,hc,ed⟩:=uK j hjn;rw[ei];refine⟨_,λ_ _ z=>z,_,_,c6.of ha,rd _ _ hc,?_⟩;nofun;simp only[uP,vb,xM,ii];have fin:d (j+1)=d j+vl c:=ed;unfold vl at fin;have ej:(p:Int)+1*((j+1:Nat):Int)=i:=by rw[<-ei];lia
     refine iz (λhc1=>?_) (λhc1=>⟨_,_,c6.of ha,rd _ _ hc,?_⟩)
     ·rw[W5 hc1] at fin;exact⟨n-(j+1),by lia,j+1,hjn,rfl,by rw[fin,ej],trivial⟩
     ·nofun;simp only[uP,vb,xM,ii];rw[W4 hc1] at fin;refine iz (λhc2=>?_) (λhc2=>?_)
      ·rw[W5 hc2] at fin;exact⟨n-(j+1),by lia,j+1,hjn,rfl,by rw[fin,ej];rfl,trivial⟩
      ·rw[W4 hc2] at fin;exact⟨n-(j+1),by lia,j+1,hjn,rfl,by rw[fin,ej,Int.add_zero],trivial⟩
    ·have hjn:j=n:=by
      rcases ip j n with z | z
      ·exact absurd (lW.mp h) (dn j z)
      ·lia
     subst hjn;rw[eq];exact hq
   ·nofun;refine⟨_,_,c6.of ha,rd _ _ h0,?_⟩;nofun;simp only[uP,vb,xM,ii];refine iH (by decide) ⟨_,_,c6.of ha,rd _ _ h0,?_⟩;nofun;simp only[uP,vb,xM,ii];refine iH (by decide) ?_;refine⟨λm σ H3=>∃j:Nat,j<=n/\m=n-j/\σ=[some (.ref a),some (.int (p:Nat)),some (.int (-1)),some (.int (d j)),some (.int ((p:Int)+(-1)*j))]/\H3=H,⟨_,0,bU _,rfl,by simp[d0],rfl⟩,?_⟩;rintro m σ H3 ⟨j,hj,rfl,rfl,rfl⟩;nofun;refine iz (λh=>?_) (λh=>?_)
    ·have hjn:j<n:=by
      rcases ip j n with z | z
      ·exact z
      ·have:j=n:=by lia
       subst this;exact absurd dz h
     obtain⟨i,c,ei,hc,ed⟩:=uK j hjn;rw[ei];refine⟨_,λ_ _ z=>z,_,_,c6.of ha,rd _ _ hc,?_⟩;nofun;simp only[uP,vb,xM,ii];have fin:d (j+1)=d j+vl c:=ed;unfold vl at fin;have ej:(p:Int)+(-1)*((j+1:Nat):Int)=i:=by rw[<-ei];lia
     refine iz (λhc1=>?_) (λhc1=>⟨_,_,c6.of ha,rd _ _ hc,?_⟩)
     ·rw[W5 hc1] at fin;exact⟨n-(j+1),by lia,j+1,hjn,rfl,by rw[fin,ej],trivial⟩
     ·nofun;simp only[uP,vb,xM,ii];rw[W4 hc1] at fin;refine iz (λhc2=>?_) (λhc2=>?_)
      ·rw[W5 hc2] at fin;exact⟨n-(j+1),by lia,j+1,hjn,rfl,by rw[fin,ej];rfl,trivial⟩
      ·rw[W4 hc2] at fin;exact⟨n-(j+1),by lia,j+1,hjn,rfl,by rw[fin,ej,Int.add_zero],trivial⟩
    ·have hjn:j=n:=by
      rcases ip j n with z | z
      ·exact absurd (lW.mp h) (dn j z)
      ·lia
     subst hjn;rw[eq];exact hq
def C7 (B:qL mg) (E:Fn K mg "joined" mB ["left","right"]) (Qk:eG P w K mg base 1 "other_end" i3 ["signs","place"] wr):eG P w K mg base 2 "joined" mB ["left","right"] Au:=E.mk' λf fd F=>by
 refine F.okS i0 (λvs H Q E h=>?_) (λcdv A outer s H vs Q E hr h=>?_)
 ·obtain⟨L,R,x,y,rfl,_⟩:=h;rfl
 ·obtain⟨L,R,x,y,rfl,EE,hl,q⟩:=h;have hA:=v4 (P:=L) (Q:=R) (x:=x) (y:=y);have lA:(tx (cC [] (L++[x]))).length=L.length+1:=by rw[be,cN];simp
  have lB:(tx (cC (L++[x]) (R++[y]).reverse)).length=R.length+1:=by rw[be,cN];simp
  refine⟨[some (.str (tx (cC [] (L++[x])))),some (.str (tx (cC (L++[x]) (R++[y]).reverse))),none,none,none,none,none,none,none],_,rfl,(L2.ij.h (aH (a6 (i:=2) i0.nd rfl (Or.inl rfl) (dX (uY rfl) (by rfl) B.list eO (bu (a7 dy (aY 0) (aY 1)) aB)))
   (aH (a6 (i:=3) i0.nd rfl (Or.inl rfl) (a8 cm (by rfl) B.len ah (aC (aY 0) aB)))
   (aH (a6 (i:=4) i0.nd rfl (Or.inl rfl) (a7 iV (aY 3) aE))
   (aH (a6 (i:=5) i0.nd rfl (Or.inl rfl) (bf (cF (aU Qk (hr.mono (by decide)) (by rfl) (aC (aY 2) (aC (aY 4) aB))) (cF (aU Qk (hr.mono (by decide)) (by rfl) (aC (aY 2) (aC (aY 3) aB))) aB))))
   (aH (bw (ae f6 (bJ dH (aY 5) aE (λ_ _=>rfl)) (aY 3) (bK _))
   (aM (aa du))
   bF)
   (cE (a6 (i:=6) i0.nd rfl (Or.inl rfl) (dv (ae (zd (oJ hr)) ar (cL (ak (bJ dH (aY 2) (aY 4) (λ_ _=>rfl)) (ak (bJ dH (aY 2) (aY 3) (λ_ _=>rfl)) aB))) (by with_unfolding_all rfl)) ar ar))
   (aH (gx b6 rfl (Ej (by rfl) B.zip (cF (a8 mO (by rfl) B.sorted dk (aC (aY 5) aB)) (aC (aY 6) aB))) (lM (n:=2) rfl (dZ (bp (i:=7) i0.nd rfl (Or.inl rfl)) (dZ (bp (i:=8) i0.nd rfl (Or.inl rfl)) jb)))
   (aM (BN (aY 8) (HS (aY 2) (aY 7) set_list))))
   (aM (aa (a7 dy (a7 dy (l4 eK jC jB wC ar (ak (eV kF (aY 2) fz (fH (aY 4))) aB)) ar) (l4 eK jC jB wC ar (ak (eV kF (aY 2) (fH (a7 fS (aY 3) aE)) fz) aB))))))))))))),?_⟩
  nofun;rw[fP,hA,pX,lJ,lA,lB,show (λc:Nat=>V.str (⟨#[c]⟩:Str))=uM from rfl];obtain⟨s0,s1⟩:=Mt (P:=L) (Q:=R.reverse) (x:=x) (y:=y);have c0:=zJ L x;have c1:=zJ (L++[x]) y;have z0:=wz (pre:=L) (x:=x) (EE.nn x (by simp));have z1:=wz (pre:=L++[x]) (x:=y) (EE.nn y (by simp));have lC:(cC [] (L++x::y::R.reverse)).length=L.length+R.length+2:=by rw[cN];simp;lia
  have e1:((L.length+1:Nat):Int) - 1=(L.length:Nat):=by lia
  rw[pR] at q;refine⟨lx (by lia),by lia,λl nl=>⟨lx (by lia),?_⟩⟩;rw[e1];by_cases exy:x=y
  ·subst exy;rw[W5 rfl] at q;have f0:=tq EE;have f1:=Cr EE;refine⟨l,_,L.length,L.length+1,rfl,aD,by lia,f0,l,_,L.length+1,L.length,rfl,aD,by lia,f1,(by show 2<=sizeLine;decide),λp np=>⟨_,_,c6.of aD,rfl,?_⟩⟩;nofun;exact(q _ (((aP.refl H).new nl).trans ((aP.refl _).new np)))
  ·rw[W4 exy] at q;obtain⟨q0,q1,f0,f1,n1,n2,b0,b1,m0,m1,hm,ht⟩:=wj EE exy;generalize cC [] (L++x::y::R.reverse)=cs at *;have h1:bP H l (.lst (cs.map uM)) l=some (.lst (cs.map uM)):=aD;have sH:=(aP.refl H).new (o:=.lst (cs.map uM)) nl;refine⟨l,cs,L.length,q0,rfl,h1,by lia,f0,l,cs,L.length+1,q1,rfl,h1,by lia,f1,(by show 2<=sizeLine;decide),λp np=>⟨_,_,c6.of aD,rfl,?_⟩⟩;nofun;refine iH (by lia) ?_;have npl:l≠p:=bD h1 np;have h2:bP (bP H l (.lst (cs.map uM))) p (.lst [V.int q0,V.int q1]) l=some (.lst (cs.map uM)):=by rw[aS npl];exact h1
   have hp2:bP (bP H l (.lst (cs.map uM))) p (.lst [V.int q0,V.int q1]) p=some (.lst [V.int q0,V.int q1]):=aD;have s2:=sH.trans ((aP.refl _).new (o:=.lst [V.int q0,V.int q1]) np);generalize bP (bP H l (.lst (cs.map uM))) p (.lst [V.int q0,V.int q1])=H2 at h2 hp2 s2 ⊢;refine bb (λσ H'=>σ=[some (.str (tx (cC [] (L++[x])))),some (.str (tx (cC (L++[x]) (R++[y]).reverse))),some (.ref l),some (.int ((L.length+1:Nat):Int)),some (.int (L.length:Nat)),some (.ref p),some (.str (tx [m0,m1])),none,none]/\aP H2 H') ?_ ?_
   ·nofun;refine⟨_,uM (oE L x),c6.of h2,kL (by rw[au,s0];rfl),_,uM (oE (L++[x]) y),c6.of h2,kL (by rw[au,s1];rfl),(by show 2<=sizeLine;decide),λt nt=>Fv c0 c1 aD ⟨_,rfl,?_⟩⟩;simp only[OX,OZ];rcases hm with ⟨hz,rfl,rfl⟩ | ⟨hz,rfl,rfl⟩
    ·refine lw ?_ ⟨rfl,(aP.refl _).new nt⟩;rcases hz with z | z
     ·rw[W8 (z0.mpr z)];rfl
     ·rw[W8 (z1.mpr z),qw]
    ·refine iH ?_ ⟨rfl,(aP.refl _).new nt⟩;rw[W7 (λz=>hz (.inl (z0.mp z))),W7 (λz=>hz (.inr (z1.mp z)))];decide
   ·rintro σ H3 ⟨rfl,s3⟩;have hl3:=s3 _ _ h2;have s03:aP H H3:=s2.trans s3;have hz:(m0=42\/m0=40)/\(m1=42\/m1=41):=by rcases hm with ⟨_,rfl,rfl⟩ | ⟨_,rfl,rfl⟩<;>simp
    nofun;refine⟨p,[(q0:Int),(q1:Int)],rfl,c6.of (s3 _ _ hp2),(by show 2<64;decide),λl2 ms nl2 pm ps'=>?_⟩;have em:=Ez pm ps';subst em;have nll:l≠l2:=bD hl3 nl2;refine⟨l2,tx [m0,m1],rfl,⟨_,c6.of aD⟩,Dr (by intro c hc;simp at hc;lia),GE (xs:=[V.int ((min q0 q1:Nat):Int),V.int ((max q0 q1:Nat):Int)]) (by rw[lJ];exact aI 2)
     (λi σ H'=>∃x7 x8,σ=[some (.str (tx (cC [] (L++[x])))),some (.str (tx (cC (L++[x]) (R++[y]).reverse))),some (.ref l),some (.int ((L.length+1:Nat):Int)),some (.int (L.length:Nat)),some (.ref p),some (.str (tx [m0,m1])),x7,x8]/\aP H H'/\H' l2=some (.lst [V.int ((min q0 q1:Nat):Int),V.int ((max q0 q1:Nat):Int)]) ∧
      H' l=some (.lst ((match i with | 0=>cs | 1=>cs.set (min q0 q1) m0 | _=>(cs.set (min q0 q1) m0).set (max q0 q1) m1).map uM)))
     ⟨none,none,rfl,s03.trans ((aP.refl _).new nl2),aD,by rw[aS nll];exact hl3⟩ (λi σ H' ⟨_,_,_,_,e,_⟩=>c6.of e) ?_ ?_⟩
    ·rintro i v c σ H' t hv hc ⟨x7,x8,rfl,sm,h4,h5⟩ nt;have ntl:l≠t:=bD h5 nt;have ntl2:l2≠t:=bD h4 nt;nofun;refine⟨_,de.of aD,rfl,?_⟩;nofun;have h5':bP H' t (.tup [v,V.str ⟨#[c]⟩]) l=H' l:=aS ntl;rw[h5] at h5';have sm2:aP H (bP H' t (.tup [v,V.str ⟨#[c]⟩])):=sm.trans ((aP.refl _).new nt)
     match i,hv,hc,h5' with
     | 0,hv,hc,h5'=>
      have ec:c=m0:=by simpa [tx] using hc.symm
      subst ec;cases hv;have h6:_=some (HO.lst (cs.map uM)):=h5';refine⟨l,_,_,min q0 q1,rfl,rfl,h6,?_,_,_,rfl,sm2.new nl,?_,?_⟩
      ·unfold Gc;rw[aG,W5 (by lia),W5 (by lia),fM]
      ·rw[aS (bc nll),aS ntl2];exact h4
      ·rw[aD];exact congrArg (λz=>some (HO.lst z)) (E3 cs (min q0 q1) c)
     | 1,hv,hc,h5'=>
      have ec:c=m1:=by simpa [tx] using hc.symm
      subst ec;cases hv;have h6:_=some (HO.lst ((cs.set (min q0 q1) m0).map uM)):=h5';refine⟨l,_,_,max q0 q1,rfl,rfl,h6,?_,_,_,rfl,sm2.new nl,?_,?_⟩
      ·unfold Gc;rw[aG,gC,W5 (by lia),W5 (by lia),fM]
      ·rw[aS (bc nll),aS ntl2];exact h4
      ·rw[aD];exact congrArg (λz=>some (HO.lst z)) (E3 (cs.set (min q0 q1) m0) (max q0 q1) c)
     | i+2,hv,_,_=>simp at hv
    ·rintro σ H' ⟨x7,x8,rfl,sm,h4,h5⟩;have h5:H' l=some (.lst (((cs.set (min q0 q1) m0).set (max q0 q1) m1).map uM)):=h5;have ld:((cs.set (min q0 q1) m0).set (max q0 q1) m1).length=L.length+R.length+2:=by rw[gC,gC,lC]
     generalize (cs.set (min q0 q1) m0).set (max q0 q1) m1=ds at h5 ld ht;nofun;refine⟨rfl,Ka h5 (by rw[aG];lia) λp1 H1 n1 t1 g1=>?_⟩;rw[<-List.map_take,BI] at g1;have lt1:(ds.take L.length).length<=900:=by rw[cI];lia
     refine⟨_,p1,_,rfl,rfl,c6.of g1,qx lt1,?_⟩;rw[vO,E8];refine⟨_,_,rfl,rfl,by rw[be,be];exact lx (by rw[cI];simp;lia),rfl,?_⟩;have e2:((L.length+1:Nat):Int)+1=((L.length+2:Nat):Int):=by lia
     rw[e2];refine EV (t1 _ _ h5) (by rw[aG];lia) λp2 H2' n2' t2 g2=>?_;rw[<-List.map_drop,BI] at g2;have lt2:(ds.drop (L.length+2)).length<=900:=by rw[fb];lia
     refine⟨_,p2,_,rfl,rfl,c6.of g2,qx lt2,?_⟩;rw[vO];refine⟨_,_,rfl,rfl,?_,?_⟩
     ·rw[fP,be,be];exact lx (by simp;lia)
     ·rw[fP,fP,aw,gT,ht];exact q _ (sm.trans (t1.trans t2))
def IF (B:qL mg) (E:Fn K mg "step" l3 ["state","letter"]) (Si:eG P w K mg base 2 "joined" mB ["left","right"] Au):eG P w K mg base 3 "step" l3 ["state","letter"] qy:=E.mk' λf fd F=>by
 refine F.okS sA (λvs H Q E h=>?_) (λcdv A outer s H vs Q E hr h=>?_)
 ·obtain⟨L,R,c,rfl,_⟩:=h;rfl
 ·obtain⟨L,R,c,rfl,hc,EE,hl,q⟩:=h;have l1:=cN L [];have l2:(cC L R.reverse).length=R.length:=by rw[cN];simp
  have sp:Txt.split (tx (gu L R)) (Str.ofString "|")=[tx (cC [] L),tx (cC L R.reverse)]:=by rw[E8];exact Bz (F7 [] L) (F7 L R.reverse)
  refine⟨[some (.str (tx (gu L R))),some (.str ⟨#[c]⟩),none,none,none],_,rfl,(L2.ij.h (aH (a6 (i:=2) sA.nd rfl (Or.inl rfl) (l4 eK PySem.F.slot_str_split PySem.F.type_str_split Fd (aY 0) (aJ ar aB)))
   (aH (a6 (i:=3) sA.nd rfl (Or.inl rfl) (bJ dH (aY 2) aE (λ_ _=>rfl)))
   (aH (a6 (i:=4) sA.nd rfl (Or.inl rfl) (bJ dH (aY 2) aE (λ_ _=>rfl)))
   (aH (bw (ae f6 (aY 1) ar (bK _))
   (aM (aa (a7 dy (a7 dy (aY 3) ar) (aY 4))))
   bF)
   (aH (bw (ae f6 (aY 1) ar (bK _))
   (aM (aa (dv (mD (aY 4) (λ_=>rfl)) (a7 dy (a7 dy (a7 dy (aY 3) (bJ tW (aY 4) aE (λ_ _=>rfl))) ar) (eV vZ (aY 4) (fH aE) fz)) du)))
   bF)
   (aH (bw (ae f6 (aY 1) ar (bK _))
   (aM (aa (dv (mD (aY 3) (λ_=>rfl)) (a7 dy (a7 dy (a7 dy (eV vZ (aY 3) fz (fH (fR fO aE))) ar) (bJ tW (aY 3) (fR fO aE) (λ_ _=>rfl))) (aY 4)) du)))
   bF)
   (aM (aa (dv (QW.pt (mi (mD (aY 3) (λ_=>rfl)) (ka (mD (aY 4) (λ_=>rfl))))) (aU Si (hr.mono (by decide)) (by rfl) (aC (aY 3) (aC (aY 4) aB))) du)))))))))),?_⟩
  nofun;refine⟨rfl,tx (gu L R),_,rfl,rfl,by decide +kernel,by rw[be,Am];lia,λl nl=>?_⟩;rw[sp];refine⟨l,_,0,.str (tx (cC [] L)),rfl,rfl,c6.of aD,rfl,?_⟩;refine⟨l,_,1,.str (tx (cC L R.reverse)),rfl,rfl,c6.of aD,rfl,?_⟩;simp only[NA,Mz,Mx,Nx,E8,Mv,ii];have sH:=(aP.refl H).new (o:=.lst (List.map V.str [tx (cC [] L),tx (cC L R.reverse)])) nl;generalize bP H l (.lst (List.map V.str [tx (cC [] L),tx (cC L R.reverse)]))=H1 at *;have qq:=q H1 sH;clear sp nl;rcases hc with rfl | rfl | rfl | rfl
  ·refine lw rfl ⟨_,_,rfl,rfl,?_,_,_,rfl,rfl,?_,?_⟩
   ·rw[be,be];exact lx (by simp;lia)
   ·rw[fP,be,be];exact lx (by simp;lia)
   ·rw[fP,fP,EK EE];exact qq
  ·refine iH (by decide) (lw rfl ?_);by_cases hR:R=[]
   ·subst hR;rw[nE] at qq;exact⟨_,m9 (by lia),iH (by simp[cC]) qq⟩
   ·obtain⟨R',v,rfl⟩:=cG hR;rw[pT] at qq;rw[pf] at l2 ⊢;simp at l2 hl;refine⟨_,m9 (by simp;lia),lw rfl ⟨_,0,oE L v,rfl,rfl,?_,Mm (i:=0) rfl,_,_,rfl,rfl,?_,?_,?_⟩⟩
    ·rw[be];exact lx (by simp;lia)
    ·rw[pz,be,be];exact lx (by simp;lia)
    ·rw[pz,fP,be,be];exact lx (by simp;lia)
    ·have e:=HA (cs:=oE L v::cC (L++[v]) R'.reverse) (p:=1) (by simp);refine⟨_,rfl,?_,?_⟩
     ·rw[be];exact lx (by simp;lia)
     ·have e':Txt.slice (tx (oE L v::cC (L++[v]) R'.reverse)) (some 1) none=tx (cC (L++[v]) R'.reverse):=e;rw[e'];refine⟨_,_,rfl,rfl,?_,?_⟩
      ·rw[pz,fP,fP,be,be];exact lx (by simp;lia)
      ·have f:=EJ (L:=L) (Q:=R') (v:=v);rw[pz,fP,fP,fP,aw (cC [] L++[oE L v]) [124],gT,f];exact qq
  ·refine iH (by decide) (iH (by decide) (lw rfl ?_));by_cases hL:L=[]
   ·subst hL;rw[nD] at qq;exact⟨_,m9 (by simp[cC]),iH (by decide) qq⟩
   ·obtain⟨L',v,rfl⟩:=cG hL;rw[pS] at qq;have e:=Gz (P:=cC [] L') (c:=oE L' v);rw[ph] at l1 ⊢;simp at l1 hl;refine⟨_,m9 (by simp;lia),lw (by simp) ⟨_,rfl,?_,?_⟩⟩
    ·rw[be];exact lx (by simp;lia)
    ·rw[e];refine⟨_,_,rfl,rfl,?_,_,-1,oE L' v,rfl,rfl,?_,by rw[pX];exact jT,_,_,rfl,rfl,?_,_,_,rfl,rfl,?_,?_⟩
     ·rw[be,be];exact lx (by simp;lia)
     ·rw[be];exact lx (by simp;lia)
     ·rw[pz,fP,be,be];exact lx (by simp;lia)
     ·rw[pz,fP,fP,be,be];exact lx (by simp;lia)
     ·have f:=EI (P:=L') (R:=R) (v:=v);rw[pz,fP,fP,fP];have g:cC [] L'++[124]++[oE L' v]++cC (L'++[v]) R.reverse=cC [] L'++124::(oE L' v::cC (L'++[v]) R.reverse):=by simp
      rw[g,f];exact qq
  ·refine iH (by decide) (iH (by decide) (iH (by decide) ?_));by_cases hL:L=[]
   ·subst hL;rw[mz] at qq;exact⟨_,m9 (by simp[cC]),iH (by decide) qq⟩
   ·by_cases hR:R=[]
    ·subst hR;rw[mw] at qq;obtain⟨L',v,rfl⟩:=cG hL;exact⟨_,m9 (by rw[l1];lia),lw (by rw[ph];simp) ⟨_,m9 (by lia),iH (by simp[cC]) qq⟩⟩
    ·obtain⟨L',x,rfl⟩:=cG hL;obtain⟨R',y,rfl⟩:=cG hR;refine⟨_,m9 (by lia),lw (by rw[ph];simp) ⟨_,m9 (by lia),lw (by rw[pf];rfl) ⟨L',R',x,y,rfl,EE,by simp at hl;lia,λH' s'=>q H' (sH.trans s')⟩⟩⟩
def vy (E:Fn K mg "letter_of" i4 ["left_inwards","right_inwards"]):eG P w K mg base 1 "letter_of" i4 ["left_inwards","right_inwards"] As:=E.mk' λf fd F=>by
 refine F.okS v9 (λvs H Q E h=>?_) (λcdv A outer s H vs Q E hr h=>?_)
 ·obtain⟨l,r,rfl,_⟩:=h;rfl
 ·obtain⟨l,r,rfl,q⟩:=h;refine⟨[some (.bl l),some (.bl r)],_,rfl,(L2.ij.h (aH (bw (eI (aY 0))
   (aM (aa (dv (eI (aY 1)) ar ar)))
   bF)
   (aM (aa (dv (eI (aY 1)) ar ar))))),?_⟩
  nofun;rw[NA,Mz,Mx,Nx];cases l<;>cases r<;>exact q
def FW {P7 P6:Addr} (B:qL mg) (E:Fn K mg "coded" oh ["maze"]) (VX:lm P w K mg base 5 "vet" ui ["maze"] (ER P7 P6)) (Qe:eG P w K mg base 3 "bows_of" jL ["maze"] sS) (Ra:eG P w K mg base 1 "letter_of" i4 ["left_inwards","right_inwards"] As):lm P w K mg base 6 "coded" oh ["maze"] (BA P7 P6):=E.mkX λf fd F=>by
 refine F.okX qV (λvs H Q E h=>?_) (λcdv A outer s H vs Q E hr h=>?_)
 ·obtain⟨x,d,rfl,_⟩:=h;rfl
 ·obtain⟨x,d,rfl,hd,pl,h⟩:=h;refine⟨[some x,none,none,none],_,rfl,(L2.ij.h (aH (iJ (mj VX (hr.mono (by decide)) (by rfl) (aC (aY 0) aB)))
   (aH (eJ (a6 (i:=1) qV.nd rfl (Or.inl rfl) (aU Qe (hr.mono (by decide)) (by rfl) (aC (aY 0) aB))))
   (aH (eJ (a6 (i:=2) qV.nd rfl (Or.inr rfl) (jd (own:=["bow"]) (ns:=[]) (caps:=[]) rfl ⟨rfl,by decide +kernel,by decide +kernel,by decide +kernel⟩ .nil (iK (bJ fu (aY 1) aE (λ_ _=>rfl))) (λC s H fp pn=>(bp (i:=0) (show List.Nodup ((["bow"]:List Str)++([]:List Str)) by decide +kernel) rfl (Or.inl rfl))) (λC s H fp pn=>kI) (λC s H fp pn=>(bJ (fW (K:=K) rfl) (aY 0) aE (λ_ _=>rfl))))))
   (aH (eJ (a6 (i:=3) qV.nd rfl (Or.inr rfl) (jd (own:=["bow"]) (ns:=[]) (caps:=[]) rfl ⟨rfl,by decide +kernel,by decide +kernel,by decide +kernel⟩ .nil (iK (bJ fu (aY 1) aE (λ_ _=>rfl))) (λC s H fp pn=>(bp (i:=0) (show List.Nodup ((["bow"]:List Str)++([]:List Str)) by decide +kernel) rfl (Or.inl rfl))) (λC s H fp pn=>kI) (λC s H fp pn=>(bJ (fW (K:=K) rfl) (aY 0) aE (λ_ _=>rfl))))))
   (aM (eJ (aa (l4 eK jC jB wC ar (ig (jd (own:=["ring"]) (ns:=["lefts","rights"]) (caps:=[2,3]) rfl ⟨rfl,by decide +kernel,by decide +kernel,by decide +kernel⟩ (.cons rfl rfl (.inl rfl) (.cons rfl rfl (.inl rfl) .nil)) (sr (by rfl) B.range (aJ aE (bu (a7 fS (a8 cU (by rfl) B.len ah (ak (bJ fu (aY 0) aE (λ_ _=>rfl)) aB)) aE) aB))) (λC s H fp pn=>(bp (i:=0) (show List.Nodup ((["ring"]:List Str)++(["lefts","rights"]:List Str)) by decide +kernel) rfl (Or.inl rfl))) (λC s H fp pn=>kI) (λC s H fp pn=>(aU Ra (hr.mono (by decide)) (by rfl) (fg (eh (BQ (K:=K) rfl (oJ hr)) (aY 0) (aY 1) (by with_unfolding_all rfl)) (fg (eh (BQ (K:=K) rfl (oJ hr)) (aY 0) (aY 2) (by with_unfolding_all rfl)) aB))))) aB)))))))))),?_⟩
  nofun;refine⟨x,d,rfl,hd,pl,?_⟩;rcases h with ⟨hf,q⟩ | ⟨m,o,b,ns,rfl,hm,rfl,O,q,qc⟩
  ·exact .inl ⟨hf,q⟩
  refine .inr ⟨m,o,b,ns,rfl,hm,rfl,O,λnc H1 s1=>?_,qc⟩;have q:=q nc;have hm1:=hm.same s1;have nlen:=O.len;nofun;refine⟨m,o,b,ns,rfl,hm1,O,λt l r L R H2 nt nl nr s2 BO=>?_⟩;have lL:=BO.isL.len O;have lR:=BO.isR.len O;obtain⟨as,b1,bl,bg⟩:=BO.left.get;obtain⟨bs,c1,cl,cg⟩:=BO.right.get;refine⟨t,_,0,_,rfl,rfl,de.of BO.tup,rfl,l,rfl,⟨_,c6.of b1⟩,?_⟩;refine rK (c6.of b1) (by rw[aG];exact ba (cB (by lia))) ((L.map (·.1)).map V.int) (by simp[bl]) (λi x y Q' hx hy hq=>?_) λp3 n3=>?_
  ·obtain⟨a,p,rfl,hp,ta⟩:=bg i x hx;rw[au,au,hp] at hy;cases hy;nofun;exact⟨_,_,de.of ta,rfl,hq⟩
  have s3:=(aP.refl H2).new (o:=.lst ((L.map (·.1)).map V.int)) n3;have h3:bP H2 p3 (.lst ((L.map (·.1)).map V.int)) p3=some (.lst ((L.map (·.1)).map V.int)):=aD;generalize bP H2 p3 (.lst ((L.map (·.1)).map V.int))=H3 at s3 h3 ⊢;refine⟨t,_,1,_,rfl,rfl,de.of (s3 _ _ BO.tup),rfl,r,rfl,⟨_,c6.of (s3 _ _ c1)⟩,?_⟩;refine rK (c6.of (s3 _ _ c1)) (by rw[aG];exact ba (cB (by lia))) ((R.map (·.1)).map V.int) (by simp[cl]) (λi x y Q' hx hy hq=>?_) λp4 n4=>?_
  ·obtain⟨a,p,rfl,hp,ta⟩:=cg i x hx;rw[au,au,hp] at hy;cases hy;nofun;exact⟨_,_,de.of (s3 _ _ ta),rfl,hq⟩
  have s4:=(aP.refl H3).new (o:=.lst ((R.map (·.1)).map V.int)) n4;have h4:bP H3 p4 (.lst ((R.map (·.1)).map V.int)) p4=some (.lst ((R.map (·.1)).map V.int)):=aD;generalize bP H3 p4 (.lst ((R.map (·.1)).map V.int))=H4 at s4 h4 ⊢;have h34:=s4 _ _ h3;have s14:=s2.trans (s3.trans s4);have hm4:=hm1.same s14;refine⟨rfl,_,_,de.of hm4.1,rfl,o,_,rfl,.inr (de.of hm4.2),?_⟩;rw[aG,show ((ns.length:Int)+1 - 1).toNat=ns.length by lia];refine⟨⟨by decide,by decide,by lia,by lia⟩,?_⟩;refine Cy (ba (cB (by lia))) (((uW b ns).map λc=>(⟨#[c]⟩:Str)).map V.str) (by simp[uW]) (λi y Q' hi hy hq=>?_) λp5 n5=>?_
  ·nofun;refine B0 (.inl (c6.of h34)) (B0 (.inl (c6.of h4)) ⟨_,_,rfl,?_⟩);rw[W4 (by decide),W4 (by decide)];have e:((uW b ns).map λc=>(⟨#[c]⟩:Str))[i]? = some (tx [IX (decide ((1:Int)+i∈L.map (·.1))) (decide ((1:Int)+i∈R.map (·.1)))]):=by
    have e1:((i+1:Nat):Int)=1+i:=by lia
    rw[au];unfold uW;rw[au,List.getElem?_range hi];simp only[iO];rw[e1,decide_eq_decide.mpr (BO.isL.perm.map (·.1)).symm.mem_iff,decide_eq_decide.mpr (BO.isR.perm.map (·.1)).symm.mem_iff];rfl
   rw[au,e] at hy;cases hy;exact hq
  ·refine⟨_,p5,(uW b ns).map λc=>(⟨#[c]⟩:Str),rfl,rfl,c6.of aD,qx (by unfold uW;rw[aG,lS];lia),?_⟩;rw[vO];exact q _ (s1.trans (s14.trans ((aP.refl _).new n5)))
def Ib {c:Nat} (h:jo c):(Builtin.Str.occurrences (Str.ofString "abcd") ⟨#[c]⟩ 0 (Str.ofString "abcd").length 1).isEmpty=false:=by rcases h with rfl | rfl | rfl | rfl<;>decide +kernel
def xh (B:qL mg) (E:Fn K mg "vet_code" jH ["side","code"]) (QN:eG P w K mg base 1 "begun" kG ["side"] qT) (QP:eG P w K mg base 3 "step" l3 ["state","letter"] qy) (QC:eG P w K mg base 1 "leading_on" fm ["state"] zH):eG P w K mg base 4 "vet_code" jH ["side","code"] wn:=E.mk' λf fd F=>by
 refine F.okS j8 (λvs H Q E h=>?_) (λcdv A outer s H vs Q E hr h=>?_)
 ·obtain⟨b,cs,rfl,_⟩:=h;rfl
 ·obtain⟨b,cs,rfl,C,q⟩:=h;have lt:=C.lts;have hn:=C.len;have hres:=C.res;refine⟨[some (.str (sd b)),some (.str (tx cs)),none,none,none],_,rfl,(L2.ij.h (aH (bw (QW.pt (jO (fq (eI (a8 jg (by rfl) B.isinstance ac (aC (aY 1) (aC (iL (v:=.ty "str") (by rfl) B.str PyProof.Rows.boot_str rfl) aB))))) (kH (ae xf (a8 cm (by rfl) B.len ah (aC (aY 1) aB)) (qz (by rfl) B.MOST_RINGS) (bK _)))))
   (aM oq)
   bF)
   (aH (a6 (i:=2) j8.nd rfl (Or.inl rfl) (aU QN (hr.mono (by decide)) (by rfl) (aC (aY 0) aB)))
   (aH (gx b6 rfl (su (by rfl) B.enumerate (aC (aY 1) aB)) (lM (n:=2) rfl (dZ (bp (i:=3) j8.nd rfl (Or.inl rfl)) (dZ (bp (i:=4) j8.nd rfl (Or.inl rfl)) jb)))
   (aH (a6 (i:=2) j8.nd rfl (Or.inl rfl) (dv (ae um (aY 4) (i6 (by rfl) B.LETTERS) (by with_unfolding_all rfl)) (aU QP (hr.mono (by decide)) (by rfl) (aC (aY 2) (aC (aY 4) aB))) du))
    (aM (bw (ae vq (aY 2) du (bK _))
    (aM oq)
    bF))))
   (aH (bw (ae qb (aU QC (hr.mono (by decide)) (by rfl) (aC (aY 2) aB)) aE (bK _))
   (aM oq)
   bF)
   (aM (aa ci))))))),?_⟩
  nofun;refine IZ (.str _) ⟨true,rfl,iH (by decide) ⟨by rw[be];exact lx (by lia),iH (by rw[be];lia) ⟨MO b,by rw[Nw],?_⟩⟩⟩;rw[rz];nofun;refine⟨sJ lt,tm (x:=tx cs) (λi σ H2=>∃(L R:List Int) (x3 x4:Option V),σ=[some (.str (sd b)),some (.str (tx cs)),some (.str (tx (gu L R))),x3,x4]/\aP H H2/\Run b cs i L R/\L.length+R.length<=2*i+1/\gZ (bL b) (bR b) cs 0=gZ L R (cs.drop i) i)
   ⟨bL b,bR b,_,_,rfl,aP.refl _,Run.zero b cs,by cases b<;>decide,by rw[gn]⟩ ?_ ?_⟩
  ·rintro i c σ H2 p hc ⟨L,R,x3,x4,rfl,sm,run,hl,er⟩ np;have hc':cs[i]? = some c:=by rw[<-hc,show (tx cs).cps[i]? = cs[i]? by simp[tx]]
   have hi:=(aK.mp hc').1;have lc:=lt c (bM hc');have ed:cs.drop i=c::cs.drop (i+1):=by rw[aj hi];congr 1;exact(aK.mp hc').2
   have s2:=sm.trans ((aP.refl _).new (o:=.tup [.int i,.str ⟨#[c]⟩]) np);nofun;refine⟨_,de.of aD,rfl,?_⟩;nofun;refine lw (Ib lc) ⟨L,R,c,rfl,lc,run.ee,by lia,λH3 s3=>?_⟩;rw[ed] at er;have s4:=s2.trans s3;cases g:cZ L R c with
   | none=>
    rw[mh g] at er;rw[hres] at er;cases er
   | some pr=>
    obtain⟨L',R'⟩:=pr;rw[lK g] at er;refine⟨trivial,iH (λz=>nomatch z) ⟨L',R',_,_,rfl,s4,run.step hc' lc g,?_,er⟩⟩;have:=mM lc g;lia
  ·rintro σ H2 ⟨L,R,x3,x4,rfl,sm,run,hl,er⟩;rw[lJ] at run er hl;rw[jX] at er;have er2:gZ (bL b) (bR b) cs 0=if L.length+R.length=1 then none else some cs.length:=er
   nofun;refine⟨L,R,rfl,by lia,?_⟩;nofun;by_cases e1:L.length+R.length=1
   ·rw[W5 e1] at er2;exact iH (λz=>by lia) (q _ sm)
   ·rw[W4 e1,hres] at er2;cases er2
def Lh{k:Bool}{c:Nat}(h:jo c):(Builtin.Str.occurrences (tx [97,if k=true then 99 else 98]) ⟨#[c]⟩ 0 (tx [97,if k=true then 99 else 98]).length 1).isEmpty=!(isIn k c):=by
 cases k<;>rcases h with rfl | rfl | rfl | rfl<;>decide +kernel
def tF (B:qL mg) (E:Fn K mg "rows_across" gL ["code","inwards","begins_here"]):eG P w K mg base 1 "rows_across" gL ["code","inwards","begins_here"] Ao:=E.mk' λf fd F=>by
 refine F.okS dm (λvs H Q E h=>?_) (λcdv A outer s H vs Q E hr h=>?_)
 ·obtain⟨k,b,cs,rfl,_⟩:=h;rfl
 ·obtain⟨k,b,cs,rfl,lt,hn,ne,q⟩:=h;refine⟨[some (.str (tx cs)),some (.str (tx [97,if k then 99 else 98])),some (.bl (decide (k=b))),none,none,none,none,none,none],_,rfl,(L2.ij.h (aH (a6 (i:=3) dm.nd rfl (Or.inl rfl) CP)
   (cE (a6 (i:=4) dm.nd rfl (Or.inl rfl) (dv (mD (aY 2) (λ_=>rfl)) (bf (aJ aE aB)) (bf aB)))
   (cE (gx b6 rfl (su (by rfl) B.enumerate (aC (aY 0) aB)) (lM (n:=2) rfl (dZ (bp (i:=5) dm.nd rfl (Or.inl rfl)) (dZ (bp (i:=6) dm.nd rfl (Or.inl rfl)) jb)))
   (aH (a6 (i:=7) dm.nd rfl (Or.inl rfl) (a7 fS (aY 5) aE))
    (aM (bw (ae um (aY 6) (aY 1) (by with_unfolding_all rfl))
    (aM (iJ (l4 dM dj di mH (aY 4) (aC (aY 7) aB))))
    (aH (a6 (i:=8) dm.nd rfl (Or.inl rfl) (HX dM PySem.F.slot_list_pop PySem.F.type_list_pop L5 (aY 4)))
     (aH (q9 (rH hr) (aY 3) (aY 7) (aY 8) rfl)
     (aM (q9 (rH hr) (aY 3) (aY 8) (aY 7) rfl))))))))
   (aH (gx b6 rfl (iK (aY 4)) (bp (i:=8) dm.nd rfl (Or.inl rfl))
   (aM (q9 (rH hr) (aY 3) (aY 8) (a7 fS (a8 cm (by rfl) B.len ah (aC (aY 0) aB)) aE) rfl)))
   (aM (aa (aY 3)))))))),?_⟩
  nofun;intro d nd;have sd0:=(aP.refl H).new (o:=.dK []) nd;refine bb (λσ H'=>∃wl,σ=[some (.str (tx cs)),some (.str (tx [97,if k then 99 else 98])),some (.bl (decide (k=b))),some (.ref d),some (.ref wl),none,none,none,none]/\aP H H'/\H wl=none/\wl≠d/\H' d=some (.dK [])/\H' wl=some (.lst (nU (An k b).1))) ?_ ?_
  ·nofun;refine⟨decide (k=b),rfl,?_⟩;have go:∀l p,bP H d (.dK []) p=none->l=nU (An k b).1->∃wl,([some (.str (tx cs)),some (.str (tx [97,if k then 99 else 98])),some (.bl (decide (k=b))),some (.ref d),some (.ref p),none,none,none,none]:L2.St)=[some (.str (tx cs)),some (.str (tx [97,if k then 99 else 98])),some (.bl (decide (k=b))),some (.ref d),some (.ref wl),none,none,none,none]/\aP H (bP (bP H d (.dK [])) p (.lst l))/\H wl=none/\wl≠d/\bP (bP H d (.dK [])) p (.lst l) d=some (.dK [])/\bP (bP H d (.dK [])) p (.lst l) wl=some (.lst (nU (An k b).1)):=λl p np e=>by
    have nep:d≠p:=λz=>by subst z;rw[aD] at np;cases np
    exact⟨p,rfl,sd0.trans ((aP.refl _).new np),sd0.free np,nep.symm,by rw[aS nep,aD],by rw[aD,e]⟩
   by_cases e:k=b
   ·exact lw (by simp[e]) ⟨(by show 1<=sizeLine;decide),λp np=>go _ p np (by unfold An;dsimp only;rw[W5 e];rfl)⟩
   ·exact iH (by simp[e]) ⟨bU _,λp np=>go _ p np (by unfold An;dsimp only;rw[W4 e];rfl)⟩
  ·rintro σ H1 ⟨wl,rfl,s1,nw,nwd,hd1,hw1⟩;nofun;refine bb (λσ H'=>∃(x5 x6 x7 x8:Option V) (kvs:List (Key×V)),σ=[some (.str (tx cs)),some (.str (tx [97,if k then 99 else 98])),some (.bl (decide (k=b))),some (.ref d),some (.ref wl),x5,x6,x7,x8]/\aP H H'/\H' d=some (.dK kvs)/\kvs.length<=40/\nY kvs cs.length (stN k b cs cs.length).2/\H' wl=some (.lst (nU (stN k b cs cs.length).1))) ?_ ?_
   ·nofun;refine⟨sJ lt,tm (x:=tx cs) (λi σ H'=>∃(x5 x6 x7 x8:Option V) (kvs:List (Key×V)),σ=[some (.str (tx cs)),some (.str (tx [97,if k then 99 else 98])),some (.bl (decide (k=b))),some (.ref d),some (.ref wl),x5,x6,x7,x8]/\aP H H'/\H' d=some (.dK kvs)/\kvs.length<=2*i/\nY kvs cs.length (stN k b cs i).2/\(∀x∈(stN k b cs i).1,x<=i)/\H' wl=some (.lst (nU (stN k b cs i).1)))
     ⟨_,_,_,_,[],rfl,s1,hd1,bU _,nY.nil,λx hx=>by (unfold stN An at hx;dsimp only at hx;split at hx<;>simp at hx;lia),hw1⟩ ?_ ?_⟩
    ·rintro i c σ H2 p hc ⟨x5,x6,x7,x8,kvs,rfl,sm,hd2,hk,rp,le,hw2⟩ np;have hc':cs[i]? = some c:=by rw[<-hc,KO]
     have hi:=(aK.mp hc').1;have lc:=lt c (bM hc');have eg:cs.getD i 0=c:=by rw[cP,hc'];rfl
     have s2:=sm.trans ((aP.refl _).new (o:=.tup [.int i,.str ⟨#[c]⟩]) np);have dp:d≠p:=bD hd2 np;have wp:wl≠p:=bD hw2 np;have hd3:bP H2 p (.tup [.int i,.str ⟨#[c]⟩]) d=some (.dK kvs):=by rw[aS dp];exact hd2
     have hw3:bP H2 p (.tup [.int i,.str ⟨#[c]⟩]) wl=some (.lst (nU (stN k b cs i).1)):=by rw[aS wp];exact hw2
     have sl:=vT k b cs i;nofun;refine⟨_,de.of aD,rfl,?_⟩;generalize bP H2 p (.tup [.int i,.str ⟨#[c]⟩])=H3 at s2 hd3 hw3 ⊢;nofun;have ei:(i:Int)+1=((i+1:Nat):Int):=by lia
     rw[ei,Lh lc];by_cases hin:isIn k c=true
     ·have es:stN k b cs (i+1)=((stN k b cs i).1++[i+1],(stN k b cs i).2):=by show uK k _ _ _=_;rw[eg,zD hin]
      refine lw (by rw[hin];rfl) ⟨u7 hw3,_,hw3,by rw[xp];exact cB (by lia),_,_,_,_,kvs,rfl,s2.new nw,by rw[aS nwd.symm];exact hd3,by lia,by rw[es];exact rp,?_,by rw[aD,es,rF]⟩;rw[es];intro x hx;rcases aQ.mp hx with h1 | h1
      ·have:=le x h1;lia
      ·simp at h1;lia
     ·have hin':isIn k c=false:=by simpa using hin
      obtain⟨Pq,o,eo⟩:=tS (ne i hi (by rw[eg];exact hin'));have es:stN k b cs (i+1)=(Pq,nW (stN k b cs i).2 (i+1) o):=by show uK k _ _ _=_;rw[eg,vR hin' eo]
      have ole:o<=i:=le o (by rw[eo];simp);rw[eo] at hw3;refine iH (by rw[hin'];decide) ⟨u7 hw3,_,.int o,hw3,Cb Pq o,?_⟩;rw[Cc];have l1:kvs.length<sizeLine:=cB (by lia);have l2:(putK kvs (.inl ((i+1:Nat):Int):Key) (.int (o:Nat))).length<sizeLine:=cB (by have:=fI kvs (.inl ((i+1:Nat):Int):Key) (.int (o:Nat));lia);have hd4:bP H3 wl (.lst (nU Pq)) d=some (.dK kvs):=by rw[aS nwd.symm];exact hd3
      have r1:=rp.put (a:=i+1) (b:=o) (by lia);have ln1:=fI kvs (.inl ((i+1:Nat):Int):Key) (.int (o:Nat));have r2:=r1.put (a:=o) (b:=i+1) (by lia);rw[IR (by lia)] at r2;have ln2:=fI (putK kvs (.inl ((i+1:Nat):Int):Key) (.int (o:Nat))) (.inl (o:Int):Key) (.int ((i+1:Nat)));refine⟨_,uJ.k (k:=.inl ((i+1:Nat):Int)) hd4 l1,_,uJ.k (k:=.inl (o:Int)) aD l2,_,_,_,_,_,rfl,((s2.new nw).new nd).new nd,aD,by lia,by rw[es];exact r2,?_,?_⟩
      ·rw[es];intro x hx;have:=le x (by rw[eo];exact bV _ hx);lia
      ·rw[aS nwd,aS nwd,aD,es]
    ·rintro σ H2 ⟨x5,x6,x7,x8,kvs,rfl,sm,hd2,hk,rp,le,hw2⟩;rw[lJ] at hk rp hw2;exact⟨_,_,_,_,kvs,rfl,sm,hd2,by lia,rp,hw2⟩
   ·rintro σ H2 ⟨x5,x6,x7,x8,kvs,rfl,sm,hd2,hk,rp,hw2⟩;have sl:=vT k b cs cs.length;nofun;have wd:wl≠d:=nwd;refine⟨⟨_,c6.of hw2⟩,tj (xs:=nU (stN k b cs cs.length).1) (λj σ H'=>∃(x8:Option V) (kvs:List (Key×V)),σ=[some (.str (tx cs)),some (.str (tx [97,if k then 99 else 98])),some (.bl (decide (k=b))),some (.ref d),some (.ref wl),x5,x6,x7,x8]/\aP H H'/\H' d=some (.dK kvs)/\kvs.length<=40+j/\nY kvs cs.length (Cq cs.length (stN k b cs cs.length).1 (stN k b cs cs.length).2 j)/\H' wl=some (.lst (nU (stN k b cs cs.length).1)))
     ⟨_,kvs,rfl,sm,hd2,hk,rp.congr λx _=>by simp[Cq],hw2⟩ ?_ ?_ ?_⟩
    ·rintro j σ H' _ ⟨_,_,_,_,_,_,_,h⟩;exact c6.of h
    ·rintro j x σ H3 hx ⟨x8',kvs',rfl,s3,hd3,hk3,rp3,hw3⟩;obtain⟨o,ho,rfl⟩:=pF hx;have hj:=(aK.mp ho).1;nofun;rw[be];refine⟨lx (by lia),_,uJ.k (k:=.inl (o:Int)) hd3 (cB (by lia)),_,_,rfl,s3.new nd,aD,?_,?_,by rw[aS wd];exact hw3⟩
     ·have:=fI kvs' (.inl (o:Int):Key) (.int (((cs.length:Nat):Int)+1));lia
     ·have r1:=rp3.put (a:=o) (b:=cs.length+1) (by lia);rw[Cp ho] at r1;exact r1
    ·rintro σ H3 ⟨x8',kvs',rfl,s3,hd3,hk3,rp3,hw3⟩;nofun;refine q d kvs' H3 s3 nd hd3 (rp3.congr λx _=>?_);unfold Cq fin2 yM;rw[xp,eY]
def zk (B:qL mg) (E:Fn K mg "decoded" jJ ["side","code"]) (Py:eG P w K mg base 1 "is_side" i5 ["thing"] qS) (Pz:eG P w K mg base 1 "other_side" fk ["side"] vU) (Rz:eG P w K mg base 4 "vet_code" jH ["side","code"] wn) (Q4:eG P w K mg base 1 "rows_across" gL ["code","inwards","begins_here"] Ao):eG P w K mg base 5 "decoded" jJ ["side","code"] zI:=E.mk' λf fd F=>by
 refine F.okS iR (λvs H Q E h=>?_) (λcdv A outer s H vs Q E hr h=>?_)
 ·obtain⟨b,cs,rfl,_⟩:=h;rfl
 ·obtain⟨b,cs,rfl,C,q⟩:=h;have lt:=C.lts;have hn:=C.len;have hr0:=C.res;have q:∀a H',aP H H'->A1 H' a b cs->Q (.ref a) H':=λa H' s' ca=>by obtain⟨o,z⟩:=ca.maze C.maze;exact q a o H' s' z
  refine⟨[some (.str (sd b)),some (.str (tx cs)),none,none,none,none],_,rfl,(L2.ij.h (aH (bw (fq (eI (aU Py (hr.mono (by decide)) (by rfl) (aC (aY 0) aB))))
   (aM oq)
   bF)
   (aH (iJ (aU Rz (hr.mono (by decide)) (by rfl) (aC (aY 0) (aC (aY 1) aB))))
   (cE (a6 (i:=2) iR.nd rfl (Or.inl rfl) (xU (oy ar (aU Q4 (hr.mono (by decide)) (by rfl) (aC (aY 1) (aC (i6 (by rfl) B.LEFT_INWARDS) (fg (eh f6 (aY 0) ar (bK _)) aB)))) (oy ar (aU Q4 (hr.mono (by decide)) (by rfl) (aC (aY 1) (aC (i6 (by rfl) B.RIGHT_INWARDS) (fg (eh f6 (aY 0) ar (bK _)) aB)))) xS)) rfl rfl (λz=>nomatch z) (by decide)))
   (aH (a6 (i:=3) iR.nd rfl (Or.inl rfl) (bf aB))
   (aH (a6 (i:=4) iR.nd rfl (Or.inl rfl) (aY 0))
   (aH (a6 (i:=5) iR.nd rfl (Or.inl rfl) (jc (rH hr) (jc (rH hr) (aY 2) (aY 4) (λ_ _=>rfl)) aE (λ_ _=>rfl)))
   (aH (oj b6 (ae xb (aY 5) (a8 cm (by rfl) B.len ah (aC (aY 1) aB)) (bK _))
   (aH (iJ (l4 dM dj di mH (aY 3) (aC (aY 5) aB)))
    (aH (a6 (i:=4) iR.nd rfl (Or.inl rfl) (aU Pz (hr.mono (by decide)) (by rfl) (aC (aY 4) aB)))
    (aM (a6 (i:=5) iR.nd rfl (Or.inl rfl) (jc (rH hr) (jc (rH hr) (aY 2) (aY 4) (λ_ _=>rfl)) (aY 5) (λ_ _=>rfl)))))))
   (aM (aa (cL (aC (aY 0) (cF (dX l8 (by rfl) B.tuple dN (aC (aY 3) aB)) aB))))))))))))),?_⟩
  nofun;have e1:j5 (.str (sd b))=true:=by cases b<;>decide +kernel
  refine⟨_,_,rfl,.str _,⟨by cases b<;>decide +kernel,by cases b<;>decide +kernel⟩,?_⟩;rw[e1];refine⟨true,rfl,iH (by decide) ⟨b,cs,rfl,C,λH1 s1=>?_⟩⟩;obtain⟨T,t1,t2,VT,eT⟩:=(HM lt hr0).ends;have a1:Str.ofString "ab"=tx [97,if false=true then 99 else 98]:=by decide +kernel
  have a2:Str.ofString "ac"=tx [97,if true=true then 99 else 98]:=by decide +kernel
  refine bb (λσ H'=>∃(dd:Addr) (kvs:List (Key×V)) (D:Bool->Addr),σ=[some (.str (sd b)),some (.str (tx cs)),some (.ref dd),none,none,none]/\aP H H'/\H' dd=some (.dK kvs)/\∀u,i9 kvs (.inr (sd u):Key)=some (.ref (D u))/\∃kk,H' (D u)=some (.dK kk)/\nY kk cs.length (fin2 b cs u)) ?_ ?_
  ·nofun;intro dd nd;refine⟨false,b,cs,by rw[<-a1];cases b<;>simp[Mu],lt,hn,EO lt hr0 false,λd1 k1 H2 s2 n1 h1 r1=>?_⟩;nofun;refine⟨true,b,cs,by rw[<-a2];cases b<;>simp[OW],lt,hn,EO lt hr0 true,λd2 k2 H3 s3 n2 h2 r2=>?_⟩;nofun;have f1:dd≠d1:=bD aD n1;have f2:dd≠d2:=bD (s2 _ _ aD) n2;refine⟨s3 _ _ (s2 _ _ aD),[((.inr (Str.ofString "l"):Key),V.ref d1),(.inr (Str.ofString "r"),.ref d2)],rfl,(by show 2<=15;decide),dd,_,λu=>if u then d2 else d1,rfl,(((s1.trans ((aP.refl _).new nd)).trans s2).trans s3).new (s1.free nd),aD,λu=>?_⟩;cases u
   ·exact⟨rfl,k1,by show bP _ _ _ d1=_;rw[aS f1.symm];exact s3 _ _ h1,r1⟩
   ·exact⟨rfl,k2,by show bP _ _ _ d2=_;rw[aS f2.symm];exact h2,r2⟩
  ·rintro σ H2 ⟨dd,kvs,D,rfl,s2,hdd,hD⟩;nofun;refine⟨bU _,λp np=>?_⟩;have pd:dd≠p:=bD hdd np;have pD:∀u,D u≠p:=λu=>by obtain⟨_,kk,h,_⟩:=hD u;exact bD h np
   have nH:H p=none:=s2.free np;have look:∀(H':Hp) (u:Bool) (r y:Nat),H' dd=some (.dK kvs)->(∀u,∃kk,H' (D u)=some (.dK kk)/\nY kk cs.length (fin2 b cs u))->r<=cs.length->fin2 b cs u r=some y->nu H' dd (.str (sd u)) (some (.ref (D u)))/\nu H' (D u) (.int (r:Nat)) (some (.int (y:Nat))):=λH' u r y h1 h2 hr hf=>by
    obtain⟨kk,g1,g2⟩:=h2 u;have e1:=nu.k (k:=.inr (sd u)) h1;rw[(hD u).1] at e1;have e2:=nu.k (k:=.inl (r:Int)) g1;rw[g2.get r hr,hf] at e2;exact⟨e1,e2⟩
   have hd0:bP H2 p (.lst []) dd=some (.dK kvs):=by rw[aS pd];exact hdd
   have hD0:∀u,∃kk,bP H2 p (.lst []) (D u)=some (.dK kk)/\nY kk cs.length (fin2 b cs u):=λu=>by obtain⟨_,kk,h,r⟩:=hD u;exact⟨kk,by rw[aS (pD u)];exact h,r⟩
   obtain⟨g1,g2⟩:=look _ b 0 _ hd0 hD0 (bU _) (VT.st 0 (by lia));refine⟨_,g1,_,_,rfl,g2,?_⟩;refine⟨λm σ H'=>∃(j:Nat),σ=[some (.str (sd b)),some (.str (tx cs)),some (.ref dd),some (.ref p),some (.str (sd (pth (fin2 b cs) b j).2)),some (.int ((pth (fin2 b cs) b (j+1)).1:Nat))]/\aP H H'/\H' dd=some (.dK kvs)/\(∀u,∃kk,H' (D u)=some (.dK kk)/\nY kk cs.length (fin2 b cs u))/\H' p=some (.lst ((ordF (fin2 b cs) b j).map V.int))/\j+1<=T/\m=T-j,⟨_,0,rfl,s2.new nH,hd0,hD0,aD,t1,rfl⟩,?_⟩;rintro m σ H3 ⟨j,rfl,s3,hd3,hD3,hl3,hj,rfl⟩;nofun;refine⟨by rw[be];exact lx (by lia),?_⟩;rw[be];refine iz (λhle=>?_) (λhgt=>?_)
   ·have hjT:j+1<T:=by
     apply lH;intro z;have:j+1=T:=by lia
     rw[this,eT] at hle;lia
    obtain⟨g3,g4⟩:=look (bP H3 p (.lst ((ordF (fin2 b cs) b (j+1)).map V.int))) (pth (fin2 b cs) b (j+1)).2 _ _ (by rw[aS pd];exact hd3) (λu=>by obtain⟨kk,h,r⟩:=hD3 u;exact⟨kk,by rw[aS (pD u)];exact h,r⟩) (VT.le (j+1) hjT) (VT.st (j+1) hjT);refine⟨λσ' H'=>σ'=[some (.str (sd b)),some (.str (tx cs)),some (.ref dd),some (.ref p),some (.str (sd (pth (fin2 b cs) b (j+1)).2)),some (.int ((pth (fin2 b cs) b (j+1+1)).1:Nat))]/\aP H H'/\H' dd=some (.dK kvs)/\(∀u,∃kk,H' (D u)=some (.dK kk)/\nY kk cs.length (fin2 b cs u))/\H' p=some (.lst ((ordF (fin2 b cs) b (j+1)).map V.int)),λσ' H' ⟨e,a,c,d,f⟩=>⟨T-(j+1),by lia,j+1,e,a,c,d,f,hjT,rfl⟩,?_⟩;have el:(ordF (fin2 b cs) b j).map V.int++[V.int ((pth (fin2 b cs) b (j+1)).1:Nat)]=(ordF (fin2 b cs) b (j+1)).map V.int:=by rw[C4,aR];rfl
    refine⟨u7 hl3,_,hl3,by rw[aG,FR];exact cB (by lia),?_⟩;rw[el];refine⟨_,rfl,?_⟩;nofun;rw[<-En];exact⟨_,g3,_,_,rfl,g4,rfl,s3.new nH,by rw[aS pd];exact hd3,λu=>by obtain⟨kk,h,r⟩:=hD3 u;exact⟨kk,by rw[aS (pD u)];exact h,r⟩,aD⟩
   ·have ejT:j+1=T:=by
     apply lH;intro z;have:=VT.le (j+1) (by lia);lia
    refine⟨_,.inl ⟨c6.of hl3,λo no=>⟨(by show 2<=sizeLine;decide),λr nr=>?_⟩⟩⟩;have ne:o≠r:=λz=>by subst z;rw[aD] at nr;cases nr
    refine q r _ ((s3.trans ((aP.refl _).new no)).trans ((aP.refl _).new nr)) ⟨o,T,aD,t1,t2,VT,eT,?_⟩;rw[aS ne,aD,<-ejT];rfl
def zr (E:Fn K mg "can_end" kY ["state","rows"]) (QC:eG P w K mg base 1 "leading_on" fm ["state"] zH):eG P w K mg base 2 "can_end" kY ["state","rows"] ww:=E.mk' λf fd F=>by
 refine F.okS zO (λvs H Q E h=>?_) (λcdv A outer s H vs Q E hr h=>?_)
 ·obtain⟨L,R,n,rfl,_⟩:=h;rfl
 ·obtain⟨L,R,n,rfl,hl,hn,q⟩:=h;refine⟨[some (.str (tx (gu L R))),some (.int (n:Nat))],_,rfl,(L2.ij.h (aM (aa (eh xb (aU QC (hr.mono (by decide)) (by rfl) (aC (aY 0) aB)) (a7 fS (a7 rC aE (aY 1)) aE) (bK _))))),?_⟩;nofun;refine⟨L,R,rfl,hl,?_⟩;nofun;refine⟨.inl ⟨by decide,by decide⟩,?_⟩;have e:decide (((L.length+R.length:Nat):Int)<=2*(n:Int)+1)=decide (L.length+R.length<=2*n+1):=decide_eq_decide.mpr (by lia);rw[e];exact q
def tG (B:qL mg) (E:Fn K mg "next_states" gM ["state"]) (QP:eG P w K mg base 3 "step" l3 ["state","letter"] qy):eG P w K mg base 4 "next_states" gM ["state"] Aq:=E.mk' λf fd F=>by
 refine F.okS oG (λvs H Q E h=>?_) (λcdv A outer s H vs Q E hr h=>?_)
 ·obtain⟨L,R,rfl,_⟩:=h;rfl
 ·obtain⟨L,R,rfl,EE,hl,q⟩:=h;refine⟨[some (.str (tx (gu L R))),none],_,rfl,(L2.ij.h (aH (xQ (i:=1) oG.nd rfl (Or.inl rfl) (own:=["letter"]) (ns:=["state"]) (caps:=[0]) rfl ⟨rfl,by decide +kernel,by decide +kernel,by decide +kernel⟩ (.cons rfl rfl (.inl rfl) .nil) (ve (i6 (by rfl) B.LETTERS)) (λC s H fp pn=>(bp (i:=0) (show List.Nodup ((["letter"]:List Str)++(["state"]:List Str)) by decide +kernel) rfl (Or.inl rfl))) (λC s H fp pn=>kI) (λC s H fp pn=>(aU QP (hr.mono (by decide)) (by rfl) (aC (aY 1) (aC (aY 0) aB)))))
   (aM (aa (jd (own:=["ahead"]) (ns:=[]) (caps:=[]) rfl ⟨rfl,by decide +kernel,by decide +kernel,by decide +kernel⟩ .nil (iK (aY 1)) (λC s H fp pn=>(bp (i:=0) (show List.Nodup ((["ahead"]:List Str)++([]:List Str)) by decide +kernel) rfl (Or.inl rfl))) (λC s H fp pn=>(HU (ae vn (aY 0) du (bK _)))) (λC s H fp pn=>(aY 0))))))),?_⟩
  nofun;rw[sZ];refine⟨by decide +kernel,GU (λi ys σ H'=>aP H H'/\ys=([97,98,99,100].take i).map (λc=>vm (cZ L R c))/\∃x0,σ=[x0,some (.str (tx (gu L R)))]) ⟨aP.refl _,rfl,_,rfl⟩ ?_ (by rw[lJ];exact lx (by decide)) ?_ ?_⟩
  ·rintro i ys σ H' ⟨_,rfl,_⟩;simp;lia
  ·rintro i c ys σ H1 N hc ⟨s1,rfl,x0,rfl⟩ hN;have h1:[97,98,99,100][i]? = some c:=by simpa [tx] using hc
   have hc':jo c:=by
    have:=bM h1;simp only[aF,bB,or_false] at this;exact this
   nofun;refine⟨L,R,c,rfl,hc',EE,hl,λH2 s2=>hN _ _ _ ⟨s1.trans s2,?_,_,rfl⟩⟩;rw[cT,h1,aR];rfl
  ·rintro ys σ H1 p ⟨s1,rfl,x0,rfl⟩ np;have e4:(tx [97,98,99,100]).cps.size=4:=by rw[lJ];rfl
   rw[e4];have s2:=s1.trans ((aP.refl H1).new (o:=.lst (([97,98,99,100].take 4).map (λc=>vm (cZ L R c)))) np);have h2:bP H1 p (.lst (([97,98,99,100].take 4).map (λc=>vm (cZ L R c)))) p=some (.lst ([97,98,99,100].map (λc=>vm (cZ L R c)))):=aD;generalize bP H1 p (.lst (([97,98,99,100].take 4).map (λc=>vm (cZ L R c))))=H2 at s2 h2 ⊢;refine⟨p,rfl,⟨_,c6.of h2⟩,rL (xs:=[97,98,99,100].map (λc=>vm (cZ L R c))) (λi ys σ H'=>H'=H2/\ys=(([97,98,99,100].take i).filterMap (cZ L R)).map Nv/\∃x0,σ=[x0]) ⟨rfl,rfl,_,rfl⟩ ?_ (lx (by simp)) ?_ ?_⟩
   ·rintro i ys σ H' ⟨rfl,rfl,_⟩;refine⟨c6.of h2,?_⟩;rw[aG];exact b9 (lj _ _) (by rw[cI];lia)
   ·rintro i x ys σ H' N hx ⟨rfl,rfl,x0,rfl⟩ hN;obtain⟨c,hc,rfl⟩:=pF hx;have et:[97,98,99,100].take (i+1)=[97,98,99,100].take i++[c]:=by rw[cT,hc];rfl
    nofun;refine⟨trivial,?_⟩;cases hg:cZ L R c with
    | none=>exact iH (λz=>z rfl) (hN _ _ _ ⟨rfl,by rw[et,jF];simp[hg],_,rfl⟩)
    | some p=>
     obtain⟨L',R'⟩:=p;exact lw (λz=>nomatch z) (hN _ _ _ ⟨rfl,by rw[et,jF];simp[hg,Nv,vm],_,rfl⟩)
   ·rintro ys σ H' p2 ⟨rfl,rfl,_⟩ np2;exact q p2 _ (s2.free np2) (s2.trans ((aP.refl _).new np2)) aD
def FU (E:Fn K mg "ends_from" d9 ["state","rows","known"]):eG P w K mg base 5 "ends_from" d9 ["state","rows","known"] (pZ 0):=E.mk' λf fd F=>by
 refine F.okS me (λvs H Q E h=>?_) (λcdv A outer s H vs Q E hr h=>?_)
 ·obtain⟨L,R,m,d,kvs,rfl,_⟩:=h;rfl
 ·obtain⟨L,R,m,d,kvs,rfl,hm,_⟩:=h;lia
def vz (B:qL mg) {n:Nat} (E:Fn K mg "ends_from" d9 ["state","rows","known"]) (SS:eG P w K mg base 2 "can_end" kY ["state","rows"] ww) (Qs:eG P w K mg base 4 "next_states" gM ["state"] Aq) (Pp:eG P w K mg base (5+n) "ends_from" d9 ["state","rows","known"] (pZ n)):eG P w K mg base (5+n+1) "ends_from" d9 ["state","rows","known"] (pZ (n+1)):=E.mk' λf fd F=>by
 refine F.okS me (λvs H Q E h=>?_) (λcdv A outer s H vs Q E hr h=>?_)
 ·obtain⟨L,R,m,d,kvs,rfl,_⟩:=h;rfl
 ·obtain⟨L,R,m,d,kvs,rfl,hm,m12,EE,hl,hd,mo,hb,q⟩:=h;refine⟨[some (.str (tx (gu L R))),some (.int (m:Nat)),some (.ref d),none],_,rfl,(L2.ij.h (aH (bw (fq (eI (aU SS (hr.mono (by lia)) (by rfl) (aC (aY 0) (aC (aY 1) aB)))))
   (aM (aa aE))
   bF)
   (aH (bw (ae f6 (aY 1) aE (bK _))
   (aM (aa aE))
   bF)
   (aH (a6 (i:=3) me.nd rfl (Or.inl rfl) (cL (aC (aY 0) (aC (aY 1) aB))))
   (aH (bw (zS (rH hr) (aY 3) (aY 2))
   (aM (q9 (rH hr) (aY 2) (aY 3) (a8 (AS rfl) (by rfl) B.sum PyProof.Rows.boot_sum (ig (jd (own:=["ahead"]) (ns:=["known","rows"]) (caps:=[2,1]) rfl ⟨rfl,by decide +kernel,by decide +kernel,by decide +kernel⟩ (.cons rfl rfl (.inl rfl) (.cons rfl rfl (.inl rfl) .nil)) (iK (aU Qs (hr.mono (by lia)) (by rfl) (aC (aY 0) aB))) (λC s H fp pn=>(bp (i:=0) (show List.Nodup ((["ahead"]:List Str)++(["known","rows"]:List Str)) by decide +kernel) rfl (Or.inl rfl))) (λC s H fp pn=>kI) (λC s H fp pn=>(aU Pp (hr.mono (by lia)) (by rfl) (aC (aY 0) (bu (a7 iV (aY 2) aE) (aC (aY 1) aB)))))) aB)) rfl))
   bF)
   (aM (aa (jc (rH hr) (aY 2) (aY 3) (λ_ _=>rfl))))))))),?_⟩
  nofun;refine⟨L,R,m,rfl,by lia,by lia,_,rfl,?_⟩;by_cases hce:L.length+R.length<=2*m+1
  ·rw[W8 hce];refine iH (λz=>nomatch z) (iz (λh0=>?_) (λh0=>?_))
   ·have m0:m=0:=by lia
    subst m0;have hp:=EE.pos;have e:dG 0 L R=1:=by simp only[dG];exact W5 (by lia)
    have qq:=q H kvs (aP.refl _) hd mo (by lia);rw[e] at qq;exact qq
   ·obtain⟨m',rfl⟩:∃m',m=m'+1:=⟨m - 1,by lia⟩
    have hbud:oA (m'+1)=4*oA m'+1:=rfl;refine⟨(by show 2<=sizeLine;decide),λb nb=>?_⟩;have ndb:d≠b:=bD hd nb;have s2:aP (wo H d) (wo (bP H b (.tup [V.str (tx (gu L R)),V.int ((m'+1:Nat):Int)])) d):=yp nb;have hd2:bP H b (.tup [V.str (tx (gu L R)),V.int ((m'+1:Nat):Int)]) d=some (.dT kvs):=by rw[aS ndb];exact hd
    have hb2:bP H b (.tup [V.str (tx (gu L R)),V.int ((m'+1:Nat):Int)]) b=some (.tup ([(.inr (tx (gu L R)):Key),.inl ((m'+1:Nat):Int)].map kV)):=aD;generalize bP H b (.tup [V.str (tx (gu L R)),V.int ((m'+1:Nat):Int)])=H2 at s2 hd2 hb2 ⊢;nofun;refine⟨_,nu.t hd2 hb2,?_⟩;cases hv:i9 kvs [.inr (tx (gu L R)),.inl ((m'+1:Nat):Int)] with
    | some v=>
     have ev:=mo.get EE hv;subst ev;refine iH (λz=>nomatch z) ⟨_,?_,q H2 kvs s2 hd2 mo (by lia)⟩;have:=nu.t hd2 hb2;rw[hv] at this;exact this
    | none=>
     refine lw rfl ⟨L,R,rfl,EE,by lia,λl H3 nl s3 h3=>?_⟩;have hd3:=s3 _ _ hd2;have hb3:=s3 _ _ hb2;have nld:l≠d:=(bD hd2 nl).symm;have nbd:b≠d:=bc ndb;refine⟨l,rfl,⟨_,c6.of h3⟩,rL (xs:=(mG L R).map Nv) (λi ys σ H'=>∃kvs',aP (wo H3 d) (wo H' d)/\H' d=some (.dT kvs')/\fx kvs'/\kvs'.length<=kvs.length+i*oA m'/\ys=((mG L R).take i).map (λp=>V.int ((dG m' p.1 p.2:Nat):Int))/\∃x0,σ=[x0,some (.ref d),some (.int ((m'+1:Nat):Int))])
      ⟨kvs,aP.refl _,hd3,mo,by lia,rfl,_,rfl⟩ ?_ (lx (by rw[aG];have:=rE L R;lia)) ?_ ?_⟩
     ·rintro i ys σ H' ⟨kvs',s',_,_,_,rfl,_⟩;exact⟨c6.of (vN s' h3 nld),by rw[aG,cI];lia⟩
     ·rintro i x ys σ H' N hx ⟨kvs',s',hd',mo',hl',rfl,x0,rfl⟩ hN;obtain⟨p,hp,rfl⟩:=pF hx;obtain⟨c,hc,hg⟩:=F8 (bM hp);obtain⟨L',R'⟩:=p;have hgl:=Ij hg;have hi:i<4:=aT (aK.mp hp).1 (rE L R);have hmul:i*oA m'<=3*oA m':=fK _ (by lia);have em:((m'+1:Nat):Int) - 1=(m':Nat):=by lia
      nofun;rw[em];refine⟨L',R',m',d,kvs',rfl,by lia,by lia,EE.go hc hg,by lia,hd',mo',by lia,λH5 kvs5 s5 h5 mo5 l5=>hN _ _ _ ⟨kvs5,s'.trans s5,h5,mo5,?_,?_,_,rfl⟩⟩
      ·rw[kN];lia
      ·rw[cT,hp,aR];rfl
     ·rintro ys σ H' p ⟨kvs',s',hd',mo',hl',rfl,x0,rfl⟩ np;rw[aG,eY];rw[aG] at hl';have hn4:=rE L R;have hmul:(mG L R).length*oA m'<=4*oA m':=fK _ hn4;have npd:d≠p:=bD hd' np;have hb':=vN s' hb3 nbd;have npb:b≠p:=bD hb' np;refine⟨p,(mG L R).map (λp=>((dG m' p.1 p.2:Nat):Int)),rfl,c6.of (by rw[aD,cA];rfl),fits_of ?_ (by rw[aG];lia),?_⟩
      ·intro x hx;obtain⟨e,_,rfl⟩:=bN.mp hx;have h1:=GV m' e.1 e.2;have h2:4 ^ m'<=4 ^ 12:=Nat.pow_le_pow_right (by decide) (by lia);have h3:(4:Nat) ^ 12=16777216:=by decide
       lia
      ·rw[wg,<-DB];have hd6:bP H' p (.lst ((mG L R).map (λp=>V.int ((dG m' p.1 p.2:Nat):Int)))) d=some (.dT kvs'):=by rw[aS npd];exact hd'
       have hb6:bP H' p (.lst ((mG L R).map (λp=>V.int ((dG m' p.1 p.2:Nat):Int)))) b=some (.tup ([(.inr (tx (gu L R)):Key),.inl ((m'+1:Nat):Int)].map kV)):=by rw[aS npb];exact hb'
       have s6:aP (wo H' d) (wo (bP H' p (.lst ((mG L R).map (λp=>V.int ((dG m' p.1 p.2:Nat):Int))))) d):=yp np;generalize bP H' p (.lst ((mG L R).map (λp=>V.int ((dG m' p.1 p.2:Nat):Int))))=H6 at hd6 hb6 s6 ⊢;have hlp:=fI kvs' [(.inr (tx (gu L R)):Key),.inl ((m'+1:Nat):Int)] (V.int ((dG (m'+1) L R:Nat):Int));have hb7:bP H6 d (.dT (putK kvs' [(.inr (tx (gu L R)):Key),.inl ((m'+1:Nat):Int)] (V.int ((dG (m'+1) L R:Nat):Int)))) b=some (.tup ([(.inr (tx (gu L R)):Key),.inl ((m'+1:Nat):Int)].map kV)):=by rw[aS nbd];exact hb6
       refine⟨_,uJ.t hd6 hb6 (by show kvs'.length<16777216;lia),V.int ((dG (m'+1) L R:Nat):Int),?_,q _ _ ?_ aD (mo'.put EE) ?_⟩
       ·have:=nu.t (H:=bP H6 d (.dT (putK kvs' [(.inr (tx (gu L R)):Key),.inl ((m'+1:Nat):Int)] (V.int ((dG (m'+1) L R:Nat):Int))))) aD hb7;rw[sI,W5 rfl] at this;exact this
       ·rw[A3];exact s2.trans ((qM s3).trans (s'.trans s6))
       ·lia
  ·rw[W7 hce];have e:=yb m (L:=L) (R:=R) (by lia);have qq:=q H kvs (aP.refl _) hd mo (by lia);rw[e] at qq;exact lw rfl qq
def tL (E:Fn K mg "ends_behind" fQ ["state","letter","rows","known"]) (QP:eG P w K mg base 3 "step" l3 ["state","letter"] qy) (Pp:eG P w K mg base 18 "ends_from" d9 ["state","rows","known"] (pZ 13)):eG P w K mg base 19 "ends_behind" fQ ["state","letter","rows","known"] sT:=E.mk' λf fd F=>by
 refine F.okS oH (λvs H Q E h=>?_) (λcdv A outer s H vs Q E hr h=>?_)
 ·obtain⟨L,R,c,m,d,kvs,rfl,_⟩:=h;rfl
 ·obtain⟨L,R,c,m,d,kvs,rfl,hc,hm,EL,hl,hd,mo,hb,q⟩:=h;refine⟨[some (.str (tx (gu L R))),some (.str ⟨#[c]⟩),some (.int m),some (.ref d),none],_,rfl,(L2.ij.h (aH (a6 (i:=4) oH.nd rfl (Or.inl rfl) (aU QP (hr.mono (by decide)) (by rfl) (aC (aY 0) (aC (aY 1) aB))))
   (aM (aa (dv (ae vq (aY 4) du (bK _)) aE (aU Pp (hr.mono (by decide)) (by rfl) (aC (aY 4) (aC (aY 2) (aC (aY 3) aB))))))))),?_⟩
  nofun;refine⟨L,R,c,rfl,hc,EL,by lia,λH1 s1=>?_⟩;refine⟨trivial,?_⟩;cases g:cZ L R c with
  | none=>
   rw[g] at q;exact lw rfl (q _ _ (qM s1) (s1 _ _ hd) mo (by lia))
  | some pr=>
   obtain⟨L',R'⟩:=pr;rw[g] at q;have lp:=mM hc g;refine iH (λz=>nomatch z) ⟨L',R',m,d,kvs,rfl,by lia,hm,EL.go hc g,by lia,s1 _ _ hd,mo,hb,λH2 k2 s2 h2 mo2 hl2=>q _ _ ((qM s1).trans s2) h2 mo2 hl2⟩
def tM (E:Fn K mg "completions" gQ ["state","rows"]) (Pp:eG P w K mg base 18 "ends_from" d9 ["state","rows","known"] (pZ 13)):eG P w K mg base 19 "completions" gQ ["state","rows"] Az:=E.mk' λf fd F=>by
 refine F.okS sY (λvs H Q E h=>?_) (λcdv A outer s H vs Q E hr h=>?_)
 ·obtain⟨L,R,m,rfl,_⟩:=h;rfl
 ·obtain⟨L,R,m,rfl,m12,EE,hl,q⟩:=h;refine⟨[some (.str (tx (gu L R))),some (.int (m:Nat))],_,rfl,(L2.ij.h (aM (aa (aU Pp (hr.mono (by decide)) (by rfl) (aC (aY 0) (aC (aY 1) (El rA aB))))))),?_⟩;nofun;intro p np;refine⟨L,R,m,p,[],rfl,by lia,m12,EE,hl,aD,fx.nil,by have:=Lv m m12;simpa using this,λH' kvs' s' h' mo' l'=>q H' ?_⟩;rw[A3,Gj np] at s';exact s'.trans (vM _ _)
def vt {P5:Addr} (Q1:OwnCls "NoNumber" P5 [.type "ValueError",.type "Exception",.type "BaseException",.type "object"] "ValueError.__new__" mg base) (B:qL mg) (E:Fn K mg "vet_rings" gg ["n"]) (Q2:eG P w K mg base 2 "is_below" iU ["thing","bound"] vV):lm P w K mg base 3 "vet_rings" gg ["n"] (zF P5):=E.mkX λf fd F=>by
 refine F.okX v8 (λvs H Q E h=>?_) (λcdv A outer s H vs Q E hr h=>?_)
 ·obtain⟨v,d,rfl,_⟩:=h;rfl
 ·obtain⟨v,d,rfl,hd,h⟩:=h;refine⟨[some v],_,rfl,(L2.ij.h (aH (bw (qZ (fq (eI (aU Q2 (hr.mono (by decide)) (by rfl) (aC (aY 0) (bu (a7 fS (qz (by rfl) B.MOST_RINGS) aE) aB))))))
   (aM (oo qY Q1 c9 rfl (by rfl) (aJ ar aB)))
   bF)
   (aM (eJ (aa ci))))),?_⟩
  nofun;refine⟨v,d,21,rfl,hd,?_⟩;nofun;rcases h with ⟨h1,q⟩ | ⟨h1,q⟩
  ·rw[h1];exact iH (λz=>nomatch z) q
  ·rw[h1];exact lw rfl ⟨(by show 1<=sizeLine;decide),q⟩
def FV {P5:Addr} (B:qL mg) (E:Fn K mg "count" og ["n"]) (QV:lm P w K mg base 3 "vet_rings" gg ["n"] (zF P5)) (Qu:eG P w K mg base 19 "completions" gQ ["state","rows"] Az) (QN:eG P w K mg base 1 "begun" kG ["side"] qT):lm P w K mg base 20 "count" og ["n"] (Ay P5):=E.mkX λf fd F=>by
 refine F.okX E6 (λvs H Q E h=>?_) (λcdv A outer s H vs Q E hr h=>?_)
 ·obtain⟨v,d,rfl,_⟩:=h;rfl
 ·obtain⟨v,d,rfl,hd,h⟩:=h;refine⟨[some v],_,rfl,(L2.ij.h (aH (iJ (mj QV (hr.mono (by decide)) (by rfl) (aC (aY 0) aB)))
   (aM (eJ (aa (aU Qu (hr.mono (by decide)) (by rfl) (cF (aU QN (hr.mono (by decide)) (by rfl) (aJ ar aB)) (aC (aY 0) aB)))))))),?_⟩
  nofun;rcases h with ⟨n,hn,rfl,q⟩ | ⟨h1,q⟩
  ·refine⟨v,_,rfl,hd,.inl ⟨?_,?_⟩⟩
   ·show (true&&(decide ((0:Int)<=(n:Int))&&decide ((n:Int)<21)))=true;rw[W8 (by lia),W8 (by lia)];rfl
   ·cases hd;nofun;rw[O0];refine⟨108,rfl,?_⟩;exact⟨[0],[],n,rfl,by lia,EE.one,by simp;lia,λH' s'=>q H' s'⟩
  ·exact⟨v,d,rfl,hd,.inr ⟨h1,q⟩⟩
def vw {P7 P6:Addr} (B:qL mg) (E:Fn K mg "number_of" gh ["maze"]) (TN:lm P w K mg base 6 "coded" oh ["maze"] (BA P7 P6)) (QN:eG P w K mg base 1 "begun" kG ["side"] qT) (Pm:eG P w K mg base 19 "ends_behind" fQ ["state","letter","rows","known"] sT) (QP:eG P w K mg base 3 "step" l3 ["state","letter"] qy):lm P w K mg base 20 "number_of" gh ["maze"] (zG P7 P6):=E.mkX λf fd F=>by
 refine F.okX dW (λvs H Q E h=>?_) (λcdv A outer s H vs Q E hr h=>?_)
 ·obtain⟨x,d,rfl,_⟩:=h;rfl
 ·obtain⟨x,d,rfl,hd,pl,h⟩:=h;refine⟨[some x,none,none,none,none,none,none,none,none],_,rfl,(L2.ij.h (aH (a6 (i:=1) dW.nd rfl (Or.inl rfl) (mj TN (hr.mono (by decide)) (by rfl) (aC (aY 0) aB)))
   (aH (eJ (a6 (i:=2) dW.nd rfl (Or.inl rfl) rA))
   (aH (eJ (a6 (i:=3) dW.nd rfl (Or.inl rfl) (aU QN (hr.mono (by decide)) (by rfl) (ak (bJ fu (aY 0) aE (λ_ _=>rfl)) aB))))
   (aH (eJ (a6 (i:=4) dW.nd rfl (Or.inl rfl) aE))
   (aH (eJ (gx b6 rfl (su (by rfl) B.enumerate (aC (aY 1) aB)) (lM (n:=2) rfl (dZ (bp (i:=5) dW.nd rfl (Or.inl rfl)) (dZ (bp (i:=6) dW.nd rfl (Or.inl rfl)) jb)))
   (aH (a6 (i:=7) dW.nd rfl (Or.inl rfl) (a7 iV (a7 iV (a8 cm (by rfl) B.len ah (aC (aY 1) aB)) (aY 5)) aE))
    (aH (gx b6 rfl (ve (eV vZ (i6 (by rfl) B.LETTERS) fz (fH (l4 eK PySem.F.slot_str_index PySem.F.type_str_index Cd (i6 (by rfl) B.LETTERS) (aC (aY 6) aB))))) (bp (i:=8) dW.nd rfl (Or.inl rfl))
    (aM (ou (i:=4) dW.nd rfl (Or.inl rfl) (aU Pm (hr.mono (by decide)) (by rfl) (aC (aY 3) (aC (aY 8) (aC (aY 7) (aC (aY 2) aB))))) AD)))
    (aM (a6 (i:=3) dW.nd rfl (Or.inl rfl) (aU QP (hr.mono (by decide)) (by rfl) (aC (aY 3) (aC (aY 6) aB)))))))))
   (aM (eJ (aa (aY 4)))))))))),?_⟩
  nofun;refine⟨x,d,rfl,hd,pl,?_⟩;rcases h with ⟨bad,q⟩ | ⟨m,o,b,ns,rfl,hm,rfl,O,h⟩
  ·exact .inl ⟨bad,q⟩
  refine .inr ⟨m,o,b,ns,rfl,hm,rfl,O,?_⟩;rcases h with ⟨cs,rfl,C,h12,q⟩ | ⟨nn,qc⟩
  rotate_left
  ·exact⟨λnc=>absurd nc nn,qc⟩
  have M:=C.maze;refine⟨λ_ H1 s1=>?_,λu p hp q' hq z=>by rw[M.nc u p hp q' hq] at z;cases z⟩;rw[C.code];nofun;refine λkn nk=>⟨_,_,de.of ((aP.refl H1).new nk _ _ (hm.same s1).1),rfl,?_⟩
  refine⟨MO b,by rw[Nw],?_⟩;rw[rz];have lt:=C.lts;have sk:=(aP.refl H1).new (o:=.dT []) nk;have hk0:bP H1 kn (.dT []) kn=some (.dT []):=aD;generalize bP H1 kn (.dT [])=H2 at sk hk0 ⊢;refine⟨sJ lt,tm (x:=tx cs) (λi σ H3=>∃(L R:List Int) (a:Nat) (kvs:List (List Key×V)) (x5 x6 x7 x8:Option V),σ=[some (.ref m),some (.str (tx cs)),some (.ref kn),some (.str (tx (gu L R))),some (.int (a:Nat)),x5,x6,x7,x8]/\aP H1 H3/\H3 kn=some (.dT kvs)/\fx kvs/\kvs.length+uE (cs.length-i)<=uE cs.length/\EE L R/\L.length+R.length<=2*i+1/\gZ L R (cs.drop i) 0=none/\a+hZ (cs.drop i) L R=hZ cs (bL b) (bR b))
   ⟨bL b,bR b,0,[],_,_,_,_,rfl,sk,hk0,(λk v h=>by cases h),by show 0+_<=_;rw[kM,qr];exact aI _,by cases b;exact EE.one;exact EE.two,by cases b<;>decide,by rw[gn];exact C.res,by rw[gn,kM]⟩ ?_ ?_⟩
  ·rintro i c σ H3 p hc ⟨L,R,a,kvs,x5,x6,x7,x8,rfl,s3,hk,mo,hb,ee,hl,er,en⟩ np;have hc':cs[i]? = some c:=by rw[<-hc];simp[tx]
   have hi:=(aK.mp hc').1;have lc:=lt c (bM hc');have ed:cs.drop i=c::cs.drop (i+1):=by rw[aj hi];congr 1;exact(aK.mp hc').2
   have sp:=(aP.refl H3).new (o:=.tup [.int i,.str ⟨#[c]⟩]) np;obtain⟨r,hr0⟩:∃r,cs.length-i=r+1:=⟨cs.length-i - 1,by lia⟩
   rw[hr0] at hb;have hb:kvs.length+(uE r+3*oA r)<=uE cs.length:=hb;have b12:=Iz cs.length h12;nofun;refine⟨_,de.of aD,rfl,?_⟩;have s4:=s3.trans sp;have hk4:=sp _ _ hk;generalize bP H3 p (.tup [.int i,.str ⟨#[c]⟩])=H4 at s4 hk4 ⊢;nofun;rw[be];have er2:(cs.length:Int)-(i:Int) - 1=(r:Nat):=by lia
   rw[er2];have c4:c - 97<=3:=by rcases lc with rfl | rfl | rfl | rfl<;>decide
   refine⟨lx (by lia),rfl,c - 97,[],F2 lc,by rw[sZ,be];exact lx (by decide),?_⟩;rw[HF lc];have tl:(tx (qB.take (c - 97))).cps.size=c - 97:=by rw[lJ,cI];show min (c - 97) 4=_;lia
   refine⟨sJ (λx hx=>by obtain⟨k,hk⟩:=jj hx;exact wD (qf hk).1),?_⟩;refine Ba (λk σ H5=>∃(kv5:List (List Key×V)) (x8:Option V),σ=[some (.ref m),some (.str (tx cs)),some (.ref kn),some (.str (tx (gu L R))),some (.int ((a+IV k r L R:Nat):Int)),some (.int i),some (.str ⟨#[c]⟩),some (.int r),x8]/\aP H1 H5/\H5 kn=some (.dT kv5)/\fx kv5/\kv5.length<=kvs.length+k*oA r) ⟨kvs,_,rfl,s4,hk4,mo,by lia⟩ ?_ ?_
   ·rintro k d σ H5 hd ⟨kv5,y8,rfl,s5,hk5,mo5,hb5⟩;have hd':(qB.take (c - 97))[k]? = some d:=by rw[<-hd];simp[tx]
    obtain⟨hd1,hk3⟩:=qf hd';have k3:k*oA r+oA r<=3*oA r:=by
     have:(k+1)*oA r<=3*oA r:=fK _ (by lia);rw[kN] at this;exact this
    nofun;refine⟨L,R,d,r,kn,kv5,rfl,wD hd1,by lia,ee,by lia,hk5,mo5,by lia,λH6 kv6 w6 hk6 mo6 hl6=>?_⟩;rw[xw hd1];refine⟨_,_,rfl,rfl,kv6,some (.str ⟨#[d]⟩),?_,va nk s5 w6,hk6,mo6,by rw[kN];lia⟩;rw[<-Nat.add_assoc];rfl
   ·rintro σ H5 ⟨kv5,y8,rfl,s5,hk5,mo5,hb5⟩;rw[tl] at hb5;rw[tl,<-NY lc];have k3:(c - 97)*oA r<=3*oA r:=fK _ c4;nofun;rw[ed] at er en;cases g:cZ L R c with
    | none=>rw[mh g] at er;cases er
    | some pr=>
     obtain⟨L',R'⟩:=pr;rw[lK g] at er;have dl:(cs.drop (i+1)).length=r:=by rw[fb];lia
     rw[F4 g,dl] at en;have lp:=mM lc g;refine⟨L,R,c,rfl,lc,ee,by lia,λH6 s6=>?_⟩;rw[g];refine⟨L',R',a+tQ c r L R,kv5,_,_,_,_,rfl,s5.trans s6,s6 _ _ hk5,mo5,?_,ee.go lc g,by lia,Ee _ _ _ er,by lia⟩;rw[show cs.length-(i+1)=r by lia];lia
  ·rintro σ H3 ⟨L,R,a,kvs,x5,x6,x7,x8,rfl,s3,hk,mo,hb,ee,hl,er,en⟩;nofun;rw[lJ,jX] at en;have en:a+0=hZ cs (bL b) (bR b):=en;have:=q H3 (s1.trans s3);rw[<-en] at this;exact this
def tH (B:qL mg) (E:Fn K mg "next_letter" gN ["state","rows","ahead","known"]) (Pm:eG P w K mg base 19 "ends_behind" fQ ["state","letter","rows","known"] sT):eG P w K mg base 20 "next_letter" gN ["state","rows","ahead","known"] Ar:=E.mk' λf fd F=>by
 refine F.okS gb (λvs H Q E h=>?_) (λcdv A outer s H vs Q E hr h=>?_)
 ·obtain⟨L,R,m,k,d,kvs,rfl,_⟩:=h;rfl
 ·obtain⟨L,R,m,k,d,kvs,rfl,hm,ee,hl,hd,mo,hb,q⟩:=h;have two:(2:Nat)<=sizeLine:=by decide
  refine⟨[some (.str (tx (gu L R))),some (.int m),some (.int k),some (.ref d),none,none,none],_,rfl,(L2.ij.h (aH (a6 (i:=4) gb.nd rfl (Or.inl rfl) (aY 2))
   (aH (gx b6 rfl (ve (eV vZ (i6 (by rfl) B.LETTERS) fz (fH (fR fO aE)))) (bp (i:=5) gb.nd rfl (Or.inl rfl))
   (aH (a6 (i:=6) gb.nd rfl (Or.inl rfl) (aU Pm (hr.mono (by decide)) (by rfl) (aC (aY 0) (aC (aY 5) (aC (aY 1) (aC (aY 3) aB))))))
    (aH (bw (ae ke (aY 4) (aY 6) (bK _))
    (aM (aa (cL (aC (aY 5) (aC (aY 4) aB)))))
    bF)
    (aM (ou (i:=4) gb.nd rfl (Or.inl rfl) (aY 6) Fp)))))
   (aM (aa (cL (ak (bJ tW (i6 (by rfl) B.LETTERS) (fR fO aE) (λ_ _=>rfl)) (aC (aY 4) aB)))))))),?_⟩
  nofun;rw[K9];have a3:∀k c,(qB.take 3)[k]? = some c->jo c:=λk c h=>wD (qf h).1;refine⟨by rw[sZ,be];exact lx (by decide),sJ (λx hx=>by obtain⟨k,hk⟩:=jj hx;exact a3 k x hk),?_⟩;refine Ba (λj σ H5=>∃(rest:Nat) (kv5:List (List Key×V)) (x5 x6:Option V),σ=[some (.str (tx (gu L R))),some (.int m),some (.int k),some (.ref d),some (.int (rest:Nat)),x5,x6]/\rest+IV j m L R=k/\aP (wo H d) (wo H5 d)/\H5 d=some (.dT kv5)/\fx kv5/\kv5.length<=kvs.length+j*oA m) ⟨k,kvs,_,_,rfl,rfl,aP.refl _,hd,mo,by lia⟩ ?_ ?_
  ·rintro j c σ H5 hc ⟨rest,kv5,x5,x6,rfl,er,w5,hd5,mo5,hb5⟩;have hc':(qB.take 3)[j]? = some c:=by rw[<-hc];simp[tx]
   obtain⟨hc1,hj3⟩:=qf hc';have lc:=wD hc1;have k3:j*oA m+oA m<=3*oA m:=by
    have:(j+1)*oA m<=3*oA m:=fK _ (by lia);rw[kN] at this;exact this
   nofun;refine⟨L,R,c,m,d,kv5,rfl,lc,hm,ee,hl,hd5,mo5,by lia,λH6 kv6 w6 hd6 mo6 hl6=>?_⟩;nofun;have w56:=w5.trans w6;refine iz (λh=>?_) (λh=>?_)
   ·refine⟨two,λt nt=>?_⟩;have et:=IL hj3 hc1 er (by lia);have st:=(aP.refl H6).new (o:=.tup [.str ⟨#[c]⟩,.int (rest:Nat)]) nt;refine q t _ kv6 (B9 w56 hd6 nt) (w56.trans (qM st)) (st _ _ hd6) mo6 (by lia) ?_;rw[et];exact aD
   ·refine⟨rest-eE m (cZ L R c),kv6,some (.str ⟨#[c]⟩),some (.int (eE m (cZ L R c):Nat)),?_,?_,w56,hd6,mo6,by rw[kN];lia⟩
    ·rw[show ((rest-eE m (cZ L R c):Nat):Int)=(rest:Int)-(eE m (cZ L R c):Nat) by lia]
    ·rw[xw hc1];lia
  ·rintro σ H5 ⟨rest,kv5,x5,x6,rfl,er,w5,hd5,mo5,hb5⟩;have t3:(tx (qB.take 3)).cps.size=3:=rfl;rw[t3] at er hb5;nofun;have et:=F3 er;refine⟨by rw[sZ,be];exact lx (by decide),100,by rw[sZ,pX];rfl,two,λt nt=>?_⟩;have st:=(aP.refl H5).new (o:=.tup [.str ⟨#[100]⟩,.int (rest:Nat)]) nt;refine q t _ kv5 (B9 w5 hd5 nt) (w5.trans (qM st)) (st _ _ hd5) mo5 hb5 ?_;rw[et];exact aD
def xi {P7 P5:Addr} (RI:OwnCls "NoMaze" P7 [.type "ValueError",.type "Exception",.type "BaseException",.type "object"] "ValueError.__new__" mg base) (Q1:OwnCls "NoNumber" P5 [.type "ValueError",.type "Exception",.type "BaseException",.type "object"] "ValueError.__new__" mg base) (B:qL mg) (E:Fn K mg "numbered" iS ["side","n","number"]) (Py:eG P w K mg base 1 "is_side" i5 ["thing"] qS) (QV:lm P w K mg base 3 "vet_rings" gg ["n"] (zF P5)) (QN:eG P w K mg base 1 "begun" kG ["side"] qT) (Pp:eG P w K mg base 18 "ends_from" d9 ["state","rows","known"] (pZ 13)) (Q2:eG P w K mg base 2 "is_below" iU ["thing","bound"] vV) (Qv:eG P w K mg base 20 "next_letter" gN ["state","rows","ahead","known"] Ar) (QP:eG P w K mg base 3 "step" l3 ["state","letter"] qy) (Q3:eG P w K mg base 5 "decoded" jJ ["side","code"] zI):lm P w K mg base 21 "numbered" iS ["side","n","number"] (EU P7 P5):=E.mkX λf fd F=>by
 refine F.okX eP (λvs H Q E h=>?_) (λcdv A outer s H vs Q E hr h=>?_)
 ·obtain⟨x1,x2,x3,d1,d2,d3,rfl,_⟩:=h;rfl
 ·obtain⟨x1,x2,x3,d1,d2,d3,rfl,h1,p1,h2,h3,h⟩:=h;have one:(1:Nat)<=sizeLine:=by decide
  refine⟨[some x1,some x2,some x3,none,none,none,none,none,none],_,rfl,(L2.ij.h (aH (bw (qZ (fq (eI (aU Py (hr.mono (by decide)) (by rfl) (aC (aY 0) aB)))))
   (aM (oo qY RI c9 rfl (by rfl) (aJ ar aB)))
   bF)
   (aH (iJ (mj QV (hr.mono (by decide)) (by rfl) (aC (aY 1) aB)))
   (aH (eJ (a6 (i:=3) eP.nd rfl (Or.inl rfl) rA))
   (aH (eJ (a6 (i:=4) eP.nd rfl (Or.inl rfl) (aU QN (hr.mono (by decide)) (by rfl) (aC (aY 0) aB))))
   (aH (bw (qZ (fq (eI (aU Q2 (hr.mono (by decide)) (by rfl) (aC (aY 2) (cF (aU Pp (hr.mono (by decide)) (by rfl) (aC (aY 4) (aC (aY 1) (aC (aY 3) aB)))) aB))))))
   (aM (oo qY Q1 c9 rfl (by rfl) (aJ ar aB)))
   bF)
   (aH (eJ (a6 (i:=5) eP.nd rfl (Or.inl rfl) ar))
   (aH (eJ (a6 (i:=6) eP.nd rfl (Or.inl rfl) (aY 2)))
   (aH (eJ (gx b6 rfl (zV (by rfl) B.range (bu (a7 iV (aY 1) aE) (rT (fR fO aE) (rT (fR fO aE) aB)))) (bp (i:=7) eP.nd rfl (Or.inl rfl))
   (aH (a6 (i:=8) eP.nd rfl (Or.inl rfl) (aU Qv (hr.mono (by decide)) (by rfl) (aC (aY 4) (aC (aY 7) (aC (aY 6) (aC (aY 3) aB))))))
    (aH (ou (i:=5) eP.nd rfl (Or.inl rfl) (bJ fu (aY 8) aE (λ_ _=>rfl)) yG)
    (aH (a6 (i:=6) eP.nd rfl (Or.inl rfl) (bJ fu (aY 8) aE (λ_ _=>rfl)))
    (aM (a6 (i:=4) eP.nd rfl (Or.inl rfl) (aU QP (hr.mono (by decide)) (by rfl) (aC (aY 4) (ak (bJ fu (aY 8) aE (λ_ _=>rfl)) aB))))))))))
   (aM (eJ (aa (aU Q3 (hr.mono (by decide)) (by rfl) (aC (aY 0) (aC (aY 5) aB))))))))))))))),?_⟩
  nofun;refine⟨x1,d1,rfl,h1,p1,?_⟩;rcases h with ⟨bad,q⟩ | ⟨b,rfl,h⟩
  ·rw[bad];exact⟨_,rfl,lw rfl ⟨one,q _ (aP.refl _)⟩⟩
  have e1:j5 (.str (sd b))=true:=by cases b<;>decide +kernel
  cases h1;rw[e1];refine⟨true,rfl,iH (by decide) ⟨x2,d2,rfl,h2,?_⟩⟩;rcases h with ⟨bad,q⟩ | ⟨n,rfl,hn,h⟩
  ·exact .inr ⟨bad,q _ (aP.refl _)⟩
  cases h2;refine .inl ⟨Bo (by lia),λkn nk=>⟨MO b,by rw[Nw],?_⟩⟩;rw[rz];have sk:=(aP.refl H).new (o:=.dT []) nk;have hk0:bP H kn (.dT []) kn=some (.dT []):=aD;generalize bP H kn (.dT [])=H1 at sk hk0 ⊢;have bl1:(bL b).length+(bR b).length=1:=by cases b<;>rfl
  have EB:EE (bL b) (bR b):=by cases b;exact EE.one;exact EE.two
  have bn:=Iy n hn;have two:(2:Nat)<=sizeLine:=by decide
  refine⟨bL b,bR b,n,kn,[],rfl,by lia,by lia,EB,by lia,hk0,(λk v h=>by cases h),by show 0+_<=_;lia,λH2 kv2 w2 hk2 mo2 hl2=>?_⟩;have hl2:kv2.length<=oA n:=by have:([]:List (List Key×V)).length=0:=rfl;lia
  have s2:=va nk sk w2;refine⟨_,_,_,rfl,h3.same s2,?_⟩;rcases h with ⟨bad,q⟩ | ⟨k,rfl,hk,q⟩
  ·rw[bad];exact⟨_,rfl,lw rfl ⟨one,q _ s2⟩⟩
  cases h3;rw[Bo hk];refine⟨_,rfl,iH (by decide) ?_⟩;rw[Gy];refine⟨_,_,rfl,⟨by lia,by lia,by lia,by lia⟩,?_⟩;rw[show ((n:Int) - 1 - -1).toNat=n by lia];refine AH (n:=n) (λi σ H3=>∃(L R:List Int) (cs:List Nat) (rest:Nat) (kv3:List (List Key×V)) (x7 x8:Option V),σ=[some (.str (sd b)),some (.int n),some (.int k),some (.ref kn),some (.str (tx (gu L R))),some (.str (tx cs)),some (.int (rest:Nat)),x7,x8]/\aP H H3/\H3 kn=some (.dT kv3)/\fx kv3/\kv3.length+uE (n-i)<=oA n+uE n/\EE L R/\L.length+R.length<=2*i+1/\cs.length=i/\rest<dG (n-i) L R/\∀ds,(eU (n-i) L R)[rest]? = some ds->(eU n (bL b) (bR b))[k]? = some (cs++ds))
   ⟨bL b,bR b,[],k,kv2,_,_,by rw[Mw],s2,hk2,mo2,by rw[qr];lia,EB,by lia,rfl,hk,λds h=>h⟩ ?_ ?_
  ·rintro i σ H3 hi ⟨L,R,cs,rest,kv3,x7,x8,rfl,s3,hk3,mo3,hb3,ee,hl,lc,hrest,hseq⟩;obtain⟨r,hr0⟩:∃r,n-i=r+1:=⟨n-i - 1,by lia⟩
   rw[hr0] at hb3 hrest hseq;have hb3:kv3.length+(uE r+3*oA r)<=oA n+uE n:=hb3;have er:(n:Int) - 1+(i:Int)*(-1)=(r:Nat):=by lia
   obtain⟨c1,c2,L',R',g,hlt⟩:=IK hrest;nofun;rw[er];refine⟨L,R,r,rest,kn,kv3,rfl,by lia,ee,by lia,hk3,mo3,by lia,λt H4 kv4 nt w4 hk4 mo4 hl4 ht=>?_⟩;have s4:=va nk s3 w4;generalize hz:rD r L R rest=z at c1 c2 g hlt ht;obtain⟨c,r2⟩:=z;simp only at c1 c2 g hlt ht;have lp:=mM c1 g;refine⟨t,_,0,_,rfl,rfl,de.of ht,rfl,?_⟩;refine⟨_,_,rfl,rfl,by rw[be];exact lx (by show cs.length+1<=900;lia),t,_,1,_,rfl,rfl,de.of ht,rfl,t,_,0,_,rfl,rfl,de.of ht,rfl,L,R,c,rfl,c1,ee,by lia,λH5 s5=>?_⟩;rw[g];refine⟨L',R',cs++[c],r2,kv4,some (.int (r:Nat)),some (.ref t),by rw[<-fP];rfl,s4.trans s5,s5 _ _ hk4,mo4,?_,ee.go c1 g,by lia,by simp[lc],?_,λds h=>?_⟩
   ·rw[show n-(i+1)=r by lia];lia
   ·rw[show n-(i+1)=r by lia];exact hlt
   ·rw[show n-(i+1)=r by lia] at h;have:=hseq (c::ds) (by rw[c2];exact E4 c1 g h);rw[aw];exact this
  ·rintro σ H3 ⟨L,R,cs,rest,kv3,x7,x8,rfl,s3,hk3,mo3,hb3,ee,hl,lc,hrest,hseq⟩;rw[qt] at hrest hseq;have e0:eU 0 L R=[[]]/\rest=0:=by
    have h:rest<(if L.length+R.length=1 then 1 else 0):=hrest;unfold eU
    split at h
    ·rename_i e;exact⟨W5 e,by lia⟩
    ·lia
   have hs:=hseq [] (by rw[e0.1,e0.2];rfl);rw[cX] at hs;nofun;exact⟨b,cs,rfl,(BK (by lia) hs).1,λm o H4 s4 hm=>q cs m o H4 (s3.trans s4) hs hm⟩
def zq (B:qL mg) (E:Fn K mg "_law_cell_at" kX ["_law_script","_law_k"]):eG P w K mg base 1 "_law_cell_at" kX ["_law_script","_law_k"] (BC K):=E.mk' λf fd F=>by
 refine F.okS zN (λvs H Q E h=>?_) (λcdv A outer s H vs Q E hr h=>?_)
 ·obtain⟨a,ns,k,rfl,_⟩:=h;rfl
 ·obtain⟨a,ns,k,rfl,hS,q⟩:=h;refine⟨[some (.ref a),some (.int k)],_,rfl,(L2.ij.h (aH (bw (ae ke (aY 1) (a8 cU (by rfl) B.len ah (aC (aY 0) aB)) (bK _))
   (aM (aa (bJ dH (aY 0) (aY 1) (λ_ _=>rfl))))
   bF)
   (aM (aa (a7 fS (a7 rC aE (aY 1)) aE))))),?_⟩
  nofun;refine⟨_,.inl hS,?_⟩;rw[aG];refine iz (λh=>?_) (λh=>?_)
  ·have hk:k<ns.length:=by lia
   refine⟨_,.int (ns.getD k 0),hS,kL ?_,q _⟩;simp[au,hk]
  ·exact⟨.inl ⟨by decide,by decide⟩,q _⟩
def FS (E:Fn K mg "_law_mixed" o8 ["_law_cell"]):eG P w K mg base 1 "_law_mixed" o8 ["_law_cell"] wt:=E.mk' λf fd F=>by
 refine F.okS xE (λvs H Q E h=>?_) (λcdv A outer s H vs Q E hr h=>?_)
 ·obtain⟨n,rfl,_⟩:=h;rfl
 ·obtain⟨n,rfl,q⟩:=h;refine⟨[some (.int n),none],_,rfl,(L2.ij.h (aH (a6 (i:=1) xE.nd rfl (Or.inl rfl) (a7 fZ (a7 rC (a7 fS (a7 fZ (aY 0) (a7 tD aE aE)) aE) aE) (a7 iV (a7 tD aE aE) aE)))
   (aM (aa (a7 gX (a7 fZ (a7 rC (aY 1) aE) (a7 iV (a7 tD aE aE) aE)) aE))))),?_⟩
  nofun;refine⟨⟨by decide,by decide,by decide⟩,by decide,.inr ⟨by decide,by decide⟩,⟨by decide,by decide,by decide⟩,by decide,.inr ⟨by decide,by decide⟩,⟨by decide,by decide,by decide⟩,by decide,⟨by decide,by decide⟩,?_⟩;have e:((2:Int) ^ Int.toNat 61 - 1)=2305843009213693951:=by decide
  rw[e];refine q _ ?_ ?_<;>lia
def zf (E:Fn K mg "_law_rest_of" kP ["_law_cell"]) (Sf:eG P w K mg base 1 "_law_mixed" o8 ["_law_cell"] wt):eG P w K mg base 2 "_law_rest_of" kP ["_law_cell"] Ap:=E.mk' λf fd F=>by
 refine F.okS pj (λvs H Q E h=>?_) (λcdv A outer s H vs Q E hr h=>?_)
 ·obtain⟨n,rfl,_⟩:=h;rfl
 ·obtain⟨n,rfl,q⟩:=h;refine⟨[some (.int n),none],_,rfl,(L2.ij.h (aH (bw (ae f6 (a7 fZ (aY 0) aE) aE (bK _))
   (aM (aa (aU Sf (hr.mono (by decide)) (by rfl) (bu (a7 gX (aY 0) aE) aB))))
   bF)
   (aH (a6 (i:=1) pj.nd rfl (Or.inl rfl) aE)
   (aH (oj b6 (ae xb (aY 1) (a7 gX (aY 0) aE) (bK _))
   (aM (a6 (i:=1) pj.nd rfl (Or.inl rfl) (a7 rC aE (aY 1)))))
   (aM (aa (a7 fS (a7 gX (aY 0) aE) (a7 rC (aY 1) (aU Sf (hr.mono (by decide)) (by rfl) (bu (a7 gX (aY 0) aE) aB)))))))))),?_⟩
  nofun;refine⟨by decide,iz (λh=>⟨⟨by decide,by decide⟩,_,rfl,λm _ _=>q m⟩) (λh=>?_)⟩;refine⟨λm σ H3=>∃t:Int,σ=[some (.int n),some (.int t)]/\1<=t/\m=(n / 2+1-t).toNat/\H3=H,⟨_,1,rfl,by decide,rfl,rfl⟩,?_⟩;rintro m σ H3 ⟨t,rfl,ht,rfl,rfl⟩;nofun;refine⟨⟨by decide,by decide⟩,iz (λh=>?_) (λh=>?_)⟩
  ·refine⟨_,λ_ _ z=>z,.inl ⟨by decide,by decide⟩,_,?_,4*t,rfl,by lia,rfl,rfl⟩;lia
  ·refine⟨⟨by decide,by decide⟩,⟨by decide,by decide⟩,_,rfl,λm h1 h2=>?_⟩;nofun;exact⟨.inr ⟨by lia,by lia⟩,q _⟩
def Bh{H:Hp}{a0:Addr}{ns:List Int}{lo hi:Int}{Q:VK}(h:H a0=some (.lst (ns.map V.int)))(hl:ns.length<=900)(q:∀p H',aP H H'->H' p=some (.lst ((ns.map (rn lo hi)).map V.int))->Q (.ref p) H'):
  kE (Gf K a0) (nP 0) rQ (Dw (HN K) (HC (fD (sN 0) (fD (sN 1) Dy))) (MM (λxs H Q=>(∃i,xs=[V.int i]/\Q (V.int i) H)\/∃k,xs=[V.bl k]/\Q (V.int (if k=true then 1 else 0)) H) (fD (Dw NI (sN 0) (sN 2)) Dy))) Q [none,some (V.int lo),some (V.int hi)] H:=by
 refine rL (xs:=ns.map V.int) (λi ys σ H'=>aP H H'/\ys=((ns.take i).map (rn lo hi)).map V.int/\∃x0,σ=[x0,some (V.int lo),some (V.int hi)]) ⟨aP.refl _,by simp,_,rfl⟩ ?_ (by rw[aG];exact lx hl) ?_ ?_
 ·rintro i ys σ H' ⟨sm,rfl,_⟩;exact⟨c6.of (sm _ _ h),by simp;lia⟩
 ·rintro i x ys σ H' N hx ⟨sm,rfl,x0,rfl⟩ hN;obtain⟨v,hv,rfl⟩:=pF hx;have etk:ns.take (i+1)=ns.take i++[v]:=by rw[cT,hv];rfl
  nofun;refine⟨(by show 2<=sizeLine;decide),λp np=>⟨_,V.int (rn lo hi v),c6.of aD,?_,hN _ _ _ ⟨sm.trans ((aP.refl _).new np),?_,_,rfl⟩⟩⟩
  ·unfold rn;by_cases e:v=hi
   ·rw[W5 e,W5 e];rfl
   ·rw[W4 e,W4 e];rfl
  ·rw[etk];simp
 ·rintro ys σ H' p ⟨sm,rfl,_⟩ np;have eL:(ns.map V.int).length=ns.length:=aG ..;rw[eL,eY];exact q p _ (sm.trans ((aP.refl _).new np)) aD
def NW (B:qL mg) (E:Fn K mg "_law_go" CG ["_law_ends","_law_letter"]):eG P w K mg base 1 "_law_go" CG ["_law_ends","_law_letter"] Ms:=E.mk' λf fd F=>by
 refine F.okS uh (λvs H Q E h=>?_) (λcdv A outer s H vs Q E hr h=>?_)
 ·obtain⟨a,L,R,c,rfl,_⟩:=h;rfl
 ·obtain⟨a,L,R,c,rfl,⟨l,r,ha,hL,hR⟩,hc,EE,hl,q⟩:=h;have two:(2:Nat)<=sizeLine:=by decide
  have one:(1:Nat)<=sizeLine:=by decide
  refine⟨[some (.ref a),some (.str ⟨#[c]⟩),none,none,none,none,none],_,rfl,(L2.ij.h (aH (BN (aY 0) (lM (n:=2) rfl (dZ (bp (i:=2) uh.nd rfl (Or.inl rfl)) (dZ (bp (i:=3) uh.nd rfl (Or.inl rfl)) jb))))
   (aH (bw (ae f6 (aY 1) ar (bK _))
   (aH (a6 (i:=4) uh.nd rfl (Or.inl rfl) (a7 fS aE (a8 (AV rfl) (by rfl) B.max jD (bu (a7 jR (aY 2) (aY 3)) aB))))
    (aM (aa (cL (bu (a7 jR (aY 2) (bf (aC (aY 4) aB))) (bu (a7 jR (aY 3) (bf (aC (aY 4) aB))) aB))))))
   bF)
   (aH (bw (QW.pt (mi (ae f6 (aY 1) ar (bK _)) (ka (ae xf (a8 cU (by rfl) B.len ah (aC (aY 3) aB)) aE (bK _)))))
   (aM (aa (cL (bu (a7 jR (aY 2) (eV kF (aY 3) (fH (fR fO aE)) fz)) (ak (eV kF (aY 3) fz (fH (fR fO aE))) aB)))))
   bF)
   (aH (bw (QW.pt (mi (ae f6 (aY 1) ar (bK _)) (ka (ae xf (a8 cU (by rfl) B.len ah (aC (aY 2) aB)) aE (bK _)))))
   (aM (aa (cL (ak (eV kF (aY 2) fz (fH (fR fO aE))) (bu (a7 jR (aY 3) (eV kF (aY 2) (fH (fR fO aE)) fz)) aB)))))
   bF)
   (aH (bw (QW.pt (jO (ae qb (aY 1) ar (bK _)) (jO (ae f6 (a8 cU (by rfl) B.len ah (aC (aY 2) aB)) aE (bK _)) (jO (ae f6 (a8 cU (by rfl) B.len ah (aC (aY 3) aB)) aE (bK _)) (kH (ae f6 (bJ dH (aY 2) (fR fO aE) (λ_ _=>rfl)) (bJ dH (aY 3) (fR fO aE) (λ_ _=>rfl)) (bK _)))))))
   (aM (aa du))
   bF)
   (aH (a6 (i:=5) uh.nd rfl (Or.inr rfl) (a8 (DD rfl) (by rfl) B.min nZ (ak (bJ dH (aY 2) (fR fO aE) (λ_ _=>rfl)) (ak (bJ dH (aY 3) (fR fO aE) (λ_ _=>rfl)) aB))))
   (aH (a6 (i:=6) uh.nd rfl (Or.inr rfl) (a8 (DF rfl) (by rfl) B.max jD (ak (bJ dH (aY 2) (fR fO aE) (λ_ _=>rfl)) (ak (bJ dH (aY 3) (fR fO aE) (λ_ _=>rfl)) aB))))
   (aM (aa (cL (ig (jd (own:=["_law_end"]) (ns:=["_law_low","_law_high"]) (caps:=[5,6]) rfl ⟨rfl,by decide +kernel,by decide +kernel,by decide +kernel⟩ (.cons rfl rfl (.inl rfl) (.cons rfl rfl (.inl rfl) .nil)) (iK (eV kF (aY 2) fz (fH (fR fO aE)))) (λC s H fp pn=>(bp (i:=0) (show List.Nodup ((["_law_end"]:List Str)++(["_law_low","_law_high"]:List Str)) by decide +kernel) rfl (Or.inl rfl))) (λC s H fp pn=>kI) (λC s H fp pn=>(bJ (mJ (K:=K) rfl) (bf (aC (aY 0) (aC (aY 1) aB))) (dX pH (by rfl) B.int df (fg (eh f6 (aY 0) (aY 2) (bK _)) aB)) (λ_ _=>rfl)))) (ig (jd (own:=["_law_end"]) (ns:=["_law_low","_law_high"]) (caps:=[5,6]) rfl ⟨rfl,by decide +kernel,by decide +kernel,by decide +kernel⟩ (.cons rfl rfl (.inl rfl) (.cons rfl rfl (.inl rfl) .nil)) (iK (eV kF (aY 3) fz (fH (fR fO aE)))) (λC s H fp pn=>(bp (i:=0) (show List.Nodup ((["_law_end"]:List Str)++(["_law_low","_law_high"]:List Str)) by decide +kernel) rfl (Or.inl rfl))) (λC s H fp pn=>kI) (λC s H fp pn=>(bJ (mJ (K:=K) rfl) (bf (aC (aY 0) (aC (aY 1) aB))) (dX pH (by rfl) B.int df (fg (eh f6 (aY 0) (aY 2) (bK _)) aB)) (λ_ _=>rfl)))) aB))))))))))))),?_⟩
  nofun;refine⟨_,de.of ha,rfl,?_⟩;nofun;simp only[NA,Mz,Mx,Nx,ii];rcases hc with rfl | rfl | rfl | rfl
  ·refine lw rfl (uC hL hR (by simp;lia) λp1 H1 n1 s1 h1=>?_);rw[<-aR] at h1;have z1:=EE.z1;have cl:=List.count_le_length (a:=(0:Int)) (l:=L++R.reverse);have nn:∀x∈L++R,0<=x:=λx hx=>EE.nn x (by simpa using hx);have hpos:0<(L++R).length:=by rw[z1] at cl;simp at cl ⊢;lia
   refine⟨p1,L++R,rfl,c6.of h1,hpos,λM hM hmx=>?_⟩;have eM:=NX hM (nn M hM) hmx;nofun;refine⟨one,λp2 n2=>?_⟩;have s2:=(aP.refl H1).new (o:=.lst [V.int (1+M)]) n2;refine uC ((s1.trans s2) _ _ hL) aD (by simp;lia) λp3 H3 n3 s3 h3=>⟨one,λp4 n4=>?_⟩
   have s4:=(aP.refl H3).new (o:=.lst [V.int (1+M)]) n4;have s04:=s1.trans (s2.trans (s3.trans s4));refine uC (s04 _ _ hR) aD (by simp;lia) λp5 H5 n5 s5 h5=>⟨two,λb nb=>?_⟩
   have s05:=s04.trans s5;rw[eM] at h3 h5;have h3':H5 p3=some (.lst ((L++[1+mx (L++R)]).map V.int)):=by rw[W1];exact(s4.trans s5) _ _ h3
   have h5':H5 p5=some (.lst ((R++[1+mx (L++R)]).map V.int)):=by rw[W1];exact h5
   exact q _ _ (s05.trans ((aP.refl _).new nb)) ⟨b,rfl,gV.new h3' h5' nb⟩
  ·refine iH (by decide) (lw rfl ⟨_,.inl (c6.of hR),?_⟩);by_cases hR0:R=[]
   ·subst hR0;rw[nE] at q;exact iH (by simp) (iH (by decide) (lw (by decide) (q _ _ (aP.refl _) rfl)))
   ·obtain⟨R',v,rfl⟩:=cG hR0;rw[pT] at q;have hR':=hR;rw[W1] at hR';refine lw (by simp) (BE hR' λp1 H1 n1 s1 h1=>uC (s1 _ _ hL) h1 (by simp;simp at hl;lia) λp2 H2 n2 s2 h2=>rq ((s1.trans s2) _ _ hR') λp3 H3 n3 s3 h3=>⟨two,λb nb=>?_⟩);have h2':H3 p2=some (.lst ((L++[v]).map V.int)):=by rw[W1];exact s3 _ _ h2
    exact q _ _ ((s1.trans (s2.trans s3)).trans ((aP.refl _).new nb)) ⟨b,rfl,gV.new h2' h3 nb⟩
  ·refine iH (by decide) (iH (by decide) (lw rfl ⟨_,.inl (c6.of hL),?_⟩));by_cases hL0:L=[]
   ·subst hL0;rw[nD] at q;exact iH (by simp) (lw (by decide) (q _ _ (aP.refl _) rfl))
   ·obtain⟨L',v,rfl⟩:=cG hL0;rw[pS] at q;have hL':=hL;rw[W1] at hL';refine lw (by simp) (rq hL' λp1 H1 n1 s1 h1=>BE (s1 _ _ hL') λp2 H2 n2 s2 h2=>uC ((s1.trans s2) _ _ hR) h2 (by simp;simp at hl;lia) λp3 H3 n3 s3 h3=>⟨two,λb nb=>?_⟩);have h3':H3 p3=some (.lst ((R++[v]).map V.int)):=by rw[W1];exact h3
    exact q _ _ ((s1.trans (s2.trans s3)).trans ((aP.refl _).new nb)) ⟨b,rfl,gV.new ((s2.trans s3) _ _ h1) h3' nb⟩
  ·refine iH (by decide) (iH (by decide) (iH (by decide) (iH (by decide) ⟨_,.inl (c6.of hL),?_⟩)));by_cases hL0:L=[]
   ·subst hL0;rw[mz] at q;exact lw rfl (q _ _ (aP.refl _) rfl)
   ·obtain⟨L',x,rfl⟩:=cG hL0;refine iH (by simp;lia) ⟨_,.inl (c6.of hR),?_⟩;by_cases hR0:R=[]
    ·subst hR0;rw[mw] at q;exact lw rfl (q _ _ (aP.refl _) rfl)
    ·obtain⟨R',y,rfl⟩:=cG hR0;rw[pR] at q;have hL':=hL;have hR':=hR;rw[W1] at hL' hR';refine iH (by simp;lia) ⟨_,_,c6.of hL',jT,_,_,c6.of hR',jT,?_⟩;nofun;by_cases exy:x=y
     ·rw[W5 exy] at q;exact lw exy (q _ _ (aP.refl _) rfl)
     ·rw[W4 exy] at q;refine iH exy ⟨_,_,c6.of hL',jT,_,_,c6.of hR',jT,_,_,rfl,_,_,c6.of hL',jT,_,_,c6.of hR',jT,_,_,rfl,?_⟩;have e1:(if y<x then y else x)=min x y:=by rw[oS];split<;>split<;>lia
      have e2:(if y > x then y else x)=max x y:=by rw[oT];split<;>split<;>lia
      rw[e1,e2];nofun;simp at hl;refine rq hL' λp1 H1 n1 s1 h1=>⟨p1,rfl,⟨_,c6.of h1⟩,Bh h1 (by lia) λp2 H2 s2 h2=>rq ((s1.trans s2) _ _ hR') λp3 H3 n3 s3 h3=>⟨p3,rfl,⟨_,c6.of h3⟩,Bh h3 (by lia) λp4 H4 s4 h4=>⟨two,λb nb=>?_⟩⟩⟩
      exact q _ _ ((s1.trans (s2.trans (s3.trans s4))).trans ((aP.refl _).new nb)) ⟨b,rfl,gV.new ((s3.trans s4) _ _ h2) h4 nb⟩
def xo (E:Fn K mg "_law_at_first" jM ["_law_side"]):eG P w K mg base 1 "_law_at_first" jM ["_law_side"] Ax:=E.mk' λf fd F=>by
 refine F.okS xK (λvs H Q E h=>?_) (λcdv A outer s H vs Q E hr h=>?_)
 ·obtain⟨c,rfl,_⟩:=h;rfl
 ·obtain⟨c,rfl,q⟩:=h;refine⟨[some (.str ⟨#[c]⟩)],_,rfl,(L2.ij.h (aH (bw (ae f6 (aY 0) ar (bK _))
   (aM (aa (cL (je (bf (aJ aE aB)) (je (bf aB) aB)))))
   bF)
   (aM (aa (cL (je (bf aB) (je (bf (aJ aE aB)) aB))))))),?_⟩
  nofun;rw[O0];simp only[ii];unfold kZ at q;refine iz (λh=>?_) (λh=>?_)
  ·rw[W5 h] at q;refine⟨by decide,λl nl=>⟨bU _,λr nr=>⟨(by show 2<=sizeLine;decide),λa na=>?_⟩⟩⟩;have hl:=aS (o:=.lst []) (H:=bP H l (.lst [V.int 0])) (λz:l=r=>by rw[z,aD] at nr;cases nr);rw[aD] at hl;exact q a _ ((((aP.refl H).new nl).trans ((aP.refl _).new nr)).trans ((aP.refl _).new na)) (gV.new (L:=[0]) (R:=[]) hl aD na)
  ·rw[W4 h] at q;refine⟨bU _,λl nl=>⟨by decide,λr nr=>⟨(by show 2<=sizeLine;decide),λa na=>?_⟩⟩⟩;have hl:=aS (o:=.lst [V.int 0]) (H:=bP H l (.lst [])) (λz:l=r=>by rw[z,aD] at nr;cases nr);rw[aD] at hl;exact q a _ ((((aP.refl H).new nl).trans ((aP.refl _).new nr)).trans ((aP.refl _).new na)) (gV.new (L:=[]) (R:=[0]) hl aD na)
def zp (B:qL mg) (E:Fn K mg "_law_closing" kW ["_law_ends"]):eG P w K mg base 1 "_law_closing" kW ["_law_ends"] ug:=E.mk' λf fd F=>by
 refine F.okS jG (λvs H Q E h=>?_) (λcdv A outer s H vs Q E hr h=>?_)
 ·obtain⟨a,L,R,rfl,_⟩:=h;rfl
 ·obtain⟨a,L,R,rfl,⟨l,r,ha,hL,hR⟩,ee,h1,h2,q⟩:=h;refine⟨[some (.ref a),none,none,none,none],_,rfl,(L2.ij.h (aH (a6 (i:=1) jG.nd rfl (Or.inl rfl) (a7 jR (bJ fu (aY 0) aE (λ_ _=>rfl)) (xT rfl (by rfl) B.list (by rfl) B.reversed (bJ fu (aY 0) aE (λ_ _=>rfl)))))
   (aH (a6 (i:=2) jG.nd rfl (Or.inl rfl) (a8 cU (by rfl) B.len ah (ak (bJ fu (aY 0) aE (λ_ _=>rfl)) aB)))
   (aH (a6 (i:=3) jG.nd rfl (Or.inl rfl) du)
   (aH (gx b6 rfl (sr (by rfl) B.range (aJ aE (cF (a8 cU (by rfl) B.len ah (aC (aY 1) aB)) aB))) (bp (i:=4) jG.nd rfl (Or.inl rfl))
   (aM (bw (QW.pt (mi (ae qb (bJ dH (aY 1) (a7 iV (aY 4) aE) (λ_ _=>rfl)) (bJ dH (aY 1) (aY 4) (λ_ _=>rfl)) (bK _)) (ka (QW.pt (jO (ae vq (aY 3) du (bK _)) (kH (ae ke (a8 yf (by rfl) B.abs nh (bu (a7 iV (aY 4) (aY 2)) aB)) (a8 yf (by rfl) B.abs nh (bu (a7 iV (aY 3) (aY 2)) aB)) (bK _))))))))
    (aM (a6 (i:=3) jG.nd rfl (Or.inl rfl) (aY 4)))
    bF)))
   (aH (bw (ae f6 (aY 3) (aY 2) (bK _))
   (aM (aa ar))
   bF)
   (aM (aa (bJ dH (bf (aJ ar (aJ ar aB))) (dX pH (by rfl) B.int df (fg (eh ke (aY 3) (aY 2) (bK _)) aB)) (λ_ _=>rfl)))))))))),?_⟩
  nofun;have two:(2:Nat)<=sizeLine:=by decide
  refine⟨_,_,de.of ha,rfl,_,_,de.of ha,rfl,r,_,rfl,hR,by rw[aG];lia,λp1 n1=>?_⟩;have s1:=(aP.refl H).new (o:=.lst (R.map V.int).reverse) n1;have hL1:=s1 _ _ hL;refine uC hL1 aD (by simp;lia) λp2 H2 n2 s2 h2'=>?_;have s3:=s1.trans s2;have hrow:H2 p2=some (.lst ((L++R.reverse).map V.int)):=by rw[h2',aR,List.map_reverse]
  have wl:(L++R.reverse).length=L.length+R.length:=by simp
  have h3:3<=(L++R.reverse).length:=ee.three (by lia);have th:Th (L++R.reverse):=ee.th;generalize hW:L++R.reverse=W at *;refine⟨_,_,de.of (s3 _ _ ha),rfl,l,_,rfl,.inl (c6.of (s3 _ _ hL)),p2,_,rfl,.inl (c6.of hrow),⟨by decide,by decide,by lia,by rw[aG];lia⟩,?_⟩;rw[aG,aG,show ((W.length:Int) - 1).toNat=W.length - 1 by lia];refine uy (n:=W.length - 1) (λi σ H'=>∃(v:V) (x4:Option V),σ=[some (.ref a),some (.ref p2),some (.int (L.length:Nat)),some v,x4]/\aP H H'/\H' p2=some (.lst (W.map V.int))/\Gb W L.length (1+i) v) ⟨_,_,rfl,s3,hrow,.inl ⟨rfl,λk hk z=>by have:=z.1;lia⟩⟩ ?_ ?_
  ·rintro i σ H3 hi ⟨v,x4,rfl,s4,hr3,bv⟩;have g1:W[i]? = some W[i]:=aW (by lia);have g2:W[i+1]? = some W[i+1]:=aW (by lia);have a1:vI (W.map V.int) ((1:Int)+i - 1)=some (.int W[i]):=by rw[show (1:Int)+i - 1=((i:Nat):Int) by lia];exact kL (by rw[au,g1];rfl)
   have a2:vI (W.map V.int) ((1:Int)+i)=some (.int W[i+1]):=by rw[show (1:Int)+i=((i+1:Nat):Int) by lia];exact kL (by rw[au,g2];rfl)
   have dE:tu W (1+i)<->W[i]≠W[i+1]:=by
    unfold tu;rw[show 1+i - 1=i by lia,show 1+i=i+1 by lia,g1,g2];constructor
    ·rintro⟨_,_,z⟩ e;exact z (by rw[e])
    ·intro z;exact⟨by lia,by lia,λe=>z (bI e)⟩
   have keep:∀v,Gb W L.length (1+i) v->¬tu W (1+i)->Gb W L.length (1+(i+1)) v:=λv h nd=>by
    rcases h with ⟨rfl,h⟩ | ⟨best,rfl,h1,h⟩
    ·exact .inl ⟨rfl,λk hk=>by
      by_cases e:k=1+i
      ·rw[e];exact nd
      ·exact h k (by lia)⟩
    ·exact .inr ⟨best,rfl,h1,λk hk hd=>by
      by_cases e:k=1+i
      ·rw[e] at hd;exact absurd hd nd
      ·exact h k (by lia) hd⟩
   nofun;refine⟨_,_,c6.of hr3,a1,_,_,c6.of hr3,a2,?_⟩;nofun;have ek:(1:Int)+i=((1+i:Nat):Int):=by lia
   refine iz (λhne=>⟨trivial,?_⟩) (λheq=>⟨v,_,rfl,s4,hr3,keep v bv (λz=>heq (dE.mp z))⟩);have hd:=dE.mpr hne;rcases bv with ⟨rfl,h⟩ | ⟨best,rfl,h1',h⟩
   ·refine lw rfl ⟨_,_,rfl,s4,hr3,.inr ⟨1+i,by rw[ek],hd,λk hk hk2=>?_⟩⟩;by_cases e:k=1+i
    ·rw[e];exact aI _
    ·exact absurd hk2 (h k (by lia))
   ·refine iH (λz=>nomatch z) ?_;nofun;refine iz (λhlt=>⟨_,_,rfl,s4,hr3,.inr ⟨1+i,by rw[ek],hd,λk hk hk2=>?_⟩⟩) (λhge=>⟨_,_,rfl,s4,hr3,.inr ⟨best,rfl,h1',λk hk hk2=>?_⟩⟩)
    ·by_cases e:k=1+i
     ·rw[e];exact aI _
     ·have:=h k (by lia) hk2
      split at hlt<;>split at hlt<;>lia
    ·by_cases e:k=1+i
     ·subst e
      split at hge<;>split at hge<;>lia
     ·exact h k (by lia) hk2
  ·rintro σ H3 ⟨v,x4,rfl,s4,hr3,bv⟩;obtain⟨best,rfl,bd,bm⟩:∃best:Nat,v=.int best/\tu W best/\∀k,k<W.length->tu W k->((best:Int)-L.length).natAbs<=((k:Int)-L.length).natAbs:=by
    rcases bv with ⟨rfl,h⟩ | ⟨best,rfl,h1,h⟩
    ·obtain⟨k,hk⟩:=Lj th h3;exact absurd hk (h k (by have:=hk.2.1;lia))
    ·exact⟨best,rfl,h1,λk hk hd=>h k (by lia) hd⟩
   have N:G6 W L.length best:=⟨bd,λk hk=>bm k hk.2.1 hk⟩
   nofun;refine iz (λe=>?_) (λe=>⟨two,λp np=>⟨_,.str ⟨#[DC L.length best]⟩,c6.of aD,?_,q best _ (s4.trans ((aP.refl _).new np)) N⟩⟩)
   ·have:=q best H3 s4 N;rw[show DC L.length best=100 by unfold DC;rw[W5 (by lia)]] at this;rw[Nx];exact this
   ·have ne:¬best=L.length:=λz=>e (by rw[z]);by_cases c:best<L.length
    ·rw[show DC L.length best=99 by unfold DC;rw[W4 ne,W5 c],W5 (by lia),Mz,Mx];rfl
    ·rw[show DC L.length best=98 by unfold DC;rw[W4 ne,W4 c],W4 (by lia),Mz,Mx];rfl
def zo (B:qL mg) (E:Fn K mg "_law_code_by" kU ["_law_rest","_law_side","_law_many"]) (SA:eG P w K mg base 1 "_law_at_first" jM ["_law_side"] Ax) (Vb:eG P w K mg base 1 "_law_go" CG ["_law_ends","_law_letter"] Ms) (ST:eG P w K mg base 1 "_law_closing" kW ["_law_ends"] ug):eG P w K mg base 2 "_law_code_by" kU ["_law_rest","_law_side","_law_many"] BB:=E.mk' λf fd F=>by
 refine F.okS gf (λvs H Q E h=>?_) (λcdv A outer s H vs Q E hr h=>?_)
 ·obtain⟨r,b,m,rfl,_⟩:=h;rfl
 ·obtain⟨r,b,m,rfl,hm,q⟩:=h;refine⟨[some (.int r),some (.str (sd b)),some (.int m),none,none,none],_,rfl,(L2.ij.h (aH (a6 (i:=3) gf.nd rfl (Or.inl rfl) (aU SA (hr.mono (by decide)) (by rfl) (aC (aY 1) aB)))
   (aH (a6 (i:=4) gf.nd rfl (Or.inl rfl) ar)
   (aH (oj b6 (QW.pt (jO (ae ke (a8 cm (by rfl) B.len ah (aC (aY 4) aB)) (aY 2) (bK _)) (kH (ae xf (a8 cU (by rfl) B.len ah (bu (a7 jR (bJ fu (aY 3) aE (λ_ _=>rfl)) (bJ fu (aY 3) aE (λ_ _=>rfl))) aB)) aE (bK _)))))
   (aH (a6 (i:=5) gf.nd rfl (Or.inl rfl) (dv (ae NU (a8 cm (by rfl) B.len ah (aC (aY 4) aB)) (aY 2) (bK _)) (aU ST (hr.mono (by decide)) (by rfl) (aC (aY 3) aB)) (bJ tW ar (a7 fZ (aY 0) aE) (λ_ _=>rfl))))
    (aH (bw (QW.pt (mi (ae ke (a8 cm (by rfl) B.len ah (aC (aY 4) aB)) (aY 2) (bK _)) (ka (ae vq (aU Vb (hr.mono (by decide)) (by rfl) (aC (aY 3) (aC (aY 5) aB))) du (bK _)))))
    (aM (a6 (i:=5) gf.nd rfl (Or.inl rfl) ar))
    bF)
    (aH (a6 (i:=0) gf.nd rfl (Or.inl rfl) (a7 gX (aY 0) aE))
    (aH (a6 (i:=3) gf.nd rfl (Or.inl rfl) (aU Vb (hr.mono (by decide)) (by rfl) (aC (aY 3) (aC (aY 5) aB))))
    (aM (a6 (i:=4) gf.nd rfl (Or.inl rfl) (a7 dy (aY 4) (aY 5)))))))))
   (aM (aa (aY 4))))))),?_⟩
  nofun;refine⟨MO b,by rw[Nw],λa0 H1 s1 e0=>?_⟩;rw[rz] at e0;nofun;refine⟨λM σ H2=>∃(r':Int) (cs:List Nat) (L R:List Int) (a:Addr) (x5:Option V),σ=[some (.int r'),some (.str (sd b)),some (.int m),some (.ref a),some (.str (tx cs)),x5]/\aP H H2/\gV H2 a L R/\EE L R/\(∀ds,gZ (bL b) (bR b) (cs++ds) 0=gZ L R ds cs.length)/\wY cs/\L.length+R.length<=2*cs.length+1/\(cs.length<=m\/(m<=cs.length/\cs.length+A0 L R<=4*m))/\M=40-cs.length,
   ⟨_,r,[],bL b,bR b,a0,_,rfl,s1,e0,(by cases b;exact EE.one;exact EE.two),(λds=>rfl),(λx hx=>by cases hx),by cases b<;>decide,.inl (bU _),rfl⟩,?_⟩
  rintro M σ H2 ⟨r',cs,L,R,a,x5,rfl,s2,ea,ee,wk,lt,hs,hi,rfl⟩;have hle:cs.length<=20:=by lia
  refine GT (λk H'=>aP H H'/\aP H2 H'/\(k=true->cs.length<m\/1<L.length+R.length)/\(k=false->m<=cs.length/\L.length+R.length<=1)) (λC hC=>?_) ?_
  ·obtain⟨l,r2,ha,hL,hR⟩:=ea;nofun;rw[be];refine⟨lx (by lia),?_⟩;refine iz (λh=>hC true H2 ⟨s2,aP.refl _,λ_=>.inl (by lia),λz=>nomatch z⟩) (λh=>?_);refine⟨_,_,de.of ha,rfl,_,_,de.of ha,rfl,uC hL hR (by rw[aG,aG];lia) λp1 H3 n1 s3 h3=>⟨p1,_,rfl,.inl (c6.of h3),?_⟩⟩;rw[bH,aG,aG];refine hC _ H3 ⟨s2.trans s3,s3,λz=>.inr (by have:=of_decide_eq_true z;lia),λz=>⟨by lia,by have:=of_decide_eq_false z;lia⟩⟩
  ·rintro k H3 ⟨s3,s32,k1,k2⟩;cases k
   ·obtain⟨h1,h2⟩:=k2 rfl;nofun;refine q cs H3 s3 ⟨lt,hle,?_⟩ (by lia);have:=wk [];rw[cX] at this;rw[this];exact HL ee h2
   ·have h1:=k1 rfl;have ea3:=ea.same s32;nofun;refine⟨λσ' H'=>∃(r':Int) (cs':List Nat) (L R:List Int) (a:Addr) (x5:Option V),σ'=[some (.int r'),some (.str (sd b)),some (.int m),some (.ref a),some (.str (tx cs')),x5]/\aP H H'/\gV H' a L R/\EE L R/\(∀ds,gZ (bL b) (bR b) (cs'++ds) 0=gZ L R ds cs'.length)/\wY cs'/\L.length+R.length<=2*cs'.length+1/\(cs'.length<=m\/(m<=cs'.length/\cs'.length+A0 L R<=4*m))/\cs'.length=cs.length+1,λσ' H' ⟨r',cs',L,R,a,x5,e1,e2,e3,e4,e9,e5,e6,e7,e8⟩=>⟨40-cs'.length,by lia,r',cs',L,R,a,x5,e1,e2,e3,e4,e9,e5,e6,e7,rfl⟩,by rw[be];exact lx (by lia),?_⟩;have nxt:∀(H4:Hp) (c:Nat) (L' R':List Int) (v:V) (x5:Option V) (r1:Int),aP H H4->PL H4 v (some (L',R'))->jo c->cZ L R c=some (L',R')->(cs.length+1<=m\/(m<=cs.length+1/\cs.length+1+A0 L' R'<=4*m))->∃(r':Int) (cs':List Nat) (L R:List Int) (a:Addr) (x5':Option V),([some (.int r1),some (.str (sd b)),some (.int m),some v,some (.str (tx cs++⟨#[c]⟩)),x5]:L2.St)=[some (.int r'),some (.str (sd b)),some (.int m),some (.ref a),some (.str (tx cs')),x5']/\aP H H4/\gV H4 a L R/\EE L R/\(∀ds,gZ (bL b) (bR b) (cs'++ds) 0=gZ L R ds cs'.length)/\wY cs'/\L.length+R.length<=2*cs'.length+1/\(cs'.length<=m\/(m<=cs'.length/\cs'.length+A0 L R<=4*m))/\cs'.length=cs.length+1:=λH4 c L' R' v x5 r1 z1 z2 z3 z4 z5=>by
     obtain⟨a',rfl,ea'⟩:=z2;have:=mM z3 z4;have el:(cs++[c]).length=cs.length+1:=by simp
     exact⟨r1,cs++[c],L',R',a',x5,by rw[<-fP];rfl,z1,ea',ee.go z3 z4,(λds=>by rw[aw,wk,gT,lK z4,el]),Fh lt z3,by lia,by rw[el];exact z5,el⟩
    have cd:Nm r' 4:=⟨by decide,by decide⟩
    have sl:∀c:Nat,(tx cs).length+(⟨#[c]⟩:Str).length<=sizeLine:=λc=>by rw[be];exact lx (by show cs.length+1<=900;lia)
    rw[be];refine iz (λhm1=>?_) (λhm1=>?_)
    ·have hs1:1<L.length+R.length:=by lia
     refine⟨a,L,R,rfl,ea3,ee,hs1,by lia,λbest H4 s4 N=>?_⟩;obtain⟨L',R',g,ee',pc⟩:=GW ee hs1 N;have p20:cs.length+A0 L R<=4*m:=by
      rcases hi with h | h
      ·have:=Jh ee;lia
      ·exact h.2
     refine⟨lx (by lia),iH (by lia) ⟨cd,a,L,R,DC L.length best,rfl,ea3.same s4,GX _ _,ee,by lia,λv H5 s5 gv=>⟨_,_,rfl,rfl,sl _,?_⟩⟩⟩;rw[g] at gv;exact nxt H5 _ L' R' v _ _ ((s3.trans s4).trans s5) gv (GX _ _) g (.inr ⟨by lia,by lia⟩)
    ·obtain⟨c,hc,lc⟩:=JE r';refine⟨by decide,by decide +kernel,c,hc,lx (by lia),lw (by lia) ⟨a,L,R,c,rfl,ea3,lc,ee,by lia,λv H4 s4 gv=>⟨trivial,?_⟩⟩⟩;cases g:cZ L R c with
     | none=>
      rw[g] at gv;refine lw gv ⟨cd,a,L,R,97,by rw[NA];rfl,ea3.same s4,.inl rfl,ee,by lia,λv2 H5 s5 gv2=>?_⟩;obtain⟨L',R',ga⟩:=N7 L R;rw[ga] at gv2;rw[NA,<-be cs];exact⟨sl 97,nxt H5 97 L' R' v2 _ _ ((s3.trans s4).trans s5) gv2 (.inl rfl) ga (.inl (by lia))⟩
     | some pr=>
      obtain⟨L',R'⟩:=pr;rw[g] at gv;obtain⟨a',rfl,ea'⟩:=gv;refine iH (λz=>nomatch z) ⟨cd,a,L,R,c,rfl,ea3.same s4,lc,ee,by lia,λv2 H5 s5 gv2=>?_⟩;rw[g] at gv2;rw[<-be cs];exact⟨sl c,nxt H5 c L' R' v2 _ _ ((s3.trans s4).trans s5) gv2 lc g (.inl (by lia))⟩
def tJ (B:qL mg) (E:Fn K mg "_law_is_crossing" gO ["_law_found","_law_side","_law_order"]):Ga P w K mg base 1 "_law_is_crossing" gO ["_law_found","_law_side","_law_order"] Av:=E.mkH λf fd F a=>by
 refine F.okH ie (λvs H Q E h=>?_) (λcdv A outer s H vs Q E hr h=>?_)
 ·obtain⟨t,o,b,ns,u,p,q,rfl,_⟩:=h;rfl
 ·obtain⟨t,o,b,ns,u,p,q',rfl,ho,O,ct,cr,hx,q⟩:=h;have nlen:=O.len;refine⟨[some (.ref t),some (.str (sd b)),some (.ref o),none,none,none],_,rfl,(L2.ij.h (aH (bw (QW.pt (jO (fq (eI (a8 (DH (K:=K) rfl) (by rfl) B.isinstance ac (aC (aY 0) (aC (iL (v:=.ty "tuple") (by rfl) B.tuple dN rfl) aB))))) (jO (ae qb (a8 (l9 (K:=K) rfl) (by rfl) B.len ah (aC (aY 0) aB)) aE (bK _)) (kH (ae (pw (K:=K) rfl (AE hr)) (bJ (fW (K:=K) rfl) (aY 0) aE (λ_ _=>rfl)) (cL (aJ ar (aJ ar aB))) (by with_unfolding_all rfl))))))
   (aM (aa ci))
   bF)
   (aH (a6 (i:=3) ie.nd rfl (Or.inl rfl) (a7 jR (a7 jR (bf (aJ aE aB)) (dX (u4 (K:=K) rfl) (by rfl) B.list eO (aC (aY 2) aB))) (bf (bu (a7 fS (a8 (l9 (K:=K) rfl) (by rfl) B.len ah (aC (aY 2) aB)) aE) aB))))
   (aH (a6 (i:=4) ie.nd rfl (Or.inl rfl) (bf aB))
   (aH (CN b6 hr.hd (by rfl) B.range (cF (dX pH (by rfl) B.int df (fg (eh qb (bJ (fW (K:=K) rfl) (aY 0) aE (λ_ _=>rfl)) (aY 1) (bK _)) aB)) (bu (a7 iV (a8 (l9 (K:=K) rfl) (by rfl) B.len ah (aC (aY 3) aB)) aE) (aJ aE aB))) (bp (i:=5) ie.nd rfl (Or.inl rfl))
   (aM (iJ (O6 (K:=K) rfl (l4 dM dj di mH (aY 4) (cj (cL (cF (a8 (AU hr.hd) (by rfl) B.min nZ (ak (bJ (mJ (K:=K) rfl) (aY 3) (aY 5) (λ_ _=>rfl)) (ak (bJ (mJ (K:=K) rfl) (aY 3) (a7 fS (aY 5) aE) (λ_ _=>rfl)) aB))) (cF (a8 (AW hr.hd) (by rfl) B.max jD (ak (bJ (mJ (K:=K) rfl) (aY 3) (aY 5) (λ_ _=>rfl)) (ak (bJ (mJ (K:=K) rfl) (aY 3) (a7 fS (aY 5) aE) (λ_ _=>rfl)) aB))) aB))) aB))))))
   (aH (bw (QW.pt (jO (ae (pw (K:=K) rfl (AE hr)) (bJ (fW (K:=K) rfl) (aY 0) aE (λ_ _=>rfl)) (aY 4) (by with_unfolding_all rfl)) (kH (ae (pw (K:=K) rfl (AE hr)) (bJ (fW (K:=K) rfl) (aY 0) aE (λ_ _=>rfl)) (aY 4) (by with_unfolding_all rfl)))))
   (aM (aa ci))
   bF)
   (aM (aa (zX ke ke ke (bJ (fW (K:=K) rfl) (bJ (fW (K:=K) rfl) (aY 0) aE (λ_ _=>rfl)) aE (λ_ _=>rfl)) (bJ (fW (K:=K) rfl) (bJ (fW (K:=K) rfl) (aY 0) aE (λ_ _=>rfl)) aE (λ_ _=>rfl)) (bJ (fW (K:=K) rfl) (bJ (fW (K:=K) rfl) (aY 0) aE (λ_ _=>rfl)) aE (λ_ _=>rfl)) (bJ (fW (K:=K) rfl) (bJ (fW (K:=K) rfl) (aY 0) aE (λ_ _=>rfl)) aE (λ_ _=>rfl))))))))))),?_⟩
  obtain⟨a1,c1,h1,h2,h3⟩:=ct;nofun;have one:(1:Nat)<=sizeLine:=by decide
  obtain⟨z1,z2,z3⟩:=Cv cr.z;refine mK (.tup h1 (.cons (.str _) (.cons (.tup h2 (.cons (.int _) (.cons (.int _) .nil))) (.cons (.tup h3 (.cons (.int _) (.cons (.int _) .nil))) .nil)))) ⟨true,rfl,iH (by decide) ?_⟩;refine⟨_,.inr (de.of h1),iH (λz=>z rfl) ⟨_,_,de.of h1,rfl,by decide,λp1 n1=>?_⟩⟩;have s1:=(aP.refl H).new (o:=.tup [V.str (Str.ofString "l"),V.str (Str.ofString "r")]) n1;have g1:bP H p1 (.tup [V.str (Str.ofString "l"),V.str (Str.ofString "r")]) p1=some (.tup [V.str (Str.ofString "l"),V.str (Str.ofString "r")]):=aD;generalize bP H p1 (.tup [V.str (Str.ofString "l"),V.str (Str.ofString "r")])=H1 at s1 g1 ⊢;refine⟨.str (sd u),[.str (Str.ofString "l"),.str (Str.ofString "r")],p1,_,.str _,rfl,.inr (de.of g1),.cons (.str _) (.cons (.str _) .nil),by cases u<;>decide +kernel,by decide +kernel,bU _,false,by cases u<;>decide +kernel,iH (by decide) ?_⟩;refine⟨one,λp0 n0=>?_⟩;have s0:=(aP.refl H1).new (o:=.lst [V.int 0]) n0;have hp0:bP H1 p0 (.lst [V.int 0]) p0=some (.lst [V.int 0]):=aD;generalize bP H1 p0 (.lst [V.int 0])=H0 at s0 hp0 ⊢;have s0:=s1.trans s0;refine⟨_,.inr (de.of (s0 _ _ ho)),λl1 n1=>?_⟩;have s1:=(aP.refl H0).new (o:=.lst (ns.map V.int)) n1;refine uC (s1 _ _ hp0) aD (by simp;lia) λp2 H2 n2 s2 h2'=>?_;have s02:=s0.trans (s1.trans s2);refine⟨_,.inr (de.of (s02 _ _ ho)),one,λp3 n3=>?_⟩;rw[aG];have s3:=(aP.refl H2).new (o:=.lst [V.int ((ns.length:Int)+1)]) n3;refine uC (s3 _ _ h2') aD (by simp;lia) λrd H4 n4 s4 h4=>?_;have s04:=s02.trans (s3.trans s4);have erd:[V.int 0]++ns.map V.int++[V.int ((ns.length:Int)+1)]=(fT ns).map V.int:=by simp[fT]
  rw[erd] at h4;have hrl:(fT ns).length=ns.length+2:=by simp[fT]
  have rdat:∀k:Nat,k<ns.length+2->vI ((fT ns).map V.int) (k:Int)=some (V.int ((fT ns).getD k 0)):=λk hk=>kL (by
   rw[au,aW (by lia),cP,aW (by lia)];rfl)
  clear s0 s1 s2 s3 s4 s02 h2' hp0 n0 n1 n2 n3;refine⟨bU _,λbl nb=>?_⟩;have s5:=(aP.refl H4).new (o:=.lst []) nb;have hb5:bP H4 bl (.lst []) bl=some (.lst []):=aD;have s05:=s04.trans s5;have h45:=s5 _ _ h4;have nb0:=s04.free nb;generalize bP H4 bl (.lst [])=H5 at s5 hb5 s05 h45 ⊢;have k5:=s05 _ _ h1;refine⟨_,_,de.of k5,rfl,?_⟩;have two:(2:Nat)<=sizeLine:=by decide
  obtain⟨t0,ht0,ei⟩:∃t0:Nat,(t0=0/\u=b\/t0=1/\u=!b)/\(if (!decide (sd u=sd b))=true then (1:Int) else 0)=t0:=by
   by_cases z:u=b
   ·exact⟨0,.inl ⟨rfl,z⟩,by rw[z,W8 rfl];rfl⟩
   ·exact⟨1,.inr ⟨rfl,by cases u<;>cases b<;>first | rfl | exact absurd rfl z⟩,by rw[W7 λe=>z (Kb e)];rfl⟩
  have ht1:t0<=1:=by lia
  rw[L2.JT];refine .inr ⟨_,rfl,rd,_,rfl,.inl (c6.of h45),_,_,rfl,?_⟩;rw[ei,aG,hrl];generalize hnn:(ns.length+2-t0) / 2=nn;refine⟨⟨by lia,by lia,by lia,by lia⟩,?_⟩;have en:((((ns.length+2:Nat):Int) - 1-(t0:Int)+1) / 2).toNat=nn:=by lia
  rw[en];refine AI (λj σ H'=>∃(x5:Option V),σ=[some (.ref t),some (.str (sd b)),some (.ref o),some (.ref rd),some (.ref bl),x5]/\aP H4 H'/\gW H' bl (u5 (fT ns) t0 j)) ⟨_,rfl,s5,⟨[],hb5,.nil⟩⟩ ?_ ?_
  ·rintro j σ H7 hj ⟨x5,rfl,s7,as,hbw,prs⟩;have h7:=s7 _ _ h4;have hal:as.length=(u5 (fT ns) t0 j).length:=eQ prs;have hbl:(u5 (fT ns) t0 j).length=j:=by simp[u5]
   have k1:(t0:Int)+(j:Int)*2=((t0+j*2:Nat):Int):=by lia
   have k2:((t0+j*2:Nat):Int)+1=((t0+j*2+1:Nat):Int):=by lia
   have r1:=rdat (t0+j*2) (by lia);have r2:=rdat (t0+j*2+1) (by lia);obtain⟨xc,xd,hx0⟩:=hx;have hx7:∃C dO,H7 a=some (lG dO C a):=⟨xc,xd,s7 _ _ (s04 _ _ hx0)⟩
   nofun;rw[k1,k2];refine⟨u7 hbw,_,_,c6.of h7,r1,_,_,c6.of h7,r2,hx7,_,_,rfl,_,_,c6.of h7,r1,_,_,c6.of h7,r2,hx7,_,_,rfl,two,λt nt=>?_⟩;have ntb:bl≠t:=bD hbw nt;refine⟨as.map V.ref,by rw[aS ntb];exact hbw,cB (by rw[aG];lia),_,rfl,(s7.trans ((aP.refl _).new nt)).new nb,?_⟩;have ebw:u5 (fT ns) t0 (j+1)=u5 (fT ns) t0 j++[MR (fT ns) (t0+j*2)]:=by
    unfold u5;rw[gA,aR];rfl
   have em:MR (fT ns) (t0+j*2)=((if (fT ns).getD (t0+j*2+1) 0<(fT ns).getD (t0+j*2) 0 then (fT ns).getD (t0+j*2+1) 0 else (fT ns).getD (t0+j*2) 0),(if (fT ns).getD (t0+j*2+1) 0 > (fT ns).getD (t0+j*2) 0 then (fT ns).getD (t0+j*2+1) 0 else (fT ns).getD (t0+j*2) 0)):=by
    unfold MR;generalize (fT ns).getD (t0+j*2) 0=u;generalize (fT ns).getD (t0+j*2+1) 0=v;have e1:min u v=if v<u then v else u:=by rw[oS];split<;>split<;>lia
    have e2:max u v=if v > u then v else u:=by rw[oT];split<;>split<;>lia
    rw[e1,e2]
   rw[ebw,em];exact DI hbw prs nt
  ·rintro σ H7 ⟨x5,rfl,s7,hbw⟩;nofun;rw[<-hnn] at hbw;have s07:=s04.trans s7;obtain⟨xc,xd,hx0⟩:=hx;have k2:=s07 _ _ h1;have ta:=ff.same s07 h2;have tc:=ff.same s07 h3;refine⟨⟨xc,xd,s07 _ _ hx0⟩,_,_,de.of k2,rfl,B1 ta hbw ?_⟩;rw[W5 rfl,W8 ((sE ht0).mpr cr.hp)];refine⟨_,rfl,iH (by decide) ⟨_,_,de.of k2,rfl,B1 tc hbw ?_⟩⟩;rw[W5 rfl,W8 ((sE ht0).mpr cr.hq)];refine⟨_,rfl,iH (by decide) ⟨_,_,de.of k2,rfl,a1,_,0,_,rfl,rfl,de.of ta,rfl,_,_,de.of k2,rfl,c1,_,0,_,rfl,rfl,de.of tc,rfl,?_⟩⟩;nofun;refine lw z1 ⟨_,_,de.of k2,rfl,a1,_,1,_,rfl,rfl,de.of ta,rfl,?_⟩;nofun;refine lw z2 ⟨_,_,de.of k2,rfl,c1,_,1,_,rfl,rfl,de.of tc,rfl,?_⟩;nofun;rw[W8 z3];exact q _ s07
def FY {P7 P6 Pa P5 P8:Addr} (B:qL mg) (Ps:mg "RingError"=some (.ref P8)) (RJ:mg "NoMaze"=some (.ref P7)) (Rr:mg "Crossed"=some (.ref P6)) (XMM:PySem.W.exmOne K (.ref P7) (.ref P8)=some true) (XMC:PySem.W.exmOne K (.ref P6) (.ref P8)=some true) (KM:wW K P7) (KC:yk K P6) (IA:DK K P6 "bows")
  (JM:DJ K P7 [P7,P6,Pa,P5] 0) (JC:DJ K P6 [P7,P6,Pa,P5] 1)
  (E:Fn K mg "_law_asked" oi ["_law_maze"]) (Pk:lm P w K mg base 20 "number_of" gh ["maze"] (zG P7 P6)) (Qw:Ga P w K mg base 1 "_law_is_crossing" gO ["_law_found","_law_side","_law_order"] Av):eG P w K mg base 21 "_law_asked" oi ["_law_maze"] J3:=E.mk' λf fd F=>by
 refine F.okS xL (λvs H Q E h=>?_) (λcdv A outer s H vs Q E hr h=>?_)
 ·obtain⟨x,d,rfl,_⟩:=h;rfl
 ·obtain⟨x,d,rfl,hd,pl,h⟩:=h;have three:(3:Nat)<=sizeLine:=by decide
  refine⟨[some x,none],_,rfl,(L2.ij.h (aH (xP rfl rfl (BP Pk (hr.mono (by decide)) (by rfl) (aC (aY 0) aB)) (J7 (i:=1) rfl (by rfl) Ps xL.nd rfl rfl (λa=>(aH (bw (QW.pt (mi (eI (a8 (iW (K:=K) rfl) (by rfl) B.isinstance ac (aC (aY 1) (aC (mE (by rfl) Rr) aB)))) (ka (fq (eI (zY (a:=a) Qw (mQ.of (hr.mono (by decide))) (by rfl) (uQ (Ek (aY 1)) (ak (bJ (fW (K:=K) rfl) (aY 0) aE (λ_ _=>rfl)) (ak (bJ (fW (K:=K) rfl) (aY 0) aE (λ_ _=>rfl)) aB)))))))))
    (aM (aa (bf (aJ ar aB))))
    bF)
    (aM (aa (bf (cF (a8 (iW (K:=K) rfl) (by rfl) B.isinstance ac (aC (aY 1) (aC (mE (by rfl) RJ) aB))) (cF (a8 (iW (K:=K) rfl) (by rfl) B.isinstance ac (aC (aY 1) (aC (mE (by rfl) Rr) aB))) (cF (a8 (iW (K:=K) rfl) (by rfl) B.isinstance ac (aC (aY 1) (aC (iL (v:=.ty "ValueError") (by rfl) B.ValueError L2.nQ rfl) aB))) aB)))))))) Em))
   (aM (aa (bf aB))))),?_⟩
  nofun;refine⟨x,d,rfl,hd,pl,?_⟩;rcases h with ⟨bad,q⟩ | ⟨m,o,b,ns,rfl,hm,rfl,O,nn,q⟩
  ·refine .inl ⟨bad,λH1 s1=>⟨P7,rfl,.inl ⟨XMM,λa na=>?_⟩⟩⟩;have hx:ExcAt K (bP H1 a (yN P7 a)) a P7:=.bare aD KM;have s2:=s1.trans ((aP.refl H1).new (o:=yN P7 a) na);refine uU hx (JM.kit 1 _ rfl) ⟨_,rfl,iH (by decide) (uU hx (JM.kit 0 _ rfl) (uU hx (JM.kit 1 _ rfl) (BZ hx JM.val ⟨three,λp np=>?_⟩)))⟩;exact q _ _ (s2.trans ((aP.refl _).new np)) (.lst aD (.cons (.bl _) (.cons (.bl _) (.cons (.bl _) .nil))))
  ·refine .inr ⟨m,o,b,ns,rfl,hm,rfl,O,.inr ⟨nn,λu p hp q' hq z t dx H1 s1 ct hdx=>⟨P6,rfl,.inl ⟨XMC,λa na=>?_⟩⟩⟩⟩;have sx:=(aP.refl H1).new (o:=lG (some dx) P6 a) na;have ea:bP H1 a (lG (some dx) P6 a) a=some (lG (some dx) P6 a):=aD;have hdx:=sx _ _ hdx;have s2:=s1.trans sx;have ct:=ct.same sx;generalize bP H1 a (lG (some dx) P6 a)=H2 at sx ea hdx s2 ct ⊢;have hx:ExcAt K H2 a P6:=.dict ea hdx KC;have hm3:=hm.same s2;refine uU hx (JC.kit 1 _ rfl) ⟨_,rfl,lw rfl ?_⟩;refine⟨a,P6,dx,_,rfl,ea,hdx,IA,?_⟩;refine⟨m,_,0,_,rfl,rfl,de.of hm3.1,rfl,m,_,1,_,rfl,rfl,de.of hm3.1,rfl,t,o,b,ns,u,_,_,rfl,hm3.2,O,ct,⟨hp,hq,z⟩,⟨P6,some dx,ea⟩,λH4 s4=>⟨_,rfl,iH (by decide) ?_⟩⟩;have hx4:=hx.same s4;refine uU hx4 (JC.kit 0 _ rfl) (uU hx4 (JC.kit 1 _ rfl) (BZ hx4 JC.val ⟨three,λp np=>?_⟩));exact q _ _ (s2.trans (s4.trans ((aP.refl _).new np))) (.lst aD (.cons (.bl _) (.cons (.bl _) (.cons (.bl _) .nil))))
def uR (B:qL mg) (E:Fn K mg "_law_unnumbered" gw ["_law_cell","_law_side"]) (Sg:eG P w K mg base 21 "_law_asked" oi ["_law_maze"] J3):eG P w K mg base 22 "_law_unnumbered" gw ["_law_cell","_law_side"] J1:=E.mk' λf fd F=>by
 refine F.okS gJ (λvs H Q E h=>?_) (λcdv A outer s H vs Q E hr h=>?_)
 ·obtain⟨c,b,rfl,_⟩:=h;rfl
 ·obtain⟨c,b,rfl,q⟩:=h;have one:(1:Nat)<=sizeLine:=by decide
  have two:(2:Nat)<=sizeLine:=by decide
  have three:(3:Nat)<=sizeLine:=by decide
  refine⟨[some (.int c),some (.str (sd b)),none,none,none,none],_,rfl,(L2.ij.h (cE (a6 (i:=2) gJ.nd rfl (Or.inl rfl) (a7 fZ (a7 gX (aY 0) aE) (a7 tD aE aE)))
   (cE (a6 (i:=3) gJ.nd rfl (Or.inl rfl) (bf (cj (cL (aC (aY 1) (cj (cL (aJ aE (aJ aE aB))) aB))) (cj (cL (aC (aY 1) (cj (cL (aJ aE aB)) aB))) (cj (cL (aJ ar (cj (cL (aJ aE aB)) aB))) (cj (cL (aC (aY 1) (je (bf (aJ aE aB)) aB))) (aJ du (cj (cL (aC (aY 1) aB)) (cj (cL (aC (aY 1) (cj (cL (aJ aE (aJ ci aB))) aB))) aB)))))))))
   (cE (iJ (l4 dM dj di mH (aY 3) (cj (cL (aC (aY 1) (cj (cL (bu (a7 fS aE (aY 2)) (aJ aE aB))) aB))) aB)))
   (cE (bw (ae (vp (oJ hr)) (aU Sg (hr.mono (by decide)) (by rfl) (ak (bJ dH (aY 3) (a7 fZ (aY 0) aE) (λ_ _=>rfl)) aB)) (bf (aJ ci (aJ ci (aJ ci aB)))) (bK _))
   (aM (aa ci))
   bF)
   (cE (a6 (i:=4) gJ.nd rfl (Or.inl rfl) (a7 fZ (a7 gX (aY 0) aE) aE))
   (cE (a6 (i:=5) gJ.nd rfl (Or.inl rfl) (a7 jR (bf (aJ aE (aJ aE (aJ aE aB)))) (dX (pV rfl) (by rfl) B.list eO (qa (dX vB (by rfl) B.range mR (aJ aE (bu (a7 fS aE (aY 4)) aB))) aB))))
   (cE (bw (ae f6 (a7 fZ (a7 gX (aY 0) aE) aE) aE (bK _))
   (aM (xQ (i:=5) gJ.nd rfl (Or.inl rfl) (own:=["_law_ring"]) (ns:=[]) (caps:=[]) rfl ⟨rfl,by decide +kernel,by decide +kernel,by decide +kernel⟩ .nil (iK (a7 jR (bf (aJ aE aB)) (aY 5))) (λC s H fp pn=>(bp (i:=0) (show List.Nodup ((["_law_ring"]:List Str)++([]:List Str)) by decide +kernel) rfl (Or.inl rfl))) (λC s H fp pn=>kI) (λC s H fp pn=>(a7 fS aE (aY 0)))))
   bF)
   (aM (aa (eh (ze (oJ hr)) (aU Sg (hr.mono (by decide)) (by rfl) (cj (cL (aC (aY 1) (cF (dX l8 (by rfl) B.tuple dN (aC (aY 5) aB)) aB))) aB)) (bf (aJ ci (aJ ci (aJ ci aB)))) (bK _)))))))))))),?_⟩
  refine bb (λσ H'=>∃f:Int,0<=f/\σ=[some (.int c),some (.str (sd b)),some (.int f),none,none,none]/\H=H') ?_ ?_
  ·nofun;refine⟨⟨by decide,by decide⟩,⟨by decide,by decide,by decide⟩,by decide,_,cY _ (by decide),rfl,trivial⟩
  rintro σ H' ⟨f,hf,rfl,rfl⟩;refine bb (λσ H'=>∃l xs Hb,σ=[some (.int c),some (.str (sd b)),some (.int f),some (.ref l),none,none]/\aP H Hb/\Hb l=none/\aP Hb H'/\H' l=some (.lst xs)/\xs.length=7/\gI Hb xs ((MP b f).take 7)) ?_ ?_
  ·nofun;refine⟨two,λp1 n1=>⟨two,λp2 n2=>?_⟩⟩;have t1:=(aP.refl H).new (o:=.tup [V.int 1,V.int 1]) n1;have t2:=(aP.refl _).new (o:=.tup [V.str (sd b),.ref p1]) n2;have d1:Dat (bP (bP H p1 (.tup [V.int 1,V.int 1])) p2 (.tup [V.str (sd b),.ref p1])) (.ref p2) (.tuple [.str (sd b),tI [1,1]]):=.tup aD (.cons (.str _) (.cons (.tup (t2 _ _ aD) (gj [1,1])) .nil));have s2:=t1.trans t2;generalize bP (bP H p1 (.tup [V.int 1,V.int 1])) p2 (.tup [V.str (sd b),.ref p1])=H2 at d1 s2 ⊢;clear t1 t2 n1 n2;refine⟨one,λp3 n3=>⟨two,λp4 n4=>?_⟩⟩;have t3:=(aP.refl H2).new (o:=.tup [V.int 2]) n3;have t4:=(aP.refl _).new (o:=.tup [V.str (sd b),.ref p3]) n4;have d2:Dat (bP (bP H2 p3 (.tup [V.int 2])) p4 (.tup [V.str (sd b),.ref p3])) (.ref p4) (.tuple [.str (sd b),tI [2]]):=.tup aD (.cons (.str _) (.cons (.tup (t4 _ _ aD) (gj [2])) .nil));have s24:=t3.trans t4;generalize bP (bP H2 p3 (.tup [V.int 2])) p4 (.tup [V.str (sd b),.ref p3])=H4 at d2 s24 ⊢;have s4:=s2.trans s24;have d1:=d1.same s24;clear t3 t4 n3 n4 s2 s24;refine⟨one,λp5 n5=>⟨two,λp6 n6=>?_⟩⟩;have t5:=(aP.refl H4).new (o:=.tup [V.int 1]) n5;have t6:=(aP.refl _).new (o:=.tup [V.str (Str.ofString "q"),.ref p5]) n6;have d3:Dat (bP (bP H4 p5 (.tup [V.int 1])) p6 (.tup [V.str (Str.ofString "q"),.ref p5])) (.ref p6) (.tuple [.str (Str.ofString "q"),tI [1]]):=.tup aD (.cons (.str _) (.cons (.tup (t6 _ _ aD) (gj [1])) .nil));have s46:=t5.trans t6;generalize bP (bP H4 p5 (.tup [V.int 1])) p6 (.tup [V.str (Str.ofString "q"),.ref p5])=H6 at d3 s46 ⊢;have s6:=s4.trans s46;have d1:=d1.same s46;have d2:=d2.same s46;clear t5 t6 n5 n6 s4 s46;refine⟨one,λp7 n7=>⟨two,λp8 n8=>?_⟩⟩;have t7:=(aP.refl H6).new (o:=.lst [V.int 1]) n7;have t8:=(aP.refl _).new (o:=.tup [V.str (sd b),.ref p7]) n8;have d4:Dat (bP (bP H6 p7 (.lst [V.int 1])) p8 (.tup [V.str (sd b),.ref p7])) (.ref p8) (.tuple [.str (sd b),.list [.int 1]]):=.tup aD (.cons (.str _) (.cons (.lst (t8 _ _ aD) (gj [1])) .nil));have s68:=t7.trans t8;generalize bP (bP H6 p7 (.lst [V.int 1])) p8 (.tup [V.str (sd b),.ref p7])=H8 at d4 s68 ⊢;have s8:=s6.trans s68;have d1:=d1.same s68;have d2:=d2.same s68;have d3:=d3.same s68;clear t7 t8 n7 n8 s6 s68;refine⟨one,λp9 n9=>⟨two,λpa na=>⟨two,λpb nb=>?_⟩⟩⟩;have t9:=(aP.refl H8).new (o:=.tup [V.str (sd b)]) n9;have d6:Dat (bP H8 p9 (.tup [V.str (sd b)])) (.ref p9) (.tuple [.str (sd b)]):=.tup aD (.cons (.str _) .nil);have ta:=(aP.refl _).new (o:=.tup [V.int 1,V.bl true]) na;have tb:=(aP.refl _).new (o:=.tup [V.str (sd b),.ref pa]) nb;have d7:Dat (bP (bP (bP H8 p9 (.tup [V.str (sd b)])) pa (.tup [V.int 1,V.bl true])) pb (.tup [V.str (sd b),.ref pa])) (.ref pb) (.tuple [.str (sd b),.tuple [.int 1,.bool true]]):=.tup aD (.cons (.str _) (.cons (.tup (tb _ _ aD) (.cons (.int _) (.cons (.bl _) .nil))) .nil));have d6:=d6.same (ta.trans tb);have s8b:=t9.trans (ta.trans tb);generalize bP (bP (bP H8 p9 (.tup [V.str (sd b)])) pa (.tup [V.int 1,V.bl true])) pb (.tup [V.str (sd b),.ref pa])=Hb at d7 d6 s8b ⊢;have sb:=s8.trans s8b;clear t9 ta tb n9 na nb s8;refine⟨(by show 7<=sizeLine;decide),λpc nc=>?_⟩;have tc:=(aP.refl Hb).new (o:=.lst [V.ref p2,.ref p4,.ref p6,.ref p8,.non,.ref p9,.ref pb]) nc;exact⟨pc,_,Hb,rfl,sb,nc,tc,aD,rfl,.cons (d1.same s8b) (.cons (d2.same s8b) (.cons (d3.same s8b) (.cons (d4.same s8b) (.cons .non (.cons d6 (.cons d7 .nil))))))⟩
  rintro σ H1 ⟨l,xs,Hb,rfl,s0,nl,s1,hl,xl,hL⟩;refine bb (λσ H'=>σ=[some (.int c),some (.str (sd b)),some (.int f),some (.ref l),none,none]/\aP H H'/\∃xs,H' l=some (.lst xs)/\gI H' xs (MP b f)) ?_ ?_
  ·nofun;refine⟨.inl ⟨rfl,_,c6.of hl⟩,two,λp1 n1=>⟨two,λp2 n2=>?_⟩⟩;have t1:=(aP.refl H1).new (o:=.tup [V.int (3+f),V.int 1]) n1;have t2:=(aP.refl _).new (o:=.tup [V.str (sd b),.ref p1]) n2;have t12:=t1.trans t2;have e1:=t2 _ _ (aD (H:=H1) (a:=p1) (o:=.tup [V.int (3+f),V.int 1]));have e2:bP (bP H1 p1 (.tup [V.int (3+f),V.int 1])) p2 (.tup [V.str (sd b),.ref p1]) p2=some (.tup [V.str (sd b),.ref p1]):=aD;generalize bP (bP H1 p1 (.tup [V.int (3+f),V.int 1])) p2 (.tup [V.str (sd b),.ref p1])=H2 at t12 e1 e2 ⊢;have l2:=t12 _ _ hl;have ne1:p1≠l:=λe=>by rw[e,l2] at e1;cases e1
   have ne2:p2≠l:=λe=>by rw[e,l2] at e2;cases e2
   have sb:=(s1.trans t12).new (o:=.lst (xs++[V.ref p2])) nl;refine⟨xs,l2,lx (by lia),trivial,s0.trans sb,_,aD,yY (hL.same sb) (.cons (.tup (by rw[aS ne2];exact e2) (.cons (.str _) (.cons (.tup (by rw[aS ne1];exact e1) (gj [3+f,1])) .nil))) .nil)⟩
  rintro σ H2 ⟨rfl,s2,xs2,hl2,hL2⟩;refine bb (λσ H'=>σ=[some (.int c),some (.str (sd b)),some (.int f),some (.ref l),none,none]/\aP H2 H') ?_ ?_
  ·nofun;obtain⟨v,d,hv,hd,hD⟩:=qj (i:=c % 8) hL2 (cY _ (by decide)) (by show c % 8<8;exact cV _ (by decide));refine⟨by decide,_,_,c6.of hl2,hv,v,d,rfl,hD,LW d hd,.inl ⟨II hf d hd,λw H3 s3 hw=>⟨three,λp np=>?_⟩⟩⟩;have s4:=(aP.refl H3).new (o:=.lst [V.bl true,V.bl false,V.bl true]) np;exact qi (hw.same s4) (.lst aD (.cons (.bl _) (.cons (.bl _) (.cons (.bl _) .nil)))) (qQ _ _ _) (oB _ _ _) ⟨_,rfl,iH (by decide) ⟨trivial,s3.trans s4⟩⟩
  rintro σ H3 ⟨rfl,s3⟩;refine bb (λσ H'=>∃r:Nat,r<6/\σ=[some (.int c),some (.str (sd b)),some (.int f),some (.ref l),some (.int (r:Nat)),none]/\H3=H') ?_ ?_
  ·nofun;have m0:0<=c / 8 % 6:=cY _ (by decide);have m1:c / 8 % 6<6:=cV _ (by decide);obtain⟨r,hr⟩:=dw m0;rw[hr] at m1 ⊢;exact⟨⟨by decide,by decide⟩,by decide,r,by lia,rfl,trivial⟩
  rintro σ H' ⟨r,hr,rfl,rfl⟩;refine bb (λσ H'=>∃o,σ=[some (.int c),some (.str (sd b)),some (.int f),some (.ref l),some (.int (r:Nat)),some (.ref o)]/\aP H3 H'/\H' o=some (.lst ((wL r).map V.int))) ?_ ?_
  ·nofun;refine⟨three,λp1 n1 p2 n2=>⟨_,_,aD,⟨by decide,by decide,by lia,by lia,by lia⟩,λp3 n3=>?_⟩⟩;have t1:=(aP.refl H3).new (o:=.lst [V.int 2,V.int 1,V.int 3]) n1;have t2:=(aP.refl _).new (o:=.rng 4 (4+(r:Int))) n2;have er:(4+(r:Int) - 4).toNat=r:=by lia
   rw[er];have t3:=(aP.refl _).new (o:=.lst ((fU 4 r).map V.int)) n3;exact uC ((t2.trans t3) _ _ aD) aD (by simp[fU];lia) λp4 H4 _ s4 h4=>⟨p4,rfl,t1.trans (t2.trans (t3.trans s4)),by rw[h4];simp[wL]⟩
  rintro σ H4 ⟨o,rfl,s4,ho⟩;refine bb (λσ H'=>∃o os,σ=[some (.int c),some (.str (sd b)),some (.int f),some (.ref l),some (.int (r:Nat)),some (.ref o)]/\aP H4 H'/\H' o=some (.lst (os.map V.int))/\oQ os/\y6 os=true) ?_ ?_
  ·nofun;obtain⟨O1,c1⟩:=Ir r hr;obtain⟨O2,c2⟩:=GS r hr;refine⟨⟨by decide,by decide⟩,by decide,iz (λ_=>⟨one,λp1 n1=>?_⟩) (λ_=>⟨o,_,rfl,aP.refl _,ho,O1,c1⟩)⟩;have t1:=(aP.refl H4).new (o:=.lst [V.int 0]) n1;have lc:(wL r).length=3+r:=by simp[wL,fU];lia
   refine uC aD (t1 _ _ ho) (by simp[lc];lia) λp2 H5 _ t2 h2=>⟨p2,rfl,⟨_,c6.of h2⟩,rK (c6.of h2) (lx (by simp[lc];lia)) (((0::wL r).map (1+·)).map V.int) (by simp) (λi x y Q' hx hy hq=>?_) λp3 n3=>⟨p3,_,rfl,t1.trans (t2.trans ((aP.refl _).new n3)),aD,O2,c2⟩⟩
   have ex:[V.int 0]++(wL r).map V.int=(0::wL r).map V.int:=rfl;rw[ex] at hx;obtain⟨z,hz,rfl⟩:=pF hx;rw[cA] at hy;obtain⟨z2,hz2,rfl⟩:=pF hy;rw[hz] at hz2;cases hz2;nofun;exact hq
  rintro σ H5 ⟨o5,os,rfl,s5,ho5,O,cr⟩;nofun;refine⟨_,.inl ⟨c6.of ho5,λp1 n1=>⟨two,λp2 n2=>?_⟩⟩⟩;have t1:=(aP.refl H5).new (o:=.tup (os.map V.int)) n1;have t2:=(aP.refl _).new (o:=.tup [V.str (sd b),.ref p1]) n2;have hm:fE _ p2 p1 b os:=⟨aD,t2 _ _ aD⟩
  refine⟨_,_,rfl,hm.dat,wA,.inr ⟨p2,p1,b,os,rfl,hm,rfl,O,Lq cr,λw H6 s6 hw=>⟨three,λp np=>?_⟩⟩⟩;have s7:=(aP.refl H6).new (o:=.lst [V.bl false,V.bl true,V.bl true]) np;exact qi (hw.same s7) (.lst aD (.cons (.bl _) (.cons (.bl _) (.cons (.bl _) .nil)))) (qQ _ _ _) (oB _ _ _) (q _ (s2.trans (s3.trans (s4.trans (s5.trans (t1.trans (t2.trans (s6.trans s7))))))))
def FT {P7 P6 Pa P5 P8:Addr} (B:qL mg) (Ps:mg "RingError"=some (.ref P8)) (RJ:mg "NoMaze"=some (.ref P7)) (SB:mg "NoNumber"=some (.ref P5)) (XMM:PySem.W.exmOne K (.ref P7) (.ref P8)=some true) (XMN:PySem.W.exmOne K (.ref P5) (.ref P8)=some true) (KM:wW K P7) (KN:wW K P5)
  (JM:DJ K P7 [P7,P6,Pa,P5] 0) (JN:DJ K P5 [P7,P6,Pa,P5] 3)
  (E:Fn K mg "_law_kinds" o9 ["_law_side","_law_n","_law_number"]) (QQ:lm P w K mg base 21 "numbered" iS ["side","n","number"] (EU P7 P5)):eG P w K mg base 22 "_law_kinds" o9 ["_law_side","_law_n","_law_number"] J2:=E.mk' λf fd F=>by
 refine F.okS xG (λvs H Q E h=>?_) (λcdv A outer s H vs Q E hr h=>?_)
 ·obtain⟨x1,x2,x3,d1,d2,d3,rfl,_⟩:=h;rfl
 ·obtain⟨x1,x2,x3,d1,d2,d3,rfl,h1,p1,h2,h3,h⟩:=h;have three:(3:Nat)<=sizeLine:=by decide
  refine⟨[some x1,some x2,some x3,none],_,rfl,(L2.ij.h (aH (xP rfl rfl (BP QQ (hr.mono (by decide)) (by rfl) (aC (aY 0) (aC (aY 1) (aC (aY 2) aB)))) (J7 (i:=3) rfl (by rfl) Ps xG.nd rfl rfl (λa=>(aM (aa (bf (cF (a8 (iW (K:=K) rfl) (by rfl) B.isinstance ac (aC (aY 3) (aC (mE (by rfl) RJ) aB))) (cF (a8 (iW (K:=K) rfl) (by rfl) B.isinstance ac (aC (aY 3) (aC (mE (by rfl) SB) aB))) (cF (a8 (iW (K:=K) rfl) (by rfl) B.isinstance ac (aC (aY 3) (aC (iL (v:=.ty "ValueError") (by rfl) B.ValueError L2.nQ rfl) aB))) aB))))))) Em))
   (aM (aa (bf aB))))),?_⟩
  nofun;refine⟨x1,x2,x3,d1,d2,d3,rfl,h1,p1,h2,h3,?_⟩;rcases h with ⟨bad,q⟩ | ⟨b,rfl,q,h⟩
  ·refine .inl ⟨bad,λH1 s1=>⟨P7,rfl,.inl ⟨XMM,λa na=>?_⟩⟩⟩;have hx:ExcAt K (bP H1 a (yN P7 a)) a P7:=.bare aD KM;have s2:=s1.trans ((aP.refl H1).new (o:=yN P7 a) na);refine uU hx (JM.kit 0 _ rfl) (uU hx (JM.kit 3 _ rfl) (BZ hx JM.val ⟨three,λp np=>?_⟩));exact q _ _ (s2.trans ((aP.refl _).new np)) (.lst aD (.cons (.bl _) (.cons (.bl _) (.cons (.bl _) .nil))))
  ·have key:∀H1,aP H H1->∀a,H1 a=none->sq K [V.ref a,V.ref P7] (bP H1 a (yN P5 a)) λx H1=>sq K [V.ref a,V.ref P5] H1 λy H1=>sq K [V.ref a,V.ty "ValueError"] H1 λz H1=>[x,y,z].length<=sizeLine/\∀p,H1 p=none->Q (.ref p) (bP H1 p (.lst [x,y,z])):=λH1 s1 a na=>by
    have hx:ExcAt K (bP H1 a (yN P5 a)) a P5:=.bare aD KN;have s2:=s1.trans ((aP.refl H1).new (o:=yN P5 a) na);refine uU hx (JN.kit 0 _ rfl) (uU hx (JN.kit 3 _ rfl) (BZ hx JN.val ⟨three,λp np=>?_⟩));exact q _ _ (s2.trans ((aP.refl _).new np)) (.lst aD (.cons (.bl _) (.cons (.bl _) (.cons (.bl _) .nil))))
   refine .inr ⟨b,rfl,?_⟩;rcases h with h | ⟨n,rfl,hn,h⟩
   ·exact .inl ⟨h,λH1 s1=>⟨P5,rfl,.inl ⟨XMN,λa na=>key H1 s1 a na⟩⟩⟩
   ·exact .inr ⟨n,rfl,hn,.inl ⟨h,λH1 s1=>⟨P5,rfl,.inl ⟨XMN,λa na=>key H1 s1 a na⟩⟩⟩⟩
def zh (B:qL mg) (E:Fn K mg "_law_refused" kR ["_law_cell","_law_side","_law_n","_law_many"]) (SN:eG P w K mg base 22 "_law_kinds" o9 ["_law_side","_law_n","_law_number"] J2):eG P w K mg base 23 "_law_refused" kR ["_law_cell","_law_side","_law_n","_law_many"] ET:=E.mk' λf fd F=>by
 refine F.okS k6 (λvs H Q E h=>?_) (λcdv A outer s H vs Q E hr h=>?_)
 ·obtain⟨c,b,n,rfl,_⟩:=h;rfl
 ·obtain⟨c,b,n,rfl,hn,q⟩:=h;generalize hmy:dG n (bL b) (bR b)=my;have one:(1:Nat)<=sizeLine:=by decide
  have two:(2:Nat)<=sizeLine:=by decide
  have three:(3:Nat)<=sizeLine:=by decide
  have sv:(7:Nat)<=sizeLine:=by decide
  refine⟨[some (.int c),some (.str (sd b)),some (.int (n:Nat)),some (.int (my:Nat)),none,none,none,none],_,rfl,(L2.ij.h (cE (a6 (i:=4) k6.nd rfl (Or.inl rfl) (a7 fZ (a7 gX (aY 0) aE) (a7 tD aE aE)))
   (cE (a6 (i:=5) k6.nd rfl (Or.inl rfl) (bJ dH (bf (aC (aY 3) (bu (a7 fS (aY 3) (aY 4)) (bu (a7 iV (fR fO aE) (aY 4)) (aJ ci (aJ ar (aJ du (je (bf (aJ aE aB)) (cj (cL (aJ aE aB)) aB))))))))) (a7 fZ (aY 0) aE) (λ_ _=>rfl)))
   (cE (bw (ae (vp (oJ hr)) (aU SN (hr.mono (by decide)) (by rfl) (aC (aY 1) (aC (aY 2) (aC (aY 5) aB)))) (bf (aJ ci (aJ ci (aJ ci aB)))) (bK _))
   (aM (aa ci))
   bF)
   (cE (a6 (i:=6) k6.nd rfl (Or.inl rfl) (bJ dH (bf (bu (a7 iV (fR fO aE) (aY 4)) (bu (a7 fS aE (aY 4)) (aJ ci (aJ ar (aJ du (je (bf (aJ aE aB)) (cj (cL (aJ aE aB)) aB)))))))) (a7 fZ (aY 0) aE) (λ_ _=>rfl)))
   (cE (bw (ae (vp (oJ hr)) (aU SN (hr.mono (by decide)) (by rfl) (aC (aY 1) (aC (aY 6) (aJ aE aB)))) (bf (aJ ci (aJ ci (aJ ci aB)))) (bK _))
   (aM (aa ci))
   bF)
   (cE (a6 (i:=7) k6.nd rfl (Or.inl rfl) (bJ dH (bf (aJ ar (aJ ar (aJ du (aJ aE (aJ ar (je (bf (aJ ar aB)) (cj (cL (aJ ar aB)) aB)))))))) (a7 fZ (aY 0) aE) (λ_ _=>rfl)))
   (aM (aa (eh (ze (oJ hr)) (aU SN (hr.mono (by decide)) (by rfl) (aC (aY 7) (ak (bJ dH (bf (aC (aY 2) (aC (aY 6) aB))) (a7 fZ (a7 gX (aY 0) aE) aE) (λ_ _=>rfl)) (aC (aY 5) aB)))) (bf (aJ ci (aJ ci (aJ ci aB)))) (bK _))))))))))),?_⟩
  refine bb (λσ H'=>∃f:Int,0<=f/\σ=[some (.int c),some (.str (sd b)),some (.int (n:Nat)),some (.int (my:Nat)),some (.int f),none,none,none]/\H=H') ?_ ?_
  ·nofun;exact⟨⟨by decide,by decide⟩,⟨by decide,by decide,by decide⟩,by decide,_,cY _ (by decide),rfl,trivial⟩
  rintro σ H' ⟨f,hf,rfl,rfl⟩;refine bb (λσ H'=>∃v d,σ=[some (.int c),some (.str (sd b)),some (.int (n:Nat)),some (.int (my:Nat)),some (.int f),some v,none,none]/\aP H H'/\Dat H' v d/\qH d my=false) ?_ ?_
  ·nofun;refine⟨one,λp1 n1=>⟨one,λp2 n2=>⟨(by show 8<=sizeLine;decide),λp3 n3=>?_⟩⟩⟩;have t1:=(aP.refl H).new (o:=.lst [V.int 0]) n1;have t2:=(aP.refl _).new (o:=.tup [V.int 0]) n2;have t3:=(aP.refl _).new (o:=.lst [V.int (my:Nat),V.int ((my:Nat)+f),V.int (-1-f),V.bl true,V.str (Str.ofString "0"),V.non,V.ref p1,V.ref p2]) n3;have e1:=(t2.trans t3) _ _ aD;have e2:=t3 _ _ aD;have e3:=aD (H:=bP (bP H p1 (.lst [V.int 0])) p2 (.tup [V.int 0])) (a:=p3) (o:=.lst [V.int (my:Nat),V.int ((my:Nat)+f),V.int (-1-f),V.bl true,V.str (Str.ofString "0"),V.non,V.ref p1,V.ref p2]);have t:=t1.trans (t2.trans t3);generalize bP (bP (bP H p1 (.lst [V.int 0])) p2 (.tup [V.int 0])) p3 (.lst [V.int (my:Nat),V.int ((my:Nat)+f),V.int (-1-f),V.bl true,V.str (Str.ofString "0"),V.non,V.ref p1,V.ref p2])=H9 at e1 e2 e3 t ⊢;have hL:gI H9 [V.int (my:Nat),V.int ((my:Nat)+f),V.int (-1-f),V.bl true,V.str (Str.ofString "0"),V.non,V.ref p1,V.ref p2] (O9 my f):=.cons (.int _) (.cons (.int _) (.cons (.int _) (.cons (.bl _) (.cons (.str _) (.cons (.non) (.cons (.lst e1 (gj [0])) (.cons (.tup e2 (gj [0])) .nil)))))));obtain⟨w,d',hw,hd',hD⟩:=qj (i:=c % 8) hL (cY _ (by decide)) (by show c % 8<8;exact cV _ (by decide));exact⟨by decide,_,_,c6.of e3,hw,w,d',rfl,t,hD,IJ hf d' hd'⟩
  rintro σ H1 ⟨v,d,rfl,s1,hv,hd⟩;refine bb (λσ H'=>σ=[some (.int c),some (.str (sd b)),some (.int (n:Nat)),some (.int (my:Nat)),some (.int f),some v,none,none]/\aP H1 H') ?_ ?_
  ·nofun;refine⟨_,_,_,_,_,_,rfl,.str _,xV b,.int _,hv,.inr ⟨b,rfl,λw H3 s3 hw=>⟨three,λp np=>?_⟩,.inr ⟨n,rfl,hn,by rw[hmy];exact hd⟩⟩⟩;have s4:=(aP.refl H3).new (o:=.lst [V.bl false,V.bl true,V.bl true]) np;exact qi (hw.same s4) (.lst aD (.cons (.bl _) (.cons (.bl _) (.cons (.bl _) .nil)))) (qQ _ _ _) (oB _ _ _) ⟨_,rfl,iH (by decide) ⟨trivial,s3.trans s4⟩⟩
  rintro σ H2 ⟨rfl,s2⟩;refine bb (λσ H'=>∃u e,σ=[some (.int c),some (.str (sd b)),some (.int (n:Nat)),some (.int (my:Nat)),some (.int f),some v,some u,none]/\aP H2 H'/\Dat H' u e/\qH e 21=false) ?_ ?_
  ·nofun;refine⟨one,λp1 n1=>⟨one,λp2 n2=>⟨(by show 7<=sizeLine;decide),λp3 n3=>?_⟩⟩⟩;have t1:=(aP.refl H2).new (o:=.lst [V.int 3]) n1;have t2:=(aP.refl _).new (o:=.tup [V.int 3]) n2;have t3:=(aP.refl _).new (o:=.lst [V.int (-1-f),V.int (21+f),V.bl true,V.str (Str.ofString "3"),V.non,V.ref p1,V.ref p2]) n3;have e1:=(t2.trans t3) _ _ aD;have e2:=t3 _ _ aD;have e3:=aD (H:=bP (bP H2 p1 (.lst [V.int 3])) p2 (.tup [V.int 3])) (a:=p3) (o:=.lst [V.int (-1-f),V.int (21+f),V.bl true,V.str (Str.ofString "3"),V.non,V.ref p1,V.ref p2]);have t:=t1.trans (t2.trans t3);generalize bP (bP (bP H2 p1 (.lst [V.int 3])) p2 (.tup [V.int 3])) p3 (.lst [V.int (-1-f),V.int (21+f),V.bl true,V.str (Str.ofString "3"),V.non,V.ref p1,V.ref p2])=H9 at e1 e2 e3 t ⊢;have hL:gI H9 [V.int (-1-f),V.int (21+f),V.bl true,V.str (Str.ofString "3"),V.non,V.ref p1,V.ref p2] (O4 f):=.cons (.int _) (.cons (.int _) (.cons (.bl _) (.cons (.str _) (.cons (.non) (.cons (.lst e1 (gj [3])) (.cons (.tup e2 (gj [3])) .nil))))));obtain⟨w,d',hw,hd',hD⟩:=qj (i:=c % 7) hL (cY _ (by decide)) (by show c % 7<7;exact cV _ (by decide));exact⟨by decide,_,_,c6.of e3,hw,w,d',rfl,t,hD,HJ hf d' hd'⟩
  rintro σ H3 ⟨u,e,rfl,s3,hu,he⟩;refine bb (λσ H'=>σ=[some (.int c),some (.str (sd b)),some (.int (n:Nat)),some (.int (my:Nat)),some (.int f),some v,some u,none]/\aP H3 H') ?_ ?_
  ·nofun;refine⟨_,_,_,_,_,_,rfl,.str _,xV b,hu,.int _,.inr ⟨b,rfl,λw H5 s5 hw=>⟨three,λp np=>?_⟩,.inl he⟩⟩;have s6:=(aP.refl H5).new (o:=.lst [V.bl false,V.bl true,V.bl true]) np;exact qi (hw.same s6) (.lst aD (.cons (.bl _) (.cons (.bl _) (.cons (.bl _) .nil)))) (qQ _ _ _) (oB _ _ _) ⟨_,rfl,iH (by decide) ⟨trivial,s5.trans s6⟩⟩
  rintro σ H4 ⟨rfl,s4⟩;refine bb (λσ H'=>∃z g,σ=[some (.int c),some (.str (sd b)),some (.int (n:Nat)),some (.int (my:Nat)),some (.int f),some v,some u,some z]/\aP H4 H'/\Dat H' z g/\j5 g=false/\Pl g 60) ?_ ?_
  ·nofun;refine⟨one,λp1 n1=>⟨one,λp2 n2=>⟨(by show 7<=sizeLine;decide),λp3 n3=>?_⟩⟩⟩;have t1:=(aP.refl H4).new (o:=.lst [V.str (Str.ofString "l")]) n1;have t2:=(aP.refl _).new (o:=.tup [V.str (Str.ofString "l")]) n2;have t3:=(aP.refl _).new (o:=.lst [V.str (Str.ofString ""),V.str (Str.ofString "L"),V.non,V.int 0,V.str (Str.ofString "lr"),V.ref p1,V.ref p2]) n3;have e1:=(t2.trans t3) _ _ aD;have e2:=t3 _ _ aD;have e3:=aD (H:=bP (bP H4 p1 (.lst [V.str (Str.ofString "l")])) p2 (.tup [V.str (Str.ofString "l")])) (a:=p3) (o:=.lst [V.str (Str.ofString ""),V.str (Str.ofString "L"),V.non,V.int 0,V.str (Str.ofString "lr"),V.ref p1,V.ref p2]);have t:=t1.trans (t2.trans t3);generalize bP (bP (bP H4 p1 (.lst [V.str (Str.ofString "l")])) p2 (.tup [V.str (Str.ofString "l")])) p3 (.lst [V.str (Str.ofString ""),V.str (Str.ofString "L"),V.non,V.int 0,V.str (Str.ofString "lr"),V.ref p1,V.ref p2])=H9 at e1 e2 e3 t ⊢;have hL:gI H9 [V.str (Str.ofString ""),V.str (Str.ofString "L"),V.non,V.int 0,V.str (Str.ofString "lr"),V.ref p1,V.ref p2] (strN):=.cons (.str _) (.cons (.str _) (.cons (.non) (.cons (.int _) (.cons (.str _) (.cons (.lst e1 (.cons (.str _) .nil)) (.cons (.tup e2 (.cons (.str _) .nil)) .nil))))));obtain⟨w,d',hw,hd',hD⟩:=qj (i:=c % 7) hL (cY _ (by decide)) (by show c % 7<7;exact cV _ (by decide));exact⟨by decide,_,_,c6.of e3,hw,w,d',rfl,t,hD,EN d' hd',HE d' hd'⟩
  rintro σ H5 ⟨z,g,rfl,s5,hz,hg,pg⟩;nofun;refine⟨two,λp np=>?_⟩;have s6:=(aP.refl H5).new (o:=.lst [V.int (n:Nat),u]) np;have s25:=s2.trans (s3.trans (s4.trans s5));have hL:gI (bP H5 p (.lst [V.int (n:Nat),u])) [V.int (n:Nat),u] [.int (n:Nat),e]:=.cons (.int _) (.cons ((hu.same (s4.trans s5)).same s6) .nil);obtain⟨w,d',hw,hd',hD⟩:=qj (i:=c / 7 % 2) hL (cY _ (by decide)) (by show c / 7 % 2<2;exact cV _ (by decide));refine⟨⟨by decide,by decide⟩,by decide,_,_,c6.of aD,hw,_,_,_,_,_,_,rfl,hz.same s6,pg,hD,(hv.same s25).same s6,.inl ⟨hg,λy H7 s7 hy=>⟨three,λp2 n2=>?_⟩⟩⟩;have s8:=(aP.refl H7).new (o:=.lst [V.bl true,V.bl false,V.bl true]) n2;exact qi (hy.same s8) (.lst aD (.cons (.bl _) (.cons (.bl _) (.cons (.bl _) .nil)))) (qQ _ _ _) (oB _ _ _) (q _ (s1.trans (s25.trans (s6.trans (s7.trans s8)))))
def LV {P7 P6 P5:Addr} (B:qL mg) (E:Fn K mg "law" qW ["_law_script"]) (QX:eG P w K mg base 1 "_law_cell_at" kX ["_law_script","_law_k"] (BC K)) (Rt:eG P w K mg base 2 "_law_rest_of" kP ["_law_cell"] Ap) (Ru:eG P w K mg base 2 "_law_code_by" kU ["_law_rest","_law_side","_law_many"] BB) (Q3:eG P w K mg base 5 "decoded" jJ ["side","code"] zI) (Pk:lm P w K mg base 20 "number_of" gh ["maze"] (zG P7 P6)) (Sh:lm P w K mg base 20 "count" og ["n"] (Ay P5)) (QQ:lm P w K mg base 21 "numbered" iS ["side","n","number"] (EU P7 P5)) (RK:eG P w K mg base 22 "_law_unnumbered" gw ["_law_cell","_law_side"] J1) (SU:eG P w K mg base 23 "_law_refused" kR ["_law_cell","_law_side","_law_n","_law_many"] ET):eG P w K mg base 24 "law" qW ["_law_script"] (wu K):=E.mk' λf fd F=>by
 refine F.okS lZ (λvs H Q E h=>?_) (λcdv A outer s H vs Q E hr h=>?_)
 ·obtain⟨a,ns,rfl,_⟩:=h;rfl
 ·obtain⟨a,cs0,rfl,hS,hlen,kQ⟩:=h;have two:(2:Nat)<=sizeLine:=by decide
  refine⟨[some (.ref a),none,none,none,none,none,none,none,none,none],_,rfl,(L2.ij.h (cE (a6 (i:=1) lZ.nd rfl (Or.inl rfl) (aU QX (hr.mono (by decide)) (by rfl) (aC (aY 0) (aJ aE aB))))
   (cE (a6 (i:=2) lZ.nd rfl (Or.inl rfl) (bJ tW ar (a7 fZ (aY 1) aE) (λ_ _=>rfl)))
   (cE (a6 (i:=3) lZ.nd rfl (Or.inl rfl) (aU Ru (hr.mono (by decide)) (by rfl) (cF (aU Rt (hr.mono (by decide)) (by rfl) (cF (aU QX (hr.mono (by decide)) (by rfl) (aC (aY 0) (aJ aE aB))) aB)) (aC (aY 2) (bu (a7 fZ (a7 gX (aY 1) aE) aE) aB)))))
   (cE (a6 (i:=4) lZ.nd rfl (Or.inl rfl) (aU Q3 (hr.mono (by decide)) (by rfl) (aC (aY 2) (aC (aY 3) aB))))
   (cE (a6 (i:=5) lZ.nd rfl (Or.inl rfl) (jP Pk (hr.mono (by decide)) (by rfl) (aC (aY 4) aB)))
   (cE (bw (QW.pt (jO (fq (eI (a8 jg (by rfl) B.isinstance ac (aC (aY 5) (aC (iL (v:=.ty "int") (by rfl) B.int df rfl) aB))))) (jO (eI (a8 jg (by rfl) B.isinstance ac (aC (aY 5) (aC (iL (v:=.ty "bool") (by rfl) B.bool nJ rfl) aB)))) (kH (fq (CM xb ke aE (aY 5) (jP Sh (hr.mono (by decide)) (by rfl) (cF (a8 cm (by rfl) B.len ah (aC (aY 3) aB)) aB))))))))
   (aM (aa ci))
   bF)
   (cE (bw (ae (vp (oJ hr)) (jP QQ (hr.mono (by decide)) (by rfl) (aC (aY 2) (cF (a8 cm (by rfl) B.len ah (aC (aY 3) aB)) (aC (aY 5) aB)))) (aY 4) (bK _))
   (aM (aa ci))
   bF)
   (cE (a6 (i:=6) lZ.nd rfl (Or.inl rfl) (aU Ru (hr.mono (by decide)) (by rfl) (cF (aU Rt (hr.mono (by decide)) (by rfl) (cF (aU QX (hr.mono (by decide)) (by rfl) (aC (aY 0) (aJ aE aB))) aB)) (aC (aY 2) (bu (a7 fZ (a7 gX (aY 1) aE) aE) aB)))))
   (cE (bw (QW.pt (mi (ae f6 (a8 cm (by rfl) B.len ah (aC (aY 6) aB)) (a8 cm (by rfl) B.len ah (aC (aY 3) aB)) (bK _)) (ka (ae qb (eh ke (jP Pk (hr.mono (by decide)) (by rfl) (cF (aU Q3 (hr.mono (by decide)) (by rfl) (aC (aY 2) (aC (aY 6) aB))) aB)) (aY 5) (bK _)) (eh C6 (aY 6) (aY 3) (bK _)) (bK _)))))
   (aM (aa ci))
   bF)
   (cE (a6 (i:=7) lZ.nd rfl (Or.inl rfl) (a7 fZ (a7 gX (aY 1) aE) aE))
   (cE (a6 (i:=8) lZ.nd rfl (Or.inl rfl) (jP Sh (hr.mono (by decide)) (by rfl) (aC (aY 7) aB)))
   (cE (a6 (i:=9) lZ.nd rfl (Or.inl rfl) (a7 fZ (aU QX (hr.mono (by decide)) (by rfl) (aC (aY 0) (aJ aE aB))) (aY 8)))
   (cE (bw (ae qb (jP Pk (hr.mono (by decide)) (by rfl) (cF (jP QQ (hr.mono (by decide)) (by rfl) (aC (aY 2) (aC (aY 7) (aC (aY 9) aB)))) aB)) (aY 9) (bK _))
   (aM (aa ci))
   bF)
   (cE (bw (fq (eI (aU RK (hr.mono (by decide)) (by rfl) (cF (aU QX (hr.mono (by decide)) (by rfl) (aC (aY 0) (aJ aE aB))) (aC (aY 2) aB)))))
   (aM (aa ci))
   bF)
   (aM (aa (aU SU (hr.mono (by decide)) (by rfl) (cF (aU QX (hr.mono (by decide)) (by rfl) (aC (aY 0) (aJ aE aB))) (aC (aY 2) (aC (aY 7) (aC (aY 8) aB)))))))))))))))))))))),?_⟩
  refine bb (λσ H'=>∃c0:Int,σ=[some (.ref a),some (.int c0),none,none,none,none,none,none,none,none]/\H=H') ?_ ?_
  ·nofun;exact⟨a,cs0,0,rfl,hS,λc0=>⟨c0,rfl,rfl⟩⟩
  rintro σ H' ⟨c0,rfl,rfl⟩;refine bb (λσ H'=>σ=[some (.ref a),some (.int c0),some (.str (sd (decide (c0 % 2=1)))),none,none,none,none,none,none,none]/\H=H') ?_ ?_
  ·nofun;refine⟨by decide,by decide,_,N0 (cY _ (by decide)) (cV _ (by decide)),?_⟩;rw[NZ];exact⟨rfl,trivial⟩
  rintro σ H' ⟨rfl,rfl⟩;generalize hb:decide (c0 % 2=1)=b;have m0:0<=c0 / 2 % 4:=cY _ (by decide);have m1:c0 / 2 % 4<4:=cV _ (by decide);obtain⟨m4,hm4⟩:=dw m0;have m2:m4<=3:=by lia
  refine bb (λσ H'=>∃cs,σ=[some (.ref a),some (.int c0),some (.str (sd b)),some (.str (tx cs)),none,none,none,none,none,none]/\aP H H'/\DL b cs/\cs.length<=12) ?_ ?_
  ·nofun;refine⟨a,cs0,1,rfl,hS,λc1=>⟨c1,rfl,λr=>?_⟩⟩;nofun;rw[hm4];exact⟨⟨by decide,by decide⟩,by decide,r,b,m4,rfl,by lia,λcs H' s' C h4=>⟨cs,rfl,s',C,by lia⟩⟩
  rintro σ H1 ⟨cs,rfl,s1,C,h12⟩;refine bb (λσ H'=>∃m o,σ=[some (.ref a),some (.int c0),some (.str (sd b)),some (.str (tx cs)),some (.ref m),none,none,none,none,none]/\aP H1 H'/\fE H' m o b (zc b cs)) ?_ ?_
  ·nofun;exact⟨b,cs,rfl,C,λm o H' s' hm=>⟨m,o,rfl,s',hm⟩⟩
  rintro σ H2 ⟨m,o,rfl,s2,hm⟩;refine bb (λσ H'=>σ=[some (.ref a),some (.int c0),some (.str (sd b)),some (.str (tx cs)),some (.ref m),some (.int ((hZ cs (bL b) (bR b):Nat):Int)),none,none,none,none]/\aP H2 H') ?_ ?_
  ·nofun;exact⟨_,_,rfl,hm.dat,wA,.inr ⟨m,o,b,_,rfl,hm,rfl,C.maze.ord,.inl ⟨cs,rfl,C,h12,λH' s'=>⟨rfl,s'⟩⟩⟩⟩
  rintro σ H3 ⟨rfl,s3⟩;have hlt:=LX C.lts C.res;refine bb (λσ H'=>σ=[some (.ref a),some (.int c0),some (.str (sd b)),some (.str (tx cs)),some (.ref m),some (.int ((hZ cs (bL b) (bR b):Nat):Int)),none,none,none,none]/\aP H3 H') ?_ ?_
  ·nofun;rw[be];refine I9 (.int _) ⟨_,rfl,iH (λz=>nomatch z) (Fo (.int _) ⟨_,rfl,iH (λz=>nomatch z) (lw (by lia) ⟨lx (by lia),_,_,rfl,.int _,.inl ⟨cs.length,by lia,rfl,λH' s'=>?_⟩⟩)⟩)⟩;dsimp only;rw[Gy];refine⟨_,rfl,iH ?_ ⟨trivial,s'⟩⟩;rw[<-yc cs.length b,W8 (by lia)];decide
  rintro σ H4 ⟨rfl,s4⟩;have hm4':=hm.same (s3.trans s4);refine bb (λσ H'=>σ=[some (.ref a),some (.int c0),some (.str (sd b)),some (.str (tx cs)),some (.ref m),some (.int ((hZ cs (bL b) (bR b):Nat):Int)),none,none,none,none]/\aP H4 H') ?_ ?_
  ·nofun;rw[be];refine⟨lx (by lia),_,_,_,_,_,_,rfl,.str _,xV b,.int _,.int _,.inr ⟨b,rfl,.inr ⟨cs.length,rfl,h12,.inr ⟨_,rfl,hlt,λes m2 o2 H5 s5 he hz=>?_⟩⟩⟩⟩;rw[sW C.lts C.res] at he;cases he;exact Ob hz (hm4'.same s5) ⟨_,rfl,iH (by simp) ⟨trivial,s5⟩⟩
  rintro σ H5 ⟨rfl,s5⟩;have s15:=s1.trans (s2.trans (s3.trans (s4.trans s5)));clear s1 s2 s3 s4 s5 hm hm4';refine bb (λσ H'=>∃ds,σ=[some (.ref a),some (.int c0),some (.str (sd b)),some (.str (tx cs)),some (.ref m),some (.int ((hZ cs (bL b) (bR b):Nat):Int)),some (.str (tx ds)),none,none,none]/\aP H5 H'/\DL b ds/\ds.length<=12) ?_ ?_
  ·nofun;refine⟨a,cs0,2,rfl,s15.seq hS,λc1=>⟨c1,rfl,λr=>?_⟩⟩;nofun;rw[hm4];exact⟨⟨by decide,by decide⟩,by decide,r,b,m4,rfl,by lia,λcs H' s' C h4=>⟨cs,rfl,s',C,by lia⟩⟩
  rintro σ H6 ⟨ds,rfl,s6,D,d12⟩;refine bb (λσ H'=>σ=[some (.ref a),some (.int c0),some (.str (sd b)),some (.str (tx cs)),some (.ref m),some (.int ((hZ cs (bL b) (bR b):Nat):Int)),some (.str (tx ds)),none,none,none]/\aP H6 H') ?_ ?_
  ·nofun;rw[be,be];refine⟨lx (by lia),lx (by lia),iz (λel=>?_) (λ_=>⟨trivial,aP.refl _⟩)⟩;have el:ds.length=cs.length:=by lia
   refine⟨b,ds,rfl,D,λm2 o2 H7 s7 hz=>⟨_,_,rfl,hz.dat,wA,.inr ⟨m2,o2,b,_,rfl,hz,rfl,D.maze.ord,.inl ⟨ds,rfl,D,d12,λH8 s8=>?_⟩⟩⟩⟩;dsimp only;rw[Gy];have tl:∀u:List Nat,(tx u).cps.toList=u:=λu=>by simp[tx]
   rw[tl,tl,<-IM C D el];have ei:decide (((hZ ds (bL b) (bR b):Nat):Int)<((hZ cs (bL b) (bR b):Nat):Int))=decide (hZ ds (bL b) (bR b)<hZ cs (bL b) (bR b)):=decide_eq_decide.mpr (by lia);rw[ei];exact⟨rfl,_,rfl,iH (by simp) ⟨trivial,s7.trans s8⟩⟩
  rintro σ H7 ⟨rfl,s7⟩;have s17:=s15.trans (s6.trans s7);clear s15 s6 s7;refine bb (λσ H'=>∃n:Nat,n<=8/\σ=[some (.ref a),some (.int c0),some (.str (sd b)),some (.str (tx cs)),some (.ref m),some (.int ((hZ cs (bL b) (bR b):Nat):Int)),some (.str (tx ds)),some (.int (n:Nat)),none,none]/\H7=H') ?_ ?_
  ·nofun;have m0:0<=c0 / 14 % 9:=cY _ (by decide);have m1:c0 / 14 % 9<9:=cV _ (by decide);obtain⟨n,hn⟩:=dw m0;rw[hn] at m1 ⊢;exact⟨⟨by decide,by decide⟩,by decide,n,by lia,rfl,trivial⟩
  rintro σ H' ⟨n,hn,rfl,rfl⟩;refine bb (λσ H'=>σ=[some (.ref a),some (.int c0),some (.str (sd b)),some (.str (tx cs)),some (.ref m),some (.int ((hZ cs (bL b) (bR b):Nat):Int)),some (.str (tx ds)),some (.int (n:Nat)),some (.int ((dG n (bL b) (bR b):Nat):Int)),none]/\aP H7 H') ?_ ?_
  ·nofun;refine⟨_,_,rfl,.int _,.inl ⟨n,by lia,rfl,λH' s'=>?_⟩⟩;rw[<-yc n b];exact⟨rfl,s'⟩
  rintro σ H8 ⟨rfl,s8⟩;refine bb (λσ H'=>∃k:Nat,k<dG n (bL b) (bR b)/\σ=[some (.ref a),some (.int c0),some (.str (sd b)),some (.str (tx cs)),some (.ref m),some (.int ((hZ cs (bL b) (bR b):Nat):Int)),some (.str (tx ds)),some (.int (n:Nat)),some (.int ((dG n (bL b) (bR b):Nat):Int)),some (.int (k:Nat))]/\H8=H') ?_ ?_
  ·nofun;have hp:=wO n b;refine⟨a,cs0,3,rfl,(s17.trans s8).seq hS,λc1=>⟨_,_,rfl,rfl,by lia,?_⟩⟩;dsimp only;obtain⟨k,hk⟩:=dw (cY c1 (show ((dG n (bL b) (bR b):Nat):Int)≠0 by lia));have:=cV c1 (show (0:Int)<((dG n (bL b) (bR b):Nat):Int) by lia);rw[hk] at this ⊢;exact⟨k,by lia,rfl,rfl⟩
  rintro σ H' ⟨k,hk,rfl,rfl⟩;have s18:=s17.trans s8;refine bb (λσ H'=>σ=[some (.ref a),some (.int c0),some (.str (sd b)),some (.str (tx cs)),some (.ref m),some (.int ((hZ cs (bL b) (bR b):Nat):Int)),some (.str (tx ds)),some (.int (n:Nat)),some (.int ((dG n (bL b) (bR b):Nat):Int)),some (.int (k:Nat))]/\aP H8 H') ?_ ?_
  ·nofun;refine⟨_,_,_,_,_,_,rfl,.str _,xV b,.int _,.int _,.inr ⟨b,rfl,.inr ⟨n,rfl,by lia,.inr ⟨k,rfl,hk,λes m2 o2 H9 s9 he hz=>?_⟩⟩⟩⟩;obtain⟨G,gl,gk⟩:=BK (by lia) he;refine⟨_,_,rfl,hz.dat,wA,.inr ⟨m2,o2,b,_,rfl,hz,rfl,G.maze.ord,.inl ⟨es,rfl,G,by lia,λH10 s10=>?_⟩⟩⟩;rw[<-gk];exact⟨rfl,_,rfl,iH (by simp) ⟨trivial,s9.trans s10⟩⟩
  rintro σ H9 ⟨rfl,s9⟩;have s19:=s18.trans s9;refine bb (λσ H'=>σ=[some (.ref a),some (.int c0),some (.str (sd b)),some (.str (tx cs)),some (.ref m),some (.int ((hZ cs (bL b) (bR b):Nat):Int)),some (.str (tx ds)),some (.int (n:Nat)),some (.int ((dG n (bL b) (bR b):Nat):Int)),some (.int (k:Nat))]/\aP H9 H') ?_ ?_
  ·nofun;exact⟨a,cs0,5,rfl,s19.seq hS,λc1=>⟨c1,b,rfl,λH' s'=>⟨_,rfl,iH (λz=>nomatch z) ⟨trivial,s'⟩⟩⟩⟩
  rintro σ H10 ⟨rfl,s10⟩;nofun;exact⟨a,cs0,4,rfl,(s19.trans s10).seq hS,λc1=>⟨c1,b,n,rfl,by lia,λH' _=>kQ H'⟩⟩
end
def fA(K:Wb)(x:Str)(st:Stmt):Prop:=∃(f:Addr) (oc:Value) (od an:Option Addr) (osl:Array (Option Value)) (kV doc pm cdv ct:Value),PySem.W.nsIn K mainGlobals x=some (some (.ref f))/\K.lookup f=some ⟨oc,od,.func (PySem.W.fnOf x x (kK st) (iB st) (a9 st) .none kV doc pm an cdv ct),osl⟩/\PySem.W.codeIn K cdv x=true/\PySem.W.keepIn K (.ref f)=true
def fnIn{K:Wb}{x:Str}{st:Stmt}{f:Addr}{oc:Value}{od an:Option Addr}{osl:Array (Option Value)}{kV doc pm cdv ct:Value}(a:PySem.W.nsIn K mainGlobals x=some (some (.ref f)))(l:K.lookup f=some ⟨oc,od,.func (PySem.W.fnOf x x (kK st) (iB st) (a9 st) .none kV doc pm an cdv ct),osl⟩)(c:PySem.W.codeIn K cdv x=true)(k:PySem.W.keepIn K (.ref f)=true):fA K x st:=⟨_,_,_,_,_,_,_,_,_,_,a,l,c,k⟩
def cu{K:Wb}{h:Heap}{mg:Str->Option Value}(X:K.In h)(G:h.Ns mainGlobals mg){x:Str}{st:Stmt}{ps:List Str}(a:fA K x st)
  (hb:∀(kV doc pm:Value) (an:Option Addr) (cdv ct:Value) (us:List Value),us.length=ps.length->bindArgs (PySem.W.fnOf x x (kK st) (iB st) (a9 st) .none kV doc pm an cdv ct) ⟨us,[]⟩=pure (ps.zip us)):Fn K mg x st ps:=
 let ⟨f,_,_,_,_,_,_,_,_,_,a,l,c,k⟩:=a
 have F:=GC (st:=st) l c k
 ⟨f,_,F,cK X G a,F.binds hb⟩
def all_mk {l:PySem.W.OpenLaw} {w:World} {K:Wb} {h:Heap} {mg:Str->Option Value} {fa:Addr} (X:K.In h) (G:h.Ns mainGlobals mg) (hfa:mg "law"=some (.ref fa))
  (SD:fA K "crossing" jK)
  (SE:fA K "is_whole" iT)
  (SG:fA K "is_below" iU)
  (SV:fA K "is_side" i5)
  (SH:fA K "is_order" jI)
  (SW:fA K "is_maze" kS)
  (RL:fA K "other_side" fk)
  (Qg:fA K "side_of_step" fY)
  (Qx:fA K "rows_of_way" gK)
  (SX:fA K "bows_of" jL)
  (SY:fA K "crossed" kT)
  (VY:fA K "vet" ui)
  (TQ:fA K "begun" kG)
  (RM:fA K "leading_on" fm)
  (Rb:fA K "other_end" i3)
  (Sj:fA K "joined" mB)
  (UG:fA K "step" l3)
  (Rc:fA K "letter_of" i4)
  (TR:fA K "coded" oh)
  (SI:fA K "vet_code" jH)
  (Qy:fA K "rows_across" gL)
  (SZ:fA K "decoded" jJ)
  (S0:fA K "can_end" kY)
  (Qz:fA K "next_states" gM)
  (Re:fA K "ends_from" d9)
  (RA:fA K "ends_behind" fQ)
  (RB:fA K "completions" gQ)
  (Rf:fA K "vet_rings" gg)
  (TU:fA K "count" og)
  (Rg:fA K "number_of" gh)
  (RC:fA K "next_letter" gN)
  (SJ:fA K "numbered" iS)
  (S3:fA K "_law_cell_at" kX)
  (TV:fA K "_law_mixed" o8)
  (S4:fA K "_law_rest_of" kP)
  (Vj:fA K "_law_go" CG)
  (SK:fA K "_law_at_first" jM)
  (S5:fA K "_law_closing" kW)
  (S6:fA K "_law_code_by" kU)
  (RD:fA K "_law_is_crossing" gO)
  (TX:fA K "_law_asked" oi)
  (RN:fA K "_law_unnumbered" gw)
  (TZ:fA K "_law_kinds" o9)
  (S7:fA K "_law_refused" kR)
  (Sk:fA K "law" qW)
  {T1:Tok} (RO:PySem.W.nsIn K mainGlobals "MOST_RINGS"=some (some (.int 20 T1)))
  {Ur:Tok} (S8:PySem.W.nsIn K mainGlobals "LETTERS"=some (some (.str (Str.ofString "abcd") Ur)))
  {Sl:Tok} (Qh:PySem.W.nsIn K mainGlobals "LEFT_INWARDS"=some (some (.str (Str.ofString "ab") Sl)))
  {Se:Tok} (Qc:PySem.W.nsIn K mainGlobals "RIGHT_INWARDS"=some (some (.str (Str.ofString "ac") Se)))
  {P8:Addr} (Rh:PySem.W.nsIn K mainGlobals "RingError"=some (some (.ref P8)))
  {P7:Addr} (Ri:PySem.W.nsIn K mainGlobals "NoMaze"=some (some (.ref P7)))
  {P6:Addr} (Rv:PySem.W.nsIn K mainGlobals "Crossed"=some (some (.ref P6)))
  {Pa:Addr} (Sn:PySem.W.nsIn K mainGlobals "NoCode"=some (some (.ref Pa)))
  {P5:Addr} (Qi:PySem.W.nsIn K mainGlobals "NoNumber"=some (some (.ref P5)))
  {NR:Addr} {dR_x dM_x:Option Addr} {cdR_x:ClassData} {slR_x slM_x:Array (Option Value)} {cM_x:Value} {es2_x:Array DictEntry} {ep2_x:Nat}
  (x_lkR:K.lookup P8=some ⟨.type "type",dR_x,.cls cdR_x,slR_x⟩) (x_eR:cdR_x.ns=NR) (x_lkM:K.lookup NR=some ⟨cM_x,dM_x,.dict es2_x ep2_x,slM_x⟩) (x_nR:L2.strKeys es2_x=true)
  (x_r1:PySem.W.nsIn K NR "__init__"=some none)
  (x_r2:PySem.W.nsIn K NR "__getattribute__"=some none)
  (x_r3:PySem.W.nsIn K NR "__getattr__"=some none)
  (x_r4:PySem.W.nsIn K NR "args"=some none)
  (x_sp:PySem.W.specialIn K (.builtin "object.__class__") "__get__"=some (some (.builtin "getset_descriptor.__get__"))) (x_tk:PySem.W.takesIn K (.builtin "object.__class__")=some true) (x_rb:PySem.W.mroIn K P8 (.type "BaseException")=some true)
  (x_rd:PySem.W.readsIn K P8 (.type "type")=true) (x_sg:PySem.W.specialIn K (.ref P8) "__getattribute__"=some (some (.builtin "type.__getattribute__"))) (x_fi:PySem.W.findCls K (.ref P8) (.type "type") "__init__"=some (.val (.builtin "ValueError.__init__")))
  {VZ:Option Addr} {Us:ClassData} {Ut:Array (Option Value)} (x_lk_NoCode:K.lookup Pa=some ⟨.type "type",VZ,.cls Us,Ut⟩)
  {So:Addr} {Uu V0:Str} {Uv:List Value} {Uw:Bool} {Ux:List Str} {UH:List Value} {Uy:Bool} {UI:Option Bool} {Uz VA:Option Addr} {VB VC VD VE VF:Option Value} {UJ:Array (Option Value)} {VG:Value} {TJ:Array DictEntry} {VH:Nat}
  (Pd:K.lookup P7=some (excClassObj Uu V0 P7 So Uv (.ref P8::[.type "ValueError",.type "Exception",.type "BaseException",.type "object"]) Uw Ux UH Uy UI Uz VB VC VD VE VF "ValueError.__new__")) (Qd:K.lookup So=some ⟨VG,VA,.dict TJ VH,UJ⟩) (Ql:L2.strKeys TJ=true)
  (Qm:PySem.W.nsIn K So "__init__"=some none)
  (Qn:PySem.W.findIn K (.ref P7) "__getattribute__"=some (some (.builtin "BaseException.__getattribute__"))) (Qo:PySem.W.findIn K (.ref P7) "__getattr__"=some none) (Qp:PySem.W.findIn K (.ref P7) "__class__"=some (some (.builtin "object.__class__"))) (Qq:PySem.W.mroIn K P7 (.type "object")=some true)
  (Rj:PySem.W.mroIn K P7 (.ref P8)=some true) (Rk:PySem.W.mroIn K P7 (.type "ValueError")=some true) (Rl:PySem.W.mroIn K P7 (.ref P7)=some true) (Qb:PySem.W.mroIn K P7 (.type "BaseException")=some true)
  (Pi:PySem.W.mroIn K P7 (.ref P6)=some false) (QD:(Value.ref P7==Value.ref P6)=false)
  (QR:PySem.W.mroIn K P7 (.ref Pa)=some false) (QU:(Value.ref P7==Value.ref Pa)=false)
  (Pg:PySem.W.mroIn K P7 (.ref P5)=some false) (Pt:(Value.ref P7==Value.ref P5)=false)
  {SL:Addr} {Td UL:Str} {Te:List Value} {Tf:Bool} {Tg:List Str} {T2:List Value} {Ti:Bool} {T3:Option Bool} {Tj Tl:Option Addr} {Tn To Tp Tq Tr:Option Value} {T4:Array (Option Value)} {Ts:Value} {Sa:Array DictEntry} {Tt:Nat}
  (P9:K.lookup P5=some (excClassObj Td UL P5 SL Te (.ref P8::[.type "ValueError",.type "Exception",.type "BaseException",.type "object"]) Tf Tg T2 Ti T3 Tj Tn To Tp Tq Tr "ValueError.__new__")) (QY:K.lookup SL=some ⟨Ts,Tl,.dict Sa Tt,T4⟩) (Q5:L2.strKeys Sa=true)
  (Q6:PySem.W.nsIn K SL "__init__"=some none)
  (Q7:PySem.W.findIn K (.ref P5) "__getattribute__"=some (some (.builtin "BaseException.__getattribute__"))) (Q8:PySem.W.findIn K (.ref P5) "__getattr__"=some none) (Q9:PySem.W.findIn K (.ref P5) "__class__"=some (some (.builtin "object.__class__"))) (Qa:PySem.W.mroIn K P5 (.type "object")=some true)
  (RE:PySem.W.mroIn K P5 (.ref P8)=some true) (RF:PySem.W.mroIn K P5 (.type "ValueError")=some true) (RG:PySem.W.mroIn K P5 (.ref P5)=some true) (QM:PySem.W.mroIn K P5 (.type "BaseException")=some true)
  (Ph:PySem.W.mroIn K P5 (.ref P7)=some false) (Pu:(Value.ref P5==Value.ref P7)=false)
  (Pe:PySem.W.mroIn K P5 (.ref P6)=some false) (Pn:(Value.ref P5==Value.ref P6)=false)
  (Pw:PySem.W.mroIn K P5 (.ref Pa)=some false) (Px:(Value.ref P5==Value.ref Pa)=false)
  {S9:Addr} {UM VI:Str} {UN:List Value} {UO:List Str} {Tu:List Value} {UP:Bool} {Tv:Option Bool} {UQ UR:Option Addr} {US UT UU UV UW:Option Value} {Tw:Array (Option Value)} {UX:Value} {Sq:Array DictEntry} {UY:Nat}
  {Qj:Addr} {UZ U0:Option Addr} {U1:Array (Option Value)} {U2 U3 U4 U5 Sr U6:Value}
  (Pb:K.lookup P6=some (excClassObj UM VI P6 S9 UN (.ref P8::[.type "ValueError",.type "Exception",.type "BaseException",.type "object"]) true UO Tu UP Tv UQ US UT UU UV UW "ValueError.__new__")) (RH:K.lookup S9=some ⟨UX,UR,.dict Sq UY,Tw⟩) (RP:L2.strKeys Sq=true)
  (RQ:PySem.W.nsIn K S9 "__init__"=some (some (.ref Qj)))
  (RS:PySem.W.findIn K (.ref P6) "__getattribute__"=some (some (.builtin "BaseException.__getattribute__"))) (RT:PySem.W.findIn K (.ref P6) "__getattr__"=some none) (RU:PySem.W.findIn K (.ref P6) "__class__"=some (some (.builtin "object.__class__"))) (RV:PySem.W.mroIn K P6 (.type "object")=some true)
  (RW:PySem.W.mroIn K P6 (.ref P8)=some true) (RX:PySem.W.mroIn K P6 (.type "ValueError")=some true) (RY:PySem.W.mroIn K P6 (.ref P6)=some true) (QZ:PySem.W.mroIn K P6 (.type "BaseException")=some true)
  (Pj:PySem.W.mroIn K P6 (.ref P7)=some false) (QJ:(Value.ref P6==Value.ref P7)=false)
  (QK:PySem.W.mroIn K P6 (.ref Pa)=some false) (QL:(Value.ref P6==Value.ref Pa)=false)
  (Pf:PySem.W.mroIn K P6 (.ref P5)=some false) (Po:(Value.ref P6==Value.ref P5)=false)
  (RZ:PySem.W.findIn K (.ref P6) "__setattr__"=some (some (.builtin "object.__setattr__"))) (R0:PySem.W.findIn K (.ref P6) "bows"=some none)
  (R1:K.lookup Qj=some ⟨U2,UZ,.func (PySem.W.fnOf "__init__" "Crossed.__init__" (kK gP) (iB gP) (a9 gP) .none U3 U4 U5 U0 Sr U6),U1⟩) (R3:PySem.W.codeIn K Sr "Crossed.__init__"=true) (R4:PySem.W.keepIn K (.ref Qj)=true) (R5:PySem.W.typeIn K (.ref Qj)=some (.type "function")) (R6:PySem.W.keepIn K (.ref P6)=true)
  {Um:Addr} {Uo:Obj} (T5:PySem.W.nsIn K mainGlobals "SIDES"=some (some (.ref Um))) (T6:K.lookup Um=some Uo) (T7:L2.AZ Uo ["l","r"])
  (V1:PySem.W.nsIn K mainGlobals "len"=some none) (T8:PySem.W.nsIn K mainGlobals "range"=some none) (V2:PySem.W.nsIn K mainGlobals "int"=some none) (U7:PySem.W.nsIn K mainGlobals "list"=some none) (T9:PySem.W.nsIn K mainGlobals "tuple"=some none) (R7:PySem.W.nsIn K mainGlobals "isinstance"=some none) (V3:PySem.W.nsIn K mainGlobals "str"=some none) (U8:PySem.W.nsIn K mainGlobals "bool"=some none) (Ss:PySem.W.nsIn K mainGlobals "sorted"=some none) (V4:PySem.W.nsIn K mainGlobals "all"=some none) (V5:PySem.W.nsIn K mainGlobals "zip"=some none) (V6:PySem.W.nsIn K mainGlobals "max"=some none) (V7:PySem.W.nsIn K mainGlobals "min"=some none) (SM:PySem.W.nsIn K mainGlobals "reversed"=some none) (Ro:PySem.W.nsIn K mainGlobals "enumerate"=some none) (V8:PySem.W.nsIn K mainGlobals "abs"=some none) (V9:PySem.W.nsIn K mainGlobals "sum"=some none) (R8:PySem.W.nsIn K mainGlobals "ValueError"=some none) :
  ∃fd:FuncData,(∀(s:Shared) (v:Value),BindsTo s fd ⟨[v],[]⟩ [("_law_script",v)])/\∀base:Heap,K.In base->base.Ns mainGlobals mg->oW l.prog w K mg base yo 24 fa fd ["_law_script"] (wu K):=by
 have B:qL mg:=⟨bG X G V1,bG X G T8,bG X G V2,bG X G U7,bG X G T9,bG X G R7,bG X G V3,bG X G U8,bG X G Ss,bG X G V4,bG X G V5,bG X G V6,bG X G V7,bG X G SM,bG X G Ro,bG X G V8,bG X G V9,bG X G R8,⟨_,cK X G RO⟩,⟨_,cK X G S8⟩,⟨_,cK X G Qh⟩,⟨_,cK X G Qc⟩⟩
 have Ps:mg "RingError"=some (.ref P8):=cK X G Rh;have RJ:mg "NoMaze"=some (.ref P7):=cK X G Ri;have Rr:mg "Crossed"=some (.ref P6):=cK X G Rv;have Vt:mg "NoCode"=some (.ref Pa):=cK X G Sn;have SB:mg "NoNumber"=some (.ref P5):=cK X G Qi;have Rw:L2.wW K P7/\∀base:Heap,K.In base->base.Ns mainGlobals mg->OwnCls "NoMaze" P7 [.type "ValueError",.type "Exception",.type "BaseException",.type "object"] "ValueError.__new__" mg base:=⟨(L2.pG X G Ri Pd x_lkR (L2.j3 Qd Ql) Qm x_eR (L2.j3 x_lkM x_nR) x_r1 x_r2 x_r3 x_r4 fB Qn Qo Qp x_sp x_tk Qq).2,λbase KB GB=>(L2.pG KB GB Ri Pd x_lkR (L2.j3 Qd Ql) Qm x_eR (L2.j3 x_lkM x_nR) x_r1 x_r2 x_r3 x_r4 fB Qn Qo Qp x_sp x_tk Qq).1⟩
 have TK:L2.OK K P7 [P7,P6,Pa,P5] 0:=⟨Rw.1,λj d h=>match j,h with | 0,h=>by cases h;exact L2.tV | 1,h=>by cases h;exact L2.iA QD Pb Pi | 2,h=>by cases h;exact L2.iA QU x_lk_NoCode QR | 3,h=>by cases h;exact L2.iA Pt P9 Pg | j+4,h=>by simp at h,L2.tU (by decide) Rk⟩
 have TL:PySem.W.exmOne K (.ref P7) (.ref P8)=some true:=L2.iN x_lkR Rj x_rb;have Vs:PySem.W.exmOne K (.ref P7) (.ref P7)=some true:=L2.iN Pd Rl Qb;have U9:PySem.W.exmOne K (.ref P7) (.ref P5)=some false:=L2.iN P9 Pg QM;have Up:PySem.W.exmOne K (.ref P7) (.ref P6)=some false:=L2.iN Pb Pi QZ;have Rp:L2.wW K P5/\∀base:Heap,K.In base->base.Ns mainGlobals mg->OwnCls "NoNumber" P5 [.type "ValueError",.type "Exception",.type "BaseException",.type "object"] "ValueError.__new__" mg base:=⟨(L2.pG X G Qi P9 x_lkR (L2.j3 QY Q5) Q6 x_eR (L2.j3 x_lkM x_nR) x_r1 x_r2 x_r3 x_r4 fB Q7 Q8 Q9 x_sp x_tk Qa).2,λbase KB GB=>(L2.pG KB GB Qi P9 x_lkR (L2.j3 QY Q5) Q6 x_eR (L2.j3 x_lkM x_nR) x_r1 x_r2 x_r3 x_r4 fB Q7 Q8 Q9 x_sp x_tk Qa).1⟩
 have Tx:L2.OK K P5 [P7,P6,Pa,P5] 3:=⟨Rp.1,λj d h=>match j,h with | 0,h=>by cases h;exact L2.iA Pu Pd Ph | 1,h=>by cases h;exact L2.iA Pn Pb Pe | 2,h=>by cases h;exact L2.iA Px x_lk_NoCode Pw | 3,h=>by cases h;exact L2.tV | j+4,h=>by simp at h,L2.tU (by decide) RF⟩
 have Tz:PySem.W.exmOne K (.ref P5) (.ref P8)=some true:=L2.iN x_lkR RE x_rb;have Vi:PySem.W.exmOne K (.ref P5) (.ref P5)=some true:=L2.iN P9 RG QM;have Ua:PySem.W.exmOne K (.ref P5) (.ref P7)=some false:=L2.iN Pd Ph Qb;have UE:PySem.W.exmOne K (.ref P5) (.ref P6)=some false:=L2.iN Pb Pe QZ;have R9:=λ(base:Heap) (KB:K.In base) (GB:base.Ns mainGlobals mg)=>L2.AK (f:="bows") KB GB Rv Pb x_lkR (L2.j3 RH RP) RQ x_eR (L2.j3 x_lkM x_nR) x_r1 x_r2 x_r3 x_r4 fB RS RT RZ R0 (by simp) F.store_ValueError.passes;have Su:L2.DK K P6 "bows":=(R9 h X G).2.1;have Sv:=GC (st:=gP) R1 R3 R4;have Ub:L2.yk K P6:=L2.GI (cR:=.type "type") (cdR:=cdR_x) (dR:=dR_x) (slR:=slR_x) (NR:=NR) Pb Su RU x_sp x_tk RV;have Uc:L2.DJ K P6 [P7,P6,Pa,P5] 1:=⟨λj d h=>match j,h with | 0,h=>by cases h;exact L2.iA QJ Pd Pj | 1,h=>by cases h;exact L2.tV | 2,h=>by cases h;exact L2.iA QL x_lk_NoCode QK | 3,h=>by cases h;exact L2.iA Po P9 Pf | j+4,h=>by simp at h,L2.tU (by decide) RX⟩
 have Ud:PySem.W.exmOne K (.ref P6) (.ref P8)=some true:=L2.iN x_lkR RW x_rb;have Vk:PySem.W.exmOne K (.ref P6) (.ref P6)=some true:=L2.iN Pb RY QZ;have Uq:PySem.W.exmOne K (.ref P6) (.ref P7)=some false:=L2.iN Pd Pj Qb;have UF:PySem.W.exmOne K (.ref P6) (.ref P5)=some false:=L2.iN P9 Pf QM;have UK:L2.Om K P8 "ValueError.__init__":=⟨x_rd,x_sg,x_fi,L2.Ck⟩
 have Rq:=L2.Fz X G T5 T6 T7;have Ue:Fn K mg "crossing" jK ["bows"]:=cu X G SD λ_ _ _ _ _ _=>L2.rg λ_=>rfl;have Ug:Fn K mg "is_whole" iT ["thing"]:=cu X G SE λ_ _ _ _ _ _=>L2.rg λ_=>rfl;have Uh:Fn K mg "is_below" iU ["thing","bound"]:=cu X G SG λ_ _ _ _ _ _=>L2.yq λ_ _=>rfl;have VJ:Fn K mg "is_side" i5 ["thing"]:=cu X G SV λ_ _ _ _ _ _=>L2.rg λ_=>rfl;have Ui:Fn K mg "is_order" jI ["thing"]:=cu X G SH λ_ _ _ _ _ _=>L2.rg λ_=>rfl;have VL:Fn K mg "is_maze" kS ["thing"]:=cu X G SW λ_ _ _ _ _ _=>L2.rg λ_=>rfl;have Ta:Fn K mg "other_side" fk ["side"]:=cu X G RL λ_ _ _ _ _ _=>L2.rg λ_=>rfl;have Sw:Fn K mg "side_of_step" fY ["maze","step"]:=cu X G Qg λ_ _ _ _ _ _=>L2.yq λ_ _=>rfl;have Sx:Fn K mg "rows_of_way" gK ["maze"]:=cu X G Qx λ_ _ _ _ _ _=>L2.rg λ_=>rfl;have VM:Fn K mg "bows_of" jL ["maze"]:=cu X G SX λ_ _ _ _ _ _=>L2.rg λ_=>rfl;have VN:Fn K mg "crossed" kT ["maze"]:=cu X G SY λ_ _ _ _ _ _=>L2.rg λ_=>rfl;have Vu:Fn K mg "vet" ui ["maze"]:=cu X G VY λ_ _ _ _ _ _=>L2.rg λ_=>rfl;have Vc:Fn K mg "begun" kG ["side"]:=cu X G TQ λ_ _ _ _ _ _=>L2.rg λ_=>rfl;have Tb:Fn K mg "leading_on" fm ["state"]:=cu X G RM λ_ _ _ _ _ _=>L2.rg λ_=>rfl;have UA:Fn K mg "other_end" i3 ["signs","place"]:=cu X G Rb λ_ _ _ _ _ _=>L2.yq λ_ _=>rfl;have Va:Fn K mg "joined" mB ["left","right"]:=cu X G Sj λ_ _ _ _ _ _=>L2.yq λ_ _=>rfl;have Vl:Fn K mg "step" l3 ["state","letter"]:=cu X G UG λ_ _ _ _ _ _=>L2.yq λ_ _=>rfl;have UB:Fn K mg "letter_of" i4 ["left_inwards","right_inwards"]:=cu X G Rc λ_ _ _ _ _ _=>L2.yq λ_ _=>rfl;have Vd:Fn K mg "coded" oh ["maze"]:=cu X G TR λ_ _ _ _ _ _=>L2.rg λ_=>rfl;have Uj:Fn K mg "vet_code" jH ["side","code"]:=cu X G SI λ_ _ _ _ _ _=>L2.yq λ_ _=>rfl;have Sy:Fn K mg "rows_across" gL ["code","inwards","begins_here"]:=cu X G Qy λ_ _ _ _ _ _=>L2.KJ λ_ _ _=>rfl;have VO:Fn K mg "decoded" jJ ["side","code"]:=cu X G SZ λ_ _ _ _ _ _=>L2.yq λ_ _=>rfl;have VP:Fn K mg "can_end" kY ["state","rows"]:=cu X G S0 λ_ _ _ _ _ _=>L2.yq λ_ _=>rfl;have Sz:Fn K mg "next_states" gM ["state"]:=cu X G Qz λ_ _ _ _ _ _=>L2.rg λ_=>rfl;have Sb:Fn K mg "ends_from" d9 ["state","rows","known"]:=cu X G Re λ_ _ _ _ _ _=>L2.KJ λ_ _ _=>rfl;have TB:Fn K mg "ends_behind" fQ ["state","letter","rows","known"]:=cu X G RA λ_ _ _ _ _ _=>L2.OP λ_ _ _ _=>rfl;have TC:Fn K mg "completions" gQ ["state","rows"]:=cu X G RB λ_ _ _ _ _ _=>L2.yq λ_ _=>rfl;have UC:Fn K mg "vet_rings" gg ["n"]:=cu X G Rf λ_ _ _ _ _ _=>L2.rg λ_=>rfl;have Ve:Fn K mg "count" og ["n"]:=cu X G TU λ_ _ _ _ _ _=>L2.rg λ_=>rfl;have UD:Fn K mg "number_of" gh ["maze"]:=cu X G Rg λ_ _ _ _ _ _=>L2.rg λ_=>rfl;have TD:Fn K mg "next_letter" gN ["state","rows","ahead","known"]:=cu X G RC λ_ _ _ _ _ _=>L2.OP λ_ _ _ _=>rfl;have Uk:Fn K mg "numbered" iS ["side","n","number"]:=cu X G SJ λ_ _ _ _ _ _=>L2.KJ λ_ _ _=>rfl;have VQ:Fn K mg "_law_cell_at" kX ["_law_script","_law_k"]:=cu X G S3 λ_ _ _ _ _ _=>L2.yq λ_ _=>rfl;have Vf:Fn K mg "_law_mixed" o8 ["_law_cell"]:=cu X G TV λ_ _ _ _ _ _=>L2.rg λ_=>rfl;have VR:Fn K mg "_law_rest_of" kP ["_law_cell"]:=cu X G S4 λ_ _ _ _ _ _=>L2.rg λ_=>rfl;have Vx:Fn K mg "_law_go" CG ["_law_ends","_law_letter"]:=cu X G Vj λ_ _ _ _ _ _=>L2.yq λ_ _=>rfl;have Ul:Fn K mg "_law_at_first" jM ["_law_side"]:=cu X G SK λ_ _ _ _ _ _=>L2.rg λ_=>rfl;have VS:Fn K mg "_law_closing" kW ["_law_ends"]:=cu X G S5 λ_ _ _ _ _ _=>L2.rg λ_=>rfl;have VU:Fn K mg "_law_code_by" kU ["_law_rest","_law_side","_law_many"]:=cu X G S6 λ_ _ _ _ _ _=>L2.KJ λ_ _ _=>rfl;have TF:Fn K mg "_law_is_crossing" gO ["_law_found","_law_side","_law_order"]:=cu X G RD λ_ _ _ _ _ _=>L2.KJ λ_ _ _=>rfl;have Vg:Fn K mg "_law_asked" oi ["_law_maze"]:=cu X G TX λ_ _ _ _ _ _=>L2.rg λ_=>rfl;have Tc:Fn K mg "_law_unnumbered" gw ["_law_cell","_law_side"]:=cu X G RN λ_ _ _ _ _ _=>L2.yq λ_ _=>rfl;have Vh:Fn K mg "_law_kinds" o9 ["_law_side","_law_n","_law_number"]:=cu X G TZ λ_ _ _ _ _ _=>L2.KJ λ_ _ _=>rfl;have VW:Fn K mg "_law_refused" kR ["_law_cell","_law_side","_law_n","_law_many"]:=cu X G S7 λ_ _ _ _ _ _=>L2.OP λ_ _ _ _=>rfl;have Vv:Fn K mg "law" qW ["_law_script"]:=cu X G Sk λ_ _ _ _ _ _=>L2.rg λ_=>rfl;have key:∀base:Heap,K.In base->base.Ns mainGlobals mg->eG l.prog w K mg base 24 "law" qW ["_law_script"] (wu K):=λbase KB GB=>by
  have RI:=Rw.2 base KB GB;have Q1:=Rp.2 base KB GB;have SO:L2.MG l.prog w K mg base 1 "Crossed" P6 "bows" L2.IG:=⟨Qj,_,_,_,_,_,_,(R9 base KB GB).1,c9,tK (R9 base KB GB).1 c9 UK Ps (R9 h X G).2.2 Sv,R5,R6,Sv.binds λ_ _ _ _ _ _=>L2.yq λ_ _=>rfl,L2.FZ⟩
  have Ry:=xn (P:=l.prog) (w:=w) (base:=base) Ue;have Q0:=xj (P:=l.prog) (w:=w) (base:=base) B Ug;have Q2:=xm Uh Q0;have Py:=zi (P:=l.prog) (w:=w) (base:=base) Rq VJ;have Rx:=xk B Ui Q0;have SQ:=zj B VL Py Rx;have Pz:=uS (P:=l.prog) (w:=w) (base:=base) Ta;have Qf:=rW Sw Pz;have Qr:=tE (P:=l.prog) (w:=w) (base:=base) B Sx;have Qe:=zt B VM Qf Qr;have SR:=zm B Rq VN Qe Ry;have VX:=LU SO RI Vu SQ SR;have QN:=FX (P:=l.prog) (w:=w) (base:=base) Vc;have QC:=uT (P:=l.prog) (w:=w) (base:=base) B Tb;have Qk:=vv (P:=l.prog) (w:=w) (base:=base) UA;have Si:=C7 B Va Qk;have QP:=IF B Vl Si;have Ra:=vy (P:=l.prog) (w:=w) (base:=base) UB;have TN:=FW B Vd VX Qe Ra;have Rz:=xh B Uj QN QP QC;have Q4:=tF (P:=l.prog) (w:=w) (base:=base) B Sy;have Q3:=zk B VO Py Pz Rz Q4;have SS:=zr VP QC;have Qs:=tG B Sz QP;have D_ends:∀n,eG l.prog w K mg base (5+n) "ends_from" d9 ["state","rows","known"] (pZ n):=by
   intro n
   induction n with
   | zero=>exact FU Sb
   | succ n ih=>exact vz B Sb SS Qs ih
  have Pm:=tL TB QP (D_ends 13);have Qu:=tM TC (D_ends 13);have QV:=vt Q1 B UC Q2;have Sh:=FV B Ve QV Qu QN;have Pk:=vw B UD TN QN Pm QP;have Qv:=tH B TD Pm;have QQ:=xi RI Q1 B Uk Py QV QN (D_ends 13) Q2 Qv QP Q3;have QX:=zq (P:=l.prog) (w:=w) (base:=base) B VQ;have Sf:=FS (P:=l.prog) (w:=w) (base:=base) Vf;have Rt:=zf VR Sf;have Vb:=NW (P:=l.prog) (w:=w) (base:=base) B Vx;have SA:=xo (P:=l.prog) (w:=w) (base:=base) Ul;have ST:=zp (P:=l.prog) (w:=w) (base:=base) B VS;have Ru:=zo B VU SA Vb ST;have Qw:=tJ (P:=l.prog) (w:=w) (base:=base) B TF;have Sg:=FY B Ps RJ Rr TL Ud Rw.1 Ub Su TK.d Uc Vg Pk Qw;have RK:=uR B Tc Sg;have SN:=FT B Ps RJ SB TL Tz Rw.1 Rp.1 TK.d Tx.d Vh QQ;have SU:=zh B VW SN;exact LV B Vv QX Rt Ru Q3 Pk Sh QQ RK SU
 obtain⟨f0,oc0,od0,Vm,sl0,Vn,Vo,Vp,Vq,Vr,Sk,Vw,_,_⟩:=Sk;have e:=hfa.symm.trans (cK X G Sk);cases e;refine⟨PySem.W.fnOf "law" "law" (kK qW) (iB qW) (a9 qW) .none Vn Vo Vp Vm Vq Vr,λs v=>.of_eq rfl,λbase KB GB=>?_⟩;obtain⟨f,fd,F,m,b,ok⟩:=(key base KB GB).ex;rw[cK X G Sk] at m;cases m;obtain⟨_,_,_,_,_,_,_,_,_,rfl,lk,_⟩:=F.ex;rw[Vw] at lk;cases lk;exact ok
def walk{l:PySem.W.OpenLaw}{q:Program}{loose:List Str}{XP:(Str->Option Value)->Heap->Prop}{YP:World->Heap->Prop}{d:DefRec}{K:Params->Wb}(hn:l.most=some 63)(hdf:d.params.defaults=[])
  (hY:∀(w:World) (h:Heap),YP w h->(K w.params).In h)
  (F:∀(w:World) (mg:Str->Option Value) (fa:Addr) (h:Heap),(K w.params).In h->h.Ns mainGlobals mg->mg d.name=some (.ref fa) →
   ∃fd:FuncData,(∀(s:Shared) (u:Value),BindsTo s fd ⟨[u],[]⟩ [("_law_script",u)])/\∀base:Heap,(K w.params).In base->base.Ns mainGlobals mg->oW l.prog w (K w.params) mg base yo 24 fa fd ["_law_script"] (wu (K w.params))) :
  PySem.W.WalkO q loose XP YP l.row.toRowW d [] (λf vs=>PySem.call f vs):=
 L2.A4 (n:=63) (k:=24) (x:="_law_script") (CX:=λ_=>yo) (sp:=λw=>wu (K w.params)) hn (by decide) hdf ⟨rfl,by decide,by decide,rfl⟩ hY F (λ_ _ a ns hl _ hS=>⟨a,ns,rfl,hS,hl,λ_=>rfl⟩) λ_ _ _ _ _ z=>z
end Rm
open PySem PySem.W PyProof.Rows
local macro_rules | `(tactic| walk_at "kf") => `(tactic| exact Rm.fnIn (by k_is) (by k_is) (by k_is) (by k_is))
set_option maxRecDepth 100000 in
set_option maxHeartbeats 0 in
theorem PySem.Challenge.cw_ringmaze_k36_numbers_of_mazes_holds : PySem.Challenge.rw_ringmaze_k36_numbers_of_mazes.Holds := by
 w_on; o_law; k_head; (case hw => w_witness2)
 k_fill
 refine Rm.walk (l := PySem.Challenge.rw_ringmaze_k36_numbers_of_mazes) rfl rfl (λw h Y => PySem.W.kIn_of Y) ?F
 case F =>
  intro w mg fa h KX G hmg;refine' Rm.all_mk KX G hmg ?SD ?SE ?SG ?SV ?SH ?SW ?RL ?Qg ?Qx ?SX ?SY ?VY ?TQ ?RM ?Rb ?Sj ?UG ?Rc ?TR ?SI ?Qy ?SZ ?S0 ?Qz ?Re ?RA ?RB ?Rf ?TU ?Rg ?RC ?SJ ?S3 ?TV ?S4 ?Vj ?SK ?S5 ?S6 ?RD ?TX ?RN ?TZ ?S7 ?Sk ?RO ?S8 ?Qh ?Qc ?Rh ?Ri ?Rv ?Sn ?Qi ?x_lkR ?x_eR ?x_lkM ?x_nR ?x_r1 ?x_r2 ?x_r3 ?x_r4 ?x_sp ?x_tk ?x_rb ?x_rd ?x_sg ?x_fi ?x_lk_NoCode ?Pd ?Qd ?Ql ?Qm ?Qn ?Qo ?Qp ?Qq ?Rj ?Rk ?Rl ?Qb ?Pi ?QD ?QR ?QU ?Pg ?Pt ?P9 ?QY ?Q5 ?Q6 ?Q7 ?Q8 ?Q9 ?Qa ?RE ?RF ?RG ?QM ?Ph ?Pu ?Pe ?Pn ?Pw ?Px ?Pb ?RH ?RP ?RQ ?RS ?RT ?RU ?RV ?RW ?RX ?RY ?QZ ?Pj ?QJ ?QK ?QL ?Pf ?Po ?RZ ?R0 ?R1 ?R3 ?R4 ?R5 ?R6 ?T5 ?T6 ?T7 ?V1 ?T8 ?V2 ?U7 ?T9 ?R7 ?V3 ?U8 ?Ss ?V4 ?V5 ?V6 ?V7 ?SM ?Ro ?V8 ?V9 ?R8
  (case SD => walk_at "kf")
  (case SE => walk_at "kf")
  (case SG => walk_at "kf")
  (case SV => walk_at "kf")
  (case SH => walk_at "kf")
  (case SW => walk_at "kf")
  (case RL => walk_at "kf")
  (case Qg => walk_at "kf")
  (case Qx => walk_at "kf")
  (case SX => walk_at "kf")
  (case SY => walk_at "kf")
  (case VY => walk_at "kf")
  (case TQ => walk_at "kf")
  (case RM => walk_at "kf")
  (case Rb => walk_at "kf")
  (case Sj => walk_at "kf")
  (case UG => walk_at "kf")
  (case Rc => walk_at "kf")
  (case TR => walk_at "kf")
  (case SI => walk_at "kf")
  (case Qy => walk_at "kf")
  (case SZ => walk_at "kf")
  (case S0 => walk_at "kf")
  (case Qz => walk_at "kf")
  (case Re => walk_at "kf")
  (case RA => walk_at "kf")
  (case RB => walk_at "kf")
  (case Rf => walk_at "kf")
  (case TU => walk_at "kf")
  (case Rg => walk_at "kf")
  (case RC => walk_at "kf")
  (case SJ => walk_at "kf")
  (case S3 => walk_at "kf")
  (case TV => walk_at "kf")
  (case S4 => walk_at "kf")
  (case Vj => walk_at "kf")
  (case SK => walk_at "kf")
  (case S5 => walk_at "kf")
  (case S6 => walk_at "kf")
  (case RD => walk_at "kf")
  (case TX => walk_at "kf")
  (case RN => walk_at "kf")
  (case TZ => walk_at "kf")
  (case S7 => walk_at "kf")
  (case Sk => walk_at "kf")
  (case RO => k_is)
  (case S8 => k_is)
  (case Qh => k_is)
  (case Qc => k_is)
  (case Rh => k_is)
  (case Ri => k_is)
  (case Rv => k_is)
  (case Sn => k_is)
  (case Qi => k_is)
  (case x_lkR => k_is)
  (case x_eR => first | rfl | k_is)
  (case x_lkM => k_is)
  (case x_nR => first | rfl | k_is)
  (case x_r1 => k_is)
  (case x_r2 => k_is)
  (case x_r3 => k_is)
  (case x_r4 => k_is)
  (case x_sp => k_is)
  (case x_tk => k_is)
  (case x_rb => k_is)
  (case x_rd => k_is)
  (case x_sg => k_is)
  (case x_fi => k_is)
  (case x_lk_NoCode => k_is)
  (case Pd => k_is)
  (case Qd => k_is)
  (case Ql => first | rfl | k_is)
  (case Qm => k_is)
  (case Qn => k_is)
  (case Qo => k_is)
  (case Qp => k_is)
  (case Qq => k_is)
  (case Rj => k_is)
  (case Rk => k_is)
  (case Rl => k_is)
  (case Qb => k_is)
  (case Pi => k_is)
  (case QD => first | rfl | k_is)
  (case QR => k_is)
  (case QU => first | rfl | k_is)
  (case Pg => k_is)
  (case Pt => first | rfl | k_is)
  (case P9 => k_is)
  (case QY => k_is)
  (case Q5 => first | rfl | k_is)
  (case Q6 => k_is)
  (case Q7 => k_is)
  (case Q8 => k_is)
  (case Q9 => k_is)
  (case Qa => k_is)
  (case RE => k_is)
  (case RF => k_is)
  (case RG => k_is)
  (case QM => k_is)
  (case Ph => k_is)
  (case Pu => first | rfl | k_is)
  (case Pe => k_is)
  (case Pn => first | rfl | k_is)
  (case Pw => k_is)
  (case Px => first | rfl | k_is)
  (case Pb => k_is)
  (case RH => k_is)
  (case RP => first | rfl | k_is)
  (case RQ => k_is)
  (case RS => k_is)
  (case RT => k_is)
  (case RU => k_is)
  (case RV => k_is)
  (case RW => k_is)
  (case RX => k_is)
  (case RY => k_is)
  (case QZ => k_is)
  (case Pj => k_is)
  (case QJ => first | rfl | k_is)
  (case QK => k_is)
  (case QL => first | rfl | k_is)
  (case Pf => k_is)
  (case Po => first | rfl | k_is)
  (case RZ => k_is)
  (case R0 => k_is)
  (case R1 => k_is)
  (case R3 => k_is)
  (case R4 => k_is)
  (case R5 => k_is)
  (case R6 => k_is)
  (case T5 => k_is)
  (case T6 => k_is)
  (case T7 => exact L2.Bx rfl rfl (by decide) (.cons ⟨_, rfl⟩ (.cons ⟨_, rfl⟩ .nil)))
  (case V1 => k_is)
  (case T8 => k_is)
  (case V2 => k_is)
  (case U7 => k_is)
  (case T9 => k_is)
  (case R7 => k_is)
  (case V3 => k_is)
  (case U8 => k_is)
  (case Ss => k_is)
  (case V4 => k_is)
  (case V5 => k_is)
  (case V6 => k_is)
  (case V7 => k_is)
  (case SM => k_is)
  (case Ro => k_is)
  (case V8 => k_is)
  (case V9 => k_is)
  (case R8 => k_is)
#print axioms PySem.Challenge.cw_ringmaze_k36_numbers_of_mazes_holds
