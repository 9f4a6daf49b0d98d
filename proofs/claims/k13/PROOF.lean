import PyProof.Rows.All
import Wide.All
import OpenK.AllK
import Wide.FinOn
import Lean
import PyProof.EqAt
import PyProof.EqKinds
import PyProof.TupleCall
import KE.LcSums
import PyProof.StrLawsJoin
import KE.KSortTup
import KE.KSortKey
import PyProof.WalkInts
import PyProof.MinMaxWalk
import KE.KRevIter
import KE.KSortedM
import PyProof.ReprLen
import KE.KDictList
import PyProof.Rows.RegReprOcc
import PySem.Challenge.RW_ringmaze_k13_the_way_told
abbrev Q8:=@PySem.wpAny_mono
abbrev Q9:=@PySem.wpAny_truthy_bool
abbrev Qa:=@PySem.wpAny_execs_nil
abbrev Qb:=@PySem.wpAny_holding
abbrev Qc:=@PySem.wpAny_standAt
abbrev Qd:=@PySem.wpAny_passesOwn
abbrev Qe:=@PySem.wpAny_pyIter_tuple
abbrev Qf:=@PySem.sizeLine_eq
abbrev Qg:=@PyProof.Rows.vals1
abbrev Qh:=@PySem.wpAny_Call_Name_kw
abbrev Qi:=@PySem.typeIs_str
abbrev Qj:=@PySem.call_meets
abbrev Qk:=@PySem.tupleKind_room_in1
abbrev Ql:=@PySem.wpAny_pyIter_enum
abbrev Qm:=@PySem.wpAny_newObj_type
abbrev Qn:=@PyProof.Rows.mirror_perm
abbrev Qo:=@PyProof.Rows.get?_update_seq
abbrev Qp:=@PyProof.Rows.seqEpoch_at
abbrev Qq:=@PySem.wpAny_newList
abbrev Qr:=@PySem.wpAny_call_entry
abbrev Qs:=@PySem.codeAny_builtin
abbrev Qu:=@PyProof.Rows.ints_getD
abbrev Qv:=@PySem.wpAny_letGo
abbrev Qw:=@PySem.wpAny_attempt
abbrev Qx:=@PySem.wpAny_dictEntries
abbrev Qy:=@PySem.wpAny_dictEpoch
abbrev Qz:=@PySem.wpAny_typeNameOfWhole_keyiter
abbrev RA:=@PySem.wpAny_fieldsOf
abbrev RB:=@PySem.wpAny_typeNameOf_keyiter
abbrev RC:=@PySem.wpAny_setField
abbrev RD:=@PySem.wpAny_seqItems
abbrev RE:=@PySem.wpAny_updateSeq
abbrev RF:=@PySem.plainId_quiet
abbrev RG:=@PySem.wpAny_field
abbrev RH:=@PySem.wpAny_pyIter_zip
abbrev RI:=@PySem.post_val_or_str
abbrev RJ:=@PySem.wpAny_setField_rec
abbrev RK:=@PySem.wpAny_typeNameOfWhole_valiter
abbrev RL:=@PySem.wpAny_typeNameOf_valiter
abbrev RM:=@if_neg
abbrev RN:=@if_pos
abbrev RO:=@decide_eq_true_eq
abbrev RP:=@decide_eq_false
abbrev RQ:=@decide_eq_true
abbrev RS:=@of_decide_eq_true
abbrev RT:=@if_true
abbrev RU:=@if_false
abbrev RV:=PySem.W.Frag
abbrev aA:=@List.length_map
abbrev aD:=@PySem.Heap.get?_push_of_some
abbrev aF:=@List.getElem?_eq_some_iff
abbrev aH:=@Nat.le_refl
abbrev aJ:=@List.getElem?_eq_getElem
abbrev aK:=@List.mem_cons
abbrev aM:=@List.mem_cons_of_mem
abbrev aN:=@PySem.Heap.lt_size
abbrev aP:=@List.getElem?_map
abbrev aQ:=@PySem.Heap.get?_push_size
abbrev aR:=@List.mem_of_getElem?
abbrev aS:=@List.size_toArray
abbrev aT:=@List.mem_map
abbrev aW:=@List.mem_append
abbrev aX:=@List.map_append
abbrev aY:=@Bool.and_eq_true
abbrev aZ:=@PySem.PassesOwn.never
abbrev a6:=@List.mem_filter
abbrev a8:=@PySem.F.plainAttrs_list
abbrev ac:=@Nat.zero_le
abbrev af:=@Bool.false_ne_true
abbrev ao:=@PySem.F.type_list_append
abbrev aq:=@PySem.F.slot_list_append
abbrev au:=@PySem.Paired.length
abbrev av:=@List.map_cons
abbrev aw:=@List.length_append
abbrev ax:=@PySem.boot_len
abbrev ay:=@Nat.lt_of_lt_of_le
abbrev bB:=@List.mem_cons_self
abbrev bC:=@Nat.ne_of_lt
abbrev bD:=@List.take_add_one
abbrev bE:=@List.flatMap_cons
abbrev bF:=@Nat.le_trans
abbrev bH:=@Option.some.inj
abbrev bO:=@List.mem_append_right
abbrev bW:=@Bool.false_eq_true
abbrev bZ:=@List.take_length
abbrev b9:=@PySem.W.mg_none_of
abbrev ba:=@Nat.le_of_lt
abbrev bc:=@List.nodup_cons
abbrev be:=@List.map_map
abbrev bj:=@List.length_take
abbrev bq:=@PyProof.Rows.boot_isinstance
abbrev bx:=@PyProof.Rows.callWith_type1
abbrev cA:=@Int.toNat_natCast
abbrev cB:=@List.not_mem_nil
abbrev cC:=@Option.map_eq_some_iff
abbrev cE:=@List.mem_append_left
abbrev cG:=@List.cons.inj
abbrev cH:=@List.append_nil
abbrev cJ:=@List.drop_eq_getElem_cons
abbrev cK:=@Array.getElem?_eq_getElem
abbrev cM:=@List.map_congr_left
abbrev cP:=@Array.getD_eq_getD_getElem?
abbrev cQ:=@List.length_cons
abbrev cS:=@List.nodup_append
abbrev cT:=@List.append_assoc
abbrev cW:=@List.length_singleton
abbrev cY:=@Array.length_toList
abbrev c6:=@List.countP_cons
abbrev c7:=@List.take_of_length_le
abbrev c8:=@List.mem_range
abbrev cf:=@List.filter_append
abbrev cv:=@List.pairwise_map
abbrev cy:=@List.length_range
abbrev dE:=@Bool.or_eq_true
abbrev dF:=@List.any_eq_true
abbrev dG:=@PySem.Heap.SameBut.update
abbrev dL:=@List.mem_singleton
abbrev dM:=@List.getElem?_of_mem
abbrev dN:=@List.getElem?_append_right
abbrev dP:=@PySem.W.kia_one
abbrev dQ:=@Bool.or_false
abbrev dU:=@PyProof.Rows.boot_list
abbrev dW:=@PySem.F.slot_dict_valueiterator_next
abbrev dY:=@PySem.mem_of_lookup
abbrev dZ:=@PyProof.Rows.boot_int
abbrev d6:=@List.perm_append_comm
abbrev d8:=@List.getElem?_eq_none
abbrev d9:=@PySem.Heap.get?_update_self
abbrev dc:=@Nat.lt_irrefl
abbrev de:=@PySem.F.slot_dict_keyiterator_next
abbrev df:=@Bool.eq_iff_iff
abbrev di:=@PyProof.Rows.boot_tuple
abbrev dk:=@Nat.le_succ
abbrev dn:=@List.perm_middle
abbrev dv:=@PySem.F.plainAttrs_str
abbrev dw:=@PySem.Heap.get?_update_other
abbrev dy:=@Array.perm_iff_toList_perm
abbrev eF:=@List.range_succ
abbrev eG:=@Int.le_refl
abbrev eQ:=@Nat.le_add_right
abbrev eR:=@List.Nodup.length_le_of_subset
abbrev eU:=@PySem.W.mg_of
abbrev eV:=@PyProof.Rows.boot_sorted
abbrev eW:=@Bool.true_and
abbrev fD:=@Bool.decide_and
abbrev fE:=@Prod.ext
abbrev fF:=@List.length_reverse
abbrev fG:=@List.getElem?_range
abbrev fM:=@List.map_nil
abbrev fQ:=@PySem.Obj.data_mapFields
abbrev fR:=@Nat.mod_two_eq_zero_or_one
abbrev fS:=@PySem.Heap.size_push
abbrev fT:=@PySem.F.slot_tuple_iterator_next
abbrev fV:=@PyProof.Rows.boot_max
abbrev fW:=@List.length_filter_le
abbrev fX:=@Array.getElem?_toList
abbrev fZ:=@List.pairwise_iff_getElem
abbrev fb:=@List.nil_append
abbrev fc:=@List.foldl_cons
abbrev fe:=@List.find?_cons
abbrev fm:=@Nat.ne_of_gt
abbrev fq:=@Nat.lt_succ_of_lt
abbrev ft:=@Nat.lt_or_ge
abbrev fw:=@Int.zero_add
abbrev fx:=@Classical.not_not
abbrev fy:=@List.getElem?_take_of_lt
abbrev fz:=@List.Pairwise.imp_of_mem
abbrev gB:=@List.replicate_succ
abbrev gC:=@PySem.Heap.get?_update_ne
abbrev gJ:=@Option.getD_some
abbrev gK:=@List.getElem_inj
abbrev gL:=@List.filter_cons_of_pos
abbrev gM:=@List.filter_cons_of_neg
abbrev gN:=@List.cons_append
abbrev gO:=@PySem.F.plain_max_loop
abbrev gT:=@PySem.Calls.spliced_cons
abbrev gU:=@Array.getElem?_eq_none
abbrev gX:=@Nat.min_le_left
abbrev gY:=@List.filter_nil
abbrev gf:=@List.any_cons
abbrev gh:=@PySem.F.type_str_join
abbrev gi:=@PySem.F.slot_str_join
abbrev gk:=@List.reverse_cons
abbrev gz:=@Array.getElem?_eq_some_iff
abbrev iG:=@Nat.le_of_eq
abbrev iH:=@PySem.Heap.size_update
abbrev iJ:=@List.getElem?_zip_eq_some
abbrev iK:=@List.getElem?_append_left
abbrev iQ:=@Bool.or_assoc
abbrev iW:=@Bool.true_eq_false
abbrev i8:=@PySem.F.plainAttrs_dict
abbrev iw:=@Ne.symm
abbrev iy:=@List.reverse_perm
abbrev iz:=@List.flatten_cons
abbrev jA:=@List.filter_eq_nil_iff
abbrev jB:=@PySem.Heap.get?_push_ne
abbrev jC:=@PySem.F.args_dict_valueiterator_next_1
abbrev jD:=@PySem.Calls.spliced_nil
abbrev jE:=@PySem.Calls.callWith_builtin
abbrev jF:=@Bool.false_and
abbrev jG:=@PySem.F.entry_dict_valueiterator_next
abbrev jJ:=@PySem.F.type_list_pop
abbrev jK:=@PySem.F.slot_list_pop
abbrev jL:=@PySem.F.slot_dict_get
abbrev jM:=@PySem.Obj.isFreed_of_fields
abbrev jN:=@List.take_append_drop
abbrev jO:=@List.eq_nil_or_concat
abbrev jP:=@List.Perm.append_left
abbrev j5:=@List.mem_flatMap
abbrev j6:=@List.lookup_cons
abbrev j7:=@List.length_drop
abbrev j8:=@List.all_eq_true
abbrev j9:=@PySem.F.args_dict_keyiterator_next_1
abbrev jp:=@List.pairwise_append
abbrev jq:=@List.map_eq_cons_iff
abbrev jr:=@List.eq_nil_of_length_eq_zero
abbrev jt:=@PySem.F.entry_dict_keyiterator_next
abbrev jx:=@Option.map_some
abbrev jy:=@List.mem_range'
abbrev jz:=@List.length_nil
abbrev kC:=@List.forIn_cons
abbrev kD:=@List.cons.injEq
abbrev kE:=@PySem.F.slot_zip_next
abbrev kF:=@PySem.F.args_tuple_iterator_next_1
abbrev kH:=@List.reverse_append
abbrev kI:=@List.getElem_of_mem
abbrev kJ:=@List.filterMap_cons
abbrev kO:=@PySem.F.entry_tuple_iterator_next
abbrev kh:=@Option.toList_some
abbrev ki:=@PySem.F.args_str_split_2
abbrev kj:=@PySem.Calls.Name_function_global
abbrev km:=@Bool.xor_false
abbrev ko:=@Bool.decide_or
abbrev ku:=@Decidable.byContradiction
abbrev lE:=@Sum.inl.inj
abbrev lF:=@Option.isSome_map
abbrev lG:=@PySem.Obj.cls_mapFields
abbrev lH:=@List.nodup_range'
abbrev lI:=@List.ext_getElem?
abbrev lJ:=@PySem.F.entry_str_split
abbrev lR:=@PySem.F.type_dict_values
abbrev lS:=@PySem.F.slot_dict_values
abbrev lT:=@Prod.mk.injEq
abbrev lU:=@Option.isSome_iff_exists
abbrev lV:=@Bool.false_or
abbrev mE:=@PySem.F.args_dict_get_3
abbrev mF:=@Nat.succ_ne_self
abbrev mG:=@List.reverse_eq_nil_iff
abbrev mH:=@List.nodup_range
abbrev mI:=@List.getElem?_replicate
abbrev mJ:=@List.flatMap_nil
abbrev mK:=@List.ext_getElem
abbrev mM:=@Int.eq_ofNat_of_zero_le
abbrev mN:=@PySem.F.slot_str_split
abbrev m6:=@PySem.Txt.slice_le
abbrev m7:=@PySem.W.cellsFrom_some
abbrev m8:=@PySem.F.type_str_split
abbrev m9:=@PySem.F.slot_str_split
abbrev md:=@PySem.F.entry_dict_get
abbrev me:=@PyProof.Rows.boot_bool
abbrev mh:=@Nat.sub_self
abbrev mi:=@List.range_succ_eq_map
abbrev mn:=@List.length_eq_one_iff
abbrev mq:=@List.getElem?_set_self
abbrev mw:=@Int.ofNat_lt
abbrev my:=@Eq.symm
abbrev nH:=@List.of_mem_zip
abbrev nI:=@List.isPerm_iff
abbrev nJ:=@List.any_append
abbrev nN:=@List.length_replicate
abbrev nO:=@List.concat_eq_append
abbrev nP:=@Array.mem_of_getElem?
abbrev oC:=@List.nodup_nil
abbrev oE:=@List.map_id
abbrev ox:=@Bool.and_true
set_option Elab.async false
set_option linter.all false
set_option maxRecDepth 100000
def PySem.W.Fast.tw3015131070833466321:Nat:=0
def PySem.W.Fast.tw11934527949727583655:Nat:=0
def PySem.W.Fast.tw467347262051001602:Nat:=0
def PySem.W.Fast.tw10399024723345257961:Nat:=0
def PySem.W.Fast.tw14565055560551833897:Nat:=0
def PySem.W.Fast.tw17775875891573178811:Nat:=0
def PySem.W.Fast.tw4717305982059574787:Nat:=0
def PySem.W.Fast.tw7901297253238056836:Nat:=0
def PySem.W.Fast.tw1722758060333066383:Nat:=0
def PySem.W.Fast.tw14627488152854528450:Nat:=0
def PySem.W.Fast.tw12432275406219500216:Nat:=0
def PySem.W.Fast.tw10051750924999081481:Nat:=0
def PySem.W.Fast.tw11941269583851817688:Nat:=0
def PySem.W.Fast.tw9721862425943027372:Nat:=0
def PySem.W.Fast.tw15719095752209047771:Nat:=0
def PySem.W.Fast.tw13513894987316587333:Nat:=0
def PySem.W.Fast.tw11577759507616795075:Nat:=0
def PySem.W.Fast.tw1166887680065541642:Nat:=0
def PySem.W.Fast.tw10473905544800814966:Nat:=0
def PySem.W.Fast.tw2534673056407605959:Nat:=0
def PySem.W.Fast.tw10705733672886131605:Nat:=0
def PySem.W.Fast.tw246760596415910115:Nat:=0
def PySem.W.Fast.tw11555787101102086424:Nat:=0
def PySem.W.Fast.tw10956182430052731498:Nat:=0
def PySem.W.Fast.tw4525746607958147253:Nat:=0
def PySem.W.Fast.tw12090240942850338648:Nat:=0
def PySem.W.Fast.tw15199811017790599526:Nat:=0
def PySem.W.Fast.tw14391636116465584423:Nat:=0
def PySem.W.Fast.tw264013236415612562:Nat:=0
def PySem.W.Fast.tw9624562110494176182:Nat:=0
def PySem.W.Fast.tw16464239640056247972:Nat:=0
def PySem.W.Fast.tw9925032251045327435:Nat:=0
def PySem.W.Fast.tw14300356578884961573:Nat:=0
def PySem.W.Fast.tw14665474959302478342:Nat:=0
def PySem.W.Fast.tw7391159617390003519:Nat:=0
def PySem.W.Fast.tw10534331832403264123:Nat:=0
def PySem.W.Fast.tw7009551269354850602:Nat:=0
def PySem.W.Fast.tw2361689924671613754:Nat:=0
def PySem.W.Fast.tw14515231774592739788:Nat:=0
def PySem.W.Fast.tw6508118574093381604:Nat:=0
def PySem.W.Fast.tw14282032402240890792:Nat:=0
def PySem.W.Fast.tw5166263154684953845:Nat:=0
def PySem.W.Fast.tw14145508316261685820:Nat:=0
def PySem.W.Fast.tw4755728099897224156:Nat:=0
def PySem.W.Fast.tw16204814881044698177:Nat:=0
def PySem.W.Fast.tw2908385495349121036:Nat:=0
namespace PySem.W.Fast
def tw12494667684159034259:=0
def tw8160964505197996214:=0
def tw5480087145907967995:=0
def tw16452566417745706245:=0
def tw1274077447574505539:=0
def tw7432082384768507802:=0
def tw8855549608413163802:=0
def tw18156719732820958271:=0
def tw13942343794894528104:=0
def tw8209996345045396519:=0
def tw12210274202483216888:=0
def tw3396592160345560656:=0
def tw10298153474091434759:=0
def tw5847447740712921416:=0
def tw10522689989783041205:=0
def tw10032109037204879634:=0
def tw2615407683162227723:=0
def tw11350404113606141964:=0
def tw7938231613942240025:=0
def tw14715793299882479776:=0
def tw14725249117600512979:=0
def tw13929655558670003718:=0
def tw11719904864736508690:=0
def tw9733480429345190705:=0
def tw9142859208230348491:=0
def tw6862799914055915968:=0
def tw11058922720921408840:=0
def tw4674156699616303762:=0
def tw10762938122410476302:=0
def tw5648965467958549902:=0
def tw9579765722602636920:=0
def tw8636370256714286531:=0
def tw8098418662307614202:=0
def tw8019121638841335505:=0
def tw493111340807449922:=0
def tw9161109877731313489:=0
def tw6556644432755687626:=0
def tw12525379431167310129:=0
def tw6978658865170214217:=0
def tw5995217720475829228:=0
def tw12673888231759031048:=0
def tw12797378843876560575:=0
def tw10358477206916803762:=0
def tw11275426589986297740:=0
def tw15656706648946774673:=0
def tw10256587744781702976:=0
def tw16564512092338709222:=0
def tw9926579258765430231:=0
def tw1512799799053392286:=0
def tw504058609660263055:=0
def tw789018598891996273:=0
def tw10908958995030669394:=0
def tw8913934309378593034:=0
def tw866997310366218859:=0
def tw526618043815166348:=0
def tw9152236229618811430:=0
def tw10174477135321006569:=0
def tw16849080362704203942:=0
def tw10746575342164189276:=0
def tw10661269904420241356:=0
def tw9586419686952848357:=0
def tw5224048836488782610:=0
def tw8905400966773902519:=0
def tw4188565439236201839:=0
def tw10182876198152706523:=0
def tw3309368187551809268:=0
def tw10512129681674687898:=0
def tw9679097238852941965:=0
def tw8528124493845524844:=0
def tw3522348756719624291:=0
def tw16308106275687750431:=0
def tw995777379043771186:=0
def tw16315937410286165910:=0
def tw17235603699111097782:=0
def tw15372732919584366583:=0
def tw8633027731777516835:=0
def tw12101499344878184780:=0
def tw5111398943673592666:=0
def tw12822130373321953692:=0
def tw3917939669921751180:=0
def tw4633001895810828995:=0
def tw12323321315543762094:=0
def tw18122479675686909753:=0
def tw16899179130013505740:=0
def tw2890534630609584100:=0
def tw14699314480809891049:=0
def tw10519979552039656773:=0
def tw10071215852050023564:=0
def tw12229444131445672636:=0
def tw4173449443286269457:=0
def tw2129047879209024309:=0
def tw3037975660987917251:=0
def tw1357800987782748593:=0
def tw362826709880454586:=0
def tw15485989363238069363:=0
def tw10396646843987880763:=0
def tw11563299915905125554:=0
def tw3580058716459036624:=0
def tw12712682723483113811:=0
def tw11241189928732259891:=0
def tw2051896256868386978:=0
def tw4039639661025330258:=0
def tw727334608697970069:=0
def tw1625118304400903783:=0
def tw7308001542569443475:=0
def tw7619351398425686967:=0
def tw2835796959192443207:=0
def tw12437504609030014246:=0
def tw14788132097272259468:=0
def tw991376514742203725:=0
def tw16940652829026481053:=0
def tw14244887832507937361:=0
def tw1844064834967936779:=0
def tw8329389667841657860:=0
def tw5541101386187659444:=0
def tw5675338813851181586:=0
def tw5494929438946489976:=0
def tw17752493519953578070:=0
def tw7520284076044031523:=0
def tw5750823455373179821:=0
def tw2632173386407012584:=0
def tw13391514108468392612:=0
def tw2695651723439826640:=0
def tw10649017032848712290:=0
def tw8062626293789110663:=0
def tw2278921507172157990:=0
def tw14629036458383605682:=0
def tw4021977137214569520:=0
def tw3141840916536033231:=0
def tw1337126976261174947:=0
def tw11827795727724686257:=0
def tw14992937433177808845:=0
def tw14012946211624577915:=0
def tw6619409062775010023:=0
def tw2366163402187505078:=0
def tw16579793352763349680:=0
def tw12668732109077079714:=0
def tw3478112566363905088:=0
def tw13419459568092851266:=0
def tw4359617354256865846:=0
def tw1553258833389592779:=0
def tw10925343315549623183:=0
def tw6380685361704601172:=0
def tw4939453094109024524:=0
def tw16627575461616099494:=0
def tw5279374511409409617:=0
def tw8623052414335563807:=0
def tw11065124587118976371:=0
def tw8352940568739793728:=0
def tw14438607788829522741:=0
def tw1489737467770960460:=0
def tw15273650985589032594:=0
def tw10889649101435319053:=0
def tw1711411578317812887:=0
def tw13105592046898773178:=0
def tw11548992804038566983:=0
def tw15611381183524654875:=0
def tw8178730914420660606:=0
def tw2070593438011769564:=0
def tw1723494881325225490:=0
def tw7343423272006195348:=0
def tw1439545799433012731:=0
def tw12692231502759925424:=0
def tw2863068626960901723:=0
def tw17851174582332980999:=0
def tw1291258627738302075:=0
def tw1598042988957033847:=0
def tw3476289395232096517:=0
def tw906459639890757391:=0
def tw7705116010839563632:=0
def tw13120744800786539437:=0
def tw15739288636548919154:=0
def tw991895040181594738:=0
def tw6257749995222245867:=0
def tw4497519754125542260:=0
def tw13414931096463304535:=0
def tw2448148042716947201:=0
def tw17048371593066696230:=0
def tw15709796119516081091:=0
def tw1998484915773585114:=0
def tw4728264939385274121:=0
def tw13169681107163768539:=0
def tw7013195165611715245:=0
def tw3493411720324024281:=0
def tw8133683719782253055:=0
def tw7314276008371847079:=0
def tw3015801679253904730:=0
def tw13906734180039120477:=0
def tw9663172125830200139:=0
def tw3106393610385201753:=0
def tw6011375148440299543:=0
def tw4398736862700000399:=0
def tw4386124632479028478:=0
def tw9564564751925296572:=0
def tw6327857996523331482:=0
def tw2349300870039990346:=0
def tw8736652129422436092:=0
def tw2140186180250548901:=0
def tw8133957622488065993:=0
def tw8682179120059388560:=0
def tw3446135514195085546:=0
def tw16976280257403731495:=0
def tw12199367588764527264:=0
def tw957312735216160568:=0
def tw718016870637238092:=0
def tw15976132159586324165:=0
def tw13700193083312455436:=0
def tw3182658806426564609:=0
def tw7765028999698874203:=0
def tw6159654943756506930:=0
def tw6013785060233746418:=0
def tw9581954246303875695:=0
def tw859413229847489866:=0
def tw17560080948357910482:=0
def tw16115340888672791012:=0
def tw9960339433892207007:=0
def tw9896714153395365803:=0
def tw9849736148509710359:=0
def tw9445771958760246463:=0
def tw922972639820478747:=0
def tw9186358216656972355:=0
def tw9146049865838548228:=0
def tw9134065594499035664:=0
def tw9120326289059640432:=0
def tw8996167750227794239:=0
def tw8948413618642154938:=0
def tw8792492497309027315:=0
def tw8678784657138035551:=0
def tw8457691678963943794:=0
def tw8312804032519984957:=0
def tw817724658707508841:=0
def tw8088913675119495978:=0
def tw8056644198211076497:=0
def tw7888551424283127245:=0
def tw7874548147440167164:=0
def tw7708335675471095825:=0
def tw702888534860810891:=0
def tw7007646739269223283:=0
def tw6977011759018555237:=0
def tw6877820886208665712:=0
def tw6799690253286899750:=0
def tw6598461721440921489:=0
def tw6451163232646327462:=0
def tw5997167987684985802:=0
def tw5970379093681116056:=0
def tw5662027431512614620:=0
def tw559245625237765190:=0
def tw5028997425618522435:=0
def tw4923391014963222421:=0
def tw4019137189286381646:=0
def tw3764756938598860614:=0
def tw3663419229612333865:=0
def tw3656929977348970809:=0
def tw3487703922110641210:=0
def tw3472306328493185772:=0
def tw3423894621273881746:=0
def tw3365653867104788670:=0
def tw3269173352935980491:=0
def tw3099096633375617624:=0
def tw2485775265307296231:=0
def tw233822627667645359:=0
def tw2314566508274897385:=0
def tw2027526556291550193:=0
def tw1905138755538813920:=0
def tw18223976798309263469:=0
def tw18077756221623150338:=0
def tw17958507042320872196:=0
def tw17900644582011701917:=0
def tw17746704683229763333:=0
def tw17523596647343071529:=0
def tw17452347721602127550:=0
def tw17257445551518984953:=0
def tw1700496419308591932:=0
def tw16591696634956073676:=0
def tw16324671377236138316:=0
def tw16171628337405217304:=0
def tw15959812732749996110:=0
def tw15958073591179604413:=0
def tw15824329664522800658:=0
def tw15531095951102892864:=0
def tw15512555870764876633:=0
def tw15504881039643254801:=0
def tw15296430796394772000:=0
def tw15040775554983233619:=0
def tw15026106393980528760:=0
def tw14897982206767317874:=0
def tw14842639205685830718:=0
def tw14652459518880031049:=0
def tw14163994960528370345:=0
def tw14000092577533933392:=0
def tw13977591465059351575:=0
def tw13846731523620296765:=0
def tw13794460564405057243:=0
def tw13361069453329206130:=0
def tw12408230145582075283:=0
def tw12337476144423957262:=0
def tw12109726132046449066:=0
def tw11990055839681299620:=0
def tw11820799436366419593:=0
def tw11695628803298409728:=0
def tw11628986319442153375:=0
def tw11582806730795256431:=0
def tw1153302054726485294:=0
def tw11530061004619424132:=0
def tw11235833606585338843:=0
def tw1114745155495053095:=0
def tw11091685856266457447:=0
def tw1064772267179733601:=0
def tw10612313369066977900:=0
def tw10555025480533704494:=0
def tw10200723607910594938:=0
def tw10027208083986500336:=0
end PySem.W.Fast
local macro_rules | `(tactic| lia) => `(tactic| first | lia -verbose | omega)
namespace L2
open PySem PySem.Spec PyProof.Rows
abbrev Key:=Sum Int Str
def ut:Key->Value->Bool
 | .inl k,v=>Value.isInt k v
 | .inr x,v=>Value.isStrOf x v
def M3(w:World):Key->Int
 | .inl k=>hashInt k
 | .inr x=>hashStr w x
theorem fi:∀{k:Key} {v:Value},ut k v=true->(∃i t,k=Sum.inl i/\v=Value.int i t)\/(∃x t,k=Sum.inr x/\v=Value.str x t)
 | .inl i,v,h=>by
  obtain⟨t,e⟩:=Value.isInt_shape (k:=i) (v:=v) h;exact .inl ⟨i,t,rfl,e⟩
 | .inr x,v,h=>by
  obtain⟨t,e⟩:=Value.isStrOf_shape (x:=x) (v:=v) h;exact .inr ⟨x,t,rfl,e⟩
theorem B4(i:Int)(t:Tok):ut (.inl i) (.int i t)=true:=by simp[ut,Value.isInt]
theorem B3(x:Str)(t:Tok):ut (.inr x) (.str x t)=true:=by simp[ut,Value.isStrOf]
theorem Jp(a b:Int):decide ((Sum.inl a:Key)=Sum.inl b)=(a==b):=by
 by_cases e:a=b
 ·subst e;simp
 ·have h:¬(Sum.inl a:Key)=Sum.inl b:=λq=>e (lE q);rw[RP h];exact(beq_eq_false_iff_ne.mpr e).symm
theorem Jm(a b:Str):decide ((Sum.inr a:Key)=Sum.inr b)=decide (a=b):=by
 by_cases e:a=b
 ·subst e;simp
 ·have h:¬(Sum.inr a:Key)=Sum.inr b:=λq=>e (Sum.inr.inj q);rw[RP h,RP e]
theorem Jo(a:Int)(b:Str):decide ((Sum.inl a:Key)=Sum.inr b)=false:=RP (λq=>nomatch q)
theorem Jn(a:Str)(b:Int):decide ((Sum.inr a:Key)=Sum.inl b)=false:=RP (λq=>nomatch q)
def fI (prog : Program) (w : World) : PySem.KeyKind prog w Key where
  is := ut
  hash := M3 w
  inj := fun v a b ha hb => by
    rcases fi ha with ⟨i, t, rfl, rfl⟩ | ⟨x, t, rfl, rfl⟩
    · rcases fi hb with ⟨j, u, rfl, e⟩ | ⟨y, u, rfl, e⟩
      · injection e with e1 _; rw [e1]
      · exact nomatch e
    · rcases fi hb with ⟨j, u, rfl, e⟩ | ⟨y, u, rfl, e⟩
      · exact nomatch e
      · injection e with e1 _; rw [e1]
  byValue := fun k v h => by
    rcases fi h with ⟨i, t, rfl, rfl⟩ | ⟨x, t, rfl, rfl⟩ <;> rfl
  pyHash := fun hv h => by
    rcases fi hv with ⟨i, t, rfl, rfl⟩ | ⟨x, t, rfl, rfl⟩
    · exact wpAny_pyHash_int h
    · exact wpAny_pyHash_str h
  eqBool := fun hu hv h => by
    rcases fi hu with ⟨i, t, rfl, rfl⟩ | ⟨x, t, rfl, rfl⟩
    · rcases fi hv with ⟨j, u, rfl, rfl⟩ | ⟨y, u, rfl, rfl⟩
      · rw [Jp] at h; exact wpAny_eqBool_int h
      · rw [Jo] at h; exact SeqAt.EqAt.int_str i t y u _ _ _ _ h
    · rcases fi hv with ⟨j, u, rfl, rfl⟩ | ⟨y, u, rfl, rfl⟩
      · rw [Jn] at h; exact SeqAt.EqAt.str_int x t j u _ _ _ _ h
      · rw [Jm] at h; exact wpAny_eqBool_str h
  «strs» := fun k x t v h => by
    rcases fi h with ⟨i, u, rfl, e⟩ | ⟨y, u, rfl, e⟩
    · exact nomatch e
    · injection e with e1 _
      subst e1
      cases v <;> rfl
theorem xO(prog:Program)(w:World)(i:Int)(t:Tok):(fI prog w).is (.inl i) (.int i t)=true:=B4 i t
theorem xN(prog:Program)(w:World)(x:Str)(t:Tok):(fI prog w).is (.inr x) (.str x t)=true:=B3 x t
inductive V where
 | non | bl (b:Bool) | int (i:Int) | str (x:Str) | byt (b:Array UInt8) | flt (b:UInt64) | ref (a:Addr) | ty (n:String)
 deriving DecidableEq
set_option genInjectivity false
def RelV:V->Value->Prop
 | .non,u=>u=Value.none
 | .bl b,u=>u=Value.bool b
 | .int i,u=>∃t,u=Value.int i t
 | .str x,u=>∃t,u=Value.str x t
 | .byt b,u=>∃t,u=Value.bytes b t
 | .flt b,u=>∃t,u=Value.float b t
 | .ref a,u=>u=Value.ref a
 | .ty n,u=>u=Value.type n
abbrev cV:List V->List Value->Prop:=Paired RelV
theorem cV.length{xs:List V}{us:List Value}(r:cV xs us):xs.length=us.length:=au r
theorem cV.get:∀{xs:List V} {us:List Value} {i:Nat} {x:V},cV xs us->xs[i]? = some x->∃u,us[i]? = some u/\RelV x u
 | _,_,_,_,.nil,e=>by simp at e
 | _,_,0,_,.cons r _,e=>by simp at e;subst e;exact⟨_,rfl,r⟩
 | _,_,i+1,x,.cons _ t,e=>by
  obtain⟨u,h1,h2⟩:=cV.get (i:=i) (x:=x) t (by simpa using e);exact⟨u,by simpa using h1,h2⟩
theorem cV.set{x:V}{u:Value}(r:RelV x u):∀{xs:List V} {us:List Value} (i:Nat),cV xs us->cV (xs.set i x) (us.set i u)
 | _,_,_,.nil=>.nil
 | _,_,0,.cons _ t=>.cons r t
 | _,_,i+1,.cons q t=>.cons q (cV.set r i t)
theorem cV.append:∀{xs ys:List V} {us ws:List Value},cV xs us->cV ys ws->cV (xs++ys) (us++ws)
 | _,_,_,_,.nil,s=>s
 | _,_,_,_,.cons r t,s=>.cons r (cV.append t s)
theorem cV.take:∀{xs:List V} {us:List Value} (n:Nat),cV xs us->cV (xs.take n) (us.take n)
 | _,_,0,_=>.nil
 | _,_,_+1,.nil=>.nil
 | _,_,n+1,.cons r t=>.cons r (cV.take n t)
theorem cV.drop:∀{xs:List V} {us:List Value} (n:Nat),cV xs us->cV (xs.drop n) (us.drop n)
 | _,_,0,r=>r
 | _,_,_+1,.nil=>.nil
 | _,_,n+1,.cons _ t=>cV.drop n t
def qw:Option V->Option Value->Prop
 | some v,some u=>RelV v u
 | none,none=>True
 | _,_=>False
def KV{κ:Type}:List (κ×V)->List (κ×Value)->Prop:=Paired λ(p:κ×V) (q:κ×Value)=>p.1=q.1/\RelV p.2 q.2
def kV:Key->V
 | .inl i=>.int i
 | .inr x=>.str x
inductive HO where
  | lst (xs:List V)
  | tup (xs:List V)
  | dK (kvs:List (Key×V)) | dT (kvs:List (List Key×V))
  | set (S:Int->Bool) (n:Nat)
  | ins (C dx:Addr) (fs:List (Str×V))
  | own (x:Addr)
  | xd (fs:List (Str×V))
  | met (f x:Addr)
  | rng (lo hi:Int)
  | frz (o:Obj) (u:HO)
  | tbl (ps:Array Value)
  | ext (φ:Heap->Prop)
abbrev Hp:=Addr->Option HO
def upd(H:Hp)(a:Addr)(o:HO):Hp:=λb=>if b=a then some o else H b
theorem aE{H:Hp}{a:Addr}{o:HO}:upd H a o a=some o:=by unfold upd;rw[RN rfl]
theorem aO{H:Hp}{a b:Addr}{o:HO}(h:b≠a):upd H a o b=H b:=by unfold upd;rw[RM h]
theorem zy{H:Hp}{a:Addr}{o u:HO}:upd (upd H a o) a u=upd H a u:=by
 funext b;unfold upd;split<;>rfl
theorem EE{H:Hp}{a b:Addr}{o u:HO}(h:H a=some o)(h':H b=some u)(d:o≠u):a≠b:=by
 intro e;subst e;rw[h] at h';exact d (bH h')
theorem am{H:Hp}{a b:Addr}{o:HO}(h:H a=some o)(h':H b=none):a≠b:=by
 intro e;subst e;rw[h] at h';cases h'
section
variable (P:Program) (w:World)
def ck (H : Hp) (h : Heap) (a : Addr) : HO → Prop
 | .lst xs => xs.length ≤ sizeLine ∧ ∃ (its : List Value) (n : Nat), cV xs its ∧ h.get? a = some { cls := .type "list", data := .seq its.toArray n }
 | .tup xs => xs.length ≤ sizeLine ∧ ∃ its : List Value, cV xs its ∧ IsTup h a its.toArray
 | .dK kvs => kvs.length ≤ sizeLine ∧ (a == sysModules) = false ∧ ∃ vs, KV kvs vs ∧ h.DictOf (fI P w) a vs
 | .dT kvs => kvs.length ≤ sizeLine ∧ (a == sysModules) = false ∧ ∃ xs : List (List Key × Addr × Value),
   Paired (fun (p : List Key × V) (q : List Key × Addr × Value) => p.1 = q.1 ∧ H q.2.1 = some (.tup (p.1.map kV)) ∧ RelV p.2 q.2.2) kvs xs ∧
   ∃ o es ep, h.get? a = some o ∧ o.ExactDict ∧ o.data = .dict es ep ∧ es.toList = xs.map (entryOfKey (tupleKind (fI P w))) ∧ (xs.map (·.1)).Nodup
 | .set S n => h.SetOf (intKind P w) a S n
 | .ins C dx fs => H dx = some (.own a) ∧ fs.length ≤ 1000 ∧ dx ≠ a ∧ h.get? a = some (PySem.W.instObj C dx) ∧
   ∃ mA, h.Ns1 dx mA ∧ (∀ f, qw (fs.lookup f) (mA f)) ∧ PySem.Within mA (fs.map (·.1))
 | .own _ => ∃ o, h.get? a = some o
 | .xd fs => ∃ mA, h.Ns1 a mA ∧ ∀ f, qw (fs.lookup f) (mA f)
 | .rng lo hi => ∃ t u v, h.get? a = some { cls := .type "range", data := .fields #[.int lo t, .int hi u, .int 1 v] }
 | .frz o u => h.get? a = some o ∧ ck H h a u
 | .tbl ps => h.get? a = some { cls := .none, data := .fields ps }
 | .met f x => h.get? a = some (PySem.W.methodObj (.ref f) (.ref x))
 | .ext φ => φ h ∧ (∃ o, h.get? a = some o) ∧ ∀ h1 h2 : Heap, φ h1 → (∀ o, h1.get? a = some o → h2.get? a = some o) → φ h2
def pP(H:Hp)(h:Heap):Prop:=∀a o,H a=some o->ck P w H h a o
end
section
variable {P:Program} {w:World} {H H':Hp} {h h':Heap} {a:Addr} {o:HO}
theorem ck.lt(x:ck P w H h a o):a<h.objs.size:=by
 cases o with
 | lst xs=>obtain⟨_,_,_,_,e⟩:=x;exact aN e
 | tup xs=>obtain⟨_,_,_,p⟩:=x;exact p.lt
 | dK kvs=>obtain⟨_,_,_,_,o,_,_,e,_⟩:=x;exact aN e
 | dT kvs=>obtain⟨_,_,_,_,o,_,_,e,_⟩:=x;exact aN e
 | set S n=>obtain⟨o,_,_,_,e,_⟩:=x;exact aN e
 | ins C dx fs=>obtain⟨_,_,_,e,_⟩:=x;exact aN e
 | own y=>obtain⟨_,e⟩:=x;exact aN e
 | xd fs=>obtain⟨_,⟨_,_,_,e,_⟩,_⟩:=x;exact aN e
 | rng lo hi=>obtain⟨_,_,_,e⟩:=x;exact aN e
 | frz ob u=>obtain⟨e,_⟩:=x;exact aN e
 | tbl ps=>exact aN (show h.get? a=some _ from x)
 | met f y=>exact aN (show h.get? a=some _ from x)
 | ext φ=>obtain⟨_,⟨_,e⟩,_⟩:=x;exact aN e
theorem Paired.mapP{α β:Type}{F G:α->β->Prop}:∀{l₁:List α} {l₂:List β},Paired F l₁ l₂->(∀a b,F a b->G a b)->Paired G l₁ l₂
 | _,_,.nil,_=>.nil
 | _,_,.cons r t,f=>.cons (f _ _ r) (Paired.mapP t f)
theorem ck.stay(x:ck P w H h a o)(k:∀b u,(b=a\/H b=some (.own a))->h.get? b=some u->h'.get? b=some u)
  (ho:∀b,H b=some (.own a)->H' b=some (.own a)) (ht:∀b xs,H b=some (.tup xs)->H' b=some (.tup xs)):ck P w H' h' a o:=by
 induction o with
 | lst xs=>obtain⟨z,its,n,r,e⟩:=x;exact⟨z,its,n,r,k _ _ (.inl rfl) e⟩
 | tup xs=>obtain⟨z,its,r,ob,e,c⟩:=x;exact⟨z,its,r,ob,k _ _ (.inl rfl) e,c⟩
 | dK kvs=>obtain⟨z,y,vs,r,ob,es,ep,e,c⟩:=x;exact⟨z,y,vs,r,ob,es,ep,k _ _ (.inl rfl) e,c⟩
 | dT kvs=>
  obtain⟨z,y,xs,r,ob,es,ep,e,c⟩:=x;exact⟨z,y,xs,Paired.mapP r λp q z=>⟨z.1,ht _ _ z.2.1,z.2.2⟩,ob,es,ep,k _ _ (.inl rfl) e,c⟩
 | set S n=>obtain⟨ob,es,ep,t,e,c⟩:=x;exact⟨ob,es,ep,t,k _ _ (.inl rfl) e,c⟩
 | ins C dx fs=>
  obtain⟨d,z,ne,e,mA,⟨od,es,ep,e2,c⟩,r⟩:=x;exact⟨ho _ d,z,ne,k _ _ (.inl rfl) e,mA,⟨od,es,ep,k _ _ (.inr d) e2,c⟩,r⟩
 | own y=>obtain⟨ob,e⟩:=x;exact⟨ob,k _ _ (.inl rfl) e⟩
 | xd fs=>obtain⟨mA,⟨od,es,ep,e,c⟩,r⟩:=x;exact⟨mA,⟨od,es,ep,k _ _ (.inl rfl) e,c⟩,r⟩
 | rng lo hi=>obtain⟨t,u,v,e⟩:=x;exact⟨t,u,v,k _ _ (.inl rfl) e⟩
 | frz ob u ih=>obtain⟨e,q⟩:=x;exact⟨k _ _ (.inl rfl) e,ih q⟩
 | tbl ps=>
  have e:h.get? a=some { cls:=.none,data:=.fields ps }:=x;show h'.get? a=some { cls:=.none,data:=.fields ps };exact k a _ (.inl rfl) e
 | met f y=>
  have e:h.get? a=some (PySem.W.methodObj (.ref f) (.ref y)):=x;show h'.get? a=some (PySem.W.methodObj (.ref f) (.ref y));exact k a _ (.inl rfl) e
 | ext φ=>obtain⟨p,⟨o,e⟩,st⟩:=x;exact⟨st _ _ p λo q=>k _ _ (.inl rfl) q,⟨o,k _ _ (.inl rfl) e⟩,st⟩
theorem pP.lt(x:pP P w H h)(e:H a=some o):a<h.objs.size:=(x a o e).lt
theorem pP.fresh(x:pP P w H h)(e:h.objs.size<=a):H a=none:=by
 cases q:H a with
 | none=>rfl
 | some u=>exact absurd (ay (x.lt q) e) (dc _)
theorem pP.kept(x:pP P w H h)(k:∀b u,h.get? b=some u->h'.get? b=some u):pP P w H h':=λa o e=>
 (x a o e).stay (λb u _ q=>k b u q) (λ_ q=>q) λ_ _ q=>q
theorem pP.laid(x:pP P w H h)(k:∀b u,h.get? b=some u->h'.get? b=some u)(hp:h.objs.size<=a)(new:ck P w (upd H a o) h' a o):pP P w (upd H a o) h':=λb u e=>by
 have hn:=x.fresh hp;by_cases hb:b=a
 ·subst hb;rw[aE] at e;cases e;exact new
 ·rw[aO hb] at e;exact(x b u e).stay (λc v _ q=>k c v q) (λc q=>by rw[aO (am q hn)];exact q) λc xs q=>by rw[aO (am q hn)];exact q
end
def Rd(H:Hp)(a:Addr)(u:HO):Prop:=H a=some u\/∃o,H a=some (.frz o u)
theorem Rd.ok{P:Program}{w:World}{H:Hp}{h:Heap}{a:Addr}{u:HO}(r:Rd H a u)(x:pP P w H h):ck P w H h a u:=by
 rcases r with r | ⟨o,r⟩
 ·exact x a u r
 ·obtain⟨_,q⟩:=x a _ r;exact q
def Lm:Option HO->Prop
 | some (.lst _)=>True
 | some (.dK _)=>True
 | some (.dT _)=>True
 | some (.set _ _)=>True
 | some (.ins _ _ _)=>True
 | some (.ext _)=>True
 | _=>False
section
variable {P:Program} {w:World} {H:Hp} {h h':Heap} {x e:Addr} {o':HO}
theorem pP.write(ok:pP P w H h)(mu:Lm (H x))(he:e=x\/H e=some (.own x))(k:∀b u,b≠e->h.get? b=some u->h'.get? b=some u)(heo:∃u,h'.get? e=some u)
  (new:ck P w (upd H x o') h' x o'):pP P w (upd H x o') h':=λb u q=>by
 have nown:∀c y,H c=some (.own y)->c≠x:=λc y r z=>by subst z;rw[r] at mu;exact mu
 have ntup:∀c xs,H c=some (.tup xs)->c≠x:=λc xs r z=>by subst z;rw[r] at mu;exact mu
 by_cases hb:b=x
 ·subst hb;rw[aE] at q;cases q;exact new
 ·rw[aO hb] at q;by_cases hbe:b=e
  ·have q':H b=some (.own x):=by
    rcases he with z | z
    ·exact absurd (hbe.trans z) hb
    ·rw[hbe];exact z
   rw[q] at q';cases q';obtain⟨v,hv⟩:=heo;exact⟨v,by rw[hbe];exact hv⟩
  ·refine(ok b u q).stay (λc v hc r=>k c v ?_ r) (λc r=>by rw[aO (nown c b r)];exact r) λc xs r=>by rw[aO (ntup c xs r)];exact r
   rcases hc with rfl | hc
   ·exact hbe
   ·rintro rfl;rcases he with z | z
    ·exact nown c b hc z
    ·rw[hc] at z;cases z;exact hb rfl
end
structure Un (fs ex:List Addr) (H H':Hp) (h h':Heap):Prop where
 keep:∀ b o,h.get? b=some o->H b=none->b∉fs->b∉ex->h'.get? b=some o
 slot:∀ b o,h.get? b=some o->H b=none->b∈fs->b∉ex->∃ sl,h'.get? b=some { o with slots:=sl }
 free:∀ b o,h.get? b=some o->H b=none->b∉ex->H' b=none
 there:∀ b o,h.get? b=some o->b∉ex->∃ o',h'.get? b=some o'
 tups:∀ b xs,H b=some (.tup xs)->H' b=some (.tup xs)
 frzs:∀ b o u,H b=some (.frz o u)->H' b=some (.frz o u)
 tbls:∀ b ps,H b=some (.tbl ps)->∃ more,H' b=some (.tbl (ps++more))
section
variable {fs ex:List Addr} {H H1:Hp} {h h1 h':Heap} {a x e:Addr} {o:HO}
theorem Un.any(u:Un fs ex H H1 h h1){b:Addr}{ob:Obj}(q:h.get? b=some ob)(n:H b=none)(hx:b∉ex):∃sl,h1.get? b=some { ob with slots:=sl }:=by
 by_cases hb:b∈fs
 ·exact u.slot b ob q n hb hx
 ·exact⟨ob.slots,u.keep b ob q n hb hx⟩
theorem Un.kept(k:∀b u,h.get? b=some u->h'.get? b=some u):Un fs ex H H h h':=
 ⟨λb ob q _ _ _=>k b ob q,λb ob q _ _ _=>⟨ob.slots,k b ob q⟩,λ_ _ _ n _=>n,λb ob q _=>⟨ob,k b ob q⟩,λ_ _ q=>q,λ_ _ _ q=>q,λ_ ps q=>⟨#[],by rw[q];simp⟩⟩
theorem Un.refl:Un fs ex H H h h:=Un.kept λ_ _ q=>q
theorem Un.laid(k:∀b u,h.get? b=some u->h'.get? b=some u)(hp:h.objs.size<=a)(hn:H a=none):Un fs ex H (upd H a o) h h' where
 keep:=λb u q _ _ _=>k b u q
 slot:=λb u q _ _ _=>⟨u.slots,k b u q⟩
 free:=λb u q n _=>by rw[aO (bC (ay (aN q) hp))];exact n
 there:=λb u q _=>⟨u,k b u q⟩
 tups:=λb xs q=>by rw[aO (am q hn)];exact q
 frzs:=λb u xs q=>by rw[aO (am q hn)];exact q
 tbls:=λb ps q=>⟨#[],by rw[aO (am q hn),q];simp⟩
theorem Un.write(mu:Lm (H x))(he:e=x\/H e=some (.own x))(k:∀b u,b≠e->h.get? b=some u->h'.get? b=some u)(heo:∃u,h'.get? e=some u):Un fs ex H (upd H x o) h h':=by
 have hx:∀b,H b=none->b≠x:=λb n z=>by subst z;rw[n] at mu;exact mu
 have hb:∀b,H b=none->b≠e:=λb n z=>by
  subst z;rcases he with r | r
  ·exact hx b n r
  ·rw[n] at r;cases r
 have hm:∀b u,H b=some u->¬Lm (some u)->b≠x:=λb u q nm z=>by subst z;rw[q] at mu;exact nm mu
 refine⟨λb u q n _ _=>k b u (hb b n) q,λb u q n _ _=>⟨u.slots,k b u (hb b n) q⟩,λb u q n _=>by rw[aO (hx b n)];exact n,λb u q _=>?_,
  λb xs q=>by rw[aO (hm b _ q λz=>z)];exact q,λb u xs q=>by rw[aO (hm b _ q λz=>z)];exact q,λb ps q=>⟨#[],by rw[aO (hm b _ q λz=>z),q];simp⟩⟩
 by_cases hbe:b=e
 ·subst hbe;exact heo
 ·exact⟨u,k b u hbe q⟩
end
def Lx(h:Heap)(H:Hp):List Addr:=(List.range h.objs.size).filter λa=>(H a).isSome
def vq(h:Heap)(H:Hp):Heap:=PySem.W.hideAll h (Lx h H)
theorem B8(h:Heap)(H:Hp):(vq h H).objs.size=h.objs.size:=PySem.W.hideAll_size _ _
theorem E2{h:Heap}{H:Hp}{b:Addr}{o:Obj}(e:h.get? b=some o)(n:H b=none):(vq h H).get? b=some o:=
 PySem.W.hideAll_get _ e λhm=>by
  have q:(H b).isSome=true:=(a6.mp hm).2;rw[n] at q;simp at q
theorem GR{h:Heap}{H:Hp}{b:Addr}{o:Obj}(e:(vq h H).get? b=some o):h.get? b=some o/\H b=none:=by
 have e':h.get? b=some o:=PySem.W.of_hideAll (Lx h H) e;refine⟨e',?_⟩;cases q:H b with
 | none=>rfl
 | some x=>
  have hm:b∈Lx h H:=a6.mpr ⟨c8.mpr (aN e'),by simp[q]⟩;have z:(vq h H).get? b=none:=PySem.W.hideAll_none (Lx h H) hm;rw[z] at e;cases e
def Gw(g h:Heap)(L:Addr):List (Addr×Obj):=(List.range h.objs.size).filterMap λa=>if a=L\/(g.get? a).isSome=true then none else (h.get? a).map λo=>(a,o)
def rest(g h:Heap)(L d:Addr):List (Addr×Obj):=(Gw g h L).filter λp=>decide (p.1≠d)
structure Mod (K:RV) (mg:Str->Option Value) (base:Heap):Prop where
 kin:K.In base
 glob:base.Ns mainGlobals mg
 blt:∃ mb,base.Ns builtinsNs mb/\∀ x:Str,x≠"__name__"->mb x=bootBuiltins x
 nolimit:base.NoLimit
structure Cx where
 prog:Program
 w:World
 K:RV
 mg:Str->Option Value
 base:Heap
 A:Around
 N:List Str
 s₀:Shared
 H₀:Hp
 env:Env
 outer:List Env
 stack:List Env
 ex:List Addr
 fn:Str->Bool
 calm:Bool
 pn:List (Addr×Obj)
 xe:Value->Shared->Prop
def zQ(l:List Env):List Addr:=l.filterMap (·.frame)
abbrev Cx.fs (X:Cx):List Addr:=zQ X.outer
def Lj(sc:Scope)(x:Str):Prop:=sc.names.lookup x=some .local\/sc.names.lookup x=some .cell\/sc.names.lookup x=some .free
def Loc(sc:Scope)(x:Str):Prop:=sc.names.lookup x=some .local\/sc.names.lookup x=some .cell
def Look(env:Env)(h:Heap)(m:Str->Option Value)(x:Str)(u:Value):Prop:=
 (env.kindOf x=some .local/\m x=some u)\/((env.kindOf x=some .cell\/env.kindOf x=some .free)/\∃c,env.cells.lookup x=some c/\h.IsCell c (some u))
structure Cx.Ok (X:Cx):Prop where
 mod:Mod X.K X.mg X.base
 kind:X.env.scope.kind=.function
 glob:X.env.globals=mainGlobals
 blt:X.env.builtins=builtinsNs
 above:X.s₀.heap.objs.size<=X.env.locals
 inj:∀ x y c,X.env.cells.lookup x=some c->X.env.cells.lookup y=some c->x=y
 has:∀ x,(X.env.kindOf x=some .cell\/X.env.kindOf x=some .free)->∃ c,X.env.cells.lookup x=some c
 cab:∀ x c,X.fn x=true->X.env.cells.lookup x=some c->X.s₀.heap.objs.size<=c
 hd:X.calm=true->X.A.handled=none
 frames:X.A.frames=some X.stack
 stk:X.stack=X.outer\/(X.stack=X.env::X.outer/\X.env.frame=some X.env.locals)
 exf:∀ b∈X.ex,b≠X.env.locals/\∀ x c,X.env.cells.lookup x=some c->c≠b
 bs:∀ b o,X.base.get? b=some o->X.s₀.heap.get? b=some o/\X.H₀ b=none
 bsz:X.base.objs.size<=X.s₀.heap.objs.size
 noex:∀ b o,X.base.get? b=some o->b∉X.ex
 exfs:∀ b∈X.ex,b∉X.fs
 funs:X.s₀.heap.FunFrames X.base X.outer
 frf:∀ b∈X.fs,X.H₀ b=none
structure bv (X:Cx) (pins:List (Addr×Obj)) (σ:List (Option V)) (H:Hp) (s:Shared):Prop where
 ok:X.Ok
 os:s.os=X.s₀.os
 bare:AllBare s.gens
 base:Un X.fs X.ex X.H₀ H X.s₀.heap s.heap
 loc:∃ m,s.heap.Ns X.env.locals m/\∀ (i:Nat) (x:Str) (v:V),X.N[i]? = some x->σ[i]? = some (some v)->Lj X.env.scope x->∃ u,RelV v u/\Look X.env s.heap m x u
 cell:∀ x c,X.env.cells.lookup x=some c->∃ v,s.heap.IsCell c v
 free:H X.env.locals=none
 freeC:∀ x c,X.env.cells.lookup x=some c->H c=none
 pin:∀ p∈X.pn++pins,s.heap.get? p.1=some p.2/\H p.1=none/\p.1≠X.env.locals/\p.1∉X.fs/\∀ v,p.2.data≠.cell v
 hok:pP X.prog X.w H s.heap
 len:σ.length=X.N.length
section
variable {X:Cx} {pins:List (Addr×Obj)} {σ:List (Option V)} {H H':Hp} {s:Shared} {h':Heap}
theorem Cx.Ok.nofr(ok:X.Ok){b:Addr}{o:Obj}(e:X.base.get? b=some o):b∉X.fs:=λhb=>by
 have:=(ok.funs.mem hb).1;rw[e] at this;cases this
theorem bv.bs(I:bv X pins σ H s):∀b o,X.base.get? b=some o->s.heap.get? b=some o/\H b=none:=λb o e=>
 ⟨I.base.keep b o (I.ok.bs b o e).1 (I.ok.bs b o e).2 (I.ok.nofr e) (I.ok.noex b o e),I.base.free b o (I.ok.bs b o e).1 (I.ok.bs b o e).2 (I.ok.noex b o e)⟩
theorem bv.bk(I:bv X pins σ H s):∀b o,X.base.get? b=some o->s.heap.get? b=some o:=λb o e=>(I.bs b o e).1
theorem bv.mod(I:bv X pins σ H s):Mod X.K X.mg X.base:=I.ok.mod
theorem bv.kIn(I:bv X pins σ H s):X.K.In s.heap:=I.ok.mod.kin.keeps I.bk
theorem bv.lt(I:bv X pins σ H s):X.env.locals<s.heap.objs.size:=let ⟨_,hn,_⟩:=I.loc;hn.lt
theorem bv.sz(I:bv X pins σ H s):X.s₀.heap.objs.size<=s.heap.objs.size:=bF I.ok.above (ba I.lt)
theorem bv.nofs(I:bv X pins σ H s){a:Addr}(h:s.heap.objs.size<=a):a∉X.fs:=λhb=>by
 obtain⟨_,o,ho,_⟩:=I.ok.funs.mem hb;exact absurd (ay (aN ho) (bF I.sz h)) (dc _)
theorem bv.cne(I:bv X pins σ H s):∀x c,X.env.cells.lookup x=some c->c≠X.env.locals:=λx c e z=>by
 obtain⟨v,o,ho,hd⟩:=I.cell x c e;obtain⟨m,⟨o',es,ep,ho',hd',_⟩,_⟩:=I.loc;rw[z,ho'] at ho;cases ho;rw[hd'] at hd;cases hd
theorem bv.funs(I:bv X pins σ H s):s.heap.FunFrames X.base X.outer:=by
 have all:∀(l:List Env),(∀b∈zQ l,b∈X.fs)->X.s₀.heap.FunFrames X.base l->s.heap.FunFrames X.base l:=by
  intro l
  induction l with
  | nil=>intro _ _;trivial
  | cons env r ih=>
   intro hs hl;obtain⟨hk,⟨L,o,hf,hn,ho,hd⟩,hr⟩:=hl;have hL:L∈X.fs:=hs L (by unfold zQ;rw[kJ,hf];exact bB);obtain⟨sl,e⟩:=I.base.slot L o ho (I.ok.frf L hL) hL λz=>I.ok.exfs L z hL;exact⟨hk,⟨L,_,hf,hn,e,hd⟩,ih (λb hb=>hs b (by unfold zQ;rw[kJ,hf];exact aM _ hb)) hr⟩
 exact all X.outer (λ_ hb=>hb) I.ok.funs
theorem bv.stack(I:bv X pins σ H s):s.heap.FunFrames X.base X.stack:=by
 rcases I.ok.stk with e | ⟨e,hf⟩
 ·rw[e];exact I.funs
 ·rw[e];obtain⟨m,hn,_⟩:=I.loc;refine .cons (by rw[I.ok.kind];decide) hf hn ?_ I.funs;exact Heap.get?_none_of_le (bF I.ok.bsz I.ok.above)
theorem bv.stkSub(I:bv X pins σ H s):∀b∈zQ X.stack,b∈X.env.locals::X.fs:=λb hb=>by
 rcases I.ok.stk with e | ⟨e,hf⟩
 ·rw[e] at hb;exact aM _ hb
 ·rw[e] at hb;unfold zQ at hb;rw[kJ,hf] at hb;exact hb
theorem bv.stkFree(I:bv X pins σ H s):∀b∈zQ X.stack,H b=none:=λb hb=>by
 rcases aK.mp (I.stkSub b hb) with e | hb
 ·rw[e];exact I.free
 ·obtain⟨_,o,ho,_⟩:=I.ok.funs.mem hb;exact I.base.free b o ho (I.ok.frf b hb) λz=>I.ok.exfs b z hb
theorem bv.step{g':Array GenState}{t':Nat}{d':Drawn}{ch:List Addr}(I:bv X pins σ H s)
  (hch:∀b∈ch,(b∈X.ex\/X.s₀.heap.objs.size<=b)/\b≠X.env.locals/\(∀x c,X.env.cells.lookup x=some c->c≠b)/\∀p∈X.pn++pins,p.1≠b)
  (keep:∀b o,b≠X.env.locals->b∉X.fs->b∉ch->s.heap.get? b=some o->H b=none->h'.get? b=some o)
  (slot:∀b o,b≠X.env.locals->b∈X.fs->b∉ch->s.heap.get? b=some o->H b=none->∃sl,h'.get? b=some { o with slots:=sl }) (free:∀b o,b∉ch->s.heap.get? b=some o->H b=none->H' b=none)
  (there:∀b o,b∉ch->s.heap.get? b=some o->∃o',h'.get? b=some o')
  (tups:∀b xs,H b=some (.tup xs)->H' b=some (.tup xs)) (frzs:∀b o u,H b=some (.frz o u)->H' b=some (.frz o u)) (tbls:∀b ps,H b=some (.tbl ps)->∃more,H' b=some (.tbl (ps++more)))
  (ns:∀m,s.heap.Ns X.env.locals m->h'.Ns X.env.locals m) (hok:pP X.prog X.w H' h') (hg:AllBare g') :
  bv X pins σ H' { s with heap:=h',gens:=g',drawn:=d',toks:=t' }:=by
 have neL:∀b o,X.s₀.heap.get? b=some o->b≠X.env.locals:=λb o e=>bC (ay (aN e) I.ok.above);have neC:∀b o,X.s₀.heap.get? b=some o->b∉X.ex->b∉ch:=λb o e hx hb=>by
  rcases(hch b hb).1 with z | z
  ·exact hx z
  ·exact absurd (ay (aN e) z) (dc _)
 have cellK:∀x c,X.env.cells.lookup x=some c->∀v,s.heap.IsCell c v->h'.IsCell c v:=λx c e v ⟨o,ho,hd⟩=>by
  have nch:c∉ch:=λz=>(hch c z).2.2.1 x c e rfl;by_cases hc:c∈X.fs
  ·obtain⟨sl,q⟩:=slot c o (I.cne x c e) hc nch ho (I.freeC x c e);exact⟨_,q,hd⟩
  ·exact⟨o,keep c o (I.cne x c e) hc nch ho (I.freeC x c e),hd⟩
 refine⟨I.ok,I.os,hg,⟨λb o e n hb hx=>?_,λb o e n hb hx=>?_,λb o e n hx=>?_,λb o e hx=>?_,λb xs e=>tups b xs (I.base.tups b xs e),λb o xs e=>frzs b o xs (I.base.frzs b o xs e),λb ps e=>?_⟩,?_,λx c e=>?_,?_,λx c e=>?_,λp hp=>?_,hok,I.len⟩
 ·exact keep b o (neL b o e) hb (neC b o e hx) (I.base.keep b o e n hb hx) (I.base.free b o e n hx)
 ·obtain⟨sl,e1⟩:=I.base.slot b o e n hb hx;obtain⟨sl',e2⟩:=slot b _ (neL b o e) hb (neC b o e hx) e1 (I.base.free b o e n hx);exact⟨sl',e2⟩
 ·obtain⟨o',e1⟩:=I.base.there b o e hx;exact free b o' (neC b o e hx) e1 (I.base.free b o e n hx)
 ·obtain⟨o',e1⟩:=I.base.there b o e hx;exact there b o' (neC b o e hx) e1
 ·obtain⟨m1,e1⟩:=I.base.tbls b ps e;obtain⟨m2,e2⟩:=tbls b _ e1;exact⟨m1++m2,by rw[e2,Array.append_assoc]⟩
 ·obtain⟨m,hn,hl⟩:=I.loc;refine⟨m,ns m hn,λi x v e1 e2 e3=>?_⟩;obtain⟨u,r,l⟩:=hl i x v e1 e2 e3;refine⟨u,r,?_⟩;rcases l with l | ⟨k,c,e,z⟩
  ·exact .inl l
  ·exact .inr ⟨k,c,e,cellK x c e _ z⟩
 ·obtain⟨v,z⟩:=I.cell x c e;exact⟨v,cellK x c e v z⟩
 ·obtain⟨m,⟨o,_,_,ho,_⟩,_⟩:=I.loc;exact free _ o (λz=>(hch _ z).2.1 rfl) ho I.free
 ·obtain⟨v,o,ho,hd⟩:=I.cell x c e;exact free c o (λz=>(hch c z).2.2.1 x c e rfl) ho (I.freeC x c e)
 ·obtain⟨e,n,ne,nf,d⟩:=I.pin p hp;have nch:p.1∉ch:=λz=>(hch p.1 z).2.2.2 p hp rfl;exact⟨keep p.1 p.2 ne nf nch e n,free p.1 p.2 nch e n,ne,nf,d⟩
theorem bv.un{t':Nat}(I:bv X pins σ H s)(u:Un X.fs [] H H' s.heap h')(hok:pP X.prog X.w H' h'):bv X pins σ H' { s with heap:=h',toks:=t' }:=by
 obtain⟨m,⟨o,es,ep,ho,r⟩,_⟩:=id I.loc;obtain⟨sl,hL⟩:=u.any ho I.free (by simp);exact I.step (g':=s.gens) (d':=s.drawn) (ch:=[]) (λ_ z=>nomatch z) (λb o _ hb _ e n=>u.keep b o e n hb (by simp)) (λb o _ hb _ e n=>u.slot b o e n hb (by simp)) (λb o _ e n=>u.free b o e n (by simp)) (λb o _ e=>u.there b o e (by simp)) u.tups u.frzs u.tbls (λm' hm=>by
  obtain⟨o',es',ep',ho',r'⟩:=hm;rw[ho] at ho';cases ho';exact⟨_,es',ep',hL,r'⟩) hok I.bare
theorem bv.call{g':Array GenState}{t':Nat}{d':Drawn}{ch:List Addr}(I:bv X pins σ H s)(u:Un (zQ X.stack) ch H H' s.heap h')(hok:pP X.prog X.w H' h')(hg:AllBare g')
  (hch:∀b∈ch,(b∈X.ex\/X.s₀.heap.objs.size<=b)/\b≠X.env.locals/\(∀x c,X.env.cells.lookup x=some c->c≠b)/\∀p∈X.pn++pins,p.1≠b) :
  bv X pins σ H' { s with heap:=h',gens:=g',drawn:=d',toks:=t' }:=by
 obtain⟨m,⟨o,es,ep,ho,r⟩,_⟩:=id I.loc;obtain⟨sl,hL⟩:=u.any ho I.free λz=>(hch _ z).2.1 rfl;exact I.step (ch:=ch) hch (λb o hL hb hc e n=>u.keep b o e n (λz=>(aK.mp (I.stkSub b z)).elim hL hb) hc) (λb o _ _ hc e n=>u.any e n hc) (λb o hc e n=>u.free b o e n hc) (λb o hc e=>u.there b o e hc) u.tups u.frzs u.tbls (λm' hm=>by
  obtain⟨o',es',ep',ho',r'⟩:=hm;rw[ho] at ho';cases ho';exact⟨_,es',ep',hL,r'⟩) hok hg
theorem bv.turned{t':Nat}{it:Addr}(I:bv X pins σ H s)(k:∀b o,b≠it->s.heap.get? b=some o->h'.get? b=some o)(hn:H it=none)(hL:it≠X.env.locals)
  (h1:it∈X.ex\/X.s₀.heap.objs.size<=it) (h2:∀x c,X.env.cells.lookup x=some c->c≠it) (h3:∀p∈X.pn++pins,p.1≠it):bv X pins σ H { s with heap:=h',toks:=t' }:=by
 have nit:∀b u,H b=some u->b≠it:=λb u e z=>by rw[z,hn] at e;cases e
 refine I.step (g':=s.gens) (d':=s.drawn) (ch:=[it]) (λb hb=>?_) (λb o _ _ hc e _=>k b o (λz=>hc (by simp[z])) e) (λb o _ _ hc e _=>⟨o.slots,k b o (λz=>hc (by simp[z])) e⟩) (λ_ _ _ _ n=>n)
  (λb o hc e=>⟨o,k b o (λz=>hc (by simp[z])) e⟩) (λ_ _ e=>e) (λ_ _ _ e=>e) (λb ps e=>⟨#[],by rw[e];simp⟩) (λm hm=>?_) (λb u e=>?_) I.bare
 ·have e:b=it:=by simpa using hb
  subst e;exact⟨h1,hL,h2,h3⟩
 ·obtain⟨o,es,ep,ho,r⟩:=hm;exact⟨o,es,ep,k _ o (iw hL) ho,r⟩
 ·refine(I.hok b u e).stay (λc v hc q=>k c v ?_ q) (λ_ q=>q) λ_ _ q=>q;rcases hc with z | z
  ·rw[z];exact nit b u e
  ·exact nit c _ z
theorem bv.tok(I:bv X pins σ H s)(t:Nat):bv X pins σ H { s with toks:=t }:=I.un (h':=s.heap) (t':=t) Un.refl I.hok
theorem bv.kept{t':Nat}(I:bv X pins σ H s)(k:∀b u,s.heap.get? b=some u->h'.get? b=some u):bv X pins σ H { s with heap:=h',toks:=t' }:=I.un (Un.kept k) (I.hok.kept k)
theorem bv.laid{a:Addr}{o:HO}{t':Nat}(I:bv X pins σ H s)(k:∀b u,s.heap.get? b=some u->h'.get? b=some u)(hp:s.heap.objs.size<=a)(new:ck X.prog X.w (upd H a o) h' a o):
  bv X pins σ (upd H a o) { s with heap:=h',toks:=t' }:=I.un (Un.laid k hp (I.hok.fresh hp)) (I.hok.laid k hp new)
theorem bv.write{x e:Addr}{o:HO}{t':Nat}(I:bv X pins σ H s)(mu:Lm (H x))(he:e=x\/H e=some (.own x))(k:∀b u,b≠e->s.heap.get? b=some u->h'.get? b=some u)(heo:∃u,h'.get? e=some u)
  (new:ck X.prog X.w (upd H x o) h' x o):bv X pins σ (upd H x o) { s with heap:=h',toks:=t' }:=I.un (Un.write mu he k heo) (I.hok.write mu he k heo new)
theorem bv.pins_of{pins':List (Addr×Obj)}(I:bv X pins σ H s)(h:∀p∈pins',s.heap.get? p.1=some p.2/\H p.1=none/\p.1≠X.env.locals/\p.1∉X.fs/\∀v,p.2.data≠.cell v):bv X pins' σ H s:=
 ⟨I.ok,I.os,I.bare,I.base,I.loc,I.cell,I.free,I.freeC,λp hp=>(aW.mp hp).elim (λz=>I.pin p (cE _ z)) (h p),I.hok,I.len⟩
theorem xH{N:List Str}(hN:N.Nodup){i j:Nat}{x:Str}(a:N[i]? = some x)(b:N[j]? = some x):i=j:=by
 obtain⟨h1,e1⟩:=aF.mp a;obtain⟨h2,e2⟩:=aF.mp b;exact(gK hN).mp (e1.trans e2.symm)
theorem qN{M:Model}{A:Around}{E:Value->Shared->Prop}{i:Nat}{x:Str}{v:V}{u:Value}{Q:Unit->Shared->Prop}(I:bv X pins σ H s)(hN:X.N.Nodup)(hi:X.N[i]? = some x)(hx:Loc X.env.scope x)(r:RelV v u)
  (h:∀s',bv X pins (σ.set i (some v)) H s'->(∃a,Heap.SameBut a s.heap s'.heap/\(a=X.env.locals\/X.env.cells.lookup x=some a))->Q () s') (hf:X.fn x=true\/X.env.scope.names.lookup x=some .local:=by first | exact .inl rfl | exact .inr rfl | assumption):wpAny M A (storeName X.env x u) Q E s:=by
 obtain⟨m,hn,hl⟩:=id I.loc;have hcls:(X.env.scope.kind==.class || (X.env.scope.kind==.module&&X.env.locals != X.env.globals))=false:=by rw[I.ok.kind];rfl
 have hiσ:i<σ.length:=by rw[I.len];exact(aF.mp hi).1
 have cne:=I.cne;have tracked:∀{a:Addr} {h':Heap},(∃o,s.heap.get? a=some o/\H a=none)->Heap.SameBut a s.heap h'->pP X.prog X.w H h':=fun {a h'} ha hs b ob e=>by
  obtain⟨_,_,hfree⟩:=ha;refine(I.hok b ob e).stay (λc w' hc q=>(hs.2 c ?_).trans q) (λ_ q=>q) λ_ _ q=>q;rintro rfl;rcases hc with rfl | hc
  ·rw[hfree] at e;cases e
  ·rw[hfree] at hc;cases hc
 rcases hx with hk | hk
 ·refine wpAny_storeName_local hk hn (λh' hn' hs=>?_) hcls;obtain⟨oL,_,_,hoL,_⟩:=id hn;refine h _ ⟨I.ok,I.os,I.bare,⟨λb o e n hb hx=>?_,λb o e n hb hx=>?_,I.base.free,λb o e hx=>?_,I.base.tups,I.base.frzs,I.base.tbls⟩,⟨_,hn',λj y v' e1 e2 e3=>?_⟩,λy c e=>?_,I.free,I.freeC,λp hp=>?_,tracked ⟨oL,hoL,I.free⟩ hs,by simpa using I.len⟩ ⟨_,hs,.inl rfl⟩
  ·exact(hs.2 b (bC (ay (aN e) I.ok.above))).trans (I.base.keep b o e n hb hx)
  ·obtain⟨sl,e1⟩:=I.base.slot b o e n hb hx;exact⟨sl,(hs.2 b (bC (ay (aN e) I.ok.above))).trans e1⟩
  ·obtain⟨o',e1⟩:=I.base.there b o e hx;exact⟨o',(hs.2 b (bC (ay (aN e) I.ok.above))).trans e1⟩
  ·by_cases hj:j=i
   ·subst hj;rw[hi] at e1;cases e1;rw[mq hiσ] at e2;cases e2;exact⟨u,r,.inl ⟨hk,by simp⟩⟩
   ·rw[List.getElem?_set_ne (iw hj)] at e2;obtain⟨u',r',q⟩:=hl j y v' e1 e2 e3;refine⟨u',r',?_⟩;rcases q with ⟨k,e⟩ | ⟨k,c,e,z⟩
    ·refine .inl ⟨k,?_⟩;have:y≠x:=λe=>hj (xH hN e1 (e▸hi));simp[this,e]
    ·exact .inr ⟨k,c,e,z.sameBut hs (cne y c e)⟩
  ·obtain⟨w',z⟩:=I.cell y c e;exact⟨w',z.sameBut hs (cne y c e)⟩
  ·obtain⟨e,n,ne,nf,d⟩:=I.pin p hp;exact⟨(hs.2 p.1 ne).trans e,n,ne,nf,d⟩
 ·have hfn:X.fn x=true:=by
   rcases hf with z | z
   ·exact z
   ·rw[z] at hk;cases hk
  obtain⟨c,hc⟩:=I.ok.has x (.inl hk);obtain⟨w',z⟩:=I.cell x c hc;refine wpAny_storeName_cell I.ok.kind hk hc z (λh' hc' hs=>?_);obtain⟨oc,hoc,hocd⟩:=id z;refine h { s with heap:=h' } ⟨I.ok,I.os,I.bare,⟨λb o e n hb hx=>?_,λb o e n hb hx=>?_,I.base.free,λb o e hx=>?_,I.base.tups,I.base.frzs,I.base.tbls⟩,⟨m,hn.sameBut hs (iw (cne x c hc)),λj y v' e1 e2 e3=>?_⟩,λy c' e=>?_,I.free,I.freeC,λp hp=>?_,tracked ⟨oc,hoc,I.freeC x c hc⟩ hs,by simpa using I.len⟩ ⟨c,hs,.inr hc⟩
  ·exact(hs.2 b (bC (ay (aN e) (I.ok.cab x c hfn hc)))).trans (I.base.keep b o e n hb hx)
  ·obtain⟨sl,e1⟩:=I.base.slot b o e n hb hx;exact⟨sl,(hs.2 b (bC (ay (aN e) (I.ok.cab x c hfn hc)))).trans e1⟩
  ·obtain⟨o',e1⟩:=I.base.there b o e hx;exact⟨o',(hs.2 b (bC (ay (aN e) (I.ok.cab x c hfn hc)))).trans e1⟩
  ·by_cases hj:j=i
   ·subst hj;rw[hi] at e1;cases e1;rw[mq hiσ] at e2;cases e2;exact⟨u,r,.inr ⟨.inl hk,c,hc,hc'⟩⟩
   ·rw[List.getElem?_set_ne (iw hj)] at e2;obtain⟨u',r',q⟩:=hl j y v' e1 e2 e3;refine⟨u',r',?_⟩;rcases q with q | ⟨k,c',e,z'⟩
    ·exact .inl q
    ·refine .inr ⟨k,c',e,z'.sameBut hs ?_⟩;rintro rfl;exact hj (xH hN e1 (I.ok.inj _ _ _ e hc▸hi))
  ·by_cases hcc:c'=c
   ·subst hcc;exact⟨_,hc'⟩
   ·obtain⟨w2,z2⟩:=I.cell y c' e;exact⟨w2,z2.sameBut hs hcc⟩
  ·obtain⟨e,n,ne,nf,d⟩:=I.pin p hp;refine⟨(hs.2 p.1 ?_).trans e,n,ne,nf,d⟩;intro q;rw[q,hoc] at e;have q':oc=p.2:=bH e;exact d w' (by rw[<-q'];exact hocd)
theorem wK{M:Model}{A:Around}{E:Value->Shared->Prop}{i:Nat}{x:Str}{v:V}{u:Value}{Q:Unit->Shared->Prop}(I:bv X pins σ H s)(hN:X.N.Nodup)(hi:X.N[i]? = some x)(hx:Loc X.env.scope x)(r:RelV v u)
  (h:∀s',bv X pins (σ.set i (some v)) H s'->Q () s') (hf:X.fn x=true\/X.env.scope.names.lookup x=some .local:=by first | exact .inl rfl | exact .inr rfl | assumption):wpAny M A (storeName X.env x u) Q E s:=
 qN I hN hi hx r (λs' I' _=>h s' I') hf
theorem bv.call'{s':Shared}{ch:List Addr}(I:bv X pins σ H s)(ho:s'.os=s.os)(u:Un (zQ X.stack) ch H H' s.heap s'.heap)(hok:pP X.prog X.w H' s'.heap)(hg:AllBare s'.gens)
  (hch:∀b∈ch,(b∈X.ex\/X.s₀.heap.objs.size<=b)/\b≠X.env.locals/\(∀x c,X.env.cells.lookup x=some c->c≠b)/\∀p∈X.pn++pins,p.1≠b):bv X pins σ H' s':=by
 obtain⟨h',g',d',t',o'⟩:=s';have e:o'=s.os:=ho;subst e;exact I.call (g':=g') (t':=t') (d':=d') u hok hg hch
end
abbrev XK:=Value->Option Addr->Hp->Prop
abbrev St:=List (Option V)
abbrev VK:=V->Hp->Prop
abbrev TE:=St->Hp->VK->Prop
abbrev TT:=St->Hp->(Bool->Hp->Prop)->Prop
abbrev TA:=St->Hp->(List V->Hp->Prop)->Prop
structure Ends where
 nx:St->Hp->Prop
 rt:VK
 bk:St->Hp->Prop:=fun _ _=>False
 ct:St->Hp->Prop:=fun _ _=>False
abbrev TS:=Ends->St->Hp->Prop
def EP(X:Cx)(pins:List (Addr×Obj))(σ:St)(Q:VK)(u:Value)(s':Shared):Prop:=∃v H',bv X pins σ H' s'/\RelV v u/\Q v H'
def TP(X:Cx)(pins:List (Addr×Obj))(σ:St)(Q:Bool->Hp->Prop)(b:Bool)(s':Shared):Prop:=∃H',bv X pins σ H' s'/\Q b H'
def AP(X:Cx)(pins:List (Addr×Obj))(σ:St)(Q:List V->Hp->Prop)(us:List Value)(s':Shared):Prop:=∃vs H',bv X pins σ H' s'/\cV vs us/\Q vs H'
def SP(X:Cx)(pins:List (Addr×Obj))(D:Ends)(f:Flow)(s':Shared):Prop:=
 match f with
 | .next=>∃σ' H',bv X pins σ' H' s'/\D.nx σ' H'
 | .brk=>∃σ' H',bv X pins σ' H' s'/\D.bk σ' H'
 | .cont=>∃σ' H',bv X pins σ' H' s'/\D.ct σ' H'
 | .ret u=>∃v σ' H',bv X pins σ' H' s'/\RelV v u/\D.rt v H'
def PE(X:Cx)(e:Expr)(t:TE):Prop:=
 ∀(pins:List (Addr×Obj)) (s:Shared) (σ:St) (H:Hp) (Q:VK),bv X pins σ H s->t σ H Q->wpAny (model X.prog X.w) X.A (eval e X.env) (EP X pins σ Q) X.xe s
def PT(X:Cx)(e:Expr)(t:TT):Prop:=
 ∀(pins:List (Addr×Obj)) (s:Shared) (σ:St) (H:Hp) (Q:Bool->Hp->Prop),bv X pins σ H s->t σ H Q->wpAny (model X.prog X.w) X.A (isTrue e X.env (eval e X.env)) (TP X pins σ Q) X.xe s
def PW(X:Cx)(e:Expr)(t:TT):Prop:=
 ∀(whole:Sem Value) (pins:List (Addr×Obj)) (s:Shared) (σ:St) (H:Hp) (Q:Bool->Hp->Prop),bv X pins σ H s->t σ H Q->wpAny (model X.prog X.w) X.A (isTrue e X.env whole) (TP X pins σ Q) X.xe s
theorem PW.pt{X:Cx}{e:Expr}{t:TT}(h:PW X e t):PT X e t:=h _
def PA(X:Cx)(es:List Expr)(t:TA):Prop:=
 ∀(pos:Pos) (pins:List (Addr×Obj)) (s:Shared) (σ:St) (H:Hp) (Q:List V->Hp->Prop),bv X pins σ H s->t σ H Q->wpAny (model X.prog X.w) X.A (spliced (backTo pos (starEach es X.env))) (AP X pins σ Q) X.xe s
def PS(X:Cx)(st:Stmt)(t:TS):Prop:=
 ∀(pins:List (Addr×Obj)) (s:Shared) (σ:St) (H:Hp) (D:Ends),bv X pins σ H s->t D σ H->wpAny (model X.prog X.w) X.A (exec st X.env) (SP X pins D) X.xe s
def xr(X:Cx)(st:List Stmt)(t:TS):Prop:=
 ∀(pins:List (Addr×Obj)) (s:Shared) (σ:St) (H:Hp) (D:Ends),bv X pins σ H s->t D σ H->wpAny (model X.prog X.w) X.A (execs st X.env) (SP X pins D) X.xe s
theorem eS{α:Type}{t:Sem α}{Q Q':α->Shared->Prop}{M:Model}{A:Around}{E:Value->Shared->Prop}{s:Shared}(h:wpAny M A t Q E s)(hQ:∀a s,Q a s->Q' a s):wpAny M A t Q' E s:=Q8 h hQ λ_ _ x=>x
section
variable {X:Cx}
def yO(i:Nat):TE:=λσ H Q=>∃v,σ[i]? = some (some v)/\Q v H
def tC(v:V):TE:=λ_ H Q=>Q v H
theorem JT {i:Nat} {x:Str} {pos:Pos} (hN:X.N[i]? = some x) (hv:Lj X.env.scope x) (hd:(x==("__debug__":Str))=false:=by decide) (hcd:(x==("__classdict__":Str))=false:=by decide):PE X (.Name x pos) (yO i):=by
 intro pins s σ H Q I h;obtain⟨v,e,h⟩:=h;obtain⟨m,hn,hl⟩:=I.loc;obtain⟨u,r,l⟩:=hl i x v hN e hv;have fin:EP X pins σ Q u s:=⟨v,H,I,r,h⟩
 rcases l with ⟨hk,hm⟩ | ⟨hk,c,hc,hcell⟩
 ·exact wpAny_Name (wpAny_loadName_local I.ok.kind hk hn hm fin) hd
 ·rcases hk with hk | hk
  ·exact wpAny_Name (wpAny_loadName_cell I.ok.kind hk hc hcell fin) hd
  ·exact wpAny_Name (wpAny_loadName_free I.ok.kind hk hc hcell fin hcd) hd
theorem J0{i j pos}:PE X (.Constant (.int i) j pos) (tC (.int i)):=λ_ _ _ H _ I h=>wpAny_Constant_int ⟨.int i,H,I.tok _,⟨_,rfl⟩,h⟩
theorem L6{b j pos}:PE X (.Constant (.bool b) j pos) (tC (.bl b)):=λ_ _ _ H _ I h=>Constant_bool ⟨.bl b,H,I,rfl,h⟩
theorem JY{j pos}:PE X (.Constant .none j pos) (tC .non):=λ_ _ _ H _ I h=>Constant_none ⟨.non,H,I,rfl,h⟩
theorem JV{x j pos}:PE X (.Constant (.str x) j pos) (tC (.str x)):=λ_ _ _ H _ I h=>Calls.Constant_str ⟨.str x,H,I.tok _,⟨_,rfl⟩,h⟩
def Gl(X:Cx)(x:Str):Prop:=X.env.kindOf x=some .globalImplicit
theorem vo{E:Value->Shared->Prop}{pins:List (Addr×Obj)}{s:Shared}{σ:St}{H:Hp}{x:Str}{u:Value}{pos:Pos}{Q:Value->Shared->Prop}(I:bv X pins σ H s)(hg:Gl X x)(hm:X.mg x=some u)(h:Q u s)
  (hd:(x==("__debug__":Str))=false:=by decide):wpAny (model X.prog X.w) X.A (eval (.Name x pos) X.env) Q E s:=
 kj I.ok.kind hg (Calls.loadGlobal_global (by rw[I.ok.glob];exact I.mod.glob.keeps I.bk) hm h) hd
theorem j3{E:Value->Shared->Prop}{pins:List (Addr×Obj)}{s:Shared}{σ:St}{H:Hp}{x:Str}{u:Value}{pos:Pos}{Q:Value->Shared->Prop}(I:bv X pins σ H s)(hg:Gl X x)(hm:X.mg x=none)(hv:bootBuiltins x=some u)(h:Q u s)
  (hn:x≠"__name__":=by decide) (hd:(x==("__debug__":Str))=false:=by decide):wpAny (model X.prog X.w) X.A (eval (.Name x pos) X.env) Q E s:=by
 obtain⟨mb,h1,h2⟩:=I.mod.blt;exact kj I.ok.kind hg (Calls.loadGlobal_builtin (by rw[I.ok.glob];exact I.mod.glob.keeps I.bk) hm (by rw[I.ok.blt];exact h1.keeps I.bk) ((h2 x hn).trans hv) h) hd
theorem ve {x:Str} {v:V} {u:Value} {pos:Pos} (hg:Gl X x) (hm:X.mg x=some u) (r:RelV v u) (hd:(x==("__debug__":Str))=false:=by decide):PE X (.Name x pos) (tC v):=
 λ_ _ _ H _ I h=>vo I hg hm ⟨v,H,I,r,h⟩ hd
theorem GE {x:Str} {v:V} {u:Value} {pos:Pos} (hg:Gl X x) (hm:X.mg x=none) (hv:bootBuiltins x=some u) (r:RelV v u) (hn:x≠"__name__":=by decide) (hd:(x==("__debug__":Str))=false:=by decide):PE X (.Name x pos) (tC v):=
 λ_ _ _ H _ I h=>j3 I hg hm hv ⟨v,H,I,r,h⟩ hn hd
variable {a b:Expr} {ta tb:TE} {pos:Pos}
def PC(X:Cx)(op:CmpOp)(a b:Expr)(t:TE):Prop:=
 ∀(pins:List (Addr×Obj)) (s:Shared) (σ:St) (H:Hp) (Q:VK),bv X pins σ H s->t σ H Q →
  wpAny (model X.prog X.w) X.A (eval a X.env) (λv s₁=>wpAny (model X.prog X.w) X.A (eval b X.env) (λu s₂=>wpAny (model X.prog X.w) X.A (compareOp op v u) (EP X pins σ Q) X.xe s₂) X.xe s₁) X.xe s
theorem ED(b:Expr){op:CmpOp}(h:op≠.In)(h2:op≠.NotIn):behindInMarks op b=false:=by
 have e1:(op==CmpOp.In)=false:=by cases op<;>first | rfl | exact absurd rfl h
 have e2:(op==CmpOp.NotIn)=false:=by cases op<;>first | rfl | exact absurd rfl h2
 cases b<;>simp[behindInMarks,e1,e2]
def tB(t:TE):TT:=λσ H Q=>t σ H λx H1=>∃c,x=.bl c/\Q c H1
theorem D5{op:CmpOp}{t:TE}(h:PC X op a b t)(h1:behindInMarks op b=false:=by first | exact ED _ (by decide) (by decide) | rfl):PT X (.Compare a [op] [b] pos) (tB t):=by
 intro pins s σ H Q I hw;refine wpAny_isTrue_Compare1 (eS (h pins s σ H _ I hw) λv s1 h1=>eS h1 λu s2 h2=>eS h2 λc s3 ⟨x,H1,I1,r1,q1⟩=>?_) h1;obtain⟨d,rfl,q⟩:=q1;cases r1;exact Q9 ⟨H1,I1,q⟩
theorem JF{e:Expr}{t:TE}(h:PE X e t)(he:∀whole,isTrue e X.env whole=(do let v <-whole;standAt e.pos;holding [v] (truthy v)):=by intro _;rfl):PT X e (tB t):=by
 intro pins s σ H Q I hw;refine isTrue_plain (eS (h pins s σ H _ I hw) λv s1 ⟨x,H1,I1,r1,q1⟩=>?_) (he _);obtain⟨d,rfl,q⟩:=q1;cases r1;exact Q9 ⟨H1,I1,q⟩
variable {tA tB':TT} {rest:List Expr}
def Ii(t u:TT):TT:=λσ H Q=>t σ H λc H1=>if c=true then u σ H1 Q else Q false H1
def MP(t u:TT):TT:=λσ H Q=>t σ H λc H1=>if c=true then Q true H1 else u σ H1 Q
def I9(t:TT):TT:=λσ H Q=>t σ H λc H1=>Q (!c) H1
theorem Fd(ha:PT X a tA):PW X (.BoolOp .And [a] pos) tA:=by
 intro wh pins s σ H Q I h;refine isTrue_and (eS (ha pins s σ H Q I h) λc s1 e=>?_);cases c with
 | true=>exact isTrue_and_nil e
 | false=>exact e
theorem JC(ha:PT X a tA):PW X (.BoolOp .Or [a] pos) tA:=by
 intro wh pins s σ H Q I h;refine isTrue_or (eS (ha pins s σ H Q I h) λc s1 e=>?_);cases c with
 | false=>exact isTrue_or_nil e
 | true=>exact e
theorem JD(ha:PT X a tA)(hb:PW X (.BoolOp .And (b::rest) pos) tB'):PW X (.BoolOp .And (a::b::rest) pos) (Ii tA tB'):=by
 intro wh pins s σ H Q I h;refine isTrue_and (eS (ha pins s σ H _ I h) λc s1 ⟨H1,I1,q1⟩=>?_);cases c with
 | true=>exact hb wh pins s1 σ H1 Q I1 q1
 | false=>exact⟨H1,I1,q1⟩
theorem LW(ha:PT X a tA)(hb:PW X (.BoolOp .Or (b::rest) pos) tB'):PW X (.BoolOp .Or (a::b::rest) pos) (MP tA tB'):=by
 intro wh pins s σ H Q I h;refine isTrue_or (eS (ha pins s σ H _ I h) λc s1 ⟨H1,I1,q1⟩=>?_);cases c with
 | true=>exact⟨H1,I1,q1⟩
 | false=>exact hb wh pins s1 σ H1 Q I1 q1
theorem JG(ha:PT X a tA):PT X (.UnaryOp .Not a pos) (I9 tA):=by
 intro pins s σ H Q I h;exact isTrue_not (ha pins s σ H (λc H1=>Q (!c) H1) I h)
def Co(ta tb:TE):TE:=λσ H Q=>ta σ H λx H1=>∃c,x=.bl c/\if c=true then tb σ H1 Q else Q (.bl false) H1
def I0(ta tb:TE):TE:=λσ H Q=>ta σ H λx H1=>∃c,x=.bl c/\if c=true then Q (.bl true) H1 else tb σ H1 Q
def Cf(ta:TE):TE:=λσ H Q=>ta σ H λx H1=>∃c,x=.bl c/\Q (.bl (!c)) H1
theorem JW{op}{t:TE}(h:PE X a t):PE X (.BoolOp op [a] pos) t:=λpins s σ H Q I hw=>BoolOp_one (h pins s σ H Q I hw)
theorem J2(ha:PE X a ta)(hb:PE X (.BoolOp .And (b::rest) pos) tb):PE X (.BoolOp .And (a::b::rest) pos) (Co ta tb):=by
 intro pins s σ H Q I h;refine BoolOp_and (eS (ha pins s σ H _ I h) λv s1 ⟨x,H1,I1,r1,q1⟩=>?_);obtain⟨c,rfl,q1⟩:=q1;cases r1;refine Q9 ?_;cases c with
 | true=>exact hb pins s1 σ H1 Q I1 q1
 | false=>exact⟨.bl false,H1,I1,rfl,q1⟩
theorem L1(ha:PE X a ta)(hb:PE X (.BoolOp .Or (b::rest) pos) tb):PE X (.BoolOp .Or (a::b::rest) pos) (I0 ta tb):=by
 intro pins s σ H Q I h;refine BoolOp_or (eS (ha pins s σ H _ I h) λv s1 ⟨x,H1,I1,r1,q1⟩=>?_);obtain⟨c,rfl,q1⟩:=q1;cases r1;refine Q9 ?_;cases c with
 | false=>exact hb pins s1 σ H1 Q I1 q1
 | true=>exact⟨.bl true,H1,I1,rfl,q1⟩
theorem JX(ha:PE X a ta):PE X (.UnaryOp .Not a pos) (Cf ta):=by
 intro pins s σ H Q I h;refine UnaryOp_ (eS (ha pins s σ H _ I h) λv s1 ⟨x,H1,I1,r1,q1⟩=>?_);obtain⟨c,rfl,q1⟩:=q1;cases r1;exact not_of (Q9 ⟨.bl (!c),H1,I1,rfl,q1⟩)
def MQ(t:TT)(ta tb:TE):TE:=λσ H Q=>t σ H λc H1=>if c=true then ta σ H1 Q else tb σ H1 Q
theorem Di{c:Expr}(hc:PT X c tA)(ha:PE X a ta)(hb:PE X b tb):PE X (.IfExp c a b pos) (MQ tA ta tb):=by
 intro pins s σ H Q I h;refine wpAny_IfExp (eS (hc pins s σ H _ I h) λd s1 ⟨H1,I1,q1⟩=>?_);cases d with
 | true=>exact ha pins s1 σ H1 Q I1 q1
 | false=>exact hb pins s1 σ H1 Q I1 q1
end
def bw(K:RV)(H:Hp)(a:Addr)(xs:List V):Prop:=
 Rd H a (.lst xs) ∨
  ∃(o:Obj) (its:Array Value) (n:Nat),K.lookup a=some o/\o.cls=.type "list"/\o.dict=none/\o.data=.seq its n/\its.size<=sizeLine/\cV xs its.toList
def dD(K:RV)(H:Hp)(a:Addr)(xs:List V):Prop:=
 Rd H a (.tup xs) ∨
  ∃(o:Obj) (its:Array Value) (n:Nat),K.lookup a=some o/\o.cls=.type "tuple"/\o.data=.seq its n/\its.size<=sizeLine/\cV xs its.toList
def Mc:Value->Option V
 | .none=>some .non
 | .bool b=>some (.bl b)
 | .int i _=>some (.int i)
 | .str x _=>some (.str x)
 | .bytes b _=>some (.byt b)
 | .float b _=>some (.flt b)
 | .ref a=>some (.ref a)
 | .type n=>some (.ty n)
 | _=>none
theorem RelV.abs{x:V}{u:Value}(r:RelV x u):Mc u=some x:=by
 cases x with
 | non=>cases r;rfl
 | bl _=>cases r;rfl
 | int _=>obtain⟨t,rfl⟩:=r;rfl
 | str _=>obtain⟨t,rfl⟩:=r;rfl
 | byt _=>obtain⟨t,rfl⟩:=r;rfl
 | flt _=>obtain⟨t,rfl⟩:=r;rfl
 | ref _=>cases r;rfl
 | ty _=>cases r;rfl
theorem RelV.inj{x y:V}{u:Value}(r:RelV x u)(q:RelV y u):x=y:=bH (r.abs.symm.trans q.abs)
theorem cV.inj:∀{xs ys:List V} {us:List Value},cV xs us->cV ys us->xs=ys
 | _,_,_,.nil,.nil=>rfl
 | _,_,_,.cons r t,.cons r' t'=>by rw[r.inj r',cV.inj t t']
section
variable {X:Cx} {pins:List (Addr×Obj)} {σ:St} {H:Hp} {s:Shared} {a:Addr} {xs ys:List V}
theorem bw.of{K:RV}(h:H a=some (.lst xs)):bw K H a xs:=.inl (.inl h)
theorem dD.of{K:RV}(h:H a=some (.tup xs)):dD K H a xs:=.inl (.inl h)
theorem bv.list(I:bv X pins σ H s)(h:bw X.K H a xs):∃its:List Value,cV xs its/\PlainL s.heap a its.toArray/\xs.length<=sizeLine:=by
 rcases h with h | ⟨o,its,n,hk,hc,hd,hs,hz,r⟩
 ·obtain⟨z,its,n,r,e⟩:=h.ok I.hok;exact⟨its,r,⟨_,n,e,rfl,rfl,rfl⟩,z⟩
 ·refine⟨its.toList,r,⟨o,n,I.kIn a o hk,hc,hd,by simpa using hs⟩,?_⟩;have e:=r.length;simp only[cY] at e;lia
theorem bv.tuple(I:bv X pins σ H s)(h:dD X.K H a xs):∃its:List Value,cV xs its/\IsTup s.heap a its.toArray/\xs.length<=sizeLine:=by
 rcases h with h | ⟨o,its,n,hk,hc,hs,hz,r⟩
 ·obtain⟨z,its,r,p⟩:=h.ok I.hok;exact⟨its,r,p,z⟩
 ·refine⟨its.toList,r,⟨o,I.kIn a o hk,hc,n,by simpa using hs⟩,?_⟩;have e:=r.length;simp only[cY] at e;lia
theorem bv.list_inj(I:bv X pins σ H s)(h:bw X.K H a xs)(h':bw X.K H a ys):xs=ys:=by
 obtain⟨its,r,⟨o,n,e,_,_,d⟩,_⟩:=I.list h;obtain⟨its',r',⟨o',n',e',_,_,d'⟩,_⟩:=I.list h';rw[e] at e';cases e';rw[d] at d';injection d' with d1 _
 have:its=its':=by simpa using congrArg Array.toList d1
 subst this;exact r.inj r'
theorem bv.tuple_inj(I:bv X pins σ H s)(h:dD X.K H a xs)(h':dD X.K H a ys):xs=ys:=by
 obtain⟨its,r,⟨o,e,_,n,d⟩,_⟩:=I.tuple h;obtain⟨its',r',⟨o',e',_,n',d'⟩,_⟩:=I.tuple h';rw[e] at e';cases e';rw[d] at d';injection d' with d1 _
 have:its=its':=by simpa using congrArg Array.toList d1
 subst this;exact r.inj r'
end
abbrev Cx.wish (X:Cx) (E:Value->Shared->Prop):Cx:={ X with xe:=E }
abbrev Cx.nox (X:Cx):Cx:=X.wish λ_ _=>False
theorem Cx.Ok.wish{X:Cx}(ok:X.Ok)(E:Value->Shared->Prop):(X.wish E).Ok:=
 ⟨ok.mod,ok.kind,ok.glob,ok.blt,ok.above,ok.inj,ok.has,ok.cab,ok.hd,ok.frames,ok.stk,ok.exf,ok.bs,ok.bsz,ok.noex,ok.exfs,ok.funs,ok.frf⟩
theorem Cx.Ok.unwish{X:Cx}{E:Value->Shared->Prop}(ok:(X.wish E).Ok):X.Ok:=
 ⟨ok.mod,ok.kind,ok.glob,ok.blt,ok.above,ok.inj,ok.has,ok.cab,ok.hd,ok.frames,ok.stk,ok.exf,ok.bs,ok.bsz,ok.noex,ok.exfs,ok.funs,ok.frf⟩
section
variable {X:Cx} {pins:List (Addr×Obj)} {σ:St} {H:Hp} {s:Shared} {E:Value->Shared->Prop}
theorem bv.wish(I:bv X pins σ H s)(E:Value->Shared->Prop):bv (X.wish E) pins σ H s:=⟨I.ok.wish E,I.os,I.bare,I.base,I.loc,I.cell,I.free,I.freeC,I.pin,I.hok,I.len⟩
theorem bv.unwish(I:bv (X.wish E) pins σ H s):bv X pins σ H s:=⟨I.ok.unwish,I.os,I.bare,I.base,I.loc,I.cell,I.free,I.freeC,I.pin,I.hok,I.len⟩
theorem SP.unwish{D:Ends}{f:Flow}{s':Shared}(h:SP (X.wish E) pins D f s'):SP X pins D f s':=by
 cases f with
 | next=>obtain⟨σ',H',I,q⟩:=h;exact⟨σ',H',I.unwish,q⟩
 | brk=>obtain⟨σ',H',I,q⟩:=h;exact⟨σ',H',I.unwish,q⟩
 | cont=>obtain⟨σ',H',I,q⟩:=h;exact⟨σ',H',I.unwish,q⟩
 | ret u=>obtain⟨v,σ',H',I,r,q⟩:=h;exact⟨v,σ',H',I.unwish,r,q⟩
theorem xr.nox{st:List Stmt}{t:TS}(h:xr X.nox st t):xr X st t:=λpins s σ H D I hw=>
 Q8 (h pins s σ H D (I.wish _) hw) (λ_ _ q=>q.unwish) λ_ _ z=>False.elim z
end
section
variable {X:Cx} {st:Stmt} {rest:List Stmt} {t u:TS} {e:Expr} {te:TE} {pos:Pos}
def Cg:TS:=λD σ H=>D.nx σ H
def IW(t u:TS):TS:=λD σ H=>t { D with nx:=u D } σ H
theorem Fg:xr X [] Cg:=λ_ _ σ H _ I h=>Qa ⟨σ,H,I,h⟩
theorem D7(h1:PS X st t)(h2:xr X rest u):xr X (st::rest) (IW t u):=by
 intro pins s σ H D I h;refine wpAny_execs_cons (eS (h1 pins s σ H { D with nx:=u D } I h) λf s1 q=>?_);cases f with
 | next=>
  obtain⟨σ',H',I',q⟩:=q;exact h2 pins s1 σ' H' D I' q
 | ret v=>exact q
 | brk=>exact q
 | cont=>exact q
theorem Ff(h1:PS X st t):xr X [st] t:=by
 intro pins s σ H D I h;refine wpAny_execs_cons (eS (h1 pins s σ H D I h) λf s1 q=>?_);cases f with
 | next=>exact Qa q
 | ret v=>exact q
 | brk=>exact q
 | cont=>exact q
def ya:TS:=λD σ H=>D.bk σ H
def LI:TS:=λD σ H=>D.ct σ H
theorem Dc:PS X (.Break pos) ya:=λ_ _ σ H _ I h=>wpAny_Break ⟨σ,H,I,h⟩
theorem bv.quiet{pins:List (Addr×Obj)}{σ:St}{H:Hp}{s:Shared}(I:bv X pins σ H s):interactive X.env=false:=by simp[interactive,I.ok.kind]
def Cj(te:TE):TS:=λD σ H=>te σ H λ_ H1=>D.nx σ H1
theorem Fj(he:PE X e te)(hs:swapsWith e none pos.line X.env=pure false:=by rfl):PS X (.Expr e pos) (Cj te):=by
 intro pins s σ H D I h;exact wpAny_Expr_any (eS (he pins s σ H _ I h) λv s1 ⟨x,H1,I1,r1,q1⟩=>⟨σ,H1,I1,q1⟩) I.quiet hs
def IY(te:TE):TS:=λD σ H=>te σ H D.rt
theorem JJ(he:PE X e te):PS X (.Return (some e) pos) (IY te):=by
 intro pins s σ H D I h;exact wpAny_Return_some (eS (he pins s σ H _ I h) λv s1 ⟨x,H1,I1,r1,q1⟩=>⟨x,σ,H1,I1,r1,q1⟩)
def LG:TS:=λD _ H=>D.rt .non H
def Ie(c:TT)(t u:TS):TS:=λD σ H=>c σ H λb H1=>if b=true then t D σ H1 else u D σ H1
theorem LX{c:Expr}{a b:List Stmt}{tc:TT}(hc:PT X c tc)(ha:xr X a t)(hb:xr X b u):PS X (.If c a b pos) (Ie tc t u):=by
 intro pins s σ H D I h;refine wpAny_If (eS (hc pins s σ H _ I h) λd s1 ⟨H1,I1,q1⟩=>?_);cases d with
 | true=>exact ha pins s1 σ H1 D I1 q1
 | false=>exact hb pins s1 σ H1 D I1 q1
def Ci:TS:=λ_ _ _=>False
theorem Da:PS X st Ci:=λ_ _ _ _ _ _ h=>h.elim
end
abbrev TG:=V->St->Hp->(St->Hp->Prop)->Prop
abbrev Bq:=List V->St->Hp->(St->Hp->Prop)->Prop
def PG(X:Cx)(target:Expr)(t:TG):Prop:=
 ∀(pins:List (Addr×Obj)) (s:Shared) (σ:St) (H:Hp) (v:V) (u:Value) (Q:St->Hp->Prop),bv X pins σ H s->RelV v u->t v σ H Q →
  wpAny (model X.prog X.w) X.A (assign target X.env u) (λ_ s'=>∃σ' H',bv X pins σ' H' s'/\Q σ' H') X.xe s
def Ll(X:Cx)(ts:List Expr)(t:Bq):Prop:=
 ∀(pins:List (Addr×Obj)) (s:Shared) (σ:St) (H:Hp) (vs:List V) (us:List Value) (Q:St->Hp->Prop),bv X pins σ H s->cV vs us->t vs σ H Q →
  wpAny (model X.prog X.w) X.A (assignInOrder ((assignEach ts X.env).map (·.2)) us) (λ_ s'=>∃σ' H',bv X pins σ' H' s'/\Q σ' H') X.xe s
abbrev Em:=V->V->V->Hp->(Hp->Prop)->Prop
def KM(X:Cx)(t:Em):Prop:=
 ∀(pins:List (Addr×Obj)) (s:Shared) (σ:St) (H:Hp) (o i v:V) (ov iv u:Value) (Q:Hp->Prop),bv X pins σ H s->RelV o ov->RelV i iv->RelV v u->t o i v H Q →
  wpAny (model X.prog X.w) X.A (setItem ov iv u) (λ_ s'=>∃H',bv X pins σ H' s'/\Q H') X.xe s
abbrev Me:=V->V->Hp->VK->Prop
section
variable {X:Cx} {pos:Pos}
def nF(i:Nat):TG:=λv σ H Q=>Q (σ.set i (some v)) H
theorem Fw{i:Nat}{x:Str}(hN:X.N.Nodup)(hi:X.N[i]? = some x)(hx:Loc X.env.scope x)(hf:X.fn x=true\/X.env.scope.names.lookup x=some .local:=by first | exact .inl rfl | exact .inr rfl | assumption):PG X (.Name x pos) (nF i):=by
 intro pins s σ H v u Q I r h;exact wpAny_assign_Name (wK I hN hi hx r (λs' I'=>⟨_,H,I',h⟩) hf)
def Jy:Bq:=λvs σ H Q=>vs=[]/\Q σ H
def E4(t:TG)(u:Bq):Bq:=λvs σ H Q=>∃v r,vs=v::r/\t v σ H λσ' H'=>u r σ' H' Q
theorem Fv:Ll X [] Jy:=by
 intro pins s σ H vs us Q I r h;obtain⟨e,h⟩:=h;subst e;cases r;exact assignInOrder_nil ⟨σ,H,I,h⟩
theorem Df{e:Expr}{es:List Expr}{t:TG}{u:Bq}(h1:PG X e t)(h2:Ll X es u)
  (hs:(assignEach (e::es) X.env).map (·.2)=assign e X.env::(assignEach es X.env).map (·.2):=by rfl):Ll X (e::es) (E4 t u):=by
 intro pins s σ H vs us Q I r h;obtain⟨v,vr,e1,h⟩:=h;subst e1;cases r with
 | cons r rr=>
  rw[hs];refine assignInOrder_cons (eS (h1 pins s σ H _ _ _ I r h) λ_ s1 ⟨σ1,H1,I1,q1⟩=>?_);exact h2 pins s1 σ1 H1 _ _ Q I1 rr q1
def Jw(K:RV)(n:Nat)(t:Bq):TG:=λv σ H Q=>∃a xs,v=.ref a/\dD K H a xs/\xs.length=n/\t xs σ H Q
theorem JP{es:List Expr}{k:Nat}{t:Bq}{n:Nat}(hc:X.calm=true)(h:Ll X es t)
  (hn:(assignEach es X.env).length=n:=by rfl) (hst:(assignEach es X.env).findIdx? (·.1)=none:=by rfl):PG X (.Tuple es k pos) (Jw X.K n t):=by
 intro pins s σ H v u Q I r hw;obtain⟨a,xs,e1,hq,hl,hw⟩:=hw;subst e1;cases r;obtain⟨its,rv,ht,hz⟩:=I.tuple hq;refine assign_Tuple_tuple (I.ok.hd hc) ht (by simp[hn,<-hl,rv.length]) hst λh' hx=>?_;have I1:bv X pins σ H { s with heap:=h' }:=I.kept (t':=s.toks) λb o e=>hx b o (bC (aN e)) e;exact h pins _ σ H xs _ Q I1 (by simpa using rv) hw
def Jx(to ti:TE)(t:Em):TG:=λv σ H Q=>to σ H λo H1=>ti σ H1 λi H2=>t o i v H2 λH3=>Q σ H3
theorem JQ{o i:Expr}{to ti:TE}{t:Em}(ho:PE X o to)(hi:PE X i ti)(hs:KM X t)
  (ha:∀v,assign (.Subscript o i pos) X.env v=(do
   let ov <-holding [v] (eval o X.env)
   let iv <-holding [v,ov] (eval i X.env)
   standAt pos
   holding [v,ov,iv] (setItem ov iv v)
   release [v,ov,iv] []):=by intro _;rfl):PG X (.Subscript o i pos) (Jx to ti t):=by
 intro pins s σ H v u Q I r h;rw[ha];refine wpAny_bind (Qb (eS (ho pins s σ H _ I h) λov s1 ⟨x,H1,I1,r1,q1⟩=>?_));refine wpAny_bind (Qb (eS (hi pins s1 σ H1 _ I1 q1) λiv s2 ⟨y,H2,I2,r2,q2⟩=>?_));refine wpAny_bind (Qc (wpAny_bind (Qb (eS (hs pins s2 σ H2 x y v ov iv u _ I2 r1 r2 r q2) λ_ s3 ⟨H3,I3,q3⟩=>?_))));exact wpAny_release ⟨σ,H3,I3,q3⟩
def vP(te:TE)(g:TG):TS:=λD σ H=>te σ H λx H1=>g x σ H1 D.nx
theorem JL{tg e:Expr}{te:TE}{g:TG}(he:PE X e te)(hg:PG X tg g)(hs:swapsWithSole [tg] e pos.line X.env=pure false:=by rfl)(hw:swappedStores [tg] e X.env=pure none:=by rfl)
  (h1:(assignEach [tg] X.env).map (·.2)=[assign tg X.env]:=by rfl):PS X (.Assign [tg] e pos) (vP te g):=by
 intro pins s σ H D I h;refine wpAny_Assign_stores (eS (he pins s σ H _ I h) λv s1 ⟨x,H1,I1,r1,q1⟩=>?_) hs hw;rw[h1];exact eS (hg pins s1 σ H1 x v _ I1 r1 q1) λ_ s2 q=>q
theorem JI{i:Nat}{x:Str}{e:Expr}{te:TE}{pos':Pos}(hN:X.N.Nodup)(hi:X.N[i]? = some x)(hx:Loc X.env.scope x)(he:PE X e te)(hs:swapsWith e (some (.Name x pos')) pos.line X.env=pure false:=by rfl)(hf:X.fn x=true\/X.env.scope.names.lookup x=some .local:=by first | exact .inl rfl | exact .inr rfl | assumption):
  PS X (.Assign [.Name x pos'] e pos) (vP te (nF i)):=by
 intro pins s σ H D I h;refine wpAny_Assign_Name (eS (he pins s σ H _ I h) λv s1 ⟨y,H1,I1,r1,q1⟩=>?_) hs;exact wK I1 hN hi hx r1 (λs2 I2=>⟨_,H1,I2,q1⟩) hf
def MS(i:Nat)(te:TE)(ti:Me):TS:=λD σ H=>∃x,σ[i]? = some (some x)/\te σ H λy H1=>ti x y H1 λz H2=>D.nx (σ.set i (some z)) H2
end
section
variable {X:Cx} {pos:Pos}
def Cc(c:TT)(tb:TS):TS:=λD σ H=>∃W:Nat->St->Hp->Prop,(∃m,W m σ H)/\∀m σ H,W m σ H →
 c σ H λb H1=>if b=true then ∃N:St->Hp->Prop,(∀σ' H',N σ' H'->∃m',m'<m/\W m' σ' H')/\tb { D with nx:=N,ct:=N,bk:=D.nx } σ H1 else D.nx σ H1
theorem D8{c:Expr}{body:List Stmt}{tc:TT}{tb:TS}(hp:PassesOwn (model X.prog X.w) X.A X.env X.xe)(hc:PT X c tc)(hb:xr X body tb):PS X (.While c body [] pos) (Cc tc tb):=by
 intro pins s σ H D I h;obtain⟨W,⟨m0,w0⟩,turn⟩:=h;refine wpAny_While (codeAny_whileLoop (λn s'=>∃σ' H',bv X pins σ' H' s'/\W n σ' H') ?_ m0 ⟨σ,H,I,w0⟩);rintro n s1 ⟨σ1,H1,I1,w1⟩;refine Qd hp (eS (hc pins s1 σ1 H1 _ I1 (turn n σ1 H1 w1)) λb s2 ⟨H2,I2,q2⟩=>?_);cases b with
 | true=>
  obtain⟨N,hN,q2⟩:=q2;rw[RN rfl];refine Qd hp (eS (hb pins s2 σ1 H2 _ I2 q2) λf s3 q3=>?_);cases f with
  | next=>
   obtain⟨σ3,H3,I3,n3⟩:=q3;obtain⟨m',hm,w3⟩:=hN σ3 H3 n3;exact⟨m',hm,σ3,H3,I3,w3⟩
  | cont=>
   obtain⟨σ3,H3,I3,n3⟩:=q3;obtain⟨m',hm,w3⟩:=hN σ3 H3 n3;exact⟨m',hm,σ3,H3,I3,w3⟩
  | brk=>exact q3
  | ret v=>exact q3
 | false=>
  rw[RM af];exact Qa ⟨σ1,H2,I2,q2⟩
end
structure It where
 go:Nat->Hp->Prop
 yld:Nat->Hp->V->Hp->Prop
 stop:Nat->Hp->Prop
def kt(X:Cx)(pins:List (Addr×Obj))(H:Hp)(b:Addr):Prop:=
 H b=none/\b≠X.env.locals/\b∉X.fs/\(b∈X.ex\/X.s₀.heap.objs.size<=b)/\(∀x c,X.env.cells.lookup x=some c->c≠b)/\∀p∈X.pn++pins,p.1≠b
theorem bv.fpOk{X:Cx}{pins:List (Addr×Obj)}{σ:St}{H H':Hp}{s:Shared}{b:Addr}(I:bv X pins σ H s)(hb:s.heap.objs.size<=b)(hn:H' b=none):kt X pins H' b:=by
 refine⟨hn,fm (ay I.lt hb),I.nofs hb,.inr (bF I.sz hb),λx c e z=>?_,λp hp z=>?_⟩
 ·obtain⟨v,q⟩:=I.cell x c e;exact absurd (ay q.lt (by rw[z];exact hb)) (dc _)
 ·exact absurd (ay (aN (I.pin p hp).1) (by rw[z];exact hb)) (dc _)
structure Turn (P : Program) (w : World) (K : RV) (tg : Expr) (J : It) (fp : List Addr) (it : Addr) (tn : Nat → Heap → Prop) : Prop where
  mem : it ∈ fp
  obj : ∀ i h, tn i h → ∀ b ∈ fp, ∃ o, h.get? b = some o ∧ ∀ v, o.data ≠ .cell v
  keep : ∀ i h h', tn i h → (∀ b ∈ fp, ∀ o, h.get? b = some o → h'.get? b = some o) → tn i h'
  item : ∀ (X : Cx), X.prog = P → X.w = w → X.K = K → X.calm = true → ∀ (i : Nat) (pins : List (Addr × Obj)) (s : Shared) (σ : St) (H : Hp) (E : Value → Shared → Prop), bv X pins σ H s → (∀ b ∈ fp, kt X pins H b) → tn i s.heap → J.go i H →
    wpAny (model P w) X.A (pyNext (.ref it)) (fun r s1 => ∃ u, r = some u ∧
      wpAny (model P w) X.A (letOwnedTupleGo tg (.ref it) u) (fun _ s2 => ∃ x H', bv X pins σ H' s2 ∧ RelV x u ∧ J.yld i H x H' ∧ tn (i + 1) s2.heap ∧ ∀ b ∈ fp, H' b = none) E s1) E s
  done : ∀ (X : Cx), X.prog = P → X.w = w → X.K = K → X.calm = true → ∀ (i : Nat) (pins : List (Addr × Obj)) (s : Shared) (σ : St) (H : Hp) (E : Value → Shared → Prop), bv X pins σ H s → (∀ b ∈ fp, kt X pins H b) → tn i s.heap → J.stop i H →
    wpAny (model P w) X.A (pyNext (.ref it)) (fun r s1 => r = none ∧ bv X pins σ H s1) E s
  self : ∀ (A : Around) (i : Nat) (s : Shared) (Q : Value → Shared → Prop) (E : Value → Shared → Prop), tn i s.heap → Q (.ref it) s → wpAny (model P w) A (pyIter (.ref it)) Q E s
abbrev TI:=St->Hp->(It->Hp->Prop)->Prop
def Mu(X:Cx)(pins:List (Addr×Obj))(σ:St)(tg:Expr)(R:It->Hp->Prop)(itv:Value)(s2:Shared):Prop:=
 ∃(it:Addr) (fp:List Addr) (tn:Nat->Heap->Prop) (J:It) (H':Hp),itv=.ref it/\bv X pins σ H' s2/\Turn X.prog X.w X.K tg J fp it tn/\tn 0 s2.heap/\(∀b∈fp,kt X pins H' b)/\R J H'
def PI(X:Cx)(tg iter:Expr)(wi:TI):Prop:=
 ∀(pins:List (Addr×Obj)) (s:Shared) (σ:St) (H:Hp) (R:It->Hp->Prop),bv X pins σ H s->wi σ H R →
  wpAny (model X.prog X.w) X.A (eval iter X.env) (λv s1=>wpAny (model X.prog X.w) X.A (pyIter v) (Mu X pins σ tg R) X.xe s1) X.xe s
theorem xW {M : Model} {A : Around} {E : Value → Shared → Prop} {s : Shared} {tg : Expr} {it : Addr} {u : Value} {o : Obj} {n : String} {vs : Array Value} {Q : Unit → Shared → Prop} (ho : s.heap.get? it = some o) (hc : o.cls = .type n) (hd : o.data = .fields vs)
    (hn : ["enumerate", "zip", "dict_itemiterator", "dict_reverseitemiterator", "odict_iterator", "itertools.zip_longest", "itertools.pairwise"].contains n = false) (hQ : Q () s) : wpAny M A (letOwnedTupleGo tg (.ref it) u) Q E s := by
  unfold letOwnedTupleGo
  cases tg <;> first
    | exact wpAny_pure hQ
    | (cases u <;> first
        | exact wpAny_pure hQ
        | (refine wpAny_bind (wpAny_load ho ?_)
           rw [hc, hd]
           show wpAny M A (if (["enumerate", "zip", "dict_itemiterator", "dict_reverseitemiterator", "odict_iterator", "itertools.zip_longest", "itertools.pairwise"].contains n && vs[0]? == some (rawInt _)) = true then _ else _) Q E s
           rw [RM (by intro h; rw [hn, jF] at h; cases h)]
           exact wpAny_pure hQ))
def HD(K:RV)(a:Addr):It:=
 ⟨λi H=>∃xs x,bw K H a xs/\xs[i]? = some x,λi H x H'=>H'=H/\∀xs,bw K H a xs->xs[i]? = some x,λi H=>∃xs,bw K H a xs/\xs.length<=i⟩
def Hq(K:RV)(a:Addr):It:=
 ⟨λi H=>∃xs x,dD K H a xs/\xs[i]? = some x,λi H x H'=>H'=H/\∀xs,dD K H a xs->xs[i]? = some x,λi H=>∃xs,dD K H a xs/\xs.length<=i⟩
def Br(lo:Int)(n:Nat):It:=⟨λi _=>i<n,λi H x H'=>H'=H/\x=.int (lo+i),λi _=>n<=i⟩
theorem Au {P : Program} {w : World} {K : RV} {tg : Expr} (a it : Addr) : Turn P w K tg (HD K a) [it] it (fun i h => h.IsListIter it a i) where
  mem := by simp
  obj := fun i h st b hb => by
    have e : b = it := by simpa using hb
    subst e
    obtain ⟨o, e, c, d⟩ := st
    exact ⟨o, e, fun v z => by rw [d] at z; cases z⟩
  keep := fun i h h' st k => st.at fun o e => k it (by simp) o e
  item := by
    intro X hP hw hK hc i pins s σ H E I hf st hg
    subst hP hw hK
    obtain ⟨xs, x, hq, hx⟩ := hg
    obtain ⟨its, rv, p, hz⟩ := I.list hq
    obtain ⟨u, hu, ru⟩ := rv.get hx
    obtain ⟨f0, f1, f2, f3, f4, f5⟩ := hf it (by simp)
    refine wpAny_pyNext_list_item st p.isList (x := u) (by simpa using hu) fun h' st' sb => ?_
    have I1 : bv X pins σ H { s with heap := h' } := I.turned (t' := s.toks) (fun b o hb e => (sb.2 b hb).trans e) f0 f1 f3 f4 f5
    obtain ⟨o, e, c, d⟩ := id st'
    exact ⟨u, rfl, xW (s := { s with heap := h' }) e c d (by decide) ⟨x, H, I1, ru, ⟨rfl, fun ys hy => by rw [I.list_inj hy hq]; exact hx⟩, st', fun b hb => (hf b hb).1⟩⟩
  done := by
    intro X hP hw hK hc i pins s σ H E I hf st hg
    subst hP hw hK
    obtain ⟨xs, hq, hx⟩ := hg
    obtain ⟨its, rv, p, hz⟩ := I.list hq
    obtain ⟨f0, f1, f2, f3, f4, f5⟩ := hf it (by simp)
    have hl := rv.length
    exact wpAny_pyNext_list_end (I.ok.hd hc) st p.isList (by simp; lia) fun h' eb => ⟨rfl, I.turned (t' := s.toks) (fun b o hb e => eb b o hb e) f0 f1 f3 f4 f5⟩
  self := fun _ _ _ _ _ st h => wpAny_pyIter_listiter st h
theorem yJ {P : Program} {w : World} {K : RV} {tg : Expr} (a it : Addr) : Turn P w K tg (Hq K a) [it] it (fun i h => h.IsTupleIter it a i) where
  mem := by simp
  obj := fun i h st b hb => by
    have e : b = it := by simpa using hb
    subst e
    obtain ⟨o, e, c, d⟩ := st
    exact ⟨o, e, fun v z => by rw [d] at z; cases z⟩
  keep := fun i h h' st k => st.at fun o e => k it (by simp) o e
  item := by
    intro X hP hw hK hc i pins s σ H E I hf st hg
    subst hP hw hK
    obtain ⟨xs, x, hq, hx⟩ := hg
    obtain ⟨its, rv, p, hz⟩ := I.tuple hq
    obtain ⟨u, hu, ru⟩ := rv.get hx
    obtain ⟨f0, f1, f2, f3, f4, f5⟩ := hf it (by simp)
    refine wpAny_pyNext_tuple_item st (show s.heap.IsTuple a its.toArray from p) (x := u) (by simpa using hu) fun h' st' sb => ?_
    have I1 : bv X pins σ H { s with heap := h' } := I.turned (t' := s.toks) (fun b o hb e => (sb.2 b hb).trans e) f0 f1 f3 f4 f5
    obtain ⟨o, e, c, d⟩ := id st'
    exact ⟨u, rfl, xW (s := { s with heap := h' }) e c d (by decide) ⟨x, H, I1, ru, ⟨rfl, fun ys hy => by rw [I.tuple_inj hy hq]; exact hx⟩, st', fun b hb => (hf b hb).1⟩⟩
  done := by
    intro X hP hw hK hc i pins s σ H E I hf st hg
    subst hP hw hK
    obtain ⟨xs, hq, hx⟩ := hg
    obtain ⟨its, rv, p, hz⟩ := I.tuple hq
    obtain ⟨f0, f1, f2, f3, f4, f5⟩ := hf it (by simp)
    have hl := rv.length
    exact wpAny_pyNext_tuple_end (I.ok.hd hc) st (show s.heap.IsTuple a its.toArray from p) (by simp; lia) fun h' eb => ⟨rfl, I.turned (t' := s.toks) (fun b o hb e => eb b o hb e) f0 f1 f3 f4 f5⟩
  self := fun _ _ _ _ _ st h => wpAny_pyIter_tupleiter st h
theorem yL {P : Program} {w : World} {K : RV} {tg : Expr} (it : Addr) (lo : Int) (n : Nat) : Turn P w K tg (Br lo n) [it] it (fun i h => IsRangeIter h it (lo + (i : Nat) * 1) ((n : Int) - (i : Nat)) 1) where
  mem := by simp
  obj := fun i h st b hb => by
    have e : b = it := by simpa using hb
    subst e
    exact ⟨_, st, fun v z => by
      have z' : Data.fields _ = Data.cell v := z
      cases z'⟩
  keep := fun i h h' st k => k it (by simp) _ st
  item := by
    intro X hP hw hK hc i pins s σ H E I hf st hg
    subst hP hw hK
    obtain ⟨f0, f1, f2, f3, f4, f5⟩ := hf it (by simp)
    have W := Walks.range (prog := X.prog) (w := X.w) (I.ok.hd hc) it lo 1 n
    refine W.item i s _ _ hg st fun v h' tk hv st' kk => ?_
    obtain ⟨t, rfl⟩ := hv
    have I1 : bv X pins σ H { s with heap := h', toks := tk } := I.turned (fun b o hb e => kk b o (by simpa using hb) e) f0 f1 f3 f4 f5
    refine ⟨_, rfl, xW (s := { s with heap := h', toks := tk }) (n := "range_iterator") st' rfl rfl (by decide) ⟨.int (lo + i), H, I1, ⟨t, ?_⟩, ⟨rfl, rfl⟩, st', fun b hb => (hf b hb).1⟩⟩
    rw [Int.mul_one]
  done := by
    intro X hP hw hK hc i pins s σ H E I hf st hg
    subst hP hw hK
    obtain ⟨f0, f1, f2, f3, f4, f5⟩ := hf it (by simp)
    exact wpAny_pyNext_range_end (I.ok.hd hc) st (by have : n ≤ i := hg; lia) fun h' eb => ⟨rfl, I.turned (t' := s.toks) (fun b o hb e => eb b o hb e) f0 f1 f3 f4 f5⟩
  self := fun _ _ _ _ _ st h => wpAny_pyIter_rangeiter st h
section
variable {X:Cx} {tg:Expr}
def Ae(K:RV)(tl:TE):TI:=λσ H R=>tl σ H λx H1=>∃a,x=.ref a/\(∃xs,bw K H1 a xs)/\R (HD K a) H1
def Ge(K:RV)(tl:TE):TI:=λσ H R=>tl σ H λx H1=>∃a,x=.ref a/\(∃xs,dD K H1 a xs)/\R (Hq K a) H1
theorem Ft{l:Expr}{tl:TE}(hl:PE X l tl):PI X tg l (Ae X.K tl):=by
 intro pins s σ H R I h;refine eS (hl pins s σ H _ I h) λv s1 ⟨x,H1,I1,r1,q1⟩=>?_;obtain⟨a,e,⟨xs,hq⟩,q⟩:=q1;subst e;cases r1;obtain⟨its,rv,p,hz⟩:=I1.list hq;refine wpAny_pyIter_list p.isList ?_;refine⟨s1.heap.objs.size,[s1.heap.objs.size],_,_,H1,rfl,I1.kept (t':=s1.toks) λb o e=>aD _ e,Au a _,⟨_,aQ _ rfl,rfl,rfl⟩,λb hb=>?_,q⟩;have e:b=s1.heap.objs.size:=by simpa using hb
 subst e;exact I1.fpOk (aH _) (I1.hok.fresh (aH _))
theorem JN{l:Expr}{tl:TE}(hl:PE X l tl):PI X tg l (Ge X.K tl):=by
 intro pins s σ H R I h;refine eS (hl pins s σ H _ I h) λv s1 ⟨x,H1,I1,r1,q1⟩=>?_;obtain⟨a,e,⟨xs,hq⟩,q⟩:=q1;subst e;cases r1;obtain⟨its,rv,p,hz⟩:=I1.tuple hq;refine Qe (show s1.heap.IsTuple a its.toArray from p) ?_;refine⟨s1.heap.objs.size,[s1.heap.objs.size],_,_,H1,rfl,I1.kept (t':=s1.toks) λb o e=>aD _ e,yJ a _,⟨_,aQ _ rfl,rfl,rfl⟩,λb hb=>?_,q⟩;have e:b=s1.heap.objs.size:=by simpa using hb
 subst e;exact I1.fpOk (aH _) (I1.hok.fresh (aH _))
theorem wg{pins:List (Addr×Obj)}{σ:St}{H:Hp}{s:Shared}{R:It->Hp->Prop}{E:Value->Shared->Prop}{lo hi:Int}{t u v:Tok}{tk:Nat}(I:bv X pins σ H s)(h1:-(2 ^ 62)<=lo)(h2:lo<2 ^ 62)(h3:-(2 ^ 62)<=hi)(h4:hi<2 ^ 62)
  (q:R (Br lo (hi-lo).toNat) H):wpAny (model X.prog X.w) X.A (pyIter (.ref s.heap.objs.size)) (Mu X pins σ tg R) E { s with heap:=s.heap.push { cls:=.type "range",data:=.fields #[.int lo t,.int hi u,.int 1 v] },toks:=tk }:=by
 refine wpAny_pyIter_range (IsRange.new ..) (small_one h1 h2 h3 h4) ?_;have I1:bv X pins σ H { s with heap:=s.heap.push { cls:=.type "range",data:=.fields #[.int lo t,.int hi u,.int 1 v] },toks:=tk }:=I.kept λb o e=>aD _ e;refine⟨(s.heap.push { cls:=.type "range",data:=.fields #[.int lo t,.int hi u,.int 1 v] }).objs.size,[(s.heap.push { cls:=.type "range",data:=.fields #[.int lo t,.int hi u,.int 1 v] }).objs.size],_,_,H,rfl,
  I1.kept (t':=tk) λb o e=>aD _ e,yL _ lo (hi-lo).toNat,?_,λb hb=>?_,q⟩
 ·have e1:lo+((0:Nat):Int)*1=lo:=by simp
  have e2:(((hi-lo).toNat:Nat):Int)-((0:Nat):Int)=Builtin.Range.rangeSize lo hi 1:=by rw[rangeSize_one];split<;>lia
  show IsRangeIter _ _ (lo+((0:Nat):Int)*1) ((((hi-lo).toNat:Nat):Int)-((0:Nat):Int)) 1;rw[e1,e2];exact aQ _ rfl
 ·have e:b=(s.heap.push { cls:=.type "range",data:=.fields #[.int lo t,.int hi u,.int 1 v] }).objs.size:=by simpa using hb
  subst e;exact I1.fpOk (aH _) (I1.hok.fresh (aH _))
def Ad(ta:TA):TI:=λσ H R=>ta σ H λvs H1=>∃j:Int,vs=[.int j]/\-(2 ^ 62)<=j/\j<2 ^ 62/\R (Br 0 j.toNat) H1
def Ac(ta:TA):TI:=λσ H R=>ta σ H λvs H1=>∃i j:Int,vs=[.int i,.int j]/\(-(2 ^ 62)<=i/\i<2 ^ 62/\-(2 ^ 62)<=j/\j<2 ^ 62)/\R (Br i (j-i).toNat) H1
theorem BM {a:Expr} {ta:TA} {p pos:Pos} (hg:Gl X "range") (hm:X.mg "range"=none) (ha:PA X [a] ta) (hs:starEach [a] X.env=[(false,eval a X.env)]:=by rfl):PI X tg (.Call (.Name "range" p) [a] [] pos) (Ad ta):=by
 intro pins s σ H R I h;refine Call_ (j3 I hg hm boot_range (bx (eS (ha pos pins s σ H _ I h) λus s1 ⟨vs,H1,I1,r1,q1⟩=>?_) hs rfl));obtain⟨j,e,q1,q2,q⟩:=q1;subst e;cases r1 with
 | cons r rr=>
  cases rr;obtain⟨t,rfl⟩:=r;exact call_range_1 (wg I1 (by lia) (by lia) q1 q2 (by simpa using q))
theorem BK {a b:Expr} {ta:TA} {p pos:Pos} (hg:Gl X "range") (hm:X.mg "range"=none) (ha:PA X [a,b] ta) (hs:starEach [a,b] X.env=[(false,eval a X.env),(false,eval b X.env)]:=by rfl) (hs2:starEach [b] X.env=[(false,eval b X.env)]:=by rfl) :
  PI X tg (.Call (.Name "range" p) [a,b] [] pos) (Ac ta):=by
 intro pins s σ H R I h;refine Call_ (j3 I hg hm boot_range (bx (eS (ha pos pins s σ H _ I h) λus s1 ⟨vs,H1,I1,r1,q1⟩=>?_) (by rw[hs,hs2]) (by rw[hs2];rfl)));obtain⟨i,j,e,⟨q1,q2,q3,q4⟩,q⟩:=q1;subst e;cases r1 with
 | cons r rr=>
  cases rr with
  | cons r' rr=>
   cases rr;obtain⟨t,rfl⟩:=r;obtain⟨t',rfl⟩:=r';exact call_range_2 (wg I1 q1 q2 q3 q4 q)
def rH(wi:TI)(g:TG)(tb:TS):TS:=λD σ H=>wi σ H λJ H1=>∃W:Nat->Nat->St->Hp->Prop,(∃m,W 0 m σ H1)/\∀i m σ H,W i m σ H →
 (J.stop i H/\D.nx σ H)\/(J.go i H/\∃N:St->Hp->Prop,(∀σ' H',N σ' H'->∃m',m'<m/\W (i+1) m' σ' H')/\∀x H',J.yld i H x H'->g x σ H' λσ2 H2=>tb { D with nx:=N,ct:=N,bk:=D.nx } σ2 H2)
def mZ(fp:List Addr)(h:Heap):List (Addr×Obj):=fp.filterMap λb=>(h.get? b).map λo=>(b,o)
theorem iT{fp:List Addr}{h:Heap}{b:Addr}{o:Obj}(hb:b∈fp)(e:h.get? b=some o):(b,o)∈mZ fp h:=List.mem_filterMap.mpr ⟨b,hb,by rw[e];rfl⟩
theorem uo{fp:List Addr}{h:Heap}{p:Addr×Obj}(hp:p∈mZ fp h):p.1∈fp/\h.get? p.1=some p.2:=by
 obtain⟨b,hb,e⟩:=List.mem_filterMap.mp hp;cases q:h.get? b with
 | none=>rw[q] at e;cases e
 | some o=>
  rw[q] at e;have e':(b,o)=p:=bH e;subst e';exact⟨hb,q⟩
theorem bv.pinned{pins:List (Addr×Obj)}{σ:St}{H:Hp}{s:Shared}{fp:List Addr}(I:bv X pins σ H s)(hf:∀b∈fp,kt X pins H b)(ho:∀b∈fp,∃o,s.heap.get? b=some o/\∀v,o.data≠.cell v):bv X (pins++mZ fp s.heap) σ H s:=
 I.pins_of λp hp=>(aW.mp hp).elim (λz=>I.pin p (bO _ z)) λz=>by
  obtain⟨hb,e⟩:=uo z;obtain⟨f0,f1,f2,_⟩:=hf p.1 hb;obtain⟨o,e',d⟩:=ho p.1 hb;rw[e] at e';cases e';exact⟨e,f0,f1,f2,d⟩
theorem bv.unpinned{pins pl:List (Addr×Obj)}{σ:St}{H:Hp}{s:Shared}(I:bv X (pins++pl) σ H s):bv X pins σ H s:=I.pins_of λp hp=>I.pin p (bO _ (cE _ hp))
theorem JK{iter:Expr}{body:List Stmt}{wi:TI}{g:TG}{tb:TS}{pos:Pos}(hp:PassesOwn (model X.prog X.w) X.A X.env X.xe)(hc:X.calm=true)(hi:PI X tg iter wi)(hg:PG X tg g)(hb:xr X body tb)
  (hs:∀x,foldedSetIterable iter X.env x=pure x:=by intro _;rfl):PS X (.For tg iter body [] pos) (rH wi g tb):=by
 intro pins s σ H D I h;refine wpAny_For (eS (hi pins s σ H _ I h) λv s1 h1=>eS h1 λitv s2 h2=>?_) hs;obtain⟨it,fp,tn,J,H2,e,I2,T,st2,f2,W,⟨m0,w0⟩,turn⟩:=h2;subst e;have stat:∀{H':Hp},(∀b∈fp,H' b=none)->∀b∈fp,kt X pins H' b:=λhn b hb=>⟨hn b hb,(f2 b hb).2⟩
 refine codeAny_forLoop_any (λn s'=>∃i σ' H',bv X pins σ' H' s'/\tn i s'.heap/\(∀b∈fp,H' b=none)/\W i n σ' H') ?_ m0 ⟨0,σ,H2,I2,st2,λb hb=>(f2 b hb).1,w0⟩;rintro n s3 ⟨i,σ3,H3,I3,st3,fr3,w3⟩;rcases turn i n σ3 H3 w3 with ⟨stop,qn⟩ | ⟨go,N,hN,step⟩
 ·refine Qd hp (eS (T.done X rfl rfl rfl hc i pins s3 σ3 H3 X.xe I3 (stat fr3) st3 stop) λr s4 ⟨hr,I4⟩=>?_);subst hr;exact Qa ⟨σ3,H3,I4,qn⟩
 ·refine Qd hp (eS (T.item X rfl rfl rfl hc i pins s3 σ3 H3 X.xe I3 (stat fr3) st3 go) λr s4 ⟨u,hr,h4⟩=>?_);subst hr;refine Qd hp (eS h4 λ_ s5 ⟨x,H5,I5,r5,y5,st5,fr5⟩=>?_);have I5':=I5.pinned (stat fr5) (T.obj _ _ st5);refine Qd hp (eS (hg _ s5 σ3 H5 x u _ I5' r5 (step x H5 y5)) λ_ s6 ⟨σ6,H6,I6,q6⟩=>?_);refine Qd hp (eS (hb _ s6 σ6 H6 _ I6 q6) λf s7 q7=>?_);have again:∀{σ7:St} {H7:Hp},bv X (pins++mZ fp s5.heap) σ7 H7 s7->N σ7 H7->∃m,m<n/\∃i σ' H',bv X pins σ' H' s7/\tn i s7.heap/\(∀b∈fp,H' b=none)/\W i m σ' H':=fun {σ7 H7} I7 n7=>by
   obtain⟨m',hm,w7⟩:=hN σ7 H7 n7;refine⟨m',hm,i+1,σ7,H7,I7.unpinned,T.keep _ _ _ st5 λb hb o e=>(I7.pin (b,o) (bO _ (bO _ (iT hb e)))).1,λb hb=>?_,w7⟩;obtain⟨o,e,d⟩:=T.obj _ _ st5 b hb;exact(I7.pin (b,o) (bO _ (bO _ (iT hb e)))).2.1
  cases f with
  | next=>obtain⟨σ7,H7,I7,n7⟩:=q7;exact again I7 n7
  | cont=>obtain⟨σ7,H7,I7,n7⟩:=q7;exact again I7 n7
  | brk=>obtain⟨σ7,H7,I7,q7⟩:=q7;exact⟨σ7,H7,I7.unpinned,q7⟩
  | ret v=>obtain⟨x7,σ7,H7,I7,r7,q7⟩:=q7;exact⟨x7,σ7,H7,I7.unpinned,r7,q7⟩
end
theorem gW{K:RV}{a:Addr}{xs:List V}{g:TG}{tb:TS}{D:Ends}{σ:St}{H:Hp}(Pv:Nat->St->Hp->Prop)(h0:Pv 0 σ H)(hl:∀i σ H,i<=xs.length->Pv i σ H->bw K H a xs)
  (hs:∀i x σ H,xs[i]? = some x->Pv i σ H->g x σ H λσ2 H2=>tb { D with nx:=Pv (i+1),ct:=Pv (i+1),bk:=D.nx } σ2 H2) (hd:∀σ H,Pv xs.length σ H->D.nx σ H) :
  ∃W:Nat->Nat->St->Hp->Prop,(∃m,W 0 m σ H)/\∀i m σ H,W i m σ H →
   ((HD K a).stop i H/\D.nx σ H)\/((HD K a).go i H/\∃N:St->Hp->Prop,(∀σ' H',N σ' H'->∃m',m'<m/\W (i+1) m' σ' H')/\∀x H',(HD K a).yld i H x H'->g x σ H' λσ2 H2=>tb { D with nx:=N,ct:=N,bk:=D.nx } σ2 H2):=by
 refine⟨λi m σ H=>m=xs.length-i/\i<=xs.length/\Pv i σ H,⟨xs.length,by simp,ac _,h0⟩,?_⟩;rintro i m σ H ⟨rfl,hi,p⟩;have q:=hl i σ H hi p;by_cases hlt:i<xs.length
 ·refine .inr ⟨⟨xs,xs[i],q,by simp[hlt]⟩,Pv (i+1),λσ' H' p'=>⟨xs.length-(i+1),by lia,rfl,hlt,p'⟩,λx H' y=>?_⟩;obtain⟨e,y⟩:=y;subst e;exact hs i x σ _ (y xs q) p
 ·have e:i=xs.length:=by lia
  subst e;exact .inl ⟨⟨xs,q,aH _⟩,hd σ H p⟩
theorem Ai{K:RV}{a:Addr}{xs:List V}{g:TG}{tb:TS}{D:Ends}{σ:St}{H:Hp}(Pv:Nat->St->Hp->Prop)(h0:Pv 0 σ H)(hl:∀i σ H,i<=xs.length->Pv i σ H->dD K H a xs)
  (hs:∀i x σ H,xs[i]? = some x->Pv i σ H->g x σ H λσ2 H2=>tb { D with nx:=Pv (i+1),ct:=Pv (i+1),bk:=D.nx } σ2 H2) (hd:∀σ H,Pv xs.length σ H->D.nx σ H) :
  ∃W:Nat->Nat->St->Hp->Prop,(∃m,W 0 m σ H)/\∀i m σ H,W i m σ H →
   ((Hq K a).stop i H/\D.nx σ H)\/((Hq K a).go i H/\∃N:St->Hp->Prop,(∀σ' H',N σ' H'->∃m',m'<m/\W (i+1) m' σ' H')/\∀x H',(Hq K a).yld i H x H'->g x σ H' λσ2 H2=>tb { D with nx:=N,ct:=N,bk:=D.nx } σ2 H2):=by
 refine⟨λi m σ H=>m=xs.length-i/\i<=xs.length/\Pv i σ H,⟨xs.length,by simp,ac _,h0⟩,?_⟩;rintro i m σ H ⟨rfl,hi,p⟩;have q:=hl i σ H hi p;by_cases hlt:i<xs.length
 ·refine .inr ⟨⟨xs,xs[i],q,by simp[hlt]⟩,Pv (i+1),λσ' H' p'=>⟨xs.length-(i+1),by lia,rfl,hlt,p'⟩,λx H' y=>?_⟩;obtain⟨e,y⟩:=y;subst e;exact hs i x σ _ (y xs q) p
 ·have e:i=xs.length:=by lia
  subst e;exact .inl ⟨⟨xs,q,aH _⟩,hd σ H p⟩
theorem fB{lo:Int}{n:Nat}{g:TG}{tb:TS}{D:Ends}{σ:St}{H:Hp}(Pv:Nat->St->Hp->Prop)(h0:Pv 0 σ H)
  (hs:∀i σ H,i<n->Pv i σ H->g (.int (lo+i)) σ H λσ2 H2=>tb { D with nx:=Pv (i+1),ct:=Pv (i+1),bk:=D.nx } σ2 H2) (hd:∀σ H,Pv n σ H->D.nx σ H) :
  ∃W:Nat->Nat->St->Hp->Prop,(∃m,W 0 m σ H)/\∀i m σ H,W i m σ H →
   ((Br lo n).stop i H/\D.nx σ H)\/((Br lo n).go i H/\∃N:St->Hp->Prop,(∀σ' H',N σ' H'->∃m',m'<m/\W (i+1) m' σ' H')/\∀x H',(Br lo n).yld i H x H'->g x σ H' λσ2 H2=>tb { D with nx:=N,ct:=N,bk:=D.nx } σ2 H2):=by
 refine⟨λi m σ H=>m=n-i/\i<=n/\Pv i σ H,⟨n,by simp,ac _,h0⟩,?_⟩;rintro i m σ H ⟨rfl,hi,p⟩;by_cases hlt:i<n
 ·refine .inr ⟨hlt,Pv (i+1),λσ' H' p'=>⟨n-(i+1),by lia,rfl,hlt,p'⟩,λx H' y=>?_⟩;obtain⟨e,y⟩:=y;subst e y;exact hs i σ _ hlt p
 ·have e:i=n:=by lia
  subst e;exact .inl ⟨aH _,hd σ H p⟩
abbrev R2:=V->V->Hp->VK->Prop
def mf(X:Cx)(f:Value->Value->Sem Value)(r:R2):Prop:=
 ∀(pins:List (Addr×Obj)) (s:Shared) (σ:St) (H:Hp) (x y:V) (v u:Value) (Q:VK),bv X pins σ H s->RelV x v->RelV y u->r x y H Q →
  wpAny (model X.prog X.w) X.A (f v u) (EP X pins σ Q) X.xe s
def MD(X:Cx)(f:Value->Sem Value)(r:V->Hp->VK->Prop):Prop:=
 ∀(pins:List (Addr×Obj)) (s:Shared) (σ:St) (H:Hp) (x:V) (v:Value) (Q:VK),bv X pins σ H s->RelV x v->r x H Q →
  wpAny (model X.prog X.w) X.A (f v) (EP X pins σ Q) X.xe s
def iP(X:Cx)(f:Value)(r:List V->Hp->VK->Prop):Prop:=
 ∀(pins:List (Addr×Obj)) (s:Shared) (σ:St) (H:Hp) (xs:List V) (us:List Value) (Q:VK),bv X pins σ H s->cV xs us->r xs H Q →
  wpAny (model X.prog X.w) X.A (call f us) (EP X pins σ Q) X.xe s
def Md(X:Cx)(r:V->Hp->(Bool->Hp->Prop)->Prop):Prop:=
 ∀(pins:List (Addr×Obj)) (s:Shared) (σ:St) (H:Hp) (x:V) (v:Value) (Q:Bool->Hp->Prop),bv X pins σ H s->RelV x v->r x H Q →
  wpAny (model X.prog X.w) X.A (truthy v) (TP X pins σ Q) X.xe s
def Ce(r:R2)(ta tb:TE):TE:=λσ H Q=>ta σ H λx H1=>tb σ H1 λy H2=>r x y H2 Q
def MM(r:V->Hp->VK->Prop)(ta:TE):TE:=λσ H Q=>ta σ H λx H1=>r x H1 Q
def rI(C:Int->Int->Prop)(g:Int->Int->V):R2:=λx y H Q=>∃i j,x=.int i/\y=.int j/\C i j/\Q (g i j) H
def Hh(g:Int->Int->V):R2:=λx y H Q=>∃i j,x=.int i/\y=.int j/\Q (g i j) H
def rU(g:Int->V):V->Hp->VK->Prop:=λx H Q=>∃i,x=.int i/\Q (g i) H
section
variable {X:Cx} {a b:Expr} {ta tb:TE} {pos:Pos}
theorem KH(ha:PE X a ta)(hb:PE X b tb){pins:List (Addr×Obj)}{s:Shared}{σ:St}{H:Hp}{R:V->V->Hp->Prop}(I:bv X pins σ H s)
  (h:ta σ H λx H1=>tb σ H1 λy H2=>R x y H2) {Q:Value->Shared->Prop} {f:Value->Value->Sem Value}
  (hf:∀v u s2 x y H2,bv X pins σ H2 s2->RelV x v->RelV y u->R x y H2->wpAny (model X.prog X.w) X.A (f v u) Q X.xe s2) :
  wpAny (model X.prog X.w) X.A (eval a X.env) (λv s₁=>wpAny (model X.prog X.w) X.A (eval b X.env) (λu s₂=>wpAny (model X.prog X.w) X.A (f v u) Q X.xe s₂) X.xe s₁) X.xe s:=by
 refine eS (ha pins s σ H _ I h) λv s1 ⟨x,H1,I1,r1,q1⟩=>?_;refine eS (hb pins s1 σ H1 _ I1 q1) λu s2 ⟨y,H2,I2,r2,q2⟩=>?_;exact hf v u s2 x y H2 I2 r1 r2 q2
theorem L3{op:Operator}{r:R2}(ho:mf X (binaryOp op) r)(ha:PE X a ta)(hb:PE X b tb):PE X (.BinOp a op b pos) (Ce r ta tb):=by
 intro pins s σ H Q I h;exact wpAny_BinOp (KH ha hb I h λv u s2 x y H2 I2 rx ry q=>ho pins s2 σ H2 x y v u Q I2 rx ry q)
theorem L0{op:UnaryOp}{r:V->Hp->VK->Prop}(ho:MD X (unaryOp op) r)(ha:PE X a ta):PE X (.UnaryOp op a pos) (MM r ta):=by
 intro pins s σ H Q I h;exact UnaryOp_ (eS (ha pins s σ H _ I h) λv s1 ⟨x,H1,I1,r1,q1⟩=>ho pins s1 σ H1 x v Q I1 r1 q1)
theorem MB{f:Value->Value->Sem Value}{C:Int->Int->Prop}{g:Int->Int->Int}
  (rule:∀(i j:Int) (t u:Tok) (s:Shared) (Q:Value->Shared->Prop) (E:Value->Shared->Prop),C i j->Q (.int (g i j) s.toks) { s with toks:=s.toks+1 }->wpAny (model X.prog X.w) X.A (f (.int i t) (.int j u)) Q E s) :
  mf X f (rI C λi j=>.int (g i j)):=by
 intro pins s σ H x y v u Q I rx ry h;obtain⟨i,j,rfl,rfl,hc,q⟩:=h;obtain⟨t,rfl⟩:=rx;obtain⟨t',rfl⟩:=ry;exact rule i j t t' s _ _ hc ⟨.int (g i j),H,I.tok _,⟨_,rfl⟩,q⟩
theorem L8{f:Value->Value->Sem Value}{g:Int->Int->Int}
  (rule:∀(i j:Int) (t u:Tok) (s:Shared) (Q:Value->Shared->Prop) (E:Value->Shared->Prop),Q (.int (g i j) s.toks) { s with toks:=s.toks+1 }->wpAny (model X.prog X.w) X.A (f (.int i t) (.int j u)) Q E s) :
  mf X f (Hh λi j=>.int (g i j)):=by
 intro pins s σ H x y v u Q I rx ry h;obtain⟨i,j,rfl,rfl,q⟩:=h;obtain⟨t,rfl⟩:=rx;obtain⟨t',rfl⟩:=ry;exact rule i j t t' s _ _ ⟨.int (g i j),H,I.tok _,⟨_,rfl⟩,q⟩
theorem J7{f:Value->Value->Sem Value}{g:Int->Int->Bool}
  (rule:∀(i j:Int) (t u:Tok) (s:Shared) (Q:Value->Shared->Prop) (E:Value->Shared->Prop),Q (.bool (g i j)) s->wpAny (model X.prog X.w) X.A (f (.int i t) (.int j u)) Q E s) :
  mf X f (Hh λi j=>.bl (g i j)):=by
 intro pins s σ H x y v u Q I rx ry h;obtain⟨i,j,rfl,rfl,q⟩:=h;obtain⟨t,rfl⟩:=rx;obtain⟨t',rfl⟩:=ry;exact rule i j t t' s _ _ ⟨.bl (g i j),H,I,rfl,q⟩
def Mk(i j:Int):Prop:=0<j/\j<1073741824
def Mj(i j:Int):Prop:=0<=j/\j<=1000000/\i.natAbs<2 ^ 64
def KU(i j:Int):Prop:=(-(2 ^ 64)<i/\i<2 ^ 64)\/(-(2 ^ 64)<j/\j<2 ^ 64)
theorem KU.ok{i j:Int}(h:KU i j):IntMulOk i j:=by
 rcases h with ⟨h1,h2⟩ | ⟨h1,h2⟩
 ·exact .of_left (intBits_le_64 h1 h2)
 ·exact .of_right (intBits_le_64 h1 h2)
theorem c9:mf X (binaryOp .Add) (Hh λi j=>.int (i+j)):=L8 λ_ _ _ _ _ _ _ q=>add_int q
theorem fY:mf X (binaryOp .Sub) (Hh λi j=>.int (i-j)):=L8 λ_ _ _ _ _ _ _ q=>sub_int q
theorem fH:mf X (binaryOp .Mult) (rI KU λi j=>.int (i*j)):=MB λ_ _ _ _ _ _ _ hc q=>mul_int q hc.ok
theorem pq:mf X (binaryOp .FloorDiv) (rI Mk λi j=>.int (i / j)):=MB λi j _ _ _ _ _ hc q=>by
 have h1:(0:Int)<j:=hc.1;have h2:j<1073741824:=hc.2;exact floordiv_int (by lia) (by rw[Int.fdiv_eq_ediv_of_nonneg i (by lia)];exact q) (.inl (PyProof.noPylong_small (by lia)))
theorem kf:mf X (binaryOp .Mod) (rI (λ_ j=>0<j) λi j=>.int (i % j)):=MB λi j _ _ _ _ _ hc q=>by
 have h1:(0:Int)<j:=hc;exact mod_int' (by lia) (by rw[Int.fmod_eq_emod_of_nonneg i (by lia)];exact q)
theorem J5:mf X (binaryOp .Pow) (rI Mj λi j=>.int (i ^ j.toNat)):=MB λ_ _ _ _ _ _ _ hc q=>pow_int_small hc.1 hc.2.1 hc.2.2 q
theorem Mz{f:Value->Sem Value}{g:Int->Int}
  (rule:∀(i:Int) (t:Tok) (s:Shared) (Q:Value->Shared->Prop) (E:Value->Shared->Prop),Q (.int (g i) s.toks) { s with toks:=s.toks+1 }->wpAny (model X.prog X.w) X.A (f (.int i t)) Q E s) :
  MD X f (rU λi=>.int (g i)):=by
 intro pins s σ H x v Q I rx h;obtain⟨i,rfl,q⟩:=h;obtain⟨t,rfl⟩:=rx;exact rule i t s _ _ ⟨.int (g i),H,I.tok _,⟨_,rfl⟩,q⟩
theorem oy:MD X (unaryOp .USub) (rU λi=>.int (-i)):=Mz λ_ _ _ _ _ q=>neg_int q
end
def Il:V->V->Bool
 | .non,.non=>true | .non,.int _=>true | .int _,.non=>true | .non,.bl _=>true | .bl _,.non=>true | .non,.str _=>true | .str _,.non=>true
 | .int _,.int _=>true | .bl _,.bl _=>true | .str _,.str _=>true | .byt _,.byt _=>true
 | .int _,.str _=>true | .str _,.int _=>true | .bl _,.str _=>true | .str _,.bl _=>true
 | _,_=>false
def Lz:R2:=λx y H Q=>Il x y=true/\Q (.bl (decide (x=y))) H
def Ly:R2:=λx y H Q=>Il x y=true/\Q (.bl (!decide (x=y))) H
theorem Am{i j:Int}:decide (V.int i=V.int j)=(i==j):=by
 rw[df];simp
theorem Ee{i j:Bool}:decide (V.bl i=V.bl j)=(i==j):=by
 rw[df];simp
theorem Al{i j:Str}:decide (V.str i=V.str j)=(i==j):=by
 rw[df];simp
theorem An{i j:Array UInt8}:decide (V.byt i=V.byt j)=(i.toList==j.toList):=by
 rw[df];cases i;cases j;simp
section
variable {X:Cx} {a b c:Expr} {ta tb tc:TE} {pos:Pos}
theorem dX{pins:List (Addr×Obj)}{σ:St}{H:Hp}{s:Shared}{Q:VK}{k k':Bool}(I:bv X pins σ H s)(q:Q (.bl k) H)(e:k=k'):EP X pins σ Q (.bool k') s:=by
 subst e;exact⟨.bl k,H,I,rfl,q⟩
theorem iI:mf X (compareOp .Eq) Lz:=by
 intro pins s σ H x y v u Q I rx ry h;obtain⟨hs,q⟩:=h;cases x with
 | non=>
  cases rx;cases y with
  | non=>cases ry;exact PySem.EqNone.eq_none_none (dX I q (by simp))
  | bl j=>cases ry;exact PySem.EqNone.eq_none_bool (dX I q (by simp))
  | int j=>obtain⟨t',rfl⟩:=ry;exact PySem.EqNone.eq_none_int (dX I q (by simp))
  | str j=>obtain⟨t',rfl⟩:=ry;exact PySem.EqNone.eq_none_str (dX I q (by simp))
  | _=>exact absurd (show false=true from hs) af
 | bl i=>
  cases rx;cases y with
  | non=>cases ry;exact PySem.EqNone.eq_bool_none (dX I q (by simp))
  | bl j=>cases ry;exact eq_bool (dX I q Ee)
  | str j=>obtain⟨t',rfl⟩:=ry;exact PySem.EqMixed.eq_bool_str (dX I q (by simp))
  | _=>exact absurd (show false=true from hs) af
 | int i=>
  obtain⟨t,rfl⟩:=rx;cases y with
  | non=>cases ry;exact PySem.EqNone.eq_int_none (dX I q (by simp))
  | int j=>obtain⟨t',rfl⟩:=ry;exact eq_int (dX I q Am)
  | str j=>obtain⟨t',rfl⟩:=ry;exact PySem.EqMixed.eq_int_str (dX I q (by simp))
  | _=>exact absurd (show false=true from hs) af
 | str i=>
  obtain⟨t,rfl⟩:=rx;cases y with
  | non=>cases ry;exact PySem.EqNone.eq_str_none (dX I q (by simp))
  | bl j=>cases ry;exact PySem.EqMixed.eq_str_bool (dX I q (by simp))
  | int j=>obtain⟨t',rfl⟩:=ry;exact PySem.EqMixed.eq_str_int (dX I q (by simp))
  | str j=>obtain⟨t',rfl⟩:=ry;exact eq_str (dX I q Al)
  | _=>exact absurd (show false=true from hs) af
 | byt i=>
  obtain⟨t,rfl⟩:=rx;cases y with
  | byt j=>obtain⟨t',rfl⟩:=ry;exact PySem.W.eq_bytes (dX I q An)
  | _=>exact absurd (show false=true from hs) af
 | _=>cases y<;>exact absurd (show false=true from hs) af
theorem pf:mf X (compareOp .NotEq) Ly:=by
 intro pins s σ H x y v u Q I rx ry h;obtain⟨hs,q⟩:=h;cases x with
 | non=>
  cases rx;cases y with
  | non=>cases ry;exact PySem.EqNone.ne_none_none (dX I q (by simp))
  | bl j=>cases ry;exact PySem.EqNone.ne_none_bool (dX I q (by simp))
  | int j=>obtain⟨t',rfl⟩:=ry;exact PySem.EqNone.ne_none_int (dX I q (by simp))
  | str j=>obtain⟨t',rfl⟩:=ry;exact PySem.EqNone.ne_none_str (dX I q (by simp))
  | _=>exact absurd (show false=true from hs) af
 | bl i=>
  cases rx;cases y with
  | non=>cases ry;exact PySem.EqNone.ne_bool_none (dX I q (by simp))
  | bl j=>cases ry;exact ne_bool (dX I q (congrArg not Ee))
  | str j=>obtain⟨t',rfl⟩:=ry;exact PySem.EqMixed.ne_bool_str (dX I q (by simp))
  | _=>exact absurd (show false=true from hs) af
 | int i=>
  obtain⟨t,rfl⟩:=rx;cases y with
  | non=>cases ry;exact PySem.EqNone.ne_int_none (dX I q (by simp))
  | int j=>obtain⟨t',rfl⟩:=ry;exact ne_int (dX I q (congrArg not Am))
  | str j=>obtain⟨t',rfl⟩:=ry;exact PySem.EqMixed.ne_int_str (dX I q (by simp))
  | _=>exact absurd (show false=true from hs) af
 | str i=>
  obtain⟨t,rfl⟩:=rx;cases y with
  | non=>cases ry;exact PySem.EqNone.ne_str_none (dX I q (by simp))
  | bl j=>cases ry;exact PySem.EqMixed.ne_str_bool (dX I q (by simp))
  | int j=>obtain⟨t',rfl⟩:=ry;exact PySem.EqMixed.ne_str_int (dX I q (by simp))
  | str j=>obtain⟨t',rfl⟩:=ry;exact ne_str (dX I q (congrArg not Al))
  | _=>exact absurd (show false=true from hs) af
 | byt i=>
  obtain⟨t,rfl⟩:=rx;cases y with
  | byt j=>obtain⟨t',rfl⟩:=ry;exact PySem.W.ne_bytes (dX I q (congrArg not An))
  | _=>exact absurd (show false=true from hs) af
 | _=>cases y<;>exact absurd (show false=true from hs) af
theorem lm:mf X (compareOp .Lt) (Hh λi j=>.bl (decide (i<j))):=J7 λ_ _ _ _ _ _ _ q=>lt_int q
theorem Dv:mf X (compareOp .LtE) (Hh λi j=>.bl (decide (i<=j))):=J7 λ_ _ _ _ _ _ _ q=>le_int q
theorem ph:mf X (compareOp .Gt) (Hh λi j=>.bl (decide (j<i))):=J7 λ_ _ _ _ _ _ _ q=>gt_int q
theorem oY:mf X (compareOp .In) (λx y H Q=>∃i j,x=.str i/\y=.str j/\Q (.bl (!(Builtin.Str.occurrences j i 0 j.length 1).isEmpty)) H):=by
 intro pins s σ H x y v u Q I rx ry h;obtain⟨i,j,rfl,rfl,q⟩:=h;obtain⟨t,rfl⟩:=rx;obtain⟨t',rfl⟩:=ry;exact in_str (dX I q rfl)
theorem J6:mf X (compareOp .Is) (λx y H Q=>y=.non/\Q (.bl (decide (x=.non))) H):=by
 intro pins s σ H x y v u Q I rx ry h;obtain⟨rfl,q⟩:=h;cases ry;refine is_none_gen (dX I q ?_);cases x<;>first
  | (cases rx;rfl)
  | (obtain⟨t,rfl⟩:=rx;rfl)
theorem AX:mf X (compareOp .IsNot) (λx y H Q=>y=.non/\Q (.bl (!decide (x=.non))) H):=by
 intro pins s σ H x y v u Q I rx ry h;obtain⟨rfl,q⟩:=h;cases ry;refine isnot_none_gen (dX I q ?_);cases x<;>first
  | (cases rx;rfl)
  | (obtain⟨t,rfl⟩:=rx;rfl)
theorem bp(b:Expr){op:CmpOp}(h:op≠.In:=by decide)(h2:op≠.NotIn:=by decide):behindInMarks op b=false:=by
 have e1:(op==CmpOp.In)=false:=by cases op<;>first | rfl | exact absurd rfl h
 have e2:(op==CmpOp.NotIn)=false:=by cases op<;>first | rfl | exact absurd rfl h2
 cases b<;>simp[behindInMarks,e1,e2]
theorem GC{op:CmpOp}{r:R2}(ho:mf X (compareOp op) r)(ha:PE X a ta)(hb:PE X b tb)(hm:behindInMarks op b=false):PE X (.Compare a [op] [b] pos) (Ce r ta tb):=by
 intro pins s σ H Q I h;exact wpAny_Compare1 (KH ha hb I h λv u s2 x y H2 I2 rx ry q=>ho pins s2 σ H2 x y v u Q I2 rx ry q) hm
def sM(t:TE):TT:=λσ H Q=>t σ H λx H'=>∃k,x=.bl k/\Q k H'
theorem Fe{op:CmpOp}{r:R2}(ho:mf X (compareOp op) r)(ha:PE X a ta)(hb:PE X b tb)(hm:behindInMarks op b=false):PT X (.Compare a [op] [b] pos) (sM (Ce r ta tb)):=by
 intro pins s σ H Q I h;refine wpAny_isTrue_Compare1 (eS (ha pins s σ H _ I h) λv s1 ⟨x,H1,I1,r1,q1⟩=>eS (hb pins s1 σ H1 _ I1 q1) λu s2 ⟨y,H2,I2,r2,q2⟩=>
  eS (ho pins s2 σ H2 x y v u _ I2 r1 r2 q2) λc s3 ⟨z,H3,I3,r3,k,e,q3⟩=>?_) hm
 subst e;cases r3;exact Q9 ⟨H3,I3,q3⟩
def y8(r r':R2)(ta tb tc:TE):TE:=λσ H Q=>ta σ H λx H1=>tb σ H1 λy H2=>r x y H2 λz H3=>∃k,z=.bl k ∧
 (if k=true then tc σ H3 λw' H4=>r' y w' H4 Q else Q (.bl false) H3)
theorem D6{op op':CmpOp}{r r':R2}(ho:mf X (compareOp op) r)(ho':mf X (compareOp op') r')(ha:PE X a ta)(hb:PE X b tb)(hc:PE X c tc)
  (hm:lastMarks [op,op'] [b,c]=false:=by with_unfolding_all rfl):PT X (.Compare a [op,op'] [b,c] pos) (sM (y8 r r' ta tb tc)):=by
 intro pins s σ H Q I h;refine isTrue_chain (eS (ha pins s σ H _ I h) λv s1 ⟨x,H1,I1,r1,q1⟩=>test_link (eS (hb pins s1 σ H1 _ I1 q1) λu s2 ⟨y,H2,I2,r2,q2⟩=>
  eS (ho pins s2 σ H2 x y v u _ I2 r1 r2 q2) λd s3 ⟨z,H3,I3,r3,k,e,q3⟩=>?_)) hm
 subst e;cases r3;refine Q9 ?_;cases k with
 | false=>
  obtain⟨k',e',q'⟩:=q3;cases e';exact ite_ff ⟨H3,I3,q'⟩
 | true=>
  refine ite_tt (test_last (eS (hc pins s3 σ H3 _ I3 q3) λw' s4 ⟨z',H4,I4,r4,q4⟩=>eS (ho' pins s4 σ H4 y z' u w' _ I4 r2 r4 q4) λd' s5 ⟨z2,H5,I5,r5,k2,e2,q5⟩=>?_));subst e2;cases r5;exact Q9 ⟨H5,I5,q5⟩
def KJ(K:RV)(x:V)(H:Hp)(k:Bool):Prop:=
 match x with
 | .non=>k=false
 | .bl b=>k=b
 | .int i=>k=(i != 0)
 | .str y=>y.length<=sizeLine/\k=((y.length:Int) != 0)
 | .byt y=>y.size<=sizeLine/\k=((y.size:Int) != 0)
 | .ref p=>(∃xs,bw K H p xs/\k=!xs.isEmpty)\/(∃xs,dD K H p xs/\k=!xs.isEmpty)\/∃kvs,H p=some (.dK kvs)/\k=!kvs.isEmpty
 | _=>False
theorem zL{κ:Type}{kvs:List (κ×V)}{vs:List (κ×Value)}(r:KV kvs vs):(!vs.isEmpty)=!kvs.isEmpty:=by
 cases r<;>rfl
theorem tN{xs:List V}{its:List Value}(r:cV xs its):(!its.toArray.isEmpty)=!xs.isEmpty:=by
 cases r<;>simp
theorem pJ:(sizeLine:Nat)<2 ^ 63:=by rw[Qf];decide
theorem IU:Md X (λx H Q=>∃k,KJ X.K x H k/\Q k H):=by
 intro pins s σ H x v Q I rx h;obtain⟨k,e,q⟩:=h;have hl:=pJ;have hs:sizeLine=16777216:=Qf;cases x with
 | non=>
  cases rx;have e':k=false:=e;subst e';exact truthy_none ⟨H,I,q⟩
 | bl b=>
  cases rx;have e':k=b:=e;subst e';exact Q9 ⟨H,I,q⟩
 | int i=>
  obtain⟨t,rfl⟩:=rx;have e':k=(i != 0):=e;subst e';exact PySem.P.truthy_int ⟨H,I,q⟩
 | str y=>
  obtain⟨t,rfl⟩:=rx;obtain⟨hy,e'⟩:y.length<=sizeLine/\k=((y.length:Int) != 0):=e;subst e';exact PySem.P.truthy_str (by lia) ⟨H,I.tok _,q⟩
 | byt y=>
  obtain⟨t,rfl⟩:=rx;obtain⟨hy,e'⟩:y.size<=sizeLine/\k=((y.size:Int) != 0):=e;subst e';exact PySem.W.truthy_bytes (by lia) ⟨H,I.tok _,q⟩
 | ref p=>
  cases rx;have e':(∃xs,bw X.K H p xs/\k=!xs.isEmpty)\/(∃xs,dD X.K H p xs/\k=!xs.isEmpty)\/∃kvs,H p=some (.dK kvs)/\k=!kvs.isEmpty:=e;rcases e' with ⟨xs,hx,e'⟩ | ⟨xs,hx,e'⟩ | ⟨kvs,hx,e'⟩
  ·subst e';obtain⟨its,r,pl,hz⟩:=I.list hx;have hlen:=r.length;exact wpAny_truthy_list pl.isList (by simp only[aS];lia) ⟨H,I.tok _,by rw[tN r];exact q⟩
  ·subst e';obtain⟨its,r,pl,hz⟩:=I.tuple hx;have hlen:=r.length;exact truthy_tuple pl (by simp only[aS];lia) ⟨H,I.tok _,by rw[tN r];exact q⟩
  ·subst e';obtain⟨hz,hS,vs,r,m⟩:kvs.length<=sizeLine/\(p==sysModules)=false/\∃vs,KV kvs vs/\s.heap.DictOf (fI X.prog X.w) p vs:=I.hok p _ hx;have hlen:kvs.length=vs.length:=au r;exact wpAny_truthy_dict hS m (by lia) ⟨H,I.tok _,by rw[zL r];exact q⟩
 | _=>exact(show False from e).elim
theorem D4(ha:PE X a ta)(he:∀whole,isTrue a X.env whole=(do let v <-whole;standAt a.pos;holding [v] (truthy v))):
  PT X a (λσ H Q=>ta σ H λx H'=>∃k,KJ X.K x H' k/\Q k H'):=by
 intro pins s σ H Q I h;exact isTrue_plain (eS (ha pins s σ H _ I h) λv s1 ⟨x,H1,I1,r1,q1⟩=>IU pins s1 σ H1 x v Q I1 r1 q1) (he _)
theorem Qg{x:V}{us:List Value}(r:cV [x] us):∃u,us=[u]/\RelV x u:=by
 cases r with
 | cons r1 r2=>cases r2;exact⟨_,rfl,r1⟩
theorem vals2{x y:V}{us:List Value}(r:cV [x,y] us):∃u w',us=[u,w']/\RelV x u/\RelV y w':=by
 cases r with
 | cons r1 r2=>
  cases r2 with
  | cons r3 r4=>cases r4;exact⟨_,_,rfl,r1,r3⟩
theorem vC (hc:X.calm=true):iP X (.builtin "max") (λxs H Q=>∃i j,xs=[.int i,.int j]/\Q (.int (if j > i then j else i)) H):=by
 intro pins s σ H xs us Q I r h;obtain⟨i,j,rfl,q⟩:=h;obtain⟨u,w',rfl,⟨t,rfl⟩,⟨t',rfl⟩⟩:=vals2 r;refine max_two_ints (I.ok.hd hc) λh' tk k=>⟨_,H,I.kept k,?_,q⟩
 by_cases hj:j > i
 ·rw[RN hj,RN hj];exact⟨_,rfl⟩
 ·rw[RM hj,RM hj];exact⟨_,rfl⟩
theorem Bm (hc:X.calm=true):iP X (.builtin "min") (λxs H Q=>∃i j,xs=[.int i,.int j]/\Q (.int (if j<i then j else i)) H):=by
 intro pins s σ H xs us Q I r h;obtain⟨i,j,rfl,q⟩:=h;obtain⟨u,w',rfl,⟨t,rfl⟩,⟨t',rfl⟩⟩:=vals2 r;refine min_two_ints (I.ok.hd hc) λh' tk k=>⟨_,H,I.kept k,?_,q⟩
 by_cases hj:j<i
 ·rw[RN hj,RN hj];exact⟨_,rfl⟩
 ·rw[RM hj,RM hj];exact⟨_,rfl⟩
theorem mD:iP X (.type "int") (λxs H Q=>(∃i,xs=[.int i]/\Q (.int i) H)\/∃k,xs=[.bl k]/\Q (.int (if k then 1 else 0)) H):=by
 intro pins s σ H xs us Q I r h;rcases h with ⟨i,rfl,q⟩ | ⟨k,rfl,q⟩
 ·obtain⟨u,rfl,t,rfl⟩:=Qg r;exact call_int_int ⟨.int i,H,I,⟨_,rfl⟩,q⟩
 ·obtain⟨u,rfl,r1⟩:=Qg r;cases r1;exact call_int_bool ⟨.int (if k then 1 else 0),H,I.tok _,⟨_,rfl⟩,q⟩
end
structure KP (h:Heap) (x dx C:Addr) (mA:Str->Option Value):Prop where
 obj:h.get? x=some (PySem.W.instObj C dx)
 ns:h.Ns1 dx mA
 ne:dx≠x
theorem B2{h:Heap}{dx:Addr}{mA:Str->Option Value}(n:h.Ns1 dx mA):∃od,h.get? dx=some od/\∀name,PySem.W.lookIn name od=some (mA name):=by
 obtain⟨o,es,ep,ho,hd,hk,_,hm⟩:=n;refine⟨o,ho,λname=>?_⟩;have e:=hm name;unfold nsFind findBy at e;rw[<-Array.find?_toList] at e;unfold PySem.W.lookIn;rw[hd];dsimp only
 split
 ·rename_i y q;rw[q] at e;exact congrArg some e
 ·rename_i q;rw[q] at e;have a:es.toList.any (·.refKey)=false:=by
   rw[List.any_eq_false];intro y hy;obtain⟨z,t,hkey⟩:=hk y (Array.mem_toList_iff.mp hy);simp[DictEntry.refKey,hkey]
  have a':¬es.toList.any (·.refKey)=true:=by rw[a];exact af
  rw[RM a'];exact congrArg some e
theorem KP.look{h:Heap}{x dx C:Addr}{mA:Str->Option Value}(I:KP h x dx C mA):∃od,PySem.W.InstAt h x (PySem.W.instObj C dx) C (some od)/\∀name,PySem.W.lookIn name od=some (mA name):=
 let ⟨od,ho,hl⟩:=B2 I.ns
 ⟨od,⟨I.obj,rfl,rfl,ho⟩,hl⟩
theorem qw.some_of{v:V}{o:Option Value}(r:qw (some v) o):∃u,o=some u/\RelV v u:=by
 cases o with
 | none=>exact(show False from r).elim
 | some u=>exact⟨u,rfl,r⟩
section
variable {P:Program} {w:World} {H:Hp} {h:Heap} {a C dx:Addr} {fs:List (Str×V)}
theorem Gc(hok:pP P w H h)(e:H a=some (.ins C dx fs)):∃mA,KP h a dx C mA/\(∀f,qw (fs.lookup f) (mA f))/\PySem.Within mA (fs.map (·.1))/\fs.length<=1000/\H dx=some (.own a):=by
 obtain⟨d,z,ne,ob,mA,n,r,q⟩:=(show ck P w H h a (.ins C dx fs) from hok a _ e)
 exact⟨mA,⟨ob,n,ne⟩,r,q,z,d⟩
end
structure HI (K:RV) (C:Addr):Prop where
 pg:PySem.W.plainGet K C Str.empty=true
 hd:PySem.W.hasDictIn K C=true
 po:PySem.W.plainOver K C=true
 sa:PySem.W.findIn K (.ref C) "__setattr__"=some (some (.builtin "object.__setattr__"))
theorem HI.get{K:RV}{C:Addr}(c:HI K C)(f:Str):PySem.W.plainGet K C f=true:=c.pg
section
variable {X:Cx} {pins:List (Addr×Obj)} {σ:St} {H:Hp} {s:Shared} {A:Around} {E:Value->Shared->Prop} {Q:Value->Shared->Prop} {c:Value} {b:Bool}
inductive pO (K : RV) (H : Hp) : V → Value → Prop where
 | non : pO K H .non (.type "NoneType")
 | bl (x : Bool) : pO K H (.bl x) (.type "bool")
 | int (i : Int) : pO K H (.int i) (.type "int")
 | str (x : Str) : pO K H (.str x) (.type "str")
 | flt (x : UInt64) : pO K H (.flt x) (.type "float")
 | lst {a : Addr} {xs : List V} (e : H a = some (.lst xs)) : pO K H (.ref a) (.type "list")
 | frz {a : Addr} {o : Obj} {xs : List V} (e : H a = some (.frz o (.lst xs))) : pO K H (.ref a) (.type "list")
 | tup {a : Addr} {xs : List V} (e : H a = some (.tup xs)) : pO K H (.ref a) (.type "tuple")
 | dK {a : Addr} {kvs : List (Key × V)} (e : H a = some (.dK kvs)) : pO K H (.ref a) (.type "dict")
 | dT {a : Addr} {kvs : List (List Key × V)} (e : H a = some (.dT kvs)) : pO K H (.ref a) (.type "dict")
 | ins {a C dx : Addr} {fs : List (Str × V)} (e : H a = some (.ins C dx fs)) (cl : HI K C) (ha : PySem.W.findIn K (.ref C) "__class__" = some (some (.builtin "object.__class__")))
   (hn : PySem.W.specialIn K (.builtin "object.__class__") "__get__" = some (some (.builtin "getset_descriptor.__get__"))) (htk : PySem.W.takesIn K (.builtin "object.__class__") = some true)
   (hm : PySem.W.mroIn K C (.type "object") = some true) : pO K H (.ref a) (.ref C)
theorem B6{x:V}{u t:Value}(I:bv X pins σ H s)(rx:RelV x u)(ty:pO X.K H x t)(e:PySem.W.kitOne X.K t c=some b)(h:∀tk,Q (.bool b) { s with toks:=tk }):
  wpAny (model X.prog X.w) A (call (.builtin "isinstance") [u,c]) Q E s:=by
 cases ty with
 | non=>cases (show u=Value.none from rx);exact dP PySem.W.kitx_none I.kIn True.intro e (λz=>nomatch z) h
 | bl y=>cases (show u=Value.bool y from rx);exact dP PySem.W.kitx_bool I.kIn True.intro e (λz=>nomatch z) h
 | int i=>obtain⟨t,q⟩:=(show ∃t,u=Value.int i t from rx);cases q;exact dP PySem.W.kitx_int I.kIn True.intro e (λz=>nomatch z) h
 | str y=>obtain⟨t,q⟩:=(show ∃t,u=Value.str y t from rx);cases q;exact dP PySem.W.kitx_str I.kIn True.intro e (λz=>nomatch z) h
 | flt y=>obtain⟨t,q⟩:=(show ∃t,u=Value.float y t from rx);cases q;exact dP PySem.W.kitx_float I.kIn True.intro e (λz=>nomatch z) h
 | @lst a xs ea=>
  cases (show u=Value.ref a from rx);obtain⟨_,_,n,_,h1⟩:=(show ck X.prog X.w H s.heap a (.lst xs) from I.hok a _ ea)
  exact dP PySem.W.kitx_list I.kIn ⟨_,h1,rfl⟩ e (λz=>nomatch z) h
 | @frz a ob xs ea=>
  cases (show u=Value.ref a from rx);obtain⟨_,_,_,n,_,h1⟩:=(show ck X.prog X.w H s.heap a (.frz ob (.lst xs)) from I.hok a _ ea)
  exact dP PySem.W.kitx_list I.kIn ⟨_,h1,rfl⟩ e (λz=>nomatch z) h
 | @tup a xs ea=>
  cases (show u=Value.ref a from rx);obtain⟨_,_,_,p⟩:=(show ck X.prog X.w H s.heap a (.tup xs) from I.hok a _ ea)
  obtain⟨o,h1,h2,_⟩:=p;exact dP PySem.W.kitx_tuple I.kIn ⟨o,h1,h2⟩ e (λz=>nomatch z) h
 | @dK a kvs ea=>
  cases (show u=Value.ref a from rx);obtain⟨_,_,vs,_,p⟩:=(show ck X.prog X.w H s.heap a (.dK kvs) from I.hok a _ ea)
  obtain⟨o,es,ep,h1,h2,_⟩:=p;exact dP PySem.W.kitx_dict I.kIn ⟨o,h1,h2.1⟩ e (λz=>nomatch z) h
 | @dT a kvs ea=>
  cases (show u=Value.ref a from rx);obtain⟨_,_,xs,_,o,es,ep,h1,h2,_⟩:=(show ck X.prog X.w H s.heap a (.dT kvs) from I.hok a _ ea)
  exact dP PySem.W.kitx_dict I.kIn ⟨o,h1,h2.1⟩ e (λz=>nomatch z) h
 | @ins a C dx fs ea cl ha hn htk hm=>
  cases (show u=Value.ref a from rx);obtain⟨mA,O,_⟩:=Gc I.hok ea;obtain⟨od,J,_⟩:=O.look;exact dP (PySem.W.kitx_own (cl.get _) cl.hd ha hn htk hm) I.kIn J e (λz=>nomatch z) h
end
structure iU (k:Nat) (A:Around):Prop where
 hd:A.handled=none
 dp:A.depth+3 * k+5<recursionLimit
 un:A.units+16 * k+200<cLine
 gd:A.guards=some []
theorem iU.mono{j k:Nat}{A:Around}(r:iU k A)(h:j<=k):iU j A:=⟨r.hd,by have:=r.dp;lia,by have:=r.un;lia,r.gd⟩
theorem iU.deeper{k:Nat}{A:Around}(r:iU (k+1) A)(env:Env):iU k (A.deeper env):=
 ⟨r.hd,by have:=r.dp;show A.depth+1+3*k+5<_;lia,by have:=r.un;show A.units+3+16*k+200<_;lia,r.gd⟩
theorem iU.in1{k:Nat}{A:Around}(r:iU (k+1) A):iU k A.in1:=
 ⟨r.hd,by have:=r.dp;show A.depth+3*k+5<_;lia,by have:=r.un;show A.units+1+16*k+200<_;lia,r.gd⟩
theorem iU.depth{k:Nat}{A:Around}(r:iU k A):A.depth<recursionLimit:=by have:=r.dp;lia
theorem iU.units{k:Nat}{A:Around}(r:iU k A):A.units+64<cLine:=by have:=r.un;lia
def Ia:TA:=λ_ H Q=>Q [] H
def gm(ta:TE)(tr:TA):TA:=λσ H Q=>ta σ H λx H1=>tr σ H1 λxs H2=>Q (x::xs) H2
section
variable {X:Cx} {e:Expr} {es:List Expr} {te:TE} {t:TA} {pos:Pos}
theorem yn:PA X [] Ia:=λ_ _ _ _ H Q I h=>jD ⟨[],H,I,.nil,h⟩
theorem iE(ha:PE X e te)(hr:PA X es t)(hs:starEach (e::es) X.env=(false,eval e X.env)::starEach es X.env:=by rfl):PA X (e::es) (gm te t):=by
 intro pos pins s σ H Q I h;rw[hs];show wpAny _ _ (spliced ((false,eval e X.env)::backTo pos (starEach es X.env))) _ _ s;refine gT (eS (ha pins s σ H _ I h) λu s1 ⟨x,H1,I1,r1,q1⟩=>?_);exact eS (hr pos pins s1 σ H1 _ I1 q1) λus s2 ⟨xs,H2,I2,r2,q2⟩=>⟨x::xs,H2,I2,.cons r1 r2,q2⟩
def IV(t:TA):TE:=λσ H Q=>t σ H λxs H1=>xs.length<=sizeLine/\∀p,H1 p=none->Q (.ref p) (upd H1 p (.tup xs))
def Ib(t:TA):TE:=λσ H Q=>t σ H λxs H1=>xs.length<=sizeLine/\∀p,H1 p=none->Q (.ref p) (upd H1 p (.lst xs))
theorem JU{x1}(h:PA X es t):PE X (.Tuple es x1 pos) (IV t):=by
 intro pins s σ H Q I hq;refine wpAny_Tuple_spliced (eS (h pos pins s σ H _ I hq) λus s1 ⟨xs,H1,I1,r,z,q⟩=>⟨by rw[<-r.length];exact z,?_⟩);have hf:H1 s1.heap.objs.size=none:=I1.hok.fresh (aH _);refine⟨.ref s1.heap.objs.size,upd H1 s1.heap.objs.size (.tup xs),I1.laid (t':=s1.toks) (λb u e=>aD _ e) (aH _) ?_,rfl,q _ hf⟩;exact⟨z,us,r,⟨_,aQ _ rfl,rfl,_,rfl⟩⟩
theorem JZ(h:PA X es t):PE X (.List es pos) (Ib t):=by
 intro pins s σ H Q I hq;refine wpAny_List_spliced (eS (h pos pins s σ H _ I hq) λus s1 ⟨xs,H1,I1,r,z,q⟩=>⟨by rw[<-r.length];exact z,?_⟩);have hf:H1 s1.heap.objs.size=none:=I1.hok.fresh (aH _);refine⟨.ref s1.heap.objs.size,upd H1 s1.heap.objs.size (.lst xs),I1.laid (t':=s1.toks) (λb u e=>aD _ e) (aH _) ?_,rfl,q _ hf⟩;exact⟨z,us,0,r,aQ _ rfl⟩
end
abbrev Sp:=List V->Hp->VK->XK->Prop
abbrev Eo:=List Env->Hp->Shared->XK->Value->Shared->Prop
structure zd (P:Program) (w:World) (K:RV) (mg:Str->Option Value) (base:Heap) (A:Around) (outer:List Env) (s:Shared) (H:Hp):Prop where
 frames:A.frames=some outer
 mod:Mod K mg base
 bs:∀ b o,base.get? b=some o->s.heap.get? b=some o/\H b=none
 bsz:base.objs.size<=s.heap.objs.size
 funs:s.heap.FunFrames base outer
 frf:∀ b∈zQ outer,H b=none
 hok:pP P w H s.heap
 bare:AllBare s.gens
def CE(outer:List Env)(P:Program)(w:World)(H:Hp)(s:Shared)(Q:VK)(u:Value)(s':Shared):Prop:=
 ∃v H',s'.os=s.os/\AllBare s'.gens/\Un (zQ outer) [] H H' s.heap s'.heap/\pP P w H' s'.heap/\RelV v u/\Q v H'
def CR(CX:Eo)(outer:List Env)(P:Program)(w:World)(H:Hp)(s:Shared)(Q:VK)(E:XK)(r:Result)(s':Shared):Prop:=
 match r with
 | .ok (.ret u)=>CE outer P w H s Q u s'
 | .ok _=>False
 | .error e=>CX outer H s E e s'
structure qx (P:Program) (w:World) (K:RV) (mg:Str->Option Value) (base:Heap) (CX:Eo) (k:Nat) (f:Addr) (fd:FuncData) (ps:List Str) (sp:Sp):Prop where
 len:∀ vs H Q E,sp vs H Q E->vs.length=ps.length
 run:∀ (A:Around) (outer:List Env) (s:Shared) (H:Hp) (args:Args) (us:List Value) (vs:List V) (Q:VK) (E:XK),iU k A->zd P w K mg base A outer s H->BindsTo s fd args (ps.zip us)->cV vs us->sp vs H Q E →
  codeAny (model P w) A (.call (.ref f) args) (CR CX outer P w H s Q E) s
theorem zd.in1{P:Program}{w:World}{K:RV}{mg:Str->Option Value}{base:Heap}{A:Around}{outer:List Env}{s:Shared}{H:Hp}(e:zd P w K mg base A outer s H):
  zd P w K mg base A.in1 outer s H:=⟨e.frames,e.mod,e.bs,e.bsz,e.funs,e.frf,e.hok,e.bare⟩
section
variable {X:Cx} {pins:List (Addr×Obj)} {σ:St} {H:Hp} {s s':Shared}
theorem bv.env0(I:bv X pins σ H s):zd X.prog X.w X.K X.mg X.base X.A X.stack s H:=
 ⟨I.ok.frames,I.ok.mod,I.bs,bF I.ok.bsz I.sz,I.stack,I.stkFree,I.hok,I.bare⟩
theorem bv.after{Q:VK}{u:Value}(I:bv X pins σ H s)(h:CE X.stack X.prog X.w H s Q u s'):EP X pins σ Q u s':=by
 obtain⟨v,H',os,bare,un,hok,r,q⟩:=h;obtain⟨hh,g,d,t,os'⟩:=s';obtain rfl:os'=s.os:=os;exact⟨v,H',I.call (h':=hh) (g':=g) (d':=d) (t':=t) (ch:=[]) un hok bare (λb z=>absurd z (by simp)),r,q⟩
end
def AC(sp:Sp)(dvs:List V)(E:XK)(t:TA):TE:=λσ H Q=>t σ H λvs H1=>sp (vs++dvs) H1 Q E
def Binds(K:RV)(fd:FuncData)(ps:List Str)(ds:List Value):Prop:=
 ∀(s:Shared) (us:List Value),K.In s.heap->(us++ds).length=ps.length->BindsTo s fd ⟨us,[]⟩ (ps.zip (us++ds))
theorem Binds.all{K:RV}{fd:FuncData}{ps:List Str}(h:∀us:List Value,us.length=ps.length->bindArgs fd ⟨us,[]⟩=pure (ps.zip us)):Binds K fd ps []:=λs us _ hl=>by
 rw[cH] at hl ⊢;exact .of_eq (h us hl)
def zc(CX:Eo)(X:Cx)(E:XK):Prop:=∀(pins:List (Addr×Obj)) (σ:St) (H:Hp) (s:Shared) (e:Value) (s':Shared),bv X pins σ H s->CX X.stack H s E e s'->X.xe e s'
section
variable {X:Cx} {CX:Eo} {k:Nat} {f:Addr} {fd:FuncData} {ps:List Str} {sp:Sp} {dvs:List V} {ds:List Value} {E:XK} {x:Str} {p pos:Pos} {e:Expr} {es:List Expr} {t:TA}
theorem Im{pins:List (Addr×Obj)}{σ:St}{H:Hp}{s:Shared}{Q:VK}{us:List Value}{vs:List V}(F:qx X.prog X.w X.K X.mg X.base CX k f fd ps sp)(hr:iU k X.A)(hb:Binds X.K fd ps ds)(hd:cV dvs ds)(hx:zc CX X E)
  (I:bv X pins σ H s) (r:cV vs us) (h:sp (vs++dvs) H Q E):wpAny (model X.prog X.w) X.A (call (.ref f) us) (EP X pins σ Q) X.xe s:=by
 have r2:cV (vs++dvs) (us++ds):=r.append hd;have hl:(us++ds).length=ps.length:=by rw[<-r2.length];exact F.len _ _ _ _ h
 refine wpAny_call (codeAny_mono (F.run X.A X.stack s H ⟨us,[]⟩ (us++ds) (vs++dvs) Q E hr I.env0 (hb s us I.kIn hl) r2 h) λr s' hq=>?_);cases r with
 | error e=>exact hx pins σ H s e s' I hq
 | ok fl=>
  cases fl with
  | ret u=>exact I.after hq
  | next=>exact False.elim hq
  | brk=>exact False.elim hq
  | cont=>exact False.elim hq
theorem GD(F:qx X.prog X.w X.K X.mg X.base CX k f fd ps sp)(hr:iU k X.A)(hg:Gl X x)(hm:X.mg x=some (.ref f))(hk:PySem.W.keepIn X.K (.ref f)=true)(hb:Binds X.K fd ps ds)(hd:cV dvs ds)(hx:zc CX X E)
  (ha:PA X (e::es) t) (hdb:(x==("__debug__":Str))=false:=by decide) (he:starEach (e::es) X.env=(false,eval e X.env)::starEach es X.env:=by rfl) (hpl:(backTo pos (starEach es X.env)).any (·.1)=false:=by rfl) :
  PE X (.Call (.Name x p) (e::es) [] pos) (AC sp dvs E t):=by
 intro pins s σ H Q I h;refine Qh (vo I hg hm ?_ hdb);refine PySem.W.callWith_K (h₀:=X.base) I.ok.mod.kin hk (eS (ha pos pins s σ H _ I h) λus s1 ⟨vs,H1,I1,r,q⟩=>⟨I1.kIn,?_⟩) he hpl;exact Im F hr hb hd hx I1 r q
end
structure bh (N P:List Str) (sc:Scope):Prop where
 kind:sc.kind=.function
 co:sc.isCoroutine=false
 gen:sc.isGenerator=false
 nd:N.Nodup
 pre:N.take P.length=P
 par:∀ x∈P,sc.names.lookup x=some .local\/sc.names.lookup x=some .cell
 nofree:∀ y∈sc.names,y.2≠.free
theorem vF{kindOf:Str->Option NameKind}{x:Str}:∀{binds:List (Str×Value)} {m:Str->Option Value},(∀v,(x,v)∉binds)->bindL kindOf binds m x=m x
 | [],_,_=>rfl
 | (n,v)::r,m,h=>by
  unfold bindL;rw[vF λw hw=>h w (aM _ hw)]
  split
  ·have:x≠n:=by rintro rfl;exact h v bB
   simp[this]
  ·rfl
theorem vH{kindOf:Str->Option NameKind}{x:Str}:∀{binds:List (Str×Value)} {m:Str->Option Value},(∀v,(x,v)∉binds)->bindC kindOf binds m x=m x
 | [],_,_=>rfl
 | (n,v)::r,m,h=>by
  unfold bindC;rw[vH λw hw=>h w (aM _ hw)]
  split
  ·rfl
  ·have:x≠n:=by rintro rfl;exact h v bB
   simp[this]
theorem vG{kindOf:Str->Option NameKind}{x:Str}{v:Value}:∀{P:List Str} {vs:List Value} {i:Nat} {m:Str->Option Value},P.Nodup->P[i]? = some x->vs[i]? = some v->kindOf x=some .local →
  bindL kindOf (P.zip vs) m x=some v
 | [],_,_,_,_,h,_,_=>by simp at h
 | _::_,[],_,_,_,_,h,_=>by simp at h
 | p::P,w::vs,0,m,nd,h1,h2,hk=>by
  simp at h1 h2;subst h1;subst h2;show bindL kindOf ((p,w)::P.zip vs) m p=_;unfold bindL;rw[vF λv hv=>(bc.mp nd).1 (nH hv).1,RN hk];simp
 | p::P,w::vs,i+1,m,nd,h1,h2,hk=>by
  show bindL kindOf ((p,w)::P.zip vs) m x=_;unfold bindL;exact vG (i:=i) (bc.mp nd).2 (by simpa using h1) (by simpa using h2) hk
theorem vI{kindOf:Str->Option NameKind}{x:Str}{v:Value}:∀{P:List Str} {vs:List Value} {i:Nat} {m:Str->Option Value},P.Nodup->P[i]? = some x->vs[i]? = some v->kindOf x≠some .local →
  bindC kindOf (P.zip vs) m x=some v
 | [],_,_,_,_,h,_,_=>by simp at h
 | _::_,[],_,_,_,_,h,_=>by simp at h
 | p::P,w::vs,0,m,nd,h1,h2,hk=>by
  simp at h1 h2;subst h1;subst h2;show bindC kindOf ((p,w)::P.zip vs) m p=_;unfold bindC;rw[vH λv hv=>(bc.mp nd).1 (nH hv).1,RM hk];simp
 | p::P,w::vs,i+1,m,nd,h1,h2,hk=>by
  show bindC kindOf ((p,w)::P.zip vs) m x=_;unfold bindC;exact vI (i:=i) (bc.mp nd).2 (by simpa using h1) (by simpa using h2) hk
def start(N:List Str)(vs:List V):St:=vs.map some++List.replicate (N.length-vs.length) none
def xc(CX:Eo)(P:Program)(w:World)(K:RV)(mg:Str->Option Value)(base:Heap)(N:List Str)(qual:Str)(scope:Scope)(f:Addr)(cd:Value)(A:Around)(outer:List Env)(s:Shared)(H:Hp)(E:XK):Cx where
 prog:=P
 w:=w
 K:=K
 mg:=mg
 base:=base
 A:=A.deeper (envOfC qual scope s.heap.objs.size f cd)
 N:=N
 s₀:=s
 H₀:=H
 env:=envOfC qual scope s.heap.objs.size f cd
 outer:=outer
 stack:=envOfC qual scope s.heap.objs.size f cd::outer
 ex:=[]
 calm:=true
 fn:=λ_=>true
 pn:=[]
 xe:=λe s'=>wpAny (model P w) (A.deeper (envOfC qual scope s.heap.objs.size f cd)) (leaving (envOfC qual scope s.heap.objs.size f cd) e) (λ_ s''=>CX outer H s E e s'') (λe' s''=>CX outer H s E e' s'') s'
theorem xk{sc:Scope}{n:Nat}{x:Str}(h:sc.names.lookup x=some .cell):∃c,(cellsFrom n sc.names []).lookup x=some c:=by
 have q:=m7 sc.names n [] (.inl h);exact lU.mp q
theorem B7{CX:Eo}{P:Program}{w:World}{K:RV}{mg:Str->Option Value}{base:Heap}{N ps:List Str}{qual:Str}{scope:Scope}{f:Addr}{cd:Value}{A:Around}{outer:List Env}{s s1:Shared}{H:Hp}{E:XK}{us:List Value}{vs:List V}
  (S:bh N ps scope) (hd:A.handled=none) (e0:zd P w K mg base A outer s H) (hl:vs.length=ps.length) (r:cV vs us)
  (x:InCallC s s.heap.objs.size (bindL (envOfC qual scope s.heap.objs.size f cd).kindOf (ps.zip us) λ_=>none) (cellsFrom (s.heap.objs.size+1) scope.names []) (bindC (envOfC qual scope s.heap.objs.size f cd).kindOf (ps.zip us) λ_=>none) s1) :
  bv (xc CX P w K mg base N qual scope f cd A outer s H E) [] (start N vs) H s1:=by
 have hpl:ps.length<=N.length:=by have:=congrArg List.length S.pre;rw[bj] at this;lia
 obtain⟨h1,tk,rfl,hk⟩:=x.done;have noA:∀b:Addr,b∉(xc CX P w K mg base N qual scope f cd A outer s H E).ex:=λb z=>absurd (show b∈([]:List Addr) from z) (by simp);refine⟨⟨e0.mod,S.kind,rfl,rfl,aH _,λy z c h1 h2=>?_,λy hy=>?_,λy c _ h=>?_,λ_=>hd,Around.frames_deeper e0.frames,.inr ⟨rfl,rfl⟩,λb z=>absurd z (noA b),e0.bs,e0.bsz,λb _ _=>noA b,λb z=>absurd z (noA b),e0.funs,e0.frf⟩,
  rfl,e0.bare,Un.kept hk,⟨_,x.toInCall.ns,λi y v h1 h2 h3=>?_⟩,λy c h=>⟨_,x.cell y c h⟩,e0.hok.fresh (aH _),λy c h=>?_,λp hp=>absurd (show p∈([]:List (Addr×Obj)) from hp) (by simp),e0.hok.kept hk,?_⟩
 ·exact name_of_addr x.apart (dY h1) (dY h2)
 ·have hy:scope.names.lookup y=some .cell\/scope.names.lookup y=some .free:=hy;rcases hy with hy | hy
  ·exact xk hy
  ·exact absurd rfl (S.nofree _ (dY hy))
 ·exact ba (x.above y c (dY h))
 ·have hi:i<vs.length:=by
   unfold start at h2;by_cases hi:i<vs.length
   ·exact hi
   ·rw[dN (by simpa using hi)] at h2;rw[mI] at h2
    split at h2<;>cases h2
  have ha:vs[i]? = some v:=by
   unfold start at h2;rw[iK (by simpa using hi),aP] at h2;cases e:vs[i]? with
   | none=>rw[e] at h2;cases h2
   | some a=>rw[e] at h2;cases h2;rfl
  obtain⟨u,hu,rv⟩:=r.get ha;have hp:ps[i]? = some y:=by
   rw[<-S.pre,fy (by lia)];exact h1
  have ndP:ps.Nodup:=by rw[<-S.pre];exact S.nd.sublist (List.take_sublist _ _)
  refine⟨u,rv,?_⟩;rcases S.par y (aR hp) with k | k
  ·exact .inl ⟨k,vG ndP hp hu k⟩
  ·obtain⟨c,e⟩:=xk (n:=s.heap.objs.size+1) k;refine .inr ⟨.inl k,c,e,?_⟩;have q:=x.cell y c e;rw[vI ndP hp hu (by show scope.names.lookup y≠_;rw[k];decide)] at q;exact q
 ·exact e0.hok.fresh (ba (x.above y c (dY h)))
 ·unfold start;show _=N.length;rw[aw,aA,nN];lia
theorem Lf{CX:Eo}{P:Program}{w:World}{K:RV}{mg:Str->Option Value}{base:Heap}{k:Nat}{f:Addr}{name qual:Str}{params:Arguments}{body:List Stmt}{scope:Scope}{dV kV doc pm cdv ct oc:Value}{an od:Option Addr}
  {osl:Array (Option Value)} {N ps:List Str} {sp:Sp} (lk:K.lookup f=some ⟨oc,od,.func (PySem.W.fnOf name qual params body scope dV kV doc pm an cdv ct),osl⟩) (hcd:PySem.W.codeIn K cdv qual=true) (S:bh N ps scope)
  (len:∀vs H Q E,sp vs H Q E->vs.length=ps.length)
  (hbody:∀(A:Around) (outer:List Env) (s:Shared) (H:Hp) (vs:List V) (Q:VK) (E:XK),iU k (A.deeper (envOfC qual scope s.heap.objs.size f cdv))->sp vs H Q E →
   ∃t,xr (xc CX P w K mg base N qual scope f cdv A outer s H E) body t/\t { nx:=λ_ H'=>Q .non H',rt:=Q } (start N vs) H) :
  qx P w K mg base CX (k+1) f (PySem.W.fnOf name qual params body scope dV kV doc pm an cdv ct) ps sp:=by
 refine⟨len,λA outer s H args us vs Q E hr e0 hb r hsp=>?_⟩;have hl:=len _ _ _ _ hsp;have KX:K.In s.heap:=e0.mod.kin.keeps λb o e=>(e0.bs b o e).1;have lim:s.heap.NoLimit:=e0.mod.nolimit.keeps λb o e=>(e0.bs b o e).1;have hkind:∀y∈ps.zip us,scope.names.lookup y.1=some .local\/(scope.names.lookup y.1=some .cell/\((cellsFrom (s.heap.objs.size+1) scope.names []).lookup y.1).isSome=true):=λ⟨n,v⟩ hy=>by
  rcases S.par n (nH hy).1 with q | q
  ·exact .inl q
  ·exact .inr ⟨q,m7 _ _ _ (.inl q)⟩
 refine codeAny_call_function hr.depth (KX _ _ lk) rfl S.co S.gen rfl (PySem.W.codeRec_of KX hcd) (hb _ _ _ _ ?_);refine wpAny_newFunctionEnv_cells S.kind hkind λenv he s1 x=>?_;subst he;refine⟨lim.keeps x.toInCall.keep,codeAny_func ?_⟩;obtain⟨t,ht,hq⟩:=hbody A outer s H vs Q E (hr.deeper _) hsp;have I:bv (xc CX P w K mg base N qual scope f cdv A outer s H E) [] (start N vs) H s1:=B7 S hr.hd e0 hl r x;refine Q8 (ht [] s1 (start N vs) H _ I hq) (λfl s' hs=>?_) λe s' hs=>hs;have fin:∀{σ':St} {H':Hp} {v:V} {u:Value},bv (xc CX P w K mg base N qual scope f cdv A outer s H E) [] σ' H' s'->RelV v u->Q v H'->CE outer P w H s Q u s':=
  fun {σ' H' v u} J rv q=>⟨v,H',J.os,J.bare,J.base,J.hok,rv,q⟩
 cases fl with
 | ret u=>
  obtain⟨v,σ',H',J,rv,q⟩:=hs;exact fin J rv q
 | next=>
  obtain⟨σ',H',J,q⟩:=hs;exact fin (v:=V.non) (u:=Value.none) J rfl q
 | brk=>
  obtain⟨_,_,_,q⟩:=hs;exact False.elim q
 | cont=>
  obtain⟨_,_,_,q⟩:=hs;exact False.elim q
section
variable {X:Cx} {x:Str} {p pos:Pos} {e:Expr} {es:List Expr} {t:TA} {id T:String} {r:List V->Hp->VK->Prop}
def LJ(r:List V->Hp->VK->Prop)(t:TA):TE:=λσ H Q=>t σ H λvs H1=>r vs H1 Q
theorem Dp (hc:iP X (.builtin id) r) (hg:Gl X x) (hm:X.mg x=none) (hv:bootBuiltins x=some (.builtin id)) (ha:PA X (e::es) t) (hn:x≠"__name__":=by decide) (hdb:(x==("__debug__":Str))=false:=by decide)
  (he:starEach (e::es) X.env=(false,eval e X.env)::starEach es X.env:=by rfl) (hpl:(backTo pos (starEach es X.env)).any (·.1)=false:=by rfl):PE X (.Call (.Name x p) (e::es) [] pos) (LJ r t):=by
 intro pins s σ H Q I h;refine Qh (j3 I hg hm hv ?_ hn hdb);exact PyProof.Rows.callWith_builtin1 (eS (ha pos pins s σ H _ I h) λus s1 ⟨vs,H1,I1,r1,q1⟩=>hc pins s1 σ H1 vs us Q I1 r1 q1) he hpl
theorem BN (hc:iP X (.type T) r) (hg:Gl X x) (hm:X.mg x=none) (hv:bootBuiltins x=some (.type T)) (ha:PA X (e::es) t) (hn:x≠"__name__":=by decide) (hdb:(x==("__debug__":Str))=false:=by decide)
  (he:starEach (e::es) X.env=(false,eval e X.env)::starEach es X.env:=by rfl) (hpl:(backTo pos (starEach es X.env)).any (·.1)=false:=by rfl):PE X (.Call (.Name x p) (e::es) [] pos) (LJ r t):=by
 intro pins s σ H Q I h;refine Qh (j3 I hg hm hv ?_ hn hdb);exact bx (eS (ha pos pins s σ H _ I h) λus s1 ⟨vs,H1,I1,r1,q1⟩=>hc pins s1 σ H1 vs us Q I1 r1 q1) he hpl
end
end L2
namespace HT
open PySem PyProof.Rows
section
def sIx(n d:Nat):Option Int->Nat
 | none=>d
 | some v=>if v<0 then (v+(n:Int)).toNat else min v.toNat n
theorem sIx_none(n d:Nat):sIx n d none=d:=rfl
theorem sIx_nat(n d k:Nat):sIx n d (some (k:Int))=min k n:=by
 show (if (k:Int)<0 then ((k:Int)+(n:Int)).toNat else min (k:Int).toNat n)=min k n;rw[RM (by lia),cA]
end
end HT
namespace L2
open PySem PySem.Spec PyProof.Rows
abbrev TO:=St->Hp->(Option Int->Hp->Prop)->Prop
def PO(X:Cx)(e:Option Expr)(t:TO):Prop:=
 ∀(pins:List (Addr×Obj)) (s:Shared) (σ:St) (H:Hp) (Q:Option Int->Hp->Prop),bv X pins σ H s->t σ H Q →
  wpAny (model X.prog X.w) X.A (evalPart e X.env) (λu s'=>∃o H',bv X pins σ H' s'/\IsPart u o/\Q o H') X.xe s
def vN:TO:=λ_ H Q=>Q none H
def Cd(t:TE):TO:=λσ H Q=>t σ H λx H1=>∃i,x=.int i/\Q (some i) H1
section
variable {X:Cx} {e:Expr} {te:TE} {lo hi:Option Expr} {tl th:TO} {pos p2:Pos}
theorem Fq:PO X none vN:=by
 intro pins s σ H Q I h;rw[evalPart_none];exact wpAny_pure ⟨none,H,I,.none,h⟩
theorem Fp(h:PE X e te):PO X (some e) (Cd te):=by
 intro pins s σ H Q I hw;rw[evalPart_some];refine eS (h pins s σ H _ I hw) λu s1 ⟨x,H1,I1,r1,q1⟩=>?_;obtain⟨i,rfl,q⟩:=q1;obtain⟨t,rfl⟩:=r1;exact⟨some i,H1,I1,.int i t,q⟩
def ME(X:Cx)(r:V->Option Int->Option Int->Hp->VK->Prop):Prop:=
 ∀(pins:List (Addr×Obj)) (s:Shared) (σ:St) (H:Hp) (x:V) (v vl vu:Value) (lo hi:Option Int) (sl:Addr) (Q:VK),bv X pins σ H s->RelV x v->s.heap.IsSliceOf sl vl vu .none->IsPart vl lo->IsPart vu hi->r x lo hi H Q →
  ∃T id,typeLookup (.type T) "__getitem__"=pure (some (.builtin id))/\s.TypeIs v T/\wpAny (model X.prog X.w) X.A (getItem v (.ref sl)) (EP X pins σ Q) X.xe s
def MO(r:V->Option Int->Option Int->Hp->VK->Prop)(te:TE)(tl th:TO):TE:=λσ H Q=>te σ H λx H1=>tl σ H1 λl H2=>th σ H2 λu H3=>r x l u H3 Q
theorem Dh{r:V->Option Int->Option Int->Hp->VK->Prop}(hr:ME X r)(he:PE X e te)(hl:PO X lo tl)(hu:PO X hi th):PE X (.Subscript e (.Slice lo hi none p2) pos) (MO r te tl th):=by
 intro pins s σ H Q I h;refine Subscript_ (eS (he pins s σ H _ I h) λv s1 ⟨x,H1,I1,r1,q1⟩=>?_);refine wpAny_Slice (eS (hl pins s1 σ H1 _ I1 q1) λvl s2 ⟨l,H2,I2,pl,q2⟩=>eS (hu pins s2 σ H2 _ I2 q2) λvu s3 ⟨u,H3,I3,pu,q3⟩=>?_);rw[evalPart_none];refine wpAny_pure ?_;have I4:bv X pins σ H3 { s3 with heap:=s3.heap.push { cls:=.type "slice",data:=.fields #[vl,vu,.none] } }:=I3.kept (t':=s3.toks) λb ob q=>aD _ q;obtain⟨T,id,hT,ht,hg⟩:=hr pins { s3 with heap:=s3.heap.push { cls:=.type "slice",data:=.fields #[vl,vu,.none] } } σ H3 x v vl vu l u s3.heap.objs.size Q I4 r1 (Heap.IsSliceOf.new ..) pl pu q3;show wpAny (model X.prog X.w) X.A (subscriptTail e (.Slice lo hi none p2) v (.ref s3.heap.objs.size)) (EP X pins σ Q) X.xe { s3 with heap:=s3.heap.push { cls:=.type "slice",data:=.fields #[vl,vu,.none] } };exact tail_any (ops:=[.ref s3.heap.objs.size,v]) ht hT hg (by with_unfolding_all rfl)
def xg(xs:List V)(lo hi:Option Int):List V:=(xs.drop (HT.sIx xs.length 0 lo)).take (HT.sIx xs.length xs.length hi-HT.sIx xs.length 0 lo)
theorem xf(xs:List V)(lo hi:Option Int):(xg xs lo hi).length<=xs.length:=by
 unfold xg;rw[bj,j7];lia
end
def xx(n:Nat)(i:Int):Option Nat:=if 0<=i then (if i<n then some i.toNat else none) else if -(n:Int)<=i then some (i+n).toNat else none
def nG{α:Type}(xs:List α)(i:Int):Option α:=(xx xs.length i).bind λj=>xs[j]?
theorem A6{n:Nat}{i:Int}{j:Nat}(h:xx n i=some j):seqIndex? i n=some j/\j<n/\-(n:Int)<=i/\i<n:=by
 unfold xx at h;by_cases h0:0<=i
 ·rw[RN h0] at h;by_cases h1:i<n
  ·rw[RN h1] at h;have e:i.toNat=j:=bH h;exact⟨by rw[seqIndex_of h0 h1,e],by lia,by lia,h1⟩
  ·rw[RM h1] at h;cases h
 ·rw[RM h0] at h;by_cases h1:-(n:Int)<=i
  ·rw[RN h1] at h;have e:(i+n).toNat=j:=bH h;exact⟨by rw[seqIndex_neg (by lia) h1,e],by lia,h1,by lia⟩
  ·rw[RM h1] at h;cases h
theorem wA{α:Type}{xs:List α}{i:Int}{v:α}(h:nG xs i=some v):∃j,seqIndex? i xs.length=some j/\xs[j]? = some v/\j<xs.length/\-(xs.length:Int)<=i/\i<xs.length:=by
 unfold nG at h;cases e:xx xs.length i with
 | none=>rw[e] at h;cases h
 | some j=>
  rw[e] at h;obtain⟨h1,h2,h3,h4⟩:=A6 e;exact⟨j,h1,h,h2,h3,h4⟩
theorem fU{α:Type}{xs:List α}{j:Nat}{v:α}(h:xs[j]? = some v):nG xs (j:Int)=some v:=by
 have hj:j<xs.length:=(aF.mp h).1;have e:xx xs.length (j:Int)=some j:=by
  unfold xx;rw[RN (by lia),RN (by lia)];simp
 unfold nG;rw[e];exact h
theorem oB{α:Type}(xs:List α)(v:α):nG (xs++[v]) (-1)=some v:=by
 have hl:(xs++[v]).length=xs.length+1:=by simp
 have e:xx (xs++[v]).length (-1)=some xs.length:=by
  unfold xx;rw[hl,RM (by decide),RN (by lia)];congr 1;lia
 unfold nG;rw[e];show (xs++[v])[xs.length]? = some v;simp
def Aq(b:Expr):Prop:=∀o i,subscripted b false o i=operate [o,i] (getItem o i)
def Ep(X:Cx)(r:R2):Prop:=
 ∀(value slice:Expr) (pins:List (Addr×Obj)) (s:Shared) (σ:St) (H:Hp) (x y:V) (v u:Value) (Q:VK),bv X pins σ H s->RelV x v->RelV y u->r x y H Q →
  subscripted slice false v u=operate [v,u] (getItem v u)->wpAny (model X.prog X.w) X.A (subscriptTail value slice v u) (EP X pins σ Q) X.xe s
def K3(X:Cx)(id:String)(r:V->List V->Hp->VK->Prop):Prop:=
 ∀(pins:List (Addr×Obj)) (s:Shared) (σ:St) (H:Hp) (x:V) (xs:List V) (v:Value) (us:List Value) (Q:VK),bv X pins σ H s->RelV x v->cV xs us->r x xs H Q →
  wpAny (model X.prog X.w) X.A (call (.builtin id) (v::us)) (EP X pins σ Q) X.xe s
section
variable {X:Cx} {a b:Expr} {ta tb:TE} {pos:Pos}
theorem Ep.or{r r':R2}(h:Ep X r)(h':Ep X r'):Ep X (λx y H Q=>r x y H Q\/r' x y H Q):=by
 intro value slice pins s σ H x y v u Q I rx ry q hs;rcases q with q | q
 ·exact h value slice pins s σ H x y v u Q I rx ry q hs
 ·exact h' value slice pins s σ H x y v u Q I rx ry q hs
theorem L4{r:R2}(hr:Ep X r)(ha:PE X a ta)(hb:PE X b tb)(hs:Aq b):PE X (.Subscript a b pos) (Ce r ta tb):=by
 intro pins s σ H Q I h;exact Subscript_ (KH ha hb I h λv u s2 x y H2 I2 rx ry q=>hr a b pins s2 σ H2 x y v u Q I2 rx ry q (hs _ _))
def Iz(K:RV):R2:=λx y H Q=>∃p xs i v,x=.ref p/\y=.int i/\bw K H p xs/\nG xs i=some v/\Q v H
def Iw(K:RV):R2:=λx y H Q=>∃p xs i v,x=.ref p/\y=.int i/\dD K H p xs/\nG xs i=some v/\Q v H
def Iy:R2:=λx y H Q=>∃z i c,x=.str z/\y=.int i/\z.length<=sizeLine/\nG z.cps.toList i=some c/\Q (.str ⟨#[c]⟩) H
theorem bV:Ep X (Iz X.K):=by
 intro value slice pins s σ H x y v u Q I rx ry h hs;obtain⟨p,xs,i,z,rfl,rfl,hq,he,q⟩:=h;cases rx;obtain⟨t,rfl⟩:=ry;obtain⟨its,r,pl,hz⟩:=I.list hq;obtain⟨j,h1,h2,h3,h4,h5⟩:=wA he;obtain⟨w,ew,rw'⟩:=r.get h2;have hl:=r.length;have hn:=pJ;have fin:EP X pins σ Q w s:=⟨z,H,I,rw',q⟩
 by_cases h0:0<=i
 ·have hj:i.toNat=j:=by
   rw[seqIndex_of h0 h5] at h1;exact bH h1
  exact item_listR pl.isList h0 (by lia) (by rw[hj];simpa using ew) fin hs
 ·have hj:(i+(its.toArray.size:Int)).toNat=j:=by
   rw[seqIndex_neg (by lia) h4] at h1;rw[aS,<-hl];exact bH h1
  exact subscriptTail_builtinR (x:=w) pl.isList.typeIs slot_list_getitem.lookup
   (wpAny_getItem_list_neg (Q:=λr s'=>r=w/\EP X pins σ Q r s') pl.isList (by lia) (by rw[aS]<;>lia) (by lia) (by rw[hj];simpa using ew) ⟨rfl,fin⟩) hs
theorem bf:Ep X (Iw X.K):=by
 intro value slice pins s σ H x y v u Q I rx ry h hs;obtain⟨p,xs,i,z,rfl,rfl,hq,he,q⟩:=h;cases rx;obtain⟨t,rfl⟩:=ry;obtain⟨its,r,pl,hz⟩:=I.tuple hq;obtain⟨j,h1,h2,h3,h4,h5⟩:=wA he;obtain⟨w,ew,rw'⟩:=r.get h2;have hl:=r.length;have hn:=pJ;have fin:EP X pins σ Q w s:=⟨z,H,I,rw',q⟩
 exact subscriptTail_builtinR (x:=w) pl.typeIs slot_tuple_getitem.lookup
  (getItem_tuple (j:=j) (Q:=λr s'=>r=w/\EP X pins σ Q r s') pl (by lia) (by lia) (by rw[aS,<-hl];exact h1) (by simpa using ew) ⟨rfl,fin⟩) hs
theorem tM:Ep X Iy:=by
 intro value slice pins s σ H x y v u Q I rx ry h hs;obtain⟨z,i,c,rfl,rfl,hz,he,q⟩:=h;obtain⟨t,rfl⟩:=rx;obtain⟨t',rfl⟩:=ry;obtain⟨j,h1,h2,h3,h4,h5⟩:=wA he;have hl:z.cps.toList.length=z.length:=by simp[Str.length]
 rw[hl] at h1 h4 h5;have hn:=pJ;exact tail_any (Qi s z t) slot_str_getitem.lookup (getItem_str (c:=c) (by
  have e1:decide (i < -(2 ^ 63:Int))=false:=RP (by lia);have e2:decide (i>=2 ^ 63)=false:=RP (by lia);rw[e1,e2,dQ]) (by rw[h1];simpa using h2) ⟨.str ⟨#[c]⟩,H,I.tok _,⟨_,rfl⟩,q⟩) hs
def Mp(K:RV):R2:=λx y H Q=>Iz K x y H Q\/Iw K x y H Q\/Iy x y H Q
theorem ju:Ep X (Mp X.K):=bV.or (bf.or tM)
theorem zH (its:List Value) (n j:Nat) (u:Value):Obj.mapSeq (·.setIfInBounds j u) { cls:=.type "list",data:=.seq its.toArray n }={ cls:=.type "list",data:=.seq (its.set j u).toArray n }:=by
 simp[Obj.mapSeq]
theorem bv.lst{pins:List (Addr×Obj)}{σ:St}{H:Hp}{s:Shared}{p:Addr}{xs:List V}(I:bv X pins σ H s)(h:H p=some (.lst xs)):
  ∃(its:List Value) (n:Nat),cV xs its/\s.heap.get? p=some { cls:=.type "list",data:=.seq its.toArray n }/\xs.length<=sizeLine:=by
 obtain⟨z,its,n,r,e⟩:=I.hok p _ h;exact⟨its,n,r,e,z⟩
theorem bv.lstUpd{pins:List (Addr×Obj)}{σ:St}{H:Hp}{s:Shared}{p:Addr}{xs ys:List V}{its its':List Value}{n n':Nat}{f:Obj->Obj}(I:bv X pins σ H s)(h:H p=some (.lst xs))
  (ho:s.heap.get? p=some { cls:=.type "list",data:=.seq its.toArray n }) (hf:f { cls:=.type "list",data:=.seq its.toArray n }={ cls:=.type "list",data:=.seq its'.toArray n' }) (r:cV ys its') (hz:ys.length<=sizeLine) (t:Nat) :
  bv X pins σ (upd H p (.lst ys)) { s with heap:=s.heap.update p f,toks:=t }:=by
 have e:(s.heap.update p f).get? p=some { cls:=.type "list",data:=.seq its'.toArray n' }:=by
  rw[d9 f ho (by rw[hf]<;>rfl),hf]
 refine I.write (x:=p) (e:=p) (by rw[h];trivial) (.inl rfl) (λb u hb q=>(dw _ _ (iw hb)).trans q) ⟨_,e⟩ ?_;exact⟨hz,its',n',r,e⟩
def LQ:V->V->V->Hp->(Hp->Prop)->Prop:=λo i v H Q=>∃p xs k j,o=.ref p/\i=.int k/\H p=some (.lst xs)/\xx xs.length k=some j/\Q (upd H p (.lst (xs.set j v)))
theorem set_list:KM X LQ:=by
 intro pins s σ H o i v ov iv u Q I ro ri rv h;obtain⟨p,xs,k,j,rfl,rfl,hp,hj,q⟩:=h;cases ro;obtain⟨t,rfl⟩:=ri;obtain⟨its,n,r,ho,hz⟩:=I.lst hp;obtain⟨h1,h2,h3,h4⟩:=A6 hj;have hl:=r.length;have hn:=pJ;have I':bv X pins σ (upd H p (.lst (xs.set j v))) { s with heap:=s.heap.update p (Obj.mapSeq (·.setIfInBounds j u)) }:=
  I.lstUpd hp ho (zH its n j u) (r.set rv j) (by rw[List.length_set];exact hz) s.toks
 by_cases h0:0<=k
 ·have hk:k.toNat=j:=by
   rw[seqIndex_of h0 h4] at h1;exact bH h1
  exact PySem.W.ki_setAt ho h0 (by lia) (by rw[aS,<-hl];exact h4) (by rw[hk];exact⟨_,I',q⟩)
 ·have hk:(k+(its.toArray.size:Int)).toNat=j:=by
   rw[seqIndex_neg (by lia) h3] at h1;rw[aS,<-hl];exact bH h1
  exact PySem.W.ki_setBack ho (by lia) (by rw[aS,<-hl];exact h3) (by lia) (by rw[hk];exact⟨_,I',q⟩)
theorem vU(lo hi:Option Int)(n:Nat):(sliceBounds lo hi none n).1=((HT.sIx n 0 lo:Nat):Int)/\(sliceBounds lo hi none n).2.1=((HT.sIx n n hi:Nat):Int)/\(sliceBounds lo hi none n).2.2=1:=by
 refine⟨?_,?_,rfl⟩
 ·cases lo with
  | none=>simp[sliceBounds,HT.sIx]
  | some i=>
   simp only[sliceBounds,HT.sIx,Option.getD_none,show (1:Int) > 0 by decide,RT];by_cases h:i<0
   ·simp only[h,RT]<;>lia
   ·simp only[h,RU]<;>lia
 ·cases hi with
  | none=>simp[sliceBounds,HT.sIx]
  | some i=>
   simp only[sliceBounds,HT.sIx,Option.getD_none,show (1:Int) > 0 by decide,RT];by_cases h:i<0
   ·simp only[h,RT]<;>lia
   ·simp only[h,RU]<;>lia
theorem uA(its:List Value)(lo hi:Option Int):slicePick its.toArray lo hi none=((its.drop (HT.sIx its.length 0 lo)).take (HT.sIx its.length its.length hi-HT.sIx its.length 0 lo)).toArray:=by
 obtain⟨h1,h2,h3⟩:=vU lo hi its.toArray.size;unfold slicePick;rw[h1,h2,h3];simp only[sliceRange_one,pick_run,aS]<;>rfl
def LP(K:RV):V->Option Int->Option Int->Hp->VK->Prop:=λx lo hi H Q=>∃a xs,x=.ref a/\bw K H a xs/\∀p,H p=none->Q (.ref p) (upd H p (.lst (xg xs lo hi)))
theorem AM:ME X (LP X.K):=by
 intro pins s σ H x v vl vu lo hi sl Q I rx hs pl pu h;obtain⟨a,xs,rfl,hx,q⟩:=h;cases rx;obtain⟨its,r,ht,hz⟩:=I.list hx;have hlen:=r.length;refine⟨"list",_,slot_list_getitem.lookup,ht.isList.typeIs,?_⟩;refine wpAny_getItem_list_slice ht.isList hs pl pu .none (by simp) ?_ (by rw[aS]<;>lia);rw[uA,<-hlen];refine⟨.ref s.heap.objs.size,_,I.laid (t':=s.toks) (o:=.lst (xg xs lo hi)) (λb ob q=>aD _ q) (aH _) ?_,rfl,q _ (I.hok.fresh (aH _))⟩;exact⟨bF (xf xs lo hi) hz,_,0,(r.drop (HT.sIx xs.length 0 lo)).take (HT.sIx xs.length xs.length hi-HT.sIx xs.length 0 lo),aQ _ rfl⟩
def NH:V->V->Bool
 | .non,.non=>true
 | .bl a,.bl b=>a==b
 | .bl a,.int b=>(if a then 1 else 0)==b
 | .int a,.bl b=>a==(if b then 1 else 0)
 | .int a,.int b=>a==b
 | .str a,.str b=>a==b
 | _,_=>false
def M4(x:V)(xs:List V):Bool:=xs.any λy=>NH y x
theorem bM:iP X (.builtin "len") (λxs H Q=>∃p ys,xs=[.ref p]/\(bw X.K H p ys\/dD X.K H p ys)/\Q (.int ys.length) H):=by
 intro pins s σ H xs us Q I r h;obtain⟨p,ys,rfl,hq,q⟩:=h;obtain⟨u,rfl,rx⟩:=Qg r;cases rx;have hn:=pJ;rcases hq with hq | hq
 ·obtain⟨its,r',pl,hz⟩:=I.list hq;have hlen:=r'.length;exact Calls.call_len_list pl.isList (by simp only[aS]<;>lia) ⟨.int ys.length,H,I.tok _,⟨s.toks+1,by rw[aS,hlen]⟩,q⟩
 ·obtain⟨its,r',pl,hz⟩:=I.tuple hq;have hlen:=r'.length;exact len_tuple pl (by simp only[aS]<;>lia) ⟨.int ys.length,H,I.tok _,⟨s.toks+1,by rw[aS,hlen]⟩,q⟩
theorem qG:iP X (.builtin "len") (λxs H Q=>∃z,xs=[.str z]/\z.length<=sizeLine/\Q (.int z.length) H):=by
 intro pins s σ H xs us Q I r h;obtain⟨z,rfl,hz,q⟩:=h;obtain⟨u,rfl,t,rfl⟩:=Qg r;have hn:=pJ;exact len_str (by lia) ⟨.int z.length,H,I.tok _,⟨_,rfl⟩,q⟩
theorem qF:iP X (.type "list") (λxs H Q=>∃p ys,xs=[.ref p]/\(bw X.K H p ys\/dD X.K H p ys)/\∀l,H l=none->Q (.ref l) (upd H l (.lst ys))):=by
 intro pins s σ H xs us Q I r h;obtain⟨p,ys,rfl,hq,q⟩:=h;obtain⟨u,rfl,rx⟩:=Qg r;cases rx;have fin:∀(its:List Value),cV ys its->ys.length<=sizeLine->∀(h':Heap) (c':Nat),(∀b o',s.heap.get? b=some o'->h'.get? b=some o') →
   h'.get? s.heap.objs.size=some { cls:=.type "list",dict:=none,data:=.seq its.toArray c',slots:=#[] }->EP X pins σ Q (.ref s.heap.objs.size) { s with heap:=h' }:=λits r' hz h' c' kp e=>
  ⟨.ref s.heap.objs.size,_,I.laid (t':=s.toks) kp (aH _) (show ck X.prog X.w _ h' _ (.lst ys) from ⟨hz,its,c',r',e⟩),rfl,q _ (I.hok.fresh (aH _))⟩
 rcases hq with hq | hq
 ·obtain⟨its,r',pl,hz⟩:=I.list hq;have hlen:=r'.length;obtain⟨o,ho,hc,n,hd⟩:=pl.isList;exact call_list_seq p (.inl rfl) ho hc hd (λh' c' kp e=>fin its r' hz h' c' kp e) (by simp only[aS]<;>lia)
 ·obtain⟨its,r',pl,hz⟩:=I.tuple hq;have hlen:=r'.length;obtain⟨o,ho,hc,n,hd⟩:=pl;exact call_list_seq p (.inr rfl) ho hc hd (λh' c' kp e=>fin its r' hz h' c' kp e) (by simp only[aS]<;>lia)
theorem lQ:iP X (.type "tuple") (λxs H Q=>∃p ys,xs=[.ref p]/\((bw X.K H p ys/\∀l,H l=none->Q (.ref l) (upd H l (.tup ys)))\/(dD X.K H p ys/\Q (.ref p) H))):=by
 intro pins s σ H xs us Q I r h;obtain⟨p,ys,rfl,h⟩:=h;obtain⟨u,rfl,rx⟩:=Qg r;cases rx;rcases h with ⟨hq,q⟩ | ⟨hq,q⟩
 ·obtain⟨its,r',pl,hz⟩:=I.list hq;have hlen:=r'.length;refine call_tuple_list pl.isList (λh' kp=>?_) (by simp only[aS]<;>lia);have I1:bv X pins σ H { s with heap:=h' }:=I.kept (t':=s.toks) kp;have I2:bv X pins σ (upd H h'.objs.size (.tup ys)) { s with heap:=h'.push { cls:=.type "tuple",data:=.seq its.toArray } }:=
   I1.laid (t':=s.toks) (λb o e=>aD _ e) (aH _) (show ck X.prog X.w _ _ _ (.tup ys) from ⟨hz,its,r',IsTup.new _ _⟩)
  exact⟨.ref h'.objs.size,_,I2,rfl,q _ (I1.hok.fresh (aH _))⟩
 ·obtain⟨its,r',pl,hz⟩:=I.tuple hq;exact call_tuple_same pl ⟨.ref p,H,I,rfl,q⟩
def C2 (K : RV) (T : String) (x : V) (H : Hp) : Prop := match x with
 | .str _ => T = "str"
 | .int _ => T = "int"
 | .ref p => (T = "list" ∧ ∃ xs, bw K H p xs) ∨ (T = "tuple" ∧ ∃ o, K.lookup p = some o ∧ o.cls = .type "tuple" ∧ o.dict = none) ∨
   (T = "dict" ∧ ((∃ kvs, H p = some (.dK kvs)) ∨ ∃ kvs, H p = some (.dT kvs))) ∨ (T = "set" ∧ ∃ S n, H p = some (.set S n))
 | _ => False
theorem C1{pins:List (Addr×Obj)}{σ:St}{H:Hp}{s:Shared}{T:String}{x:V}{v:Value}(I:bv X pins σ H s)(r:RelV x v)(ty:C2 X.K T x H):
  s.TypeIs v T/\∀a,v=.ref a->∃ob,s.heap.get? a=some ob/\ob.dict=none:=by
 cases x with
 | str z=>
  obtain⟨t,rfl⟩:=r;cases (show T="str" from ty);exact⟨Qi s z t,λ_ e=>nomatch e⟩
 | int i=>
  obtain⟨t,rfl⟩:=r;cases (show T="int" from ty);exact⟨typeIs_int s i t,λ_ e=>nomatch e⟩
 | ref p=>
  cases r;rcases ty with ⟨rfl,xs,hq⟩ | ⟨rfl,o,hk,hc,hd⟩ | ⟨rfl,hk⟩ | ⟨rfl,S,n,hk⟩
  ·obtain⟨its,_,pl,_⟩:=I.list hq;refine⟨pl.isList.typeIs,λa e=>?_⟩;cases e;obtain⟨o,n,e,c,hd,_⟩:=pl;exact⟨o,e,hd⟩
  ·refine⟨⟨o,I.kIn p o hk,hc⟩,λa e=>?_⟩;cases e;exact⟨o,I.kIn _ o hk,hd⟩
  ·have z:∃o,s.heap.get? p=some o/\o.ExactDict:=by
    rcases hk with ⟨kvs,hk⟩ | ⟨kvs,hk⟩
    ·obtain⟨_,_,_,_,o,_,_,e,ex,_⟩:=I.hok p _ hk;exact⟨o,e,ex⟩
    ·obtain⟨_,_,_,_,o,_,_,e,ex,_⟩:=I.hok p _ hk;exact⟨o,e,ex⟩
   obtain⟨o,e,ex⟩:=z;refine⟨⟨o,e,ex.1⟩,λa e2=>?_⟩;cases e2;exact⟨o,e,ex.2.1⟩
  ·obtain⟨o,_,_,_,e,ex,_⟩:=I.hok p _ hk;refine⟨⟨o,e,ex.1⟩,λa e2=>?_⟩;cases e2;exact⟨o,e,ex.2.1⟩
 | _=>exact False.elim ty
def Ih(K:RV)(T:String)(r:V->List V->Hp->VK->Prop)(to:TE):TE:=λσ H Q=>to σ H λx H1=>C2 K T x H1/\r x [] H1 Q
def LK(K:RV)(T:String)(r:V->List V->Hp->VK->Prop)(to:TE)(t:TA):TE:=λσ H Q=>to σ H λx H1=>C2 K T x H1/\t σ H1 λxs H2=>r x xs H2 Q
variable {o e:Expr} {es:List Expr} {to:TE} {t:TA} {name:Str} {apos cpos:Pos} {T id:String} {r:V->List V->Hp->VK->Prop}
theorem J1 (pa:PlainAttrs T) (slot:Slot T name id) (hty:typeOf (.builtin id)=pure (.type "method_descriptor")) (hm:K3 X id r) (ho:PE X o to)
  (hbase:attributeBase o name X.env (eval o X.env)=eval o X.env:=by rfl) (hline:(apos.endLine==cpos.line)=true:=by rfl):PE X (.Call (.Attribute o name apos) [] [] cpos) (Ih X.K T r to):=by
 intro pins s σ H Q I h;refine wpAny_Call_method0_late hbase hline (eS (ho pins s σ H _ I h) λv s1 ⟨x,H1,I1,r1,ty,q1⟩=>?_);obtain⟨h1,h2⟩:=C1 I1 r1 ty;exact⟨T,id,pa,slot,hty,h1,h2,jE rfl (PySem.evalArgs_none (hm pins s1 σ H1 x [] v [] Q I1 r1 .nil q1))⟩
theorem L5 (pa:PlainAttrs T) (slot:Slot T name id) (hty:typeOf (.builtin id)=pure (.type "method_descriptor")) (hm:K3 X id r) (ho:PE X o to) (ha:PA X (e::es) t)
  (hbase:attributeBase o name X.env (eval o X.env)=eval o X.env:=by rfl)
  (hfew:((backTo cpos (starEach (e::es) X.env)).all (λx=>!x.1)&&(backToKw cpos (keywordEach [] X.env)).all (λx=>x.1.isSome)
   && decide ((e::es).length+([]:List Keyword).length+(if ([]:List Keyword).isEmpty then 0 else 1)<30))=true:=by rfl)
  (hline:(apos.endLine==cpos.line)=true:=by rfl) (hs:starEach (e::es) X.env=(false,eval e X.env)::starEach es X.env:=by rfl) (hplain:(backTo cpos (starEach es X.env)).any (·.1)=false:=by rfl) :
  PE X (.Call (.Attribute o name apos) (e::es) [] cpos) (LK X.K T r to t):=by
 intro pins s σ H Q I h;refine wpAny_Call_method_late hbase hfew hline rfl (eS (ho pins s σ H _ I h) λv s1 ⟨x,H1,I1,r1,ty,q1⟩=>?_);obtain⟨h1,h2⟩:=C1 I1 r1 ty;refine⟨T,id,pa,slot,hty,h1,h2,?_⟩;have hA:=ha cpos pins s1 σ H1 _ I1 q1;rw[hs] at hA ⊢;refine jE (by show (false || (backTo cpos (starEach es X.env)).any (·.1))=false;rw[hplain]<;>rfl) (Calls.evalArgs_plain ?_);exact eS hA λus s2 ⟨vs,H2,I2,r2,q2⟩=>hm pins s2 σ H2 x vs v us Q I2 r1 r2 q2
/- xs.append(e),list.index on a module's tuple .. are K3 facts of 06m -/
end
def K4(X:Cx)(id:String)(r:V->List V->Hp->VK->Prop):Prop:=
 ∀(pins:List (Addr×Obj)) (s:Shared) (σ:St) (H:Hp) (x:V) (xs:List V) (v:Value) (us:List Value) (Q:VK),bv X pins σ H s->RelV x v->cV xs us->r x xs H Q →
  wpAny (model X.prog X.w) X.A (call (.builtin id) (v::us)) (EP X pins σ Q) X.xe s
theorem cV.one:∀{x:V} {us:List Value},cV [x] us->∃u,us=[u]/\RelV x u
 | _,_,.cons r .nil=>⟨_,rfl,r⟩
theorem cV.two:∀{x y:V} {us:List Value},cV [x,y] us->∃u v,us=[u,v]/\RelV x u/\RelV y v
 | _,_,_,.cons r (.cons q .nil)=>⟨_,_,rfl,r,q⟩
theorem cV.zero:∀{us:List Value},cV [] us->us=[]
 | _,.nil=>rfl
theorem cV.dropLast{xs:List V}{us:List Value}(h:cV xs us):cV xs.dropLast us.dropLast:=by
 induction h with
 | nil=>exact .nil
 | cons r t ih=>
  cases t with
  | nil=>exact .nil
  | cons q t'=>exact .cons r ih
theorem cV.rep{xs:List V}{us:List Value}(h:cV xs us):∀k:Nat,cV (List.replicate k xs).flatten (List.replicate k us).flatten
 | 0=>.nil
 | k+1=>by
  rw[gB,gB,iz,iz];exact cV.append h (cV.rep h k)
theorem zS{α:Type}(l:List α):l.eraseIdx (l.length - 1)=l.dropLast:=by
 induction l with
 | nil=>rfl
 | cons a r ih=>
  cases r with
  | nil=>rfl
  | cons b r=>
   have e:(a::b::r).length - 1=((b::r).length - 1)+1:=by
    have h1:(a::b::r).length=r.length+2:=rfl;have h2:(b::r).length=r.length+1:=rfl;lia
   rw[e,List.eraseIdx_cons_succ,ih]
   all_goals rfl
theorem foldl_rep(its:List Value):∀(k:Nat) (acc:List Value),
  List.foldl (λx1 x2=>x1++x2) acc.toArray (List.replicate k its.toArray)=(acc++(List.replicate k its).flatten).toArray
 | 0,acc=>by simp
 | k+1,acc=>by
  have e:acc.toArray++its.toArray=(acc++its).toArray:=by simp
  have e2:(acc++its)++(List.replicate k its).flatten=acc++(List.replicate (k+1) its).flatten:=by
   rw[gB,iz,cT]
  rw[<-e2,<-foldl_rep its k (acc++its),<-e,gB,fc]
section
variable {X:Cx} {pins:List (Addr×Obj)} {σ:St} {H:Hp} {s:Shared} {l:Addr} {xs ys:List V}
theorem bv.lset{its its':List Value}{n:Nat}{f:Array Value->Array Value}{t':Nat}(I:bv X pins σ H s)(hH:H l=some (.lst xs))
  (e:s.heap.get? l=some { cls:=.type "list",data:=.seq its.toArray n }) (hf:f its.toArray=its'.toArray) (hv:cV ys its') (hz:ys.length<=sizeLine) :
  bv X pins σ (upd H l (.lst ys)) { s with heap:=s.heap.update l (Obj.mapSeq f),toks:=t' }:=by
 have q:=PySem.IsL.update e f;rw[hf] at q;refine I.write (x:=l) (e:=l) (by rw[hH];exact trivial) (.inl rfl) (λb' u hb hu=>(dw s.heap (Obj.mapSeq f) (iw hb)).trans hu) ⟨_,q⟩ ?_;exact⟨hz,its',_,hv,q⟩
theorem bv.lnew{its:List Value}{t':Nat}(I:bv X pins σ H s)(hv:cV ys its)(hz:ys.length<=sizeLine):
  bv X pins σ (upd H s.heap.objs.size (.lst ys)) { s with heap:=s.heap.push { cls:=.type "list",data:=.seq its.toArray },toks:=t' }:=
 I.laid (λ_ _ q=>aD _ q) (aH _) ⟨hz,its,0,hv,aQ _ rfl⟩
theorem bv.fresh(I:bv X pins σ H s):H s.heap.objs.size=none:=I.hok.fresh (aH _)
theorem bv.lstM (I:bv X pins σ H s) (hH:H l=some (.lst xs)):xs.length<=sizeLine/\∃(its:List Value) (n:Nat),cV xs its/\xs.length=its.length/\s.heap.get? l=some { cls:=.type "list",data:=.seq its.toArray n }:=by
 obtain⟨z,its,n,r,e⟩:=I.hok l _ hH;exact⟨z,its,n,r,r.length,e⟩
theorem EB{n:Nat}(h:n<=sizeLine):Builtin.List.listTooLong n=false:=by
 unfold Builtin.List.listTooLong;exact RP (by lia)
end
section
variable {X:Cx}
def vb:V->List V->Hp->VK->Prop:=λx vs H Q=>∃l xs y,x=.ref l/\vs=[y]/\H l=some (.lst xs)/\xs.length<sizeLine/\Q .non (upd H l (.lst (xs++[y])))
theorem dH:K4 X "list.append" vb:=by
 intro pins s σ H x vs v us Q I rx rv h;obtain⟨l,xs,y,rfl,rfl,hH,hz,q⟩:=h;cases rx;obtain⟨u,rfl,ru⟩:=rv.one;obtain⟨z,its,n,r,hl,e⟩:=I.lstM hH;refine Qj F.slot_list_append ⟨_,e,rfl⟩ F.entry_list_append (F.args_list_append_2 _ _) (PySem.list_append l its.toArray n u (by rw[aS];lia)) ⟨e,?_⟩;refine⟨.non,_,I.lset (its':=its++[u]) hH e (by simp) (r.append (.cons ru .nil)) ?_,rfl,q⟩;rw[aw,cW];lia
def LR:V->List V->Hp->VK->Prop:=λx vs H Q=>∃l xs y,x=.ref l/\vs=[]/\H l=some (.lst xs)/\xs[xs.length - 1]? = some y/\Q y (upd H l (.lst xs.dropLast))
theorem zE:K4 X "list.pop" LR:=by
 intro pins s σ H x vs v us Q I rx rv h;obtain⟨l,xs,y,rfl,rfl,hH,hy,q⟩:=h;cases rx;have hus:=rv.zero;subst hus;obtain⟨z,its,n,r,hl,e⟩:=I.lstM hH;obtain⟨u,hu,ru⟩:=r.get hy;have hy':its.toArray[its.toArray.size - 1]? = some u:=by
  show its.toArray[its.length - 1]? = some u;rw[<-fX,<-hl];exact hu
 refine Qj F.slot_list_pop ⟨_,e,rfl⟩ F.entry_list_pop (F.args_list_pop_1 _) (MeetsSeq.list_pop_last l its.toArray n u hy' (by rw[aS];lia)) ⟨e,?_⟩;refine⟨y,_,I.lset (its':=its.dropLast) hH e ?_ r.dropLast ?_,ru,q⟩
 ·show its.toArray.eraseIdxIfInBounds (its.toArray.size - 1)=its.dropLast.toArray;rw[aS,List.eraseIdxIfInBounds_toArray,zS]
 ·rw[List.length_dropLast];lia
def LV:R2:=λx y H Q=>∃l b xs zs,x=.ref l/\y=.ref b/\H l=some (.lst xs)/\H b=some (.lst zs)/\xs.length+zs.length<=sizeLine/\∀p,H p=none->Q (.ref p) (upd H p (.lst (xs++zs)))
theorem pE:mf X (binaryOp .Add) LV:=by
 intro pins s σ H x y v u Q I rx ry h;obtain⟨l,b,xs,zs,rfl,rfl,hH,hB,hz,q⟩:=h;cases rx;cases ry;obtain⟨z,its,n,r,hl,e⟩:=I.lstM hH;obtain⟨z2,its2,n2,r2,hl2,e2⟩:=I.lstM hB;refine PySem.P.add_list e e2 ?_ (by rw[aS,aS];lia);have ea:its.toArray++its2.toArray=(its++its2).toArray:=by simp
 rw[ea];exact⟨.ref _,_,I.lnew (t':=s.toks) (r.append r2) (by rw[aw];lia),rfl,q _ I.fresh⟩
def MV:R2:=λx y H Q=>∃l k xs,x=.ref l/\y=.int k/\H l=some (.lst xs)/\-(2 ^ 63)<=k/\k<2 ^ 63/\xs.length*k.toNat<=sizeLine ∧
 ∀p,H p=none->Q (.ref p) (upd H p (.lst (List.replicate k.toNat xs).flatten))
theorem len_rep{α:Type}(xs:List α)(k:Nat):(List.replicate k xs).flatten.length=k*xs.length:=by
 induction k with
 | zero=>simp
 | succ k ih=>rw[gB,iz,aw,ih,Nat.succ_mul,Nat.add_comm]
theorem J4:mf X (binaryOp .Mult) MV:=by
 intro pins s σ H x y v u Q I rx ry h;obtain⟨l,k,xs,rfl,rfl,hH,h1,h2,hz,q⟩:=h;cases rx;obtain⟨t,rfl⟩:=ry;obtain⟨z,its,n,r,hl,e⟩:=I.lstM hH;have hlen:its.toArray.size*k.toNat<=sizeLine:=by rw[aS,<-hl];exact hz
 have hcap:¬its.toArray.size*k.toNat > (2 ^ 63 - 1) / 8:=by
  have:(sizeLine:Nat)<=(2 ^ 63 - 1) / 8:=by decide
  lia
 have hfit:¬(!Builtin.List.listFitsIndex k)=true:=by
  rw[fitsIndex_both h1 h2];exact af
 have hlong:¬Builtin.List.listTooLong (its.toArray.size*k.toNat)=true:=by
  rw[EB hlen];exact af
 have hnew:List.foldl (λx1 x2=>x1++x2) #[] (List.replicate (if its.toArray.isEmpty=true then 0 else k.toNat) its.toArray)=(List.replicate k.toNat its).flatten.toArray:=by
  have f0:∀m:Nat,List.foldl (λx1 x2=>x1++x2) #[] (List.replicate m its.toArray)=(List.replicate m its).flatten.toArray:=λm=>by
   have:=foldl_rep its m [];rw[fb] at this;exact this
  rw[f0];cases its with
  | nil=>simp
  | cons a r'=>rw[RM (by simp)]
 refine wpAny_binaryOp_repeat_ref (T:="list") (U:="int") (by decide) ⟨_,e,rfl⟩ (λs'=>typeIs_int s' k t) noFill_list_mul F.fills_int_mul F.slot_int_rmul repeat_list F.slot_int_index.lookup
  (Qj F.slot_int_rmul (typeIs_int s k t) F.entry_int_rmul (F.args_int_rmul_2 _ _) (int___rmul___int_list k t l its.toArray n)
   ⟨e,rfl,⟨_,e,rfl⟩,Qj F.slot_list_mul ⟨_,e,rfl⟩ F.entry_list_mul (F.args_list_mul_2 _ _) (AutoListH.list___mul___list_int_3 l its.toArray n k t hfit hcap hlong) ⟨e,?_⟩⟩)
 rw[hnew];exact⟨.ref _,_,I.lnew (t':=s.toks) (r.rep k.toNat) (by rw[len_rep,Nat.mul_comm];exact hz),rfl,q _ I.fresh⟩
end
section
set_option maxRecDepth 100000 in
end
end L2
namespace Att
open PySem PySem.W PySem.Calls PyProof.Rows
theorem rP{P:Params}{h:Heap}:∀(ns:List Int) (vs:List Value),WellAll P h vs (ns.map WData.int)->IntsAre vs ns:=by
 intro ns
 induction ns with
 | nil=>
  intro vs w;rw[fM] at w;cases w;exact .nil
 | cons n ns ih=>
  intro vs w;rw[av] at w;cases w with
  | cons a b=>
   cases a;exact .cons _ _ (ih _ b)
theorem BA{l:OpenLaw}{n:Nat}(hn:l.most=some n){P:Params}{h:Heap}{args:List WData}{vals:List Value}
  (hpre:l.row.toRowW.claim.pre args=true) (hwl:WellAll P h vals args) :
  ∃a vs ns,vals=[Value.ref a]/\args=[WData.list (ns.map WData.int)]/\h.get? a=some { cls:=.type "list",data:=.seq vs.toArray }/\IntsAre vs ns/\ns.length<=n:=by
 have hsh:WShape.hasAll [] args [.list .int]=true:=(pre_splitW hpre).1;have hc:l.pre.holds [] { args:=args }=true:=(pre_splitW hpre).2;obtain⟨d,r,rfl,h1,h2⟩:=hasAllW_cons hsh;obtain rfl:=hasAllW_nil h2;obtain⟨xs,rfl,h3⟩:=hasW_list h1;obtain⟨ns,rfl⟩:=items_int h3;have hlen:ns.length<=n:=by
  unfold OpenLaw.pre at hc;have h4:(WTm.not (.lt (.lit (.int (n:Int))) (.len (.arg 0)))).holds [] { args:=[.list (ns.map .int)] }=true:=by
   have h4:=(holds_andW hc).1;rw[hn] at h4;exact h4
  have h5:=condW_of h4 (w_not (w_lt w_lit (w_len_list (w_arg rfl))));rw[aA] at h5;refine Nat.le_of_not_lt λq=>?_;have q':(n:Int)<((ns.length:Nat):Int):=by lia
  first
   | (rw[RQ q'] at h5;exact absurd h5 (by decide))
   | (simp at h5;lia)
 cases hwl with
 | cons w1 w2=>
  cases w2;cases w1 with
  | list ho hall=>exact⟨_,_,ns,rfl,rfl,ho,rP ns _ hall,hlen⟩
theorem BJ(l:OpenLaw)(args:List WData):l.row.toRowW.claim.post args (.bool true) args=true:=
 postW_of (r:=l.row.toRowW) (X:=(true==true))
  (show WShape.has [] (.bool true) .bool=true by first | rfl | decide | simp[WShape.has,WShape.arms,WShape.armsAll])
  (show (WTm.eq .res (.lit (.bool true))).value [] { args:=args,res:=some (.bool true),after:=args }=some (.bool (true==true)) from w_eq_bool (w_res rfl) w_lit) rfl
theorem attach_call{l:OpenLaw}{n:Nat}{q:Program}{loose:List Str}{XP:(Str->Option Value)->Heap->Prop}{YP:World->Heap->Prop}{d:DefRec}
  (hn:l.most=some n) (hdf:d.params.defaults=[])
  (call:∀(w:World) (s₀ s₁:Shared) (mg mb:Str->Option Value) (fa:Addr) (o:Obj) (pm cd doc:Value) (a:Addr) (vs:List Value) (ns:List Int),
   Ground q loose [] XP w s₀ mg mb s₁.heap->YP w s₁.heap →
   s₁.heap.get? fa=some o->o.data=.func (docDef d.name d.params d.body d.scope pm cd doc)->s₁.heap.CodeRec cd d.name->mg d.name=some (.ref fa) →
   s₁.heap.get? a=some { cls:=.type "list",data:=.seq vs.toArray }->IntsAre vs ns->ns.length<=n->s₁.gens=#[] →
   codeAny (model l.prog w) callerA (.call (.ref fa) ⟨[.ref a],[]⟩) (λr s'=>r=.ok (.ret (.bool true))/\OldK s₁.heap s'.heap/\s'.os=s₁.os/\AllBare s'.gens) s₁) :
  WalkO q loose XP YP l.row.toRowW d [] (λf vs=>PySem.call f vs):=by
 intro w s₀ s₁ mg mb G Y fa o pm cd doc dV kV ho hd hcd hD hmg hg args vals as hpre hlay hrd hwl hlo;obtain rfl:dV=.none:=Dflts.none hD hdf;obtain rfl:kV=.none:=Dflts.noKw hD;obtain⟨a,vs,ns,rfl,rfl,hobj,hints,hlen⟩:=BA hn hpre hwl;refine enter_call (codeAny_mono (call w s₀ s₁ mg mb fa o pm cd doc a vs ns G Y ho (fd_plain hd) hcd hmg hobj hints hlen hg) λr s' hq=>?_);obtain⟨rfl,h2,h3,h4⟩:=hq;exact⟨.inl ⟨.bool true,.bool true,[],rfl,λ_=>rfl,.bool true,BJ l _,λ_=>⟨List.Pairwise.nil,λ_ hm=>(nomatch hm)⟩⟩,h2,h3,h4⟩
end Att
namespace L2
open PySem PySem.Spec PyProof.Rows
theorem oI:∀{vs:List Value} {ns:List Int},IntsAre vs ns->cV (ns.map V.int) vs
 | _,_,.nil=>.nil
 | _,_,.cons n t h=>.cons ⟨t,rfl⟩ (oI h)
def KO(H:Hp):Prop:=∀b,H b=none\/∃o xs,H b=some (.frz o (.lst xs))
theorem ET{P:Program}{w:World}{K:RV}{mg mb:Str->Option Value}{CX:Eo}{k:Nat}{fa a:Addr}{fd:FuncData}{x:Str}{sp:Sp}{s₁:Shared}{vs:List Value}{ns:List Int}
  (KX:K.In s₁.heap) (hns:s₁.heap.Ns mainGlobals mg) (hb:s₁.heap.Ns builtinsNs mb) (hbb:∀x:Str,x≠"__name__"->mb x=bootBuiltins x) (hlim:s₁.heap.NoLimit) (hg:s₁.gens=#[])
  (ha:s₁.heap.get? a=some { cls:=.type "list",data:=.seq vs.toArray }) (hi:IntsAre vs ns) (hl:ns.length<=sizeLine) (hr:iU k callerA)
  (F:∀base:Heap,K.In base->base.Ns mainGlobals mg->qx P w K mg base CX k fa fd [x] sp) (hbind:∀(s:Shared) (u:Value),BindsTo s fd ⟨[u],[]⟩ [(x,u)])
  (hsp:∀H:Hp,KO H->bw K H a (ns.map V.int)->sp [.ref a] H (λv _=>v=.bl true) λ_ _ _=>False)
  (hCX:∀H e s',CX [] H s₁ (λ_ _ _=>False) e s'->False) :
  codeAny (model P w) callerA (.call (.ref fa) ⟨[.ref a],[]⟩) (λr s'=>r=.ok (.ret (.bool true))/\OldK s₁.heap s'.heap/\s'.os=s₁.os/\AllBare s'.gens) s₁:=by
 have rv:=oI hi;have lenV:=hi.length;have core:∀H:Hp,KO H->bw K H a (ns.map V.int)->pP P w H s₁.heap->(∀b,H b≠none->b=a)->(H a≠none->K.lookup a=none) →
   codeAny (model P w) callerA (.call (.ref fa) ⟨[.ref a],[]⟩) (λr s'=>r=.ok (.ret (.bool true))/\OldK s₁.heap s'.heap/\s'.os=s₁.os/\AllBare s'.gens) s₁:=by
  intro H hO hS hok hA hK;have base_of:∀{b:Addr} {o:Obj},s₁.heap.get? b=some o->H b=none->(vq s₁.heap H).get? b=some o:=λe n=>E2 e n;have noA:∀{b:Addr} {o:Obj} {es:Array DictEntry} {ep:Nat},s₁.heap.get? b=some o->o.data=.dict es ep->H b=none:=fun {b o es ep} e d=>by
   cases q:H b with
   | none=>rfl
   | some u=>
    have e':b=a:=hA b (by rw[q];simp);subst e';rw[ha] at e;cases e;have d':Data.seq vs.toArray _=Data.dict es ep:=d;cases d'
  have nsK:∀{b:Addr} {m:Str->Option Value},s₁.heap.Ns b m->(vq s₁.heap H).Ns b m:=fun {b m} ⟨o,es,ep,e,d,r⟩=>⟨o,es,ep,base_of e (noA e d),d,r⟩
  have hKb:K.In (vq s₁.heap H):=λb o e=>base_of (KX b o e) (by
   cases q:H b with
   | none=>rfl
   | some u=>
    have e':b=a:=hA b (by rw[q];simp);subst e';rw[hK (by rw[q];simp)] at e;cases e)
  have hM:Mod K mg (vq s₁.heap H):=⟨hKb,nsK hns,⟨mb,nsK hb,hbb⟩,let ⟨mc,h1,h2⟩:=hlim;⟨mc,nsK h1,h2⟩⟩
  have e0:zd P w K mg (vq s₁.heap H) callerA [] s₁ H:=⟨rfl,hM,λb o e=>GR e,iG (B8 _ _),trivial,λb hb=>absurd (show b∈([]:List Addr) from hb) (by simp),hok,.of_eq hg⟩
  refine codeAny_mono ((F _ hKb (nsK hns)).run callerA [] s₁ H ⟨[.ref a],[]⟩ [.ref a] [.ref a] _ _ hr e0 (hbind s₁ (.ref a)) (.cons rfl .nil) (hsp H hO hS)) λr s' h=>?_;cases r with
  | error e=>exact(hCX H e s' h).elim
  | ok fl=>
   cases fl with
   | next=>exact False.elim h
   | brk=>exact False.elim h
   | cont=>exact False.elim h
   | ret u=>
    obtain⟨v,H',os,bare,un,hok',r',q⟩:=h;have q':v=.bl true:=q;subst q';obtain rfl:u=Value.bool true:=r';refine⟨rfl,OldK.of_keep λb o e=>?_,os,bare⟩;cases q:H b with
    | none=>exact un.keep b o e q (by intro z;exact absurd (show b∈([]:List Addr) from z) (by simp)) (by simp)
    | some u=>
     rcases hO b with z | ⟨ob,xs,z⟩
     ·rw[q] at z;cases z
     ·have z2:=un.frzs b ob _ z;obtain⟨e1,_⟩:=hok b _ z;obtain⟨e2,_⟩:=hok' b _ z2;rw[e] at e1;cases e1;exact e2
 cases hk:K.lookup a with
 | some o=>
  have e:=KX a o hk;rw[ha] at e;cases e;refine core (λ_=>none) (λ_=>.inl rfl) (.inr ⟨_,vs.toArray,_,hk,rfl,rfl,rfl,by rw[aS,lenV];exact hl,by simpa using rv⟩) (λb u z=>by have z':(none:Option HO)=some u:=z;cases z') (λb z=>absurd rfl z) λz=>absurd rfl z
 | none=>
  refine core (λb=>if b=a then some (.frz { cls:=.type "list",data:=.seq vs.toArray } (.lst (ns.map V.int))) else none) (λb=>?_) (.inl (.inr ⟨{ cls:=.type "list",data:=.seq vs.toArray },RN rfl⟩)) (λb u z=>?_) (λb z=>?_) λ_=>hk
  ·by_cases hb:b=a
   ·exact .inr ⟨_,_,RN hb⟩
   ·exact .inl (RM hb)
  ·by_cases hb:b=a
   ·have z':=(RN hb).symm.trans z;cases z';subst hb;exact⟨ha,by rw[aA];exact hl,vs,_,rv,ha⟩
   ·have z':=(RM hb).symm.trans z;cases z'
  ·by_cases hb:b=a
   ·exact hb
   ·exact absurd (RM hb) z
abbrev Mv {K:RV} {h:Heap} (_:K.In h):RV:=K
theorem ze{l:PySem.W.OpenLaw}{n k:Nat}{q:Program}{loose:List Str}{XP:(Str->Option Value)->Heap->Prop}{YP:World->Heap->Prop}{d:DefRec}{K:Params->RV}{CX:World->Eo}{sp:World->Sp}{x:Str}
  (hn:l.most=some n) (hn2:n<=sizeLine) (hdf:d.params.defaults=[]) (hr:iU k callerA)
  (hY:∀(w:World) (h:Heap),YP w h->(K w.params).In h)
  (F:∀(w:World) (mg:Str->Option Value) (fa:Addr) (h:Heap),(K w.params).In h->h.Ns mainGlobals mg->mg d.name=some (.ref fa) →
   ∃fd:FuncData,(∀(s:Shared) (u:Value),BindsTo s fd ⟨[u],[]⟩ [(x,u)]) ∧
    ∀base:Heap,(K w.params).In base->base.Ns mainGlobals mg->qx l.prog w (K w.params) mg base (CX w) k fa fd [x] (sp w))
  (hsp:∀(w:World) (H:Hp) (a:Addr) (ns:List Int),ns.length<=n->KO H->bw (K w.params) H a (ns.map V.int)->sp w [.ref a] H (λv _=>v=.bl true) λ_ _ _=>False)
  (hCX:∀(w:World) (H:Hp) (s:Shared) (e:Value) (s':Shared),CX w [] H s (λ_ _ _=>False) e s'->False) :
  PySem.W.WalkO q loose XP YP l.row.toRowW d [] (λf vs=>PySem.call f vs):=by
 refine Att.attach_call hn hdf λw s₀ s₁ mg mb fa o pm cd doc a vs ns G Y ho hd hcd hmg hobj hints hlen hg=>?_;have KX:=hY w _ Y;obtain⟨fd,hb,hF⟩:=F w mg fa _ KX G.T.g hmg;exact ET KX G.T.g G.T.b G.T.builtins G.T.nolimit hg hobj hints (bF hlen hn2) hr hF hb (λH hO hS=>hsp w H a ns hlen hO hS) λH e s'=>hCX w H s₁ e s'
end L2
/- THE LAST THEOREM (shape;LID,My.* are yours):
   My.Adr: a structure of the addresses that your layer names (classes,functions);My.Txt K t: a structure (Prop) of the equations over K;
   My.txt_mk:{K} {implicit addresses ..} (e1:nsIn K mainGlobals "law"=some (some (.ref f))) (e2:K.lookup f=some ⟨oc,od,.func (fnOf "law" "law" params body scope dV kV doc pm an cdv ct),sl⟩) (e3:codeIn K cdv "law"=true) ..:∃t,My.Txt K t
set_option maxRecDepth 100000 in
set_option maxHeartbeats 0 in
theorem PySem.Challenge.cw_LID_holds : PySem.Challenge.rw_LID.Holds := by
 w_on; o_law; k_head; (case hw => w_witness2)
 k_fill
 refine L2.ze (l := PySem.Challenge.rw_LID) (n := 63) (k := 40) (x := "script") (CX := λw => ..) (sp := λ_ => My.sp_law) rfl (by decide) rfl ⟨rfl, by decide, by decide⟩ (λw h Y => PySem.W.kIn_of Y) ?F ?S ?C
 case F =>
  intro w mg fa h KX G hmg;have T : ∃t, My.Txt (L2.Mv KX) t := by
   dsimp only [L2.Mv]                          -- K must stand as «<heap const> w.params» for k_is;refine' My.txt_mk ?e1 ?e2 ?e3 ..
   (case e1 => PySem.W.k_is)                    -- in the order: a name -> its address -> its object -> its parts
   (case e2 => PySem.W.k_is)
   ..
  obtain ⟨t, T⟩ := T;have e0 := hmg.symm.trans (eU KX G T.law);cases e0                                       -- fa is the law's own address;exact ⟨_, λs u => .of_eq rfl, λbase kb nb => My.law_fn T kb nb⟩     -- if «.of_eq rfl» comes too early: refine' ⟨_, ?b, λbase kb nb => My.law_fn T kb nb⟩; exact λs u => .of_eq rfl
 case S => exact λw H a ns hl hO hS => ..
 case C => exact ..
(the tactic k_is has no namespace: write k_is) -/
namespace L2
open PySem PySem.Spec PyProof.Rows
def lD(s:Stmt):Arguments:=match s with
 | .FunctionDef _ a _ _ _ _ _ _ _ _=>a
 | _=>{ posonlyargs:=[],args:=[],vararg:=none,kwonlyargs:=[],kw_defaults:=[],kwarg:=none,defaults:=[] }
def jc(s:Stmt):List Stmt:=match s with
 | .FunctionDef _ _ b _ _ _ _ _ _ _=>b
 | _=>[]
def bJ(s:Stmt):Scope:=match s with
 | .FunctionDef _ _ _ _ _ _ sc _ _ _=>sc
 | _=>{ kind:=.function,names:=[],isGenerator:=false,isCoroutine:=false }
abbrev Bs:Eo:=λ_ _ _ _ _ _=>False
abbrev E0:XK:=λ_ _ _=>False
theorem L7{X:Cx}:zc Bs X E0:=λ_ _ _ _ _ _ _ h=>h.elim
structure Er (K:RV) (x qual:Str) (st:Stmt) (f:Addr) (fd:FuncData):Prop where
 ex:∃ (oc:Value) (od:Option Addr) (kV doc pm:Value) (an:Option Addr) (cdv ct:Value) (osl:Array (Option Value)),
  fd=PySem.W.fnOf x qual (lD st) (jc st) (bJ st) .none kV doc pm an cdv ct/\K.lookup f=some ⟨oc,od,.func fd,osl⟩/\PySem.W.codeIn K cdv qual=true
 kp:PySem.W.keepIn K (.ref f)=true
section
variable {P:Program} {w:World} {K:RV} {mg:Str->Option Value} {base:Heap}
theorem Er.ok{x qual:Str}{st:Stmt}{f:Addr}{fd:FuncData}{N ps:List Str}{k:Nat}{sp:Sp}(F:Er K x qual st f fd)(S:bh N ps (bJ st))(len:∀vs H Q E,sp vs H Q E->vs.length=ps.length)
  (hbody:∀(cdv:Value) (A:Around) (outer:List Env) (s:Shared) (H:Hp) (vs:List V) (Q:VK) (E:XK),iU k (A.deeper (envOfC qual (bJ st) s.heap.objs.size f cdv))->sp vs H Q E →
   ∃t,xr (xc Bs P w K mg base N qual (bJ st) f cdv A outer s H E).nox (jc st) t/\t { nx:=λ_ H'=>Q .non H',rt:=Q } (start N vs) H):qx P w K mg base Bs (k+1) f fd ps sp:=by
 obtain⟨oc,od,kV,doc,pm,an,cdv,ct,osl,rfl,lk,hcd⟩:=F.ex;refine Lf lk hcd S len λA outer s H vs Q E hr hsp=>?_;obtain⟨t,h,q⟩:=hbody cdv A outer s H vs Q E hr hsp;exact⟨t,h.nox,q⟩
theorem Er.binds{x qual:Str}{st:Stmt}{f:Addr}{fd:FuncData}{ps:List Str}(F:Er K x qual st f fd)
  (h:∀(kV doc pm:Value) (an:Option Addr) (cdv ct:Value) (us:List Value),us.length=ps.length->bindArgs (PySem.W.fnOf x qual (lD st) (jc st) (bJ st) .none kV doc pm an cdv ct) ⟨us,[]⟩=pure (ps.zip us)):Binds K fd ps []:=by
 obtain⟨oc,od,kV,doc,pm,an,cdv,ct,osl,rfl,lk,hcd⟩:=F.ex;exact .all (h kV doc pm an cdv ct)
theorem Jz{x qual:Str}{st:Stmt}{f:Addr}{oc:Value}{od an:Option Addr}{osl:Array (Option Value)}{kV doc pm cdv ct:Value}(l:K.lookup f=some ⟨oc,od,.func (PySem.W.fnOf x qual (lD st) (jc st) (bJ st) .none kV doc pm an cdv ct),osl⟩)
  (c:PySem.W.codeIn K cdv qual=true) (k:PySem.W.keepIn K (.ref f)=true):Er K x qual st f (PySem.W.fnOf x qual (lD st) (jc st) (bJ st) .none kV doc pm an cdv ct):=⟨⟨oc,od,kV,doc,pm,an,cdv,ct,osl,rfl,l,c⟩,k⟩
end
theorem bQ{n:Nat}(h:n<=1000):n<sizeLine:=Nat.lt_of_le_of_lt h (by decide)
section
variable {X:Cx}
theorem pv (i:Nat) {x:Str} {pos:Pos} (hN:X.N[i]? = some x:=by rfl) (hv:Lj X.env.scope x:=by first | exact Or.inl rfl | exact Or.inr (Or.inl rfl) | exact Or.inr (Or.inr rfl)) (hd:(x==("__debug__":Str))=false:=by decide)
  (hcd:(x==("__classdict__":Str))=false:=by decide):PE X (.Name x pos) (yO i):=JT hN hv hd hcd
end
theorem Jr{A B:Prop}(h:B):if false=true then A else B:=by
 rw[RM af];exact h
theorem Jq{A B:Prop}(h:A):if true=true then A else B:=by
 rw[RN rfl];exact h
theorem gl{c A B:Prop} [Decidable c] (h1:c->A) (h2:¬c->B):if c then A else B:=by
 by_cases h:c
 ·rw[RN h];exact h1 h
 ·rw[RM h];exact h2 h
def ar(H H':Hp):Prop:=∀b o,H b=some o->H' b=some o
theorem ar.refl(H:Hp):ar H H:=λ_ _ h=>h
theorem ar.trans{H H1 H2:Hp}(a:ar H H1)(b:ar H1 H2):ar H H2:=λc o h=>b c o (a c o h)
theorem ar.free{H H':Hp}(e:ar H H'){l:Addr}(h:H' l=Option.none):H l=Option.none:=by
 cases q:H l with
 | none=>rfl
 | some o=>
  rw[e l o q] at h;cases h
section
variable {κ:Type} [DecidableEq κ]
def eI(kvs:List (κ×V))(k:κ):Option V:=(kvs.find? λkv=>decide (kv.1=k)).map (·.2)
def putK(kvs:List (κ×V))(k:κ)(v:V):List (κ×V):=
 if (kvs.any λkv=>decide (kv.1=k))=true then kvs.map (λkv=>if kv.1=k then (kv.1,v) else kv) else kvs++[(k,v)]
theorem ff{p:κ×V}{r:List (κ×V)}{k:κ}(e:p.1=k):eI (p::r) k=some p.2:=by simp[eI,fe,e]
theorem eX{p:κ×V}{r:List (κ×V)}{k:κ}(e:¬p.1=k):eI (p::r) k=eI r k:=by simp[eI,fe,e]
theorem lX(k:κ):∀kvs:List (κ×V),(kvs.any λkv=>decide (kv.1=k))=(eI kvs k).isSome
 | []=>rfl
 | p::r=>by
  rw[gf];by_cases e:p.1=k
  ·simp only[ff e,RQ e,Bool.true_or,Option.isSome_some]
  ·rw[eX e,RP e,lV];exact lX k r
theorem wI(k j:κ)(y:V):∀kvs:List (κ×V),eI (kvs.map λkv=>if kv.1=k then (kv.1,y) else kv) j=(eI kvs j).map λx=>if j=k then y else x
 | []=>rfl
 | p::r=>by
  have ih:=wI k j y r;rw[av];by_cases h:p.1=k
  ·rw[RN h];by_cases e:p.1=j
   ·rw[ff (p:=(p.1,y)) e,ff e,jx,RN (e.symm.trans h)]
   ·rw[eX (p:=(p.1,y)) e,eX e,ih]
  ·rw[RM h];by_cases e:p.1=j
   ·rw[ff (p:=p) e,ff e,jx,RM (λz=>h (e.trans z))]
   ·rw[eX (p:=p) e,eX e,ih]
theorem oJ(k j:κ)(y:V):∀kvs:List (κ×V),eI kvs k=none->eI (kvs++[(k,y)]) j=if j=k then some y else eI kvs j
 | [],_=>by
  by_cases e:k=j
  ·rw[RN e.symm];exact ff (p:=(k,y)) e
  ·rw[RM (λz=>e z.symm)];exact eX (p:=(k,y)) e
 | p::r,hn=>by
  rw[gN];have hk:¬p.1=k:=λz=>by rw[ff z] at hn;cases hn
  rw[eX hk] at hn;have ih:=oJ k j y r hn;by_cases e:p.1=j
  ·rw[ff e,ff e,RM (λz=>hk (e.trans z))]
  ·rw[eX e,eX e,ih]
theorem jd(kvs:List (κ×V))(k j:κ)(y:V):eI (putK kvs k y) j=if j=k then some y else eI kvs j:=by
 unfold putK;by_cases a:(kvs.any λkv=>decide (kv.1=k))=true
 ·rw[RN a,wI];rw[lX] at a;by_cases e:j=k
  ·obtain⟨x,hx⟩:=lU.mp a;rw[RN e,e,hx,jx,RN rfl]
  ·rw[RM e];cases eI kvs j with
   | none=>rfl
   | some x=>rw[jx,RM e]
 ·rw[RM a];refine oJ k j y kvs ?_;rw[lX] at a;cases q:eI kvs k with
  | none=>rfl
  | some x=>rw[q] at a;exact(a rfl).elim
theorem eE(kvs:List (κ×V))(k:κ)(v:V):(putK kvs k v).length<=kvs.length+1:=by
 unfold putK
 split
 ·rw[aA];lia
 ·rw[aw,cQ,jz];lia
theorem p8{kvs:List (κ×V)}{k:κ}(v:V)(h:eI kvs k=none):putK kvs k v=kvs++[(k,v)]:=by
 unfold putK;rw[lX,h];exact RM (by decide)
theorem qw.isSome_eq{o:Option V}{u:Option Value}(r:qw o u):o.isSome=u.isSome:=by
 cases o with
 | none=>cases u with
  | none=>rfl
  | some _=>exact(show False from r).elim
 | some _=>cases u with
  | none=>exact(show False from r).elim
  | some _=>rfl
theorem qw.getD{o:Option V}{u:Option Value}{d:V}{d':Value}(r:qw o u)(rd:RelV d d'):RelV (o.getD d) (u.getD d'):=by
 cases o with
 | none=>cases u with
  | none=>exact rd
  | some _=>exact(show False from r).elim
 | some _=>cases u with
  | none=>exact(show False from r).elim
  | some _=>exact r
theorem KV.val{kvs:List (κ×V)}{vs:List (κ×Value)}(r:KV kvs vs)(k:κ):qw (eI kvs k) (valueAt vs k):=by
 unfold KV at r
 induction r with
 | nil=>exact True.intro
 | @cons p q ps qs h t ih=>
  obtain⟨h1,h2⟩:=h;by_cases e:p.1=k
  ·have e':q.1=k:=h1.symm.trans e;have b:valueAt (q::qs) k=some q.2:=by simp[valueAt,fe,e']
   rw[ff e,b];exact h2
  ·have e':¬q.1=k:=λz=>e (h1.trans z);have b:valueAt (q::qs) k=valueAt qs k:=by simp[valueAt,fe,e']
   rw[eX e,b];exact ih
theorem KV.any{kvs:List (κ×V)}{vs:List (κ×Value)}(r:KV kvs vs)(k:κ):(kvs.any λkv=>decide (kv.1=k))=vs.any λkv=>decide (kv.1=k):=by
 unfold KV at r
 induction r with
 | nil=>rfl
 | cons h t ih=>rw[gf,gf,ih,h.1]
theorem KV.repl{kvs:List (κ×V)}{vs:List (κ×Value)}(r:KV kvs vs)(k:κ){y:V}{u:Value}(ry:RelV y u):
  KV (kvs.map λkv=>if kv.1=k then (kv.1,y) else kv) (vs.map λkv=>if kv.1=k then (kv.1,u) else kv):=by
 unfold KV at r ⊢
 induction r with
 | nil=>exact .nil
 | @cons p q ps qs h t ih=>
  rw[av,av];refine .cons ?_ ih;obtain⟨h1,h2⟩:=h;by_cases e:p.1=k
  ·rw[RN e,RN (h1.symm.trans e)];exact⟨h1,ry⟩
  ·rw[RM e,RM (λz=>e (h1.trans z))];exact⟨h1,h2⟩
theorem KV.put{kvs:List (κ×V)}{vs:List (κ×Value)}(r:KV kvs vs)(k:κ){y:V}{u:Value}(ry:RelV y u):KV (putK kvs k y) (stored vs k u):=by
 unfold putK stored;rw[r.any k];by_cases e:(vs.any λkv=>decide (kv.1=k))=true
 ·rw[RN e,RN e];exact r.repl k ry
 ·rw[RM e,RM e];exact Paired.snoc r ⟨rfl,ry⟩
theorem KV.length{kvs:List (κ×V)}{vs:List (κ×Value)}(r:KV kvs vs):kvs.length=vs.length:=au r
end
theorem tJ{P:Program}{w:World}{k:Key}{u:Value}(r:RelV (kV k) u):(fI P w).is k u=true:=by
 cases k with
 | inl i=>obtain⟨t,e⟩:=(show ∃t,u=Value.int i t from r);subst e;exact xO P w i t
 | inr x=>obtain⟨t,e⟩:=(show ∃t,u=Value.str x t from r);subst e;exact xN P w x t
theorem ux{P:Program}{w:World}:∀{ks:List Key} {us:List Value},cV (ks.map kV) us->ItemsAre (fI P w) ks us
 | [],_,r=>by rw[fM] at r;cases r;exact .nil
 | k::ks,_,r=>by
  rw[av] at r;cases r with
  | cons h t=>exact .cons (tJ h) (ux t)
abbrev KT (H:Hp):List (List Key×V)->List (List Key×Addr×Value)->Prop:=Paired λp q=>p.1=q.1/\H q.2.1=some (.tup (p.1.map kV))/\RelV p.2 q.2.2
theorem KT.val{H:Hp}{kvs:List (List Key×V)}{xs:List (List Key×Addr×Value)}(r:KT H kvs xs)(k:List Key):qw (eI kvs k) ((atKey xs k).map (·.2)):=by
 induction r with
 | nil=>exact True.intro
 | @cons p q ps qs h t ih=>
  obtain⟨h1,_,h2⟩:=h;by_cases e:p.1=k
  ·have e':q.1=k:=h1.symm.trans e;have b:atKey (q::qs) k=some q.2:=by simp[atKey,fe,e']
   rw[ff e,b];exact h2
  ·have e':¬q.1=k:=λz=>e (h1.trans z);have b:atKey (q::qs) k=atKey qs k:=by simp[atKey,fe,e']
   rw[eX e,b];exact ih
theorem KT.repl{H:Hp}{kvs:List (List Key×V)}{xs:List (List Key×Addr×Value)}(r:KT H kvs xs)(k:List Key){y:V}{u:Value}(ry:RelV y u):
  KT H (kvs.map λkv=>if kv.1=k then (kv.1,y) else kv) (xs.map (putAt k u)):=by
 induction r with
 | nil=>exact .nil
 | @cons p q ps qs h t ih=>
  rw[av,av];refine .cons ?_ ih;obtain⟨h1,h2,h3⟩:=h;unfold putAt;by_cases e:p.1=k
  ·rw[RN e,RN (h1.symm.trans e)];exact⟨h1,h2,ry⟩
  ·rw[RM e,RM (λz=>e (h1.trans z))];exact⟨h1,h2,h3⟩
theorem KT.put{H:Hp}{kvs:List (List Key×V)}{xs:List (List Key×Addr×Value)}(r:KT H kvs xs)(k:List Key){b:Addr}{y:V}{u:Value}(hb:H b=some (.tup (k.map kV)))(ry:RelV y u):
  KT H (putK kvs k y) (storedH xs k b u):=by
 have e:(kvs.any λkv=>decide (kv.1=k))=(atKey xs k).isSome:=by
  rw[lX,(r.val k).isSome_eq,lF]
 unfold putK storedH;rw[e];by_cases q:(atKey xs k).isSome=true
 ·rw[RN q,RN q];exact r.repl k ry
 ·rw[RM q,RM q];exact Paired.snoc r ⟨rfl,hb,ry⟩
theorem KT.keeps{H H':Hp}{kvs:List (List Key×V)}{xs:List (List Key×Addr×Value)}(r:KT H kvs xs)(ht:∀b ys,H b=some (.tup ys)->H' b=some (.tup ys)):KT H' kvs xs:=
 Paired.mapP r λ_ _ z=>⟨z.1,ht _ _ z.2.1,z.2.2⟩
section
variable {P:Program} {w:World} {H:Hp} {h:Heap} {a:Addr}
theorem Hf{u:HO}(ok:pP P w H h)(e:Rd H a u):ck P w H h a u:=e.ok ok
theorem tU{kvs:List (Key×V)}(ok:pP P w H h)(e:Rd H a (.dK kvs)):kvs.length<=sizeLine/\(a==sysModules)=false/\∃vs,KV kvs vs/\h.DictOf (fI P w) a vs:=
 show ck P w H h a (.dK kvs) from Hf ok e
theorem Hm{kvs:List (Key×V)}(ok:pP P w H h)(e:H a=some (.dK kvs)):kvs.length<=sizeLine/\(a==sysModules)=false/\∃vs,KV kvs vs/\h.DictOf (fI P w) a vs:=tU ok (.inl e)
theorem qo{ks:List Key}(ok:pP P w H h)(e:H a=some (.tup (ks.map kV))):(tupleKind (fI P w)).is h ks a:=by
 obtain⟨_,its,r,o,h1,h2,n,h3⟩:=(show ck P w H h a (.tup (ks.map kV)) from ok a _ e)
 exact⟨o,its.toArray,n,h1,h2,h3,by simpa using ux r⟩
theorem tT{kvs:List (List Key×V)}(ok:pP P w H h)(e:Rd H a (.dT kvs)):kvs.length<=sizeLine/\(a==sysModules)=false ∧
  ∃xs,KT H kvs xs/\h.DictOfH (tupleKind (fI P w)) a xs:=by
 obtain⟨z,y,xs,r,o,es,ep,h1,h2,h3,h4,h5⟩:=(show ck P w H h a (.dT kvs) from Hf ok e)
 refine⟨z,y,xs,r,o,es,ep,h1,h2,h3,h4,λx hx=>?_,h5⟩;have all:∀{l:List (List Key×V)} {m:List (List Key×Addr×Value)},KT H l m->∀x∈m,(tupleKind (fI P w)).is h x.1 x.2.1:=by
  intro l m q
  induction q with
  | nil=>intro x hx;exact nomatch hx
  | @cons p q ps qs hq t ih=>
   intro x hx;rcases aK.mp hx with e | hx
   ·subst e;exact qo ok (by rw[<-hq.1];exact hq.2.1)
   ·exact ih x hx
 exact all r x hx
theorem Lg{kvs:List (List Key×V)}(ok:pP P w H h)(e:H a=some (.dT kvs)):kvs.length<=sizeLine/\(a==sysModules)=false ∧
  ∃xs,KT H kvs xs/\h.DictOfH (tupleKind (fI P w)) a xs:=tT ok (.inl e)
end
def iV(H:Hp)(a:Addr)(y:V)(r:Option V):Prop:=
 (∃kvs k,Rd H a (.dK kvs)/\y=kV k/\r=eI kvs k)\/∃kvs k b,Rd H a (.dT kvs)/\y=.ref b/\H b=some (.tup (k.map kV))/\r=eI kvs k
def mO(H:Hp)(a:Addr)(y v:V)(H':Hp):Prop:=
 (∃kvs k,H a=some (.dK kvs)/\y=kV k/\kvs.length<sizeLine/\H'=upd H a (.dK (putK kvs k v))) ∨
 ∃kvs k b,H a=some (.dT kvs)/\y=.ref b/\H b=some (.tup (k.map kV))/\kvs.length<sizeLine/\H'=upd H a (.dT (putK kvs k v))
theorem iV.k{H:Hp}{a:Addr}{kvs:List (Key×V)}{k:Key}(e:H a=some (.dK kvs)):iV H a (kV k) (eI kvs k):=.inl ⟨kvs,k,.inl e,rfl,rfl⟩
theorem iV.t{H:Hp}{a b:Addr}{kvs:List (List Key×V)}{k:List Key}(e:H a=some (.dT kvs))(eb:H b=some (.tup (k.map kV))):iV H a (.ref b) (eI kvs k):=.inr ⟨kvs,k,b,.inl e,rfl,eb,rfl⟩
theorem mO.k{H:Hp}{a:Addr}{kvs:List (Key×V)}{k:Key}{v:V}(e:H a=some (.dK kvs))(hl:kvs.length<sizeLine):mO H a (kV k) v (upd H a (.dK (putK kvs k v))):=.inl ⟨kvs,k,e,rfl,hl,rfl⟩
theorem mO.t{H:Hp}{a b:Addr}{kvs:List (List Key×V)}{k:List Key}{v:V}(e:H a=some (.dT kvs))(eb:H b=some (.tup (k.map kV)))(hl:kvs.length<sizeLine):
  mO H a (.ref b) v (upd H a (.dT (putK kvs k v))):=.inr ⟨kvs,k,b,e,rfl,eb,hl,rfl⟩
section
variable {X:Cx} {pins:List (Addr×Obj)} {σ:St} {H:Hp} {s:Shared} {a:Addr} {y v:V} {u r:Value} {o:Option V} {A:Around} {E:Value->Shared->Prop}
theorem bv.big(I:bv X pins σ H s):sysModules<s.heap.objs.size:=by
 have h:mainGlobals<s.heap.objs.size:=(I.mod.glob.keeps I.bk).lt;exact Nat.lt_trans (by decide) h
theorem Bh{Q:Value->Shared->Prop}(hu:A.units+1<cLine)(I:bv X pins σ H s)(g:iV H a y (some v))(ry:RelV y u)(h:∀w' s',bv X pins σ H s'->RelV v w'->Q w' s'):
  wpAny (model X.prog X.w) A (getItem (.ref a) u) Q E s:=by
 rcases g with ⟨kvs,k,e,ey,l⟩ | ⟨kvs,k,b,e,ey,eb,l⟩
 ·subst ey;obtain⟨z,hd,vs,rel,dd⟩:=tU I.hok e;obtain⟨w',hw,rw'⟩:=qw.some_of (v:=v) (o:=valueAt vs k) (by rw[l];exact rel.val k);exact wpAny_getItem_of (tJ ry) dd.mapOf hw (h w' _ (I.tok _) rw')
 ·subst ey;cases (show u=Value.ref b from ry);obtain⟨z,hd,xs,rel,dd⟩:=tT I.hok e;obtain⟨w',hw,rw'⟩:=qw.some_of (v:=v) (o:=(atKey xs k).map (·.2)) (by rw[l];exact rel.val k);obtain⟨p,hp,hp2⟩:=cC.mp hw;refine wpAny_getItem_heap (Qk hu) (qo I.hok eb) dd hp ?_;rw[hp2];exact h w' _ (I.tok _) rw'
theorem M6{Q:Value->Shared->Prop}(hu:A.units+1<cLine)(I:bv X pins σ H s)(g:iV H a y o)(ry:RelV y u)(h:∀s',bv X pins σ H s'->Q (.bool o.isSome) s'):
  wpAny (model X.prog X.w) A (compareOp .In u (.ref a)) Q E s:=by
 rcases g with ⟨kvs,k,e,ey,l⟩ | ⟨kvs,k,b,e,ey,eb,l⟩
 ·subst ey;obtain⟨z,hd,vs,rel,dd⟩:=tU I.hok e;refine wpAny_in_of (tJ ry) hd dd.mapOf ?_;rw[<-(rel.val k).isSome_eq,<-l];exact h _ (I.tok _)
 ·subst ey;cases (show u=Value.ref b from ry);obtain⟨z,hd,xs,rel,dd⟩:=tT I.hok e;refine wpAny_in_heap (Qk hu) (qo I.hok eb) hd dd ?_;have q:=(rel.val k).isSome_eq;rw[lF] at q;rw[<-q,<-l];exact h _ (I.tok _)
theorem Gn{Q:Value->Shared->Prop}(hu:A.units+1<cLine)(I:bv X pins σ H s)(g:iV H a y o)(ry:RelV y u)(h:∀s',bv X pins σ H s'->Q (.bool (!o.isSome)) s'):
  wpAny (model X.prog X.w) A (compareOp .NotIn u (.ref a)) Q E s:=by
 rcases g with ⟨kvs,k,e,ey,l⟩ | ⟨kvs,k,b,e,ey,eb,l⟩
 ·subst ey;obtain⟨z,hd,vs,rel,dd⟩:=tU I.hok e;refine wpAny_notIn_of (tJ ry) hd dd.mapOf ?_;rw[<-(rel.val k).isSome_eq,<-l];exact h _ (I.tok _)
 ·subst ey;cases (show u=Value.ref b from ry);obtain⟨z,hd,xs,rel,dd⟩:=tT I.hok e;refine wpAny_notIn_heap (Qk hu) (qo I.hok eb) hd dd ?_;have q:=(rel.val k).isSome_eq;rw[lF] at q;rw[<-q,<-l];exact h _ (I.tok _)
theorem vx{h':Heap}{t':Nat}{ob:HO}(I:bv X pins σ H s)(mu:Lm (H a))(hs:Heap.SameBut a s.heap h')(he:∃q,h'.get? a=some q)(new:ck X.prog X.w (upd H a ob) h' a ob):
  bv X pins σ (upd H a ob) { s with heap:=h',toks:=t' }:=
 I.write (x:=a) (e:=a) mu (.inl rfl) (λb q hb z=>(hs.2 b hb).trans z) he new
theorem Ed{P:Program}{w:World}{H':Hp}{h':Heap}{kvs:List (Key×V)}{vs:List (Key×Value)}(z:kvs.length<=sizeLine)(hd:(a==sysModules)=false)(rel:KV kvs vs)(dd:h'.DictOf (fI P w) a vs):
  ck P w H' h' a (.dK kvs):=⟨z,hd,vs,rel,dd⟩
theorem Bg{H':Hp}{Q:Unit->Shared->Prop}(hu:A.units+1<cLine)(I:bv X pins σ H s)(g:mO H a y v H')(ry:RelV y u)(rv:RelV v r)(h:∀s',bv X pins σ H' s'->Q () s'):
  wpAny (model X.prog X.w) A (setItem (.ref a) u r) Q E s:=by
 rcases g with ⟨kvs,k,e,ey,l,eH⟩ | ⟨kvs,k,b,e,ey,eb,l,eH⟩
 ·subst ey eH;obtain⟨z,hd,vs,rel,dd⟩:=Hm I.hok e;have hz:vs.length<=sizeLine:=by rw[<-rel.length];exact z
  have hl:(putK kvs k v).length<=sizeLine:=by have:=eE kvs k v;lia
  refine wpAny_setItem_pairs (hsz:=hz) (tJ ry) dd λh' dd' hs=>h _ ?_;have he:∃q,h'.get? a=some q:=let ⟨q,_,_,hq,_⟩:=dd';⟨q,hq⟩;exact vx I (by rw[e];exact True.intro) hs he (Ed hl hd (rel.put k rv) dd')
 ·subst ey eH;cases (show u=Value.ref b from ry);obtain⟨z,hd,xs,rel,dd⟩:=Lg I.hok e;have hz:xs.length<=sizeLine:=by rw[<-au rel];exact z
  have hl:(putK kvs k v).length<=sizeLine:=by have:=eE kvs k v;lia
  refine wpAny_setItem_heap (hsz:=hz) (Qk hu) (qo I.hok eb) dd λh' dd' hs=>h _ ?_;obtain⟨q,es,ep,hq,h2,h3,h4,_,h5⟩:=dd';refine vx I (by rw[e];exact True.intro) hs ⟨q,hq⟩ ⟨hl,hd,_,(rel.put k eb rv).keeps λc ys ec=>?_,q,es,ep,hq,h2,h3,h4,h5⟩;rw[aO (EE ec e (λz=>nomatch z))];exact ec
end
def KQ(i:Expr):Prop:=∀ov iv,subscripted i false ov iv=operate [ov,iv] (getItem ov iv)
theorem FL{prog:Program}{w:World}{A:Around}{E:Value->Shared->Prop}{s:Shared}{env:Env}{value slice:Expr}{pos:Pos}{T id:String}{Q:Value->Shared->Prop}
  (hl:typeLookup (.type T) "__getitem__"=pure (some (.builtin id))) (hs:KQ slice)
  (h:wpAny (model prog w) A (eval value env) (λo s₁=>wpAny (model prog w) A (eval slice env) (λi s₂=>s₂.TypeIs o T/\wpAny (model prog w) A (getItem o i) Q E s₂) E s₁) E s) :
  wpAny (model prog w) A (eval (.Subscript value slice pos) env) Q E s:=by
 refine Subscript_ (Q8 h (λo s₁ h₁=>Q8 h₁ (λi s₂ h₂=>?_) λ_ _ x=>x) λ_ _ x=>x);obtain⟨hT,h₂⟩:=h₂;unfold subscriptTail;refine wpAny_bind ?_;rw[getitemInPython_of_ne hT.not_modules];refine wpAny_bind (wpAny_specialOf hT hl ?_);have fin:wpAny (model prog w) A (subscripted slice false o i) (λr s₃=>wpAny (model prog w) A (letTemporaryGo value o r>>=λ_=>pure r) Q E s₃) E s₂:=by
  rw[hs o i];exact wpAny_operating (Q8 h₂ (λr s₃ h₃=>wpAny_bind (wpAny_letTemporaryGo (wpAny_pure h₃))) λ_ _ x=>x)
 first
  | exact wpAny_pure (wpAny_bind fin)
  | exact wpAny_bind (wpAny_pure (wpAny_bind fin))
  | exact wpAny_bind fin
theorem xZ {X:Cx} {pins:List (Addr×Obj)} {σ:St} {H:Hp} {s:Shared} {a:Addr} {y:V} {o:Option V} (I:bv X pins σ H s) (g:iV H a y o):s.TypeIs (.ref a) "dict":=by
 rcases g with ⟨kvs,k,e,_,_⟩ | ⟨kvs,k,b,e,_,_,_⟩
 ·obtain⟨_,_,vs,_,dd⟩:=tU I.hok e;exact dd.typeIs
 ·obtain⟨_,_,xs,_,dd⟩:=tT I.hok e;exact dd.typeIs
def Cm(td ty:TE):TE:=λσ H Q=>td σ H λx H1=>ty σ H1 λy H2=>∃a v,x=.ref a/\iV H2 a y (some v)/\Q v H2
def FK(ty td:TE):TE:=λσ H Q=>ty σ H λy H1=>td σ H1 λx H2=>∃a o,x=.ref a/\iV H2 a y o/\Q (.bl o.isSome) H2
def rW(ty td:TE):TE:=λσ H Q=>ty σ H λy H1=>td σ H1 λx H2=>∃a o,x=.ref a/\iV H2 a y o/\Q (.bl (!o.isSome)) H2
def DM(td ty tv:TE):TS:=λD σ H=>tv σ H λv H1=>td σ H1 λx H2=>ty σ H2 λy H3=>∃a H4,x=.ref a/\mO H3 a y v H4/\D.nx σ H4
section
variable {X:Cx} {o i value:Expr} {pos pos':Pos} {td ty tv:TE}
theorem Fz(hu:X.A.units+1<cLine)(ho:PE X o td)(hi:PE X i ty)(hs:KQ i):PE X (.Subscript o i pos) (Cm td ty):=by
 intro pins s σ H Q I h;refine FL PySem.F.slot_dict_getitem.lookup hs (eS (ho pins s σ H _ I h) λu s1 ⟨x,H1,I1,rx,q1⟩=>eS (hi pins s1 σ H1 _ I1 q1) λiv s2 ⟨y,H2,I2,ry,a,v,ex,g,q2⟩=>?_);subst ex;obtain rfl:u=Value.ref a:=rx;exact⟨xZ I2 g,Bh hu I2 g ry λw' s3 I3 rw'=>⟨v,H2,I3,rw',q2⟩⟩
theorem J3(hu:X.A.units+1<cLine)(hi:PE X i ty)(ho:PE X o td):PC X .In i o (FK ty td):=by
 intro pins s σ H Q I h;refine eS (hi pins s σ H _ I h) λiv s1 ⟨y,H1,I1,ry,q1⟩=>eS (ho pins s1 σ H1 _ I1 q1) λu s2 ⟨x,H2,I2,rx,a,ov,ex,g,q2⟩=>?_;subst ex;obtain rfl:u=Value.ref a:=rx;exact M6 hu I2 g ry λs3 I3=>⟨.bl ov.isSome,H2,I3,rfl,q2⟩
theorem BP(hu:X.A.units+1<cLine)(hi:PE X i ty)(ho:PE X o td):PC X .NotIn i o (rW ty td):=by
 intro pins s σ H Q I h;refine eS (hi pins s σ H _ I h) λiv s1 ⟨y,H1,I1,ry,q1⟩=>eS (ho pins s1 σ H1 _ I1 q1) λu s2 ⟨x,H2,I2,rx,a,ov,ex,g,q2⟩=>?_;subst ex;obtain rfl:u=Value.ref a:=rx;exact Gn hu I2 g ry λs3 I3=>⟨.bl (!ov.isSome),H2,I3,rfl,q2⟩
theorem Fk(hu:X.A.units+1<cLine)(ho:PE X o td)(hi:PE X i ty)(hv:PE X value tv)(hs:swapsWith value (some (.Subscript o i pos')) pos.line X.env=pure false):
  PS X (.Assign [.Subscript o i pos'] value pos) (DM td ty tv):=by
 intro pins s σ H D I h;refine wpAny_Assign_Subscript (eS (hv pins s σ H _ I h) λr s1 ⟨v,H1,I1,rv,q1⟩=>eS (ho pins s1 σ H1 _ I1 q1) λu s2 ⟨x,H2,I2,rx,q2⟩=>eS (hi pins s2 σ H2 _ I2 q2) λiv s3 ⟨y,H3,I3,ry,a,H4,ex,g,q3⟩=>?_) hs;subst ex;obtain rfl:u=Value.ref a:=rx;exact Bg hu I3 g ry rv λs4 I4=>⟨σ,H4,I4,q3⟩
end
theorem xY {P:Program} {w:World} {H:Hp} (h:Heap) (hb:sysModules<h.objs.size):ck P w H (h.push { cls:=.type "dict",data:=.dict #[] }) h.objs.size (.dK []):=
 ⟨ac _,beq_eq_false_iff_ne.mpr (iw (bC hb)),[],.nil,Heap.DictOf.new h⟩
theorem Ec {P:Program} {w:World} {H:Hp} (h:Heap) (hb:sysModules<h.objs.size):ck P w H (h.push { cls:=.type "dict",data:=.dict #[] }) h.objs.size (.dT []):=
 ⟨ac _,beq_eq_false_iff_ne.mpr (iw (bC hb)),[],.nil,_,#[],0,aQ _ rfl,⟨rfl,rfl,rfl⟩,rfl,rfl,oC⟩
def yV:TE:=λ_ H Q=>∀p,H p=none->Q (.ref p) (upd H p (.dK []))
def yU:TE:=λ_ H Q=>∀p,H p=none->Q (.ref p) (upd H p (.dT []))
section
variable {X:Cx} {pos:Pos}
theorem Dm:PE X (.Dict [] [] pos) yV:=λpins s σ H Q I h=>
 wpAny_Dict_empty ⟨.ref s.heap.objs.size,_,I.laid (a:=s.heap.objs.size) (o:=.dK []) (t':=s.toks) (λ_ _ q=>aD _ q) (aH _) (xY s.heap I.big),rfl,h _ (I.hok.fresh (aH _))⟩
theorem Dl:PE X (.Dict [] [] pos) yU:=λpins s σ H Q I h=>
 wpAny_Dict_empty ⟨.ref s.heap.objs.size,_,I.laid (a:=s.heap.objs.size) (o:=.dT []) (t':=s.toks) (λ_ _ q=>aD _ q) (aH _) (Ec s.heap I.big),rfl,h _ (I.hok.fresh (aH _))⟩
end
def pA:List (TE×TE)->St->Hp->(List (V×V)->Hp->Prop)->Prop
 | [],_,H,Q=>Q [] H
 | (tk,tv)::r,σ,H,Q=>tk σ H λx H1=>tv σ H1 λy H2=>pA r σ H2 λps H3=>Q ((x,y)::ps) H3
abbrev VV:List (V×V)->List (Value×Value)->Prop:=Paired λp q=>RelV p.1 q.1/\RelV p.2 q.2
def Lk(X:Cx)(pos:Pos)(keys:List (Option Expr))(values:List Expr)(trs:List (TE×TE)):Prop:=
 ∀(pins:List (Addr×Obj)) (s:Shared) (σ:St) (H:Hp) (Q:List (V×V)->Hp->Prop),bv X pins σ H s->pA trs σ H Q →
  wpAny (model X.prog X.w) X.A (evalPairs (pairTrees keys values X.env pos)) (λvs s'=>∃ps H',bv X pins σ H' s'/\VV ps vs/\Q ps H') X.xe s
theorem Fm{X:Cx}{pos:Pos}:Lk X pos [] [] []:=λpins s σ H Q I h=>pairTrees_nil_walk ⟨[],H,I,.nil,h⟩
theorem Dd{X:Cx}{pos:Pos}{k v:Expr}{ks:List (Option Expr)}{vs:List Expr}{tk tv:TE}{trs:List (TE×TE)}(hk:PE X k tk)(hv:PE X v tv)(hr:Lk X pos ks vs trs):
  Lk X pos (some k::ks) (v::vs) ((tk,tv)::trs):=λpins s σ H Q I h=>
 pairTrees_cons_walk (eS (hk pins s σ H _ I h) λu s1 ⟨x,H1,I1,rx,q1⟩=>eS (hv pins s1 σ H1 _ I1 q1) λw2 s2 ⟨y,H2,I2,ry,q2⟩=>
  eS (hr pins s2 σ H2 _ I2 q2) λws s3 ⟨ps,H3,I3,rel,q3⟩=>⟨(x,y)::ps,H3,I3,.cons ⟨rx,ry⟩ rel,q3⟩)
def pG(kvs more:List (Key×V)):List (Key×V):=more.foldl (λacc kv=>putK acc kv.1 kv.2) kvs
theorem KV.merge:∀{more:List (Key×V)} {rs:List (Key×Value)} {kvs:List (Key×V)} {vs:List (Key×Value)},KV more rs->KV kvs vs->KV (pG kvs more) (merged vs rs):=by
 intro more rs kvs vs r;unfold KV at r
 induction r generalizing kvs vs with
 | nil=>intro q;exact q
 | @cons p q ps qs h t ih=>
  intro r0;have e:KV (putK kvs p.1 p.2) (stored vs q.1 q.2):=by
   have:=r0.put p.1 h.2;rw[<-h.1];exact this
  exact ih e
theorem om:∀(more kvs:List (Key×V)),(pG kvs more).length<=kvs.length+more.length
 | [],kvs=>by show kvs.length<=kvs.length+0;lia
 | p::r,kvs=>by
  have h1:=om r (putK kvs p.1 p.2);have h2:=eE kvs p.1 p.2;show (pG (putK kvs p.1 p.2) r).length<=_;rw[cQ];lia
theorem tY{P:Program}{w:World}:∀{kvs:List (Key×V)} {ws:List (Value×Value)},VV (kvs.map λkv=>(kV kv.1,kv.2)) ws->∃rs,Carries (fI P w) ws rs/\KV kvs rs
 | [],_,r=>by rw[fM] at r;cases r;exact⟨[],True.intro,.nil⟩
 | p::kvs,_,r=>by
  rw[av] at r;cases r with
  | @cons a b as bs h t=>
   obtain⟨rs,c,q⟩:=tY (P:=P) (w:=w) t;obtain⟨b1,b2⟩:=b;exact⟨(p.1,b2)::rs,⟨tJ h.1,rfl,c⟩,.cons ⟨rfl,h.2⟩ q⟩
def Ck(trs:List (TE×TE)):TE:=λσ H Q=>∀p,H p=none->pA trs σ (upd H p (.dK [])) λps H2=>H2 p=some (.dK [])/\∃kvs:List (Key×V),ps=kvs.map (λkv=>(kV kv.1,kv.2))/\kvs.length<=15/\Q (.ref p) (upd H2 p (.dK (pG [] kvs)))
theorem Fy{X:Cx}{pos:Pos}{keys:List (Option Expr)}{values:List Expr}{trs:List (TE×TE)}(h:Lk X pos keys values trs)(hall:keys.all (·.isSome)=true)(hl:keys.length=values.length)(h0:keys≠[])
  (h15:keys.length<=15):PE X (.Dict keys values pos) (Ck trs):=by
 intro pins s σ H Q I q;have hn:=I.hok.fresh (aH s.heap.objs.size);have I1:=I.laid (a:=s.heap.objs.size) (o:=.dK []) (h':=s.heap.push { cls:=.type "dict",data:=.dict #[] }) (t':=s.toks) (λ_ _ q=>aD _ q) (aH _) (xY s.heap I.big);refine wpAny_Dict_walk (knd:=fI X.prog X.w) hall hl h0 h15 (eS (h pins _ σ _ _ I1 (q _ hn)) λws s2 ⟨ps,H2,I2,rel,e,kvs,ep,lk,q2⟩=>?_);subst ep;obtain⟨rs,c,rk⟩:=tY (P:=X.prog) (w:=X.w) rel;obtain⟨z,hd,vs0,r0,dd⟩:=Hm I2.hok e;cases r0;refine⟨rs,c,dd,λh' dd' hs=>⟨.ref s.heap.objs.size,_,?_,rfl,q2⟩⟩;have hz:(pG [] kvs).length<=sizeLine:=by
  have h1:=om kvs [];rw[jz] at h1;rw[Qf];lia
 have he:∃q,h'.get? s.heap.objs.size=some q:=let ⟨q,_,_,hq,_⟩:=dd';⟨q,hq⟩;exact vx I2 (by rw[e];exact True.intro) hs he (Ed hz hd (rk.merge .nil) dd')
structure M2 (X:Cx) (o:Expr) (m:Str) (apos:Pos) (e f:Expr) (cpos:Pos):Prop where
 base:attributeBase o m X.env (eval o X.env)=eval o X.env
 few:((backTo cpos (starEach [e,f] X.env)).all (fun x=>!x.1)&&(backToKw cpos (keywordEach [] X.env)).all (fun x=>x.1.isSome)
  && decide (([e,f]:List Expr).length+([]:List Keyword).length+(if ([]:List Keyword).isEmpty then 0 else 1)<30))=true
 line:(apos.endLine==cpos.line)=true
 trees:backTo cpos (starEach [e,f] X.env)=[(false,eval e X.env),(false,eval f X.env)]
def Mf(H:Hp)(a:Addr):Prop:=(∃kvs,Rd H a (.dK kvs))\/∃kvs,Rd H a (.dT kvs)
theorem Js{X:Cx}{pins:List (Addr×Obj)}{σ:St}{H:Hp}{s:Shared}{a:Addr}(I:bv X pins σ H s)(d:Mf H a):
  s.TypeIs (.ref a) "dict"/\(∀b,Value.ref a=.ref b->∃ob,s.heap.get? b=some ob/\ob.dict=none)/\(a==sysModules)=false:=by
 rcases d with ⟨kvs,e⟩ | ⟨kvs,e⟩
 ·obtain⟨_,hd,vs,_,dd⟩:=tU I.hok e;refine⟨dd.typeIs,λb q=>?_,hd⟩;cases q;obtain⟨ob,_,_,h1,h2,_⟩:=dd;exact⟨ob,h1,h2.2.1⟩
 ·obtain⟨_,hd,xs,_,dd⟩:=tT I.hok e;refine⟨dd.typeIs,λb q=>?_,hd⟩;cases q;obtain⟨ob,_,_,h1,h2,_⟩:=dd;exact⟨ob,h1,h2.2.1⟩
section
variable {X:Cx} {pins:List (Addr×Obj)} {σ:St} {H:Hp} {s:Shared} {a:Addr} {y d:V} {u r:Value} {o:Option V} {A:Around} {E:Value->Shared->Prop}
theorem KD{Q:Value->Shared->Prop}(hu:A.units+1<cLine)(I:bv X pins σ H s)(g:iV H a y o)(ry:RelV y u)(rd:RelV d r)(h:∀w' s',bv X pins σ H s'->RelV (o.getD d) w'->Q w' s'):
  wpAny (model X.prog X.w) A (call (.builtin "dict.get") [.ref a,u,r]) Q E s:=by
 rcases g with ⟨kvs,k,e,ey,l⟩ | ⟨kvs,k,b,e,ey,eb,l⟩
 ·subst ey;obtain⟨z,hd,vs,rel,dd⟩:=tU I.hok e;refine call_meetsIn jL dd.typeIs md (mE _ _ _) (meets_dict_get_default (fI X.prog X.w) a (tJ ry) hd r) ⟨_,dd.mapOf,h _ _ (I.tok _) ?_⟩;rw[l];exact(rel.val k).getD rd
 ·subst ey;cases (show u=Value.ref b from ry);obtain⟨z,hd,xs,rel,dd⟩:=tT I.hok e;refine call_meetsIn jL dd.typeIs md (mE _ _ _) (meetsH_dict_get_default (tupleKind (fI X.prog X.w)) a b hd r) ⟨Qk hu,k,xs,qo I.hok eb,dd,h _ _ (I.tok _) ?_⟩;rw[l];exact(rel.val k).getD rd
end
def yY(td ty tx:TE):TE:=λσ H Q=>td σ H λx H1=>∃a,x=.ref a/\Mf H1 a/\ty σ H1 λy H2=>tx σ H2 λz H3=>∃o,iV H3 a y o/\Q (o.getD z) H3
section
variable {X:Cx} {o e f:Expr} {apos cpos:Pos} {td ty tx:TE}
theorem Dn (hu:X.A.units+1<cLine) (ho:PE X o td) (he:PE X e ty) (hf:PE X f tx) (m:M2 X o "get" apos e f cpos):PE X (.Call (.Attribute o "get" apos) [e,f] [] cpos) (yY td ty tx):=by
 intro pins s σ H Q I h;refine wpAny_Call_method m.base m.few m.line i8 jL PySem.F.type_dict_get (eS (ho pins s σ H _ I h) λu s1 ⟨x,H1,I1,rx,a,ex,d,q1⟩=>?_);subst ex;obtain rfl:u=Value.ref a:=rx;obtain⟨t1,t2,_⟩:=Js I1 d;refine⟨t1,t2,?_⟩;rw[m.trees];refine jE rfl (Calls.evalArgs_plain (gT (eS (he pins s1 σ H1 _ I1 q1) λiv s2 ⟨y,H2,I2,ry,q2⟩=>
  gT (eS (hf pins s2 σ H2 _ I2 q2) λfv s3 ⟨z,H3,I3,rz,ov,g,q3⟩=>jD ?_))))
 exact KD hu I3 g ry rz λw' s4 I4 rw'=>⟨_,H3,I4,rw',q3⟩
end
end L2
set_option maxHeartbeats 4000000
namespace L2
open PySem PySem.Spec PyProof.Rows
mutual
inductive Rep (K:RV) (H:Hp):V->PyData->Prop
 | non:Rep K H .non .none
 | bl (b:Bool):Rep K H (.bl b) (.bool b)
 | int (i:Int):Rep K H (.int i) (.int i)
 | str (x:Str):Rep K H (.str x) (.str x)
 | tup {a:Addr} {xs:List V} {ds:List PyData}:dD K H a xs->qK K H xs ds->Rep K H (.ref a) (.tuple ds)
 | lst {a:Addr} {xs:List V} {ds:List PyData}:bw K H a xs->qK K H xs ds->Rep K H (.ref a) (.list ds)
inductive qK (K:RV) (H:Hp):List V->List PyData->Prop
 | nil:qK K H [] []
 | cons {x:V} {xs:List V} {d:PyData} {ds:List PyData}:Rep K H x d->qK K H xs ds->qK K H (x::xs) (d::ds)
end
section
variable {X:Cx} {pins:List (Addr×Obj)} {σ:St} {H:Hp} {s:Shared}
mutual
theorem Rep.reads(I:bv X pins σ H s):∀{x:V} {d:PyData} {u:Value},Rep X.K H x d->RelV x u->∃as,Reads s.heap u d as
 | _,_,_,.non,r=>by cases r;exact⟨_,.none⟩
 | _,_,_,.bl b,r=>by cases r;exact⟨_,.bool b⟩
 | _,_,_,.int i,r=>by obtain⟨t,rfl⟩:=r;exact⟨_,.int i t⟩
 | _,_,_,.str x,r=>by obtain⟨t,rfl⟩:=r;exact⟨_,.str x t⟩
 | _,_,_,.tup h hl,r=>by
  cases r;obtain⟨its,vs,⟨o,e,c,n,dd⟩,_⟩:=I.tuple h;obtain⟨as,ra⟩:=qK.reads I hl vs;exact⟨_,.tuple e c dd (by simpa using ra)⟩
 | _,_,_,.lst h hl,r=>by
  cases r;obtain⟨its,vs,pl,_⟩:=I.list h;obtain⟨o,e,c,n,dd⟩:=pl.isList;obtain⟨as,ra⟩:=qK.reads I hl vs;exact⟨_,.list e c dd (by simpa using ra)⟩
theorem qK.reads(I:bv X pins σ H s):∀{xs:List V} {ds:List PyData} {us:List Value},qK X.K H xs ds->cV xs us->∃as,ReadsAll s.heap us ds as
 | _,_,_,.nil,.nil=>⟨_,.nil⟩
 | _,_,_,.cons h hl,.cons r rs=>by
  obtain⟨as,ra⟩:=Rep.reads I h r;obtain⟨bs,rb⟩:=qK.reads I hl rs;exact⟨_,.cons ra rb⟩
end
end
def yj(K:RV)(neg:Bool):R2:=λx y H Q=>∃d e,Rep K H x d/\Rep K H y e/\d.canLay0=true/\e.canLay0=true/\min d.depth e.depth<=60 ∧
 Q (.bl (if neg then !PyData.eqv d e else PyData.eqv d e)) H
section
variable {X:Cx}
theorem vh(hu:X.A.units+64<cLine):mf X (compareOp .Eq) (yj X.K false):=by
 intro pins s σ H x y v u Q I rx ry h;obtain⟨d,e,h1,h2,h3,h4,h5,q⟩:=h;obtain⟨as,ra⟩:=h1.reads I rx;obtain⟨bs,rb⟩:=h2.reads I ry;exact SeqAt.compareEq_reads ra rb h3 h4 (by lia) ⟨.bl _,H,I,rfl,q⟩
theorem yq(hu:X.A.units+64<cLine):mf X (compareOp .NotEq) (yj X.K true):=by
 intro pins s σ H x y v u Q I rx ry h;obtain⟨d,e,h1,h2,h3,h4,h5,q⟩:=h;obtain⟨as,ra⟩:=h1.reads I rx;obtain⟨bs,rb⟩:=h2.reads I ry;exact SeqAt.compareNe_reads ra rb h3 h4 (by lia) ⟨.bl _,H,I,rfl,q⟩
open Classical in
noncomputable def eqR (h:Heap) (d:PyData) (u:Value):Bool:=if z:∃e as,Reads h u e as/\e.canLay0=true then PyData.eqv z.choose d else false
theorem E9{h:Heap}{d e:PyData}{u:Value}{as:List Addr}(r:Reads h u e as)(c:e.canLay0=true):eqR h d u=PyData.eqv e d:=by
 have z:∃e as,Reads h u e as/\e.canLay0=true:=⟨e,as,r,c⟩
 unfold eqR;rw[dif_pos z];obtain⟨as',r',c'⟩:=z.choose_spec;rw[SeqAt.Reads.unique _ _ _ _ _ c' r' r]
theorem qJ{h:Heap}{d:PyData}:∀{us:List Value} {es:List PyData} {as:List Addr},ReadsAll h us es as->PyData.canLayAll0 es=true->us.any (eqR h d)=es.any λe=>PyData.eqv e d
 | _,_,_,.nil,_=>rfl
 | _,_,_,.cons r rs,c=>by
  have c':(PyData.canLay0 _&&PyData.canLayAll0 _)=true:=c;rw[aY] at c';rw[gf,gf,E9 r c'.1,qJ rs c'.2]
theorem qA{A:Around}{s:Shared}{d:PyData}{x:Value}{bs:List Addr}(rx:Reads s.heap x d bs)(cx:d.canLay0=true)(hu:A.units+d.depth<cLine):
  ∀{us:List Value} {es:List PyData} {as:List Addr},ReadsAll s.heap us es as->PyData.canLayAll0 es=true->∀u∈us,SeqAt.EqAt A s u x (eqR s.heap d u)
 | _,_,_,.nil,_=>λu hu=>nomatch hu
 | _,_,_,.cons r rs,c=>λu hm=>by
  have c':(PyData.canLay0 _&&PyData.canLayAll0 _)=true:=c;rw[aY] at c';rcases aK.mp hm with rfl | hm
  ·rw[E9 r c'.1];exact SeqAt.eqAt_reads _ _ A s _ _ _ _ r rx c'.1 cx (by lia)
  ·exact qA rx cx hu rs c'.2 u hm
def JA(K:RV)(neg:Bool):R2:=λx y H Q=>∃d es p xs,Rep K H x d/\y=.ref p/\(bw K H p xs\/dD K H p xs)/\qK K H xs es/\d.canLay0=true/\PyData.canLayAll0 es=true/\d.depth<=60 ∧
 Q (.bl (if neg then !(es.any λe=>PyData.eqv e d) else es.any λe=>PyData.eqv e d)) H
theorem Dw(hu:X.A.units+64<cLine):mf X (compareOp .In) (JA X.K false):=by
 intro pins s σ H x y v u Q I rx ry h;obtain⟨d,es,p,xs,h1,rfl,hq,h2,h3,h4,h5,q⟩:=h;cases ry;obtain⟨as,ra⟩:=h1.reads I rx;rcases hq with hq | hq
 ·obtain⟨its,r,pl,hz⟩:=I.list hq;obtain⟨bs,rb⟩:=h2.reads I r;refine SeqAt.in_listAt (eqR s.heap d) pl.isList (λz hz=>qA (A:=X.A.in1) ra h3 (by show X.A.units+1+d.depth<cLine;lia) rb h4 z (by simpa using hz)) ⟨.bl _,H,I,rfl,?_⟩;rw[show its.toArray.any (eqR s.heap d)=its.any (eqR s.heap d) by simp,qJ rb h4];exact q
 ·obtain⟨its,r,pl,hz⟩:=I.tuple hq;obtain⟨bs,rb⟩:=h2.reads I r;refine SeqAt.in_tupleAt (eqR s.heap d) pl (λz hz=>qA (A:=X.A.in1) ra h3 (by show X.A.units+1+d.depth<cLine;lia) rb h4 z (by simpa using hz)) ⟨.bl _,H,I,rfl,?_⟩;rw[show its.toArray.any (eqR s.heap d)=its.any (eqR s.heap d) by simp,qJ rb h4];exact q
theorem BQ(hu:X.A.units+64<cLine):mf X (compareOp .NotIn) (JA X.K true):=by
 intro pins s σ H x y v u Q I rx ry h;obtain⟨d,es,p,xs,h1,rfl,hq,h2,h3,h4,h5,q⟩:=h;cases ry;obtain⟨as,ra⟩:=h1.reads I rx;rcases hq with hq | hq
 ·obtain⟨its,r,pl,hz⟩:=I.list hq;obtain⟨bs,rb⟩:=h2.reads I r;refine SeqAt.notIn_listAt (eqR s.heap d) pl.isList (λz hz=>qA (A:=X.A.in1) ra h3 (by show X.A.units+1+d.depth<cLine;lia) rb h4 z (by simpa using hz)) ⟨.bl _,H,I,rfl,?_⟩;rw[show its.toArray.any (eqR s.heap d)=its.any (eqR s.heap d) by simp,qJ rb h4];exact q
 ·obtain⟨its,r,pl,hz⟩:=I.tuple hq;obtain⟨bs,rb⟩:=h2.reads I r;refine SeqAt.notIn_tupleAt (eqR s.heap d) pl (λz hz=>qA (A:=X.A.in1) ra h3 (by show X.A.units+1+d.depth<cLine;lia) rb h4 z (by simpa using hz)) ⟨.bl _,H,I,rfl,?_⟩;rw[show its.toArray.any (eqR s.heap d)=its.any (eqR s.heap d) by simp,qJ rb h4];exact q
def Fa(K:RV):List V->Hp->VK->Prop:=λxs H Q=>∃x T t b,xs=[x,.ty T]/\pO K H x t/\PySem.W.kitOne K t (.type T)=some b/\Q (.bl b) H
theorem ir:iP X (.builtin "isinstance") (Fa X.K):=by
 intro pins s σ H xs us Q I r h;obtain⟨x,T,t,b,rfl,ty,e,q⟩:=h;obtain⟨u,w,rfl,rx,rw'⟩:=cV.two r;cases (show w=Value.type T from rw');exact B6 I rx ty e λtk=>⟨.bl b,H,I.tok tk,rfl,q⟩
def vO(r r' r2:R2)(ta tb tc td:TE):TE:=λσ H Q=>ta σ H λx H1=>tb σ H1 λy H2=>r x y H2 λz H3=>∃k,z=.bl k ∧
 (if k=true then tc σ H3 λw' H4=>r' y w' H4 λz2 H5=>∃k2,z2=.bl k2/\(if k2=true then td σ H5 λe H6=>r2 w' e H6 Q else Q (.bl false) H5) else Q (.bl false) H3)
theorem BI{a b c d:Expr}{ta tb tc td:TE}{pos:Pos}{op op' op2:CmpOp}{r r' r2:R2}(ho:mf X (compareOp op) r)(ho':mf X (compareOp op') r')(ho2:mf X (compareOp op2) r2)(ha:PE X a ta)(hb:PE X b tb)(hc:PE X c tc)(hd:PE X d td)
  (hm:lastMarks [op,op',op2] [b,c,d]=false:=by with_unfolding_all rfl):PT X (.Compare a [op,op',op2] [b,c,d] pos) (sM (vO r r' r2 ta tb tc td)):=by
 intro pins s σ H Q I h;refine isTrue_chain (eS (ha pins s σ H _ I h) λv s1 ⟨x,H1,I1,r1,q1⟩=>test_link (eS (hb pins s1 σ H1 _ I1 q1) λu s2 ⟨y,H2,I2,r2',q2⟩=>
  eS (ho pins s2 σ H2 x y v u _ I2 r1 r2' q2) λe s3 ⟨z,H3,I3,r3,k,ek,q3⟩=>?_)) hm
 subst ek;cases r3;refine Q9 ?_;cases k with
 | false=>
  obtain⟨k',e',q'⟩:=q3;cases e';exact ite_ff ⟨H3,I3,q'⟩
 | true=>
  refine ite_tt (test_link (eS (hc pins s3 σ H3 _ I3 q3) λw' s4 ⟨z',H4,I4,r4,q4⟩=>eS (ho' pins s4 σ H4 y z' u w' _ I4 r2' r4 q4) λd' s5 ⟨z2,H5,I5,r5,k2,e2,q5⟩=>?_));subst e2;cases r5;refine Q9 ?_;cases k2 with
  | false=>
   obtain⟨k',e',q'⟩:=q5;cases e';exact ite_ff ⟨H5,I5,q'⟩
  | true=>
   refine ite_tt (test_last (eS (hd pins s5 σ H5 _ I5 q5) λw2 s6 ⟨z6,H6,I6,r6,q6⟩=>eS (ho2 pins s6 σ H6 z' z6 w' w2 _ I6 r4 r6 q6) λd7 s7 ⟨z7,H7,I7,r7,k7,e7,q7⟩=>?_));subst e7;cases r7;exact Q9 ⟨H7,I7,q7⟩
def gp(lo:Int)(n:Nat):List Int:=(List.range n).map λ(i:Nat)=>lo+(i:Int)
theorem zw:∀{xs:List V} {us:List Value},xs.length=us.length->(∀(j:Nat) x u,xs[j]? = some x->us[j]? = some u->RelV x u)->cV xs us
 | [],[],_,_=>.nil
 | [],_::_,h,_=>by simp at h
 | _::_,[],h,_=>by simp at h
 | x::xs,u::us,h,f=>.cons (f 0 x u rfl rfl) (zw (by simpa using h) λj a b ha hb=>f (j+1) a b (by simpa using ha) (by simpa using hb))
theorem zK{lo:Int}{n:Nat}{acc:Array Value}(h:ItemsOf (λi v=>∃t,v=.int (lo+i*1) t) acc n):cV ((gp lo n).map V.int) acc.toList:=by
 refine zw (by simp[gp,h.1]) λj x u hx hu=>?_;obtain⟨t,rfl⟩:=h.2 j u (by simpa using hu);have hj:j<n:=by
  have:=(aF.mp hx).1;simpa [gp] using this
 have e:((gp lo n).map V.int)[j]? = some (.int (lo+(j:Int))):=by simp[gp,hj]
 rw[e] at hx;cases hx;exact⟨t,by simp⟩
theorem Bl:iP X (.type "range") (λxs H Q=>∃i j:Int,xs=[.int i,.int j]/\∀p,H p=none->Q (.ref p) (upd H p (.rng i j))):=by
 intro pins s σ H xs us Q I r h;obtain⟨i,j,rfl,q⟩:=h;obtain⟨u,u',rfl,⟨t,rfl⟩,t',rfl⟩:=cV.two r;exact call_range_2 ⟨.ref s.heap.objs.size,_,I.laid (λb o e=>aD _ e) (aH _) (show ck X.prog X.w _ _ _ (.rng i j) from ⟨_,_,_,aQ _ rfl⟩),rfl,q _ (I.hok.fresh (aH _))⟩
theorem uM (hc:X.calm=true):iP X (.type "list") (λxs H Q=>∃p lo hi,xs=[.ref p]/\H p=some (.rng lo hi)/\(-(2 ^ 30)<=lo/\lo<2 ^ 30/\-(2 ^ 30)<=hi/\hi<2 ^ 30/\(hi-lo).toNat<=1000) ∧
  ∀l,H l=none->Q (.ref l) (upd H l (.lst ((gp lo (hi-lo).toNat).map V.int)))):=by
 intro pins s σ H xs us Q I r h;obtain⟨p,lo,hi,rfl,hp,⟨b1,b2,b3,b4,b5⟩,q⟩:=h;obtain⟨u,rfl,rx⟩:=Qg r;cases rx;obtain⟨t,u,v,e⟩:=(show ck X.prog X.w H s.heap p (.rng lo hi) from I.hok p _ hp)
 have hn:Builtin.Range.rangeSize lo hi 1=(((hi-lo).toNat:Nat):Int):=by rw[rangeSize_one];split<;>lia
 refine call_list_range (n:=(hi-lo).toNat) (I.ok.hd hc) (show IsRange s.heap p lo hi 1 t u v from e) (small_one (by lia) (by lia) (by lia) (by lia)) hn (by lia) λh' tk acc' c' kp e' hit=>?_;have hv:=zK hit;have hz:((gp lo (hi-lo).toNat).map V.int).length<=sizeLine:=by
  rw[aA,gp,aA,cy];exact ba (bQ b5)
 exact⟨.ref s.heap.objs.size,_,I.laid kp (aH _) (show ck X.prog X.w _ h' _ (.lst _) from ⟨hz,acc'.toList,c',hv,by simpa using e'⟩),rfl,q _ (I.hok.fresh (aH _))⟩
end
structure Fn (K:RV) (mg:Str->Option Value) (x:Str) (st:Stmt) (ps:List Str):Prop where
 ex:∃ f fd,Er K x x st f fd/\mg x=some (.ref f)/\Binds K fd ps []
structure ef (P:Program) (w:World) (K:RV) (mg:Str->Option Value) (base:Heap) (k:Nat) (x:Str) (st:Stmt) (ps:List Str) (sp:Sp):Prop where
 ex:∃ f fd,Er K x x st f fd/\mg x=some (.ref f)/\Binds K fd ps []/\qx P w K mg base Bs k f fd ps sp
theorem Fn.mk'{P:Program}{w:World}{K:RV}{mg:Str->Option Value}{base:Heap}{k:Nat}{x:Str}{st:Stmt}{ps:List Str}{sp:Sp}(E:Fn K mg x st ps)
  (h:∀f fd,Er K x x st f fd->qx P w K mg base Bs k f fd ps sp):ef P w K mg base k x st ps sp:=by
 obtain⟨f,fd,F,m,b⟩:=E.ex;exact⟨f,fd,F,m,b,h f fd F⟩
theorem ar.new{H H2:Hp}{l:Addr}{o:HO}(s:ar H H2)(h:H l=none):ar H (upd H2 l o):=λb u e=>by rw[aO (am e h)];exact s b u e
theorem n8{α β:Type}{R:α->β->Prop}:∀{xs:List α} {ys:List β} {x:α} {y:β},Paired R xs ys->R x y->Paired R (xs++[x]) (ys++[y])
 | _,_,_,_,.nil,h=>.cons h .nil
 | _,_,_,_,.cons r t,h=>.cons r (n8 t h)
theorem gq{α β:Type}{R S:α->β->Prop}:∀{xs:List α} {ys:List β},Paired R xs ys->(∀a b,R a b->S a b)->Paired S xs ys
 | _,_,.nil,_=>.nil
 | _,_,.cons r t,f=>.cons (f _ _ r) (gq t f)
theorem gu{α β:Type}{R:α->β->Prop}:∀{xs:List α} {ys:List β} {i:Nat} {x:α},Paired R xs ys->xs[i]? = some x->∃y,ys[i]? = some y/\R x y
 | _,_,_,_,.nil,e=>by simp at e
 | _,_,0,_,.cons r _,e=>by simp at e;subst e;exact⟨_,rfl,r⟩
 | _,_,i+1,x,.cons _ t,e=>by
  obtain⟨y,h1,h2⟩:=gu (i:=i) (x:=x) t (by simpa using e);exact⟨y,by simpa using h1,h2⟩
theorem Dk {X:Cx} {x:Str} {i:Int} {pos:Pos} (hg:Gl X x) (hm:∃t,X.mg x=some (.int i t)) (hd:(x==("__debug__":Str))=false:=by decide):PE X (.Name x pos) (tC (.int i)):=
 let ⟨t,h⟩:=hm
 ve hg h ⟨t,rfl⟩ hd
theorem Do{X:Cx}{k:Nat}{x:Str}{st:Stmt}{ps:List Str}{sp:Sp}{e:Expr}{es:List Expr}{t:TA}{p pos:Pos}(D:ef X.prog X.w X.K X.mg X.base k x st ps sp)(hr:iU k X.A)(hg:Gl X x)(ha:PA X (e::es) t)
  (hdb:(x==("__debug__":Str))=false:=by decide) (he:starEach (e::es) X.env=(false,eval e X.env)::starEach es X.env:=by rfl) (hpl:(backTo pos (starEach es X.env)).any (·.1)=false:=by rfl) :
  PE X (.Call (.Name x p) (e::es) [] pos) (AC sp [] E0 t):=by
 obtain⟨f,fd,F,m,b,G⟩:=D.ex;exact GD G hr hg m F.kp b .nil L7 ha hdb he hpl
section
variable {σ:St} {H:Hp} {Q:VK} {D:Ends}
theorem Hu{v:V}:yO 0 (some v::σ) H Q=Q v H:=propext ⟨λ⟨_,e,h⟩=>by cases e;exact h,λh=>⟨v,rfl,h⟩⟩
theorem Bx{i:Nat}{x:Option V}:yO (i+1) (x::σ) H Q=yO i σ H Q:=rfl
theorem Ml{v:V}:tC v σ H Q=Q v H:=rfl
theorem Kf{r:R2}{ta tb:TE}:Ce r ta tb σ H Q=ta σ H λx H1=>tb σ H1 λy H2=>r x y H2 Q:=rfl
theorem K8{r:V->Hp->VK->Prop}{ta:TE}:MM r ta σ H Q=ta σ H λx H1=>r x H1 Q:=rfl
theorem MK{g:Int->Int->V}{i j:Int}:Hh g (.int i) (.int j) H Q=Q (g i j) H:=propext ⟨λ⟨_,_,e,e',h⟩=>by cases e;cases e';exact h,λh=>⟨i,j,rfl,rfl,h⟩⟩
theorem Mx{C:Int->Int->Prop}{g:Int->Int->V}{i j:Int}:rI C g (.int i) (.int j) H Q=(C i j/\Q (g i j) H):=propext ⟨λ⟨_,_,e,e',h⟩=>by cases e;cases e';exact h,λh=>⟨i,j,rfl,rfl,h⟩⟩
theorem Mw{g:Int->V}{i:Int}:rU g (.int i) H Q=Q (g i) H:=propext ⟨λ⟨_,e,h⟩=>by cases e;exact h,λh=>⟨i,rfl,h⟩⟩
theorem Kw{i j:Int}:Lz (.int i) (.int j) H Q=Q (.bl (decide (i=j))) H:=propext ⟨λ⟨_,h⟩=>by simpa using h,λh=>⟨rfl,by simpa using h⟩⟩
theorem Kh{i j:Int}:Ly (.int i) (.int j) H Q=Q (.bl (!decide (i=j))) H:=propext ⟨λ⟨_,h⟩=>by simpa using h,λh=>⟨rfl,by simpa using h⟩⟩
theorem HS{i j:Str}:Lz (.str i) (.str j) H Q=Q (.bl (decide (i=j))) H:=propext ⟨λ⟨_,h⟩=>by simpa using h,λh=>⟨rfl,by simpa using h⟩⟩
theorem Kg{i j:Str}:Ly (.str i) (.str j) H Q=Q (.bl (!decide (i=j))) H:=propext ⟨λ⟨_,h⟩=>by simpa using h,λh=>⟨rfl,by simpa using h⟩⟩
theorem Kv{b:Bool}{q:Bool->Prop}:(∃k,V.bl b=.bl k/\q k)=q b:=propext ⟨λ⟨_,e,h⟩=>by cases e;exact h,λh=>⟨b,rfl,h⟩⟩
theorem Ku{b:Int}{q:Int->Prop}:(∃k,V.int b=.int k/\q k)=q b:=propext ⟨λ⟨_,e,h⟩=>by cases e;exact h,λh=>⟨b,rfl,h⟩⟩
theorem IQ{i j:Str}{q:Str->Str->Prop}:(∃a b,V.str i=.str a/\V.str j=.str b/\q a b)=q i j:=
 propext ⟨λ⟨_,_,e,e',h⟩=>by cases e;cases e';exact h,λh=>⟨i,j,rfl,rfl,h⟩⟩
theorem Mm{CX:Eo}{P:Program}{w:World}{K:RV}{mg:Str->Option Value}{base:Heap}{N:List Str}{qual:Str}{scope:Scope}{f:Addr}{cd:Value}{A:Around}{outer:List Env}{s:Shared}{H:Hp}{E:XK}:(xc CX P w K mg base N qual scope f cd A outer s H E).K=K:=rfl
theorem HX{i:Nat}{te:TE}{ti:Me}:MS i te ti D σ H=yO i σ H λx _=>te σ H λy H1=>ti x y H1 λz H2=>D.nx (σ.set i (some z)) H2:=rfl
theorem Kt{a:Addr}{q:Addr->Prop}:(∃b,V.ref a=.ref b/\q b)=q a:=propext ⟨λ⟨_,e,h⟩=>by cases e;exact h,λh=>⟨a,rfl,h⟩⟩
theorem ID{α:Type}{a:Addr}{q:Addr->α->Prop}:(∃b y,V.ref a=.ref b/\q b y)=∃y,q a y:=propext ⟨λ⟨_,y,e,h⟩=>by cases e;exact⟨y,h⟩,λ⟨y,h⟩=>⟨a,y,rfl,h⟩⟩
theorem IJ{i:Int}{q:Int->Prop}:(∃j,[V.int i]=[.int j]/\q j)=q i:=propext ⟨λ⟨_,e,h⟩=>by cases e;exact h,λh=>⟨i,rfl,h⟩⟩
theorem IH{i:Str}{q:Str->Prop}:(∃j,[V.str i]=[.str j]/\q j)=q i:=propext ⟨λ⟨_,e,h⟩=>by cases e;exact h,λh=>⟨i,rfl,h⟩⟩
theorem II{α:Type}{i:Addr}{q:Addr->α->Prop}:(∃j y,[V.ref i]=[.ref j]/\q j y)=∃y,q i y:=propext ⟨λ⟨_,y,e,h⟩=>by cases e;exact⟨y,h⟩,λ⟨y,h⟩=>⟨i,y,rfl,h⟩⟩
theorem IF{α β:Type}{i:Addr}{q:Addr->α->β->Prop}:(∃j y z,[V.ref i]=[.ref j]/\q j y z)=∃y z,q i y z:=propext ⟨λ⟨_,y,z,e,h⟩=>by cases e;exact⟨y,z,h⟩,λ⟨y,z,h⟩=>⟨i,y,z,rfl,h⟩⟩
theorem IG{i j:Int}{q:Int->Int->Prop}:(∃a b,[V.int i,V.int j]=[.int a,.int b]/\q a b)=q i j:=propext ⟨λ⟨_,_,e,h⟩=>by cases e;exact h,λh=>⟨i,j,rfl,h⟩⟩
theorem Hy{b:Bool}{q:Int->Prop}{r:Bool->Prop}:((∃i,[V.bl b]=[.int i]/\q i)\/∃k,[V.bl b]=[.bl k]/\r k)=r b:=
 propext ⟨λh=>by rcases h with ⟨_,e,_⟩ | ⟨_,e,h⟩<;>cases e;exact h,λh=>.inr ⟨b,rfl,h⟩⟩
theorem Kl{z:Str}{i:Int}:Iy (.str z) (.int i) H Q=(z.length<=sizeLine/\∃c,nG z.cps.toList i=some c/\Q (.str ⟨#[c]⟩) H):=
 propext ⟨λ⟨_,_,c,e,e',h1,h2,h3⟩=>by cases e;cases e';exact⟨h1,c,h2,h3⟩,λ⟨h1,c,h2,h3⟩=>⟨z,i,c,rfl,rfl,h1,h2,h3⟩⟩
theorem Km{K:RV}{p:Addr}{i:Int}:Iz K (.ref p) (.int i) H Q=∃xs v,bw K H p xs/\nG xs i=some v/\Q v H:=
 propext ⟨λ⟨_,xs,_,v,e,e',h⟩=>by cases e;cases e';exact⟨xs,v,h⟩,λ⟨xs,v,h⟩=>⟨p,xs,i,v,rfl,rfl,h⟩⟩
theorem Kj{K:RV}{p:Addr}{i:Int}:Iw K (.ref p) (.int i) H Q=∃xs v,dD K H p xs/\nG xs i=some v/\Q v H:=
 propext ⟨λ⟨_,xs,_,v,e,e',h⟩=>by cases e;cases e';exact⟨xs,v,h⟩,λ⟨xs,v,h⟩=>⟨p,xs,i,v,rfl,rfl,h⟩⟩
theorem LA{l:Addr}{y:V}:vb (.ref l) [y] H Q=∃xs,H l=some (.lst xs)/\xs.length<sizeLine/\Q .non (upd H l (.lst (xs++[y]))):=
 propext ⟨λ⟨_,xs,_,e,e',h⟩=>by cases e;cases e';exact⟨xs,h⟩,λ⟨xs,h⟩=>⟨l,xs,y,rfl,rfl,h⟩⟩
theorem Ke{l:Addr}:LR (.ref l) [] H Q=∃xs y,H l=some (.lst xs)/\xs[xs.length - 1]? = some y/\Q y (upd H l (.lst xs.dropLast)):=
 propext ⟨λ⟨_,xs,y,e,_,h⟩=>by cases e;exact⟨xs,y,h⟩,λ⟨xs,y,h⟩=>⟨l,xs,y,rfl,rfl,h⟩⟩
theorem iF{α:Type}{f:α->V}{l:List α}{k:Nat}{y:V}(h:(l.map f)[k]? = some y):∃x,l[k]? = some x/\y=f x:=by
 rw[aP] at h;cases e:l[k]? with
 | none=>rw[e] at h;cases h
 | some x=>rw[e] at h;exact⟨x,rfl,(bH h).symm⟩
theorem gP {K:RV} {l:Addr} {xs:List V} (h:H l=some (.lst xs)):C2 K "list" (.ref l) H:=.inl ⟨rfl,xs,bw.of h⟩
theorem Bz{t:TE}{q:Bool->Hp->Prop}:sM t σ H q=t σ H λx H'=>∃k,x=.bl k/\q k H':=rfl
theorem K9{t:TE}{q:Bool->Hp->Prop}:tB t σ H q=t σ H λx H'=>∃k,x=.bl k/\q k H':=rfl
theorem w_and{t u:TT}{q:Bool->Hp->Prop}:Ii t u σ H q=t σ H λc H1=>if c=true then u σ H1 q else q false H1:=rfl
theorem w_or{t u:TT}{q:Bool->Hp->Prop}:MP t u σ H q=t σ H λc H1=>if c=true then q true H1 else u σ H1 q:=rfl
theorem w_not{t:TT}{q:Bool->Hp->Prop}:I9 t σ H q=t σ H λc H1=>q (!c) H1:=rfl
theorem CZ{ta tb:TE}:Co ta tb σ H Q=ta σ H λx H1=>∃c,x=.bl c/\if c=true then tb σ H1 Q else Q (.bl false) H1:=rfl
theorem HN{ta tb:TE}:I0 ta tb σ H Q=ta σ H λx H1=>∃c,x=.bl c/\if c=true then Q (.bl true) H1 else tb σ H1 Q:=rfl
theorem CG{ta:TE}:Cf ta σ H Q=ta σ H λx H1=>∃c,x=.bl c/\Q (.bl (!c)) H1:=rfl
theorem Ko{t:TT}{ta tb:TE}:MQ t ta tb σ H Q=t σ H λc H1=>if c=true then ta σ H1 Q else tb σ H1 Q:=rfl
theorem HL{t u:TS}:IW t u D σ H=t { nx:=u D,rt:=D.rt,bk:=D.bk,ct:=D.ct } σ H:=rfl
theorem w_next:Cg D σ H=D.nx σ H:=rfl
theorem HV:ya D σ H=D.bk σ H:=rfl
theorem CW:LI D σ H=D.ct σ H:=rfl
theorem CT{te:TE}:Cj te D σ H=te σ H λ_ H1=>D.nx σ H1:=rfl
theorem HM{te:TE}:IY te D σ H=te σ H D.rt:=rfl
theorem CC:LG D σ H=D.rt .non H:=rfl
theorem HR{c:TT}{t u:TS}:Ie c t u D σ H=c σ H λb H1=>if b=true then t D σ H1 else u D σ H1:=rfl
theorem HY{te:TE}{g:TG}:vP te g D σ H=te σ H λx H1=>g x σ H1 D.nx:=rfl
theorem zj{i:Nat}{v:V}{q:St->Hp->Prop}:nF i v σ H q=q (σ.set i (some v)) H:=rfl
theorem CB{v:V}{x:Option V}:List.set (x::σ) 0 (some v)=some v::σ:=rfl
theorem CA{i:Nat}{v:V}{x:Option V}:List.set (x::σ) (i+1) (some v)=x::List.set σ i (some v):=rfl
theorem HP{q:List V->Hp->Prop}:Ia σ H q=q [] H:=rfl
theorem CY{ta:TE}{tr:TA}{q:List V->Hp->Prop}:gm ta tr σ H q=ta σ H λx H1=>tr σ H1 λxs H2=>q (x::xs) H2:=rfl
theorem Ky{r:List V->Hp->VK->Prop}{t:TA}:LJ r t σ H Q=t σ H λvs H1=>r vs H1 Q:=rfl
theorem HJ{t:TA}:IV t σ H Q=t σ H λxs H1=>xs.length<=sizeLine/\∀p,H1 p=none->Q (.ref p) (upd H1 p (.tup xs)):=rfl
theorem HQ{t:TA}:Ib t σ H Q=t σ H λxs H1=>xs.length<=sizeLine/\∀p,H1 p=none->Q (.ref p) (upd H1 p (.lst xs)):=rfl
theorem w_call{sp:Sp}{dvs:List V}{E:XK}{t:TA}:AC sp dvs E t σ H Q=t σ H λvs H1=>sp (vs++dvs) H1 Q E:=rfl
theorem Kz{K:RV}{T:String}{r:V->List V->Hp->VK->Prop}{to:TE}{t:TA}:LK K T r to t σ H Q=to σ H λx H1=>C2 K T x H1/\t σ H1 λxs H2=>r x xs H2 Q:=rfl
theorem HW{K:RV}{T:String}{r:V->List V->Hp->VK->Prop}{to:TE}:Ih K T r to σ H Q=to σ H λx H1=>C2 K T x H1/\r x [] H1 Q:=rfl
def og(J:It)(g:TG)(tb:TS)(D:Ends)(σ:St)(H1:Hp):Prop:=∃W:Nat->Nat->St->Hp->Prop,(∃m,W 0 m σ H1)/\∀i m σ H,W i m σ H →
 (J.stop i H/\D.nx σ H)\/(J.go i H/\∃N:St->Hp->Prop,(∀σ' H',N σ' H'->∃m',m'<m/\W (i+1) m' σ' H')/\∀x H',J.yld i H x H'->g x σ H' λσ2 H2=>tb { D with nx:=N,ct:=N,bk:=D.nx } σ2 H2)
theorem CS{ta:TA}{g:TG}{tb:TS}:rH (Ad ta) g tb D σ H=ta σ H λvs H1=>∃j:Int,vs=[.int j]/\-(2 ^ 62)<=j/\j<2 ^ 62/\og (Br 0 j.toNat) g tb D σ H1:=rfl
theorem CQ{ta:TA}{g:TG}{tb:TS}:rH (Ac ta) g tb D σ H=ta σ H λvs H1=>∃i j:Int,vs=[.int i,.int j]/\(-(2 ^ 62)<=i/\i<2 ^ 62/\-(2 ^ 62)<=j/\j<2 ^ 62)/\og (Br i (j-i).toNat) g tb D σ H1:=rfl
theorem CO{K:RV}{tl:TE}{g:TG}{tb:TS}:rH (Ae K tl) g tb D σ H=tl σ H λx H1=>∃a,x=.ref a/\(∃xs,bw K H1 a xs)/\og (HD K a) g tb D σ H1:=rfl
theorem CM{K:RV}{tl:TE}{g:TG}{tb:TS}:rH (Ge K tl) g tb D σ H=tl σ H λx H1=>∃a,x=.ref a/\(∃xs,dD K H1 a xs)/\og (Hq K a) g tb D σ H1:=rfl
theorem CK{K:RV}{n:Nat}{t:Bq}{v:V}{q:St->Hp->Prop}:Jw K n t v σ H q=∃a xs,v=.ref a/\dD K H a xs/\xs.length=n/\t xs σ H q:=rfl
theorem IA{q:St->Hp->Prop}:Jy [] σ H q=q σ H:=propext ⟨λh=>h.2,λh=>⟨rfl,h⟩⟩
theorem FA{t:TG}{u:Bq}{v:V}{r:List V}{q:St->Hp->Prop}:E4 t u (v::r) σ H q=t v σ H λσ' H'=>u r σ' H' q:=propext ⟨λ⟨_,_,e,h⟩=>by cases e;exact h,λh=>⟨v,r,rfl,h⟩⟩
theorem wH{r r' r2:R2}{ta tb tc td:TE}:vO r r' r2 ta tb tc td σ H Q=ta σ H λx H1=>tb σ H1 λy H2=>r x y H2 λz H3=>∃k,z=.bl k ∧
 (if k=true then tc σ H3 λw' H4=>r' y w' H4 λz2 H5=>∃k2,z2=.bl k2/\(if k2=true then td σ H5 λe H6=>r2 w' e H6 Q else Q (.bl false) H5) else Q (.bl false) H3):=rfl
theorem zu{r r':R2}{ta tb tc:TE}:y8 r r' ta tb tc σ H Q=ta σ H λx H1=>tb σ H1 λy H2=>r x y H2 λz H3=>∃k,z=.bl k ∧
 (if k=true then tc σ H3 λw' H4=>r' y w' H4 Q else Q (.bl false) H3):=rfl
end
theorem qM{P:List Value->Prop}(h:∀a:Value,P [a]):∀us:List Value,us.length=1->P us
 | [a],_=>h a
theorem ML{P:List Value->Prop}{n:Nat}(h:∀(a:Value) (r:List Value),r.length=n->P (a::r)):∀us:List Value,us.length=n+1->P us
 | a::r,e=>h a r (Nat.succ.inj e)
theorem yD{P:List Value->Prop}(h:∀a b:Value,P [a,b]):∀us:List Value,us.length=2->P us:=ML λa=>qM λb=>h a b
theorem Lw{P:List Value->Prop}(h:∀a b c:Value,P [a,b,c]):∀us:List Value,us.length=3->P us:=ML λa=>yD λb c=>h a b c
theorem Mn{P:List Value->Prop}(h:∀a b c d:Value,P [a,b,c,d]):∀us:List Value,us.length=4->P us:=ML λa=>Lw λb c d=>h a b c d
section
variable {X:Cx} {pins:List (Addr×Obj)} {σ:St} {H:Hp} {s:Shared} {h':Heap}
theorem bv.turnNew{fp:List Addr}{p:Addr}{o:HO}{t':Nat}(I:bv X pins σ H s)(hf:∀b∈fp,kt X pins H b)(k:∀b u,b∉fp->s.heap.get? b=some u->h'.get? b=some u)(hp:s.heap.objs.size<=p)
  (new:ck X.prog X.w (upd H p o) h' p o):bv X pins σ (upd H p o) { s with heap:=h',toks:=t' }:=by
 have hn:H p=none:=I.hok.fresh hp;have nfp:∀b u,H b=some u->b∉fp:=λb u e z=>by rw[(hf b z).1] at e;cases e
 refine I.step (g':=s.gens) (d':=s.drawn) (ch:=fp) (λb hb=>?_) (λb u _ _ hc e _=>k b u hc e) (λb u _ _ hc e _=>⟨u.slots,k b u hc e⟩)
  (λb u _ e n=>by rw[aO (bC (ay (aN e) hp))];exact n) (λb u hc e=>⟨u,k b u hc e⟩) (λb xs e=>by rw[aO (am e hn)];exact e)
  (λb u xs e=>by rw[aO (am e hn)];exact e) (λb ps e=>⟨#[],by rw[aO (am e hn),e];simp⟩) (λm hm=>?_) (λb u e=>?_) I.bare
 ·obtain⟨_,f1,_,f3,f4,f5⟩:=hf b hb;exact⟨f3,f1,f4,f5⟩
 ·obtain⟨ob,es,ep,ho,r⟩:=hm;exact⟨ob,es,ep,k _ ob (λz=>(hf _ z).2.1 rfl) ho,r⟩
 ·by_cases hb:b=p
  ·subst hb;rw[aE] at e;cases e;exact new
  ·rw[aO hb] at e;refine(I.hok b u e).stay (λc v hc q=>k c v ?_ q) (λc q=>by rw[aO (am q hn)];exact q) λc xs q=>by rw[aO (am q hn)];exact q
   rcases hc with z | z
   ·rw[z];exact nfp b u e
   ·exact nfp c _ z
end
def MG(x:Str):It:=⟨λi _=>i<x.cps.size,λi H v H'=>H'=H/\∃c,x.cps[i]? = some c/\v=.str ⟨#[c]⟩,λi _=>x.cps.size<=i⟩
theorem C9 {P : Program} {w : World} {K : RV} {tg : Expr} (it : Addr) (x : Str) (t : Tok) : Turn P w K tg (MG x) [it] it (fun i h => h.IsStrIter it "str_ascii_iterator" x t i) where
  mem := by simp
  obj := fun i h st b hb => by
    have e : b = it := by simpa using hb
    subst e
    obtain ⟨o, e, c, d⟩ := st
    exact ⟨o, e, fun v z => by rw [d] at z; cases z⟩
  keep := fun i h h' st k => by
    obtain ⟨o, e, r⟩ := st
    exact ⟨o, k it (by simp) o e, r⟩
  item := by
    intro X hP hw hK hc i pins s σ H E I hf st hg
    subst hP hw hK
    obtain ⟨f0, f1, f2, f3, f4, f5⟩ := hf it (by simp)
    have hx : x.cps[i]? = some x.cps[i] := cK hg
    refine wpAny_pyNext_ascii_item st hx fun h' st' sb => ?_
    have I1 : bv X pins σ H { s with heap := h', toks := s.toks + 1 } := I.turned (t' := s.toks + 1) (fun b o hb e => (sb.2 b hb).trans e) f0 f1 f3 f4 f5
    obtain ⟨o, e, c, d⟩ := id st'
    exact ⟨_, rfl, xW (s := { s with heap := h', toks := s.toks + 1 }) e c d (by decide) ⟨.str ⟨#[x.cps[i]]⟩, H, I1, ⟨_, rfl⟩, ⟨rfl, _, hx, rfl⟩, st', fun b hb => (hf b hb).1⟩⟩
  done := by
    intro X hP hw hK hc i pins s σ H E I hf st hg
    subst hP hw hK
    obtain ⟨f0, f1, f2, f3, f4, f5⟩ := hf it (by simp)
    exact wpAny_pyNext_ascii_end (I.ok.hd hc) st (gU hg) fun h' eb => ⟨rfl, I.turned (t' := s.toks) (fun b o hb e => eb b o hb e) f0 f1 f3 f4 f5⟩
  self := fun _ _ _ _ _ st h => wpAny_pyIter_striter_ascii st h
def Jt(tl:TE):TI:=λσ H R=>tl σ H λx H1=>∃z,x=.str z/\z.cps.all (·<128)=true/\R (MG z) H1
theorem JO{X:Cx}{tg l:Expr}{tl:TE}(hl:PE X l tl):PI X tg l (Jt tl):=by
 intro pins s σ H R I h;refine eS (hl pins s σ H _ I h) λv s1 ⟨x,H1,I1,r1,z,e,ha,q⟩=>?_;subst e;obtain⟨t,rfl⟩:=r1;refine wpAny_pyIter_ascii ha ?_;exact⟨s1.heap.objs.size,[s1.heap.objs.size],_,_,H1,rfl,I1.kept (t':=s1.toks) λb o e=>aD _ e,C9 _ z t,⟨_,aQ _ rfl,rfl,rfl⟩,
  λb hb=>by
   have e:b=s1.heap.objs.size:=by simpa using hb
   subst e;exact I1.fpOk (aH _) (I1.hok.fresh (aH _)),q⟩
def MH(x:Str):It:=⟨λi _=>i<x.cps.size,λi H v H'=>∃p c,H p=none/\x.cps[i]? = some c/\v=.ref p/\H'=upd H p (.tup [.int i,.str ⟨#[c]⟩]),λi _=>i=x.cps.size⟩
theorem Av {P : Program} {w : World} {K : RV} {elts : List Expr} {x1 : Nat} {pos : Pos} (e it : Addr) (hne : e ≠ it) (x : Str) (t : Tok) :
    Turn P w K (.Tuple elts x1 pos) (MH x) [e, it] e (fun i h => (∃ old, IsEnum h e it i old) ∧ h.IsStrIter it "str_ascii_iterator" x t i) where
  mem := by simp
  obj := fun i h st b hb => by
    obtain ⟨⟨old, he⟩, o, ei, c, d⟩ := st
    rcases aK.mp hb with z | z
    · subst z; exact ⟨_, he, fun v z => by cases z⟩
    · have z' : b = it := by simpa using z
      subst z'
      exact ⟨o, ei, fun v z => by rw [d] at z; cases z⟩
  keep := fun i h h' st k => by
    obtain ⟨⟨old, he⟩, o, ei, r⟩ := st
    exact ⟨⟨old, k e (by simp) _ he⟩, o, k it (by simp) o ei, r⟩
  item := by
    intro X hP hw hK hc i pins s σ H E I hf st hg
    subst hP hw hK
    obtain ⟨⟨old, he⟩, hst⟩ := st
    have D : Draws X.prog X.w X.A.in1 it [it] x.cps.size _ _ := Draws.strAscii (show X.A.in1.handled = none from I.ok.hd hc) it x t
    refine wpAny_pyNext_enum_itemD D he hst hg hne (by simpa using hne) fun v h' tk hv ho st' ht hsz kp => ?_
    obtain ⟨c, u, hx, rfl⟩ := hv
    refine ⟨_, rfl, wpAny_letOwnedTupleGo_enum ho fun h2 he2 hs2 => ?_⟩
    have het : s.heap.objs.size ≠ e := fm (aN he)
    have ht2 : h2.get? s.heap.objs.size = some { cls := .type "tuple", data := .seq #[.int i tk, .str ⟨#[c]⟩ u] } := (hs2.2 _ het).trans ht
    have hn : H s.heap.objs.size = none := I.hok.fresh (aH _)
    refine ⟨.ref s.heap.objs.size, upd H s.heap.objs.size (.tup [.int i, .str ⟨#[c]⟩]), I.turnNew (fp := [e, it]) hf (fun b o hb q => ?_) (aH _) (show ck X.prog X.w _ h2 _ (.tup _) from ⟨(by show 2 ≤ sizeLine; decide), [.int i tk, .str ⟨#[c]⟩ u], .cons ⟨_, rfl⟩ (.cons ⟨_, rfl⟩ .nil), _, ht2, rfl, _, rfl⟩), rfl, ⟨_, c, hn, hx, rfl, rfl⟩, ⟨⟨_, by exact_mod_cast he2⟩, ?_⟩, fun b hb => ?_⟩
    · have n1 : b ≠ e := fun z => hb (by simp [z])
      have n2 : b ≠ it := fun z => hb (by simp [z])
      exact (hs2.2 b n1).trans (kp b o n1 n2 q)
    · obtain ⟨o, ei, r⟩ := st'
      exact ⟨o, (hs2.2 it hne.symm).trans ei, r⟩
    · have hb' := (hf b hb).1
      rw [aO (fun z => ?_)]
      · exact hb'
      · obtain ⟨o, q, _⟩ := hst
        rcases aK.mp hb with y | y
        · exact het (z.symm.trans y)
        · have y' : b = it := by simpa using y
          exact absurd (y'.symm.trans z) (bC (aN q))
  done := by
    intro X hP hw hK hc i pins s σ H E I hf st hg
    subst hP hw hK
    obtain ⟨⟨old, he⟩, hst⟩ := st
    have hg' : i = x.cps.size := hg
    subst hg'
    obtain ⟨f0, f1, f2, f3, f4, f5⟩ := hf it (by simp)
    have D : Draws X.prog X.w X.A.in1 it [it] x.cps.size _ _ := Draws.strAscii (show X.A.in1.handled = none from I.ok.hd hc) it x t
    exact wpAny_pyNext_enum_endD D he hst fun h' eb => ⟨rfl, I.turned (t' := s.toks) (fun b o hb q => eb b o hb q) f0 f1 f3 f4 f5⟩
  self := fun _ _ _ _ _ st h => by
    obtain ⟨⟨old, he⟩, _⟩ := st
    exact Ql he h
def EZ(ta:TA):TI:=λσ H R=>ta σ H λvs H1=>∃z,vs=[.str z]/\z.cps.all (·<128)=true/\R (MH z) H1
theorem Fu {X:Cx} {a:Expr} {ta:TA} {elts:List Expr} {x1:Nat} {p pos tpos:Pos} (hg:Gl X "enumerate") (hm:X.mg "enumerate"=none) (ha:PA X [a] ta) (hs:starEach [a] X.env=[(false,eval a X.env)]:=by rfl) :
  PI X (.Tuple elts x1 tpos) (.Call (.Name "enumerate" p) [a] [] pos) (EZ ta):=by
 intro pins s σ H R I h;refine Call_ (j3 I hg hm boot_enumerate (bx (eS (ha pos pins s σ H _ I h) λus s1 ⟨vs,H1,I1,r1,z,e,hz,q⟩=>?_) hs rfl));subst e;obtain⟨u,rfl,t,rfl⟩:=Qg r1;refine call_enumerate_str λh' he hit hsz kp=>?_;have ht:strIterType z="str_ascii_iterator":=by unfold strIterType;rw[RN hz]
 rw[ht] at hit;refine Ql he ?_;have I2:bv X pins σ H1 { s1 with heap:=h' }:=I1.kept (t':=s1.toks) kp;exact⟨s1.heap.objs.size+1,[s1.heap.objs.size+1,s1.heap.objs.size],_,_,H1,rfl,I2,Av _ _ (mF _) z t,⟨⟨_,he⟩,hit⟩,
  λb hb=>by
   have hle:s1.heap.objs.size<=b:=by
    rcases aK.mp hb with y | y
    ·rw[y];exact dk _
    ·have y':b=s1.heap.objs.size:=by simpa using y
     exact iG y'.symm
   exact I1.fpOk hle (I1.hok.fresh hle),q⟩
section
variable {σ:St} {H:Hp} {D:Ends}
theorem CN{tl:TE}{g:TG}{tb:TS}:rH (Jt tl) g tb D σ H=tl σ H λx H1=>∃z,x=.str z/\z.cps.all (·<128)=true/\og (MG z) g tb D σ H1:=rfl
theorem CP{ta:TA}{g:TG}{tb:TS}:rH (EZ ta) g tb D σ H=ta σ H λvs H1=>∃z,vs=[.str z]/\z.cps.all (·<128)=true/\og (MH z) g tb D σ H1:=rfl
theorem Ks{a:Str}{q:Str->Prop}:(∃b,V.str a=.str b/\q b)=q a:=propext ⟨λ⟨_,e,h⟩=>by cases e;exact h,λh=>⟨a,rfl,h⟩⟩
theorem Gi{x:Str}{g:TG}{tb:TS}(Pv:Nat->St->Hp->Prop)(h0:Pv 0 σ H)
  (hs:∀i c σ H,x.cps[i]? = some c->Pv i σ H->g (.str ⟨#[c]⟩) σ H λσ2 H2=>tb { D with nx:=Pv (i+1),ct:=Pv (i+1),bk:=D.nx } σ2 H2) (hd:∀σ H,Pv x.cps.size σ H->D.nx σ H):og (MG x) g tb D σ H:=by
 refine⟨λi m σ H=>m+i=x.cps.size/\Pv i σ H,⟨x.cps.size,rfl,h0⟩,?_⟩;rintro i m σ H ⟨hm,hp⟩;by_cases hi:i<x.cps.size
 ·refine .inr ⟨hi,Pv (i+1),λσ' H' h=>⟨m - 1,by lia,by lia,h⟩,?_⟩;rintro v H' ⟨rfl,c,hc,rfl⟩;exact hs i c σ H' hc hp
 ·have e:i=x.cps.size:=by lia
  subst e;exact .inl ⟨aH _,hd σ H hp⟩
theorem E8{x:Str}{g:TG}{tb:TS}(Pv:Nat->St->Hp->Prop)(h0:Pv 0 σ H)
  (hs:∀i c σ H p,x.cps[i]? = some c->Pv i σ H->H p=none->g (.ref p) σ (upd H p (.tup [.int i,.str ⟨#[c]⟩])) λσ2 H2=>tb { D with nx:=Pv (i+1),ct:=Pv (i+1),bk:=D.nx } σ2 H2) (hd:∀σ H,Pv x.cps.size σ H->D.nx σ H):og (MH x) g tb D σ H:=by
 refine⟨λi m σ H=>m+i=x.cps.size/\Pv i σ H,⟨x.cps.size,rfl,h0⟩,?_⟩;rintro i m σ H ⟨hm,hp⟩;by_cases hi:i<x.cps.size
 ·refine .inr ⟨hi,Pv (i+1),λσ' H' h=>⟨m - 1,by lia,by lia,h⟩,?_⟩;rintro v H' ⟨p,c,hn,hc,rfl,rfl⟩;exact hs i c σ H p hc hp hn
 ·have e:i=x.cps.size:=by lia
  subst e;exact .inl ⟨rfl,hd σ H hp⟩
end
theorem ly:∀{ns:List Int} {us:List Value},cV (ns.map V.int) us->IntsAre us ns
 | [],_,.nil=>.nil
 | n::ns,_,.cons ⟨t,e⟩ r=>by subst e;exact .cons n t (ly r)
theorem sG:∀{bs:List Bool} {us:List Value},cV (bs.map V.bl) us->LSm.BoolsAre us bs
 | [],_,.nil=>.nil
 | b::bs,_,.cons r t=>by
  have e:_=Value.bool b:=r;subst e;exact .cons b (sG t)
theorem uP:∀{ts:List Str} {us:List Value},cV (ts.map V.str) us->∃l:List (Str×Tok),us=strValues l/\l.map (·.1)=ts
 | [],_,.nil=>⟨[],rfl,rfl⟩
 | t::ts,_,.cons ⟨k,e⟩ r=>by
  subst e;obtain⟨l,e1,e2⟩:=uP r;exact⟨(t,k)::l,by rw[e1];rfl,by rw[av,e2]⟩
section
variable {X:Cx}
def Iu(K:RV):List V->Hp->VK->Prop:=λxs H Q=>∃(p:Addr) (ns:List Int),xs=[.ref p]/\bw K H p (ns.map V.int)/\ns.length<64 ∧
 ∀(l:Addr) (ms:List Int),H l=none->ms.Perm ns->ms.Pairwise (·<=·)->Q (.ref l) (upd H l (.lst (ms.map V.int)))
theorem qv:iP X (.builtin "sorted") (Iu X.K):=by
 intro pins s σ H xs us Q I r h;obtain⟨p,ns,rfl,hq,hl,q⟩:=h;obtain⟨u,rfl,rx⟩:=Qg r;cases rx;obtain⟨its,rv,pl,hz⟩:=I.list hq;have hi:=ly rv;have hlen:its.length=ns.length:=by have:=rv.length;simpa using this.symm
 refine sorted_ints pl.isList hi (by lia) λout ms hm hp hs=>?_;obtain⟨c,hc⟩:=sortedAll_at s.heap its out;have hml:ms.length=ns.length:=hp.length_eq;exact⟨.ref (s.heap.objs.size+1),upd H (s.heap.objs.size+1) (.lst (ms.map V.int)),I.laid (t':=s.toks) (λb o e=>sortedAll_old e) (dk _)
  (show ck X.prog X.w _ _ _ (.lst _) from ⟨by rw[aA,hml];exact ba (bQ (by lia)),out.toList,c,oI hm,by simpa using hc⟩),rfl,q _ ms (I.hok.fresh (dk _)) hp hs⟩
def MW(K:RV)(f:List Bool->Bool):List V->Hp->VK->Prop:=λxs H Q=>∃(p:Addr) (bs:List Bool),xs=[.ref p]/\bw K H p (bs.map V.bl)/\Q (.bl (f bs)) H
theorem zJ{s:Shared}{h':Heap}{o:Obj}(hk:∀b x,b∉[s.heap.objs.size]->(s.heap.push o).get? b=some x->h'.get? b=some x):∀b x,s.heap.get? b=some x->h'.get? b=some x:=
 λb x e=>hk b x (λhm=>by rw[dL.mp hm] at e;exact dc _ (aN e)) (aD _ e)
theorem xn (hc:X.calm=true):iP X (.builtin "all") (MW X.K λbs=>bs.all id):=by
 intro pins s σ H xs us Q I r h;obtain⟨p,bs,rfl,hq,q⟩:=h;obtain⟨u,rfl,rx⟩:=Qg r;cases rx;obtain⟨its,rv,pl,hz⟩:=I.list hq;have hb:=sG rv;have hl:=pl.isList;have hlt:p<s.heap.objs.size:=by obtain⟨_,e,_⟩:=hl;exact aN e
 refine call_all_walk (wpAny_pyIter_list hl ?_);refine⟨s.heap.objs.size,[s.heap.objs.size,p],[s.heap.objs.size],its.toArray.size,_,_,λi=>(bs[i]?).getD true,rfl,Walks.list (A:=X.A.in1) (I.ok.hd hc) _ p (bC hlt) its.toArray,
  ⟨⟨_,aQ _ rfl,rfl,rfl⟩,hl.push _⟩,λi v s' Q' E' hP hQ=>?_,λh' tk hk=>?_⟩
 ·obtain⟨b,e,rfl⟩:=hb.get i v (by simpa using hP);simp only[e,gJ] at hQ;exact Q9 hQ
 ·have e1:its.toArray.size=bs.length:=by have:=rv.length;simp at this;simp[this]
  rw[e1,LSm.range_all];exact⟨.bl _,H,I.kept (zJ hk),rfl,q⟩
def rJoin(K:RV):V->List V->Hp->VK->Prop:=λx vs H Q=>∃(z:Str) (p:Addr) (ts:List Str),x=.str z/\vs=[.ref p]/\bw K H p (ts.map V.str)/\JoinOk z ts=true/\Q (.str (Txt.join z ts)) H
theorem rf:K4 X "str.join" (rJoin X.K):=by
 intro pins s σ H x xs v us Q I r rv h;obtain⟨z,p,ts,rfl,rfl,hq,ok,q⟩:=h;obtain⟨t,rfl⟩:=r;obtain⟨u,rfl,rx⟩:=Qg rv;cases rx;obtain⟨its,rv',pl,hz⟩:=I.list hq;obtain⟨l,rfl,e⟩:=uP rv';exact SC.join pl.isList e ok λt' k=>⟨.str _,H,I.tok k,⟨t',rfl⟩,q⟩
end
mutual
inductive Dat (H:Hp):V->PyData->Prop
 | non:Dat H .non .none
 | bl (b:Bool):Dat H (.bl b) (.bool b)
 | int (i:Int):Dat H (.int i) (.int i)
 | str (x:Str):Dat H (.str x) (.str x)
 | tup {a:Addr} {xs:List V} {ds:List PyData}:H a=some (.tup xs)->ja H xs ds->Dat H (.ref a) (.tuple ds)
 | lst {a:Addr} {xs:List V} {ds:List PyData}:H a=some (.lst xs)->ja H xs ds->Dat H (.ref a) (.list ds)
inductive ja (H:Hp):List V->List PyData->Prop
 | nil:ja H [] []
 | cons {x:V} {xs:List V} {d:PyData} {ds:List PyData}:Dat H x d->ja H xs ds->ja H (x::xs) (d::ds)
end
mutual
theorem Dat.rep{K:RV}{H:Hp}:∀{x:V} {d:PyData},Dat H x d->Rep K H x d
 | _,_,.non=>.non
 | _,_,.bl b=>.bl b
 | _,_,.int i=>.int i
 | _,_,.str x=>.str x
 | _,_,.tup h r=>.tup (dD.of h) (ja.rep r)
 | _,_,.lst h r=>.lst (bw.of h) (ja.rep r)
theorem ja.rep{K:RV}{H:Hp}:∀{xs:List V} {ds:List PyData},ja H xs ds->qK K H xs ds
 | _,_,.nil=>.nil
 | _,_,.cons h r=>.cons (Dat.rep h) (ja.rep r)
end
mutual
theorem Dat.same{H H':Hp}(s:ar H H'):∀{x:V} {d:PyData},Dat H x d->Dat H' x d
 | _,_,.non=>.non
 | _,_,.bl b=>.bl b
 | _,_,.int i=>.int i
 | _,_,.str x=>.str x
 | _,_,.tup h r=>.tup (s _ _ h) (ja.same s r)
 | _,_,.lst h r=>.lst (s _ _ h) (ja.same s r)
theorem ja.same{H H':Hp}(s:ar H H'):∀{xs:List V} {ds:List PyData},ja H xs ds->ja H' xs ds
 | _,_,.nil=>.nil
 | _,_,.cons h r=>.cons (Dat.same s h) (ja.same s r)
end
theorem ja.len{H:Hp}:∀{xs:List V} {ds:List PyData},ja H xs ds->xs.length=ds.length
 | _,_,.nil=>rfl
 | _,_,.cons _ r=>by simp[ja.len r]
theorem ja.get{H:Hp}:∀{xs:List V} {ds:List PyData} {i:Nat} {x:V},ja H xs ds->xs[i]? = some x->∃d,ds[i]? = some d/\Dat H x d
 | _,_,_,_,.nil,e=>by simp at e
 | _,_,0,_,.cons h _,e=>by simp at e;subst e;exact⟨_,rfl,h⟩
 | _,_,i+1,x,.cons _ r,e=>by
  obtain⟨d,h1,h2⟩:=ja.get (i:=i) (x:=x) r (by simpa using e);exact⟨d,by simpa using h1,h2⟩
def NA:PyData->Value
 | .none=>.type "NoneType"
 | .bool _=>.type "bool"
 | .int _=>.type "int"
 | .str _=>.type "str"
 | .list _=>.type "list"
 | .tuple _=>.type "tuple"
 | .dict _=>.type "dict"
theorem Dat.ty{K:RV}{H:Hp}{x:V}{d:PyData}(h:Dat H x d):pO K H x (NA d):=by
 cases h with
 | non=>exact .non
 | bl b=>exact .bl b
 | int i=>exact .int i
 | str x=>exact .str x
 | tup h _=>exact .tup h
 | lst h _=>exact .lst h
def isI:PyData->Bool | .int _=>true | .bool _=>true | _=>false
def Ms:PyData->Bool | .bool _=>true | _=>false
def Mr:PyData->Bool | .str _=>true | _=>false
def MC:PyData->Bool | .tuple _=>true | _=>false
def isL:PyData->Bool | .list _=>true | _=>false
section
variable {K:RV} {H:Hp} {x:V} {d:PyData} {Q:VK}
theorem Gb (h:Dat H x d) (q:Q (.bl (Mr d)) H):Fa K [x,.ty "str"] H Q:=⟨x,"str",_,Mr d,rfl,h.ty,by cases h<;>rfl,q⟩
theorem o0 (h:Dat H x d) (q:Q (.bl (MC d)) H):Fa K [x,.ty "tuple"] H Q:=⟨x,"tuple",_,MC d,rfl,h.ty,by cases h<;>rfl,q⟩
theorem EW (h:Dat H x d) (q:Q (.bl (isL d)) H):Fa K [x,.ty "list"] H Q:=⟨x,"list",_,isL d,rfl,h.ty,by cases h<;>rfl,q⟩
end
theorem ints_rep{K:RV}{H:Hp}:∀(ns:List Int),qK K H (ns.map V.int) (ns.map PyData.int)
 | []=>.nil
 | n::ns=>.cons (.int n) (ints_rep ns)
theorem xT:∀ms ns:List Int,PyData.eqvAll (ms.map PyData.int) (ns.map PyData.int)=decide (ms=ns)
 | [],[]=>rfl
 | [],_::_=>by simp[PyData.eqvAll]
 | _::_,[]=>by simp[PyData.eqvAll]
 | p::ps,q::qs=>by
  show (PyData.eqv (.int p) (.int q)&&PyData.eqvAll (ps.map PyData.int) (qs.map PyData.int))=_;rw[xT ps qs];by_cases h1:p=q<;>by_cases h2:ps=qs<;>simp[PyData.eqv,h1,h2]
theorem jn:∀ns:List Int,PyData.canLayAll0 (ns.map PyData.int)=true
 | []=>rfl
 | n::ns=>by
  show (PyData.canLay0 (.int n)&&PyData.canLayAll0 (ns.map PyData.int))=true;rw[jn ns];rfl
theorem pK:∀ns:List Int,PyData.depthAll (ns.map PyData.int)=0
 | []=>rfl
 | n::ns=>by
  show max (PyData.depth (.int n)) (PyData.depthAll (ns.map PyData.int))=0;rw[pK ns];rfl
theorem Ea{K:RV}{H:Hp}{a b:Addr}{ms ns:List Int}{Q:VK}(ha:bw K H a (ms.map V.int))(hb:bw K H b (ns.map V.int))(q:Q (.bl (decide (ms=ns))) H):yj K false (.ref a) (.ref b) H Q:=by
 refine⟨.list (ms.map PyData.int),.list (ns.map PyData.int),.lst ha (ints_rep ms),.lst hb (ints_rep ns),jn ms,jn ns,?_,?_⟩
 ·refine bF (gX _ _) ?_;show PyData.depthAll (ms.map PyData.int)+1<=60;rw[pK];decide
 ·show Q (.bl (PyData.eqvAll (ms.map PyData.int) (ns.map PyData.int))) H;rw[xT];exact q
theorem EX(n:Int)(ns:List Int):((ns.map PyData.int).any λe=>PyData.eqv e (.int n))=decide (n∈ns):=by
 induction ns with
 | nil=>simp
 | cons m ns ih=>
  rw[av,gf,ih];by_cases h1:n=m
  ·subst h1;simp[PyData.eqv]
  ·have h2:¬m=n:=λe=>h1 e.symm;by_cases h3:n∈ns<;>simp[PyData.eqv,h1,h2,h3]
theorem A7{K:RV}{H:Hp}{b:Addr}{n:Int}{ns:List Int}{neg:Bool}{Q:VK}(hb:bw K H b (ns.map V.int)\/dD K H b (ns.map V.int))(q:Q (.bl (if neg then !decide (n∈ns) else decide (n∈ns))) H):JA K neg (.int n) (.ref b) H Q:=by
 refine⟨.int n,ns.map PyData.int,b,_,.int n,rfl,hb,ints_rep ns,rfl,jn ns,ac _,?_⟩;rw[EX];exact q
def nM(env:Env):List (Str×NameKind)->List (Str×Addr)->List (Str×Addr)
 | [],acc=>acc
 | (n,k)::r,acc=>nM env r (if (k==NameKind.free)=true then (n,(env.cells.lookup n).getD 0)::acc else acc)
theorem uL{scope:Scope}{env:Env}(h:∀x∈scope.names,x.2=.free->∃c,env.cells.lookup x.1=some c):closureFor scope env=pure (nM env scope.names []):=by
 simp only[closureFor];generalize ([]:List (Str×Addr))=acc
 revert h
 generalize scope.names=l;intro h
 induction l generalizing acc with
 | nil=>rfl
 | cons x l ih=>
  obtain⟨n,k⟩:=x;have ih':=λacc=>ih acc λy hy=>h y (aM _ hy);rw[kC];cases hk:(k==NameKind.free) with
  | false=>
   simp only[bW,RU,pure_bind];rw[show nM env ((n,k)::l) acc=nM env l acc by simp[nM,hk]];exact ih' acc
  | true=>
   obtain⟨c,hc⟩:=h (n,k) bB (by simpa using hk);have e:cellOf env n=pure c:=by unfold cellOf;rw[hc]
   simp only[RT,e,pure_bind];rw[show nM env ((n,k)::l) acc=nM env l ((n,c)::acc) by simp[nM,hk,hc]];exact ih' ((n,c)::acc)
theorem nq{env:Env}{x:Str}{c:Addr}:∀{l:List (Str×NameKind)} {acc:List (Str×Addr)},(∀y∈l,y.2=.free->∃c,env.cells.lookup y.1=some c)->(nM env l acc).lookup x=some c->acc.lookup x=some c\/env.cells.lookup x=some c
 | [],acc,_,h=>.inl h
 | (n,k)::l,acc,hf,h=>by
  have ih:=nq (l:=l) (acc:=if (k==NameKind.free)=true then (n,(env.cells.lookup n).getD 0)::acc else acc) (λy hy=>hf y (aM _ hy)) h;rcases ih with e | e
  ·cases hk:(k==NameKind.free) with
   | false=>rw[hk] at e;exact .inl (by simpa using e)
   | true=>
    rw[hk] at e;simp only[RT,j6] at e;cases hx:x==n with
    | false=>rw[hx] at e;exact .inl e
    | true=>
     rw[hx] at e;obtain⟨c',hc⟩:=hf (n,k) bB (by simpa using hk);have hxn:x=n:=by simpa using hx
     subst hxn;rw[hc] at e;simp only[gJ] at e;exact .inr (hc.trans e)
  ·exact .inr e
theorem vA{env:Env}{x:Str}:∀{l:List (Str×NameKind)} {acc:List (Str×Addr)},(∃c,acc.lookup x=some c)->∃c,(nM env l acc).lookup x=some c
 | [],acc,h=>h
 | (n,k)::l,acc,h=>by
  refine vA (l:=l) ?_;cases hk:(k==NameKind.free) with
  | false=>simpa using h
  | true=>
   simp only[RT,j6];cases hx:x==n with
   | false=>exact h
   | true=>exact⟨_,rfl⟩
theorem tX{env:Env}{x:Str}:∀{l:List (Str×NameKind)} {acc:List (Str×Addr)},(x,NameKind.free)∈l->∃c,(nM env l acc).lookup x=some c
 | [],_,h=>nomatch h
 | (n,k)::l,acc,h=>by
  rcases aK.mp h with e | e
  ·cases e;refine vA (l:=l) ?_;simp
  ·exact tX (l:=l) e
def Bp(env:Env)(p:Str×NameKind):Str×NameKind:=if (p.2==NameKind.free&&env.scope.kind==.function&&env.kindOf p.1==some .cell) then (p.1,NameKind.cell) else p
theorem oj(scope:Scope)(env:Env):(relabel scope env).names=scope.names.map (Bp env):=by
 show scope.names.map _=_;congr 1
theorem FW(env:Env)(p:Str×NameKind):(Bp env p).1=p.1:=by unfold Bp;split<;>rfl
theorem pI{env:Env}{x:Str}:∀{names:List (Str×NameKind)},(names.map (Bp env)).lookup x=(names.lookup x).map λk=>(Bp env (x,k)).2
 | []=>rfl
 | (n,q)::r=>by
  rw[av];have e:Bp env (n,q)=(n,(Bp env (n,q)).2):=fE (FW env _) rfl;rw[e,j6,j6];cases hx:x==n with
  | true=>
   have hxn:x=n:=by simpa using hx
   subst hxn;rfl
  | false=>exact pI (names:=r)
theorem pZ{scope:Scope}{env:Env}{x:Str}{k:NameKind}(h:(relabel scope env).names.lookup x=some k):scope.names.lookup x=some k\/(k=.cell/\scope.names.lookup x=some .free):=by
 rw[oj,pI] at h;cases e:scope.names.lookup x with
 | none=>rw[e] at h;cases h
 | some q=>
  rw[e] at h;have h':(Bp env (x,q)).2=k:=bH h;unfold Bp at h'
  split at h'
  ·rename_i hc;have hq:q=.free:=by
    have:=(aY _ _).mp ((aY _ _).mp hc).1;simpa using this.1
   exact .inr ⟨h'.symm,by rw[hq]⟩
  ·exact .inl (by rw[<-h'])
theorem v9{scope:Scope}{env:Env}{x:Str}(h:scope.names.lookup x=some .free):(relabel scope env).names.lookup x=some .cell\/(relabel scope env).names.lookup x=some .free:=by
 rw[oj,pI,h];show some (Bp env (x,.free)).2=_\/some (Bp env (x,.free)).2=_;unfold Bp
 split
 ·exact .inl rfl
 ·exact .inr rfl
def rR(X:Cx)(N:List Str)(scope:Scope)(C:Addr)(s:Shared)(H:Hp)(fp:List Addr)(pn:List (Addr×Obj)):Cx:=
 { X with N:=N,s₀:=s,H₀:=H,env:=compEnvC scope (nM X.env scope.names []) C X.env,outer:=X.stack,ex:=fp,fn:=λ_=>false,pn:=pn,xe:=λ_ _=>False }
structure nC (scope:Scope) (ns:List Str):Prop where
 kind:scope.kind=.function
 nocell:∀ y∈scope.names,y.2≠.cell
 names:∀ y∈scope.names,y.2=.local->scope.names.lookup y.1=some .local
 frees:∀ y∈scope.names,y.2=.free->y.1∈ns
inductive mz (X:Cx) (scope:Scope):List Str->List Nat->Prop
 | nil:mz X scope [] []
 | cons {x:Str} {i:Nat} {ns:List Str} {is:List Nat}:X.N[i]? = some x->scope.names.lookup x=some .free->(X.env.kindOf x=some .cell\/X.env.kindOf x=some .free)->mz X scope ns is->mz X scope (x::ns) (i::is)
theorem mz.mem{X:Cx}{scope:Scope}{ns:List Str}{is:List Nat}{x:Str}(c:mz X scope ns is)(h:x∈ns):X.env.kindOf x=some .cell\/X.env.kindOf x=some .free:=by
 induction c with
 | nil=>exact nomatch h
 | cons _ _ k _ ih=>
  rcases aK.mp h with e | e
  ·subst e;exact k
  ·exact ih e
theorem mz.len{X:Cx}{scope:Scope}{ns:List Str}{is:List Nat}(c:mz X scope ns is):is.length=ns.length:=by
 induction c with
 | nil=>rfl
 | cons _ _ _ _ ih=>simp[ih]
theorem mz.at_{X:Cx}{scope:Scope}{ns:List Str}{is:List Nat}(c:mz X scope ns is){j:Nat}{x:Str}(h:ns[j]? = some x):
  ∃i,is[j]? = some i/\X.N[i]? = some x/\scope.names.lookup x=some .free/\(X.env.kindOf x=some .cell\/X.env.kindOf x=some .free):=by
 induction c generalizing j with
 | nil=>simp at h
 | cons a b k _ ih=>
  cases j with
  | zero=>simp at h;subst h;exact⟨_,rfl,a,b,k⟩
  | succ j=>exact ih (by simpa using h)
def Bb(σ:St)(i:Nat):Option V:=(σ[i]?).join
def jH(k:Nat)(caps:List Nat)(σ:St):St:=List.replicate k none++caps.map λi=>Bb σ i
section
variable {X:Cx} {pins:List (Addr×Obj)} {σ:St} {H:Hp} {s s4:Shared}
theorem zV{own ns:List Str}{caps:List Nat}{scope:Scope}{C:Addr}{fp:List Addr}(I:bv X pins σ H s)(S:nC scope ns)(cp:mz X scope ns caps)(hf:∀b∈fp,kt X pins H b)
  (hfl:∀b∈fp,b<s.heap.objs.size) (hC:s.heap.objs.size<=C) (os:s4.os=s.os) (gens:s4.gens=s.gens) (k:∀b o,s.heap.get? b=some o->s4.heap.get? b=some o) {m:Str->Option Value} (hn:s4.heap.Ns C m) :
  bv (rR X (own++ns) scope C s H fp (X.pn++pins)) [] (jH own.length caps σ) H s4:=by
 have cells:∀x c,(nM X.env scope.names []).lookup x=some c->X.env.cells.lookup x=some c:=λx c e=>by
  rcases nq (λy hy hfr=>I.ok.has y.1 (cp.mem (S.frees y hy hfr))) e with z | z
  ·simp at z
  ·exact z
 have neL:C≠X.env.locals:=fm (ay I.lt hC);have inFs:∀b,b∈zQ X.stack->b=X.env.locals\/b∈X.fs:=λb hb=>aK.mp (I.stkSub b hb);have nst:∀b,b≠X.env.locals->b∉X.fs->b∉zQ X.stack:=λb h1 h2 z=>(inFs b z).elim h1 h2;have cle:∀x c,X.env.cells.lookup x=some c->c<s.heap.objs.size:=λx c e=>by obtain⟨v,q⟩:=I.cell x c e;exact q.lt
 refine⟨⟨I.ok.mod,S.kind,I.ok.glob,I.ok.blt,hC,λx y c h1 h2=>I.ok.inj x y c (cells _ _ h1) (cells _ _ h2),λx hx=>?_,(λx c h=>nomatch h),I.ok.hd,I.ok.frames,.inl rfl,λb hb=>⟨λz=>?_,λx c e=>(hf b hb).2.2.2.2.1 x c (cells _ _ e)⟩,
   I.bs,bF I.ok.bsz I.sz,λb o e hb=>?_,λb hb=>nst b (hf b hb).2.1 (hf b hb).2.2.1,I.stack,I.stkFree⟩,
  os,by rw[gens];exact I.bare,Un.kept k,⟨m,hn,λi x v e1 e2 e3=>?_⟩,λx c e=>?_,?_,λx c e=>I.freeC x c (cells _ _ e),λp hp=>?_,I.hok.kept k,?_⟩
 ·have hx':(relabel scope X.env).names.lookup x=some .cell\/(relabel scope X.env).names.lookup x=some .free:=hx;have hfree:scope.names.lookup x=some .free:=by
   rcases hx' with z | z
   ·rcases pZ z with q | q
    ·exact absurd rfl (S.nocell _ (dY q))
    ·exact q.2
   ·rcases pZ z with q | q
    ·exact q
    ·exact absurd q.1 (by decide)
  exact tX (dY hfree)
 ·exact absurd (ay (hfl b hb) hC) (by rw[show b=C from z];exact dc _)
 ·obtain⟨f0,f1,f2,f3,f4,f5⟩:=hf b hb;rcases f3 with z | z
  ·exact I.ok.noex b o e z
  ·exact absurd (ay (aN e) (bF I.ok.bsz z)) (dc _)
 ·have e2':(List.replicate own.length none++caps.map λi=>Bb σ i)[i]? = some (some v):=e2;have e1':(own++ns)[i]? = some x:=e1;by_cases hi:i<own.length
  ·rw[iK (by simpa using hi),mI,RN hi] at e2';cases e2'
  ·rw[dN (by simpa using hi),nN,aP] at e2';rw[dN (by lia)] at e1';obtain⟨i',h1,h2,h3,h4⟩:=cp.at_ e1';rw[h1] at e2';have e4:(σ[i']?).join=some v:=bH e2';have e5:σ[i']? = some (some v):=by
    cases q:σ[i']? with
    | none=>rw[q] at e4;cases e4
    | some w'=>rw[q] at e4;rw[show w'=some v from e4]
   obtain⟨m',hn',hl'⟩:=I.loc;have vis:Lj X.env.scope x:=h4.elim (λz=>.inr (.inl z)) λz=>.inr (.inr z);obtain⟨u,r,l⟩:=hl' i' x v h2 e5 vis;refine⟨u,r,.inr ⟨v9 h3,?_⟩⟩;obtain⟨c,hc⟩:=tX (env:=X.env) (acc:=[]) (dY h3);rcases l with ⟨z,_⟩ | ⟨_,c',e6,z⟩
   ·rcases h4 with y | y<;>· rw[y] at z;cases z
   ·have:=cells _ _ hc;rw[e6] at this;cases this;obtain⟨o,ho,hd⟩:=z;exact⟨_,hc,o,k _ _ ho,hd⟩
 ·obtain⟨v,o,ho,hd⟩:=I.cell x c (cells _ _ e);exact⟨v,o,k _ _ ho,hd⟩
 ·exact I.hok.fresh hC
 ·have hp':p∈X.pn++pins:=by simpa [rR] using hp
  obtain⟨a1,a2,a3,a4,a5⟩:=I.pin p hp';exact⟨k _ _ a1,a2,bC (ay (aN a1) hC),nst _ a3 a4,a5⟩
 ·show (jH own.length caps σ).length=(own++ns).length;simp[jH,cp.len]
end
def PF(X:Cx)(ifs:List Expr)(t:TT):Prop:=
 ∀(pins:List (Addr×Obj)) (s:Shared) (σ:St) (H:Hp) (Q:Bool->Hp->Prop),bv X pins σ H s->t σ H Q →
  wpAny (model X.prog X.w) X.A (forIn ifs true λc r=>if r=true then do let ok <-isTrue c X.env (eval c X.env);pure (ForInStep.yield ok) else pure (ForInStep.yield r)) (TP X pins σ Q) X.xe s
def uS:TT:=λ_ H q=>q true H
theorem JS{X:Cx}:PF X [] uS:=λ_ _ _ H _ I h=>wpAny_pure ⟨H,I,h⟩
theorem JR{X:Cx}{c:Expr}{t:TT}(h:PT X c t):PF X [c] t:=by
 intro pins s σ H Q I hq;rw[kC];simp only[RT,bind_assoc,pure_bind];refine wpAny_bind (eS (h pins s σ H Q I hq) λb s1 q=>?_);exact wpAny_pure q
def kK(J:It)(g:TG)(tf:TT)(te:TE)(Q:VK)(σ:St)(H1:Hp):Prop:=∃W:Nat->Nat->List V->St->Hp->Prop,(∃m,W 0 m [] σ H1)/\∀i m ys σ H,W i m ys σ H →
 (J.stop i H/\ys.length<=sizeLine/\∀p,H p=none->Q (.ref p) (upd H p (.lst ys))) ∨
 (J.go i H/\ys.length<sizeLine/\∀x H',J.yld i H x H'->g x σ H' λσ2 H2=>tf σ2 H2 λb H3=>
  if b=true then te σ2 H3 λy H4=>∃m',m'<m/\W (i+1) m' (ys++[y]) σ2 H4 else ∃m',m'<m/\W (i+1) m' ys σ2 H3)
section
variable {X:Cx} {pins:List (Addr×Obj)} {σ:St} {H:Hp} {s:Shared}
theorem uK {prog : Program} {w : World} {A : Around} {R : Result → Shared → Prop} {s : Shared} {elt target iter : Expr} {ifs : List Expr} {scope : Scope} {pos : Pos} {it acc : Value} {env : Env} (I : Nat → Shared → Prop)
  (turn : ∀ n s, I n s → wpAny (model prog w) A (pyNext it) (fun r s₁ => match r with
   | none => R (.ok .next) s₁
   | some v => wpAny (model prog w) A (letOwnedTupleGo target it v) (fun _ s₁ => wpAny (model prog w) A (assign target env v) (fun _ s₂ =>
     wpAny (model prog w) A (forIn ifs true fun c r => if r = true then do let ok ← isTrue c env (eval c env); pure (ForInStep.yield ok) else pure (ForInStep.yield r)) (fun ok s₃ =>
      if ok = true then wpAny (model prog w) A (eval elt env) (fun x s₄ =>
       wpAny (model prog w) A (call (.builtin "list.append") [acc, x]) (fun _ s₅ => ∃ m, m < n ∧ I m s₅) (notedBy (model prog w) A env fun e s' => R (.error e) s') s₄) (notedBy (model prog w) A env fun e s' => R (.error e) s') s₃
      else ∃ m, m < n ∧ I m s₃) (notedBy (model prog w) A env fun e s' => R (.error e) s') s₂) (notedBy (model prog w) A env fun e s' => R (.error e) s') s₁) (notedBy (model prog w) A env fun e s' => R (.error e) s') s₁) (notedBy (model prog w) A env fun e s' => R (.error e) s') s)
  (n : Nat) (h : I n s) : codeAny (model prog w) A (.compLoop (.ListComp elt [⟨target, iter, ifs, 0⟩] scope pos) 0 it acc env) R s := by
 refine codeAny_loop rfl I (fun n s hI => ?_) n h
 show wpAny _ A ((compTurn (.ListComp elt [⟨target, iter, ifs, 0⟩] scope pos) 0 it acc env).onRaise (fun x => do noteFrame x env; theTreesLotGoes x)) _ _ s
 refine wpAny_noted ?_
 rw [compTurn_list]
 refine wpAny_bind (Qc (wpAny_bind (Q8 (turn n s hI) (fun r s₁ h₁ => ?_) fun _ _ h' => h')))
 cases r with
 | none => exact wpAny_pure h₁
 | some v =>
  refine wpAny_bind (Q8 h₁ (fun _ s₁ h₁ => ?_) fun _ _ h' => h')
  refine wpAny_bind (Q8 h₁ (fun _ s₂ h₂ => wpAny_bind (Q8 h₂ (fun ok s₃ h₃ => ?_) fun _ _ h' => h')) fun _ _ h' => h')
  cases ok with
  | false => exact wpAny_pure ⟨rfl, h₃⟩
  | true =>
   exact wpAny_bind (wpAny_bind (Q8 h₃ (fun x s₄ h₄ => wpAny_bind (Q8 h₄ (fun _ s₅ h₅ => wpAny_pure (wpAny_pure ⟨rfl, h₅⟩)) fun _ _ h' => h')) fun _ _ h' => h'))
theorem tV{own ns:List Str}{caps:List Nat}{elt tg iter:Expr}{ifs:List Expr}{scope:Scope}{pos:Pos}{it:Addr}{fp:List Addr}{tn:Nat->Heap->Prop}{J:It}{g:TG}{tf:TT}{te:TE}{Q:VK}{E:Value->Shared->Prop}{RR:Value->Addr->Result->Shared->Prop}
  (hc:X.calm=true) (S:nC scope ns) (cp:mz X scope ns caps)
  (hg:∀C s H fp pn,PG (rR X (own++ns) scope C s H fp pn) tg g) (ht:∀C s H fp pn,PF (rR X (own++ns) scope C s H fp pn) ifs tf) (he:∀C s H fp pn,PE (rR X (own++ns) scope C s H fp pn) elt te)
  (I:bv X pins σ H s) (T:Turn X.prog X.w X.K tg J fp it tn) (st:tn 0 s.heap) (hf:∀b∈fp,kt X pins H b) (hJ:kK J g tf te Q (jH own.length caps σ) H)
  (fin:∀D C m s' H' ys,D≠C->s'.heap.Ns C m->kt X pins (upd H' D (.lst ys)) C->bv X pins σ (upd H' D (.lst ys)) s'->Q (.ref D) (upd H' D (.lst ys))->RR (.ref D) C (.ok .next) s') :
  wpAny (model X.prog X.w) X.A (newList []) (λacc s₃=>wpAny (model X.prog X.w) X.A (newFunctionEnv scope X.env.globals (nM X.env scope.names []) [] X.env.qual none .none (some X.env)) (λcenv s₄=>
   codeAny (model X.prog X.w) X.A (.compStart (.ListComp elt [⟨tg,iter,ifs,0⟩] scope pos) 0 (.ref it) acc { cenv with scope:=relabel scope X.env }) (RR acc cenv.locals) s₄) E s₃) E s:=by
 refine Qm (wpAny_newFunctionEnv S.nocell (by intro y hy;simp at hy) (λh₁ hns₁ hsb₁=>?_) S.kind);dsimp only at hns₁ hsb₁ ⊢;generalize hH2:s.heap.push { cls:=.type "list",dict:=none,data:=.seq ([]:List Value).toArray }=H2 at hns₁ hsb₁ ⊢;have hC:H2.objs.size=s.heap.objs.size+1:=by rw[<-hH2,fS]
 have hDC:s.heap.objs.size≠H2.objs.size:=by rw[hC];exact bC (Nat.lt_succ_self _)
 have hCle:s.heap.objs.size<=H2.objs.size:=by rw[hC];exact dk _
 have old:∀b o,s.heap.get? b=some o->h₁.get? b=some o:=λb o e=>hsb₁.extBut b o (by rw[hC];exact bC (fq (aN e))) (aD _ (hH2▸aD _ e));have hacc:h₁.PlainList s.heap.objs.size #[]:=⟨_,hsb₁.extBut _ _ hDC (aD _ (hH2▸aQ _ rfl))⟩
 have hfl:∀b∈fp,b<s.heap.objs.size:=λb hb=>by obtain⟨o,e,_⟩:=T.obj _ _ st b hb;exact aN e
 generalize hD:s.heap.objs.size=D at hDC hacc ⊢;generalize hCe:H2.objs.size=C at hns₁ hsb₁ hDC hCle hC ⊢;have hDle:s.heap.objs.size<=D:=by rw[hD];exact aH _
 have hCle':s.heap.objs.size<=C:=by rw[hD];rw[hD] at hCle;exact hCle
 have I₁:bv (rR X (own++ns) scope C s H fp (X.pn++pins)) [] (jH own.length caps σ) H { s with heap:=h₁,toks:=s.toks+([]:List (Str×Value)).length }:=
  zV I S cp hf hfl hCle' rfl rfl old hns₁
 have st₁:tn 0 h₁:=T.keep _ _ _ st λb _ o e=>old b o e;generalize hY:rR X (own++ns) scope C s H fp (X.pn++pins)=Y at I₁;have hgY:PG Y tg g:=hY▸hg C s H fp (X.pn++pins);have htY:PF Y ifs tf:=hY▸ht C s H fp (X.pn++pins);have heY:PE Y elt te:=hY▸he C s H fp (X.pn++pins);have yP:Y.prog=X.prog:=by rw[<-hY];rfl
 have yW:Y.w=X.w:=by rw[<-hY];rfl
 have yK:Y.K=X.K:=by rw[<-hY];rfl
 have yA:Y.A=X.A:=by rw[<-hY];rfl
 have yC:Y.calm=true:=by rw[<-hY];exact hc
 have yE:Y.env=compEnvC scope (nM X.env scope.names []) C X.env:=by rw[<-hY];rfl
 have yX:Y.xe=λ_ _=>False:=by rw[<-hY];rfl
 have yF:Y.fs=zQ X.stack:=by rw[<-hY];rfl
 have yQ:Y.pn=X.pn++pins:=by rw[<-hY];rfl
 have yI:Y.ex=fp:=by rw[<-hY];rfl
 have yS:Y.s₀=s:=by rw[<-hY];rfl
 have yH:Y.H₀=H:=by rw[<-hY];rfl
 have cells:∀x c,Y.env.cells.lookup x=some c->X.env.cells.lookup x=some c:=λx c e=>by
  rw[yE] at e;rcases nq (λy hy hfr=>I.ok.has y.1 (cp.mem (S.frees y hy hfr))) (show (nM X.env scope.names []).lookup x=some c from e) with z | z
  ·simp at z
  ·exact z
 have nst:∀b,b≠X.env.locals->b∉X.fs->b∉Y.fs:=λb h1 h2 z=>by
  rw[yF] at z;exact(aK.mp (I.stkSub b z)).elim h1 h2
 have fpY:∀{H':Hp},(∀b∈fp,H' b=none)->∀b∈fp,kt Y [] H' b:=fun {H'} hn b hb=>by
  obtain⟨f0,f1,f2,f3,f4,f5⟩:=hf b hb;refine⟨hn b hb,?_,nst b f1 f2,.inl (by rw[yI];exact hb),λx c e=>f4 x c (cells x c e),λp hp=>f5 p (by simpa [yQ] using hp)⟩;rw[yE];exact bC (ay (hfl b hb) hCle')
 have fpD:∀{H':Hp},H' D=none->kt Y [] H' D:=fun {H'} hn=>by
  obtain⟨f0,f1,f2,f3,f4,f5⟩:=I.fpOk (H':=H') hDle hn;refine⟨hn,by rw[yE];exact hDC,nst D f1 f2,.inr (by rw[yS];exact hDle),λx c e=>f4 x c (cells x c e),λp hp=>f5 p (by simpa [yQ] using hp)⟩
 have hDf:D∉fp:=λz=>dc _ (ay (hfl D z) hDle);have objD:∀{h:Heap} {us:List Value},h.PlainList D us.toArray->∃o,h.get? D=some o/\∀v,o.data≠.cell v:=fun {h us} ⟨n,e⟩=>⟨_,e,λv z=>by cases z⟩
 have noErr:∀{α:Type} {t:Sem α} {Qt:α->Shared->Prop} {sx:Shared} {E':Value->Shared->Prop},wpAny (model Y.prog Y.w) Y.A t Qt Y.xe sx->wpAny (model X.prog X.w) X.A t Qt E' sx:=fun {α t Qt sx E'} h=>by
  rw[yP,yW,yA,yX] at h;exact Q8 h (λ_ _ q=>q) λ_ _ f=>f.elim
 obtain⟨W,⟨m0,w0⟩,turn⟩:=hJ;have TY:Turn Y.prog Y.w Y.K tg J fp it tn:=by rw[yP,yW,yK];exact T
 have loop:∀s₃:Shared,s₃={ s with heap:=h₁,toks:=s.toks+([]:List (Str×Value)).length } →
   codeAny (model X.prog X.w) X.A (.compLoop (.ListComp elt [⟨tg,iter,ifs,0⟩] scope pos) 0 (.ref it) (.ref D) (compEnvC scope (nM X.env scope.names []) C X.env)) (RR (.ref D) C) s₃:=by
  rintro s₃ rfl;refine uK (λn s'=>∃i ys us σ' H',bv Y [] σ' H' s'/\tn i s'.heap/\(∀b∈fp,H' b=none)/\H' D=none/\s'.heap.PlainList D us.toArray/\cV ys us/\W i n ys σ' H') ?_ m0
   ⟨0,[],[],_,H,I₁,st₁,λb hb=>(hf b hb).1,I.hok.fresh hDle,hacc,.nil,w0⟩
  rintro n s3 ⟨i,ys,us,σ3,H3,I3,st3,fr3,hD3,MA,v3,w3⟩;have fD3:∀b∈[D],kt Y [] H3 b:=λb hb=>by
   have e:b=D:=by simpa using hb
   subst e;exact fpD hD3
  have I3':bv Y ([]++mZ [D] s3.heap) σ3 H3 s3:=I3.pinned fD3 λb hb=>by
   have e:b=D:=by simpa using hb
   subst e;exact objD MA
  rw[fb] at I3';have fpY':∀{H':Hp},(∀b∈fp,H' b=none)->∀b∈fp,kt Y (mZ [D] s3.heap) H' b:=fun {H'} hn b hb=>by
   obtain⟨f0,f1,f2,f3,f4,f5⟩:=fpY hn b hb;refine⟨f0,f1,f2,f3,f4,λp hp=>?_⟩;rcases aW.mp hp with z | z
   ·exact f5 p (by simpa using z)
   ·have e:p.1=D:=by simpa using (uo z).1
    exact λq=>hDf (by rw[<-e,q];exact hb)
  obtain⟨oD,eD,cD⟩:=objD MA;have keepD:∀{σ':St} {H':Hp} {s':Shared} {pl:List (Addr×Obj)},bv Y (mZ [D] s3.heap++pl) σ' H' s'->s'.heap.PlainList D us.toArray/\H' D=none:=fun {σ' H' s' pl} I'=>by
   have:=I'.pin (D,oD) (bO _ (cE _ (iT (by simp) eD)));refine⟨?_,this.2.1⟩;obtain⟨k,e⟩:=MA;rw[e] at eD;cases eD;exact⟨k,this.1⟩
  rcases turn i n ys σ3 H3 w3 with ⟨stop,hlen,qn⟩ | ⟨go,hlen,step⟩
  ·refine noErr (eS (TY.done Y rfl rfl rfl yC i _ s3 σ3 H3 Y.xe I3' (fpY' fr3) st3 stop) λr s4 ⟨hr,I4⟩=>?_);subst hr;obtain⟨pl4,hD4⟩:=keepD (pl:=[]) (by rw[cH];exact I4);have hun:Un (zQ X.stack) fp H H3 s.heap s4.heap:=by have:=I4.base;rw[yF,yI,yS,yH] at this;exact this
   have hok:pP X.prog X.w H3 s4.heap:=by have:=I4.hok;rw[yP,yW] at this;exact this
   obtain⟨m4,hn4,_⟩:=I4.loc;rw[yE] at hn4;have hC4:H3 C=none:=by have:=I4.free;rw[yE] at this;exact this
   have ne:∀b u,H3 b=some u->b≠D:=λb u e z=>by rw[z,hD4] at e;cases e
   refine fin D C m4 s4 H3 ys hDC hn4 (I.fpOk hCle' (by rw[aO (iw hDC)];exact hC4)) (I.call' (ch:=fp) ?_ ?_ ?_ I4.bare ?_) (qn D hD4)
   ·have:=I4.os;rw[yS] at this;exact this
   ·exact⟨hun.keep,hun.slot,λb o e n hx=>by rw[aO (λz=>by rw[z] at e;exact absurd (aN e) (Nat.not_lt.mpr hDle))];exact hun.free b o e n hx,hun.there,
     λb xs e=>by have:=hun.tups b xs e;rw[aO (ne _ _ this)];exact this,λb o u e=>by have:=hun.frzs b o u e;rw[aO (ne _ _ this)];exact this,
     λb ps e=>by obtain⟨more,q⟩:=hun.tbls b ps e;exact⟨more,by rw[aO (ne _ _ q)];exact q⟩⟩
   ·intro b u e;by_cases hb:b=D
    ·subst hb;rw[aE] at e;cases e;obtain⟨k,e4⟩:=pl4;exact⟨hlen,us,k,v3,e4⟩
    ·rw[aO hb] at e;exact(hok b u e).stay (λc v _ q=>q) (λc q=>by rw[aO (ne _ _ q)];exact q) λc xs q=>by rw[aO (ne _ _ q)];exact q
   ·intro b hb;obtain⟨f0,f1,f2,f3,f4,f5⟩:=hf b hb;exact⟨f3,f1,f4,f5⟩
  ·refine noErr (eS (TY.item Y rfl rfl rfl yC i _ s3 σ3 H3 Y.xe I3' (fpY' fr3) st3 go) λr s4 ⟨u,hr,h4⟩=>?_);subst hr;refine noErr (eS h4 λ_ s5 ⟨x,H5,I5,r5,y5,st5,fr5⟩=>?_);have I5':=I5.pinned (fpY' fr5) (T.obj _ _ st5);rw[<-yE];refine noErr (eS (hgY _ s5 σ3 H5 x u _ I5' r5 (step x H5 y5)) λ_ s6 ⟨σ6,H6,I6,q6⟩=>?_);refine noErr (eS (htY _ s6 σ6 H6 _ I6 q6) λok s7 ⟨H7,I7,q7⟩=>?_);have fpK:∀{σ':St} {H':Hp} {s':Shared},bv Y (mZ [D] s3.heap++mZ fp s5.heap) σ' H' s'->tn (i+1) s'.heap/\∀b∈fp,H' b=none:=fun {σ' H' s'} I'=>
    ⟨T.keep _ _ _ st5 λb hb o e=>(I'.pin (b,o) (bO _ (bO _ (iT hb e)))).1,λb hb=>by
     obtain⟨o,e,_⟩:=T.obj _ _ st5 b hb;exact(I'.pin (b,o) (bO _ (bO _ (iT hb e)))).2.1⟩
   cases ok with
   | false=>
    rw[RM af] at q7 ⊢;obtain⟨m',hm,w7⟩:=q7;obtain⟨pl7,hD7⟩:=keepD I7;obtain⟨st7,fr7⟩:=fpK I7;exact⟨m',hm,i+1,ys,us,σ6,H7,I7.pins_of (λp hp=>nomatch hp),st7,fr7,hD7,pl7,v3,w7⟩
   | true=>
    rw[RN rfl] at q7 ⊢;refine noErr (eS (heY _ s7 σ6 H7 _ I7 q7) λy s8 ⟨yv,H8,I8,r8,m',hm,w8⟩=>?_);obtain⟨pl8,hD8⟩:=keepD I8;obtain⟨st8,fr8⟩:=fpK I8;have hul:us.length=ys.length:=v3.length.symm;refine wpAny_list_append_plain (hsz:=by rw[aS,hul];exact ba hlen) pl8 λh9 pl9 sb9=>?_;obtain⟨d0,d1,d2,d3,d4,d5⟩:=fpD hD8;refine⟨m',hm,i+1,ys++[yv],us++[y],σ6,H8,?_,?_,fr8,hD8,by simpa using pl9,v3.append (.cons r8 .nil),w8⟩
    ·exact(I8.pins_of (pins':=[]) λp hp=>nomatch hp).turned (t':=s8.toks) (λb o hb e=>(sb9.2 b hb).trans e) hD8 d1 d3 d4 d5
    ·exact T.keep _ _ _ st8 λb hb o e=>(sb9.2 b (λz=>hDf (z▸hb))).trans e
 exact codeAny_compStart_list (loop _ rfl) (T.self _ 0 _ _ _ st₁ (loop _ rfl))
def pR(k:Nat)(caps:List Nat)(wi:TI)(g:TG)(tf:TT)(te:TE):TE:=λσ H Q=>wi σ H λJ H1=>kK J g tf te Q (jH k caps σ) H1
theorem mz.cl{scope:Scope}{ns:List Str}{caps:List Nat}(I:bv X pins σ H s)(S:nC scope ns)(cp:mz X scope ns caps):closureFor scope X.env=pure (nM X.env scope.names []):=
 uL λy hy hfr=>I.ok.has y.1 (cp.mem (S.frees y hy hfr))
theorem GA{own ns:List Str}{caps:List Nat}{elt tg iter:Expr}{ifs:List Expr}{scope:Scope}{pos:Pos}{wi:TI}{g:TG}{tf:TT}{te:TE}(hc:X.calm=true)(S:nC scope ns)(cp:mz X scope ns caps)(hi:PI X tg iter wi)
  (hg:∀C s H fp pn,PG (rR X (own++ns) scope C s H fp pn) tg g) (ht:∀C s H fp pn,PF (rR X (own++ns) scope C s H fp pn) ifs tf) (he:∀C s H fp pn,PE (rR X (own++ns) scope C s H fp pn) elt te)
  (hs:∀x,foldedSetIterable iter X.env x=pure x:=by intro _;rfl):PE X (.ListComp elt [⟨tg,iter,ifs,0⟩] scope pos) (pR own.length caps wi g tf te):=by
 intro pins s σ H Q I h;rw[eval_ListComp];refine wpAny_comprehension_free (use:=none) rfl hs (cp.cl I S) S.kind S.names (eS (hi pins s σ H _ I h) λv s1 h1=>eS h1 λitv s2 h2=>?_);obtain⟨it,fp,tn,J,H2,e,I2,T,st2,f2,hJ⟩:=h2;subst e;refine tV hc S cp hg ht he I2 T st2 f2 hJ (RR:=λacc C=>compPost (model X.prog X.w) X.A X.xe none (EP X pins σ Q) acc C) λD C m s' H' ys hDC hn fC I' q=>?_;refine⟨m,hn,λh' hs'=>⟨.ref D,_,?_,rfl,q⟩⟩;obtain⟨f0,f1,f2,f3,f4,f5⟩:=fC;exact I'.turned (t':=s'.toks) (λb o hb e=>(hs'.2 b hb).trans e) f0 f1 f3 f4 f5
theorem Fi{i:Nat}{x:Str}{own ns:List Str}{caps:List Nat}{elt tg iter:Expr}{ifs:List Expr}{scope:Scope}{pos pos' spos:Pos}{wi:TI}{g:TG}{tf:TT}{te:TE}(hN:X.N.Nodup)(hi:X.N[i]? = some x)(hx:Loc X.env.scope x)(hc:X.calm=true)(S:nC scope ns)(cp:mz X scope ns caps)(hit:PI X tg iter wi)
  (hg:∀C s H fp pn,PG (rR X (own++ns) scope C s H fp pn) tg g) (ht:∀C s H fp pn,PF (rR X (own++ns) scope C s H fp pn) ifs tf) (he:∀C s H fp pn,PE (rR X (own++ns) scope C s H fp pn) elt te)
  (hs:∀x,foldedSetIterable iter X.env x=pure x:=by intro _;rfl) (hsw:swapsWith (.ListComp elt [⟨tg,iter,ifs,0⟩] scope pos) (some (.Name x pos')) spos.line X.env=pure true:=by rfl)
  (hf:X.fn x=true\/X.env.scope.names.lookup x=some .local:=by first | exact .inl rfl | exact .inr rfl | assumption) :
  PS X (.Assign [.Name x pos'] (.ListComp elt [⟨tg,iter,ifs,0⟩] scope pos) spos) (vP (pR own.length caps wi g tf te) (nF i)):=by
 intro pins s σ H D I h;rw[exec_Assign_Name_used _ _ _ _ hsw];refine wpAny_bind (Qc (wpAny_bind ?_));show wpAny _ X.A (do let _ <-comprehension (.ListComp elt [⟨tg,iter,ifs,0⟩] scope pos) scope X.env _ (newList []) false (eval iter X.env) (some (assign (.Name x pos') X.env))) _ _ s;refine wpAny_bind (Q8 (wpAny_comprehension_free (use:=some (assign (.Name x pos') X.env)) (Q:=λ_ s'=>SP X pins D .next s') rfl hs (cp.cl I S) S.kind S.names
  (eS (hit pins s σ H _ I h) λv s1 h1=>eS h1 λitv s2 h2=>?_)) (λ_ s' hq=>wpAny_pure (wpAny_pure hq)) λ_ _ e=>e)
 obtain⟨it,fp,tn,J,H2,e,I2,T,st2,f2,hJ⟩:=h2;subst e;refine tV hc S cp hg ht he I2 T st2 f2 hJ (RR:=λacc C=>compPost (model X.prog X.w) X.A X.xe (some (assign (.Name x pos') X.env)) (λ_ s'=>SP X pins D .next s') acc C) λL C m s' H' ys hDC hn fC I' q=>?_;show wpAny _ X.A (assign (.Name x pos') X.env (.ref L)) _ _ _;refine wpAny_assign_Name (qN I' hN hi hx (v:=.ref L) (u:=.ref L) rfl (λs'' I'' ⟨a,sb,ha⟩=>?_) hf);obtain⟨f0,f1,f2,f3,f4,f5⟩:=fC;have hCa:C≠a:=by
  rcases ha with z | z
  ·rw[z];exact f1
  ·exact λy=>f4 _ _ z y.symm
 exact⟨m,hn.sameBut sb hCa,λh' hs'=>⟨_,_,I''.turned (t':=s''.toks) (λb o hb e=>(hs'.2 b hb).trans e) f0 f1 f3 f4 f5,q⟩⟩
theorem zq{k:Nat}{caps:List Nat}{K:RV}{tl:TE}{g:TG}{tf:TT}{te:TE}{Q:VK}:pR k caps (Ae K tl) g tf te σ H Q=tl σ H λx H1=>∃a,x=.ref a/\(∃xs,bw K H1 a xs)/\kK (HD K a) g tf te Q (jH k caps σ) H1:=rfl
theorem zo{k:Nat}{caps:List Nat}{K:RV}{tl:TE}{g:TG}{tf:TT}{te:TE}{Q:VK}:pR k caps (Ge K tl) g tf te σ H Q=tl σ H λx H1=>∃a,x=.ref a/\(∃xs,dD K H1 a xs)/\kK (Hq K a) g tf te Q (jH k caps σ) H1:=rfl
theorem zt{k:Nat}{caps:List Nat}{ta:TA}{g:TG}{tf:TT}{te:TE}{Q:VK}:pR k caps (Ad ta) g tf te σ H Q=ta σ H λvs H1=>∃j:Int,vs=[.int j]/\-(2 ^ 62)<=j/\j<2 ^ 62/\kK (Br 0 j.toNat) g tf te Q (jH k caps σ) H1:=rfl
theorem zr{k:Nat}{caps:List Nat}{ta:TA}{g:TG}{tf:TT}{te:TE}{Q:VK}:pR k caps (Ac ta) g tf te σ H Q=ta σ H λvs H1=>∃i j:Int,vs=[.int i,.int j]/\(-(2 ^ 62)<=i/\i<2 ^ 62/\-(2 ^ 62)<=j/\j<2 ^ 62)/\kK (Br i (j-i).toNat) g tf te Q (jH k caps σ) H1:=rfl
theorem zi{x:Str}{l:List Str}{caps:List Nat}:jH (x::l).length caps σ=none::jH l.length caps σ:=rfl
theorem zg{i:Nat}{is:List Nat}:jH ([]:List Str).length (i::is) σ=Bb σ i::jH ([]:List Str).length is σ:=rfl
theorem zh:jH ([]:List Str).length [] σ=[]:=rfl
theorem CJ{x:Option V}:Bb (x::σ) 0=x:=rfl
theorem w_getS{x:Option V}{i:Nat}:Bb (x::σ) (i+1)=Bb σ i:=rfl
theorem CH{q:Bool->Hp->Prop}:uS σ H q=q true H:=rfl
end
section
variable {K:RV} {a:Addr} {xs:List V} {g:TG} {tf:TT} {te:TE} {Q:VK} {σ:St} {H:Hp}
theorem rq{J:It}(n:Nat)(hsz:n<=sizeLine)(Pv:Nat->List V->St->Hp->Prop)(h0:Pv 0 [] σ H)(hlen:∀i ys σ H,Pv i ys σ H->ys.length<=i)(hgo:∀i ys σ H,i<n->Pv i ys σ H->J.go i H)(hstop:∀ys σ H,Pv n ys σ H->J.stop n H)
  (hs:∀i ys σ H x H' (N:List V->St->Hp->Prop),i<n->Pv i ys σ H->J.yld i H x H'->(∀ys σ H,Pv (i+1) ys σ H->N ys σ H)->g x σ H' λσ2 H2=>tf σ2 H2 λb H3=>if b=true then te σ2 H3 λy H4=>N (ys++[y]) σ2 H4 else N ys σ2 H3)
  (hd:∀ys σ H p,Pv n ys σ H->H p=none->Q (.ref p) (upd H p (.lst ys))):kK J g tf te Q σ H:=by
 refine⟨λi m ys σ H=>m=n-i/\i<=n/\Pv i ys σ H,⟨n,by simp,ac _,h0⟩,?_⟩;rintro i m ys σ H ⟨rfl,hi,p⟩;have hy:=hlen i ys σ H p;by_cases hlt:i<n
 ·refine .inr ⟨hgo i ys σ H hlt p,by lia,λx H' y=>?_⟩;exact hs i ys σ H x H' (λys σ H=>∃m',m'<n-i/\m'=n-(i+1)/\i+1<=n/\Pv (i+1) ys σ H) hlt p y λys σ H z=>⟨n-(i+1),by lia,rfl,hlt,z⟩
 ·have e:i=n:=by lia
  subst e;exact .inl ⟨hstop ys σ H p,by lia,λp' hp=>hd ys σ H p' p hp⟩
theorem o6(Pv:Nat->List V->St->Hp->Prop)(h0:Pv 0 [] σ H)(hl:∀i ys σ H,Pv i ys σ H->bw K H a xs/\ys.length<=i)(hsz:xs.length<=sizeLine)
  (hs:∀i x ys σ H (N:List V->St->Hp->Prop),xs[i]? = some x->Pv i ys σ H->(∀ys σ H,Pv (i+1) ys σ H->N ys σ H)->g x σ H λσ2 H2=>tf σ2 H2 λb H3=>if b=true then te σ2 H3 λy H4=>N (ys++[y]) σ2 H4 else N ys σ2 H3)
  (hd:∀ys σ H p,Pv xs.length ys σ H->H p=none->Q (.ref p) (upd H p (.lst ys))):kK (HD K a) g tf te Q σ H:=by
 refine rq xs.length hsz Pv h0 (λi ys σ H p=>(hl i ys σ H p).2) (λi ys σ H hi p=>⟨xs,xs[i],(hl i ys σ H p).1,by simp[hi]⟩) (λys σ H p=>⟨xs,(hl _ ys σ H p).1,aH _⟩) ?_ hd;rintro i ys σ H x H' N hi p ⟨rfl,y⟩ hN;exact hs i x ys σ H' N (y xs (hl i ys σ _ p).1) p hN
theorem tW{lo:Int}{n:Nat}(Pv:Nat->List V->St->Hp->Prop)(h0:Pv 0 [] σ H)(hl:∀i ys σ H,Pv i ys σ H->ys.length<=i)(hsz:n<=sizeLine)
  (hs:∀i ys σ H (N:List V->St->Hp->Prop),i<n->Pv i ys σ H->(∀ys σ H,Pv (i+1) ys σ H->N ys σ H)->g (.int (lo+i)) σ H λσ2 H2=>tf σ2 H2 λb H3=>if b=true then te σ2 H3 λy H4=>N (ys++[y]) σ2 H4 else N ys σ2 H3)
  (hd:∀ys σ H p,Pv n ys σ H->H p=none->Q (.ref p) (upd H p (.lst ys))):kK (Br lo n) g tf te Q σ H:=by
 refine rq n hsz Pv h0 hl (λi ys σ H hi p=>hi) (λys σ H p=>aH _) ?_ hd;rintro i ys σ H x H' N hi p ⟨rfl,rfl⟩ hN;exact hs i ys σ H' N hi p hN
theorem xi{J:It}(n:Nat)(hsz:n<=sizeLine){rest:St}(xs ys:List V)(hl:ys.length=n)(hgo:∀i,i<n->J.go i H)(hstop:J.stop n H)(hy:∀i x H',i<n->J.yld i H x H'->H'=H/\xs[i]? = some x)
  (hs:∀(i:Nat) (x y:V) (Q':VK),xs[i]? = some x->ys[i]? = some y->Q' y H->te (some x::rest) H Q')
  (q:∀p,H p=none->Q (.ref p) (upd H p (.lst ys))):kK J (nF 0) uS te Q (none::rest) H:=by
 refine rq n hsz (λi zs σ H'=>H'=H/\zs=ys.take i/\∃x,σ=x::rest) ⟨rfl,by simp,_,rfl⟩ ?_ ?_ ?_ ?_ ?_
 ·rintro i zs σ H' ⟨rfl,rfl,_⟩;rw[bj];lia
 ·rintro i zs σ H' hi ⟨rfl,_,_⟩;exact hgo i hi
 ·rintro zs σ H' ⟨rfl,_,_⟩;exact hstop
 ·rintro i zs σ H1 x H' N hi ⟨rfl,rfl,z,rfl⟩ y hN;obtain⟨rfl,hx⟩:=hy i x H' hi y;show te (some x::rest) H' _;have hyi:ys[i]? = some ys[i]:=aJ (by lia);refine hs i x ys[i] _ hx hyi (hN _ _ _ ⟨rfl,?_,_,rfl⟩);rw[bD,hyi];rfl
 ·rintro zs σ H' p ⟨rfl,rfl,_⟩ hp;rw[<-hl,bZ];exact q p hp
theorem Bk{rest:St}(hx:bw K H a xs)(hsz:xs.length<=sizeLine)(ys:List V)(hl:ys.length=xs.length)
  (hs:∀(i:Nat) (x y:V) (Q':VK),xs[i]? = some x->ys[i]? = some y->Q' y H->te (some x::rest) H Q')
  (q:∀p,H p=none->Q (.ref p) (upd H p (.lst ys))):kK (HD K a) (nF 0) uS te Q (none::rest) H:=by
 refine xi xs.length hsz xs ys hl (λi hi=>⟨xs,xs[i],hx,by simp[hi]⟩) ⟨xs,hx,aH _⟩ (λi x H' hi y=>⟨y.1,y.2 xs hx⟩) hs q
theorem Bj{rest:St}(hx:dD K H a xs)(hsz:xs.length<=sizeLine)(ys:List V)(hl:ys.length=xs.length)
  (hs:∀(i:Nat) (x y:V) (Q':VK),xs[i]? = some x->ys[i]? = some y->Q' y H->te (some x::rest) H Q')
  (q:∀p,H p=none->Q (.ref p) (upd H p (.lst ys))):kK (Hq K a) (nF 0) uS te Q (none::rest) H:=
 xi xs.length hsz xs ys hl (λi hi=>⟨xs,xs[i],hx,by simp[hi]⟩) ⟨xs,hx,aH _⟩ (λi x H' hi y=>⟨y.1,y.2 xs hx⟩) hs q
end
theorem nR{c:Prop} [Decidable c] {A B:Prop} (h:¬c) (b:B):if c then A else B:=by rw[RM h];exact b
theorem rQ{c:Prop} [Decidable c] {A B:Prop} (h:c) (a:A):if c then A else B:=by rw[RN h];exact a
section
variable {X:Cx} {K:RV}
theorem EI (h:X.K=K):K4 X "str.join" (rJoin K):=h▸rf
end
def zb (o:Obj) (xs:List Str):Prop:=o.cls=.type "tuple"/\∃its n,o.data=.seq its n/\its.size<=sizeLine/\cV (xs.map V.str) its.toList
theorem Ax {o:Obj} {xs:List Str} {its:Array Value} {n:Nat} (h1:o.cls=.type "tuple") (h2:o.data=.seq its n) (h3:its.size<=sizeLine) (h4:cV (xs.map V.str) its.toList):zb o xs:=⟨h1,its,n,h2,h3,h4⟩
theorem E3{K:RV}{h:Heap}{mg:Str->Option Value}{x:Str}{a:Addr}{o:Obj}{xs:List Str}(X:K.In h)(G:h.Ns mainGlobals mg)(y:PySem.W.nsIn K mainGlobals x=some (some (.ref a)))(l:K.lookup a=some o)(t:zb o xs):
  ∃a,mg x=some (.ref a)/\∀H,dD K H a (xs.map V.str):=by
 obtain⟨h1,its,n,h2,h3,h4⟩:=t;exact⟨a,eU X G y,λH=>.inr ⟨o,its,n,l,h1,h2,h3,h4⟩⟩
def yT(K:RV)(xs:List V):TE:=λ_ H Q=>∀a,(∀H,dD K H a xs)->Q (.ref a) H
theorem Dj {X:Cx} {x:Str} {K:RV} {xs:List V} {pos:Pos} (hg:Gl X x) (hm:∃a,X.mg x=some (.ref a)/\∀H,dD K H a xs) (hd:(x==("__debug__":Str))=false:=by decide):PE X (.Name x pos) (yT K xs):=by
 obtain⟨a,h1,h2⟩:=hm;intro pins s σ H Q I h;exact ve (v:=.ref a) hg h1 rfl hd pins s σ H Q I (h a h2)
theorem Ez{K:RV}{xs:List V}{σ:St}{H:Hp}{Q:VK}:yT K xs σ H Q=∀a,(∀H,dD K H a xs)->Q (.ref a) H:=rfl
def Ig(t u:TS):TS:=λD σ H=>∃J:St->Hp->Prop,t { D with nx:=J } σ H/\∀σ' H',J σ' H'->u D σ' H'
theorem Fh{X:Cx}{st:Stmt}{rest:List Stmt}{t u:TS}(h1:PS X st t)(h2:xr X rest u):xr X (st::rest) (Ig t u):=by
 intro pins s σ H D I h;obtain⟨J,h,hJ⟩:=h;refine wpAny_execs_cons (eS (h1 pins s σ H { D with nx:=J } I h) λf s1 q=>?_);cases f with
 | next=>
  obtain⟨σ',H',I',q⟩:=q;exact h2 pins s1 σ' H' D I' (hJ _ _ q)
 | ret v=>exact q
 | brk=>exact q
 | cont=>exact q
section
variable {X:Cx} {es:List Expr} {te:TE} {t:TA}
theorem Du{a0:PySem.Expr}{a1:PySem.Operator}{a2:PySem.Expr}{a3:PySem.Pos}(ha:PE X (Expr.BinOp a0 a1 a2 a3) te)(hr:PA X es t):PA X ((Expr.BinOp a0 a1 a2 a3)::es) (gm te t):=iE ha hr rfl
theorem wy{a0:PySem.Expr}{a1:List Comprehension}{a2:PySem.Scope}{a3:PySem.Pos}(ha:PE X (Expr.ListComp a0 a1 a2 a3) te)(hr:PA X es t):PA X ((Expr.ListComp a0 a1 a2 a3)::es) (gm te t):=iE ha hr rfl
theorem yo{a0:PySem.Expr}{a1:List CmpOp}{a2:List Expr}{a3:PySem.Pos}(ha:PE X (Expr.Compare a0 a1 a2 a3) te)(hr:PA X es t):PA X ((Expr.Compare a0 a1 a2 a3)::es) (gm te t):=iE ha hr rfl
theorem GK{a0:PySem.Expr}{a1:List Expr}{a2:List Keyword}{a3:PySem.Pos}(ha:PE X (Expr.Call a0 a1 a2 a3) te)(hr:PA X es t):PA X ((Expr.Call a0 a1 a2 a3)::es) (gm te t):=iE ha hr rfl
theorem wz{a0:PySem.Const}{a1:Nat}{a2:PySem.Pos}(ha:PE X (Expr.Constant a0 a1 a2) te)(hr:PA X es t):PA X ((Expr.Constant a0 a1 a2)::es) (gm te t):=iE ha hr rfl
theorem vf{a0:PySem.Expr}{a1:PySem.Expr}{a2:PySem.Pos}(ha:PE X (Expr.Subscript a0 a1 a2) te)(hr:PA X es t):PA X ((Expr.Subscript a0 a1 a2)::es) (gm te t):=iE ha hr rfl
theorem GH{a0:PySem.Str}{a1:PySem.Pos}(ha:PE X (Expr.Name a0 a1) te)(hr:PA X es t):PA X ((Expr.Name a0 a1)::es) (gm te t):=iE ha hr rfl
theorem GI{a0:List Expr}{a1:PySem.Pos}(ha:PE X (Expr.List a0 a1) te)(hr:PA X es t):PA X ((Expr.List a0 a1)::es) (gm te t):=iE ha hr rfl
theorem Dt{a0:List Expr}{a1:Nat}{a2:PySem.Pos}(ha:PE X (Expr.Tuple a0 a1 a2) te)(hr:PA X es t):PA X ((Expr.Tuple a0 a1 a2)::es) (gm te t):=iE ha hr rfl
theorem GJ{a0:List (Option Expr)}{a1:List Expr}{a2:PySem.Pos}(ha:PE X (Expr.Dict a0 a1 a2) te)(hr:PA X es t):PA X ((Expr.Dict a0 a1 a2)::es) (gm te t):=iE ha hr rfl
end
theorem CL{to ti:TE}{t:Em}{v:V}{σ:St}{H:Hp}{q:St->Hp->Prop}:Jx to ti t v σ H q=to σ H λo H1=>ti σ H1 λi H2=>t o i v H2 λH3=>q σ H3:=rfl
theorem bN{t u:TS}{D:Ends}{σ:St}{H:Hp}(J:St->Hp->Prop)(h1:t { nx:=J,rt:=D.rt,bk:=D.bk,ct:=D.ct } σ H)(h2:∀σ' H',J σ' H'->u D σ' H'):Ig t u D σ H:=⟨J,h1,h2⟩
end L2
namespace Rm
def dl(b:Bool):Int:=if b then 1 else -1
def D(bs:List Bool)(i:Nat):Int:=((bs.take i).map dl).sum
structure Ln (bs:List Bool) (k m:Nat):Prop where
 lt:k<m
 ml:m<bs.length
 op:bs[k]? = some true
 cl:bs[m]? = some false
 eq:D bs (m+1)=D bs k
 gt:∀ i,k<i->i<=m->D bs k<D bs i
end Rm
namespace L2
open PySem PySem.Spec PyProof.Rows
theorem Er.okS{P:Program}{w:World}{K:RV}{mg:Str->Option Value}{base:Heap}{x qual:Str}{st:Stmt}{f:Addr}{fd:FuncData}{N ps:List Str}{k:Nat}{sp:Sp}(F:Er K x qual st f fd)(S:bh N ps (bJ st))(len:∀vs H Q E,sp vs H Q E->vs.length=ps.length)
  (hbody:∀(cdv:Value) (A:Around) (outer:List Env) (s:Shared) (H:Hp) (vs:List V) (Q:VK) (E:XK),iU k (A.deeper (envOfC qual (bJ st) s.heap.objs.size f cdv))->sp vs H Q E →
   ∃(σ:St) (t:TS),start N vs=σ/\xr (xc Bs P w K mg base N qual (bJ st) f cdv A outer s H E).nox (jc st) t/\t { nx:=λ_ H'=>Q .non H',rt:=Q } σ H):qx P w K mg base Bs (k+1) f fd ps sp:=
 F.ok S len λcdv A outer s H vs Q E hr h=>by
  obtain⟨σ,t,e,h1,h2⟩:=hbody cdv A outer s H vs Q E hr h;exact⟨t,h1,by rw[e];exact h2⟩
theorem oq{A:Around}{k:Nat}(hr:iU k A):A.units+64<cLine:=hr.units
end L2
namespace Rm
open PySem L2
abbrev Bw:=Int×Int
def bS(H:Hp)(a:Addr)(p:Bw):Prop:=H a=some (.tup [.int p.1,.int p.2])
def bu(H:Hp)(l:Addr)(ps:List Bw):Prop:=∃as:List Addr,H l=some (.lst (as.map V.ref))/\Paired (bS H) as ps
theorem bS.same{H H':Hp}(s:ar H H'){a:Addr}{p:Bw}(h:bS H a p):bS H' a p:=s _ _ h
theorem bu.same{H H':Hp}(s:ar H H'){l:Addr}{ps:List Bw}(h:bu H l ps):bu H' l ps:=
 let ⟨as,h1,h2⟩:=h
 ⟨as,s _ _ h1,gq h2 λ_ _ z=>z.same s⟩
theorem iu{H:Hp}{l f:Addr}{ps:List Bw}{xs ys:List V}(h:bu H f ps)(hl:H l=some (.lst xs))(ne:f≠l):bu (upd H l (.lst ys)) f ps:=by
 obtain⟨as,h1,h2⟩:=h;refine⟨as,by rw[aO ne];exact h1,gq h2 λa p z=>?_⟩;have z':H a=some (.tup [.int p.1,.int p.2]):=z;show upd _ _ _ a=_;rw[aO (EE z' hl (by intro q;cases q))];exact z'
theorem vE{H:Hp}{l hd:Addr}{as:List Addr}{ps:List Bw}(h2:Paired (bS H) as ps)(hn:H hd=none):bu (upd H hd (.lst (as.map V.ref))) hd ps:=
 ⟨as,aE,gq h2 λa p z=>by
  have z':H a=some (.tup [.int p.1,.int p.2]):=z;show upd _ _ _ a=_;rw[aO (am z' hn)];exact z'⟩
theorem bu.get{H:Hp}{l:Addr}{ps:List Bw}(h:bu H l ps):∃as:List Addr,H l=some (.lst (as.map V.ref))/\as.length=ps.length/\∀(i:Nat) x,(as.map V.ref)[i]? = some x->∃a p,x=.ref a/\ps[i]? = some p/\bS H a p:=by
 obtain⟨as,h1,h2⟩:=h;refine⟨as,h1,au h2,λi x hx=>?_⟩;rw[aP] at hx;cases e:as[i]? with
 | none=>rw[e] at hx;cases hx
 | some a=>
  rw[e] at hx;obtain⟨p,hp,ht⟩:=gu h2 e;exact⟨a,p,(bH hx).symm,hp,ht⟩
def jw(p:Bw):PyData:=.tuple [.int p.1,.int p.2]
def ow(ps:List Bw):PyData:=.list (ps.map jw)
theorem sA{K:RV}{H:Hp}{a:Addr}{p:Bw}(h:bS H a p):Rep K H (.ref a) (jw p):=.tup (dD.of h) (.cons (.int _) (.cons (.int _) .nil))
theorem vD{K:RV}{H:Hp}:∀{as:List Addr} {ps:List Bw},Paired (bS H) as ps->qK K H (as.map V.ref) (ps.map jw)
 | _,_,.nil=>.nil
 | _,_,.cons r t=>.cons (sA r) (vD t)
theorem qH{K:RV}{H:Hp}{l:Addr}{ps:List Bw}(h:bu H l ps):Rep K H (.ref l) (ow ps):=by
 obtain⟨as,h1,h2⟩:=h;exact .lst (bw.of h1) (vD h2)
theorem sB(p:Bw):(jw p).canLay0=true:=rfl
theorem rF:∀ps:List Bw,PyData.canLayAll0 (ps.map jw)=true
 | []=>rfl
 | p::ps=>by
  show (PyData.canLay0 (jw p)&&PyData.canLayAll0 (ps.map jw))=true;rw[sB,rF ps];rfl
theorem qI(ps:List Bw):(ow ps).canLay0=true:=rF ps
theorem Bo(p:Bw):(jw p).depth=1:=by simp[jw,PyData.depth,PyData.depthAll]
theorem ou:∀ps:List Bw,PyData.depthAll (ps.map jw)<=1
 | []=>ac _
 | p::ps=>by
  show max (PyData.depth (jw p)) (PyData.depthAll (ps.map jw))<=1;rw[Bo];have:=ou ps;lia
theorem t7(ps:List Bw):(ow ps).depth<=2:=by
 show PyData.depthAll (ps.map jw)+1<=2;have:=ou ps;lia
theorem Ao(p q:Bw):PyData.eqv (jw p) (jw q)=decide (p=q):=by
 obtain⟨a,b⟩:=p;obtain⟨c,d⟩:=q;simp only[jw,PyData.eqv,PyData.eqvAll,lT,ox];by_cases h1:a=c<;>by_cases h2:b=d<;>simp[h1,h2]
theorem rG:∀ps qs:List Bw,PyData.eqvAll (ps.map jw) (qs.map jw)=decide (ps=qs)
 | [],[]=>rfl
 | [],_::_=>by simp[PyData.eqvAll]
 | _::_,[]=>by simp[PyData.eqvAll]
 | p::ps,q::qs=>by
  show (PyData.eqv (jw p) (jw q)&&PyData.eqvAll (ps.map jw) (qs.map jw))=_;rw[Ao,rG ps qs];by_cases h1:p=q<;>by_cases h2:ps=qs<;>simp[h1,h2]
theorem xo(ps qs:List Bw):PyData.eqv (ow ps) (ow qs)=decide (ps=qs):=rG ps qs
def fJ(p q:Bw):Bool:=decide (p.1<q.1)&&(decide (q.1<p.2)&&decide (p.2<q.2))
def DD(K:RV):Sp:=λvs H Q _=>∃(a:Addr) (ns:List Int) (k:Nat),vs=[.ref a,.int k]/\bw K H a (ns.map V.int)/\Q (.int (ns.getD k 0)) H
def M1(a k:Int):Int:=(a % 10 ^ 20+17*k+k*k*k+5)*48271 % 1000003*69621 % 999983
def Hc:Sp:=λvs H Q _=>∃a k:Int,vs=[.int a,.int k]/\0<=k/\k<=1000/\Q (.int (M1 a k)) H
def sP:Sp:=λvs H Q _=>∃l ps,vs=[.ref l]/\bu H l ps/\((∀p∈ps,∀q∈ps,fJ p q=false)->Q .non H) ∧
 ∀p∈ps,∀q∈ps,fJ p q=true->∀t a b H',H t=none->ar H H'->H' t=some (.tup [.ref a,.ref b])->bS H' a p->bS H' b q->Q (.ref t) H'
def pT (K:RV):Sp:=λvs H Q _=>∃(x:V) (t:Value) (b c:Bool),vs=[x]/\pO K H x t/\PySem.W.kitOne K t (.type "int")=some b/\PySem.W.kitOne K t (.type "bool")=some c/\Q (.bl (b&&!c)) H
def wR(K:RV):Sp:=λvs H Q _=>∃(a:Addr) (ns:List Int),vs=[.ref a]/\bw K H a (ns.map V.int)/\ns.length<=63/\∀H',Q (.bl true) H'
end Rm
namespace Rm
open PySem PySem.W PyProof.Rows
section
variable {r:Nat->Int} {N:Nat} {cmp:Nat->Nat->(Bool->Shared->Prop)->Shared->Prop} {s:Shared}
def Told(r:Nat->Int)(N:Nat)(cmp:Nat->Nat->(Bool->Shared->Prop)->Shared->Prop)(s:Shared):Prop:=
 ∀i j,i<N->j<N->∀C:Bool->Shared->Prop,C (decide (r i<r j)) s->cmp i j C s
def In(N:Nat)(p:Array Nat):Prop:=p.size=N/\∀i,p.getD i 0<N
def Kk(r:Nat->Int)(p:Array Nat)(i:Nat):Int:=r (p.getD i 0)
def tu(r:Nat->Int)(p:Array Nat)(k:Nat):Prop:=∀i j,i<=j->j<k->Kk r p i<=Kk r p j
def Hs(r:Nat->Int)(p:Array Nat)(k:Nat):Prop:=∀i j,i<=j->j<k->Kk r p j<=Kk r p i
theorem oF{p q:Array Nat}{i j:Nat}(h:p[i]? = q[j]?):Kk r p i=Kk r q j:=by
 unfold Kk;rw[cP,cP,h]
theorem wB{p:Array Nat}{i j:Nat}(hj:j<=p.size)(k:Nat):Kk r (kas_rev p i j) k=if i<=k/\k<j then Kk r p (i+j - 1-k) else Kk r p k:=by
 have e:=getElem?_mirror_all (i:=i) hj k;unfold kas_rev;by_cases h1:i<=k/\k<j
 ·rw[RN h1] at e ⊢;exact oF e
 ·rw[RM h1] at e ⊢;exact oF e
theorem vJ{p:Array Nat}{src d:Nat}(hs:src<p.size)(hd:d<=src)(k:Nat):Kk r (bubble p src d) k=if k=src-d then Kk r p src else if src-d<k/\k<=src then Kk r p (k - 1) else Kk r p k:=by
 have e:=getElem?_bubble hs d hd k;by_cases h1:k=src-d
 ·rw[RN h1] at e ⊢;exact oF e
 ·rw[RM h1] at e ⊢;by_cases h2:src-d<k/\k<=src
  ·rw[RN h2] at e ⊢;exact oF e
  ·rw[RM h2] at e ⊢;exact oF e
theorem In.of_perm{p q:Array Nat}(h:In N p)(hp:q.Perm p):In N q:=by
 refine⟨hp.size_eq.trans h.1,λi=>?_⟩;rw[cP];cases e:q[i]? with
 | none=>
  have:=h.2 N;rw[cP,gU (iG h.1)] at this;exact this
 | some x=>
  have hx:x∈q:=nP e;have hx':x∈p:=hp.mem_iff.mp hx;obtain⟨j,hj,rfl⟩:=Array.mem_iff_getElem.mp hx';have:=h.2 j;rw[cP,cK hj] at this;exact this
theorem In.rev{p:Array Nat}(h:In N p)(i j:Nat):In N (kas_rev p i j):=h.of_perm (Qn _ _ _ _)
theorem t8(T:Told r N cmp s){G:Nat->Shared->Prop}{p:Array Nat}(hp:In N p):∀(f n:Nat),1<=n->tu r p n->(∀m,n<=m->m<=n+f->tu r p m->(m<n+f->Kk r p m<Kk r p (m - 1))->G m s)->(kas_asc p f n).kasWp cmp G s
 | 0,n,_,ha,hG=>hG n (aH _) (aH _) ha (λh=>absurd h (by lia))
 | f+1,n,h1,ha,hG=>by
  refine T _ _ (hp.2 _) (hp.2 _) _ ?_;by_cases c:Kk r p n<Kk r p (n - 1)
  ·have c':r (p.getD n 0)<r (p.getD (n - 1) 0):=c;rw[RQ c'];exact hG n (aH _) (by lia) ha λ_=>c
  ·have c':¬r (p.getD n 0)<r (p.getD (n - 1) 0):=c;rw[RP c'];refine t8 T hp f (n+1) (by lia) (λi j hij hj=>?_) λm a b c2 d=>hG m (by lia) (by lia) c2 λe=>d (by lia);by_cases e:j=n
   ·subst e;by_cases e2:i=j
    ·subst e2;exact eG _
    ·have:=ha i (j - 1) (by lia) (by lia);lia
   ·exact ha i j hij (by lia)
def KL(r:Nat->Int)(p:Array Nat)(n q:Nat):Prop:=q<n/\∀k,n-(q+1)<=k->k<n->Kk r p k=Kk r p (n - 1)
theorem wf{p:Array Nat}{n q:Nat}(hn:n<=p.size)(h:KL r p n q)(k:Nat):Kk r (kas_rev p (n-(q+1)) n) k=Kk r p k:=by
 rw[wB hn]
 split
 ·rw[h.2 _ (by have:=h.1;lia) (by lia),h.2 k (by lia) (by lia)]
 ·rfl
theorem Hs.same{p p':Array Nat}{n:Nat}(h:Hs r p n)(e:∀k,Kk r p' k=Kk r p k):Hs r p' n:=λi j a b=>by rw[e,e];exact h i j a b
theorem qr(T:Told r N cmp s){G:Array Nat×Nat×Nat->Shared->Prop}:∀(f:Nat) (p:Array Nat) (n q:Nat),In N p->n+f<=N->Hs r p n->KL r p n q →
  (∀p' n' q',p'.Perm p->n<=n'->n'<=n+f->Hs r p' n'->KL r p' n' q'->G (p',n',q') s)->(kas_desc f p n q).kasWp cmp G s
 | 0,p,n,q,_,_,hd,ht,hG=>hG p n q (.refl _) (aH _) (aH _) hd ht
 | f+1,p,n,q,hp,hN,hd,ht,hG=>by
  refine T _ _ (hp.2 _) (hp.2 _) _ ?_;by_cases c:Kk r p n<Kk r p (n - 1)
  ·have c':r (p.getD n 0)<r (p.getD (n - 1) 0):=c;rw[RQ c'];have hq:=ht.1;have grow:∀p':Array Nat,p'.Perm p->(∀k,Kk r p' k=Kk r p k)->(kas_desc f p' (n+1) 0).kasWp cmp G s:=λp' hpp e=>by
    refine qr T f p' (n+1) 0 (hp.of_perm hpp) (by lia) (λi j hij hj=>?_) ⟨by lia,λk h1 h2=>by have e9:k=n:=(by lia);rw[e9];rfl⟩ λp2 n2 q2 a b c2 d e2=>hG p2 n2 q2 (a.trans hpp) (by lia) (by lia) d e2;rw[e,e];by_cases e3:j=n
    ·subst e3;by_cases e4:i=j
     ·subst e4;exact eG _
     ·have:=hd i (j - 1) (by lia) (by lia);lia
    ·exact hd i j hij (by lia)
   show KasT.kasWp cmp (if true=true then (if q > 0 then kas_desc f (kas_rev p (n-(q+1)) n) (n+1) 0 else kas_desc f p (n+1) 0) else _) G s;rw[RN rfl]
   split
   ·exact grow _ (Qn _ _ _ _) (wf (by rw[hp.1];lia) ht)
   ·exact grow p (.refl _) λ_=>rfl
  ·have c':¬r (p.getD n 0)<r (p.getD (n - 1) 0):=c;rw[RP c'];show KasT.kasWp cmp (if false=true then _ else KasT.ask (p.getD (n - 1) 0) (p.getD n 0) λd=>if d=true then .ret (p,n,q) else kas_desc f p (n+1) (q+1)) G s;rw[RM (by simp)];refine T _ _ (hp.2 _) (hp.2 _) _ ?_;by_cases d:Kk r p (n - 1)<Kk r p n
   ·have d':r (p.getD (n - 1) 0)<r (p.getD n 0):=d;rw[RQ d'];exact hG p n q (.refl _) (aH _) (by lia) hd ht
   ·have d':¬r (p.getD (n - 1) 0)<r (p.getD n 0):=d;rw[RP d'];have hq:=ht.1;have eq:Kk r p n=Kk r p (n - 1):=by lia
    refine qr T f p (n+1) (q+1) hp (by lia) (λi j hij hj=>?_) ⟨by lia,λk h1 h2=>?_⟩ λp2 n2 q2 a b c2 d2 e2=>hG p2 n2 q2 a (by lia) (by lia) d2 e2
    ·by_cases e3:j=n
     ·subst e3;by_cases e4:i=j
      ·subst e4;exact eG _
      ·have:=hd i (j - 1) (by lia) (by lia);lia
     ·exact hd i j hij (by lia)
    ·show Kk r p k=Kk r p n;by_cases e3:k=n
     ·rw[e3]
     ·rw[eq];exact ht.2 k (by lia) (by lia)
def K6(r:Nat->Int)(p:Array Nat)(nrem:Nat)(G:Nat×Array Nat->Shared->Prop)(s:Shared):Prop:=∀n p',p'.Perm p->1<=n->n<=nrem->tu r p' n->G (n,p') s
theorem sL(T:Told r N cmp s){G:Nat×Array Nat->Shared->Prop}{p:Array Nat}{n:Nat}(hp:In N p)(h1:1<=n)(hn:n<=N)(hd:Hs r p n)(hG:K6 r p N G s):(kas_tail3 n N p).kasWp cmp G s:=by
 unfold kas_tail3;rw[KasT.kasWp_bind];refine t8 T (hp.rev 0 n) (N-n) n h1 (λi j hij hj=>?_) λm a b c _=>hG m _ (Qn _ _ _ _) (by lia) (by lia) c;rw[wB (by rw[hp.1];exact hn),wB (by rw[hp.1];exact hn),RN (by lia),RN (by lia)];exact hd _ _ (by lia) (by lia)
theorem K6.perm{p q:Array Nat}{G:Nat×Array Nat->Shared->Prop}(h:K6 r p N G s)(hp:q.Perm p):K6 r q N G s:=λn p' a b c d=>h n p' (a.trans hp) b c d
theorem ot(T:Told r N cmp s){G:Nat×Array Nat->Shared->Prop}{p:Array Nat}{n:Nat}(hp:In N p)(hn:n+1<=N)(h1:1<=n)(hd:Hs r p (n+1))(hG:K6 r p N G s):(kas_descPart n N p).kasWp cmp G s:=by
 unfold kas_descPart;rw[KasT.kasWp_bind];refine qr T _ p (n+1) 0 hp (by lia) hd ⟨by lia,λk a b=>by have e9:k=n:=(by lia);rw[e9];rfl⟩ λp' n' q' a b c d e=>?_;dsimp only;have hp':=hp.of_perm a
 split
 ·exact sL T (hp'.rev _ _) (by lia) (by lia) (d.same (wf (by rw[hp'.1];lia) e)) (hG.perm ((Qn _ _ _ _).trans a))
 ·exact sL T hp' (by lia) (by lia) d (hG.perm a)
theorem zT(T:Told r N cmp s){G:Nat×Array Nat->Shared->Prop}{p:Array Nat}(hp:In N p)(hN:1<=N)(hG:K6 r p N G s):(kas_count N p).kasWp cmp G s:=by
 unfold kas_count;rw[KasT.kasWp_bind];refine t8 T hp (N - 1) 1 (aH _) (λi j a b=>by have e9:i=j:=(by lia);rw[e9];exact eG _) λn h1 h2 ha hb=>?_;by_cases e:n=N
 ·subst e;rw[RN (by simp)];exact hG n p (.refl _) h1 (aH _) ha
 ·rw[RM (by simp[e])];have hlt:=hb (by lia)
  split
  ·refine T _ _ (hp.2 _) (hp.2 _) _ ?_;by_cases c:Kk r p 0<Kk r p (n - 1)
   ·have c':r (p.getD 0 0)<r (p.getD (n - 1) 0):=c;rw[RQ c'];exact hG n p (.refl _) h1 (by lia) ha
   ·have c':¬r (p.getD 0 0)<r (p.getD (n - 1) 0):=c;rw[RP c'];have alike:∀k,k<n->Kk r p k=Kk r p (n - 1):=λk hk=>by
     have a1:=ha 0 k (by lia) hk;have a2:=ha k (n - 1) (by lia) (by lia);lia
    have same:∀k,Kk r (kas_rev p 0 n) k=Kk r p k:=λk=>by
     rw[wB (by rw[hp.1];lia)]
     split
     ·rw[alike _ (by lia),alike k (by lia)]
     ·rfl
    refine ot T (hp.rev 0 n) (by lia) h1 (Hs.same (p:=p) (λi j hij hj=>?_) same) (hG.perm (Qn _ _ _ _));by_cases e3:j=n
    ·subst e3;by_cases e4:i=j
     ·subst e4;exact eG _
     ·rw[alike i (by lia)];lia
    ·rw[alike i (by lia),alike j (by lia)];exact eG _
  ·have:n=1:=by lia
   subst this;refine ot T hp (by lia) (aH _) (λi j hij hj=>?_) hG;have hj':j=0\/j=1:=by lia
   have hi':i=0\/i=1:=by lia
   rcases hj' with rfl | rfl<;>rcases hi' with rfl | rfl
   ·exact eG _
   ·lia
   ·have:Kk r p 1<Kk r p 0:=hlt;lia
   ·exact eG _
theorem place_spec(T:Told r N cmp s){G:Nat->Shared->Prop}{p:Array Nat}{k:Nat}(hp:In N p)(hs:tu r p k):∀(f l e:Nat),e<=k->e<=l+f->l<=e->(∀i,i<l->Kk r p i<=Kk r p k)->(∀i,e<=i->i<k->Kk r p k<Kk r p i) →
  (∀l,l<=k->(∀i,i<l->Kk r p i<=Kk r p k)->(∀i,l<=i->i<k->Kk r p k<Kk r p i)->G l s)->(kas_place p k f l e).kasWp cmp G s
 | 0,l,e,h1,h2,h3,h4,h5,hG=>by
  have:l=e:=by lia
  subst this;exact hG l h1 h4 h5
 | f+1,l,e,h1,h2,h3,h4,h5,hG=>by
  unfold kas_place
  split
  ·have:l=e:=by lia
   subst this;exact hG l h1 h4 h5
  ·refine T _ _ (hp.2 _) (hp.2 _) _ ?_;by_cases c:Kk r p k<Kk r p ((l+e) / 2)
   ·have c':r (p.getD k 0)<r (p.getD ((l+e) / 2) 0):=c;rw[RQ c'];refine place_spec T hp hs f l ((l+e) / 2) (by lia) (by lia) (by lia) h4 (λi a b=>?_) hG;have:=hs ((l+e) / 2) i a b;lia
   ·have c':¬r (p.getD k 0)<r (p.getD ((l+e) / 2) 0):=c;rw[RP c'];refine place_spec T hp hs f ((l+e) / 2+1) e h1 (by lia) (by lia) (λi a=>?_) h5 hG;have:=hs i ((l+e) / 2) (by lia) (by lia);lia
theorem z9{p:Array Nat}{k l:Nat}(hk:k<p.size)(hs:tu r p k)(hl:l<=k)(h1:∀i,i<l->Kk r p i<=Kk r p k)(h2:∀i,l<=i->i<k->Kk r p k<Kk r p i):tu r (bubble p k (k-l)) (k+1):=λi j hij hj=>by
 rw[vJ hk (by lia),vJ hk (by lia)];have e:k-(k-l)=l:=by lia
 rw[e];by_cases i1:i=l
 ·rw[RN i1];by_cases j1:j=l
  ·rw[RN j1];exact eG _
  ·rw[RM j1,RN (by lia)];have:=h2 (j - 1) (by lia) (by lia);lia
 ·rw[RM i1];by_cases i2:l<i/\i<=k
  ·rw[RN i2,RM (by lia),RN (by lia)];exact hs _ _ (by lia) (by lia)
  ·rw[RM i2];by_cases j1:j=l
   ·rw[RN j1];exact h1 i (by lia)
   ·rw[RM j1];by_cases j2:l<j/\j<=k
    ·rw[RN j2];exact hs _ _ (by lia) (by lia)
    ·rw[RM j2];exact hs _ _ (by lia) (by lia)
theorem xp(T:Told r N cmp s){G:Array Nat->Shared->Prop}:∀(f:Nat) (p:Array Nat) (k:Nat),In N p->k+f=N->tu r p k->(∀p',p'.Perm p->tu r p' N->G p' s)->(kas_bin f p k).kasWp cmp G s
 | 0,p,k,hp,hk,hs,hG=>hG p (.refl _) (by have e9:k=N:=(by lia);rw[<-e9];exact hs)
 | f+1,p,k,hp,hk,hs,hG=>by
  unfold kas_bin;rw[KasT.kasWp_bind];refine place_spec T hp hs k 0 k (aH _) (by lia) (by lia) (λi h=>absurd h (by lia)) (λi h h'=>absurd h' (by lia)) λl h1 h2 h3=>?_;refine xp T f _ (k+1) (hp.of_perm (bubble_perm _ _ _)) (by lia) (z9 (by rw[hp.1];lia) hs h1 h2 h3) λp' a b=>hG p' (a.trans (bubble_perm _ _ _)) b
theorem uX(T:Told r N cmp s){G:Array Nat->Shared->Prop}(hN:1<=N)(hG:∀p:Array Nat,p.Perm (List.toArray (List.range N))->tu r p N->G p s):(kas_sort N).kasWp cmp G s:=by
 have h0:In N (List.toArray (List.range N)):=⟨by simp,λi=>by
  rw[cP];cases e:(List.toArray (List.range N))[i]? with
  | none=>exact hN
  | some x=>
   have:=nP e;simpa using this⟩
 unfold kas_sort;rw[KasT.kasWp_bind];refine zT T h0 hN λn p a b c d=>?_;dsimp only;have hp:=h0.of_perm a
 split
 ·have e:max n 1=n:=by lia
  rw[e];exact xp T _ p n hp (by lia) d λp' x y=>hG p' (x.trans a) y
 ·have:n=N:=by lia
  subst this;exact hG p a d
end
section
variable {prog:Program} {w:World} {A:Around} {E:Value->Shared->Prop} {s:Shared}
def gH(vs:List Value)(p:Array Nat):Array Value:=List.toArray (p.toList.map λi=>vs.getD i Value.none)
theorem Az:∀vs:List Value,vs.length<2->(vs.toArray.zip vs.toArray).map (·.2)=gH vs (List.toArray (List.range vs.length))
 | [],_=>by simp[gH]
 | [v],_=>by simp[gH]
 | _::_::_,h=>by simp at h;lia
def Kp(a:Addr)(h h':Heap):Prop:=∀b o,b≠a->h.get? b=some o->h'.get? b=some o
theorem tH {a:Addr} {vs:List Value} {n:Nat} {P:PySem.Fin->Shared->Prop} {r:Nat->Int} (κ:SortKind) (ho:s.heap.get? a=some (seqObj "list" vs.toArray n)) (h64:vs.length<64)
  (hk:2<=vs.length->∀(h':Heap) (Q:SortKind->Shared->Prop),Kp a s.heap h'->Q κ { s with heap:=h' }->wpAny (model prog w) A (keyKind' vs.toArray) Q E { s with heap:=h' })
  (hc:∀i j,i<vs.length->j<vs.length->∀(h':Heap) (C:Bool->Shared->Prop),Kp a s.heap h'->C (decide (r i<r j)) { s with heap:=h' }->wpAny (model prog w) A (keyLt' κ (vs.getD i Value.none) (vs.getD j Value.none)) C (λ_ _=>False) { s with heap:=h' })
  (h:∀p:Array Nat,p.Perm (List.toArray (List.range vs.length))->tu r p vs.length->P (.done (.ret .none)) { s with heap:=sortedHeap s.heap a vs (gH vs p) }) :
  wpAny (model prog w) A (Builtin.«list.sort» ⟨[.ref a],[]⟩) P E s:=by
 rw[list_sort_plain];have ha:a<s.heap.objs.size:=aN ho;refine wpAny_bind (listItems_at ho rfl ?_);refine wpAny_bind (listUpdate_at ho rfl ?_);obtain⟨e1,ho1⟩:∃e1,(s.heap.update a (Obj.mapSeq λ_=>#[])).get? a=some (seqObj "list" #[] e1):=⟨_,Qo ho (λ_=>#[])⟩
 refine wpAny_bind (Qp ho1 rfl ?_);refine wpAny_bind (wpAny_newTuple ?_);refine wpAny_bind (Qq ?_);refine Qb ?_;have ho6:(((s.heap.update a (Obj.mapSeq λ_=>#[])).push (seqObj "tuple" vs.toArray 0)).push (seqObj "list" #[] 0)).get? a=some (seqObj "list" #[] e1):=by
  rw[jB _ _ _ (by rw[size_push',iH];exact bC (fq ha)),jB _ _ _ (by rw[iH];exact bC ha)];exact ho1
 have kp6:Kp a s.heap (((s.heap.update a (Obj.mapSeq λ_=>#[])).push (seqObj "tuple" vs.toArray 0)).push (seqObj "list" #[] 0)):=λb o hb e=>
  aD _ (aD _ (by rw[gC _ _ _ _ hb];exact e))
 show wpAny (model prog w) A _ P E { s with heap:=((s.heap.update a (Obj.mapSeq λ_=>#[])).push (seqObj "tuple" vs.toArray 0)).push (seqObj "list" #[] 0) };dsimp only;have hsz:vs.toArray.size=vs.length:=by simp
 by_cases h2:vs.toArray.size<2
 ·rw[RN h2,RN h2];refine wpAny_bind (wpAny_pure ?_);rw[StateT.run_pure];refine wpAny_bind (wpAny_pure ?_);dsimp only;refine wpAny_bind (Qp ho6 rfl ?_);refine wpAny_bind (listUpdate_at ho6 rfl ?_ (hsz2:=by rw[Array.size_map];show (pairsOf vs).size<=_;rw[pairsOf_size,Qf];lia));simp only[bne_self_eq_false,bW,RU];have e:(arrOf (SortSt.mk' general' (vs.toArray.zip vs.toArray) #[] 7 none)).map (·.2)=gH vs (List.toArray (List.range vs.length)):=by
   exact Az vs (by lia)
  rw[e];refine wpAny_pure (h (List.toArray (List.range vs.length)) (Array.Perm.refl _) ?_);intro i j hij hj;have e9:i=j:=by lia
  rw[e9];exact eG _
 ·rw[RM h2,RM h2];refine wpAny_bind (hk (by lia) _ _ kp6 ?_);have T:Told r vs.length (kas_ask prog w A κ vs) { s with heap:=((s.heap.update a (Obj.mapSeq λ_=>#[])).push (seqObj "tuple" vs.toArray 0)).push (seqObj "list" #[] 0) }:=λi j hi hj C hC=>hc i j hi hj _ C kp6 hC;refine wpAny_bind (Q8 (kat_run (ks:=vs) (vs:=vs) (Q:=λst' s'=>s'={ s with heap:=((s.heap.update a (Obj.mapSeq λ_=>#[])).push (seqObj "tuple" vs.toArray 0)).push (seqObj "list" #[] 0) }/\∃p:Array Nat,p.size=vs.length/\arrOf st'=p.map (kas_item (vs.toArray.zip vs.toArray))/\failedOf st'=none/\p.Perm (List.toArray (List.range vs.length))/\tu r p vs.length)
   (G:=λp s'=>s'={ s with heap:=((s.heap.update a (Obj.mapSeq λ_=>#[])).push (seqObj "tuple" vs.toArray 0)).push (seqObj "list" #[] 0) }/\p.Perm (List.toArray (List.range vs.length))/\tu r p vs.length)
   rfl (by lia) h64 (λp' st' s' a1 a2 a3 a4=>⟨a4.1,p',a1,a2,a3,a4.2⟩) (uX T (by lia) λp hp ha=>⟨rfl,hp,ha⟩)) ?_ λ_ _ e=>e)
  rintro⟨⟨⟩,st'⟩ s' ⟨rfl,p,hps,har,hf,hp,hs⟩;dsimp only;have hout:=kat_snds (ks:=vs) (vs:=vs) rfl har;rw[hout];refine wpAny_bind (Qp ho6 rfl ?_);refine wpAny_bind (listUpdate_at ho6 rfl ?_ (hsz2:=by rw[aS,aA,cY,hps,Qf];lia));rw[hf];simp only[bne_self_eq_false,bW,RU];exact wpAny_pure (h p hp hs)
theorem nV {l:Addr} {vs:List Value} {Q:Value->Shared->Prop} {r:Nat->Int} (κ:SortKind) (hcol:∀(A:Around) (E:Value->Shared->Prop) (Q:List Value->Shared->Prop),Q vs { s with heap:=(s.heap.push (seqObj "list" #[] 0)).update s.heap.objs.size (Obj.mapSeq (·++vs.toArray)) }->wpAny (model prog w) A (collect (.ref l)) Q E s) (h64:vs.length<64)
  (hk:2<=vs.length->∀(h':Heap) (Q:SortKind->Shared->Prop),(∀b o,s.heap.get? b=some o->h'.get? b=some o)->Q κ { s with heap:=h' }->wpAny (model prog w) A.in1.in1 (keyKind' vs.toArray) Q (λ_ _=>False) { s with heap:=h' })
  (hc:∀i j,i<vs.length->j<vs.length->∀(h':Heap) (C:Bool->Shared->Prop),(∀b o,s.heap.get? b=some o->h'.get? b=some o)->C (decide (r i<r j)) { s with heap:=h' }->wpAny (model prog w) A.in1.in1 (keyLt' κ (vs.getD i Value.none) (vs.getD j Value.none)) C (λ_ _=>False) { s with heap:=h' })
  (h:∀p:Array Nat,p.Perm (List.toArray (List.range vs.length))->tu r p vs.length->Q (.ref (s.heap.objs.size+1)) { s with heap:=sortedAll s.heap vs (gH vs p) }) :
  wpAny (model prog w) A (call (.builtin "sorted") [.ref l]) Q E s:=by
 refine Calls.call_function_entry kind_sorted plain_sorted entry_sorted (args_sorted1 _) ?_;unfold Builtin.«sorted»;refine wpAny_bind (m:=checkCount "sorted" 1 1 _) (wpAny_pure ?_);refine wpAny_bind (hcol _ _ _ ?_);refine wpAny_bind (Qq ?_);have hsz:((s.heap.push (seqObj "list" #[] 0)).update s.heap.objs.size (Obj.mapSeq (·++vs.toArray))).objs.size=s.heap.objs.size+1:=by
  rw[iH,size_push']
 have hoL:(((s.heap.push (seqObj "list" #[] 0)).update s.heap.objs.size (Obj.mapSeq (·++vs.toArray))).push (seqObj "list" vs.toArray 0)).get? (s.heap.objs.size+1)=some (seqObj "list" vs.toArray 0):=by
  rw[<-hsz];exact aQ _ rfl
 have keep:∀b o,s.heap.get? b=some o->(((s.heap.push (seqObj "list" #[] 0)).update s.heap.objs.size (Obj.mapSeq (·++vs.toArray))).push (seqObj "list" vs.toArray 0)).get? b=some o:=λb o q=>by
  have hlt:b<s.heap.objs.size:=aN q;rw[jB _ _ _ (by rw[hsz];exact bC (fq hlt)),gC _ _ _ _ (bC hlt),jB _ _ _ (bC hlt)];exact q
 have keep2:∀h',Kp (s.heap.objs.size+1) (((s.heap.push (seqObj "list" #[] 0)).update s.heap.objs.size (Obj.mapSeq (·++vs.toArray))).push (seqObj "list" vs.toArray 0)) h'->∀b o,s.heap.get? b=some o->h'.get? b=some o:=λh' k b o q=>
  k b o (bC (fq (aN q))) (keep b o q)
 show wpAny _ _ _ _ _ { s with heap:=((s.heap.push (seqObj "list" #[] 0)).update s.heap.objs.size (Obj.mapSeq (·++vs.toArray))).push (seqObj "list" vs.toArray 0) };rw[hsz];refine wpAny_bind (Qb (Qr slot_list_sort ⟨_,hoL,rfl⟩ entry_list_sort (tH (r:=r) κ hoL h64 (λh2 h' Q k q=>?_) (λi j hi hj h' C k q=>?_) λp hp ha=>⟨_,rfl,?_⟩) (args_list_sort _)))
 ·exact Q8 (hk h2 h' Q (keep2 h' k) q) (λ_ _ z=>z) λ_ _ z=>z.elim
 ·exact hc i j hi hj h' C (keep2 h' k) q
 ·exact wpAny_pure ⟨_,rfl,h p hp ha⟩
theorem rB{l:Addr}{vs:List Value}{Q:Value->Shared->Prop}{r:Nat->Int}(κ:SortKind)(hl:s.heap.IsList l vs.toArray)(h64:vs.length<64)
  (hk:2<=vs.length->∀(h':Heap) (Q:SortKind->Shared->Prop),(∀b o,s.heap.get? b=some o->h'.get? b=some o)->Q κ { s with heap:=h' }->wpAny (model prog w) A.in1.in1 (keyKind' vs.toArray) Q (λ_ _=>False) { s with heap:=h' })
  (hc:∀i j,i<vs.length->j<vs.length->∀(h':Heap) (C:Bool->Shared->Prop),(∀b o,s.heap.get? b=some o->h'.get? b=some o)->C (decide (r i<r j)) { s with heap:=h' }->wpAny (model prog w) A.in1.in1 (keyLt' κ (vs.getD i Value.none) (vs.getD j Value.none)) C (λ_ _=>False) { s with heap:=h' })
  (h:∀p:Array Nat,p.Perm (List.toArray (List.range vs.length))->tu r p vs.length->Q (.ref (s.heap.objs.size+1)) { s with heap:=sortedAll s.heap vs (gH vs p) }) :
  wpAny (model prog w) A (call (.builtin "sorted") [.ref l]) Q E s:=
 nV κ (λA E Q q=>collect_list hl q (by rw[Qf];lia)) h64 hk hc h
theorem xj{l:Addr}{vs:List Value}{Q:List Value->Shared->Prop}(hl:IsTup s.heap l vs.toArray)
  (h:Q vs { s with heap:=(s.heap.push (seqObj "list" #[] 0)).update s.heap.objs.size (Obj.mapSeq (·++vs.toArray)) }) (hsz:vs.length<=sizeLine) :
  wpAny (model prog w) A (collect (.ref l)) Q E s:=by
 obtain⟨o,ho,hc,n,hd⟩:=id hl;unfold collect;refine wpAny_bind (wpAny_runValue (Qs entry_proto_collect' ?_));show wpAny _ _ (do again (.builtin "list.__iadd__" ⟨[<-newList [],.ref l],[]⟩)) _ _ s;refine wpAny_bind (Qq (wpAny_pure ⟨Code.quiet_builtin _ (by decide +kernel),Qs entry_list_iadd' ?_⟩));show wpAny _ _ (Builtin.List.listExtendWith (.ref s.heap.objs.size) (.ref l) (.ref s.heap.objs.size)) _ _ { s with heap:=s.heap.push (seqObj "list" #[] 0) };unfold Builtin.List.listExtendWith;have ho':(s.heap.push (seqObj "list" #[] 0)).get? l=some o:=aD _ ho;refine wpAny_bind (wpAny_typeOf (T:="tuple") ⟨o,ho',hc⟩ ?_);have ht:(Value.type "tuple"==Value.type "tuple")=true:=by rfl
 rw[RN (by rw[ht];simp)];refine wpAny_bind (listItems_at ho' hd ?_);refine wpAny_bind (listItems_at (xs:=#[]) (n:=0) (aQ _ rfl) rfl ?_);rw[RM (by simp)];refine wpAny_bind (listUpdate_at (xs:=#[]) (n:=0) (aQ _ rfl) rfl ?_ (ac _) (by show (#[]++vs.toArray).size<=sizeLine+1;simp only[Array.size_append,aS,jz];lia));refine wpAny_pure ?_;show wpAny (model prog w) A (do
   let o <-load s.heap.objs.size
   match o.data with
   | .seq xs _=>pure xs.toList
   | _=>unsupported "internal:collect") Q E { s with heap:=(s.heap.push (seqObj "list" #[] 0)).update s.heap.objs.size (Obj.mapSeq (·++vs.toArray)) }
 refine wpAny_bind (wpAny_load (Qo (aQ _ rfl) _) ?_);show wpAny _ _ (pure ((#[]:Array Value)++vs.toArray).toList) Q E _;rw[show ((#[]:Array Value)++vs.toArray).toList=vs by simp];exact wpAny_pure h
theorem vR{l:Addr}{vs:List Value}{Q:Value->Shared->Prop}{r:Nat->Int}(κ:SortKind)(hl:IsTup s.heap l vs.toArray)(h64:vs.length<64)
  (hk:2<=vs.length->∀(h':Heap) (Q:SortKind->Shared->Prop),(∀b o,s.heap.get? b=some o->h'.get? b=some o)->Q κ { s with heap:=h' }->wpAny (model prog w) A.in1.in1 (keyKind' vs.toArray) Q (λ_ _=>False) { s with heap:=h' })
  (hc:∀i j,i<vs.length->j<vs.length->∀(h':Heap) (C:Bool->Shared->Prop),(∀b o,s.heap.get? b=some o->h'.get? b=some o)->C (decide (r i<r j)) { s with heap:=h' }->wpAny (model prog w) A.in1.in1 (keyLt' κ (vs.getD i Value.none) (vs.getD j Value.none)) C (λ_ _=>False) { s with heap:=h' })
  (h:∀p:Array Nat,p.Perm (List.toArray (List.range vs.length))->tu r p vs.length->Q (.ref (s.heap.objs.size+1)) { s with heap:=sortedAll s.heap vs (gH vs p) }) :
  wpAny (model prog w) A (call (.builtin "sorted") [.ref l]) Q E s:=
 nV κ (λA E Q q=>xj hl q (by rw[Qf];lia)) h64 hk hc h
end
end Rm
namespace Rm
open PySem PySem.W PyProof.Rows L2
theorem oH:∀{as:List Addr} {us:List Value},cV (as.map V.ref) us->us=as.map Value.ref
 | [],_,.nil=>rfl
 | a::as,u::us,.cons r t=>by
  have e:u=Value.ref a:=r;rw[e,oH t];rfl
theorem BB(as:List Addr):cV (as.map V.ref) (as.map Value.ref):=by
 induction as with
 | nil=>exact .nil
 | cons a as ih=>exact .cons rfl ih
def Gz (h:Heap) (a:Addr) (p:Bw):Prop:=∃o t u n,h.get? a=some o/\o.cls=.type "tuple"/\o.data=.seq #[.int p.1 t,.int p.2 u] n
theorem IS{X:Cx}{pins:List (Addr×Obj)}{σ:L2.St}{H:Hp}{s:Shared}(I:bv X pins σ H s){a:Addr}{p:Bw}(h:bS H a p):Gz s.heap a p:=by
 obtain⟨_,its,v,o,e,c,n,d⟩:=I.hok a _ h;obtain⟨u,w,rfl,⟨t,rfl⟩,t',rfl⟩:=cV.two v;exact⟨o,t,t',n,e,c,by rw[d]⟩
theorem Gz.kept{h h':Heap}{a:Addr}{p:Bw}(x:Gz h a p)(k:∀b o,h.get? b=some o->h'.get? b=some o):Gz h' a p:=by
 obtain⟨o,t,u,n,e,c,d⟩:=x;exact⟨o,t,u,n,k _ _ e,c,d⟩
theorem wJ{h:Heap}:∀{as:List Addr} {ps:List Bw},Paired (Gz h) as ps->∃fs,KatTups h (as.map Value.ref) fs/\fs.length=as.length/\∀v∈fs,∃n t,v=Value.int n t
 | _,_,.nil=>⟨[],KatTups.nil,rfl,(λv hv=>nomatch hv)⟩
 | _,_,.cons r t=>by
  obtain⟨o,t1,u1,n,e,c,d⟩:=r;obtain⟨fs,h1,h2,h3⟩:=wJ t;exact⟨.int _ t1::fs,KatTups.cons e c d rfl h1,by simp[h2],λv hv=>by
   rcases aK.mp hv with rfl | hv
   ·exact⟨_,_,rfl⟩
   ·exact h3 v hv⟩
def kG(p:Bw):Int:=p.1*1000+p.2
def kB:SortKind:=tuples' (Value.type "int" != Value.type "tuple")
theorem IT{prog:Program}{w:World}{A:Around}{s:Shared}{a b:Addr}{p q:Bw}{C:Bool->Shared->Prop}(ha:Gz s.heap a p)(hb:Gz s.heap b q)(hp:0<=p.2/\p.2<1000)(hq:0<=q.2/\q.2<1000)
  (h:C (decide (kG p<kG q)) s):wpAny (model prog w) A (keyLt' kB (.ref a) (.ref b)) C (λ_ _=>False) s:=by
 obtain⟨oa,t,u,n,ea,ca,da⟩:=ha;obtain⟨ob,t',u',n',eb,cb,db⟩:=hb;refine kat_lt ea da eb db ?_;show KatLex prog w A _ _ C [(Value.int p.1 t,Value.int q.1 t'),(Value.int p.2 u,Value.int q.2 u')] 0 s;refine kat_cons (wpAny_eqBool_int (kat_go (λe=>?_) (λe=>?_)))
 ·have e1:p.1=q.1:=by simpa using e
  refine kat_yes (kat_cons (wpAny_eqBool_int (kat_go (λe=>?_) (λe=>?_))))
  ·have e2:p.2=q.2:=by simpa using e
   refine kat_yes (kat_nil ?_);have z:decide (kG p<kG q)=false:=RP (by unfold kG;lia);rw[z] at h;exact h
  ·have e2:¬p.2=q.2:=by simpa using e
   refine kat_no ?_;have z:decide (kG p<kG q)=decide (p.2<q.2):=by
    by_cases y:p.2<q.2
    ·rw[RQ y,RQ (by unfold kG;lia)]
    ·rw[RP y,RP (by unfold kG;lia)]
   rw[z] at h;have b0:((Value.type "int" != Value.type "tuple")&&((0+1:Nat)==0))=false:=by decide
   rw[b0];exact kat_one _ _ (lt_int h)
 ·have e1:¬p.1=q.1:=by simpa using e
  refine kat_no ?_;have z:decide (kG p<kG q)=decide (p.1<q.1):=by
   by_cases y:p.1<q.1
   ·rw[RQ y,RQ (by unfold kG;lia)]
   ·rw[RP y,RP (by unfold kG;lia)]
  rw[z] at h;have b0:((Value.type "int" != Value.type "tuple")&&((0:Nat)==0))=true:=by decide
  rw[b0];exact oneLt_int h
def pick{α:Type}(d:α)(xs:List α)(p:Array Nat):List α:=p.toList.map λi=>xs.getD i d
theorem lj{α:Type}(d:α)(xs:List α){p:Array Nat}(hp:p.Perm (List.toArray (List.range xs.length))):(pick d xs p).Perm xs:=by
 have h1:p.toList.Perm (List.range xs.length):=by simpa using dy.mp hp
 have h2:=h1.map λi=>xs.getD i d;have e:(List.range xs.length).map (λi=>xs.getD i d)=xs:=by
  apply mK
  ·simp
  ·intro i h1 h2;simp at h1;simp[h1]
 rw[e] at h2;exact h2
theorem wu{α β:Type}{R:α->β->Prop}(d:α)(e:β){xs:List α}{ys:List β}(h:Paired R xs ys){p:Array Nat}(hp:∀i∈p.toList,i<xs.length):Paired R (pick d xs p) (pick e ys p):=by
 unfold pick
 revert hp
 induction p.toList with
 | nil=>intro _;exact .nil
 | cons i r ih=>
  intro hp;refine .cons ?_ (ih λj hj=>hp j (aM _ hj));have hi:=hp i bB;have hx:xs[i]? = some xs[i]:=aJ hi;obtain⟨y,hy,hr⟩:=gu h hx;have e1:xs.getD i d=xs[i]:=by simp[List.getD,hx]
  have e2:ys.getD i e=y:=by simp[List.getD,hy]
  show R (xs.getD i d) (ys.getD i e);rw[e1,e2];exact hr
theorem wv{r:Nat->Int}{n:Nat}{p:Array Nat}(hn:p.size=n)(ha:tu r p n){α:Type}(d:α)(xs:List α)(f:α->Int)(hf:∀i,r i=f (xs.getD i d)):(pick d xs p).Pairwise λa b=>f a<=f b:=by
 rw[fZ];intro i j hi hj hij;have hi':i<p.size:=by simpa [pick] using hi
 have hj':j<p.size:=by simpa [pick] using hj
 have h1:=ha i j (ba hij) (by lia);unfold Kk at h1;rw[hf,hf] at h1;simp only[cP,cK hi',cK hj',gJ] at h1;simpa [pick] using h1
def leB(p q:Bw):Prop:=p.1<q.1\/p.1=q.1/\p.2<=q.2
def Iv(K:RV):List V->Hp->VK->Prop:=λxs H Q=>∃(l:Addr) (as:List Addr) (ps:List Bw),xs=[.ref l]/\bw K H l (as.map V.ref)/\Paired (bS H) as ps/\ps.length<64/\(∀p∈ps,0<=p.2/\p.2<1000) ∧
 ∀l' as' ps',H l'=none->Paired (bS H) as' ps'->ps'.Perm ps->ps'.Pairwise leB->Q (.ref l') (upd H l' (.lst (as'.map V.ref)))
theorem mC {X:Cx}:iP X (.builtin "sorted") (Iv X.K):=by
 intro pins s σ H xs us Q I rr h;obtain⟨l,as,ps,rfl,hq,hP,h64,hb,q⟩:=h;obtain⟨u,rfl,rx⟩:=Qg rr;cases rx;obtain⟨its,rv,pl,hz⟩:=I.list hq;have e:=oH rv;subst e;have hlen:as.length=ps.length:=au hP;have two:Paired (Gz s.heap) as ps:=gq hP λa p z=>IS I z;have at_:∀i,i<as.length->∃a p,(as.map Value.ref).getD i Value.none=.ref a/\ps.getD i (0,0)=p/\Gz s.heap a p/\0<=p.2/\p.2<1000:=λi hi=>by
  have hx:as[i]? = some as[i]:=aJ hi;obtain⟨p,hp,ht⟩:=gu two hx;exact⟨as[i],p,by simp[List.getD,hi],by simp[List.getD,hp],ht,hb p (aR hp)⟩
 refine rB (r:=λi=>kG (ps.getD i (0,0))) kB pl.isList (by rw[aA];lia) (λh2 h' Q' k q'=>?_) (λi j hi hj h' C k q'=>?_) λp hp ha=>?_
 ·obtain⟨fs,k1,k2,k3⟩:=wJ (gq two λa p z=>z.kept k);refine kat_kind (T:=.type "int") k1 (by rw[aA] at h2;lia) (λv hv=>?_) rfl q';obtain⟨n,t,rfl⟩:=k3 v hv;exact(show Looks _ _ (pure (Value.type "int")) (Value.type "int") from .now)
 ·rw[aA] at hi hj;obtain⟨a,p,e1,e2,t1,b1⟩:=at_ i hi;obtain⟨c,p',e3,e4,t2,b2⟩:=at_ j hj;rw[e1,e3];refine IT (t1.kept k) (t2.kept k) b1 b2 ?_;rw[<-e2,<-e4];exact q'
 ·rw[aA] at hp ha;obtain⟨c,hc⟩:=sortedAll_at s.heap (as.map Value.ref) (gH (as.map Value.ref) p);have hin:∀i∈p.toList,i<as.length:=λi hi=>by
   have h1:p.toList.Perm (List.range as.length):=by simpa using dy.mp hp
   simpa using h1.mem_iff.mp hi
  have eo:gH (as.map Value.ref) p=List.toArray ((pick 0 as p).map Value.ref):=by
   unfold gH pick;rw[be];congr 1;refine cM λi hi=>?_;have:=hin i hi;simp[List.getD,this]
  have hps:(pick 0 as p).length<=sizeLine:=by
   have:=(lj 0 as hp).length_eq;rw[this];exact ba (bQ (by lia))
  rw[eo] at hc;have hp':p.Perm (List.toArray (List.range ps.length)):=by rw[<-hlen];exact hp
  refine⟨.ref (s.heap.objs.size+1),upd H (s.heap.objs.size+1) (.lst ((pick 0 as p).map V.ref)),I.laid (t':=s.toks) (λb o e=>sortedAll_old e) (dk _) ?_,rfl,?_⟩
  ·exact(show ck X.prog X.w _ _ _ (.lst _) from ⟨by rw[aA];exact hps,(pick 0 as p).map Value.ref,c,BB _,by rw[eo];exact hc⟩)
  ·have hasc:=wv (n:=as.length) (by have:=hp.size_eq;simpa using this) ha (0,0) ps kG λi=>rfl;have hmem:∀x∈pick (0,0) ps p,0<=x.2/\x.2<1000:=λx hx=>hb x ((lj (0,0) ps hp').mem_iff.mp hx);refine q _ _ (pick (0,0) ps p) (I.hok.fresh (dk _)) (wu 0 (0,0) hP hin) (lj (0,0) ps hp') ?_;refine fz (fun {a b} ma mb hab=>?_) hasc;have h1:=hmem a ma;have h2:=hmem b mb;unfold kG at hab;unfold leB;lia
end Rm
namespace L2
open PySem PySem.W PySem.Spec PyProof.Rows Rm
section
variable {X:Cx}
theorem Qu:∀{us:List Value} {ns:List Int},IntsAre us ns->∀i,i<us.length->∃t,us.getD i Value.none=.int (ns.getD i 0) t
 | _,_,.nil,i,h=>by simp at h
 | _,_,.cons n t r,0,_=>⟨t,rfl⟩
 | _,_,.cons n t r,i+1,h=>by
  obtain⟨t',e⟩:=Qu r i (by simpa using h);exact⟨t',by simpa using e⟩
theorem uy{us:List Value}{ns:List Int}(hi:IntsAre us ns):∀(p:List Nat),(∀i∈p,i<us.length)->IntsAre (p.map λi=>us.getD i Value.none) (p.map λi=>ns.getD i 0)
 | [],_=>.nil
 | i::p,h=>by
  obtain⟨t,e⟩:=Qu hi i (h i bB);rw[av,av,e];exact .cons _ t (uy hi p λj hj=>h j (aM _ hj))
theorem tP{us:List Value}{ns:List Int}(hi:IntsAre us ns):us.length=ns.length:=by
 induction hi with
 | nil=>rfl
 | cons _ _ _ ih=>simp[ih]
theorem tO:∀{us:List Value} {ns:List Int},IntsAre us ns->∀v∈us,∃n t,v=Value.int n t
 | _,_,.nil,v,h=>nomatch h
 | _,_,.cons n t r,v,h=>by
  rcases aK.mp h with rfl | h
  ·exact⟨n,t,rfl⟩
  ·exact tO r v h
def Ir(K:RV):List V->Hp->VK->Prop:=λxs H Q=>∃(p:Addr) (ns:List Int),xs=[.ref p]/\(bw K H p (ns.map V.int)\/dD K H p (ns.map V.int))/\ns.length<64 ∧
 ∀(l:Addr) (ms:List Int),H l=none->ms.Perm ns->ms.Pairwise (·<=·)->Q (.ref l) (upd H l (.lst (ms.map V.int)))
theorem qE:iP X (.builtin "sorted") (Ir X.K):=by
 intro pins s σ H xs us Q I r h;obtain⟨p,ns,rfl,hq,hl,q⟩:=h;obtain⟨u,rfl,rx⟩:=Qg r;cases rx;have fin:∀its:List Value,IntsAre its ns->∀pr:Array Nat,pr.Perm (List.toArray (List.range its.length))->tu (λi=>ns.getD i 0) pr its.length →
   EP X pins σ Q (.ref (s.heap.objs.size+1)) { s with heap:=sortedAll s.heap its (gH its pr) }:=λits hi pr hp ha=>by
  obtain⟨c,hc⟩:=sortedAll_at s.heap its (gH its pr);have hil:=tP hi;have hin:∀i∈pr.toList,i<its.length:=λi him=>by
   have h1:pr.toList.Perm (List.range its.length):=by simpa using dy.mp hp
   simpa using h1.mem_iff.mp him
  have hp':pr.Perm (List.toArray (List.range ns.length)):=by rw[<-hil];exact hp
  have hpk:=lj 0 ns hp';have hlen:=hpk.length_eq;refine⟨.ref (s.heap.objs.size+1),upd H (s.heap.objs.size+1) (.lst ((pick 0 ns pr).map V.int)),I.laid (t':=s.toks) (λb o e=>sortedAll_old e) (dk _)
   (show ck X.prog X.w _ _ _ (.lst _) from ⟨by rw[aA,hlen];exact ba (bQ (by lia)),(gH its pr).toList,c,oI ?_,by simpa using hc⟩),rfl,q _ _ (I.hok.fresh (dk _)) hpk ?_⟩
  ·have:=uy hi pr.toList hin;simpa [gH,pick] using this
  ·exact wv (n:=its.length) (by have:=hp.size_eq;simpa using this) ha 0 ns (λx=>x) λi=>rfl
 have kind:∀(A:Around) (its:List Value),IntsAre its ns->2<=its.length->∀(h':Heap) (Q:SortKind->Shared->Prop),Q oneType' { s with heap:=h' }->wpAny (model X.prog X.w) A (keyKind' its.toArray) Q (λ_ _=>False) { s with heap:=h' }:=λA its hi h2 h' Q q'=>by
  refine kas_kind (T:=.type "int") h2 (λv hv=>?_) (by decide) (by decide) q';obtain⟨n,t,rfl⟩:=tO hi v hv;exact(show Looks _ _ (pure (Value.type "int")) (Value.type "int") from .now)
 have lt:∀(A:Around) (its:List Value),IntsAre its ns->∀i j,i<its.length->j<its.length->∀(h':Heap) (C:Bool->Shared->Prop),C (decide (ns.getD i 0<ns.getD j 0)) { s with heap:=h' } →
   wpAny (model X.prog X.w) A (keyLt' oneType' (its.getD i Value.none) (its.getD j Value.none)) C (λ_ _=>False) { s with heap:=h' }:=λA its hi i j h1 h2 h' C q'=>by
  obtain⟨t,e⟩:=Qu hi i h1;obtain⟨t',e'⟩:=Qu hi j h2;rw[e,e'];exact kat_lt_int q'
 rcases hq with hq | hq
 ·obtain⟨its,rv,pl,hz⟩:=I.list hq;have hi:=ly rv;have hil:=tP hi;exact rB (r:=λi=>ns.getD i 0) oneType' pl.isList (by lia) (λh2 h' Q k q'=>kind _ its hi h2 h' Q q') (λi j h1 h2 h' C k q'=>lt _ its hi i j h1 h2 h' C q') (fin its hi)
 ·obtain⟨its,rv,pl,hz⟩:=I.tuple hq;have hi:=ly rv;have hil:=tP hi;exact vR (r:=λi=>ns.getD i 0) oneType' pl (by lia) (λh2 h' Q k q'=>kind _ its hi h2 h' Q q') (λi j h1 h2 h' C k q'=>lt _ its hi i j h1 h2 h' C q') (fin its hi)
end
end L2
namespace Rm
open PySem PySem.W PyProof.Rows L2
section
variable {prog:Program} {w:World} {A:Around} {E:Value->Shared->Prop} {S:Shared}
theorem yb:∀(ks vs:List Value),ks.length=vs.length->vs.length<2->(ks.toArray.zip vs.toArray).map (·.2)=gH vs (List.toArray (List.range vs.length))
 | [],[],_,_=>by simp[gH]
 | [k],[v],_,_=>by simp[gH]
 | _,_::_::_,_,h=>by simp at h;lia
 | [],[_],h,_=>by simp at h
 | _::_,[],h,_=>by simp at h
 | _::_::_,[_],h,_=>by simp at h
theorem GX {a kS:Addr} {vs ks:List Value} {kz:List Int} {e e1:Nat} {P:PySem.Fin->Shared->Prop} (hki:IntsAre ks kz) (hl:ks.length=vs.length) (h64:vs.length<64) (ha:S.heap.get? a=some (seqObj "list" #[] e1))
  (hk:S.heap.get? kS=some (seqObj "list" ks.toArray e)) (hne:a≠kS)
  (h:∀p:Array Nat,p.Perm (List.toArray (List.range vs.length))->tu (λi=>kz.getD i 0) p vs.length->P (.done (.ret .none)) { S with heap:=(S.heap.update kS (Obj.mapSeq λ_=>#[])).update a (Obj.mapSeq λ_=>gH vs p) }) :
  wpAny (model prog w) A (ksk_end a false vs.toArray e1 (.ref kS) ks.toArray) P E S:=by
 have hz:vs.toArray.size=vs.length:=by simp
 have tail:∀(st:SortSt) (p:Array Nat),(arrOf st).map (·.2)=gH vs p->failedOf st=none->p.Perm (List.toArray (List.range vs.length))->tu (λi=>kz.getD i 0) p vs.length->wpAny (model prog w) A (ksk_tail a false e1 (.ref kS) st) P E S:=by
  intro st p e1' hf hp hs;have hps:p.size=vs.length:=by have:=hp.size_eq;simpa using this
  have ha1:(S.heap.update kS (Obj.mapSeq λ_=>(#[]:Array Value))).get? a=some (seqObj "list" #[] e1):=(gC _ _ _ _ hne).trans ha;unfold ksk_tail;refine wpAny_bind (listUpdate_at hk rfl (wpAny_bind (Qv (wpAny_bind (Qp ha1 rfl (wpAny_bind (listUpdate_at ha1 rfl ?_ (ac _) ?_)))))) ?_ (ac _))
  ·rw[hf,e1'];simp only[bne_self_eq_false,bW,RU];exact wpAny_pure (h p hp hs)
  ·show (if false=true then _ else (arrOf st).map (·.2)).size<=sizeLine+1;rw[RM af,e1',gH,aS,aA,cY,hps,Qf];lia
  ·rw[aS,hl,Qf];lia
 unfold ksk_end;dsimp only;by_cases h2:vs.toArray.size<2
 ·simp only[h2,RT,RU,bW];refine wpAny_bind (wpAny_pure ?_);rw[StateT.run_pure];refine wpAny_bind (wpAny_pure ?_);refine tail _ (List.toArray (List.range vs.length)) (yb ks vs hl (by lia)) rfl (Array.Perm.refl _) λi j hij hj=>?_;have e9:i=j:=by lia
  rw[e9];exact eG _
 ·simp only[h2,RT,RU,bW];have h2':2<=vs.length:=by lia
  refine wpAny_bind (kas_kind (T:=.type "int") (by lia) (λv hv=>?_) (by decide) (by decide) ?_)
  ·obtain⟨n,t,rfl⟩:=tO hki v hv;exact(show Looks _ _ (pure (Value.type "int")) (Value.type "int") from .now)
  have T:Told (λi=>kz.getD i 0) vs.length (kas_ask prog w A oneType' ks) S:=λi j hi hj C hC=>by
   obtain⟨t,et⟩:=Qu hki i (by lia);obtain⟨u,eu⟩:=Qu hki j (by lia);show wpAny _ _ (keyLt' oneType' (ks.getD i Value.none) (ks.getD j Value.none)) _ _ _;rw[et,eu];exact kat_lt_int hC
  refine wpAny_bind (Q8 (kat_run (ks:=ks) (vs:=vs) (Q:=λst' s'=>s'=S/\∃p:Array Nat,p.size=vs.length/\arrOf st'=p.map (kas_item (ks.toArray.zip vs.toArray))/\failedOf st'=none/\p.Perm (List.toArray (List.range vs.length))/\tu (λi=>kz.getD i 0) p vs.length)
   (G:=λp s'=>s'=S/\p.Perm (List.toArray (List.range vs.length))/\tu (λi=>kz.getD i 0) p vs.length)
   hl h2' h64 (λp' st' s' a1 a2 a3 a4=>⟨a4.1,p',a1,a2,a3,a4.2⟩) (uX T (by lia) λp hp ha=>⟨rfl,hp,ha⟩)) ?_ λ_ _ e=>e)
  rintro⟨⟨⟩,st'⟩ s' ⟨rfl,p,hps,har,hf,hp,hs⟩;refine tail st' p ?_ hf hp hs;have hout:=kat_snds (ks:=ks) (vs:=vs) hl har;rw[hout];rfl
end
section
variable {X:Cx} {pins:List (Addr×Obj)} {σ:L2.St} {H:Hp} {s:Shared}
theorem FU{k:Nat}{f:Addr}{fd:FuncData}{ps:List Str}{sp:Sp}{Q:VK}{us:List Value}{vs:List V}{E:Value->Shared->Prop}(F:qx X.prog X.w X.K X.mg X.base Bs k f fd ps sp)(hr:iU (k+2) X.A)(hb:Binds X.K fd ps [])
  (I:bv X pins σ H s) (r:cV vs us) (h:sp vs H Q E0):wpAny (model X.prog X.w) X.A.in1.in1 (call (.ref f) us) (EP X pins σ Q) E s:=by
 have hl:(us++[]).length=ps.length:=by rw[cH,<-r.length];exact F.len _ _ _ _ h
 have hbb:=hb s us I.kIn hl;rw[cH] at hbb;refine wpAny_call (codeAny_mono (F.run X.A.in1.in1 X.stack s H ⟨us,[]⟩ us vs Q E0 (iU.in1 (iU.in1 hr)) I.env0.in1.in1 hbb r h) λr s' hq=>?_);cases r with
 | error e=>exact False.elim hq
 | ok fl=>
  cases fl with
  | ret u=>exact I.after hq
  | next=>exact False.elim hq
  | brk=>exact False.elim hq
  | cont=>exact False.elim hq
theorem EV{k:Nat}{f:Addr}{fd:FuncData}{ps:List Str}{sp:Sp}{xs:List V}{vs:List Value}{kz:List Int}{a kS:Addr}{e1:Nat}{P:PySem.Fin->Shared->Prop}{E:Value->Shared->Prop}
  (F:qx X.prog X.w X.K X.mg X.base Bs k f fd ps sp) (hr:iU (k+2) X.A) (hb:Binds X.K fd ps []) (I:bv X pins σ H s) (hv:cV xs vs) (hkl:kz.length=xs.length) (h64:vs.length<64)
  (hsp:∀(i:Nat) x k (Q':VK),xs[i]? = some x->kz[i]? = some k->Q' (.int k) H->sp [x] H Q' E0)
  (fa:kt X pins H a) (fk:kt X pins H kS) (hne:a≠kS) (ha:s.heap.get? a=some (seqObj "list" #[] e1)) (hk:s.heap.get? kS=some (seqObj "list" #[] 0))
  (h:∀(p:Array Nat) (s':Shared) (ks:List Value) (e:Nat),bv X pins σ H s'->s'.heap.get? a=some (seqObj "list" #[] e1)->s'.heap.get? kS=some (seqObj "list" ks.toArray e)->p.Perm (List.toArray (List.range vs.length))->tu (λi=>kz.getD i 0) p vs.length →
   P (.done (.ret .none)) { s' with heap:=(s'.heap.update kS (Obj.mapSeq λ_=>#[])).update a (Obj.mapSeq λ_=>gH vs p) }) :
  wpAny (model X.prog X.w) X.A.in1.in1 (ksk_rest a (.ref f) false vs.toArray e1 (.ref kS)) P E s:=by
 unfold ksk_rest;refine wpAny_bind (wpAny_rule ?_);rw[<-Array.forIn_toList];simp only[List.toList_toArray];have hvl:vs.length=xs.length:=hv.length.symm;refine wpAny_bind (wpAny_forIn_list _ (λrest _ s'=>∃(done:List Value) (ks:List Value) (e:Nat),vs=done++rest/\IntsAre ks (kz.take done.length)/\ks.length=done.length/\bv X pins σ H s'/\s'.heap.get? a=some (seqObj "list" #[] e1)/\s'.heap.get? kS=some (seqObj "list" ks.toArray e)) _ ?_ ?_ vs _
  ⟨[],[],0,rfl,by simpa using IntsAre.nil,rfl,I,ha,hk⟩)
 ·rintro v rest _ s' ⟨done,ks,e,hvs,hki,hkl2,I',ha',hk'⟩;have hdl:done.length<vs.length:=by rw[hvs];simp
  have hvi:vs[done.length]? = some v:=by rw[hvs];simp
  obtain⟨x,hx,rx⟩:∃x,xs[done.length]? = some x/\RelV x v:=by
   have hxi:xs[done.length]? = some xs[done.length]:=aJ (by lia);obtain⟨u,hu,ru⟩:=hv.get hxi;rw[hvi] at hu;cases hu;exact⟨_,hxi,ru⟩
  have hki':kz[done.length]? = some kz[done.length]:=aJ (by lia);have fp:∀b∈[a,kS],kt X pins H b:=λb hb=>by
   rcases aK.mp hb with z | z
   ·rw[z];exact fa
   ·have z':b=kS:=by simpa using z
    rw[z'];exact fk
  have Ip:=I'.pinned fp λb hb=>by
   rcases aK.mp hb with z | z
   ·rw[z];exact⟨_,ha',λv z=>by cases z⟩
   ·have z':b=kS:=by simpa using z
    rw[z'];exact⟨_,hk',λv z=>by cases z⟩
  refine wpAny_bind (Qw (Q8 (FU (E:=λ_ _=>False) (Q:=λv' H'=>v'=.int kz[done.length]/\H'=H) F hr hb Ip (.cons rx .nil) (hsp _ x _ _ hx hki' ⟨rfl,rfl⟩)) (λu s2 hq=>?_) λ_ _ z=>z.elim));obtain⟨v',H2,I2,r2,rfl,rfl⟩:=hq;obtain⟨t,rfl⟩:=r2;have pa:=(I2.pin (a,_) (bO _ (bO _ (iT (by simp) ha')))).1;have pk:=(I2.pin (kS,_) (bO _ (bO _ (iT (by simp) hk')))).1;have sb:=dG s2.heap kS (Obj.mapSeq (·.push (Value.int kz[done.length] t)));obtain⟨c2,hc2⟩:∃c2,(s2.heap.update kS (Obj.mapSeq (·.push (Value.int kz[done.length] t)))).get? kS=some (seqObj "list" (ks++[Value.int kz[done.length] t]).toArray c2):=⟨_,by
   have:=Qo pk (·.push (Value.int kz[done.length] t));simpa using this⟩
  refine wpAny_bind (listUpdate_at pk rfl ?_ (by rw[aS,Qf];lia) (by rw[Array.size_push,aS,Qf];lia));obtain⟨k0,k1,k2,k3,k4,k5⟩:=fk;refine wpAny_pure ⟨done++[v],ks++[Value.int kz[done.length] t],c2,by rw[hvs];simp,?_,by simp[hkl2],I2.unpinned.turned (t':=s2.toks) (λb o hb e=>(sb.2 b hb).trans e) k0 k1 k3 k4 k5,(sb.2 a hne).trans pa,hc2⟩;rw[aw,cW,bD,hki'];exact ksk_snoc hki
 ·rintro _ s' ⟨done,ks,e,hvs,hki,hkl2,I',ha',hk'⟩;rw[cH] at hvs;subst hvs;rw[c7 (by lia)] at hki;refine wpAny_bind (listItems_at hk' rfl ?_);exact GX hki (by lia) h64 ha' hk' hne λp hp hs=>h p s' ks e I' ha' hk' hp hs
end
end Rm
namespace L2
open PySem PySem.W PySem.Spec PyProof.Rows Rm
def yR(K:RV)(sp:Sp)(te:TE):TE:=λσ H Q=>te σ H λx H1=>∃(l:Addr) (xs:List V) (kz:List Int),x=.ref l/\bw K H1 l xs/\xs.length<64/\kz.length=xs.length ∧
 (∀(i:Nat) x k (Q':VK),xs[i]? = some x->kz[i]? = some k->Q' (.int k) H1->sp [x] H1 Q' E0) ∧
 ∀(l':Addr) (zs:List (Int×V)),H1 l'=none->zs.Perm (kz.zip xs)->zs.Pairwise (λa b=>a.1<=b.1)->Q (.ref l') (upd H1 l' (.lst (zs.map (·.2))))
theorem Eu{K:RV}{sp:Sp}{te:TE}{σ:St}{H:Hp}{Q:VK}:yR K sp te σ H Q=te σ H λx H1=>∃(l:Addr) (xs:List V) (kz:List Int),x=.ref l/\bw K H1 l xs/\xs.length<64/\kz.length=xs.length ∧
 (∀(i:Nat) x k (Q':VK),xs[i]? = some x->kz[i]? = some k->Q' (.int k) H1->sp [x] H1 Q' E0) ∧
 ∀(l':Addr) (zs:List (Int×V)),H1 l'=none->zs.Perm (kz.zip xs)->zs.Pairwise (λa b=>a.1<=b.1)->Q (.ref l') (upd H1 l' (.lst (zs.map (·.2)))):=rfl
theorem uQ:∀{xs:List V} {us:List Value},cV xs us->∀(p:List Nat),(∀i∈p,i<xs.length)->cV (p.map λi=>xs.getD i .non) (p.map λi=>us.getD i Value.none)
 | xs,us,h,[],_=>.nil
 | xs,us,h,i::p,hp=>by
  have hi:=hp i bB;have hx:xs[i]? = some xs[i]:=aJ hi;obtain⟨u,hu,ru⟩:=h.get hx;refine .cons ?_ (uQ h p λj hj=>hp j (aM _ hj));simp only[List.getD,hx,hu,gJ];exact ru
theorem bv.adopt{X:Cx}{pins:List (Addr×Obj)}{σ:St}{H:Hp}{s:Shared}{a:Addr}{o:HO}(I:bv X pins σ H s)(fa:kt X pins H a)(new:ck X.prog X.w (upd H a o) s.heap a o):bv X pins σ (upd H a o) s:=by
 obtain⟨f0,f1,f2,f3,f4,f5⟩:=fa;have ne:∀b u,H b=some u->b≠a:=λb u e z=>by rw[z,f0] at e;cases e
 refine I.step (g':=s.gens) (d':=s.drawn) (t':=s.toks) (h':=s.heap) (ch:=[a]) (λb hb=>?_) (λb u _ _ _ e _=>e) (λb u _ _ _ e _=>⟨u.slots,e⟩) (λb u hc e n=>by rw[aO (λz=>hc (by simp[z]))];exact n) (λb u _ e=>⟨u,e⟩)
  (λb xs e=>by rw[aO (ne _ _ e)];exact e) (λb u xs e=>by rw[aO (ne _ _ e)];exact e) (λb ps e=>⟨#[],by rw[aO (ne _ _ e),e];simp⟩) (λm hm=>hm) (λb u e=>?_) I.bare
 ·have e:b=a:=by simpa using hb
  subst e;exact⟨f3,f1,f4,f5⟩
 ·by_cases hb:b=a
  ·subst hb;rw[aE] at e;cases e;exact new
  ·rw[aO hb] at e;exact(I.hok b u e).stay (λc v _ q=>q) (λc q=>by rw[aO (ne _ _ q)];exact q) λc xs q=>by rw[aO (ne _ _ q)];exact q
section
variable {X:Cx} {k:Nat} {x f:Str} {st:Stmt} {ps:List Str} {sp:Sp} {e:Expr} {te:TE} {p p2 kp pos:Pos}
theorem Dg (D:ef X.prog X.w X.K X.mg X.base k f st ps sp) (hr:iU (k+2) X.A) (hg:Gl X "sorted") (hm:X.mg "sorted"=none) (hgf:Gl X f) (he:PE X e te) (hdf:(f==("__debug__":Str))=false:=by decide)
  (hs:starEach [e] X.env=[(false,eval e X.env)]:=by rfl):PE X (.Call (.Name "sorted" p) [e] [⟨some "key",.Name f p2,kp⟩] pos) (yR X.K sp te):=by
 obtain⟨fa,fd,F,m,b,G⟩:=D.ex;intro pins s σ H Q I h;refine Qh (j3 I hg hm eV ?_)
 let B:V->Hp->Prop:=λx H1=>∃(l:Addr) (xs:List V) (kz:List Int),x=.ref l/\bw X.K H1 l xs/\xs.length<64/\kz.length=xs.length ∧
  (∀(i:Nat) x k (Q':VK),xs[i]? = some x->kz[i]? = some k->Q' (.int k) H1->sp [x] H1 Q' E0) ∧
  ∀(l':Addr) (zs:List (Int×V)),H1 l'=none->zs.Perm (kz.zip xs)->zs.Pairwise (λa b=>a.1<=b.1)->Q (.ref l') (upd H1 l' (.lst (zs.map (·.2))))
 refine callWith_kw (eS (iE he yn hs pos pins s σ H (λvs H1=>match vs with | [x]=>B x H1 | _=>False) I h) λus s1 ⟨vs,H1,I1,r1,q1⟩=>?_) (by rw[hs];rfl) (by rw[hs];rfl);refine kws_cons (vo I1 hgf m (kws_nil ?_) hdf)
 match vs,r1,q1 with
 | [x],r1,q1=>
  obtain⟨l,xs,kz,rfl,hq,h64,hkl,hsp,q⟩:=q1;obtain⟨u,rfl,rx⟩:=Qg r1;cases rx;obtain⟨its,rv,pl,hz⟩:=I1.list hq;have hil:its.length=xs.length:=rv.length.symm;show wpAny _ X.A (call (.builtin "sorted") [.ref l] [(Str.ofString "key",.ref fa)]) _ _ s1;refine call_function_entry_kw kind_sorted plain_sorted entry_sorted (ksk_s1 _ _) ?_;unfold Builtin.«sorted»;refine wpAny_bind (m:=checkCount "sorted" 1 1 _) (wpAny_pure (wpAny_bind (collect_list pl.isList (wpAny_bind (Qq ?_ (by rw[Qf];lia))) (by rw[Qf];lia))));have hsz:((s1.heap.push (seqObj "list" #[] 0)).update s1.heap.objs.size (Obj.mapSeq (·++its.toArray))).objs.size=s1.heap.objs.size+1:=by rw[iH,size_push']
  generalize hh2:(s1.heap.push (seqObj "list" #[] 0)).update s1.heap.objs.size (Obj.mapSeq (·++its.toArray))=h2 at hsz;have keep:∀b o,s1.heap.get? b=some o->h2.get? b=some o:=λb o e=>by
   rw[<-hh2];exact(gC _ _ _ _ (bC (aN e))).trans (aD _ e)
  have hle:s1.heap.objs.size<=h2.objs.size:=by rw[hsz];exact dk _
  have ho:(h2.push (seqObj "list" its.toArray 0)).get? h2.objs.size=some (seqObj "list" its.toArray 0):=aQ _ rfl;refine wpAny_bind (Qb (wpAny_call_entry_kw slot_list_sort ⟨_,ho,rfl⟩ entry_list_sort ?body (ksk_l1 _ _)))
  case body=>
   show wpAny _ X.A.in1.in1 (Builtin.«list.sort» ⟨[.ref h2.objs.size],[(Str.ofString "key",.ref fa)]⟩) _ _ { s1 with heap:=h2.push (seqObj "list" its.toArray 0) };rw[ksk_t1];unfold ksk_tree;obtain⟨c1,hc1⟩:∃c1,((h2.push (seqObj "list" its.toArray 0)).update h2.objs.size (Obj.mapSeq λ_=>#[])).get? h2.objs.size=some (seqObj "list" #[] c1):=⟨_,Qo ho λ_=>#[]⟩
   refine wpAny_bind (listItems_at ho rfl (wpAny_bind (listUpdate_at ho rfl ?_ (by rw[aS,Qf];lia) (ac _))));refine wpAny_bind (Qp hc1 rfl (wpAny_bind (wpAny_newTuple (wpAny_bind (Qq (Qb ?_) (ac _))) (by show its.length<=_;rw[Qf];lia))));have hs3:((h2.push (seqObj "list" its.toArray 0)).update h2.objs.size (Obj.mapSeq λ_=>#[])).objs.size=h2.objs.size+1:=by rw[iH,size_push']
   generalize hh3:(h2.push (seqObj "list" its.toArray 0)).update h2.objs.size (Obj.mapSeq λ_=>#[])=h3 at hc1 hs3;have keep3:∀b o,s1.heap.get? b=some o->h3.get? b=some o:=λb o e=>by
    rw[<-hh3];exact(gC _ _ _ _ (bC (ay (aN e) hle))).trans (aD _ (keep b o e))
   have hkS:(h3.push (seqObj "tuple" its.toArray 0)).objs.size=h3.objs.size+1:=size_push' ..;have hleK:s1.heap.objs.size<=(h3.push (seqObj "tuple" its.toArray 0)).objs.size:=by rw[hkS,hs3];lia
   have hneK:h2.objs.size≠(h3.push (seqObj "tuple" its.toArray 0)).objs.size:=by rw[hkS,hs3];lia
   have I2:bv X pins σ H1 { s1 with heap:=(h3.push (seqObj "tuple" its.toArray 0)).push (seqObj "list" #[] 0) }:=I1.kept (t':=s1.toks) λb o e=>aD _ (aD _ (keep3 b o e));have fA:kt X pins H1 h2.objs.size:=I1.fpOk hle (I1.hok.fresh hle);have fK:kt X pins H1 (h3.push (seqObj "tuple" its.toArray 0)).objs.size:=I1.fpOk hleK (I1.hok.fresh hleK);refine EV (s:={ s1 with heap:=(h3.push (seqObj "tuple" its.toArray 0)).push (seqObj "list" #[] 0) }) (kz:=kz) G hr b I2 rv hkl (by lia) hsp fA fK hneK (aD _ (aD _ hc1)) (aQ _ rfl) λp s' ks e I3 ha hk hp hasc=>⟨_,rfl,wpAny_pure ⟨_,rfl,?_⟩⟩
   generalize (h3.push (seqObj "tuple" its.toArray 0)).objs.size=kS at fK hneK hk ⊢;generalize h2.objs.size=D' at fA hneK ha ⊢;have hin:∀i∈p.toList,i<its.length:=λi him=>by
    have h1:p.toList.Perm (List.range its.length):=by simpa using dy.mp hp
    simpa using h1.mem_iff.mp him
   have sbK:=dG s'.heap kS (Obj.mapSeq λ_=>(#[]:Array Value));have sbA:=dG (s'.heap.update kS (Obj.mapSeq λ_=>(#[]:Array Value))) D' (Obj.mapSeq λ_=>gH its p);obtain⟨k0,k1,k2,k3,k4,k5⟩:=fK;obtain⟨a0,a1,a2,a3,a4,a5⟩:=id fA;have I4:=I3.turned (t':=s'.toks) (h':=s'.heap.update kS (Obj.mapSeq λ_=>#[])) (λb o hb e=>(sbK.2 b hb).trans e) k0 k1 k3 k4 k5;have I5:=I4.turned (t':=s'.toks) (h':=(s'.heap.update kS (Obj.mapSeq λ_=>#[])).update D' (Obj.mapSeq λ_=>gH its p)) (λb o hb e=>(sbA.2 b hb).trans e) a0 a1 a3 a4 a5;have ha1:(s'.heap.update kS (Obj.mapSeq λ_=>(#[]:Array Value))).get? D'=some (seqObj "list" #[] c1):=(sbK.2 D' hneK).trans ha;obtain⟨c5,hc5⟩:∃c5,((s'.heap.update kS (Obj.mapSeq λ_=>(#[]:Array Value))).update D' (Obj.mapSeq λ_=>gH its p)).get? D'=some (seqObj "list" (gH its p) c5):=⟨_,Qo ha1 λ_=>gH its p⟩
   have hpl:p.toList.length=its.length:=by
    have h1:p.toList.Perm (List.range its.length):=by simpa using dy.mp hp
    have:=h1.length_eq;simpa using this
   refine⟨.ref D',upd H1 D' (.lst ((p.toList.map λi=>(kz.getD i 0,xs.getD i V.non)).map (·.2))),I5.adopt fA ?_,rfl,q D' _ a0 ?_ ?_⟩
   ·rw[be];exact⟨by rw[aA,hpl,Qf];lia,p.toList.map λi=>its.getD i Value.none,c5,uQ rv p.toList λi hi=>by rw[<-hil];exact hin i hi,hc5⟩
   ·have e0:p.toList.map (λi=>(kz.getD i 0,xs.getD i V.non))=pick (0,V.non) (kz.zip xs) p:=by
     unfold pick;refine cM λi hi=>?_;have h1:i<xs.length:=by rw[<-hil];exact hin i hi
     have h2:i<kz.length:=by lia
     have hz:(kz.zip xs)[i]? = some (kz[i],xs[i]):=by rw[aJ (by rw[List.length_zip];lia),List.getElem_zip]
     simp only[List.getD,hz,aJ h1,aJ h2,gJ]
    rw[e0];refine lj (0,V.non) (kz.zip xs) ?_;rw[List.length_zip,hkl,Nat.min_self,<-hil];exact hp
   ·rw[cv];have hps:p.size=its.length:=by rw[<-hpl];simp
    rw[fZ];intro i j hi hj hij;have:=hasc i j (ba hij) (by rw[<-hpl];exact hj);unfold Kk at this;have hi':i<p.size:=by simpa using hi
    have hj':j<p.size:=by simpa using hj
    simp only[cP,cK hi',cK hj',gJ] at this;simpa using this
end
end L2
namespace L2
open PySem PySem.Spec PyProof.Rows
section
variable {prog:Program} {w:World} {A:Around} {E:Value->Shared->Prop} {s:Shared}
theorem xS{d:Addr}{o:Obj}{es:Array DictEntry}{ep:Nat}{Q:Value->Shared->Prop}(hd:(d==sysModules)=false)(ho:s.heap.get? d=some o)(hx:o.ExactDict)(hdat:o.data=.dict es ep)
  (hQ:Q (.ref s.heap.objs.size) { s with heap:=s.heap.push { cls:=.type "dict_keyiterator",data:=.fields #[.ref d,.int 0 0,.int es.size 0,.int ep 0] } }):wpAny (model prog w) A (pyIter (.ref d)) Q E s:=by
 have hT:s.TypeIs (.ref d) "dict":=⟨o,ho,hx.1⟩
 refine wpAny_pyIter_slot hT F.slot_dict_iter (Qr F.slot_dict_iter hT F.entry_dict_iter ?_ (F.args_dict_iter_1 _));unfold Builtin.«dict.__iter__» Builtin.Dict.dictSlotNone;refine wpAny_bind (wpAny_bind (wpAny_notOrdered_dict hT (wpAny_pure (a:=Value.ref d) ?_)));unfold Builtin.Dict.showsAll;refine wpAny_bind (m:=Builtin.Dict.addrOf (Value.ref d)) (wpAny_pure (a:=d) ?_);rw[RM (show ¬(d==sysModules)=true by rw[hd];exact af)];refine wpAny_bind (wpAny_pure (wpAny_bind (Qx ho hdat (wpAny_bind (Qy ho hdat (wpAny_bind (Qm (wpAny_pure ⟨_,rfl,"dict_keyiterator",_,⟨_,aQ _ rfl,rfl⟩,de.lookup,?_⟩))))))));simpa [rawInt] using hQ
theorem xI{it d:Addr}{i ep:Nat}{o:Obj}{es:Array DictEntry}{Q:Option Value->Shared->Prop}(hit:s.heap.IsKeyIter it d i es.size ep)(ho:s.heap.get? d=some o)(hdat:o.data=.dict es ep)(hi:i<es.size)
  (hQ:∀h',h'.IsKeyIter it d (i+1) es.size ep->Heap.SameBut it s.heap h'->Q (some es[i].key) { s with heap:=h' }):wpAny (model prog w) A (pyNext (.ref it)) Q E s:=by
 obtain⟨oi,hoi,hc,hd⟩:=id hit;unfold pyNext;refine wpAny_bind (Qw (wpAny_callSpecial?_slot (name:=Str.ofString "__next__") hit.typeIs de (Qr de hit.typeIs jt (wpAny_bind (wpAny_pure (wpAny_bind (wpAny_bind ?_)))) (j9 _))))
 first | refine wpAny_bind (Qz hit.typeIs (wpAny_pure (wpAny_bind (RA hoi hd ?_)))) | refine wpAny_bind (RB hit.typeIs (wpAny_pure (wpAny_bind (RA hoi hd ?_))))
 rw[RM (show ¬(Builtin.Dict_items.ownsTuple "dict_keyiterator")=true by decide)];show wpAny _ _ (if (Value.ref d==Value.none)=true then _ else _) _ _ s;rw[RM (show ¬(Value.ref d==Value.none)=true from af)];refine wpAny_bind (wpAny_pure (wpAny_bind (Qx ho hdat ?_)));rw[RM (by simp)];refine wpAny_bind (wpAny_pure (wpAny_bind (Qy ho hdat ?_)));rw[RM (by simp)];refine wpAny_pure ?_;simp only[show ¬((i:Int)<0) from by lia,RU,cA,cK hi];refine wpAny_bind ?_
 first | refine wpAny_bind (Qz hit.typeIs (wpAny_pure (wpAny_bind (wpAny_isOneOf_keyiter hit.typeIs ?_)))) | refine wpAny_bind (RB hit.typeIs (wpAny_pure (wpAny_bind (wpAny_isOneOf_keyiter hit.typeIs ?_))))
 show wpAny _ _ (setField (.ref it) 1 (rawInt ((i:Int)+1))>>=_) _ _ s;have hit':(s.heap.update it (Obj.mapFields (·.setIfInBounds 1 (rawInt ((i:Int)+1))))).IsKeyIter it d (i+1) es.size ep:=⟨_,d9 _ hoi (jM (fQ hd _)),(lG ..).trans hc,by rw[fQ hd];simp[rawInt]⟩
 refine wpAny_bind (RC hoi hd (by simp) (wpAny_bind (Qb (wpAny_bind (wpAny_isOneOf_keyiter (s:={ s with heap:=s.heap.update it (Obj.mapFields (·.setIfInBounds 1 (rawInt ((i:Int)+1)))) }) hit'.typeIs ?_)))));exact wpAny_pure (a:=es[i].key) (wpAny_pure ⟨_,rfl,wpAny_pure (hQ _ hit' (dG ..))⟩)
theorem Ak{it d:Addr}{ep:Nat}{o:Obj}{es:Array DictEntry}{Q:Option Value->Shared->Prop}(hh:A.handled=none)(hit:s.heap.IsKeyIter it d es.size es.size ep)(ho:s.heap.get? d=some o)(hdat:o.data=.dict es ep)
  (hQ:∀h',Heap.ExtBut it s.heap h'->Q none { s with heap:=h' }):wpAny (model prog w) A (pyNext (.ref it)) Q E s:=by
 obtain⟨oi,hoi,hc,hd⟩:=id hit;unfold pyNext;refine wpAny_bind (Qw (wpAny_callSpecial?_slot (name:=Str.ofString "__next__") hit.typeIs de (Qr de hit.typeIs jt (wpAny_bind (wpAny_pure (wpAny_bind (wpAny_bind ?_)))) (j9 _))))
 first | refine wpAny_bind (Qz hit.typeIs (wpAny_pure (wpAny_bind (RA hoi hd ?_)))) | refine wpAny_bind (RB hit.typeIs (wpAny_pure (wpAny_bind (RA hoi hd ?_))))
 rw[RM (show ¬(Builtin.Dict_items.ownsTuple "dict_keyiterator")=true by decide)];show wpAny _ _ (if (Value.ref d==Value.none)=true then _ else _) _ _ s;rw[RM (show ¬(Value.ref d==Value.none)=true from af)];refine wpAny_bind (wpAny_pure (wpAny_bind (Qx ho hdat ?_)));rw[RM (by simp)];refine wpAny_bind (wpAny_pure (wpAny_bind (Qy ho hdat ?_)));rw[RM (by simp)];refine wpAny_pure ?_;simp only[show ¬((es.size:Int)<0) from by lia,RU,cA,gU (aH es.size)];refine wpAny_bind ?_
 first | refine wpAny_bind (Qz hit.typeIs (wpAny_pure ?_)) | refine wpAny_bind (RB hit.typeIs (wpAny_pure ?_))
 refine wpAny_bind (m:=setField (.ref it) 0 .none) (RC hoi hd (by simp) (wpAny_bind (m:=newExc (.type "StopIteration") []) ?_));simp only[newExc,newTuple];refine wpAny_bind (Qm (wpAny_bind (m:=firstArgMember _ _) (wpAny_of_eq (a:=Value.none) (by first | rfl | (simp only[firstArgMember];rfl)) (Qm ?_ (by size_fits)))) (by size_fits));simp only[raiseNew];refine wpAny_bind (wpAny_handled ?_);rw[show A.in1.handled=none from hh];refine wpAny_bind (wpAny_pure (wpAny_throw ?_));refine wpAny_bind (wpAny_isInstance (T:="StopIteration") (b:=true) ⟨_,aQ _ rfl,rfl⟩ isSubtype_stop ?_);exact wpAny_pure (hQ _ (((dG ..).extBut.push _).push _))
end
def Lp(a:Addr)(o:Obj)(kvs:List (List Key×V)):It:=
 ⟨λi H=>i<kvs.length/\H a=some (.frz o (.dT kvs)),λi H x H'=>H'=H/\∃k v b,kvs[i]? = some (k,v)/\x=.ref b/\H b=some (.tup (k.map kV)),λi H=>i=kvs.length/\H a=some (.frz o (.dT kvs))⟩
theorem Aw {P : Program} {w : World} {K : RV} {tg : Expr} (a it : Addr) (o : Obj) (es : Array DictEntry) (ep : Nat) (kvs : List (List Key × V)) (hdat : o.data = .dict es ep) (hes : es.size = kvs.length) :
    Turn P w K tg (Lp a o kvs) [it] it (fun i h => h.IsKeyIter it a i es.size ep) where
  mem := by simp
  obj := fun i h st b hb => by
    have e : b = it := by simpa using hb
    subst e
    obtain ⟨oi, e, c, d⟩ := st
    exact ⟨oi, e, fun v z => by rw [d] at z; cases z⟩
  keep := fun i h h' st k => by
    obtain ⟨oi, e, r⟩ := st
    exact ⟨oi, k it (by simp) _ e, r⟩
  item := by
    intro X hP hw hK hc i pins s σ H E I hf st hg
    subst hP hw hK
    obtain ⟨hi, hH⟩ := hg
    obtain ⟨ho, z, y, xs, r, o', es', ep', e1, ex, ed, el, nd⟩ := (show ck X.prog X.w H s.heap a (.frz o (.dT kvs)) from I.hok a _ hH)
    rw [ho] at e1
    cases e1
    rw [hdat] at ed
    cases ed
    obtain ⟨f0, f1, f2, f3, f4, f5⟩ := hf it (by simp)
    have hi' : i < es.size := by lia
    refine xI st ho hdat hi' fun h' st' sb => ?_
    have hki : kvs[i]? = some kvs[i] := aJ hi
    obtain ⟨q, hq, q1, q2, q3⟩ := gu r hki
    have ek : es[i].key = .ref q.2.1 := by
      have e3 : es.toList[i]? = some (entryOfKey (tupleKind (fI X.prog X.w)) q) := by rw [el, aP, hq]; rfl
      have e4 : es.toList[i]? = some es[i] := by simp [hi']
      rw [e4] at e3
      rw [bH e3]
      rfl
    have I1 : bv X pins σ H { s with heap := h' } := I.turned (t' := s.toks) (fun b ob hb e => (sb.2 b hb).trans e) f0 f1 f3 f4 f5
    obtain ⟨oi, e, c, d⟩ := id st'
    rw [ek]
    exact ⟨_, rfl, xW (s := { s with heap := h' }) e c d (by decide) ⟨.ref q.2.1, H, I1, rfl, ⟨rfl, kvs[i].1, kvs[i].2, q.2.1, hki, rfl, q2⟩, st', fun b hb => (hf b hb).1⟩⟩
  done := by
    intro X hP hw hK hc i pins s σ H E I hf st hg
    subst hP hw hK
    obtain ⟨rfl, hH⟩ := hg
    obtain ⟨ho, _⟩ := (show ck X.prog X.w H s.heap a (.frz o (.dT kvs)) from I.hok a _ hH)
    obtain ⟨f0, f1, f2, f3, f4, f5⟩ := hf it (by simp)
    rw [← hes] at st
    exact Ak (I.ok.hd hc) st ho hdat fun h' eb => ⟨rfl, I.turned (t' := s.toks) (fun b o hb e => eb b o hb e) f0 f1 f3 f4 f5⟩
  self := fun _ _ _ _ _ st h => wpAny_pyIter_keyiter st h
section
variable {X:Cx} {pins:List (Addr×Obj)} {σ:St} {H:Hp} {s:Shared} {a:Addr} {o:Obj} {kvs:List (List Key×V)}
theorem bv.freeze(I:bv X pins σ H s)(hH:H a=some (.dT kvs))(ho:s.heap.get? a=some o):bv X pins σ (upd H a (.frz o (.dT kvs))) s:=by
 have ne:∀b u,H b=some u->u≠.dT kvs->b≠a:=λb u e n z=>by rw[z,hH] at e;cases e;exact n rfl
 have nn:∀b,H b=none->b≠a:=λb e z=>by rw[z,hH] at e;cases e
 refine I.step (g':=s.gens) (d':=s.drawn) (t':=s.toks) (h':=s.heap) (ch:=[]) (λb hb=>nomatch hb) (λb u _ _ _ e _=>e) (λb u _ _ _ e _=>⟨u.slots,e⟩) (λb u _ e n=>by rw[aO (nn b n)];exact n) (λb u _ e=>⟨u,e⟩)
  (λb xs e=>by rw[aO (ne _ _ e (by intro z;cases z))];exact e) (λb u xs e=>by rw[aO (ne _ _ e (by intro z;cases z))];exact e) (λb ps e=>⟨#[],by rw[aO (ne _ _ e (by intro z;cases z)),e];simp⟩) (λm hm=>hm) (λb u e=>?_) I.bare
 have stay:∀{b u},ck X.prog X.w H s.heap b u->ck X.prog X.w (upd H a (.frz o (.dT kvs))) s.heap b u:=fun {b u} x=>x.stay (λc v _ q=>q) (λc q=>by rw[aO (ne _ _ q (by intro z;cases z))];exact q) λc xs q=>by rw[aO (ne _ _ q (by intro z;cases z))];exact q
 by_cases hb:b=a
 ·subst hb;rw[aE] at e;cases e;exact⟨ho,stay (I.hok b _ hH)⟩
 ·rw[aO hb] at e;exact stay (I.hok b u e)
theorem bv.notFrozen(I:bv X pins σ H s)(hH:H a=some (.dT kvs)):∀o u,X.H₀ a≠some (.frz o u):=λo u e=>by
 have:=I.base.frzs a o u e;rw[hH] at this;cases this
theorem bv.thaw(I:bv X pins σ H s)(nf:∀o u,X.H₀ a≠some (.frz o u))(hH:H a=some (.frz o (.dT kvs))):bv X pins σ (upd H a (.dT kvs)) s:=by
 have ne:∀b u,H b=some u->u≠.frz o (.dT kvs)->b≠a:=λb u e n z=>by rw[z,hH] at e;cases e;exact n rfl
 have nn:∀b,H b=none->b≠a:=λb e z=>by rw[z,hH] at e;cases e
 have stay:∀{b u},ck X.prog X.w H s.heap b u->ck X.prog X.w (upd H a (.dT kvs)) s.heap b u:=fun {b u} x=>x.stay (λc v _ q=>q) (λc q=>by rw[aO (ne _ _ q (by intro z;cases z))];exact q) λc xs q=>by rw[aO (ne _ _ q (by intro z;cases z))];exact q
 refine⟨I.ok,I.os,I.bare,⟨I.base.keep,I.base.slot,λb u e n hx=>by rw[aO (nn b (I.base.free b u e n hx))];exact I.base.free b u e n hx,I.base.there,λb xs e=>?_,λb u v e=>?_,λb ps e=>?_⟩,I.loc,I.cell,by rw[aO (nn _ I.free)];exact I.free,λx c e=>by rw[aO (nn _ (I.freeC x c e))];exact I.freeC x c e,λp hp=>?_,λb u e=>?_,I.len⟩
 ·have:=I.base.tups b xs e;rw[aO (ne _ _ this (by intro z;cases z))];exact this
 ·have:=I.base.frzs b u v e;rw[aO (λz:b=a=>nf u v (by rw[<-z];exact e))];exact this
 ·obtain⟨more,q⟩:=I.base.tbls b ps e;exact⟨more,by rw[aO (ne _ _ q (by intro z;cases z))];exact q⟩
 ·obtain⟨p1,p2,p3⟩:=I.pin p hp;exact⟨p1,by rw[aO (nn _ p2)];exact p2,p3⟩
 ·by_cases hb:b=a
  ·subst hb;rw[aE] at e;cases e;exact stay (I.hok b _ hH).2
  ·rw[aO hb] at e;exact stay (I.hok b u e)
def yZ(k:Nat)(caps:List Nat)(tl:TE)(g:TG)(tf:TT)(te:TE):TE:=λσ H Q=>tl σ H λx H1=>∃(a:Addr) (kvs:List (List Key×V)),x=.ref a/\H1 a=some (.dT kvs) ∧
 ∀o,kK (Lp a o kvs) g tf te (λv H'=>H' a=some (.frz o (.dT kvs))/\Q v (upd H' a (.dT kvs))) (jH k caps σ) (upd H1 a (.frz o (.dT kvs)))
theorem FE{k:Nat}{caps:List Nat}{tl:TE}{g:TG}{tf:TT}{te:TE}{Q:VK}:yZ k caps tl g tf te σ H Q=tl σ H λx H1=>∃(a:Addr) (kvs:List (List Key×V)),x=.ref a/\H1 a=some (.dT kvs) ∧
 ∀o,kK (Lp a o kvs) g tf te (λv H'=>H' a=some (.frz o (.dT kvs))/\Q v (upd H' a (.dT kvs))) (jH k caps σ) (upd H1 a (.frz o (.dT kvs))):=rfl
theorem Gj{tg:Expr}{R:Value->Shared->Prop}{E:Value->Shared->Prop}(I:bv X pins σ H s)(hH:H a=some (.dT kvs))
  (h:∀o it tn s2,s.heap.get? a=some o->bv X pins σ (upd H a (.frz o (.dT kvs))) s2->Turn X.prog X.w X.K tg (Lp a o kvs) [it] it tn->tn 0 s2.heap->(∀b∈[it],kt X pins (upd H a (.frz o (.dT kvs))) b)->R (.ref it) s2) :
  wpAny (model X.prog X.w) X.A (pyIter (.ref a)) R E s:=by
 obtain⟨z,y,xs,r,o,es,ep,ho,ex,ed,el,nd⟩:=(show ck X.prog X.w H s.heap a (.dT kvs) from I.hok a _ hH)
 have hes:es.size=kvs.length:=by
  have h1:es.toList.length=xs.length:=by rw[el,aA]
  have h2:kvs.length=xs.length:=au r;rw[<-cY];lia
 refine xS y ho ex ed ?_;have I1:=I.freeze hH ho;refine h o s.heap.objs.size (λi h=>h.IsKeyIter s.heap.objs.size a i es.size ep) _ ho (I1.kept (t':=s.toks) λb o e=>aD _ e) (Aw a _ o es ep kvs ed hes) ⟨_,aQ _ rfl,rfl,rfl⟩ λb hb=>?_;have e:b=s.heap.objs.size:=by simpa using hb
 subst e;exact I1.fpOk (aH _) (I1.hok.fresh (aH _))
theorem D9{i:Nat}{x:Str}{own ns:List Str}{caps:List Nat}{elt tg iter:Expr}{ifs:List Expr}{scope:Scope}{pos pos' spos:Pos}{tl:TE}{g:TG}{tf:TT}{te:TE}(hN:X.N.Nodup)(hi:X.N[i]? = some x)(hx:Loc X.env.scope x)(hc:X.calm=true)(S:nC scope ns)(cp:mz X scope ns caps)(hit:PE X iter tl)
  (hg:∀C s H fp pn,PG (rR X (own++ns) scope C s H fp pn) tg g) (ht:∀C s H fp pn,PF (rR X (own++ns) scope C s H fp pn) ifs tf) (he:∀C s H fp pn,PE (rR X (own++ns) scope C s H fp pn) elt te)
  (hs:∀x,foldedSetIterable iter X.env x=pure x:=by intro _;rfl) (hsw:swapsWith (.ListComp elt [⟨tg,iter,ifs,0⟩] scope pos) (some (.Name x pos')) spos.line X.env=pure true:=by rfl)
  (hf:X.fn x=true\/X.env.scope.names.lookup x=some .local:=by first | exact .inl rfl | exact .inr rfl | assumption) :
  PS X (.Assign [.Name x pos'] (.ListComp elt [⟨tg,iter,ifs,0⟩] scope pos) spos) (vP (yZ own.length caps tl g tf te) (nF i)):=by
 intro pins s σ H D I h;rw[exec_Assign_Name_used _ _ _ _ hsw];refine wpAny_bind (Qc (wpAny_bind ?_));show wpAny _ X.A (do let _ <-comprehension (.ListComp elt [⟨tg,iter,ifs,0⟩] scope pos) scope X.env _ (newList []) false (eval iter X.env) (some (assign (.Name x pos') X.env))) _ _ s;refine wpAny_bind (Q8 (wpAny_comprehension_free (use:=some (assign (.Name x pos') X.env)) (Q:=λ_ s'=>SP X pins D .next s') rfl hs (cp.cl I S) S.kind S.names
  (eS (hit pins s σ H _ I h) λv s1 ⟨y,H1,I1,r1,q1⟩=>?_)) (λ_ s' hq=>wpAny_pure (wpAny_pure hq)) λ_ _ e=>e)
 obtain⟨a,kvs,e,hH,hJ⟩:=q1;subst e;cases r1;refine Gj (tg:=tg) I1 hH λo it tn s2 ho I2 T st2 f2=>?_;refine tV hc S cp hg ht he I2 T st2 f2 (hJ o) (RR:=λacc C=>compPost (model X.prog X.w) X.A X.xe (some (assign (.Name x pos') X.env)) (λ_ s'=>SP X pins D .next s') acc C) λL C m s' H' ys hDC hn fC I' q=>?_;obtain⟨q1,q2⟩:=q;show wpAny _ X.A (assign (.Name x pos') X.env (.ref L)) _ _ _;refine wpAny_assign_Name (qN I' hN hi hx (v:=.ref L) (u:=.ref L) rfl (λs'' I'' ⟨b,sb,hb⟩=>?_) hf);obtain⟨f0,f1,f2,f3,f4,f5⟩:=fC;have hCb:C≠b:=by
  rcases hb with z | z
  ·rw[z];exact f1
  ·exact λy=>f4 _ _ z y.symm
 exact⟨m,hn.sameBut sb hCb,λh' hs'=>⟨_,_,(I''.turned (t':=s''.toks) (λb o hb e=>(hs'.2 b hb).trans e) f0 f1 f3 f4 f5).thaw (I1.notFrozen hH) q1,q2⟩⟩
theorem uz{g:TG}{tf:TT}{te:TE}{Q:VK}(hsz:kvs.length<=sizeLine)(Pv:Nat->List V->St->Hp->Prop)(h0:Pv 0 [] σ H)(hl:∀i ys σ H,Pv i ys σ H->H a=some (.frz o (.dT kvs))/\ys.length<=i)
  (hs:∀i k v b ys σ H (N:List V->St->Hp->Prop),kvs[i]? = some (k,v)->H b=some (.tup (k.map kV))->Pv i ys σ H->(∀ys σ H,Pv (i+1) ys σ H->N ys σ H)->g (.ref b) σ H λσ2 H2=>tf σ2 H2 λb H3=>if b=true then te σ2 H3 λy H4=>N (ys++[y]) σ2 H4 else N ys σ2 H3)
  (hd:∀ys σ H p,Pv kvs.length ys σ H->H p=none->Q (.ref p) (upd H p (.lst ys))):kK (Lp a o kvs) g tf te Q σ H:=by
 refine rq kvs.length hsz Pv h0 (λi ys σ H p=>(hl i ys σ H p).2) (λi ys σ H hi p=>⟨hi,(hl i ys σ H p).1⟩) (λys σ H p=>⟨rfl,(hl _ ys σ H p).1⟩) ?_ hd;rintro i ys σ H x H' N hi p ⟨rfl,k,v,b,h1,rfl,h2⟩ hN;exact hs i k v b ys σ H' N h1 h2 p hN
theorem CV{td ty:TE}{Q:VK}:Cm td ty σ H Q=td σ H λx H1=>ty σ H1 λy H2=>∃a v,x=.ref a/\iV H2 a y (some v)/\Q v H2:=rfl
theorem CU{td ty tv:TE}{D:Ends}:DM td ty tv D σ H=tv σ H λv H1=>td σ H1 λx H2=>ty σ H2 λy H3=>∃a H4,x=.ref a/\mO H3 a y v H4/\D.nx σ H4:=rfl
theorem FC{Q:VK}:yU σ H Q=∀p,H p=none->Q (.ref p) (upd H p (.dT [])):=rfl
theorem zm{Q:VK}:yV σ H Q=∀p,H p=none->Q (.ref p) (upd H p (.dK [])):=rfl
theorem HU{ty td:TE}{Q:VK}:FK ty td σ H Q=ty σ H λy H1=>td σ H1 λx H2=>∃a o,x=.ref a/\iV H2 a y o/\Q (.bl o.isSome) H2:=rfl
theorem wG{ty td:TE}{Q:VK}:rW ty td σ H Q=ty σ H λy H1=>td σ H1 λx H2=>∃a o,x=.ref a/\iV H2 a y o/\Q (.bl (!o.isSome)) H2:=rfl
theorem JH{k d:Expr}{ty td:TE}{pos:Pos}(hu:X.A.units+1<cLine)(hk:PE X k ty)(hd:PE X d td)(hm:behindInMarks .In d=false:=by first | rfl | with_unfolding_all rfl):PT X (.Compare k [.In] [d] pos) (tB (FK ty td)):=D5 (J3 hu hk hd) hm
theorem BH{k d:Expr}{ty td:TE}{pos:Pos}(hu:X.A.units+1<cLine)(hk:PE X k ty)(hd:PE X d td)(hm:behindInMarks .NotIn d=false:=by first | rfl | with_unfolding_all rfl):PT X (.Compare k [.NotIn] [d] pos) (tB (rW ty td)):=D5 (BP hu hk hd) hm
end
def BZ(z:Nat->Int):Nat->Option Int
 | 0=>none
 | i+1=>some (match BZ z i with | none=>z i | some m=>if m<z i then z i else m)
def M8(b:Option Value):Array Value:=match b with | none=>#[] | some v=>#[v,v]
def M7(b:Option Value)(m:Option Int):Prop:=match b,m with | none,none=>True | some v,some i=>∃t,v=.int i t | _,_=>False
section
variable {prog:Program} {w:World} {A:Around} {R:Result->Shared->Prop} {I:Addr} {fp wr:List Addr} {n:Nat} {P:Nat->Value->Prop} {St:Nat->Heap->Prop} {z:Nat->Int} {d:Value}
abbrev EN (I S:Addr) (d:Value):Code:=.builtin "max.loop" ⟨[.ref I,.none,.ref S],[("default",d)]⟩
theorem B1(W:Walks prog w A.in1 I fp wr n P St)(hP:∀i v,P i v->∃t,v=.int (z i) t)(S:Addr)(hSf:S∉fp):∀(k i:Nat) (s:Shared) (b:Option Value) (c:Nat),n-i=k->i<=n->St i s.heap->M7 b (BZ z i) →
  s.heap.get? S=some { cls:=.type "list",dict:=none,data:=.seq (M8 b) c,slots:=#[] } →
  (∀v h' tk,(match BZ z n with | none=>v=d | some m=>∃t,v=.int m t)->(∀a o,a∉wr->a≠S->s.heap.get? a=some o->h'.get? a=some o)->R (.ok (.ret v)) { s with heap:=h',toks:=tk }) →
  codeAny (model prog w) A (EN I S d) R s:=by
 have hSw:S∉wr:=λh=>hSf (W.sub _ h);have again':(toString "max"++toString ".loop":String)="max.loop":=by decide
 intro k
 induction k with
 | zero=>
  intro i s b c hk hi hst hb hS hR;have hin:i=n:=by lia
  subst hin;refine Qs F.entry_max_loop ?_;rw[Around.under_plainId gO _];refine wpAny_bind (m:=seqItems? (.ref S)) (RD hS rfl (wpAny_bind (m:=tryCatch (pyNext (.ref I)) _) (wpAny_tryCatch (W.done s _ _ hst λh' tk hk'=>?_))));have hS':=hk' S _ hSw hS;cases b with
  | none=>
   cases hm:BZ z i with
   | some m=>rw[hm] at hb;exact hb.elim
   | none=>
    refine wpAny_bind (m:=rule _) (wpAny_rule (wpAny_pure (hR d h' tk (by rw[hm]) λa o h1 h2 e=>hk' a o h1 e)))
  | some v=>
   cases hm:BZ z i with
   | none=>rw[hm] at hb;exact hb.elim
   | some m=>
    rw[hm] at hb;obtain⟨t,rfl⟩:=hb;refine wpAny_bind (m:=updateSeq S λ_=>#[]) (RE hS' rfl (wpAny_bind (Qv (wpAny_pure ?_))) (by show 2<=sizeLine;decide) (ac _));exact hR _ _ tk (by rw[hm];exact⟨t,rfl⟩) λa o h1 h2 e=>(dw _ _ (iw h2)).trans (hk' a o h1 e)
 | succ k ih=>
  intro i s b c hk hi hst hb hS hR;have hlt:i<n:=by lia
  refine Qs F.entry_max_loop ?_;rw[Around.under_plainId gO _];refine wpAny_bind (m:=seqItems? (.ref S)) (RD hS rfl (wpAny_bind (m:=tryCatch (pyNext (.ref I)) _) (wpAny_tryCatch (W.item i s _ _ hlt hst λv h' tk hPv hst' hk'=>?_))));have hS':=hk' S _ hSw hS;obtain⟨t,rfl⟩:=hP i v hPv;have onS:∀f,St (i+1) (h'.update S f):=λf=>W.frame _ _ _ hst' λa ha o e=>(dw _ _ (λq:S=a=>hSf (q▸ha))).trans e;have fin:∀f v' h'' tk'',(match BZ z n with | none=>v'=d | some m=>∃t,v'=.int m t)->(∀a o,a∉wr->a≠S->(h'.update S f).get? a=some o->h''.get? a=some o)->R (.ok (.ret v')) { s with heap:=h'',toks:=tk'' }:=λf v' h'' tk'' q1 q2=>
   hR v' h'' tk'' q1 λa o h1 h2 e=>q2 a o h1 h2 ((dw _ _ (iw h2)).trans (hk' a o h1 e))
  cases b with
  | none=>
   cases hm:BZ z i with
   | some m=>rw[hm] at hb;exact hb.elim
   | none=>
    refine wpAny_bind (m:=updateSeq S λ_=>#[.int (z i) t,.int (z i) t]) (RE hS' rfl ?_);rw[again'];refine wpAny_pure ⟨RF gO _,ih (i+1) _ (some (.int (z i) t)) _ (by lia) hlt (onS _) (show ∃u,Value.int (z i) t=.int _ u by rw[hm];exact⟨t,rfl⟩) (d9 _ hS' rfl) (fin _)⟩
  | some v=>
   cases hm:BZ z i with
   | none=>rw[hm] at hb;exact hb.elim
   | some m=>
    rw[hm] at hb;obtain⟨u,rfl⟩:=hb;have gt:=CmpOf.ints_gt (prog:=prog) (w:=w) (A:=A.in1) (P:=λj v=>∃t,v=.int (if j=0 then z i else m) t) (λj=>if j=0 then z i else m) λ_ _ h=>h;refine wpAny_bind (m:=tryCatch (holding [Value.int (z i) t,Value.int (z i) t] _) _) (wpAny_tryCatch (Qb (wpAny_bind (gt 0 1 _ _ _ _ _ ⟨t,rfl⟩ ⟨u,rfl⟩ (wpAny_bind (Qb (Q9 (wpAny_bind (Qv (wpAny_pure ?_))))))))));rw[again']
    split
    ·rename_i hq;have hgt:m<z i:=RS (show decide (m<z i)=true from hq);refine wpAny_bind (m:=updateSeq S λ_=>#[.int (z i) t,.int (z i) t]) (RE hS' rfl (wpAny_bind (Qv ?_)) (by show 2<=sizeLine;decide) (by show 2<=sizeLine+1;decide));refine wpAny_pure ⟨RF gO _,ih (i+1) _ (some (.int (z i) t)) _ (by lia) hlt (onS _) (show ∃u,Value.int (z i) t=.int _ u by rw[hm];simp only[RN hgt];exact⟨t,rfl⟩) (d9 _ hS' rfl) (fin _)⟩
    ·rename_i hq;have hgt:¬m<z i:=λq=>hq (show decide (m<z i)=true from RQ q);refine wpAny_bind (Qv (wpAny_pure ⟨RF gO _,ih (i+1) _ (some (.int m u)) c (by lia) hlt hst' (show ∃u',Value.int m u=.int _ u' by rw[hm];simp only[RM hgt];exact⟨u,rfl⟩) hS' λv' h'' tk'' q1 q2=>?_⟩));exact hR v' h'' tk'' q1 λa o h1 h2 e=>q2 a o h1 h2 (hk' a o h1 e)
end
def K0(m:Option Int)(x:Int):Option Int:=match m with | none=>some x | some y=>some (if y<x then x else y)
def nK(ns:List Int)(d:Int):Int:=(ns.foldl K0 none).getD d
theorem xL(ns:List Int):∀i,i<=ns.length->BZ (λj=>ns.getD j 0) i=(ns.take i).foldl K0 none
 | 0,_=>by simp[BZ]
 | i+1,h=>by
  have hi:i<ns.length:=h;rw[bD,aJ hi];simp only[kh,List.foldl_append,fc,List.foldl_nil];rw[<-xL ns i (by lia)];show some _=_;have e:ns.getD i 0=ns[i]:=by simp[List.getD,hi]
  simp only[e];cases BZ (λj=>ns.getD j 0) i<;>rfl
def wj(K:RV):V->V->Hp->VK->Prop:=λx y H Q=>∃(p:Addr) (ns:List Int) (d:Int),x=.ref p/\y=.int d/\bw K H p (ns.map V.int)/\Q (.int (nK ns d)) H
theorem tQ:∀{us:List Value} {ns:List Int},IntsAre us ns->∀i,i<us.length->∃t,us.getD i Value.none=.int (ns.getD i 0) t
 | _,_,.nil,i,h=>by simp at h
 | _,_,.cons n t r,0,_=>⟨t,rfl⟩
 | _,_,.cons n t r,i+1,h=>by
  obtain⟨t',e⟩:=tQ r i (by simpa using h);exact⟨t',by simpa using e⟩
section
variable {X:Cx}
theorem Bn(hc:X.calm=true){pins:List (Addr×Obj)}{σ:St}{H:Hp}{s:Shared}{x y:V}{u v:Value}{Q:VK}(I:bv X pins σ H s)(rx:RelV x u)(ry:RelV y v)(h:wj X.K x y H Q):
  wpAny (model X.prog X.w) X.A (call (.builtin "max") [u] [(Str.ofString "default",v)]) (EP X pins σ Q) X.xe s:=by
 obtain⟨p,ns,d,rfl,rfl,hq,q⟩:=h;cases rx;obtain⟨td,rfl⟩:=ry;obtain⟨its,rv,pl,hz⟩:=I.list hq;have hi:=ly rv;have hil:its.length=ns.length:=by have:=rv.length;simpa using this.symm
 have hl:=pl.isList;have hlt:p<s.heap.objs.size:=by obtain⟨_,e,_⟩:=hl;exact aN e
 have key:∀R:Result->Shared->Prop,(∀v h' tk,(match BZ (λj=>ns.getD j 0) its.toArray.size with | none=>v=Value.int d td | some m=>∃t,v=.int m t)->(∀a o,s.heap.get? a=some o->h'.get? a=some o)->R (.ok (.ret v)) { s with heap:=h',toks:=tk }) →
   codeAny (model X.prog X.w) X.A (.call (.builtin "max") ⟨[.ref p],[(Str.ofString "default",.int d td)]⟩) R s:=by
  intro R hR;refine codeAny_call_builtin F.plain_max F.entry_max ?_;have body:wpAny (model X.prog X.w) X.A.in1 (Builtin.«max» ⟨[.ref p],[(Str.ofString "default",.int d td)]⟩) (λfin s'=>match fin with | .done f=>R (.ok f) s' | .again c'=>c'.quiet=true/\codeAny (model X.prog X.w) X.A c' R s') (λe s'=>R (.error e) s') s:=by
   refine wpAny_bind (m:=Builtin.Builtins.bindParams "max" ["key","default"] 0 ⟨[],[(Str.ofString "default",.int d td)]⟩) (wpAny_of_eq (show _=pure [none,some (Value.int d td)] from rfl) ?_);refine wpAny_bind (wpAny_pure ?_);refine wpAny_bind (wpAny_pyIter_list hl ?_);refine wpAny_bind (Qm ?_);have again':(toString "max"++toString ".loop":String)="max.loop":=by decide
   rw[again'];have W:=Walks.list (prog:=X.prog) (w:=X.w) (A:=X.A.in1) (I.ok.hd hc) s.heap.objs.size p (bC hlt) its.toArray;have hI:((s.heap.push { cls:=.type "list_iterator",data:=.fields #[.ref p,.int 0 0] }).push { cls:=.type "list",data:=.seq #[] }).get? s.heap.objs.size=some { cls:=.type "list_iterator",data:=.fields #[.ref p,.int 0 0] }:=aD _ (aQ _ rfl);refine wpAny_pure ⟨RF gO _,B1 (z:=λj=>ns.getD j 0) W (λi v hv=>?_) _ ?_ _ 0 _ none 0 rfl (ac _) ?_ trivial (aQ _ rfl) λv h' tk hv hk=>?_⟩
   ·have hv':its[i]? = some v:=by simpa using hv
    obtain⟨t,e⟩:=tQ hi i (aF.mp hv').1;exact⟨t,by rw[<-e];simp[List.getD,hv']⟩
   ·rw[fS];intro z;rcases aK.mp z with e | e
    ·exact mF _ e
    ·have e':s.heap.objs.size+1=p:=by simpa using e
     exact absurd hlt (by rw[<-e'];exact Nat.not_lt.mpr (dk _))
   ·exact⟨⟨_,hI,rfl,rfl⟩,(hl.push _).push _⟩
   ·refine hR v h' tk hv λa o e=>hk a o ?_ ?_ (aD _ (aD _ e))
    ·exact λz=>by rw[dL.mp z] at e;exact dc _ (aN e)
    ·exact λz=>by rw[z,fS] at e;exact absurd (aN e) (Nat.not_lt.mpr (dk _))
  simp only[checkBuiltinCall,F.kind_max];have ha:argsOk "max" ⟨[.ref p],[(Str.ofString "default",.int d td)]⟩:=by unfold argsOk;kernel_rfl
  cases hsig:Manifest.signature? "max" with
  | none=>exact wpAny_pure body
  | some sig=>
   simp only[argsOk,hsig] at ha;show wpAny _ X.A.in1 (Bind.checkArgs "max" sig _) _ _ s;rw[show Bind.checkArgs "max" sig ⟨[.ref p],[(Str.ofString "default",.int d td)]⟩=pure () from ha];exact wpAny_pure body
 refine wpAny_call (key _ λv h' tk hv hk=>?_);have e1:its.toArray.size=ns.length:=by rw[aS,hil]
 rw[e1,xL ns ns.length (aH _),bZ] at hv;have fin:v=.int (nK ns d) td\/∃t,v=.int (nK ns d) t:=by
  unfold nK
  revert hv
  generalize ns.foldl _ none=o;intro hv;cases o with
  | none=>exact .inl hv
  | some m=>exact .inr hv
 refine⟨.int (nK ns d),H,I.kept hk,?_,q⟩;rcases fin with z | z
 ·exact⟨td,z⟩
 ·exact z
theorem Fx {e e2:Expr} {te td:TE} {p kp pos:Pos} (hc:X.calm=true) (hg:Gl X "max") (hm:X.mg "max"=none) (he:PE X e te) (hd:PE X e2 td) (hs:starEach [e] X.env=[(false,eval e X.env)]:=by rfl) :
  PE X (.Call (.Name "max" p) [e] [⟨some "default",e2,kp⟩] pos) (Ce (wj X.K) te td):=by
 intro pins s σ H Q I h;refine Qh (j3 I hg hm fV ?_);refine callWith_kw (eS (iE he yn hs pos pins s σ H (λvs H1=>match vs with | [x]=>td σ H1 λy H2=>wj X.K x y H2 Q | _=>False) I h) λus s1 ⟨vs,H1,I1,r1,q1⟩=>?_) (by rw[hs];rfl) (by rw[hs];rfl)
 match vs,r1,q1 with
 | [x],r1,q1=>
  obtain⟨u,rfl,rx⟩:=Qg r1;refine kws_cons (eS (hd pins s1 σ H1 _ I1 q1) λv s2 ⟨y,H2,I2,ry,q2⟩=>kws_nil ?_);exact Bn hc I2 rx ry q2
theorem Hx{K:RV}{a:Addr}{d:Int}{H:Hp}{Q:VK}:wj K (.ref a) (.int d) H Q=∃ns:List Int,bw K H a (ns.map V.int)/\Q (.int (nK ns d)) H:=
 propext ⟨λ⟨_,ns,_,e1,e2,h⟩=>by cases e1;cases e2;exact⟨ns,h⟩,λ⟨ns,h⟩=>⟨a,ns,d,rfl,rfl,h⟩⟩
theorem i9{A:Around}{k:Nat}(hr:iU k A):A.units+1<cLine:=by have:=hr.units;lia
end
def NJ(dO:Option Addr)(e:Addr)(h:Heap):Prop:=∃o vs,h.get? e=some o/\(o.dict=dO/\o.data=.fields vs)/\vs[2]? = some .none
def IZ(C:Addr)(E:XK)(t:TA):TS:=λ_ σ H=>t σ H λvs H1=>vs.length<=sizeLine/\E (.ref C) none H1
def uJ(dO:Option Addr)(C a:Addr):HO:=.ext λh=>(∃o,h.get? a=some o/\o.cls=.ref C)/\NJ dO a h
def MN(sp:Sp)(K:RV)(c:Value)(i:Nat)(t:TA)(ts:Addr->TS):TS:=λD σ H=>t σ H λvs H1=>sp vs H1 (λ_ H2=>D.nx σ H2) λcls dO H2=>
 ∃C,cls=.ref C/\PySem.W.exmOne K (.ref C) c=some true/\∀a,H2 a=none->ts a { nx:=λσ' H'=>D.nx (σ'.set i none) H',rt:=D.rt,bk:=λσ' H'=>D.bk (σ'.set i none) H',ct:=λσ' H'=>D.ct (σ'.set i none) H' } (σ.set i (some (.ref a))) (upd H2 a (uJ dO C a))
section
variable {σ:St} {H:Hp}
theorem zf{C:Addr}{E:XK}{t:TA}{D:Ends}:IZ C E t D σ H=t σ H λvs H1=>vs.length<=sizeLine/\E (.ref C) none H1:=rfl
theorem HK{sp:Sp}{K:RV}{c:Value}{i:Nat}{t:TA}{ts:Addr->TS}{D:Ends}:MN sp K c i t ts D σ H=t σ H λvs H1=>sp vs H1 (λ_ H2=>D.nx σ H2) λcls dO H2=>
 ∃C,cls=.ref C/\PySem.W.exmOne K (.ref C) c=some true/\∀a,H2 a=none->ts a { nx:=λσ' H'=>D.nx (σ'.set i none) H',rt:=D.rt,bk:=λσ' H'=>D.bk (σ'.set i none) H',ct:=λσ' H'=>D.ct (σ'.set i none) H' } (σ.set i (some (.ref a))) (upd H2 a (uJ dO C a)):=rfl
end
theorem EC:typeLookup (.type "list_reverseiterator") "__len__"=pure none:=by rw[typeLookup_type,builtinLookup_eq_fast];kernel_rfl
theorem Gf:typeLookup (.type "list_reverseiterator") "__length_hint__"=pure (some (.builtin "list_reverseiterator.__length_hint__")):=by rw[typeLookup_type,builtinLookup_eq_fast];kernel_rfl
section
variable {prog:Program} {w:World} {A:Around} {E:Value->Shared->Prop} {s:Shared}
theorem E1{I l:Addr}{i:Int}{Q:Bool->Shared->Prop}(hit:s.heap.IsRevIter I l i)(h:Q false s):wpAny (model prog w) A (Builtin.List.listLengthHint (.ref I)) Q E s:=by
 unfold Builtin.List.listLengthHint;refine wpAny_bind (wpAny_specialOf hit.typeIs EC ?_);show wpAny _ A (specialOf (Value.ref I) (Str.ofString "__length_hint__")>>=_) _ _ _;refine wpAny_bind (wpAny_specialOf hit.typeIs Gf ?_);generalize hid:("list_reverseiterator.__length_hint__":String)=id0
 wp_delta
 rw[show splitId id0=some ("list_reverseiterator","__length_hint__") from by subst hid;decide +kernel];subst hid;refine wpAny_bind (wpAny_isInstance (b:=true) hit.typeIs (by rw[isSubtype_type];kernel_rfl) ?_);refine wpAny_pure ?_;exact h
theorem zR{R:Result->Shared->Prop}{l I:Addr}{items:Array Value}(hh:A.handled=none)(hit:s.heap.IsRevIter I l ((items.size:Int) - 1))(hl:s.heap.IsList l items)(hne:l≠I)(hlen:items.size<=1000)(S:Addr)(res:Value)(c₀:Nat)
  (hS:s.heap.get? S=some { cls:=.type "list",data:=.seq #[] c₀ }) (hSI:S≠I) (hSl:S≠l)
  (hR:∀h' tk acc' c',(∀b o,b≠S->b≠I->s.heap.get? b=some o->h'.get? b=some o)->h'.get? S=some { cls:=.type "list",dict:=none,data:=.seq acc' c',slots:=#[] } →
   ItemsOf (λi v=>items[items.size - 1-i]? = some v) acc' items.size->R (.ok (.ret res)) { s with heap:=h',toks:=tk }) :
  wpAny (model prog w) A.in1 (Builtin.List.listExtendWith (.ref S) (.ref I) res)
   (λfin s'=>match fin with | .done f=>R (.ok f) s' | .again c'=>c'.quiet=true/\codeAny (model prog w) A c' R s') (λe s'=>R (.error e) s') s:=by
 have hSf:S∉[I,l]:=λhm=>by
  rcases aK.mp hm with e | e
  ·exact hSI e
  ·exact hSl (dL.mp e)
 have W:=(Walks.listRev (prog:=prog) (w:=w) (A:=A.in1) hh I l hne items).toS;have h1:Builtin.List.listSameRef (.ref S) (.ref I)=false:=by simp[Builtin.List.listSameRef,hSI]
 have h2:(Value.type "list_reverseiterator"==Value.type "list")=false:=by decide
 have h3:(Value.type "list_reverseiterator"==Value.type "tuple")=false:=by decide
 have hz:((items.size:Int) - 1-((0:Nat):Int))=(items.size:Int) - 1:=by simp
 unfold Builtin.List.listExtendWith;refine wpAny_bind (wpAny_typeOf hit.typeIs ?_);simp only[h1,h2,h3,dQ,bW,RU];refine wpAny_bind (wpAny_pyIter_revIter hit ?_);refine wpAny_bind (Qb (E1 hit ?_));refine wpAny_pure ⟨RF F.plain_extend_loop _,?_⟩;refine codeAny_extend_loopS W (ba (bQ hlen)) S hSf res items.size 0 _ #[] c₀ rfl (ac _) ⟨ac _,by rw[hz];exact hit,hl⟩ hS (ItemsOf.nil _) λs' acc' c' hm hS' hacc=>?_;rw[Moved.eq_with hm];refine hR s'.heap s'.toks acc' c' (λb o hb hb2 e=>hm.heap b o (λhmem=>?_) e) hS' hacc;rcases aK.mp hmem with e' | hmem
 ·exact hb e'
 ·exact hb2 (dL.mp hmem)
theorem EY{R:Result->Shared->Prop}{l I:Addr}{items:Array Value}(hh:A.handled=none)(hit:s.heap.IsRevIter I l ((items.size:Int) - 1))(hl:s.heap.IsList l items)(hne:l≠I)(hlen:items.size<=1000)(S:Addr)
  (hS:s.heap.get? S=some { cls:=.type "list",data:=.seq #[] }) (hSI:S≠I) (hSl:S≠l)
  (hR:∀h' tk acc' c',(∀b o,b≠S->b≠I->s.heap.get? b=some o->h'.get? b=some o)->h'.get? S=some { cls:=.type "list",dict:=none,data:=.seq acc' c',slots:=#[] } →
   ItemsOf (λi v=>items[items.size - 1-i]? = some v) acc' items.size->R (.ok (.ret .none)) { s with heap:=h',toks:=tk }) :
  wpAny (model prog w) A.in1 (Builtin.«list.__init__» ⟨[.ref S,.ref I],[]⟩)
   (λfin s'=>match fin with | .done f=>R (.ok f) s' | .again c'=>c'.quiet=true/\codeAny (model prog w) A c' R s') (λe s'=>R (.error e) s') s:=by
 show wpAny _ _ (do let old <-Builtin.List.listItems (.ref S);Builtin.List.listUpdate (.ref S) (λ_=>#[]);letGo old.toList.reverse;Builtin.List.listExtendWith (.ref S) (.ref I) .none) _ _ s;refine wpAny_bind ?_;unfold Builtin.List.listItems;refine wpAny_bind (RD hS rfl (wpAny_pure ?_));show wpAny _ _ (updateSeq S (λ_=>#[])>>=λ_=>letGo (#[]:Array Value).toList.reverse>>=λ_=>Builtin.List.listExtendWith (.ref S) (.ref I) .none) _ _ s;refine wpAny_bind (RE hS rfl ?_);have hS₂:=d9 (Obj.mapSeq (λ_=>(#[]:Array Value))) hS rfl;have oth:∀b o,b≠S->s.heap.get? b=some o->(s.heap.update S (Obj.mapSeq (λ_=>(#[]:Array Value)))).get? b=some o:=
  λb o hb e=>(dw _ _ (iw hb)).trans e
 refine wpAny_bind (Qv ?_);refine zR hh (hit.at λo e=>oth I o hSI.symm e) (hl.at λo e=>oth l o hSl.symm e) hne hlen S .none _ hS₂ hSI hSl λh' tk acc' c' hk hS' hacc=>?_;exact hR h' tk acc' c' (λb o hb hb2 e=>hk b o hb hb2 (oth b o hb e)) hS' hacc
theorem uN{Q:Value->Shared->Prop}{l I:Addr}{items:Array Value}(hh:A.handled=none)(hit:s.heap.IsRevIter I l ((items.size:Int) - 1))(hl:s.heap.IsList l items)(hne:l≠I)(hlen:items.size<=1000)
  (hQ:∀h' tk acc' c',(∀b o,b≠I->s.heap.get? b=some o->h'.get? b=some o) →
   h'.get? s.heap.objs.size=some { cls:=.type "list",dict:=none,data:=.seq acc' c',slots:=#[] }->ItemsOf (λi v=>items[items.size - 1-i]? = some v) acc' items.size->Q (.ref s.heap.objs.size) { s with heap:=h',toks:=tk }) :
  wpAny (model prog w) A (call (.type "list") [.ref I]) Q E s:=by
 refine callType_codes (Q₁:=λobj s₁=>obj=.ref s.heap.objs.size/\s₁={ s with heap:=s.heap.push { cls:=.type "list",data:=.seq #[] } }) F.called_list (F.typeCall_list_1 _) F.entry_list_init
  (code_list_new _ ⟨rfl,rfl⟩) λobj s₁ h₁=>?_
 obtain⟨rfl,rfl⟩:=h₁;have hS:(s.heap.push { cls:=.type "list",data:=.seq #[] }).get? s.heap.objs.size=some { cls:=.type "list",data:=.seq #[] }:=aQ _ rfl;obtain⟨o1,e1,_⟩:=id hit;obtain⟨o2,e2,_⟩:=id hl;have n1:s.heap.objs.size≠I:=(bC (aN e1)).symm;have n2:s.heap.objs.size≠l:=(bC (aN e2)).symm;refine⟨⟨_,hS,rfl⟩,F.args_list_init_2 _ _,EY (A:=A.in1) hh (hit.at λo e=>aD _ e) (hl.at λo e=>aD _ e) hne hlen _ hS n1 n2 λh' tk acc' c' hk hS' hacc=>?_⟩;exact⟨rfl,hQ h' tk acc' c' (λb o hb e=>hk b o (bC (aN e)) hb (aD _ e)) hS' hacc⟩
end
def IX(te:TE):TE:=λσ H Q=>te σ H λx H1=>∃(a:Addr) (xs:List V),x=.ref a/\H1 a=some (.lst xs)/\xs.length<=1000/\∀l,H1 l=none->Q (.ref l) (upd H1 l (.lst xs.reverse))
theorem w_rev{te:TE}{σ:St}{H:Hp}{Q:VK}:IX te σ H Q=te σ H λx H1=>∃(a:Addr) (xs:List V),x=.ref a/\H1 a=some (.lst xs)/\xs.length<=1000/\∀l,H1 l=none->Q (.ref l) (upd H1 l (.lst xs.reverse)):=rfl
theorem C0{xs:List V}{us:List Value}(r:cV xs us):∀{i:Nat} {x:V} {u:Value},xs[i]? = some x->us[i]? = some u->RelV x u:=by
 induction r with
 | nil=>intro i x u h;simp at h
 | cons a b ih=>
  intro i x u h h';cases i with
  | zero=>cases h;cases h';exact a
  | succ i=>exact ih h h'
theorem FG{xs:List V}{us:List Value}(hl:xs.length=us.length)(h:∀(i:Nat) x u,xs[i]? = some x->us[i]? = some u->RelV x u):cV xs us:=by
 induction xs generalizing us with
 | nil=>cases us with | nil=>exact .nil | cons a b=>simp at hl
 | cons x xs ih=>
  cases us with
  | nil=>simp at hl
  | cons u us=>exact .cons (h 0 x u rfl rfl) (ih (by simpa using hl) λi y v h1 h2=>h (i+1) y v h1 h2)
theorem ym {X:Cx} {e:Expr} {te:TE} {p p2 pos2 pos:Pos} (hc:X.calm=true) (hgl:Gl X "list") (hml:X.mg "list"=none) (hgr:Gl X "reversed") (hmr:X.mg "reversed"=none) (he:PE X e te)
  (hs:starEach [.Call (.Name "reversed" p2) [e] [] pos2] X.env=[(false,eval (.Call (.Name "reversed" p2) [e] [] pos2) X.env)]:=by rfl) (hs2:starEach [e] X.env=[(false,eval e X.env)]:=by rfl) :
  PE X (.Call (.Name "list" p) [.Call (.Name "reversed" p2) [e] [] pos2] [] pos) (IX te):=by
 intro pins s σ H Q I h;refine Qh (j3 I hgl hml boot_list ?_);refine bx ?_ hs rfl;rw[hs];show wpAny _ _ (spliced ((false,eval (.Call (.Name "reversed" p2) [e] [] pos2) X.env)::[])) _ _ s;refine gT (Qh (j3 I hgr hmr boot_reversed (bx ?_ hs2 rfl)));rw[hs2];show wpAny _ _ (spliced ((false,eval e X.env)::[])) _ _ s;refine gT (eS (he pins s σ H _ I h) λu s1 ⟨x,H1,I1,r1,a,xs,ex,hx,hle,q⟩=>?_);subst ex;cases r1;obtain⟨hz,its,n,rv,hlen,ho⟩:=I1.lstM hx;have hL:s1.heap.IsList a its.toArray:=⟨_,ho,rfl,n,rfl⟩
 have hsz:its.toArray.size=its.length:=by simp
 have hal:=aN ho;refine jD (call_reversed_list hL (jD ?_));refine uN (I:=s1.heap.objs.size) (l:=a) (items:=its.toArray) (I1.ok.hd hc) ⟨_,aQ _ rfl,rfl,rfl⟩ (hL.at λo e=>aD _ e) (bC hal) (by rw[hsz];lia) λh' tk acc' c' kp e' hit=>?_;have sz:(s1.heap.push (revObj a ((its.toArray.size:Int) - 1))).objs.size=s1.heap.objs.size+1:=fS _ _;have hv:cV xs.reverse acc'.toList:=by
  obtain⟨a1,a2⟩:=hit;rw[hsz] at a1 a2;have al:acc'.toList.length=its.length:=by rw[<-a1];simp
  refine FG (by rw[fF,hlen,al]) λi x u h1 h2=>?_;have hu:acc'[i]? = some u:=by simpa using h2
  have h3:=a2 i u hu;have hi:i<its.length:=by rw[<-a1];exact(gz.mp hu).1
  rw[List.getElem?_reverse (by rw[hlen];exact hi),hlen] at h1;have h4:its[its.length - 1-i]? = some u:=by simpa using h3
  exact C0 rv h1 h4
 refine⟨.ref _,_,I1.laid (h':=h') (t':=tk) (λb o e=>kp b o (bC (aN e)) (aD _ e)) (by rw[sz];exact dk _) (show ck X.prog X.w _ h' _ (.lst _) from ⟨by rw[fF];exact hz,acc'.toList,c',hv,by simpa using e'⟩),rfl,q _ (I1.hok.fresh (by rw[sz];exact dk _))⟩
structure QE (X:Cx) (e:Expr) (t:TE):Prop where
 h:PE X e t
structure QT (X:Cx) (e:Expr) (t:TT):Prop where
 h:PT X e t
structure QA (X:Cx) (es:List Expr) (t:TA):Prop where
 h:PA X es t
structure QS (X:Cx) (st:Stmt) (t:TS):Prop where
 h:PS X st t
structure jI (X:Cx) (sts:List Stmt) (t:TS):Prop where
 h:xr X sts t
structure QG (X:Cx) (e:Expr) (t:TG):Prop where
 h:PG X e t
structure MF (X:Cx) (es:List Expr) (t:Bq):Prop where
 h:Ll X es t
structure QF (X:Cx) (es:List Expr) (t:TT):Prop where
 h:PF X es t
structure QW (X:Cx) (e:Expr) (t:TT):Prop where
 h:PW X e t
structure QO (X:Cx) (e:Option Expr) (t:TO):Prop where
 h:PO X e t
structure HC (X:Cx) (pos:Pos) (keys:List (Option Expr)) (values:List Expr) (trs:List (TE×TE)):Prop where
 h:Lk X pos keys values trs
structure QI (X:Cx) (tg iter:Expr) (t:TI):Prop where
 h:PI X tg iter t
theorem QW.pt{X:Cx}{e:Expr}{t:TT}(h:QW X e t):QT X e t:=⟨h.h.pt⟩
section
variable {X:Cx}
theorem aC{i j pos}:QE X (.Constant (.int i) j pos) (tC (.int i)):=⟨J0 ⟩
end
section
variable {X:Cx}
theorem pD{b j pos}:QE X (.Constant (.bool b) j pos) (tC (.bl b)):=⟨L6 ⟩
end
section
variable {X:Cx}
theorem kN{j pos}:QE X (.Constant .none j pos) (tC .non):=⟨JY ⟩
end
section
variable {X:Cx}
theorem cF{x j pos}:QE X (.Constant (.str x) j pos) (tC (.str x)):=⟨JV ⟩
end
section
variable {X:Cx}
theorem ig {x:Str} {v:V} {u:Value} {pos:Pos} (hg:Gl X x) (hm:X.mg x=none) (hv:bootBuiltins x=some u) (r:RelV v u) (hn:x≠"__name__":=by decide) (hd:(x==("__debug__":Str))=false:=by decide):QE X (.Name x pos) (tC v):=⟨GE hg hm hv r hn hd⟩
end
section
variable {X:Cx} {pos:Pos}
theorem iR{e:Expr}{t:TE}(h:QE X e t)(he:∀whole,isTrue e X.env whole=(do let v <-whole;standAt e.pos;holding [v] (truthy v)):=by intro _;rfl):QT X e (tB t):=⟨JF h.h he⟩
end
section
variable {X:Cx} {a:Expr} {pos:Pos} {tA:TT}
theorem l8(ha:QT X a tA):QW X (.BoolOp .And [a] pos) tA:=⟨Fd ha.h⟩
end
section
variable {X:Cx} {a:Expr} {pos:Pos} {tA:TT}
theorem mU(ha:QT X a tA):QW X (.BoolOp .Or [a] pos) tA:=⟨JC ha.h⟩
end
section
variable {X:Cx} {a b:Expr} {pos:Pos} {tA tB':TT} {rest:List Expr}
theorem oW(ha:QT X a tA)(hb:QW X (.BoolOp .And (b::rest) pos) tB'):QW X (.BoolOp .And (a::b::rest) pos) (Ii tA tB'):=⟨JD ha.h hb.h⟩
end
section
variable {X:Cx} {a b:Expr} {pos:Pos} {tA tB':TT} {rest:List Expr}
theorem mW(ha:QT X a tA)(hb:QW X (.BoolOp .Or (b::rest) pos) tB'):QW X (.BoolOp .Or (a::b::rest) pos) (MP tA tB'):=⟨LW ha.h hb.h⟩
end
section
variable {X:Cx} {a:Expr} {pos:Pos} {tA:TT}
theorem iD(ha:QT X a tA):QT X (.UnaryOp .Not a pos) (I9 tA):=⟨JG ha.h⟩
end
section
variable {X:Cx} {a:Expr} {pos:Pos}
theorem mY{op}{t:TE}(h:QE X a t):QE X (.BoolOp op [a] pos) t:=⟨JW h.h⟩
end
section
variable {X:Cx} {a b:Expr} {ta tb:TE} {pos:Pos} {rest:List Expr}
theorem lC(ha:QE X a ta)(hb:QE X (.BoolOp .And (b::rest) pos) tb):QE X (.BoolOp .And (a::b::rest) pos) (Co ta tb):=⟨J2 ha.h hb.h⟩
end
section
variable {X:Cx} {a b:Expr} {ta tb:TE} {pos:Pos} {rest:List Expr}
theorem JB(ha:QE X a ta)(hb:QE X (.BoolOp .Or (b::rest) pos) tb):QE X (.BoolOp .Or (a::b::rest) pos) (I0 ta tb):=⟨L1 ha.h hb.h⟩
end
section
variable {X:Cx} {a:Expr} {ta:TE} {pos:Pos}
theorem AV(ha:QE X a ta):QE X (.UnaryOp .Not a pos) (Cf ta):=⟨JX ha.h⟩
end
section
variable {X:Cx} {a b:Expr} {ta tb:TE} {pos:Pos} {tA:TT}
theorem ui{c:Expr}(hc:QT X c tA)(ha:QE X a ta)(hb:QE X b tb):QE X (.IfExp c a b pos) (MQ tA ta tb):=⟨Di hc.h ha.h hb.h⟩
end
section
variable {X:Cx}
theorem bi  : jI X [] Cg:=⟨Fg ⟩
end
section
variable {X:Cx} {st:Stmt} {rest:List Stmt} {t u:TS}
theorem aI(h1:QS X st t)(h2:jI X rest u):jI X (st::rest) (IW t u):=⟨D7 h1.h h2.h⟩
end
section
variable {X:Cx} {st:Stmt} {t:TS}
theorem aL(h1:QS X st t):jI X [st] t:=⟨Ff h1.h⟩
end
section
variable {X:Cx} {pos:Pos}
theorem BC  : QS X (.Break pos) ya:=⟨Dc ⟩
end
section
variable {X:Cx} {e:Expr} {te:TE} {pos:Pos}
theorem cZ(he:QE X e te)(hs:swapsWith e none pos.line X.env=pure false:=by rfl):QS X (.Expr e pos) (Cj te):=⟨Fj he.h hs⟩
end
section
variable {X:Cx} {e:Expr} {te:TE} {pos:Pos}
theorem bY(he:QE X e te):QS X (.Return (some e) pos) (IY te):=⟨JJ he.h⟩
end
section
variable {X:Cx} {t u:TS} {pos:Pos}
theorem cj{c:Expr}{a b:List Stmt}{tc:TT}(hc:QT X c tc)(ha:jI X a t)(hb:jI X b u):QS X (.If c a b pos) (Ie tc t u):=⟨LX hc.h ha.h hb.h⟩
end
section
variable {X:Cx} {st:Stmt}
theorem oX  : QS X st Ci:=⟨Da ⟩
end
section
variable {X:Cx} {pos:Pos}
theorem bP{i:Nat}{x:Str}(hN:X.N.Nodup)(hi:X.N[i]? = some x)(hx:Loc X.env.scope x)(hf:X.fn x=true\/X.env.scope.names.lookup x=some .local:=by first | exact .inl rfl | exact .inr rfl | assumption):QG X (.Name x pos) (nF i):=⟨Fw hN hi hx hf⟩
end
section
variable {X:Cx}
theorem ji  : MF X [] Jy:=⟨Fv ⟩
end
section
variable {X:Cx}
theorem eC{e:Expr}{es:List Expr}{t:TG}{u:Bq}(h1:QG X e t)(h2:MF X es u)(hs:(assignEach (e::es) X.env).map (·.2)=assign e X.env::(assignEach es X.env).map (·.2):=by rfl):MF X (e::es) (E4 t u):=⟨Df h1.h h2.h hs⟩
end
section
variable {X:Cx} {pos:Pos}
theorem lB{es:List Expr}{k:Nat}{t:Bq}{n:Nat}(hc:X.calm=true)(h:MF X es t)(hn:(assignEach es X.env).length=n:=by rfl)(hst:(assignEach es X.env).findIdx? (·.1)=none:=by rfl):QG X (.Tuple es k pos) (Jw X.K n t):=⟨JP hc h.h hn hst⟩
end
section
variable {X:Cx} {pos:Pos}
theorem re{o i:Expr}{to ti:TE}{t:Em}(ho:QE X o to)(hi:QE X i ti)(hs:KM X t)(ha:∀v,assign (.Subscript o i pos) X.env v=(do
   let ov <-holding [v] (eval o X.env)
   let iv <-holding [v,ov] (eval i X.env)
   standAt pos
   holding [v,ov,iv] (setItem ov iv v)
   release [v,ov,iv] []):=by intro _;rfl):QG X (.Subscript o i pos) (Jx to ti t):=⟨JQ ho.h hi.h hs ha⟩
end
section
variable {X:Cx} {pos:Pos}
theorem rZ{tg e:Expr}{te:TE}{g:TG}(he:QE X e te)(hg:QG X tg g)(hs:swapsWithSole [tg] e pos.line X.env=pure false:=by rfl)(hw:swappedStores [tg] e X.env=pure none:=by rfl)(h1:(assignEach [tg] X.env).map (·.2)=[assign tg X.env]:=by rfl):QS X (.Assign [tg] e pos) (vP te g):=⟨JL he.h hg.h hs hw h1⟩
end
section
variable {X:Cx} {pos:Pos}
theorem ak{i:Nat}{x:Str}{e:Expr}{te:TE}{pos':Pos}(hN:X.N.Nodup)(hi:X.N[i]? = some x)(hx:Loc X.env.scope x)(he:QE X e te)(hs:swapsWith e (some (.Name x pos')) pos.line X.env=pure false:=by rfl)(hf:X.fn x=true\/X.env.scope.names.lookup x=some .local:=by first | exact .inl rfl | exact .inr rfl | assumption):QS X (.Assign [.Name x pos'] e pos) (vP te (nF i)):=⟨JI hN hi hx he.h hs hf⟩
end
section
variable {X:Cx} {pos:Pos}
theorem l9{c:Expr}{body:List Stmt}{tc:TT}{tb:TS}(hp:PassesOwn (model X.prog X.w) X.A X.env X.xe)(hc:QT X c tc)(hb:jI X body tb):QS X (.While c body [] pos) (Cc tc tb):=⟨D8 hp hc.h hb.h⟩
end
section
variable {X:Cx} {tg:Expr}
theorem eZ{l:Expr}{tl:TE}(hl:QE X l tl):QI X tg l (Ae X.K tl):=⟨Ft hl.h⟩
end
section
variable {X:Cx} {tg:Expr}
theorem vc{l:Expr}{tl:TE}(hl:QE X l tl):QI X tg l (Ge X.K tl):=⟨JN hl.h⟩
end
section
variable {X:Cx} {tg:Expr}
theorem gQ {a:Expr} {ta:TA} {p pos:Pos} (hg:Gl X "range") (hm:X.mg "range"=none) (ha:QA X [a] ta) (hs:starEach [a] X.env=[(false,eval a X.env)]:=by rfl):QI X tg (.Call (.Name "range" p) [a] [] pos) (Ad ta):=⟨BM hg hm ha.h hs⟩
end
section
variable {X:Cx} {tg:Expr}
theorem iS {a b:Expr} {ta:TA} {p pos:Pos} (hg:Gl X "range") (hm:X.mg "range"=none) (ha:QA X [a,b] ta) (hs:starEach [a,b] X.env=[(false,eval a X.env),(false,eval b X.env)]:=by rfl) (hs2:starEach [b] X.env=[(false,eval b X.env)]:=by rfl):QI X tg (.Call (.Name "range" p) [a,b] [] pos) (Ac ta):=⟨BK hg hm ha.h hs hs2⟩
end
section
variable {X:Cx} {tg:Expr}
theorem ci{iter:Expr}{body:List Stmt}{wi:TI}{g:TG}{tb:TS}{pos:Pos}(hp:PassesOwn (model X.prog X.w) X.A X.env X.xe)(hc:X.calm=true)(hi:QI X tg iter wi)(hg:QG X tg g)(hb:jI X body tb)(hs:∀x,foldedSetIterable iter X.env x=pure x:=by intro _;rfl):QS X (.For tg iter body [] pos) (rH wi g tb):=⟨JK hp hc hi.h hg.h hb.h hs⟩
end
section
variable {X:Cx} {a b:Expr} {ta tb:TE} {pos:Pos}
theorem ae{op:Operator}{r:R2}(ho:mf X (binaryOp op) r)(ha:QE X a ta)(hb:QE X b tb):QE X (.BinOp a op b pos) (Ce r ta tb):=⟨L3 ho ha.h hb.h⟩
end
section
variable {X:Cx} {a:Expr} {ta:TE} {pos:Pos}
theorem pC{op:UnaryOp}{r:V->Hp->VK->Prop}(ho:MD X (unaryOp op) r)(ha:QE X a ta):QE X (.UnaryOp op a pos) (MM r ta):=⟨L0 ho ha.h⟩
end
section
variable {X:Cx} {a b:Expr} {ta tb:TE} {pos:Pos}
theorem eJ{op:CmpOp}{r:R2}(ho:mf X (compareOp op) r)(ha:QE X a ta)(hb:QE X b tb)(hm:behindInMarks op b=false):QE X (.Compare a [op] [b] pos) (Ce r ta tb):=⟨GC ho ha.h hb.h hm⟩
end
section
variable {X:Cx} {a b:Expr} {ta tb:TE} {pos:Pos}
theorem bX{op:CmpOp}{r:R2}(ho:mf X (compareOp op) r)(ha:QE X a ta)(hb:QE X b tb)(hm:behindInMarks op b=false):QT X (.Compare a [op] [b] pos) (sM (Ce r ta tb)):=⟨Fe ho ha.h hb.h hm⟩
end
section
variable {X:Cx} {a b c:Expr} {ta tb tc:TE} {pos:Pos}
theorem ue{op op':CmpOp}{r r':R2}(ho:mf X (compareOp op) r)(ho':mf X (compareOp op') r')(ha:QE X a ta)(hb:QE X b tb)(hc:QE X c tc)(hm:lastMarks [op,op'] [b,c]=false:=by with_unfolding_all rfl):QT X (.Compare a [op,op'] [b,c] pos) (sM (y8 r r' ta tb tc)):=⟨D6 ho ho' ha.h hb.h hc.h hm⟩
end
section
variable {X:Cx} {a:Expr} {ta:TE} {pos:Pos}
theorem uc(ha:QE X a ta)(he:∀whole,isTrue a X.env whole=(do let v <-whole;standAt a.pos;holding [v] (truthy v))):QT X a (λσ H Q=>ta σ H λx H'=>∃k,KJ X.K x H' k/\Q k H'):=⟨D4 ha.h he⟩
end
section
variable {X:Cx}
theorem aB  : QA X [] Ia:=⟨yn ⟩
end
section
variable {X:Cx} {e:Expr} {es:List Expr} {te:TE} {t:TA}
theorem D0(ha:QE X e te)(hr:QA X es t)(hs:starEach (e::es) X.env=(false,eval e X.env)::starEach es X.env:=by rfl):QA X (e::es) (gm te t):=⟨iE ha.h hr.h hs⟩
end
section
variable {X:Cx} {es:List Expr} {t:TA} {pos:Pos}
theorem dA{x1}(h:QA X es t):QE X (.Tuple es x1 pos) (IV t):=⟨JU h.h⟩
end
section
variable {X:Cx} {es:List Expr} {t:TA} {pos:Pos}
theorem cu(h:QA X es t):QE X (.List es pos) (Ib t):=⟨JZ h.h⟩
end
section
variable {X:Cx} {x:Str} {p pos:Pos} {e:Expr} {es:List Expr} {t:TA} {id:String} {r:List V->Hp->VK->Prop}
theorem bG (hc:iP X (.builtin id) r) (hg:Gl X x) (hm:X.mg x=none) (hv:bootBuiltins x=some (.builtin id)) (ha:QA X (e::es) t) (hn:x≠"__name__":=by decide) (hdb:(x==("__debug__":Str))=false:=by decide) (he:starEach (e::es) X.env=(false,eval e X.env)::starEach es X.env:=by rfl) (hpl:(backTo pos (starEach es X.env)).any (·.1)=false:=by rfl):QE X (.Call (.Name x p) (e::es) [] pos) (LJ r t):=⟨Dp hc hg hm hv ha.h hn hdb he hpl⟩
end
section
variable {X:Cx} {x:Str} {p pos:Pos} {e:Expr} {es:List Expr} {t:TA} {T:String} {r:List V->Hp->VK->Prop}
theorem dh (hc:iP X (.type T) r) (hg:Gl X x) (hm:X.mg x=none) (hv:bootBuiltins x=some (.type T)) (ha:QA X (e::es) t) (hn:x≠"__name__":=by decide) (hdb:(x==("__debug__":Str))=false:=by decide) (he:starEach (e::es) X.env=(false,eval e X.env)::starEach es X.env:=by rfl) (hpl:(backTo pos (starEach es X.env)).any (·.1)=false:=by rfl):QE X (.Call (.Name x p) (e::es) [] pos) (LJ r t):=⟨BN hc hg hm hv ha.h hn hdb he hpl⟩
end
section
variable {X:Cx}
theorem DW  : QO X none vN:=⟨Fq ⟩
end
section
variable {X:Cx} {e:Expr} {te:TE}
theorem nZ(h:QE X e te):QO X (some e) (Cd te):=⟨Fp h.h⟩
end
section
variable {X:Cx} {e:Expr} {te:TE} {lo hi:Option Expr} {tl th:TO} {pos p2:Pos}
theorem qb{r:V->Option Int->Option Int->Hp->VK->Prop}(hr:ME X r)(he:QE X e te)(hl:QO X lo tl)(hu:QO X hi th):QE X (.Subscript e (.Slice lo hi none p2) pos) (MO r te tl th):=⟨Dh hr he.h hl.h hu.h⟩
end
section
variable {X:Cx} {a b:Expr} {ta tb:TE} {pos:Pos}
theorem aU{r:R2}(hr:Ep X r)(ha:QE X a ta)(hb:QE X b tb)(hs:Aq b):QE X (.Subscript a b pos) (Ce r ta tb):=⟨L4 hr ha.h hb.h hs⟩
end
section
variable {X:Cx} {o:Expr} {to:TE} {name:Str} {apos cpos:Pos} {T id:String} {r:V->List V->Hp->VK->Prop}
theorem p7 (pa:PlainAttrs T) (slot:Slot T name id) (hty:typeOf (.builtin id)=pure (.type "method_descriptor")) (hm:K3 X id r) (ho:QE X o to) (hbase:attributeBase o name X.env (eval o X.env)=eval o X.env:=by rfl) (hline:(apos.endLine==cpos.line)=true:=by rfl):QE X (.Call (.Attribute o name apos) [] [] cpos) (Ih X.K T r to):=⟨J1 pa slot hty hm ho.h hbase hline⟩
end
section
variable {X:Cx} {o e:Expr} {es:List Expr} {to:TE} {t:TA} {name:Str} {apos cpos:Pos} {T id:String} {r:V->List V->Hp->VK->Prop}
theorem eO (pa:PlainAttrs T) (slot:Slot T name id) (hty:typeOf (.builtin id)=pure (.type "method_descriptor")) (hm:K3 X id r) (ho:QE X o to) (ha:QA X (e::es) t) (hbase:attributeBase o name X.env (eval o X.env)=eval o X.env:=by rfl) (hfew:((backTo cpos (starEach (e::es) X.env)).all (λx=>!x.1)&&(backToKw cpos (keywordEach [] X.env)).all (λx=>x.1.isSome)
   && decide ((e::es).length+([]:List Keyword).length+(if ([]:List Keyword).isEmpty then 0 else 1)<30))=true:=by rfl) (hline:(apos.endLine==cpos.line)=true:=by rfl) (hs:starEach (e::es) X.env=(false,eval e X.env)::starEach es X.env:=by rfl) (hplain:(backTo cpos (starEach es X.env)).any (·.1)=false:=by rfl):QE X (.Call (.Attribute o name apos) (e::es) [] cpos) (LK X.K T r to t):=⟨L5 pa slot hty hm ho.h ha.h hbase hfew hline hs hplain⟩
end
section
variable {X:Cx}
theorem a9 (i:Nat) {x:Str} {pos:Pos} (hN:X.N[i]? = some x:=by rfl) (hv:Lj X.env.scope x:=by first | exact Or.inl rfl | exact Or.inr (Or.inl rfl) | exact Or.inr (Or.inr rfl)) (hd:(x==("__debug__":Str))=false:=by decide) (hcd:(x==("__classdict__":Str))=false:=by decide):QE X (.Name x pos) (yO i):=⟨pv i hN hv hd hcd⟩
end
section
variable {X:Cx}
theorem yl{a b c d:Expr}{ta tb tc td:TE}{pos:Pos}{op op' op2:CmpOp}{r r' r2:R2}(ho:mf X (compareOp op) r)(ho':mf X (compareOp op') r')(ho2:mf X (compareOp op2) r2)(ha:QE X a ta)(hb:QE X b tb)(hc:QE X c tc)(hd:QE X d td)(hm:lastMarks [op,op',op2] [b,c,d]=false:=by with_unfolding_all rfl):QT X (.Compare a [op,op',op2] [b,c,d] pos) (sM (vO r r' r2 ta tb tc td)):=⟨BI ho ho' ho2 ha.h hb.h hc.h hd.h hm⟩
end
section
theorem BF {X:Cx} {x:Str} {i:Int} {pos:Pos} (hg:Gl X x) (hm:∃t,X.mg x=some (.int i t)) (hd:(x==("__debug__":Str))=false:=by decide):QE X (.Name x pos) (tC (.int i)):=⟨Dk hg hm hd⟩
end
section
theorem aj {X:Cx} {k:Nat} {x:Str} {st:Stmt} {ps:List Str} {sp:Sp} {e:Expr} {es:List Expr} {t:TA} {p pos:Pos} (D:ef X.prog X.w X.K X.mg X.base k x st ps sp) (hr:iU k X.A) (hg:Gl X x) (ha:QA X (e::es) t) (hdb:(x==("__debug__":Str))=false:=by decide) (he:starEach (e::es) X.env=(false,eval e X.env)::starEach es X.env:=by rfl) (hpl:(backTo pos (starEach es X.env)).any (·.1)=false:=by rfl):QE X (.Call (.Name x p) (e::es) [] pos) (AC sp [] E0 t):=⟨Do D hr hg ha.h hdb he hpl⟩
end
section
theorem Fc{X:Cx}{tg l:Expr}{tl:TE}(hl:QE X l tl):QI X tg l (Jt tl):=⟨JO hl.h⟩
end
section
theorem DY {X:Cx} {a:Expr} {ta:TA} {elts:List Expr} {x1:Nat} {p pos tpos:Pos} (hg:Gl X "enumerate") (hm:X.mg "enumerate"=none) (ha:QA X [a] ta) (hs:starEach [a] X.env=[(false,eval a X.env)]:=by rfl):QI X (.Tuple elts x1 tpos) (.Call (.Name "enumerate" p) [a] [] pos) (EZ ta):=⟨Fu hg hm ha.h hs⟩
end
section
theorem mX{X:Cx}:QF X [] uS:=⟨JS ⟩
end
section
theorem vd{X:Cx}{c:Expr}{t:TT}(h:QT X c t):QF X [c] t:=⟨JR h.h⟩
end
section
variable {X:Cx} {H:Hp} {s:Shared}
theorem lh{own ns:List Str}{caps:List Nat}{elt tg iter:Expr}{ifs:List Expr}{scope:Scope}{pos:Pos}{wi:TI}{g:TG}{tf:TT}{te:TE}(hc:X.calm=true)(S:nC scope ns)(cp:mz X scope ns caps)(hi:QI X tg iter wi)(hg:∀C s H fp pn,QG (rR X (own++ns) scope C s H fp pn) tg g)(ht:∀C s H fp pn,QF (rR X (own++ns) scope C s H fp pn) ifs tf)(he:∀C s H fp pn,QE (rR X (own++ns) scope C s H fp pn) elt te)(hs:∀x,foldedSetIterable iter X.env x=pure x:=by intro _;rfl):QE X (.ListComp elt [⟨tg,iter,ifs,0⟩] scope pos) (pR own.length caps wi g tf te):=⟨GA hc S cp hi.h (λC s H fp pn=>(hg C s H fp pn).h) (λC s H fp pn=>(ht C s H fp pn).h) (λC s H fp pn=>(he C s H fp pn).h) hs⟩
end
section
variable {X:Cx} {H:Hp} {s:Shared}
theorem wm{i:Nat}{x:Str}{own ns:List Str}{caps:List Nat}{elt tg iter:Expr}{ifs:List Expr}{scope:Scope}{pos pos' spos:Pos}{wi:TI}{g:TG}{tf:TT}{te:TE}(hN:X.N.Nodup)(hi:X.N[i]? = some x)(hx:Loc X.env.scope x)(hc:X.calm=true)(S:nC scope ns)(cp:mz X scope ns caps)(hit:QI X tg iter wi)(hg:∀C s H fp pn,QG (rR X (own++ns) scope C s H fp pn) tg g)(ht:∀C s H fp pn,QF (rR X (own++ns) scope C s H fp pn) ifs tf)(he:∀C s H fp pn,QE (rR X (own++ns) scope C s H fp pn) elt te)(hs:∀x,foldedSetIterable iter X.env x=pure x:=by intro _;rfl)(hsw:swapsWith (.ListComp elt [⟨tg,iter,ifs,0⟩] scope pos) (some (.Name x pos')) spos.line X.env=pure true:=by rfl)(hf:X.fn x=true\/X.env.scope.names.lookup x=some .local:=by first | exact .inl rfl | exact .inr rfl | assumption):QS X (.Assign [.Name x pos'] (.ListComp elt [⟨tg,iter,ifs,0⟩] scope pos) spos) (vP (pR own.length caps wi g tf te) (nF i)):=⟨Fi hN hi hx hc S cp hit.h (λC s H fp pn=>(hg C s H fp pn).h) (λC s H fp pn=>(ht C s H fp pn).h) (λC s H fp pn=>(he C s H fp pn).h) hs hsw hf⟩
end
section
theorem uj {X:Cx} {x:Str} {K:RV} {xs:List V} {pos:Pos} (hg:Gl X x) (hm:∃a,X.mg x=some (.ref a)/\∀H,dD K H a xs) (hd:(x==("__debug__":Str))=false:=by decide):QE X (.Name x pos) (yT K xs):=⟨Dj hg hm hd⟩
end
section
theorem cU{X:Cx}{st:Stmt}{rest:List Stmt}{t u:TS}(h1:QS X st t)(h2:jI X rest u):jI X (st::rest) (Ig t u):=⟨Fh h1.h h2.h⟩
end
section
variable {X:Cx} {es:List Expr} {te:TE} {t:TA}
theorem cX{a0:PySem.Expr}{a1:PySem.Operator}{a2:PySem.Expr}{a3:PySem.Pos}(ha:QE X (Expr.BinOp a0 a1 a2 a3) te)(hr:QA X es t):QA X ((Expr.BinOp a0 a1 a2 a3)::es) (gm te t):=⟨Du ha.h hr.h⟩
end
section
variable {X:Cx} {es:List Expr} {te:TE} {t:TA}
theorem ii{a0:PySem.Expr}{a1:List Comprehension}{a2:PySem.Scope}{a3:PySem.Pos}(ha:QE X (Expr.ListComp a0 a1 a2 a3) te)(hr:QA X es t):QA X ((Expr.ListComp a0 a1 a2 a3)::es) (gm te t):=⟨wy ha.h hr.h⟩
end
section
variable {X:Cx} {es:List Expr} {te:TE} {t:TA}
theorem jj{a0:PySem.Expr}{a1:List CmpOp}{a2:List Expr}{a3:PySem.Pos}(ha:QE X (Expr.Compare a0 a1 a2 a3) te)(hr:QA X es t):QA X ((Expr.Compare a0 a1 a2 a3)::es) (gm te t):=⟨yo ha.h hr.h⟩
end
section
variable {X:Cx} {es:List Expr} {te:TE} {t:TA}
theorem cn{a0:PySem.Expr}{a1:List Expr}{a2:List Keyword}{a3:PySem.Pos}(ha:QE X (Expr.Call a0 a1 a2 a3) te)(hr:QA X es t):QA X ((Expr.Call a0 a1 a2 a3)::es) (gm te t):=⟨GK ha.h hr.h⟩
end
section
variable {X:Cx} {es:List Expr} {te:TE} {t:TA}
theorem cO{a0:PySem.Const}{a1:Nat}{a2:PySem.Pos}(ha:QE X (Expr.Constant a0 a1 a2) te)(hr:QA X es t):QA X ((Expr.Constant a0 a1 a2)::es) (gm te t):=⟨wz ha.h hr.h⟩
end
section
variable {X:Cx} {es:List Expr} {te:TE} {t:TA}
theorem aV{a0:PySem.Expr}{a1:PySem.Expr}{a2:PySem.Pos}(ha:QE X (Expr.Subscript a0 a1 a2) te)(hr:QA X es t):QA X ((Expr.Subscript a0 a1 a2)::es) (gm te t):=⟨vf ha.h hr.h⟩
end
section
variable {X:Cx} {es:List Expr} {te:TE} {t:TA}
theorem aG{a0:PySem.Str}{a1:PySem.Pos}(ha:QE X (Expr.Name a0 a1) te)(hr:QA X es t):QA X ((Expr.Name a0 a1)::es) (gm te t):=⟨GH ha.h hr.h⟩
end
section
variable {X:Cx} {es:List Expr} {te:TE} {t:TA}
theorem li{a0:List Expr}{a1:PySem.Pos}(ha:QE X (Expr.List a0 a1) te)(hr:QA X es t):QA X ((Expr.List a0 a1)::es) (gm te t):=⟨GI ha.h hr.h⟩
end
section
variable {X:Cx} {es:List Expr} {te:TE} {t:TA}
theorem dS{a0:List Expr}{a1:Nat}{a2:PySem.Pos}(ha:QE X (Expr.Tuple a0 a1 a2) te)(hr:QA X es t):QA X ((Expr.Tuple a0 a1 a2)::es) (gm te t):=⟨Dt ha.h hr.h⟩
end
section
variable {X:Cx} {es:List Expr} {te:TE} {t:TA}
theorem wt{a0:List (Option Expr)}{a1:List Expr}{a2:PySem.Pos}(ha:QE X (Expr.Dict a0 a1 a2) te)(hr:QA X es t):QA X ((Expr.Dict a0 a1 a2)::es) (gm te t):=⟨GJ ha.h hr.h⟩
end
section
variable {X:Cx} {o i:Expr} {pos:Pos} {td ty:TE}
theorem fh(hu:X.A.units+1<cLine)(ho:QE X o td)(hi:QE X i ty)(hs:KQ i):QE X (.Subscript o i pos) (Cm td ty):=⟨Fz hu ho.h hi.h hs⟩
end
section
variable {X:Cx} {o i value:Expr} {pos pos':Pos} {td ty tv:TE}
theorem gG(hu:X.A.units+1<cLine)(ho:QE X o td)(hi:QE X i ty)(hv:QE X value tv)(hs:swapsWith value (some (.Subscript o i pos')) pos.line X.env=pure false):QS X (.Assign [.Subscript o i pos'] value pos) (DM td ty tv):=⟨Fk hu ho.h hi.h hv.h hs⟩
end
section
variable {X:Cx} {pos:Pos}
theorem qe  : QE X (.Dict [] [] pos) yV:=⟨Dm ⟩
end
section
variable {X:Cx} {pos:Pos}
theorem lg  : QE X (.Dict [] [] pos) yU:=⟨Dl ⟩
end
section
theorem DV{X:Cx}{pos:Pos}:HC X pos [] [] []:=⟨Fm ⟩
end
section
theorem uh{X:Cx}{pos:Pos}{k v:Expr}{ks:List (Option Expr)}{vs:List Expr}{tk tv:TE}{trs:List (TE×TE)}(hk:QE X k tk)(hv:QE X v tv)(hr:HC X pos ks vs trs):HC X pos (some k::ks) (v::vs) ((tk,tv)::trs):=⟨Dd hk.h hv.h hr.h⟩
end
section
theorem DZ{X:Cx}{pos:Pos}{keys:List (Option Expr)}{values:List Expr}{trs:List (TE×TE)}(h:HC X pos keys values trs)(hall:keys.all (·.isSome)=true)(hl:keys.length=values.length)(h0:keys≠[])(h15:keys.length<=15):QE X (.Dict keys values pos) (Ck trs):=⟨Fy h.h hall hl h0 h15⟩
end
section
variable {X:Cx} {o e f:Expr} {apos cpos:Pos} {td ty tx:TE}
theorem BG (hu:X.A.units+1<cLine) (ho:QE X o td) (he:QE X e ty) (hf:QE X f tx) (m:M2 X o "get" apos e f cpos):QE X (.Call (.Attribute o "get" apos) [e,f] [] cpos) (yY td ty tx):=⟨Dn hu ho.h he.h hf.h m⟩
end
section
variable {X:Cx} {k:Nat} {f:Str} {st:Stmt} {ps:List Str} {sp:Sp} {e:Expr} {te:TE} {p p2 kp pos:Pos}
theorem BE (D:ef X.prog X.w X.K X.mg X.base k f st ps sp) (hr:iU (k+2) X.A) (hg:Gl X "sorted") (hm:X.mg "sorted"=none) (hgf:Gl X f) (he:QE X e te) (hdf:(f==("__debug__":Str))=false:=by decide) (hs:starEach [e] X.env=[(false,eval e X.env)]:=by rfl):QE X (.Call (.Name "sorted" p) [e] [⟨some "key",.Name f p2,kp⟩] pos) (yR X.K sp te):=⟨Dg D hr hg hm hgf he.h hdf hs⟩
end
section
variable {X:Cx}
theorem wn {e e2:Expr} {te td:TE} {p kp pos:Pos} (hc:X.calm=true) (hg:Gl X "max") (hm:X.mg "max"=none) (he:QE X e te) (hd:QE X e2 td) (hs:starEach [e] X.env=[(false,eval e X.env)]:=by rfl):QE X (.Call (.Name "max" p) [e] [⟨some "default",e2,kp⟩] pos) (Ce (wj X.K) te td):=⟨Fx hc hg hm he.h hd.h hs⟩
end
section
variable {X:Cx} {H:Hp} {s:Shared}
theorem ug{i:Nat}{x:Str}{own ns:List Str}{caps:List Nat}{elt tg iter:Expr}{ifs:List Expr}{scope:Scope}{pos pos' spos:Pos}{tl:TE}{g:TG}{tf:TT}{te:TE}(hN:X.N.Nodup)(hi:X.N[i]? = some x)(hx:Loc X.env.scope x)(hc:X.calm=true)(S:nC scope ns)(cp:mz X scope ns caps)(hit:QE X iter tl)(hg:∀C s H fp pn,QG (rR X (own++ns) scope C s H fp pn) tg g)(ht:∀C s H fp pn,QF (rR X (own++ns) scope C s H fp pn) ifs tf)(he:∀C s H fp pn,QE (rR X (own++ns) scope C s H fp pn) elt te)(hs:∀x,foldedSetIterable iter X.env x=pure x:=by intro _;rfl)(hsw:swapsWith (.ListComp elt [⟨tg,iter,ifs,0⟩] scope pos) (some (.Name x pos')) spos.line X.env=pure true:=by rfl)(hf:X.fn x=true\/X.env.scope.names.lookup x=some .local:=by first | exact .inl rfl | exact .inr rfl | assumption):QS X (.Assign [.Name x pos'] (.ListComp elt [⟨tg,iter,ifs,0⟩] scope pos) spos) (vP (yZ own.length caps tl g tf te) (nF i)):=⟨D9 hN hi hx hc S cp hit.h (λC s H fp pn=>(hg C s H fp pn).h) (λC s H fp pn=>(ht C s H fp pn).h) (λC s H fp pn=>(he C s H fp pn).h) hs hsw hf⟩
end
section
variable {X:Cx}
theorem Fb{k d:Expr}{ty td:TE}{pos:Pos}(hu:X.A.units+1<cLine)(hk:QE X k ty)(hd:QE X d td)(hm:behindInMarks .In d=false:=by first | rfl | with_unfolding_all rfl):QT X (.Compare k [.In] [d] pos) (tB (FK ty td)):=⟨JH hu hk.h hd.h hm⟩
end
section
variable {X:Cx}
theorem yk{k d:Expr}{ty td:TE}{pos:Pos}(hu:X.A.units+1<cLine)(hk:QE X k ty)(hd:QE X d td)(hm:behindInMarks .NotIn d=false:=by first | rfl | with_unfolding_all rfl):QT X (.Compare k [.NotIn] [d] pos) (tB (rW ty td)):=⟨BH hu hk.h hd.h hm⟩
end
section
theorem wq {X:Cx} {e:Expr} {te:TE} {p p2 pos2 pos:Pos} (hc:X.calm=true) (hgl:Gl X "list") (hml:X.mg "list"=none) (hgr:Gl X "reversed") (hmr:X.mg "reversed"=none) (he:QE X e te) (hs:starEach [.Call (.Name "reversed" p2) [e] [] pos2] X.env=[(false,eval (.Call (.Name "reversed" p2) [e] [] pos2) X.env)]:=by rfl) (hs2:starEach [e] X.env=[(false,eval e X.env)]:=by rfl):QE X (.Call (.Name "list" p) [.Call (.Name "reversed" p2) [e] [] pos2] [] pos) (IX te):=⟨ym hc hgl hml hgr hmr he.h hs hs2⟩
end
open AutoSeq1 (wpAny_loadPart')
section
variable {prog:Program} {w:World} {A:Around} {E:Value->Shared->Prop} {s:Shared}
theorem zD{it t:Addr}{i:Nat}{items}{x:Value}{Q:Value->Shared->Prop}(hit:s.heap.IsTupleIter it t i)(ht:s.heap.IsTuple t items)(hx:items[i]? = some x)
  (hQ:∀h',h'.IsTupleIter it t (i+1)->Heap.SameBut it s.heap h'->Q x { s with heap:=h' }):wpAny (model prog w) A (Builtin.SmallTypes.nextOf (.ref it)) Q E s:=by
 obtain⟨o,ho,hc,hd⟩:=id hit;obtain⟨ol,hol,_,nl,hdl⟩:=ht;unfold Builtin.SmallTypes.nextOf;refine wpAny_bind (wpAny_callSpecial?_slot (name:=Str.ofString "__next__") hit.typeIs fT (Qr fT hit.typeIs kO ?_ (kF _)));show wpAny _ _ (field (.ref it) 0>>=_) _ _ s;refine wpAny_bind (RG ho hd (x:=.ref t) rfl ?_);show wpAny _ _ (if (Value.ref t==Value.none)=true then _ else _) _ _ s;rw[RM (show ¬((Value.ref t==Value.none)=true) from af)];show wpAny _ _ (field (.ref it) 1>>=_) _ _ s;refine wpAny_bind (RG ho hd (x:=.int i 0) rfl ?_);show wpAny _ _ (seqItems? (.ref t)>>=_) _ _ s;refine wpAny_bind (RD hol hdl ?_);simp only[cA,hx];refine wpAny_bind (RC ho hd (by simp) (wpAny_pure ⟨x,rfl,wpAny_pure (hQ _ ?_ (dG ..))⟩));exact⟨_,d9 _ ho (jM (fQ hd _)),(lG ..).trans hc,by rw[fQ hd];simp[rawInt]⟩
theorem BY{it t:Addr}{i:Nat}{items}{Q:Value->Shared->Prop}(hh:A.handled=none)(hit:s.heap.IsTupleIter it t i)(ht:s.heap.IsTuple t items)(hx:items[i]? = none)
  (hE:∀h' e,Heap.ExtBut it s.heap h'->(∃o,h'.get? e=some o/\o.cls=.type "StopIteration")->E (.ref e) { s with heap:=h' }):wpAny (model prog w) A (Builtin.SmallTypes.nextOf (.ref it)) Q E s:=by
 obtain⟨o,ho,hc,hd⟩:=id hit;obtain⟨ol,hol,_,nl,hdl⟩:=ht;unfold Builtin.SmallTypes.nextOf;refine wpAny_bind (wpAny_callSpecial?_slot (name:=Str.ofString "__next__") hit.typeIs fT (Qr fT hit.typeIs kO ?_ (kF _)));show wpAny _ _ (field (.ref it) 0>>=_) _ _ s;refine wpAny_bind (RG ho hd (x:=.ref t) rfl ?_);show wpAny _ _ (if (Value.ref t==Value.none)=true then _ else _) _ _ s;rw[RM (show ¬((Value.ref t==Value.none)=true) from af)];show wpAny _ _ (field (.ref it) 1>>=_) _ _ s;refine wpAny_bind (RG ho hd (x:=.int i 0) rfl ?_);show wpAny _ _ (seqItems? (.ref t)>>=_) _ _ s;refine wpAny_bind (RD hol hdl ?_);simp only[cA,hx];refine wpAny_bind (wpAny_rule (wpAny_bind (RC ho hd (by simp) ?_)));show wpAny _ _ (newExc (.type "StopIteration") []>>=_) _ _ _;refine wpAny_bind ?_;simp only[newExc,newTuple];refine wpAny_bind (Qm ?_ (by size_fits));refine wpAny_bind (m:=firstArgMember _ _) (wpAny_of_eq (a:=Value.none) (by first | rfl | (simp only[firstArgMember];rfl)) ?_);refine Qm ?_ (by size_fits);simp only[raiseNew];refine wpAny_bind (wpAny_handled ?_);first | rw[show A.in1.handled=none from hh] | rw[hh]
 refine wpAny_bind (wpAny_pure (wpAny_throw ?_));exact hE _ _ (((dG ..).extBut.push _).push _) ⟨_,aQ _ rfl,rfl⟩
theorem Draws.tup(hh:A.handled=none)(it t:Addr)(hne:t≠it)(items:Array Value):Draws prog w A it [it,t] items.size (λi v=>items[i]? = some v) (λi h=>h.IsTupleIter it t i/\h.IsTuple t items) where
 live:=λ_ _ st=>let ⟨o,ho,_⟩:=st.1;⟨o,ho⟩
 frame:=λ_ _ _ st hk=>by
  obtain⟨st1,o,ho,r⟩:=st;exact⟨st1.at λo e=>hk it (by simp) o e,o,hk t (by simp) o ho,r⟩
 item:=λi s Q E hi st hQ=>zD st.1 st.2 (x:=items[i]) (by simp[hi]) λh' hit' hs'=>hQ _ h' s.toks (by simp[hi]) ⟨hit',st.2.extBut hs'.extBut hne⟩ hs'
 done:=λs Q E st hE=>BY hh st.1 st.2 (by simp) hE
end
section
variable {X:Cx} {pins:List (Addr×Obj)} {σ:St} {H:Hp} {s:Shared} {h':Heap}
theorem bv.turnAll{fp:List Addr}{t':Nat}(I:bv X pins σ H s)(hf:∀b∈fp,kt X pins H b)(k:∀b u,b∉fp->s.heap.get? b=some u->h'.get? b=some u):bv X pins σ H { s with heap:=h',toks:=t' }:=by
 have nfp:∀b u,H b=some u->b∉fp:=λb u e z=>by rw[(hf b z).1] at e;cases e
 refine I.step (g':=s.gens) (d':=s.drawn) (ch:=fp) (λb hb=>?_) (λb o _ _ hc e _=>k b o hc e) (λb o _ _ hc e _=>⟨o.slots,k b o hc e⟩) (λ_ _ _ _ n=>n)
  (λb o hc e=>⟨o,k b o hc e⟩) (λ_ _ e=>e) (λ_ _ _ e=>e) (λb ps e=>⟨#[],by rw[e];simp⟩) (λm hm=>?_) (λb u e=>?_) I.bare
 ·obtain⟨_,f1,_,f3,f4,f5⟩:=hf b hb;exact⟨f3,f1,f4,f5⟩
 ·obtain⟨ob,es,ep,ho,r⟩:=hm;exact⟨ob,es,ep,k _ ob (λz=>(hf _ z).2.1 rfl) ho,r⟩
 ·refine(I.hok b u e).stay (λc v hc q=>k c v ?_ q) (λ_ q=>q) λ_ _ q=>q;rcases hc with z | z
  ·rw[z];exact nfp b u e
  ·exact nfp c _ z
end
def Lo(K:RV)(a:Addr):It:=
 ⟨λi H=>∃xs x,dD K H a xs/\xs[i]? = some x,λi H v H'=>∃p x,H p=none/\(∀xs,dD K H a xs->xs[i]? = some x)/\v=.ref p/\H'=upd H p (.tup [.int i,x]),λi H=>∃xs,dD K H a xs/\xs.length=i⟩
def Ju(K:RV)(ta:TA):TI:=λσ H R=>ta σ H λvs H1=>∃a,vs=[.ref a]/\(∃xs,dD K H1 a xs)/\R (Lo K a) H1
def K5(K:RV)(a b:Addr):It:=
  ⟨λi H=>∃xs ys x y,bw K H a xs/\bw K H b ys/\xs[i]? = some x/\ys[i]? = some y,
   λi H v H'=>∃p x y,H p=none/\(∀xs,bw K H a xs->xs[i]? = some x)/\(∀ys,bw K H b ys->ys[i]? = some y)/\v=.ref p/\H'=upd H p (.tup [x,y]),
   λi H=>∃xs ys,bw K H a xs/\bw K H b ys/\(xs.length<=i\/ys.length<=i)⟩
theorem C8 {P : Program} {w : World} {K : RV} {elts : List Expr} {x1 : Nat} {pos : Pos} (z TI TO i1 i2 a b : Addr) (ap : ZipApart z TI TO i1 i2 a b) :
    Turn P w K (.Tuple elts x1 pos) (K5 K a b) [z, TI, TO, i1, i2] z (fun i h => IsZip h z TI TO .none ∧ IsPair h TI (.ref i1) (.ref i2) ∧ (∃ u v, IsPair h TO u v) ∧ h.IsListIter i1 a i ∧ h.IsListIter i2 b i) where
  mem := by simp
  obj := fun i h st c hb => by
    obtain ⟨h1, h2, ⟨u, v, h3⟩, ⟨o4, e4, c4, d4⟩, ⟨o5, e5, c5, d5⟩⟩ := st
    simp only [aK, cB, or_false] at hb
    rcases hb with rfl | rfl | rfl | rfl | rfl
    · exact ⟨_, h1, fun v z => by cases z⟩
    · exact ⟨_, h2, fun v z => by cases z⟩
    · exact ⟨_, h3, fun v z => by cases z⟩
    · exact ⟨o4, e4, fun v z => by rw [d4] at z; cases z⟩
    · exact ⟨o5, e5, fun v z => by rw [d5] at z; cases z⟩
  keep := fun i h h' st k => by
    obtain ⟨h1, h2, ⟨u, v, h3⟩, h4, h5⟩ := st
    exact ⟨k z (by simp) _ h1, k TI (by simp) _ h2, ⟨u, v, k TO (by simp) _ h3⟩, h4.at fun o e => k i1 (by simp) o e, h5.at fun o e => k i2 (by simp) o e⟩
  item := by
    intro X hP hw hK hc i pins s σ H E I hf st hg
    subst hP hw hK
    obtain ⟨h1, h2, ⟨u0, v0, h3⟩, h4, h5⟩ := st
    obtain ⟨xs, ys, x, y, hqa, hqb, hx, hy⟩ := hg
    obtain ⟨ia, ra, pa, _⟩ := I.list hqa
    obtain ⟨ib, rb, pb, _⟩ := I.list hqb
    obtain ⟨ua, hua, rua⟩ := ra.get hx
    obtain ⟨ub, hub, rub⟩ := rb.get hy
    refine wpAny_pyNext_zip_item ap h1 h2 h3 h4 h5 pa.isList pb.isList (x := ua) (y := ub) (by simpa using hua) (by simpa using hub) fun h' hz ho hi1 hi2 hp hsz kp => ?_
    refine ⟨_, rfl, wpAny_letOwnedTupleGo_zip hz fun hh hz2 hs2 => ?_⟩
    have hn : H s.heap.objs.size = none := I.hok.fresh (aH _)
    have lz : s.heap.objs.size ≠ z := fm (aN h1)
    have ht2 : hh.get? s.heap.objs.size = some { cls := .type "tuple", data := .seq #[ua, ub] } := (hs2.2 _ lz).trans hp
    refine ⟨.ref s.heap.objs.size, upd H s.heap.objs.size (.tup [x, y]), I.turnNew (fp := [z, TI, TO, i1, i2]) hf (fun c o hb q => ?_) (aH _) (show ck X.prog X.w _ hh _ (.tup _) from ⟨(by show 2 ≤ sizeLine; decide), [ua, ub], .cons rua (.cons rub .nil), _, ht2, rfl, _, rfl⟩), rfl, ⟨_, x, y, hn, fun zs hz => by rw [I.list_inj hz hqa]; exact hx, fun zs hz => by rw [I.list_inj hz hqb]; exact hy, rfl, rfl⟩, ?_, fun c hb => ?_⟩
    · simp only [aK, cB, or_false, not_or] at hb
      exact (hs2.2 c hb.1).trans (kp c o hb.1 hb.2.2.1 hb.2.2.2.1 hb.2.2.2.2 q)
    · refine ⟨hz2, (hs2.2 TI ap.TIz).trans (kp TI _ ap.TIz ap.TITO ap.TIi1 ap.TIi2 h2), ⟨_, _, (hs2.2 TO ap.TOz).trans ho⟩, hi1.at fun o e => (hs2.2 i1 ap.i1z).trans e, hi2.at fun o e => (hs2.2 i2 ap.i2z).trans e⟩
    · have hb' := (hf c hb).1
      rw [aO (fun z => ?_)]
      · exact hb'
      · have : c < s.heap.objs.size := by
          simp only [aK, cB, or_false] at hb
          obtain ⟨o4, e4, _⟩ := h4
          obtain ⟨o5, e5, _⟩ := h5
          rcases hb with rfl | rfl | rfl | rfl | rfl
          · exact aN h1
          · exact aN h2
          · exact aN h3
          · exact aN e4
          · exact aN e5
        exact absurd z (bC this)
  done := by
    intro X hP hw hK hc i pins s σ H E I hf st hg
    subst hP hw hK
    obtain ⟨h1, h2, ⟨u0, v0, h3⟩, h4, h5⟩ := st
    obtain ⟨xs, ys, hqa, hqb, hxy⟩ := hg
    obtain ⟨ia, ra, pa, _⟩ := I.list hqa
    obtain ⟨ib, rb, pb, _⟩ := I.list hqb
    have la := ra.length
    have lb := rb.length
    refine wpAny_pyNext_zip_end (I.ok.hd hc) ap h1 h2 h3 h4 h5 pa.isList pb.isList (hxy.imp (fun h => by simp; lia) (fun h => by simp; lia)) fun h' kp => ⟨rfl, I.turnAll (t' := s.toks) hf fun c o hb q => ?_⟩
    simp only [aK, cB, or_false, not_or] at hb
    exact kp c o hb.1 hb.2.2.1 hb.2.2.2.1 hb.2.2.2.2 q
  self := fun _ _ _ _ _ st h => RH st.1 h
def Gd(K:RV)(ta:TA):TI:=λσ H R=>ta σ H λvs H1=>∃a b,vs=[.ref a,.ref b]/\(∃xs,bw K H1 a xs)/\(∃ys,bw K H1 b ys)/\R (K5 K a b) H1
theorem JM {X:Cx} {a b:Expr} {ta:TA} {elts:List Expr} {x1:Nat} {p pos tpos:Pos} (hg:Gl X "zip") (hm:X.mg "zip"=none) (ha:PA X [a,b] ta) (hs:starEach [a,b] X.env=(false,eval a X.env)::starEach [b] X.env:=by rfl) (hpl:(backTo pos (starEach [b] X.env)).any (·.1)=false:=by rfl) :
  PI X (.Tuple elts x1 tpos) (.Call (.Name "zip" p) [a,b] [] pos) (Gd X.K ta):=by
 intro pins s σ H R I h;refine Call_ (j3 I hg hm boot_zip (bx (eS (ha pos pins s σ H _ I h) λus s1 ⟨vs,H1,I1,r1,z1,z2,e,⟨xs,hx⟩,⟨ys,hy⟩,q⟩=>?_) hs hpl));subst e;obtain⟨u,u',rfl,r2,r3⟩:=vals2 r1;cases r2;cases r3;obtain⟨ia,ra,pa,_⟩:=I1.list hx;obtain⟨ib,rb,pb,_⟩:=I1.list hy;obtain⟨oa,hoa,_⟩:=id pa.isList;obtain⟨ob,hob,_⟩:=id pb.isList;refine call_zip_2 pa.isList pb.isList λh' hz hti hto hi1 hi2 hsz kp=>?_;refine RH hz ?_;have I2:bv X pins σ H1 { s1 with heap:=h' }:=I1.kept (t':=s1.toks) kp;refine⟨_,_,_,_,H1,rfl,I2,C8 _ _ _ _ _ z1 z2 (zipApart_new (aN hoa) (aN hob)),⟨hz,hti,⟨_,_,hto⟩,hi1,hi2⟩,λb hb=>?_,q⟩;have hle:s1.heap.objs.size<=b:=by
  simp only[aK,cB,or_false] at hb;rcases hb with rfl | rfl | rfl | rfl | rfl
  ·exact eQ _ _
  ·exact eQ _ _
  ·exact eQ _ _
  ·exact aH _
  ·exact eQ _ _
 exact I1.fpOk hle (I1.hok.fresh hle)
end L2
namespace L2
open PySem PySem.Spec PyProof.Rows HT
section
variable {X:Cx}
theorem AU {a b:Expr} {ta:TA} {elts:List Expr} {x1:Nat} {p pos tpos:Pos} (hg:Gl X "zip") (hm:X.mg "zip"=none) (ha:QA X [a,b] ta) (hs:starEach [a,b] X.env=(false,eval a X.env)::starEach [b] X.env:=by rfl) (hpl:(backTo pos (starEach [b] X.env)).any (·.1)=false:=by rfl) :
  QI X (.Tuple elts x1 tpos) (.Call (.Name "zip" p) [a,b] [] pos) (Gd X.K ta):=⟨JM hg hm ha.h hs hpl⟩
end
section
variable {σ:St} {H:Hp} {D:Ends} {K:RV}
theorem zl{ta:TA}{g:TG}{tb:TS}:rH (Ju K ta) g tb D σ H=ta σ H λvs H1=>∃a,vs=[.ref a]/\(∃xs,dD K H1 a xs)/\og (Lo K a) g tb D σ H1:=rfl
theorem zn{k:Nat}{caps:List Nat}{ta:TA}{g:TG}{tf:TT}{te:TE}{Q:VK}:pR k caps (Gd K ta) g tf te σ H Q=ta σ H λvs H1=>∃a b,vs=[.ref a,.ref b]/\(∃xs,bw K H1 a xs)/\(∃ys,bw K H1 b ys)/\kK (K5 K a b) g tf te Q (jH k caps σ) H1:=rfl
end
end L2
namespace L2
open PySem PySem.Spec PyProof.Rows
theorem tE{h:Heap}{a it:Addr}{items:Array Value}{i:Nat}(x:h.IsList a items)(y:h.IsListIter it a i):a≠it:=by
 rintro rfl;obtain⟨o,ho,hc,_⟩:=x;obtain⟨o2,ho2,hc2,_⟩:=y;rw[ho] at ho2;cases ho2;rw[hc] at hc2;exact absurd hc2 (by decide)
def HF(K:RV)(a:Addr):It:=
 ⟨λi H=>∃xs x,bw K H a xs/\xs[i]? = some x,λi H v H'=>∃p x,H p=none/\(∀xs,bw K H a xs->xs[i]? = some x)/\v=.ref p/\H'=upd H p (.tup [.int i,x]),λi H=>∃xs,bw K H a xs/\xs.length=i⟩
theorem yM {P : Program} {w : World} {K : RV} {elts : List Expr} {x1 : Nat} {pos : Pos} (e it a : Addr) (hne : e ≠ it) (hea : e ≠ a) :
    Turn P w K (.Tuple elts x1 pos) (HF K a) [e, it] e (fun i h => (∃ old, IsEnum h e it i old) ∧ h.IsListIter it a i) where
  mem := by simp
  obj := fun i h st b hb => by
    obtain ⟨⟨old, he⟩, o, ei, c, d⟩ := st
    rcases aK.mp hb with z | z
    · subst z; exact ⟨_, he, fun v z => by cases z⟩
    · have z' : b = it := by simpa using z
      subst z'
      exact ⟨o, ei, fun v z => by rw [d] at z; cases z⟩
  keep := fun i h h' st k => by
    obtain ⟨⟨old, he⟩, o, ei, r⟩ := st
    exact ⟨⟨old, k e (by simp) _ he⟩, o, k it (by simp) o ei, r⟩
  item := by
    intro X hP hw hK hc i pins s σ H E I hf st hg
    subst hP hw hK
    obtain ⟨⟨old, he⟩, hst⟩ := st
    obtain ⟨xs, x, hq, hx⟩ := hg
    obtain ⟨its, rv, p, hz⟩ := I.list hq
    obtain ⟨u, hu, ru⟩ := rv.get hx
    have hT : s.heap.IsList a its.toArray := p.isList
    have hat : a ≠ it := tE hT hst
    have D : Draws X.prog X.w X.A.in1 it [it, a] its.toArray.size _ _ := Draws.list (show X.A.in1.handled = none from I.ok.hd hc) it a hat its.toArray
    have hlt : i < its.length := by
      obtain ⟨hh, _⟩ := aF.mp hu
      exact hh
    refine wpAny_pyNext_enum_itemD D he ⟨hst, hT⟩ (by simpa using hlt) hne (by simp [hne, hea]) fun v h' tk hv ho st' ht hsz kp => ?_
    have ev : v = u := by
      have : its[i]? = some v := by simpa using hv
      rw [hu] at this; cases this; rfl
    subst ev
    refine ⟨_, rfl, wpAny_letOwnedTupleGo_enum ho fun h2 he2 hs2 => ?_⟩
    have het : s.heap.objs.size ≠ e := fm (aN he)
    have ht2 : h2.get? s.heap.objs.size = some { cls := .type "tuple", data := .seq #[.int i tk, v] } := (hs2.2 _ het).trans ht
    have hn : H s.heap.objs.size = none := I.hok.fresh (aH _)
    refine ⟨.ref s.heap.objs.size, upd H s.heap.objs.size (.tup [.int i, x]), I.turnNew (fp := [e, it]) hf (fun b o hb q => ?_) (aH _) (show ck X.prog X.w _ h2 _ (.tup _) from ⟨(by show 2 ≤ sizeLine; decide), [.int i tk, v], .cons ⟨_, rfl⟩ (.cons ru .nil), _, ht2, rfl, _, rfl⟩), rfl, ⟨_, x, hn, fun ys hy => by rw [I.list_inj hy hq]; exact hx, rfl, rfl⟩, ⟨⟨_, by exact_mod_cast he2⟩, ?_⟩, fun b hb => ?_⟩
    · have n1 : b ≠ e := fun z => hb (by simp [z])
      have n2 : b ≠ it := fun z => hb (by simp [z])
      exact (hs2.2 b n1).trans (kp b o n1 n2 q)
    · obtain ⟨⟨o, ei, r⟩, _⟩ := st'
      exact ⟨o, (hs2.2 it hne.symm).trans ei, r⟩
    · have hb' := (hf b hb).1
      rw [aO (fun z => ?_)]
      · exact hb'
      · obtain ⟨o, q, _⟩ := hst
        rcases aK.mp hb with y | y
        · exact het (z.symm.trans y)
        · have y' : b = it := by simpa using y
          exact absurd (y'.symm.trans z) (bC (aN q))
  done := by
    intro X hP hw hK hc i pins s σ H E I hf st hg
    subst hP hw hK
    obtain ⟨⟨old, he⟩, hst⟩ := st
    obtain ⟨xs, hq, hx⟩ := hg
    obtain ⟨its, rv, p, hz⟩ := I.list hq
    have hT : s.heap.IsList a its.toArray := p.isList
    have hat : a ≠ it := tE hT hst
    have hl := rv.length
    obtain ⟨f0, f1, f2, f3, f4, f5⟩ := hf it (by simp)
    have D : Draws X.prog X.w X.A.in1 it [it, a] its.toArray.size _ _ := Draws.list (show X.A.in1.handled = none from I.ok.hd hc) it a hat its.toArray
    have ei : its.toArray.size = i := by simp; lia
    rw [← ei] at hst
    exact wpAny_pyNext_enum_endD D he ⟨hst, hT⟩ fun h' eb => ⟨rfl, I.turned (t' := s.toks) (fun b o hb q => eb b o hb q) f0 f1 f3 f4 f5⟩
  self := fun _ _ _ _ _ st h => by
    obtain ⟨⟨old, he⟩, _⟩ := st
    exact Ql he h
def zM(K:RV)(ta:TA):TI:=λσ H R=>ta σ H λvs H1=>∃a,vs=[.ref a]/\(∃xs,bw K H1 a xs)/\R (HF K a) H1
theorem De {X:Cx} {a:Expr} {ta:TA} {elts:List Expr} {x1:Nat} {p pos tpos:Pos} (hg:Gl X "enumerate") (hm:X.mg "enumerate"=none) (ha:PA X [a] ta) (hs:starEach [a] X.env=[(false,eval a X.env)]:=by rfl) :
  PI X (.Tuple elts x1 tpos) (.Call (.Name "enumerate" p) [a] [] pos) (zM X.K ta):=by
 intro pins s σ H R I h;refine Call_ (j3 I hg hm boot_enumerate (bx (eS (ha pos pins s σ H _ I h) λus s1 ⟨vs,H1,I1,r1,z,e,⟨xs,hz⟩,q⟩=>?_) hs rfl));subst e;obtain⟨u,rfl,r2⟩:=Qg r1;cases r2;obtain⟨its,rv,pp,hz2⟩:=I1.list hz;have hT:s1.heap.IsList z its.toArray:=pp.isList;obtain⟨oz,hoz,_⟩:=id hT;have hlt:z<s1.heap.objs.size:=aN hoz;refine call_enumerate_list hT λh' he hit hsz kp=>?_;refine Ql he ?_;have I2:bv X pins σ H1 { s1 with heap:=h' }:=I1.kept (t':=s1.toks) kp;exact⟨s1.heap.objs.size+1,[s1.heap.objs.size+1,s1.heap.objs.size],_,_,H1,rfl,I2,yM _ _ z (mF _) (fm (fq hlt)),⟨⟨_,he⟩,hit⟩,
  λb hb=>by
   have hle:s1.heap.objs.size<=b:=by
    rcases aK.mp hb with y | y
    ·rw[y];exact dk _
    ·have y':b=s1.heap.objs.size:=by simpa using y
     exact iG y'.symm
   exact I1.fpOk hle (I1.hok.fresh hle),q⟩
section
variable {X:Cx}
theorem BD {a:Expr} {ta:TA} {elts:List Expr} {x1:Nat} {p pos tpos:Pos} (hg:Gl X "enumerate") (hm:X.mg "enumerate"=none) (ha:QA X [a] ta) (hs:starEach [a] X.env=[(false,eval a X.env)]:=by rfl) :
  QI X (.Tuple elts x1 tpos) (.Call (.Name "enumerate" p) [a] [] pos) (zM X.K ta):=⟨De hg hm ha.h hs⟩
end
section
variable {σ:St} {H:Hp} {D:Ends} {K:RV}
theorem FB{ta:TA}{g:TG}{tb:TS}:rH (zM K ta) g tb D σ H=ta σ H λvs H1=>∃a,vs=[.ref a]/\(∃xs,bw K H1 a xs)/\og (HF K a) g tb D σ H1:=rfl
theorem Bc{a:Addr}{xs:List V}{g:TG}{tb:TS}(Pv:Nat->St->Hp->Prop)(h0:Pv 0 σ H)(hl:∀i σ H,Pv i σ H->H a=some (.lst xs))
  (hs:∀i x σ H p,xs[i]? = some x->Pv i σ H->H p=none->g (.ref p) σ (upd H p (.tup [.int i,x])) λσ2 H2=>tb { D with nx:=Pv (i+1),ct:=Pv (i+1),bk:=D.nx } σ2 H2) (hd:∀σ H,Pv xs.length σ H->D.nx σ H):og (HF K a) g tb D σ H:=by
 refine⟨λi m σ H=>m+i=xs.length/\Pv i σ H,⟨xs.length,rfl,h0⟩,?_⟩;rintro i m σ H ⟨hm,hp⟩;have q:=bw.of (K:=K) (hl i σ H hp);by_cases hi:i<xs.length
 ·refine .inr ⟨⟨xs,xs[i],q,by simp[hi]⟩,Pv (i+1),λσ' H' h=>⟨m - 1,by lia,by lia,h⟩,?_⟩;rintro v H' ⟨p,x,hn,hx,rfl,rfl⟩;exact hs i x σ H p (hx xs q) hp hn
 ·have e:i=xs.length:=by lia
  subst e;exact .inl ⟨⟨xs,q,rfl⟩,hd σ H hp⟩
end
end L2
namespace Rm
open PySem L2
theorem we(lo:Int)(n:Nat):(gp lo n).length=n:=by simp[gp]
def ic(d:PyData):Bool:=isI d&&!Ms d
theorem sC{K:RV}{H:Hp}{x:V}{d:PyData}{Q:VK}{E:XK}(h:Dat H x d)(q:Q (.bl (ic d)) H):pT K [x] H Q E:=
 ⟨x,_,isI d,Ms d,rfl,h.ty,by cases h<;>rfl,by cases h<;>rfl,q⟩
theorem Gm{H:Hp}{xs:List V}{d e:PyData}(h:ja H xs [d,e]):∃x y,xs=[x,y]/\Dat H x d/\Dat H y e:=by
 cases h with
 | cons h1 h2=>
  cases h2 with
  | cons h3 h4=>cases h4;exact⟨_,_,rfl,h1,h3⟩
theorem Eh{H:Hp}{l:Addr}{ps:List Bw}(h:bu H l ps):Dat H (.ref l) (ow ps):=by
 obtain⟨as,h1,h2⟩:=h;refine .lst h1 ?_;clear h1
 induction h2 with
 | nil=>exact .nil
 | cons r t ih=>exact .cons (.tup r (.cons (.int _) (.cons (.int _) .nil))) ih
theorem ww{α β:Type}{f:α->β}{ys:List β}{zs:List β}(h:ys.Perm zs):∀{xs:List α},zs=xs.map f->∃xs':List α,xs'.Perm xs/\ys=xs'.map f:=by
 induction h with
 | nil=>intro xs e;exact⟨[],by rw[List.map_eq_nil_iff.mp e.symm],rfl⟩
 | cons x _ ih=>
  intro xs e;obtain⟨a,r,rfl,rfl,rfl⟩:=jq.mp e.symm;obtain⟨r',h1,rfl⟩:=ih rfl;exact⟨a::r',h1.cons a,rfl⟩
 | swap x y l=>
  intro xs e;obtain⟨a,r,rfl,rfl,e2⟩:=jq.mp e.symm;obtain⟨b,r2,rfl,rfl,rfl⟩:=jq.mp e2;exact⟨b::a::r2,.swap a b r2,rfl⟩
 | trans _ _ ih1 ih2=>
  intro xs e;obtain⟨r,h1,e1⟩:=ih2 e;obtain⟨r',h2,e2⟩:=ih1 e1;exact⟨r',h2.trans h1,e2⟩
theorem se{α β:Type}{R:α->β->Prop}:∀{xs:List α} {ys:List β},Paired R xs ys->∃zs:List (α×β),xs=zs.map (·.1)/\ys=zs.map (·.2)/\∀z∈zs,R z.1 z.2
 | _,_,.nil=>⟨[],rfl,rfl,(λz h=>nomatch h)⟩
 | _,_,.cons (a:=a) (b:=b) r t=>by
  obtain⟨zs,rfl,rfl,h⟩:=se t;exact⟨(a,b)::zs,rfl,rfl,λz hz=>by
   rcases aK.mp hz with rfl | hz
   ·exact r
   ·exact h z hz⟩
def jv(p q:Bw):Bool:=decide (q.1<p.1)&&decide (p.2<q.2)
def fN(p:Bw):Int:=p.2-p.1
abbrev Acc:=List (Bw×Int)
structure Top (acc:Acc) (q:Bw) (m:Int):Prop where
 nn:0<=m
 le:∀ e∈acc,jv e.1 q=true->e.2<=m
 is:m=0\/∃ e∈acc,jv e.1 q=true/\e.2=m
theorem jo{p q:Bw}(h:jv p q=true):fN p<fN q:=by
 unfold jv at h;rw[aY,RO,RO] at h;unfold fN;lia
structure Kn (qs:List Bw) (i:Nat) (acc:Acc):Prop where
 keys:acc.map (·.1)=qs.take i
 pos:∀ e∈acc,1<=e.2
 top:∀ e∈acc,Top acc e.1 (e.2 - 1)
theorem Kn.start(qs:List Bw):Kn qs 0 []:=⟨by simp,(λe h=>nomatch h),(λe h=>nomatch h)⟩
theorem Kn.len{qs:List Bw}{i:Nat}{acc:Acc}(K:Kn qs i acc)(h:i<=qs.length):acc.length=i:=by
 have:=congrArg List.length K.keys;rw[aA,bj] at this;lia
def gw(acc:Acc)(q:Bw):List Int:=(acc.filter λe=>jv e.1 q).map (·.2)
theorem fold_max(ns:List Int):∀o:Option Int,(∀y,o=some y->1<=y)->(∀n∈ns,1<=n)->∀r,ns.foldl K0 o=r →
  (∀y,o=some y->∃z,r=some z/\y<=z)/\(∀n∈ns,∃z,r=some z/\n<=z)/\(r=o\/∃n∈ns,r=some n):=by
 induction ns with
 | nil=>intro o h1 _ r e;subst e;exact⟨λy e=>⟨y,e,eG _⟩,(λn h=>nomatch h),.inl rfl⟩
 | cons n ns ih=>
  intro o h1 h2 r e;rw[fc] at e;obtain⟨a,b,c⟩:=ih (K0 o n) (λy hy=>by
   cases o with
   | none=>cases hy;exact h2 n bB
   | some y0=>
    have hy':(if y0<n then n else y0)=y:=bH hy;have:=h1 y0 rfl;have:=h2 n bB
    split at hy'<;>lia) (λx hx=>h2 x (aM _ hx)) r e
  cases o with
  | none=>
   obtain⟨z,hz1,hz2⟩:=a n rfl;refine⟨(λy hy=>nomatch hy),λx hx=>?_,?_⟩
   ·rcases aK.mp hx with e | e
    ·subst e;exact⟨z,hz1,hz2⟩
    ·exact b x e
   ·rcases c with c | ⟨x,hx,c⟩
    ·exact .inr ⟨n,bB,c⟩
    ·exact .inr ⟨x,aM _ hx,c⟩
  | some y0=>
   obtain⟨z,hz1,hz2⟩:=a (if y0<n then n else y0) rfl;refine⟨λy hy=>?_,λx hx=>?_,?_⟩
   ·cases hy;refine⟨z,hz1,?_⟩
    split at hz2<;>lia
   ·rcases aK.mp hx with e | e
    ·subst e;refine⟨z,hz1,?_⟩
     split at hz2<;>lia
    ·exact b x e
   ·rcases c with c | ⟨x,hx,c⟩
    ·by_cases h:y0<n
     ·have c:r=some (if y0<n then n else y0):=c;rw[RN h] at c;exact .inr ⟨n,bB,c⟩
     ·have c:r=some (if y0<n then n else y0):=c;rw[RM h] at c;exact .inl c
    ·exact .inr ⟨x,aM _ hx,c⟩
theorem EL{acc:Acc}{q:Bw}(hp:∀e∈acc,1<=e.2):Top acc q (nK (gw acc q) 0):=by
 have hin:∀n,n∈gw acc q<->∃e∈acc,jv e.1 q=true/\e.2=n:=λn=>by
  unfold gw;rw[aT];constructor
  ·rintro⟨e,he,rfl⟩;obtain⟨h1,h2⟩:=a6.mp he;exact⟨e,h1,h2,rfl⟩
  ·rintro⟨e,h1,h2,rfl⟩;exact⟨e,a6.mpr ⟨h1,h2⟩,rfl⟩
 have hpos:∀n∈gw acc q,1<=n:=λn hn=>by obtain⟨e,h1,_,rfl⟩:=(hin n).mp hn;exact hp e h1
 obtain⟨_,b,c⟩:=fold_max (gw acc q) none (λy h=>nomatch h) hpos _ rfl;unfold nK;generalize (gw acc q).foldl _ none=r at b c ⊢;rcases c with c | ⟨n,hn,c⟩
 ·subst c;refine⟨eG _,λe he hi=>?_,.inl rfl⟩;obtain⟨z,hz,_⟩:=b e.2 ((hin _).mpr ⟨e,he,hi,rfl⟩);cases hz
 ·subst c;have:=hpos n hn;refine⟨by simp;lia,λe he hi=>?_,.inr ?_⟩
  ·obtain⟨z,hz,h2⟩:=b e.2 ((hin _).mpr ⟨e,he,hi,rfl⟩);cases hz;exact h2
  ·obtain⟨e,h1,h2,h3⟩:=(hin n).mp hn;exact⟨e,h1,h2,h3⟩
theorem Kn.next{qs:List Bw}{i:Nat}{acc:Acc}{q:Bw}(K:Kn qs i acc)(hq:qs[i]? = some q)(hs:qs.Pairwise (λa b=>fN a<=fN b)):Kn qs (i+1) (acc++[(q,1+nK (gw acc q) 0)]):=by
 have T:=EL (acc:=acc) (q:=q) K.pos;have hi:=(aF.mp hq).1;have hle:∀e∈acc,fN e.1<=fN q:=λe he=>by
  have hm:e.1∈qs.take i:=by rw[<-K.keys];exact aT.mpr ⟨e,he,rfl⟩
  obtain⟨j,hj,ej⟩:=kI hm;rw[bj] at hj;rw[List.getElem_take] at ej;rw[<-ej];have:=fZ.mp hs j i (by lia) hi (by lia);have e2:qs[i]=q:=(aF.mp hq).2;rw[e2] at this;exact this
 have hno:∀e∈acc,jv q e.1=false:=λe he=>by
  cases z:jv q e.1 with
  | false=>rfl
  | true=>have:=jo z;have:=hle e he;lia
 have hself:jv q q=false:=by
  cases z:jv q q with
  | false=>rfl
  | true=>have:=jo z;lia
 refine⟨by rw[aX,K.keys,bD,hq];rfl,λe he=>?_,λe he=>?_⟩
 ·rcases aW.mp he with z | z
  ·exact K.pos e z
  ·have:e=(q,1+nK (gw acc q) 0):=by simpa using z
   subst this;have:=T.nn;simp only;lia
 ·have grow:∀r m,jv q r=false->Top acc r m->Top (acc++[(q,1+nK (gw acc q) 0)]) r m:=λr m hr t=>by
   refine⟨t.nn,λx hx hxi=>?_,t.is.imp id λ⟨x,h1,h2⟩=>⟨x,cE _ h1,h2⟩⟩;rcases aW.mp hx with z | z
   ·exact t.le x z hxi
   ·have:x=(q,1+nK (gw acc q) 0):=by simpa using z
    subst this;simp only at hxi;rw[hr] at hxi;cases hxi
  rcases aW.mp he with z | z
  ·exact grow e.1 _ (hno e z) (K.top e z)
  ·have:e=(q,1+nK (gw acc q) 0):=by simpa using z
   subst this;have e3:(1+nK (gw acc q) 0) - 1=nK (gw acc q) 0:=by lia
   show Top _ q ((1+nK (gw acc q) 0) - 1);rw[e3];exact grow q _ hself T
def rO(p:Bw):List Key:=[Sum.inl p.1,Sum.inl p.2]
def dB(acc:Acc):List (List Key×V):=acc.map λe=>(rO e.1,.int e.2)
theorem xR{p q:Bw}(h:rO p=rO q):p=q:=by
 unfold rO at h;simp at h;exact fE h.1 h.2
theorem Ef{acc:Acc}(nd:(acc.map (·.1)).Nodup):∀{e:Bw×Int},e∈acc->eI (dB acc) (rO e.1)=some (.int e.2):=by
 induction acc with
 | nil=>intro e h;exact nomatch h
 | cons x acc ih=>
  intro e he;rw[av,bc] at nd;rcases aK.mp he with z | z
  ·subst z;exact ff rfl
  ·show eI ((rO x.1,V.int x.2)::dB acc) _=_;rw[eX (λq=>nd.1 (by rw[xR q];exact aT.mpr ⟨e,z,rfl⟩))];exact ih nd.2 z
theorem Gp{acc:Acc}{q:Bw}(h:q∉acc.map (·.1)):eI (dB acc) (rO q)=none:=by
 induction acc with
 | nil=>rfl
 | cons x acc ih=>
  rw[av,aK] at h;show eI ((rO x.1,V.int x.2)::dB acc) _=_;rw[eX (λz=>h (.inl (xR z).symm))];exact ih λz=>h (.inr z)
theorem KF{acc:Acc}{q:Bw}{n:Int}(h:q∉acc.map (·.1)):putK (dB acc) (rO q) (.int n)=dB (acc++[(q,n)]):=by
 rw[p8 _ (Gp h)];simp[dB]
structure MI (ps:List Bw) (hs:List Int):Prop where
 len:hs.length=ps.length
 pos:∀ h∈hs,1<=h
 top:∀ (i:Nat) p h,ps[i]? = some p->hs[i]? = some h->Top (ps.zip hs) p (h - 1)
def uI(acc:Acc)(p:Bw):Int:=((acc.find? λe=>decide (e.1=p)).map (·.2)).getD 0
theorem mB{acc:Acc}(nd:(acc.map (·.1)).Nodup):∀{e:Bw×Int},e∈acc->uI acc e.1=e.2:=by
 induction acc with
 | nil=>intro e h;exact nomatch h
 | cons x acc ih=>
  intro e he;rw[av,bc] at nd;unfold uI;rw[fe];rcases aK.mp he with z | z
  ·subst z;simp
  ·have:¬x.1=e.1:=λq=>nd.1 (by rw[q];exact aT.mpr ⟨e,z,rfl⟩);simp only[this,decide_false];exact ih nd.2 z
theorem Kn.hts{qs ps:List Bw}{acc:Acc}(K:Kn qs qs.length acc)(hp:qs.Perm ps)(nd:ps.Nodup):MI ps (ps.map (uI acc)):=by
 have hk:acc.map (·.1)=qs:=by rw[K.keys,bZ]
 have ndk:(acc.map (·.1)).Nodup:=by rw[hk];exact hp.nodup_iff.mpr nd
 have mem:∀p,p∈ps->∃e∈acc,e.1=p:=λp h=>by
  have:p∈acc.map (·.1):=by rw[hk];exact hp.mem_iff.mpr h
  obtain⟨e,h1,h2⟩:=aT.mp this;exact⟨e,h1,h2⟩
 have zip:∀x,x∈ps.zip (ps.map (uI acc))<->x∈acc:=λx=>by
  have e0:ps.zip (ps.map (uI acc))=ps.map λp=>(p,uI acc p):=by
   clear hk ndk mem hp nd
   induction ps with
   | nil=>rfl
   | cons p ps ih=>simp[ih]
  rw[e0,aT];constructor
  ·rintro⟨p,h,rfl⟩;obtain⟨e,h1,rfl⟩:=mem p h;rw[mB ndk h1];exact h1
  ·intro h;refine⟨x.1,?_,by rw[mB ndk h]⟩;exact hp.mem_iff.mp (by rw[<-hk];exact aT.mpr ⟨x,h,rfl⟩)
 refine⟨by simp,λh hh=>?_,λi p h h1 h2=>?_⟩
 ·obtain⟨p,hp',rfl⟩:=aT.mp hh;obtain⟨e,h1,rfl⟩:=mem p hp';rw[mB ndk h1];exact K.pos e h1
 ·obtain⟨e,h3,rfl⟩:=mem p (aR h1);rw[aP,h1] at h2;have h2':uI acc e.1=h:=bH h2;rw[mB ndk h3] at h2';subst h2';have t:=K.top e h3;exact⟨t.nn,λx hx=>t.le x ((zip x).mp hx),t.is.imp id λ⟨x,h1,h2⟩=>⟨x,(zip x).mpr h1,h2⟩⟩
def Cv:Sp:=λvs H Q _=>∃a p,vs=[.ref a]/\bS H a p/\Q (.int (fN p)) H
def wN:Sp:=λvs H Q _=>∃a b p q,vs=[.ref a,.ref b]/\bS H a p/\bS H b q/\Q (.bl (jv p q)) H
def oM:Sp:=λvs H Q _=>∃l ps,vs=[.ref l]/\bu H l ps/\ps.Nodup/\ps.length<=40/\∀l' hs H',H l'=none->ar H H'->H' l'=some (.lst (hs.map V.int))->MI ps hs->Q (.ref l') H'
def intOf:PyData->Int
 | .int n=>n
 | _=>0
theorem yB:∀{d:PyData},ic d=true->d=.int (intOf d)
 | .int n,_=>rfl
def qg:PyData->Bool
 | .tuple ds=>decide (ds.length<=20)&&(ds.all ic&&(ds.map intOf).isPerm (gp 1 ds.length))
 | _=>false
def rC:PyData->Bool
 | .str z=>decide (z=Str.ofString "l") || decide (z=Str.ofString "r")
 | _=>false
def xP:PyData->Bool
 | .tuple [a,b]=>rC a&&qg b
 | _=>false
theorem EJ{x:Int}{n:Nat}:x∈gp 1 n<->1<=x/\x<=n:=by
 unfold gp;rw[aT];constructor
 ·rintro⟨i,hi,rfl⟩;have:=c8.mp hi;lia
 ·rintro⟨h1,h2⟩;exact⟨(x - 1).toNat,c8.mpr (by lia),by lia⟩
theorem DP(n:Nat):(gp 1 n).Pairwise (·<=·):=by
 unfold gp;rw[cv,fZ];intro i j hi hj hij;simp;lia
theorem yi(n:Nat):(gp 1 n).Nodup:=by
 unfold gp List.Nodup;rw[cv];exact(mH (n:=n)).imp λh e=>h (by lia)
theorem vT{ms ns:List Int}(hp:ms.Perm ns)(hs:ms.Pairwise (·<=·)):decide (ms=gp 1 ns.length)=ns.isPerm (gp 1 ns.length):=by
 by_cases h:ns.Perm (gp 1 ns.length)
 ·rw[nI.mpr h];exact RQ (PySem.W.ksm_same (hp.trans h) hs (DP _))
 ·have h2:ns.isPerm (gp 1 ns.length)=false:=by
   cases e:ns.isPerm (gp 1 ns.length) with
   | false=>rfl
   | true=>exact absurd (nI.mp e) h
  rw[h2];exact RP λe=>h (e▸hp.symm)
theorem ES:(Str.ofString "l")=⟨#[108]⟩:=by decide +kernel
theorem ER:(Str.ofString "r")=⟨#[114]⟩:=by decide +kernel
theorem DH (d:PyData):([PyData.str (Str.ofString "l"),.str (Str.ofString "r")].any λe=>PyData.eqv e d)=rC d:=by
 cases d with
 | str z=>
  show (decide (Str.ofString "l"=z) || (decide (Str.ofString "r"=z) || false))=_;rw[dQ];show _=(decide (z=Str.ofString "l") || decide (z=Str.ofString "r"))
  congr 1
  ·exact decide_eq_decide.mpr ⟨my,my⟩
  ·exact decide_eq_decide.mpr ⟨my,my⟩
 | _=>rfl
structure Pl (d:PyData) (n:Nat):Prop where
 lay:d.canLay0=true
 deep:d.depth<=n
def wU:Sp:=λvs H Q _=>∃x d,vs=[x]/\Dat H x d/\Pl d 60/\Q (.bl (rC d)) H
def uU:Sp:=λvs H Q _=>∃x d,vs=[x]/\Dat H x d/\∀H',ar H H'->Q (.bl (qg d)) H'
def sN:Sp:=λvs H Q _=>∃x d,vs=[x]/\Dat H x d/\Pl d 60/\∀H',ar H H'->Q (.bl (xP d)) H'
theorem xU{H:Hp}:∀ns:List Int,ja H (ns.map V.int) (ns.map PyData.int)
 | []=>.nil
 | n::ns=>.cons (.int n) (xU ns)
end Rm
namespace L2
open PySem PySem.Spec PyProof.Rows
section
variable {σ:St} {H:Hp}
theorem IK{trs:List (TE×TE)}{Q:VK}:Ck trs σ H Q=∀p,H p=none->pA trs σ (upd H p (.dK [])) λps H2=>H2 p=some (.dK [])/\∃kvs:List (Key×V),ps=kvs.map (λkv=>(kV kv.1,kv.2))/\kvs.length<=15/\Q (.ref p) (upd H2 p (.dK (pG [] kvs))):=rfl
theorem Kd{Q:List (V×V)->Hp->Prop}:pA [] σ H Q=Q [] H:=rfl
theorem Kc{tk tv:TE}{r:List (TE×TE)}{Q:List (V×V)->Hp->Prop}:pA ((tk,tv)::r) σ H Q=tk σ H λx H1=>tv σ H1 λy H2=>pA r σ H2 λps H3=>Q ((x,y)::ps) H3:=rfl
theorem Kb{r:V->Option Int->Option Int->Hp->VK->Prop}{te:TE}{tl th:TO}{Q:VK}:MO r te tl th σ H Q=te σ H λx H1=>tl σ H1 λl H2=>th σ H2 λu H3=>r x l u H3 Q:=rfl
theorem CF{t:TE}{Q:Option Int->Hp->Prop}:Cd t σ H Q=t σ H λx H1=>∃i,x=.int i/\Q (some i) H1:=rfl
theorem wF{Q:Option Int->Hp->Prop}:vN σ H Q=Q none H:=rfl
end
end L2
namespace Rm
open PySem L2
def sd (b:Bool):Str:=if b then Str.ofString "r" else Str.ofString "l"
theorem MU (b:Bool):(sd b=Str.ofString "l")=(b=false):=by cases b<;>simp[sd,ES,ER]
theorem LM (b:Bool):(sd b=Str.ofString "r")=(b=true):=by cases b<;>simp[sd,ES,ER]
theorem Jk:(Str.ofString "lr")=⟨#[108,114]⟩:=by decide +kernel
theorem Lc {i:Int} (h0:0<=i) (h1:i<2):nG (Str.ofString "lr").cps.toList i=some (if i=1 then 114 else 108):=by
 have e:i=0\/i=1:=by lia
 rw[Jk];rcases e with rfl | rfl<;>rfl
theorem Lb(i:Int):(⟨#[if i=1 then 114 else 108]⟩:Str)=sd (decide (i=1)):=by
 by_cases h:i=1
 ·simp[h,sd,ER]
 ·simp[h,sd,ES]
def odd(i:Nat):Bool:=i % 2==1
theorem kg(i:Nat):odd (i+1)=!odd i:=by
 unfold odd;rcases fR i with h | h<;>simp[Nat.add_mod,h]
def eT(ns:List Int):List Int:=0::(ns++[(ns.length:Int)+1])
theorem i5(ns:List Int):(eT ns).length=ns.length+2:=by simp[eT]
def b6(ns:List Int)(i:Nat):Int:=(eT ns).getD i 0
def cI(ns:List Int)(i:Nat):Bw:=(min (b6 ns i) (b6 ns (i+1)),max (b6 ns i) (b6 ns (i+1)))
def ce(b s:Bool)(i:Nat):Bool:=(b ^^ odd i)==s
def bU(b:Bool)(ns:List Int)(s:Bool)(m:Nat):List Bw:=((List.range m).filter (ce b s)).map (cI ns)
theorem ie{b:Bool}{ns:List Int}{s:Bool}{i:Nat}(h:ce b s i=true):bU b ns s (i+1)=bU b ns s i++[cI ns i]:=by
 unfold bU;rw[eF,cf,aX];simp[h]
theorem jf{b:Bool}{ns:List Int}{s:Bool}{i:Nat}(h:ce b s i=false):bU b ns s (i+1)=bU b ns s i:=by
 unfold bU;rw[eF,cf,aX];simp[h]
theorem nh(b:Bool)(i:Nat):ce b (b ^^ odd i) i=true:=by simp[ce]
theorem vi(b:Bool)(i:Nat):ce b (!(b ^^ odd i)) i=false:=by cases h:(b ^^ odd i)<;>simp[ce,h]
theorem h6(b:Bool)(ns:List Int)(s:Bool)(m:Nat):(bU b ns s m).length<=m:=by
 unfold bU;rw[aA];exact bF (fW _ _) (by rw[cy];exact aH _)
theorem pW(b:Bool)(ns:List Int):∀m,(bU b ns false m).length+(bU b ns true m).length=m
 | 0=>rfl
 | m+1=>by
  have ih:=pW b ns m;cases h:(b ^^ odd m) with
  | false=>
   rw[ie (s:=false) (by simp[ce,h]),jf (s:=true) (by simp[ce,h])];simp;lia
  | true=>
   rw[jf (s:=false) (by simp[ce,h]),ie (s:=true) (by simp[ce,h])];simp;lia
structure fO (ns:List Int):Prop where
 len:ns.length<=20
 perm:ns.Perm (gp 1 ns.length)
theorem fO.mem{ns:List Int}(O:fO ns){x:Int}:x∈ns<->1<=x/\x<=ns.length:=O.perm.mem_iff.trans EJ
theorem fO.rows_nodup{ns:List Int}(O:fO ns):(eT ns).Nodup:=by
 have nd:ns.Nodup:=O.perm.nodup_iff.mpr (yi _);unfold eT;rw[bc,cS];refine⟨λh=>?_,nd,by simp,λa ha b hb e=>?_⟩
 ·rcases aW.mp h with z | z
  ·have:=O.mem.mp z;lia
  ·have:(0:Int)=ns.length+1:=by simpa using z
   lia
 ·have:b=(ns.length:Int)+1:=by simpa using hb
  have:=O.mem.mp ha;lia
theorem fO.rows_mem{ns:List Int}(O:fO ns){x:Int}(h:x∈eT ns):0<=x/\x<=(ns.length:Int)+1:=by
 unfold eT at h;rcases aK.mp h with z | z
 ·lia
 ·rcases aW.mp z with z | z
  ·have:=O.mem.mp z;lia
  ·have:x=(ns.length:Int)+1:=by simpa using z
   lia
theorem iM{ns:List Int}{i:Nat}(h:i<ns.length+2):(eT ns)[i]? = some (b6 ns i):=by
 unfold b6;have:i<(eT ns).length:=by rw[i5];exact h
 simp[List.getD,this]
theorem fO.row_inj{ns:List Int}(O:fO ns){i j:Nat}(hi:i<ns.length+2)(hj:j<ns.length+2)(h:b6 ns i=b6 ns j):i=j:=by
 have h1:=aF.mp (iM hi);have h2:=aF.mp (iM hj);exact(gK O.rows_nodup (h₀:=h1.1) (h₁:=h2.1)).mp (h1.2.trans (h.trans h2.2.symm))
theorem fO.row_in{ns:List Int}(O:fO ns){i:Nat}(hi:i<ns.length+2):0<=b6 ns i/\b6 ns i<=(ns.length:Int)+1:=O.rows_mem (aR (iM hi))
theorem yh(ns:List Int):b6 ns 0=0:=rfl
theorem i6(ns:List Int):b6 ns (ns.length+1)=(ns.length:Int)+1:=by simp[b6,eT,List.getD]
theorem DO{ns:List Int}{i:Nat}{x:Int}(h:(ns++[(ns.length:Int)+1])[i]? = some x):b6 ns (i+1)=x:=by simp only[b6,eT,List.getD,List.getElem?_cons_succ,h];rfl
theorem oU{ns:List Int}{i:Nat}{x:Int}(h:ns[i]? = some x):b6 ns (i+1)=x:=DO (by rw[iK (aF.mp h).1];exact h)
theorem fO.step_lt{ns:List Int}(O:fO ns){i:Nat}(hi:i<=ns.length):(cI ns i).1<(cI ns i).2:=by
 have:b6 ns i≠b6 ns (i+1):=λe=>by
  have:=O.row_inj (by lia) (by lia) e;lia
 show min (b6 ns i) (b6 ns (i+1))<max (b6 ns i) (b6 ns (i+1));lia
theorem fO.step_in{ns:List Int}(O:fO ns){i:Nat}(hi:i<=ns.length):0<=(cI ns i).1/\(cI ns i).2<=(ns.length:Int)+1:=by
 have h1:=O.row_in (i:=i) (by lia);have h2:=O.row_in (i:=i+1) (by lia);show 0<=min (b6 ns i) (b6 ns (i+1))/\max (b6 ns i) (b6 ns (i+1))<=_;lia
theorem gV{b:Bool}{ns:List Int}{s:Bool}{m:Nat}{p:Bw}(h:p∈bU b ns s m):∃i,i<m/\ce b s i=true/\p=cI ns i:=by
 unfold bU at h;obtain⟨i,hi,rfl⟩:=aT.mp h;obtain⟨h1,h2⟩:=a6.mp hi;exact⟨i,c8.mp h1,h2,rfl⟩
theorem nW{b:Bool}{ns:List Int}{s:Bool}{m i:Nat}(h:i<m)(hs:ce b s i=true):cI ns i∈bU b ns s m:=
 aT.mpr ⟨i,a6.mpr ⟨c8.mpr h,hs⟩,rfl⟩
def qB(x:Int)(p:Bw):Bool:=decide (x=p.1) || decide (x=p.2)
theorem fO.has_iff{ns:List Int}(O:fO ns){i j:Nat}(hi:i<ns.length+2)(hj:j<=ns.length):qB (b6 ns i) (cI ns j)=decide (j=i\/j+1=i):=by
 have e:qB (b6 ns i) (cI ns j)=decide (b6 ns i=b6 ns j\/b6 ns i=b6 ns (j+1)):=by
  show (decide (b6 ns i=min (b6 ns j) (b6 ns (j+1))) || decide (b6 ns i=max (b6 ns j) (b6 ns (j+1))))=_;rw[<-ko];exact decide_eq_decide.mpr (by lia)
 rw[e];refine decide_eq_decide.mpr ⟨λh=>?_,λh=>?_⟩
 ·rcases h with h | h
  ·exact .inl (O.row_inj hi (by lia) h).symm
  ·exact .inr (O.row_inj hi (by lia) h).symm
 ·rcases h with rfl | rfl
  ·exact .inl rfl
  ·exact .inr rfl
theorem u9{k:Nat}:∀{m:Nat},k<m->(List.range m).filter (λj=>decide (j=k))=[k]
 | m+1,h=>by
  rw[eF,cf];by_cases e:k=m
  ·subst e;have:(List.range k).filter (λj=>decide (j=k))=[]:=jA.mpr λx hx=>by have:=c8.mp hx;simp;lia
   simp[this]
  ·have hm:¬m=k:=λz=>e z.symm;rw[u9 (m:=m) (by lia)];simp[hm]
theorem tD{b s:Bool}{j k:Nat}(h1:ce b s j=true)(h2:ce b s k=true)(h:j=k+1):False:=by
 subst h;simp only[ce,kg,beq_iff_eq] at h1 h2;cases b<;>cases s<;>cases hk:odd k<;>simp[hk] at h1 h2
theorem fO.only{ns:List Int}(O:fO ns){b s:Bool}{i k:Nat}(hk:k<=ns.length)(hs:ce b s k=true)(h:k=i\/k+1=i):(bU b ns s (ns.length+1)).filter (qB (b6 ns i))=[cI ns k]:=by
 unfold bU;rw[List.filter_map,List.filter_filter];have e:(List.range (ns.length+1)).filter (λa=>(qB (b6 ns i)∘cI ns) a&&ce b s a)=(List.range (ns.length+1)).filter (λj=>decide (j=k)):=by
  refine List.filter_congr λj hj=>?_;have hj:=c8.mp hj;show (qB (b6 ns i) (cI ns j)&&ce b s j)=_;rw[O.has_iff (by lia) (by lia)];by_cases e:j=k
  ·subst e;simp[hs,h]
  ·cases hsj:ce b s j with
   | false=>simp[e]
   | true=>
    have:¬(j=i\/j+1=i):=λz=>by
     have:j=k+1\/k=j+1:=by lia
     rcases this with z | z
     ·exact tD hsj hs z
     ·exact tD hs hsj z
    simp[this,e]
 rw[e,u9 (by lia)];rfl
theorem Cp(ns:List Int)(i:Nat):(cI ns i).1+(cI ns i).2=b6 ns i+b6 ns (i+1):=by
 show min (b6 ns i) (b6 ns (i+1))+max (b6 ns i) (b6 ns (i+1))=_;lia
structure dt (b:Bool) (ns:List Int) (s:Bool) (L:List Bw):Prop where
 perm:L.Perm (bU b ns s (ns.length+1))
 asc:L.Pairwise leB
theorem dt.len{b:Bool}{ns:List Int}{s:Bool}{L:List Bw}(h:dt b ns s L)(O:fO ns):L.length<=21:=by
 have h1:=h.perm.length_eq;have h2:=h6 b ns s (ns.length+1);have:=O.len;lia
theorem dt.lt{b:Bool}{ns:List Int}{s:Bool}{L:List Bw}(h:dt b ns s L)(O:fO ns):∀p∈L,p.1<p.2:=λp hp=>by
 obtain⟨i,hi,_,rfl⟩:=gV (h.perm.mem_iff.mp hp);exact O.step_lt (by lia)
theorem yG{x y:Int}{ms:List Int}(h:ms.Perm [x,y])(hs:ms.Pairwise (·<=·)):ms=[min x y,max x y]:=by
 have:(if x<=y then [x,y] else [y,x]).Perm [x,y]:=by
  by_cases e:x<=y
  ·rw[RN e]
  ·rw[RM e];exact List.Perm.swap x y []
 have e2:[min x y,max x y]=(if x<=y then [x,y] else [y,x]):=by
  by_cases e:x<=y
  ·rw[RN e];simp[Int.min_def,Int.max_def,e]
  ·rw[RM e];have:y<=x:=by lia
   simp[Int.min_def,Int.max_def,e]
 rw[e2];refine List.Perm.eq_of_pairwise (le:=(·<=·)) (λa b _ _ h h'=>by lia) hs ?_ (h.trans this.symm);by_cases e:x<=y
 ·rw[RN e];simp[e]
 ·rw[RM e];simp;lia
theorem Gq{ns:List Int}{i:Nat}(h:i<=ns.length):xg ((eT ns).map V.int) (some (0+(i:Int))) (some (0+(i:Int)+2))=[b6 ns i,b6 ns (i+1)].map V.int:=by
 have e1:HT.sIx ((eT ns).map V.int).length 0 (some (0+(i:Int)))=i:=by
  show (if (0+(i:Int))<0 then (0+(i:Int)+(((eT ns).map V.int).length:Int)).toNat else min (0+(i:Int)).toNat ((eT ns).map V.int).length)=i;rw[RM (by lia),aA,i5];lia
 have e2:HT.sIx ((eT ns).map V.int).length ((eT ns).map V.int).length (some (0+(i:Int)+2))=i+2:=by
  show (if (0+(i:Int)+2)<0 then (0+(i:Int)+2+(((eT ns).map V.int).length:Int)).toNat else min (0+(i:Int)+2).toNat ((eT ns).map V.int).length)=i+2;rw[RM (by lia),aA,i5];lia
 unfold xg;rw[e1,e2,show i+2-i=2 by lia,<-List.map_drop,<-List.map_take];congr 1;have h1:=aF.mp (iM (ns:=ns) (i:=i) (by lia));have h2:=aF.mp (iM (ns:=ns) (i:=i+1) (by lia));rw[cJ h1.1,cJ h2.1,h1.2,h2.2];rfl
def gj(H:Hp)(m o:Addr)(b:Bool)(ns:List Int):Prop:=H m=some (.tup [.str (sd b),.ref o])/\H o=some (.tup (ns.map V.int))
theorem gj.same{H H':Hp}{m o:Addr}{b:Bool}{ns:List Int}(h:gj H m o b ns)(s:ar H H'):gj H' m o b ns:=⟨s _ _ h.1,s _ _ h.2⟩
def AF:Sp:=λvs H Q _=>∃b,vs=[.str (sd b)]/\Q (.str (sd !b)) H
def wO:Sp:=λvs H Q _=>∃m o b ns,∃k:Nat,vs=[.ref m,.int k]/\gj H m o b ns/\Q (.str (sd (b ^^ odd k))) H
def Cw:Sp:=λvs H Q _=>∃m o b ns,vs=[.ref m]/\gj H m o b ns/\ns.length<=40/\∀l H',H l=none->ar H H'->H' l=some (.lst ((eT ns).map V.int))->Q (.ref l) H'
structure KW (H:Hp) (t l r:Addr) (b:Bool) (ns:List Int) (L R:List Bw):Prop where
 tup:H t=some (.tup [.ref l,.ref r])
 left:bu H l L
 right:bu H r R
 isL:dt b ns false L
 isR:dt b ns true R
 ne:l≠r
def sQ:Sp:=λvs H Q _=>∃m o b ns,vs=[.ref m]/\gj H m o b ns/\fO ns/\∀t l r L R H',H t=none->H l=none->H r=none->ar H H'->KW H' t l r b ns L R->Q (.ref t) H'
theorem kY{H:Hp}{l t:Addr}{as:List Addr}{ps:List Bw}{p:Bw}(h1:H l=some (.lst (as.map V.ref)))(h2:Paired (bS H) as ps)(ht:bS H t p):bu (upd H l (.lst (as.map V.ref++[.ref t]))) l (ps++[p]):=by
 have st:∀{a:Addr} {p:Bw},bS H a p->bS (upd H l (.lst (as.map V.ref++[.ref t]))) a p:=fun {a p} h=>by
  have:a≠l:=λe=>by subst e;unfold bS at h;rw[h1] at h;cases h
  unfold bS;rw[aO this];exact h
 refine⟨as++[t],by rw[aE,aX];rfl,?_⟩;clear h1;generalize upd H l (.lst (as.map V.ref++[.ref t]))=H' at st ⊢
 induction h2 with
 | nil=>exact .cons (st ht) .nil
 | cons a b ih=>exact .cons (st a) ih
theorem qf{α β:Type}{F:α->β->Prop}{l:List α}{m:List β}{a:α}{b:β}(h:Paired F l m)(hb:F a b):Paired F (l++[a]) (m++[b]):=by
 induction h with
 | nil=>exact .cons hb .nil
 | cons x y ih=>exact .cons x ih
abbrev Oe:=Int×Int
def chain:Bool->List Int->Bool->List Bw
 | s,a::b::rest,t=>(if (!s)=t then [(min a b,max a b)] else [])++chain (!s) (b::rest) t
 | _,_,_=>[]
def gI(s:Bool)(R:List Int):Bool:=s ^^ odd R.length
def B9(R:List Int):Int:=R.head?.getD 0
def ltZ(R:List Int):Int:=R.getLast?.getD 0
theorem tI(s:Bool)(a:Int)(R:List Int):gI s (a::R)=gI (!s) R:=by
 unfold gI;rw[cQ,kg];cases s<;>cases odd R.length<;>rfl
theorem zI(s:Bool)(R:List Int)(r:Int):gI s (R++[r])=!gI s R:=by
 unfold gI;rw[aw,cW,kg];cases s<;>cases odd R.length<;>rfl
theorem EO(R:List Int)(r:Int):ltZ (R++[r])=r:=by simp[ltZ]
theorem EQ(a b:Int)(R:List Int):ltZ (a::b::R)=ltZ (b::R):=by simp[ltZ]
theorem Ag(R:List Int):B9 R.reverse=ltZ R:=by simp[B9,ltZ]
theorem vk(R:List Int):ltZ R.reverse=B9 R:=by simp[B9,ltZ]
theorem Ah{R S:List Int}(h:R≠[]):B9 (R++S)=B9 R:=by cases R with | nil=>exact absurd rfl h | cons a R=>rfl
theorem A3{R S:List Int}(h:S≠[]):ltZ (R++S)=ltZ S:=by
 unfold ltZ;rw[List.getLast?_append];cases e:S.getLast? with
 | none=>exact absurd (List.getLast?_eq_none_iff.mp e) h
 | some x=>rfl
theorem pM:∀{R:List Int} (s:Bool) (r:Int) (S:List Int) (t:Bool),R≠[]->chain s (R++r::S) t=chain s R t++(if gI s R=t then [(min (ltZ R) r,max (ltZ R) r)] else [])++chain (gI s R) (r::S) t
 | [a],s,r,S,t,_=>by
  show (if (!s)=t then [(min a r,max a r)] else [])++chain (!s) (r::S) t=[]++_++_;have e:gI s [a]=!s:=by cases s<;>rfl
  rw[e];rfl
 | a::b::R,s,r,S,t,_=>by
  show (if (!s)=t then [(min a b,max a b)] else [])++chain (!s) ((b::R)++r::S) t=((if (!s)=t then [(min a b,max a b)] else [])++chain (!s) (b::R) t)++_++_;rw[pM (!s) r S t (by simp),tI s a (b::R),EQ];simp only[cT]
theorem chain_snoc{R:List Int}(s:Bool)(r:Int)(t:Bool)(h:R≠[]):chain s (R++[r]) t=chain s R t++(if gI s R=t then [(min (ltZ R) r,max (ltZ R) r)] else []):=by
 rw[pM s r [] t h];show _++[]=_;rw[cH]
theorem qu:∀(R:List Int) (s t:Bool),(chain (gI s R) R.reverse t).Perm (chain s R t)
 | [],_,_=>.refl _
 | [a],s,t=>.refl _
 | a::b::R,s,t=>by
  have ih:=qu (b::R) (!s) t;rw[gk,tI,chain_snoc _ _ _ (by simp)];have e:gI (gI (!s) (b::R)) (b::R).reverse=!s:=by
   unfold gI;rw[fF];cases s<;>cases odd (b::R).length<;>rfl
  rw[e,vk];show (chain (gI (!s) (b::R)) (b::R).reverse t++(if (!s)=t then [(min b a,max b a)] else [])).Perm ((if (!s)=t then [(min a b,max a b)] else [])++chain (!s) (b::R) t);rw[Int.min_comm b a,Int.max_comm b a];exact d6.trans (ih.append_left _)
structure Pc where
 lab:Int
 rows:List Int
 s:Bool
 main:Bool
def Pc.fst(p:Pc):Oe×Bool:=((B9 p.rows,p.lab),p.s)
def Pc.lst(p:Pc):Oe×Bool:=((ltZ p.rows,p.lab),gI p.s p.rows)
def Pc.more(p:Pc):List (Oe×Bool):=if p.main then [] else [p.fst]
def Pc.ends(p:Pc):List (Oe×Bool):=p.lst::p.more
def Pc.rev(p:Pc):Pc:={ p with rows:=p.rows.reverse,s:=gI p.s p.rows }
def Pc.bows(t:Bool)(p:Pc):List Bw:=chain p.s p.rows t
theorem v8(p:Pc):p.rev.lst=p.fst:=by
 show ((ltZ p.rows.reverse,p.lab),gI (gI p.s p.rows) p.rows.reverse)=((B9 p.rows,p.lab),p.s)
 rw[vk];congr 1;unfold gI;rw[fF];cases p.s<;>cases odd p.rows.length<;>rfl
theorem F7(p:Pc):p.rev.fst=p.lst:=by
 show ((B9 p.rows.reverse,p.lab),gI p.s p.rows)=_;rw[Ag];rfl
def eP(st:Bool->List Oe):List (Oe×Bool):=(st false).map (·,false)++(st true).map (·,true)
theorem m5{st:Bool->List Oe}{t:Bool}{st':List Oe}{e:Oe}(h:st t=st'++[e]):(eP st).Perm ((e,t)::eP λu=>if u=t then st' else st u):=by
 unfold eP;cases t with
 | false=>
  simp only[h,RT,iW,RU,aX,av,fM,cT,gN,fb];exact dn
 | true=>
  simp only[h,RT,bW,RU,aX,av,fM];rw[<-cT];exact d6
theorem nj{st:Bool->List Oe}{t:Bool}{e:Oe}:(eP λu=>if u=t then st u++[e] else st u).Perm ((e,t)::eP st):=by
 have h:=m5 (st:=λu=>if u=t then st u++[e] else st u) (t:=t) (st':=st t) (e:=e) (by simp);refine h.trans ?_;have:(λu=>if u=t then st t else if u=t then st u++[e] else st u)=st:=by
  funext u;by_cases z:u=t
  ·simp[z]
  ·simp[z]
 rw[this]
structure uO (st:List Oe) (f:List Bw) (r:Nat):Prop where
 inc:st.Pairwise fun a b=>a.1<b.1
 low:∀ e∈st,0<=e.1/\e.1<r
 bow:∀ p∈f,0<=p.1/\p.1<p.2/\p.2<r
 nc:∀ p∈f,∀ q∈f,fJ p q=false
 un:∀ p∈f,∀ e∈st,¬ (p.1<e.1/\e.1<p.2)
theorem uO.push{st:List Oe}{f:List Bw}{r:Nat}(S:uO st f r)(l:Int):uO (st++[((r:Int),l)]) f (r+1):=by
 refine⟨jp.mpr ⟨S.inc,by simp,λa ha b hb=>?_⟩,λe h=>?_,λp h=>by have:=S.bow p h;lia,S.nc,λp hp e h=>?_⟩
 ·have e:b=((r:Int),l):=by simpa using hb
  subst e;exact(S.low a ha).2
 ·rcases aW.mp h with z | z
  ·have:=S.low e z;lia
  ·have e':e=((r:Int),l):=by simpa using z
   subst e';simp only;lia
 ·rcases aW.mp h with z | z
  ·exact S.un p hp e z
  ·have e':e=((r:Int),l):=by simpa using z
   subst e';have:=S.bow p hp;simp only;lia
theorem uO.close{st:List Oe}{f:List Bw}{r:Nat}{o l:Int}(S:uO (st++[(o,l)]) f r):uO st (f++[(o,(r:Int))]) (r+1):=by
 have ho:=S.low (o,l) (by simp);simp only at ho;have low:∀e∈st,e.1<o:=λe he=>(jp.mp S.inc).2.2 e he (o,l) (by simp);have cr:∀p q:Bw,(¬(p.1<q.1/\q.1<p.2/\p.2<q.2))->fJ p q=false:=λp q h=>by
  unfold fJ;by_cases a:p.1<q.1
  ·by_cases b:q.1<p.2
   ·have c:¬p.2<q.2:=λc=>h ⟨a,b,c⟩;simp[c]
   ·simp[b]
  ·simp[a]
 refine⟨(jp.mp S.inc).1,λe h=>by have:=S.low e (cE _ h);lia,λp h=>?_,λp hp q hq=>?_,λp hp e h=>?_⟩
 ·rcases aW.mp h with z | z
  ·have:=S.bow p z;lia
  ·have e':p=(o,(r:Int)):=by simpa using z
   subst e';simp only;lia
 ·rcases aW.mp hp with z | z
  ·rcases aW.mp hq with y | y
   ·exact S.nc p z q y
   ·have e':q=(o,(r:Int)):=by simpa using y
    subst e';have h1:=S.un p z (o,l) (by simp);exact cr _ _ λh=>h1 ⟨h.1,h.2.1⟩
  ·have e':p=(o,(r:Int)):=by simpa using z
   subst e';rcases aW.mp hq with y | y
   ·have h1:=S.bow q y;exact cr _ _ λh=>by simp only at h;lia
   ·have e':q=(o,(r:Int)):=by simpa using y
    subst e';exact cr _ _ λh=>by simp only at h;lia
 ·have h1:=low e h;rcases aW.mp hp with z | z
  ·exact S.un p z e (cE _ h)
  ·have e':p=(o,(r:Int)):=by simpa using z
   subst e';simp only;lia
theorem uO.map{st:List Oe}{f:List Bw}{r:Nat}(S:uO st f r)(g:Int->Int):uO (st.map λe=>(e.1,g e.2)) f r:=by
 refine⟨?_,λe h=>?_,S.bow,S.nc,λp hp e h=>?_⟩
 ·rw[cv];exact S.inc
 ·obtain⟨x,hx,rfl⟩:=aT.mp h;exact S.low x hx
 ·obtain⟨x,hx,rfl⟩:=aT.mp h;exact S.un p hp x hx
structure Gr (b:Bool) (st:Bool->List Oe) (f:Bool->List Bw) (r:Nat) (is:List Pc):Prop where
 ne:∀ p∈is,p.rows≠[]
 rows:(is.flatMap Pc.rows).Perm (gp 0 r)
 labs:(is.map Pc.lab).Nodup
 lr:∀ p∈is,p.lab<r
 one:is.countP Pc.main=1
 hd:∀ p∈is,p.main=true->p.rows.head? = some 0/\p.s=!b
 ends:(eP st).Perm (is.flatMap Pc.ends)
 bows:∀ t,(f t).Perm (is.flatMap (Pc.bows t))
 stk:∀ t,uO (st t) (f t) r
section
variable {b:Bool} {st:Bool->List Oe} {f:Bool->List Bw} {r:Nat} {is js:List Pc} {p q:Pc}
theorem Gr.perm(G:Gr b st f r is)(h:is.Perm js):Gr b st f r js:=
 ⟨λp hp=>G.ne p (h.mem_iff.mpr hp),(h.flatMap_right _).symm.trans G.rows,(h.map _).nodup_iff.mp G.labs,λp hp=>G.lr p (h.mem_iff.mpr hp),(h.countP_eq _).symm.trans G.one,λp hp=>G.hd p (h.mem_iff.mpr hp),
  G.ends.trans (h.flatMap_right _),λt=>(G.bows t).trans (h.flatMap_right _),G.stk⟩
theorem Gr.flip(G:Gr b st f r (p::is))(h:p.main=false):Gr b st f r (p.rev::is):=by
 have more:p.more=[p.fst]:=by unfold Pc.more;rw[h];rfl
 have more':p.rev.more=[p.lst]:=by
  unfold Pc.more;rw[show p.rev.main=false from h,F7];rfl
 refine⟨λq hq=>?_,?_,G.labs,λq hq=>?_,?_,λq hq hm=>?_,?_,λt=>?_,G.stk⟩
 ·rcases aK.mp hq with z | z
  ·subst z;exact λe=>G.ne p bB (mG.mp e)
  ·exact G.ne q (aM _ z)
 ·exact((iy p.rows).append_right _).trans G.rows
 ·rcases aK.mp hq with z | z
  ·subst z;exact G.lr p bB
  ·exact G.lr q (aM _ z)
 ·have:=G.one;rw[c6] at this ⊢;exact this
 ·rcases aK.mp hq with z | z
  ·subst z;rw[show p.rev.main=false from h] at hm;cases hm
  ·exact G.hd q (aM _ z) hm
 ·refine G.ends.trans ?_;rw[bE,bE];refine List.Perm.append_right _ ?_;unfold Pc.ends;rw[more,more',v8];exact List.Perm.swap _ _ _
 ·refine(G.bows t).trans ?_;rw[bE,bE];exact(qu p.rows p.s t).symm.append_right _
theorem Gr.pick(G:Gr b st f r is){e:Oe×Bool}(h:e∈eP st):∃p js,p.lst=e/\Gr b st f r (p::js)/\∀q∈js,q∈is:=by
 obtain⟨p,hp,he⟩:=j5.mp (G.ends.mem_iff.mp h);obtain⟨A,B,rfl⟩:=List.append_of_mem hp;have G1:=G.perm dn;have sub:∀q∈A++B,q∈A++p::B:=λq hq=>by
  rcases aW.mp hq with z | z
  ·exact cE _ z
  ·exact bO _ (aM _ z)
 rcases aK.mp he with z | z
 ·exact⟨p,A++B,z.symm,G1,sub⟩
 ·unfold Pc.more at z;cases hm:p.main with
  | true=>rw[hm] at z;cases z
  | false=>
   rw[hm] at z;have e':e=p.fst:=by simpa using z
   exact⟨p.rev,A++B,by rw[v8,e'],G1.flip hm,sub⟩
theorem sY(r:Nat):gp 0 (r+1)=gp 0 r++[(r:Int)]:=by
 unfold gp;rw[eF,aX];simp
theorem Gr.opA(G:Gr b st f r is):Gr b (λu=>st u++[((r:Int),(r:Int))]) f (r+1) (⟨r,[(r:Int)],false,false⟩::is):=by
 refine⟨λq hq=>?_,?_,?_,λq hq=>?_,?_,λq hq hm=>?_,?_,λt=>?_,λt=>(G.stk t).push _⟩
 ·rcases aK.mp hq with z | z
  ·subst z;simp
  ·exact G.ne q z
 ·rw[sY];exact(G.rows.cons (r:Int)).trans (d6 (l₁:=[(r:Int)]) (l₂:=gp 0 r))
 ·rw[av,bc];refine⟨λz=>?_,G.labs⟩;obtain⟨q,hq,e⟩:=aT.mp z;have:=G.lr q hq;simp only at e;lia
 ·rcases aK.mp hq with z | z
  ·subst z;simp only;lia
  ·have:=G.lr q z;lia
 ·rw[c6,G.one];rfl
 ·rcases aK.mp hq with z | z
  ·subst z;cases hm
  ·exact G.hd q z hm
 ·have h1:=nj (st:=st) (t:=false) (e:=((r:Int),(r:Int)));have h2:=nj (st:=λu=>if u=false then st u++[((r:Int),(r:Int))] else st u) (t:=true) (e:=((r:Int),(r:Int)));have e:(λu=>if u=true then (if u=false then st u++[((r:Int),(r:Int))] else st u)++[((r:Int),(r:Int))] else if u=false then st u++[((r:Int),(r:Int))] else st u)=λu=>st u++[((r:Int),(r:Int))]:=by
   funext u;cases u<;>rfl
  rw[e] at h2;refine h2.trans ((h1.cons _).trans ?_);rw[bE];exact((G.ends.cons _).cons _)
 ·refine(G.bows t).trans ?_;rw[bE];exact .refl _
theorem Gr.ext{t:Bool}{st':List Oe}{o l:Int}(G:Gr b st f r (p::is))(hl:p.lst=((o,l),t))(hs:st t=st'++[(o,l)]):
  Gr b (λu=>if u=t then st' else st u++[((r:Int),l)]) (λu=>if u=t then f u++[(o,(r:Int))] else f u) (r+1) ({ p with rows:=p.rows++[(r:Int)] }::is):=by
 have pne:=G.ne p bB;have e1:ltZ p.rows=o:=congrArg (λx=>x.1.1) hl;have e2:p.lab=l:=congrArg (λx=>x.1.2) hl;have e3:gI p.s p.rows=t:=congrArg (λx=>x.2) hl;have low:=(G.stk t).low (o,l) (by rw[hs];simp);simp only at low;have lst':Pc.lst { p with rows:=p.rows++[(r:Int)] }=(((r:Int),l),!t):=by
  show ((ltZ (p.rows++[(r:Int)]),p.lab),gI p.s (p.rows++[(r:Int)]))=_;rw[EO,zI,e2,e3]
 have more':Pc.more { p with rows:=p.rows++[(r:Int)] }=p.more:=by
  unfold Pc.more Pc.fst;rw[Ah pne]
 refine⟨λq hq=>?_,?_,G.labs,λq hq=>?_,?_,λq hq hm=>?_,?_,λu=>?_,λu=>?_⟩
 ·rcases aK.mp hq with z | z
  ·subst z;simp
  ·exact G.ne q (aM _ z)
 ·have h1:=G.rows;rw[bE] at h1 ⊢;rw[sY];show ((p.rows++[(r:Int)])++is.flatMap Pc.rows).Perm _;rw[cT];exact(dn (l₁:=p.rows) (a:=(r:Int)) (l₂:=is.flatMap Pc.rows)).trans ((h1.cons _).trans (d6 (l₁:=[(r:Int)])))
 ·rcases aK.mp hq with z | z
  ·subst z;have:=G.lr p bB;simp only;lia
  ·have:=G.lr q (aM _ z);lia
 ·have:=G.one;rw[c6] at this ⊢;exact this
 ·rcases aK.mp hq with z | z
  ·subst z;obtain⟨a,c⟩:=G.hd p bB hm;refine⟨?_,c⟩;show (p.rows++[(r:Int)]).head? = _;rw[List.head?_append,a];rfl
  ·exact G.hd q (aM _ z) hm
 ·have h1:=(m5 hs).symm.trans G.ends;rw[bE] at h1 ⊢;have h2:(eP λu=>if u=t then st' else st u).Perm (p.more++is.flatMap Pc.ends):=by
   have e:p.ends++is.flatMap Pc.ends=((o,l),t)::(p.more++is.flatMap Pc.ends):=by
    unfold Pc.ends;rw[hl];rfl
   rw[e] at h1;exact h1.cons_inv
  have e:(λu=>if u=t then st' else st u++[((r:Int),l)])=λu=>if u=(!t) then (if u=t then st' else st u)++[((r:Int),l)] else (if u=t then st' else st u):=by
   funext u;cases u<;>cases t<;>rfl
  rw[e];refine nj.trans ((h2.cons _).trans ?_);have e4:Pc.ends { p with rows:=p.rows++[(r:Int)] }=(((r:Int),l),!t)::p.more:=by
   unfold Pc.ends;rw[lst',more']
  rw[e4];exact .refl _
 ·have h1:=G.bows u;rw[bE] at h1 ⊢;have e4:Pc.bows u { p with rows:=p.rows++[(r:Int)] }=p.bows u++if u=t then [(o,(r:Int))] else []:=by
   show chain p.s (p.rows++[(r:Int)]) u=chain p.s p.rows u++_;rw[chain_snoc _ _ _ pne,e1,e3];have m1:min o (r:Int)=o:=by lia
   have m2:max o (r:Int)=(r:Int):=by lia
   rw[m1,m2];congr 1;cases t<;>cases u<;>rfl
  rw[e4];by_cases z:u=t
  ·rw[RN z,RN z,cT];exact(h1.append_right _).trans (by rw[cT];exact jP _ d6)
  ·rw[RM z,RM z,cH];exact h1
 ·by_cases z:u=t
  ·subst z;simp only[RT];have:=G.stk u;rw[hs] at this;exact this.close
  ·simp only[z,RU];exact(G.stk u).push l
theorem Gr.pick2{o1 l1 o2 l2:Int}{n' f':List Oe}(G:Gr b st f r is)(h1:st false=n'++[(o1,l1)])(h2:st true=f'++[(o2,l2)])(hne:l1≠l2):∃p q js,p.lst=((o1,l1),false)/\q.lst=((o2,l2),true)/\Gr b st f r (p::q::js):=by
 obtain⟨p,js,hp,G1,_⟩:=G.pick (e:=((o1,l1),false)) (by unfold eP;rw[h1];simp);have hm:((o2,l2),true)∈eP st:=by unfold eP;rw[h2];simp
 obtain⟨q,hq,he⟩:=j5.mp (G1.ends.mem_iff.mp hm);have lab:∀(x:Pc) e,e∈x.ends->e.1.2=x.lab:=λx e h=>by
  rcases aK.mp h with z | z
  ·subst z;rfl
  ·unfold Pc.more at z;cases hm:x.main with
   | true=>rw[hm] at z;cases z
   | false=>
    rw[hm] at z;have e':e=x.fst:=by simpa using z
    subst e';rfl
 have pl:p.lab=l1:=congrArg (λx=>x.1.2) hp;have ql:=lab q _ he;rcases aK.mp hq with z | z
 ·subst z;simp only at ql;exact absurd (pl.symm.trans ql.symm) hne
 ·obtain⟨A,B,rfl⟩:=List.append_of_mem z;have G2:Gr b st f r (q::p::(A++B)):=G1.perm ((dn.cons p).trans (List.Perm.swap _ _ _));rcases aK.mp he with y | y
  ·exact⟨p,q,A++B,hp,y.symm,G2.perm (List.Perm.swap _ _ _)⟩
  ·unfold Pc.more at y;cases hm:q.main with
   | true=>rw[hm] at y;cases y
   | false=>
    rw[hm] at y;have e':((o2,l2),true)=q.fst:=by simpa using y
    exact⟨p,q.rev,A++B,hp,by rw[v8,<-e'],(G2.flip hm).perm (List.Perm.swap _ _ _)⟩
def gF(x y:Int)(e:Oe):Oe:=(e.1,if e.2=x then y else e.2)
theorem Gr.join0{ta:Bool}{o:Bool->Int}{la lb l1 l2:Int}{st':Bool->List Oe}(G:Gr b st f r (p::q::is))(hp:p.lst=((o ta,la),ta))(hq:q.lst=((o (!ta),lb),!ta))(hs:∀u,st u=st' u++[(o u,if u=ta then la else lb)])(hm:q.main=false)(hlab:(l1=la/\l2=lb)\/(l1=lb/\l2=la)):
  Gr b (λu=>(st' u).map (gF l2 l1)) (λu=>f u++[(o u,(r:Int))]) (r+1) (⟨l1,p.rows++(r:Int)::q.rows.reverse,p.s,p.main⟩::is):=by
 have pne:=G.ne p bB;have qne:=G.ne q (aM _ bB);have qrne:q.rows.reverse≠[]:=λe=>qne (mG.mp e);have p1:ltZ p.rows=o ta:=congrArg (λx=>x.1.1) hp;have p2:p.lab=la:=congrArg (λx=>x.1.2) hp;have p3:gI p.s p.rows=ta:=congrArg (λx=>x.2) hp;have q1:ltZ q.rows=o (!ta):=congrArg (λx=>x.1.1) hq;have q2:q.lab=lb:=congrArg (λx=>x.1.2) hq;have q3:gI q.s q.rows=!ta:=congrArg (λx=>x.2) hq;have low:∀u,0<=o u/\o u<r:=λu=>(G.stk u).low (o u,if u=ta then la else lb) (by rw[hs u];simp);have nd:=G.labs;rw[av,av,bc,bc,p2,q2] at nd;obtain⟨n1,n2,n3⟩:=nd;have nab:la≠lb:=λe=>n1 (by rw[e];exact bB);have nla:∀x∈is,x.lab≠la:=λx hx e=>n1 (aM _ (aT.mpr ⟨x,hx,e⟩));have nlb:∀x∈is,x.lab≠lb:=λx hx e=>n2 (aT.mpr ⟨x,hx,e⟩);have n1':∀x∈is,x.lab≠l1:=λx hx=>by rcases hlab with ⟨e,_⟩ | ⟨e,_⟩<;>rw[e];exact nla x hx;exact nlb x hx
 have n2':∀x∈is,x.lab≠l2:=λx hx=>by rcases hlab with ⟨_,e⟩ | ⟨_,e⟩<;>rw[e];exact nlb x hx;exact nla x hx
 have rla:(if la=l2 then l1 else la)=l1:=by
  rcases hlab with ⟨e,e'⟩ | ⟨e,e'⟩
  ·rw[e',RM nab,e]
  ·rw[e',RN rfl]
 have rlb:(if lb=l2 then l1 else lb)=l1:=by
  rcases hlab with ⟨e,e'⟩ | ⟨e,e'⟩
  ·rw[e',RN rfl]
  ·rw[e',RM nab.symm,e]
 refine⟨λx hx=>?_,?_,?_,λx hx=>?_,?_,λx hx hmx=>?_,?_,λu=>?_,λu=>?_⟩
 ·rcases aK.mp hx with z | z
  ·subst z;simp
  ·exact G.ne x (aM _ (aM _ z))
 ·have h1:=G.rows;rw[bE,bE] at h1;rw[bE,sY];show ((p.rows++(r:Int)::q.rows.reverse)++is.flatMap Pc.rows).Perm _;rw[cT,gN];refine dn.trans (List.Perm.trans ?_ (d6 (l₁:=[(r:Int)])));refine List.Perm.cons _ (List.Perm.trans ?_ h1);exact jP _ ((iy q.rows).append_right _)
 ·rw[av,bc];refine⟨λz=>?_,n3⟩;obtain⟨x,hx,e⟩:=aT.mp z;exact n1' x hx e
 ·rcases aK.mp hx with z | z
  ·subst z;have h1:=G.lr p bB;have h2:=G.lr q (aM _ bB);simp only;rcases hlab with ⟨e,_⟩ | ⟨e,_⟩<;>rw[e]<;>lia
  ·have:=G.lr x (aM _ (aM _ z));lia
 ·have:=G.one;rw[c6,c6,hm] at this;rw[c6];simpa using this
 ·rcases aK.mp hx with z | z
  ·subst z;obtain⟨a,c⟩:=G.hd p bB hmx;refine⟨?_,c⟩;show (p.rows++(r:Int)::q.rows.reverse).head? = _;rw[List.head?_append,a];rfl
  ·exact G.hd x (aM _ (aM _ z)) hmx
 ·have h0:(eP st).Perm (((o ta,la),ta)::((o (!ta),lb),!ta)::eP st'):=by
   have e1:(eP st).Perm _:=m5 (t:=ta) (hs ta);refine e1.trans ?_;rw[RN rfl];refine List.Perm.cons _ ?_;have e2:=m5 (st:=λu=>if u=ta then st' ta else st u) (t:=!ta) (st':=st' (!ta)) (e:=(o (!ta),lb)) (by
    have z:¬(!ta)=ta:=by cases ta<;>decide
    simp only[z,RU];rw[hs (!ta),RM z])
   refine e2.trans (List.Perm.cons _ ?_);have:(λu=>if u=(!ta) then st' (!ta) else if u=ta then st' ta else st u)=st':=by
    funext u;cases u<;>cases ta<;>rfl
   rw[this]
  have h1:=h0.symm.trans G.ends;rw[bE,bE] at h1;have eqm:q.more=[q.fst]:=by unfold Pc.more;rw[hm];rfl
  have h2:(eP st').Perm (p.more++(q.fst::is.flatMap Pc.ends)):=by
   have e:(p.ends++(q.ends++is.flatMap Pc.ends)).Perm (((o ta,la),ta)::((o (!ta),lb),!ta)::(p.more++(q.fst::is.flatMap Pc.ends))):=by
    unfold Pc.ends;rw[hp,hq,eqm];refine List.Perm.cons _ ?_;exact dn
   exact(h1.trans e).cons_inv.cons_inv
  have hmap:(eP λu=>(st' u).map (gF l2 l1))=(eP st').map λx=>(gF l2 l1 x.1,x.2):=by
   unfold eP;rw[aX,be,be,be,be];rfl
  rw[hmap];refine(h2.map _).trans ?_;rw[aX,av,bE];have r1:(is.flatMap Pc.ends).map (λx=>(gF l2 l1 x.1,x.2))=is.flatMap Pc.ends:=by
   have:∀x∈is.flatMap Pc.ends,(gF l2 l1 x.1,x.2)=x:=λx hx=>by
    obtain⟨y,hy,he⟩:=j5.mp hx;have:x.1.2=y.lab:=by
     rcases aK.mp he with z | z
     ·subst z;rfl
     ·unfold Pc.more at z;cases hm:y.main with
      | true=>rw[hm] at z;cases z
      | false=>
       rw[hm] at z;have e':x=y.fst:=by simpa using z
       subst e';rfl
    unfold gF;rw[RM (by rw[this];exact n2' y hy)]
   exact(cM this).trans (oE _)
  have r2:(gF l2 l1 q.fst.1,q.fst.2)=Pc.lst ⟨l1,p.rows++(r:Int)::q.rows.reverse,p.s,p.main⟩:=by
   show ((B9 q.rows,if q.lab=l2 then l1 else q.lab),q.s)=((ltZ (p.rows++(r:Int)::q.rows.reverse),l1),gI p.s (p.rows++(r:Int)::q.rows.reverse))
   rw[q2,rlb,A3 (by simp)];have e1:ltZ ((r:Int)::q.rows.reverse)=B9 q.rows:=by
    have:(r:Int)::q.rows.reverse=[(r:Int)]++q.rows.reverse:=rfl;rw[this,A3 qrne,vk]
   rw[e1];congr 1;unfold gI at p3 q3 ⊢;rw[aw,cQ,fF];have:odd (p.rows.length+(q.rows.length+1))=(odd p.rows.length ^^ !odd q.rows.length):=by
    unfold odd;rcases fR p.rows.length with h | h<;>rcases fR q.rows.length with h' | h'<;>simp[Nat.add_mod,h,h']
   rw[this]
   revert p3 q3
   cases p.s<;>cases q.s<;>cases odd p.rows.length<;>cases odd q.rows.length<;>cases ta<;>decide
  have r3:p.more.map (λx=>(gF l2 l1 x.1,x.2))=Pc.more ⟨l1,p.rows++(r:Int)::q.rows.reverse,p.s,p.main⟩:=by
   unfold Pc.more;cases hmp:p.main with
   | true=>rfl
   | false=>
    show [((B9 p.rows,if p.lab=l2 then l1 else p.lab),p.s)]=[((B9 (p.rows++(r:Int)::q.rows.reverse),l1),p.s)]
    rw[Ah pne,p2,rla]
  rw[r1,r2,r3];exact dn
 ·have h1:=G.bows u;rw[bE,bE] at h1;rw[bE];have e4:(Pc.bows u ⟨l1,p.rows++(r:Int)::q.rows.reverse,p.s,p.main⟩).Perm ((o u,(r:Int))::(p.bows u++q.bows u)):=by
   show (chain p.s (p.rows++(r:Int)::q.rows.reverse) u).Perm _;rw[pM _ _ _ _ pne,p1,p3];obtain⟨x,R,hR⟩:∃x R,q.rows.reverse=x::R:=by
    cases e:q.rows.reverse with
    | nil=>exact absurd e qrne
    | cons x R=>exact⟨x,R,rfl⟩
   have hx:x=o (!ta):=by
    rw[<-q1,<-Ag,hR];rfl
   have e5:chain ta ((r:Int)::q.rows.reverse) u=(if (!ta)=u then [(o (!ta),(r:Int))] else [])++chain (!ta) q.rows.reverse u:=by
    rw[hR];show (if (!ta)=u then [(min (r:Int) x,max (r:Int) x)] else [])++chain (!ta) (x::R) u=_;have:=low (!ta);rw[hx];have m1:min (r:Int) (o (!ta))=o (!ta):=by lia
    have m2:max (r:Int) (o (!ta))=(r:Int):=by lia
    rw[m1,m2]
   have m1:min (o ta) (r:Int)=o ta:=by have:=low ta;lia
   have m2:max (o ta) (r:Int)=(r:Int):=by have:=low ta;lia
   rw[e5,m1,m2];have cq:(chain (!ta) q.rows.reverse u).Perm (q.bows u):=by
    have:=qu q.rows q.s u;rw[q3] at this;exact this
   by_cases z:ta=u
   ·have z':¬(!ta)=u:=by rw[<-z];cases ta<;>decide
    rw[RN z,RM z',<-z,fb,cT];refine(dn (l₁:=chain p.s p.rows ta) (a:=(o ta,(r:Int))) (l₂:=chain (!ta) q.rows.reverse ta)).trans ?_;rw[<-z] at cq;exact(cq.append_left _).cons _
   ·have z':(!ta)=u:=by revert z;cases ta<;>cases u<;>decide
    rw[RM z,RN z',cH];refine(dn (l₁:=chain p.s p.rows u) (a:=(o (!ta),(r:Int))) (l₂:=chain (!ta) q.rows.reverse u)).trans ?_;rw[<-z'];rw[<-z'] at cq;exact(cq.append_left _).cons _
  refine List.Perm.trans ?_ (e4.symm.append_right _);refine(d6 (l₁:=f u) (l₂:=[(o u,(r:Int))])).trans ?_;refine List.Perm.cons _ (h1.trans ?_);show (Pc.bows u p++(Pc.bows u q++is.flatMap (Pc.bows u))).Perm ((Pc.bows u p++Pc.bows u q)++is.flatMap (Pc.bows u));rw[cT]
 ·have:=G.stk u;rw[hs u] at this;exact this.close.map λx=>if x=l2 then l1 else x
theorem Gr.join{o1 l1 o2 l2:Int}{n' f':List Oe}(G:Gr b st f r is)(h1:st false=n'++[(o1,l1)])(h2:st true=f'++[(o2,l2)])(hne:l1≠l2):
  ∃js,Gr b (λu=>(if u then f' else n').map (gF l2 l1)) (λu=>f u++[(if u then o2 else o1,(r:Int))]) (r+1) js:=by
 obtain⟨p,q,js,hp,hq,G2⟩:=G.pick2 h1 h2 hne;cases hm:q.main with
 | false=>
  exact⟨_,G2.join0 (ta:=false) (o:=λu=>if u then o2 else o1) (st':=λu=>if u then f' else n') hp hq (λu=>by cases u;exact h1;exact h2) hm (.inl ⟨rfl,rfl⟩)⟩
 | true=>
  have hm2:p.main=false:=by
   have:=G2.one;rw[c6,c6,hm] at this;cases z:p.main with
   | false=>rfl
   | true=>rw[z] at this;simp at this
  have G3:=G2.perm (List.Perm.swap q p js);exact⟨_,G3.join0 (ta:=true) (o:=λu=>if u then o2 else o1) (st':=λu=>if u then f' else n') hq hp (λu=>by cases u;exact h1;exact h2) hm2 (.inr ⟨rfl,rfl⟩)⟩
theorem Gr.many(G:Gr b st f r is):(st false).length+(st true).length+1=2*is.length:=by
 have h1:=G.ends.length_eq;unfold eP at h1;rw[aw,aA,aA] at h1;have h2:∀js:List Pc,(js.flatMap Pc.ends).length+js.countP Pc.main=2*js.length:=by
  intro js
  induction js with
  | nil=>rfl
  | cons p js ih=>
   rw[bE,aw,c6,cQ];have:p.ends.length+(if p.main=true then 1 else 0)=2:=by
    unfold Pc.ends Pc.more;cases p.main<;>rfl
   lia
 have:=h2 is;rw[G.one] at this;lia
theorem Gr.three(G:Gr b st f r is){x y z:Oe×Bool}{L:List (Oe×Bool)}(h:(eP st).Perm (x::y::z::L)):¬(x.1.2=y.1.2/\y.1.2=z.1.2):=by
 rintro⟨e1,e2⟩;have cnt:∀js:List Pc,(js.map Pc.lab).Nodup->∀l,(js.flatMap Pc.ends).countP (λe=>decide (e.1.2=l))<=2:=by
  intro js
  induction js with
  | nil=>intro _ l;exact ac _
  | cons p js ih=>
   intro nd l;rw[av,bc] at nd;rw[bE,List.countP_append];have len:p.ends.length<=2:=by unfold Pc.ends Pc.more;cases p.main<;>simp
   by_cases z:p.lab=l
   ·have:(js.flatMap Pc.ends).countP (λe=>decide (e.1.2=l))=0:=List.countP_eq_zero.mpr λe he=>by
     obtain⟨q,hq,hm⟩:=j5.mp he;have:e.1.2=q.lab:=by
      rcases aK.mp hm with y | y
      ·subst y;rfl
      ·unfold Pc.more at y;cases hmm:q.main with
       | true=>rw[hmm] at y;cases y
       | false=>
        rw[hmm] at y;have e':e=q.fst:=by simpa using y
        subst e';rfl
     simp only[RO];intro w;exact nd.1 (aT.mpr ⟨q,hq,by rw[<-this,w,z]⟩)
    have:=List.countP_le_length (p:=λe:Oe×Bool=>decide (e.1.2=l)) (l:=p.ends);lia
   ·have:p.ends.countP (λe=>decide (e.1.2=l))=0:=List.countP_eq_zero.mpr λe he=>by
     have:e.1.2=p.lab:=by
      rcases aK.mp he with y | y
      ·subst y;rfl
      ·unfold Pc.more at y;cases hmm:p.main with
       | true=>rw[hmm] at y;cases y
       | false=>
        rw[hmm] at y;have e':e=p.fst:=by simpa using y
        subst e';rfl
     simp only[RO];intro w;exact z (by rw[<-this,w])
    have:=ih nd.2 l;lia
 have h1:=cnt is G.labs x.1.2;rw[<-(G.ends.symm.trans h).symm.countP_eq] at h1;rw[c6,c6,c6] at h1;simp only[e1,e2,decide_true,RT] at h1;lia
theorem Gr.start (b : Bool) : Gr b (fun u => if u = b then [((0 : Int), (0 : Int))] else []) (fun _ => []) 1 [⟨0, [0], !b, true⟩] := by
  refine ⟨fun p hp => ?_, ?_, by simp, fun p hp => ?_, rfl, fun p hp _ => ?_, ?_, fun t => .refl _, fun t => ?_⟩
  · have e : p = ⟨0, [0], !b, true⟩ := by simpa using hp
    subst e; simp
  · exact .refl _
  · have e : p = ⟨0, [0], !b, true⟩ := by simpa using hp
    subst e; exact (by decide : (0 : Int) < 1)
  · have e : p = ⟨0, [0], !b, true⟩ := by simpa using hp
    subst e; exact ⟨rfl, rfl⟩
  · cases b <;> exact .refl _
  · by_cases z : t = b
    · simp only [z, RT]
      exact ⟨by simp, fun e h => by have e' : e = (0, 0) := by simpa using h
                                    subst e'; decide, fun p h => (nomatch h), fun p h => (nomatch h), fun p h => (nomatch h)⟩
    · simp only [z, RU]
      exact ⟨.nil, fun p h => (nomatch h), fun p h => (nomatch h), fun p h => (nomatch h), fun p h => (nomatch h)⟩
theorem Gr.last{t:Bool}{o l:Int}(G:Gr b st f r is)(h1:st t=[(o,l)])(h2:st (!t)=[]):
  ∃ns:List Int,ns.length+1=r/\ns.Perm (gp 1 ns.length)/\∀u,(if u=t then f u++[(o,(r:Int))] else f u).Perm (bU b ns u (ns.length+1))/\∀p∈bU b ns u (ns.length+1),∀q∈bU b ns u (ns.length+1),fJ p q=false:=by
 have hl:=G.many;have h3:(st false).length+(st true).length=1:=by
  cases t
  ·rw[h1,show st true=[] from h2];rfl
  ·rw[h1,show st false=[] from h2];rfl
 obtain⟨p,rfl⟩:∃p,is=[p]:=by
  match is,(show is.length=1 by lia) with
  | [p],_=>exact⟨p,rfl⟩
 have hm:p.main=true:=by
  have:=G.one;rw[c6] at this;cases z:p.main with
  | true=>rfl
  | false=>rw[z] at this;simp at this
 obtain⟨hd,hs⟩:=G.hd p (by simp) hm;have he:=G.ends;have hp:p.lst=((o,l),t):=by
  have e:eP st=[((o,l),t)]:=by
   unfold eP;cases t
   ·rw[h1,show st true=[] from h2];rfl
   ·rw[h1,show st false=[] from h2];rfl
  rw[e,bE,mJ,cH] at he;unfold Pc.ends Pc.more at he;rw[hm] at he;have:=List.perm_singleton.mp he.symm;simpa using this
 have G':=G.ext hp (st':=[]) h1;obtain⟨ns,hns⟩:∃ns,p.rows=0::ns:=by
  cases e:p.rows with
  | nil=>rw[e] at hd;cases hd
  | cons a R=>rw[e] at hd;cases hd;exact⟨R,rfl⟩
 have hr:=G.rows;rw[bE,mJ,cH,hns] at hr;have hlen:=hr.length_eq;rw[cQ,we] at hlen;have hr1:ns.Perm (gp 1 ns.length):=by
  have e:gp 0 r=0::gp 1 ns.length:=by
   rw[<-hlen];unfold gp;rw[mi,av,be];congr 1;refine cM λi _=>?_;simp only[Function.comp]
   push_cast
   lia
  rw[e] at hr;exact hr.cons_inv
 have er:p.rows++[(r:Int)]=eT ns:=by
  rw[hns,<-hlen];unfold eT
  push_cast
  rfl
 have ch:∀(k m:Nat) (u:Bool),m=ns.length+1-k->k<=ns.length+1->chain (!(b ^^ odd k)) ((eT ns).drop k) u=(((List.range m).map (·+k)).filter (ce b u)).map (cI ns):=by
  intro k m
  induction m generalizing k with
  | zero=>
   intro u hm hk;have e:k=ns.length+1:=by lia
   have:(eT ns).drop k=[b6 ns k]:=by
    have h:=aF.mp (iM (ns:=ns) (i:=k) (by lia));rw[cJ h.1,h.2,List.drop_of_length_le (by rw[i5];lia)]
   rw[this];rfl
  | succ m ih=>
   intro u hm hk;have h:=aF.mp (iM (ns:=ns) (i:=k) (by lia));have h':=aF.mp (iM (ns:=ns) (i:=k+1) (by lia));have ih':=ih (k+1) u (by lia) (by lia);rw[cJ h.1,h.2,cJ h'.1,h'.2];show (if (!!(b ^^ odd k))=u then [(min (b6 ns k) (b6 ns (k+1)),max (b6 ns k) (b6 ns (k+1)))] else [])++chain (!!(b ^^ odd k)) (b6 ns (k+1)::(eT ns).drop (k+1+1)) u=_;have e2:chain (!!(b ^^ odd k)) (b6 ns (k+1)::(eT ns).drop (k+1+1)) u=(((List.range m).map (·+(k+1))).filter (ce b u)).map (cI ns):=by
    rw[<-ih',kg];have e3:(!(b ^^ !odd k))=!!(b ^^ odd k):=by cases b<;>cases odd k<;>rfl
    rw[e3];congr 1;rw[cJ h'.1,h'.2]
   rw[e2,mi,av,be,List.filter_cons];have e4:((λx=>x+k)∘Nat.succ)=λx=>x+(k+1):=by funext x;simp only[Function.comp];lia
   rw[e4];show _=List.map (cI ns) (if ce b u (0+k)=true then _ else _);rw[Nat.zero_add];have e5:ce b u k=decide ((!!(b ^^ odd k))=u):=by unfold ce;cases b<;>cases u<;>cases odd k<;>rfl
   rw[e5];by_cases z:(!!(b ^^ odd k))=u
   ·rw[RN z,RQ z,RN rfl];rfl
   ·rw[RM z,RP z,RM af];rfl
 have sb:∀u,Pc.bows u { p with rows:=p.rows++[(r:Int)] }=bU b ns u (ns.length+1):=λu=>by
  show chain p.s (p.rows++[(r:Int)]) u=_;have:=ch 0 (ns.length+1) u rfl (ac _);rw[show odd 0=false from rfl,km] at this;rw[hs,er];refine Eq.trans this ?_;unfold bU;congr 2;simp
 have pu:∀u,(if u=t then f u++[(o,(r:Int))] else f u).Perm (bU b ns u (ns.length+1)):=λu=>by
  have:=G'.bows u;rw[bE,mJ,cH,sb u] at this;exact this
 refine⟨ns,hlen,hr1,λu=>⟨pu u,λx hx y hy=>?_⟩⟩;exact(G'.stk u).nc x ((pu u).mem_iff.mpr hx) y ((pu u).mem_iff.mpr hy)
end
def bT(st:Bool->List Oe):List Int:=(st false++(st true).reverse).map (·.2)
def nQ(L:List Int):Nat:=if L[0]? = L[1]? then 2 else 1
def xy(st:Bool->List Oe):Nat:=if (bT st).length<=1 then 0 else (((st false).length:Int)-nQ (bT st)).natAbs+3*((bT st).length / 2) - 2
def nE(m:Int):Int:=if m<2 then 0 else 5*(m - 1) / 2 - 2
theorem oK(L:List Int):nQ L=1\/nQ L=2:=by unfold nQ;split<;>simp
theorem lq(st:Bool->List Oe):(bT st).length=(st false).length+(st true).length:=by simp[bT]
section
variable {b:Bool} {st:Bool->List Oe} {f:Bool->List Bw} {r:Nat} {is:List Pc}
theorem Gr.phi_need(G:Gr b st f r is):(xy st:Int)<=nE ((st false).length+(st true).length):=by
 have hm:=G.many;have hl:=lq st;unfold xy nE;by_cases h:(bT st).length<=1
 ·rw[RN h]
  split<;>lia
 ·rw[RM h,RM (by lia)];have t:=oK (bT st);obtain⟨c,hc⟩:∃c,is.length=c+1:=⟨is.length - 1,by clear t;lia⟩
  have d1:(bT st).length / 2=c:=by clear t;lia
  have a:((((st false).length:Nat):Int)-(nQ (bT st):Nat)).natAbs<=2*c:=by clear d1;lia
  have d2:5*((((st false).length:Nat):Int)+(((st true).length:Nat):Int) - 1) / 2=5*(c:Int):=by clear a t d1;lia
  have c1:1<=c:=by clear t a d1 d2;lia
  rw[d1,d2];clear d1 d2 t hm hl hc h;generalize Int.natAbs _=k at a ⊢;lia
theorem Gr.tgt_ne(G:Gr b st f r is)(h:1<(bT st).length):∃x y,(bT st)[nQ (bT st) - 1]? = some x/\(bT st)[nQ (bT st)]? = some y/\x≠y:=by
 have hm:=G.many;have hl:=lq st;have h3:3<=(bT st).length:=by lia
 have hE:∃x y z L,(eP st).Perm (x::y::z::L)/\(bT st)[0]? = some x.1.2/\(bT st)[1]? = some y.1.2/\(bT st)[2]? = some z.1.2:=by
  have hp:(eP st).Perm ((st false).map (·,false)++((st true).reverse).map (·,true)):=by
   unfold eP;exact jP _ ((iy _).map _).symm
  have hlab:bT st=((st false).map (·,false)++((st true).reverse).map (·,true)).map (λx:Oe×Bool=>x.1.2):=by
   unfold bT;rw[aX,aX,be,be];rfl
  rw[hlab] at h3 ⊢;generalize (st false).map (·,false)++((st true).reverse).map (·,true)=E at hp h3 ⊢
  match E,h3 with
  | x::y::z::L,_=>exact⟨x,y,z,L,hp,rfl,rfl,rfl⟩
 obtain⟨x,y,z,L,hp,e0,e1,e2⟩:=hE;have:=G.three hp;unfold nQ;rw[e0,e1];by_cases e:x.1.2=y.1.2
 ·rw[RN (by rw[e])];exact⟨_,_,e1,e2,λz=>this ⟨e,z⟩⟩
 ·rw[RM (λz=>e (bH z))];exact⟨_,_,e0,e1,e⟩
theorem LZ{far':List Oe}{o l:Int}(h:st true=far'++[(o,l)])(h1:1<(bT st).length)(ht:(st false).length<nQ (bT st)):xy (λu=>if u=true then far' else st u++[((r:Int),l)])+1=xy st:=by
 have e:bT (λu=>if u=true then far' else st u++[((r:Int),l)])=bT st:=by
  unfold bT;simp only[h,bW,RU,RT,kH,gk,List.reverse_nil,fb,aX,av,fM,cT,gN]
 unfold xy;rw[e,RM (by lia),RM (by lia)];have e2:((λu=>if u=true then far' else st u++[((r:Int),l)]) false).length=(st false).length+1:=by simp
 rw[e2];have a1:((((st false).length+1:Nat):Int)-(nQ (bT st):Nat)).natAbs+1=((((st false).length:Nat):Int)-(nQ (bT st):Nat)).natAbs:=by clear h h1 e e2;lia
 have d1:1<=(bT st).length / 2:=by clear h e e2 a1 ht;lia
 rw[<-a1];clear a1 h h1 e e2 ht;generalize Int.natAbs _=k;generalize _ / 2=d at d1 ⊢;lia
theorem LY{near':List Oe}{o l:Int}(h:st false=near'++[(o,l)])(h1:1<(bT st).length)(ht:nQ (bT st)<(st false).length):xy (λu=>if u=false then near' else st u++[((r:Int),l)])+1=xy st:=by
 have e:bT (λu=>if u=false then near' else st u++[((r:Int),l)])=bT st:=by
  unfold bT;simp only[h,iW,RU,RT,kH,gk,List.reverse_nil,fb,aX,av,fM,cT,gN]
 unfold xy;rw[e,RM (by lia),RM (by lia)];have e2:(st false).length=near'.length+1:=by rw[h];simp
 have e3:((λu=>if u=false then near' else st u++[((r:Int),l)]) false).length=near'.length:=by simp
 rw[e3];lia
theorem Gr.phi_d{n' f':List Oe}{o1 l1 o2 l2:Int}(G:Gr b st f r is)(h:st false=n'++[(o1,l1)])(h':st true=f'++[(o2,l2)])(h1:1<(bT st).length)(ht:(st false).length=nQ (bT st)):xy (λu=>(if u then f' else n').map (gF l2 l1))+1<=xy st:=by
 have hm:=G.many;have hl:=lq st;have hl2:=lq (λu=>(if u then f' else n').map (gF l2 l1));have e2:(st false).length=n'.length+1:=by rw[h];simp
 have e3:(st true).length=f'.length+1:=by rw[h'];simp
 simp only[bW,RU,RT,aA] at hl2;have t1:=oK (bT st);have t2:=oK (bT (λu=>(if u then f' else n').map (gF l2 l1)));unfold xy;rw[RM (show ¬(bT st).length<=1 by lia)];have e4:((λu:Bool=>(if u=true then f' else n').map (gF l2 l1)) false).length=n'.length:=by simp
 rw[e4]
 split
 ·lia
 ·rename_i hbig;have q:(bT st).length / 2=(bT λu=>(if u=true then f' else n').map (gF l2 l1)).length / 2+1:=by rw[show (bT st).length=(bT λu=>(if u=true then f' else n').map (gF l2 l1)).length+2 by lia,Nat.add_div_right _ (by decide)]
  have z:((((st false).length:Nat):Int)-(nQ (bT st):Nat)).natAbs=0:=by rw[ht,Int.sub_self];rfl
  have n2:n'.length<=1:=by clear hm hl hl2 q z t2;lia
  have a2:(((n'.length:Nat):Int)-(nQ (bT λu=>(if u=true then f' else n').map (gF l2 l1)):Nat)).natAbs<=2:=by
   clear hm hl hl2 q z t1 ht h1 hbig;generalize nQ _=t at t2 ⊢;rcases t2 with rfl | rfl<;>lia
  rw[q,z];clear hm hl hl2 t1 t2 ht e2 e3 e4 h1 n2 z q h h';generalize Int.natAbs _=k at a2 ⊢;generalize _ / 2=d;lia
end
end Rm
namespace L2
open PySem PySem.Spec PyProof.Rows
def LO:V->Option Int->Option Int->Hp->VK->Prop:=λx lo hi H Q=>∃z,x=.str z/\z.length<=sizeLine/\Q (.str (Txt.slice z lo hi)) H
section
variable {X:Cx}
theorem Ij:ME X LO:=by
 intro pins s σ H x v vl vu lo hi sl Q I rx hs pl pu h;obtain⟨z,rfl,hz,q⟩:=h;obtain⟨t,rfl⟩:=rx;have fin:∀t' k,EP X pins σ Q (.str (Txt.slice z lo hi) t') { s with toks:=k }:=λt' k=>⟨.str _,H,I.tok k,⟨t',rfl⟩,q⟩
 refine⟨"str",_,F.slot_str_getitem.lookup,Qi _ _ _,?_⟩;cases pl with
 | none=>
  cases pu with
  | none=>exact wpAny_getItem_str_slice (l:=none) (u:=none) (st:=none) hs rfl (RI ⟨bF (m6 z _ _) hz,fin⟩)
  | int j u=>exact wpAny_getItem_str_slice (l:=none) (u:=some (j,u)) (st:=none) hs rfl (RI ⟨bF (m6 z _ _) hz,fin⟩)
 | int i w=>
  cases pu with
  | none=>exact wpAny_getItem_str_slice (l:=some (i,w)) (u:=none) (st:=none) hs rfl (RI ⟨bF (m6 z _ _) hz,fin⟩)
  | int j u=>exact wpAny_getItem_str_slice (l:=some (i,w)) (u:=some (j,u)) (st:=none) hs rfl (RI ⟨bF (m6 z _ _) hz,fin⟩)
theorem Ka{z:Str}{lo hi:Option Int}{H:Hp}{Q:VK}:LO (.str z) lo hi H Q=(z.length<=sizeLine/\Q (.str (Txt.slice z lo hi)) H):=
 propext ⟨λ⟨_,e,h⟩=>by cases e;exact h,λh=>⟨z,rfl,h⟩⟩
end
end L2
namespace Rm
open PySem L2
def Fr(A B:Bool->Addr)(H H':Hp):Prop:=∀b o,(∀u,b≠A u/\b≠B u)->H b=some o->H' b=some o
theorem Fr.refl(A B:Bool->Addr)(H:Hp):Fr A B H H:=λ_ _ _ h=>h
theorem Fr.trans{A B:Bool->Addr}{H H1 H2:Hp}(a:Fr A B H H1)(b:Fr A B H1 H2):Fr A B H H2:=λc o n h=>b c o n (a c o n h)
theorem Fr.new{A B:Bool->Addr}{H H':Hp}{t:Addr}{o:HO}(a:Fr A B H H')(n:H' t=none):Fr A B H (upd H' t o):=λc u m h=>by
 have:=a c u m h;rw[aO (am this n)];exact this
theorem Fr.updA{A B:Bool->Addr}{H H':Hp}{o:HO}(a:Fr A B H H')(u:Bool):Fr A B H (upd H' (A u) o):=λc v m h=>by rw[aO (m u).1];exact a c v m h
theorem Fr.updB{A B:Bool->Addr}{H H':Hp}{o:HO}(a:Fr A B H H')(u:Bool):Fr A B H (upd H' (B u) o):=λc v m h=>by rw[aO (m u).2];exact a c v m h
theorem Fr.same{A B:Bool->Addr}{H H':Hp}(s:ar H H'):Fr A B H H':=λc v _ h=>s c v h
structure GS (H:Hp) (oe fd:Addr) (A B:Bool->Addr) (st:Bool->List Oe) (f:Bool->List Bw):Prop where
 oe_:H oe=some (.lst [.ref (A false),.ref (A true)])
 fd_:H fd=some (.lst [.ref (B false),.ref (B true)])
 s:∀ u,bu H (A u) (st u)
 f_:∀ u,bu H (B u) (f u)
 na:A false≠A true
 nb:B false≠B true
 ab:∀ u v,A u≠B v
 no:∀ u,oe≠A u/\oe≠B u/\fd≠A u/\fd≠B u
section
variable {H:Hp} {oe fd:Addr} {A B:Bool->Addr} {st:Bool->List Oe} {f:Bool->List Bw}
theorem GS.aa(G:GS H oe fd A B st f){u v:Bool}(h:u≠v):A u≠A v:=by
 cases u<;>cases v<;>first | exact absurd rfl h | exact G.na | exact G.na.symm
theorem GS.bb(G:GS H oe fd A B st f){u v:Bool}(h:u≠v):B u≠B v:=by
 cases u<;>cases v<;>first | exact absurd rfl h | exact G.nb | exact G.nb.symm
theorem GS.same{H':Hp}(G:GS H oe fd A B st f)(s:ar H H'):GS H' oe fd A B st f:=
 ⟨s _ _ G.oe_,s _ _ G.fd_,λu=>(G.s u).same s,λu=>(G.f_ u).same s,G.na,G.nb,G.ab,G.no⟩
theorem GS.new{t:Addr}{o:HO}(G:GS H oe fd A B st f)(n:H t=none):GS (upd H t o) oe fd A B st f:=G.same ((ar.refl H).new n)
theorem ny{l:Addr}{S:List Bw}{p:Bw}(h:bu H l (S++[p])):∃(as:List Addr) (a:Addr),H l=some (.lst (as.map V.ref++[.ref a]))/\Paired (bS H) as S/\bS H a p/\as.length=S.length:=by
 obtain⟨bs,h1,h2⟩:=h;have key:∀{bs:List Addr} {S:List Bw},Paired (bS H) bs (S++[p])->∃as a,bs=as++[a]/\Paired (bS H) as S/\bS H a p:=by
  intro bs S
  induction S generalizing bs with
  | nil=>intro h;cases h with | cons x y=>cases y;exact⟨[],_,rfl,.nil,x⟩
  | cons q S ih=>intro h;cases h with | cons x y=>obtain⟨as,a,rfl,h3,h4⟩:=ih y;exact⟨_::as,a,rfl,.cons x h3,h4⟩
 obtain⟨as,a,rfl,h3,h4⟩:=key h2;exact⟨as,a,by rw[h1,aX];rfl,h3,h4,au h3⟩
theorem sf{l:Addr}{as:List Addr}{S:List Bw}{xs ys:List V}(hl:H l=some (.lst xs))(h:Paired (bS H) as S):Paired (bS (upd H l (.lst ys))) as S:=
 Paired.mapP h λa p ta=>by
  have:a≠l:=λe=>by subst e;unfold bS at ta;rw[hl] at ta;cases ta
  unfold bS;rw[aO this];exact ta
theorem GS.setA(G:GS H oe fd A B st f)(u:Bool){as:List Addr}{S:List Oe}(h:Paired (bS H) as S):GS (upd H (A u) (.lst (as.map V.ref))) oe fd A B (λv=>if v=u then S else st v) f:=by
 obtain⟨bs,e,_⟩:=G.s u;refine⟨by rw[aO (G.no u).1];exact G.oe_,by rw[aO (G.no u).2.2.1];exact G.fd_,λv=>?_,λv=>iu (G.f_ v) e (G.ab u v).symm,G.na,G.nb,G.ab,G.no⟩;by_cases z:v=u
 ·subst z;simp only[RT];exact⟨as,aE,sf e h⟩
 ·simp only[z,RU];exact iu (G.s v) e (G.aa z)
theorem GS.setB(G:GS H oe fd A B st f)(u:Bool){as:List Addr}{S:List Bw}(h:Paired (bS H) as S):GS (upd H (B u) (.lst (as.map V.ref))) oe fd A B st (λv=>if v=u then S else f v):=by
 obtain⟨bs,e,_⟩:=G.f_ u;refine⟨by rw[aO (G.no u).2.1];exact G.oe_,by rw[aO (G.no u).2.2.2];exact G.fd_,λv=>iu (G.s v) e (G.ab v u),λv=>?_,G.na,G.nb,G.ab,G.no⟩;by_cases z:v=u
 ·subst z;simp only[RT];exact⟨as,aE,sf e h⟩
 ·simp only[z,RU];exact iu (G.f_ v) e (G.bb z)
theorem GS.pop(G:GS H oe fd A B st f){u:Bool}{S:List Oe}{p:Oe}(h:st u=S++[p]):∃(xs:List V) (a:Addr),H (A u)=some (.lst (xs++[.ref a]))/\bS H a p/\GS (upd H (A u) (.lst xs)) oe fd A B (λv=>if v=u then S else st v) f:=by
 have:=G.s u;rw[h] at this;obtain⟨as,a,e,hp,ta,_⟩:=ny this;exact⟨as.map V.ref,a,e,ta,G.setA u hp⟩
theorem GS.push(G:GS H oe fd A B st f)(u:Bool){t:Addr}{p:Oe}(ht:bS H t p):∃xs:List V,H (A u)=some (.lst xs)/\xs.length=(st u).length/\GS (upd H (A u) (.lst (xs++[.ref t]))) oe fd A B (λv=>if v=u then st u++[p] else st v) f:=by
 obtain⟨as,e,hp⟩:=G.s u;have:=G.setA u (qf hp ht);rw[aX] at this;exact⟨as.map V.ref,e,by rw[aA];exact au hp,this⟩
theorem GS.add(G:GS H oe fd A B st f)(u:Bool){t:Addr}{p:Bw}(ht:bS H t p):∃xs:List V,H (B u)=some (.lst xs)/\xs.length=(f u).length/\GS (upd H (B u) (.lst (xs++[.ref t]))) oe fd A B st (λv=>if v=u then f u++[p] else f v):=by
 obtain⟨as,e,hp⟩:=G.f_ u;have:=G.setB u (qf hp ht);rw[aX] at this;exact⟨as.map V.ref,e,by rw[aA];exact au hp,this⟩
end
def lO (k:Nat):Str:=if k=0 then Str.ofString "a" else if k=1 then Str.ofString "b" else if k=2 then Str.ofString "c" else Str.ofString "d"
def wC(y:String)(k:Nat):Bool:=!(Builtin.Str.occurrences (Str.ofString y) (lO k) 0 (Str.ofString y).length 1).isEmpty
theorem A8:wC "cd" 0=false/\wC "cd" 1=false/\wC "cd" 2=true/\wC "cd" 3=true:=by decide +kernel
theorem A9:wC "bd" 0=false/\wC "bd" 1=true/\wC "bd" 2=false/\wC "bd" 3=true:=by decide +kernel
theorem Ab:wC "ab" 0=true/\wC "ab" 1=true/\wC "ab" 2=false/\wC "ab" 3=false:=by decide +kernel
theorem Aa:wC "ac" 0=true/\wC "ac" 1=false/\wC "ac" 2=true/\wC "ac" 3=false:=by decide +kernel
theorem xQ:∀k,k<4->decide (lO k=Str.ofString "d")=decide (k=3):=by decide +kernel
theorem La:∀k,k<4->decide (lO k=Str.ofString "b")=decide (k=1):=by decide +kernel
theorem Hk:∀k,k<4->decide (lO k=Str.ofString "a")=decide (k=0):=by decide +kernel
def xm(st:Bool->List Oe)(k:Nat):Bool:=
 if k=3 then decide (st false≠[])&&(decide (st true≠[])&&decide (((st false).getLast?.map (·.2))≠((st true).getLast?.map (·.2))))
 else if k=1 then decide (st true≠[]) else decide (k=0) || decide (st false≠[])
inductive En (st:Bool->List Oe) (f:Bool->List Bw) (r:Nat):Nat->(Bool->List Oe)->(Bool->List Bw)->Prop
 | a:En st f r 0 (fun u=>st u++[((r:Int),(r:Int))]) f
 | b {S:List Oe} {o l:Int}:st true=S++[(o,l)]->En st f r 1 (fun u=>if u=true then S else st u++[((r:Int),l)]) (fun u=>if u=true then f u++[(o,(r:Int))] else f u)
 | c {S:List Oe} {o l:Int}:st false=S++[(o,l)]->En st f r 2 (fun u=>if u=false then S else st u++[((r:Int),l)]) (fun u=>if u=false then f u++[(o,(r:Int))] else f u)
 | d {n' f':List Oe} {o1 l1 o2 l2:Int}:st false=n'++[(o1,l1)]->st true=f'++[(o2,l2)]->l1≠l2->En st f r 3 (fun u=>(if u then f' else n').map (gF l2 l1)) (fun u=>f u++[(if u then o2 else o1,(r:Int))])
theorem En.gr{b:Bool}{st st':Bool->List Oe}{f f':Bool->List Bw}{r k:Nat}{is:List Pc}(P:En st f r k st' f')(G:Gr b st f r is):∃js,Gr b st' f' (r+1) js:=by
 cases P with
 | a=>exact⟨_,G.opA⟩
 | @b S o l h=>obtain⟨p,js,hp,G1,_⟩:=G.pick (e:=((o,l),true)) (by unfold eP;rw[h];simp);exact⟨_,G1.ext hp h⟩
 | @c S o l h=>obtain⟨p,js,hp,G1,_⟩:=G.pick (e:=((o,l),false)) (by unfold eP;rw[h];simp);exact⟨_,G1.ext hp h⟩
 | d h h' ne=>exact G.join h h' ne
theorem JE{st:Bool->List Oe}{k:Nat}(f:Bool->List Bw)(r:Nat)(hk:k<4)(h:xm st k=true):∃st' f',En st f r k st' f':=by
 have sn:∀S:List Oe,S≠[]->∃T o l,S=T++[(o,l)]:=λS h=>by
  rcases jO S with e | ⟨T,⟨o,l⟩,e⟩
  ·exact absurd e h
  ·exact⟨T,o,l,by rw[e,nO]⟩
 match k,hk with
 | 0,_=>exact⟨_,_,.a⟩
 | 1,_=>obtain⟨T,o,l,e⟩:=sn (st true) (RS h);exact⟨_,_,.b e⟩
 | 2,_=>
  have h':(false || decide (st false≠[]))=true:=h;rw[lV] at h';obtain⟨T,o,l,e⟩:=sn (st false) (RS h');exact⟨_,_,.c e⟩
 | 3,_=>
  have h':(decide (st false≠[])&&(decide (st true≠[])&&decide (((st false).getLast?.map (·.2))≠((st true).getLast?.map (·.2)))))=true:=h;rw[aY,aY] at h';obtain⟨T,o,l,e⟩:=sn (st false) (RS h'.1);obtain⟨T',o',l',e'⟩:=sn (st true) (RS h'.2.1);have:=RS h'.2.2;rw[e,e'] at this;exact⟨_,_,.d e e' λz=>this (by simp[z])⟩
def wW:Sp:=λvs H Q _=>∃c base:Int,vs=[.int c,.int base]/\1<=base/\base<=100/\∀(l:Addr) (ds:List Int) (H':Hp),H l=none->ar H H'->H' l=some (.lst (ds.map V.int))->ds.length<=20->Q (.ref l) H'
def Cz:Sp:=λvs H Q _=>∃m:Int,vs=[.int m]/\-1000<=m/\m<=1000/\Q (.int (nE m)) H
def Hd:Sp:=λvs H Q _=>∃oe fd A B st f,∃k:Nat,vs=[.ref oe,.str (lO k)]/\k<4/\GS H oe fd A B st f/\Q (.bl (xm st k)) H
def Cy:Sp:=λvs H Q _=>∃oe fd A B st f st' f',∃k r:Nat,vs=[.ref oe,.ref fd,.str (lO k),.int r]/\GS H oe fd A B st f/\(∀u,(st u).length<=100/\(f u).length<=100)/\En st f r k st' f'/\∀H',Fr A B H H'->GS H' oe fd A B st' f'->Q .non H'
theorem oB{α:Type}(xs:List α)(v:α):nG (xs++[v]) (-1)=some v:=by
 unfold nG;have e:xx (xs++[v]).length (-1)=some xs.length:=by
  unfold xx;rw[aw,cW,RM (by decide),RN (by lia)];congr 1;lia
 rw[e];simp
theorem ur(S:List Oe)(p:Oe):((S++[p]).getLast?.map (·.2))=some p.2:=by simp
theorem oN(S:List Oe):S=[]\/∃T o l,S=T++[(o,l)]:=by
 rcases jO S with e | ⟨T,⟨o,l⟩,e⟩
 ·exact .inl e
 ·exact .inr ⟨T,o,l,by rw[e,nO]⟩
theorem rj{K:RV}{H:Hp}{m n:Int}{neg:Bool}{Q:VK}(q:Q (.bl (if neg then !decide (m=n) else decide (m=n))) H):yj K neg (.int m) (.int n) H Q:=
 ⟨.int m,.int n,.int _,.int _,rfl,rfl,ac _,by
  have e:PyData.eqv (.int m) (.int n)=decide (m=n):=rfl;rw[e];exact q⟩
theorem xv(y:String)(k:Nat):(Builtin.Str.occurrences (Str.ofString y) (lO k) 0 (Str.ofString y).length 1).isEmpty=!wC y k:=by unfold wC;rw[Bool.not_not]
theorem Fr.updP{A B:Bool->Addr}{H H':Hp}{p:Addr}{o:HO}(a:Fr A B H H')(n:H p=none):Fr A B H (upd H' p o):=λc u m h=>by rw[aO (am h n)];exact a c u m h
theorem GS.updP{H:Hp}{oe fd p:Addr}{A B:Bool->Addr}{st:Bool->List Oe}{f:Bool->List Bw}{xs ys:List V}(G:GS H oe fd A B st f)(hp:H p=some (.lst xs))(pn:∀u,p≠A u/\p≠B u)(po:p≠oe/\p≠fd):GS (upd H p (.lst ys)) oe fd A B st f:=
 ⟨by rw[aO po.1.symm];exact G.oe_,by rw[aO po.2.symm];exact G.fd_,λu=>iu (G.s u) hp (pn u).1.symm,λu=>iu (G.f_ u) hp (pn u).2.symm,G.na,G.nb,G.ab,G.no⟩
theorem ky{H:Hp}{l a:Addr}{p:Bw}{xs ys:List V}(hl:H l=some (.lst xs))(h:bS H a p):bS (upd H l (.lst ys)) a p:=by
 have:a≠l:=λe=>by subst e;unfold bS at h;rw[hl] at h;cases h
 unfold bS;rw[aO this];exact h
theorem pc{K:RV}{Ho H:Hp}{oe fd p:Addr}{A B:Bool->Addr}{st:Bool->List Oe}{f:Bool->List Bw}{u:Bool}{S:List Oe}{o l:Int}{E:List V}{i:Int}{r:Nat}{K1:Hp->Prop}(Fo:Fr A B Ho H)(np:Ho p=none)(G:GS H oe fd A B st f)(h:st u=S++[(o,l)])(hp:H p=some (.lst E))(hE:E.length<=10)(hf:(f u).length<=100)(pn:∀u,p≠A u/\p≠B u)(po:p≠oe/\p≠fd)
  (hi:nG [V.ref (B false),.ref (B true)] i=some (.ref (B u)))
  (k:∀H4 a,Fr A B Ho H4->GS H4 oe fd A B (λv=>if v=u then S else st v) (λv=>if v=u then f u++[(o,(r:Int))] else f v)->H4 p=some (.lst (E++[.ref a]))->bS H4 a (o,l)->(∀a' q,bS H a' q->bS H4 a' q)->K1 H4) :
  C2 K "list" (.ref p) H/\C2 K "list" (.ref (A u)) H/\∃xs y,H (A u)=some (.lst xs)/\xs[xs.length - 1]? = some y/\∃xs1,upd H (A u) (.lst xs.dropLast) p=some (.lst xs1)/\xs1.length<sizeLine ∧
   ∃xs2 v,bw K (upd (upd H (A u) (.lst xs.dropLast)) p (.lst (xs1++[y]))) fd xs2/\nG xs2 i=some v/\C2 K "list" v (upd (upd H (A u) (.lst xs.dropLast)) p (.lst (xs1++[y]))) ∧
    ∃xs3 v1,bw K (upd (upd H (A u) (.lst xs.dropLast)) p (.lst (xs1++[y]))) p xs3/\nG xs3 (-1)=some v1/\Mp K v1 (.int 0) (upd (upd H (A u) (.lst xs.dropLast)) p (.lst (xs1++[y]))) λx H1=>
     [x,V.int r].length<=sizeLine/\∀t,H1 t=none->vb v [.ref t] (upd H1 t (.tup [x,.int r])) λ_ H1=>K1 H1:=by
 obtain⟨xs,a,e,ta,G1⟩:=G.pop h;have hp1:upd H (A u) (.lst xs) p=some (.lst E):=by rw[aO (pn u).1];exact hp
 have G2:=G1.updP (ys:=E++[.ref a]) hp1 pn po;have ta2:bS (upd (upd H (A u) (.lst xs)) p (.lst (E++[.ref a]))) a (o,l):=ky hp1 (ky e ta);have F2:Fr A B Ho (upd (upd H (A u) (.lst xs)) p (.lst (E++[.ref a]))):=(Fo.updA u).updP np;have old:∀a' q,bS H a' q->bS (upd (upd H (A u) (.lst xs)) p (.lst (E++[.ref a]))) a' q:=λa' q z=>ky hp1 (ky e z);have dl:(xs++[V.ref a]).dropLast=xs:=by simp
 refine⟨gP hp,gP e,_,.ref a,e,by simp,?_⟩;rw[dl];refine⟨E,hp1,bQ (by lia),?_⟩;have p2:upd (upd H (A u) (.lst xs)) p (.lst (E++[.ref a])) p=some (.lst (E++[.ref a])):=aE;generalize upd (upd H (A u) (.lst xs)) p (.lst (E++[.ref a]))=H2 at *;obtain⟨_,eB,_⟩:=G2.f_ u;refine⟨_,_,bw.of G2.fd_,hi,gP eB,_,_,bw.of p2,oB _ _,.inr (.inl ⟨a,_,_,_,rfl,rfl,dD.of ta2,rfl,(by show 2<=sizeLine;decide),λt nt=>?_⟩)⟩;have G3:=G2.new (o:=.tup [.int o,.int r]) nt;have t3:bS (upd H2 t (.tup [.int o,.int r])) t (o,(r:Int)):=aE;obtain⟨ys,eY,lY,G4⟩:=G3.add u t3;have s3:=(ar.refl H2).new (o:=.tup [.int o,.int r]) nt;refine⟨B u,ys,_,rfl,rfl,eY,bQ (by lia),k _ a ((F2.new nt).updB u) G4 ?_ (ky eY (ta2.same s3)) λa' q z=>ky eY ((old a' q z).same s3)⟩;rw[aO (pn u).2];exact s3 _ _ p2
theorem GS.cg{H:Hp}{oe fd:Addr}{A B:Bool->Addr}{st st':Bool->List Oe}{f f':Bool->List Bw}(G:GS H oe fd A B st f)(h:∀u,st u=st' u)(h':∀u,f u=f' u):GS H oe fd A B st' f':=by
 rw[<-funext h,<-funext h'];exact G
theorem DR(X:List Oe)(g:Oe->Oe){k:Nat}{e:Oe}(h:X[k]? = some e):((X.take k).map g++X.drop k)[k]? = some e/\((X.take k).map g++X.drop k).set k (g e)=(X.take (k+1)).map g++X.drop (k+1):=by
 obtain⟨hk,he⟩:=aF.mp h;have hl:((X.take k).map g).length=k:=by rw[aA,bj];lia
 have hd:X.drop k=e::X.drop (k+1):=by rw[cJ hk,he]
 refine⟨?_,?_⟩
 ·rw[dN (by lia),hl,mh,hd];rfl
 ·rw[List.set_append_right _ _ (by lia),hl,mh,hd,List.set_cons_zero,bD,h,aX];simp
theorem wx{H:Hp}:∀{as:List Addr} {S:List Bw} {i:Nat} {t:Addr} {q:Bw},Paired (bS H) as S->bS H t q->Paired (bS H) (as.set i t) (S.set i q)
 | [],_,_,_,_,h,_=>by cases h;exact .nil
 | a::as,_,0,t,q,h,ht=>by cases h with | cons x y=>exact .cons ht y
 | a::as,_,i+1,t,q,h,ht=>by cases h with | cons x y=>exact .cons x (wx y ht)
theorem GS.get{H:Hp}{oe fd:Addr}{A B:Bool->Addr}{st:Bool->List Oe}{f:Bool->List Bw}(G:GS H oe fd A B st f)(u:Bool){i:Nat}{e:Oe}(h:(st u)[i]? = some e):∃(as:List Addr) (a:Addr),H (A u)=some (.lst (as.map V.ref))/\(as.map V.ref)[i]? = some (.ref a)/\bS H a e/\Paired (bS H) as (st u):=by
 obtain⟨as,h1,h2⟩:=G.s u;obtain⟨as',c1,cl,bg⟩:=(G.s u).get;rw[h1] at c1;have ea:as.map V.ref=as'.map V.ref:=by injection c1 with c1;injection c1 with c1
 have hi:i<(as'.map V.ref).length:=by rw[aA,cl];exact(aF.mp h).1
 obtain⟨a,p,e1,e2,e3⟩:=bg i _ (aJ hi);rw[h] at e2;cases e2;exact⟨as,a,h1,by rw[ea,aJ hi,e1],e3,h2⟩
theorem GS.set{H:Hp}{oe fd:Addr}{A B:Bool->Addr}{st:Bool->List Oe}{f:Bool->List Bw}(G:GS H oe fd A B st f)(u:Bool){as:List Addr}(i:Nat){t:Addr}{q:Oe}(h:Paired (bS H) as (st u))(ht:bS H t q):GS (upd H (A u) (.lst ((as.map V.ref).set i (.ref t)))) oe fd A B (λv=>if v=u then (st u).set i q else st v) f:=by
 have:=G.setA u (wx (i:=i) h ht);rw[List.map_set] at this;exact this
theorem Ga{n i:Nat}(h:i<n):xx n (i:Int)=some i:=by
 unfold xx;rw[RN (by lia),RN (by lia)];simp
def pN(m:Int)(k:Nat):Int:=m+2*(if k=0 then 1 else 0) - 2*(if k=3 then 1 else 0)
def uV:Sp:=λvs H Q _=>∃oe fd A B st f,∃(r:Nat) (d:Int),vs=[.ref oe,.int r,.int d]/\GS H oe fd A B st f/\(∀u,(st u).length<=100)/\r<=100/\∀(l:Addr) (ks:List Nat) (H':Hp),H l=none->ar H H'->H' l=some (.lst (ks.map λk=>V.str (lO k)))->(∀k∈ks,k<4/\xm st k=true/\(r:Int)+nE (pN ((st false).length+(st true).length) k)<=20)->Q (.ref l) H'
theorem Gy:∀j:Nat,j<4->(Txt.slice (Str.ofString "abcdabcd") (some (j:Int)) (some ((j:Int)+4))).cps.all (·<128)=true/\(Txt.slice (Str.ofString "abcdabcd") (some (j:Int)) (some ((j:Int)+4))).cps.toList.all (λc=>decide (c=97\/c=98\/c=99\/c=100))=true/\(Txt.slice (Str.ofString "abcdabcd") (some (j:Int)) (some ((j:Int)+4))).length=4:=by decide +kernel
theorem Jg{c:Nat}(h:c=97\/c=98\/c=99\/c=100):∃k,k<4/\(⟨#[c]⟩:Str)=lO k:=by
 rcases h with rfl | rfl | rfl | rfl
 ·exact⟨0,by decide,by decide +kernel⟩
 ·exact⟨1,by decide,by decide +kernel⟩
 ·exact⟨2,by decide,by decide +kernel⟩
 ·exact⟨3,by decide,by decide +kernel⟩
theorem Ji {k:Nat} (h:k<4):(lO k=Str.ofString "a")=(k=0):=propext (decide_eq_decide.mp (Hk k h))
theorem Jh {k:Nat} (h:k<4):(lO k=Str.ofString "d")=(k=3):=propext (decide_eq_decide.mp (xQ k h))
structure Found (H:Hp) (fd:Addr) (g:Bool->Addr) (b:Bool) (ns:List Int) (Fs:Bool->List Bw):Prop where
 at_:H fd=some (.lst [.ref (g false),.ref (g true)])
 bows:∀ u,bu H (g u) (Fs u)
 perm:∀ u,(Fs u).Perm (bU b ns u (ns.length+1))
 ord:fO ns
theorem Found.same{H H':Hp}{fd:Addr}{g:Bool->Addr}{b:Bool}{ns:List Int}{Fs:Bool->List Bw}(F:Found H fd g b ns Fs)(s:ar H H'):Found H' fd g b ns Fs:=⟨s _ _ F.at_,λu=>(F.bows u).same s,F.perm,F.ord⟩
theorem Found.sum{H:Hp}{fd:Addr}{g:Bool->Addr}{b:Bool}{ns:List Int}{Fs:Bool->List Bw}(F:Found H fd g b ns Fs):(Fs false).length+(Fs true).length=ns.length+1:=by
 rw[(F.perm false).length_eq,(F.perm true).length_eq,pW]
theorem Found.only{H:Hp}{fd:Addr}{g:Bool->Addr}{b:Bool}{ns:List Int}{Fs:Bool->List Bw}(F:Found H fd g b ns Fs){i:Nat}(hi:i<=ns.length):(Fs (b ^^ odd i)).filter (qB (b6 ns i))=[cI ns i]:=by
 have:=(F.perm (b ^^ odd i)).filter (qB (b6 ns i));rw[F.ord.only hi (nh b i) (.inl rfl)] at this;exact List.perm_singleton.mp this
def uT:Sp:=λvs H Q _=>∃b fd g ns Fs,vs=[.str (sd b),.ref fd]/\Found H fd g b ns Fs/\∀t H',H t=none->ar H H'->H' t=some (.tup (ns.map V.int))->Q (.ref t) H'
def NC(b:Bool)(ns:List Int):Prop:=∀u,∀p∈bU b ns u (ns.length+1),∀q∈bU b ns u (ns.length+1),fJ p q=false
def AH:Sp:=λvs H Q _=>∃b dl,∃ds:List Int,vs=[.str (sd b),.ref dl]/\H dl=some (.lst (ds.map V.int))/\ds.length<=20/\∀fd g ns Fs H',H fd=none->ar H H'->Found H' fd g b ns Fs->NC b ns->Q (.ref fd) H'
def sO:Sp:=λvs H Q _=>∃b dl,∃ds:List Int,vs=[.str (sd b),.ref dl]/\H dl=some (.lst (ds.map V.int))/\ds.length<=20/\∀m o ns H',H m=none->H o=none->ar H H'->gj H' m o b ns->fO ns->NC b ns->Q (.ref m) H'
def AJ:Sp:=λvs H Q _=>∃oe fd A B b st f is,∃r:Nat,vs=[.ref oe,.ref fd,.int r]/\GS H oe fd A B st f/\Gr b st f r is/\r+xy st<=21/\∀n ns Fs H',Fr A B H H'->Found H' fd B b ns Fs->NC b ns->Q (.int n) H'
theorem vB:∀(R:List Int) (s t:Bool),(chain s R t).length<=R.length
 | [],_,_=>ac _
 | [a],_,_=>ac _
 | a::b::R,s,t=>by
  have ih:=vB (b::R) (!s) t;show ((if (!s)=t then [(min a b,max a b)] else [])++chain (!s) (b::R) t).length<=_;rw[aw,cQ]
  split
  ·simp only[cW];lia
  ·simp only[jz];lia
theorem Gr.small{b:Bool}{st:Bool->List Oe}{f:Bool->List Bw}{r:Nat}{is:List Pc}(G:Gr b st f r is):∀u,(st u).length<=2*r/\(f u).length<=r:=by
 have h1:=G.rows.length_eq;rw[we] at h1;have h2:∀js:List Pc,(∀p∈js,p.rows≠[])->js.length<=(js.flatMap Pc.rows).length:=by
  intro js
  induction js with
  | nil=>intro _;exact ac _
  | cons p js ih=>
   intro h;have i1:=ih λq hq=>h q (aM _ hq);have i2:0<p.rows.length:=List.length_pos_iff.mpr (h p bB);rw[bE,aw,cQ];lia
 have h3:∀(js:List Pc) u,(js.flatMap (Pc.bows u)).length<=(js.flatMap Pc.rows).length:=by
  intro js u
  induction js with
  | nil=>exact ac _
  | cons p js ih=>
   have:=vB p.rows p.s u;rw[bE,bE,aw,aw];show (chain p.s p.rows u).length+_<=_;lia
 have h4:=h2 is G.ne;have h5:=G.many;intro u;refine⟨?_,?_⟩
 ·cases u<;>lia
 ·rw[(G.bows u).length_eq];exact bF (h3 is u) (iG h1)
theorem Fr.toSame{A B:Bool->Addr}{H H0 H':Hp}(n:∀u,H (A u)=none/\H (B u)=none)(s:ar H H0)(f:Fr A B H0 H'):ar H H':=λb o h=>
 f b o (λu=>⟨am h (n u).1,am h (n u).2⟩) (s b o h)
theorem En.many{st st':Bool->List Oe}{f f':Bool->List Bw}{r k:Nat}(P:En st f r k st' f'):((st' false).length:Int)+(st' true).length=pN ((st false).length+(st true).length) k:=by
 cases P with
 | a=>simp only[aw,cW,pN];simp;lia
 | b h=>rw[h];simp[pN];lia
 | c h=>rw[h];simp[pN];lia
 | d h h' ne=>rw[h,h'];simp[pN];lia
theorem Dr{α β:Type}{F:α->β->Prop}{l:List α}{m:List β}(h:Paired F l m):Paired F l.reverse m.reverse:=by
 induction h with
 | nil=>exact .nil
 | cons a b ih=>rw[gk,gk];exact qf ih a
theorem Ds{α β:Type}{F:α->β->Prop}{l l':List α}{m m':List β}(h:Paired F l m)(h':Paired F l' m'):Paired F (l++l') (m++m'):=by
 induction h with
 | nil=>exact h'
 | cons a b ih=>exact .cons a ih
theorem GF{F:Addr->Oe->Prop}{l:List Addr}{m:List Oe}(h:Paired F l m):∀{i:Nat} {e:Oe},m[i]? = some e->∃a,l[i]? = some a/\F a e:=by
 induction h with
 | nil=>intro i e h;simp at h
 | cons a b ih=>
  intro i e h;cases i with
  | zero=>cases h;exact⟨_,rfl,a⟩
  | succ i=>exact ih h
def Bf(st:Bool->List Oe):Nat:=if (st false).length<nQ (bT st) then 1 else if nQ (bT st)<(st false).length then 2 else 3
theorem Gr.end_put{b:Bool}{st:Bool->List Oe}{f:Bool->List Bw}{r:Nat}{is:List Pc}(G:Gr b st f r is)(h:1<(st false).length+(st true).length):∃st' f',En st f r (Bf st) st' f'/\xy st'+1<=xy st:=by
 have hl:1<(bT st).length:=by rw[lq];exact h
 have hm:=G.many;have ht:=oK (bT st);unfold Bf;by_cases h1:(st false).length<nQ (bT st)
 ·rw[RN h1];rcases oN (st true) with e | ⟨S,o,l,e⟩
  ·rw[e] at hm h;simp at hm h;lia
  ·exact⟨_,_,.b e,iG (LZ e hl h1)⟩
 ·rw[RM h1];by_cases h2:nQ (bT st)<(st false).length
  ·rw[RN h2];rcases oN (st false) with e | ⟨S,o,l,e⟩
   ·rw[e] at h2;simp at h2
   ·exact⟨_,_,.c e,iG (LY e hl h2)⟩
  ·rw[RM h2];have h3:(st false).length=nQ (bT st):=by lia
   rcases oN (st false) with e | ⟨S,o,l,e⟩
   ·rw[e] at h3;simp at h3;lia
   ·rcases oN (st true) with e' | ⟨S',o',l',e'⟩
    ·rw[e'] at hm h;simp at hm h;lia
    ·refine⟨_,_,.d e e' λz=>?_,G.phi_d e e' hl h3⟩;obtain⟨x,y,ex,ey,ne⟩:=G.tgt_ne hl;have hS:(S++[(o,l)]).length=nQ (bT st):=by rw[<-e];exact h3
     simp only[aw,cW] at hS;have hL:bT st=S.map (·.2)++(l::l'::(S'.reverse).map (·.2)):=by
      unfold bT;rw[e,e'];simp
     rw[hL] at ex ey;have i1:nQ (S.map (·.2)++(l::l'::(S'.reverse).map (·.2)))=S.length+1:=by rw[<-hL];exact hS.symm
     rw[i1,dN (by simp)] at ex;rw[i1,dN (by simp only[aA];lia)] at ey;simp at ex ey;exact ne (ex.symm.trans (z.trans ey))
def AL:Sp:=λvs H Q _=>∃m o b ns,vs=[.ref m]/\gj H m o b ns/\ns.length<=40/\∀fd (g:Bool->Addr) H',H fd=none->(∀u,H (g u)=none)->ar H H'->H' fd=some (.lst [.ref (g false),.ref (g true)])->(∀u,bu H' (g u) (bU b ns u (ns.length+1)))->g false≠g true->Q (.ref fd) H'
end Rm
namespace L2
open PySem PySem.Spec PyProof.Rows
structure t9 (z TI TO i1 i2:Addr) (f1 f2:List Addr):Prop where
 tz:TI≠z
 oz:TO≠z
 az:i1≠z
 bz:i2≠z
 to:TI≠TO
 ta:TI≠i1
 tb:TI≠i2
 oa:TO≠i1
 ob:TO≠i2
 ab:i1≠i2
 z1:z∉f1
 o1:TO∉f1
 b1:i2∉f1
 z2:z∉f2
 o2:TO∉f2
 a2:i1∉f2
section
variable {prog:Program} {w:World} {A:Around} {E:Value->Shared->Prop} {s:Shared} {z TI TO i1 i2:Addr} {f1 f2:List Addr} {n1 n2 k:Nat} {P1 P2:Nat->Value->Prop} {S1 S2:Nat->Heap->Prop} {a b:Value}
theorem gR{it:Addr}{fp:List Addr}{n i:Nat}{P:Nat->Value->Prop}{S:Nat->Heap->Prop}{h h':Heap}{c:Addr}(D:Draws prog w A it fp n P S)(st:S i h)(sb:Heap.SameBut c h h')(hc:c∉fp):S i h':=
 D.frame i h h' st λb hb o e=>(sb.2 b (λq=>hc (q▸hb))).trans e
theorem Ar{Q:Value->Shared->Prop}(D1:Draws prog w A i1 f1 n1 P1 S1)(D2:Draws prog w A i2 f2 n2 P2 S2)(ap:t9 z TI TO i1 i2 f1 f2)(hz:IsZip s.heap z TI TO .none)(hTI:IsPair s.heap TI (.ref i1) (.ref i2))(hTO:IsPair s.heap TO a b)(h1:S1 k s.heap)(h2:S2 k s.heap)(k1:k<n1)(k2:k<n2)
  (hQ:∀(h':Heap) (x y:Value) (tk:Nat),P1 k x->P2 k y->IsZip h' z TI TO (rawInt s.heap.objs.size)->IsPair h' TO x y->S1 (k+1) h'->S2 (k+1) h'->IsPair h' s.heap.objs.size x y->(∀c o,c≠z->c≠TO->c≠i1->c≠i2->s.heap.get? c=some o->h'.get? c=some o)->Q (.ref s.heap.objs.size) { s with heap:=h',toks:=tk }) :
  wpAny (model prog w) A (Builtin.«zip.__next__» ⟨[.ref z],[]⟩) (λfin s'=>∃v,fin=.done (.ret v)/\Q v s') E s:=by
 show wpAny _ _ (field (.ref z) 2>>=_) _ _ _;refine wpAny_bind (RG hz rfl (x:=.bool false) rfl ?_);show wpAny _ _ (field (.ref z) 3>>=_) _ _ _;refine wpAny_bind (RG hz rfl (x:=.ref TI) rfl ?_);refine wpAny_bind (RD hTI rfl ?_);show wpAny _ _ (Builtin.SmallTypes.ownedTupleIsFree (.ref z)>>=_) _ _ _;refine wpAny_bind ?_;unfold Builtin.SmallTypes.ownedTupleIsFree;refine wpAny_bind (RG hz rfl (x:=.none) rfl (wpAny_pure ?_));simp only[RT];refine wpAny_bind (wpAny_rule ?_);refine wpAny_bind (RG hz rfl (x:=.ref TO) rfl ?_);refine wpAny_bind (RJ hz (by simp) λg1 hz1 b1=>?_)
 replace hz1:IsZip g1 z TI TO .ellipsis:=hz1
 refine wpAny_bind ?_;simp only[List.zipIdx_cons,List.zipIdx_nil,kC,List.forIn_nil];refine wpAny_bind (wpAny_bind (wpAny_onRaise ?_));show wpAny _ _ (Builtin.SmallTypes.nextOf (.ref i1)>>=_) _ _ _;refine wpAny_bind (D1.item k { s with heap:=g1 } _ _ k1 (gR D1 h1 b1 ap.z1) λx g2 t2 px s2 b2=>wpAny_pure ?_);have hT2:IsPair g2 TO a b:=b2.extBut _ _ ap.oa (b1.extBut _ _ ap.oz hTO);refine wpAny_bind (RD hT2 rfl ?_);refine wpAny_bind (wpAny_updateSeq_pair hT2 λg3 hT3 b3=>?_)
 replace hT3:IsPair g3 TO x b:=hT3
 refine wpAny_bind (Qv (wpAny_pure ?_));refine wpAny_bind (wpAny_bind (wpAny_onRaise ?_));show wpAny _ _ (Builtin.SmallTypes.nextOf (.ref i2)>>=_) _ _ _;refine wpAny_bind (D2.item k { s with heap:=g3,toks:=t2 } _ _ k2 (gR D2 (gR D2 (gR D2 h2 b1 ap.z2) b2 ap.a2) b3 ap.o2) λy g4 t4 py s4 b4=>wpAny_pure ?_);have hT4:IsPair g4 TO x b:=b4.extBut _ _ ap.ob hT3;refine wpAny_bind (RD hT4 rfl ?_);refine wpAny_bind (wpAny_updateSeq_pair hT4 λg5 hT5 b5=>?_)
 replace hT5:IsPair g5 TO x y:=hT5
 refine wpAny_bind (Qv (wpAny_pure (wpAny_pure ?_)));refine wpAny_bind (RD hT5 rfl ?_);refine wpAny_bind (wpAny_newTuple ?_);have hsz:g5.objs.size=s.heap.objs.size:=by rw[b5.1,b4.1,b3.1,b2.1,b1.1]
 have hz5:IsZip g5 z TI TO .ellipsis:=b5.extBut _ _ ap.oz.symm (b4.extBut _ _ ap.bz.symm (b3.extBut _ _ ap.oz.symm (b2.extBut _ _ ap.az.symm hz1)));have kp5:∀c o,c≠z->c≠TO->c≠i1->c≠i2->s.heap.get? c=some o->g5.get? c=some o:=λc o c1 c2 c3 c4 e=>b5.extBut _ _ c2 (b4.extBut _ _ c4 (b3.extBut _ _ c2 (b2.extBut _ _ c3 (b1.extBut _ _ c1 e))));have w1:S1 (k+1) g5:=gR D1 (gR D1 (gR D1 s2 b3 ap.o1) b4 ap.b1) b5 ap.o1;have w2:S2 (k+1) g5:=gR D2 s4 b5 ap.o2;have zlt:z<g5.objs.size:=aN hz5;show wpAny _ _ (Builtin.SmallTypes.ownedTupleHandOut (.ref z) (.ref g5.objs.size)>>=_) _ _ _;refine wpAny_bind ?_;unfold Builtin.SmallTypes.ownedTupleHandOut;have hz6:IsZip (g5.push { cls:=.type "tuple",data:=.seq #[x,y] }) z TI TO .ellipsis:=aD _ hz5;refine wpAny_bind (RJ hz6 (by simp) λg7 hz7 b7=>?_)
 replace hz7:IsZip g7 z TI TO (rawInt g5.objs.size):=hz7
 refine RJ hz7 (by simp) λg8 hz8 b8=>?_
 replace hz8:IsZip g8 z TI TO (rawInt g5.objs.size):=hz8
 have up:∀c o,c≠z->g5.get? c=some o->g8.get? c=some o:=λc o c1 e=>b8.extBut _ _ c1 (b7.extBut _ _ c1 (aD _ e));have hP:IsPair g8 g5.objs.size x y:=b8.extBut _ _ (fm zlt) (b7.extBut _ _ (fm zlt) (aQ _ rfl));rw[hsz] at hz8 hP;refine wpAny_pure ⟨_,rfl,?_⟩;show Q (.ref g5.objs.size) _;rw[hsz];exact hQ g8 x y t4 px py hz8 (up _ _ ap.oz hT5) (D1.frame _ _ _ w1 λc hc o e=>up c o (λq=>ap.z1 (q▸hc)) e) (D2.frame _ _ _ w2 λc hc o e=>up c o (λq=>ap.z2 (q▸hc)) e) hP λc o c1 c2 c3 c4 e=>up c o c1 (kp5 c o c1 c2 c3 c4 e)
theorem Bu{Q:Fin->Shared->Prop}(D1:Draws prog w A i1 f1 n1 P1 S1)(ap:t9 z TI TO i1 i2 f1 f2)(hz:IsZip s.heap z TI TO .none)(hTI:IsPair s.heap TI (.ref i1) (.ref i2))(h1:S1 n1 s.heap)
  (hE:∀h' e,(∀c o,c≠z->c≠i1->s.heap.get? c=some o->h'.get? c=some o)->(∃o,h'.get? e=some o/\o.cls=.type "StopIteration")->E (.ref e) { s with heap:=h' }):wpAny (model prog w) A (Builtin.«zip.__next__» ⟨[.ref z],[]⟩) Q E s:=by
 show wpAny _ _ (field (.ref z) 2>>=_) _ _ _;refine wpAny_bind (RG hz rfl (x:=.bool false) rfl ?_);show wpAny _ _ (field (.ref z) 3>>=_) _ _ _;refine wpAny_bind (RG hz rfl (x:=.ref TI) rfl ?_);refine wpAny_bind (RD hTI rfl ?_);show wpAny _ _ (Builtin.SmallTypes.ownedTupleIsFree (.ref z)>>=_) _ _ _;refine wpAny_bind ?_;unfold Builtin.SmallTypes.ownedTupleIsFree;refine wpAny_bind (RG hz rfl (x:=.none) rfl (wpAny_pure ?_));simp only[RT];refine wpAny_bind (wpAny_rule ?_);refine wpAny_bind (RG hz rfl (x:=.ref TO) rfl ?_);refine wpAny_bind (RJ hz (by simp) λg1 hz1 b1=>?_)
 replace hz1:IsZip g1 z TI TO .ellipsis:=hz1
 refine wpAny_bind ?_;simp only[List.zipIdx_cons,List.zipIdx_nil,kC,List.forIn_nil];refine wpAny_bind (wpAny_bind (wpAny_onRaise ?_));show wpAny _ _ (Builtin.SmallTypes.nextOf (.ref i1)>>=_) _ _ _;refine wpAny_bind (D1.done { s with heap:=g1 } _ _ (gR D1 h1 b1 ap.z1) λg2 e b2 he=>?_);obtain⟨oe,hoe,hce⟩:=he;have hz2:IsZip g2 z TI TO .ellipsis:=b2 _ _ ap.az.symm hz1;have hez:e≠z:=λx=>by subst x;rw[hz2] at hoe;cases hoe;simp at hce
 exact RJ hz2 (by simp) λg3 _ b3=>hE g3 e (λc o c1 c3 x=>b3.extBut _ _ c1 (b2 _ _ c3 (b1.extBut _ _ c1 x))) ⟨oe,b3.extBut _ _ hez hoe,hce⟩
theorem zC{Q:Option Value->Shared->Prop}(D1:Draws prog w A.in1 i1 f1 n1 P1 S1)(D2:Draws prog w A.in1 i2 f2 n2 P2 S2)(ap:t9 z TI TO i1 i2 f1 f2)(hz:IsZip s.heap z TI TO .none)(hTI:IsPair s.heap TI (.ref i1) (.ref i2))(hTO:IsPair s.heap TO a b)(h1:S1 k s.heap)(h2:S2 k s.heap)(k1:k<n1)(k2:k<n2)
  (hQ:∀(h':Heap) (x y:Value) (tk:Nat),P1 k x->P2 k y->IsZip h' z TI TO (rawInt s.heap.objs.size)->IsPair h' TO x y->S1 (k+1) h'->S2 (k+1) h'->IsPair h' s.heap.objs.size x y->(∀c o,c≠z->c≠TO->c≠i1->c≠i2->s.heap.get? c=some o->h'.get? c=some o)->Q (some (.ref s.heap.objs.size)) { s with heap:=h',toks:=tk }) :
  wpAny (model prog w) A (pyNext (.ref z)) Q E s:=by
 have hT:s.TypeIs (.ref z) "zip":=⟨_,hz,rfl⟩
 unfold pyNext;exact wpAny_bind (Qw (wpAny_callSpecial?_slot (name:=Str.ofString "__next__") hT kE (Qr kE hT F.entry_zip_next (Ar D1 D2 ap hz hTI hTO h1 h2 k1 k2 λh' x y tk q1 q2 q3 q4 q5 q6 q7 q8=>wpAny_pure (hQ h' x y tk q1 q2 q3 q4 q5 q6 q7 q8)) (F.args_zip_next_1 _))))
theorem BW{Q:Option Value->Shared->Prop}(D1:Draws prog w A.in1 i1 f1 n1 P1 S1)(ap:t9 z TI TO i1 i2 f1 f2)(hz:IsZip s.heap z TI TO .none)(hTI:IsPair s.heap TI (.ref i1) (.ref i2))(h1:S1 n1 s.heap)
  (hQ:∀h',(∀c o,c≠z->c≠i1->s.heap.get? c=some o->h'.get? c=some o)->Q none { s with heap:=h' }):wpAny (model prog w) A (pyNext (.ref z)) Q E s:=by
 have hT:s.TypeIs (.ref z) "zip":=⟨_,hz,rfl⟩
 unfold pyNext;refine wpAny_bind (Qw (wpAny_callSpecial?_slot (name:=Str.ofString "__next__") hT kE (Qr kE hT F.entry_zip_next (Bu D1 ap hz hTI h1 λh' e hk he=>?_) (F.args_zip_next_1 _))));obtain⟨o,ho,hc⟩:=he;exact wpAny_bind (wpAny_isInstance (T:="StopIteration") (b:=true) ⟨o,ho,hc⟩ isSubtype_stop (wpAny_pure (hQ _ hk)))
end
abbrev Bt (h:Heap) (l:Addr):Heap:=h.push { cls:=.type "tuple_iterator",data:=.fields #[.ref l,.int 0 0] }
abbrev Lv (h:Heap) (l1 l2:Addr):Heap:=(Bt (Bt h l1) l2).push { cls:=.type "tuple",data:=.seq #[.ref h.objs.size,.ref (Bt h l1).objs.size] }
abbrev Lu (h:Heap) (l1 l2:Addr):Heap:=(Lv h l1 l2).push { cls:=.type "tuple",data:=.seq #[.none,.none] }
abbrev KY (h:Heap) (l1 l2:Addr):Heap:=(Lu h l1 l2).push { cls:=.type "zip",data:=.fields #[.none,.bool false,.bool false,.ref (Bt (Bt h l1) l2).objs.size,.ref (Lv h l1 l2).objs.size] }
theorem GW (l1 l2:Addr) (xs ys:Array Value):Meets (Builtin.«zip.__new__» ⟨[.type "zip",.ref l1,.ref l2],[]⟩) (λ_ R s=>s.heap.IsTuple l1 xs/\s.heap.IsTuple l2 ys/\R (.ok (.ret (.ref (Lu s.heap l1 l2).objs.size))) { s with heap:=KY s.heap l1 l2 }):=.of_wp λprog w A R s h=>by
  obtain⟨hp,g,d,tk,os⟩:=s;obtain⟨hl1,hl2,h⟩:=h;have hsub:=sub_zip;have hL1:Heap.IsTuple (Shared.heap ⟨hp,g,d,tk,os⟩) l1 xs:=hl1;have hL2:Heap.IsTuple (Shared.heap ⟨hp.push { cls:=.type "tuple_iterator",data:=.fields #[.ref l1,.int 0 0] },g,d,tk,os⟩) l2 ys:=Heap.IsTuple.push hl2 _
  wp_walk using Qe hL1,Qe hL2;exact⟨_,rfl,h⟩
theorem KG{prog:Program}{w:World}{A:Around}{E:Value->Shared->Prop}{s:Shared}{l1 l2:Addr}{xs ys:Array Value}{Q:Value->Shared->Prop}(hl1:s.heap.IsTuple l1 xs)(hl2:s.heap.IsTuple l2 ys)
  (h:∀h' n,n=s.heap.objs.size->IsZip h' (n+4) (n+2) (n+3) .none->IsPair h' (n+2) (.ref n) (.ref (n+1))->IsPair h' (n+3) .none .none->h'.IsTupleIter n l1 0->h'.IsTupleIter (n+1) l2 0->(∀c o,s.heap.get? c=some o->h'.get? c=some o)->Q (.ref (n+4)) { s with heap:=h' }):wpAny (model prog w) A (call (.type "zip") [.ref l1,.ref l2]) Q E s:=by
 refine callType_new F.called_zip (by decide) (F.typeCall_zip_2 _ _) (F.newCall_zip_2 _ _) (λobj=>F.args_object_init_3 obj _ _) F.entry_zip_new (GW l1 l2 xs ys) ⟨hl1,hl2,?_⟩;have z1:(Bt s.heap l1).objs.size=s.heap.objs.size+1:=fS ..;have z2:(Bt (Bt s.heap l1) l2).objs.size=s.heap.objs.size+2:=by rw[fS,z1]
 have z3:(Lv s.heap l1 l2).objs.size=s.heap.objs.size+3:=by rw[fS,z2]
 have z4:(Lu s.heap l1 l2).objs.size=s.heap.objs.size+4:=by rw[fS,z3]
 have g5:(KY s.heap l1 l2).get? (Lu s.heap l1 l2).objs.size=some _:=aQ _ rfl;have g4:(KY s.heap l1 l2).get? (Lv s.heap l1 l2).objs.size=some _:=aD _ (aQ _ rfl);have g3:(KY s.heap l1 l2).get? (Bt (Bt s.heap l1) l2).objs.size=some _:=aD _ (aD _ (aQ _ rfl));have g2:(KY s.heap l1 l2).get? (Bt s.heap l1).objs.size=some _:=aD _ (aD _ (aD _ (aQ _ rfl)));have g1:(KY s.heap l1 l2).get? s.heap.objs.size=some _:=aD _ (aD _ (aD _ (aD _ (aQ _ rfl))));show _/\_;rw[z2,z3,z4] at g5;rw[z1,z2] at g3;rw[z3] at g4;rw[z1] at g2;rw[z4];exact⟨⟨_,g5,rfl⟩,h _ _ rfl g5 g3 g4 ⟨_,g1,rfl,rfl⟩ ⟨_,g2,rfl,rfl⟩ λc o x=>aD _ (aD _ (aD _ (aD _ (aD _ x))))⟩
def HE(K:RV)(a b:Addr):It:=
  ⟨λi H=>∃xs ys x y,dD K H a xs/\dD K H b ys/\xs[i]? = some x/\ys[i]? = some y,
   λi H v H'=>∃p x y,H p=none/\(∀xs,dD K H a xs->xs[i]? = some x)/\(∀ys,dD K H b ys->ys[i]? = some y)/\v=.ref p/\H'=upd H p (.tup [x,y]),
   λi H=>∃xs,dD K H a xs/\xs.length=i⟩
theorem As {P : Program} {w : World} {K : RV} {elts : List Expr} {x1 : Nat} {pos : Pos} (n a b : Addr) (ha : a < n) (hb : b < n) :
    Turn P w K (.Tuple elts x1 pos) (HE K a b) [n + 4, n + 2, n + 3, n, n + 1] (n + 4) (fun i h => IsZip h (n + 4) (n + 2) (n + 3) .none ∧ IsPair h (n + 2) (.ref n) (.ref (n + 1)) ∧ (∃ u v, IsPair h (n + 3) u v) ∧ h.IsTupleIter n a i ∧ h.IsTupleIter (n + 1) b i) := by
  have hap : t9 (n + 4) (n + 2) (n + 3) n (n + 1) [n, a] [n + 1, b] := by
    have h1 : @LT.lt Nat _ a n := ha
    have h2 : @LT.lt Nat _ b n := hb
    constructor <;> first
      | (intro h; simp only [aK, cB, or_false] at h; rcases h with h | h <;> (have h' : @Eq Nat _ _ := h; lia))
      | (intro h; have h' : @Eq Nat _ _ := h; lia)
  exact {
    mem := by simp
    obj := fun i h st c hb => by
      obtain ⟨h1, h2, ⟨u, v, h3⟩, ⟨o4, e4, c4, d4⟩, ⟨o5, e5, c5, d5⟩⟩ := st
      simp only [aK, cB, or_false] at hb
      rcases hb with rfl | rfl | rfl | rfl | rfl
      · exact ⟨_, h1, fun v z => by cases z⟩
      · exact ⟨_, h2, fun v z => by cases z⟩
      · exact ⟨_, h3, fun v z => by cases z⟩
      · exact ⟨o4, e4, fun v z => by rw [d4] at z; cases z⟩
      · exact ⟨o5, e5, fun v z => by rw [d5] at z; cases z⟩
    keep := fun i h h' st k => by
      obtain ⟨h1, h2, ⟨u, v, h3⟩, h4, h5⟩ := st
      exact ⟨k _ (by simp) _ h1, k _ (by simp) _ h2, ⟨u, v, k _ (by simp) _ h3⟩, h4.at fun o e => k _ (by simp) o e, h5.at fun o e => k _ (by simp) o e⟩
    item := by
      intro X hP hw hK hc i pins s σ H E I hf st hg
      subst hP hw hK
      obtain ⟨h1, h2, ⟨u0, v0, h3⟩, h4, h5⟩ := st
      obtain ⟨xs, ys, x, y, hqa, hqb, hx, hy⟩ := hg
      obtain ⟨ia, ra, pa, _⟩ := I.tuple hqa
      obtain ⟨ib, rb, pb, _⟩ := I.tuple hqb
      obtain ⟨ua, hua, rua⟩ := ra.get hx
      obtain ⟨ub, hub, rub⟩ := rb.get hy
      have hA : X.A.in1.handled = none := I.ok.hd hc
      have la : i < ia.toArray.size := by rw [aS]; exact (aF.mp hua).1
      have lb : i < ib.toArray.size := by rw [aS]; exact (aF.mp hub).1
      refine zC (Draws.tup hA n a (bC ha) ia.toArray) (Draws.tup hA (n + 1) b (bC (fq hb)) ib.toArray) hap h1 h2 h3 ⟨h4, pa⟩ ⟨h5, pb⟩ la lb fun h' x' y' tk e1 e2 hz ho hi1 hi2 hp kp => ?_
      have e1' : x' = ua := by have : ia[i]? = some x' := by simpa using e1
                               rw [hua] at this; cases this; rfl
      have e2' : y' = ub := by have : ib[i]? = some y' := by simpa using e2
                               rw [hub] at this; cases this; rfl
      subst e1' e2'
      refine ⟨_, rfl, wpAny_letOwnedTupleGo_zip hz fun hh hz2 hs2 => ?_⟩
      have hn : H s.heap.objs.size = none := I.hok.fresh (aH _)
      have lz : s.heap.objs.size ≠ n + 4 := fm (aN h1)
      have ht2 : hh.get? s.heap.objs.size = some { cls := .type "tuple", data := .seq #[x', y'] } := (hs2.2 _ lz).trans hp
      refine ⟨.ref s.heap.objs.size, upd H s.heap.objs.size (.tup [x, y]), I.turnNew (fp := [n + 4, n + 2, n + 3, n, n + 1]) hf (fun c o hb q => ?_) (aH _) (show ck X.prog X.w _ hh _ (.tup _) from ⟨(by show 2 ≤ sizeLine; decide), [x', y'], .cons rua (.cons rub .nil), _, ht2, rfl, _, rfl⟩), rfl, ⟨_, x, y, hn, fun zs hz => by rw [I.tuple_inj hz hqa]; exact hx, fun zs hz => by rw [I.tuple_inj hz hqb]; exact hy, rfl, rfl⟩, ?_, fun c hb => ?_⟩
      · simp only [aK, cB, or_false, not_or] at hb
        exact (hs2.2 c hb.1).trans (kp c o hb.1 hb.2.2.1 hb.2.2.2.1 hb.2.2.2.2 q)
      · exact ⟨hz2, (hs2.2 _ hap.tz).trans (kp _ _ hap.tz hap.to hap.ta hap.tb h2), ⟨_, _, (hs2.2 _ hap.oz).trans ho⟩, hi1.1.at fun o e => (hs2.2 _ hap.az).trans e, hi2.1.at fun o e => (hs2.2 _ hap.bz).trans e⟩
      · have hb' := (hf c hb).1
        rw [aO (fun z => ?_)]
        · exact hb'
        · have hz4 : @LT.lt Nat _ (n + 4) s.heap.objs.size := aN h1
          have z' : @Eq Nat c s.heap.objs.size := z
          simp only [aK, cB, or_false] at hb
          rcases hb with h | h | h | h | h <;> (have h' : @Eq Nat _ _ := h; lia)
    done := by
      intro X hP hw hK hc i pins s σ H E I hf st hg
      subst hP hw hK
      obtain ⟨h1, h2, ⟨u0, v0, h3⟩, h4, h5⟩ := st
      obtain ⟨xs, hqa, hx⟩ := hg
      obtain ⟨ia, ra, pa, _⟩ := I.tuple hqa
      have la := ra.length
      have hA : X.A.in1.handled = none := I.ok.hd hc
      have ei : ia.toArray.size = i := by rw [aS]; lia
      refine BW (Draws.tup hA n a (bC ha) ia.toArray) hap h1 h2 ⟨by rw [ei]; exact h4, pa⟩ fun h' kp => ⟨rfl, I.turnAll (t' := s.toks) hf fun c o hb q => ?_⟩
      simp only [aK, cB, or_false, not_or] at hb
      exact kp c o hb.1 hb.2.2.2.1 q
    self := fun _ _ _ _ _ st h => RH st.1 h }
def Hl(K:RV)(ta:TA):TI:=λσ H R=>ta σ H λvs H1=>∃a b,vs=[.ref a,.ref b]/\(∃xs,dD K H1 a xs)/\(∃ys,dD K H1 b ys)/\R (HE K a b) H1
theorem DX {X:Cx} {a b:Expr} {ta:TA} {elts:List Expr} {x1:Nat} {p pos tpos:Pos} (hg:Gl X "zip") (hm:X.mg "zip"=none) (ha:QA X [a,b] ta) (hs:starEach [a,b] X.env=(false,eval a X.env)::starEach [b] X.env:=by rfl) (hpl:(backTo pos (starEach [b] X.env)).any (·.1)=false:=by rfl) :
  QI X (.Tuple elts x1 tpos) (.Call (.Name "zip" p) [a,b] [] pos) (Hl X.K ta):=⟨by
 intro pins s σ H R I h;refine Call_ (j3 I hg hm boot_zip (bx (eS (ha.h pos pins s σ H _ I h) λus s1 ⟨vs,H1,I1,r1,z1,z2,e,⟨xs,hx⟩,⟨ys,hy⟩,q⟩=>?_) hs hpl));subst e;obtain⟨u,u',rfl,r2,r3⟩:=vals2 r1;cases r2;cases r3;obtain⟨ia,ra,pa,_⟩:=I1.tuple hx;obtain⟨ib,rb,pb,_⟩:=I1.tuple hy;have ha':s1.heap.IsTuple z1 ia.toArray:=pa;have hb':s1.heap.IsTuple z2 ib.toArray:=pb;obtain⟨oa,hoa,_⟩:=id ha';obtain⟨ob,hob,_⟩:=id hb';refine KG ha' hb' λh' n en hz hti hto hi1 hi2 kp=>?_;refine RH hz ?_;have I2:bv X pins σ H1 { s1 with heap:=h' }:=I1.kept (t':=s1.toks) kp;refine⟨_,_,_,_,H1,rfl,I2,As n z1 z2 (by rw[en];exact aN hoa) (by rw[en];exact aN hob),⟨hz,hti,⟨_,_,hto⟩,hi1,hi2⟩,λb hb=>?_,q⟩;have hle:s1.heap.objs.size<=b:=by
  simp only[aK,cB,or_false] at hb;have en':@Eq Nat n s1.heap.objs.size:=en;show @LE.le Nat _ _ _;rcases hb with h | h | h | h | h<;>(have h':@Eq Nat _ _:=h;lia)
 exact I1.fpOk hle (I1.hok.fresh hle)⟩
theorem zk{K:RV}{σ:St}{H:Hp}{D:Ends}{ta:TA}{g:TG}{tb:TS}:rH (Hl K ta) g tb D σ H=ta σ H λvs H1=>∃a b,vs=[.ref a,.ref b]/\(∃xs,dD K H1 a xs)/\(∃ys,dD K H1 b ys)/\og (HE K a b) g tb D σ H1:=rfl
theorem E5{K:RV}{σ:St}{H:Hp}{D:Ends}{a b:Addr}{xs ys:List V}{g:TG}{tb:TS}(hle:xs.length<=ys.length)(Pv:Nat->St->Hp->Prop)(h0:Pv 0 σ H)(hl:∀i σ H,Pv i σ H->dD K H a xs/\dD K H b ys)
  (hs:∀i x y σ H p,xs[i]? = some x->ys[i]? = some y->Pv i σ H->H p=none->g (.ref p) σ (upd H p (.tup [x,y])) λσ2 H2=>tb { D with nx:=Pv (i+1),ct:=Pv (i+1),bk:=D.nx } σ2 H2) (hd:∀σ H,Pv xs.length σ H->D.nx σ H):og (HE K a b) g tb D σ H:=by
 refine⟨λi m σ H=>m+i=xs.length/\Pv i σ H,⟨xs.length,rfl,h0⟩,?_⟩;rintro i m σ H ⟨hm,hp⟩;obtain⟨q1,q2⟩:=hl i σ H hp;by_cases hi:i<xs.length
 ·refine .inr ⟨⟨xs,ys,xs[i],ys[i],q1,q2,by simp[hi],by simp[ay hi hle]⟩,Pv (i+1),λσ' H' h=>⟨m - 1,by lia,by lia,h⟩,?_⟩;rintro v H' ⟨p,x,y,hn,hx,hy,rfl,rfl⟩;exact hs i x y σ H p (hx xs q1) (hy ys q2) hp hn
 ·have e:i=xs.length:=by lia
  subst e;exact .inl ⟨⟨xs,q1,rfl⟩,hd σ H hp⟩
def LF(sp:Sp)(K:RV)(c:Value)(t:TA)(ts:Addr->TS):TS:=λD σ H=>t σ H λvs H1=>sp vs H1 (λ_ H2=>D.nx σ H2) λcls dO H2=>
 ∃C,cls=Value.ref C/\PySem.W.exmOne K (.ref C) c=some true/\∀a,H2 a=none->ts a D σ (upd H2 a (uJ dO C a))
theorem By{sp:Sp}{K:RV}{c:Value}{t:TA}{ts:Addr->TS}{D:Ends}{σ:St}{H:Hp}:LF sp K c t ts D σ H=t σ H λvs H1=>sp vs H1 (λ_ H2=>D.nx σ H2) λcls dO H2=>
 ∃C,cls=Value.ref C/\PySem.W.exmOne K (.ref C) c=some true/\∀a,H2 a=none->ts a D σ (upd H2 a (uJ dO C a)):=rfl
end L2
namespace L2
open PySem
theorem FD{td ty tx:TE}{σ:St}{H:Hp}{Q:VK}:yY td ty tx σ H Q=td σ H λx H1=>∃a,x=.ref a/\Mf H1 a/\ty σ H1 λy H2=>tx σ H2 λz H3=>∃o,iV H3 a y o/\Q (o.getD z) H3:=rfl
end L2
namespace Rm
open PySem L2
structure View where
 φ:Hp->Hp
 ok:Hp->Prop
 new:∀ {H t o},ok H->H t=none->ok (upd H t o)/\ar (φ H) (φ (upd H t o))/\φ (upd H t o) t=some o
def View.all:View:=⟨id,λ_=>True,λ_ h=>⟨trivial,(ar.refl _).new h,aE⟩⟩
structure DE (w:View) (σ:St) (H0:Hp) (te:TE) (d:PyData):Prop where
 run:∀ (H:Hp) (Q:VK),w.ok H->ar H0 H->ar (w.φ H0) (w.φ H)->(∀ x H',w.ok H'->ar H H'->ar (w.φ H) (w.φ H')->Dat (w.φ H') x d->Q x H')->te σ H Q
structure DA (w:View) (σ:St) (H0:Hp) (ta:TA) (ds:List PyData):Prop where
 run:∀ (H:Hp) (Q:List V->Hp->Prop),w.ok H->ar H0 H->ar (w.φ H0) (w.φ H)->(∀ xs H',w.ok H'->ar H H'->ar (w.φ H) (w.φ H')->ja (w.φ H') xs ds->Q xs H')->ta σ H Q
end Rm
namespace Rm
open PySem L2 PyProof.Rows
section
variable {σ:L2.St} {H0:Hp}
abbrev D1 (σ:L2.St) (H0:Hp) (te:TE) (d:PyData):Prop:=DE View.all σ H0 te d
abbrev D2 (σ:L2.St) (H0:Hp) (ta:TA) (ds:List PyData):Prop:=DA View.all σ H0 ta ds
end
def BZ(ns:List Int):Int:=ns.foldl max 0
theorem gq{α β:Type}{R T:α->β->Prop}(f:∀a b,R a b->T a b):∀{xs:List α} {ys:List β},Paired R xs ys->Paired T xs ys
 | _,_,.nil=>.nil
 | _,_,.cons r t=>.cons (f _ _ r) (gq f t)
theorem gu{α β:Type}{R:α->β->Prop}:∀{xs:List α} {ys:List β},Paired R xs ys->∀{i:Nat} {x:α},xs[i]? = some x->∃y,ys[i]? = some y/\R x y
 | _,_,.nil,i,x,h=>by simp at h
 | _,_,.cons r t,0,x,h=>by simp at h;subst h;exact⟨_,rfl,r⟩
 | _,_,.cons r t,i+1,x,h=>gu t (by simpa using h)
def KS(H:Hp)(t:Addr)(u:Bool)(p q:Bw):Prop:=∃a c,H t=some (.tup [.str (sd u),.ref a,.ref c])/\bS H a p/\bS H c q
def qO:Sp:=λvs H Q _=>∃m o b ns,vs=[.ref m]/\gj H m o b ns/\fO ns/\(NC b ns->∀H',ar H H'->Q .non H') ∧
 ∀u,∀p∈bU b ns u (ns.length+1),∀q∈bU b ns u (ns.length+1),fJ p q=true->∀t H',ar H H'->KS H' t u p q->Q (.ref t) H'
def M0(b:Bool)(ns:List Int):PyData:=.tuple [.str (sd b),.tuple (ns.map PyData.int)]
theorem gj.dat{H:Hp}{m o:Addr}{b:Bool}{ns:List Int}(h:gj H m o b ns):Dat H (.ref m) (M0 b ns):=.tup h.1 (.cons (.str _) (.cons (.tup h.2 (xU ns)) .nil))
theorem EH{b:Bool}{ns:List Int}(O:fO ns):xP (M0 b ns)=true:=by
 show (rC (.str (sd b))&&qg (.tuple (ns.map PyData.int)))=true;have e1:rC (.str (sd b))=true:=by cases b<;>decide +kernel
 have e2:(ns.map PyData.int).map intOf=ns:=by rw[be];show ns.map id=ns;exact oE _
 have e3:(ns.map PyData.int).all ic=true:=by rw[List.all_map,j8];intro _ _;rfl
 rw[e1,eW];show (decide ((ns.map PyData.int).length<=20)&&((ns.map PyData.int).all ic&&((ns.map PyData.int).map intOf).isPerm (gp 1 (ns.map PyData.int).length)))=true;rw[e2,e3,aA,RQ O.len,nI.mpr O.perm];rfl
theorem EG{b:Bool}{ns:List Int}:Pl (M0 b ns) 60:=by
 refine⟨?_,?_⟩
 ·show (PyData.canLay0 (.str (sd b))&&(PyData.canLayAll0 (ns.map PyData.int)&&true))=true;rw[jn];cases b<;>decide +kernel
 ·show max 0 (max (PyData.depthAll (ns.map PyData.int)+1) 0)+1<=60;rw[pK];decide
theorem NE{d:PyData}{k:Nat}(h:Pl d k):∀e∈[d],Pl e k:=λe he=>by rw[dL] at he;subst he;exact h
theorem ND{d e:PyData}{k:Nat}(h:Pl d k)(g:Pl e k):∀f∈[d,e],Pl f k:=λf hf=>by
 rcases aK.mp hf with rfl | hf
 ·exact h
 ·exact NE g f hf
theorem MA{d e f:PyData}{k:Nat}(h:Pl d k)(g:Pl e k)(i:Pl f k):∀x∈[d,e,f],Pl x k:=λx hx=>by
 rcases aK.mp hx with rfl | hx
 ·exact h
 ·exact ND g i x hx
def Il:PyData->Bool
 | .none | .bool _ | .int _ | .str _=>true
 | _=>false
theorem Bi{xs:List V}{k:Nat}(h:k<=xs.length):xg xs (some (k:Int)) none=xs.drop k:=by
 unfold xg;rw[HT.sIx_nat,HT.sIx_none,show min k xs.length=k by lia];exact c7 (by rw[j7];lia)
section
variable {K:RV} {H:Hp} {Q:VK} {a:Addr} {xs:List V}
theorem MZ{R:Addr->Hp->Prop}{o:HO}(q:∀p H',H p=none->ar H H'->H' p=some o->R p H'):∀p,H p=none->R p (upd H p o):=λp hp=>q p _ hp ((ar.refl H).new hp) aE
theorem DF{k:Nat}(ha:H a=some (.lst xs))(h:k<=xs.length)(q:∀p H',H p=none->ar H H'->H' p=some (.lst (xs.drop k))->Q (.ref p) H'):LP K (.ref a) (some (k:Int)) none H Q:=
 ⟨a,xs,rfl,bw.of ha,by rw[Bi h];exact MZ (R:=λp H'=>Q (.ref p) H') q⟩
end
end Rm
namespace L2
open PySem PySem.Spec PyProof.Rows
def KA(dO:Option Addr)(C t:Addr):Obj:=⟨.ref C,dO,.fields #[.ref t,.none,.none,.none,.bool false,.none],#[]⟩
def uZ(dO:Option Addr)(C e:Addr):HO:=.ext λh=>∃t,h.get? e=some (KA dO C t)
def Ic(C:Addr)(t:TA):TE:=λσ H Q=>t σ H λvs H1=>∃e v,vs=[.ref e,v]/\H1 e=some (uZ none C e)/\Q .non H1
def LN(C:Addr)(f:Str)(ta tv:TE):TS:=λD σ H=>tv σ H λy H1=>ta σ H1 λx H2=>∃e,x=.ref e/\H2 e=some (uZ none C e)/\∀dx,H2 dx=none->dx≠e->D.nx σ (upd (upd H2 dx (.xd [(f,y)])) e (uZ (some dx) C e))
def FJ(C:Addr)(f:Str)(ok:V->Hp->Prop)(E:XK)(t:TA):TS:=λ_ σ H=>t σ H λvs H1=>∃v,vs=[v]/\ok v H1/\∀dx,H1 dx=none->E (.ref C) (some dx) (upd H1 dx (.xd [(f,v)]))
structure Ls (K:RV) (C:Addr) (f:Str):Prop where
 ga:PySem.W.findIn K (.ref C) "__getattribute__"=some (some (.builtin "BaseException.__getattribute__"))
 gt:PySem.W.findIn K (.ref C) "__getattr__"=some none
 no:PySem.W.findIn K (.ref C) f=some none
 hd:PySem.W.hasDictIn K C=true
 own:∃ B bmB,ExcAttrBase B bmB/\∀ h:Heap,K.In h->∃ nm q N bs bm hdct sn sub ab col dd k0 k1 k2 k3 k5 newId,h.get? C=some (excClassObj nm q C N bs bm hdct sn sub ab col dd k0 k1 k2 k3 k5 newId)/\OwnTailQ h bmB bm
def LH(K:RV)(f:Str)(ta:TE):TE:=λσ H Q=>ta σ H λx H1=>∃a C dx v,x=.ref a/\H1 a=some (uJ (some dx) C a)/\H1 dx=some (.xd [(f,v)])/\Ls K C f/\Q v H1
section
variable {σ:St} {H:Hp} {Q:VK} {D:Ends}
theorem Ex{C:Addr}{t:TA}:Ic C t σ H Q=t σ H λvs H1=>∃e v,vs=[.ref e,v]/\H1 e=some (uZ none C e)/\Q .non H1:=rfl
theorem Hw{C:Addr}{f:Str}{ta tv:TE}:LN C f ta tv D σ H=tv σ H λy H1=>ta σ H1 λx H2=>∃e,x=.ref e/\H2 e=some (uZ none C e)/\∀dx,H2 dx=none->dx≠e->D.nx σ (upd (upd H2 dx (.xd [(f,y)])) e (uZ (some dx) C e)):=rfl
theorem CD{C:Addr}{f:Str}{ok:V->Hp->Prop}{E:XK}{t:TA}:FJ C f ok E t D σ H=t σ H λvs H1=>∃v,vs=[v]/\ok v H1/\∀dx,H1 dx=none->E (.ref C) (some dx) (upd H1 dx (.xd [(f,v)])):=rfl
theorem IC{K:RV}{f:Str}{ta:TE}:LH K f ta σ H Q=ta σ H λx H1=>∃a C dx v,x=.ref a/\H1 a=some (uJ (some dx) C a)/\H1 dx=some (.xd [(f,v)])/\Ls K C f/\Q v H1:=rfl
end
theorem oH:∀{cs:List Addr} {us:List Value},cV (cs.map V.ref) us->us=cs.map Value.ref
 | [],_,.nil=>rfl
 | c::cs,_,.cons r t=>by
  rw[oH t];cases r;rfl
def Mq(v:V)(H:Hp):Prop:=∃a d,v=.ref a/\Dat H v d/\d.showable=true/\d.hasDict=false/\d.depth<=10/\d.shown.length<=500
def MR(ta tb:TE):TE:=λσ H Q=>ta σ H λx H1=>∃c,x=.str c/\c.length<=400/\tb σ H1 λy H2=>Mq y H2/\∀z,Q (.str z) H2
theorem Kr{σ:St}{H:Hp}{Q:VK}{ta tb:TE}:MR ta tb σ H Q=ta σ H λx H1=>∃c,x=.str c/\c.length<=400/\tb σ H1 λy H2=>Mq y H2/\∀z,Q (.str z) H2:=rfl
end L2
namespace Rm
open PySem L2 PyProof.Rows
theorem tS{x:Int}{p:Bw}:qB x p=true<->(p.1=x\/p.2=x):=by
 unfold qB;rw[dE,RO,RO];exact⟨λh=>h.imp my my,λh=>h.imp my my⟩
theorem vX{b:Bool}{ns:List Int}(O:fO ns){u:Bool}{p:Bw}(hp:p∈bU b ns u (ns.length+1)):0<=p.1/\p.1<p.2/\p.2<=21:=by
 obtain⟨i,hi,_,rfl⟩:=gV hp;have h1:=O.step_in (i:=i) (by lia);have h2:=O.step_lt (i:=i) (by lia);have:=O.len;exact⟨h1.1,h2,by lia⟩
end Rm
namespace Rm
open PySem L2
theorem io{α β:Type}{F:α->β->Prop}{l:List α}{m:List β}(h:Paired F l m):∀{i:Nat} {a:α},l[i]? = some a->∃b,m[i]? = some b/\F a b:=by
 induction h with
 | nil=>intro i a h;simp at h
 | cons r _ ih=>
  intro i a h;cases i with
  | zero=>cases h;exact⟨_,rfl,r⟩
  | succ i=>exact ih h
end Rm
namespace Rm
def rn(lo hi v:Int):Int:=if v=hi then lo else v
def NB(pre:List Int)(x:Int):Nat:=if 0<x then (if x∈pre then 41 else 40) else 42
def MT:List Int->List Int->List Nat
 | _,[]=>[]
 | pre,x::r=>NB pre x::MT (pre++[x]) r
def vl(c:Nat):Int:=if c=40 then 1 else if c=41 then -1 else 0
def ps(cs:List Nat):Int:=(cs.map vl).sum
section
variable {x y:Int}
theorem off{l:List Int}(h1:x∉l)(h2:y∉l):∀v∈l,v≠x/\v≠y:=λv hv=>⟨λe=>h1 (e▸hv),λe=>h2 (e▸hv)⟩
end
def mx:List Int->Int
 | []=>0
 | x::l=>max x (mx l)
end Rm
namespace L2
open PySem PySem.Spec PyProof.Rows PySem.Builtin PySem.Builtin.Str
theorem Ay{prog:Program}{w:World}{A:Around}{E:Value->Shared->Prop}{s:Shared}{x y:Str}{t u:Tok}{Q:Value->Shared->Prop}(hy:(y.length==0)=false)(hsz:x.length+2<=sizeLine)
  (hq:∀(l:List (Str×Tok)) (k:Nat),l.map (·.1)=Txt.split x y->Q (.ref s.heap.objs.size) { s with heap:=s.heap.push { cls:=.type "list",data:=.seq (strValues l).toArray },toks:=k }) :
  wpAny (model prog w) A (call (.builtin "str.split") [.str x t,.str y u]) Q E s:=by
 have hle:=split_le x y;cases h1:(decide (x.length<y.length) || decide (strKind x<strKind y))
 ·cases hf:(occurrences x y 0 x.length (x.length+1)).isEmpty
  ·have es:Txt.split x y=partsBetween x (occurrences x y 0 x.length (x.length+1)) y.length:=(RM (ne_true_of_eq_false h1)).trans (RM (ne_true_of_eq_false hf));rw[es] at hle;refine Qj mN (Qi _ _ _) lJ (ki _ _) (meets_str_split_sep x y t u h1 hy hf (bF (eQ _ _) hsz) (bF hle hsz)) ?_;show wants Q E _ { s with toks:=_,heap:=s.heap.push { cls:=.type "list",data:=.seq (strsFrom s.toks (partsBetween x (occurrences x y 0 x.length (x.length+1)) y.length)).toArray } };rw[strsFrom_eq];exact hq (numbered s.toks _) _ ((numbered_texts _ _).trans es.symm)
  ·exact Qj mN (Qi _ _ _) lJ (ki _ _) (meets_str_split_not_found x y t u h1 hy hf)
    (hq [(x,t)] s.toks ((RM (ne_true_of_eq_false h1)).trans (RN hf)).symm)
 ·exact Qj mN (Qi _ _ _) lJ (ki _ _) (meets_str_split_cannot_occur x y t u h1)
   (hq [(x,t)] s.toks (RN h1).symm)
theorem pQ:∀(l:List (Str×Tok)),cV ((l.map (·.1)).map V.str) (strValues l)
 | []=>.nil
 | (a,t)::l=>.cons ⟨t,rfl⟩ (pQ l)
section
variable {X:Cx}
def Iq:V->List V->Hp->VK->Prop:=λx vs H Q=>∃z y,x=.str z/\vs=[.str y]/\(y.length==0)=false/\z.length<=100000/\∀l,H l=none->Q (.ref l) (upd H l (.lst ((Txt.split z y).map V.str)))
theorem xM:K4 X "str.split" Iq:=by
 intro pins s σ H x xs v us Q I r rv h;obtain⟨z,y,rfl,rfl,hy,hz,q⟩:=h;obtain⟨t,rfl⟩:=r;obtain⟨u,rfl,t2,rfl⟩:=Qg rv;have hz2:z.length+2<=sizeLine:=by rw[Qf];lia
 refine Ay hy hz2 λl k e=>?_;have hl:((Txt.split z y).map V.str).length<=sizeLine:=by rw[aA];exact bF (split_le z y) hz2
 have hv:cV ((Txt.split z y).map V.str) (strValues l):=e▸pQ l;exact⟨.ref s.heap.objs.size,_,I.laid (λb o e=>aD _ e) (aH _) (show ck X.prog X.w _ _ _ (.lst _) from ⟨hl,strValues l,_,hv,aQ _ rfl⟩),rfl,q _ (I.hok.fresh (aH _))⟩
def Hg(K:RV):List V->Hp->VK->Prop:=λxs H Q=>∃(p:Addr) (ns:List Int),xs=[.ref p]/\bw K H p (ns.map V.int)/\0<ns.length/\∀M,M∈ns->(∀a∈ns,a<=M)->Q (.int M) H
theorem tZ (hc:X.calm=true):iP X (.builtin "max") (Hg X.K):=by
 intro pins s σ H xs us Q I r h;obtain⟨p,ns,rfl,hq,hn,q⟩:=h;obtain⟨u,rfl,rx⟩:=Qg r;cases rx;obtain⟨its,rv,pl,hz⟩:=I.list hq;have hi:=ly rv;have hl:=pl.isList;obtain⟨xs,e⟩:=hi.allInts.items;have hns:ns=xs.toList.map (·.1):=by rw[<-hi.numsOf,<-nums_intItems,<-e]
 have hsz:0<xs.size:=by
  have h3:=hn;rw[hns,aA,cY] at h3;exact h3
 rw[e] at hl;refine max_intList (I.ok.hd hc) hl hsz λv h' tk hv hk=>?_;obtain⟨t,rfl⟩:=intItems_at hv;obtain⟨h1,h2⟩:=argBest_gt (numAt xs) (xs.size - 1);refine⟨.int _,H,I.kept hk,⟨t,rfl⟩,q _ ?_ λa ha=>?_⟩
 ·rw[hns,numAt_eq];exact getD_mem (by rw[aA,cY];lia)
 ·rw[hns] at ha;obtain⟨j,hj,rfl⟩:=mem_getD ha;rw[aA,cY] at hj;rw[<-numAt_eq];exact h2 j (by lia)
end
end L2
namespace Rm
open PySem L2
def tx(cs:List Nat):Str:=⟨cs.toArray⟩
def l3(c:Nat):V:=V.str ⟨#[c]⟩
theorem sH(cs:List Nat):(tx cs).length=cs.length:=by simp[tx,Str.length]
theorem C6(cs:List Nat):(tx cs).cps.toList=cs:=by simp[tx]
theorem C7(a b:List Nat):tx a++tx b=tx (a++b):=by
 show Str.mk _=Str.mk _;simp[tx]
theorem C5{a b:List Nat}(h:tx a=tx b):a=b:=by
 have:=congrArg (λz:Str=>z.cps.toList) h;simpa [tx] using this
theorem KC{a b:Nat}:((⟨#[a]⟩:Str)=tx [b])=(a=b):=propext ⟨λh=>by have:=C5 (show tx [a]=tx [b] from h);simpa using this,λh=>by rw[h];rfl⟩
theorem AB:∀(cs:List Nat) (acc:Array Nat),(cs.map λc=>(⟨#[c]⟩:Str)).foldl (λacc p=>acc++(Str.ofString "").cps++p.cps) acc=acc++cs.toArray
 | [],acc=>by simp
 | c::cs,acc=>by
  rw[av,fc,AB cs];have:(Str.ofString "").cps=#[]:=by decide +kernel
  rw[this];simp
theorem AA (cs:List Nat):Txt.join (Str.ofString "") (cs.map λc=>(⟨#[c]⟩:Str))=tx cs:=by
 cases cs with
 | nil=>rfl
 | cons c cs=>
  show Str.mk (((((c::cs).map λc=>(⟨#[c]⟩:Str)).drop 1).foldl (λacc p=>acc++(Str.ofString "").cps++p.cps) (((c::cs).map λc=>(⟨#[c]⟩:Str)).headD Str.empty).cps))=_;rw[av,List.drop_one,List.tail_cons,List.headD_cons,AB];simp[tx]
theorem uR {cs:List Nat} (hl:cs.length<=900):JoinOk (Str.ofString "") (cs.map λc=>(⟨#[c]⟩:Str))=true:=by
 unfold JoinOk;have e:Builtin.Str.tooLong ((cs.map λc=>(⟨#[c]⟩:Str)).toArray.foldl (λa t=>a+t.length+(Str.ofString "").length) 0)=false:=by
  have h0:∀(cs:List Nat) (a:Nat),(cs.map λc=>(⟨#[c]⟩:Str)).foldl (λa t=>a+t.length+(Str.ofString "").length) a=a+cs.length:=by
   intro cs
   induction cs with
   | nil=>intro a;rfl
   | cons b cs ih=>
    intro a;rw[av,fc,ih];have h1:(⟨#[b]⟩:Str).length=1:=rfl;have h2:(Str.ofString "").length=0:=by decide +kernel
    rw[h1,h2,cQ];lia
  rw[List.foldl_toArray',h0];unfold Builtin.Str.tooLong;exact RP (by have:=bQ (n:=0+cs.length) (by lia);lia);simp
 rw[e];rfl
end Rm
namespace Rm
open PySem L2 PyProof.Rows
def Pr(bs:List Bool)(x y:Nat):Prop:=Ln bs x y\/Ln bs y x
open Classical in
noncomputable def mtF (bs:List Bool) (x:Nat):Nat:=if h:∃y,Pr bs x y then h.choose else x
def gv(g:List Int)(x:Nat):Int:=g.getD x 0
def K2(L R:Nat->Nat)(e:Nat):Nat->Nat
 | 0=>e
 | i+1=>R (L (K2 L R e i))
def Mo(L R:Nat->Nat)(e:Nat):Nat->List Nat
 | 0=>[]
 | i+1=>Mo L R e i++[K2 L R e i]++[L (K2 L R e i)]
def Inj(L R:Nat->Nat)(e i:Nat):Prop:=∀j k,j<i->k<i->K2 L R e j=K2 L R e k->j=k
structure NI (L R:Nat->Nat) (e i:Nat):Prop where
 pos:0<i
 inj:Inj L R e i
 back:K2 L R e i=e
open Classical in
noncomputable def perF (L R:Nat->Nat) (e:Nat):Nat:=if h:∃i,NI L R e i then h.choose else 0
noncomputable def rdF (L R:Nat->Nat) (e:Nat):List Nat:=Mo L R e (perF L R e)
open Classical in
noncomputable def rsF (L R:Nat->Nat):Nat->List (List Nat)
 | 0=>[]
 | i+1=>if ∃r∈rsF L R i,i∈r then rsF L R i else rsF L R i++[rdF L R i]
def rk(G:Nat->Bool):Nat->Nat
 | 0=>0
 | k+1=>if G k then rk G k else rk G k+1
def dK(G:Nat->Bool)(bs:List Bool):Nat->Int
 | 0=>0
 | k+1=>if G k then dK G bs k else dK G bs k+((bs[k]?).toList.map dl).sum
end Rm
namespace L2
open PySem PySem.Spec PyProof.Rows
theorem MX{X:Cx}{K:RV}{e:Expr}{T:String}{r:V->List V->Hp->VK->Prop}{to:TE}{t:TA}(hK:X.K=K)(h:QE X e (LK X.K T r to t)):QE X e (LK K T r to t):=hK▸h
theorem i7 {X:Cx} {x:Str} {z:Str} {pos:Pos} (hg:Gl X x) (hm:∃t,X.mg x=some (.str z t)) (hd:(x==("__debug__":Str))=false:=by decide):QE X (.Name x pos) (tC (.str z)):=
 let ⟨t,h⟩:=hm
 ⟨ve hg h ⟨t,rfl⟩ hd⟩
def AS:V->List V->Hp->VK->Prop:=λx vs H Q=>∃(l:Addr) (ks:List Str) (z:Str) (j:Nat),x=.ref l/\vs=[.str z]/\H l=some (.lst (ks.map V.str))/\ks.length<=1000/\ks[j]? = some z/\(∀m,m<j->ks[m]?≠some z)/\Q (.int j) H
theorem B0 {X:Cx}:K4 X "list.index" AS:=by
 intro pins s σ H x vs v us Q I rx rv h;obtain⟨l,ks,z,j,rfl,rfl,hH,hsz,hj,hno,q⟩:=h;cases rx;obtain⟨u,rfl,ru⟩:=rv.one;obtain⟨t,rfl⟩:=ru;obtain⟨c,its,n,r,hl,e⟩:=I.lstM hH;have at_:∀(m:Nat) (k:Str),ks[m]? = some k->∃t,its[m]? = some (Value.str k t):=λm k hk=>by
  obtain⟨w,hw,t,ht⟩:=r.get (show (ks.map V.str)[m]? = some (V.str k) by rw[aP,hk];rfl);exact⟨t,by rw[hw,ht]⟩
 have ln:its.length=ks.length:=by have:=r.length;rw[aA] at this;exact this.symm
 have jl:j<ks.length:=(aF.mp hj).1
 let f:Value->Bool:=λy=>match y with | .str v _=>v.cps.toList==z.cps.toList | _=>false
 refine Qj F.slot_list_index ⟨_,e,rfl⟩ F.entry_list_index (F.args_list_index_2 _ _)
  (MeetsSeq.list_index l its.toArray n (.str z t) f (λy hy=>?_) j (by rw[aS];lia) (by lia) ?_ ?_) ⟨e,⟨.int j,H,I.tok _,⟨_,rfl⟩,q⟩⟩
 ·obtain⟨m,hm,rfl⟩:=kI (List.mem_toArray.mp hy);obtain⟨t',ht⟩:=at_ m ks[m] (aJ (by lia));rw[aJ hm] at ht;rw[bH ht];exact SeqRoads2.EqGives.str _ _ _ _
 ·obtain⟨t',ht⟩:=at_ j z hj;have h2:its.toArray[j]'(by rw[aS];lia)=Value.str z t':=by
   rw[List.getElem_toArray];rw[aJ (by lia)] at ht;exact bH ht
  rw[h2];exact beq_self_eq_true z.cps.toList
 ·intro m hm hmj;obtain⟨t',ht⟩:=at_ m ks[m] (aJ (by lia));have h2:its.toArray[m]=Value.str (ks[m]'(by lia)) t':=by
   rw[List.getElem_toArray];rw[aJ (by lia)] at ht;exact bH ht
  rw[h2];have:=hno m hmj;rw[aJ (by lia)] at this;refine beq_false_of_ne λe=>this ?_;have:(ks[m]'(by lia)).cps=z.cps:=by simpa using congrArg List.toArray e
  congr 1;generalize ks[m]'(by lia)=y at this;obtain⟨y⟩:=y;obtain⟨z⟩:=z;simp only at this;rw[this]
theorem IB{K:RV}{σ:St}{H:Hp}{D:Ends}{ta:TA}{g:TG}{tb:TS}:rH (Gd K ta) g tb D σ H=ta σ H λvs H1=>∃a b,vs=[.ref a,.ref b]/\(∃xs,bw K H1 a xs)/\(∃ys,bw K H1 b ys)/\og (K5 K a b) g tb D σ H1:=rfl
theorem E7{K:RV}{σ:St}{H:Hp}{D:Ends}{a b:Addr}{xs ys:List V}{g:TG}{tb:TS}(hle:xs.length<=ys.length)(Pv:Nat->St->Hp->Prop)(h0:Pv 0 σ H)(hl:∀i σ H,Pv i σ H->bw K H a xs/\bw K H b ys)
  (hs:∀i x y σ H p,xs[i]? = some x->ys[i]? = some y->Pv i σ H->H p=none->g (.ref p) σ (upd H p (.tup [x,y])) λσ2 H2=>tb { D with nx:=Pv (i+1),ct:=Pv (i+1),bk:=D.nx } σ2 H2) (hd:∀σ H,Pv xs.length σ H->D.nx σ H):og (K5 K a b) g tb D σ H:=by
 refine⟨λi m σ H=>m+i=xs.length/\Pv i σ H,⟨xs.length,rfl,h0⟩,?_⟩;rintro i m σ H ⟨hm,hp⟩;obtain⟨q1,q2⟩:=hl i σ H hp;by_cases hi:i<xs.length
 ·refine .inr ⟨⟨xs,ys,xs[i],ys[i],q1,q2,by simp[hi],by simp[ay hi hle]⟩,Pv (i+1),λσ' H' h=>⟨m - 1,by lia,by lia,h⟩,?_⟩;rintro v H' ⟨p,x,y,hn,hx,hy,rfl,rfl⟩;exact hs i x y σ H p (hx xs q1) (hy ys q2) hp hn
 ·have e:i=xs.length:=by lia
  subst e;exact .inl ⟨⟨xs,ys,q1,q2,.inl (aH _)⟩,hd σ H hp⟩
theorem CI{l:Addr}{z:Str}{H:Hp}{Q:VK}:AS (.ref l) [.str z] H Q=∃(ks:List Str) (j:Nat),H l=some (.lst (ks.map V.str))/\ks.length<=1000/\ks[j]? = some z/\(∀m,m<j->ks[m]?≠some z)/\Q (.int j) H:=
 propext ⟨λ⟨_,ks,_,j,e,e',h⟩=>by cases e;cases e';exact⟨ks,j,h⟩,λ⟨ks,j,h⟩=>⟨l,ks,z,j,rfl,rfl,h⟩⟩
end L2
namespace Rm
open PySem L2 PyProof.Rows
def hN(S:List Bw):Nat->Bw->Nat
 | 0,_=>1
 | k+1,p=>1+((S.filter λq=>jv q p).map (hN S k)).foldl max 0
def hF(S:List Bw)(p:Bw):Nat:=hN S (fN p).toNat p
theorem qC{l:List Nat}{m:Nat}:∀a,(∀x∈l,x<=m)->a<=m->l.foldl max a<=m:=by
 induction l with
 | nil=>intro a _ h;exact h
 | cons x l ih=>intro a h ha;exact ih _ (λy hy=>h y (aM _ hy)) (by have:=h x (by simp);lia)
theorem qD{l:List Nat}:∀a,a<=l.foldl max a/\∀x∈l,x<=l.foldl max a:=by
 induction l with
 | nil=>intro a;exact⟨aH _,λx h=>nomatch h⟩
 | cons y l ih=>
  intro a;obtain⟨h1,h2⟩:=ih (max a y);refine⟨by show a<=l.foldl max (max a y);lia,λx hx=>?_⟩;rcases aK.mp hx with rfl | hx
  ·show x<=l.foldl max (max a x);lia
  ·exact h2 x hx
theorem Aj{l:List Nat}:∀a,l.foldl max a=a\/l.foldl max a∈l:=by
 induction l with
 | nil=>intro a;exact .inl rfl
 | cons y l ih=>
  intro a;rcases ih (max a y) with h | h
  ·show l.foldl max (max a y)=a\/l.foldl max (max a y)∈y::l;rw[h];rcases Nat.le_total a y with z | z
   ·rw[Nat.max_eq_right z];exact .inr (by simp)
   ·rw[Nat.max_eq_left z];exact .inl rfl
  ·exact .inr (aM _ h)
theorem Ba{S:List Bw}(hS:∀q∈S,q.1<q.2):∀(k:Nat) (p:Bw),(fN p).toNat<=k->hN S k p=hF S p:=by
 intro k
 induction k using Nat.strongRecOn with
 | ind k ih=>
  intro p hp;unfold hF;by_cases e:(fN p).toNat=k
  ·rw[e]
  ·match k,ih,hp,e with
   | 0,_,hp,e=>lia
   | k+1,ih,hp,e=>
    cases hs:(fN p).toNat with
    | zero=>
     have:(S.filter λq=>jv q p).map (hN S k)=(S.filter λq=>jv q p).map λ_=>1:=by
      refine cM λq hq=>?_;have hi:=(a6.mp hq).2;have:=jo hi;rw[ih k (by lia) q (by lia)];unfold hF;rw[show (fN q).toNat=0 by lia];rfl
     show 1+((S.filter λq=>jv q p).map (hN S k)).foldl max 0=1;rw[this];cases hf:S.filter λq=>jv q p with
     | nil=>rfl
     | cons q r=>
      exfalso;have hm:=a6.mp (by rw[hf];simp:q∈S.filter λq=>jv q p);have h1:=jo hm.2;have h2:=hS q hm.1;unfold fN at h1 hs;lia
    | succ j=>
     show 1+((S.filter λq=>jv q p).map (hN S k)).foldl max 0=1+((S.filter λq=>jv q p).map (hN S j)).foldl max 0;congr 2;refine cM λq hq=>?_;have:=jo (a6.mp hq).2;rw[ih k (by lia) q (by lia),ih j (by lia) q (by lia)]
theorem rE{S:List Bw}(hS:∀q∈S,q.1<q.2){p:Bw}(hp:p.1<p.2):hF S p=1+((S.filter λq=>jv q p).map (hF S)).foldl max 0:=by
 unfold hF;obtain⟨k,hk⟩:∃k,(fN p).toNat=k+1:=⟨(fN p).toNat - 1,by unfold fN;lia⟩
 rw[hk];show 1+((S.filter λq=>jv q p).map (hN S k)).foldl max 0=_;congr 2;refine cM λq hq=>?_;have:=jo (a6.mp hq).2;exact Ba hS k q (by lia)
theorem zP{S:List Bw}(hS:∀q∈S,q.1<q.2){p:Bw}(hp:p∈S):1<=hF S p:=by rw[rE hS (hS p hp)];lia
theorem Gg{S:List Bw}(hS:∀q∈S,q.1<q.2){h:Bw->Int}(hh:∀p∈S,∃m:Int,h p=1+m/\0<=m/\(∀q∈S,jv q p=true->h q<=m)/\(m=0\/∃q∈S,jv q p=true/\h q=m)):∀(k:Nat) (p:Bw),p∈S->(fN p).toNat=k->h p=(hF S p:Nat):=by
 intro k
 induction k using Nat.strongRecOn with
 | ind k ih=>
  intro p hp hk;obtain⟨m,e,m0,m1,m2⟩:=hh p hp;have ihq:∀q∈S,jv q p=true->h q=(hF S q:Nat):=λq hq hi=>by
   have:=jo hi;have:=hS q hq;exact ih (fN q).toNat (by unfold fN at *;lia) q hq rfl
  rw[e,rE hS (hS p hp)];have g:=qD (l:=(S.filter λq=>jv q p).map (hF S)) 0;generalize hM:((S.filter λq=>jv q p).map (hF S)).foldl max 0=M at g;have le:M<=m.toNat:=by
   rw[<-hM];refine qC 0 (λx hx=>?_) (ac _);obtain⟨q,hq,rfl⟩:=aT.mp hx;obtain⟨q1,q2⟩:=a6.mp hq;have:=m1 q q1 q2;rw[ihq q q1 q2] at this;lia
  have ge:m.toNat<=M:=by
   rcases m2 with z | ⟨q,q1,q2,z⟩
   ·lia
   ·have:=g.2 (hF S q) (aT.mpr ⟨q,a6.mpr ⟨q1,q2⟩,rfl⟩);rw[ihq q q1 q2] at z;lia
  lia
theorem Jv{S:List Bw}{hs:List Int}(hS:∀q∈S,q.1<q.2)(nd:S.Nodup)(h:MI S hs):hs=S.map λp=>((hF S p:Nat):Int):=by
 let f:Bw->Int:=λp=>uI (S.zip hs) p
 have nz:((S.zip hs).map (·.1)).Nodup:=by
  rw[List.map_fst_zip (by rw[h.len];exact aH _)];exact nd
 have at_:∀(i:Nat) p x,S[i]? = some p->hs[i]? = some x->f p=x:=λi p x h1 h2=>
  mB (e:=(p,x)) nz (aR (by rw[iJ];exact⟨h1,h2⟩))
 have key:=Gg hS (h:=f) λp hp=>by
  obtain⟨i,hi⟩:=dM hp;have il:=(aF.mp hi).1;have hx:hs[i]? = some (hs[i]'(by rw[h.len];exact il)):=aJ _;have T:=h.top i p _ hi hx;have ep:=at_ i p _ hi hx;refine⟨_,by rw[ep];lia,T.nn,λq hq hi2=>?_,?_⟩
  ·obtain⟨j,hj⟩:=dM hq;have jl:=(aF.mp hj).1;have hy:hs[j]? = some (hs[j]'(by rw[h.len];exact jl)):=aJ _;rw[at_ j q _ hj hy];exact T.le (q,_) (aR (i:=j) (by rw[iJ];exact⟨hj,hy⟩)) hi2
  ·rcases T.is with z | ⟨e,he,z1,z2⟩
   ·exact .inl z
   ·obtain⟨j,hj⟩:=dM he;rw[iJ] at hj;exact .inr ⟨e.1,aR hj.1,z1,by rw[at_ j e.1 e.2 hj.1 hj.2];exact z2⟩
 apply mK
 ·rw[aA,h.len]
 ·intro i h1 h2;rw[List.getElem_map];have il:i<S.length:=by rw[<-h.len];exact h1
  rw[<-key _ S[i] (List.getElem_mem _) rfl];exact(at_ i _ _ (aJ il) (aJ h1)).symm
def iq(S:List Bw):Nat:=(S.map (hF S)).foldl max 0
theorem ip{S:List Bw}{p:Bw}(hp:p∈S):hF S p<=iq S:=(qD 0).2 _ (aT.mpr ⟨p,hp,rfl⟩)
theorem EM (S : List Bw) : nK (S.map fun p => ((hF S p : Nat) : Int)) 0 = (iq S : Nat) := by
  have gen : ∀ (l : List Nat) (o : Option Int) (a : Nat), o.getD 0 = (a : Int) → (∀ y, o = some y → 0 ≤ y) → ((l.map fun n => ((n : Nat) : Int)).foldl K0 o).getD 0 = ((l.foldl max a : Nat) : Int) := by
    intro l
    induction l with
    | nil => intro o a h _; exact h
    | cons x l ih =>
      intro o a h h2
      refine ih _ _ ?_ ?_
      · cases o with
        | none => have : a = 0 := by simpa using h.symm
                  subst this; simp [K0]
        | some y =>
          have : y = a := by simpa using h
          subst this
          show (if (a : Int) < x then (x : Int) else a) = ((max a x : Nat) : Int)
          split <;> lia
      · intro y hy
        cases o with
        | none =>
          have hy' : (x : Int) = y := bH hy
          lia
        | some z =>
          have := h2 z rfl
          have hy' : (if z < (x : Int) then (x : Int) else z) = y := bH hy
          split at hy' <;> lia
  have e : (S.map fun p => ((hF S p : Nat) : Int)) = (S.map (hF S)).map fun n => ((n : Nat) : Int) := by rw [be]; rfl
  rw [e]
  exact gen _ none 0 rfl fun y hy => nomatch hy
abbrev Hr:=Nat->Nat->Nat
def rK(w:Nat)(r:Nat->Nat):List V:=(List.range w).map λx=>l3 (r x)
theorem vZ(w:Nat)(r:Nat->Nat):(rK w r).length=w:=by simp[rK]
theorem FT{w x c:Nat}{r:Nat->Nat}:(rK w r).set x (l3 c)=rK w λy=>if y=x then c else r y:=by
 apply mK
 ·simp[rK]
 ·intro i h1 h2;rw[List.getElem_set];simp only[rK,List.getElem_map,List.getElem_range];by_cases e:x=i
  ·subst e;simp
  ·have:¬i=x:=λz=>e z.symm;simp[e,this]
theorem qZ{w:Nat}{r s:Nat->Nat}(h:∀x,x<w->r x=s x):rK w r=rK w s:=by
 unfold rK;exact cM λx hx=>by rw[h x (c8.mp hx)]
structure gS (H:Hp) (g:Addr) (as:List Addr) (w:Nat) (G:Hr):Prop where
 top:H g=some (.lst (as.map V.ref))
 nd:as.Nodup
 gn:g∉as
 row:∀ (i:Nat) a,as[i]? = some a->H a=some (.lst (rK w (G i)))
def Keeps(as:List Addr)(H H':Hp):Prop:=∀b o,b∉as->H b=some o->H' b=some o
theorem Keeps.refl(as:List Addr)(H:Hp):Keeps as H H:=λ_ _ _ h=>h
theorem Keeps.trans{as:List Addr}{H H1 H2:Hp}(a:Keeps as H H1)(b:Keeps as H1 H2):Keeps as H H2:=λx o hx h=>b x o hx (a x o hx h)
theorem ar.keeps{as:List Addr}{H H':Hp}(s:ar H H'):Keeps as H H':=λ_ _ _ h=>s _ _ h
theorem Keeps.upd{as:List Addr}{H:Hp}{a:Addr}{o:HO}(h:a∈as):Keeps as H (upd H a o):=λb u nb hb=>by
 have:b≠a:=λe=>nb (e▸h);rw[aO this];exact hb
theorem gS.off{H:Hp}{g:Addr}{as:List Addr}{w:Nat}{G:Hr}(h:gS H g as w G){b:Addr}{o:HO}(hb:H b=some o)(ho:∀xs,o≠.lst xs):b∉as:=λhm=>by
 obtain⟨i,hi⟩:=dM hm;rw[h.row i b hi] at hb;exact ho _ (bH hb).symm
theorem gS.congr{H:Hp}{g:Addr}{as:List Addr}{w:Nat}{G G':Hr}(h:gS H g as w G)(e:∀i x,i<as.length->x<w->G i x=G' i x):gS H g as w G':=
 ⟨h.top,h.nd,h.gn,λi a hi=>by rw[h.row i a hi,qZ λx hx=>e i x (aF.mp hi).1 hx]⟩
theorem gS.set{H:Hp}{g:Addr}{as:List Addr}{w:Nat}{G:Hr}(h:gS H g as w G){i x c:Nat}{a:Addr}(hi:as[i]? = some a):gS (upd H a (.lst ((rK w (G i)).set x (l3 c)))) g as w (λi' x'=>if i'=i/\x'=x then c else G i' x'):=by
 have ma:a∈as:=aR hi;refine⟨?_,h.nd,h.gn,λj b hj=>?_⟩
 ·rw[aO λe:g=a=>h.gn (e▸ma)];exact h.top
 ·by_cases e:b=a
  ·subst e;have ij:i=j:=by
    have h1:=aF.mp hi;have h2:=aF.mp hj;exact(gK h.nd (h₀:=h1.1) (h₁:=h2.1)).mp (h1.2.trans h2.2.symm)
   subst ij;rw[aE,FT,qZ λy _=>?_];simp
  ·rw[aO e,h.row j b hj];have ij:¬j=i:=λz=>by
    subst z;rw[hi] at hj;exact e (bH hj).symm
   rw[qZ λy _=>?_];simp[ij]
def yp(G:Hr)(P:Nat->Nat->Bool):Hr:=λi x=>if P i x then 46 else G i x
theorem vg{G:Hr}{P P':Nat->Nat->Bool}{i x:Nat}(h:P i x=P' i x):yp G P i x=yp G P' i x:=by unfold yp;rw[h]
theorem AW{G:Hr}{P P':Nat->Nat->Bool}{i x i0 x0:Nat}(h:P' i x=(P i x || decide (i=i0/\x=x0))):(if i=i0/\x=x0 then 46 else yp G P i x)=yp G P' i x:=by
 unfold yp;rw[h];by_cases z:i=i0/\x=x0
 ·rw[RN z,RQ z,Bool.or_true,RN rfl]
 ·rw[RM z,RP z,dQ]
def tR(p:Bw)(i:Nat):Bool:=decide (2*p.1+1<=(i:Int))&&decide ((i:Int)<=2*p.2+1)
def lW(S:List Bw)(c:Bw->Nat)(i x:Nat):Bool:=S.any λp=>tR p i&&decide (x=c p)
def xu(n:Nat)(kL kR:Nat->Nat)(i x:Nat):Bool:=decide (i % 2=1/\3<=i/\i<=2*n+1)&&(decide (kL ((i - 1) / 2)<=x)&&decide (x<=kR ((i - 1) / 2)))
def mP(kvs:List (Key×V))(S:List Bw)(c:Bw->Nat):Prop:=∀p∈S,eI kvs (.inl p.1:Key)=some (.int (c p:Nat))/\eI kvs (.inl p.2:Key)=some (.int (c p:Nat))
structure xt (S:List Bw):Prop where
 nd:S.Nodup
 lt:∀ p∈S,p.1<p.2
 len:S.length<=40
 one:∀ p∈S,∀ q∈S,∀ x,(p.1=x\/p.2=x)->(q.1=x\/q.2=x)->p=q
def pU:Sp:=λvs H Q _=>∃r:Int,vs=[.int r]/\Q (.int (2*r+1)) H
def AI:Sp:=λvs H Q _=>∃l S,vs=[.ref l]/\bu H l S/\xt S/\∀H',ar H H'->Q (.int (iq S:Nat)) H'
def vQ:Sp:=λvs H Q _=>∃l k S,∃c:Bw->Nat,vs=[.ref l,.ref k]/\bu H l S/\xt S/\H k=some (.lst (S.map λp=>V.int (c p:Nat)))/\∀d kvs H',H d=none->ar H H'->H' d=some (.dK kvs)->mP kvs S c->Q (.ref d) H'
def AG:Sp:=λvs H Q _=>∃l S,∃m:Nat,vs=[.ref l,.int (m:Nat)]/\bu H l S/\xt S/\iq S<=m/\∀d kvs H',H d=none->ar H H'->H' d=some (.dK kvs)->mP kvs S (λp=>2*(m-hF S p)+1)->Q (.ref d) H'
def wQ:Sp:=λvs H Q _=>∃l S,∃m:Nat,vs=[.ref l,.int (m:Nat)]/\bu H l S/\xt S/\∀d kvs H',H d=none->ar H H'->H' d=some (.dK kvs)->mP kvs S (λp=>2*m+2*hF S p - 1)->Q (.ref d) H'
def wY:Sp:=λvs H Q _=>∃g l d as w G S c kvs,vs=[.ref g,.ref l,.ref d]/\gS H g as w G/\l∉as/\bu H l S/\H d=some (.dK kvs)/\mP kvs S c/\(∀p∈S,0<=p.1/\p.1<p.2/\2*p.2+1<as.length/\c p<w)/\as.length<=100/\w<=1000/\∀H',Keeps as H H'->gS H' g as w (yp G (lW S c))->Q .non H'
def wX:Sp:=λvs H Q _=>∃g dl dr as w G kl kr,∃n:Nat,∃kL kR:Nat->Nat,vs=[.ref g,.int (n:Nat),.ref dl,.ref dr]/\gS H g as w G/\H dl=some (.dK kl)/\H dr=some (.dK kr)/\(∀r:Nat,1<=r->r<=n->eI kl (.inl (r:Int):Key)=some (.int (kL r:Nat))/\eI kr (.inl (r:Int):Key)=some (.int (kR r:Nat))/\kL r<w/\kR r<w)/\2*n+1<as.length/\as.length<=100/\w<=1000/\∀H',Keeps as H H'->gS H' g as w (yp G (xu n kL kR))->Q .non H'
def DB:Sp:=λvs H Q _=>∃a w,∃r:Nat->Nat,∃x0 c:Nat,vs=[.ref a,.str ⟨#[c]⟩]/\H a=some (.lst (rK w r))/\x0<w/\r x0=46/\(∀x,x<x0->r x≠46)/\w<=1000/\Q .non (upd H a (.lst ((rK w r).set x0 (l3 c))))
theorem zN{S:List Bw}{hs:List Int}(B:xt S)(h:MI S hs):hs=S.map λp=>((hF S p:Nat):Int):=Jv B.lt B.nd h
def o7(L:List Bw)(p:Bw):Nat:=2*(iq L-hF L p)+1
def nw(L R:List Bw)(p:Bw):Nat:=2*iq L+2*hF R p - 1
def Gu(S:List Bw)(r:Nat):Bw:=(S.find? λp=>decide (p.1=(r:Int)) || decide (p.2=(r:Int))).getD (0,0)
def j4(L:List Bw)(r:Nat):Nat:=o7 L (Gu L r)
def ni(L R:List Bw)(r:Nat):Nat:=nw L R (Gu R r)
def dC(L R:List Bw):Nat:=2*(iq L+iq R)+1
def dq(n:Nat)(L R:List Bw)(i x:Nat):Bool:=lW L (o7 L) i x || (lW R (nw L R) i x || xu n (j4 L) (ni L R) i x)
def signG(n:Nat)(L R:List Bw)(i x:Nat):Nat:=if dq n L R i x then (if i=1 then 118 else if i=2*n+3 then 64 else 46) else 35
def iN(n:Nat)(L R:List Bw)(i:Nat):List Nat:=(List.range (dC L R)).map (signG n L R i)
def fj:List (List Nat)->List Nat
 | []=>[]
 | [r]=>r
 | r::s::rs=>r++10::fj (s::rs)
def lZ(n:Nat)(L R:List Bw):List Nat:=fj ((List.range (2*n+5)).map (iN n L R))
theorem rD:∀(rs:List (List Nat)) (acc:Array Nat),(rs.map tx).foldl (λacc p=>acc++(Str.ofString "\n").cps++p.cps) acc=acc++(rs.flatMap λr=>10::r).toArray
 | [],acc=>by simp
 | r::rs,acc=>by
  have e:(Str.ofString "\n").cps=#[10]:=by decide +kernel
  rw[av,fc,rD rs,e];simp[tx]
theorem tL:∀(r:List Nat) (rs:List (List Nat)),fj (r::rs)=r++rs.flatMap λr=>10::r
 | r,[]=>by simp[fj]
 | r,s::rs=>by
  show r++10::fj (s::rs)=_;rw[tL s rs];simp
theorem A5 (rs:List (List Nat)):Txt.join (Str.ofString "\n") (rs.map tx)=tx (fj rs):=by
 cases rs with
 | nil=>rfl
 | cons r rs=>
  show Str.mk ((((r::rs).map tx).drop 1).foldl (λacc p=>acc++(Str.ofString "\n").cps++p.cps) (((r::rs).map tx).headD Str.empty).cps)=_;rw[av,List.drop_one,List.tail_cons,List.headD_cons,rD,tL];simp[tx]
theorem uu {rs:List (List Nat)} (h1:rs.length<=1000) (h2:∀r∈rs,r.length<=1000):JoinOk (Str.ofString "\n") (rs.map tx)=true:=by
 unfold JoinOk;have e:Builtin.Str.tooLong ((rs.map tx).toArray.foldl (λa t=>a+t.length+(Str.ofString "\n").length) 0)=false:=by
  have h0:∀(rs:List (List Nat)) (a:Nat),(∀r∈rs,r.length<=1000)->(rs.map tx).foldl (λa t=>a+t.length+(Str.ofString "\n").length) a<=a+rs.length*1001:=by
   intro rs
   induction rs with
   | nil=>intro a _;exact eQ _ _
   | cons b bs ih=>
    intro a hb;rw[av,fc];have h3:(Str.ofString "\n").length=1:=by decide +kernel
    have h4:=hb b (by simp);have:=ih (a+(tx b).length+(Str.ofString "\n").length) λr hr=>hb r (by simp[hr]);rw[sH,h3] at this;rw[sH,h3,cQ];refine bF this ?_;have:(bs.length+1)*1001=bs.length*1001+1001:=Nat.succ_mul _ _;lia
  rw[List.foldl_toArray' (h:=by simp)];have:=h0 rs 0 h2;unfold Builtin.Str.tooLong;refine RP ?_;rw[Qf];have:rs.length*1001<=1000*1001:=Nat.mul_le_mul_right _ h1;lia
 rw[e];rfl
theorem wc(w:Nat)(r:Nat->Nat):rK w r=(((List.range w).map r).map λc=>(⟨#[c]⟩:Str)).map V.str:=by unfold rK;rw[be,be];rfl
theorem dt.bws{b:Bool}{ns:List Int}{u:Bool}{L:List Bw}(h:dt b ns u L)(O:fO ns):xt L where
 nd:=by
  have:(bU b ns u (ns.length+1)).Nodup:=by
   unfold bU List.Nodup;rw[cv];refine fz (fun {i j} hi hj ne e=>?_) ((mH).filter _);have hi:=a6.mp hi;have hj:=a6.mp hj;have h1:=O.has_iff (i:=i) (j:=i) (by have:=c8.mp hi.1;lia) (by have:=c8.mp hi.1;lia);have h2:=O.has_iff (i:=i) (j:=j) (by have:=c8.mp hi.1;lia) (by have:=c8.mp hj.1;lia);rw[<-e,h1] at h2;have h3:decide (j=i\/j+1=i)=true:=by rw[<-h2];simp
   have h4:=RS h3;rcases h4 with z | z
   ·exact ne z.symm
   ·exact tD hi.2 hj.2 z.symm
  exact h.perm.nodup_iff.mpr this
 lt:=h.lt O
 len:=by have:=h.len O;lia
 one:=λp hp q hq x h1 h2=>by
  have hp:=h.perm.mem_iff.mp hp;have hq:=h.perm.mem_iff.mp hq;obtain⟨i,hi,si,rfl⟩:=gV hp;obtain⟨j,hj,sj,rfl⟩:=gV hq;have hx:∃k,k<ns.length+2/\x=b6 ns k/\(i=k\/i+1=k):=by
   have e:x=b6 ns i\/x=b6 ns (i+1):=by
    have h1':min (b6 ns i) (b6 ns (i+1))=x\/max (b6 ns i) (b6 ns (i+1))=x:=h1;lia
   rcases e with e | e
   ·exact⟨i,by lia,e,.inl rfl⟩
   ·exact⟨i+1,by lia,e,.inr rfl⟩
  obtain⟨k,hk,rfl,ik⟩:=hx;have h2':=tS.mpr h2;rw[O.has_iff hk (by lia)] at h2';have jk:=RS h2';have:i=j\/i=j+1\/j=i+1:=by lia
  rcases this with z | z | z
  ·rw[z]
  ·exact absurd z λz=>tD si sj z
  ·exact absurd z λz=>tD sj si z
theorem dt.has{b:Bool}{ns:List Int}{u:Bool}{L:List Bw}(h:dt b ns u L)(O:fO ns){r:Nat}(h1:1<=r)(h2:r<=ns.length):∃p∈L,p.1=(r:Int)\/p.2=(r:Int):=by
 obtain⟨i,hi⟩:=dM (O.mem.mpr ⟨(by lia:(1:Int)<=r),by lia⟩);have il:=(aF.mp hi).1;have er:=oU hi;have:ce b u i=true\/ce b u (i+1)=true:=by
  unfold ce;rw[kg];cases b<;>cases u<;>cases odd i<;>simp
 rcases this with s | s
 ·refine⟨_,h.perm.mem_iff.mpr (nW (by lia) s),?_⟩;rw[<-tS,<-er,O.has_iff (by lia) (by lia)];simp
 ·refine⟨_,h.perm.mem_iff.mpr (nW (by lia) s),?_⟩;rw[<-tS,<-er,O.has_iff (by lia) (by lia)];simp
theorem fL{S:List Bw}(B:xt S){p:Bw}(hp:p∈S){r:Nat}(h:p.1=(r:Int)\/p.2=(r:Int)):Gu S r=p:=by
 unfold Gu;cases e:S.find? λp=>decide (p.1=(r:Int)) || decide (p.2=(r:Int)) with
 | none=>
  have:=List.find?_eq_none.mp e p hp;rw[dE,RO,RO] at this;exact absurd h this
 | some q=>
  have h1:=List.find?_some e;have h2:=List.mem_of_find?_eq_some e;rw[dE,RO,RO] at h1;exact B.one q h2 p hp _ h1 h
theorem Jf{S:List Bw}{m:Nat}(h:∀p∈S,hF S p<=m):iq S<=m:=qC 0 (λx hx=>by obtain⟨p,hp,rfl⟩:=aT.mp hx;exact h p hp) (ac _)
theorem Gh{S:List Bw}(hS:∀q∈S,q.1<q.2):∀(k:Nat) (p:Bw),(fN p).toNat=k->p.1<p.2->hF S p<=k:=by
 intro k
 induction k using Nat.strongRecOn with
 | ind k ih=>
  intro p hk hp;rw[rE hS hp];have:((S.filter λq=>jv q p).map (hF S)).foldl max 0<=k - 1:=by
   refine qC 0 (λx hx=>?_) (ac _);obtain⟨q,hq,rfl⟩:=aT.mp hx;obtain⟨q1,q2⟩:=a6.mp hq;have h1:=jo q2;have h2:=hS q q1;have:=ih (fN q).toNat (by unfold fN at *;lia) q rfl h2;unfold fN at *;lia
  unfold fN at hk;lia
theorem dt.mx{b:Bool}{ns:List Int}{u:Bool}{L:List Bw}(h:dt b ns u L)(O:fO ns):iq L<=21:=Jf λp hp=>by
 have:=vX O (h.perm.mem_iff.mp hp);exact bF (Gh (h.lt O) _ p rfl this.2.1) (by unfold fN;lia)
theorem Be{b:Bool}{ns:List Int}(O:fO ns){u:Bool}{p:Bw}(hp:p∈bU b ns u (ns.length+1))(h:p.1=0):u=b/\p=cI ns 0:=by
 obtain⟨j,hj,sj,rfl⟩:=gV hp;have h':=tS.mpr (Or.inl (b:=(cI ns j).2=b6 ns 0) (show (cI ns j).1=b6 ns 0 by rw[yh];exact h));rw[O.has_iff (by lia) (by lia)] at h';have:j=0:=by have:=RS h';lia
 subst this;unfold ce at sj;exact⟨by have:=beq_iff_eq.mp sj;rw[<-this];simp[odd],rfl⟩
theorem EU{b:Bool}{ns:List Int}(O:fO ns){u:Bool}{p:Bw}(hp:p∈bU b ns u (ns.length+1))(h:p.2=(ns.length:Int)+1):u=(b ^^ odd ns.length)/\p=cI ns ns.length:=by
 obtain⟨j,hj,sj,rfl⟩:=gV hp;have h':=tS.mpr (Or.inr (a:=(cI ns j).1=b6 ns (ns.length+1)) (show (cI ns j).2=b6 ns (ns.length+1) by rw[i6];exact h));rw[O.has_iff (by lia) (by lia)] at h';have:j=ns.length:=by have:=RS h';lia
 subst this;unfold ce at sj;exact⟨(beq_iff_eq.mp sj).symm,rfl⟩
theorem Ap{S:List Bw}{P:Bw->Bool}{p0:Bw}(h0:p0∈S)(h:∀p∈S,P p=true->p=p0):S.any P=P p0:=by
 rw[df,dF];exact⟨λ⟨p,hp,e⟩=>by rw[h p hp e] at e;exact e,λe=>⟨p0,h0,e⟩⟩
theorem Ej{S:List Bw}{P:Bw->Bool}(h:∀p∈S,P p=false):S.any P=false:=List.any_eq_false.mpr λp hp=>by rw[h p hp];decide
theorem z8{L R:List Bw}{p:Bw}(hS:∀q∈L,q.1<q.2)(hp:p∈L):o7 L p<dC L R:=by
 have:=zP hS hp;have:=ip hp;unfold o7 dC;lia
theorem zX{L R:List Bw}{p:Bw}(hS:∀q∈R,q.1<q.2)(hp:p∈R):nw L R p<dC L R:=by
 have:=zP hS hp;have:=ip hp;unfold nw dC;lia
theorem xB{b:Bool}{ns:List Int}{L R:List Bw}(O:fO ns)(hL:dt b ns false L)(hR:dt b ns true R){i:Nat}{u:Bool}{p0:Bw}(h0:p0∈bU b ns u (ns.length+1))(hi0:tR p0 i=true)(hu:∀v,∀p∈bU b ns v (ns.length+1),tR p i=true->v=u/\p=p0)(hg:∀x,xu ns.length (j4 L) (ni L R) i x=false):∃x0,x0<dC L R/\∀x,dq ns.length L R i x=decide (x=x0):=by
 have mL:∀p,p∈L<->p∈bU b ns false (ns.length+1):=λp=>hL.perm.mem_iff;have mR:∀p,p∈R<->p∈bU b ns true (ns.length+1):=λp=>hR.perm.mem_iff;cases u with
 | false=>
  refine⟨o7 L p0,z8 (hL.lt O) ((mL _).mpr h0),λx=>?_⟩;unfold dq;rw[hg,dQ];have e1:lW R (nw L R) i x=false:=Ej λp hp=>by
   cases e:tR p i with
   | false=>rfl
   | true=>exact nomatch (hu true p ((mR p).mp hp) e).1
  have e2:lW L (o7 L) i x=(tR p0 i&&decide (x=o7 L p0)):=Ap (P:=λp=>tR p i&&decide (x=o7 L p)) ((mL _).mpr h0) λp hp e=>by
   rw[aY] at e;exact(hu false p ((mL p).mp hp) e.1).2
  rw[e1,e2,hi0,eW,dQ]
 | true=>
  refine⟨nw L R p0,zX (hR.lt O) ((mR _).mpr h0),λx=>?_⟩;unfold dq;rw[hg,dQ];have e1:lW L (o7 L) i x=false:=Ej λp hp=>by
   cases e:tR p i with
   | false=>rfl
   | true=>exact nomatch (hu false p ((mL p).mp hp) e).1
  have e2:lW R (nw L R) i x=(tR p0 i&&decide (x=nw L R p0)):=Ap (P:=λp=>tR p i&&decide (x=nw L R p)) ((mR _).mpr h0) λp hp e=>by
   rw[aY] at e;exact(hu true p ((mR p).mp hp) e.1).2
  rw[e1,e2,hi0,eW,lV]
theorem rh{p:Bw}{i:Nat}:tR p i=true<->2*p.1+1<=(i:Int)/\(i:Int)<=2*p.2+1:=by
 unfold tR;rw[aY,RO,RO]
theorem sq{b:Bool}{ns:List Int}{L R:List Bw}(O:fO ns)(hL:dt b ns false L)(hR:dt b ns true R):∃x0,x0<dC L R/\∀x,dq ns.length L R 1 x=decide (x=x0):=by
 have s0:ce b b 0=true:=by unfold ce;simp[odd]
 have h0:=nW (b:=b) (ns:=ns) (s:=b) (m:=ns.length+1) (i:=0) (by lia) s0;refine xB O hL hR h0 (rh.mpr ?_) (λv p hp e=>?_) (λx=>?_)
 ·have:=vX O h0;have e0:(cI ns 0).1=0:=by
   have h1:=O.row_in (i:=1) (by lia);show min (b6 ns 0) (b6 ns 1)=0;rw[yh];lia
  lia
 ·have h1:=rh.mp e;have h2:=vX O hp;exact Be O hp (by lia)
 ·unfold xu;rw[RP (by lia),jF]
theorem ul{b:Bool}{ns:List Int}{L R:List Bw}(O:fO ns)(hL:dt b ns false L)(hR:dt b ns true R):∃x0,x0<dC L R/\∀x,dq ns.length L R (2*ns.length+3) x=decide (x=x0):=by
 have s0:ce b (b ^^ odd ns.length) ns.length=true:=by unfold ce;simp
 have h0:=nW (b:=b) (ns:=ns) (s:=b ^^ odd ns.length) (m:=ns.length+1) (i:=ns.length) (by lia) s0;have top:∀v,∀p∈bU b ns v (ns.length+1),p.2<=(ns.length:Int)+1:=λv p hp=>by
  obtain⟨j,hj,_,rfl⟩:=gV hp;exact(O.step_in (i:=j) (by lia)).2
 refine xB O hL hR h0 (rh.mpr ?_) (λv p hp e=>?_) (λx=>?_)
 ·have e0:(cI ns ns.length).2=(ns.length:Int)+1:=by
   have h1:=O.row_in (i:=ns.length) (by lia);show max (b6 ns ns.length) (b6 ns (ns.length+1))=_;rw[i6];lia
  have:=(O.step_lt (i:=ns.length) (aH _))
  lia
 ·have h1:=rh.mp e;have h2:=top v p hp;exact EU O hp (by lia)
 ·unfold xu;rw[RP (by lia),jF]
theorem Io(w c:Nat):(List.replicate w [l3 c]).flatten=rK w λ_=>c:=by
 unfold rK
 induction w with
 | zero=>rfl
 | succ w ih=>
  rw[List.replicate_succ',List.flatten_append,ih,eF,aX];rfl
theorem sign_of{n:Nat}{L R:List Bw}{x0 x1:Nat}(op0:∀x,dq n L R 1 x=decide (x=x0))(op1:∀x,dq n L R (2*n+3) x=decide (x=x1))(i x:Nat):
  (if i=2*n+3/\x=x1 then 64 else if i=1/\x=x0 then 118 else if dq n L R i x then 46 else 35)=signG n L R i x:=by
 unfold signG;by_cases h1:i=1
 ·subst h1;have:¬((1:Nat)=2*n+3/\x=x1):=by lia
  rw[RM this,op0];by_cases e:x=x0
  ·subst e;simp
  ·simp[e]
 ·by_cases h2:i=2*n+3
  ·subst h2;rw[op1];by_cases e:x=x1
   ·subst e;simp
   ·simp[e]
  ·simp[h1,h2]
def Ct:Sp:=λvs H Q _=>∃m o b ns,vs=[.ref m]/\gj H m o b ns/\fO ns/\NC b ns/\∀H',ar H H'->Q (.bl true) H'
def wV:Sp:=λvs H Q _=>∃m o b ns,vs=[.ref m]/\gj H m o b ns/\fO ns/\NC b ns/\∀L R H',dt b ns false L->dt b ns true R->ar H H'->Q (.str (tx (lZ ns.length L R))) H'
end Rm
namespace L2
open PySem PySem.Spec PyProof.Rows
section
variable {prog:Program} {w:World} {A:Around} {E:Value->Shared->Prop} {s:Shared}
theorem B5{v d:Addr}{o:Obj}{es:Array DictEntry}{ep:Nat}{Q:Value->Shared->Prop}(hv:s.heap.IsValuesView v d)(ho:s.heap.get? d=some o)(hdat:o.data=.dict es ep)
  (hQ:Q (.ref s.heap.objs.size) { s with heap:=s.heap.push { cls:=.type "dict_valueiterator",data:=.fields #[.ref d,.int 0 0,.int es.size 0,.int ep 0] } }):wpAny (model prog w) A (pyIter (.ref v)) Q E s:=by
 obtain⟨ov,hov,hcv,hdv⟩:=id hv;refine wpAny_pyIter_slot hv.typeIs F.slot_dict_values_iter (Qr F.slot_dict_values_iter hv.typeIs F.entry_dict_values_iter (wpAny_bind (wpAny_pure (wpAny_bind (wpAny_bind (RG hov hdv (x:=.ref d) rfl (wpAny_pure (wpAny_bind ?_))))))) (F.args_dict_values_iter_1 _));refine wpAny_bind (Qx ho hdat (wpAny_bind (Qy ho hdat ?_)));simp only[RM (show ¬(Builtin.Dict_items.ownsTuple "dict_valueiterator")=true by decide)];refine Qm (wpAny_pure ⟨_,rfl,"dict_valueiterator",_,⟨_,aQ _ rfl,rfl⟩,dW.lookup,?_⟩);simpa [rawInt] using hQ
theorem BX{it d:Addr}{i ep:Nat}{o:Obj}{es:Array DictEntry}{Q:Option Value->Shared->Prop}(hit:s.heap.IsValIter it d i es.size ep)(ho:s.heap.get? d=some o)(hdat:o.data=.dict es ep)(hi:i<es.size)
  (hQ:∀h',h'.IsValIter it d (i+1) es.size ep->Heap.SameBut it s.heap h'->Q (some es[i].val) { s with heap:=h' }):wpAny (model prog w) A (pyNext (.ref it)) Q E s:=by
 obtain⟨oi,hoi,hc,hd⟩:=id hit;unfold pyNext;refine wpAny_bind (Qw (wpAny_callSpecial?_slot (name:=Str.ofString "__next__") hit.typeIs dW (Qr dW hit.typeIs jG (wpAny_bind (wpAny_pure (wpAny_bind (wpAny_bind ?_)))) (jC _))))
 first | refine wpAny_bind (RK hit.typeIs (wpAny_pure (wpAny_bind (RA hoi hd ?_)))) | refine wpAny_bind (RL hit.typeIs (wpAny_pure (wpAny_bind (RA hoi hd ?_))))
 rw[RM (show ¬(Builtin.Dict_items.ownsTuple "dict_valueiterator")=true by decide)];show wpAny _ _ (if (Value.ref d==Value.none)=true then _ else _) _ _ s;rw[RM (show ¬(Value.ref d==Value.none)=true from af)];refine wpAny_bind (wpAny_pure (wpAny_bind (Qx ho hdat ?_)));rw[RM (by simp)];refine wpAny_bind (wpAny_pure (wpAny_bind (Qy ho hdat ?_)));rw[RM (by simp)];refine wpAny_pure ?_;simp only[show ¬((i:Int)<0) from by lia,RU,cA,cK hi];refine wpAny_bind ?_
 first | refine wpAny_bind (RK hit.typeIs (wpAny_pure (wpAny_bind (wpAny_isOneOf_valiter hit.typeIs ?_)))) | refine wpAny_bind (RL hit.typeIs (wpAny_pure (wpAny_bind (wpAny_isOneOf_valiter hit.typeIs ?_))))
 show wpAny _ _ (setField (.ref it) 1 (rawInt ((i:Int)+1))>>=_) _ _ s;have hit':(s.heap.update it (Obj.mapFields (·.setIfInBounds 1 (rawInt ((i:Int)+1))))).IsValIter it d (i+1) es.size ep:=⟨_,d9 _ hoi (jM (fQ hd _)),(lG ..).trans hc,by rw[fQ hd];simp[rawInt]⟩
 refine wpAny_bind (RC hoi hd (by simp) (wpAny_bind (Qb (wpAny_bind (wpAny_isOneOf_valiter (s:={ s with heap:=s.heap.update it (Obj.mapFields (·.setIfInBounds 1 (rawInt ((i:Int)+1)))) }) hit'.typeIs (wpAny_bind (wpAny_isOneOf_valiter (s:={ s with heap:=s.heap.update it (Obj.mapFields (·.setIfInBounds 1 (rawInt ((i:Int)+1)))) }) hit'.typeIs ?_)))))));exact wpAny_pure (a:=es[i].val) (wpAny_pure ⟨_,rfl,wpAny_pure (hQ _ hit' (dG ..))⟩)
theorem Eb{it d:Addr}{ep:Nat}{o:Obj}{es:Array DictEntry}{Q:Option Value->Shared->Prop}(hh:A.handled=none)(hit:s.heap.IsValIter it d es.size es.size ep)(ho:s.heap.get? d=some o)(hdat:o.data=.dict es ep)
  (hQ:∀h',Heap.ExtBut it s.heap h'->Q none { s with heap:=h' }):wpAny (model prog w) A (pyNext (.ref it)) Q E s:=by
 obtain⟨oi,hoi,hc,hd⟩:=id hit;unfold pyNext;refine wpAny_bind (Qw (wpAny_callSpecial?_slot (name:=Str.ofString "__next__") hit.typeIs dW (Qr dW hit.typeIs jG (wpAny_bind (wpAny_pure (wpAny_bind (wpAny_bind ?_)))) (jC _))))
 first | refine wpAny_bind (RK hit.typeIs (wpAny_pure (wpAny_bind (RA hoi hd ?_)))) | refine wpAny_bind (RL hit.typeIs (wpAny_pure (wpAny_bind (RA hoi hd ?_))))
 rw[RM (show ¬(Builtin.Dict_items.ownsTuple "dict_valueiterator")=true by decide)];show wpAny _ _ (if (Value.ref d==Value.none)=true then _ else _) _ _ s;rw[RM (show ¬(Value.ref d==Value.none)=true from af)];refine wpAny_bind (wpAny_pure (wpAny_bind (Qx ho hdat ?_)));rw[RM (by simp)];refine wpAny_bind (wpAny_pure (wpAny_bind (Qy ho hdat ?_)));rw[RM (by simp)];refine wpAny_pure ?_;simp only[show ¬((es.size:Int)<0) from by lia,RU,cA,gU (aH es.size)];refine wpAny_bind ?_
 first | refine wpAny_bind (RK hit.typeIs (wpAny_pure ?_)) | refine wpAny_bind (RL hit.typeIs (wpAny_pure ?_))
 refine wpAny_bind (m:=setField (.ref it) 0 .none) (RC hoi hd (by simp) (wpAny_bind (m:=newExc (.type "StopIteration") []) ?_));simp only[newExc,newTuple];refine wpAny_bind (Qm (wpAny_bind (m:=firstArgMember _ _) (wpAny_of_eq (a:=Value.none) (by first | rfl | (simp only[firstArgMember];rfl)) (Qm ?_ (by size_fits)))) (by size_fits));simp only[raiseNew];refine wpAny_bind (wpAny_handled ?_);rw[show A.in1.handled=none from hh];refine wpAny_bind (wpAny_pure (wpAny_throw ?_));refine wpAny_bind (wpAny_isInstance (T:="StopIteration") (b:=true) ⟨_,aQ _ rfl,rfl⟩ isSubtype_stop ?_);exact wpAny_pure (hQ _ (((dG ..).extBut.push _).push _))
end
section
variable {prog:Program} {w:World} {d r:Addr} {o:Obj} {es:Array DictEntry} {ep:Nat}
theorem GZ (hd:(d==sysModules)=false) (hx:o.ExactDict) (hdat:o.data=.dict es ep):PySem.W.KdlSrc prog w "dict" d d es.size (λi v=>∃e,es[i]? = some e/\v=e.key) (λh=>h.get? d=some o) where
 type:=λ_ e=>⟨o,e,hx.1⟩
 there:=λ_ e=>⟨aN e,aN e⟩
 keep:=λ_ _ e k=>k d (.inl rfl) o e
 notList:=by decide
 notTuple:=by decide
 hint:=λ_ _ _ _ e hq=>PySem.W.kdl_hint_dict ⟨o,e,hx.1⟩ hq
 iter:=λA s hh e=>⟨_,λi h=>h.IsKeyIter s.heap.objs.size d i es.size ep/\h.get? d=some o,λ_ _ hq=>xS hd e hx hdat hq,
  { sub:=(λb hb=>by simp at hb;simp[hb]),frame:=(λi h h' st k=>⟨st.1.at λo e=>k _ (by simp) o e,k d (by simp) o st.2⟩),item:=(λi s' Q E hi st hQ=>xI st.1 st.2 hdat hi λh' st' sb=>hQ _ h' s'.toks ⟨es[i],by simp[hi],rfl⟩ ⟨st',(sb.2 d (bC (aN e))).trans st.2⟩ λb o hb e=>(sb.2 b (λz=>hb (by simp[z]))).trans e),done:=(λs' Q E st hQ=>Ak hh st.1 st.2 hdat λh' eb=>hQ h' s'.toks λb o hb e=>eb b o (λz=>hb (by simp[z])) e),self:=(λ_ _ _ _ st hQ=>wpAny_pyIter_keyiter st.1 hQ) },⟨⟨_,aQ _ rfl,rfl,rfl⟩,aD _ e⟩⟩
theorem GY (hdat:o.data=.dict es ep):PySem.W.KdlSrc prog w "dict_values" r d es.size (λi v=>∃e,es[i]? = some e/\v=e.val) (λh=>h.IsValuesView r d/\h.get? d=some o) where
 type:=λ_ e=>e.1.typeIs
 there:=λ_ e=>⟨let ⟨_,ho,_⟩:=e.1;aN ho,aN e.2⟩
 keep:=λ_ _ e k=>⟨let ⟨o,ho,x⟩:=e.1;⟨o,k r (.inl rfl) o ho,x⟩,k d (.inr rfl) o e.2⟩
 notList:=by decide
 notTuple:=by decide
 hint:=λ_ _ _ _ e hq=>PySem.W.kdl_hint_values e.1.typeIs hq
 iter:=λA s hh e=>⟨_,λi h=>h.IsValIter s.heap.objs.size d i es.size ep/\h.get? d=some o,λ_ _ hq=>B5 e.1 e.2 hdat hq,
  { sub:=(λb hb=>by simp at hb;simp[hb]),frame:=(λi h h' st k=>⟨st.1.at λo e=>k _ (by simp) o e,k d (by simp) o st.2⟩),item:=(λi s' Q E hi st hQ=>BX st.1 st.2 hdat hi λh' st' sb=>hQ _ h' s'.toks ⟨es[i],by simp[hi],rfl⟩ ⟨st',(sb.2 d (bC (aN e.2))).trans st.2⟩ λb o hb e=>(sb.2 b (λz=>hb (by simp[z]))).trans e),done:=(λs' Q E st hQ=>Eb hh st.1 st.2 hdat λh' eb=>hQ h' s'.toks λb o hb e=>eb b o (λz=>hb (by simp[z])) e),self:=(λ_ _ _ _ st hQ=>wpAny_pyIter_valiter st.1 hQ) },⟨⟨_,aQ _ rfl,rfl,rfl⟩,aD _ e.2⟩⟩
end
section
variable {X:Cx}
theorem uw{α:Type}{P:Nat->Value->Prop}{acc:Array Value}{l:List α}{f:α->Value}(h:ItemsOf P acc l.length)(e:∀i v,P i v->∃x,l[i]? = some x/\v=f x):acc.toList=l.map f:=by
 apply lI;intro i;rw[aP];rcases ft i l.length with hi | hi
 ·have h1:acc[i]? = some (acc[i]'(by rw[h.1];exact hi)):=cK _;obtain⟨x,hx,ev⟩:=e i _ (h.2 i _ h1);rw[fX,h1,hx,ev];rfl
 ·rw[d8 hi,d8 (by rw[cY,h.1];exact hi)];rfl
def DU:List V->Hp->VK->Prop:=λxs H Q=>∃(d:Addr) (kvs:List (List Key×V)),xs=[.ref d]/\H d=some (.dT kvs)/\∀l (as:List Addr),H l=none->Paired (λ(a:Addr) (kv:List Key×V)=>H a=some (.tup (kv.1.map kV))) as kvs->Q (.ref l) (upd H l (.lst (as.map V.ref)))
theorem t6 (hc:X.calm=true):iP X (.type "list") DU:=by
 intro pins s σ H xs us Q I r h;obtain⟨d,kvs,rfl,hd,q⟩:=h;obtain⟨u,rfl,rx⟩:=Qg r;cases rx;obtain⟨z,y,xs,rp,o,es,ep,ho,ex,ed,el,nd⟩:=(show ck X.prog X.w H s.heap d (.dT kvs) from I.hok d _ hd)
 have h2:kvs.length=xs.length:=au rp;have hes:es.size=xs.length:=by
  have h1:es.toList.length=xs.length:=by rw[el,aA]
  rw[<-cY];exact h1
 refine PySem.W.kdl_call (GZ y ex ed) (I.ok.hd hc) ho (by lia) λh' tk acc' c' kp e ia=>?_;rw[hes] at ia;have ea:acc'.toList=xs.map λx=>Value.ref x.2.1:=uw ia λi v ⟨en,h3,h4⟩=>by
  have e3:es.toList[i]? = some en:=by rw[fX];exact h3
  rw[el,aP] at e3;obtain⟨x,hx,rfl⟩:=cC.mp e3;exact⟨x,hx,h4⟩
 have vs:∀l:List (List Key×Addr×Value),cV ((l.map λx=>x.2.1).map V.ref) (l.map λx=>Value.ref x.2.1):=λl=>by
  induction l with
  | nil=>exact .nil
  | cons x l ih=>exact .cons rfl ih
 have pr:∀{kvs:List (List Key×V)} {xs:List (List Key×Addr×Value)},Paired (λ(p:List Key×V) (q:List Key×Addr×Value)=>p.1=q.1/\H q.2.1=some (.tup (p.1.map kV))/\RelV p.2 q.2.2) kvs xs->Paired (λ(a:Addr) (kv:List Key×V)=>H a=some (.tup (kv.1.map kV))) (xs.map λx=>x.2.1) kvs:=fun {kvs xs} h=>by
  induction h with
  | nil=>exact .nil
  | cons x _ ih=>exact .cons x.2.1 ih
 refine⟨.ref s.heap.objs.size,_,I.laid (t':=tk) kp (aH _) (show ck X.prog X.w _ h' _ (.lst ((xs.map λx=>x.2.1).map V.ref)) from ⟨by rw[aA,aA];lia,acc'.toList,c',by rw[ea];exact vs xs,by rw[Array.toArray_toList];exact e⟩),rfl,q _ _ (I.hok.fresh (aH _)) (pr rp)⟩
def oh (d:Addr):HO:=.frz { cls:=.type "dict_values",data:=.fields #[.ref d] } (.own 0)
def AR:V->List V->Hp->VK->Prop:=λx vs H Q=>∃(d:Addr) (kvs:List (List Key×V)),x=.ref d/\vs=[]/\H d=some (.dT kvs)/\∀vw,H vw=none->Q (.ref vw) (upd H vw (oh d))
theorem zG {prog:Program} {w:World} (d:Addr) (hd:(d==sysModules)=false):MeetsIn prog w (Builtin.«dict.values» ⟨[.ref d],[]⟩) (λ_ R s=>s.TypeIs (.ref d) "dict"/\R (.ok (.ret (.ref s.heap.objs.size))) { s with heap:=s.heap.push { cls:=.type "dict_values",data:=.fields #[.ref d] } }):=
 .of_wp λA R s ⟨hT,h⟩=>by
  refine wpAny_bind (wpAny_bind (wpAny_notOrdered_dict hT (wpAny_pure (a:=d) ?_)));show wpAny _ _ (Builtin.Dict.showsAll d>>=_) _ _ s;unfold Builtin.Dict.showsAll;rw[RM (show ¬(d==sysModules)=true by rw[hd];exact af)];exact wpAny_bind (wpAny_pure (wpAny_bind (Qm (wpAny_pure ⟨_,rfl,h⟩))))
theorem uq:K3 X "dict.values" AR:=by
 intro pins s σ H x vs v us Q I rx rv h;obtain⟨d,kvs,rfl,rfl,hd,q⟩:=h;cases rx;cases rv;obtain⟨z,y,xs,rp,o,es,ep,ho,ex,ed,el,nd⟩:=(show ck X.prog X.w H s.heap d (.dT kvs) from I.hok d _ hd)
 refine call_meetsIn F.slot_dict_values ⟨o,ho,ex.1⟩ F.entry_dict_values (F.args_dict_values_1 _) (zG d y) ⟨⟨o,ho,ex.1⟩,.ref s.heap.objs.size,_,I.laid (t':=s.toks) (λb o e=>aD _ e) (aH _) (show ck X.prog X.w _ _ _ (oh d) from ⟨aQ _ rfl,_,aQ _ rfl⟩),rfl,q _ (I.hok.fresh (aH _))⟩
def DT:List V->Hp->VK->Prop:=λxs H Q=>∃(vw d:Addr) (kvs:List (List Key×V)),xs=[.ref vw]/\H vw=some (oh d)/\H d=some (.dT kvs)/\∀l,H l=none->Q (.ref l) (upd H l (.lst (kvs.map (·.2))))
theorem nv (hc:X.calm=true):iP X (.type "list") DT:=by
 intro pins s σ H xs us Q I r h;obtain⟨vw,d,kvs,rfl,hv,hd,q⟩:=h;obtain⟨u,rfl,rx⟩:=Qg r;cases rx;obtain⟨z,y,xs,rp,o,es,ep,ho,ex,ed,el,nd⟩:=(show ck X.prog X.w H s.heap d (.dT kvs) from I.hok d _ hd)
 have hV:s.heap.IsValuesView vw d:=⟨_,(show ck X.prog X.w H s.heap vw (oh d) from I.hok vw _ hv).1,rfl,rfl⟩
 have h2:kvs.length=xs.length:=au rp;have hes:es.size=xs.length:=by
  have h1:es.toList.length=xs.length:=by rw[el,aA]
  rw[<-cY];exact h1
 refine PySem.W.kdl_call (GY (r:=vw) ed) (I.ok.hd hc) ⟨hV,ho⟩ (by lia) λh' tk acc' c' kp e ia=>?_;rw[hes] at ia;have ea:acc'.toList=xs.map λx=>x.2.2:=uw ia λi v ⟨en,h3,h4⟩=>by
  have e3:es.toList[i]? = some en:=by rw[fX];exact h3
  rw[el,aP] at e3;obtain⟨x,hx,rfl⟩:=cC.mp e3;exact⟨x,hx,h4⟩
 have vs:∀{kvs:List (List Key×V)} {xs:List (List Key×Addr×Value)},Paired (λ(p:List Key×V) (q:List Key×Addr×Value)=>p.1=q.1/\H q.2.1=some (.tup (p.1.map kV))/\RelV p.2 q.2.2) kvs xs->cV (kvs.map (·.2)) (xs.map λx=>x.2.2):=fun {kvs xs} h=>by
  induction h with
  | nil=>exact .nil
  | cons x _ ih=>exact .cons x.2.2 ih
 refine⟨.ref s.heap.objs.size,_,I.laid (t':=tk) kp (aH _) (show ck X.prog X.w _ h' _ (.lst (kvs.map (·.2))) from ⟨by rw[aA];lia,acc'.toList,c',by rw[ea];exact vs rp,by rw[Array.toArray_toList];exact e⟩),rfl,q _ (I.hok.fresh (aH _))⟩
end
theorem Ew{xs:List V}{H:Hp}{Q:VK}:DU xs H Q=∃(d:Addr) (kvs:List (List Key×V)),xs=[.ref d]/\H d=some (.dT kvs)/\∀l (as:List Addr),H l=none->Paired (λ(a:Addr) (kv:List Key×V)=>H a=some (.tup (kv.1.map kV))) as kvs->Q (.ref l) (upd H l (.lst (as.map V.ref))):=rfl
end L2
namespace Rm
open PySem L2 PyProof.Rows
theorem xX{l m:List Nat}(h:∀x,x∈l<->x∈m):l.foldl max 0=m.foldl max 0:=
 Nat.le_antisymm (qC 0 (λx hx=>(qD 0).2 x ((h x).mp hx)) (ac _)) (qC 0 (λx hx=>(qD 0).2 x ((h x).mpr hx)) (ac _))
theorem zO{S T:List Bw}(h:∀q,q∈S<->q∈T):∀(k:Nat) (p:Bw),hN S k p=hN T k p
 | 0,_=>rfl
 | k+1,p=>by
  show 1+((S.filter λq=>jv q p).map (hN S k)).foldl max 0=1+((T.filter λq=>jv q p).map (hN T k)).foldl max 0;congr 1;refine xX λx=>?_;constructor
  ·intro hx;obtain⟨q,hq,rfl⟩:=aT.mp hx;obtain⟨h1,h2⟩:=a6.mp hq;exact aT.mpr ⟨q,a6.mpr ⟨(h q).mp h1,h2⟩,(zO h k q).symm⟩
  ·intro hx;obtain⟨q,hq,rfl⟩:=aT.mp hx;obtain⟨h1,h2⟩:=a6.mp hq;exact aT.mpr ⟨q,a6.mpr ⟨(h q).mpr h1,h2⟩,zO h k q⟩
theorem vt{S T:List Bw}(h:∀q,q∈S<->q∈T)(p:Bw):hF S p=hF T p:=zO h _ p
theorem pw{S T:List Bw}(h:∀q,q∈S<->q∈T):iq S=iq T:=by
 refine xX λx=>?_;constructor
 ·intro hx;obtain⟨q,hq,rfl⟩:=aT.mp hx;exact aT.mpr ⟨q,(h q).mp hq,(vt h q).symm⟩
 ·intro hx;obtain⟨q,hq,rfl⟩:=aT.mp hx;exact aT.mpr ⟨q,(h q).mpr hq,vt h q⟩
theorem AY{S T:List Bw}{c d:Bw->Nat}(h:∀q,q∈S<->q∈T)(hc:∀q,c q=d q)(i x:Nat):lW S c i x=lW T d i x:=by
 unfold lW;rw[df,dF,dF];constructor
 ·rintro⟨q,hq,e⟩;exact⟨q,(h q).mp hq,by rw[<-hc];exact e⟩
 ·rintro⟨q,hq,e⟩;exact⟨q,(h q).mpr hq,by rw[hc];exact e⟩
def bI(b:Bool)(ns:List Int)(u:Bool):List Bw:=bU b ns u (ns.length+1)
theorem pV(b:Bool)(ns:List Int)(u:Bool):∃L,dt b ns u L:=by
 refine⟨(bI b ns u).mergeSort λp q=>decide (p.1<q.1\/p.1=q.1/\p.2<=q.2),List.mergeSort_perm _ _,?_⟩;have:=List.pairwise_mergeSort (le:=λp q:Bw=>decide (p.1<q.1\/p.1=q.1/\p.2<=q.2)) (λa b c h1 h2=>?_) (λa b=>?_) (bI b ns u)
 ·exact this.imp λh=>RS h
 ·have h1:=RS h1;have h2:=RS h2;exact RQ (by lia)
 ·rw[dE,RO,RO];lia
theorem iO{b:Bool}{ns:List Int}(O:fO ns)(u:Bool):xt (bI b ns u):=by
 obtain⟨L,hL⟩:=pV b ns u;have B:=hL.bws O;have m:∀q,q∈bI b ns u->q∈L:=λq hq=>hL.perm.mem_iff.mpr hq;exact⟨hL.perm.nodup_iff.mp B.nd,λp hp=>B.lt p (m p hp),by have:=hL.perm.length_eq;have:=B.len;show (bU b ns u (ns.length+1)).length<=40;lia,λp hp q hq=>B.one p (m p hp) q (m q hq)⟩
theorem rX{b:Bool}{ns:List Int}(O:fO ns)(u:Bool){r:Nat}(h1:1<=r)(h2:r<=ns.length):∃p∈bI b ns u,p.1=(r:Int)\/p.2=(r:Int):=by
 obtain⟨L,hL⟩:=pV b ns u;obtain⟨p,hp,e⟩:=hL.has O h1 h2;exact⟨p,hL.perm.mem_iff.mp hp,e⟩
theorem vW{b:Bool}{ns:List Int}(O:fO ns)(u:Bool):iq (bI b ns u)<=21:=by
 obtain⟨L,hL⟩:=pV b ns u;have e:iq L=iq (bI b ns u):=pw λq=>hL.perm.mem_iff;rw[<-e];exact hL.mx O
theorem uk{b:Bool}{ns:List Int}{L R:List Bw}(O:fO ns)(hL:dt b ns false L)(hR:dt b ns true R):∀i x,dq ns.length L R i x=dq ns.length (bI b ns false) (bI b ns true) i x:=by
 have mL:∀q,q∈L<->q∈bI b ns false:=λq=>hL.perm.mem_iff;have mR:∀q,q∈R<->q∈bI b ns true:=λq=>hR.perm.mem_iff;have cl:∀p,o7 L p=o7 (bI b ns false) p:=λp=>by unfold o7;rw[pw mL,vt mL]
 have cr:∀p,nw L R p=nw (bI b ns false) (bI b ns true) p:=λp=>by unfold nw;rw[pw mL,vt mR]
 intro i x;unfold dq;rw[AY mL cl,AY mR cr];congr 2;unfold xu;by_cases z:i % 2=1/\3<=i/\i<=2*ns.length+1
 ·rw[RQ z,eW,eW];obtain⟨p,hp,ep⟩:=hL.has O (r:=(i - 1) / 2) (by lia) (by lia);obtain⟨q,hq,eq⟩:=hR.has O (r:=(i - 1) / 2) (by lia) (by lia);unfold j4 ni;rw[fL (hL.bws O) hp ep,fL (hR.bws O) hq eq,fL (iO O false) ((mL p).mp hp) ep,fL (iO O true) ((mR q).mp hq) eq,cl,cr]
 ·rw[RP z];rfl
theorem C3{b:Bool}{ns:List Int}{L R:List Bw}(O:fO ns)(hL:dt b ns false L)(hR:dt b ns true R):lZ ns.length L R=lZ ns.length (bI b ns false) (bI b ns true):=by
 have mL:∀q,q∈L<->q∈bI b ns false:=λq=>hL.perm.mem_iff;have mR:∀q,q∈R<->q∈bI b ns true:=λq=>hR.perm.mem_iff;unfold lZ;congr 1;refine cM λi _=>?_;unfold iN;rw[show dC L R=dC (bI b ns false) (bI b ns true) by unfold dC;rw[pw mL,pw mR]];refine cM λx _=>?_;unfold signG;rw[uk O hL hR]
def bK(p:Bw):List Key:=[.inl p.1,.inl p.2]
theorem za{p q:Bw}(h:bK p=bK q):p=q:=by
 unfold bK at h;simp only[kD,Sum.inl.injEq,and_true] at h;exact fE h.1 h.2
def qz(f:Bw->Nat)(ps:List Bw):List (List Key×V):=ps.map λp=>(bK p,V.int (f p:Nat))
theorem yN{f:Bw->Nat}{p:Bw}:∀{ps:List Bw},p∈ps->eI (qz f ps) (bK p)=some (.int (f p:Nat))
 | q::ps,h=>by
  show eI ((bK q,V.int (f q:Nat))::qz f ps) (bK p)=_;by_cases e:q=p
  ·subst e;rw[ff rfl]
  ·rw[eX λz=>e (za z)];rcases aK.mp h with z | z
   ·exact absurd z.symm e
   ·exact yN z
theorem sI{f:Bw->Nat}{p:Bw}:∀{ps:List Bw},p∉ps->eI (qz f ps) (bK p)=none
 | [],_=>rfl
 | q::ps,h=>by
  show eI ((bK q,V.int (f q:Nat))::qz f ps) (bK p)=_;rw[eX λz=>h (by rw[za z];simp)];exact sI λz=>h (aM _ z)
theorem D3{κ:Type} [DecidableEq κ] {kvs:List (κ×V)} {k:κ} {v y:V} (h:eI kvs k=none):putK (kvs++[(k,v)]) k y=kvs++[(k,y)]:=by
 unfold putK;rw[RN (by simp)];rw[aX];congr 1
 ·conv=>rhs;rw[<-oE kvs]
  refine cM λkv hkv=>?_;have:¬kv.1=k:=λe=>by
   have h2:=lX k kvs;rw[h] at h2;have h3:(kvs.any λkv=>decide (kv.1=k))=true:=dF.mpr ⟨kv,hkv,RQ e⟩;rw[h3] at h2;cases h2
  rw[RM this];rfl
 ·simp
theorem hZ{S:List Bw}(hS:∀q∈S,q.1<q.2){p q:Bw}(hp:p.1<p.2)(hq:q∈S)(h:jv q p=true):hF S q+1<=hF S p:=by
 rw[rE hS hp];have:=(qD (l:=(S.filter λq=>jv q p).map (hF S)) 0).2 (hF S q) (aT.mpr ⟨q,a6.mpr ⟨hq,h⟩,rfl⟩);lia
theorem Cb{S:List Bw}(hS:∀q∈S,q.1<q.2){p:Bw}{v:Nat}(hp:p.1<p.2)(h1:1<=v)(h2:v<=hF S p)(h3:∀q∈S,jv q p=true->hF S q+1<=v):v=hF S p:=by
 refine Nat.le_antisymm h2 ?_;rw[rE hS hp];rcases Aj (l:=(S.filter λq=>jv q p).map (hF S)) 0 with e | e
 ·rw[e];lia
 ·obtain⟨q,hq,e'⟩:=aT.mp e;rw[<-e'];have:=h3 q (a6.mp hq).1 (a6.mp hq).2;lia
theorem EK{S ps:List Bw}(h:∀p,p∈ps<->p∈S){M:Int}(h1:M∈(0:Int)::ps.map λp=>((hF S p:Nat):Int))(h2:∀a∈(0:Int)::ps.map (λp=>((hF S p:Nat):Int)),a<=M):M=(iq S:Nat):=by
 have g1:∀p∈S,((hF S p:Nat):Int)<=M:=λp hp=>h2 _ (aM _ (aT.mpr ⟨p,(h p).mpr hp,rfl⟩));have g0:(0:Int)<=M:=h2 0 (by simp);have g2:((iq S:Nat):Int)<=M:=by
  rcases Aj (l:=S.map (hF S)) 0 with e | e
  ·unfold iq;rw[e];exact g0
  ·obtain⟨q,hq,e'⟩:=aT.mp e;have:=g1 q hq;unfold iq;rw[<-e'];exact this
 rcases aK.mp h1 with z | z
 ·lia
 ·obtain⟨p,hp,e⟩:=aT.mp z;have:=ip ((h p).mp hp);lia
def Cu:Sp:=λvs H Q _=>∃l S,vs=[.ref l]/\bu H l S/\xt S/\(∀p∈S,p.2-p.1<=21)/\∀d ps H',H d=none->ar H H'->(∀p,p∈ps<->p∈S)->ps.length<=40->H' d=some (.dT (qz (hF S) ps))->Q (.ref d) H'
def sK(i x:Nat):List Key:=[.inl (i:Int),.inl (x:Int)]
theorem sV{i x j y:Nat}(h:sK i x=sK j y):i=j/\x=y:=by
 unfold sK at h;simp only[kD,Sum.inl.injEq,and_true] at h;lia
def Sg(kvs:List (List Key×V))(F:Nat->Nat->Option V):Prop:=∀i x,eI kvs (sK i x)=F i x
theorem Sg.put{kvs:List (List Key×V)}{F G:Nat->Nat->Option V}(h:Sg kvs F)(i x:Nat)(v:V)(e:∀i' x',(if i'=i/\x'=x then some v else F i' x')=G i' x'):Sg (putK kvs (sK i x) v) G:=λi' x'=>by
 rw[jd,<-e i' x'];by_cases z:i'=i/\x'=x
 ·rw[RN z,RN (by rw[z.1,z.2])]
 ·rw[RM z,RM λw=>z (sV w)];exact h i' x'
def KZ(n i:Nat):Nat:=if i=1 then 118 else if i=2*n+3 then 64 else 46
def Fo(n:Nat)(P:Nat->Nat->Bool):Nat->Nat->Option V:=λi x=>if P i x then some (l3 (KZ n i)) else none
def Fl(n:Nat)(P:Nat->Nat->Bool)(p:Bw)(c t j:Nat):Nat->Nat->Option V:=λi x=>
 if x=c/\2*p.1+1<=(i:Int)/\(i:Int)<2*p.1+1+j then some (l3 (if 1<=t/\i=1 then 118 else if 2<=t/\i=2*n+3 then 64 else 46)) else Fo n P i x
theorem HH{n:Nat}{P:Nat->Nat->Bool}{p:Bw}{c j:Nat}(hj:(j:Int)=2*p.2+1 - 2*p.1):Fl n P p c 2 j=Fo n λi x=>P i x || (tR p i&&decide (x=c)):=by
 funext i x;unfold Fl Fo tR KZ;by_cases z:x=c/\2*p.1+1<=(i:Int)/\(i:Int)<2*p.1+1+j
 ·rw[RN z];have hP:(P i x || (decide (2*p.1+1<=(i:Int))&&decide ((i:Int)<=2*p.2+1)&&decide (x=c)))=true:=by
   rw[dE];right;simp only[aY,RO];lia
  have e1:(if 1<=2/\i=1 then 118 else if 2<=2/\i=2*n+3 then 64 else 46)=(if i=1 then 118 else if i=2*n+3 then 64 else 46):=by simp
  rw[e1];exact(RN hP).symm
 ·rw[RM z];have:(P i x || (decide (2*p.1+1<=(i:Int))&&decide ((i:Int)<=2*p.2+1)&&decide (x=c)))=P i x:=by
   have:(decide (2*p.1+1<=(i:Int))&&decide ((i:Int)<=2*p.2+1)&&decide (x=c))=false:=by
    rw[Bool.eq_false_iff];intro w;simp only[aY,RO] at w;lia
   rw[this,dQ]
  simp only[this]
theorem Mi{n:Nat}{P:Nat->Nat->Bool}{p:Bw}{c:Nat}:Fl n P p c 0 0=Fo n P:=by
 funext i x;unfold Fl;rw[RM (by lia)]
theorem HG{n:Nat}{P:Nat->Nat->Bool}{p:Bw}{c j y:Nat}(hy:(y:Int)=2*p.1+1+j)(i x:Nat):(if i=y/\x=c then some (l3 46) else Fl n P p c 0 j i x)=Fl n P p c 0 (j+1) i x:=by
 unfold Fl;by_cases z:i=y/\x=c
 ·rw[RN z,RN (by lia)];simp
 ·rw[RM z];by_cases w:x=c/\2*p.1+1<=(i:Int)/\(i:Int)<2*p.1+1+j
  ·rw[RN w,RN (show x=c/\2*p.1+1<=(i:Int)/\(i:Int)<2*p.1+1+((j+1:Nat):Int) by lia)]
  ·rw[RM w,RM (show ¬(x=c/\2*p.1+1<=(i:Int)/\(i:Int)<2*p.1+1+((j+1:Nat):Int)) by lia)]
theorem Mg{n:Nat}{P:Nat->Nat->Bool}{p:Bw}{c j:Nat}(h:p.1=0)(hj:0<j)(i x:Nat):(if i=1/\x=c then some (l3 118) else Fl n P p c 0 j i x)=Fl n P p c 1 j i x:=by
 unfold Fl;by_cases z:i=1/\x=c
 ·rw[RN z,RN (by lia),RN (by lia)]
 ·rw[RM z];by_cases w:x=c/\2*p.1+1<=(i:Int)/\(i:Int)<2*p.1+1+j
  ·rw[RN w,RN w,RM (by lia),RM (by lia),RM (by lia),RM (by lia)]
  ·rw[RM w,RM w]
theorem Lq{n:Nat}{P:Nat->Nat->Bool}{p:Bw}{c j:Nat}(h:0<p.1):Fl n P p c 0 j=Fl n P p c 1 j:=by
 funext i x;unfold Fl;by_cases w:x=c/\2*p.1+1<=(i:Int)/\(i:Int)<2*p.1+1+j
 ·rw[RN w,RN w,RM (by lia),RM (by lia),RM (by lia),RM (by lia)]
 ·rw[RM w,RM w]
theorem Mh{n:Nat}{P:Nat->Nat->Bool}{p:Bw}{c j:Nat}(h:p.2=(n:Int)+1)(h0:0<=p.1)(hp:p.1<p.2)(hj:(j:Int)=2*p.2+1 - 2*p.1)(i x:Nat):(if i=2*n+3/\x=c then some (l3 64) else Fl n P p c 1 j i x)=Fl n P p c 2 j i x:=by
 unfold Fl;by_cases z:i=2*n+3/\x=c
 ·rw[RN z,RN (by lia),RM (by lia),RN (by lia)]
 ·rw[RM z];by_cases w:x=c/\2*p.1+1<=(i:Int)/\(i:Int)<2*p.1+1+j
  ·rw[RN w,RN w];by_cases y:i=1
   ·rw[RN (by lia),RN (by lia)]
   ·rw[RM (by lia),RM (by lia),RM (by lia),RM (by lia)]
  ·rw[RM w,RM w]
theorem Lr{n:Nat}{P:Nat->Nat->Bool}{p:Bw}{c j:Nat}(h:p.2<(n:Int)+1)(hj:(j:Int)=2*p.2+1 - 2*p.1):Fl n P p c 1 j=Fl n P p c 2 j:=by
 funext i x;unfold Fl;by_cases w:x=c/\2*p.1+1<=(i:Int)/\(i:Int)<2*p.1+1+j
 ·rw[RN w,RN w];by_cases y:i=1
  ·rw[RN (by lia),RN (by lia)]
  ·rw[RM (by lia),RM (by lia),RM (by lia),RM (by lia)]
 ·rw[RM w,RM w]
theorem qL{n:Nat}{P P':Nat->Nat->Bool}{kvs:List (List Key×V)}(h:Sg kvs (Fo n P))(e:∀i x,P i x=P' i x):Sg kvs (Fo n P'):=λi x=>by rw[h i x];unfold Fo;rw[e]
theorem mP.add{S T:List Bw}{c:Bw->Nat}{kv:List (Key×V)}{p:Bw}(BS:xt S)(hT:∀q∈T,q∈S)(hp:p∈S)(ca:mP kv T c):mP (putK (putK kv (.inl p.1:Key) (.int (c p:Nat))) (.inl p.2:Key) (.int (c p:Nat))) (T++[p]) c:=by
 intro q hq;have qS:q∈S:=by
  rcases aW.mp hq with h | h
  ·exact hT q h
  ·rw[show q=p by simpa using h];exact hp
 have key:∀x,(q.1=x\/q.2=x)->eI (putK (putK kv (.inl p.1:Key) (.int (c p:Nat))) (.inl p.2:Key) (.int (c p:Nat))) (.inl x:Key)=some (.int (c q:Nat)):=λx hx=>by
  rw[jd];by_cases z:(.inl x:Key)=.inl p.2
  ·rw[RN z,BS.one q qS p hp x hx (.inr (lE z).symm)]
  ·rw[RM z,jd];by_cases y:(.inl x:Key)=.inl p.1
   ·rw[RN y,BS.one q qS p hp x hx (.inl (lE y).symm)]
   ·rw[RM y];rcases aW.mp hq with h | h
    ·rcases hx with e | e
     ·rw[<-e];exact(ca q h).1
     ·rw[<-e];exact(ca q h).2
    ·have e:q=p:=by simpa using h
     subst e;rcases hx with e | e
     ·exact absurd (by rw[e]) y
     ·exact absurd (by rw[e]) z
 exact⟨key _ (.inl rfl),key _ (.inr rfl)⟩
def nU(S:List Bw)(k i j:Nat):List Bw:=S.take (if k<i then 100 else if k=i then j else 0)
theorem Ca{S:List Bw}(h:S.length<=100)(k i:Nat):nU S k i S.length=nU S k (i+1) 0:=by
 unfold nU;by_cases h1:k<i
 ·rw[RN h1,RN (by lia)]
 ·rw[RM h1];by_cases h2:k=i
  ·rw[RN h2,RN (by lia),bZ,c7 h]
  ·rw[RM h2,RM (by lia)];by_cases h3:k=i+1
   ·rw[RN h3]
   ·rw[RM h3]
theorem FI{S:List Bw}{k i j:Nat}{p:Bw}(h:p∈nU S k i j):p∈S:=List.mem_of_mem_take h
theorem sJ{S:List Bw}{i j:Nat}{p:Bw}(h:S[j]? = some p):nU S i i (j+1)=nU S i i j++[p]:=by
 unfold nU;rw[RM (dc i),RN rfl,RM (dc i),RN rfl,bD,h];rfl
theorem vL{S:List Bw}{k i j:Nat}(h:k≠i):nU S k i (j+1)=nU S k i j:=by
 unfold nU;rw[RM h,RM h]
theorem vM{S:List Bw}{k i:Nat}(h:S.length<=100)(hk:k<i):nU S k i 0=S:=by
 unfold nU;rw[RN hk,c7 h]
theorem xA(T:List Bw)(p:Bw)(c:Bw->Nat)(i x:Nat):lW (T++[p]) c i x=(lW T c i x || (tR p i&&decide (x=c p))):=by
 unfold lW;rw[nJ];simp
def He(rs:List Int)(kL kR:Nat->Nat)(i x:Nat):Bool:=rs.any λr=>decide ((i:Int)=2*r+1)&&(decide (kL r.toNat<=x)&&decide (x<=kR r.toNat))
theorem DQ(T:List Int)(r:Int)(kL kR:Nat->Nat)(i x:Nat):He (T++[r]) kL kR i x=(He T kL kR i x || (decide ((i:Int)=2*r+1)&&(decide (kL r.toNat<=x)&&decide (x<=kR r.toNat)))):=by
 unfold He;rw[nJ];simp
theorem KR{kvs:List (List Key×V)}{n i0 x0:Nat}{P P':Nat->Nat->Bool}(h:Sg kvs (Fo n P))(h0:KZ n i0=46)(e:∀i x,P' i x=(P i x || decide (i=i0/\x=x0))):Sg (putK kvs (sK i0 x0) (l3 46)) (Fo n P'):=h.put i0 x0 _ λi x=>by
 unfold Fo;rw[e];by_cases z:i=i0/\x=x0
 ·rw[RN z,RQ z,Bool.or_true,RN rfl,z.1,h0]
 ·rw[RM z,RP z,dQ]
theorem F6{ns:List Int}(O:fO ns)(kL kR:Nat->Nat)(i x:Nat):He ns kL kR i x=xu ns.length kL kR i x:=by
 unfold He xu;rw[df,dF];simp only[aY,RO];constructor
 ·rintro⟨r,hr,h1,h2,h3⟩;have:=O.mem.mp hr;have e:(i - 1) / 2=r.toNat:=by lia
  rw[e];exact⟨⟨by lia,by lia,by lia⟩,h2,h3⟩
 ·rintro⟨⟨h1,h2,h3⟩,h4,h5⟩;refine⟨(((i - 1) / 2:Nat):Int),O.mem.mpr ⟨by lia,by lia⟩,by lia,?_,?_⟩
  ·rw[cA];exact h4
  ·rw[cA];exact h5
def uW:Sp:=λvs H Q _=>∃m o b ns,vs=[.ref m]/\gj H m o b ns/\fO ns/\∀H',ar H H'->Q (.str (tx (lZ ns.length (bI b ns false) (bI b ns true)))) H'
section
variable {S:List Bw}
theorem pd(B:xt S)(nc:∀p∈S,∀q∈S,fJ p q=false){p q:Bw}(hp:p∈S)(hq:q∈S)(h1:p.1<q.1)(h2:q.1<p.2):jv q p=true:=by
 have h3:=nc p hp q hq;unfold fJ at h3;have h4:¬p.2<q.2:=λz=>by rw[RQ h1,RQ h2,RQ z] at h3;cases h3
 have h5:p.2≠q.2:=λz=>by
  have:=B.one p hp q hq p.2 (.inr rfl) (.inr z.symm);rw[this] at h1;lia
 unfold jv;rw[RQ h1,RQ (show q.2<p.2 by lia)];rfl
theorem Af(B:xt S)(nc:∀p∈S,∀q∈S,fJ p q=false){p q:Bw}(hp:p∈S)(hq:q∈S)(ne:p≠q){r:Int}(p1:p.1<=r)(p2:r<p.2)(q1:q.1<=r)(q2:r<q.2):hF S p≠hF S q:=by
 rcases Int.lt_trichotomy p.1 q.1 with h | h | h
 ·have:=hZ B.lt (B.lt p hp) hq (pd B nc hp hq h (by lia));lia
 ·exact absurd (B.one p hp q hq p.1 (.inl rfl) (.inl h.symm)) ne
 ·have:=hZ B.lt (B.lt q hq) hp (pd B nc hq hp h (by lia));lia
theorem oV(B:xt S)(nc:∀p∈S,∀q∈S,fJ p q=false){p q:Bw}(hp:p∈S)(hq:q∈S){r:Int}(e:p.1=r\/p.2=r)(h1:q.1<r)(h2:r<q.2):jv p q=true:=by
 rcases e with e | e
 ·exact pd B nc hq hp (by lia) (by lia)
 ·have pl:=B.lt p hp;rcases Int.lt_trichotomy q.1 p.1 with h | h | h
  ·exact pd B nc hq hp h (by lia)
  ·have:=B.one q hq p hp q.1 (.inl rfl) (.inl h.symm);subst this;lia
  ·have:=pd B nc hp hq h (by lia);unfold jv at this;simp only[aY,RO] at this;lia
theorem xV(B:xt S){p:Bw}(hp:p∈S):1<=hF S p:=by rw[rE B.lt (B.lt p hp)];lia
end
theorem zU{S0 S1:List Bw}{c0 c1:Bw->Nat}{A:List Nat}{P0 P1:Bw->Bool}(n0:S0.Nodup)(n1:S1.Nodup)(hA:A.Nodup)(i0:∀p∈S0,∀q∈S0,P0 p=true->P0 q=true->p≠q->c0 p≠c0 q)(i1:∀p∈S1,∀q∈S1,P1 p=true->P1 q=true->p≠q->c1 p≠c1 q)
  (d0:∀x∈A,∀p∈S0,P0 p=true->x≠c0 p) (d1:∀x∈A,∀p∈S1,P1 p=true->x≠c1 p) (d2:∀p∈S0,∀q∈S1,P0 p=true->P1 q=true->c0 p≠c1 q) {w:Nat} {o:Nat->Bool}
  (ho:∀x,x<w->(o x=true<->x∈A\/(∃p∈S0,P0 p=true/\x=c0 p)\/∃p∈S1,P1 p=true/\x=c1 p)) (bA:∀x∈A,x<w) (b0:∀p∈S0,P0 p=true->c0 p<w) (b1:∀p∈S1,P1 p=true->c1 p<w) :
  ((List.range w).filter o).length=A.length+((S0.filter P0).length+(S1.filter P1).length):=by
 have nm:∀{S:List Bw} {P:Bw->Bool} {c:Bw->Nat},S.Nodup->(∀p∈S,∀q∈S,P p=true->P q=true->p≠q->c p≠c q)->((S.filter P).map c).Nodup:=fun {S P c} nS inj=>by
  unfold List.Nodup;rw[cv];refine fz (fun {p q} hp hq ne=>?_) (List.Pairwise.filter P nS);obtain⟨h1,h2⟩:=a6.mp hp;obtain⟨h3,h4⟩:=a6.mp hq;exact inj p h1 q h3 h2 h4 ne
 have T:((List.range w).filter o).Perm (A++((S0.filter P0).map c0++(S1.filter P1).map c1)):=by
  refine(List.perm_ext_iff_of_nodup (List.Pairwise.filter o mH) ?_).mpr λx=>?_
  ·rw[cS];refine⟨hA,?_,λx hx y hy=>?_⟩
   ·rw[cS];refine⟨nm n0 i0,nm n1 i1,λx hx y hy=>?_⟩;obtain⟨p,hp,rfl⟩:=aT.mp hx;obtain⟨q,hq,rfl⟩:=aT.mp hy;exact d2 p (a6.mp hp).1 q (a6.mp hq).1 (a6.mp hp).2 (a6.mp hq).2
   ·rcases aW.mp hy with hy | hy
    ·obtain⟨p,hp,rfl⟩:=aT.mp hy;exact d0 x hx p (a6.mp hp).1 (a6.mp hp).2
    ·obtain⟨p,hp,rfl⟩:=aT.mp hy;exact d1 x hx p (a6.mp hp).1 (a6.mp hp).2
  ·rw[a6,c8,aW,aW,aT,aT];constructor
   ·rintro⟨h1,h2⟩;rcases(ho x h1).mp h2 with h | ⟨p,hp,h,e⟩ | ⟨p,hp,h,e⟩
    ·exact .inl h
    ·exact .inr (.inl ⟨p,a6.mpr ⟨hp,h⟩,e.symm⟩)
    ·exact .inr (.inr ⟨p,a6.mpr ⟨hp,h⟩,e.symm⟩)
   ·rintro (h | ⟨p,hp,e⟩ | ⟨p,hp,e⟩)
    ·exact⟨bA x h,(ho x (bA x h)).mpr (.inl h)⟩
    ·obtain⟨h1,h2⟩:=a6.mp hp;have:=b0 p h1 h2;rw[e] at this;exact⟨this,(ho x this).mpr (.inr (.inl ⟨p,h1,h2,e.symm⟩))⟩
    ·obtain⟨h1,h2⟩:=a6.mp hp;have:=b1 p h1 h2;rw[e] at this;exact⟨this,(ho x this).mpr (.inr (.inr ⟨p,h1,h2,e.symm⟩))⟩
 rw[T.length_eq,aw,aw,aA,aA]
structure tj (n:Nat) (S0 S1:List Bw):Prop where
 b0:xt S0
 b1:xt S1
 c0:∀ p∈S0,∀ q∈S0,fJ p q=false
 c1:∀ p∈S1,∀ q∈S1,fJ p q=false
 h0:∀ r:Nat,1<=r->r<=n->∃ p∈S0,p.1=(r:Int)\/p.2=(r:Int)
 h1:∀ r:Nat,1<=r->r<=n->∃ p∈S1,p.1=(r:Int)\/p.2=(r:Int)
theorem tj.of{b:Bool}{ns:List Int}(O:fO ns)(nc:NC b ns):tj ns.length (bI b ns false) (bI b ns true):=
 ⟨iO O false,iO O true,nc false,nc true,λ_ h1 h2=>rX O false h1 h2,λ_ h1 h2=>rX O true h1 h2⟩
section
variable {n:Nat} {S0 S1:List Bw}
theorem tj.cL(X:tj n S0 S1){p:Bw}(hp:p∈S0):o7 S0 p % 2=1/\o7 S0 p+1<=2*iq S0:=by
 have h1:=xV X.b0 hp;have h2:=ip hp;unfold o7;lia
theorem tj.cR(X:tj n S0 S1){p:Bw}(hp:p∈S1):nw S0 S1 p % 2=1/\2*iq S0+1<=nw S0 S1 p/\nw S0 S1 p+1<=2*(iq S0+iq S1):=by
 have h1:=xV X.b1 hp;have h2:=ip hp;unfold nw;lia
theorem tj.injL(X:tj n S0 S1){r:Int}:∀p∈S0,∀q∈S0,(decide (p.1<=r)&&decide (r<p.2))=true->(decide (q.1<=r)&&decide (r<q.2))=true->p≠q->o7 S0 p≠o7 S0 q:=λp hp q hq h1 h2 ne=>by
 simp only[aY,RO] at h1 h2;have:=Af X.b0 X.c0 hp hq ne h1.1 h1.2 h2.1 h2.2;have:=ip hp;have:=ip hq;unfold o7;lia
theorem tj.injR(X:tj n S0 S1){r:Int}:∀p∈S1,∀q∈S1,(decide (p.1<=r)&&decide (r<p.2))=true->(decide (q.1<=r)&&decide (r<q.2))=true->p≠q->nw S0 S1 p≠nw S0 S1 q:=λp hp q hq h1 h2 ne=>by
 simp only[aY,RO] at h1 h2;have:=Af X.b1 X.c1 hp hq ne h1.1 h1.2 h2.1 h2.2;have:=xV X.b1 hp;have:=xV X.b1 hq;unfold nw;lia
def Hi(r:Int)(S:List Bw):Nat:=(S.filter λp=>decide (p.1<r)&&decide (r<p.2)).length
theorem tj.ring_open(X:tj n S0 S1){r:Nat}(h1:1<=r)(h2:r<=n)(x:Nat):dq n S0 S1 (2*r+1) x=true<->x∈List.range' (j4 S0 r) (ni S0 S1 r+1-j4 S0 r)\/(∃p∈S0,(decide (p.1<(r:Int))&&decide ((r:Int)<p.2))=true/\x=o7 S0 p)\/∃p∈S1,(decide (p.1<(r:Int))&&decide ((r:Int)<p.2))=true/\x=nw S0 S1 p:=by
 have e:∀p:Bw,tR p (2*r+1)=(decide (p.1<=(r:Int))&&decide ((r:Int)<=p.2)):=λp=>by
  unfold tR;rw[df];simp only[aY,RO];lia
 obtain⟨p0,hp0,e0⟩:=X.h0 r h1 h2;obtain⟨p1,hp1,e1⟩:=X.h1 r h1 h2;have kl:j4 S0 r=o7 S0 p0:=by unfold j4;rw[fL X.b0 hp0 e0]
 have kr:ni S0 S1 r=nw S0 S1 p1:=by unfold ni;rw[fL X.b1 hp1 e1]
 have a0:=X.cL hp0;have a1:=X.cR hp1;have mr:x∈List.range' (j4 S0 r) (ni S0 S1 r+1-j4 S0 r)<->j4 S0 r<=x/\x<=ni S0 S1 r:=by
  rw[jy];constructor
  ·rintro⟨i,hi,rfl⟩;lia
  ·rintro⟨h3,h4⟩;exact⟨x-j4 S0 r,by lia,by lia⟩
 rw[mr];unfold dq lW xu;rw[RQ (show (2*r+1) % 2=1/\3<=2*r+1/\2*r+1<=2*n+1 by lia),eW,dE,dE,dF,dF,show (2*r+1 - 1) / 2=r by lia];simp only[e,aY,RO];constructor
 ·rintro (⟨p,hp,⟨h3,h4⟩,h5⟩ | ⟨p,hp,⟨h3,h4⟩,h5⟩ | h)
  ·by_cases z:p.1=(r:Int)\/p.2=(r:Int)
   ·have:=X.b0.one p hp p0 hp0 r z e0;subst this;left;lia
   ·exact .inr (.inl ⟨p,hp,⟨by lia,by lia⟩,h5⟩)
  ·by_cases z:p.1=(r:Int)\/p.2=(r:Int)
   ·have:=X.b1.one p hp p1 hp1 r z e1;subst this;left;lia
   ·exact .inr (.inr ⟨p,hp,⟨by lia,by lia⟩,h5⟩)
  ·exact .inl h
 ·rintro (h | ⟨p,hp,⟨h3,h4⟩,h5⟩ | ⟨p,hp,⟨h3,h4⟩,h5⟩)
  ·exact .inr (.inr h)
  ·exact .inl ⟨p,hp,⟨by lia,by lia⟩,h5⟩
  ·exact .inr (.inl ⟨p,hp,⟨by lia,by lia⟩,h5⟩)
structure Run (n:Nat) (S0 S1:List Bw) (r:Nat) (a z:Nat):Prop where
 le:a+2<=z
 oa:a % 2=1
 oz:z % 2=1
 w:z<dC S0 S1
 op:∀ x,a<=x->x<=z->dq n S0 S1 (2 * r+1) x=true
 ev:∀ x,x<a\/z<x->x % 2=0->dq n S0 S1 (2 * r+1) x=false
 ct:((List.range (dC S0 S1)).filter (dq n S0 S1 (2 * r+1))).length=(z+1 - a)+(Hi r S0+Hi r S1)
theorem tj.run(X:tj n S0 S1){r:Nat}(h1:1<=r)(h2:r<=n):Run n S0 S1 r (j4 S0 r) (ni S0 S1 r):=by
 obtain⟨p0,hp0,e0⟩:=X.h0 r h1 h2;obtain⟨p1,hp1,e1⟩:=X.h1 r h1 h2;have kl:j4 S0 r=o7 S0 p0:=by unfold j4;rw[fL X.b0 hp0 e0]
 have kr:ni S0 S1 r=nw S0 S1 p1:=by unfold ni;rw[fL X.b1 hp1 e1]
 have a0:=X.cL hp0;have a1:=X.cR hp1;have mr:∀x,x∈List.range' (j4 S0 r) (ni S0 S1 r+1-j4 S0 r)<->j4 S0 r<=x/\x<=ni S0 S1 r:=λx=>by
  rw[jy];constructor
  ·rintro⟨i,hi,rfl⟩;lia
  ·rintro⟨h3,h4⟩;exact⟨x-j4 S0 r,by lia,by lia⟩
 have farL:∀p∈S0,(decide (p.1<(r:Int))&&decide ((r:Int)<p.2))=true->o7 S0 p<j4 S0 r:=λp hp h=>by
  simp only[aY,RO] at h;have h3:=hZ X.b0.lt (X.b0.lt p hp) hp0 (oV X.b0 X.c0 hp0 hp e0 h.1 h.2);have:=ip hp;rw[kl];unfold o7;lia
 have farR:∀p∈S1,(decide (p.1<(r:Int))&&decide ((r:Int)<p.2))=true->ni S0 S1 r<nw S0 S1 p:=λp hp h=>by
  simp only[aY,RO] at h;have h3:=hZ X.b1.lt (X.b1.lt p hp) hp1 (oV X.b1 X.c1 hp1 hp e1 h.1 h.2);have:=xV X.b1 hp1;rw[kr];unfold nw;lia
 have wk:∀p:Bw,(decide (p.1<(r:Int))&&decide ((r:Int)<p.2))=true->(decide (p.1<=(r:Int))&&decide ((r:Int)<p.2))=true:=λp h=>by
  simp only[aY,RO] at h ⊢;lia
 refine⟨by lia,by lia,by lia,by unfold dC;lia,λx h3 h4=>(X.ring_open h1 h2 x).mpr (.inl ((mr x).mpr ⟨h3,h4⟩)),λx h3 h4=>?_,?_⟩
 ·cases e:dq n S0 S1 (2*r+1) x with
  | false=>rfl
  | true=>
   exfalso;rcases(X.ring_open h1 h2 x).mp e with h | ⟨p,hp,_,rfl⟩ | ⟨p,hp,_,rfl⟩
   ·have:=(mr x).mp h;lia
   ·have:=X.cL hp;lia
   ·have:=X.cR hp;lia
 ·have:=zU (A:=List.range' (j4 S0 r) (ni S0 S1 r+1-j4 S0 r)) (w:=dC S0 S1) X.b0.nd X.b1.nd (lH 1) (λp hp q hq g1 g2=>X.injL p hp q hq (wk p g1) (wk q g2)) (λp hp q hq g1 g2=>X.injR p hp q hq (wk p g1) (wk q g2))
   (λx hx p hp h=>by have:=(mr x).mp hx;have:=farL p hp h;lia) (λx hx p hp h=>by have:=(mr x).mp hx;have:=farR p hp h;lia) (λp hp q hq _ _=>by have:=X.cL hp;have:=X.cR hq;lia) (λx _=>X.ring_open h1 h2 x) (λx hx=>by have:=(mr x).mp hx;unfold dC;lia) (λp hp _=>by have:=X.cL hp;unfold dC;lia) (λp hp _=>by have:=X.cR hp;unfold dC;lia)
  rw[this,List.length_range'];rfl
end
end Rm
namespace Rm
open PySem L2
section
def Mt(L:List Int)(p:Nat):Prop:=1<=p/\p<L.length/\L[p-1]?≠L[p]?
instance (L:List Int) (p:Nat):Decidable (Mt L p):=by unfold Mt;infer_instance
end
end Rm
namespace Rm
open PySem L2 PyProof.Rows
theorem Eg(c:Nat):∀l:List Nat,0<=PyProof.Rows.cnt c l
 | []=>by rw[PyProof.Rows.cnt_nil];lia
 | n::r=>by
  rw[PyProof.Rows.cnt_cons];have:=Eg c r
  split<;>lia
theorem Gv{a b:List Nat}{x y:List Nat}(ha:10∉a)(hb:10∉b):a++10::x=b++10::y->a=b/\x=y:=by
 induction a generalizing b with
 | nil=>
  intro h;cases b with
  | nil=>exact⟨rfl,by simpa using h⟩
  | cons c b=>simp at h;exact absurd h.1 (λe=>hb (by rw[<-e];simp))
 | cons c a ih=>
  intro h;cases b with
  | nil=>simp at h;exact absurd h.1 (λe=>ha (by rw[e];simp))
  | cons d b=>
   simp only[gN,kD] at h;obtain⟨h1,h2⟩:=ih (λz=>ha (aM _ z)) (λz=>hb (aM _ z)) h.2;exact⟨by rw[h.1,h1],h2⟩
theorem tK{rs:List (List Nat)}{r:List Nat}(hr:10∉r)(hne:rs≠[])(h:fj rs=r):rs=[r]:=by
 match rs,hne,h with
 | [s],_,h=>rw[show fj [s]=s from rfl] at h;rw[h]
 | s::t::us,_,h=>
  exfalso;have h:s++10::fj (t::us)=r:=h;exact hr (by rw[<-h];simp)
theorem uv:∀{rs ss:List (List Nat)},rs≠[]->ss≠[]->(∀r∈rs,10∉r)->(∀s∈ss,10∉s)->fj rs=fj ss->rs=ss
 | [],_,h,_,_,_,_=>absurd rfl h
 | [r],ss,_,hs,fr,fs,e=>(tK (fr r (by simp)) hs (show fj ss=r from e.symm)).symm
 | r::r2::rs,[],_,hs,_,_,_=>absurd rfl hs
 | r::r2::rs,[s],h,_,fr,fs,e=>tK (fs s (by simp)) h e
 | r::r2::rs,s::s2::ss,_,_,fr,fs,e=>by
  have e:r++10::fj (r2::rs)=s++10::fj (s2::ss):=e;obtain⟨h1,h2⟩:=Gv (fr r (by simp)) (fs s (by simp)) e;rw[h1,uv (by simp) (by simp) (λx hx=>fr x (aM _ hx)) (λx hx=>fs x (aM _ hx)) h2]
theorem wZ:∀(rs:List (List Nat)),Str.join ⟨#[10]⟩ (rs.map tx)=tx (fj rs)
 | []=>rfl
 | [r]=>rfl
 | r::s::rs=>by
  show tx r++(⟨#[10]⟩:Str)++Str.join ⟨#[10]⟩ ((s::rs).map tx)=_;rw[wZ (s::rs),show (⟨#[10]⟩:Str)=tx [10] from rfl,C7,C7];show tx (r++[10]++fj (s::rs))=tx (r++10::fj (s::rs));simp
theorem wM {rs:List (List Nat)} (hne:rs≠[]) (fr:∀r∈rs,10∉r):Txt.split (tx (fj rs)) (Str.ofString "\n")=rs.map tx:=by
 have e10:Str.ofString "\n"=⟨#[10]⟩:=by decide +kernel
 rw[e10];generalize hz:Txt.split (tx (fj rs)) ⟨#[10]⟩=zs;have ez:zs=(zs.map λz=>z.cps.toList).map tx:=by
  rw[be]
  conv=>lhs;rw[<-oE zs]
  exact cM λz _=>by obtain⟨c⟩:=z;simp[tx]
 have hj:=StrLaws.join_split (tx (fj rs)) ⟨#[10]⟩;rw[hz,ez,wZ] at hj;have hf:=StrLaws.split_free (tx (fj rs)) 10;rw[hz] at hf;have hzne:zs≠[]:=λe=>by
  have:=PyProof.Rows.split_len (tx (fj rs)) 10;rw[hz,e] at this;have nn:=Eg 10 (tx (fj rs)).cps.toList;have:((([]:List Str).length:Nat):Int)=0:=rfl;lia
 rw[ez];congr 1;refine uv (by simpa using hzne) hne (λr hr=>?_) fr (C5 hj);obtain⟨z,hz',rfl⟩:=aT.mp hr;exact hf z hz'
theorem DN{n:Nat}{L R:List Bw}(i:Nat):10∉iN n L R i:=λh=>by
 unfold iN at h;obtain⟨x,_,e⟩:=aT.mp h;unfold signG at e
 split at e
 ·split at e
  ·lia
  ·split at e<;>lia
 ·lia
def l6(n:Nat)(L R:List Bw):List (List Nat):=(List.range (2*n+5)).map (iN n L R)
theorem wd(n:Nat)(L R:List Bw):l6 n L R≠[]:=λe=>by
 have:=congrArg List.length e;simp[l6] at this
theorem sX{n:Nat}{L R:List Bw}:∀r∈l6 n L R,10∉r:=λr hr=>by
 obtain⟨i,_,rfl⟩:=aT.mp hr;exact DN i
theorem qq:∀(rs:List (List Nat)),(∀r∈rs,r.length<=100)->(fj rs).length<=rs.length*101
 | [],_=>by simp[fj]
 | [r],h=>by have:=h r (by simp);simp[fj];lia
 | r::s::rs,h=>by
  have h1:=h r (by simp);have h2:=qq (s::rs) λx hx=>h x (aM _ hx);show (r++10::fj (s::rs)).length<=_;simp only[aw,cQ] at h2 ⊢;lia
section
variable {n:Nat} {S0 S1:List Bw}
theorem DG{i x:Nat}:signG n S0 S1 i x=118<->dq n S0 S1 i x=true/\i=1:=by
 unfold signG;cases dq n S0 S1 i x with
 | false=>simp
 | true=>
  simp only[RT,true_and];by_cases h1:i=1
  ·simp[h1]
  ·rw[RM h1];by_cases h2:i=2*n+3
   ·simp[h1,h2]
   ·simp[h1,h2]
theorem Ik{i x:Nat}:signG n S0 S1 i x=64<->dq n S0 S1 i x=true/\i=2*n+3:=by
 unfold signG;cases dq n S0 S1 i x with
 | false=>simp
 | true=>
  simp only[RT,true_and];by_cases h1:i=1
  ·rw[RN h1];constructor
   ·intro z;cases z
   ·intro z;lia
  ·rw[RM h1];by_cases h2:i=2*n+3
   ·simp[h2]
   ·simp[h2]
theorem sR{i x:Nat}:signG n S0 S1 i x=35<->dq n S0 S1 i x=false:=by
 unfold signG;cases dq n S0 S1 i x with
 | false=>simp
 | true=>
  simp only[RT];by_cases h1:i=1
  ·simp[h1]
  ·rw[RM h1];by_cases h2:i=2*n+3<;>simp[h2]
theorem FN(i x:Nat):signG n S0 S1 i x=118\/signG n S0 S1 i x=64\/signG n S0 S1 i x=46\/signG n S0 S1 i x=35:=by
 unfold signG
 split
 ·split
  ·exact .inl rfl
  ·split
   ·exact .inr (.inl rfl)
   ·exact .inr (.inr (.inl rfl))
 ·exact .inr (.inr (.inr rfl))
theorem rY(i:Nat):(iN n S0 S1 i).length=dC S0 S1:=by unfold iN;rw[aA,cy]
theorem AQ{i x:Nat}(h:x<dC S0 S1):(iN n S0 S1 i)[x]? = some (signG n S0 S1 i x):=by
 unfold iN;rw[aP,fG h];rfl
theorem tj.edge(X:tj n S0 S1)(bd:∀p,p∈S0\/p∈S1->0<=p.1/\p.2<=(n:Int)+1){i x:Nat}(h:i=0\/2*n+4<=i\/x=0\/dC S0 S1<=x+1):dq n S0 S1 i x=false:=by
 cases e:dq n S0 S1 i x with
 | false=>rfl
 | true=>
  exfalso;unfold dq lW xu at e;rw[dE,dE,dF,dF] at e;simp only[aY,RO,tR] at e;rcases e with ⟨p,hp,⟨h1,h2⟩,rfl⟩ | ⟨p,hp,⟨h1,h2⟩,rfl⟩ | ⟨⟨h1,h2,h3⟩,h4,h5⟩
  ·have:=bd p (.inl hp);have:=X.cL hp;have:dC S0 S1=2*(iq S0+iq S1)+1:=rfl;lia
  ·have:=bd p (.inr hp);have:=X.cR hp;have:dC S0 S1=2*(iq S0+iq S1)+1:=rfl;lia
  ·have R:=X.run (r:=(i - 1) / 2) (by lia) (by lia);have:=R.oa;have:=R.oz;have:=R.w;have:dC S0 S1=2*(iq S0+iq S1)+1:=rfl;lia
end
theorem KI{α:Type}{xs:List α}{v:α}(e:xs[xs.length - 1]? = some v):nG xs (-1)=some v:=by
 have hne:xs≠[]:=λz=>by rw[z] at e;cases e
 have h:=List.dropLast_concat_getLast hne;have h2:xs.getLast hne=v:=by
  rw[List.getLast_eq_getElem];exact(aF.mp e).2
 rw[h2] at h;rw[<-h];exact L2.oB _ _
abbrev lP (n:Nat) (S0 S1:List Bw):List V:=(((List.range (2*n+5)).map (iN n S0 S1)).map tx).map V.str
theorem Jj{n:Nat}{S0 S1:List Bw}{i:Nat}(h:i<2*n+5):nG (lP n S0 S1) (i:Int)=some (.str (tx (iN n S0 S1 i))):=by
 refine fU ?_;rw[aP,aP,aP,fG h];rfl
def rN(ns:List Int)(k:Nat):Nat:=(b6 ns k).toNat
def lN(ns:List Int)(k:Nat):Nat:=2*rN ns k+1
def cN(b:Bool)(ns:List Int)(k:Nat):Nat:=if b ^^ odd k then nw (bI b ns false) (bI b ns true) (cI ns k) else o7 (bI b ns false) (cI ns k)
def vy(ns:List Int)(k i:Nat):Prop:=min (lN ns k) (lN ns (k+1))<=i/\i<=max (lN ns k) (lN ns (k+1))
section
variable {b:Bool} {ns:List Int}
theorem q9(O:fO ns){k:Nat}(h:k<=ns.length+1):((rN ns k:Nat):Int)=b6 ns k:=by
 have:=O.row_in (i:=k) (by lia);unfold rN;lia
theorem lM(O:fO ns){j k:Nat}(hj:j<=ns.length+1)(hk:k<=ns.length+1)(e:rN ns j=rN ns k):j=k:=by
 refine O.row_inj (by lia) (by lia) ?_;rw[<-q9 O hj,<-q9 O hk,e]
theorem LS(O:fO ns){k:Nat}(h:k<=ns.length+1):rN ns k<=ns.length+1:=by
 have h1:=O.row_in (i:=k) (by lia);have h2:=q9 O h;lia
theorem DS(O:fO ns){k:Nat}(h1:1<=k)(h2:k<=ns.length):1<=rN ns k/\rN ns k<=ns.length:=by
 have a:=LS O (k:=k) (by lia);have e0:rN ns 0=0:=rfl;have eL:rN ns (ns.length+1)=ns.length+1:=by unfold rN;rw[i6];lia
 have b0:rN ns k≠0:=λz=>by have:=lM O (j:=k) (k:=0) (by lia) (by lia) (z.trans e0.symm);lia
 have b1:rN ns k≠ns.length+1:=λz=>by have:=lM O (j:=k) (k:=ns.length+1) (by lia) (by lia) (z.trans eL.symm);lia
 lia
theorem LU(O:fO ns){r:Nat}(h1:1<=r)(h2:r<=ns.length):∃k,1<=k/\k<=ns.length/\rN ns k=r:=by
 obtain⟨i,hi⟩:=dM (O.mem.mpr ⟨(by lia:(1:Int)<=r),by lia⟩);have il:=(aF.mp hi).1;refine⟨i+1,by lia,by lia,?_⟩;unfold rN;rw[oU hi];lia
theorem je(k:Nat)(h:k<=ns.length):cI ns k∈bI b ns (b ^^ odd k):=nW (b:=b) (by lia) (nh b k)
theorem AD(O:fO ns){u:Bool}{p:Bw}(hp:p∈bI b ns u):∃k,k<=ns.length/\(b ^^ odd k)=u/\p=cI ns k:=by
 obtain⟨k,hk,ho,rfl⟩:=gV hp;refine⟨k,by lia,?_,rfl⟩;unfold ce at ho;simpa using ho
theorem jR(O:fO ns){k:Nat}(h:k<=ns.length):(cI ns k).1=((min (rN ns k) (rN ns (k+1)):Nat):Int)/\(cI ns k).2=((max (rN ns k) (rN ns (k+1)):Nat):Int):=by
 have h1:=q9 O (k:=k) (by lia);have h2:=q9 O (k:=k+1) (by lia);unfold cI;constructor
 ·show min _ _=_;lia
 ·show max _ _=_;lia
theorem vp(O:fO ns){k i:Nat}(h:k<=ns.length):tR (cI ns k) i=true<->vy ns k i:=by
 obtain⟨h1,h2⟩:=jR O h;unfold tR vy lN;simp only[aY,RO];rw[h1,h2];lia
theorem FM(O:fO ns){j k:Nat}(hj:j<=ns.length)(hk:k<=ns.length)(hs:(b ^^ odd j)=(b ^^ odd k))(e:cI ns j=cI ns k):j=k:=by
 obtain⟨a1,a2⟩:=jR O hj;obtain⟨c1,c2⟩:=jR O hk;rw[e,c1] at a1;rw[e,c2] at a2;have e1:min (rN ns j) (rN ns (j+1))=min (rN ns k) (rN ns (k+1)):=by lia
 have e2:max (rN ns j) (rN ns (j+1))=max (rN ns k) (rN ns (k+1)):=by lia
 have i1:=lM O (j:=j) (k:=k) (by lia) (by lia);have i2:=lM O (j:=j) (k:=k+1) (by lia) (by lia);have i3:=lM O (j:=j+1) (k:=k) (by lia) (by lia);have i4:=lM O (j:=j+1) (k:=k+1) (by lia) (by lia);have par:odd j=odd k:=by revert hs;cases b<;>cases odd j<;>cases odd k<;>decide
 have:rN ns j=rN ns k\/rN ns j=rN ns (k+1):=by lia
 rcases this with z | z
 ·exact i1 z
 ·have hjk:=i2 z;have z2:rN ns (j+1)=rN ns k:=by lia
  have:=i3 z2;lia
theorem Gs(O:fO ns)(nc:NC b ns){j k i:Nat}(hj:j<=ns.length)(hk:k<=ns.length)(h1:vy ns j i)(h2:vy ns k i)(e:cN b ns j=cN b ns k):j=k:=by
 have X:=tj.of O nc;have mj:=je (b:=b) j hj;have mk:=je (b:=b) k hk;obtain⟨a1,a2⟩:=jR O hj;obtain⟨c1,c2⟩:=jR O hk;have hs:(b ^^ odd j)=(b ^^ odd k):=by
  unfold cN at e;cases hu:(b ^^ odd j)<;>cases hv:(b ^^ odd k)
  ·rfl
  ·rw[hu] at mj e;rw[hv] at mk e;have:=X.cL mj;have:=X.cR mk;simp only[bW,RU,RT] at e;lia
  ·rw[hu] at mj e;rw[hv] at mk e;have:=X.cR mj;have:=X.cL mk;simp only[bW,RU,RT] at e;lia
  ·rfl
 refine FM O hj hk hs ?_;rcases Classical.em (cI ns j=cI ns k) with z | ne
 ·exact z
 ·exfalso;rw[hs] at mj;have B:xt (bI b ns (b ^^ odd k)):=iO O _;have ncs:∀p∈bI b ns (b ^^ odd k),∀q∈bI b ns (b ^^ odd k),fJ p q=false:=nc (b ^^ odd k);have ht:hF (bI b ns (b ^^ odd k)) (cI ns j)≠hF (bI b ns (b ^^ odd k)) (cI ns k):=by
   have h1:2*(cI ns j).1+1<=(i:Int)/\(i:Int)<=2*(cI ns j).2+1:=by unfold vy lN at h1;clear h2 c1 c2 e;lia
   have h2:2*(cI ns k).1+1<=(i:Int)/\(i:Int)<=2*(cI ns k).2+1:=by unfold vy lN at h2;clear h1 a1 a2 e;lia
   clear a1 a2 c1 c2 e;obtain⟨r,hr⟩:∃r,i=2*r\/i=2*r+1:=⟨i / 2,by lia⟩
   rcases hr with hr | hr
   ·exact Af B ncs mj mk ne (r:=(r:Int) - 1) (by lia) (by lia) (by lia) (by lia)
   ·by_cases ej:(cI ns j).1=(r:Int)\/(cI ns j).2=(r:Int)
    ·by_cases ek:(cI ns k).1=(r:Int)\/(cI ns k).2=(r:Int)
     ·exact absurd (B.one _ mj _ mk r ej ek) ne
     ·have:=hZ B.lt (B.lt _ mk) mj (oV B ncs mj mk ej (by lia) (by lia));lia
    ·by_cases ek:(cI ns k).1=(r:Int)\/(cI ns k).2=(r:Int)
     ·have:=hZ B.lt (B.lt _ mj) mk (oV B ncs mk mj ek (by lia) (by lia));lia
     ·exact Af B ncs mj mk ne (r:=(r:Int)) (by lia) (by lia) (by lia) (by lia)
  have g1:=ip mj;have g2:=ip mk;have p1:=xV B mj;have p2:=xV B mk;unfold cN at e;rw[hs] at e;cases hv:(b ^^ odd k)
  ·rw[hv] at e ht g1 g2;simp only[bW,RU] at e;unfold o7 at e;lia
  ·rw[hv] at e ht p1 p2;simp only[RT] at e;unfold nw at e;lia
theorem z5(O:fO ns)(nc:NC b ns){k:Nat}(h:k<=ns.length)(hs:(b ^^ odd k)=false):cN b ns k % 2=1/\cN b ns k+1<=2*iq (bI b ns false):=by
 have X:=tj.of O nc;have m:=je (b:=b) k h;rw[hs] at m;have:=X.cL m;unfold cN;rw[hs];exact this
theorem zZ(O:fO ns)(nc:NC b ns){k:Nat}(h:k<=ns.length)(hs:(b ^^ odd k)=true):cN b ns k % 2=1/\2*iq (bI b ns false)+1<=cN b ns k/\cN b ns k+1<=2*(iq (bI b ns false)+iq (bI b ns true)):=by
 have X:=tj.of O nc;have m:=je (b:=b) k h;rw[hs] at m;have:=X.cR m;unfold cN;rw[hs];exact this
theorem zY(O:fO ns)(nc:NC b ns){k:Nat}(h:k<=ns.length):cN b ns k % 2=1:=by
 cases hs:(b ^^ odd k)
 ·exact(z5 O nc h hs).1
 ·exact(zZ O nc h hs).1
theorem uY(k:Nat):(b ^^ odd (k+1))=!(b ^^ odd k):=by
 have:odd (k+1)=!odd k:=by unfold odd;rcases fR k with h | h<;>simp[h,Nat.add_mod]
 rw[this];cases b<;>cases odd k<;>rfl
theorem wL(O:fO ns){k:Nat}(h:k<=ns.length):((cI ns k).1=(rN ns k:Int)\/(cI ns k).2=(rN ns k:Int))/\((cI ns k).1=(rN ns (k+1):Int)\/(cI ns k).2=(rN ns (k+1):Int)):=by
 obtain⟨h1,h2⟩:=jR O h;rw[h1,h2];lia
theorem sW(O:fO ns)(nc:NC b ns){k:Nat}(h:k+1<=ns.length):j4 (bI b ns false) (rN ns (k+1))=min (cN b ns k) (cN b ns (k+1))/\ni (bI b ns false) (bI b ns true) (rN ns (k+1))=max (cN b ns k) (cN b ns (k+1)):=by
 have e1:=(wL O (k:=k) (by lia)).2;have e2:=(wL O (k:=k+1) (by lia)).1;have m1:=je (b:=b) (ns:=ns) k (by lia);have m2:=je (b:=b) (ns:=ns) (k+1) (by lia);have sn:=uY (b:=b) k;cases hs:(b ^^ odd k)
 ·have hs2:(b ^^ odd (k+1))=true:=by rw[sn,hs];rfl
  have a1:=z5 O nc (k:=k) (by lia) hs;have a2:=zZ O nc (k:=k+1) (by lia) hs2;rw[hs] at m1;rw[hs2] at m2;have k1:j4 (bI b ns false) (rN ns (k+1))=cN b ns k:=by unfold j4 cN;rw[fL (iO O false) m1 e1,hs];rfl
  have k2:ni (bI b ns false) (bI b ns true) (rN ns (k+1))=cN b ns (k+1):=by unfold ni cN;rw[fL (iO O true) m2 e2,hs2];rfl
  lia
 ·have hs2:(b ^^ odd (k+1))=false:=by rw[sn,hs];rfl
  have a1:=zZ O nc (k:=k) (by lia) hs;have a2:=z5 O nc (k:=k+1) (by lia) hs2;rw[hs] at m1;rw[hs2] at m2;have k1:j4 (bI b ns false) (rN ns (k+1))=cN b ns (k+1):=by unfold j4 cN;rw[fL (iO O false) m2 e2,hs2];rfl
  have k2:ni (bI b ns false) (bI b ns true) (rN ns (k+1))=cN b ns k:=by unfold ni cN;rw[fL (iO O true) m1 e1,hs];rfl
  lia
def qh(b:Bool)(ns:List Int)(i x:Nat):Bool:=dq ns.length (bI b ns false) (bI b ns true) i x
def Ek(b:Bool)(ns:List Int)(k i x:Nat):Prop:=i=lN ns (k+1)/\min (cN b ns k) (cN b ns (k+1))<=x/\x<=max (cN b ns k) (cN b ns (k+1))
theorem so(O:fO ns)(nc:NC b ns){i x:Nat}:qh b ns i x=true<->(∃k,k<=ns.length/\vy ns k i/\x=cN b ns k)\/∃k,k+1<=ns.length/\Ek b ns k i x:=by
 unfold qh dq lW xu;rw[dE,dE,dF,dF];constructor
 ·rintro (⟨p,hp,h⟩ | ⟨p,hp,h⟩ | h)
  ·obtain⟨k,hk,hs,rfl⟩:=AD O hp;rw[aY,RO] at h;exact .inl ⟨k,hk,(vp O hk).mp h.1,by rw[h.2];unfold cN;rw[hs];rfl⟩
  ·obtain⟨k,hk,hs,rfl⟩:=AD O hp;rw[aY,RO] at h;exact .inl ⟨k,hk,(vp O hk).mp h.1,by rw[h.2];unfold cN;rw[hs];rfl⟩
  ·simp only[aY,RO] at h;obtain⟨⟨h1,h2,h3⟩,h4,h5⟩:=h;obtain⟨k,k1,k2,e⟩:=LU O (r:=(i - 1) / 2) (by lia) (by lia);obtain⟨k',rfl⟩:∃k',k=k'+1:=⟨k - 1,by lia⟩
   obtain⟨r1,r2⟩:=sW O nc (k:=k') (by lia);rw[e] at r1 r2;exact .inr ⟨k',by lia,by unfold lN;lia,by rw[<-r1];exact h4,by rw[<-r2];exact h5⟩
 ·rintro (⟨k,hk,hc,rfl⟩ | ⟨k,hk,e,h4,h5⟩)
  ·have m:=je (b:=b) k hk;have hi:=(vp O hk).mpr hc;cases hs:(b ^^ odd k)
   ·rw[hs] at m;exact .inl ⟨_,m,by rw[hi,eW,RO];unfold cN;rw[hs];rfl⟩
   ·rw[hs] at m;exact .inr (.inl ⟨_,m,by rw[hi,eW,RO];unfold cN;rw[hs];rfl⟩)
  ·obtain⟨r1,r2⟩:=sW O nc hk;have rm:=DS O (k:=k+1) (by lia) hk;refine .inr (.inr ?_);simp only[aY,RO];unfold lN at e;have er:(i - 1) / 2=rN ns (k+1):=by lia
   rw[er,r1,r2];exact⟨⟨by lia,by lia,by lia⟩,h4,h5⟩
theorem Dq(O:fO ns)(nc:NC b ns){j k:Nat}(hj:j<=ns.length)(hk:k+1<=ns.length)(hc:vy ns j (lN ns (k+1)))(n1:j≠k)(n2:j≠k+1):cN b ns j<min (cN b ns k) (cN b ns (k+1))\/max (cN b ns k) (cN b ns (k+1))<cN b ns j:=by
 have X:=tj.of O nc;obtain⟨r1,r2⟩:=sW O nc hk;obtain⟨a1,a2⟩:=jR O hj;have i1:=lM O (j:=j) (k:=k+1) (by lia) (by lia);have i2:=lM O (j:=j+1) (k:=k+1) (by lia) (by lia);have m:=je (b:=b) j hj;unfold vy lN at hc;have s1:(cI ns j).1<(rN ns (k+1):Int):=by rw[a1];lia
 have s2:(rN ns (k+1):Int)<(cI ns j).2:=by rw[a2];lia
 have rm:=DS O (k:=k+1) (by lia) hk;rw[<-r1,<-r2];cases hs:(b ^^ odd j)
 ·left;rw[hs] at m;obtain⟨p0,hp0,e0⟩:=X.h0 _ rm.1 rm.2;have h3:=hZ X.b0.lt (X.b0.lt _ m) hp0 (oV X.b0 X.c0 hp0 m e0 s1 s2);have:=ip m;unfold j4 cN;rw[fL X.b0 hp0 e0,hs];show o7 _ _<o7 _ _;unfold o7;lia
 ·right;rw[hs] at m;obtain⟨p1,hp1,e1⟩:=X.h1 _ rm.1 rm.2;have h3:=hZ X.b1.lt (X.b1.lt _ m) hp1 (oV X.b1 X.c1 hp1 m e1 s1 s2);have:=xV X.b1 hp1;unfold ni cN;rw[fL X.b1 hp1 e1,hs];show nw _ _ _<nw _ _ _;unfold nw;lia
end
abbrev kq:=Nat×Nat
def Es(c d:kq):Prop:=(c.1=d.1/\(c.2=d.2+1\/d.2=c.2+1))\/(c.2=d.2/\(c.1=d.1+1\/d.1=c.1+1))
section
variable {b:Bool} {ns:List Int}
theorem xh{k e:Nat}(h:vy ns k e)(he:e % 2=0):vy ns k (e - 1)/\vy ns k (e+1):=by
 unfold vy lN at *;lia
theorem xq(O:fO ns)(nc:NC b ns){k i e:Nat}(hk:k+1<=ns.length)(h:Ek b ns k i e)(he:e % 2=0):Ek b ns k i (e - 1)/\Ek b ns k i (e+1):=by
 have o1:=zY O nc (k:=k) (by lia);have o2:=zY O nc (k:=k+1) hk;unfold Ek at *;lia
theorem Gx(O:fO ns)(nc:NC b ns){c d:kq}(hc:qh b ns c.1 c.2=true)(hd:qh b ns d.1 d.2=true)(h:Es c d):(∃k,k<=ns.length/\c.2=cN b ns k/\d.2=cN b ns k/\vy ns k c.1/\vy ns k d.1)\/∃k,k+1<=ns.length/\Ek b ns k c.1 c.2/\Ek b ns k d.1 d.2:=by
 have ev:∀{i x:Nat},qh b ns i x=true->i % 2=0->∃k,k<=ns.length/\vy ns k i/\x=cN b ns k:=fun {i x} ho he=>by
  rcases(so O nc).mp ho with z | ⟨k,_,e,_⟩
  ·exact z
  ·unfold lN at e;lia
 have ec:∀{i x:Nat},qh b ns i x=true->x % 2=0->∃k,k+1<=ns.length/\Ek b ns k i x:=fun {i x} ho he=>by
  rcases(so O nc).mp ho with ⟨k,hk,_,e⟩ | z
  ·have:=zY O nc hk;lia
  ·exact z
 rcases h with ⟨e,h⟩ | ⟨e,h⟩
 ·right;by_cases z:c.2 % 2=0
  ·obtain⟨k,hk,ha⟩:=ec hc z;obtain⟨w1,w2⟩:=xq O nc hk ha z;refine⟨k,hk,ha,?_⟩;rw[<-e];rcases h with h | h
   ·rw[show d.2=c.2 - 1 by lia];exact w1
   ·rw[h];exact w2
  ·obtain⟨k,hk,ha⟩:=ec hd (by lia);obtain⟨w1,w2⟩:=xq O nc hk ha (by lia);refine⟨k,hk,?_,ha⟩;rw[e];rcases h with h | h
   ·rw[h];exact w2
   ·rw[show c.2=d.2 - 1 by lia];exact w1
 ·left;by_cases z:c.1 % 2=0
  ·obtain⟨k,hk,ha,ek⟩:=ev hc z;obtain⟨w1,w2⟩:=xh ha z;refine⟨k,hk,ek,e▸ek,ha,?_⟩;rcases h with h | h
   ·rw[show d.1=c.1 - 1 by lia];exact w1
   ·rw[h];exact w2
  ·obtain⟨k,hk,ha,ek⟩:=ev hd (by lia);obtain⟨w1,w2⟩:=xh ha (by lia);refine⟨k,hk,e.trans ek,ek,?_,ha⟩;rcases h with h | h
   ·rw[h];exact w2
   ·rw[show c.1=d.1 - 1 by lia];exact w1
end
def sg(a z:Nat):List Nat:=if a<=z then List.range' a (z-a+1) else (List.range' z (a-z+1)).reverse
theorem gg{a z i:Nat}:i∈sg a z<->min a z<=i/\i<=max a z:=by
 unfold sg
 split
 ·rw[jy];constructor
  ·rintro⟨j,hj,rfl⟩;lia
  ·rintro⟨h1,h2⟩;exact⟨i-a,by lia,by lia⟩
 ·rw[List.mem_reverse,jy];constructor
  ·rintro⟨j,hj,rfl⟩;lia
  ·rintro⟨h1,h2⟩;exact⟨i-z,by lia,by lia⟩
theorem sS(a z:Nat):(sg a z).Nodup:=by
 unfold sg
 split
 ·exact lH 1
 ·exact(iy _).nodup_iff.mpr (lH 1)
theorem vY(a:Nat):sg a a=[a]:=by unfold sg;rw[RN (aH _),mh];rfl
theorem w5{a z:Nat}(h:a<z):sg a z=a::sg (a+1) z:=by
 unfold sg;rw[RN (by lia),RN (by lia),List.range'_succ,show z-a=z-(a+1)+1 by lia]
theorem w6{a z:Nat}(h:z<a):sg a z=a::sg (a - 1) z:=by
 have e:List.range' z (a-z+1)=List.range' z (a-z)++[a]:=by
  rw[List.range'_concat];congr 2;lia
 unfold sg;rw[RM (by lia),e,kH];show a::(List.range' z (a-z)).reverse=_;congr 1;by_cases q:a - 1<=z
 ·rw[RN q,show a-z=1 by lia,show a - 1=z by lia,mh];rfl
 ·rw[RM q,show a - 1-z+1=a-z by lia]
def Cs{α:Type}(l:List α)(x y:α):Prop:=∃A B,l=A++x::y::B
theorem Cs.cons{α:Type}{l:List α}{x y z:α}(h:Cs l x y):Cs (z::l) x y:=by
 obtain⟨A,B,rfl⟩:=h;exact⟨z::A,B,rfl⟩
theorem Cs.left{α:Type}{l m:List α}{x y:α}(h:Cs l x y):Cs (l++m) x y:=by
 obtain⟨A,B,rfl⟩:=h;exact⟨A,B++m,by simp⟩
theorem Cs.right{α:Type}{l m:List α}{x y:α}(h:Cs m x y):Cs (l++m) x y:=by
 obtain⟨A,B,rfl⟩:=h;exact⟨l++A,B,by simp⟩
theorem Cs.map{α β:Type}(f:α->β){l:List α}{x y:α}(h:Cs l x y):Cs (l.map f) (f x) (f y):=by
 obtain⟨A,B,rfl⟩:=h;exact⟨A.map f,B.map f,by simp⟩
theorem mQ(a z:Nat):∃l,sg a z=a::l:=by
 rcases Nat.lt_trichotomy a z with h | h | h
 ·exact⟨_,w5 h⟩
 ·subst h;exact⟨_,vY a⟩
 ·exact⟨_,w6 h⟩
theorem AO:∀(m a z i:Nat),z-a+(a-z)=m->i∈sg a z->i+1∈sg a z->Cs (sg a z) i (i+1)\/Cs (sg a z) (i+1) i:=by
 intro m
 induction m with
 | zero=>
  intro a z i hm h1 h2;have:=gg.mp h1;have:=gg.mp h2;lia
 | succ m ih=>
  intro a z i hm h1 h2;have g1:=gg.mp h1;have g2:=gg.mp h2;rcases ft a z with h | h
  ·have g:a<=i/\i+1<=z:=by lia
   have mu:∀j,a+1<=j->j<=z->j∈sg (a+1) z:=λj p q=>gg.mpr ⟨bF (gX _ _) p,bF q (Nat.le_max_right _ _)⟩;clear g1 g2 h1 h2;rw[w5 h];by_cases e:i=a
   ·subst e;obtain⟨l,hl⟩:=mQ (i+1) z;rw[hl];exact .inl ⟨[],l,rfl⟩
   ·exact(ih (a+1) z i (by lia) (mu _ (by lia) (by lia)) (mu _ (by lia) g.2)).imp Cs.cons Cs.cons
  ·have h:z<a:=by lia
   have g:z<=i/\i+1<=a:=by lia
   have mu:∀j,z<=j->j<=a - 1->j∈sg (a - 1) z:=λj p q=>gg.mpr ⟨bF (Nat.min_le_right _ _) p,bF q (Nat.le_max_left _ _)⟩;clear g1 g2 h1 h2;rw[w6 h];by_cases e:i+1=a
   ·subst e;obtain⟨l,hl⟩:=mQ i z;rw[show i+1 - 1=i by lia,hl];exact .inr ⟨[],l,rfl⟩
   ·exact(ih (a - 1) z i (by lia) (mu _ g.1 (by lia)) (mu _ (by lia) (by lia))).imp Cs.cons Cs.cons
theorem AN:∀(m a z:Nat),z-a+(a-z)=m->∃l,sg a z=l++[z]:=by
 intro m
 induction m with
 | zero=>
  intro a z hm;have:a=z:=by lia
  subst this;exact⟨[],vY a⟩
 | succ m ih=>
  intro a z hm;rcases ft a z with h | h
  ·obtain⟨l,hl⟩:=ih (a+1) z (by lia);exact⟨a::l,by rw[w5 h,hl];rfl⟩
  ·obtain⟨l,hl⟩:=ih (a - 1) z (by lia);exact⟨a::l,by rw[w6 (by lia),hl];rfl⟩
theorem FP{a z:Nat}(h:a≠z):∃l,sg a z=a::(l++[z])/\l=((sg a z).drop 1).dropLast:=by
 obtain⟨l,hl⟩:=mQ a z;obtain⟨m,hm⟩:=AN _ a z rfl;rw[hl] at hm;cases m with
 | nil=>
  have:a=z:=by simpa using congrArg List.head? hm
  exact absurd this h
 | cons y m=>
  have e:l=m++[z]:=by simpa using congrArg List.tail hm
  refine⟨m,by rw[hl,e],?_⟩;rw[hl,e];simp
section
variable {b:Bool} {ns:List Int}
def vS(b:Bool)(ns:List Int)(k:Nat):List kq:=(sg (lN ns k) (lN ns (k+1))).map λi=>(i,cN b ns k)
def rS(b:Bool)(ns:List Int)(k:Nat):List kq:=(((sg (cN b ns k) (cN b ns (k+1))).drop 1).dropLast).map λx=>(lN ns (k+1),x)
def wS(b:Bool)(ns:List Int):Nat->List kq
 | 0=>vS b ns 0
 | k+1=>wS b ns k++(rS b ns k++vS b ns (k+1))
theorem pH{k:Nat}{c:kq}:c∈vS b ns k<->vy ns k c.1/\c.2=cN b ns k:=by
 unfold vS;rw[aT];constructor
 ·rintro⟨i,hi,rfl⟩;exact⟨gg.mp hi,rfl⟩
 ·rintro⟨h1,h2⟩;exact⟨c.1,gg.mpr h1,by rw[<-h2]⟩
theorem Hn(O:fO ns)(nc:NC b ns){k:Nat}(h:k+1<=ns.length):cN b ns k≠cN b ns (k+1):=λe=>by
 have:=uY (b:=b) k;cases hs:(b ^^ odd k)
 ·have h2:(b ^^ odd (k+1))=true:=by rw[this,hs];rfl
  have:=z5 O nc (k:=k) (by lia) hs;have:=zZ O nc (k:=k+1) h h2;lia
 ·have h2:(b ^^ odd (k+1))=false:=by rw[this,hs];rfl
  have:=zZ O nc (k:=k) (by lia) hs;have:=z5 O nc (k:=k+1) h h2;lia
theorem j0(O:fO ns)(nc:NC b ns){k:Nat}(h:k+1<=ns.length):(sg (cN b ns k) (cN b ns (k+1))).map (λx=>(lN ns (k+1),x))=(lN ns (k+1),cN b ns k)::(rS b ns k++[(lN ns (k+1),cN b ns (k+1))]):=by
 obtain⟨l,h1,h2⟩:=FP (Hn O nc h);unfold rS;rw[<-h2,h1];simp
theorem tG(O:fO ns)(nc:NC b ns){k:Nat}(h:k+1<=ns.length){c:kq}:c∈rS b ns k<->Ek b ns k c.1 c.2/\c.2≠cN b ns k/\c.2≠cN b ns (k+1):=by
 have nd:((sg (cN b ns k) (cN b ns (k+1))).map (λx=>(lN ns (k+1),x))).Nodup:=by
  unfold List.Nodup;rw[cv];exact(sS _ _).imp λhne e=>hne (congrArg Prod.snd e)
 have mm:c∈(sg (cN b ns k) (cN b ns (k+1))).map (λx=>(lN ns (k+1),x))<->Ek b ns k c.1 c.2:=by
  rw[aT];unfold Ek;constructor
  ·rintro⟨x,hx,rfl⟩;exact⟨rfl,gg.mp hx⟩
  ·rintro⟨h1,h2⟩;exact⟨c.2,gg.mpr h2,by rw[<-h1]⟩
 rw[<-mm];rw[j0 O nc h] at nd ⊢;rw[bc] at nd;obtain⟨n1,n2⟩:=nd;rw[cS] at n2;constructor
 ·intro hc;refine⟨by simp[hc],λe=>?_,λe=>?_⟩
  ·have:c=(lN ns (k+1),cN b ns k):=by
    have:=mm;rw[j0 O nc h] at this;exact fE (this.mp (by simp[hc])).1 e
   exact n1 (by rw[<-this];simp[hc])
  ·have:c=(lN ns (k+1),cN b ns (k+1)):=by
    have:=mm;rw[j0 O nc h] at this;exact fE (this.mp (by simp[hc])).1 e
   exact n2.2.2 c hc _ (by simp) this
 ·rintro⟨hc,e1,e2⟩;rcases aK.mp hc with z | z
  ·exact absurd (congrArg Prod.snd z) e1
  ·rcases aW.mp z with z | z
   ·exact z
   ·exact absurd (congrArg Prod.snd (dL.mp z)) e2
theorem zF(O:fO ns)(nc:NC b ns){c:kq}:∀{m:Nat},m<=ns.length->(c∈wS b ns m<->(∃k,k<=m/\c∈vS b ns k)\/∃k,k<m/\c∈rS b ns k)
 | 0,_=>by
  constructor
  ·intro h;exact .inl ⟨0,aH _,h⟩
  ·rintro (⟨k,hk,h⟩ | ⟨k,hk,_⟩)
   ·rw[show k=0 by lia] at h;exact h
   ·lia
 | m+1,hm=>by
  show c∈wS b ns m++(rS b ns m++vS b ns (m+1))<->_;rw[aW,aW,zF O nc (by lia)];constructor
  ·rintro ((⟨k,hk,h⟩ | ⟨k,hk,h⟩) | h | h)
   ·exact .inl ⟨k,by lia,h⟩
   ·exact .inr ⟨k,by lia,h⟩
   ·exact .inr ⟨m,by lia,h⟩
   ·exact .inl ⟨m+1,aH _,h⟩
  ·rintro (⟨k,hk,h⟩ | ⟨k,hk,h⟩)
   ·by_cases e:k=m+1
    ·subst e;exact .inr (.inr h)
    ·exact .inl (.inl ⟨k,by lia,h⟩)
   ·by_cases e:k=m
    ·subst e;exact .inr (.inl h)
    ·exact .inl (.inr ⟨k,by lia,h⟩)
theorem sF(O:fO ns)(nc:NC b ns){j k:Nat}(hj:j<=ns.length)(hk:k+1<=ns.length){c:kq}(h1:c∈vS b ns j)(h2:c∈rS b ns k):False:=by
 obtain⟨v1,v2⟩:=pH.mp h1;obtain⟨⟨e,a1,a2⟩,n1,n2⟩:=(tG O nc hk).mp h2;rw[e] at v1;have:=Dq O nc hj hk v1 (λz=>n1 (by rw[v2,z])) (λz=>n2 (by rw[v2,z]));lia
theorem nT(O:fO ns)(nc:NC b ns):∀{m:Nat},m<=ns.length->(wS b ns m).Nodup:=by
 have vn:∀k,(vS b ns k).Nodup:=λk=>by
  unfold vS List.Nodup;rw[cv];exact(sS _ _).imp λhne e=>hne (congrArg Prod.fst e)
 have rn:∀k,k+1<=ns.length->(rS b ns k).Nodup:=λk hk=>by
  have nd:((sg (cN b ns k) (cN b ns (k+1))).map (λx=>(lN ns (k+1),x))).Nodup:=by
   unfold List.Nodup;rw[cv];exact(sS _ _).imp λhne e=>hne (congrArg Prod.snd e)
  rw[j0 O nc hk,bc] at nd;exact(cS.mp nd.2).1
 intro m
 induction m with
 | zero=>intro _;exact vn 0
 | succ m ih=>
  intro hm;show (wS b ns m++(rS b ns m++vS b ns (m+1))).Nodup;rw[cS];refine⟨ih (by lia),?_,λc hc d hd e=>?_⟩
  ·rw[cS];exact⟨rn m hm,vn _,λc hc d hd e=>sF O nc (by lia) hm (e▸hd) hc⟩
  ·subst e;rcases(zF O nc (by lia)).mp hc with ⟨k,hk,h⟩ | ⟨k,hk,h⟩
   ·rcases aW.mp hd with z | z
    ·exact sF O nc (by lia) hm h z
    ·obtain⟨a1,a2⟩:=pH.mp h;obtain⟨b1,b2⟩:=pH.mp z;have:=Gs O nc (by lia) (by lia) a1 b1 (a2.symm.trans b2);lia
   ·rcases aW.mp hd with z | z
    ·have e1:=((tG O nc (by lia)).mp h).1.1;have e2:=((tG O nc hm).mp z).1.1;have:=lM O (j:=k+1) (k:=m+1) (by lia) (by lia) (by unfold lN at e1 e2;lia);lia
    ·exact sF O nc (by lia) (by lia) z h
theorem hU(O:fO ns)(nc:NC b ns){c:kq}:c∈wS b ns ns.length<->qh b ns c.1 c.2=true:=by
 rw[zF O nc (aH _),so O nc];constructor
 ·rintro (⟨k,hk,h⟩ | ⟨k,hk,h⟩)
  ·obtain⟨h1,h2⟩:=pH.mp h;exact .inl ⟨k,hk,h1,h2⟩
  ·exact .inr ⟨k,by lia,((tG O nc (by lia)).mp h).1⟩
 ·rintro (⟨k,hk,h1,h2⟩ | ⟨k,hk,h⟩)
  ·exact .inl ⟨k,hk,pH.mpr ⟨h1,h2⟩⟩
  ·by_cases e1:c.2=cN b ns k
   ·exact .inl ⟨k,by lia,pH.mpr ⟨by rw[h.1];unfold vy;lia,e1⟩⟩
   ·by_cases e2:c.2=cN b ns (k+1)
    ·exact .inl ⟨k+1,hk,pH.mpr ⟨by rw[h.1];unfold vy;lia,e2⟩⟩
    ·exact .inr ⟨k,by lia,(tG O nc hk).mpr ⟨h,e1,e2⟩⟩
end
theorem Cs.app{α:Type}{x y:α}:∀{l m:List α},Cs (l++m) x y->Cs l x y\/Cs m x y\/(∃l',l=l'++[x])/\∃m',m=y::m'
 | [],m,h=>.inr (.inl h)
 | a::l,m,⟨A,B,e⟩=>by
  cases A with
  | nil=>
   have e0:a=x:=(cG e).1;have e1:l++m=y::B:=(cG e).2;subst e0;cases l with
   | nil=>exact .inr (.inr ⟨⟨[],rfl⟩,B,e1⟩)
   | cons c l=>
    have e2:c=y:=(cG e1).1;subst e2;exact .inl ⟨[],l,rfl⟩
  | cons a' A=>
   have e0:a=a':=(cG e).1;have e1:l++m=A++x::y::B:=(cG e).2;rcases Cs.app (l:=l) (m:=m) ⟨A,B,e1⟩ with h | h | ⟨⟨l',hl'⟩,h⟩
   ·exact .inl h.cons
   ·exact .inr (.inl h)
   ·exact .inr (.inr ⟨⟨a::l',by rw[hl'];rfl⟩,h⟩)
theorem Cs.sg{a z i j:Nat}:∀(m:Nat),z-a+(a-z)=m->Cs (sg a z) i j->j=i+1\/i=j+1:=by
 intro m
 induction m generalizing a z with
 | zero=>
  intro hm h;have:a=z:=by lia
  subst this;rw[vY] at h;obtain⟨A,B,e⟩:=h;have:=congrArg List.length e;simp at this;lia
 | succ m ih=>
  intro hm h;have step:∀a',(a'=a+1\/a'=a - 1/\0<a)->z-a'+(a' - z)=m->Cs (a::Rm.sg a' z) i j->j=i+1\/i=j+1:=λa' ha hm' hc=>by
   obtain⟨A,B,e⟩:=hc;cases A with
   | nil=>
    have e0:a=i:=(cG e).1;have e1:Rm.sg a' z=j::B:=(cG e).2;obtain⟨l,hl⟩:=mQ a' z;rw[hl] at e1;have e2:a'=j:=(cG e1).1;lia
   | cons a'' A=>
    have e1:Rm.sg a' z=A++i::j::B:=(cG e).2;exact ih hm' ⟨A,B,e1⟩
  rcases ft a z with g | g
  ·rw[w5 g] at h;exact step (a+1) (.inl rfl) (by lia) h
  ·rw[w6 (by lia)] at h;exact step (a - 1) (.inr ⟨rfl,by lia⟩) (by lia) h
theorem Cs.unmap{α β:Type}{f:α->β}{l:List α}{x y:β}(h:Cs (l.map f) x y):∃a c,x=f a/\y=f c/\Cs l a c:=by
 obtain⟨A,B,e⟩:=h;obtain⟨A',l',rfl,e1,e2⟩:=List.map_eq_append_iff.mp e;cases l' with
 | nil=>cases e2
 | cons a l'=>
  cases l' with
  | nil=>simp at e2
  | cons c l'=>
   simp only[av,kD] at e2;exact⟨a,c,e2.1.symm,e2.2.1.symm,A',l',rfl⟩
section
variable {b:Bool} {ns:List Int}
theorem rV(k:Nat):∃l,vS b ns k=(lN ns k,cN b ns k)::l:=by
 obtain⟨l,hl⟩:=mQ (lN ns k) (lN ns (k+1));exact⟨_,by unfold vS;rw[hl];rfl⟩
theorem zx(k:Nat):∃l,vS b ns k=l++[(lN ns (k+1),cN b ns k)]:=by
 obtain⟨l,hl⟩:=AN _ (lN ns k) (lN ns (k+1)) rfl;exact⟨l.map λi=>(i,cN b ns k),by unfold vS;rw[hl,aX];rfl⟩
theorem rT:∀k,∃l,wS b ns k=l++[(lN ns (k+1),cN b ns k)]
 | 0=>zx 0
 | k+1=>by
  obtain⟨l,hl⟩:=zx (b:=b) (ns:=ns) (k+1);exact⟨wS b ns k++(rS b ns k++l),by show wS b ns k++(rS b ns k++vS b ns (k+1))=_;rw[hl];simp⟩
theorem LB:∀{k m:Nat},k<=m->∃A B,wS b ns m=A++(vS b ns k++B)
 | k,0,h=>by rw[show k=0 by lia];exact⟨[],[],by simp[wS]⟩
 | k,m+1,h=>by
  by_cases e:k=m+1
  ·subst e;exact⟨wS b ns m++rS b ns m,[],by simp[wS]⟩
  ·obtain⟨A,B,hAB⟩:=LB (k:=k) (m:=m) (by lia);exact⟨A,B++(rS b ns m++vS b ns (m+1)),by show wS b ns m++_=_;rw[hAB];simp⟩
theorem LC(O:fO ns)(nc:NC b ns):∀{k m:Nat},k+1<=m->m<=ns.length->∃A B,wS b ns m=A++((sg (cN b ns k) (cN b ns (k+1))).map (λx=>(lN ns (k+1),x))++B)
 | k,0,h,_=>by lia
 | k,m+1,h,hm=>by
  by_cases e:k=m
  ·subst e;obtain⟨A,hA⟩:=rT (b:=b) (ns:=ns) k;obtain⟨V,hV⟩:=rV (b:=b) (ns:=ns) (k+1);refine⟨A,V,?_⟩;rw[j0 O nc (by lia)];show wS b ns k++(rS b ns k++vS b ns (k+1))=_;rw[hA,hV];simp
  ·obtain⟨A,B,hAB⟩:=LC O nc (k:=k) (m:=m) (by lia) (by lia);exact⟨A,B++(rS b ns m++vS b ns (m+1)),by show wS b ns m++_=_;rw[hAB];simp⟩
theorem El(O:fO ns)(nc:NC b ns){c d:kq}(hc:qh b ns c.1 c.2=true)(hd:qh b ns d.1 d.2=true)(h:Es c d):Cs (wS b ns ns.length) c d\/Cs (wS b ns ns.length) d c:=by
 rcases Gx O nc hc hd h with ⟨k,hk,e1,e2,h1,h2⟩ | ⟨k,hk,h1,h2⟩
 ·obtain⟨A,B,hW⟩:=LB (b:=b) (ns:=ns) hk;have up:∀{x y:kq},Cs (vS b ns k) x y->Cs (wS b ns ns.length) x y:=λh=>by rw[hW];exact h.left.right
  have hx:d.1=c.1+1\/c.1=d.1+1:=by
   rcases h with ⟨z,y⟩ | ⟨_,y⟩
   ·lia
   ·lia
  have ec:c=(c.1,cN b ns k):=fE rfl e1;have ed:d=(d.1,cN b ns k):=fE rfl e2;rcases hx with hx | hx
  ·have:=AO _ (lN ns k) (lN ns (k+1)) c.1 rfl (gg.mpr h1) (gg.mpr (by rw[<-hx];exact h2));rw[<-hx] at this;rw[ec,ed];exact this.imp (λz=>up (z.map λi=>(i,cN b ns k))) (λz=>up (z.map λi=>(i,cN b ns k)))
  ·have:=AO _ (lN ns k) (lN ns (k+1)) d.1 rfl (gg.mpr h2) (gg.mpr (by rw[<-hx];exact h1));rw[<-hx] at this;rw[ec,ed];exact this.symm.imp (λz=>up (z.map λi=>(i,cN b ns k))) (λz=>up (z.map λi=>(i,cN b ns k)))
 ·obtain⟨A,B,hW⟩:=LC O nc hk (aH _);have up:∀{x y:kq},Cs ((sg (cN b ns k) (cN b ns (k+1))).map (λx=>(lN ns (k+1),x))) x y->Cs (wS b ns ns.length) x y:=λh=>by rw[hW];exact h.left.right
  have hx:d.2=c.2+1\/c.2=d.2+1:=by
   have:=h1.1;have:=h2.1;rcases h with ⟨z,y⟩ | ⟨_,y⟩
   ·lia
   ·lia
  have ec:c=(lN ns (k+1),c.2):=fE h1.1 rfl;have ed:d=(lN ns (k+1),d.2):=fE h2.1 rfl;rcases hx with hx | hx
  ·have:=AO _ (cN b ns k) (cN b ns (k+1)) c.2 rfl (gg.mpr h1.2) (gg.mpr (by rw[<-hx];exact h2.2));rw[<-hx] at this;rw[ec,ed];exact this.imp (λz=>up (z.map λx=>(lN ns (k+1),x))) (λz=>up (z.map λx=>(lN ns (k+1),x)))
  ·have:=AO _ (cN b ns k) (cN b ns (k+1)) d.2 rfl (gg.mpr h2.2) (gg.mpr (by rw[<-hx];exact h1.2));rw[<-hx] at this;rw[ec,ed];exact this.symm.imp (λz=>up (z.map λx=>(lN ns (k+1),x))) (λz=>up (z.map λx=>(lN ns (k+1),x)))
theorem IR(O:fO ns)(nc:NC b ns){c d:kq}:∀{m:Nat},m<=ns.length->Cs (wS b ns m) c d->Es c d:=by
 have M4:∀k,Cs (vS b ns k) c d->Es c d:=λk h=>by
  obtain⟨i,j,e1,e2,h'⟩:=Cs.unmap h;rw[e1,e2];rcases Cs.sg _ rfl h' with z | z
  ·exact .inr ⟨rfl,.inr z⟩
  ·exact .inr ⟨rfl,.inl z⟩
 have inR:∀k,Cs ((sg (cN b ns k) (cN b ns (k+1))).map (λx=>(lN ns (k+1),x))) c d->Es c d:=λk h=>by
  obtain⟨i,j,e1,e2,h'⟩:=Cs.unmap h;rw[e1,e2];rcases Cs.sg _ rfl h' with z | z
  ·exact .inl ⟨rfl,.inr z⟩
  ·exact .inl ⟨rfl,.inl z⟩
 intro m
 induction m with
 | zero=>intro _ h;exact M4 0 h
 | succ m ih=>
  intro hm h;have R:=j0 O nc (k:=m) hm;obtain⟨V,hV⟩:=rV (b:=b) (ns:=ns) (m+1);rcases Cs.app (l:=wS b ns m) h with h | h | ⟨⟨l',hl'⟩,m',hm'⟩
  ·exact ih (by lia) h
  ·rcases Cs.app h with h | h | ⟨⟨l',hl'⟩,m',hm'⟩
   ·refine inR m ?_;rw[R];exact h.left.cons
   ·exact M4 _ h
   ·refine inR m ?_;rw[R,hl'];rw[hV] at hm';obtain⟨e,_⟩:=cG hm';rw[e];exact⟨(lN ns (m+1),cN b ns m)::l',[],by simp[cT]⟩
  ·obtain⟨A,hA⟩:=rT (b:=b) (ns:=ns) m;have ec:c=(lN ns (m+1),cN b ns m):=by
    rw[hA] at hl';have:=congrArg List.getLast? hl';simpa using this.symm
   refine inR m ?_;rw[R,<-ec];rw[hV] at hm';cases hr:rS b ns m with
   | nil=>
    rw[hr] at hm';obtain⟨e,_⟩:=cG hm';rw[e];exact⟨[],[],rfl⟩
   | cons y r=>
    rw[hr] at hm';obtain⟨e,_⟩:=cG hm';rw[e];exact⟨[],r++[_],rfl⟩
theorem kX{α:Type}{x:α}:∀{A B A' B':List α},(A++x::B).Nodup->A++x::B=A'++x::B'->A=A'/\B=B'
 | [],B,[],B',_,e=>⟨rfl,(cG e).2⟩
 | [],B,a::A',B',h,e=>by
  have e1:B=A'++x::B':=(cG e).2;have:=(bc.mp h).1;exact absurd (by rw[e1];simp) this
 | a::A,B,[],B',h,e=>by
  have e0:a=x:=(cG e).1;have:a∉A++x::B:=(bc.mp h).1;exact absurd (by rw[e0];simp) this
 | a::A,B,a'::A',B',h,e=>by
  have e0:a=a':=(cG e).1;have e1:A++x::B=A'++x::B':=(cG e).2;obtain⟨h1,h2⟩:=kX (bc.mp h).2 e1;exact⟨by rw[e0,h1],h2⟩
theorem sE(O:fO ns)(nc:NC b ns){A B:List kq}{x:kq}(hW:wS b ns ns.length=A++x::B){y:kq}:(Es x y/\qh b ns y.1 y.2=true/\y∉A/\y≠x)<->∃B',B=y::B':=by
 have nd:=nT O nc (b:=b) (aH _);have hx:x∈wS b ns ns.length:=by rw[hW];simp
 constructor
 ·rintro⟨h,ho,n1,n2⟩;rcases El O nc ((hU O nc).mp hx) ho h with ⟨A',B',e⟩ | ⟨A',B',e⟩
  ·rw[hW] at nd e;exact⟨B',(kX nd e).2⟩
  ·exfalso;rw[hW] at nd e;have e':A++x::B=(A'++[y])++x::B':=by rw[e];simp
   have:=(kX nd e').1;exact n1 (by rw[this];simp)
 ·rintro⟨B',rfl⟩;have ad:=IR O nc (aH _) (c:=x) (d:=y) ⟨A,B',hW⟩;have hy:y∈wS b ns ns.length:=by rw[hW];simp
  rw[hW,cS] at nd;obtain⟨_,n2,n3⟩:=nd;exact⟨ad,(hU O nc).mp hy,λz=>n3 y z y (by simp) rfl,λz=>(bc.mp n2).1 (by rw[<-z];simp)⟩
end
section
variable {b:Bool} {ns:List Int}
abbrev bn (b:Bool) (ns:List Int):List kq:=wS b ns ns.length
theorem Jl:lN ns (ns.length+1)=2*ns.length+3:=by
 unfold lN rN;rw[i6];lia
theorem kx:∀k,∃l,wS b ns k=(1,cN b ns 0)::l
 | 0=>rV 0
 | k+1=>by
  obtain⟨l,hl⟩:=kx k;exact⟨l++(rS b ns k++vS b ns (k+1)),by show wS b ns k++_=_;rw[hl];rfl⟩
theorem wD:∃l,bn b ns=l++[(2*ns.length+3,cN b ns ns.length)]:=by
 obtain⟨l,hl⟩:=rT (b:=b) (ns:=ns) ns.length;exact⟨l,by rw[<-Jl];exact hl⟩
theorem Ei(O:fO ns):∀p,p∈bI b ns false\/p∈bI b ns true->0<=p.1/\p.2<=(ns.length:Int)+1:=λp hp=>by
 have:∃u,p∈bU b ns u (ns.length+1):=by
  rcases hp with h | h
  ·exact⟨false,h⟩
  ·exact⟨true,h⟩
 obtain⟨u,hp⟩:=this;obtain⟨j,hj,_,rfl⟩:=gV hp;exact O.step_in (by lia)
theorem lK(O:fO ns)(nc:NC b ns){c:kq}(h:c∈bn b ns):1<=c.1/\c.1<=2*ns.length+3/\1<=c.2/\c.2+2<=dC (bI b ns false) (bI b ns true):=by
 have ho:=(hU O nc).mp h;have e:=fun {i x:Nat} z=>(tj.of O nc).edge (Ei O) (i:=i) (x:=x) z;unfold qh at ho;refine⟨?_,?_,?_,?_⟩
 ·rcases Nat.eq_zero_or_pos c.1 with z | z
  ·rw[e (.inl z)] at ho;cases ho
  ·exact z
 ·rcases ft (2*ns.length+3) c.1 with z | z
  ·rw[e (.inr (.inl (by lia)))] at ho;cases ho
  ·exact z
 ·rcases Nat.eq_zero_or_pos c.2 with z | z
  ·rw[e (.inr (.inr (.inl z)))] at ho;cases ho
  ·exact z
 ·rcases ft (c.2+1) (dC (bI b ns false) (bI b ns true)) with z | z
  ·lia
  ·rw[e (.inr (.inr (.inr z)))] at ho;cases ho
theorem vK(O:fO ns):dC (bI b ns false) (bI b ns true)<=85:=by
 have:=vW (b:=b) O false;have:=vW (b:=b) O true;unfold dC;lia
theorem oG(O:fO ns)(nc:NC b ns):(bn b ns).length<=3825:=by
 have nd:=nT O nc (b:=b) (aH _);have l20:=O.len;have w85:=vK (b:=b) O;have nm:((bn b ns).map λc=>c.1*85+c.2).Nodup:=by
  unfold List.Nodup;rw[cv];refine fz (fun {c d} hc hd ne e=>ne ?_) nd;have h1:=lK O nc hc;have h2:=lK O nc hd;have:c.1=d.1:=by lia
  exact fE this (by lia)
 have:=eR nm (l₂:=List.range 3825) λx hx=>by
  obtain⟨c,hc,rfl⟩:=aT.mp hx;have h1:=lK O nc hc;rw[c8];lia
 rw[aA,cy] at this;exact this
theorem sD(O:fO ns)(nc:NC b ns){c:kq}(h:c∈bn b ns):(signG ns.length (bI b ns false) (bI b ns true) c.1 c.2=118<->c=(1,cN b ns 0))/\(signG ns.length (bI b ns false) (bI b ns true) c.1 c.2=64<->c=(2*ns.length+3,cN b ns ns.length))/\signG ns.length (bI b ns false) (bI b ns true) c.1 c.2≠35:=by
 have ho:=(hU O nc).mp h;obtain⟨L,hL⟩:=pV b ns false;obtain⟨R,hR⟩:=pV b ns true;obtain⟨x0,_,op0⟩:=sq O hL hR;obtain⟨x1,_,op1⟩:=ul O hL hR;simp only[uk O hL hR] at op0 op1;obtain⟨l,hl⟩:=kx (b:=b) (ns:=ns) ns.length;obtain⟨m,hm⟩:=wD (b:=b) (ns:=ns);have e0:=(hU O nc (c:=(1,cN b ns 0))).mp (by rw[hl];simp);have e1:=(hU O nc (c:=(2*ns.length+3,cN b ns ns.length))).mp (by rw[show wS b ns ns.length=_ from hm];simp);unfold qh at ho e0 e1;dsimp only at e0 e1;rw[op0,RO] at e0;rw[op1,RO] at e1;refine⟨?_,?_,λz=>?_⟩
 ·rw[DG];constructor
  ·rintro⟨_,h1⟩;rw[h1,op0,RO] at ho;exact fE h1 (by rw[ho,e0])
  ·rintro rfl;exact⟨ho,rfl⟩
 ·rw[Ik];constructor
  ·rintro⟨_,h1⟩;rw[h1,op1,RO] at ho;exact fE h1 (by rw[ho,e1])
  ·rintro rfl;exact⟨ho,rfl⟩
 ·rw[sR.mp z] at ho;cases ho
end
section
variable {b:Bool} {ns:List Int}
theorem oZ(O:fO ns)(nc:NC b ns){i x:Nat}:signG ns.length (bI b ns false) (bI b ns true) i x=118<->i=1/\x=cN b ns 0:=by
 obtain⟨l,hl⟩:=kx (b:=b) (ns:=ns) ns.length;constructor
 ·intro h;have hm:(i,x)∈bn b ns:=(hU O nc).mpr (DG.mp h).1;have:=((sD O nc hm).1).mp h;exact⟨congrArg Prod.fst this,congrArg Prod.snd this⟩
 ·rintro⟨rfl,rfl⟩;have hm:(1,cN b ns 0)∈bn b ns:=by rw[show bn b ns=_ from hl];simp
  exact((sD O nc hm).1).mpr rfl
def vj(c:kq):List kq:=[(c.1 - 1,c.2),(c.1+1,c.2),(c.1,c.2 - 1),(c.1,c.2+1)]
theorem tF{c d:kq}(h1:1<=c.1)(h2:1<=c.2):d∈vj c<->Es c d:=by
 obtain⟨i,x⟩:=c;obtain⟨j,y⟩:=d;unfold vj Es;simp only[aK,cB,or_false,lT];dsimp only at h1 h2;lia
theorem xJ{c:kq}(h1:1<=c.1)(h2:1<=c.2):(vj c).Nodup:=by
 obtain⟨i,x⟩:=c;unfold vj;dsimp only at h1 h2;simp only[bc,aK,cB,or_false,lT,oC,and_true,not_false_eq_true];lia
theorem Bv(O:fO ns)(nc:NC b ns){A B:List kq}{x y:kq}(hW:bn b ns=A++x::y::B){d:kq}:(Es x d/\qh b ns d.1 d.2=true/\∀A' z,A=A'++[z]->d≠z)<->d=y:=by
 have nd:=nT O nc (b:=b) (aH _);have hx:x∈bn b ns:=by rw[hW];simp
 constructor
 ·rintro⟨h,ho,n1⟩;rcases El O nc ((hU O nc).mp hx) ho h with ⟨A',B',e⟩ | ⟨A',B',e⟩
  ·rw[show wS b ns ns.length=_ from hW] at nd e;have:=(kX nd e).2;exact(cG this).1.symm
  ·exfalso;rw[show wS b ns ns.length=_ from hW] at nd e;have e':A++x::y::B=(A'++[d])++x::B':=by rw[e];simp
   exact n1 A' d (kX nd e').1 rfl
 ·rintro rfl;obtain⟨h1,h2,h3,_⟩:=(sE O nc (show wS b ns ns.length=A++x::(d::B) from hW)).mpr ⟨B,rfl⟩;exact⟨h1,h2,λA' z e1 e2=>h3 (by rw[e1,e2];simp)⟩
theorem m3{α:Type} [DecidableEq α] {y:α} {P:α->Bool}:∀{l:List α},l.Nodup->y∈l->(∀d∈l,P d=true<->d=y)->l.filter P=[y]
 | a::l,nd,hy,h=>by
  obtain⟨n1,n2⟩:=bc.mp nd;by_cases e:a=y
  ·subst e;rw[gL ((h a (by simp)).mpr rfl)];congr 1;exact jA.mpr λd hd z=>n1 (by rw[<-(h d (by simp[hd])).mp z];exact hd)
  ·rw[gM λz=>e ((h a (by simp)).mp z)];refine m3 n2 ?_ λd hd=>h d (by simp[hd]);rcases aK.mp hy with z | z
   ·exact absurd z.symm e
   ·exact z
end
def dI(c:kq):Bw:=((c.1:Int),(c.2:Int))
theorem GU{K:RV}{H:Hp}{a aa:Addr}{p q:Bw}{Q:VK}(ha:bS H a p)(hq:bS H aa q)(h:Q (.bl (!decide (p=q))) H):yj K true (.ref a) (.ref aa) H Q:=
 ⟨jw p,jw q,sA ha,sA hq,sB p,sB q,bF (gX _ _) (show max 0 (max 0 0)+1<=60 by decide),by rw[Ao];exact h⟩
theorem EF{K:RV}{H:Hp}{a:Addr}{p:Bw}{Q:VK}(ha:bS H a p)(h:Q (.bl true) H):yj K true (.ref a) .non H Q:=
 ⟨jw p,.none,sA ha,.non,sB p,rfl,bF (gX _ _) (show max 0 (max 0 0)+1<=60 by decide),h⟩
def Cr:Sp:=λvs H Q _=>∃ll b ns,vs=[.ref ll]/\H ll=some (.lst (lP ns.length (bI b ns false) (bI b ns true)))/\fO ns/\NC b ns/\∀l H',H l=none->ar H H'->bu H' l ((bn b ns).map dI)->Q (.ref l) H'
def LL:Sp:=λvs H Q _=>∃a c,vs=[.ref a]/\bS H a (dI c)/\1<=c.1/\1<=c.2/\∀l H',H l=none->ar H H'->bu H' l ((vj c).map dI)->Q (.ref l) H'
structure HI (b:Bool) (ns:List Int) (kvs:List (List Key×V)) (cs:List kq):Prop where
 is:kvs=cs.map fun c=>(sK c.1 c.2,l3 (signG ns.length (bI b ns false) (bI b ns true) c.1 c.2))
 nd:cs.Nodup
 op:∀ c,c∈cs<->qh b ns c.1 c.2=true
theorem zW{g:kq->V}{c:kq}:∀{cs:List kq},c∈cs->eI (cs.map λc=>(sK c.1 c.2,g c)) (sK c.1 c.2)=some (g c)
 | e::cs,h=>by
  show eI ((sK e.1 e.2,g e)::cs.map λc=>(sK c.1 c.2,g c)) (sK c.1 c.2)=_;by_cases z:e=c
  ·subst z;rw[ff rfl]
  ·rw[eX λy=>z (fE (sV y).1 (sV y).2)];rcases aK.mp h with y | y
   ·exact absurd y.symm z
   ·exact zW y
theorem vz{g:kq->V}{c:kq}:∀{cs:List kq},c∉cs->eI (cs.map λc=>(sK c.1 c.2,g c)) (sK c.1 c.2)=none
 | [],_=>rfl
 | e::cs,h=>by
  show eI ((sK e.1 e.2,g e)::cs.map λc=>(sK c.1 c.2,g c)) (sK c.1 c.2)=_;rw[eX λy=>h (by rw[show c=e from(fE (sV y).1 (sV y).2).symm];simp)];exact vz λy=>h (aM _ y)
theorem xl{g:kq->V}{c:kq}{cs:List kq}:(eI (cs.map λc=>(sK c.1 c.2,g c)) (sK c.1 c.2)).isSome=decide (c∈cs):=by
 by_cases h:c∈cs
 ·rw[zW h,RQ h];rfl
 ·rw[vz h,RP h];rfl
theorem HI.len{b:Bool}{ns:List Int}{kvs:List (List Key×V)}{cs:List kq}(C:HI b ns kvs cs)(O:fO ns)(nc:NC b ns):cs.length<=3825:=by
 refine bF (eR C.nd (l₂:=bn b ns) λc hc=>(hU O nc).mpr ((C.op c).mp hc)) (oG O nc)
def AK:Sp:=λvs H Q _=>∃b ns,vs=[.str (tx (lZ ns.length (bI b ns false) (bI b ns true)))]/\fO ns/\NC b ns/\∀d kvs cs H',H d=none->ar H H'->H' d=some (.dT kvs)->HI b ns kvs cs->Q (.ref d) H'
def AE:Sp:=λvs H Q _=>∃d b ns kvs cs,vs=[.ref d]/\H d=some (.dT kvs)/\HI b ns kvs cs/\fO ns/\NC b ns/\∀l H',H l=none->ar H H'->bu H' l ((bn b ns).map dI)->Q (.ref l) H'
theorem FV{n:Nat}{L R:List Bw}{i:Nat}:(tx (iN n L R i)).cps.all (·<128)=true:=by
 rw[Array.all_eq_true'];intro x hx;have hm:x∈iN n L R i:=by simpa [tx] using hx
 obtain⟨y,_,rfl⟩:=aT.mp hm;have:=FN (n:=n) (S0:=L) (S1:=R) i y;exact RQ (by lia)
structure jQ (b:Bool) (ns:List Int) (k j:Nat) (kvs:List (List Key×V)) (cs:List kq):Prop where
 is:kvs=cs.map fun c=>(sK c.1 c.2,l3 (signG ns.length (bI b ns false) (bI b ns true) c.1 c.2))
 nd:cs.Nodup
 op:∀ c,c∈cs<->qh b ns c.1 c.2=true/\(c.1<k\/(c.1=k/\c.2<j))
section
variable {b:Bool} {ns:List Int} {k j:Nat} {kvs:List (List Key×V)} {cs:List kq}
theorem jQ.nil:jQ b ns 0 0 [] []:=⟨rfl,.nil,λc=>by simp⟩
theorem jQ.len(C:jQ b ns k j kvs cs)(O:fO ns)(nc:NC b ns):kvs.length<=3825:=by
 rw[C.is,aA];exact bF (eR C.nd (l₂:=bn b ns) λc hc=>(hU O nc).mpr ((C.op c).mp hc).1) (oG O nc)
theorem jQ.skip(C:jQ b ns k j kvs cs)(h:qh b ns k j=false):jQ b ns k (j+1) kvs cs:=⟨C.is,C.nd,λc=>by
 rw[C.op];refine and_congr_right λho=>?_;have:¬(c.1=k/\c.2=j):=λe=>by rw[e.1,e.2,h] at ho;cases ho
 lia⟩
theorem jQ.put(C:jQ b ns k j kvs cs)(h:qh b ns k j=true):jQ b ns k (j+1) (putK kvs (sK k j) (l3 (signG ns.length (bI b ns false) (bI b ns true) k j))) (cs++[(k,j)]):=by
 have hn:(k,j)∉cs:=λhm=>by
  have:=((C.op _).mp hm).2;dsimp only at this;lia
 have hv:eI kvs (sK k j)=none:=by
  rw[C.is];exact vz (g:=λc=>l3 (signG ns.length (bI b ns false) (bI b ns true) c.1 c.2)) (c:=(k,j)) hn
 refine⟨?_,?_,λc=>?_⟩
 ·rw[p8 _ hv,aX,<-C.is];rfl
 ·rw[cS];refine⟨C.nd,by simp,λa ha c hc e=>?_⟩;rw[dL] at hc;rw[e,hc] at ha;exact hn ha
 ·rw[aW,C.op,dL];constructor
  ·rintro (⟨h1,h2⟩ | rfl)
   ·exact⟨h1,by lia⟩
   ·exact⟨h,.inr ⟨rfl,Nat.lt_succ_self _⟩⟩
  ·rintro⟨h1,h2⟩;by_cases e:c.1=k/\c.2=j
   ·exact .inr (fE e.1 e.2)
   ·exact .inl ⟨h1,by lia⟩
theorem jQ.line(C:jQ b ns k (dC (bI b ns false) (bI b ns true)) kvs cs)(O:fO ns)(nc:NC b ns):jQ b ns (k+1) 0 kvs cs:=⟨C.is,C.nd,λc=>by
 rw[C.op];refine and_congr_right λho=>?_;have:=lK O nc ((hU O nc).mpr ho);lia⟩
theorem jQ.all(C:jQ b ns (2*ns.length+5) 0 kvs cs)(O:fO ns)(nc:NC b ns):HI b ns kvs cs:=⟨C.is,C.nd,λc=>by
 rw[C.op];refine⟨λh=>h.1,λho=>⟨ho,?_⟩⟩;have:=lK O nc ((hU O nc).mpr ho);lia⟩
end
def gx{α β:Type}(f:β->α->α->β):β->List α->β
 | s,x::y::l=>gx f (f s x y) (y::l)
 | s,_=>s
section
variable {α β:Type} {f:β->α->α->β}
theorem o3:∀(A:List α) (x:α) (B:List α) (s:β),gx f s (A++x::B)=gx f (gx f s (A++[x])) (x::B)
 | [],x,B,s=>rfl
 | [a],x,B,s=>rfl
 | a::c::A,x,B,s=>by
  show gx f (f s a c) ((c::A)++x::B)=gx f (gx f (f s a c) ((c::A)++[x])) (x::B);exact o3 (c::A) x B _
theorem Bd(A:List α)(x y:α)(s:β):gx f s (A++[x,y])=f (gx f s (A++[x])) x y:=by
 rw[o3 A x [y]];rfl
theorem pL:∀{l:List α} {s:β},(∀x y,Cs l x y->f s x y=s)->gx f s l=s
 | [],s,h=>rfl
 | [x],s,h=>rfl
 | x::y::l,s,h=>by
  show gx f (f s x y) (y::l)=s;rw[h x y ⟨[],l,rfl⟩];exact pL λa c hc=>h a c hc.cons
end
def jm(s:Bool×List Nat)(x y:kq):Bool×List Nat:=
 if x.1=y.1/\(x.1 - 1) / 2∉s.2 then (if s.2=[]/\y.2<x.2 then true else s.1,s.2++[(x.1 - 1) / 2]) else s
section
variable {b:Bool} {ns:List Int}
def FZ(ns:List Int)(k:Nat):List Nat:=(List.range k).map λj=>rN ns (j+1)
theorem sZ(k:Nat):FZ ns (k+1)=FZ ns k++[rN ns (k+1)]:=by unfold FZ;rw[eF,aX];rfl
theorem FX(O:fO ns){k:Nat}(h:k+1<=ns.length):rN ns (k+1)∉FZ ns k:=λhm=>by
 obtain⟨j,hj,e⟩:=aT.mp hm;rw[c8] at hj;have:=lM O (by lia) (by lia) e;lia
def uH(b:Bool)(ns:List Int)(k:Nat):Bool×List Nat:=(b&&decide (0<k),FZ ns k)
theorem Hj(s:Bool×List Nat)(k:Nat):gx jm s (vS b ns k)=s:=by
 refine pL λx y hc=>?_;obtain⟨i,j,rfl,rfl,hij⟩:=hc.unmap;have:=hij.sg _ rfl;unfold jm;rw[RM];dsimp only;lia
theorem Lh(O:fO ns)(nc:NC b ns)(h:1<=ns.length):cN b ns 1<cN b ns 0<->b=true:=by
 cases b with
 | false=>
  have h1:=z5 O nc (k:=0) (ac _) rfl;have h2:=zZ O nc (k:=1) h rfl;exact⟨λh=>by lia,λh=>by cases h⟩
 | true=>
  have h1:=zZ O nc (k:=0) (ac _) rfl;have h2:=z5 O nc (k:=1) h rfl;exact⟨λ_=>rfl,λ_=>by lia⟩
theorem A4(k:Nat):(lN ns k - 1) / 2=rN ns k:=by unfold lN;lia
theorem L9(O:fO ns)(nc:NC b ns){k:Nat}(h:k+1<=ns.length):gx jm (uH b ns k) ((sg (cN b ns k) (cN b ns (k+1))).map λx=>(lN ns (k+1),x))=uH b ns (k+1):=by
 have hne:=Hn O nc h;obtain⟨x1,l,hl,hx⟩:∃x1 l,sg (cN b ns k) (cN b ns (k+1))=cN b ns k::x1::l/\(x1<cN b ns k<->cN b ns (k+1)<cN b ns k):=by
  rcases Nat.lt_or_gt_of_ne hne with z | z
  ·obtain⟨l,hl⟩:=mQ (cN b ns k+1) (cN b ns (k+1));exact⟨_,l,by rw[w5 z,hl],by lia⟩
  ·obtain⟨l,hl⟩:=mQ (cN b ns k - 1) (cN b ns (k+1));exact⟨_,l,by rw[w6 z,hl],by lia⟩
 rw[hl];show gx jm (jm (uH b ns k) (lN ns (k+1),cN b ns k) (lN ns (k+1),x1)) (((x1::l)).map λx=>(lN ns (k+1),x))=_;have e:jm (uH b ns k) (lN ns (k+1),cN b ns k) (lN ns (k+1),x1)=uH b ns (k+1):=by
  unfold jm;dsimp only;rw[A4,RN ⟨rfl,FX O h⟩];unfold uH;dsimp only;rw[<-sZ];congr 1;cases k with
  | zero=>
   have:=Lh O nc (b:=b) h;by_cases z:b=true
   ·rw[RN ⟨rfl,hx.mpr (this.mpr z)⟩,z];rfl
   ·have z':b=false:=by cases b;rfl;exact absurd rfl z
    rw[RM λy=>z (this.mp (hx.mp y.2)),z'];rfl
  | succ k=>
   rw[RM (λz=>by rw[sZ] at z;simp at z)];simp
 rw[e];refine pL λx y hc=>?_;obtain⟨i,j,rfl,rfl,hij⟩:=hc.unmap;unfold jm;dsimp only;rw[A4,RM];rintro⟨_,z⟩;refine z ?_;show _∈FZ ns (k+1);rw[sZ];simp
theorem AZ(O:fO ns)(nc:NC b ns):∀{k:Nat},k<=ns.length->gx jm (false,[]) (wS b ns k)=uH b ns k
 | 0,_=>by
  show gx jm (false,[]) (vS b ns 0)=_;rw[Hj];unfold uH FZ;simp
 | k+1,h=>by
  obtain⟨l,hl⟩:=rT (b:=b) (ns:=ns) k;obtain⟨v,hv⟩:=rV (b:=b) (ns:=ns) (k+1);have ih:=AZ O nc (k:=k) (by lia);have e1:wS b ns (k+1)=(l++(lN ns (k+1),cN b ns k)::rS b ns k)++(lN ns (k+1),cN b ns (k+1))::v:=by
   show wS b ns k++(rS b ns k++vS b ns (k+1))=_;rw[hl,hv];simp
  rw[e1,o3,show (l++(lN ns (k+1),cN b ns k)::rS b ns k)++[(lN ns (k+1),cN b ns (k+1))]=l++(lN ns (k+1),cN b ns k)::(rS b ns k++[(lN ns (k+1),cN b ns (k+1))]) by simp,o3,<-hl,ih,<-j0 O nc h,L9 O nc h,<-hv,Hj]
theorem FY(O:fO ns):(FZ ns ns.length).map (λr=>V.int (r:Nat))=ns.map V.int:=by
 refine lI λi=>?_;unfold FZ;rw[be,aP,aP];rcases ft i ns.length with h | h
 ·rw[fG h,aJ h];have:=q9 O (k:=i+1) (by lia);show some (V.int ((rN ns (i+1):Nat):Int))=some (V.int ns[i]);rw[this];congr 2;exact oU (aJ h)
 ·rw[d8 (by simpa using h),d8 (by simpa using h)];rfl
end
theorem A2:∀(l:List kq) (s:Bool×List Nat),(gx jm s l).2.length<=s.2.length+l.length
 | [],s=>eQ _ _
 | [x],s=>eQ _ _
 | x::y::l,s=>by
  have h:=A2 (y::l) (jm s x y);have h1:(jm s x y).2.length<=s.2.length+1:=by
   unfold jm
   split
   ·simp
   ·lia
  show (gx jm (jm s x y) (y::l)).2.length<=_;simp only[cQ] at h ⊢;lia
def uG(l:List Nat):List Int:=l.map λ(r:Nat)=>(r:Int)
theorem xK{l:List Nat}{r:Nat}:(r:Int)∈uG l<->r∈l:=by
 unfold uG;rw[aT];exact⟨λ⟨a,h,e⟩=>by rw[<-Int.ofNat.inj e];exact h,λh=>⟨r,h,rfl⟩⟩
theorem E6{K:RV}{σ:L2.St}{H:Hp}{D:Ends}{a b:Addr}{xs ys:List V}{g:TG}{tb:TS}(hle:ys.length<=xs.length)(Pv:Nat->L2.St->Hp->Prop)(h0:Pv 0 σ H)(hl:∀i σ H,Pv i σ H->bw K H a xs/\bw K H b ys)
  (hs:∀i x y σ H p,xs[i]? = some x->ys[i]? = some y->Pv i σ H->H p=none->g (.ref p) σ (upd H p (.tup [x,y])) λσ2 H2=>tb { D with nx:=Pv (i+1),ct:=Pv (i+1),bk:=D.nx } σ2 H2) (hd:∀σ H,Pv ys.length σ H->D.nx σ H):og (K5 K a b) g tb D σ H:=by
 refine⟨λi m σ H=>m+i=ys.length/\Pv i σ H,⟨ys.length,rfl,h0⟩,?_⟩;rintro i m σ H ⟨hm,hp⟩;obtain⟨q1,q2⟩:=hl i σ H hp;by_cases hi:i<ys.length
 ·refine .inr ⟨⟨xs,ys,xs[i],ys[i],q1,q2,by simp[ay hi hle],by simp[hi]⟩,Pv (i+1),λσ' H' h=>⟨m - 1,by lia,by lia,h⟩,?_⟩;rintro v H' ⟨p,x,y,hn,hx,hy,rfl,rfl⟩;exact hs i x y σ H p (hx xs q1) (hy ys q2) hp hn
 ·have e:i=ys.length:=by lia
  subst e;exact .inl ⟨⟨xs,ys,q1,q2,.inr (aH _)⟩,hd σ H hp⟩
def HZ:Sp:=λvs H Q _=>∃l b ns,vs=[.ref l]/\bu H l ((bn b ns).map dI)/\fO ns/\NC b ns/\∀m o H',H m=none->ar H H'->gj H' m o (b&&decide (0<ns.length)) ns->Q (.ref m) H'
section
variable {b:Bool} {ns:List Int}
theorem Je(b:Bool):NC b []:=by unfold NC;cases b<;>decide
theorem GV(nc:NC b ns):NC (b&&decide (0<ns.length)) ns:=by
 cases ns with
 | nil=>exact Je _
 | cons x l=>rw[show decide (0<(x::l).length)=true from RQ (Nat.zero_lt_succ _),ox];exact nc
theorem FH(b c:Bool):lZ 0 (bI b [] false) (bI b [] true)=lZ 0 (bI c [] false) (bI c [] true):=by cases b<;>cases c<;>decide +kernel
theorem C4(O:fO ns){L R:List Bw}(hL:dt (b&&decide (0<ns.length)) ns false L)(hR:dt (b&&decide (0<ns.length)) ns true R):lZ ns.length L R=lZ ns.length (bI b ns false) (bI b ns true):=by
 rw[C3 O hL hR];cases ns with
 | nil=>exact FH _ _
 | cons x l=>rw[show decide (0<(x::l).length)=true from RQ (Nat.zero_lt_succ _),ox]
end
def DC:Sp:=λvs H Q _=>∃m o b ns,vs=[.str (tx (lZ ns.length (bI b ns false) (bI b ns true))),.ref m]/\gj H m o (b&&decide (0<ns.length)) ns/\fO ns/\NC b ns/\∀H',ar H H'->Q (.bl true) H'
def Cq:Sp:=λvs H Q _=>∃b ns,vs=[.str (tx (lZ ns.length (bI b ns false) (bI b ns true)))]/\fO ns/\NC b ns/\∀l H',H l=none->ar H H'->bu H' l ((bn b ns).map dI)->Q (.ref l) H'
end Rm
namespace L2
open PySem PySem.Spec PyProof.Rows
abbrev TH:=Ends->St->Addr->Option Addr->Hp->Prop
def M5:TH:=λ_ _ _ _ _=>False
def Le(K:RV)(c:Value)(ts:Addr->TS)(th:TH):TH:=λD σ C dO H2=>(PySem.W.exmOne K (.ref C) c=some true/\∀a,H2 a=none->ts a D σ (upd H2 a (uJ dO C a)))\/(PySem.W.exmOne K (.ref C) c=some false/\th D σ C dO H2)
def NG(K:RV)(c:Value)(i:Nat)(ts:Addr->TS)(th:TH):TH:=λD σ C dO H2=>(PySem.W.exmOne K (.ref C) c=some true/\∀a,H2 a=none->ts a { nx:=λσ' H'=>D.nx (σ'.set i none) H',rt:=D.rt,bk:=λσ' H'=>D.bk (σ'.set i none) H',ct:=λσ' H'=>D.ct (σ'.set i none) H' } (σ.set i (some (.ref a))) (upd H2 a (uJ dO C a)))\/(PySem.W.exmOne K (.ref C) c=some false/\th D σ C dO H2)
section
def LD(tb:XK->TS)(th:TH):TS:=λD σ H=>tb (λcls dO H2=>∃C,cls=Value.ref C/\th D σ C dO H2) D σ H
section
variable {sp:Sp} {t:TA}
def Li(sp:Sp)(t:TA):XK->TS:=λE D σ H=>t σ H λvs H1=>sp vs H1 (λ_ H2=>D.nx σ H2) E
def Mb(sp:Sp)(j:Nat)(t:TA):XK->TS:=λE D σ H=>t σ H λvs H1=>sp vs H1 (λv H2=>D.nx (σ.set j (some v)) H2) E
def M9(sp:Sp)(z:Str)(t:TA):XK->TS:=λE D σ H=>t σ H λvs H1=>sp vs H1 (λv H2=>∀q,H2 q=none->D.rt (.ref q) (upd H2 q (.tup [.str z,v]))) E
def Ma(sp:Sp)(z:Str)(t:TA):XK->TS:=λE D σ H=>t σ H λvs H1=>sp vs H1 (λv H2=>∀q,H2 q=none->D.rt (.ref q) (upd H2 q (.lst [.str z,v]))) E
end
end
section
variable {σ:St} {H H2:Hp} {D:Ends} {E:XK} {C:Addr} {dO:Option Addr} {K:RV} {c:Value} {sp:Sp} {t:TA} {ts:Addr->TS} {th:TH} {tb:XK->TS} {z:Str} {i j:Nat}
theorem Hv:LD tb th D σ H=tb (λcls dO H2=>∃C,cls=Value.ref C/\th D σ C dO H2) D σ H:=rfl
theorem Hz:M5 D σ C dO H2=False:=rfl
theorem Ey:Le K c ts th D σ C dO H2=((PySem.W.exmOne K (.ref C) c=some true/\∀a,H2 a=none->ts a D σ (upd H2 a (uJ dO C a)))\/(PySem.W.exmOne K (.ref C) c=some false/\th D σ C dO H2)):=rfl
theorem Kq:NG K c i ts th D σ C dO H2=((PySem.W.exmOne K (.ref C) c=some true/\∀a,H2 a=none->ts a { nx:=λσ' H'=>D.nx (σ'.set i none) H',rt:=D.rt,bk:=λσ' H'=>D.bk (σ'.set i none) H',ct:=λσ' H'=>D.ct (σ'.set i none) H' } (σ.set i (some (.ref a))) (upd H2 a (uJ dO C a)))\/(PySem.W.exmOne K (.ref C) c=some false/\th D σ C dO H2)):=rfl
theorem FF:Li sp t E D σ H=t σ H λvs H1=>sp vs H1 (λ_ H2=>D.nx σ H2) E:=rfl
theorem IP:Mb sp j t E D σ H=t σ H λvs H1=>sp vs H1 (λv H2=>D.nx (σ.set j (some v)) H2) E:=rfl
theorem IL:M9 sp z t E D σ H=t σ H λvs H1=>sp vs H1 (λv H2=>∀q,H2 q=none->D.rt (.ref q) (upd H2 q (.tup [.str z,v]))) E:=rfl
theorem IM:Ma sp z t E D σ H=t σ H λvs H1=>sp vs H1 (λv H2=>∀q,H2 q=none->D.rt (.ref q) (upd H2 q (.lst [.str z,v]))) E:=rfl
end
end L2
namespace Rm
open PySem L2 PyProof.Rows
def top(i:Nat):Stmt:=PySem.Challenge.pw_ringmaze_k13_the_way_told.main.body.getD i (.Pass ⟨0,0,0,0⟩)
abbrev jX:Stmt:=top 1
theorem jh:bh ["bows","a","b","c","d"] ["bows"] (bJ jX):=⟨rfl,rfl,rfl,by decide +kernel,rfl,by decide +kernel,by decide +kernel⟩
abbrev qV:Stmt:=top 2
theorem FQ:bh ["bow"] ["bow"] (bJ qV):=⟨rfl,rfl,rfl,by decide +kernel,rfl,by decide +kernel,by decide +kernel⟩
abbrev gb:Stmt:=top 3
theorem sT:bh ["inner","outer"] ["inner","outer"] (bJ gb):=⟨rfl,rfl,rfl,by decide +kernel,rfl,by decide +kernel,by decide +kernel⟩
abbrev iZ:Stmt:=top 4
theorem mS:bh ["bows","known","bow","inner"] ["bows"] (bJ iZ):=⟨rfl,rfl,rfl,by decide +kernel,rfl,by decide +kernel,by decide +kernel⟩
abbrev jT:Stmt:=top 13
theorem w9:bh ["thing"] ["thing"] (bJ jT):=⟨rfl,rfl,rfl,by decide +kernel,rfl,by decide +kernel,by decide +kernel⟩
abbrev kP:Stmt:=top 14
theorem yd:bh ["thing"] ["thing"] (bJ kP):=⟨rfl,rfl,rfl,by decide +kernel,rfl,by decide +kernel,by decide +kernel⟩
abbrev jU:Stmt:=top 15
theorem wa:bh ["thing"] ["thing"] (bJ jU):=⟨rfl,rfl,rfl,by decide +kernel,rfl,by decide +kernel,by decide +kernel⟩
abbrev jV:Stmt:=top 16
theorem ye:bh ["thing"] ["thing"] (bJ jV):=⟨rfl,rfl,rfl,by decide +kernel,rfl,by decide +kernel,by decide +kernel⟩
abbrev h7:Stmt:=top 18
theorem uB:bh ["side"] ["side"] (bJ h7):=⟨rfl,rfl,rfl,by decide +kernel,rfl,by decide +kernel,by decide +kernel⟩
abbrev gD:Stmt:=top 19
theorem nD:bh ["maze","step","side"] ["maze","step"] (bJ gD):=⟨rfl,rfl,rfl,by decide +kernel,rfl,by decide +kernel,by decide +kernel⟩
abbrev g6:Stmt:=top 20
theorem nX:bh ["maze","order"] ["maze"] (bJ g6):=⟨rfl,rfl,rfl,by decide +kernel,rfl,by decide +kernel,by decide +kernel⟩
abbrev jZ:Stmt:=top 21
theorem kd:bh ["maze","rows","told","step","bow"] ["maze"] (bJ jZ):=⟨rfl,rfl,rfl,by decide +kernel,rfl,by decide +kernel,by decide +kernel⟩
abbrev jY:Stmt:=top 22
theorem mT:bh ["maze","side","bows","found"] ["maze"] (bJ jY):=⟨rfl,rfl,rfl,by decide +kernel,rfl,by decide +kernel,by decide +kernel⟩
abbrev u5:Stmt:=top 23
theorem DK:bh ["maze","found"] ["maze"] (bJ u5):=⟨rfl,rfl,rfl,by decide +kernel,rfl,by decide +kernel,by decide +kernel⟩
abbrev iY:Stmt:=top 29
theorem yc:bh ["row"] ["row"] (bJ iY):=⟨rfl,rfl,rfl,by decide +kernel,rfl,by decide +kernel,by decide +kernel⟩
abbrev eg:Stmt:=top 30
theorem pB:bh ["bows"] ["bows"] (bJ eg):=⟨rfl,rfl,rfl,by decide +kernel,rfl,by decide +kernel,by decide +kernel⟩
abbrev ke:Stmt:=top 31
theorem oO:bh ["bows","columns","told","bow","column"] ["bows","columns"] (bJ ke):=⟨rfl,rfl,rfl,by decide +kernel,rfl,by decide +kernel,by decide +kernel⟩
abbrev gE:Stmt:=top 32
theorem rJ:bh ["bows","most_left"] ["bows","most_left"] (bJ gE):=⟨rfl,rfl,rfl,by decide +kernel,rfl,by decide +kernel,by decide +kernel⟩
abbrev f6:Stmt:=top 33
theorem qP:bh ["bows","most_left"] ["bows","most_left"] (bJ f6):=⟨rfl,rfl,rfl,by decide +kernel,rfl,by decide +kernel,by decide +kernel⟩
abbrev iC:Stmt:=top 34
theorem jb:bh ["grid","bows","columns","a","b","line"] ["grid","bows","columns"] (bJ iC):=⟨rfl,rfl,rfl,by decide +kernel,rfl,by decide +kernel,by decide +kernel⟩
abbrev gc:Stmt:=top 35
theorem ka:bh ["grid","rings","lefts","rights","ring","column"] ["grid","rings","lefts","rights"] (bJ gc):=⟨rfl,rfl,rfl,by decide +kernel,rfl,by decide +kernel,by decide +kernel⟩
abbrev qX:Stmt:=top 36
theorem FS:bh ["line","sign"] ["line","sign"] (bJ qX):=⟨rfl,rfl,rfl,by decide +kernel,rfl,by decide +kernel,by decide +kernel⟩
abbrev oT:Stmt:=top 37
theorem jg:bh ["maze","rings","bows","most_left","most_right","lefts","rights","grid"] ["maze"] (bJ oT):=⟨rfl,rfl,rfl,by decide +kernel,rfl,by decide +kernel,by decide +kernel⟩
abbrev kW:Stmt:=top 46
theorem yf:bh ["_law_script","_law_k"] ["_law_script","_law_k"] (bJ kW):=⟨rfl,rfl,rfl,by decide +kernel,rfl,by decide +kernel,by decide +kernel⟩
abbrev u6:Stmt:=top 47
theorem DL:bh ["_law_seed","_law_k","_law_number"] ["_law_seed","_law_k"] (bJ u6):=⟨rfl,rfl,rfl,by decide +kernel,rfl,by decide +kernel,by decide +kernel⟩
abbrev l4:Stmt:=top 49
theorem iX:bh ["_law_cell","_law_base","_law_many","_law_rest","_law_found","_law_k","_law_digit"] ["_law_cell","_law_base"] (bJ l4):=⟨rfl,rfl,rfl,by decide +kernel,rfl,by decide +kernel,by decide +kernel⟩
abbrev u7:Stmt:=top 50
theorem yg:bh ["_law_open_ends","_law_letter","_law_near","_law_far"] ["_law_open_ends","_law_letter"] (bJ u7):=⟨rfl,rfl,rfl,by decide +kernel,rfl,by decide +kernel,by decide +kernel⟩
abbrev sU:Stmt:=top 51
theorem nY:bh ["_law_open_ends","_law_found","_law_letter","_law_row","_law_near","_law_far","_law_ends","_law_piece","_law_side","_law_k"] ["_law_open_ends","_law_found","_law_letter","_law_row"] (bJ sU):=⟨rfl,rfl,rfl,by decide +kernel,rfl,by decide +kernel,by decide +kernel⟩
abbrev oS:Stmt:=top 52
theorem iL:bh ["_law_open_ends","_law_found","_law_row","_law_near","_law_far","_law_ends","_law_target","_law_letter"] ["_law_open_ends","_law_found","_law_row"] (bJ oS):=⟨rfl,rfl,rfl,by decide +kernel,rfl,by decide +kernel,by decide +kernel⟩
abbrev qW:Stmt:=top 53
theorem FR:bh ["_law_many"] ["_law_many"] (bJ qW):=⟨rfl,rfl,rfl,by decide +kernel,rfl,by decide +kernel,by decide +kernel⟩
abbrev kT:Stmt:=top 54
theorem k6:bh ["_law_open_ends","_law_row","_law_digit","_law_many","_law_found","_law_letter","_law_after"] ["_law_open_ends","_law_row","_law_digit"] (bJ kT):=⟨rfl,rfl,rfl,by decide +kernel,rfl,by decide +kernel,by decide +kernel⟩
abbrev oR:Stmt:=top 55
theorem kZ:bh ["_law_side","_law_digits_here","_law_open_ends","_law_found","_law_row","_law_digit","_law_letters"] ["_law_side","_law_digits_here"] (bJ oR):=⟨rfl,rfl,rfl,by decide +kernel,rfl,by decide +kernel,by decide +kernel⟩
abbrev jS:Stmt:=top 56
theorem fg:bh ["_law_side","_law_found","_law_order","_law_row","_law_k","_law_last","_law_bow","_law_after"] ["_law_side","_law_found"] (bJ jS):=⟨rfl,rfl,rfl,by decide +kernel,rfl,by decide +kernel,by decide +kernel⟩
abbrev jW:Stmt:=top 57
theorem wb:bh ["_law_side","_law_digits_here"] ["_law_side","_law_digits_here"] (bJ jW):=⟨rfl,rfl,rfl,by decide +kernel,rfl,by decide +kernel,by decide +kernel⟩
abbrev qY:Stmt:=top 58
theorem oP:bh ["_law_maze","_law_rows","_law_found","_law_k","_law_j"] ["_law_maze"] (bJ qY):=⟨rfl,rfl,rfl,by decide +kernel,rfl,by decide +kernel,by decide +kernel⟩
abbrev qU:Stmt:=top 60
theorem pX:bh ["_law_bows_here","_law_tall_here","_law_width","_law_bow","_law_one"] ["_law_bows_here"] (bJ qU):=⟨rfl,rfl,rfl,by decide +kernel,rfl,by decide +kernel,by decide +kernel⟩
abbrev kU:Stmt:=top 61
theorem dJ:bh ["_law_maze","_law_bows_here","_law_tall_here","_law_over","_law_columns","_law_last","_law_signs","_law_at","_law_k","_law_bow","_law_column","_law_line","_law_row","_law_ring","_law_lines"] ["_law_maze"] (bJ kU):=⟨rfl,rfl,rfl,by decide +kernel,rfl,by decide +kernel,by decide +kernel⟩
abbrev qT:Stmt:=top 62
theorem kM:bh ["_law_lines","_law_steps","_law_k","_law_j","_law_ahead","_law_at","_law_further","_law_cell"] ["_law_lines"] (bJ qT):=⟨rfl,rfl,rfl,by decide +kernel,rfl,by decide +kernel,by decide +kernel⟩
abbrev iA:Stmt:=top 39
theorem gZ:bh ["text","cells","line","signs","column","sign"] ["text"] (bJ iA):=⟨rfl,rfl,rfl,by decide +kernel,rfl,by decide +kernel,by decide +kernel⟩
abbrev iB:Stmt:=top 40
theorem lL:bh ["cell","line","column"] ["cell"] (bJ iB):=⟨rfl,rfl,rfl,by decide +kernel,rfl,by decide +kernel,by decide +kernel⟩
abbrev eM:Stmt:=top 41
theorem dz:bh ["cells","ahead","trail","met","here"] ["cells"] (bJ eM):=⟨rfl,rfl,rfl,by decide +kernel,rfl,by decide +kernel,by decide +kernel⟩
abbrev f7:Stmt:=top 42
theorem eK:bh ["trail","side","order","here","ahead","ring"] ["trail"] (bJ f7):=⟨rfl,rfl,rfl,by decide +kernel,rfl,by decide +kernel,by decide +kernel⟩
abbrev f9:Stmt:=top 43
theorem qR:bh ["text","maze"] ["text","maze"] (bJ f9):=⟨rfl,rfl,rfl,by decide +kernel,rfl,by decide +kernel,by decide +kernel⟩
abbrev u4:Stmt:=top 44
theorem DJ:bh ["text","trail"] ["text"] (bJ u4):=⟨rfl,rfl,rfl,by decide +kernel,rfl,by decide +kernel,by decide +kernel⟩
abbrev oQ:Stmt:=top 48
theorem DI:bh ["_law_found"] ["_law_found"] (bJ oQ):=⟨rfl,rfl,rfl,by decide +kernel,rfl,by decide +kernel,by decide +kernel⟩
abbrev pY:Stmt:=top 63
theorem qQ:bh ["_law_script","_law_maze","_law_text","_law_due","_law_found","_law_cell"] ["_law_script"] (bJ pY):=⟨rfl,rfl,rfl,by decide +kernel,rfl,by decide +kernel,by decide +kernel⟩
structure o8 (mg:Str->Option Value):Prop where
 len:mg "len"=none
 range:mg "range"=none
 enumerate:mg "enumerate"=none
 int:mg "int"=none
 list:mg "list"=none
 tuple:mg "tuple"=none
 isinstance:mg "isinstance"=none
 str:mg "str"=none
 bool:mg "bool"=none
 sorted:mg "sorted"=none
 all:mg "all"=none
 any:mg "any"=none
 zip:mg "zip"=none
 max:mg "max"=none
 min:mg "min"=none
 reversed:mg "reversed"=none
 ValueError:mg "ValueError"=none
 MOST_RINGS:∃ t,mg "MOST_RINGS"=some (.int 20 t)
 WALL:∃ t,mg "WALL"=some (.str (Str.ofString "#") t)
 OPEN_CELL:∃ t,mg "OPEN_CELL"=some (.str (Str.ofString ".") t)
 MOUTH:∃ t,mg "MOUTH"=some (.str (Str.ofString "v") t)
 MIDDLE:∃ t,mg "MIDDLE"=some (.str (Str.ofString "@") t)
local macro_rules | `(tactic| nofun) => `(tactic| (try dsimp (maxSteps := 3000000) only [L2.Bx, L2.Ml, L2.Kf, L2.K8, L2.HX, L2.Mm, L2.Bz, L2.K9, L2.w_and, L2.w_or, L2.w_not, L2.CZ, L2.HN, L2.CG, L2.Ko, L2.HL, L2.w_next, L2.HV, L2.CW, L2.CT, L2.HM, L2.CC, L2.HR, L2.HY, L2.zj, L2.CB, L2.CA, L2.HP, L2.CY, L2.Ky, L2.HJ, L2.HQ, L2.w_call, L2.Kz, L2.HW, L2.zu, L2.wH, L2.CS, L2.CQ, L2.CO, L2.CM, L2.CK, L2.CP, L2.HU, L2.wG, L2.HK, L2.By, L2.zq, L2.zo, L2.zt, L2.zr, L2.zn, L2.zl, L2.zk, L2.CN, L2.CH, L2.zi, L2.zg, L2.zh, L2.CJ, L2.w_getS, L2.CL, L2.CV, L2.CU, L2.zm, L2.zf, L2.Kb, L2.CF, L2.wF]); (try simp (maxSteps := 3000000) only [L2.Hu, L2.Bx, L2.Ml, L2.Kf, L2.K8, L2.MK, L2.Mx, L2.Mw, L2.Kw, L2.Kh, L2.HS, L2.Kg, L2.Kv, L2.Ku, L2.IQ, L2.HX, RT, RU, bW, L2.Mm, L2.Kt, L2.ID, L2.IJ, L2.IH, L2.II, L2.IF, L2.IG, L2.Hy, L2.Kl, L2.Km, L2.Kj, L2.LA, L2.Ke, L2.Bz, L2.K9, L2.w_and, L2.w_or, L2.w_not, L2.CZ, L2.HN, L2.CG, L2.Ko, L2.HL, L2.w_next, L2.HV, L2.CW, L2.CT, L2.HM, L2.CC, L2.HR, L2.HY, L2.zj, L2.CB, L2.CA, L2.HP, L2.CY, L2.Ky, L2.HJ, L2.HQ, L2.w_call, L2.Kz, L2.HW, L2.zu, L2.wH, L2.CS, L2.CQ, L2.CO, L2.CM, L2.CK, L2.IA, L2.FA, cH, RO, Bool.not_eq_true', decide_eq_false_iff_not, L2.FB, L2.CP, L2.HU, L2.wG, L2.HK, L2.By, L2.Ex, L2.Hw, L2.Kr, L2.CD, L2.IC, L2.zq, L2.zo, L2.zt, L2.zr, L2.zn, L2.zl, L2.zk, L2.IB, L2.CI, L2.CN, L2.CH, L2.Ks, L2.zi, L2.zg, L2.zh, L2.CJ, L2.w_getS, L2.Ez, L2.CL, L2.CV, L2.CU, L2.zm, L2.IK, L2.Kd, L2.Kc, L2.zf, L2.Kb, L2.CF, L2.wF, L2.Ka, L2.w_rev, L2.Eu, L2.FE, L2.FC, L2.Hx, L2.Hv, L2.Hz, L2.Ey, L2.Kq, L2.FF, L2.IP, L2.IL, L2.IM, L2.Ew, L2.FD]))
section
variable {P:Program} {w:World} {K:RV} {mg:Str->Option Value} {base:Heap}
theorem xG (E:Fn K mg "crossing" jX ["bows"]):ef P w K mg base 1 "crossing" jX ["bows"] sP:=E.mk' λf fd F=>by
 refine F.okS jh (λvs H Q E h=>?_) (λcdv A outer s H vs Q E hr h=>?_)
 ·obtain⟨l,ps,rfl,_⟩:=h;rfl
 ·obtain⟨l,ps,rfl,bo,qn,qs⟩:=h;obtain⟨as,b1,bl,bg⟩:=bo.get;refine⟨[some (.ref l),none,none,none,none],_,rfl,(L2.jI.h (aI (ci aZ rfl (eZ (a9 0)) (lB (n:=2) rfl (eC (bP (i:=1) jh.nd rfl (Or.inl rfl)) (eC (bP (i:=2) jh.nd rfl (Or.inl rfl)) ji)))
   (aL (ci aZ rfl (eZ (a9 0)) (lB (n:=2) rfl (eC (bP (i:=3) jh.nd rfl (Or.inl rfl)) (eC (bP (i:=4) jh.nd rfl (Or.inl rfl)) ji)))
    (aL (cj (yl lm lm lm (a9 1) (a9 3) (a9 2) (a9 4))
     (aL (bY (dA (dS (dA (aG (a9 1) (aG (a9 2) aB))) (dS (dA (aG (a9 3) (aG (a9 4) aB))) aB)))))
     bi)))))
   (aL (bY kN)))),?_⟩
  nofun;refine⟨⟨_,bw.of b1⟩,gW (xs:=as.map V.ref) (λi σ H2=>∃x1 x2 x3 x4:Option V,σ=[some (.ref l),x1,x2,x3,x4]/\H2=H/\∀p∈ps.take i,∀q∈ps,fJ p q=false) ⟨none,none,none,none,rfl,rfl,λp hp=>by simp at hp⟩ (λi σ H2 _ ⟨_,_,_,_,_,e,_⟩=>by rw[e];exact bw.of b1) ?_ ?_⟩
  ·rintro i x σ H2 hx ⟨x1,x2,x3,x4,rfl,rfl,hn⟩;obtain⟨a,p,rfl,hp,ta⟩:=bg i x hx;nofun;refine⟨_,dD.of ta,rfl,?_⟩;nofun;refine⟨⟨_,bw.of b1⟩,gW (xs:=as.map V.ref) (λj σ H3=>∃x3 x4:Option V,σ=[some (.ref l),some (.int p.1),some (.int p.2),x3,x4]/\H3=H2/\∀q∈ps.take j,fJ p q=false) ⟨x3,x4,rfl,rfl,λp hp=>by simp at hp⟩ (λi σ H2 _ ⟨_,_,_,e,_⟩=>by rw[e];exact bw.of b1) ?_ ?_⟩
   ·rintro j y σ H3 hy ⟨y3,y4,rfl,rfl,hm⟩;obtain⟨c,q,rfl,hq,tc⟩:=bg j y hy;nofun;refine⟨_,dD.of tc,rfl,?_⟩;nofun;have nx:fJ p q=false->∃x3 x4:Option V,[some (V.ref l),some (V.int p.1),some (V.int p.2),some (V.int q.1),some (V.int q.2)]=[some (V.ref l),some (V.int p.1),some (V.int p.2),x3,x4]/\True/\∀q∈ps.take (j+1),fJ p q=false:=λe=>by
     refine⟨_,_,rfl,trivial,λq' hq'=>?_⟩;rw[bD,hq] at hq';rcases aW.mp hq' with z | z
     ·exact hm q' z
     ·have e':q'=q:=by simpa using z
      rw[e'];exact e
    refine gl (λh1=>gl (λh2=>gl (λh3=>?_) (λh3=>nx (by simp[fJ,h3]))) (λh2=>nx (by simp[fJ,h2]))) (λh1=>nx (by simp[fJ,h1]));refine⟨(by show 2<=sizeLine;decide),λt1 n1=>⟨(by show 2<=sizeLine;decide),λt2 n2=>⟨(by show 2<=sizeLine;decide),λt3 n3=>?_⟩⟩⟩;have s1:ar H3 (upd H3 t1 (.tup [.int p.1,.int p.2])):=(ar.refl _).new n1;have s2:=s1.new (o:=.tup [.int q.1,.int q.2]) (s1.free n2);have s3:=s2.new (o:=.tup [.ref t1,.ref t2]) (s2.free n3);have e12:t1≠t2:=λe=>by subst e;rw[aE] at n2;cases n2
    have e23:t2≠t3:=λe=>by subst e;rw[aE] at n3;cases n3
    have e13:t1≠t3:=λe=>by subst e;rw[aO e12,aE] at n3;cases n3
    refine qs p (aR hp) q (aR hq) (by simp[fJ,h1,h2,h3]) t3 t1 t2 _ (s2.free n3) s3 aE ?_ ?_
    ·show upd _ _ _ t1=_;rw[aO e13,aO e12,aE]
    ·show upd _ _ _ t2=_;rw[aO e23,aE]
   ·rintro σ H3 ⟨y3,y4,rfl,rfl,hm⟩;refine⟨_,_,y3,y4,rfl,rfl,λp' hp'=>?_⟩;rw[bD,hp] at hp';rcases aW.mp hp' with z | z
    ·exact hn p' z
    ·have e:p'=p:=by simpa using z
     subst e;intro q hq;refine hm q ?_;rw[aA,bl,bZ];exact hq
  ·rintro σ H2 ⟨x1,x2,x3,x4,rfl,rfl,hn⟩;nofun;refine qn λp hp=>hn p ?_;rw[aA,bl,bZ];exact hp
theorem xD (B:o8 mg) (E:Fn K mg "is_whole" jT ["thing"]):ef P w K mg base 1 "is_whole" jT ["thing"] (pT K):=E.mk' λf fd F=>by
 refine F.okS w9 (λvs H Q E h=>?_) (λcdv A outer s H vs Q E hr h=>?_)
 ·obtain⟨x,t,b,c,rfl,_⟩:=h;rfl
 ·obtain⟨x,t,b,c,rfl,ty,e1,e2,q⟩:=h;refine⟨[some x],_,rfl,(L2.jI.h (aL (bY (lC (bG ir (by rfl) B.isinstance bq (aG (a9 0) (aG (ig (v:=.ty "int") (by rfl) B.int dZ rfl) aB))) (mY (AV (bG ir (by rfl) B.isinstance bq (aG (a9 0) (aG (ig (v:=.ty "bool") (by rfl) B.bool me rfl) aB))))))))),?_⟩;nofun;refine⟨_,_,_,b,rfl,ty,e1,?_⟩;nofun;cases b with
  | false=>exact Jr q
  | true=>exact Jq ⟨_,_,_,c,rfl,ty,e2,_,rfl,q⟩
theorem yt (Nm:∃a,mg "SIDES"=some (.ref a)/\∀H,dD K H a (([("l":Str),"r"]:List Str).map V.str)) (E:Fn K mg "is_side" kP ["thing"]):ef P w K mg base 1 "is_side" kP ["thing"] wU:=E.mk' λf fd F=>by
 refine F.okS yd (λvs H Q E h=>?_) (λcdv A outer s H vs Q E hr h=>?_)
 ·obtain⟨x,d,rfl,_⟩:=h;rfl
 ·obtain⟨x,d,rfl,hd,pl,q⟩:=h;refine⟨[some x],_,rfl,(L2.jI.h (aL (bY (eJ (Dw (oq hr)) (a9 0) (uj (by rfl) Nm) (by with_unfolding_all rfl))))),?_⟩;nofun;intro a ha;refine⟨d,[.str (Str.ofString "l"),.str (Str.ofString "r")],a,_,hd.rep,rfl,.inr (ha H),.cons (.str _) (.cons (.str _) .nil),pl.lay,by decide +kernel,pl.deep,?_⟩;rw[DH];exact q
theorem xE (B:o8 mg) (E:Fn K mg "is_order" jU ["thing"]) (Np:ef P w K mg base 1 "is_whole" jT ["thing"] (pT K)):ef P w K mg base 2 "is_order" jU ["thing"] uU:=E.mk' λf fd F=>by
 refine F.okS wa (λvs H Q E h=>?_) (λcdv A outer s H vs Q E hr h=>?_)
 ·obtain⟨x,d,rfl,_⟩:=h;rfl
 ·obtain⟨x,d,rfl,hd,q⟩:=h;refine⟨[some x],_,rfl,(L2.jI.h (aI (cj (QW.pt (mW (iD (iR (bG ir (by rfl) B.isinstance bq (aG (a9 0) (aG (ig (v:=.ty "tuple") (by rfl) B.tuple di rfl) aB))))) (mU (bX ph (bG bM (by rfl) B.len ax (aG (a9 0) aB)) (BF (by rfl) B.MOST_RINGS) (bp _)))))
   (aL (bY pD))
   bi)
   (aI (cj (iD (iR (bG (xn rfl) (by rfl) B.all PyProof.Rows.boot_all (ii (lh (own:=["ring"]) (ns:=[]) (caps:=[]) rfl ⟨rfl,by decide +kernel,by decide +kernel,by decide +kernel⟩ .nil (vc (a9 0)) (λC s H fp pn=>(bP (i:=0) (show List.Nodup ((["ring"]:List Str)++([]:List Str)) by decide +kernel) rfl (Or.inl rfl))) (λC s H fp pn=>mX) (λC s H fp pn=>(aj Np (hr.mono (by decide)) (by rfl) (aG (a9 0) aB)))) aB))))
   (aL (bY pD))
   bi)
   (aL (bY (eJ (vh (oq hr)) (bG qE (by rfl) B.sorted eV (aG (a9 0) aB)) (dh (uM rfl) (by rfl) B.list dU (D0 (dh Bl (by rfl) B.range PyProof.Rows.boot_range (cO aC (cX (ae c9 (bG bM (by rfl) B.len ax (aG (a9 0) aB)) aC) aB))) aB)) (bp _))))))),?_⟩
  cases id hd with
  | tup h1 h2=>
   rename_i a xs ds;nofun;refine o0 hd ?_;nofun;refine nR (by simp[MC]) ⟨_,.inr (dD.of h1),?_⟩;have hl:=h2.len;refine gl (λhn=>?_) (λhn=>?_)
   ·have e:qg (.tuple ds)=false:=by
     show (decide (ds.length<=20)&&_)=false;rw[RP (by lia)];rfl
    rw[e] at q;exact q H (ar.refl _)
   ·have hn':xs.length<=20:=by lia
    have hz:xs.length<=sizeLine:=ba (bQ (by lia));have hds:ds.length=xs.length:=hl.symm;have e0:qg (.tuple ds)=(ds.all ic&&(ds.map intOf).isPerm (gp 1 ds.length)):=by
     show (decide (ds.length<=20)&&_)=_;rw[RQ (by lia)];rfl
    rw[e0] at q;refine⟨⟨_,dD.of h1⟩,Bj (dD.of h1) hz ((ds.map ic).map V.bl) (by simp[hds]) (λi x y Q' hx hy hq=>?_) λp1 n1=>?_⟩
    ·obtain⟨d,hd1,hd2⟩:=h2.get hx;nofun;refine sC hd2 ?_;have ey:y=V.bl (ic d):=by simp[hd1] at hy;exact hy.symm
     rw[ey] at hq;exact hq
    ·have s1:ar H (upd H p1 (.lst ((ds.map ic).map V.bl))):=(ar.refl _).new n1;refine⟨p1,_,rfl,bw.of aE,_,rfl,?_⟩;have ea:(ds.map ic).all id=ds.all ic:=by rw[List.all_map];rfl
     cases hb:ds.all ic with
     | false=>
      rw[hb] at q;exact rQ (show (ds.map ic).all id=false by rw[ea,hb]) (q _ s1)
     | true=>
      rw[hb,eW] at q;rw[j8] at hb;have hq1:=s1 _ _ h1;have ex:xs=(ds.map intOf).map V.int:=by
       apply lI;intro i;cases e:xs[i]? with
       | none=>
        have:xs.length<=i:=by rw[<-List.getElem?_eq_none_iff];exact e
        rw[d8 (by simp;lia)]
       | some x=>
        obtain⟨d,hd1,hd2⟩:=h2.get e;have hw:=yB (hb d (aR hd1));rw[hw] at hd2;cases hd2;simp[hd1]
      refine nR (show ¬(ds.map ic).all id=false by rw[ea,j8.mpr hb];decide) ⟨a,ds.map intOf,rfl,.inr (by rw[<-ex];exact dD.of hq1),by rw[aA];lia,λl5 ms n5 hp hs=>?_⟩;have s5:=s1.new (o:=.lst (ms.map V.int)) (s1.free n5);nofun;refine⟨_,.inr (dD.of (s5 _ _ h1)),λp6 n6=>⟨1,_,aE,⟨by decide,by decide,by lia,by lia,by lia⟩,λl7 n7=>?_⟩⟩;have s6:=s5.new (o:=.rng 1 ((xs.length:Int)+1)) (s5.free n6);have n56:l5≠p6:=λe=>by subst e;rw[aE] at n6;cases n6
      have n57:l5≠l7:=λe=>by subst e;rw[aO n56,aE] at n7;cases n7
      have eN:((xs.length:Int)+1 - 1).toNat=(ds.map intOf).length:=by rw[aA];lia
      refine Ea (bw.of (by rw[aO n57,aO n56,aE])) (bw.of aE) ?_;rw[eN,vT hp hs];rw[aA];exact q _ (s6.new (s6.free n7))
  | _=>
   nofun;refine o0 hd ?_;nofun;exact rQ (by rfl) (q H (ar.refl _))
theorem yu (B:o8 mg) (E:Fn K mg "is_maze" jV ["thing"]) (OD:ef P w K mg base 1 "is_side" kP ["thing"] wU) (Nq:ef P w K mg base 2 "is_order" jU ["thing"] uU):ef P w K mg base 3 "is_maze" jV ["thing"] sN:=E.mk' λf fd F=>by
 refine F.okS ye (λvs H Q E h=>?_) (λcdv A outer s H vs Q E hr h=>?_)
 ·obtain⟨x,d,rfl,_⟩:=h;rfl
 ·obtain⟨x,d,rfl,hd,pl,q⟩:=h;refine⟨[some x],_,rfl,(L2.jI.h (aI (cj (QW.pt (mW (iD (iR (bG ir (by rfl) B.isinstance bq (aG (a9 0) (aG (ig (v:=.ty "tuple") (by rfl) B.tuple di rfl) aB))))) (mU (bX pf (bG bM (by rfl) B.len ax (aG (a9 0) aB)) aC (bp _)))))
   (aL (bY pD))
   bi)
   (aL (bY (lC (aj OD (hr.mono (by decide)) (by rfl) (aV (aU bf (a9 0) aC (λ_ _=>rfl)) aB)) (mY (aj Nq (hr.mono (by decide)) (by rfl) (aV (aU bf (a9 0) aC (λ_ _=>rfl)) aB)))))))),?_⟩
  cases id hd with
  | tup h1 h2=>
   rename_i a xs ds;nofun;refine o0 hd ?_;nofun;refine nR (by simp[MC]) ⟨_,.inr (dD.of h1),?_⟩;have hl:=h2.len;refine gl (λhn=>?_) (λhn=>?_)
   ·have e:xP (.tuple ds)=false:=by
     match ds,hl with
     | [],_=>rfl
     | [u],_=>rfl
     | [u,v],hl=>exact absurd (by rw[hl];rfl) hn
     | u::v::w::r,_=>rfl
    rw[e] at q;exact q H (ar.refl _)
   ·have hn':xs.length=2:=by
     have:(xs.length:Int)=2:=fx.mp hn;lia
    obtain⟨d,e,rfl⟩:∃d e,ds=[d,e]:=match ds,hl.symm.trans hn' with
     | [u,v],_=>⟨u,v,rfl⟩
    obtain⟨x,y,rfl,hx,hy⟩:=Gm h2;have hlay:d.canLay0=true:=by
     have:(PyData.canLay0 d&&(PyData.canLay0 e&&true))=true:=pl.lay;rw[aY] at this;exact this.1
    have hdp:d.depth<=60:=by
     have:max d.depth (max e.depth 0)+1<=60:=pl.deep;lia
    refine⟨_,x,dD.of h1,rfl,x,d,rfl,hx,⟨hlay,hdp⟩,?_⟩;nofun;cases es:rC d with
    | false=>
     refine Jr ?_;have e:xP (.tuple [d,e])=false:=by show (rC d&&_)=false;rw[es];rfl
     rw[e] at q;exact q H (ar.refl _)
    | true=>
     have e:xP (.tuple [d,e])=qg e:=by show (rC d&&_)=_;rw[es];rfl
     rw[e] at q;exact Jq ⟨_,y,dD.of h1,rfl,y,_,rfl,hy,q⟩
  | _=>
   nofun;refine o0 hd ?_;nofun;exact rQ (by rfl) (q H (ar.refl _))
theorem uC (E:Fn K mg "other_side" h7 ["side"]):ef P w K mg base 1 "other_side" h7 ["side"] AF:=E.mk' λf fd F=>by
 refine F.okS uB (λvs H Q E h=>?_) (λcdv A outer s H vs Q E hr h=>?_)
 ·obtain⟨b,rfl,_⟩:=h;rfl
 ·obtain⟨b,rfl,q⟩:=h;refine⟨[some (.str (sd b))],_,rfl,(L2.jI.h (aL (bY (ui (bX iI (a9 0) cF (bp _)) cF cF)))),?_⟩;nofun;simp only[MU];refine gl (λh=>?_) (λh=>?_)
  ·subst h;exact q
  ·have e:b=true:=by cases b;exact absurd rfl h;rfl
   subst e;exact q
theorem rL (E:Fn K mg "side_of_step" gD ["maze","step"]) (N9:ef P w K mg base 1 "other_side" h7 ["side"] AF):ef P w K mg base 2 "side_of_step" gD ["maze","step"] wO:=E.mk' λf fd F=>by
 refine F.okS nD (λvs H Q E h=>?_) (λcdv A outer s H vs Q E hr h=>?_)
 ·obtain⟨m,o,b,ns,k,rfl,_⟩:=h;rfl
 ·obtain⟨m,o,b,ns,k,rfl,hm,q⟩:=h;refine⟨[some (.ref m),some (.int k),none],_,rfl,(L2.jI.h (aI (ak (i:=2) nD.nd rfl (Or.inl rfl) (aU bf (a9 0) aC (λ_ _=>rfl)))
   (aL (bY (ui (bX iI (ae kf (a9 1) aC) aC (bp _)) (a9 2) (aj N9 (hr.mono (by decide)) (by rfl) (aG (a9 2) aB))))))),?_⟩
  nofun;refine⟨_,_,dD.of hm.1,rfl,?_⟩;refine⟨by decide,gl (λh=>?_) (λh=>?_)⟩
  ·have e:odd k=false:=by simp[odd];lia
   rw[e,km] at q;exact q
  ·have e:odd k=true:=by simp[odd];lia
   rw[e,Bool.xor_true] at q;exact⟨b,rfl,q⟩
theorem sr (B:o8 mg) (E:Fn K mg "rows_of_way" g6 ["maze"]):ef P w K mg base 1 "rows_of_way" g6 ["maze"] Cw:=E.mk' λf fd F=>by
 refine F.okS nX (λvs H Q E h=>?_) (λcdv A outer s H vs Q E hr h=>?_)
 ·obtain⟨m,o,b,ns,rfl,_⟩:=h;rfl
 ·obtain⟨m,o,b,ns,rfl,hm,hl,q⟩:=h;refine⟨[some (.ref m),none],_,rfl,(L2.jI.h (aI (ak (i:=1) nX.nd rfl (Or.inl rfl) (aU bf (a9 0) aC (λ_ _=>rfl)))
   (aL (bY (ae pE (ae pE (cu (cO aC aB)) (dh qF (by rfl) B.list dU (aG (a9 1) aB))) (cu (cX (ae c9 (bG bM (by rfl) B.len ax (aG (a9 1) aB)) aC) aB))))))),?_⟩
  nofun;refine⟨_,_,dD.of hm.1,rfl,(by show 1<=sizeLine;decide),λp1 n1=>?_⟩;have s1:=(ar.refl H).new (o:=.lst [.int 0]) n1;refine⟨o,_,rfl,.inr (dD.of (s1 _ _ hm.2)),λp2 n2=>?_⟩;have s2:=s1.new (o:=.lst (ns.map V.int)) (s1.free n2);have e12:p1≠p2:=λe=>by subst e;rw[aE] at n2;cases n2
  refine⟨p1,p2,_,_,rfl,rfl,by rw[aO e12,aE],aE,ba (bQ (by simp;lia)),λp3 n3=>?_⟩;have s3:=s2.new (o:=.lst ([.int 0]++ns.map V.int)) (s2.free n3);refine⟨o,_,rfl,.inr (dD.of (s3 _ _ hm.2)),(by show 1<=sizeLine;decide),λp4 n4=>?_⟩;have s4:=s3.new (o:=.lst [.int (((ns.map V.int).length:Int)+1)]) (s3.free n4);have e34:p3≠p4:=λe=>by subst e;rw[aE] at n4;cases n4
  refine⟨p3,p4,_,_,rfl,rfl,by rw[aO e34,aE],aE,ba (bQ (by simp;lia)),λp5 n5=>?_⟩;have s5:=s4.new (o:=.lst ([.int 0]++ns.map V.int++[.int (((ns.map V.int).length:Int)+1)])) (s4.free n5);refine q p5 _ (s4.free n5) s5 ?_;rw[aE];simp[eT]
theorem zB (B:o8 mg) (E:Fn K mg "bows_of" jZ ["maze"]) (NY:ef P w K mg base 2 "side_of_step" gD ["maze","step"] wO) (N2:ef P w K mg base 1 "rows_of_way" g6 ["maze"] Cw):ef P w K mg base 3 "bows_of" jZ ["maze"] sQ:=E.mk' λf fd F=>by
 refine F.okS kd (λvs H Q E h=>?_) (λcdv A outer s H vs Q E hr h=>?_)
 ·obtain⟨m,o,b,ns,rfl,_⟩:=h;rfl
 ·obtain⟨m,o,b,ns,rfl,hm,O,q⟩:=h;have hlen:=O.len;refine⟨[some (.ref m),none,none,none,none],_,rfl,(L2.jI.h (aI (ak (i:=1) kd.nd rfl (Or.inl rfl) (aj N2 (hr.mono (by decide)) (by rfl) (aG (a9 0) aB)))
   (aI (ak (i:=2) kd.nd rfl (Or.inl rfl) (DZ (uh cF (cu aB) (uh cF (cu aB) DV)) rfl rfl (λz=>nomatch z) (by decide)))
   (aI (ci aZ rfl (gQ (by rfl) B.range (cX (ae fY (bG bM (by rfl) B.len ax (aG (a9 1) aB)) aC) aB)) (bP (i:=3) kd.nd rfl (Or.inl rfl))
   (aI (ak (i:=4) kd.nd rfl (Or.inl rfl) (dh lQ (by rfl) B.tuple di (cn (bG qv (by rfl) B.sorted eV (aV (qb AM (a9 1) (nZ (a9 3)) (nZ (ae c9 (a9 3) aC))) aB)) aB)))
    (aL (cZ (eO a8 aq ao dH (fh (i9 hr) (a9 2) (aj NY (hr.mono (by decide)) (by rfl) (aG (a9 0) (aG (a9 3) aB))) (λ_ _=>rfl)) (aG (a9 4) aB))))))
   (aL (bY (dA (cn (bG mC (by rfl) B.sorted eV (aV (fh (i9 hr) (a9 2) cF (λ_ _=>rfl)) aB)) (cn (bG mC (by rfl) B.sorted eV (aV (fh (i9 hr) (a9 2) cF (λ_ _=>rfl)) aB)) aB))))))))),?_⟩
  nofun;refine⟨m,o,b,ns,rfl,hm,by lia,λrl H1 nrl s1 hrl=>?_⟩;nofun;intro d nd;have sd1:=s1.new (o:=.dK []) (s1.free nd);refine⟨ac _,λl1 nl1=>?_⟩;have edl:d≠l1:=λe=>by subst e;rw[aE] at nl1;cases nl1
  have sl1:=sd1.new (o:=.lst []) (sd1.free nl1);refine⟨ac _,λr1 nr1=>?_⟩;have edr:d≠r1:=λe=>by subst e;rw[aO edl,aE] at nr1;cases nr1
  have elr:l1≠r1:=λe=>by subst e;rw[aE] at nr1;cases nr1
  have sr1:=sl1.new (o:=.lst []) (sl1.free nr1);refine⟨by rw[aO edr,aO edl,aE],[(.inr (Str.ofString "l"),.ref l1),(.inr (Str.ofString "r"),.ref r1)],rfl,(by show 2<=15;decide),?_⟩;have fd0:H d=none:=s1.free nd;have fl0:H l1=none:=sd1.free nl1;have fr0:H r1=none:=sl1.free nr1;have erl:rl≠d:=am hrl nd;have erl1:rl≠l1:=am (((ar.refl H1).new (o:=.dK []) nd) _ _ hrl) nl1;have erl2:rl≠r1:=am ((((ar.refl H1).new (o:=.dK []) nd).new (o:=.lst []) (((ar.refl H1).new (o:=.dK []) nd).free nl1)) _ _ hrl) nr1;generalize hkv:pG [] [((.inr (Str.ofString "l"):Key),V.ref l1),(.inr (Str.ofString "r"),.ref r1)]=kvs;have kl:eI kvs (.inr (Str.ofString "l"))=some (.ref l1):=by subst hkv;rfl
  have kr:eI kvs (.inr (Str.ofString "r"))=some (.ref r1):=by subst hkv;rfl
  have ks:∀s:Bool,eI kvs (.inr (sd s))=some (.ref (if s then r1 else l1)):=λs=>by cases s;exact kl;exact kr
  refine⟨_,.inl (bw.of (by rw[aO erl,aO erl2,aO erl1,aO erl];exact hrl)),by rw[aA,i5];lia,by rw[aA,i5];lia,?_⟩;have eN:(((eT ns).map V.int).length - 1:Int).toNat=ns.length+1:=by rw[aA,i5];lia
  rw[eN];refine fB (n:=ns.length+1) (λi σ H2=>∃(x3 x4:Option V),σ=[some (.ref m),some (.ref rl),some (.ref d),x3,x4]/\ar H H2/\H2 rl=some (.lst ((eT ns).map V.int))/\H2 d=some (.dK kvs)/\bu H2 l1 (bU b ns false i)/\bu H2 r1 (bU b ns true i))
   ⟨none,none,rfl,sr1.new fd0,by rw[aO erl,aO erl2,aO erl1,aO erl];exact hrl,aE,⟨[],by rw[aO edl.symm,aO elr,aE];rfl,.nil⟩,⟨[],by rw[aO edr.symm,aE];rfl,.nil⟩⟩ ?_ ?_
  ·rintro i σ H2 hi ⟨x3,x4,rfl,sm,hrl2,hd2,bl,br⟩;nofun;refine⟨rl,_,rfl,bw.of hrl2,λp1 n1=>?_⟩;rw[Gq (by lia)];have t1:=(ar.refl H2).new (o:=.lst ([b6 ns i,b6 ns (i+1)].map V.int)) n1;refine⟨p1,_,rfl,bw.of aE,(by show 2<64;decide),λp2 ms n2 hp hs=>?_⟩;rw[yG hp hs];have t2:=t1.new (o:=.lst ([min (b6 ns i) (b6 ns (i+1)),max (b6 ns i) (b6 ns (i+1))].map V.int)) (t1.free n2);refine⟨p2,_,rfl,.inl ⟨bw.of aE,λt n3=>?_⟩⟩;have t3:=t2.new (o:=.tup ([min (b6 ns i) (b6 ns (i+1)),max (b6 ns i) (b6 ns (i+1))].map V.int)) (t2.free n3);have sm3:=sm.trans t3;refine⟨m,o,b,ns,i,by simp,hm.same sm3,?_⟩;have bl3:=bl.same t3;have br3:=br.same t3;refine⟨_,.inl ⟨kvs,.inr (sd (b ^^ odd i)),.inl (t3 _ _ hd2),rfl,(ks _).symm⟩,?_⟩;have tt:bS (upd (upd (upd H2 p1 (.lst ([b6 ns i,b6 ns (i+1)].map V.int))) p2 (.lst ([min (b6 ns i) (b6 ns (i+1)),max (b6 ns i) (b6 ns (i+1))].map V.int))) t (.tup ([min (b6 ns i) (b6 ns (i+1)),max (b6 ns i) (b6 ns (i+1))].map V.int))) t (cI ns i):=aE;generalize upd (upd (upd H2 p1 (.lst ([b6 ns i,b6 ns (i+1)].map V.int))) p2 (.lst ([min (b6 ns i) (b6 ns (i+1)),max (b6 ns i) (b6 ns (i+1))].map V.int))) t (.tup ([min (b6 ns i) (b6 ns (i+1)),max (b6 ns i) (b6 ns (i+1))].map V.int))=H3 at *;cases hs:(b ^^ odd i) with
   | false=>
    have h1:ce b false i=true:=by simp[ce,hs]
    have h2:ce b true i=false:=by simp[ce,hs]
    rw[ie h1,jf h2];obtain⟨as,b1,b2⟩:=bl3;have ha:as.length=(bU b ns false i).length:=au b2;have:=h6 b ns false i;refine⟨gP b1,l1,as.map V.ref,_,rfl,rfl,b1,by rw[aA];exact bQ (by lia),_,_,rfl,sm3.new fl0,by rw[aO erl1];exact t3 _ _ hrl2,by rw[aO edl];exact t3 _ _ hd2,kY b1 b2 tt,iu br3 b1 elr.symm⟩
   | true=>
    have h1:ce b true i=true:=by simp[ce,hs]
    have h2:ce b false i=false:=by simp[ce,hs]
    rw[ie h1,jf h2];obtain⟨as,b1,b2⟩:=br3;have ha:as.length=(bU b ns true i).length:=au b2;have:=h6 b ns true i;refine⟨gP b1,r1,as.map V.ref,_,rfl,rfl,b1,by rw[aA];exact bQ (by lia),_,_,rfl,sm3.new fr0,by rw[aO erl2];exact t3 _ _ hrl2,by rw[aO edr];exact t3 _ _ hd2,iu bl3 b1 elr,kY b1 b2 tt⟩
  ·rintro σ H2 ⟨x3,x4,rfl,sm,hrl2,hd2,bl,br⟩;nofun;have bnd:∀s,∀p∈bU b ns s (ns.length+1),0<=p.2/\p.2<1000:=λs p hp=>by
    obtain⟨i,hi,_,rfl⟩:=gV hp;have:=O.step_in (i:=i) (by lia);have:=O.step_lt (i:=i) (by lia);lia
   obtain⟨as,b1,b2⟩:=bl;have:=h6 b ns false (ns.length+1);refine⟨_,.inl ⟨kvs,.inr (Str.ofString "l"),.inl hd2,rfl,kl.symm⟩,l1,as,_,rfl,bw.of b1,b2,by lia,bnd false,λl as' L nl hP hp hs=>?_⟩;have t1:=(ar.refl H2).new (o:=.lst (as'.map V.ref)) nl;obtain⟨bs,c1,c2⟩:=br.same t1;have:=h6 b ns true (ns.length+1);refine⟨_,.inl ⟨kvs,.inr (Str.ofString "r"),.inl (t1 _ _ hd2),rfl,kr.symm⟩,r1,bs,_,rfl,bw.of c1,c2,by lia,bnd true,λr bs' R nr hP2 hp2 hs2=>?_⟩;have t2:=(ar.refl (upd H2 l (.lst (as'.map V.ref)))).new (o:=.lst (bs'.map V.ref)) nr;refine⟨(by show 2<=sizeLine;decide),λt nt=>?_⟩;have t3:=(ar.refl (upd (upd H2 l (.lst (as'.map V.ref))) r (.lst (bs'.map V.ref)))).new (o:=.tup [.ref l,.ref r]) nt;have elr2:l≠r:=λe=>by subst e;rw[aE] at nr;cases nr
   refine q t l r L R _ (sm.free (t1.free (t2.free nt))) (sm.free nl) (sm.free (t1.free nr)) (((sm.trans t1).trans t2).trans t3) ⟨aE,?_,?_,⟨hp,hs⟩,⟨hp2,hs2⟩,elr2⟩
   ·exact((vE (l:=l) hP nl).same t2).same t3
   ·exact(vE (l:=r) hP2 nr).same t3
theorem yz (B:o8 mg) (Nm:∃a,mg "SIDES"=some (.ref a)/\∀H,dD K H a (([("l":Str),"r"]:List Str).map V.str)) (E:Fn K mg "crossed" jY ["maze"]) (NV:ef P w K mg base 3 "bows_of" jZ ["maze"] sQ) (Nr:ef P w K mg base 1 "crossing" jX ["bows"] sP):ef P w K mg base 4 "crossed" jY ["maze"] qO:=E.mk' λf fd F=>by
 refine F.okS mT (λvs H Q E h=>?_) (λcdv A outer s H vs Q E hr h=>?_)
 ·obtain⟨m,o,b,ns,rfl,_⟩:=h;rfl
 ·obtain⟨m,o,b,ns,rfl,hm,O,qn,qc⟩:=h;refine⟨[some (.ref m),none,none,none],_,rfl,(L2.jI.h (aI (ci aZ rfl (DX (by rfl) B.zip (aG (uj (by rfl) Nm) (cn (aj NV (hr.mono (by decide)) (by rfl) (aG (a9 0) aB)) aB))) (lB (n:=2) rfl (eC (bP (i:=1) mT.nd rfl (Or.inl rfl)) (eC (bP (i:=2) mT.nd rfl (Or.inl rfl)) ji)))
   (aI (ak (i:=3) mT.nd rfl (Or.inl rfl) (aj Nr (hr.mono (by decide)) (by rfl) (aG (a9 2) aB)))
    (aL (cj (bX AX (a9 3) kN (bp _))
    (aL (bY (dA (aG (a9 1) (aV (aU bf (a9 3) aC (λ_ _=>rfl)) (aV (aU bf (a9 3) aC (λ_ _=>rfl)) aB))))))
    bi))))
   (aL (bY kN)))),?_⟩
  nofun;intro a ha;refine⟨m,o,b,ns,rfl,hm,O,λt l r L R H1 nt nl nr s1 BO=>⟨a,t,rfl,⟨_,ha _⟩,⟨_,dD.of BO.tup⟩,?_⟩⟩;refine E5 (xs:=[V.str (sd false),.str (sd true)]) (ys:=[.ref l,.ref r]) (aH _) (λi σ H'=>∃x1 x2 x3:Option V,σ=[some (.ref m),x1,x2,x3]/\ar H1 H'/\∀u:Bool,(if u then 2 else 1)<=i->∀p∈bU b ns u (ns.length+1),∀q∈bU b ns u (ns.length+1),fJ p q=false)
   ⟨_,_,_,rfl,ar.refl _,λu hu=>by cases u<;>simp at hu⟩ (λi σ H' ⟨_,_,_,_,s2,_⟩=>⟨ha _,dD.of (s2 _ _ BO.tup)⟩) ?_ ?_
  ·rintro i x y σ H2 p hx hy ⟨x1,x2,x3,rfl,s2,hn⟩ np;obtain⟨u,lu,S,rfl,rfl,hBS,hS,hi⟩:∃(u:Bool) (lu:Addr) (S:List Bw),x=.str (sd u)/\y=.ref lu/\bu H2 lu S/\dt b ns u S/\i+1=(if u then 2 else 1):=by
    match i,hx,hy with
    | 0,hx,hy=>cases hx;cases hy;exact⟨false,l,L,rfl,rfl,BO.left.same s2,BO.isL,rfl⟩
    | 1,hx,hy=>cases hx;cases hy;exact⟨true,r,R,rfl,rfl,BO.right.same s2,BO.isR,rfl⟩
    | j+2,hx,hy=>simp at hx
   nofun;refine⟨_,dD.of aE,rfl,?_⟩;have s3:=(ar.refl H2).new (o:=.tup [.str (sd u),.ref lu]) np;nofun;refine⟨lu,S,rfl,hBS.same s3,λhc=>⟨trivial,?_⟩,λe1 h1 e2 h2 z t2 a2 b2 H3 nt2 s4 ht2 ta tb=>⟨trivial,?_⟩⟩
   ·nofun;refine nR (λz=>z trivial) ⟨_,_,_,rfl,s2.trans s3,λv hv=>?_⟩;by_cases e:v=u
    ·subst e;exact λp hp q hq=>hc p (hS.perm.mem_iff.mpr hp) q (hS.perm.mem_iff.mpr hq)
    ·refine hn v ?_;cases u<;>cases v<;>simp_all
   ·nofun;refine rQ (λz=>nomatch z) ⟨_,_,dD.of ht2,rfl,_,_,dD.of ht2,rfl,(by show 3<=sizeLine;decide),λt3 nt3=>?_⟩;have s5:=(ar.refl H3).new (o:=.tup [.str (sd u),.ref a2,.ref b2]) nt3;exact qc u e1 (hS.perm.mem_iff.mp h1) e2 (hS.perm.mem_iff.mp h2) z t3 _ ((((s1.trans s2).trans s3).trans s4).trans s5) ⟨a2,b2,aE,s5 _ _ ta,s5 _ _ tb⟩
  ·rintro σ H2 ⟨x1,x2,x3,rfl,s2,hn⟩;nofun;exact qn (λu=>hn u (by cases u<;>decide)) _ (s1.trans s2)
theorem J9 (E:Fn K mg "vet" u5 ["maze"]) (NW:ef P w K mg base 3 "is_maze" jV ["thing"] sN) (NX:ef P w K mg base 4 "crossed" jY ["maze"] qO):ef P w K mg base 5 "vet" u5 ["maze"] Ct:=E.mk' λf fd F=>by
 refine F.okS DK (λvs H Q E h=>?_) (λcdv A outer s H vs Q E hr h=>?_)
 ·obtain⟨m,o,b,ns,rfl,_⟩:=h;rfl
 ·obtain⟨m,o,b,ns,rfl,hm,O,nc,q⟩:=h;refine⟨[some (.ref m),none],_,rfl,(L2.jI.h (aI (cj (iD (iR (aj NW (hr.mono (by decide)) (by rfl) (aG (a9 0) aB))))
   (aL oX)
   bi)
   (aI (ak (i:=1) DK.nd rfl (Or.inl rfl) (aj NX (hr.mono (by decide)) (by rfl) (aG (a9 0) aB)))
   (aI (cj (bX AX (a9 1) kN (bp _))
   (aL oX)
   bi)
   (aL (bY pD)))))),?_⟩
  nofun;refine⟨_,_,rfl,hm.dat,EG,λH1 s1=>?_⟩;rw[EH O];nofun;refine⟨m,o,b,ns,rfl,hm.same s1,O,λnc H2 s2=>⟨trivial,?_⟩,λu p hp q' hq z=>by rw[nc u p hp q' hq] at z;cases z⟩;nofun;exact nR (λz=>z trivial) (q _ (s1.trans s2))
theorem GN (E:Fn K mg "span" qV ["bow"]):ef P w K mg base 1 "span" qV ["bow"] Cv:=E.mk' λf fd F=>by
 refine F.okS FQ (λvs H Q E h=>?_) (λcdv A outer s H vs Q E hr h=>?_)
 ·obtain⟨a,p,rfl,_⟩:=h;rfl
 ·obtain⟨a,p,rfl,ta,q⟩:=h;refine⟨[some (.ref a)],_,rfl,(L2.jI.h (aL (bY (ae fY (aU bf (a9 0) aC (λ_ _=>rfl)) (aU bf (a9 0) aC (λ_ _=>rfl)))))),?_⟩;nofun;refine⟨_,_,dD.of ta,rfl,_,_,dD.of ta,rfl,?_⟩;nofun;exact q
theorem su (E:Fn K mg "lies_within" gb ["inner","outer"]):ef P w K mg base 1 "lies_within" gb ["inner","outer"] wN:=E.mk' λf fd F=>by
 refine F.okS sT (λvs H Q E h=>?_) (λcdv A outer s H vs Q E hr h=>?_)
 ·obtain⟨a,b,p,q,rfl,_⟩:=h;rfl
 ·obtain⟨a,b,p,q',rfl,ta,tb,q⟩:=h;refine⟨[some (.ref a),some (.ref b)],_,rfl,(L2.jI.h (aL (bY (lC (eJ lm (aU bf (a9 1) aC (λ_ _=>rfl)) (aU bf (a9 0) aC (λ_ _=>rfl)) (bp _)) (mY (eJ lm (aU bf (a9 0) aC (λ_ _=>rfl)) (aU bf (a9 1) aC (λ_ _=>rfl)) (bp _))))))),?_⟩;nofun;refine⟨_,_,dD.of tb,rfl,_,_,dD.of ta,rfl,?_⟩;nofun;refine gl (λh1=>⟨_,_,dD.of ta,rfl,_,_,dD.of tb,rfl,?_⟩) (λh1=>?_)
  ·nofun;have e:jv p q'=decide (p.2<q'.2):=by show (decide (q'.1<p.1)&&_)=_;rw[RQ h1];rfl
   rw[e] at q;exact q
  ·have e:jv p q'=false:=by show (decide (q'.1<p.1)&&_)=_;rw[RP h1];rfl
   rw[e] at q;exact q
theorem yw (B:o8 mg) (E:Fn K mg "heights" iZ ["bows"]) (Ow:ef P w K mg base 1 "span" qV ["bow"] Cv) (N3:ef P w K mg base 1 "lies_within" gb ["inner","outer"] wN):ef P w K mg base 4 "heights" iZ ["bows"] oM:=E.mk' λf fd F=>by
 refine F.okS mS (λvs H Q E h=>?_) (λcdv A outer s H vs Q E hr h=>?_)
 ·obtain⟨l,ps,rfl,_⟩:=h;rfl
 ·obtain⟨l,ps,rfl,bo,nd,hl,q⟩:=h;refine⟨[some (.ref l),none,none,none],_,rfl,(L2.jI.h (aI (ak (i:=1) mS.nd rfl (Or.inr rfl) lg)
   (aI (ci aZ rfl (eZ (BE Ow (hr.mono (by decide)) (by rfl) B.sorted (by rfl) (a9 0))) (bP (i:=2) mS.nd rfl (Or.inr rfl))
   (aI (ug (i:=3) mS.nd rfl (Or.inl rfl) (own:=["other"]) (ns:=["known","bow"]) (caps:=[1,2]) rfl ⟨rfl,by decide +kernel,by decide +kernel,by decide +kernel⟩ (.cons rfl rfl (.inl rfl) (.cons rfl rfl (.inl rfl) .nil)) (a9 1) (λC s H fp pn=>(bP (i:=0) (show List.Nodup ((["other"]:List Str)++(["known","bow"]:List Str)) by decide +kernel) rfl (Or.inl rfl))) (λC s H fp pn=>(vd (iR (aj N3 (hr.mono (by decide)) (by rfl) (aG (a9 0) (aG (a9 2) aB)))))) (λC s H fp pn=>(fh (i9 hr) (a9 1) (a9 0) (λ_ _=>rfl))))
    (aL (gG (i9 hr) (a9 1) (a9 2) (ae c9 aC (wn rfl (by rfl) B.max (a9 3) aC)) rfl))))
   (aL (bY (lh (own:=["bow"]) (ns:=["known"]) (caps:=[1]) rfl ⟨rfl,by decide +kernel,by decide +kernel,by decide +kernel⟩ (.cons rfl rfl (.inl rfl) .nil) (eZ (a9 0)) (λC s H fp pn=>(bP (i:=0) (show List.Nodup ((["bow"]:List Str)++(["known"]:List Str)) by decide +kernel) rfl (Or.inl rfl))) (λC s H fp pn=>mX) (λC s H fp pn=>(fh (i9 hr) (a9 1) (a9 0) (λ_ _=>rfl))))))))),?_⟩
  nofun;intro kn nkn;obtain⟨as,b1,b2⟩:=id bo;have hal:as.length=ps.length:=au b2;have sk:=(ar.refl H).new (o:=.dT []) nkn;obtain⟨zz,eas,eps,hz⟩:=se b2;refine⟨l,as.map V.ref,ps.map fN,rfl,bw.of (sk _ _ b1),by rw[aA];lia,by rw[aA,aA,hal],λi x k Q' hx hk hq=>?_,λl' zs nl' hp hs=>?_⟩
  ·rw[aP] at hx hk;cases ea:as[i]? with
   | none=>rw[ea] at hx;cases hx
   | some a=>
    rw[ea] at hx;cases hx;obtain⟨p,hp,ta⟩:=gu b2 ea;rw[hp] at hk;cases hk;exact⟨a,p,rfl,ta.same sk,hq⟩
  have ezip:(ps.map fN).zip (as.map V.ref)=zz.map λz=>(fN z.2,V.ref z.1):=by
   rw[eas,eps];clear eas eps hz b1 b2 hal hp hs bo nd hl q
   induction zz with
   | nil=>rfl
   | cons z zz ih=>
    simp only[be] at ih;simp[ih]
  rw[ezip] at hp;obtain⟨ws,hw,rfl⟩:=ww hp rfl;have hq1:(ws.map (·.2)).Perm ps:=by rw[eps];exact hw.map _
  have hsp:(ws.map (·.2)).Pairwise (λa b=>fN a<=fN b):=by
   rw[cv] at hs ⊢;exact hs
  have hwl:ws.length=ps.length:=by rw[hw.length_eq,eps,aA]
  have ndq:(ws.map (·.2)).Nodup:=hq1.nodup_iff.mpr nd;have tw:∀z∈ws,bS H z.1 z.2:=λz m=>hz z (hw.mem_iff.mp m);have ew:(ws.map λz=>(fN z.2,V.ref z.1)).map (·.2)=ws.map λz=>V.ref z.1:=by rw[be];rfl
  rw[ew];have nl0:H l'=none:=sk.free nl';have nkl:kn≠l':=λe=>by subst e;rw[aE] at nl';cases nl'
  refine⟨⟨_,bw.of aE⟩,gW (xs:=ws.map λz=>V.ref z.1) (λi σ H2=>∃(x2 x3:Option V) (acc:Acc),σ=[some (.ref l),some (.ref kn),x2,x3]/\ar H H2/\H2 l'=some (.lst (ws.map λz=>V.ref z.1))/\H2 kn=some (.dT (dB acc))/\Kn (ws.map (·.2)) i acc)
   ⟨none,none,[],rfl,sk.new nl0,aE,by rw[aO nkl,aE];rfl,Kn.start _⟩ (λi σ H2 _ ⟨_,_,_,_,_,e,_⟩=>bw.of e) ?_ ?_⟩
  ·rintro i x σ H2 hx ⟨x2,x3,acc,rfl,sm,hl2,hk2,KN⟩;rw[aP] at hx;cases ez:ws[i]? with
   | none=>rw[ez] at hx;cases hx
   | some z=>
    rw[ez] at hx;cases hx;obtain⟨a,p⟩:=z;have hi:=(aF.mp ez).1;have ta:bS H a p:=tw _ (aR ez);have ta2:=ta.same sm;have nak:a≠kn:=am ta nkn;have hqi:(ws.map (·.2))[i]? = some p:=by rw[aP,ez];rfl
    have hacc:acc.length=i:=KN.len (by rw[aA];lia);have ndk:(acc.map (·.1)).Nodup:=by rw[KN.keys];exact ndq.sublist (List.take_sublist _ _)
    have hnp:p∉acc.map (·.1):=λhm=>by
     rw[KN.keys] at hm;obtain⟨j,hj,ej⟩:=kI hm;rw[bj] at hj;rw[List.getElem_take] at ej;obtain⟨hi2,e2⟩:=aF.mp hqi;have:=(gK ndq (h₀:=by lia) (h₁:=hi2)).mp (ej.trans e2.symm);lia
    nofun;refine⟨_,hk2,λo=>?_⟩;refine uz (a:=kn) (o:=o) (kvs:=dB acc) (by rw[dB,aA];exact ba (bQ (by lia)))
     (λj ys σ H'=>H'=upd H2 kn (.frz o (.dT (dB acc)))/\ys=(((acc.take j).filter λe=>jv e.1 p).map λe=>V.int e.2)/\∃x0,σ=[x0,some (.ref kn),some (.ref a)]) ⟨rfl,by simp,_,rfl⟩ ?_ ?_ ?_
    ·rintro j ys σ H' ⟨rfl,rfl,_⟩;refine⟨aE,?_⟩;rw[aA];exact bF (fW _ _) (by rw[bj];lia)
    ·rintro j k v b ys σ H' N hkv hb ⟨rfl,rfl,x0,rfl⟩ hN;unfold dB at hkv;rw[aP] at hkv;cases ee:acc[j]? with
     | none=>rw[ee] at hkv;cases hkv
     | some e=>
      rw[ee] at hkv;cases hkv;have tb:bS (upd H2 kn (.frz o (.dT (dB acc)))) b e.1:=hb;have tav:bS (upd H2 kn (.frz o (.dT (dB acc)))) a p:=by show upd _ _ _ a=_;rw[aO nak];exact ta2
      nofun;refine⟨b,a,e.1,p,rfl,tb,tav,?_⟩;nofun;have tk:acc.take (j+1)=acc.take j++[e]:=by rw[bD,ee];rfl
      cases hin:jv e.1 p with
      | true=>
       refine rQ rfl ⟨_,.inr ⟨dB acc,rO e.1,b,.inr ⟨o,aE⟩,rfl,hb,(Ef ndk (aR ee)).symm⟩,hN _ _ _ ⟨rfl,?_,_,rfl⟩⟩;rw[tk,cf,aX];simp[hin]
      | false=>
       refine nR (by decide) (hN _ _ _ ⟨rfl,?_,_,rfl⟩);rw[tk,cf,aX];simp[hin]
    ·rintro ys σ H' pn ⟨rfl,rfl,x0,rfl⟩ npn;have edl:(dB acc).length=acc.length:=by rw[dB,aA]
     rw[edl,bZ];have nkp:kn≠pn:=λe=>by subst e;rw[aE] at npn;cases npn
     have nH2p:H2 pn=none:=by rw[aO nkp.symm] at npn;exact npn
     have nHp:H pn=none:=sm.free nH2p;refine⟨by rw[aO nkp,aE],?_⟩;have sm3:=((sm.new (o:=.frz o (.dT (dB acc))) nkn).new (o:=.lst ((acc.filter λe=>jv e.1 p).map λe=>V.int e.2)) nHp).new (o:=.dT (dB acc)) nkn;have hlp:l'≠pn:=am hl2 nH2p;nofun;refine⟨gw acc p,bw.of (by rw[aO nkp.symm,aE];unfold gw;rw[be];rfl),_,mO.t (k:=rO p) aE (sm3 _ _ ta) (by rw[edl];exact bQ (by lia)),?_⟩;rw[KF hnp];exact⟨_,_,acc++[(p,1+nK (gw acc p) 0)],rfl,sm3.new nkn,by rw[aO nkl.symm,aO nkl.symm,aO hlp,aO nkl.symm];exact hl2,aE,KN.next hqi hsp⟩
  ·rintro σ H2 ⟨x2,x3,acc,rfl,sm,hl2,hk2,KN⟩;have ewl:(ws.map λz=>V.ref z.1).length=(ws.map (·.2)).length:=by simp
   rw[ewl] at KN;have HT:=KN.hts hq1 nd;have ndk:(acc.map (·.1)).Nodup:=by rw[KN.keys,bZ];exact ndq
   nofun;have bo2:=bo.same sm;obtain⟨as2,c1,cl,cg⟩:=bo2.get;refine⟨⟨_,bw.of c1⟩,Bk (bw.of c1) (by rw[aA];exact ba (bQ (by lia))) ((ps.map (uI acc)).map V.int) (by simp[cl]) (λi x y Q' hx hy hq=>?_) λp3 n3=>?_⟩
   ·obtain⟨t,p,rfl,hp,ht⟩:=cg i x hx;nofun;have ey:y=V.int (uI acc p):=by simp[hp] at hy;exact hy.symm
    rw[ey] at hq;obtain⟨e,he,rfl⟩:∃e∈acc,e.1=p:=by
     have:p∈acc.map (·.1):=by rw[KN.keys,bZ];exact hq1.mem_iff.mpr (aR hp)
     obtain⟨e,h1,h2⟩:=aT.mp this;exact⟨e,h1,h2⟩
    refine⟨.int e.2,?_,?_⟩
    ·rw[<-Ef ndk he];exact iV.t (k:=rO e.1) hk2 ht
    ·rw[mB ndk he] at hq;exact hq
   ·exact q p3 _ _ (sm.free n3) (sm.new (sm.free n3)) aE HT
theorem yr (E:Fn K mg "line_of" iY ["row"]):ef P w K mg base 1 "line_of" iY ["row"] pU:=E.mk' λf fd F=>by
 refine F.okS yc (λvs H Q E h=>?_) (λcdv A outer s H vs Q E hr h=>?_)
 ·obtain⟨r,rfl,_⟩:=h;rfl
 ·obtain⟨r,rfl,q⟩:=h;refine⟨[some (.int r)],_,rfl,(L2.jI.h (aL (bY (ae c9 (ae fH aC (a9 0)) aC)))),?_⟩;nofun;exact⟨.inl ⟨by decide,by decide⟩,q⟩
theorem pF (B:o8 mg) (E:Fn K mg "greatest_height" eg ["bows"]) (NK:ef P w K mg base 4 "heights" iZ ["bows"] oM):ef P w K mg base 5 "greatest_height" eg ["bows"] AI:=E.mk' λf fd F=>by
 refine F.okS pB (λvs H Q E h=>?_) (λcdv A outer s H vs Q E hr h=>?_)
 ·obtain⟨l,S,rfl,_⟩:=h;rfl
 ·obtain⟨l,S,rfl,bl,BS,q⟩:=h;refine⟨[some (.ref l)],_,rfl,(L2.jI.h (aL (bY (wn rfl (by rfl) B.max (aj NK (hr.mono (by decide)) (by rfl) (aG (a9 0) aB)) aC)))),?_⟩;nofun;refine⟨l,S,rfl,bl,BS.nd,BS.len,λl' hs H1 nl s1 hl ht=>?_⟩;nofun;refine⟨hs,bw.of hl,?_⟩;rw[zN BS ht,EM];exact q _ s1
theorem BV (B:o8 mg) (E:Fn K mg "by_row" ke ["bows","columns"]):ef P w K mg base 1 "by_row" ke ["bows","columns"] vQ:=E.mk' λf fd F=>by
 refine F.okS oO (λvs H Q E h=>?_) (λcdv A outer s H vs Q E hr h=>?_)
 ·obtain⟨l,k,S,c,rfl,_⟩:=h;rfl
 ·obtain⟨l,k,S,c,rfl,⟨as,h1,pa⟩,BS,hk,q⟩:=h;have al:=au pa;refine⟨[some (.ref l),some (.ref k),none,none,none],_,rfl,(L2.jI.h (aI (ak (i:=2) oO.nd rfl (Or.inl rfl) qe)
   (aI (ci aZ rfl (AU (by rfl) B.zip (aG (a9 0) (aG (a9 1) aB))) (lB (n:=2) rfl (eC (bP (i:=3) oO.nd rfl (Or.inl rfl)) (eC (bP (i:=4) oO.nd rfl (Or.inl rfl)) ji)))
   (aI (gG (i9 hr) (a9 2) (aU bf (a9 3) aC (λ_ _=>rfl)) (a9 4) rfl)
    (aL (gG (i9 hr) (a9 2) (aU bf (a9 3) aC (λ_ _=>rfl)) (a9 4) rfl))))
   (aL (bY (a9 2)))))),?_⟩
  nofun;intro d nd;have sd0:=(ar.refl H).new (o:=.dK []) nd;nofun;refine⟨l,k,rfl,⟨_,bw.of (sd0 _ _ h1)⟩,⟨_,bw.of (sd0 _ _ hk)⟩,?_⟩;have bl40:=BS.len;refine E7 (xs:=as.map V.ref) (ys:=S.map λp=>V.int (c p:Nat)) (by rw[aA,aA];lia) (λi σ H'=>∃x3 x4 kvs,σ=[some (.ref l),some (.ref k),some (.ref d),x3,x4]/\ar H H'/\H' d=some (.dK kvs)/\kvs.length<=2*i/\mP kvs (S.take i) c) ⟨_,_,[],rfl,sd0,aE,aH _,λp hp=>by simp at hp⟩ (λi σ H' ⟨_,_,_,_,s1,_⟩=>⟨bw.of (s1 _ _ h1),bw.of (s1 _ _ hk)⟩) ?_ ?_
  ·rintro i x y σ H' t hx hy ⟨x3,x4,kvs,rfl,s1,hd,hl,ca⟩ nt;obtain⟨a,ha,rfl⟩:=iF hx;obtain⟨p,hp,tp⟩:=io pa ha;have ey:y=V.int (c p:Nat):=by
    rw[aP,hp] at hy;exact(bH hy).symm
   subst ey;have hi:i<S.length:=(aF.mp hp).1;have s2:=(ar.refl H').new (o:=.tup [.ref a,.int (c p:Nat)]) nt;have ndt:d≠t:=am hd nt;nofun;refine⟨_,dD.of aE,rfl,?_⟩;nofun;have tp2:=s2 _ _ (s1 _ _ tp);have hd2:=s2 _ _ hd;have nda:a≠d:=λe=>by
    subst e;rw[show _=_ from s1 _ _ tp] at hd;cases hd
   have tpy:∀o,upd (upd H' t (.tup [.ref a,.int (c p:Nat)])) d o a=some (.tup [.int p.1,.int p.2]):=λo=>by rw[aO nda];exact tp2
   refine⟨_,_,dD.of tp2,rfl,_,mO.k (k:=.inl p.1) hd2 (bQ (by lia)),_,_,dD.of (tpy _),rfl,_,mO.k (k:=.inl p.2) aE ?_,_,_,_,rfl,((s1.trans s2).new nd).new nd,aE,?_,?_⟩
   ·have:=eE kvs (.inl p.1:Key) (.int (c p:Nat));exact bQ (by lia)
   ·have h3:=eE kvs (.inl p.1:Key) (.int (c p:Nat));have h4:=eE (putK kvs (.inl p.1:Key) (.int (c p:Nat))) (.inl p.2:Key) (.int (c p:Nat));lia
   ·have etk:S.take (i+1)=S.take i++[p]:=by rw[bD,hp];rfl
    rw[etk];intro q' hq;have pS:=aR hp;rcases aW.mp hq with h | h
    ·have qS:q'∈S:=List.mem_of_mem_take h;have ne:q'≠p:=λe=>by
      subst e;obtain⟨j,hj⟩:=dM h;have jl:=(aF.mp hj).1;rw[bj] at jl;rw[fy (by lia)] at hj;have h1:=aF.mp hj;have h2:=aF.mp hp;have:=(gK BS.nd (h₀:=h1.1) (h₁:=h2.1)).mp (h1.2.trans h2.2.symm);lia
     have dj:∀x,(q'.1=x\/q'.2=x)->x≠p.1/\x≠p.2:=λx hx=>⟨λe=>ne (BS.one q' qS p pS x hx (.inl e.symm)),λe=>ne (BS.one q' qS p pS x hx (.inr e.symm))⟩
     have key:∀x,(q'.1=x\/q'.2=x)->eI (putK (putK kvs (.inl p.1:Key) (.int (c p:Nat))) (.inl p.2:Key) (.int (c p:Nat))) (.inl x:Key)=eI kvs (.inl x:Key):=λx hx=>by
      obtain⟨d1,d2⟩:=dj x hx;rw[jd,RM λz=>d2 (lE z),jd,RM λz=>d1 (lE z)]
     rw[key _ (.inl rfl),key _ (.inr rfl)];exact ca q' h
    ·have e:q'=p:=by simpa using h
     subst e;refine⟨?_,?_⟩
     ·rw[jd];by_cases z:(.inl q'.1:Key)=.inl q'.2
      ·rw[RN z]
      ·rw[RM z,jd,RN rfl]
     ·rw[jd,RN rfl]
  ·rintro σ H' ⟨x3,x4,kvs,rfl,s1,hd,hl,ca⟩;rw[aA,al,bZ] at ca;nofun;exact q d kvs H' nd s1 hd ca
theorem rM (B:o8 mg) (E:Fn K mg "left_columns" gE ["bows","most_left"]) (NK:ef P w K mg base 4 "heights" iZ ["bows"] oM) (N8:ef P w K mg base 1 "by_row" ke ["bows","columns"] vQ):ef P w K mg base 5 "left_columns" gE ["bows","most_left"] AG:=E.mk' λf fd F=>by
 refine F.okS rJ (λvs H Q E h=>?_) (λcdv A outer s H vs Q E hr h=>?_)
 ·obtain⟨l,S,m,rfl,_⟩:=h;rfl
 ·obtain⟨l,S,m,rfl,bl,BS,hm,q⟩:=h;refine⟨[some (.ref l),some (.int (m:Nat))],_,rfl,(L2.jI.h (aL (bY (aj N8 (hr.mono (by decide)) (by rfl) (aG (a9 0) (ii (lh (own:=["height"]) (ns:=["most_left"]) (caps:=[1]) rfl ⟨rfl,by decide +kernel,by decide +kernel,by decide +kernel⟩ (.cons rfl rfl (.inl rfl) .nil) (eZ (aj NK (hr.mono (by decide)) (by rfl) (aG (a9 0) aB))) (λC s H fp pn=>(bP (i:=0) (show List.Nodup ((["height"]:List Str)++(["most_left"]:List Str)) by decide +kernel) rfl (Or.inl rfl))) (λC s H fp pn=>mX) (λC s H fp pn=>(ae c9 (ae fH aC (ae fY (a9 1) (a9 0))) aC))) aB)))))),?_⟩;nofun;refine⟨l,S,rfl,bl,BS.nd,BS.len,λl' hs H1 nl s1 hl ht=>?_⟩;rw[zN BS ht] at hl;refine⟨l',rfl,⟨_,bw.of hl⟩,o6 (xs:=(S.map λp=>((hF S p:Nat):Int)).map V.int) (λi ys σ H'=>ar H1 H'/\ys=(S.take i).map (λp=>V.int ((2*(m-hF S p)+1:Nat):Int))/\∃x0,σ=[x0,some (.int (m:Nat))]) ⟨ar.refl _,by simp,_,rfl⟩ ?_ (by rw[aA,aA];have:=BS.len;exact ba (bQ (by lia))) ?_ ?_⟩
  ·rintro i ys σ H' ⟨s2,rfl,_⟩;exact⟨bw.of (s2 _ _ hl),by simp;lia⟩
  ·rintro i x ys σ H' N hx ⟨s2,rfl,x0,rfl⟩ hN;obtain⟨v,hv,rfl⟩:=iF hx;obtain⟨p,hp,rfl⟩:∃p,S[i]? = some p/\((hF S p:Nat):Int)=v:=by
    rw[aP] at hv;exact cC.mp hv
   have hle:=bF (ip (aR hp)) hm;nofun;refine⟨.inl ⟨by decide,by decide⟩,hN _ _ _ ⟨s2,?_,_,rfl⟩⟩;rw[bD,hp];simp only[kh,aX,av,fM];congr 2;congr 1;lia
  ·rintro ys σ H' p ⟨s2,rfl,_⟩ np;rw[aA,aA,bZ];have s3:=(ar.refl H').new (o:=.lst (S.map λp=>V.int ((2*(m-hF S p)+1:Nat):Int))) np;exact⟨l,p,S,λp=>2*(m-hF S p)+1,rfl,bl.same (s1.trans (s2.trans s3)),BS,aE,λd kvs H4 nd s4 hd ca=>q d kvs H4 ((s1.trans (s2.trans s3)).free nd) ((s1.trans (s2.trans s3)).trans s4) hd ca⟩
theorem qi (B:o8 mg) (E:Fn K mg "right_columns" f6 ["bows","most_left"]) (NK:ef P w K mg base 4 "heights" iZ ["bows"] oM) (N8:ef P w K mg base 1 "by_row" ke ["bows","columns"] vQ):ef P w K mg base 5 "right_columns" f6 ["bows","most_left"] wQ:=E.mk' λf fd F=>by
 refine F.okS qP (λvs H Q E h=>?_) (λcdv A outer s H vs Q E hr h=>?_)
 ·obtain⟨l,S,m,rfl,_⟩:=h;rfl
 ·obtain⟨l,S,m,rfl,bl,BS,q⟩:=h;refine⟨[some (.ref l),some (.int (m:Nat))],_,rfl,(L2.jI.h (aL (bY (aj N8 (hr.mono (by decide)) (by rfl) (aG (a9 0) (ii (lh (own:=["height"]) (ns:=["most_left"]) (caps:=[1]) rfl ⟨rfl,by decide +kernel,by decide +kernel,by decide +kernel⟩ (.cons rfl rfl (.inl rfl) .nil) (eZ (aj NK (hr.mono (by decide)) (by rfl) (aG (a9 0) aB))) (λC s H fp pn=>(bP (i:=0) (show List.Nodup ((["height"]:List Str)++(["most_left"]:List Str)) by decide +kernel) rfl (Or.inl rfl))) (λC s H fp pn=>mX) (λC s H fp pn=>(ae fY (ae c9 (ae fH aC (a9 1)) (ae fH aC (a9 0))) aC))) aB)))))),?_⟩;nofun;refine⟨l,S,rfl,bl,BS.nd,BS.len,λl' hs H1 nl s1 hl ht=>?_⟩;rw[zN BS ht] at hl;refine⟨l',rfl,⟨_,bw.of hl⟩,o6 (xs:=(S.map λp=>((hF S p:Nat):Int)).map V.int) (λi ys σ H'=>ar H1 H'/\ys=(S.take i).map (λp=>V.int ((2*m+2*hF S p - 1:Nat):Int))/\∃x0,σ=[x0,some (.int (m:Nat))]) ⟨ar.refl _,by simp,_,rfl⟩ ?_ (by rw[aA,aA];have:=BS.len;exact ba (bQ (by lia))) ?_ ?_⟩
  ·rintro i ys σ H' ⟨s2,rfl,_⟩;exact⟨bw.of (s2 _ _ hl),by simp;lia⟩
  ·rintro i x ys σ H' N hx ⟨s2,rfl,x0,rfl⟩ hN;obtain⟨v,hv,rfl⟩:=iF hx;obtain⟨p,hp,rfl⟩:∃p,S[i]? = some p/\((hF S p:Nat):Int)=v:=by
    rw[aP] at hv;exact cC.mp hv
   have hle:=zP BS.lt (aR hp);nofun;refine⟨.inl ⟨by decide,by decide⟩,.inl ⟨by decide,by decide⟩,hN _ _ _ ⟨s2,?_,_,rfl⟩⟩;rw[bD,hp];simp only[kh,aX,av,fM];congr 2;congr 1;lia
  ·rintro ys σ H' p ⟨s2,rfl,_⟩ np;rw[aA,aA,bZ];have s3:=(ar.refl H').new (o:=.lst (S.map λp=>V.int ((2*m+2*hF S p - 1:Nat):Int))) np;exact⟨l,p,S,λp=>2*m+2*hF S p - 1,rfl,bl.same (s1.trans (s2.trans s3)),BS,aE,λd kvs H4 nd s4 hd ca=>q d kvs H4 ((s1.trans (s2.trans s3)).free nd) ((s1.trans (s2.trans s3)).trans s4) hd ca⟩
theorem uF (B:o8 mg) (E:Fn K mg "carve_bows" iC ["grid","bows","columns"]) (d7:ef P w K mg base 1 "line_of" iY ["row"] pU):ef P w K mg base 2 "carve_bows" iC ["grid","bows","columns"] wY:=E.mk' λf fd F=>by
 refine F.okS jb (λvs H Q E h=>?_) (λcdv A outer s H vs Q E hr h=>?_)
 ·obtain⟨g,l,d,as,w,G,S,c,kvs,rfl,_⟩:=h;rfl
 ·obtain⟨g,l,d,as,w,G,S,c,kvs,rfl,gr,nl,⟨bs,h1,pa⟩,hd,ca,bd,hA,hw,q⟩:=h;have al:=au pa;refine⟨[some (.ref g),some (.ref l),some (.ref d),none,none,none],_,rfl,(L2.jI.h (aL (ci aZ rfl (eZ (a9 1)) (lB (n:=2) rfl (eC (bP (i:=3) jb.nd rfl (Or.inl rfl)) (eC (bP (i:=4) jb.nd rfl (Or.inl rfl)) ji)))
   (aL (ci aZ rfl (iS (by rfl) B.range (cn (aj d7 (hr.mono (by decide)) (by rfl) (aG (a9 3) aB)) (cX (ae c9 (aj d7 (hr.mono (by decide)) (by rfl) (aG (a9 4) aB)) aC) aB))) (bP (i:=5) jb.nd rfl (Or.inl rfl))
    (aL (rZ (i7 (by rfl) B.OPEN_CELL) (re (aU bV (a9 0) (a9 5) (λ_ _=>rfl)) (fh (i9 hr) (a9 2) (a9 3) (λ_ _=>rfl)) set_list)))))))),?_⟩
  nofun;refine⟨⟨_,bw.of h1⟩,?_⟩;have ndA:d∉as:=gr.off hd λxs e=>nomatch e;refine gW (xs:=bs.map V.ref) (λi σ H'=>∃x3 x4 x5:Option V,σ=[some (.ref g),some (.ref l),some (.ref d),x3,x4,x5]/\Keeps as H H'/\gS H' g as w (yp G (lW (S.take i) c))) ⟨_,_,_,rfl,Keeps.refl _ _,gr.congr λi x _ _=>by simp[yp,lW]⟩ ?_ ?_ ?_
  ·rintro i σ H' _ ⟨_,_,_,rfl,kp,_⟩;exact bw.of (kp _ _ nl h1)
  ·rintro i x σ H' hx ⟨x3,x4,x5,rfl,kp,gr'⟩;obtain⟨a,ha,rfl⟩:=iF hx;obtain⟨p,hp,tp⟩:=io pa ha;have pS:=aR hp;obtain⟨b0,b1,b2,b3⟩:=bd p pS;have naA:a∉as:=gr.off tp λxs e=>nomatch e;have tp':=kp _ _ naA tp;nofun;refine⟨_,dD.of tp',rfl,?_⟩;nofun;refine⟨_,rfl,_,rfl,?_⟩;nofun;refine⟨⟨by lia,by lia,by lia,by lia⟩,?_⟩;obtain⟨lo,hlo⟩:=mM (show 0<=2*p.1+1 by lia);generalize hn:(2*p.2+1+1-(2*p.1+1)).toNat=n;refine fB (n:=n) (λj σ H'=>∃x5:Option V,σ=[some (.ref g),some (.ref l),some (.ref d),some (.int p.1),some (.int p.2),x5]/\Keeps as H H'/\gS H' g as w (yp G λi' x=>lW (S.take i) c i' x || (decide (lo<=i'/\i'<lo+j)&&decide (x=c p)))) ⟨_,rfl,kp,gr'.congr λi' x _ _=>?_⟩ ?_ ?_
   ·refine vg ?_;rw[RP (show ¬(lo<=i'/\i'<lo+0) by lia),jF,dQ]
   ·rintro j σ H2 hj ⟨x5',rfl,kp2,gr2⟩;have hk:lo+j<as.length:=by lia
    have ga:as[lo+j]? = some as[lo+j]:=aJ hk;have at1:nG (as.map V.ref) (2*p.1+1+(j:Int))=some (.ref as[lo+j]):=by
     rw[show 2*p.1+1+(j:Int)=((lo+j:Nat):Int) by lia];exact fU (by rw[aP,ga];rfl)
    have dg:=iV.k (k:=.inl p.1) (kp2 _ _ ndA hd);rw[(ca p pS).1] at dg;nofun;refine⟨_,_,bw.of gr2.top,at1,_,dg,_,_,_,c p,rfl,rfl,gr2.row _ _ ga,?_,?_⟩
    ·rw[vZ];unfold xx;rw[RN (by lia),RN (by lia),cA]
    have dot:V.str (Str.ofString ".")=l3 46:=by unfold l3;rw[show Str.ofString "."=(⟨#[46]⟩:Str) by decide +kernel]
    rw[dot];refine⟨_,rfl,kp2.trans (Keeps.upd (aR ga)),(gr2.set ga).congr λi' x _ _=>?_⟩;refine AW ?_;rw[iQ];congr 1;rw[<-fD,<-fD,<-ko];exact decide_eq_decide.mpr (by lia)
   ·rintro σ H2 ⟨x5',rfl,kp2,gr2⟩;refine⟨_,_,_,rfl,kp2,gr2.congr λi' x _ _=>?_⟩;have etk:S.take (i+1)=S.take i++[p]:=by rw[bD,hp];rfl
    refine vg ?_;unfold lW;rw[etk,nJ];congr 1;simp only[gf,List.any_nil,dQ];unfold tR;rw[<-fD,<-fD,<-fD];exact decide_eq_decide.mpr (by lia)
  ·rintro σ H' ⟨_,_,_,rfl,kp,gr'⟩;rw[aA,al,bZ] at gr';exact q H' kp gr'
theorem sy (B:o8 mg) (E:Fn K mg "carve_rings" gc ["grid","rings","lefts","rights"]) (d7:ef P w K mg base 1 "line_of" iY ["row"] pU):ef P w K mg base 2 "carve_rings" gc ["grid","rings","lefts","rights"] wX:=E.mk' λf fd F=>by
 refine F.okS ka (λvs H Q E h=>?_) (λcdv A outer s H vs Q E hr h=>?_)
 ·obtain⟨g,dl,dr,as,w,G,kl,kr,n,kL,kR,rfl,_⟩:=h;rfl
 ·obtain⟨g,dl,dr,as,w,G,kl,kr,n,kL,kR,rfl,gr,hdl,hdr,hc,hn,hA,hw,q⟩:=h;refine⟨[some (.ref g),some (.int (n:Nat)),some (.ref dl),some (.ref dr),none,none],_,rfl,(L2.jI.h (aL (ci aZ rfl (iS (by rfl) B.range (cO aC (cX (ae c9 (a9 1) aC) aB))) (bP (i:=4) ka.nd rfl (Or.inl rfl))
   (aL (ci aZ rfl (iS (by rfl) B.range (aV (fh (i9 hr) (a9 2) (a9 4) (λ_ _=>rfl)) (cX (ae c9 (fh (i9 hr) (a9 3) (a9 4) (λ_ _=>rfl)) aC) aB))) (bP (i:=5) ka.nd rfl (Or.inl rfl))
    (aL (rZ (i7 (by rfl) B.OPEN_CELL) (re (aU bV (a9 0) (aj d7 (hr.mono (by decide)) (by rfl) (aG (a9 4) aB)) (λ_ _=>rfl)) (a9 5) set_list)))))))),?_⟩
  nofun;have nlA:dl∉as:=gr.off hdl λxs e=>nomatch e;have nrA:dr∉as:=gr.off hdr λxs e=>nomatch e;refine⟨⟨by lia,by lia,by lia,by lia⟩,?_⟩;rw[show (((n:Nat):Int)+1 - 1).toNat=n by lia];refine fB (n:=n) (λi σ H'=>∃x4 x5:Option V,σ=[some (.ref g),some (.int (n:Nat)),some (.ref dl),some (.ref dr),x4,x5]/\Keeps as H H'/\gS H' g as w (yp G (xu i kL kR))) ⟨_,_,rfl,Keeps.refl _ _,gr.congr λi x _ _=>?_⟩ ?_ ?_
  ·have:¬(i % 2=1/\3<=i/\i<=2*0+1):=by lia
   simp only[yp,xu,RP this,jF,bW,RU]
  ·rintro i σ H' hi ⟨x4,x5,rfl,kp,gr'⟩;obtain⟨c1,c2,c4,c3⟩:=hc (i+1) (by lia) (by lia);have dg1:=iV.k (k:=.inl ((i+1:Nat):Int)) (kp _ _ nlA hdl);have dg2:=iV.k (k:=.inl ((i+1:Nat):Int)) (kp _ _ nrA hdr);rw[c1] at dg1;rw[c2] at dg2;have ei:(1:Int)+(i:Nat)=((i+1:Nat):Int):=by lia
   nofun;rw[ei];refine⟨_,dg1,_,dg2,?_⟩;nofun;refine⟨⟨by lia,by lia,by lia,by lia⟩,?_⟩;generalize hm:(((kR (i+1):Nat):Int)+1-((kL (i+1):Nat):Int)).toNat=m;refine fB (n:=m) (λj σ H'=>∃x5:Option V,σ=[some (.ref g),some (.int (n:Nat)),some (.ref dl),some (.ref dr),some (.int ((i+1:Nat):Int)),x5]/\Keeps as H H'/\gS H' g as w (yp G λi' x=>xu i kL kR i' x || decide (i'=2*(i+1)+1/\kL (i+1)<=x/\x<kL (i+1)+j))) ⟨_,rfl,kp,gr'.congr λi' x _ _=>vg ?_⟩ ?_ ?_
   ·rw[RP (show ¬(i'=2*(i+1)+1/\kL (i+1)<=x/\x<kL (i+1)+0) by lia),dQ]
   ·rintro j σ H2 hj ⟨x5',rfl,kp2,gr2⟩;have hk:2*(i+1)+1<as.length:=by lia
    have ga:as[2*(i+1)+1]? = some as[2*(i+1)+1]:=aJ hk;have at1:nG (as.map V.ref) (2*((i+1:Nat):Int)+1)=some (.ref as[2*(i+1)+1]):=by
     rw[show 2*((i+1:Nat):Int)+1=((2*(i+1)+1:Nat):Int) by lia];exact fU (by rw[aP,ga];rfl)
    nofun;refine⟨_,rfl,_,_,_,_,rfl,rfl,bw.of gr2.top,at1,_,_,_,kL (i+1)+j,rfl,rfl,gr2.row _ _ ga,?_,?_⟩
    ·rw[vZ];unfold xx;rw[RN (by lia),RN (by lia)];congr 1
    have dot:V.str (Str.ofString ".")=l3 46:=by unfold l3;rw[show Str.ofString "."=(⟨#[46]⟩:Str) by decide +kernel]
    rw[dot];refine⟨_,rfl,kp2.trans (Keeps.upd (aR ga)),(gr2.set ga).congr λi' x _ _=>AW ?_⟩;rw[iQ];congr 1;rw[<-ko];exact decide_eq_decide.mpr (by lia)
   ·rintro σ H2 ⟨x5',rfl,kp2,gr2⟩;refine⟨_,_,rfl,kp2,gr2.congr λi' x _ _=>vg ?_⟩;unfold xu;rw[<-fD,<-fD,<-fD,<-ko];refine decide_eq_decide.mpr ⟨λh=>?_,λh=>?_⟩
    ·rcases h with ⟨h1,h2,h3⟩ | ⟨h1,h2,h3⟩
     ·exact⟨by lia,h2,h3⟩
     ·subst h1;rw[show (2*(i+1)+1 - 1) / 2=i+1 by lia];exact⟨by lia,h2,by lia⟩
    ·obtain⟨h1,h2,h3⟩:=h;by_cases z:i'<=2*i+1
     ·exact .inl ⟨by lia,h2,h3⟩
     ·have e:i'=2*(i+1)+1:=by lia
      subst e;rw[show (2*(i+1)+1 - 1) / 2=i+1 by lia] at h2 h3;exact .inr ⟨rfl,h2,by lia⟩
  ·rintro σ H' ⟨_,_,rfl,kp,gr'⟩;exact q H' kp gr'
theorem GP (B:o8 mg) (E:Fn K mg "mark" qX ["line","sign"]):ef P w K mg base 1 "mark" qX ["line","sign"] DB:=E.mk' λf fd F=>by
 refine F.okS FS (λvs H Q E h=>?_) (λcdv A outer s H vs Q E hr h=>?_)
 ·obtain⟨a,w,r,x0,c,rfl,_⟩:=h;rfl
 ·obtain⟨a,w,r,x0,c,rfl,ha,hx,h46,hno,hw,q⟩:=h;refine⟨[some (.ref a),some (.str ⟨#[c]⟩)],_,rfl,(L2.jI.h (aL (rZ (a9 1) (re (a9 0) (eO a8 PySem.F.slot_list_index PySem.F.type_list_index B0 (a9 0) (aG (i7 (by rfl) B.OPEN_CELL) aB)) set_list)))),?_⟩;nofun;have ek:rK w r=((List.range w).map λx=>(⟨#[r x]⟩:Str)).map V.str:=by unfold rK;rw[be];rfl
  have dot:Str.ofString "."=⟨#[46]⟩:=by decide +kernel
  refine⟨gP ha,(List.range w).map λx=>(⟨#[r x]⟩:Str),x0,by rw[ha,ek],by simp;exact hw,?_,λm hm=>?_,a,_,_,x0,rfl,rfl,ha,?_,q⟩
  ·rw[aP,fG hx,dot];show some (⟨#[r x0]⟩:Str)=_;rw[h46]
  ·rw[aP,fG (by lia),dot];intro e;have:=hno m hm;have e2:(⟨#[r m]⟩:Str)=⟨#[46]⟩:=bH e;have e3:(⟨#[r m]⟩:Str)=tx [46]:=e2;rw[KC] at e3;exact this e3
  ·rw[vZ];unfold xx;rw[RN (by lia),RN (by lia),cA]
theorem EA (B:o8 mg) (E:Fn K mg "drawn" oT ["maze"]) (Pe:ef P w K mg base 5 "vet" u5 ["maze"] Ct) (NV:ef P w K mg base 3 "bows_of" jZ ["maze"] sQ) (d7:ef P w K mg base 1 "line_of" iY ["row"] pU) (fv:ef P w K mg base 5 "greatest_height" eg ["bows"] AI) (NZ:ef P w K mg base 5 "left_columns" gE ["bows","most_left"] AG) (NO:ef P w K mg base 5 "right_columns" f6 ["bows","most_left"] wQ) (NU:ef P w K mg base 2 "carve_bows" iC ["grid","bows","columns"] wY) (N4:ef P w K mg base 2 "carve_rings" gc ["grid","rings","lefts","rights"] wX) (O7:ef P w K mg base 1 "mark" qX ["line","sign"] DB):ef P w K mg base 6 "drawn" oT ["maze"] wV:=E.mk' λf fd F=>by
 refine F.okS jg (λvs H Q E h=>?_) (λcdv A outer s H vs Q E hr h=>?_)
 ·obtain⟨m,o,b,ns,rfl,_⟩:=h;rfl
 ·obtain⟨m,o,b,ns,rfl,hm,O,nc,q⟩:=h;refine⟨[some (.ref m),none,none,none,none,none,none,none],_,rfl,(L2.jI.h (aI (cZ (aj Pe (hr.mono (by decide)) (by rfl) (aG (a9 0) aB)))
   (aI (ak (i:=1) jg.nd rfl (Or.inl rfl) (bG bM (by rfl) B.len ax (aV (aU bf (a9 0) aC (λ_ _=>rfl)) aB)))
   (aI (ak (i:=2) jg.nd rfl (Or.inl rfl) (aj NV (hr.mono (by decide)) (by rfl) (aG (a9 0) aB)))
   (aI (ak (i:=3) jg.nd rfl (Or.inr rfl) (aj fv (hr.mono (by decide)) (by rfl) (aV (aU bf (a9 2) aC (λ_ _=>rfl)) aB)))
   (aI (ak (i:=4) jg.nd rfl (Or.inr rfl) (aj fv (hr.mono (by decide)) (by rfl) (aV (aU bf (a9 2) aC (λ_ _=>rfl)) aB)))
   (aI (ak (i:=5) jg.nd rfl (Or.inl rfl) (aj NZ (hr.mono (by decide)) (by rfl) (aV (aU bf (a9 2) aC (λ_ _=>rfl)) (aG (a9 3) aB))))
   (aI (ak (i:=6) jg.nd rfl (Or.inl rfl) (aj NO (hr.mono (by decide)) (by rfl) (aV (aU bf (a9 2) aC (λ_ _=>rfl)) (aG (a9 3) aB))))
   (aI (wm (i:=7) jg.nd rfl (Or.inl rfl) (own:=["line"]) (ns:=["most_left","most_right"]) (caps:=[3,4]) rfl ⟨rfl,by decide +kernel,by decide +kernel,by decide +kernel⟩ (.cons rfl rfl (.inl rfl) (.cons rfl rfl (.inl rfl) .nil)) (gQ (by rfl) B.range (cX (ae c9 (ae fH aC (a9 1)) aC) aB)) (λC s H fp pn=>(bP (i:=0) (show List.Nodup ((["line"]:List Str)++(["most_left","most_right"]:List Str)) by decide +kernel) rfl (Or.inl rfl))) (λC s H fp pn=>mX) (λC s H fp pn=>(ae J4 (cu (aG (i7 (by rfl) B.WALL) aB)) (ae c9 (ae fH aC (ae c9 (a9 1) (a9 2))) aC))))
   (aI (cZ (aj NU (hr.mono (by decide)) (by rfl) (aG (a9 7) (aV (aU bf (a9 2) aC (λ_ _=>rfl)) (aG (a9 5) aB)))))
   (aI (cZ (aj NU (hr.mono (by decide)) (by rfl) (aG (a9 7) (aV (aU bf (a9 2) aC (λ_ _=>rfl)) (aG (a9 6) aB)))))
   (aI (cZ (aj N4 (hr.mono (by decide)) (by rfl) (aG (a9 7) (aG (a9 1) (aG (a9 5) (aG (a9 6) aB))))))
   (aI (cZ (aj O7 (hr.mono (by decide)) (by rfl) (aV (aU bV (a9 7) (aj d7 (hr.mono (by decide)) (by rfl) (cO aC aB)) (λ_ _=>rfl)) (aG (i7 (by rfl) B.MOUTH) aB))))
   (aI (cZ (aj O7 (hr.mono (by decide)) (by rfl) (aV (aU bV (a9 7) (aj d7 (hr.mono (by decide)) (by rfl) (cX (ae c9 (a9 1) aC) aB)) (λ_ _=>rfl)) (aG (i7 (by rfl) B.MIDDLE) aB))))
   (aL (bY (eO dv gi gh rf cF (ii (lh (own:=["line"]) (ns:=[]) (caps:=[]) rfl ⟨rfl,by decide +kernel,by decide +kernel,by decide +kernel⟩ .nil (eZ (a9 7)) (λC s H fp pn=>(bP (i:=0) (show List.Nodup ((["line"]:List Str)++([]:List Str)) by decide +kernel) rfl (Or.inl rfl))) (λC s H fp pn=>mX) (λC s H fp pn=>(MX (K:=K) rfl (eO dv gi gh (EI (K:=K) rfl) cF (aG (a9 0) aB))))) aB)))))))))))))))))),?_⟩
  nofun;refine⟨m,o,b,ns,rfl,hm,O,nc,λH1 s1=>?_⟩;have hm1:=hm.same s1;nofun;refine⟨_,_,dD.of hm1.1,rfl,o,_,rfl,.inr (dD.of hm1.2),m,o,b,ns,rfl,hm1,O,λt l r L R H2 nt nl nr s2 BO=>?_⟩;rw[aA];have nlen:=O.len;have BL:=BO.isL.bws O;have BR:=BO.isR.bws O;have mL21:=BO.isL.mx O;have mR21:=BO.isR.mx O;refine⟨t,_,0,_,rfl,rfl,dD.of BO.tup,rfl,l,L,rfl,BO.left,BL,λH3 s3=>?_⟩;refine⟨t,_,1,_,rfl,rfl,dD.of (s3 _ _ BO.tup),rfl,r,R,rfl,BO.right.same s3,BR,λH4 s4=>?_⟩;have s34:=s3.trans s4;refine⟨t,_,0,_,rfl,rfl,dD.of (s34 _ _ BO.tup),rfl,l,L,iq L,rfl,BO.left.same s34,BL,aH _,λdl kl H5 ndl s5 hdl cal=>?_⟩;have s35:=s34.trans s5;refine⟨t,_,1,_,rfl,rfl,dD.of (s35 _ _ BO.tup),rfl,r,R,iq L,rfl,BO.right.same s35,BR,λdr kr H6 ndr s6 hdr car=>?_⟩;have s36:=s35.trans s6;have hdl6:=s6 _ _ hdl;refine⟨.inl ⟨by decide,by decide⟩,by lia,by lia,?_⟩;rw[show (2*((ns.length:Nat):Int)+5).toNat=2*ns.length+5 by lia];have wall:V.str (Str.ofString "#")=l3 35:=by unfold l3;rw[show Str.ofString "#"=(⟨#[35]⟩:Str) by decide +kernel]
  rw[wall];have w100:dC L R<=100:=by unfold dC;lia
  refine tW (n:=2*ns.length+5) (λi ys σ H'=>ar H6 H'/\(∃as:List Addr,ys=as.map V.ref/\as.length=i/\as.Nodup/\(∀a∈as,H6 a=none)/\∀a∈as,H' a=some (.lst (rK (dC L R) λ_=>35)))/\∃x0,σ=[x0,some (.int (iq L:Nat)),some (.int (iq R:Nat))]) ⟨ar.refl _,⟨[],rfl,rfl,oC,(λa h=>nomatch h),λa h=>nomatch h⟩,_,rfl⟩ ?_ (ba (bQ (by lia))) ?_ ?_
  ·rintro i ys σ H' ⟨_,⟨as,rfl,e,_⟩,_⟩;rw[aA,e];exact aH _
  ·rintro i ys σ H' N hi ⟨s7,⟨as,rfl,ea,nd,fr,rows⟩,x0,rfl⟩ hN;nofun;refine⟨by decide,λp np=>⟨.inl ⟨by decide,by decide⟩,p,_,_,rfl,rfl,aE,by lia,by lia,by show 1*_<=sizeLine;rw[Qf];lia,λp2 n2=>?_⟩⟩;have t1:=(ar.refl H').new (o:=.lst [l3 35]) np;have n2':=t1.free n2;have t2:=(ar.refl _).new (o:=.lst (rK (dC L R) λ_=>35)) n2;have ew:(2*(((iq L:Nat):Int)+(iq R:Nat))+1).toNat=dC L R:=by unfold dC;lia
   rw[ew,Io];refine hN _ _ _ ⟨s7.trans (t1.trans t2),⟨as++[p2],by simp,by simp[ea],?_,λa ha=>?_,λa ha=>?_⟩,_,rfl⟩
   ·rw[cS];refine⟨nd,by simp,λa ha b hb e=>?_⟩;have:b=p2:=by simpa using hb
    subst this e;rw[rows a ha] at n2';cases n2'
   ·rcases aW.mp ha with h | h
    ·exact fr a h
    ·have:a=p2:=by simpa using h
     subst this;exact s7.free n2'
   ·rcases aW.mp ha with h | h
    ·exact(t1.trans t2) _ _ (rows a h)
    ·have:a=p2:=by simpa using h
     subst this;exact aE
  ·rintro ys σ H' g ⟨s7,⟨as,rfl,ea,nd,fr,rows⟩,_⟩ ng;have s8:=(ar.refl H').new (o:=.lst (as.map V.ref)) ng;have gr:gS (upd H' g (.lst (as.map V.ref))) g as (dC L R) λ_ _=>35:=⟨aE,nd,(λh=>by rw[rows g h] at ng;cases ng),λi a hi=>s8 _ _ (rows a (aR hi))⟩
   have s68:=s7.trans s8;generalize upd H' g (.lst (as.map V.ref))=H7 at gr s8 s68 ⊢;have s38:=s36.trans s68;have lA:l∉as:=λh=>by have:=s36.free (fr l h);obtain⟨_,hh,_⟩:=BO.left;rw[hh] at this;cases this
   have rA:r∉as:=λh=>by have:=s36.free (fr r h);obtain⟨_,hh,_⟩:=BO.right;rw[hh] at this;cases this
   have tA:t∉as:=λh=>by have:=s36.free (fr t h);rw[BO.tup] at this;cases this
   have tupA:∀{S:List Bw} {z:Addr},bu H2 z S->∀{H8:Hp},Keeps as H7 H8->z∉as->bu H8 z S:=fun {S z} hz {H8} kp hn=>by
    obtain⟨zs,hh,pz⟩:=hz;refine⟨zs,kp _ _ hn (s38 _ _ hh),Paired.mapP pz λa p ta=>kp _ _ (gr.off (s38 _ _ ta) λxs e=>nomatch e) (s38 _ _ ta)⟩
   have bdS:∀{u:Bool} {S:List Bw},dt b ns u S->∀p∈S,0<=p.1/\p.1<p.2/\2*p.2+1<as.length:=fun {u S} hS p hp=>by
    obtain⟨j,hj,_,e⟩:=gV (hS.perm.mem_iff.mp hp);have h1:=O.step_in (i:=j) (by lia);have h2:=O.step_lt (i:=j) (by lia);subst e;exact⟨h1.1,h2,by rw[ea];lia⟩
   refine⟨t,_,0,_,rfl,rfl,dD.of (s38 _ _ BO.tup),rfl,g,l,dl,as,dC L R,_,L,o7 L,kl,rfl,gr,lA,tupA BO.left (Keeps.refl _ _) lA,s68 _ _ hdl6,cal,λp hp=>⟨(bdS BO.isL p hp).1,(bdS BO.isL p hp).2.1,(bdS BO.isL p hp).2.2,z8 BL.lt hp⟩,by lia,by lia,λH8 k8 g8=>?_⟩;refine⟨t,_,1,_,rfl,rfl,dD.of (k8 _ _ tA (s38 _ _ BO.tup)),rfl,g,r,dr,as,dC L R,_,R,nw L R,kr,rfl,g8,rA,tupA BO.right k8 rA,k8 _ _ (gr.off (s68 _ _ hdr) λxs e=>nomatch e) (s68 _ _ hdr),car,λp hp=>⟨(bdS BO.isR p hp).1,(bdS BO.isR p hp).2.1,(bdS BO.isR p hp).2.2,zX BR.lt hp⟩,by lia,by lia,λH9 k9 g9=>?_⟩;have k79:=k8.trans k9;have ringc:∀rr:Nat,1<=rr->rr<=ns.length->eI kl (.inl (rr:Int):Key)=some (.int (j4 L rr:Nat))/\eI kr (.inl (rr:Int):Key)=some (.int (ni L R rr:Nat))/\j4 L rr<dC L R/\ni L R rr<dC L R:=λrr h1 h2=>by
    obtain⟨p,hp,ep⟩:=BO.isL.has O h1 h2;obtain⟨q',hq,eq⟩:=BO.isR.has O h1 h2;unfold j4 ni;rw[fL BL hp ep,fL BR hq eq];refine⟨?_,?_,z8 BL.lt hp,zX BR.lt hq⟩
    ·rcases ep with e | e
     ·rw[<-e];exact(cal p hp).1
     ·rw[<-e];exact(cal p hp).2
    ·rcases eq with e | e
     ·rw[<-e];exact(car q' hq).1
     ·rw[<-e];exact(car q' hq).2
   refine⟨g,dl,dr,as,dC L R,_,kl,kr,ns.length,j4 L,ni L R,rfl,g9,k79 _ _ (gr.off (s68 _ _ hdl6) λxs e=>nomatch e) (s68 _ _ hdl6),k79 _ _ (gr.off (s68 _ _ hdr) λxs e=>nomatch e) (s68 _ _ hdr),ringc,by lia,by lia,by lia,λH10 k10 g10=>?_⟩;have g10':gS H10 g as (dC L R) (λi x=>if dq ns.length L R i x then 46 else 35):=g10.congr λi x _ _=>by
    unfold yp dq;cases lW L (o7 L) i x<;>cases lW R (nw L R) i x<;>cases xu ns.length (j4 L) (ni L R) i x<;>rfl
   have k710:=k79.trans k10;obtain⟨x0,hx0,op0⟩:=sq O BO.isL BO.isR;obtain⟨x1,hx1,op1⟩:=ul O BO.isL BO.isR;have l1:1<as.length:=by lia
   have l2:2*ns.length+3<as.length:=by lia
   have a1:as[1]? = some as[1]:=aJ l1;have a2:as[2*ns.length+3]? = some as[2*ns.length+3]:=aJ l2;have vv:Str.ofString "v"=(⟨#[118]⟩:Str):=by decide +kernel
   have vm:Str.ofString "@"=(⟨#[64]⟩:Str):=by decide +kernel
   refine⟨0,rfl,g,_,1,.ref as[1],rfl,rfl,bw.of g10'.top,by exact fU (j:=1) (by rw[aP,a1];rfl),as[1],dC L R,_,x0,118,by rw[vv],g10'.row 1 _ a1,hx0,by rw[op0,RQ rfl];rfl,λx hx=>by rw[op0,RP (by lia)];decide,by lia,?_⟩;have g11:=g10'.set (x:=x0) (c:=118) a1;have k711:=k710.trans (Keeps.upd (o:=.lst ((rK (dC L R) λx=>if dq ns.length L R 1 x then 46 else 35).set x0 (l3 118))) (aR a1));generalize upd H10 as[1] (.lst ((rK (dC L R) λx=>if dq ns.length L R 1 x then 46 else 35).set x0 (l3 118)))=H11 at g11 k711 ⊢;refine⟨((ns.length:Nat):Int)+1,rfl,g,_,_,.ref as[2*ns.length+3],rfl,rfl,bw.of g11.top,by rw[show 2*(((ns.length:Nat):Int)+1)+1=((2*ns.length+3:Nat):Int) by lia];exact fU (by rw[aP,a2];rfl),as[2*ns.length+3],dC L R,_,x1,64,by rw[vm],g11.row _ _ a2,hx1,?_,λx hx=>?_,by lia,?_⟩
   ·have:¬(2*ns.length+3=1/\x1=x0):=by lia
    rw[RM this,op1,RQ rfl];rfl
   ·have:¬(2*ns.length+3=1/\x=x0):=by lia
    rw[RM this,op1,RP (by lia)];decide
   have g12:=g11.set (x:=x1) (c:=64) a2;have k712:=k711.trans (Keeps.upd (o:=.lst ((rK (dC L R) λx=>if 2*ns.length+3=1/\x=x0 then 118 else if dq ns.length L R (2*ns.length+3) x then 46 else 35).set x1 (l3 64))) (aR a2));generalize upd H11 as[2*ns.length+3] (.lst ((rK (dC L R) λx=>if 2*ns.length+3=1/\x=x0 then 118 else if dq ns.length L R (2*ns.length+3) x then 46 else 35).set x1 (l3 64)))=H12 at g12 k712 ⊢;have g13:gS H12 g as (dC L R) (signG ns.length L R):=g12.congr λi x _ _=>sign_of op0 op1 i x;refine⟨rfl,g,rfl,⟨_,bw.of g13.top⟩,?_⟩;have fin12:ar H H12:=λz o hz=>by
    have hz7:=((s1.trans s2).trans s38) _ _ hz;refine k712 z o (λhm=>?_) hz7;have:=((s1.trans s2).trans s36).free (fr z hm);rw[hz] at this;cases this
   refine o6 (xs:=as.map V.ref) (λi ys σ H'=>H'=H12/\ys=((List.range i).map λj=>V.str (tx (iN ns.length L R j)))/\∃x,σ=[x]) ⟨rfl,rfl,_,rfl⟩ ?_ (by rw[aA];exact ba (bQ (by lia))) ?_ ?_
   ·rintro i ys σ H' ⟨rfl,rfl,_⟩;exact⟨bw.of g13.top,by simp⟩
   ·rintro i x ys σ H' N hx ⟨rfl,rfl,x',rfl⟩ hN;obtain⟨a,ha,rfl⟩:=iF hx;have hrow:=g13.row i a ha;rw[wc] at hrow;nofun;refine⟨rfl,_,a,_,rfl,rfl,bw.of hrow,uR (by simp;lia),?_⟩;rw[AA];refine hN _ _ _ ⟨rfl,?_,_,rfl⟩;rw[eF,aX];rfl
   ·rintro ys σ H' p ⟨rfl,rfl,_⟩ np;have s13:=(ar.refl H').new (o:=.lst ((List.range (as.map V.ref).length).map λj=>V.str (tx (iN ns.length L R j)))) np;have el:(as.map V.ref).length=2*ns.length+5:=by rw[aA];exact ea
    rw[el];refine⟨_,p,((List.range (2*ns.length+5)).map (iN ns.length L R)).map tx,rfl,rfl,bw.of ?_,uu (by simp;lia) (λr hr=>?_),?_⟩
    ·rw[aE,be,be];rfl
    ·obtain⟨j,_,rfl⟩:=aT.mp hr;unfold iN;rw[aA,cy];lia
    ·rw[A5];rw[el] at s13;exact q L R _ BO.isL BO.isR (fin12.trans s13)
theorem Jb (E:Fn K mg "_law_mix" u6 ["_law_seed","_law_k"]):ef P w K mg base 1 "_law_mix" u6 ["_law_seed","_law_k"] Hc:=E.mk' λf fd F=>by
 refine F.okS DL (λvs H Q E h=>?_) (λcdv A outer s H vs Q E hr h=>?_)
 ·obtain⟨a,k,rfl,_⟩:=h;rfl
 ·obtain⟨a,k,rfl,h0,h1,q⟩:=h;refine⟨[some (.int a),some (.int k),none],_,rfl,(L2.jI.h (aI (ak (i:=2) DL.nd rfl (Or.inl rfl) (ae kf (ae fH (ae c9 (ae c9 (ae c9 (ae kf (a9 0) (ae J5 aC aC)) (ae fH aC (a9 1))) (ae fH (ae fH (a9 1) (a9 1)) (a9 1))) aC) aC) aC))
   (aL (bY (ae kf (ae fH (a9 2) aC) aC))))),?_⟩
  nofun;have hkk:0<=k*k/\k*k<=1000000:=⟨Int.mul_nonneg h0 h0,by have:=Int.mul_le_mul h1 h1 h0 (by decide);lia⟩
  refine⟨⟨by decide,by decide,by decide⟩,by decide,.inl ⟨by decide,by decide⟩,.inl ⟨by lia,by lia⟩,.inl ⟨by lia,by lia⟩,.inr ⟨by decide,by decide⟩,by decide,.inr ⟨by decide,by decide⟩,by decide,q⟩
theorem zA (B:o8 mg) (E:Fn K mg "_law_cell_at" kW ["_law_script","_law_k"]):ef P w K mg base 1 "_law_cell_at" kW ["_law_script","_law_k"] (DD K):=E.mk' λf fd F=>by
 refine F.okS yf (λvs H Q E h=>?_) (λcdv A outer s H vs Q E hr h=>?_)
 ·obtain⟨a,ns,k,rfl,_⟩:=h;rfl
 ·obtain⟨a,ns,k,rfl,hS,q⟩:=h;refine⟨[some (.ref a),some (.int k)],_,rfl,(L2.jI.h (aI (cj (bX lm (a9 1) (bG bM (by rfl) B.len ax (aG (a9 0) aB)) (bp _))
   (aL (bY (aU bV (a9 0) (a9 1) (λ_ _=>rfl))))
   bi)
   (aL (bY aC)))),?_⟩
  nofun;refine⟨_,.inl hS,?_⟩;rw[aA];refine gl (λh=>?_) (λh=>?_)
  ·have hk:k<ns.length:=by lia
   refine⟨_,.int (ns.getD k 0),hS,fU ?_,q⟩;simp[aP,hk]
  ·have hk:ns.length<=k:=by lia
   have e:ns.getD k 0=0:=by simp[List.getD,d8 hk]
   rw[e] at q;exact q
theorem BU (B:o8 mg) (E:Fn K mg "_law_digits" l4 ["_law_cell","_law_base"]) (Pf:ef P w K mg base 1 "_law_mix" u6 ["_law_seed","_law_k"] Hc):ef P w K mg base 2 "_law_digits" l4 ["_law_cell","_law_base"] wW:=E.mk' λf fd F=>by
 refine F.okS iX (λvs H Q E h=>?_) (λcdv A outer s H vs Q E hr h=>?_)
 ·obtain⟨c,b,rfl,_⟩:=h;rfl
 ·obtain⟨c,b,rfl,b0,b1,q⟩:=h;refine⟨[some (.int c),some (.int b),none,none,none,none,none],_,rfl,(L2.jI.h (aI (ak (i:=2) iX.nd rfl (Or.inl rfl) (ae kf (ae pq (a9 0) aC) aC))
   (aI (ak (i:=3) iX.nd rfl (Or.inl rfl) (ae pq (a9 0) aC))
   (aI (ak (i:=4) iX.nd rfl (Or.inl rfl) (cu aB))
   (aI (ci aZ rfl (gQ (by rfl) B.range (aG (a9 2) aB)) (bP (i:=5) iX.nd rfl (Or.inl rfl))
   (aI (ak (i:=6) iX.nd rfl (Or.inl rfl) (ae kf (a9 3) (a9 1)))
    (aI (cj (QW.pt (mW (bX iI (ae kf (a9 0) aC) aC (bp _)) (mU (bX iI (a9 3) aC (bp _)))))
    (aL (ak (i:=6) iX.nd rfl (Or.inl rfl) (ae kf (aj Pf (hr.mono (by decide)) (by rfl) (aG (a9 0) (aG (a9 5) aB))) (a9 1))))
    bi)
    (aI (cZ (eO a8 aq ao dH (a9 4) (aG (a9 6) aB)))
    (aL (ak (i:=3) iX.nd rfl (Or.inl rfl) (ae pq (a9 3) (a9 1))))))))
   (aL (bY (a9 4)))))))),?_⟩
  nofun;have m0:0<=c / 2 % 21:=Int.emod_nonneg _ (by decide);have m1:c / 2 % 21<21:=Int.emod_lt_of_pos _ (by decide);generalize c / 2 % 21=many at m0 m1 ⊢;refine⟨⟨by decide,by decide⟩,by decide,⟨by decide,by decide⟩,ac _,λl nl=>⟨by lia,by lia,?_⟩⟩;refine fB (n:=many.toNat) (λi σ H2=>∃(rest:Int) (ds:List Int) (x5 x6:Option V),σ=[some (.int c),some (.int b),some (.int many),some (.int rest),some (.ref l),x5,x6]/\ar H H2/\H2 l=some (.lst (ds.map V.int))/\ds.length=i)
   ⟨_,[],none,none,rfl,(ar.refl H).new nl,aE,rfl⟩ ?_ ?_
  ·rintro i σ H2 hi ⟨rest,ds,x5,x6,rfl,sm,hl,hlen⟩;nofun;refine⟨by lia,by decide,?_⟩;have fin:∀y:Int,gP (K:=K) hl=gP hl:=λ_=>rfl;refine gl (λ_=>⟨c,_,rfl,by lia,by lia,?_⟩) (λ_=>gl (λ_=>⟨c,_,rfl,by lia,by lia,?_⟩) (λ_=>?_))
   case' refine_1=>(nofun;refine⟨by lia,?_⟩)
   case' refine_2=>(nofun;refine⟨by lia,?_⟩)
   all_goals
    refine⟨gP hl,_,hl,by rw[aA];exact bQ (by lia),⟨by lia,by lia⟩,_,ds++[_],_,_,rfl,sm.new nl,by rw[aE,aX];rfl,by simp[hlen]⟩
  ·rintro σ H2 ⟨rest,ds,x5,x6,rfl,sm,hl,hlen⟩;nofun;exact q l ds H2 nl sm hl (by lia)
theorem GO (E:Fn K mg "_law_need" qW ["_law_many"]):ef P w K mg base 1 "_law_need" qW ["_law_many"] Cz:=E.mk' λf fd F=>by
 refine F.okS FR (λvs H Q E h=>?_) (λcdv A outer s H vs Q E hr h=>?_)
 ·obtain⟨m,rfl,_⟩:=h;rfl
 ·obtain⟨m,rfl,h0,h1,q⟩:=h;refine⟨[some (.int m)],_,rfl,(L2.jI.h (aI (cj (bX lm (a9 0) aC (bp _))
   (aL (bY aC))
   bi)
   (aL (bY (ae fY (ae pq (ae fH aC (ae fY (a9 0) aC)) aC) aC))))),?_⟩
  nofun;unfold nE at q;refine gl (λh=>?_) (λh=>?_)
  ·rw[RN h] at q;exact q
  ·rw[RM h] at q;exact⟨.inl ⟨by decide,by decide⟩,⟨by decide,by decide⟩,q⟩
theorem Jd (B:o8 mg) (E:Fn K mg "_law_can" u7 ["_law_open_ends","_law_letter"]):ef P w K mg base 1 "_law_can" u7 ["_law_open_ends","_law_letter"] Hd:=E.mk' λf fd F=>by
 refine F.okS yg (λvs H Q E h=>?_) (λcdv A outer s H vs Q E hr h=>?_)
 ·obtain⟨oe,fd,A',B',st,f,k,rfl,_⟩:=h;rfl
 ·obtain⟨oe,fd,A',B',st,f,k,rfl,hk,G,q⟩:=h;refine⟨[some (.ref oe),some (.str (lO k)),none,none],_,rfl,(L2.jI.h (aI (ak (i:=2) yg.nd rfl (Or.inl rfl) (aU bV (a9 0) aC (λ_ _=>rfl)))
   (aI (ak (i:=3) yg.nd rfl (Or.inl rfl) (aU bV (a9 0) aC (λ_ _=>rfl)))
   (aI (cj (bX iI (a9 1) cF (bp _))
   (aL (bY (lC (eJ ph (bG bM (by rfl) B.len ax (aG (a9 2) aB)) aC (bp _)) (lC (eJ ph (bG bM (by rfl) B.len ax (aG (a9 3) aB)) aC (bp _)) (mY (eJ (yq (oq hr)) (aU ju (aU bV (a9 2) (pC oy aC) (λ_ _=>rfl)) aC (λ_ _=>rfl)) (aU ju (aU bV (a9 3) (pC oy aC) (λ_ _=>rfl)) aC (λ_ _=>rfl)) (bp _)))))))
   bi)
   (aI (cj (bX iI (a9 1) cF (bp _))
   (aL (bY (eJ ph (bG bM (by rfl) B.len ax (aG (a9 3) aB)) aC (bp _))))
   bi)
   (aL (bY (JB (eJ iI (a9 1) cF (bp _)) (mY (eJ ph (bG bM (by rfl) B.len ax (aG (a9 2) aB)) aC (bp _))))))))))),?_⟩
  obtain⟨as,a1,a2⟩:=id (G.s false);obtain⟨bs,b1,b2⟩:=id (G.s true);have la:(as.map V.ref).length=(st false).length:=by rw[aA];exact au a2
  have lb:(bs.map V.ref).length=(st true).length:=by rw[aA];exact au b2
  have pos:∀S:List Oe,decide (0<(S.length:Int))=decide (S≠[]):=λS=>decide_eq_decide.mpr (by cases S with
   | nil=>simp
   | cons a b=>simp only[cQ,ne_eq,reduceCtorEq,not_false_eq_true,iff_true];lia)
  nofun;refine⟨_,_,bw.of G.oe_,rfl,_,_,bw.of G.oe_,rfl,?_⟩;have hd:=xQ k hk;have hb:=La k hk;have ha:=Hk k hk;rw[decide_eq_decide] at hd hb ha;simp only[hd,hb,ha];unfold xm at q;by_cases k3:k=3
  ·rw[RN k3] at q ⊢;refine⟨_,_,rfl,.inl (bw.of a1),?_⟩;rw[la];rcases oN (st false) with e | ⟨S,o,l,e⟩
   ·rw[e] at q ⊢;exact nR (by simp) q
   ·refine rQ (by rw[e];simp only[aw,cW];lia) ⟨_,_,rfl,.inl (bw.of b1),?_⟩;rw[lb];rcases oN (st true) with e' | ⟨S',o',l',e'⟩
    ·rw[e,e'] at q;rw[e'];exact nR (by simp) (by simpa using q)
    ·refine rQ (by rw[e'];simp only[aw,cW];lia) ?_;have s1:=G.s false;have s2:=G.s true;rw[e] at s1;rw[e'] at s2;obtain⟨cs,c,c1,c2,c3,_⟩:=ny s1;obtain⟨ds,d,d1,d2,d3,_⟩:=ny s2;refine⟨_,_,_,_,rfl,rfl,bw.of c1,oB _ _,.inr (.inl ⟨c,_,_,_,rfl,rfl,dD.of c3,rfl,?_⟩)⟩;refine⟨_,_,_,_,rfl,rfl,bw.of d1,oB _ _,.inr (.inl ⟨d,_,_,_,rfl,rfl,dD.of d3,rfl,rj ?_⟩)⟩;rw[e,e',ur,ur] at q;have e3:(decide (S++[(o,l)]≠[])&&(decide (S'++[(o',l')]≠[])&&decide (some l≠some l')))=!decide (l=l'):=by simp
     rw[e3] at q;exact q
  ·rw[RM k3] at q ⊢;by_cases k1:k=1
   ·rw[RN k1] at q ⊢;refine⟨_,_,rfl,.inl (bw.of b1),?_⟩;rw[lb,pos];exact q
   ·rw[RM k1] at q ⊢;by_cases k0:k=0
    ·rw[RN k0];rw[RQ k0] at q;exact q
    ·rw[RM k0];rw[RP k0,lV] at q;refine⟨_,_,rfl,.inl (bw.of a1),?_⟩;rw[la,pos];exact q
theorem Ja (B:o8 mg) (E:Fn K mg "_law_put" sU ["_law_open_ends","_law_found","_law_letter","_law_row"]):ef P w K mg base 1 "_law_put" sU ["_law_open_ends","_law_found","_law_letter","_law_row"] Cy:=E.mk' λf fd F=>by
 refine F.okS nY (λvs H Q E h=>?_) (λcdv A outer s H vs Q E hr h=>?_)
 ·obtain⟨oe,fd,A',B',st,f,st',f',k,r,rfl,_⟩:=h;rfl
 ·obtain⟨oe,fd,A',B',st,f,st',f',k,r,rfl,G,hl,P',q⟩:=h;refine⟨[some (.ref oe),some (.ref fd),some (.str (lO k)),some (.int r),none,none,none,none,none,none],_,rfl,(L2.jI.h (aI (ak (i:=4) nY.nd rfl (Or.inl rfl) (aU bV (a9 0) aC (λ_ _=>rfl)))
   (aI (ak (i:=5) nY.nd rfl (Or.inl rfl) (aU bV (a9 0) aC (λ_ _=>rfl)))
   (aI (ak (i:=6) nY.nd rfl (Or.inl rfl) (cu aB))
   (cU (cj (bX oY (a9 2) cF (by with_unfolding_all rfl))
   (aI (cZ (eO a8 aq ao dH (a9 6) (cn (p7 a8 jK jJ zE (a9 4)) aB)))
    (aL (cZ (eO a8 aq ao dH (aU bV (a9 1) aC (λ_ _=>rfl)) (dS (dA (aV (aU ju (aU bV (a9 6) (pC oy aC) (λ_ _=>rfl)) aC (λ_ _=>rfl)) (aG (a9 3) aB))) aB)))))
   bi)
   (cU (cj (bX oY (a9 2) cF (by with_unfolding_all rfl))
   (aI (cZ (eO a8 aq ao dH (a9 6) (cn (p7 a8 jK jJ zE (a9 5)) aB)))
    (aL (cZ (eO a8 aq ao dH (aU bV (a9 1) aC (λ_ _=>rfl)) (dS (dA (aV (aU ju (aU bV (a9 6) (pC oy aC) (λ_ _=>rfl)) aC (λ_ _=>rfl)) (aG (a9 3) aB))) aB)))))
   bi)
   (aI (ak (i:=7) nY.nd rfl (Or.inl rfl) (a9 3))
   (cU (cj (bX ph (bG bM (by rfl) B.len ax (aG (a9 6) aB)) aC (bp _))
   (aL (ak (i:=7) nY.nd rfl (Or.inl rfl) (aU ju (aU bV (a9 6) aC (λ_ _=>rfl)) aC (λ_ _=>rfl))))
   bi)
   (cU (cj (bX oY (a9 2) cF (by with_unfolding_all rfl))
   (aL (cZ (eO a8 aq ao dH (a9 4) (dS (dA (aG (a9 3) (aG (a9 7) aB))) aB))))
   bi)
   (cU (cj (bX oY (a9 2) cF (by with_unfolding_all rfl))
   (aL (cZ (eO a8 aq ao dH (a9 5) (dS (dA (aG (a9 3) (aG (a9 7) aB))) aB))))
   bi)
   (aL (cj (bX iI (a9 2) cF (bp _))
   (aL (ci aZ rfl (eZ (cu (aG (a9 4) (aG (a9 5) aB)))) (bP (i:=8) nY.nd rfl (Or.inl rfl))
    (aL (ci aZ rfl (gQ (by rfl) B.range (cn (bG bM (by rfl) B.len ax (aG (a9 8) aB)) aB)) (bP (i:=9) nY.nd rfl (Or.inl rfl))
     (aL (cj (bX (vh (oq hr)) (aU ju (aU bV (a9 8) (a9 9) (λ_ _=>rfl)) aC (λ_ _=>rfl)) (aU ju (aU bV (a9 6) aC (λ_ _=>rfl)) aC (λ_ _=>rfl)) (bp _))
      (aL (rZ (dA (aV (aU ju (aU bV (a9 8) (a9 9) (λ_ _=>rfl)) aC (λ_ _=>rfl)) (aG (a9 7) aB))) (re (a9 8) (a9 9) set_list)))
      bi))))))
   bi)))))))))))),?_⟩
  nofun;refine⟨_,_,bw.of G.oe_,rfl,_,_,bw.of G.oe_,rfl,ac _,λp np=>?_⟩;have G0:=G.new (o:=.lst []) np;have F0:Fr A' B' H (upd H p (.lst [])):=(Fr.refl _ _ _).new np;have p0:upd H p (.lst []) p=some (.lst []):=aE;have pn:∀u,p≠A' u/\p≠B' u:=λu=>by
   obtain⟨_,x,_⟩:=G.s u;obtain⟨_,y,_⟩:=G.f_ u;exact⟨(am x np).symm,(am y np).symm⟩
  generalize upd H p (.lst [])=H0 at G0 F0 p0 ⊢;have fin:∀H',Fr A' B' H H'->GS H' oe fd A' B' st' f'->Q .non H':=q;have po:p≠oe/\p≠fd:=⟨(am G.oe_ np).symm,(am G.fd_ np).symm⟩
  cases P' with
  | a=>
   refine bN (λσ H'=>σ=[some (.ref oe),some (.ref fd),some (.str (lO 0)),some (.int r),some (.ref (A' false)),some (.ref (A' true)),some (.ref p),none,none,none]/\H0=H') ?_ ?_
   ·nofun;rw[xv,A8.1];exact nR (λz=>nomatch z) ⟨trivial,trivial⟩
   rintro σ' H' ⟨rfl,rfl⟩;refine bN (λσ H'=>σ=[some (.ref oe),some (.ref fd),some (.str (lO 0)),some (.int r),some (.ref (A' false)),some (.ref (A' true)),some (.ref p),none,none,none]/\H0=H') ?_ ?_
   ·nofun;rw[xv,A9.1];exact nR (λz=>nomatch z) ⟨trivial,trivial⟩
   rintro σ' H' ⟨rfl,rfl⟩;nofun;refine bN (λσ H'=>σ=[some (.ref oe),some (.ref fd),some (.str (lO 0)),some (.int r),some (.ref (A' false)),some (.ref (A' true)),some (.ref p),some (.int r),none,none]/\H0=H') ?_ ?_
   ·nofun;exact⟨_,.inl (bw.of p0),nR (by simp) ⟨trivial,trivial⟩⟩
   rintro σ' H' ⟨rfl,rfl⟩;refine bN (λσ H'=>σ=[some (.ref oe),some (.ref fd),some (.str (lO 0)),some (.int r),some (.ref (A' false)),some (.ref (A' true)),some (.ref p),some (.int r),none,none]/\Fr A' B' H H'/\GS H' oe fd A' B' (λv=>if v=false then st false++[((r:Int),(r:Int))] else st v) f) ?_ ?_
   ·nofun;rw[xv,Ab.1];obtain⟨_,eA,_⟩:=G0.s false;refine rQ rfl ⟨gP eA,(by show 2<=sizeLine;decide),λt nt=>?_⟩;obtain⟨xs,e,lx,G9⟩:=(G0.new (o:=.tup [.int r,.int (r:Int)]) nt).push false (t:=t) (p:=((r:Int),(r:Int))) aE;exact⟨xs,e,bQ (by have:=(hl false).1;first | lia | (simp at lx;lia)),trivial,(F0.new nt).updA false,G9⟩
   rintro σ' H10 ⟨rfl,F10,G10⟩;refine bN (λσ H'=>σ=[some (.ref oe),some (.ref fd),some (.str (lO 0)),some (.int r),some (.ref (A' false)),some (.ref (A' true)),some (.ref p),some (.int r),none,none]/\Fr A' B' H H'/\GS H' oe fd A' B' (λv=>if v=true then (λv=>if v=false then st false++[((r:Int),(r:Int))] else st v) true++[((r:Int),(r:Int))] else (λv=>if v=false then st false++[((r:Int),(r:Int))] else st v) v) f) ?_ ?_
   ·nofun;rw[xv,Aa.1];obtain⟨_,eA,_⟩:=G10.s true;refine rQ rfl ⟨gP eA,(by show 2<=sizeLine;decide),λt nt=>?_⟩;obtain⟨xs,e,lx,G9⟩:=(G10.new (o:=.tup [.int r,.int (r:Int)]) nt).push true (t:=t) (p:=((r:Int),(r:Int))) aE;exact⟨xs,e,bQ (by have:=(hl true).1;first | lia | (simp at lx;lia)),trivial,(F10.new nt).updA true,G9⟩
   rintro σ' H20 ⟨rfl,F20,G20⟩;nofun;refine nR (λz=>by have w:=xQ 0 (by decide);rw[decide_eq_decide] at w;exact absurd (w.mp z) (by decide)) (fin _ F20 ?_);refine GS.cg G20 (λu=>?_) (λu=>?_)
   ·cases u<;>simp
   ·cases u<;>simp
  | @b S o l h=>
   refine bN (λσ H'=>σ=[some (.ref oe),some (.ref fd),some (.str (lO 1)),some (.int r),some (.ref (A' false)),some (.ref (A' true)),some (.ref p),none,none,none]/\H0=H') ?_ ?_
   ·nofun;rw[xv,A8.2.1];exact nR (λz=>nomatch z) ⟨trivial,trivial⟩
   rintro σ' H' ⟨rfl,rfl⟩;refine bN (λσ H'=>∃a1,σ=[some (.ref oe),some (.ref fd),some (.str (lO 1)),some (.int r),some (.ref (A' false)),some (.ref (A' true)),some (.ref p),none,none,none]/\Fr A' B' H H'/\GS H' oe fd A' B' (λv=>if v=true then S else st v) (λv=>if v=true then f true++[(o,(r:Int))] else f v)/\H' p=some (.lst [.ref a1])/\bS H' a1 (o,l)) ?_ ?_
   ·nofun;rw[xv,A9.2.1];exact rQ rfl (pc (u:=true) (S:=S) (o:=o) (l:=l) (r:=r) F0 np G0 h p0 (by show 0<=10;decide) (hl true).2 pn po rfl λH4 a F4 G4 p4 t4 old=>⟨a,by first | rfl | trivial,F4,G4,p4,t4⟩)
   rintro σ' H1 ⟨a1,rfl,F1,G1,p1,t1⟩;nofun;refine bN (λσ H'=>σ=[some (.ref oe),some (.ref fd),some (.str (lO 1)),some (.int r),some (.ref (A' false)),some (.ref (A' true)),some (.ref p),some (.int l),none,none]/\H1=H') ?_ ?_
   ·nofun;exact⟨_,.inl (bw.of p1),rQ (by simp) ⟨_,_,bw.of p1,rfl,.inr (.inl ⟨a1,_,_,_,rfl,rfl,dD.of t1,rfl,by first | rfl | trivial,by first | rfl | trivial⟩)⟩⟩
   rintro σ' H' ⟨rfl,rfl⟩;refine bN (λσ H'=>σ=[some (.ref oe),some (.ref fd),some (.str (lO 1)),some (.int r),some (.ref (A' false)),some (.ref (A' true)),some (.ref p),some (.int l),none,none]/\Fr A' B' H H'/\GS H' oe fd A' B' (λv=>if v=false then (λv=>if v=true then S else st v) false++[((r:Int),l)] else (λv=>if v=true then S else st v) v) (λv=>if v=true then f true++[(o,(r:Int))] else f v)) ?_ ?_
   ·nofun;rw[xv,Ab.2.1];obtain⟨_,eA,_⟩:=G1.s false;refine rQ rfl ⟨gP eA,(by show 2<=sizeLine;decide),λt nt=>?_⟩;obtain⟨xs,e,lx,G9⟩:=(G1.new (o:=.tup [.int r,.int l]) nt).push false (t:=t) (p:=((r:Int),l)) aE;exact⟨xs,e,bQ (by have:=(hl false).1;first | lia | (simp at lx;lia)),trivial,(F1.new nt).updA false,G9⟩
   rintro σ' H11 ⟨rfl,F11,G11⟩;refine bN (λσ H'=>σ=[some (.ref oe),some (.ref fd),some (.str (lO 1)),some (.int r),some (.ref (A' false)),some (.ref (A' true)),some (.ref p),some (.int l),none,none]/\H11=H') ?_ ?_
   ·nofun;rw[xv,Aa.2.1];exact nR (λz=>nomatch z) ⟨trivial,trivial⟩
   rintro σ' H' ⟨rfl,rfl⟩;nofun;refine nR (λz=>by have w:=xQ 1 (by decide);rw[decide_eq_decide] at w;exact absurd (w.mp z) (by decide)) (fin _ F11 ?_);refine GS.cg G11 (λu=>?_) (λu=>?_)
   ·cases u<;>simp
   ·cases u<;>simp
  | @c S o l h=>
   refine bN (λσ H'=>∃a1,σ=[some (.ref oe),some (.ref fd),some (.str (lO 2)),some (.int r),some (.ref (A' false)),some (.ref (A' true)),some (.ref p),none,none,none]/\Fr A' B' H H'/\GS H' oe fd A' B' (λv=>if v=false then S else st v) (λv=>if v=false then f false++[(o,(r:Int))] else f v)/\H' p=some (.lst [.ref a1])/\bS H' a1 (o,l)) ?_ ?_
   ·nofun;rw[xv,A8.2.2.1];exact rQ rfl (pc (u:=false) (S:=S) (o:=o) (l:=l) (r:=r) F0 np G0 h p0 (by show 0<=10;decide) (hl false).2 pn po rfl λH4 a F4 G4 p4 t4 old=>⟨a,by first | rfl | trivial,F4,G4,p4,t4⟩)
   rintro σ' H1 ⟨a1,rfl,F1,G1,p1,t1⟩;refine bN (λσ H'=>σ=[some (.ref oe),some (.ref fd),some (.str (lO 2)),some (.int r),some (.ref (A' false)),some (.ref (A' true)),some (.ref p),none,none,none]/\H1=H') ?_ ?_
   ·nofun;rw[xv,A9.2.2.1];exact nR (λz=>nomatch z) ⟨trivial,trivial⟩
   rintro σ' H' ⟨rfl,rfl⟩;nofun;refine bN (λσ H'=>σ=[some (.ref oe),some (.ref fd),some (.str (lO 2)),some (.int r),some (.ref (A' false)),some (.ref (A' true)),some (.ref p),some (.int l),none,none]/\H1=H') ?_ ?_
   ·nofun;exact⟨_,.inl (bw.of p1),rQ (by simp) ⟨_,_,bw.of p1,rfl,.inr (.inl ⟨a1,_,_,_,rfl,rfl,dD.of t1,rfl,by first | rfl | trivial,by first | rfl | trivial⟩)⟩⟩
   rintro σ' H' ⟨rfl,rfl⟩;refine bN (λσ H'=>σ=[some (.ref oe),some (.ref fd),some (.str (lO 2)),some (.int r),some (.ref (A' false)),some (.ref (A' true)),some (.ref p),some (.int l),none,none]/\H1=H') ?_ ?_
   ·nofun;rw[xv,Ab.2.2.1];exact nR (λz=>nomatch z) ⟨trivial,trivial⟩
   rintro σ' H' ⟨rfl,rfl⟩;refine bN (λσ H'=>σ=[some (.ref oe),some (.ref fd),some (.str (lO 2)),some (.int r),some (.ref (A' false)),some (.ref (A' true)),some (.ref p),some (.int l),none,none]/\Fr A' B' H H'/\GS H' oe fd A' B' (λv=>if v=true then (λv=>if v=false then S else st v) true++[((r:Int),l)] else (λv=>if v=false then S else st v) v) (λv=>if v=false then f false++[(o,(r:Int))] else f v)) ?_ ?_
   ·nofun;rw[xv,Aa.2.2.1];obtain⟨_,eA,_⟩:=G1.s true;refine rQ rfl ⟨gP eA,(by show 2<=sizeLine;decide),λt nt=>?_⟩;obtain⟨xs,e,lx,G9⟩:=(G1.new (o:=.tup [.int r,.int l]) nt).push true (t:=t) (p:=((r:Int),l)) aE;exact⟨xs,e,bQ (by have:=(hl true).1;first | lia | (simp at lx;lia)),trivial,(F1.new nt).updA true,G9⟩
   rintro σ' H11 ⟨rfl,F11,G11⟩;nofun;refine nR (λz=>by have w:=xQ 2 (by decide);rw[decide_eq_decide] at w;exact absurd (w.mp z) (by decide)) (fin _ F11 ?_);refine GS.cg G11 (λu=>?_) (λu=>?_)
   ·cases u<;>simp
   ·cases u<;>simp
  | @d n' f2 o1 l1 o2 l2 h h' ne=>
   refine bN (λσ H'=>∃a1,σ=[some (.ref oe),some (.ref fd),some (.str (lO 3)),some (.int r),some (.ref (A' false)),some (.ref (A' true)),some (.ref p),none,none,none]/\Fr A' B' H H'/\GS H' oe fd A' B' (λv=>if v=false then n' else st v) (λv=>if v=false then f false++[(o1,(r:Int))] else f v)/\H' p=some (.lst [.ref a1])/\bS H' a1 (o1,l1)) ?_ ?_
   ·nofun;rw[xv,A8.2.2.2];exact rQ rfl (pc (u:=false) (S:=n') (o:=o1) (l:=l1) (r:=r) F0 np G0 h p0 (by show 0<=10;decide) (hl false).2 pn po rfl λH4 a F4 G4 p4 t4 old=>⟨a,by first | rfl | trivial,F4,G4,p4,t4⟩)
   rintro σ' H1 ⟨a1,rfl,F1,G1,p1,t1⟩;refine bN (λσ H'=>∃a2,σ=[some (.ref oe),some (.ref fd),some (.str (lO 3)),some (.int r),some (.ref (A' false)),some (.ref (A' true)),some (.ref p),none,none,none]/\Fr A' B' H H'/\GS H' oe fd A' B' (λv=>if v=true then f2 else (λv=>if v=false then n' else st v) v) (λv=>if v=true then (λv=>if v=false then f false++[(o1,(r:Int))] else f v) true++[(o2,(r:Int))] else (λv=>if v=false then f false++[(o1,(r:Int))] else f v) v)/\H' p=some (.lst [.ref a1,.ref a2])/\bS H' a2 (o2,l2)/\bS H' a1 (o1,l1)) ?_ ?_
   ·nofun;rw[xv,A9.2.2.2];exact rQ rfl (pc (u:=true) (S:=f2) (o:=o2) (l:=l2) (r:=r) F1 np G1 (by simp only[iW,RU];exact h') p1 (by show 1<=10;decide) (by simp only[iW,RU];exact(hl true).2) pn po rfl λH4 a F4 G4 p4 t4 old=>⟨a,by first | rfl | trivial,F4,G4,p4,t4,old _ _ t1⟩)
   rintro σ' H2 ⟨a2,rfl,F2,G2,p2,t2 ,t1'⟩;nofun;refine bN (λσ H'=>σ=[some (.ref oe),some (.ref fd),some (.str (lO 3)),some (.int r),some (.ref (A' false)),some (.ref (A' true)),some (.ref p),some (.int l1),none,none]/\H2=H') ?_ ?_
   ·nofun;exact⟨_,.inl (bw.of p2),rQ (by simp) ⟨_,_,bw.of p2,rfl,.inr (.inl ⟨a1,_,_,_,rfl,rfl,dD.of t1',rfl,by first | rfl | trivial,by first | rfl | trivial⟩)⟩⟩
   rintro σ' H' ⟨rfl,rfl⟩;refine bN (λσ H'=>σ=[some (.ref oe),some (.ref fd),some (.str (lO 3)),some (.int r),some (.ref (A' false)),some (.ref (A' true)),some (.ref p),some (.int l1),none,none]/\H2=H') ?_ ?_
   ·nofun;rw[xv,Ab.2.2.2];exact nR (λz=>nomatch z) ⟨trivial,trivial⟩
   rintro σ' H' ⟨rfl,rfl⟩;refine bN (λσ H'=>σ=[some (.ref oe),some (.ref fd),some (.str (lO 3)),some (.int r),some (.ref (A' false)),some (.ref (A' true)),some (.ref p),some (.int l1),none,none]/\H2=H') ?_ ?_
   ·nofun;rw[xv,Aa.2.2.2];exact nR (λz=>nomatch z) ⟨trivial,trivial⟩
   rintro σ' H' ⟨rfl,rfl⟩;nofun;have w3:lO 3=Str.ofString "d":=rfl;refine rQ w3 ⟨(by show 2<=sizeLine;decide),λp9 n9=>?_⟩;have G3:=G2.new (o:=.lst [.ref (A' false),.ref (A' true)]) n9;have F3:=F2.new (o:=.lst [.ref (A' false),.ref (A' true)]) n9;have s3:=(ar.refl H2).new (o:=.lst [.ref (A' false),.ref (A' true)]) n9;have q3:=s3 _ _ p2;have b3:=t2.same s3;have h9:upd H2 p9 (.lst [.ref (A' false),.ref (A' true)]) p9=some (.lst [.ref (A' false),.ref (A' true)]):=aE;have pn9:∀u,p9≠A' u/\p9≠B' u:=λu=>by
    obtain⟨_,x,_⟩:=G2.s u;obtain⟨_,y,_⟩:=G2.f_ u;exact⟨(am x n9).symm,(am y n9).symm⟩
   generalize upd H2 p9 (.lst [.ref (A' false),.ref (A' true)])=H3 at G3 F3 q3 b3 h9 ⊢;clear s3;generalize hX:(λu:Bool=>if u=true then f2 else n')=X;have G3:GS H3 oe fd A' B' X (λu=>f u++[(if u then o2 else o1,(r:Int))]):=G3.cg (λu=>by subst hX;cases u<;>simp) (λu=>by cases u<;>simp);have hXl:∀u,(X u).length<=100:=λu=>by
    have a1:=(hl false).1;have a2:=(hl true).1;rw[h] at a1;rw[h'] at a2;simp at a1 a2;subst hX;cases u<;>simp<;>lia
   have others:∀u (ys:List V) H',(∀v:V,v∈ys->True)->H' p9=some (.lst [.ref (A' false),.ref (A' true)])->upd H' (A' u) (.lst ys) p9=some (.lst [.ref (A' false),.ref (A' true)]):=λu ys H' _ e=>by rw[aO (pn9 u).1];exact e
   refine⟨⟨_,bw.of h9⟩,gW (xs:=[.ref (A' false),.ref (A' true)]) (λi σ H'=>∃x8 x9:Option V,σ=[some (.ref oe),some (.ref fd),some (.str (lO 3)),some (.int r),some (.ref (A' false)),some (.ref (A' true)),some (.ref p),some (.int l1),x8,x9]/\Fr A' B' H H'/\H' p9=some (.lst [.ref (A' false),.ref (A' true)])/\H' p=some (.lst [.ref a1,.ref a2])/\bS H' a2 (o2,l2)/\GS H' oe fd A' B' (λu=>if (if u then 2 else 1)<=i then (X u).map (gF l2 l1) else X u) (λu=>f u++[(if u then o2 else o1,(r:Int))]))
    ⟨none,none,rfl,F3,h9,q3,b3,G3.cg (λu=>by cases u<;>simp) λ_=>rfl⟩ (λi σ H' _ ⟨_,_,_,_,e,_⟩=>bw.of e) ?_ ?_⟩
   ·rintro i x σ H4 hx ⟨x8,x9,rfl,F4,h94,q4,b4,G4⟩;obtain⟨u,rfl,hu⟩:∃u:Bool,x=.ref (A' u)/\i+1=(if u then 2 else 1):=by
     match i,hx with
     | 0,hx=>exact⟨false,by simpa using hx.symm,rfl⟩
     | 1,hx=>exact⟨true,by simpa using hx.symm,rfl⟩
     | i+2,hx=>simp at hx
    have eu:(λu=>if (if u then 2 else 1)<=i then (X u).map (gF l2 l1) else X u) u=X u:=by simp only;rw[RM (by lia)]
    nofun;obtain⟨as,a1',a2'⟩:=id (G4.s u);have lu:(as.map V.ref).length=(X u).length:=by rw[aA,<-eu];exact au a2'
    refine⟨_,.inl (bw.of a1'),by have:=hXl u;lia,by have:=hXl u;lia,?_⟩;have en:(((as.map V.ref).length:Int)).toNat=(X u).length:=by lia
    rw[en];refine fB (n:=(X u).length) (λk σ H'=>∃x9:Option V,σ=[some (.ref oe),some (.ref fd),some (.str (lO 3)),some (.int r),some (.ref (A' false)),some (.ref (A' true)),some (.ref p),some (.int l1),some (.ref (A' u)),x9]/\Fr A' B' H H'/\H' p9=some (.lst [.ref (A' false),.ref (A' true)])/\H' p=some (.lst [.ref a1,.ref a2])/\bS H' a2 (o2,l2)/\GS H' oe fd A' B' (λv=>if v=u then ((X u).take k).map (gF l2 l1)++(X u).drop k else if (if v then 2 else 1)<=i then (X v).map (gF l2 l1) else X v) (λu=>f u++[(if u then o2 else o1,(r:Int))]))
     ⟨x9,rfl,F4,h94,q4,b4,G4.cg (λv=>by
      by_cases z:v=u
      ·subst z;refine Eq.trans eu ?_;rw[RN rfl];simp
      ·rw[RM z]) λ_=>rfl⟩ ?_ ?_
    ·rintro k σ H5 hk ⟨y9,rfl,F5,h95,q5,b5,G5⟩;obtain⟨e,he⟩:∃e,(X u)[k]? = some e:=⟨_,aJ hk⟩
     obtain⟨r1,r2⟩:=DR (X u) (gF l2 l1) he;obtain⟨bs,b,c1,c2,c3,c4⟩:=G5.get u (i:=k) (e:=e) (by rw[RN rfl];exact r1);nofun;refine⟨_,_,bw.of c1,by rw[fw];exact fU c2,.inr (.inl ⟨b,_,_,_,rfl,rfl,dD.of c3,rfl,?_⟩)⟩;refine⟨_,_,bw.of q5,rfl,.inr (.inl ⟨a2,_,_,_,rfl,rfl,dD.of b5,rfl,rj ?_⟩)⟩;simp only[bW,RU];refine⟨_,rfl,?_⟩;simp only[RO];refine gl (λz=>?_) (λz=>?_)
     ·refine⟨_,_,bw.of c1,by rw[fw];exact fU c2,.inr (.inl ⟨b,_,_,_,rfl,rfl,dD.of c3,rfl,?_⟩)⟩;refine⟨(by show 2<=sizeLine;decide),λt nt=>?_⟩;have s6:=(ar.refl H5).new (o:=.tup [.int e.1,.int l1]) nt;have G6:=G5.same s6;have c16:=s6 _ _ c1;refine⟨A' u,_,_,k,rfl,rfl,c16,by rw[fw];exact Ga (aF.mp c2).1,?_⟩;have G7:=G6.set u k (Paired.mapP c4 λa q z=>z.same s6) (t:=t) (q:=(e.1,l1)) aE;refine⟨_,rfl,(F5.new nt).updA u,by rw[aO (pn9 u).1];exact s6 _ _ h95,by rw[aO (pn u).1];exact s6 _ _ q5,ky c16 (b5.same s6),G7.cg (λv=>?_) λ_=>rfl⟩;by_cases zv:v=u
      ·subst zv;simp only[RT];have er:gF l2 l1 e=(e.1,l1):=by unfold gF;rw[RN z]
       rw[er] at r2;exact r2
      ·simp only[zv,RU]
     ·refine⟨_,rfl,F5,h95,q5,b5,G5.cg (λv=>?_) λ_=>rfl⟩;by_cases zv:v=u
      ·subst zv;simp only[RT];have er:gF l2 l1 e=e:=by unfold gF;rw[RM z]
       rw[er] at r2;rw[<-r2];obtain⟨w1,w2⟩:=aF.mp r1
       conv=>lhs;rw[<-List.set_getElem_self (as:=((X v).take k).map (gF l2 l1)++(X v).drop k) (i:=k) w1,w2]
      ·simp only[zv,RU]
    ·rintro σ H5 ⟨y9,rfl,F5,h95,q5,b5,G5⟩;refine⟨_,_,rfl,F5,h95,q5,b5,G5.cg (λv=>?_) λ_=>rfl⟩;by_cases zv:v=u
     ·subst zv;rw[RN rfl,RN (by lia)];simp
     ·rw[RM zv];have:((if v then 2 else 1)<=i)=((if v then 2 else 1)<=i+1):=by
       revert hu zv
       cases u<;>cases v<;>simp<;>lia
      simp only[this]
   ·rintro σ H4 ⟨x8,x9,rfl,F4,_,_,_,G4⟩;exact fin _ F4 (G4.cg (λu=>by subst hX;cases u<;>simp) λ_=>rfl)
theorem yx (B:o8 mg) (E:Fn K mg "_law_fitting" kT ["_law_open_ends","_law_row","_law_digit"]) (Pg:ef P w K mg base 1 "_law_can" u7 ["_law_open_ends","_law_letter"] Hd) (Ox:ef P w K mg base 1 "_law_need" qW ["_law_many"] Cz):ef P w K mg base 2 "_law_fitting" kT ["_law_open_ends","_law_row","_law_digit"] uV:=E.mk' λf fd F=>by
 refine F.okS k6 (λvs H Q E h=>?_) (λcdv A outer s H vs Q E hr h=>?_)
 ·obtain⟨oe,fd,A',B',st,f,r,d,rfl,_⟩:=h;rfl
 ·obtain⟨oe,fd,A',B',st,f,r,d,rfl,G,hl,hr0,q⟩:=h;refine⟨[some (.ref oe),some (.int r),some (.int d),none,none,none,none],_,rfl,(L2.jI.h (aI (ak (i:=3) k6.nd rfl (Or.inl rfl) (ae c9 (bG bM (by rfl) B.len ax (aV (aU bV (a9 0) aC (λ_ _=>rfl)) aB)) (bG bM (by rfl) B.len ax (aV (aU bV (a9 0) aC (λ_ _=>rfl)) aB))))
   (aI (ak (i:=4) k6.nd rfl (Or.inl rfl) (cu aB))
   (aI (ci aZ rfl (Fc (qb Ij cF (nZ (ae kf (a9 2) aC)) (nZ (ae c9 (ae kf (a9 2) aC) aC)))) (bP (i:=5) k6.nd rfl (Or.inl rfl))
   (aI (ak (i:=6) k6.nd rfl (Or.inl rfl) (ae fY (ae c9 (a9 3) (ae fH aC (dh mD (by rfl) B.int dZ (jj (eJ iI (a9 5) cF (bp _)) aB)))) (ae fH aC (dh mD (by rfl) B.int dZ (jj (eJ iI (a9 5) cF (bp _)) aB)))))
    (aL (cj (QW.pt (oW (iR (aj Pg (hr.mono (by decide)) (by rfl) (aG (a9 0) (aG (a9 5) aB)))) (l8 (bX Dv (ae c9 (a9 1) (aj Ox (hr.mono (by decide)) (by rfl) (aG (a9 6) aB))) aC (bp _)))))
    (aL (cZ (eO a8 aq ao dH (a9 4) (aG (a9 5) aB))))
    bi))))
   (aL (bY (a9 4))))))),?_⟩
  obtain⟨as,a1,a2⟩:=id (G.s false);obtain⟨bs,b1,b2⟩:=id (G.s true);have la:(as.map V.ref).length=(st false).length:=by rw[aA];exact au a2
  have lb:(bs.map V.ref).length=(st true).length:=by rw[aA];exact au b2
  nofun;refine⟨_,_,bw.of G.oe_,rfl,_,_,rfl,.inl (bw.of a1),_,_,bw.of G.oe_,rfl,_,_,rfl,.inl (bw.of b1),ac _,λl nl=>⟨by decide,by decide,by decide,?_⟩⟩;rw[la,lb];obtain⟨j,hj,ej⟩:∃j:Nat,j<4/\d % 4=j:=⟨(d % 4).toNat,by lia,by lia⟩
  rw[ej];obtain⟨z1,z2,z3⟩:=Gy j hj;generalize Txt.slice (Str.ofString "abcdabcd") (some (j:Int)) (some ((j:Int)+4))=z at z1 z2 z3 ⊢;have hm:((st false).length:Int)+(st true).length<=200:=by have:=hl false;have:=hl true;lia
  generalize hM:((st false).length:Int)+(st true).length=M at hm ⊢;have hM0:0<=M:=by lia
  have q':∀(ks:List Nat) (H':Hp),ar H H'->H' l=some (.lst (ks.map λk=>V.str (lO k)))->(∀k∈ks,k<4/\xm st k=true/\(r:Int)+nE (pN M k)<=20)->Q (.ref l) H':=λks H' s' h1 h2=>q l ks H' nl s' h1 (by rw[hM];exact h2);refine⟨z1,Gi (x:=z) (λi σ H2=>∃(ks:List Nat) (x5 x6:Option V),σ=[some (.ref oe),some (.int r),some (.int d),some (.int M),some (.ref l),x5,x6]/\ar H H2/\H2 l=some (.lst (ks.map λk=>V.str (lO k)))/\ks.length<=i/\i<=4/\∀k∈ks,k<4/\xm st k=true/\(r:Int)+nE (pN M k)<=20)
   ⟨[],none,none,rfl,(ar.refl H).new nl,aE,aH _,ac _,λk hk=>(nomatch hk)⟩ ?_ ?_⟩
  ·rintro i c σ H2 hc ⟨ks,x5,x6,rfl,sm,hl2,hlen,hi4,hks⟩;have hc':z.cps.toList[i]? = some c:=by simpa using hc
   have hi:i<4:=by
    have h1:=(gz.mp hc).1;have h2:z.cps.size=4:=z3;lia
   obtain⟨k,hk,ek⟩:=Jg (RS (j8.mp z2 c (aR hc')));rw[ek];nofun;simp only[Ji hk,Jh hk];refine⟨.inl ⟨by decide,by decide⟩,.inl ⟨by decide,by decide⟩,oe,fd,A',B',st,f,k,rfl,hk,G.same sm,?_⟩;have ea:M+2*(if k=0 then 1 else 0) - 2*(if k=3 then 1 else 0)=pN M k:=rfl;rw[ea];have hb:-1000<=pN M k/\pN M k<=1000:=by
    unfold pN;constructor<;>(split<;>split<;>lia)
   nofun;have no:∃(ks':List Nat) (x5 x6:Option V),[some (V.ref oe),some (V.int r),some (V.int d),some (V.int M),some (V.ref l),some (V.str (lO k)),some (V.int (pN M k))]=[some (.ref oe),some (.int r),some (.int d),some (.int M),some (.ref l),x5,x6]/\ar H H2/\H2 l=some (.lst (ks'.map λk=>V.str (lO k)))/\ks'.length<=i+1/\i+1<=4/\∀k∈ks',k<4/\xm st k=true/\(r:Int)+nE (pN M k)<=20:=
    ⟨ks,_,_,rfl,sm,hl2,Nat.le_succ_of_le hlen,hi,hks⟩
   cases hcan:xm st k with
   | false=>exact nR (λz=>nomatch z) no
   | true=>
    refine rQ rfl ⟨_,rfl,hb.1,hb.2,?_⟩;nofun;refine gl (λh20=>?_) (λ_=>no);refine⟨gP hl2,_,hl2,by rw[aA];exact bQ (by lia),ks++[k],_,_,rfl,sm.new nl,by rw[aE,aX];rfl,by rw[aw];exact Nat.succ_le_succ hlen,hi,λk' hk'=>?_⟩;rcases aW.mp hk' with y | y
    ·exact hks k' y
    ·have e:k'=k:=by simpa using y
     subst e;exact⟨hk,hcan,h20⟩
  ·rintro σ H2 ⟨ks,x5,x6,rfl,sm,hl2,hlen,hi4,hks⟩;nofun;exact q' ks H2 sm hl2 hks
theorem Dz (B:o8 mg) (E:Fn K mg "_law_ended" oS ["_law_open_ends","_law_found","_law_row"]) (O6:ef P w K mg base 1 "_law_put" sU ["_law_open_ends","_law_found","_law_letter","_law_row"] Cy):ef P w K mg base 3 "_law_ended" oS ["_law_open_ends","_law_found","_law_row"] AJ:=E.mk' λf fd F=>by
 refine F.okS iL (λvs H Q E h=>?_) (λcdv A outer s H vs Q E hr h=>?_)
 ·obtain⟨oe,fd,A',B',b,st,f,is,r,rfl,_⟩:=h;rfl
 ·obtain⟨oe,fd,A',B',b,st,f,is,r,rfl,G,GG,hb,q⟩:=h;refine⟨[some (.ref oe),some (.ref fd),some (.int r),none,none,none,none,none],_,rfl,(L2.jI.h (aI (ak (i:=3) iL.nd rfl (Or.inl rfl) (aU bV (a9 0) aC (λ_ _=>rfl)))
   (aI (ak (i:=4) iL.nd rfl (Or.inl rfl) (aU bV (a9 0) aC (λ_ _=>rfl)))
   (cU (l9 aZ (bX ph (ae c9 (bG bM (by rfl) B.len ax (aG (a9 3) aB)) (bG bM (by rfl) B.len ax (aG (a9 4) aB))) aC (bp _))
   (aI (ak (i:=5) iL.nd rfl (Or.inl rfl) (ae pE (a9 3) (wq rfl (by rfl) B.list (by rfl) B.reversed (a9 4))))
    (aI (ak (i:=6) iL.nd rfl (Or.inl rfl) aC)
    (cU (l9 aZ (bX (vh (oq hr)) (aU ju (aU bV (a9 5) (ae fY (a9 6) aC) (λ_ _=>rfl)) aC (λ_ _=>rfl)) (aU ju (aU bV (a9 5) (a9 6) (λ_ _=>rfl)) aC (λ_ _=>rfl)) (bp _))
    (aL (ak (i:=6) iL.nd rfl (Or.inl rfl) (ae c9 (a9 6) aC))))
    (aI (ak (i:=7) iL.nd rfl (Or.inl rfl) cF)
    (cU (cj (bX lm (bG bM (by rfl) B.len ax (aG (a9 3) aB)) (a9 6) (bp _))
    (aL (ak (i:=7) iL.nd rfl (Or.inl rfl) cF))
    bi)
    (cU (cj (bX ph (bG bM (by rfl) B.len ax (aG (a9 3) aB)) (a9 6) (bp _))
    (aL (ak (i:=7) iL.nd rfl (Or.inl rfl) cF))
    bi)
    (cU (cZ (aj O6 (hr.mono (by decide)) (by rfl) (aG (a9 0) (aG (a9 1) (aG (a9 7) (aG (a9 2) aB))))))
    (aL (ak (i:=2) iL.nd rfl (Or.inl rfl) (ae c9 (a9 2) aC)))))))))))
   (cU (cj (bX iI (bG bM (by rfl) B.len ax (aG (a9 3) aB)) aC (bp _))
   (aL (cZ (eO a8 aq ao dH (aU bV (a9 1) aC (λ_ _=>rfl)) (dS (dA (aV (aU ju (aU bV (a9 3) aC (λ_ _=>rfl)) aC (λ_ _=>rfl)) (aG (a9 2) aB))) aB))))
   (aL (cZ (eO a8 aq ao dH (aU bV (a9 1) aC (λ_ _=>rfl)) (dS (dA (aV (aU ju (aU bV (a9 4) aC (λ_ _=>rfl)) aC (λ_ _=>rfl)) (aG (a9 2) aB))) aB)))))
   (aL (bY (ae fY (a9 2) aC)))))))),?_⟩
  nofun;refine⟨_,_,bw.of G.oe_,rfl,_,_,bw.of G.oe_,rfl,?_⟩;refine bN (λσ H'=>∃(r:Nat) (st:Bool->List Oe) (f:Bool->List Bw) (is:List Pc) (x5 x6 x7:Option V),σ=[some (.ref oe),some (.ref fd),some (.int r),some (.ref (A' false)),some (.ref (A' true)),x5,x6,x7]/\Fr A' B' H H'/\GS H' oe fd A' B' st f/\Gr b st f r is/\r<=21/\(st false).length+(st true).length<=1) ?_ ?_
  ·refine⟨λm σ H'=>∃(r:Nat) (st:Bool->List Oe) (f:Bool->List Bw) (is:List Pc) (x5 x6 x7:Option V),σ=[some (.ref oe),some (.ref fd),some (.int r),some (.ref (A' false)),some (.ref (A' true)),x5,x6,x7]/\Fr A' B' H H'/\GS H' oe fd A' B' st f/\Gr b st f r is/\r+xy st<=21/\m=xy st,⟨_,r,st,f,is,none,none,none,rfl,Fr.refl _ _ _,G,GG,hb,rfl⟩,?_⟩;clear G GG hb;rintro m σ H1 ⟨r,st,f,is,x5,x6,x7,rfl,F1,G,GG,hb,rfl⟩;obtain⟨as,a1,a2⟩:=id (G.s false);obtain⟨bs,b1,b2⟩:=id (G.s true);have la:(as.map V.ref).length=(st false).length:=by rw[aA];exact au a2
   have lb:(bs.map V.ref).length=(st true).length:=by rw[aA];exact au b2
   have hsm:=GG.small;nofun;refine⟨_,.inl (bw.of a1),_,.inl (bw.of b1),?_⟩;rw[la,lb];refine gl (λh1=>?_) (λh1=>⟨r,st,f,is,_,_,_,rfl,F1,G,GG,by lia,by lia⟩);have h1':1<(st false).length+(st true).length:=by lia
   obtain⟨st',f',PT,hphi⟩:=GG.end_put h1';obtain⟨js,GG'⟩:=PT.gr GG;refine⟨λσ' H'=>∃(x5 x6 x7:Option V),σ'=[some (.ref oe),some (.ref fd),some (.int ((r+1:Nat):Int)),some (.ref (A' false)),some (.ref (A' true)),x5,x6,x7]/\Fr A' B' H H'/\GS H' oe fd A' B' st' f',λσ' H' ⟨x5,x6,x7,e,F,G'⟩=>⟨_,Nat.lt_of_succ_le hphi,r+1,st',f',js,x5,x6,x7,e,F,G',GG',by lia,rfl⟩,?_⟩;have ub:=(hsm true).1;refine⟨_,b1,by rw[lb];lia,λl nl=>?_⟩;have s2:=(ar.refl H1).new (o:=.lst (bs.map V.ref).reverse) nl;refine⟨A' false,l,_,_,rfl,rfl,s2 _ _ a1,aE,by rw[fF,la,lb];have:=(hsm false).1;exact ba (bQ (by lia)),λe ne=>?_⟩;have s3:=s2.new (o:=.lst (as.map V.ref++(bs.map V.ref).reverse)) (s2.free ne);have he:upd (upd H1 l (.lst (bs.map V.ref).reverse)) e (.lst (as.map V.ref++(bs.map V.ref).reverse)) e=some (.lst ((as++bs.reverse).map V.ref)):=by rw[aE];simp
   generalize upd (upd H1 l (.lst (bs.map V.ref).reverse)) e (.lst (as.map V.ref++(bs.map V.ref).reverse))=H3 at s3 he ⊢;have G3:=G.same s3;have F3:Fr A' B' H H3:=F1.trans (Fr.same s3);have pr:Paired (bS H3) (as++bs.reverse) (st false++(st true).reverse):=Paired.mapP (Ds a2 (Dr b2)) λa q z=>z.same s3;have lab:∀(i:Nat) (x:Int),(bT st)[i]? = some x->∃a o,((as++bs.reverse).map V.ref)[i]? = some (.ref a)/\bS H3 a (o,x):=λi x hx=>by
    unfold bT at hx;rw[aP] at hx;cases h2:(st false++(st true).reverse)[i]? with
    | none=>rw[h2] at hx;cases hx
    | some y=>
     rw[h2] at hx;cases hx;obtain⟨a,h3,h4⟩:=GF pr h2;exact⟨a,y.1,by rw[aP,h3];rfl,h4⟩
   have hl1:1<(bT st).length:=by rw[lq];exact h1'
   obtain⟨tx,ty,ex,ey,tne⟩:=GG.tgt_ne hl1;refine bN (λσ H'=>σ=[some (.ref oe),some (.ref fd),some (.int r),some (.ref (A' false)),some (.ref (A' true)),some (.ref e),some (.int (nQ (bT st):Nat)),x7]/\H3=H') ?_ ?_
   ·refine⟨λm σ H'=>∃t:Nat,σ=[some (.ref oe),some (.ref fd),some (.int r),some (.ref (A' false)),some (.ref (A' true)),some (.ref e),some (.int (t:Nat)),x7]/\H3=H'/\1<=t/\t<=nQ (bT st)/\m=2-t,⟨_,1,rfl,rfl,by decide,by have:=oK (bT st);lia,rfl⟩,?_⟩;rintro m σ H' ⟨t,rfl,rfl,t1,t2,rfl⟩;by_cases ht:t=nQ (bT st)
    ·subst ht;obtain⟨a,o,c1,c2⟩:=lab _ _ ex;obtain⟨a',o',d1,d2⟩:=lab _ _ ey;nofun;refine⟨_,_,bw.of he,by rw[show ((nQ (bT st):Nat):Int) - 1=((nQ (bT st) - 1:Nat):Int) by lia];exact fU c1,.inr (.inl ⟨a,_,_,_,rfl,rfl,dD.of c2,rfl,?_⟩)⟩;refine⟨_,_,bw.of he,fU d1,.inr (.inl ⟨a',_,_,_,rfl,rfl,dD.of d2,rfl,rj ?_⟩)⟩;simp only[bW,RU];refine⟨_,rfl,nR (by simp only[RO];exact tne) ⟨by first | rfl | trivial,by first | rfl | trivial⟩⟩
    ·have tt:=oK (bT st);have t11:t=1:=by lia
     have tg2:nQ (bT st)=2:=by lia
     subst t11;have e01:(bT st)[0]? = (bT st)[1]?:=by
      unfold nQ at tg2;by_cases z:(bT st)[0]? = (bT st)[1]?
      ·exact z
      ·rw[RM z] at tg2;cases tg2
     obtain⟨x1,hx1⟩:∃x,(bT st)[1]? = some x:=⟨_,aJ hl1⟩
     obtain⟨a,o,c1,c2⟩:=lab 0 x1 (e01.trans hx1);obtain⟨a',o',d1,d2⟩:=lab 1 x1 hx1;nofun;refine⟨_,_,bw.of he,fU (j:=0) c1,.inr (.inl ⟨a,_,_,_,rfl,rfl,dD.of c2,rfl,?_⟩)⟩;refine⟨_,_,bw.of he,fU (j:=1) d1,.inr (.inl ⟨a',_,_,_,rfl,rfl,dD.of d2,rfl,rj ?_⟩)⟩;simp only[bW,RU];refine⟨_,rfl,rQ (by simp) ⟨λσ' H'=>σ'=[some (.ref oe),some (.ref fd),some (.int r),some (.ref (A' false)),some (.ref (A' true)),some (.ref e),some (.int 2),x7]/\H3=H',λσ' H' ⟨z1,z2⟩=>⟨0,by decide,2,z1,z2,by decide,by lia,rfl⟩,by first | exact⟨rfl,rfl⟩ | exact⟨trivial,trivial⟩⟩⟩
   rintro σ' H' ⟨rfl,rfl⟩;have lA:=s3 _ _ a1;nofun;refine bN (λσ H'=>σ=[some (.ref oe),some (.ref fd),some (.int r),some (.ref (A' false)),some (.ref (A' true)),some (.ref e),some (.int (nQ (bT st):Nat)),some (.str (if (st false).length<nQ (bT st) then Str.ofString "b" else Str.ofString "d"))]/\H3=H') ?_ ?_
   ·nofun;refine⟨_,.inl (bw.of lA),?_⟩;rw[la];refine gl (λz=>?_) (λz=>?_)
    ·rw[RN (mw.mp z)];exact⟨by first | rfl | trivial,by first | rfl | trivial⟩
    ·rw[RM (λw=>z (mw.mpr w))];exact⟨by first | rfl | trivial,by first | rfl | trivial⟩
   rintro σ' H' ⟨rfl,rfl⟩;refine bN (λσ H'=>σ=[some (.ref oe),some (.ref fd),some (.int r),some (.ref (A' false)),some (.ref (A' true)),some (.ref e),some (.int (nQ (bT st):Nat)),some (.str (lO (Bf st)))]/\H3=H') ?_ ?_
   ·nofun;refine⟨_,.inl (bw.of lA),?_⟩;rw[la];unfold Bf;refine gl (λz=>?_) (λz=>?_)
    ·have z':=mw.mp z;rw[RM (by lia),RN z'];exact⟨by first | rfl | trivial,by first | rfl | trivial⟩
    ·have z':¬nQ (bT st)<(st false).length:=λw=>z (mw.mpr w);by_cases y:(st false).length<nQ (bT st)
     ·rw[RN y,RN y];exact⟨by first | rfl | trivial,by first | rfl | trivial⟩
     ·rw[RM y,RM y,RM z'];exact⟨by first | rfl | trivial,by first | rfl | trivial⟩
   rintro σ' H' ⟨rfl,rfl⟩;refine bN (λσ H'=>σ=[some (.ref oe),some (.ref fd),some (.int r),some (.ref (A' false)),some (.ref (A' true)),some (.ref e),some (.int (nQ (bT st):Nat)),some (.str (lO (Bf st)))]/\Fr A' B' H H'/\GS H' oe fd A' B' st' f') ?_ ?_
   ·nofun;exact⟨oe,fd,A',B',st,f,st',f',Bf st,r,rfl,G3,λu=>⟨by have:=(hsm u).1;lia,by have:=(hsm u).2;lia⟩,PT,λH4 F4 G4=>⟨by first | rfl | trivial,F3.trans F4,G4⟩⟩
   rintro σ' H4 ⟨rfl,F4,G4⟩;nofun;exact⟨_,_,_,by first | rfl | trivial,F4,G4⟩
  clear G GG hb;rintro σ' H1 ⟨r,st,f,is,x5,x6,x7,rfl,F1,G,GG,hr,hle⟩;have hm:=GG.many;have hone:(st false).length+(st true).length=1:=by lia
  obtain⟨t,o,l,e1,e2⟩:∃(t:Bool) (o l:Int),st t=[(o,l)]/\st (!t)=[]:=by
   by_cases z:(st false).length=1
   ·obtain⟨⟨o,l⟩,e⟩:=mn.mp z;exact⟨false,o,l,e,jr (show (st true).length=0 by lia)⟩
   ·obtain⟨⟨o,l⟩,e⟩:=mn.mp (show (st true).length=1 by lia);exact⟨true,o,l,e,jr (show (st false).length=0 by lia)⟩
  obtain⟨ns,n1,n2,n3⟩:=GG.last e1 e2;have O:fO ns:=⟨by lia,n2⟩
  have fin:∀H',Fr A' B' H H'->GS H' oe fd A' B' st (λv=>if v=t then f t++[(o,(r:Int))] else f v)->Q (.int ((r:Int) - 1)) H':=λH' F' G'=>q _ ns _ H' F' ⟨G'.fd_,G'.f_,λu=>by
   have:=(n3 u).1;by_cases z:u=t
   ·subst z;rw[RN rfl] at this ⊢;exact this
   ·rw[RM z] at this ⊢;exact this,O⟩ λu=>(n3 u).2
  refine bN (λσ H'=>∃x5 x6 x7:Option V,σ=[some (.ref oe),some (.ref fd),some (.int r),some (.ref (A' false)),some (.ref (A' true)),x5,x6,x7]/\Fr A' B' H H'/\GS H' oe fd A' B' st (λv=>if v=t then f t++[(o,(r:Int))] else f v)) ?_ ?_
  ·nofun;obtain⟨as,a1,a2⟩:=id (G.s false);have la:(as.map V.ref).length=(st false).length:=by rw[aA];exact au a2
   refine⟨_,.inl (bw.of a1),?_⟩;rw[la];cases t with
   | false=>
    refine rQ (by rw[e1];rfl) ?_;obtain⟨cs,c,c1,c2,c3,_⟩:=G.get false (i:=0) (e:=(o,l)) (by rw[e1];rfl);obtain⟨_,eB,_⟩:=G.f_ false;refine⟨_,_,bw.of G.fd_,rfl,gP eB,_,_,bw.of c1,fU (j:=0) c2,.inr (.inl ⟨c,_,_,_,rfl,rfl,dD.of c3,rfl,(by show 2<=sizeLine;decide),λt nt=>?_⟩)⟩;obtain⟨ys,eY,lY,G4⟩:=(G.new (o:=.tup [.int o,.int r]) nt).add false (t:=t) (p:=(o,(r:Int))) aE;exact⟨B' false,ys,_,rfl,rfl,eY,bQ (by have:=(GG.small false).2;lia),_,_,_,rfl,(F1.new nt).updB false,G4⟩
   | true=>
    refine nR (by rw[show st false=[] from e2];simp) ?_;obtain⟨cs,c,c1,c2,c3,_⟩:=G.get true (i:=0) (e:=(o,l)) (by rw[e1];rfl);obtain⟨_,eB,_⟩:=G.f_ true;refine⟨_,_,bw.of G.fd_,rfl,gP eB,_,_,bw.of c1,fU (j:=0) c2,.inr (.inl ⟨c,_,_,_,rfl,rfl,dD.of c3,rfl,(by show 2<=sizeLine;decide),λt nt=>?_⟩)⟩;obtain⟨ys,eY,lY,G4⟩:=(G.new (o:=.tup [.int o,.int r]) nt).add true (t:=t) (p:=(o,(r:Int))) aE;exact⟨B' true,ys,_,rfl,rfl,eY,bQ (by have:=(GG.small true).2;lia),_,_,_,rfl,(F1.new nt).updB true,G4⟩
  rintro σ' H2 ⟨y5,y6,y7,rfl,F2,G2⟩;nofun;exact fin _ F2 G2
theorem Dy (B:o8 mg) (E:Fn K mg "_law_grown" oR ["_law_side","_law_digits_here"]) (OE:ef P w K mg base 2 "_law_fitting" kT ["_law_open_ends","_law_row","_law_digit"] uV) (O6:ef P w K mg base 1 "_law_put" sU ["_law_open_ends","_law_found","_law_letter","_law_row"] Cy) (O8:ef P w K mg base 3 "_law_ended" oS ["_law_open_ends","_law_found","_law_row"] AJ):ef P w K mg base 4 "_law_grown" oR ["_law_side","_law_digits_here"] AH:=E.mk' λf fd F=>by
 refine F.okS kZ (λvs H Q E h=>?_) (λcdv A outer s H vs Q E hr h=>?_)
 ·obtain⟨b,dl,ds,rfl,_⟩:=h;rfl
 ·obtain⟨b,dl,ds,rfl,hd,hl,q⟩:=h;refine⟨[some (.str (sd b)),some (.ref dl),none,none,none,none,none],_,rfl,(L2.jI.h (aI (ak (i:=2) kZ.nd rfl (Or.inl rfl) (cu (li (cu aB) (li (cu aB) aB))))
   (aI (cZ (eO a8 aq ao dH (aU bV (a9 2) (dh mD (by rfl) B.int dZ (jj (eJ iI (a9 0) cF (bp _)) aB)) (λ_ _=>rfl)) (dS (dA (cO aC (cO aC aB))) aB)))
   (cU (ak (i:=3) kZ.nd rfl (Or.inl rfl) (cu (li (cu aB) (li (cu aB) aB))))
   (aI (ak (i:=4) kZ.nd rfl (Or.inl rfl) aC)
   (cU (ci aZ rfl (eZ (a9 1)) (bP (i:=5) kZ.nd rfl (Or.inl rfl))
   (aI (ak (i:=6) kZ.nd rfl (Or.inl rfl) (aj OE (hr.mono (by decide)) (by rfl) (aG (a9 2) (aG (a9 4) (aG (a9 5) aB)))))
    (aI (cj (bX iI (bG bM (by rfl) B.len ax (aG (a9 6) aB)) aC (bp _))
    (aL BC)
    bi)
    (aI (cZ (aj O6 (hr.mono (by decide)) (by rfl) (aG (a9 2) (aG (a9 3) (aV (aU bV (a9 6) aC (λ_ _=>rfl)) (aG (a9 4) aB))))))
    (aL (ak (i:=4) kZ.nd rfl (Or.inl rfl) (ae c9 (a9 4) aC)))))))
   (aI (cZ (aj O8 (hr.mono (by decide)) (by rfl) (aG (a9 2) (aG (a9 3) (aG (a9 4) aB)))))
   (aL (bY (a9 3)))))))))),?_⟩
  nofun;refine⟨ac _,λp np=>⟨ac _,λp1 np1=>⟨(by show 2<=sizeLine;decide),λoe noe=>?_⟩⟩⟩;have u1:=(ar.refl H).new (o:=.lst []) np;have u2:=u1.new (o:=.lst []) (u1.free np1);have u3:=u2.new (o:=.lst [.ref p,.ref p1]) (u2.free noe);have e1:p≠p1:=λe=>by subst e;rw[aE] at np1;cases np1
  have e2:p≠oe:=λe=>by subst e;rw[aO e1,aE] at noe;cases noe
  have e3:p1≠oe:=λe=>by subst e;rw[aE] at noe;cases noe
  have g1:upd (upd (upd H p (.lst [])) p1 (.lst [])) oe (.lst [.ref p,.ref p1]) p=some (.lst []):=by rw[aO e2,aO e1,aE]
  have g2:upd (upd (upd H p (.lst [])) p1 (.lst [])) oe (.lst [.ref p,.ref p1]) p1=some (.lst []):=by rw[aO e3,aE]
  have g3:upd (upd (upd H p (.lst [])) p1 (.lst [])) oe (.lst [.ref p,.ref p1]) oe=some (.lst [.ref p,.ref p1]):=aE;have np1':=u1.free np1;have noe':=u2.free noe;generalize upd (upd (upd H p (.lst [])) p1 (.lst [])) oe (.lst [.ref p,.ref p1])=H3 at u3 g1 g2 g3 ⊢;clear np1 noe u1 u2;generalize hA:(λu:Bool=>if u then p1 else p)=A';have A0:A' false=p:=by rw[<-hA];rfl
  have A1:A' true=p1:=by rw[<-hA];rfl
  have gA:∀u,H3 (A' u)=some (.lst []):=λu=>by cases u;rw[A0];exact g1;rw[A1];exact g2
  have nA:∀u,H (A' u)=none:=λu=>by cases u;rw[A0];exact np;rw[A1];exact np1'
  have oA:∀u,oe≠A' u:=λu=>by cases u;rw[A0];exact e2.symm;rw[A1];exact e3.symm
  rw[<-A0,<-A1] at g3 e1;refine⟨_,.ref (A' b),bw.of g3,by cases b<;>rfl,gP (gA b),(by show 2<=sizeLine;decide),λt nt=>?_⟩;have v4:=(ar.refl H3).new (o:=.tup [.int 0,.int 0]) nt;refine⟨A' b,[],_,rfl,rfl,v4 _ _ (gA b),by decide,?_⟩;rw[fb];have sb:∀u,(if u=b then [((0:Int),(0:Int))] else []).length<=1:=λu=>by split<;>simp
  refine bN (λσ H'=>∃fd B',σ=[some (.str (sd b)),some (.ref dl),some (.ref oe),some (.ref fd),none,none,none]/\ar H H'/\H fd=none/\(∀u,H (B' u)=none)/\GS H' oe fd A' B' (λu=>if u=b then [((0:Int),(0:Int))] else []) (λ_=>[])) ?_ ?_
  ·have t5:bS (upd H3 t (.tup [.int 0,.int 0])) t (0,0):=aE;have nAt:∀u,A' u≠t:=λu=>am (gA u) nt;have eA:=v4 _ _ (gA b);have s5:ar H (upd (upd H3 t (.tup [.int 0,.int 0])) (A' b) (.lst [.ref t])):=(u3.trans v4).new (nA b);have k1:∀u,bu (upd (upd H3 t (.tup [.int 0,.int 0])) (A' b) (.lst [.ref t])) (A' u) (if u=b then [((0:Int),(0:Int))] else []):=λu=>by
    by_cases z:u=b
    ·subst z;rw[RN rfl];exact⟨[t],aE,.cons (ky eA t5) .nil⟩
    ·rw[RM z];have ne:A' u≠A' b:=by
      cases u<;>cases b<;>first | exact absurd rfl z | exact e1 | exact e1.symm
     exact⟨[],by rw[aO ne];exact v4 _ _ (gA u),.nil⟩
   have k2:upd (upd H3 t (.tup [.int 0,.int 0])) (A' b) (.lst [.ref t]) oe=some (.lst [.ref (A' false),.ref (A' true)]):=by rw[aO (oA b)];exact v4 _ _ g3
   have kA:∀u,∃o,upd (upd H3 t (.tup [.int 0,.int 0])) (A' b) (.lst [.ref t]) (A' u)=some o:=λu=>let ⟨_,x,_⟩:=k1 u;⟨_,x⟩;generalize upd (upd H3 t (.tup [.int 0,.int 0])) (A' b) (.lst [.ref t])=H5 at s5 k1 k2 kA ⊢;nofun;refine⟨ac _,λq0 n0=>⟨ac _,λq1 n1=>⟨(by show 2<=sizeLine;decide),λfd nf=>?_⟩⟩⟩;have w1:=(ar.refl H5).new (o:=.lst []) n0;have w2:=w1.new (o:=.lst []) (w1.free n1);have w3:=w2.new (o:=.lst [.ref q0,.ref q1]) (w2.free nf);have d1:q0≠q1:=λe=>by subst e;rw[aE] at n1;cases n1
   have d2:q0≠fd:=λe=>by subst e;rw[aO d1,aE] at nf;cases nf
   have d3:q1≠fd:=λe=>by subst e;rw[aE] at nf;cases nf
   have h0:upd (upd (upd H5 q0 (.lst [])) q1 (.lst [])) fd (.lst [.ref q0,.ref q1]) q0=some (.lst []):=by rw[aO d2,aO d1,aE]
   have h1:upd (upd (upd H5 q0 (.lst [])) q1 (.lst [])) fd (.lst [.ref q0,.ref q1]) q1=some (.lst []):=by rw[aO d3,aE]
   have h2:upd (upd (upd H5 q0 (.lst [])) q1 (.lst [])) fd (.lst [.ref q0,.ref q1]) fd=some (.lst [.ref q0,.ref q1]):=aE;have n1':=w1.free n1;have nf':=w2.free nf;refine⟨fd,λu=>if u then q1 else q0,rfl,s5.trans w3,s5.free nf',λu=>by cases u;exact s5.free n0;exact s5.free n1',⟨w3 _ _ k2,h2,λu=>(k1 u).same w3,λu=>⟨[],by cases u;exact h0;exact h1,.nil⟩,e1,d1,λu v=>?_,λu=>⟨oA u,?_,?_,?_⟩⟩⟩
   ·obtain⟨o,ho⟩:=kA u;cases v
    ·exact am ho n0
    ·exact am ho n1'
   ·cases u
    ·exact am k2 n0
    ·exact am k2 n1'
   ·obtain⟨o,ho⟩:=kA u;exact(am ho nf').symm
   ·cases u
    ·exact d2.symm
    ·exact d3.symm
  rintro σ' H6 ⟨fd,B',rfl,s6,nf,nB,G6⟩;nofun;refine bN (λσ H'=>∃(r:Nat) (st:Bool->List Oe) (f:Bool->List Bw) (is:List Pc) (x5 x6:Option V),σ=[some (.str (sd b)),some (.ref dl),some (.ref oe),some (.ref fd),some (.int r),x5,x6]/\ar H H'/\GS H' oe fd A' B' st f/\Gr b st f r is/\(r:Int)+nE ((st false).length+(st true).length)<=21/\r<=21) ?_ ?_
  ·nofun;refine⟨⟨_,bw.of (s6 _ _ hd)⟩,gW (xs:=ds.map V.int) (λi σ H'=>∃(r:Nat) (st:Bool->List Oe) (f:Bool->List Bw) (is:List Pc) (x5 x6:Option V),σ=[some (.str (sd b)),some (.ref dl),some (.ref oe),some (.ref fd),some (.int r),x5,x6]/\ar H H'/\GS H' oe fd A' B' st f/\Gr b st f r is/\(r:Int)+nE ((st false).length+(st true).length)<=21/\r<=21)
    ⟨1,_,_,_,none,none,rfl,s6,G6,Gr.start b,by cases b<;>decide,by decide⟩ (λi σ H' _ ⟨_,_,_,_,_,_,_,sm,_⟩=>bw.of (sm _ _ hd)) ?_ λσ H' z=>z⟩
   rintro i x σ H7 hx ⟨r,st,f,is,x5,x6,rfl,sm,G,GG,hb,hr⟩;obtain⟨y,hy,rfl⟩:=iF hx;have hsm:=GG.small;nofun;refine⟨oe,fd,A',B',st,f,r,y,rfl,G,λu=>by have:=(hsm u).1;lia,by lia,λl ks H8 nl s8 hl hks=>?_⟩;nofun;have G8:=G.same s8;have sm8:=sm.trans s8;cases ks with
   | nil=>exact⟨_,.inl (bw.of hl),rQ rfl ⟨r,st,f,is,_,_,rfl,sm8,G8,GG,hb,hr⟩⟩
   | cons k kr=>
    obtain⟨k4,kc,kn⟩:=hks k bB;obtain⟨st',f',PT⟩:=JE f r k4 kc;obtain⟨js,GG'⟩:=PT.gr GG;have hmany:=PT.many;have nn:0<=nE (pN ((st false).length+(st true).length) k):=by unfold nE;split<;>lia
    refine⟨_,.inl (bw.of hl),nR (by rw[aA,cQ];lia) ⟨_,_,bw.of hl,fU (j:=0) (v:=V.str (lO k)) (by simp),oe,fd,A',B',st,f,st',f',k,r,rfl,G8,λu=>⟨by have:=(hsm u).1;lia,by have:=(hsm u).2;lia⟩,PT,λH9 F9 G9=>?_⟩⟩;exact⟨r+1,st',f',js,_,_,rfl,Fr.toSame (λu=>⟨nA u,nB u⟩) sm8 F9,G9,GG',by rw[hmany];push_cast;lia,by lia⟩
  rintro σ' H7 ⟨r,st,f,is,x5,x6,rfl,sm,G,GG,hb,hr⟩;nofun;have hphi:=GG.phi_need;refine⟨oe,fd,A',B',b,st,f,is,r,rfl,G,GG,by lia,λn ns Fs H8 F8 FO nc=>?_⟩;exact q fd B' ns Fs H8 nf (Fr.toSame (λu=>⟨nA u,nB u⟩) sm F8) FO nc
theorem xC (B:o8 mg) (E:Fn K mg "_law_order_of" jS ["_law_side","_law_found"]):ef P w K mg base 1 "_law_order_of" jS ["_law_side","_law_found"] uT:=E.mk' λf fd F=>by
 refine F.okS fg (λvs H Q E h=>?_) (λcdv A outer s H vs Q E hr h=>?_)
 ·obtain⟨b,fd,g,ns,Fs,rfl,_⟩:=h;rfl
 ·obtain⟨b,fd,g,ns,Fs,rfl,FO,q⟩:=h;have O:=FO.ord;have hn:=O.len;have hsum:=FO.sum;refine⟨[some (.str (sd b)),some (.ref fd),none,none,none,none,none,none],_,rfl,(L2.jI.h (aI (ak (i:=2) fg.nd rfl (Or.inl rfl) (cu aB))
   (aI (ak (i:=3) fg.nd rfl (Or.inl rfl) aC)
   (aI (ak (i:=4) fg.nd rfl (Or.inl rfl) (dh mD (by rfl) B.int dZ (jj (eJ iI (a9 0) cF (bp _)) aB)))
   (aI (ak (i:=5) fg.nd rfl (Or.inl rfl) (ae c9 (bG bM (by rfl) B.len ax (aV (aU bV (a9 1) aC (λ_ _=>rfl)) aB)) (bG bM (by rfl) B.len ax (aV (aU bV (a9 1) aC (λ_ _=>rfl)) aB))))
   (aI (l9 aZ (bX pf (a9 3) (a9 5) (bp _))
   (cU (ci aZ rfl (eZ (aU bV (a9 1) (a9 4) (λ_ _=>rfl))) (bP (i:=6) fg.nd rfl (Or.inl rfl))
    (aL (cj (bX (Dw (oq hr)) (a9 3) (a9 6) (by with_unfolding_all rfl))
     (aL (ak (i:=7) fg.nd rfl (Or.inl rfl) (ae fY (ae c9 (aU bf (a9 6) aC (λ_ _=>rfl)) (aU bf (a9 6) aC (λ_ _=>rfl))) (a9 3))))
     bi)))
    (aI (ak (i:=3) fg.nd rfl (Or.inl rfl) (a9 7))
    (aI (ak (i:=4) fg.nd rfl (Or.inl rfl) (ae fY aC (a9 4)))
    (aL (cj (bX pf (a9 3) (a9 5) (bp _))
    (aL (cZ (eO a8 aq ao dH (a9 2) (aG (a9 3) aB))))
    bi))))))
   (aL (bY (dh lQ (by rfl) B.tuple di (aG (a9 2) aB)))))))))),?_⟩
  obtain⟨as,a1,a2⟩:=id (FO.bows false);obtain⟨bs,b1,b2⟩:=id (FO.bows true);have la:(as.map V.ref).length=(Fs false).length:=by rw[aA];exact au a2
  have lb:(bs.map V.ref).length=(Fs true).length:=by rw[aA];exact au b2
  nofun;refine⟨ac _,λl nl=>?_⟩;have s0:=(ar.refl H).new (o:=.lst []) nl;have F0:=FO.same s0;refine⟨_,_,bw.of F0.at_,rfl,_,_,rfl,.inl (bw.of (s0 _ _ a1)),_,_,bw.of F0.at_,rfl,_,_,rfl,.inl (bw.of (s0 _ _ b1)),?_⟩;rw[la,lb];have eL:((Fs false).length:Int)+(Fs true).length=(ns.length:Int)+1:=by lia
  rw[eL];simp only[LM];refine⟨λm σ H2=>∃(i:Nat) (x6 x7:Option V),σ=[some (.str (sd b)),some (.ref fd),some (.ref l),some (.int (b6 ns i)),some (.int (if (b ^^ odd i) then 1 else 0)),some (.int ((ns.length:Int)+1)),x6,x7]/\ar H H2/\H2 l=some (.lst ((ns.take i).map V.int))/\i<=ns.length+1/\m=ns.length+1-i,⟨_,0,none,none,by rw[yh,show odd 0=false from rfl,km],s0,aE,ac _,rfl⟩,?_⟩;rintro m σ H2 ⟨i,x6,x7,rfl,sm,hl,hi,rfl⟩;nofun;refine gl (λhne=>?_) (λhe=>?_)
  ·have hin:i<=ns.length:=by
    apply ku;intro z;have:i=ns.length+1:=by lia
    subst this;exact hne (i6 ns)
   have F2:=FO.same sm;have on:=F2.only hin;obtain⟨cs,c1,cl,cg⟩:=(F2.bows (b ^^ odd i)).get;have lasti:b6 ns (i+1)≠(ns.length:Int)+1->i<ns.length:=λz=>by
    apply ku;intro w;have:i=ns.length:=by lia
    subst this;exact z (i6 ns)
   have tk:b6 ns (i+1)≠(ns.length:Int)+1->(ns.take (i+1)).map V.int=(ns.take i).map V.int++[.int (b6 ns (i+1))]:=λz=>by
    have hi2:=lasti z;rw[bD,aJ hi2,aX,oU (aJ hi2)];rfl
   have tk2:b6 ns (i+1)=(ns.length:Int)+1->(ns.take (i+1)).map V.int=(ns.take i).map V.int:=λz=>by
    have:i+1=ns.length+1:=O.row_inj (by lia) (by lia) (z.trans (i6 ns).symm);rw[c7 (by lia),c7 (by lia)]
   refine⟨λσ' H'=>∃(x6 x7:Option V),σ'=[some (.str (sd b)),some (.ref fd),some (.ref l),some (.int (b6 ns (i+1))),some (.int (if (b ^^ odd (i+1)) then 1 else 0)),some (.int ((ns.length:Int)+1)),x6,x7]/\ar H H'/\H' l=some (.lst ((ns.take (i+1)).map V.int)),λσ' H' ⟨x6,x7,e,a,c⟩=>⟨ns.length+1-(i+1),by lia,i+1,x6,x7,e,a,c,by lia,rfl⟩,?_⟩;refine bN (λσ H'=>∃x6:Option V,σ=[some (.str (sd b)),some (.ref fd),some (.ref l),some (.int (b6 ns i)),some (.int (if (b ^^ odd i) then 1 else 0)),some (.int ((ns.length:Int)+1)),x6,some (.int (b6 ns (i+1)))]/\H2=H') ?_ ?_
   ·nofun;refine⟨_,.ref (g (b ^^ odd i)),bw.of F2.at_,by cases (b ^^ odd i)<;>rfl,_,rfl,⟨_,bw.of c1⟩,?_⟩;refine gW (xs:=cs.map V.ref) (λj σ H'=>∃x6 x7:Option V,σ=[some (.str (sd b)),some (.ref fd),some (.ref l),some (.int (b6 ns i)),some (.int (if (b ^^ odd i) then 1 else 0)),some (.int ((ns.length:Int)+1)),x6,x7]/\H2=H'/\((∃p∈(Fs (b ^^ odd i)).take j,qB (b6 ns i) p=true)->x7=some (.int (b6 ns (i+1)))))
     ⟨_,_,rfl,rfl,λ⟨p,hp,_⟩=>by rw[List.take_zero] at hp;cases hp⟩ (λj σ H' _ ⟨_,_,_,e,_⟩=>by rw[<-e];exact bw.of c1) ?_ ?_
    ·rintro j x σ H' hx ⟨y6,y7,rfl,rfl,hj⟩;obtain⟨a,p,rfl,hp,ta⟩:=cg j x hx;have tk3:(Fs (b ^^ odd i)).take (j+1)=(Fs (b ^^ odd i)).take j++[p]:=by rw[bD,hp];rfl
     nofun;refine A7 (ns:=[p.1,p.2]) (.inr (dD.of ta)) ?_;have eh:decide (b6 ns i∈[p.1,p.2])=qB (b6 ns i) p:=by simp[qB]
     simp only[bW,RU,eh];refine⟨_,rfl,?_⟩;refine gl (λz=>?_) (λz=>?_)
     ·refine⟨_,_,dD.of ta,rfl,_,_,dD.of ta,rfl,?_⟩;have ep:p=cI ns i:=by
       have:p∈(Fs (b ^^ odd i)).filter (qB (b6 ns i)):=a6.mpr ⟨aR hp,z⟩;rw[on] at this;simpa using this
      have es:p.1+p.2-b6 ns i=b6 ns (i+1):=by rw[ep,Cp];lia
      nofun;rw[es];exact⟨_,_,rfl,by first | rfl | trivial,λ_=>rfl⟩
     ·refine⟨_,_,rfl,by first | rfl | trivial,λ⟨p',hp',hh⟩=>hj ?_⟩;rw[tk3] at hp';rcases aW.mp hp' with w | w
      ·exact⟨p',w,hh⟩
      ·have e:p'=p:=by simpa using w
       subst e;exact absurd hh z
    ·rintro σ H' ⟨y6,y7,rfl,rfl,hj⟩;have:y7=some (.int (b6 ns (i+1))):=hj ⟨cI ns i,by
      have hm:cI ns i∈(Fs (b ^^ odd i)).filter (qB (b6 ns i)):=by rw[on];simp
      obtain⟨m1,m2⟩:=a6.mp hm;rw[aA,cl,bZ];exact⟨m1,m2⟩⟩
     subst this;exact⟨_,rfl,rfl⟩
   rintro σ' H' ⟨y6,rfl,rfl⟩;have ek:(1:Int)-(if (b ^^ odd i) then 1 else 0)=if (b ^^ odd (i+1)) then 1 else 0:=by
    rw[kg];cases b<;>cases odd i<;>rfl
   nofun;rw[ek];refine gl (λz=>?_) (λz=>?_)
   ·refine⟨gP hl,_,hl,by rw[aA,bj];exact bQ (by lia),_,_,rfl,sm.new nl,?_⟩;rw[aE,tk z]
   ·refine⟨_,_,rfl,sm,?_⟩;rw[tk2 (fx.mp z)];exact hl
  ·have:i=ns.length+1:=O.row_inj (by lia) (by lia) ((fx.mp he).trans (i6 ns).symm);subst this;rw[c7 (by lia)] at hl;exact⟨_,.inl ⟨bw.of hl,λt nt=>q t _ (sm.free nt) (sm.new (sm.free nt)) aE⟩⟩
theorem xF (E:Fn K mg "_law_drawable" jW ["_law_side","_law_digits_here"]) (O9:ef P w K mg base 4 "_law_grown" oR ["_law_side","_law_digits_here"] AH) (Nt:ef P w K mg base 1 "_law_order_of" jS ["_law_side","_law_found"] uT):ef P w K mg base 5 "_law_drawable" jW ["_law_side","_law_digits_here"] sO:=E.mk' λf fd F=>by
 refine F.okS wb (λvs H Q E h=>?_) (λcdv A outer s H vs Q E hr h=>?_)
 ·obtain⟨b,dl,ds,rfl,_⟩:=h;rfl
 ·obtain⟨b,dl,ds,rfl,hd,hl,q⟩:=h;refine⟨[some (.str (sd b)),some (.ref dl)],_,rfl,(L2.jI.h (aL (bY (dA (aG (a9 0) (cn (aj Nt (hr.mono (by decide)) (by rfl) (aG (a9 0) (cn (aj O9 (hr.mono (by decide)) (by rfl) (aG (a9 0) (aG (a9 1) aB))) aB))) aB)))))),?_⟩;nofun;refine⟨b,dl,ds,rfl,hd,hl,λfd g ns Fs H1 nf s1 FO nc=>?_⟩;refine⟨b,fd,g,ns,Fs,rfl,FO,λt H2 nt s2 ht=>⟨(by show 2<=sizeLine;decide),λm nm=>?_⟩⟩;have s3:=(ar.refl H2).new (o:=.tup [.str (sd b),.ref t]) nm;exact q m t ns _ (s1.free (s2.free nm)) (s1.free nt) ((s1.trans s2).trans s3) ⟨aE,s3 _ _ ht⟩ FO.ord nc
theorem GQ (B:o8 mg) (E:Fn K mg "_law_bows" qY ["_law_maze"]):ef P w K mg base 1 "_law_bows" qY ["_law_maze"] AL:=E.mk' λf fd F=>by
 refine F.okS oP (λvs H Q E h=>?_) (λcdv A outer s H vs Q E hr h=>?_)
 ·obtain⟨m,o,b,ns,rfl,_⟩:=h;rfl
 ·obtain⟨m,o,b,ns,rfl,hm,hl,q⟩:=h;refine⟨[some (.ref m),none,none,none,none],_,rfl,(L2.jI.h (cU (ak (i:=1) oP.nd rfl (Or.inl rfl) (ae pE (ae pE (cu (cO aC aB)) (dh qF (by rfl) B.list dU (aV (aU bf (a9 0) aC (λ_ _=>rfl)) aB))) (cu (cX (ae c9 (bG bM (by rfl) B.len ax (aV (aU bf (a9 0) aC (λ_ _=>rfl)) aB)) aC) aB))))
   (aI (ak (i:=2) oP.nd rfl (Or.inl rfl) (cu (li (cu aB) (li (cu aB) aB))))
   (cU (ak (i:=3) oP.nd rfl (Or.inl rfl) (dh mD (by rfl) B.int dZ (jj (eJ iI (aU bf (a9 0) aC (λ_ _=>rfl)) cF (bp _)) aB)))
   (aI (ci aZ rfl (iS (by rfl) B.range (cO aC (cn (bG bM (by rfl) B.len ax (aG (a9 1) aB)) aB))) (bP (i:=4) oP.nd rfl (Or.inl rfl))
   (aI (cZ (eO a8 aq ao dH (aU bV (a9 2) (a9 3) (λ_ _=>rfl)) (dS (dA (cn (bG (Bm rfl) (by rfl) B.min PyProof.Rows.boot_min (aV (aU bV (a9 1) (ae fY (a9 4) aC) (λ_ _=>rfl)) (aV (aU bV (a9 1) (a9 4) (λ_ _=>rfl)) aB))) (cn (bG (vC rfl) (by rfl) B.max fV (aV (aU bV (a9 1) (ae fY (a9 4) aC) (λ_ _=>rfl)) (aV (aU bV (a9 1) (a9 4) (λ_ _=>rfl)) aB))) aB))) aB)))
    (aL (ak (i:=3) oP.nd rfl (Or.inl rfl) (ae fY aC (a9 3))))))
   (aL (bY (a9 2)))))))),?_⟩
  refine bN (λσ H'=>∃rl,σ=[some (.ref m),some (.ref rl),none,none,none]/\ar H H'/\H rl=none/\H' rl=some (.lst ((eT ns).map V.int))) ?_ ?_
  ·nofun;refine⟨(by show 1<=sizeLine;decide),λp1 n1=>?_⟩;have s1:=(ar.refl H).new (o:=.lst [.int 0]) n1;refine⟨_,_,dD.of (s1 _ _ hm.1),rfl,o,_,rfl,.inr (dD.of (s1 _ _ hm.2)),λp2 n2=>?_⟩;have s2:=s1.new (o:=.lst (ns.map V.int)) (s1.free n2);have e12:p1≠p2:=λe=>by subst e;rw[aE] at n2;cases n2
   refine⟨p1,p2,_,_,rfl,rfl,by rw[aO e12,aE],aE,ba (bQ (by simp;lia)),λp3 n3=>?_⟩;have s3:=s2.new (o:=.lst ([.int 0]++ns.map V.int)) (s2.free n3);refine⟨_,_,dD.of (s3 _ _ hm.1),rfl,o,_,rfl,.inr (dD.of (s3 _ _ hm.2)),(by show 1<=sizeLine;decide),λp4 n4=>?_⟩;have s4:=s3.new (o:=.lst [.int (((ns.map V.int).length:Int)+1)]) (s3.free n4);have e34:p3≠p4:=λe=>by subst e;rw[aE] at n4;cases n4
   refine⟨p3,p4,_,_,rfl,rfl,by rw[aO e34,aE],aE,ba (bQ (by simp;lia)),λp5 n5=>?_⟩;have s5:=s4.new (o:=.lst ([.int 0]++ns.map V.int++[.int (((ns.map V.int).length:Int)+1)])) (s4.free n5);exact⟨p5,rfl,s5,s4.free n5,by rw[aE];simp[eT]⟩
  rintro σ' H1 ⟨rl,rfl,s1,nrl,hrl⟩;nofun;refine⟨ac _,λp np=>⟨ac _,λp1 np1=>⟨(by show 2<=sizeLine;decide),λoe noe=>?_⟩⟩⟩;have u1:=(ar.refl H1).new (o:=.lst []) np;have u2:=u1.new (o:=.lst []) (u1.free np1);have u3:=u2.new (o:=.lst [.ref p,.ref p1]) (u2.free noe);have e1:p≠p1:=λe=>by subst e;rw[aE] at np1;cases np1
  have e2:p≠oe:=λe=>by subst e;rw[aO e1,aE] at noe;cases noe
  have e3:p1≠oe:=λe=>by subst e;rw[aE] at noe;cases noe
  have g1:upd (upd (upd H1 p (.lst [])) p1 (.lst [])) oe (.lst [.ref p,.ref p1]) p=some (.lst []):=by rw[aO e2,aO e1,aE]
  have g2:upd (upd (upd H1 p (.lst [])) p1 (.lst [])) oe (.lst [.ref p,.ref p1]) p1=some (.lst []):=by rw[aO e3,aE]
  have g3:upd (upd (upd H1 p (.lst [])) p1 (.lst [])) oe (.lst [.ref p,.ref p1]) oe=some (.lst [.ref p,.ref p1]):=aE;have np1':=u1.free np1;have noe':=u2.free noe;generalize upd (upd (upd H1 p (.lst [])) p1 (.lst [])) oe (.lst [.ref p,.ref p1])=H3 at u3 g1 g2 g3 ⊢;clear np1 noe u1 u2;generalize hA:(λu:Bool=>if u then p1 else p)=g;have A0:g false=p:=by rw[<-hA];rfl
  have A1:g true=p1:=by rw[<-hA];rfl
  have gA:∀u,H3 (g u)=some (.lst []):=λu=>by cases u;rw[A0];exact g1;rw[A1];exact g2
  have nA:∀u,H1 (g u)=none:=λu=>by cases u;rw[A0];exact np;rw[A1];exact np1'
  have oA:∀u,oe≠g u:=λu=>by cases u;rw[A0];exact e2.symm;rw[A1];exact e3.symm
  have rA:∀u,rl≠g u:=λu=>am hrl (nA u);rw[<-A0,<-A1] at g3 e1;have hrl3:=u3 _ _ hrl;have hm3:gj H3 m o b ns:=(hm.same s1).same u3;have nfd:=s1.free noe';have nfA:∀u,H (g u)=none:=λu=>s1.free (nA u);have s13:=s1.trans u3;refine bN (λσ H'=>σ=[some (.ref m),some (.ref rl),some (.ref oe),some (.int (if b then 1 else 0)),none]/\H3=H') ?_ ?_
  ·nofun;refine⟨_,_,dD.of hm3.1,rfl,?_⟩;nofun;simp only[LM];exact⟨by first | rfl | trivial,by first | rfl | trivial⟩
  rintro σ' H' ⟨rfl,rfl⟩;nofun;have hlr:((eT ns).map V.int).length=ns.length+2:=by rw[aA,i5]
  refine⟨_,.inl (bw.of hrl3),⟨by lia,by lia,by lia,by lia⟩,?_⟩;have en:((((eT ns).map V.int).length:Int) - 1).toNat=ns.length+1:=by lia
  rw[en];refine fB (n:=ns.length+1) (λi σ H'=>∃x4:Option V,σ=[some (.ref m),some (.ref rl),some (.ref oe),some (.int (if (b ^^ odd i) then 1 else 0)),x4]/\ar H H'/\H' rl=some (.lst ((eT ns).map V.int))/\H' oe=some (.lst [.ref (g false),.ref (g true)])/\∀u,bu H' (g u) (bU b ns u i))
   ⟨none,by rw[show odd 0=false from rfl,km],s13,hrl3,g3,λu=>⟨[],gA u,.nil⟩⟩ ?_ ?_
  ·rintro i σ H4 hi ⟨x4,rfl,sm,hr4,ho4,hb4⟩;have ek:(1:Int)-(if (b ^^ odd i) then 1 else 0)=if (b ^^ odd (i+1)) then 1 else 0:=by
    rw[kg];cases b<;>cases odd i<;>rfl
   have at1:nG ((eT ns).map V.int) (1+(i:Int) - 1)=some (.int (b6 ns i)):=by
    rw[show (1:Int)+i - 1=(i:Int) by lia];exact fU (by rw[aP,iM (by lia)];rfl)
   have at2:nG ((eT ns).map V.int) (1+(i:Int))=some (.int (b6 ns (i+1))):=by
    rw[show (1:Int)+i=((i+1:Nat):Int) by lia];exact fU (by rw[aP,iM (by lia)];rfl)
   nofun;obtain⟨as,a1,a2⟩:=id (hb4 (b ^^ odd i));have la:as.length=(bU b ns (b ^^ odd i) i).length:=au a2;have hlb:=h6 b ns (b ^^ odd i) i;refine⟨_,.ref (g (b ^^ odd i)),bw.of ho4,by cases (b ^^ odd i)<;>rfl,gP a1,_,_,bw.of hr4,at1,_,_,bw.of hr4,at2,_,_,rfl,_,_,bw.of hr4,at1,_,_,bw.of hr4,at2,_,_,rfl,(by show 2<=sizeLine;decide),λt nt=>?_⟩;have emin:(if b6 ns (i+1)<b6 ns i then b6 ns (i+1) else b6 ns i)=(cI ns i).1:=by
    show _=min (b6 ns i) (b6 ns (i+1));rw[Int.min_def];split<;>split<;>lia
   have emax:(if b6 ns (i+1) > b6 ns i then b6 ns (i+1) else b6 ns i)=(cI ns i).2:=by
    show _=max (b6 ns i) (b6 ns (i+1));rw[Int.max_def];split<;>split<;>lia
   rw[emin,emax];have s5:=(ar.refl H4).new (o:=.tup [.int (cI ns i).1,.int (cI ns i).2]) nt;have t5:bS (upd H4 t (.tup [.int (cI ns i).1,.int (cI ns i).2])) t (cI ns i):=aE;have a15:=s5 _ _ a1;refine⟨g (b ^^ odd i),_,_,rfl,rfl,a15,by rw[aA];exact bQ (by lia),_,by rw[ek],(sm.trans s5).new (nfA _),by rw[aO (rA _)];exact s5 _ _ hr4,by rw[aO (oA _)];exact s5 _ _ ho4,λu=>?_⟩;by_cases z:u=(b ^^ odd i)
   ·subst z;rw[ie (nh b i)];exact kY a15 (Paired.mapP a2 λa q w=>w.same s5) t5
   ·have z':u=!(b ^^ odd i):=by revert z;cases u<;>cases (b ^^ odd i)<;>decide
    have gne:g u≠g (b ^^ odd i):=by
     cases u<;>cases hq:(b ^^ odd i)<;>first | exact absurd hq.symm z | exact e1 | exact e1.symm
    rw[z',jf (vi b i),<-z'];exact iu ((hb4 u).same s5) a15 gne
  ·rintro σ H4 ⟨x4,rfl,sm,hr4,ho4,hb4⟩;nofun;exact q oe g H4 nfd nfA sm ho4 hb4 e1
theorem GM (B:o8 mg) (E:Fn K mg "_law_tall" qU ["_law_bows_here"]):ef P w K mg base 1 "_law_tall" qU ["_law_bows_here"] Cu:=E.mk' λf fd F=>by
 refine F.okS pX (λvs H Q E h=>?_) (λcdv A outer s H vs Q E hr h=>?_)
 ·obtain⟨l,S,rfl,_⟩:=h;rfl
 ·obtain⟨l,S,rfl,hb,BS,h21,q⟩:=h;refine⟨[some (.ref l),none,none,none,none],_,rfl,(L2.jI.h (aI (ak (i:=1) pX.nd rfl (Or.inl rfl) lg)
   (aI (ci aZ rfl (iS (by rfl) B.range (cO aC (cO aC aB))) (bP (i:=2) pX.nd rfl (Or.inl rfl))
   (aL (ci aZ rfl (eZ (a9 0)) (bP (i:=3) pX.nd rfl (Or.inl rfl))
    (aL (cj (bX iI (ae fY (aU bf (a9 3) aC (λ_ _=>rfl)) (aU bf (a9 3) aC (λ_ _=>rfl))) (a9 2) (bp _))
     (aI (gG (i9 hr) (a9 1) (a9 3) aC rfl)
      (aL (ci aZ rfl (eZ (dh (t6 rfl) (by rfl) B.list dU (aG (a9 1) aB))) (bP (i:=4) pX.nd rfl (Or.inl rfl))
      (aL (cj (QW.pt (oW (bX lm (aU bf (a9 3) aC (λ_ _=>rfl)) (aU bf (a9 4) aC (λ_ _=>rfl)) (bp _)) (l8 (bX lm (aU bf (a9 4) aC (λ_ _=>rfl)) (aU bf (a9 3) aC (λ_ _=>rfl)) (bp _)))))
       (aL (gG (i9 hr) (a9 1) (a9 3) (bG (vC rfl) (by rfl) B.max fV (aV (fh (i9 hr) (a9 1) (a9 3) (λ_ _=>rfl)) (cX (ae c9 (fh (i9 hr) (a9 1) (a9 4) (λ_ _=>rfl)) aC) aB))) rfl))
       bi)))))
     bi)))))
   (aL (bY (a9 1)))))),?_⟩
  obtain⟨as,b1,bl,bg⟩:=hb.get;have S40:=BS.len;nofun;intro d nd;have s0:=(ar.refl H).new (o:=.dT []) nd;nofun;refine⟨⟨by decide,by decide,by decide,by decide⟩,?_⟩;rw[show ((22:Int) - 1).toNat=21 from rfl];refine fB (n:=21) (λi σ H'=>∃(x2 x3 x4:Option V) (ps:List Bw),σ=[some (.ref l),some (.ref d),x2,x3,x4]/\ar H H'/\ps.length<=S.length/\(∀p,p∈ps<->p∈S/\p.2-p.1<1+(i:Int))/\H' d=some (.dT (qz (hF S) ps))/\ps.Nodup) ⟨_,_,_,[],rfl,s0,ac _,λp=>⟨λz=>(nomatch z),λz=>by have:=BS.lt p z.1;lia⟩,aE,.nil⟩ ?_ ?_
  ·rintro i σ H1 hi ⟨x2,x3,x4,ps,rfl,s1,lps,mps,hd1,nps⟩;nofun;refine⟨⟨_,bw.of (s1 _ _ b1)⟩,gW (xs:=as.map V.ref) (λj σ H'=>∃(x3 x4:Option V) (ps:List Bw),σ=[some (.ref l),some (.ref d),some (.int (1+(i:Int))),x3,x4]/\ar H H'/\ps.length<=S.length/\(∀p,p∈ps<->p∈S/\(p.2-p.1<1+(i:Int)\/p.2-p.1=1+(i:Int)/\p∈S.take j))/\H' d=some (.dT (qz (hF S) ps))/\ps.Nodup) ⟨x3,x4,ps,rfl,s1,lps,λp=>by rw[mps];simp,hd1,nps⟩ (λj σ H' _ ⟨_,_,_,_,h,_⟩=>bw.of (h _ _ b1)) ?_ ?_⟩
   ·rintro j x σ H2 hx ⟨y3,y4,ps,rfl,s2,lps,mps,hd2,nps⟩;obtain⟨a,p,rfl,hp,ta⟩:=bg j x hx;have ta2:=ta.same s2;have pS:=aR hp;have plt:=BS.lt p pS;have etk:S.take (j+1)=S.take j++[p]:=by rw[bD,hp];rfl
    have pj:p∉S.take j:=λh=>by
     obtain⟨k,hk⟩:=dM h;have kl:=(aF.mp hk).1;rw[bj] at kl;rw[fy (by lia)] at hk;have h1:=aF.mp hk;have h2:=aF.mp hp;have:=(gK BS.nd (h₀:=h1.1) (h₁:=h2.1)).mp (h1.2.trans h2.2.symm);lia
    nofun;refine⟨_,_,dD.of ta2,rfl,_,_,dD.of ta2,rfl,?_⟩;nofun;refine gl (λe=>?_) (λe=>?_)
    ·have pn:p∉ps:=λz=>by
      rcases((mps p).mp z).2 with z | z
      ·lia
      ·exact pj z.2
     have tk0:∀v,eI (qz (hF S) ps++[(bK p,v)]) (bK p)=some v:=λv=>by rw[oJ _ _ _ _ (sI pn),RN rfl]
     have tkl:(qz (hF S) ps).length=ps.length:=aA ..;have da:d≠a:=λe=>by rw[e] at hd2;rw[show H2 a=_ from ta2] at hd2;cases hd2
     refine⟨_,mO.t (k:=bK p) hd2 ta2 (bQ (by lia)),?_⟩;rw[p8 _ (sI pn)];have ta3:bS (upd H2 d (.dT (qz (hF S) ps++[(bK p,.int 1)]))) a p:=by
      show upd H2 d _ a=_;rw[aO da.symm];exact ta2
     have s3:ar H (upd H2 d (.dT (qz (hF S) ps++[(bK p,.int 1)]))):=s2.new nd;have hd3:upd H2 d (.dT (qz (hF S) ps++[(bK p,.int 1)])) d=some (.dT (qz (hF S) ps++[(bK p,.int 1)])):=aE;generalize upd H2 d (.dT (qz (hF S) ps++[(bK p,.int 1)]))=H3 at ta3 s3 hd3 ⊢;refine⟨_,hd3,λL as2 nL pr=>?_⟩;have s4:=(ar.refl H3).new (o:=.lst (as2.map V.ref)) nL;have hL:upd H3 L (.lst (as2.map V.ref)) L=some (.lst (as2.map V.ref)):=aE;have Ld:L≠d:=(am hd3 nL).symm;have ta4:=ta3.same s4;have hd4:=s4 _ _ hd3;have pr4:Paired (λ(a:Addr) (kv:List Key×V)=>upd H3 L (.lst (as2.map V.ref)) a=some (.tup (kv.1.map kV))) as2 (qz (hF S) ps++[(bK p,.int 1)]):=Paired.mapP pr λa kv z=>s4 _ _ z;have s34:=s3.trans s4;generalize upd H3 L (.lst (as2.map V.ref))=H4 at hL ta4 hd4 pr4 s34 ⊢;have keys:∀(k:Nat) x,(as2.map V.ref)[k]? = some x->∃a2 q,x=.ref a2/\(ps++[p])[k]? = some q/\bS H4 a2 q:=λk x hx=>by
      obtain⟨a2,h2,rfl⟩:=iF hx;obtain⟨kv,hkv,e2⟩:=io pr4 h2;have e3:((qz (hF S) ps++[(bK p,V.int 1)]).map (·.1))[k]? = some kv.1:=by rw[aP,hkv];rfl
      have e4:(qz (hF S) ps++[(bK p,V.int 1)]).map (·.1)=(ps++[p]).map bK:=by unfold qz;rw[aX,aX,be];rfl
      rw[e4,aP] at e3;obtain⟨q,hq,eq⟩:=cC.mp e3;rw[<-eq] at e2;exact⟨a2,q,rfl,hq,e2⟩
     refine⟨⟨_,bw.of hL⟩,gW (xs:=as2.map V.ref) (λk σ H'=>∃(x4:Option V) (v:Nat),σ=[some (.ref l),some (.ref d),some (.int (1+(i:Int))),some (.ref a),x4]/\Keeps [d] H4 H'/\H' d=some (.dT (qz (hF S) ps++[(bK p,.int (v:Nat))]))/\1<=v/\v<=hF S p/\∀q∈(ps++[p]).take k,jv q p=true->hF S q+1<=v) ⟨_,1,rfl,Keeps.refl _ _,hd4,aH _,?_,λq hq=>by simp at hq⟩ (λk σ H' _ ⟨_,_,_,kp,_⟩=>bw.of (kp _ _ (by simpa using Ld) hL)) ?_ ?_⟩
     ·rw[rE BS.lt plt];lia
     ·rintro k x σ H5 hx ⟨z4,v,rfl,kp,hd5,v1,v2,v3⟩;obtain⟨a2,q,rfl,hq,tq⟩:=keys k x hx;have da2:a2≠d:=λe=>by rw[e] at tq;rw[show H4 d=_ from tq] at hd4;cases hd4
      have da:a≠d:=da.symm;have tq5:bS H5 a2 q:=kp _ _ (by simpa using da2) tq;have ta5:bS H5 a p:=kp _ _ (by simpa using da) ta4;have tk:(ps++[p]).take (k+1)=(ps++[p]).take k++[q]:=by rw[bD,hq];rfl
      have nx:(jv q p=true->hF S q+1<=v)->∃(x4:Option V) (v':Nat),[some (V.ref l),some (V.ref d),some (V.int (1+(i:Int))),some (V.ref a),some (V.ref a2)]=[some (V.ref l),some (V.ref d),some (V.int (1+(i:Int))),some (V.ref a),x4]/\Keeps [d] H4 H5/\H5 d=some (.dT (qz (hF S) ps++[(bK p,.int (v':Nat))]))/\1<=v'/\v'<=hF S p/\∀q∈(ps++[p]).take (k+1),jv q p=true->hF S q+1<=v':=λhv=>by
       refine⟨_,v,rfl,kp,hd5,v1,v2,λq' hq' hz=>?_⟩;rw[tk] at hq';rcases aW.mp hq' with h | h
       ·exact v3 q' h hz
       ·have e:q'=q:=by simpa using h
        subst e;exact hv hz
      nofun;refine⟨_,_,dD.of ta5,rfl,_,_,dD.of tq5,rfl,?_⟩;nofun;refine gl (λc1=>?_) (λc1=>by simpa using nx λz=>by unfold jv at z;simp only[aY,RO] at z;lia);refine⟨_,_,dD.of tq5,rfl,_,_,dD.of ta5,rfl,?_⟩;nofun;refine gl (λc2=>?_) (λc2=>by simpa using nx λz=>by unfold jv at z;simp only[aY,RO] at z;lia);have hz:jv q p=true:=by unfold jv;rw[RQ c1,RQ c2];rfl
      have qp:q≠p:=λe=>by rw[e] at c1;lia
      have qps:q∈ps:=by
       rcases aW.mp (aR hq) with h | h
       ·exact h
       ·exact absurd (by simpa using h) qp
      have qS:q∈S:=((mps q).mp qps).1;have g1:eI (qz (hF S) ps++[(bK p,V.int (v:Nat))]) (bK q)=some (.int (hF S q:Nat)):=by rw[oJ _ _ _ _ (sI pn),RM λe=>qp (za e)];exact yN qps
      have dg0:=iV.t (k:=bK p) hd5 ta5;rw[tk0] at dg0;have dg1:=iV.t (k:=bK q) hd5 tq5;rw[g1] at dg1;refine⟨_,dg0,_,dg1,?_⟩;nofun;have em:(if ((hF S q:Nat):Int)+1 > (v:Nat) then ((hF S q:Nat):Int)+1 else (v:Nat))=((max v (hF S q+1):Nat):Int):=by split<;>lia
      refine⟨_,mO.t (k:=bK p) hd5 ta5 (bQ (by rw[aw,tkl,cW];lia)),_,max v (hF S q+1),rfl,kp.trans (Keeps.upd (by simp)),?_,by lia,?_,λq' hq' hz'=>?_⟩
      ·rw[aE,D3 (sI pn),em]
      ·have:=hZ BS.lt plt qS hz;lia
      ·rw[tk] at hq';rcases aW.mp hq' with h | h
       ·have:=v3 q' h hz';lia
       ·rw[show q'=q by simpa using h];lia
     ·rintro σ H5 ⟨z4,v,rfl,kp,hd5,v1,v2,v3⟩;have ev:v=hF S p:=Cb BS.lt plt v1 v2 λq hq hz=>by
       have lk:(as2.map V.ref).length=(ps++[p]).length:=by
        rw[aA,au pr4,aw,tkl,aw];rfl
       rw[lk,bZ] at v3;refine v3 q (cE _ ((mps q).mpr ⟨hq,.inl ?_⟩)) hz;unfold jv at hz;simp only[aY,RO] at hz;lia
      subst ev;refine⟨_,_,ps++[p],rfl,?_,?_,λp'=>?_,?_,?_⟩
      ·intro b o hbo;have:b≠d:=λe=>by rw[e] at hbo;rw[nd] at hbo;cases hbo
       exact kp _ _ (by simpa using this) (s34 _ _ hbo)
      ·have sub:(ps++[p]).Nodup:=by
        rw[cS];exact⟨nps,by simp,λa ha b hb=>by rw[show b=p by simpa using hb];exact λe=>pn (e▸ha)⟩
       refine eR sub λx hx=>?_;rcases aW.mp hx with h | h
       ·exact((mps x).mp h).1
       ·rw[show x=p by simpa using h];exact pS
      ·rw[etk];constructor
       ·intro h;rcases aW.mp h with h | h
        ·obtain⟨h1,h2⟩:=(mps p').mp h;exact⟨h1,h2.imp id λz=>⟨z.1,cE _ z.2⟩⟩
        ·rw[show p'=p by simpa using h];exact⟨pS,.inr ⟨e,by simp⟩⟩
       ·rintro⟨h1,h2 | ⟨h2,h3⟩⟩
        ·exact cE _ ((mps p').mpr ⟨h1,.inl h2⟩)
        ·rcases aW.mp h3 with h | h
         ·exact cE _ ((mps p').mpr ⟨h1,.inr ⟨h2,h⟩⟩)
         ·exact bO _ h
      ·rw[hd5];unfold qz;rw[aX];rfl
      ·rw[cS];exact⟨nps,by simp,λa ha b hb=>by rw[show b=p by simpa using hb];exact λe=>pn (e▸ha)⟩
    ·refine⟨_,y4,ps,rfl,s2,lps,λp'=>?_,hd2,nps⟩;rw[mps,etk];constructor
     ·rintro⟨h1,h2⟩;exact⟨h1,h2.imp id λz=>⟨z.1,cE _ z.2⟩⟩
     ·rintro⟨h1,h2 | ⟨h2,h3⟩⟩
      ·exact⟨h1,.inl h2⟩
      ·rcases aW.mp h3 with h | h
       ·exact⟨h1,.inr ⟨h2,h⟩⟩
       ·rw[show p'=p by simpa using h] at h2;exact absurd h2 e
   ·rintro σ H2 ⟨y3,y4,ps,rfl,s2,lps,mps,hd2,nps⟩;refine⟨_,y3,y4,ps,rfl,s2,lps,λp=>?_,hd2,nps⟩;rw[mps,aA,bl,bZ];constructor
    ·rintro⟨h1,h2 | h2⟩
     ·exact⟨h1,by lia⟩
     ·exact⟨h1,by lia⟩
    ·rintro⟨h1,h2⟩;exact⟨h1,by by_cases z:p.2-p.1<1+(i:Int);exact .inl z;exact .inr ⟨by lia,h1⟩⟩
  ·rintro σ H1 ⟨x2,x3,x4,ps,rfl,s1,lps,mps,hd1,nps⟩;nofun;exact q d ps H1 nd s1 (λp=>by rw[mps];exact⟨λz=>z.1,λz=>⟨z,by have:=h21 p z;lia⟩⟩) (by lia) hd1
theorem yy (B:o8 mg) (E:Fn K mg "_law_drawing" kU ["_law_maze"]) (Oy:ef P w K mg base 1 "_law_bows" qY ["_law_maze"] AL) (Oa:ef P w K mg base 1 "_law_tall" qU ["_law_bows_here"] Cu):ef P w K mg base 2 "_law_drawing" kU ["_law_maze"] uW:=E.mk' λf fd F=>by
 refine F.okS dJ (λvs H Q E h=>?_) (λcdv A outer s H vs Q E hr h=>?_)
 ·obtain⟨m,o,b,ns,rfl,_⟩:=h;rfl
 ·obtain⟨m,o,b,ns,rfl,hm,O,q⟩:=h;refine⟨[some (.ref m),none,none,none,none,none,none,none,none,none,none,none,none,none,none],_,rfl,(L2.jI.h (aI (ak (i:=1) dJ.nd rfl (Or.inl rfl) (aj Oy (hr.mono (by decide)) (by rfl) (aG (a9 0) aB)))
   (cU (ak (i:=2) dJ.nd rfl (Or.inl rfl) (cu (cn (aj Oa (hr.mono (by decide)) (by rfl) (aV (aU bV (a9 1) aC (λ_ _=>rfl)) aB)) (cn (aj Oa (hr.mono (by decide)) (by rfl) (aV (aU bV (a9 1) aC (λ_ _=>rfl)) aB)) aB))))
   (cU (ak (i:=3) dJ.nd rfl (Or.inl rfl) (ae fH aC (bG (tZ rfl) (by rfl) B.max fV (cX (ae pE (cu (cO aC aB)) (dh (nv rfl) (by rfl) B.list dU (cn (p7 i8 lS lR uq (aU bV (a9 2) aC (λ_ _=>rfl))) aB))) aB))))
   (cU (ak (i:=4) dJ.nd rfl (Or.inl rfl) (ae c9 (ae c9 (a9 3) (ae fH aC (bG (tZ rfl) (by rfl) B.max fV (cX (ae pE (cu (cO aC aB)) (dh (nv rfl) (by rfl) B.list dU (cn (p7 i8 lS lR uq (aU bV (a9 2) aC (λ_ _=>rfl))) aB))) aB)))) aC))
   (aI (ak (i:=5) dJ.nd rfl (Or.inl rfl) (ae c9 (bG bM (by rfl) B.len ax (aV (aU bf (a9 0) aC (λ_ _=>rfl)) aB)) aC))
   (aI (ak (i:=6) dJ.nd rfl (Or.inr rfl) lg)
   (cU (ak (i:=7) dJ.nd rfl (Or.inl rfl) (cu (wt qe (wt qe aB))))
   (cU (ci aZ rfl (gQ (by rfl) B.range (cO aC aB)) (bP (i:=8) dJ.nd rfl (Or.inl rfl))
   (aL (ci aZ rfl (eZ (aU bV (a9 1) (a9 8) (λ_ _=>rfl))) (bP (i:=9) dJ.nd rfl (Or.inl rfl))
    (aI (ak (i:=10) dJ.nd rfl (Or.inl rfl) (ae c9 (a9 3) (ae fH (ae fY (ae fH aC (fh (i9 hr) (aU bV (a9 2) (a9 8) (λ_ _=>rfl)) (a9 9) (λ_ _=>rfl))) aC) (ae fY (ae fH aC (a9 8)) aC))))
     (aI (gG (i9 hr) (aU bV (a9 7) (a9 8) (λ_ _=>rfl)) (aU bf (a9 9) aC (λ_ _=>rfl)) (a9 10) rfl)
     (aI (gG (i9 hr) (aU bV (a9 7) (a9 8) (λ_ _=>rfl)) (aU bf (a9 9) aC (λ_ _=>rfl)) (a9 10) rfl)
     (cU (ci aZ rfl (iS (by rfl) B.range (cX (ae c9 (ae fH aC (aU bf (a9 9) aC (λ_ _=>rfl))) aC) (cX (ae c9 (ae fH aC (aU bf (a9 9) aC (λ_ _=>rfl))) aC) aB))) (bP (i:=11) dJ.nd rfl (Or.inr rfl))
     (aL (gG (i9 hr) (a9 6) (dA (aG (a9 11) (aG (a9 10) aB))) cF rfl)))
     (aL (ci aZ rfl (vc (a9 9)) (bP (i:=12) dJ.nd rfl (Or.inl rfl))
     (aI (cj (bX iI (a9 12) aC (bp _))
      (aL (gG (i9 hr) (a9 6) (dA (cO aC (aG (a9 10) aB))) cF rfl))
      bi)
      (aL (cj (bX iI (a9 12) (a9 5) (bp _))
      (aL (gG (i9 hr) (a9 6) (dA (cX (ae c9 (ae fH aC (a9 5)) aC) (aG (a9 10) aB))) cF rfl))
      bi))))))))))))
   (cU (ci aZ rfl (vc (aU bf (a9 0) aC (λ_ _=>rfl))) (bP (i:=13) dJ.nd rfl (Or.inl rfl))
   (aL (ci aZ rfl (iS (by rfl) B.range (aV (fh (i9 hr) (aU bV (a9 7) aC (λ_ _=>rfl)) (a9 13) (λ_ _=>rfl)) (cX (ae c9 (fh (i9 hr) (aU bV (a9 7) aC (λ_ _=>rfl)) (a9 13) (λ_ _=>rfl)) aC) aB))) (bP (i:=10) dJ.nd rfl (Or.inl rfl))
    (aL (gG (i9 hr) (a9 6) (dA (cX (ae c9 (ae fH aC (a9 13)) aC) (aG (a9 10) aB))) cF rfl)))))
   (aI (ak (i:=14) dJ.nd rfl (Or.inl rfl) (cu aB))
   (cU (ci aZ rfl (gQ (by rfl) B.range (cX (ae c9 (ae fH aC (a9 5)) aC) aB)) (bP (i:=11) dJ.nd rfl (Or.inr rfl))
   (aL (cZ (eO a8 aq ao dH (a9 14) (cn (eO dv gi gh rf cF (ii (lh (own:=["_law_column"]) (ns:=["_law_signs","_law_line"]) (caps:=[6,11]) rfl ⟨rfl,by decide +kernel,by decide +kernel,by decide +kernel⟩ (.cons rfl rfl (.inl rfl) (.cons rfl rfl (.inl rfl) .nil)) (gQ (by rfl) B.range (aG (a9 4) aB)) (λC s H fp pn=>(bP (i:=0) (show List.Nodup ((["_law_column"]:List Str)++(["_law_signs","_law_line"]:List Str)) by decide +kernel) rfl (Or.inl rfl))) (λC s H fp pn=>mX) (λC s H fp pn=>(BG (i9 hr) (a9 1) (dA (aG (a9 2) (aG (a9 0) aB))) cF ⟨by rfl,by rfl,by rfl,by rfl⟩))) aB)) aB)))))
   (aL (bY (eO dv gi gh rf cF (aG (a9 14) aB)))))))))))))))),?_⟩
  have l20:=O.len;have two:(2:Nat)<=sizeLine:=by decide
  have dotV:V.str (Str.ofString ".")=l3 46:=by unfold l3;rw[show Str.ofString "."=(⟨#[46]⟩:Str) by decide +kernel]
  have vV:V.str (Str.ofString "v")=l3 118:=by unfold l3;rw[show Str.ofString "v"=(⟨#[118]⟩:Str) by decide +kernel]
  have mV:V.str (Str.ofString "@")=l3 64:=by unfold l3;rw[show Str.ofString "@"=(⟨#[64]⟩:Str) by decide +kernel]
  have BS:=λu=>iO (b:=b) O u;have mx0:=λu=>vW (b:=b) O u;have bd:∀u,∀p∈bI b ns u,0<=p.1/\p.2<=(ns.length:Int)+1/\p.1<p.2:=λu p hp=>by
   obtain⟨j,hj,_,rfl⟩:=gV hp;have h1:=O.step_in (i:=j) (by lia);have h2:=O.step_lt (i:=j) (by lia);exact⟨h1.1,h1.2,h2⟩
  nofun;refine⟨m,o,b,ns,rfl,hm,by lia,λbl g H1 nf ng s1 hf hb ne=>?_⟩;have hm1:=hm.same s1;have hb:∀u,bu H1 (g u) (bI b ns u):=hb;refine bN (λσ H'=>∃(tl:Addr) (t:Bool->Addr) (ps:Bool->List Bw),σ=[some (.ref m),some (.ref bl),some (.ref tl),none,none,none,none,none,none,none,none,none,none,none,none]/\ar H1 H'/\H' tl=some (.lst [.ref (t false),.ref (t true)])/\(∀u p,p∈ps u<->p∈bI b ns u)/\(∀u,(ps u).length<=40)/\∀u,H' (t u)=some (.dT (qz (hF (bI b ns u)) (ps u)))) ?_ ?_
  ·nofun;have sp:∀u,∀p∈bI b ns u,p.2-p.1<=21:=λu p hp=>by have:=bd u p hp;lia
   refine⟨_,_,bw.of hf,rfl,g false,bI b ns false,rfl,hb false,BS false,sp false,λt0 ps0 Ha nt0 sa m0 l0 ht0=>⟨_,_,bw.of (sa _ _ hf),rfl,g true,bI b ns true,rfl,(hb true).same sa,BS true,sp true,λt1 ps1 Hb nt1 sb m1 l1 ht1=>⟨two,λp np=>?_⟩⟩⟩;have sc:=(ar.refl Hb).new (o:=.lst [.ref t0,.ref t1]) np;exact⟨p,λu=>if u then t1 else t0,λu=>if u then ps1 else ps0,rfl,sa.trans (sb.trans sc),aE,λu=>by cases u;exact m0;exact m1,λu=>by cases u;exact l0;exact l1,λu=>by cases u;exact(sb.trans sc) _ _ ht0;exact sc _ _ ht1⟩
  rintro σ H2 ⟨tl,t,ps,rfl,s2,htl,mps,lps,ht⟩;have hvals:∀u,(qz (hF (bI b ns u)) (ps u)).map (·.2)=((ps u).map λp=>((hF (bI b ns u) p:Nat):Int)).map V.int:=λu=>by unfold qz;rw[be,be];rfl
  have mxv:∀(u:Bool) (H0 H1:Hp) (p:Addr) (Q':VK),H0 tl=some (.lst [.ref (t false),.ref (t true)])->(∀u,H0 (t u)=some (.dT (qz (hF (bI b ns u)) (ps u))))->H0 p=none->H1=upd H0 p (.lst [.int 0])->(∀H',ar H0 H'->Q' (.int (iq (bI b ns u):Nat)) H')->C2 K "dict" (.ref (t u)) H1/\AR (.ref (t u)) [] H1 λx H1=>DT [x] H1 λy H2=>LV (.ref p) y H2 λx H1=>Hg K [x] H1 Q':=by
   rintro u H0 _ p Q' h1 h2 np rfl hq;have v1:=(ar.refl H0).new (o:=.lst [.int 0]) np;refine⟨.inr (.inr (.inl ⟨rfl,.inr ⟨_,v1 _ _ (h2 u)⟩⟩)),t u,_,rfl,rfl,v1 _ _ (h2 u),λvw nvw=>?_⟩;have v2:=v1.trans ((ar.refl _).new (o:=oh (t u)) nvw);have hp2:upd (upd H0 p (.lst [.int 0])) vw (oh (t u)) p=some (.lst [.int 0]):=(ar.refl _).new (o:=oh (t u)) nvw _ _ aE;have hv2:upd (upd H0 p (.lst [.int 0])) vw (oh (t u)) vw=some (oh (t u)):=aE;generalize upd (upd H0 p (.lst [.int 0])) vw (oh (t u))=H2' at v2 hp2 hv2 ⊢;refine⟨vw,t u,_,rfl,hv2,v2 _ _ (h2 u),λl nl=>?_⟩;rw[hvals];have v3:=(ar.refl H2').new (o:=.lst (((ps u).map λp=>((hF (bI b ns u) p:Nat):Int)).map V.int)) nl;refine⟨p,l,_,_,rfl,rfl,v3 _ _ hp2,aE,ba (bQ (by have:=lps u;simp;lia)),λp3 n3=>?_⟩;have v4:=(v2.trans v3).trans ((ar.refl _).new (o:=.lst ([.int 0]++((ps u).map λp=>((hF (bI b ns u) p:Nat):Int)).map V.int)) n3);refine⟨p3,0::(ps u).map (λp=>((hF (bI b ns u) p:Nat):Int)),rfl,bw.of aE,Nat.succ_pos _,λM m1 m2=>?_⟩;rw[EK (mps u) m1 m2];exact hq _ v4
  refine bN (λσ H'=>σ=[some (.ref m),some (.ref bl),some (.ref tl),some (.int (2*iq (bI b ns false):Nat)),none,none,none,none,none,none,none,none,none,none,none]/\ar H2 H') ?_ ?_
  ·nofun;refine⟨(show 1<=sizeLine by decide),λp np=>?_⟩;have v1:=(ar.refl H2).new (o:=.lst [.int 0]) np;refine⟨_,_,bw.of (v1 _ _ htl),rfl,mxv false H2 _ p _ htl ht np rfl λH' sm=>?_⟩;nofun;exact⟨.inl ⟨by decide,by decide⟩,by rw[show ((2*iq (bI b ns false):Nat):Int)=2*((iq (bI b ns false):Nat):Int) by lia],sm⟩
  rintro σ H3 ⟨rfl,s3⟩;refine bN (λσ H'=>σ=[some (.ref m),some (.ref bl),some (.ref tl),some (.int (2*iq (bI b ns false):Nat)),some (.int (dC (bI b ns false) (bI b ns true):Nat)),none,none,none,none,none,none,none,none,none,none]/\ar H3 H') ?_ ?_
  ·have htl3:=s3 _ _ htl;have ht3:=λu=>s3 _ _ (ht u);nofun;refine⟨(show 1<=sizeLine by decide),λp np=>?_⟩;have v1:=(ar.refl H3).new (o:=.lst [.int 0]) np;refine⟨_,_,bw.of (v1 _ _ htl3),rfl,mxv true H3 _ p _ htl3 ht3 np rfl λH' sm=>?_⟩;nofun;exact⟨.inl ⟨by decide,by decide⟩,by rw[show ((2*iq (bI b ns false):Nat):Int)+2*((iq (bI b ns true):Nat):Int)+1=((dC (bI b ns false) (bI b ns true):Nat):Int) by unfold dC;lia],sm⟩
  rintro σ H4 ⟨rfl,s4⟩;nofun;have s14:=s2.trans (s3.trans s4);have hm4:=hm1.same s14;have htl4:=(s3.trans s4) _ _ htl;have ht4:=λu=>(s3.trans s4) _ _ (ht u);have hf4:=s14 _ _ hf;have hb4:=λu=>(hb u).same s14;refine⟨_,_,dD.of hm4.1,rfl,o,_,rfl,.inr (dD.of hm4.2),?_⟩;rw[aA];have s04:=s1.trans s14;clear hm1 htl ht hf hb hm s1 s2 s3 s4 s14 ne mxv;intro sg nsg;refine bN (λσ H'=>∃(at':Addr) (ad:Bool->Addr),σ=[some (.ref m),some (.ref bl),some (.ref tl),some (.int (2*iq (bI b ns false):Nat)),some (.int (dC (bI b ns false) (bI b ns true):Nat)),some (.int ((ns.length:Int)+1)),some (.ref sg),some (.ref at'),none,none,none,none,none,none,none]/\ar H4 H'/\H' sg=some (.dT [])/\H' at'=some (.lst [.ref (ad false),.ref (ad true)])/\(∀u,H' (ad u)=some (.dK []))/\(∀u,H4 (ad u)=none)/\ad false≠ad true) ?_ ?_
  ·nofun;intro a0 na0 a1 na1;refine⟨two,λp np=>?_⟩;have w1:=(ar.refl H4).new (o:=.dT []) nsg;have w2:=(ar.refl (upd H4 sg (.dT []))).new (o:=.dK []) na0;have w3:=(ar.refl (upd (upd H4 sg (.dT [])) a0 (.dK []))).new (o:=.dK []) na1;have w4:=(ar.refl (upd (upd (upd H4 sg (.dT [])) a0 (.dK [])) a1 (.dK []))).new (o:=.lst [.ref a0,.ref a1]) np;exact⟨p,λu=>if u then a1 else a0,rfl,w1.trans (w2.trans (w3.trans w4)),(w2.trans (w3.trans w4)) _ _ aE,aE,λu=>by cases u;exact(w3.trans w4) _ _ aE;exact w4 _ _ aE,λu=>by cases u;exact w1.free na0;exact(w1.trans w2).free na1,am aE na1⟩
  rintro σ H5 ⟨at',ad,rfl,s5,hsg,hat,had,nad,ade⟩;have hm5:=hm4.same s5;have htl5:=s5 _ _ htl4;have ht5:=λu=>s5 _ _ (ht4 u);have hf5:=s5 _ _ hf4;have hb5:=λu=>(hb4 u).same s5;have off:∀x o,H4 x=some o->x∉[sg,ad false,ad true]:=λx o hx hm=>by
   simp only[aK,cB,or_false] at hm;rcases hm with rfl | rfl | rfl
   ·rw[nsg] at hx;cases hx
   ·rw[nad] at hx;cases hx
   ·rw[nad] at hx;cases hx
  have ato:at'∉[sg,ad false,ad true]:=λhm=>by
   simp only[aK,cB,or_false] at hm;rcases hm with h | h | h<;>rw[h] at hat
   ·rw[hsg] at hat;cases hat
   ·rw[had] at hat;cases hat
   ·rw[had] at hat;cases hat
  have sga:∀u,sg≠ad u:=λu e=>by rw[e,had] at hsg;cases hsg
  have adm:∀u,ad u∈[sg,ad false,ad true]:=λu=>by cases u<;>simp
  have cc:∃cc:Bool->Bw->Nat,cc false=o7 (bI b ns false)/\cc true=nw (bI b ns false) (bI b ns true):=⟨λu=>if u then nw (bI b ns false) (bI b ns true) else o7 (bI b ns false),rfl,rfl⟩
  obtain⟨cc,cc0,cc1⟩:=cc;refine bN (λσ H'=>∃(x8 x9 x10 x11 x12:Option V) (kvs:List (List Key×V)) (kv:Bool->List (Key×V)),σ=[some (.ref m),some (.ref bl),some (.ref tl),some (.int (2*iq (bI b ns false):Nat)),some (.int (dC (bI b ns false) (bI b ns true):Nat)),some (.int ((ns.length:Int)+1)),some (.ref sg),some (.ref at'),x8,x9,x10,x11,x12,none,none]/\Keeps [sg,ad false,ad true] H5 H'/\H' sg=some (.dT kvs)/\kvs.length<=4000/\Sg kvs (Fo ns.length λi x=>lW (bI b ns false) (cc false) i x || lW (bI b ns true) (cc true) i x)/\∀u,H' (ad u)=some (.dK (kv u))/\mP (kv u) (bI b ns u) (cc u)) ?_ ?_
  ·nofun;refine⟨by decide,by decide,?_⟩;rw[show ((2:Int)).toNat=2 from rfl]
   let ix:Bool->Nat:=λu=>if u then 1 else 0
   refine fB (n:=2) (λi σ H'=>∃(x8 x9 x10 x11 x12:Option V) (kvs:List (List Key×V)) (kv:Bool->List (Key×V)),σ=[some (.ref m),some (.ref bl),some (.ref tl),some (.int (2*iq (bI b ns false):Nat)),some (.int (dC (bI b ns false) (bI b ns true):Nat)),some (.int ((ns.length:Int)+1)),some (.ref sg),some (.ref at'),x8,x9,x10,x11,x12,none,none]/\Keeps [sg,ad false,ad true] H5 H'/\H' sg=some (.dT kvs)/\kvs.length<=2000*i/\Sg kvs (Fo ns.length λy x=>lW (nU (bI b ns false) 0 i 0) (cc false) y x || lW (nU (bI b ns true) 1 i 0) (cc true) y x)/\∀u,H' (ad u)=some (.dK (kv u))/\(kv u).length<=100*i/\mP (kv u) (nU (bI b ns u) (if u then 1 else 0) i 0) (cc u)) ⟨_,_,_,_,_,[],λ_=>[],rfl,Keeps.refl _ _,hsg,ac _,λi x=>rfl,λu=>⟨had u,ac _,λp hp=>by cases u<;>simp[nU] at hp⟩⟩ ?_ ?_
   ·rintro i σ H6 hi ⟨x8,x9,x10,x11,x12,kvs,kv,rfl,kp,hsg6,kl,hS,had6⟩;obtain⟨u,rfl⟩:∃u:Bool,i=if u then 1 else 0:=by
     match i,hi with
     | 0,_=>exact⟨false,rfl⟩
     | 1,_=>exact⟨true,rfl⟩
    have hb6:=hb5 u;obtain⟨as,b1,bl',bg⟩:=hb6.get;have S40:=(BS u).len;have blo:=off _ _ hf4;have tlo:=off _ _ htl4;have guo:g u∉[sg,ad false,ad true]:=by
     obtain⟨_,h,_⟩:=hb4 u;exact off _ _ h
    have tuo:=off _ _ (ht4 u);have ai:∀f:Bool->Addr,nG [V.ref (f false),V.ref (f true)] (0+((if u then 1 else 0:Nat):Int))=some (.ref (f u)):=λf=>by cases u<;>rfl
    nofun;refine⟨_,_,bw.of (kp _ _ blo hf5),ai g,g u,rfl,⟨_,bw.of (kp _ _ guo b1)⟩,?_⟩;refine gW (xs:=as.map V.ref) (λj σ H'=>∃(x9 x10 x11 x12:Option V) (kvs:List (List Key×V)) (kv:Bool->List (Key×V)),σ=[some (.ref m),some (.ref bl),some (.ref tl),some (.int (2*iq (bI b ns false):Nat)),some (.int (dC (bI b ns false) (bI b ns true):Nat)),some (.int ((ns.length:Int)+1)),some (.ref sg),some (.ref at'),some (.int (0+((if u then 1 else 0:Nat):Int))),x9,x10,x11,x12,none,none]/\Keeps [sg,ad false,ad true] H5 H'/\H' sg=some (.dT kvs)/\kvs.length<=2000*(if u then 1 else 0)+50*j/\Sg kvs (Fo ns.length λy x=>lW (nU (bI b ns false) 0 (if u then 1 else 0) j) (cc false) y x || lW (nU (bI b ns true) 1 (if u then 1 else 0) j) (cc true) y x)/\∀v,H' (ad v)=some (.dK (kv v))/\(kv v).length<=100*(if u then 1 else 0)+2*j/\mP (kv v) (nU (bI b ns v) (if v then 1 else 0) (if u then 1 else 0) j) (cc v)) ⟨x9,x10,x11,x12,kvs,kv,rfl,kp,hsg6,kl,hS,had6⟩ (λj σ H' _ ⟨_,_,_,_,_,_,_,kp,_⟩=>bw.of (kp _ _ guo b1)) ?_ ?_
    ·rintro j x σ H7 hx ⟨y9,y10,y11,y12,kvs,kv,rfl,kp,hsg7,kl,hS,had7⟩;obtain⟨a,p,rfl,hp,ta⟩:=bg j x hx;have pS:=aR hp;obtain⟨p0,p1,plt⟩:=bd u p pS;have tao:a∉[sg,ad false,ad true]:=λhm=>by
      simp only[aK,cB,or_false] at hm;have ta':H5 a=some (.tup [.int p.1,.int p.2]):=ta;rcases hm with h | h | h<;>rw[h] at ta'
      ·rw[hsg] at ta';cases ta'
      ·rw[had] at ta';cases ta'
      ·rw[had] at ta';cases ta'
     have ta7:bS H7 a p:=kp _ _ tao ta;have dg:=iV.t (k:=bK p) (kp _ _ tuo (ht5 u)) ta7;rw[yN ((mps u p).mpr pS)] at dg;have ec:((2*iq (bI b ns false):Nat):Int)+(2*((hF (bI b ns u) p:Nat):Int) - 1)*(2*(0+((if u then 1 else 0:Nat):Int)) - 1)=((cc u p:Nat):Int):=by
      have h1:1<=hF (bI b ns u) p:=by rw[rE (BS u).lt plt];lia
      have h2:=ip pS;cases u
      ·rw[cc0];unfold o7;have e:(2*(0+((if false then 1 else 0:Nat):Int)) - 1)=-1:=rfl;rw[e];lia
      ·rw[cc1];unfold nw;have e:(2*(0+((if true then 1 else 0:Nat):Int)) - 1)=1:=rfl;rw[e];lia
     nofun;refine⟨_,_,bw.of (kp _ _ tlo htl5),ai t,_,_,rfl,dg,?_⟩;nofun;refine⟨.inl ⟨by decide,by decide⟩,.inl ⟨by decide,by decide⟩,.inr (by cases u<;>decide),?_⟩;rw[ec];have k8:Keeps [sg,ad false,ad true] H7 (upd H7 (ad u) (.dK (putK (kv u) (.inl p.1) (.int (cc u p:Nat))))):=Keeps.upd (adm u);have k9:Keeps [sg,ad false,ad true] H7 (upd (upd H7 (ad u) (.dK (putK (kv u) (.inl p.1) (.int (cc u p:Nat))))) (ad u) (.dK (putK (putK (kv u) (.inl p.1) (.int (cc u p:Nat))) (.inl p.2) (.int (cc u p:Nat))))):=k8.trans (Keeps.upd (adm u));obtain⟨had7u,kvl,cau⟩:=had7 u;have jl:j<(bI b ns u).length:=(aF.mp hp).1;have u1:(if u then 1 else 0:Nat)<=1:=by cases u<;>decide
     have lp1:=eE (kv u) (.inl p.1:Key) (.int (cc u p:Nat));have lp2:=eE (putK (kv u) (.inl p.1:Key) (.int (cc u p:Nat))) (.inl p.2:Key) (.int (cc u p:Nat));refine⟨_,_,bw.of (kp _ _ ato hat),ai ad,_,_,dD.of ta7,rfl,_,_,rfl,mO.k (k:=.inl p.1) had7u (bQ (by lia)),_,_,bw.of (k8 _ _ ato (kp _ _ ato hat)),ai ad,_,_,dD.of (k8 _ _ tao ta7),rfl,_,_,rfl,mO.k (k:=.inl p.2) aE (bQ (by lia)),?_⟩;have had9:∃kv':Bool->List (Key×V),∀v,upd (upd H7 (ad u) (.dK (putK (kv u) (.inl p.1) (.int (cc u p:Nat))))) (ad u) (.dK (putK (putK (kv u) (.inl p.1) (.int (cc u p:Nat))) (.inl p.2) (.int (cc u p:Nat)))) (ad v)=some (.dK (kv' v))/\(kv' v).length<=100*(if u then 1 else 0)+2*(j+1)/\mP (kv' v) (nU (bI b ns v) (if v then 1 else 0) (if u then 1 else 0) (j+1)) (cc v):=by
      refine⟨λv=>if v=u then putK (putK (kv u) (.inl p.1) (.int (cc u p:Nat))) (.inl p.2) (.int (cc u p:Nat)) else kv v,λv=>?_⟩;by_cases e:v=u
      ·subst e;dsimp only;rw[RN rfl,aE];refine⟨rfl,by lia,?_⟩;rw[sJ hp];exact mP.add (BS v) (λq hq=>FI hq) pS cau
      ·dsimp only;rw[RM e,zy,aO (λz:ad v=ad u=>by
        cases v<;>cases u
        ·exact e rfl
        ·exact ade z
        ·exact ade z.symm
        ·exact e rfl)]
       obtain⟨h1,h2,h3⟩:=had7 v;refine⟨h1,by lia,?_⟩;rw[vL (by revert e;cases v<;>cases u<;>decide)];exact h3
     have hsg9:upd (upd H7 (ad u) (.dK (putK (kv u) (.inl p.1) (.int (cc u p:Nat))))) (ad u) (.dK (putK (putK (kv u) (.inl p.1) (.int (cc u p:Nat))) (.inl p.2) (.int (cc u p:Nat)))) sg=some (.dT kvs):=by rw[zy,aO (sga u)];exact hsg7
     generalize upd (upd H7 (ad u) (.dK (putK (kv u) (.inl p.1) (.int (cc u p:Nat))))) (ad u) (.dK (putK (putK (kv u) (.inl p.1) (.int (cc u p:Nat))) (.inl p.2) (.int (cc u p:Nat))))=H9 at k9 had9 hsg9 ⊢;obtain⟨kv',had9⟩:=had9;have ta9:bS H9 a p:=k9 _ _ tao ta7;have kp9:=kp.trans k9;clear k8 k9 had7 had7u cau lp1 lp2 ta7 dg hsg7 kp ec;have hPn:∀y x,((lW (nU (bI b ns false) 0 (if u then 1 else 0) j) (cc false) y x || lW (nU (bI b ns true) 1 (if u then 1 else 0) j) (cc true) y x) || (tR p y&&decide (x=cc u p)))=(lW (nU (bI b ns false) 0 (if u then 1 else 0) (j+1)) (cc false) y x || lW (nU (bI b ns true) 1 (if u then 1 else 0) (j+1)) (cc true) y x):=λy x=>by
      cases u
      ·rw[show (if false=true then 1 else 0:Nat)=0 from rfl,sJ (i:=0) hp,vL (show (1:Nat)≠0 by decide),xA];cases lW (nU (bI b ns false) 0 0 j) (cc false) y x<;>cases lW (nU (bI b ns true) 1 0 j) (cc true) y x<;>cases (tR p y&&decide (x=cc false p))<;>rfl
      ·rw[show (if true=true then 1 else 0:Nat)=1 from rfl,sJ (i:=1) hp,vL (show (0:Nat)≠1 by decide),xA,iQ]
     generalize hP0:(λy x=>lW (nU (bI b ns false) 0 (if u then 1 else 0) j) (cc false) y x || lW (nU (bI b ns true) 1 (if u then 1 else 0) j) (cc true) y x)=P0 at hS;have hPn':∀y x,(P0 y x || (tR p y&&decide (x=cc u p)))=(lW (nU (bI b ns false) 0 (if u then 1 else 0) (j+1)) (cc false) y x || lW (nU (bI b ns true) 1 (if u then 1 else 0) (j+1)) (cc true) y x):=λy x=>by rw[<-hP0];exact hPn y x
     obtain⟨J,hJ⟩:∃J:Nat,(J:Int)=2*p.2+1 - 2*p.1:=⟨(2*p.2+1 - 2*p.1).toNat,by lia⟩
     refine bN (λσ H'=>∃(x11:Option V) (kvs':List (List Key×V)),σ=[some (.ref m),some (.ref bl),some (.ref tl),some (.int (2*iq (bI b ns false):Nat)),some (.int (dC (bI b ns false) (bI b ns true):Nat)),some (.int ((ns.length:Int)+1)),some (.ref sg),some (.ref at'),some (.int (0+((if u then 1 else 0:Nat):Int))),some (.ref a),some (.int (cc u p:Nat)),x11,y12,none,none]/\Keeps [sg] H9 H'/\H' sg=some (.dT kvs')/\kvs'.length<=kvs.length+J/\Sg kvs' (Fl ns.length P0 p (cc u p) 0 J)) ?_ ?_
     ·nofun;refine⟨_,_,dD.of ta9,rfl,?_⟩;nofun;refine⟨.inl ⟨by decide,by decide⟩,_,_,dD.of ta9,rfl,?_⟩;nofun;refine⟨.inl ⟨by decide,by decide⟩,⟨by lia,by lia,by lia,by lia⟩,?_⟩;rw[show (2*p.2+2-(2*p.1+1)).toNat=J by lia];refine fB (n:=J) (λk σ H'=>∃(x11:Option V) (kvs':List (List Key×V)),σ=[some (.ref m),some (.ref bl),some (.ref tl),some (.int (2*iq (bI b ns false):Nat)),some (.int (dC (bI b ns false) (bI b ns true):Nat)),some (.int ((ns.length:Int)+1)),some (.ref sg),some (.ref at'),some (.int (0+((if u then 1 else 0:Nat):Int))),some (.ref a),some (.int (cc u p:Nat)),x11,y12,none,none]/\Keeps [sg] H9 H'/\H' sg=some (.dT kvs')/\kvs'.length<=kvs.length+k/\Sg kvs' (Fl ns.length P0 p (cc u p) 0 k)) ⟨_,kvs,rfl,Keeps.refl _ _,hsg9,aH _,by rw[Mi];exact hS⟩ ?_ ?_
      ·rintro k σ H' hk ⟨z11,kvs',rfl,kk,hk1,hk2,hk3⟩;obtain⟨y,hy⟩:∃y:Nat,(y:Int)=2*p.1+1+(k:Int):=⟨(2*p.1+1+(k:Int)).toNat,by lia⟩
       nofun;refine⟨two,λtt ntt=>?_⟩;rw[<-hy];have hk1':=hk1;have e1:=(ar.refl H').new (o:=.tup [.int (y:Nat),.int (cc u p:Nat)]) ntt;refine⟨_,mO.t (k:=sK y (cc u p)) (e1 _ _ hk1) aE (by rw[Qf];lia),_,_,rfl,(kk.trans (ar.keeps e1)).trans (Keeps.upd (by simp)),aE,?_,?_⟩
       ·have:=eE kvs' (sK y (cc u p)) (.str (Str.ofString "."));lia
       ·exact hk3.put y (cc u p) _ λi' x'=>by rw[dotV];exact HG hy i' x'
      ·rintro σ H' ⟨z11,kvs',rfl,kk,hk1,hk2,hk3⟩;exact⟨z11,kvs',rfl,kk,hk1,hk2,hk3⟩
     rintro σ H10 ⟨z11,kvs',rfl,k10,hsg10,kl10,hS10⟩;nofun;have as1:a∉[sg]:=λz=>tao (by simp at z;simp[z]);have ads:∀v,ad v∉[sg]:=λv z=>sga v (by simp at z;exact z.symm);refine⟨⟨_,dD.of (k10 _ _ as1 ta9)⟩,?_⟩;refine Ai (xs:=[V.int p.1,V.int p.2]) (λt σ H'=>∃(x12:Option V) (kvs':List (List Key×V)),σ=[some (.ref m),some (.ref bl),some (.ref tl),some (.int (2*iq (bI b ns false):Nat)),some (.int (dC (bI b ns false) (bI b ns true):Nat)),some (.int ((ns.length:Int)+1)),some (.ref sg),some (.ref at'),some (.int (0+((if u then 1 else 0:Nat):Int))),some (.ref a),some (.int (cc u p:Nat)),z11,x12,none,none]/\Keeps [sg] H9 H'/\H' sg=some (.dT kvs')/\kvs'.length<=kvs.length+J+t/\Sg kvs' (Fl ns.length P0 p (cc u p) t J)) ⟨_,kvs',rfl,k10,hsg10,kl10,hS10⟩ (λt σ H' _ ⟨_,_,_,kk,_⟩=>dD.of (kk _ _ as1 ta9)) ?_ ?_
     ·rintro t x σ H' hx ⟨z12,kvs'',rfl,kk,hk1,hk2,hk3⟩
      match t,hx with
      | 0,hx=>
       cases hx;nofun;refine gl (λz0=>?_) (λz0=>nR (by lia) ⟨_,kvs'',rfl,kk,hk1,by lia,by rw[<-Lq (by lia)];exact hk3⟩);refine⟨two,λtt ntt=>?_⟩;have e1:=(ar.refl H').new (o:=.tup [.int 1,.int (cc u p:Nat)]) ntt;refine⟨_,mO.t (k:=sK 1 (cc u p)) (e1 _ _ hk1) aE (by rw[Qf];lia),nR (by lia) ⟨_,_,rfl,(kk.trans (ar.keeps e1)).trans (Keeps.upd (by simp)),aE,?_,?_⟩⟩
       ·have:=eE kvs'' (sK 1 (cc u p)) (.str (Str.ofString "v"));lia
       ·exact hk3.put 1 (cc u p) _ λi' x'=>by rw[vV];exact Mg z0 (by lia) i' x'
      | 1,hx=>
       cases hx;nofun;refine nR (by lia) (gl (λz0=>?_) (λz0=>⟨_,kvs'',rfl,kk,hk1,by lia,by rw[<-Lr (by lia) hJ];exact hk3⟩));refine⟨.inl ⟨by decide,by decide⟩,two,λtt ntt=>?_⟩;rw[show 2*((ns.length:Int)+1)+1=((2*ns.length+3:Nat):Int) by lia];have e1:=(ar.refl H').new (o:=.tup [.int ((2*ns.length+3:Nat):Int),.int (cc u p:Nat)]) ntt;refine⟨_,mO.t (k:=sK (2*ns.length+3) (cc u p)) (e1 _ _ hk1) aE (by rw[Qf];lia),_,_,rfl,(kk.trans (ar.keeps e1)).trans (Keeps.upd (by simp)),aE,?_,?_⟩
       ·have:=eE kvs'' (sK (2*ns.length+3) (cc u p)) (.str (Str.ofString "@"));lia
       ·exact hk3.put (2*ns.length+3) (cc u p) _ λi' x'=>by rw[mV];exact Mh z0 p0 plt hJ i' x'
      | t+2,hx=>simp at hx
     ·rintro σ H' ⟨z12,kvs'',rfl,kk,hk1,hk2,hk3⟩;refine⟨_,_,_,_,kvs'',kv',rfl,?_,hk1,?_,?_,λv=>⟨kk _ _ (ads v) (had9 v).1,(had9 v).2⟩⟩
      ·intro x o hx hxo;exact kk _ _ (λz=>hx (by simp at z;simp[z])) (kp9 _ _ hx hxo)
      ·have:([V.int p.1,V.int p.2]:List V).length=2:=rfl;lia
      ·intro y x;rw[hk3 y x,show ([V.int p.1,V.int p.2]:List V).length=2 from rfl,HH hJ];unfold Fo;simp only[hPn']
    ·rintro σ H7 ⟨y9,y10,y11,y12,kvs,kv,rfl,kp,hsg7,kl,hS,had7⟩;rw[aA,bl'] at kl hS had7;have nxt:∀v k,nU (bI b ns v) k (if u then 1 else 0) (bI b ns u).length=nU (bI b ns v) k ((if u then 1 else 0)+1) 0\/k=if u then 1 else 0:=λv k=>by
      by_cases e:k=if u then 1 else 0
      ·exact .inr e
      ·refine .inl ?_;unfold nU;rw[RM e];by_cases h1:k<if u then 1 else 0
       ·rw[RN h1,RN (by lia)]
       ·rw[RM h1,RM (by lia)];by_cases h2:k=(if u then 1 else 0)+1
        ·rw[RN h2]
        ·rw[RM h2]
     have nx2:∀v:Bool,nU (bI b ns v) (if v then 1 else 0) (if u then 1 else 0) (bI b ns u).length=nU (bI b ns v) (if v then 1 else 0) ((if u then 1 else 0)+1) 0:=λv=>by
      rcases nxt v (if v then 1 else 0) with h | h
      ·exact h
      ·have e:v=u:=by revert h;cases v<;>cases u<;>decide
       subst e;exact Ca (by lia) _ _
     refine⟨_,y9,y10,y11,y12,kvs,kv,rfl,kp,hsg7,by lia,?_,λv=>⟨(had7 v).1,by have:=(had7 v).2.1;lia,by rw[<-nx2];exact(had7 v).2.2⟩⟩;have h0:=nx2 false;have h1:=nx2 true;rw[show (if false=true then 1 else 0:Nat)=0 from rfl] at h0;rw[show (if true=true then 1 else 0:Nat)=1 from rfl] at h1;rw[<-h0,<-h1];exact hS
   ·rintro σ H6 ⟨x8,x9,x10,x11,x12,kvs,kv,rfl,kp,hsg6,kl,hS,had6⟩;rw[vM (by have:=(BS false).len;lia) (by decide),vM (by have:=(BS true).len;lia) (by decide)] at hS;refine⟨_,_,_,_,_,kvs,kv,rfl,kp,hsg6,by lia,hS,λv=>⟨(had6 v).1,?_⟩⟩;have:=(had6 v).2.2;rw[vM (by have:=(BS v).len;lia) (by cases v<;>decide)] at this;exact this
  rintro σ H6 ⟨x8,x9,x10,x11,x12,kvs,kv,rfl,kp,hsg6,kl,hS,had6⟩;refine bN (λσ H'=>∃(x10' x13:Option V) (kvs':List (List Key×V)),σ=[some (.ref m),some (.ref bl),some (.ref tl),some (.int (2*iq (bI b ns false):Nat)),some (.int (dC (bI b ns false) (bI b ns true):Nat)),some (.int ((ns.length:Int)+1)),some (.ref sg),some (.ref at'),x8,x9,x10',x11,x12,x13,none]/\Keeps [sg,ad false,ad true] H5 H'/\H' sg=some (.dT kvs')/\Sg kvs' (Fo ns.length (dq ns.length (bI b ns false) (bI b ns true)))) ?_ ?_
  ·have colv:∀u,∀r:Nat,1<=r->r<=ns.length->eI (kv u) (.inl (r:Int):Key)=some (.int ((if u then ni (bI b ns false) (bI b ns true) r else j4 (bI b ns false) r:Nat):Int)):=λu r h1 h2=>by
    obtain⟨p,hp,e⟩:=rX (b:=b) O u h1 h2;have h3:=(had6 u).2 p hp;have h4:(if u then ni (bI b ns false) (bI b ns true) r else j4 (bI b ns false) r:Nat)=cc u p:=by
     cases u
     ·rw[cc0];show j4 _ r=_;unfold j4;rw[fL (BS false) hp e]
     ·rw[cc1];show ni _ _ r=_;unfold ni;rw[fL (BS true) hp e]
    rw[h4];rcases e with e | e
    ·rw[<-e];exact h3.1
    ·rw[<-e];exact h3.2
   have mo:=off _ _ hm4.1;have oo:=off _ _ hm4.2;have hm6:gj H6 m o b ns:=⟨kp _ _ mo hm5.1,kp _ _ oo hm5.2⟩
   have ats:at'∉[sg]:=λz=>ato (by simp at z;simp[z]);have ads:∀v,ad v∉[sg]:=λv z=>sga v (by simp at z;exact z.symm);have os:o∉[sg]:=λz=>oo (by simp at z;simp[z]);have hat6:=kp _ _ ato hat;have mxa:=mx0 false;have mxb:=mx0 true;nofun;refine⟨_,_,dD.of hm6.1,rfl,o,rfl,⟨_,dD.of hm6.2⟩,?_⟩;refine Ai (xs:=ns.map V.int) (λt σ H'=>∃(x10' x13:Option V) (kvs':List (List Key×V)),σ=[some (.ref m),some (.ref bl),some (.ref tl),some (.int (2*iq (bI b ns false):Nat)),some (.int (dC (bI b ns false) (bI b ns true):Nat)),some (.int ((ns.length:Int)+1)),some (.ref sg),some (.ref at'),x8,x9,x10',x11,x12,x13,none]/\Keeps [sg] H6 H'/\H' sg=some (.dT kvs')/\kvs'.length<=4000+1000*t/\Sg kvs' (Fo ns.length λi x=>(lW (bI b ns false) (cc false) i x || lW (bI b ns true) (cc true) i x) || He (ns.take t) (j4 (bI b ns false)) (ni (bI b ns false) (bI b ns true)) i x)) ⟨_,_,kvs,rfl,Keeps.refl _ _,hsg6,kl,qL hS λi x=>by simp[He]⟩ (λt σ H' _ ⟨_,_,_,_,kk,_⟩=>dD.of (kk _ _ os hm6.2)) ?_ ?_
   ·rintro t x σ H' hx ⟨y10,y13,kvs',rfl,kk,hk1,hk2,hk3⟩;obtain⟨r',hr,rfl⟩:=iF hx;have tl1:=(aF.mp hr).1;have rin:=O.mem.mp (aR hr);obtain⟨r,rfl⟩:=mM (show 0<=r' by lia);have etk:ns.take (t+1)=ns.take t++[(r:Int)]:=by rw[bD,hr];rfl
    have dg0:=iV.k (k:=.inl (r:Int)) (kk _ _ (ads false) (had6 false).1);have dg1:=iV.k (k:=.inl (r:Int)) (kk _ _ (ads true) (had6 true).1);rw[colv false r (by lia) (by lia)] at dg0;rw[colv true r (by lia) (by lia)] at dg1;have bL:j4 (bI b ns false) r<=100:=by unfold j4 o7;lia
    have bR:ni (bI b ns false) (bI b ns true) r<=200:=by
     obtain⟨p,hp,e⟩:=rX (b:=b) O true (r:=r) (by lia) (by lia);unfold ni nw;rw[fL (BS true) hp e];have:=ip hp;lia
    have s46:KZ ns.length (2*r+1)=46:=by unfold KZ;rw[RM (by lia),RM (by lia)]
    nofun;refine⟨_,_,bw.of (kk _ _ ats hat6),rfl,_,_,rfl,dg0,_,_,bw.of (kk _ _ ats hat6),rfl,_,_,rfl,dg1,?_⟩;nofun;refine⟨⟨by lia,by lia,by lia,by lia⟩,?_⟩;generalize hM:(((ni (bI b ns false) (bI b ns true) r:Nat):Int)+1-((j4 (bI b ns false) r:Nat):Int)).toNat=M;have rt:((r:Int)).toNat=r:=cA r;refine fB (n:=M) (λk σ H'=>∃(x10':Option V) (kvs':List (List Key×V)),σ=[some (.ref m),some (.ref bl),some (.ref tl),some (.int (2*iq (bI b ns false):Nat)),some (.int (dC (bI b ns false) (bI b ns true):Nat)),some (.int ((ns.length:Int)+1)),some (.ref sg),some (.ref at'),x8,x9,x10',x11,x12,some (.int (r:Int)),none]/\Keeps [sg] H6 H'/\H' sg=some (.dT kvs')/\kvs'.length<=4000+1000*t+k/\Sg kvs' (Fo ns.length λi x=>((lW (bI b ns false) (cc false) i x || lW (bI b ns true) (cc true) i x) || He (ns.take t) (j4 (bI b ns false)) (ni (bI b ns false) (bI b ns true)) i x) || decide (i=2*r+1/\j4 (bI b ns false) r<=x/\x<j4 (bI b ns false) r+k))) ⟨_,kvs',rfl,kk,hk1,hk2,qL hk3 λi x=>?_⟩ ?_ ?_
    ·rw[RP (show ¬(i=2*r+1/\j4 (bI b ns false) r<=x/\x<j4 (bI b ns false) r+0) by lia),dQ]
    ·rintro k σ H'' hk ⟨z10,kvs'',rfl,kk',hk1',hk2',hk3'⟩;nofun;refine⟨.inl ⟨by decide,by decide⟩,two,λtt ntt=>?_⟩;rw[show 2*(r:Int)+1=((2*r+1:Nat):Int) by lia,show ((j4 (bI b ns false) r:Nat):Int)+(k:Int)=((j4 (bI b ns false) r+k:Nat):Int) by lia];have e1:=(ar.refl H'').new (o:=.tup [.int ((2*r+1:Nat):Int),.int ((j4 (bI b ns false) r+k:Nat):Int)]) ntt;refine⟨_,mO.t (k:=sK (2*r+1) (j4 (bI b ns false) r+k)) (e1 _ _ hk1') aE (by rw[Qf];lia),_,_,rfl,(kk'.trans (ar.keeps e1)).trans (Keeps.upd (by simp)),aE,?_,?_⟩
     ·have:=eE kvs'' (sK (2*r+1) (j4 (bI b ns false) r+k)) (.str (Str.ofString "."));lia
     ·rw[dotV];refine KR hk3' s46 λi x=>?_;have e:decide (i=2*r+1/\j4 (bI b ns false) r<=x/\x<j4 (bI b ns false) r+(k+1))=(decide (i=2*r+1/\j4 (bI b ns false) r<=x/\x<j4 (bI b ns false) r+k) || decide (i=2*r+1/\x=j4 (bI b ns false) r+k)):=by
       rw[df];simp only[dE,RO];lia
      rw[e,<-iQ]
    ·rintro σ H'' ⟨z10,kvs'',rfl,kk',hk1',hk2',hk3'⟩;refine⟨_,_,kvs'',rfl,kk',hk1',by lia,qL hk3' λi x=>?_⟩;rw[etk,DQ,<-iQ,rt];congr 1;rw[df];simp only[aY,RO];lia
   ·rintro σ H' ⟨y10,y13,kvs',rfl,kk,hk1,hk2,hk3⟩;refine⟨_,_,kvs',rfl,λz o' hz ho=>kk _ _ (λy=>hz (by simp at y;simp[y])) (kp _ _ hz ho),hk1,qL hk3 λi x=>?_⟩;rw[aA,bZ,F6 O,cc0,cc1];unfold dq;rw[iQ]
  rintro σ H7 ⟨x10',x13,kvs',rfl,k7,hsg7,hS7⟩;nofun;refine⟨ac _,λp np=>?_⟩;have e1:=(ar.refl H7).new (o:=.lst []) np;have hp8:upd H7 p (.lst []) p=some (.lst []):=aE;have hsg8:=e1 _ _ hsg7;have k8:=k7.trans (ar.keeps e1);have fin:ar H (upd H7 p (.lst [])):=λz o' hz=>by
   have hz4:=s04 _ _ hz;exact k8 _ _ (off _ _ hz4) (s5 _ _ hz4)
  have npH:H p=none:=by
   cases e:H p with
   | none=>rfl
   | some o'=>
    have hz4:=s04 _ _ e;rw[k7 _ _ (off _ _ hz4) (s5 _ _ hz4)] at np;cases np
  have MT:sg≠p:=λe=>by rw[e] at hsg8;rw[hp8] at hsg8;cases hsg8
  generalize upd H7 p (.lst [])=H8 at hp8 hsg8 fin ⊢;clear k8 e1 k7 hsg7 had6 kp hS;refine bN (λσ H'=>∃x11':Option V,σ=[some (.ref m),some (.ref bl),some (.ref tl),some (.int (2*iq (bI b ns false):Nat)),some (.int (dC (bI b ns false) (bI b ns true):Nat)),some (.int ((ns.length:Int)+1)),some (.ref sg),some (.ref at'),x8,x9,x10',x11',x12,x13,some (.ref p)]/\ar H H'/\H' p=some (.lst ((((List.range (2*ns.length+5)).map (iN ns.length (bI b ns false) (bI b ns true))).map tx).map V.str))) ?_ ?_
  ·have mxa:=mx0 false;have mxb:=mx0 true;have wl:dC (bI b ns false) (bI b ns true)<=100:=by unfold dC;lia
   have hashV:V.str (Str.ofString "#")=l3 35:=by unfold l3;rw[show Str.ofString "#"=(⟨#[35]⟩:Str) by decide +kernel]
   nofun;refine⟨.inl ⟨by decide,by decide⟩,by lia,by lia,?_⟩;rw[show (2*((ns.length:Int)+1)+3).toNat=2*ns.length+5 by lia];refine fB (n:=2*ns.length+5) (λi σ H'=>∃x11':Option V,σ=[some (.ref m),some (.ref bl),some (.ref tl),some (.int (2*iq (bI b ns false):Nat)),some (.int (dC (bI b ns false) (bI b ns true):Nat)),some (.int ((ns.length:Int)+1)),some (.ref sg),some (.ref at'),x8,x9,x10',x11',x12,x13,some (.ref p)]/\ar H H'/\H' sg=some (.dT kvs')/\H' p=some (.lst ((((List.range i).map (iN ns.length (bI b ns false) (bI b ns true))).map tx).map V.str))) ⟨_,rfl,fin,hsg8,hp8⟩ ?_ ?_
   ·rintro i σ H' hi ⟨y11,rfl,s',hsg',hp'⟩;nofun;refine⟨gP hp',rfl,by lia,by lia,?_⟩;rw[cA];refine tW (n:=dC (bI b ns false) (bI b ns true)) (λk ys σ H''=>ar H' H''/\ys=(List.range k).map (λx=>l3 (signG ns.length (bI b ns false) (bI b ns true) i x))/\∃x0:Option V,σ=[x0,some (.ref sg),some (.int (0+(i:Int)))]) ⟨ar.refl _,rfl,_,rfl⟩ (λk ys σ H'' h=>by rw[h.2.1];simp) (ba (bQ (by lia))) ?_ ?_
    ·rintro k ys σ H'' N hk ⟨sm,rfl,x0,rfl⟩ hN;nofun;have hsg'':=sm _ _ hsg';refine⟨.inr ⟨_,.inl hsg''⟩,two,λtt ntt=>?_⟩;rw[fw,fw];have e1:=(ar.refl H'').new (o:=.tup [.int (i:Int),.int (k:Int)]) ntt;refine⟨_,iV.t (k:=sK i k) (e1 _ _ hsg'') aE,?_⟩;rw[hS7 i k];have ev:(Fo ns.length (dq ns.length (bI b ns false) (bI b ns true)) i k).getD (V.str (Str.ofString "#"))=l3 (signG ns.length (bI b ns false) (bI b ns true) i k):=by
      rw[hashV];unfold Fo signG KZ;cases dq ns.length (bI b ns false) (bI b ns true) i k<;>rfl
     rw[ev];refine hN _ _ _ ⟨sm.trans e1,?_,_,by rw[fw]⟩;rw[eF,aX];rfl
    ·rintro ys σ H'' l ⟨sm,rfl,x0,rfl⟩ nl;have e1:=(ar.refl H'').new (o:=.lst ((List.range (dC (bI b ns false) (bI b ns true))).map λx=>l3 (signG ns.length (bI b ns false) (bI b ns true) i x))) nl;have hl:upd H'' l (.lst ((List.range (dC (bI b ns false) (bI b ns true))).map λx=>l3 (signG ns.length (bI b ns false) (bI b ns true) i x))) l=some (.lst ((((List.range (dC (bI b ns false) (bI b ns true))).map (signG ns.length (bI b ns false) (bI b ns true) i)).map λc=>(⟨#[c]⟩:Str)).map V.str)):=by rw[aE];exact congrArg (λz=>some (HO.lst z)) (wc _ _)
     have s2:=sm.trans e1;generalize upd H'' l (.lst ((List.range (dC (bI b ns false) (bI b ns true))).map λx=>l3 (signG ns.length (bI b ns false) (bI b ns true) i x)))=H3 at e1 hl s2 ⊢;refine⟨_,l,_,rfl,rfl,bw.of hl,uR (by simp;lia),?_⟩;rw[AA];have hp3:=s2 _ _ hp';refine⟨_,hp3,by rw[aA,aA,aA,cy];exact bQ (by lia),_,rfl,(s'.trans s2).new npH,by rw[aO MT];exact s2 _ _ hsg',?_⟩;rw[aE,eF];simp only[aX,av,fM];rfl
   ·rintro σ H' ⟨y11,rfl,s',hsg',hp'⟩;exact⟨_,rfl,s',hp'⟩
  rintro σ H9 ⟨x11',rfl,s9,hp9⟩;nofun;refine⟨rfl,_,p,_,rfl,rfl,bw.of hp9,uu (by simp;lia) (λr hr=>?_),?_⟩
  ·obtain⟨j,_,rfl⟩:=aT.mp hr;have mxa:=mx0 false;have mxb:=mx0 true;unfold iN;rw[aA,cy];unfold dC;lia
  ·rw[A5];exact q _ s9
theorem GL (B:o8 mg) (E:Fn K mg "_law_walk" qT ["_law_lines"]):ef P w K mg base 1 "_law_walk" qT ["_law_lines"] Cr:=E.mk' λf fd F=>by
 refine F.okS kM (λvs H Q E h=>?_) (λcdv A outer s H vs Q E hr h=>?_)
 ·obtain⟨ll,b,ns,rfl,_⟩:=h;rfl
 ·obtain⟨ll,b,ns,rfl,hll,O,nc,q⟩:=h;refine⟨[some (.ref ll),none,none,none,none,none,none,none],_,rfl,(L2.jI.h (aI (ak (i:=1) kM.nd rfl (Or.inl rfl) (cu aB))
   (cU (ci aZ rfl (gQ (by rfl) B.range (cn (bG bM (by rfl) B.len ax (aG (a9 0) aB)) aB)) (bP (i:=2) kM.nd rfl (Or.inl rfl))
   (aL (ci aZ rfl (gQ (by rfl) B.range (cn (bG qG (by rfl) B.len ax (aV (aU bV (a9 0) (a9 2) (λ_ _=>rfl)) aB)) aB)) (bP (i:=3) kM.nd rfl (Or.inl rfl))
    (aL (cj (bX iI (aU tM (aU bV (a9 0) (a9 2) (λ_ _=>rfl)) (a9 3) (λ_ _=>rfl)) cF (bp _))
     (aL (cZ (eO a8 aq ao dH (a9 1) (dS (dA (aG (a9 2) (aG (a9 3) aB))) aB))))
     bi)))))
   (cU (cj (bX pf (bG bM (by rfl) B.len ax (aG (a9 1) aB)) aC (bp _))
   (aL (bY kN))
   bi)
   (cU (ak (i:=4) kM.nd rfl (Or.inl rfl) kN)
   (aI (l9 aZ (bX pf (aU tM (aU bV (a9 0) (aU bf (aU bV (a9 1) (pC oy aC) (λ_ _=>rfl)) aC (λ_ _=>rfl)) (λ_ _=>rfl)) (aU bf (aU bV (a9 1) (pC oy aC) (λ_ _=>rfl)) aC (λ_ _=>rfl)) (λ_ _=>rfl)) cF (bp _))
   (cU (ak (i:=5) kM.nd rfl (Or.inl rfl) (aU bV (a9 1) (pC oy aC) (λ_ _=>rfl)))
    (aI (ak (i:=6) kM.nd rfl (Or.inl rfl) (cu aB))
    (cU (ci aZ rfl (eZ (cu (dS (dA (cX (ae fY (aU bf (a9 5) aC (λ_ _=>rfl)) aC) (aV (aU bf (a9 5) aC (λ_ _=>rfl)) aB))) (dS (dA (cX (ae c9 (aU bf (a9 5) aC (λ_ _=>rfl)) aC) (aV (aU bf (a9 5) aC (λ_ _=>rfl)) aB))) (dS (dA (aV (aU bf (a9 5) aC (λ_ _=>rfl)) (cX (ae fY (aU bf (a9 5) aC (λ_ _=>rfl)) aC) aB))) (dS (dA (aV (aU bf (a9 5) aC (λ_ _=>rfl)) (cX (ae c9 (aU bf (a9 5) aC (λ_ _=>rfl)) aC) aB))) aB)))))) (bP (i:=7) kM.nd rfl (Or.inl rfl))
    (aI (cj (QW.pt (mW (iD (ue Dv lm aC (aU bf (a9 7) aC (λ_ _=>rfl)) (bG bM (by rfl) B.len ax (aG (a9 0) aB)))) (mU (iD (ue Dv lm aC (aU bf (a9 7) aC (λ_ _=>rfl)) (bG qG (by rfl) B.len ax (aV (aU bV (a9 0) (aU bf (a9 7) aC (λ_ _=>rfl)) (λ_ _=>rfl)) aB)))))))
     (aL (bY kN))
     bi)
     (aL (cj (QW.pt (oW (bX (yq (oq hr)) (a9 7) (a9 4) (bp _)) (l8 (bX pf (aU tM (aU bV (a9 0) (aU bf (a9 7) aC (λ_ _=>rfl)) (λ_ _=>rfl)) (aU bf (a9 7) aC (λ_ _=>rfl)) (λ_ _=>rfl)) cF (bp _)))))
     (aL (cZ (eO a8 aq ao dH (a9 6) (aG (a9 7) aB))))
     bi))))
    (cU (cj (QW.pt (mW (bX pf (bG bM (by rfl) B.len ax (aG (a9 6) aB)) aC (bp _)) (mU (bX ph (bG bM (by rfl) B.len ax (aG (a9 1) aB)) aC (bp _)))))
    (aL (bY kN))
    bi)
    (aI (ak (i:=4) kM.nd rfl (Or.inl rfl) (a9 5))
    (aL (cZ (eO a8 aq ao dH (a9 1) (aV (aU bV (a9 6) aC (λ_ _=>rfl)) aB))))))))))
   (aL (bY (a9 1))))))))),?_⟩
  have two:(2:Nat)<=sizeLine:=by decide
  have l20:=O.len;have w85:=vK (b:=b) O;have X:=tj.of O nc;have lln:(lP ns.length (bI b ns false) (bI b ns true)).length=2*ns.length+5:=by rw[aA,aA,aA,cy]
  have szl:∀i,(tx (iN ns.length (bI b ns false) (bI b ns true) i)).length=dC (bI b ns false) (bI b ns true):=λi=>by rw[sH,rY]
  have wsz:dC (bI b ns false) (bI b ns true)<=sizeLine:=ba (bQ (by lia));have lat:∀i,i<2*ns.length+5->nG (lP ns.length (bI b ns false) (bI b ns true)) (i:Int)=some (.str (tx (iN ns.length (bI b ns false) (bI b ns true) i))):=λi hi=>Jj hi;have cat:∀i x,x<dC (bI b ns false) (bI b ns true)->nG (tx (iN ns.length (bI b ns false) (bI b ns true) i)).cps.toList (x:Int)=some (signG ns.length (bI b ns false) (bI b ns true) i x):=λi x hx=>by rw[C6];exact fU (AQ hx)
  have ch1:∀(c d:Nat),((⟨#[c]⟩:Str)=⟨#[d]⟩)<->c=d:=λc d=>⟨λe=>by injection e with e;simpa using e,λe=>by rw[e]⟩
  have sv:Str.ofString "v"=(⟨#[118]⟩:Str):=by decide +kernel
  have sm:Str.ofString "@"=(⟨#[64]⟩:Str):=by decide +kernel
  have sh:Str.ofString "#"=(⟨#[35]⟩:Str):=by decide +kernel
  nofun;refine⟨ac _,λp np=>?_⟩;have s1:=(ar.refl H).new (o:=.lst []) np;have hp1:upd H p (.lst []) p=some (.lst []):=aE;have hll1:=s1 _ _ hll;have lp:ll≠p:=am hll np;generalize upd H p (.lst [])=H1 at s1 hp1 hll1 ⊢;have swp:∀{P P':Prop} [Decidable P] [Decidable P'] {H':Hp},(P<->P')->bu H' p (if P then [dI (1,cN b ns 0)] else [])->bu H' p (if P' then [dI (1,cN b ns 0)] else []):=by
   intro P P' _ _ H' h hb;by_cases z:P
   ·rw[RN z] at hb;rw[RN (h.mp z)];exact hb
   ·rw[RM z] at hb;rw[RM (λy=>z (h.mpr y))];exact hb
  refine bN (λσ H'=>∃x2 x3:Option V,σ=[some (.ref ll),some (.ref p),x2,x3,none,none,none,none]/\ar H H'/\H' ll=some (.lst (lP ns.length (bI b ns false) (bI b ns true)))/\bu H' p [dI (1,cN b ns 0)]) ?_ ?_
  ·nofun;refine⟨_,.inl (bw.of hll1),?_⟩;rw[lln,cA];refine⟨by lia,by lia,?_⟩;refine fB (n:=2*ns.length+5) (λk σ H'=>∃x2 x3:Option V,σ=[some (.ref ll),some (.ref p),x2,x3,none,none,none,none]/\ar H H'/\H' ll=some (.lst (lP ns.length (bI b ns false) (bI b ns true)))/\bu H' p (if 1<k then [dI (1,cN b ns 0)] else [])) ⟨_,_,rfl,s1,hll1,[],hp1,.nil⟩ ?_ ?_
   ·rintro k σ H2 hk ⟨x2,x3,rfl,s2,hll2,bo2⟩;nofun;rw[fw];refine⟨_,_,bw.of hll2,lat k hk,_,rfl,?_⟩;rw[szl,cA];refine⟨wsz,by lia,by lia,?_⟩;refine fB (n:=dC (bI b ns false) (bI b ns true)) (λj σ H'=>∃x3:Option V,σ=[some (.ref ll),some (.ref p),some (.int (k:Int)),x3,none,none,none,none]/\ar H H'/\H' ll=some (.lst (lP ns.length (bI b ns false) (bI b ns true)))/\bu H' p (if 1<k\/(k=1/\cN b ns 0<j) then [dI (1,cN b ns 0)] else [])) ⟨_,rfl,s2,hll2,?_⟩ ?_ ?_
    ·exact swp (by lia) bo2
    ·rintro j σ H3 hj ⟨x3',rfl,s3,hll3,bo3⟩;nofun;refine⟨_,_,bw.of hll3,lat k hk,?_⟩;nofun;refine⟨by rw[szl];exact wsz,_,by rw[fw];exact cat k j hj,?_⟩;rw[sv];refine gl (λz=>?_) (λz=>?_)
     ·obtain⟨k1,j1⟩:=(oZ O nc).mp ((ch1 _ _).mp z);rw[RM (by lia)] at bo3;obtain⟨as,h1,h2⟩:=id bo3;cases h2;refine⟨gP h1,two,λt nt=>?_⟩;rw[fw];have s4:=(ar.refl H3).new (o:=.tup [.int (k:Int),.int (j:Int)]) nt;refine⟨_,s4 _ _ h1,by decide,_,by first | rfl | trivial,(s3.trans s4).new np,by rw[aO lp];exact s4 _ _ hll3,?_⟩;rw[RN (by lia)];refine⟨[t],aE,.cons ?_ .nil⟩;have tp:t≠p:=(am h1 nt).symm;show upd _ p _ t=_;rw[aO tp,aE,<-k1,<-j1];rfl
     ·refine⟨_,by first | rfl | trivial,s3,hll3,?_⟩;have nz:¬(k=1/\j=cN b ns 0):=λy=>z ((ch1 _ _).mpr ((oZ O nc).mpr y));exact swp (by lia) bo3
    ·rintro σ H3 ⟨x3',rfl,s3,hll3,bo3⟩;refine⟨_,_,rfl,s3,hll3,?_⟩;obtain⟨l,hl⟩:=kx (b:=b) (ns:=ns) ns.length;have cw:=lK O nc (c:=(1,cN b ns 0)) (by rw[show bn b ns=_ from hl];simp);dsimp only at cw;exact swp (by lia) bo3
   ·rintro σ H2 ⟨x2,x3,rfl,s2,hll2,bo2⟩;rw[RN (by lia)] at bo2;exact⟨_,_,rfl,s2,hll2,bo2⟩
  rintro σ H2 ⟨x2,x3,rfl,s2,hll2,bo2⟩;refine bN (λσ H'=>σ=[some (.ref ll),some (.ref p),x2,x3,none,none,none,none]/\H'=H2) ?_ ?_
  ·nofun;obtain⟨as,h1,h2⟩:=bo2;have la:=au h2;exact⟨_,.inl (bw.of h1),nR (by rw[aA,la];simp) ⟨by first | rfl | trivial,by first | rfl | trivial⟩⟩
  rintro σ H' ⟨rfl,rfl⟩;refine bN (λσ H3=>σ=[some (.ref ll),some (.ref p),x2,x3,some .non,none,none,none]/\H3=H') ?_ ?_
  ·nofun;exact⟨by first | rfl | trivial,by first | rfl | trivial⟩
  rintro σ H3 ⟨rfl,rfl⟩;have W1:=oG O nc (b:=b);obtain⟨w0,hw0⟩:=kx (b:=b) (ns:=ns) ns.length;obtain⟨wl,hwl⟩:=wD (b:=b) (ns:=ns);have ndW:=nT O nc (b:=b) (aH _);have Wl:0<(bn b ns).length:=by rw[show bn b ns=_ from hw0];simp
  have s2:ar H H3:=s2;nofun;refine⟨λm σ H4=>∃(t:Nat) (x2 x3 x5 x6 x7:Option V) (va:V),σ=[some (.ref ll),some (.ref p),x2,x3,some va,x5,x6,x7]/\ar H H4/\H4 ll=some (.lst (lP ns.length (bI b ns false) (bI b ns true)))/\bu H4 p (((bn b ns).take (t+1)).map dI)/\t<(bn b ns).length/\((t=0/\va=.non)\/∃aa z t',t=t'+1/\va=.ref aa/\(bn b ns)[t']? = some z/\bS H4 aa (dI z))/\m=(bn b ns).length-t,⟨_,0,_,_,_,_,_,_,rfl,s2,hll2,by rw[show bn b ns=_ from hw0];exact bo2,Wl,.inl ⟨rfl,rfl⟩,rfl⟩,?_⟩;rintro m σ H4 ⟨t,y2,y3,y5,y6,y7,va,rfl,s4,hll4,bo4,ht,hva,rfl⟩;obtain⟨x,hx⟩:∃x,(bn b ns)[t]? = some x:=⟨_,aJ ht⟩
  have xw:=aR hx;have xin:=lK O nc xw;have xsg:=sD O nc xw;obtain⟨as,a1,a2⟩:=id bo4;have la:=au a2;rw[aA,bj] at la;obtain⟨ta,hta,tax⟩:∃ta,as[t]? = some ta/\bS H4 ta (dI x):=by
   have h1:as[t]? = some as[t]:=aJ (by lia);obtain⟨y,hy,ty⟩:=io a2 h1;rw[aP,fy (by lia),hx] at hy;rw[<-bH hy] at ty;exact⟨_,h1,ty⟩
  have lst:nG (as.map V.ref) (-1)=some (.ref ta):=KI (by rw[aA,aP,show as.length - 1=t by lia,hta];rfl);have x1:nG [V.int (dI x).1,V.int (dI x).2] 0=some (.int (x.1:Nat)):=rfl;have x2:nG [V.int (dI x).1,V.int (dI x).2] 1=some (.int (x.2:Nat)):=rfl;nofun;refine⟨_,_,bw.of a1,lst,?_⟩;nofun;refine⟨_,_,dD.of tax,x1,?_⟩;nofun;refine⟨_,_,bw.of hll4,lat x.1 (by lia),_,_,bw.of a1,lst,?_⟩;nofun;refine⟨_,_,dD.of tax,x2,?_⟩;nofun;refine⟨by rw[szl];exact wsz,_,cat x.1 x.2 (by lia),?_⟩;rw[sm];have W0:bn b ns=(bn b ns).take t++x::(bn b ns).drop (t+1):=by
   conv=>lhs;rw[<-jN t (bn b ns)]
   rw[cJ ht];congr 2;exact(aF.mp hx).2
  have isl:x=(2*ns.length+3,cN b ns ns.length)<->(bn b ns).drop (t+1)=[]:=by
   constructor
   ·intro e;have nd:=ndW;rw[show wS b ns ns.length=_ from W0] at nd;have e2:(bn b ns).take t++x::(bn b ns).drop (t+1)=wl++x::[]:=by rw[<-W0,hwl,e]
    exact(kX nd e2).2
   ·intro e;rw[e] at W0;rw[W0] at hwl;have:=congrArg List.getLast? hwl;simpa using this
  refine gl (λz=>?_) (λz=>?_)
  ·have nl:(bn b ns).drop (t+1)≠[]:=λe=>z ((ch1 _ _).mpr (xsg.2.1.mpr (isl.mpr e)));obtain⟨y,B',hB⟩:∃y B',(bn b ns).drop (t+1)=y::B':=by
    cases e:(bn b ns).drop (t+1) with
    | nil=>exact absurd e nl
    | cons y B'=>exact⟨y,B',rfl⟩
   have W2:=W0;rw[hB] at W2;have t1:t+1<(bn b ns).length:=by
    rcases ft (t+1) (bn b ns).length with h | h
    ·exact h
    ·exact absurd (List.drop_eq_nil_of_le h) nl
   have hy:(bn b ns)[t+1]? = some y:=by
    have:=List.getElem?_drop (xs:=bn b ns) (i:=t+1) (j:=0);rw[hB] at this;simpa using this.symm
   have tk2:(bn b ns).take (t+1+1)=(bn b ns).take (t+1)++[y]:=by rw[bD (i:=t+1),hy];rfl
   refine⟨λσ' H'=>∃(x2 x3 x5 x6 x7:Option V) (aa:Addr),σ'=[some (.ref ll),some (.ref p),x2,x3,some (.ref aa),x5,x6,x7]/\ar H H'/\H' ll=some (.lst (lP ns.length (bI b ns false) (bI b ns true)))/\bu H' p (((bn b ns).take (t+1+1)).map dI)/\bS H' aa (dI x),λσ' H' ⟨x2,x3,x5,x6,x7,aa,e,h1,h2,h3,h4⟩=>⟨(bn b ns).length-(t+1),by lia,t+1,x2,x3,x5,x6,x7,_,e,h1,h2,h3,t1,.inr ⟨aa,x,t,rfl,rfl,hx,h4⟩,rfl⟩,?_⟩;refine bN (λσ H5=>σ=[some (.ref ll),some (.ref p),y2,y3,some va,some (.ref ta),y6,y7]/\H5=H4) ?_ ?_
   ·nofun;exact⟨_,_,bw.of a1,lst,by first | rfl | trivial,by first | rfl | trivial⟩
   rintro σ H5 ⟨rfl,e5⟩;have e5':=e5.symm;subst e5';nofun;refine⟨ac _,λfu nfu=>?_⟩;have v1:=(ar.refl H4).new (o:=.lst []) nfu;have fup:fu≠p:=(am a1 nfu).symm;have hfu:upd H4 fu (.lst []) fu=some (.lst []):=aE;have tax5:=tax.same v1;have hll5:=v1 _ _ hll4;refine bN (λσ H7=>∃x7:Option V,σ=[some (.ref ll),some (.ref p),y2,y3,some va,some (.ref ta),some (.ref fu),x7]/\(∀b o,b≠fu->H4 b=some o->H7 b=some o)/\bu H7 fu [dI y]) ?_ ?_
   ·nofun;refine⟨_,_,dD.of tax5,x1,?_⟩;nofun;refine⟨_,_,dD.of tax5,x2,two,λq1 n1=>?_⟩;have c1:((x.1:Nat):Int) - 1=((x.1 - 1:Nat):Int):=by lia
    have c2:((x.2:Nat):Int) - 1=((x.2 - 1:Nat):Int):=by lia
    nofun;rw[c1];have v2:=(ar.refl (upd H4 fu (.lst []))).new (o:=.tup [.int ((x.1 - 1:Nat):Int),.int (x.2:Nat)]) n1;have k1:bS (upd (upd H4 fu (.lst [])) q1 (.tup [.int ((x.1 - 1:Nat):Int),.int (x.2:Nat)])) q1 (dI (x.1 - 1,x.2)):=aE;have hfu6:=v2 _ _ hfu;have v12:=v1.trans v2;generalize upd (upd H4 fu (.lst [])) q1 (.tup [.int ((x.1 - 1:Nat):Int),.int (x.2:Nat)])=H6 at v2 k1 hfu6 v12 ⊢;have tax6:=tax.same v12;refine⟨_,_,dD.of tax6,x1,?_⟩;nofun;refine⟨_,_,dD.of tax6,x2,two,λq2 n2=>?_⟩;nofun;have v3:=(ar.refl H6).new (o:=.tup [.int ((x.1:Nat)+1),.int (x.2:Nat)]) n2;have k2:bS (upd H6 q2 (.tup [.int ((x.1:Nat)+1),.int (x.2:Nat)])) q2 (dI (x.1+1,x.2)):=aE;have hfu7:=v3 _ _ hfu6;have v13:=v12.trans v3;have k1:=k1.same v3;generalize upd H6 q2 (.tup [.int ((x.1:Nat)+1),.int (x.2:Nat)])=H7 at v3 k1 k2 hfu7 v13 ⊢;have tax7:=tax.same v13;refine⟨_,_,dD.of tax7,x1,_,_,dD.of tax7,x2,?_⟩;nofun;refine⟨two,λq3 n3=>?_⟩;nofun;rw[c2];have v4:=(ar.refl H7).new (o:=.tup [.int (x.1:Nat),.int ((x.2 - 1:Nat):Int)]) n3;have k3:bS (upd H7 q3 (.tup [.int (x.1:Nat),.int ((x.2 - 1:Nat):Int)])) q3 (dI (x.1,x.2 - 1)):=aE;have hfu8:=v4 _ _ hfu7;have v14:=v13.trans v4;have k1:=k1.same v4;have k2:=k2.same v4;generalize upd H7 q3 (.tup [.int (x.1:Nat),.int ((x.2 - 1:Nat):Int)])=H8 at v4 k1 k2 k3 hfu8 v14 ⊢;have tax8:=tax.same v14;refine⟨_,_,dD.of tax8,x1,_,_,dD.of tax8,x2,?_⟩;nofun;refine⟨two,λq4 n4=>?_⟩;nofun;have v5:=(ar.refl H8).new (o:=.tup [.int (x.1:Nat),.int ((x.2:Nat)+1)]) n4;have k4:bS (upd H8 q4 (.tup [.int (x.1:Nat),.int ((x.2:Nat)+1)])) q4 (dI (x.1,x.2+1)):=aE;have hfu9:=v5 _ _ hfu8;have v15:=v14.trans v5;have k1:=k1.same v5;have k2:=k2.same v5;have k3:=k3.same v5;generalize upd H8 q4 (.tup [.int (x.1:Nat),.int ((x.2:Nat)+1)])=H9 at v5 k1 k2 k3 k4 hfu9 v15 ⊢;refine⟨(show 4<=sizeLine by decide),λL nL=>?_⟩;have v6:=(ar.refl H9).new (o:=.lst [.ref q1,.ref q2,.ref q3,.ref q4]) nL;have hL:upd H9 L (.lst [.ref q1,.ref q2,.ref q3,.ref q4]) L=some (.lst ([q1,q2,q3,q4].map V.ref)):=aE;have hfuA:=v6 _ _ hfu9;have v16:=v15.trans v6;have prs:Paired (bS (upd H9 L (.lst [.ref q1,.ref q2,.ref q3,.ref q4]))) [q1,q2,q3,q4] ((vj x).map dI):=.cons (k1.same v6) (.cons (k2.same v6) (.cons (k3.same v6) (.cons (k4.same v6) .nil)));have Lfu:L≠fu:=(am hfu9 nL).symm;generalize upd H9 L (.lst [.ref q1,.ref q2,.ref q3,.ref q4])=HA at v6 hL hfuA v16 prs ⊢;clear k1 k2 k3 k4 v2 v3 v4 v5 v6 v12 v13 v14 v15 n1 n2 n3 n4 tax5 tax6 tax7 tax8 hfu6 hfu7 hfu8 hfu9 hll5;obtain⟨pv,hpv⟩:∃pv:Option kq,∀d:kq,(∀A' z,(bn b ns).take t=A'++[z]->d≠z)<->some d≠pv:=⟨((bn b ns).take t).getLast?,λd=>by
     constructor
     ·intro h e;rcases jO ((bn b ns).take t) with z | ⟨A',z,hz⟩
      ·rw[z] at e;cases e
      ·rw[hz] at e;have:d=z:=by simpa using e
       exact h A' z (by rw[hz];simp) this
     ·intro h A' z hz e;rw[hz,e] at h;simp at h⟩
    have fl:(vj x).filter (λd=>qh b ns d.1 d.2&&decide (some d≠pv))=[y]:=by
     refine m3 (xJ xin.1 xin.2.2.1) ?_ λd hd=>?_
     ·exact(tF xin.1 xin.2.2.1).mpr ((Bv O nc W2).mpr rfl).1
     ·rw[aY,RO,<-hpv,<-Bv O nc W2];exact⟨λh=>⟨(tF xin.1 xin.2.2.1).mp hd,h⟩,λh=>h.2⟩
    refine⟨⟨_,bw.of hL⟩,?_⟩;refine gW (xs:=[q1,q2,q3,q4].map V.ref) (λi σ HB=>∃x7:Option V,σ=[some (.ref ll),some (.ref p),y2,y3,some va,some (.ref ta),some (.ref fu),x7]/\(∀b o,b≠fu->HA b=some o->HB b=some o)/\bu HB fu ((((vj x).take i).filter (λd=>qh b ns d.1 d.2&&decide (some d≠pv))).map dI)) ⟨_,rfl,λ_ _ _ h=>h,[],hfuA,.nil⟩ (λi σ HB _ ⟨_,_,kp,_⟩=>bw.of (kp _ _ Lfu hL)) ?_ ?_
    ·rintro i v σ HB hv ⟨x7,rfl,kp,boB⟩;obtain⟨qd,hqd,rfl⟩:=iF hv;obtain⟨cz,hcz,tqd⟩:=io prs hqd;rw[aP] at hcz;obtain⟨d,hd,rfl⟩:=cC.mp hcz;have dm:=(tF xin.1 xin.2.2.1).mp (aR hd);have db:d.1<2*ns.length+5/\d.2<dC (bI b ns false) (bI b ns true):=by
      unfold Es at dm;lia
     have qdf:qd≠fu:=λe=>by rw[e] at tqd;rw[show HA fu=_ from tqd] at hfuA;cases hfuA
     have tqB:bS HB qd (dI d):=kp _ _ qdf tqd;have hllA:=v16 _ _ hll4;have hllB:=kp _ _ (am hll4 nfu) hllA;have d1:nG [V.int (dI d).1,V.int (dI d).2] 0=some (.int (d.1:Nat)):=rfl;have d2:nG [V.int (dI d).1,V.int (dI d).2] 1=some (.int (d.2:Nat)):=rfl;have tk3:(vj x).take (i+1)=(vj x).take i++[d]:=by rw[bD,hd];rfl
     nofun;refine⟨_,_,dD.of tqB,d1,?_⟩;nofun;refine rQ (by lia) ⟨_,.inl (bw.of hllB),?_⟩;nofun;rw[lln];refine nR (by lia) ⟨_,_,dD.of tqB,d2,?_⟩;nofun;refine rQ (by lia) ⟨_,_,dD.of tqB,d1,?_⟩;nofun;refine⟨_,_,bw.of hllB,lat d.1 db.1,_,rfl,by rw[szl];exact wsz,?_⟩;nofun;rw[szl];refine nR (by lia) ?_;have celi:∀{c e:kq},dI c=dI e->c=e:=fun {c e} h=>by
      unfold dI at h;simp only[lT] at h;exact fE (by lia) (by lia)
     have hne:∀R:VK,R (.bl (decide (some d≠pv))) HB->yj K true (.ref qd) va HB R:=λR hR=>by
      rcases hva with ⟨t0,rfl⟩ | ⟨aa,z',t',rfl,rfl,hz',taa⟩
      ·refine EF tqB ?_;have:some d≠pv:=(hpv d).mp λA' z' e=>by rw[t0] at e;simp at e
       rw[RQ this] at hR;exact hR
      ·have aaf:aa≠fu:=λe=>by rw[e] at taa;rw[show H4 fu=_ from taa] at nfu;cases nfu
       have taB:bS HB aa (dI z'):=kp _ _ aaf (v16 _ _ taa);refine GU tqB taB ?_;have tkz:(bn b ns).take (t'+1)=(bn b ns).take t'++[z']:=by rw[bD,hz'];rfl
       have:(!decide (dI d=dI z'))=decide (some d≠pv):=by
        by_cases e:d=z'
        ·have h2:¬(some d≠pv):=λh=>(hpv d).mpr h _ _ tkz e;rw[RP h2,e,RQ rfl];rfl
        ·have h2:some d≠pv:=(hpv d).mp λA' z2 h3 h4=>by
          rw[tkz] at h3;have:=congrArg List.getLast? h3;simp at this;exact e (by rw[h4,this])
         rw[RQ h2,RP λh=>e (celi h)];rfl
       rw[this];exact hR
     have skip:(qh b ns d.1 d.2&&decide (some d≠pv))=false->bu HB fu ((((vj x).take (i+1)).filter (λd=>qh b ns d.1 d.2&&decide (some d≠pv))).map dI):=λh=>by
      rw[tk3,cf,gM (by rw[h];decide),gY,cH];exact boB
     refine hne _ ⟨_,rfl,gl (λnp'=>?_) (λnp'=>?_)⟩
     ·refine⟨_,_,dD.of tqB,d1,?_⟩;nofun;refine⟨_,_,bw.of hllB,lat d.1 db.1,_,_,dD.of tqB,d2,?_⟩;nofun;refine⟨by rw[szl];exact wsz,_,cat d.1 d.2 db.2,?_⟩;rw[sh];refine gl (λno=>?_) (λno=>?_)
      ·have op:qh b ns d.1 d.2=true:=by
        cases e:qh b ns d.1 d.2 with
        | true=>rfl
        | false=>exact absurd ((ch1 _ _).mpr (sR.mpr e)) no
       obtain⟨fs,f1,f2⟩:=id boB;have fl4:fs.length<=4:=by
        rw[au f2,aA];exact bF (fW _ _) (by rw[bj];exact Nat.min_le_right _ _)
       refine⟨gP f1,_,f1,by rw[aA];exact bQ (by lia),_,by first | rfl | trivial,λu o nu hu=>by rw[aO nu];exact kp u o nu hu,?_⟩;rw[tk3,cf,gL (by rw[op,eW];exact np'),gY,aX];exact kY f1 f2 tqB
      ·have op:qh b ns d.1 d.2=false:=sR.mp ((ch1 _ _).mp (fx.mp no));exact⟨_,by first | rfl | trivial,kp,skip (by rw[op];rfl)⟩
     ·exact⟨_,rfl,kp,skip (by rw[Bool.eq_false_iff];intro h;rw[aY] at h;exact np' h.2)⟩
    ·rintro σ HB ⟨x7,rfl,kp,boB⟩;rw[show ([q1,q2,q3,q4].map V.ref).length=(vj x).length from rfl,bZ,fl] at boB;exact⟨_,rfl,λb o nb hb=>kp b o nb (v16 _ _ hb),boB⟩
   rintro σ H7 ⟨x7,rfl,kp7,bo7⟩;have a7:=kp7 _ _ fup.symm a1;have bo47:bu H7 p (((bn b ns).take (t+1)).map dI):=⟨as,a7,Paired.mapP a2 λu w hu=>kp7 _ _ (λe=>by rw[e] at hu;rw[show H4 fu=_ from hu] at nfu;cases nfu) hu⟩
   have s7:ar H H7:=λu o hu=>kp7 _ _ (λe=>by rw[e] at hu;rw[s4 _ _ hu] at nfu;cases nfu) (s4 _ _ hu);have hll7:=kp7 _ _ (am hll4 nfu) hll4;have tax7:bS H7 ta (dI x):=kp7 _ _ (λe=>by rw[e] at tax;rw[show H4 fu=_ from tax] at nfu;cases nfu) tax;obtain⟨fs,f1,f2⟩:=id bo7
   match fs,f2 with
   | [qy],.cons ty .nil=>
    refine bN (λσ H8=>σ=[some (.ref ll),some (.ref p),y2,y3,some va,some (.ref ta),some (.ref fu),x7]/\H8=H7) ?_ ?_
    ·nofun;exact⟨_,.inl (bw.of f1),nR (by simp) ⟨_,.inl (bw.of a7),nR (by rw[aA];lia) ⟨by first | rfl | trivial,by first | rfl | trivial⟩⟩⟩
    rintro σ H8 ⟨rfl,e8⟩;have e8':=e8.symm;subst e8';nofun;have tap:ta≠p:=λe=>by rw[e] at tax7;rw[show H7 p=_ from tax7] at a7;cases a7
    refine⟨gP a7,_,_,bw.of f1,rfl,_,a7,by rw[aA,Qf];lia,_,_,_,_,_,ta,rfl,s7.new np,by rw[aO lp];exact hll7,?_,?_⟩
    ·rw[tk2,aX];obtain⟨as',b1,b2⟩:=bo47;rw[a7] at b1;have ea:as.map V.ref=as'.map V.ref:=by injection b1 with b1;injection b1
     rw[ea] at a7 ⊢;exact kY a7 b2 ty
    ·show upd H7 p _ ta=_;rw[aO tap];exact tax7
  ·have e64:=(ch1 _ _).mp (fx.mp z);have hd:=isl.mp (xsg.2.1.mp e64);have tl:(bn b ns).take (t+1)=bn b ns:=by
    have:=jN (t+1) (bn b ns);rw[hd,cH] at this;exact this
   rw[tl] at bo4;exact q p H4 np s4 bo4
theorem uD (B:o8 mg) (E:Fn K mg "open_cells" iA ["text"]):ef P w K mg base 1 "open_cells" iA ["text"] AK:=E.mk' λf fd F=>by
 refine F.okS gZ (λvs H Q E h=>?_) (λcdv A outer s H vs Q E hr h=>?_)
 ·obtain⟨b,ns,rfl,_⟩:=h;rfl
 ·obtain⟨b,ns,rfl,O,nc,q⟩:=h;refine⟨[some (.str (tx (lZ ns.length (bI b ns false) (bI b ns true)))),none,none,none,none,none],_,rfl,(L2.jI.h (aI (ak (i:=1) gZ.nd rfl (Or.inl rfl) lg)
   (aI (ci aZ rfl (BD (by rfl) B.enumerate (cn (eO dv m9 m8 xM (a9 0) (cO cF aB)) aB)) (lB (n:=2) rfl (eC (bP (i:=2) gZ.nd rfl (Or.inl rfl)) (eC (bP (i:=3) gZ.nd rfl (Or.inl rfl)) ji)))
   (aL (ci aZ rfl (DY (by rfl) B.enumerate (aG (a9 3) aB)) (lB (n:=2) rfl (eC (bP (i:=4) gZ.nd rfl (Or.inl rfl)) (eC (bP (i:=5) gZ.nd rfl (Or.inl rfl)) ji)))
    (aL (cj (bX pf (a9 5) (i7 (by rfl) B.WALL) (bp _))
     (aL (gG (i9 hr) (a9 1) (dA (aG (a9 2) (aG (a9 4) aB))) (a9 5) rfl))
     bi)))))
   (aL (bY (a9 1)))))),?_⟩
  have two:(2:Nat)<=sizeLine:=by decide
  have l20:=O.len;have w85:=vK (b:=b) O;have lln:(lP ns.length (bI b ns false) (bI b ns true)).length=2*ns.length+5:=by rw[aA,aA,aA,cy]
  have lnat:∀i,i<2*ns.length+5->(lP ns.length (bI b ns false) (bI b ns true))[i]? = some (.str (tx (iN ns.length (bI b ns false) (bI b ns true) i))):=λi hi=>by
   rw[aP,aP,aP,fG hi];rfl
  have szl:∀i,(tx (iN ns.length (bI b ns false) (bI b ns true) i)).cps.size=dC (bI b ns false) (bI b ns true):=λi=>by rw[<-rY (n:=ns.length) i];simp[tx]
  have sh:Str.ofString "#"=(⟨#[35]⟩:Str):=by decide +kernel
  have ch1:∀(c d:Nat),((⟨#[c]⟩:Str)=⟨#[d]⟩)<->c=d:=λc d=>⟨λe=>by injection e with e;simpa using e,λe=>by rw[e]⟩
  nofun;intro d nd;refine⟨rfl,_,_,rfl,rfl,by decide +kernel,?_,λll nll=>?_⟩
  ·have h1:=qq (l6 ns.length (bI b ns false) (bI b ns true)) λr hr=>by
    obtain⟨i,_,rfl⟩:=aT.mp hr;rw[rY];lia
   have h2:(l6 ns.length (bI b ns false) (bI b ns true)).length<=45:=by unfold l6;rw[aA,cy];lia
   rw[sH];show (fj (l6 ns.length (bI b ns false) (bI b ns true))).length<=100000;lia
  have e':(Txt.split (tx (lZ ns.length (bI b ns false) (bI b ns true))) (Str.ofString "\n")).map V.str=lP ns.length (bI b ns false) (bI b ns true):=congrArg (List.map V.str) (wM (rs:=l6 ns.length (bI b ns false) (bI b ns true)) (wd _ _ _) sX);rw[e'];have ld:ll≠d:=(am (show upd H d (.dT []) d=some (.dT []) from aE) nll).symm;have s1:=((ar.refl H).new (o:=.dT []) nd).trans ((ar.refl (upd H d (.dT []))).new (o:=.lst (lP ns.length (bI b ns false) (bI b ns true))) nll);have hll:upd (upd H d (.dT [])) ll (.lst (lP ns.length (bI b ns false) (bI b ns true))) ll=some (.lst (lP ns.length (bI b ns false) (bI b ns true))):=aE;have hd:upd (upd H d (.dT [])) ll (.lst (lP ns.length (bI b ns false) (bI b ns true))) d=some (.dT []):=by rw[aO ld.symm,aE]
  generalize upd (upd H d (.dT [])) ll (.lst (lP ns.length (bI b ns false) (bI b ns true)))=H1 at s1 hll hd ⊢;refine⟨ll,rfl,⟨_,bw.of hll⟩,?_⟩;refine Bc (xs:=lP ns.length (bI b ns false) (bI b ns true)) (λk σ H'=>∃kvs cs,∃x2 x3 x4 x5:Option V,σ=[some (.str (tx (lZ ns.length (bI b ns false) (bI b ns true)))),some (.ref d),x2,x3,x4,x5]/\ar H H'/\H' ll=some (.lst (lP ns.length (bI b ns false) (bI b ns true)))/\H' d=some (.dT kvs)/\jQ b ns k 0 kvs cs) ⟨_,_,_,_,_,_,rfl,s1,hll,hd,jQ.nil⟩ (λi σ H' ⟨_,_,_,_,_,_,_,_,h,_⟩=>h) ?_ ?_
  ·rintro k v σ H2 p hv ⟨kvs,cs,x2,x3,x4,x5,rfl,s2,hll2,hd2,C⟩ np;have hk:=(aF.mp hv).1;rw[lln] at hk;rw[lnat k hk] at hv;cases hv;have v3:=(ar.refl H2).new (o:=.tup [.int k,.str (tx (iN ns.length (bI b ns false) (bI b ns true) k))]) np;have hp3:upd H2 p (.tup [.int k,.str (tx (iN ns.length (bI b ns false) (bI b ns true) k))]) p=some (.tup [.int k,.str (tx (iN ns.length (bI b ns false) (bI b ns true) k))]):=aE;have s3:=s2.trans v3;have hll3:=v3 _ _ hll2;have hd3:=v3 _ _ hd2;generalize upd H2 p (.tup [.int k,.str (tx (iN ns.length (bI b ns false) (bI b ns true) k))])=H3 at hp3 s3 hll3 hd3 ⊢;nofun;refine⟨_,dD.of hp3,rfl,?_⟩;nofun;refine⟨FV,?_⟩;refine E8 (x:=tx (iN ns.length (bI b ns false) (bI b ns true) k)) (λj σ H'=>∃kvs cs,∃x4 x5:Option V,σ=[some (.str (tx (lZ ns.length (bI b ns false) (bI b ns true)))),some (.ref d),some (.int k),some (.str (tx (iN ns.length (bI b ns false) (bI b ns true) k))),x4,x5]/\ar H H'/\H' ll=some (.lst (lP ns.length (bI b ns false) (bI b ns true)))/\H' d=some (.dT kvs)/\jQ b ns k j kvs cs) ⟨_,_,_,_,rfl,s3,hll3,hd3,C⟩ ?_ ?_
   ·rintro j c σ H4 p4 hc ⟨kvs,cs,x4,x5,rfl,s4,hll4,hd4,C⟩ np4;have hj:=(gz.mp hc).1;rw[szl] at hj;have ec:c=signG ns.length (bI b ns false) (bI b ns true) k j:=by
     have h1:(tx (iN ns.length (bI b ns false) (bI b ns true) k)).cps.toList[j]? = some c:=by rw[fX];exact hc
     rw[C6,AQ hj] at h1;exact(bH h1).symm
    subst ec;have v5:=(ar.refl H4).new (o:=.tup [.int j,.str ⟨#[signG ns.length (bI b ns false) (bI b ns true) k j]⟩]) np4;have hp5:upd H4 p4 (.tup [.int j,.str ⟨#[signG ns.length (bI b ns false) (bI b ns true) k j]⟩]) p4=some (.tup [.int j,.str ⟨#[signG ns.length (bI b ns false) (bI b ns true) k j]⟩]):=aE;have s5:=s4.trans v5;have hll5:=v5 _ _ hll4;have hd5:=v5 _ _ hd4;generalize upd H4 p4 (.tup [.int j,.str ⟨#[signG ns.length (bI b ns false) (bI b ns true) k j]⟩])=H5 at hp5 s5 hll5 hd5 ⊢;nofun;refine⟨_,dD.of hp5,rfl,?_⟩;nofun;rw[sh];refine gl (λz=>⟨two,λpk nk=>?_⟩) (λz=>?_)
    ·have op:qh b ns k j=true:=by
      cases e:qh b ns k j with
      | true=>rfl
      | false=>exact absurd ((ch1 _ _).mpr (sR.mpr e)) z
     have v6:=(ar.refl H5).new (o:=.tup [.int k,.int j]) nk;have hk6:upd H5 pk (.tup [.int k,.int j]) pk=some (.tup ((sK k j).map kV)):=aE;have s6:=s5.trans v6;have hll6:=v6 _ _ hll5;have hd6:=v6 _ _ hd5;generalize upd H5 pk (.tup [.int k,.int j])=H6 at hk6 s6 hll6 hd6 ⊢;have cl:=C.len O nc;exact⟨_,mO.t hd6 hk6 (by rw[Qf];lia),_,_,_,_,rfl,s6.new nd,by rw[aO ld];exact hll6,aE,C.put op⟩
    ·have op:qh b ns k j=false:=sR.mp ((ch1 _ _).mp (fx.mp z));exact⟨_,_,_,_,rfl,s5,hll5,hd5,C.skip op⟩
   ·rintro σ H4 ⟨kvs,cs,x4,x5,rfl,s4,hll4,hd4,C⟩;rw[szl] at C;exact⟨_,_,_,_,_,_,rfl,s4,hll4,hd4,C.line O nc⟩
  ·rintro σ H2 ⟨kvs,cs,x2,x3,x4,x5,rfl,s2,hll2,hd2,C⟩;rw[lln] at C;nofun;exact q d kvs cs H2 nd s2 hd2 (C.all O nc)
theorem uE (E:Fn K mg "neighbours" iB ["cell"]):ef P w K mg base 1 "neighbours" iB ["cell"] LL:=E.mk' λf fd F=>by
 refine F.okS lL (λvs H Q E h=>?_) (λcdv A outer s H vs Q E hr h=>?_)
 ·obtain⟨a,c,rfl,_⟩:=h;rfl
 ·obtain⟨a,x,rfl,ta,h1,h2,q⟩:=h;refine⟨[some (.ref a),none,none],_,rfl,(L2.jI.h (aI (ak (i:=1) lL.nd rfl (Or.inl rfl) (aU bf (a9 0) aC (λ_ _=>rfl)))
   (aI (ak (i:=2) lL.nd rfl (Or.inl rfl) (aU bf (a9 0) aC (λ_ _=>rfl)))
   (aL (bY (cu (dS (dA (cX (ae fY (a9 1) aC) (aG (a9 2) aB))) (dS (dA (cX (ae c9 (a9 1) aC) (aG (a9 2) aB))) (dS (dA (aG (a9 1) (cX (ae fY (a9 2) aC) aB))) (dS (dA (aG (a9 1) (cX (ae c9 (a9 2) aC) aB))) aB)))))))))),?_⟩
  have two:(2:Nat)<=sizeLine:=by decide
  have c1:((x.1:Nat):Int) - 1=((x.1 - 1:Nat):Int):=by lia
  have c2:((x.2:Nat):Int) - 1=((x.2 - 1:Nat):Int):=by lia
  have x1:nG [V.int (dI x).1,V.int (dI x).2] 0=some (.int (x.1:Nat)):=rfl;have x2:nG [V.int (dI x).1,V.int (dI x).2] 1=some (.int (x.2:Nat)):=rfl;nofun;refine⟨_,_,dD.of ta,x1,_,_,dD.of ta,x2,?_⟩;nofun;rw[c1,c2];refine⟨two,λq1 n1=>?_⟩;have v1:=(ar.refl H).new (o:=.tup [.int ((x.1 - 1:Nat):Int),.int (x.2:Nat)]) n1;have k1:bS (upd H q1 (.tup [.int ((x.1 - 1:Nat):Int),.int (x.2:Nat)])) q1 (dI (x.1 - 1,x.2)):=aE;generalize upd H q1 (.tup [.int ((x.1 - 1:Nat):Int),.int (x.2:Nat)])=H1 at v1 k1 ⊢;refine⟨two,λq2 n2=>?_⟩;have v2:=(ar.refl H1).new (o:=.tup [.int ((x.1:Nat)+1),.int (x.2:Nat)]) n2;have k2:bS (upd H1 q2 (.tup [.int ((x.1:Nat)+1),.int (x.2:Nat)])) q2 (dI (x.1+1,x.2)):=aE;generalize upd H1 q2 (.tup [.int ((x.1:Nat)+1),.int (x.2:Nat)])=H2 at v2 k2 ⊢;refine⟨two,λq3 n3=>?_⟩;have v3:=(ar.refl H2).new (o:=.tup [.int (x.1:Nat),.int ((x.2 - 1:Nat):Int)]) n3;have k3:bS (upd H2 q3 (.tup [.int (x.1:Nat),.int ((x.2 - 1:Nat):Int)])) q3 (dI (x.1,x.2 - 1)):=aE;generalize upd H2 q3 (.tup [.int (x.1:Nat),.int ((x.2 - 1:Nat):Int)])=H3 at v3 k3 ⊢;refine⟨two,λq4 n4=>?_⟩;have v4:=(ar.refl H3).new (o:=.tup [.int (x.1:Nat),.int ((x.2:Nat)+1)]) n4;have k4:bS (upd H3 q4 (.tup [.int (x.1:Nat),.int ((x.2:Nat)+1)])) q4 (dI (x.1,x.2+1)):=aE;generalize upd H3 q4 (.tup [.int (x.1:Nat),.int ((x.2:Nat)+1)])=H4 at v4 k4 ⊢;refine⟨(show 4<=sizeLine by decide),λl nl=>?_⟩;have v5:=(ar.refl H4).new (o:=.lst [.ref q1,.ref q2,.ref q3,.ref q4]) nl;have v14:=v1.trans (v2.trans (v3.trans v4));exact q l _ (v14.free nl) (v14.trans v5) ⟨[q1,q2,q3,q4],aE,.cons (k1.same (v2.trans (v3.trans (v4.trans v5)))) (.cons (k2.same (v3.trans (v4.trans v5))) (.cons (k3.same (v4.trans v5)) (.cons (k4.same v5) .nil)))⟩
theorem o9 (B:o8 mg) (E:Fn K mg "trail_from_mouth" eM ["cells"]) (Na:ef P w K mg base 1 "neighbours" iB ["cell"] LL):ef P w K mg base 2 "trail_from_mouth" eM ["cells"] AE:=E.mk' λf fd F=>by
 refine F.okS dz (λvs H Q E h=>?_) (λcdv A outer s H vs Q E hr h=>?_)
 ·obtain⟨d,b,ns,kvs,cs,rfl,_⟩:=h;rfl
 ·obtain⟨d,b,ns,kvs,cs,rfl,hd,C,O,nc,q⟩:=h;refine⟨[some (.ref d),none,none,none,none],_,rfl,(L2.jI.h (cU (ug (i:=1) dz.nd rfl (Or.inl rfl) (own:=["cell"]) (ns:=["cells"]) (caps:=[0]) rfl ⟨rfl,by decide +kernel,by decide +kernel,by decide +kernel⟩ (.cons rfl rfl (.inl rfl) .nil) (a9 0) (λC s H fp pn=>(bP (i:=0) (show List.Nodup ((["cell"]:List Str)++(["cells"]:List Str)) by decide +kernel) rfl (Or.inl rfl))) (λC s H fp pn=>(vd (bX iI (fh (i9 hr) (a9 1) (a9 0) (λ_ _=>rfl)) (i7 (by rfl) B.MOUTH) (bp _)))) (λC s H fp pn=>(a9 0)))
   (aI (ak (i:=2) dz.nd rfl (Or.inl rfl) (cu aB))
   (aI (ak (i:=3) dz.nd rfl (Or.inr rfl) lg)
   (aI (l9 aZ (uc (a9 1) (λ_=>rfl))
   (aI (ak (i:=4) dz.nd rfl (Or.inl rfl) (aU bV (a9 1) aC (λ_ _=>rfl)))
    (aI (cZ (eO a8 aq ao dH (a9 2) (aG (a9 4) aB)))
    (aI (gG (i9 hr) (a9 3) (a9 4) pD rfl)
    (aL (wm (i:=1) dz.nd rfl (Or.inl rfl) (own:=["cell"]) (ns:=["cells","met"]) (caps:=[0,3]) rfl ⟨rfl,by decide +kernel,by decide +kernel,by decide +kernel⟩ (.cons rfl rfl (.inl rfl) (.cons rfl rfl (.inl rfl) .nil)) (eZ (aj Na (hr.mono (by decide)) (by rfl) (aG (a9 4) aB))) (λC s H fp pn=>(bP (i:=0) (show List.Nodup ((["cell"]:List Str)++(["cells","met"]:List Str)) by decide +kernel) rfl (Or.inl rfl))) (λC s H fp pn=>(vd (QW.pt (oW (Fb (i9 hr) (a9 0) (a9 1)) (l8 (yk (i9 hr) (a9 0) (a9 2))))))) (λC s H fp pn=>(a9 0))))))))
   (aL (bY (a9 2)))))))),?_⟩
  have W1:=oG O nc (b:=b);have c38:=C.len O nc;obtain⟨w0,hw0⟩:=kx (b:=b) (ns:=ns) ns.length;have ndW:=nT O nc (b:=b) (aH _);have Wl:0<(bn b ns).length:=by rw[show bn b ns=_ from hw0];simp
  have sv:Str.ofString "v"=(⟨#[118]⟩:Str):=by decide +kernel
  have ch1:∀(c d:Nat),((⟨#[c]⟩:Str)=⟨#[d]⟩)<->c=d:=λc d=>⟨λe=>by injection e with e;simpa using e,λe=>by rw[e]⟩
  have W0m:(1,cN b ns 0)∈bn b ns:=by rw[show bn b ns=_ from hw0];simp
  refine bN (λσ H1=>∃ah,σ=[some (.ref d),some (.ref ah),none,none,none]/\ar H H1/\bu H1 ah [dI (1,cN b ns 0)]) ?_ ?_
  ·nofun;refine⟨_,hd,λo=>?_⟩;have kl:kvs.length=cs.length:=by rw[C.is,aA]
   have fl:cs.filter (λc=>decide (c=(1,cN b ns 0)))=[(1,cN b ns 0)]:=m3 C.nd ((C.op _).mpr ((hU O nc).mp W0m)) λe _=>by rw[RO]
   refine uz (a:=d) (o:=o) (kvs:=kvs) (by rw[kl,Qf];lia) (λj ys σ H'=>H'=upd H d (.frz o (.dT kvs))/\(∃as:List Addr,ys=as.map V.ref/\Paired (bS (upd H d (.frz o (.dT kvs)))) as (((cs.take j).filter (λc=>decide (c=(1,cN b ns 0)))).map dI))/\∃x0:Option V,σ=[x0,some (.ref d)]) ⟨rfl,⟨[],rfl,.nil⟩,_,rfl⟩ ?_ ?_ ?_
   ·rintro j ys σ H' ⟨rfl,⟨as,rfl,pr⟩,_⟩;refine⟨aE,?_⟩;rw[aA,au pr,aA];exact bF (fW _ _) (by rw[bj];lia)
   ·rintro j k v bb ys σ H' N hkv hb ⟨rfl,⟨as,rfl,pr⟩,x0,rfl⟩ hN;have hkv':=hkv;rw[C.is,aP] at hkv;obtain⟨c,hc,e⟩:=cC.mp hkv;obtain⟨rfl,rfl⟩:=Prod.mk.inj e;have cm:=aR hc;have tk:cs.take (j+1)=cs.take j++[c]:=by rw[bD,hc];rfl
    have gv:eI kvs (sK c.1 c.2)=some (l3 (signG ns.length (bI b ns false) (bI b ns true) c.1 c.2)):=by rw[C.is];exact zW cm
    nofun;refine⟨_,.inr ⟨kvs,sK c.1 c.2,bb,.inr ⟨o,aE⟩,rfl,hb,gv.symm⟩,?_⟩;have tb:bS (upd H d (.frz o (.dT kvs))) bb (dI c):=hb;unfold l3;nofun;rw[sv];refine gl (λz=>?_) (λz=>?_)
    ·obtain⟨e1,e2⟩:=(oZ O nc).mp ((ch1 _ _).mp z);refine hN _ _ _ ⟨rfl,⟨as++[bb],by simp,?_⟩,_,rfl⟩;rw[tk,cf,gL (by rw[RO];exact fE e1 e2),gY,aX];exact n8 pr tb
    ·refine hN _ _ _ ⟨rfl,⟨as,rfl,?_⟩,_,rfl⟩;rw[tk,cf,gM (λy=>z ((ch1 _ _).mpr ((oZ O nc).mpr (by rw[RS y];exact⟨rfl,rfl⟩)))),gY,cH];exact pr
   ·rintro ys σ H' p ⟨rfl,⟨as,rfl,pr⟩,x0,rfl⟩ np;rw[kl,bZ,fl] at pr;have dp:d≠p:=λe=>by subst e;rw[aE] at np;cases np
    have np':H p=none:=by rw[aO dp.symm] at np;exact np
    have s1:ar H (upd (upd (upd H d (.frz o (.dT kvs))) p (.lst (as.map V.ref))) d (.dT kvs)):=λu o' hu=>by
     by_cases e:u=d
     ·subst e;rw[aE];rw[hd] at hu;exact hu
     ·rw[aO e,aO (am hu np'),aO e];exact hu
    refine⟨by rw[aO dp,aE],p,rfl,s1,as,by rw[aO dp.symm,aE],Paired.mapP pr λu w hu=>?_⟩;have ud:u≠d:=λe=>by
     subst e;have hu2:upd H u (.frz o (.dT kvs)) u=some (.tup [.int w.1,.int w.2]):=hu;rw[aE] at hu2;cases hu2
    have hu':upd H d (.frz o (.dT kvs)) u=some (.tup [.int w.1,.int w.2]):=hu;show upd _ d _ u=_;rw[aO ud,aO (am hu' np)];exact hu
  rintro σ H1 ⟨ah,rfl,s1,bo1⟩;have hd1:=s1 _ _ hd;nofun;refine⟨ac _,λtr ntr mt nmt=>?_⟩;have v2:=((ar.refl H1).new (o:=.lst []) ntr).trans ((ar.refl (upd H1 tr (.lst []))).new (o:=.dT []) nmt);have tm:tr≠mt:=(am (show upd H1 tr (.lst []) tr=some (.lst []) from aE) nmt)
  have nmt1:H1 mt=none:=by rw[aO tm.symm] at nmt;exact nmt
  have nHt:=s1.free ntr;have nHm:=s1.free nmt1;have at_:ah≠tr:=am bo1.choose_spec.1 ntr;have hT:upd (upd H1 tr (.lst [])) mt (.dT []) tr=some (.lst []):=by rw[aO tm,aE]
  have hM:upd (upd H1 tr (.lst [])) mt (.dT []) mt=some (.dT []):=aE;have bo2:=bo1.same v2;have s2:=s1.trans v2;generalize upd (upd H1 tr (.lst [])) mt (.dT [])=H2 at hT hM bo2 s2 ⊢;clear v2 nmt ntr;have W00:(bn b ns)[0]? = some (1,cN b ns 0):=by rw[show bn b ns=_ from hw0];rfl
  refine⟨λm σ H3=>∃(t:Nat) (ah:Addr) (x4:Option V),σ=[some (.ref d),some (.ref ah),some (.ref tr),some (.ref mt),x4]/\ah≠tr/\ar H H3/\bu H3 tr (((bn b ns).take t).map dI)/\H3 mt=some (.dT (((bn b ns).take t).map λc=>(sK c.1 c.2,V.bl true)))/\bu H3 ah ((bn b ns)[t]?.toList.map dI)/\t<=(bn b ns).length/\m=(bn b ns).length-t,⟨_,0,ah,none,rfl,at_,s2,⟨[],hT,.nil⟩,hM,by rw[W00];exact bo2,ac _,rfl⟩,?_⟩;clear bo2 s2 hT hM at_ bo1 s1 hd1;rintro m σ H3 ⟨t,ah,x4,rfl,at_,s3,bo3,hm3,M8,ht,rfl⟩;obtain⟨as,a1,a2⟩:=id bo3;have la:=au a2;rw[aA,bj,Nat.min_eq_left ht] at la;obtain⟨fs,f1,f2⟩:=id M8;nofun;rcases ft t (bn b ns).length with t1 | t1
  ·obtain⟨x,hx⟩:∃x,(bn b ns)[t]? = some x:=⟨_,aJ t1⟩
   rw[hx] at f2
   match fs,f2 with
   | [qa],.cons tq .nil=>
    refine⟨true,.inl ⟨_,bw.of f1,by simp⟩,?_⟩;rw[RN rfl];have xw:=aR hx;have xin:=lK O nc xw;have tk1:(bn b ns).take (t+1)=(bn b ns).take t++[x]:=by rw[bD,hx];rfl
    have W0:bn b ns=(bn b ns).take t++x::(bn b ns).drop (t+1):=by
     conv=>lhs;rw[<-jN t (bn b ns)]
     rw[cJ t1];congr 2;exact(aF.mp hx).2
    have hy:(bn b ns)[t+1]? = ((bn b ns).drop (t+1)).head?:=by
     rw[List.head?_drop]
    have fl:(vj x).filter (λd=>decide (d∈cs)&&!decide (d∈(bn b ns).take (t+1)))=(bn b ns)[t+1]?.toList:=by
     have key:∀y∈vj x,(decide (y∈cs)&&!decide (y∈(bn b ns).take (t+1)))=true<->∃B',(bn b ns).drop (t+1)=y::B':=λy hy'=>by
      rw[<-sE O nc W0,aY,RO,C.op,tk1];simp only[Bool.not_eq_true',decide_eq_false_iff_not,aW,dL,not_or];exact⟨λh=>⟨(tF xin.1 xin.2.2.1).mp hy',h.1,h.2⟩,λh=>h.2⟩
     rw[hy];cases e:(bn b ns).drop (t+1) with
     | nil=>
      refine jA.mpr λy hy' h=>?_;obtain⟨B',hB⟩:=(key y hy').mp h;rw[e] at hB;cases hB
     | cons y B=>
      refine m3 (xJ xin.1 xin.2.2.1) ?_ λy' hy'=>?_
      ·exact(tF xin.1 xin.2.2.1).mpr ((sE O nc W0).mpr ⟨B,e⟩).1
      ·rw[key y' hy',e];exact⟨λ⟨B',h⟩=>(cG h).1.symm,λh=>⟨B,by rw[h]⟩⟩
    refine⟨λσ' H'=>∃ah',σ'=[some (.ref d),some (.ref ah'),some (.ref tr),some (.ref mt),some (.ref qa)]/\ah'≠tr/\ar H H'/\bu H' tr (((bn b ns).take (t+1)).map dI)/\H' mt=some (.dT (((bn b ns).take (t+1)).map λc=>(sK c.1 c.2,V.bl true)))/\bu H' ah' ((bn b ns)[t+1]?.toList.map dI),λσ' H' ⟨ah',e,h1,h2,h3,h4,h5⟩=>⟨_,by lia,t+1,ah',_,e,h1,h2,h3,h4,h5,t1,rfl⟩,?_⟩;have qt:qa≠tr:=λe=>by rw[e] at tq;rw[show H3 tr=_ from tq] at a1;cases a1
    have qm:qa≠mt:=λe=>by rw[e] at tq;rw[show H3 mt=_ from tq] at hm3;cases hm3
    have tm4:upd H3 tr (.lst (as.map V.ref++[.ref qa])) mt=some (.dT (((bn b ns).take t).map λc=>(sK c.1 c.2,V.bl true))):=by rw[aO tm.symm];exact hm3
    have tq4:upd H3 tr (.lst (as.map V.ref++[.ref qa])) qa=some (.tup ((sK x.1 x.2).map kV)):=by rw[aO qt];exact tq
    have bo4:=kY a1 a2 tq;have s4:ar H (upd H3 tr (.lst (as.map V.ref++[.ref qa]))):=s3.new nHt;refine⟨_,_,bw.of f1,rfl,gP a1,_,a1,by rw[aA,la,Qf];lia,_,mO.t (k:=sK x.1 x.2) tm4 tq4 (by rw[aA,bj,Qf];lia),?_⟩;generalize upd H3 tr (.lst (as.map V.ref++[.ref qa]))=H4 at tm4 tq4 bo4 s4 ⊢;have xnm:x∉(bn b ns).take t:=λhm=>by
     have nd:=ndW;rw[show wS b ns ns.length=_ from W0,cS] at nd;exact nd.2.2 x hm x (by simp) rfl
    rw[p8 _ (vz xnm)];have kv5:((bn b ns).take t).map (λc=>(sK c.1 c.2,V.bl true))++[(sK x.1 x.2,V.bl true)]=((bn b ns).take (t+1)).map λc=>(sK c.1 c.2,V.bl true):=by rw[tk1,aX];rfl
    rw[kv5];have s5:ar H (upd H4 mt (.dT (((bn b ns).take (t+1)).map λc=>(sK c.1 c.2,V.bl true)))):=s4.new nHm;have bo5:bu (upd H4 mt (.dT (((bn b ns).take (t+1)).map λc=>(sK c.1 c.2,V.bl true)))) tr (((bn b ns).take (t+1)).map dI):=by
     obtain⟨as',b1,b2⟩:=bo4;have em:((bn b ns).take (t+1)).map dI=((bn b ns).take t).map dI++[dI x]:=by rw[tk1,aX];rfl
     rw[em];refine⟨as',by rw[aO tm];exact b1,Paired.mapP b2 λu w hu=>?_⟩;have um:u≠mt:=λe=>by rw[e] at hu;rw[show H4 mt=_ from hu] at tm4;cases tm4
     show upd _ mt _ u=_;rw[aO um];exact hu
    have tq5:bS (upd H4 mt (.dT (((bn b ns).take (t+1)).map λc=>(sK c.1 c.2,V.bl true)))) qa (dI x):=by
     show upd _ mt _ qa=_;rw[aO qm];exact tq4
    have hm5:upd H4 mt (.dT (((bn b ns).take (t+1)).map λc=>(sK c.1 c.2,V.bl true))) mt=some (.dT (((bn b ns).take (t+1)).map λc=>(sK c.1 c.2,V.bl true))):=aE;generalize upd H4 mt (.dT (((bn b ns).take (t+1)).map λc=>(sK c.1 c.2,V.bl true)))=H5 at s5 bo5 tq5 hm5 ⊢;refine⟨qa,x,rfl,tq5,xin.1,xin.2.2.1,λnl H6 nnl s56 bo6=>?_⟩;have s6:=s5.trans s56;have bo6t:=bo5.same s56;have hm6:=s56 _ _ hm5;have hd6:=s6 _ _ hd;obtain⟨ws,w1,w2⟩:=id bo6;have lw:ws.length=4:=by rw[au w2,aA];rfl
    refine⟨_,rfl,⟨_,bw.of w1⟩,?_⟩;refine o6 (xs:=ws.map V.ref) (λj ys σ H'=>H'=H6/\(∃as:List Addr,ys=as.map V.ref/\Paired (bS H6) as ((((vj x).take j).filter (λd=>decide (d∈cs)&&!decide (d∈(bn b ns).take (t+1)))).map dI))/\∃x0:Option V,σ=[x0,some (.ref d),some (.ref mt)]) ⟨rfl,⟨[],rfl,.nil⟩,_,rfl⟩ ?_ (by rw[aA,lw];decide) ?_ ?_
    ·rintro j ys σ H' ⟨rfl,⟨gs,rfl,pr⟩,_⟩;refine⟨bw.of w1,?_⟩;rw[aA,au pr,aA];exact bF (fW _ _) (by rw[bj];lia)
    ·rintro j v ys σ H' N hv ⟨rfl,⟨gs,rfl,pr⟩,x0,rfl⟩ hN;obtain⟨qd,hqd,rfl⟩:=iF hv;obtain⟨cz,hcz,tqd⟩:=io w2 hqd;rw[aP] at hcz;obtain⟨e,he,rfl⟩:=cC.mp hcz;have tk3:(vj x).take (j+1)=(vj x).take j++[e]:=by rw[bD,he];rfl
     have g1:iV H' d (.ref qd) _:=iV.t (k:=sK e.1 e.2) hd6 tqd;have g2:iV H' mt (.ref qd) _:=iV.t (k:=sK e.1 e.2) hm6 tqd;have e1:(eI kvs (sK e.1 e.2)).isSome=decide (e∈cs):=by rw[C.is];exact xl
     have e2:(eI (((bn b ns).take (t+1)).map λc=>(sK c.1 c.2,V.bl true)) (sK e.1 e.2)).isSome=decide (e∈(bn b ns).take (t+1)):=xl (g:=λ_=>V.bl true);have skip:¬((decide (e∈cs)&&!decide (e∈(bn b ns).take (t+1)))=true)->Paired (bS H') gs ((((vj x).take (j+1)).filter (λd=>decide (d∈cs)&&!decide (d∈(bn b ns).take (t+1)))).map dI):=λh=>by
      rw[tk3,cf,gM (p:=λd=>decide (d∈cs)&&!decide (d∈(bn b ns).take (t+1))) h,gY,cH];exact pr
     nofun;refine⟨_,g1,?_⟩;rw[e1];refine gl (λz1=>⟨_,g2,?_⟩) (λz1=>hN _ _ _ ⟨rfl,⟨gs,rfl,skip ?_⟩,_,rfl⟩)
     ·rw[e2];refine gl (λz2=>hN _ _ _ ⟨rfl,⟨gs++[qd],by simp,?_⟩,_,rfl⟩) (λz2=>hN _ _ _ ⟨rfl,⟨gs,rfl,skip ?_⟩,_,rfl⟩)
      ·rw[tk3,cf,gL (by rw[z1,z2];rfl),gY,aX];exact n8 pr tqd
      ·rw[aY];exact λy=>z2 (by simpa using y.2)
     ·rw[aY];exact λy=>z1 y.1
    ·rintro ys σ H' p ⟨rfl,⟨gs,rfl,pr⟩,x0,rfl⟩ np;rw[aA,lw,show 4=(vj x).length from rfl,bZ,fl] at pr;have v7:=(ar.refl H').new (o:=.lst (gs.map V.ref)) np;exact⟨p,rfl,(am bo6t.choose_spec.1 np).symm,s6.trans v7,bo6t.same v7,v7 _ _ hm6,gs,aE,Paired.mapP pr λu w hu=>v7 _ _ hu⟩
  ·rw[d8 t1] at f2;cases f2;refine⟨false,.inl ⟨_,bw.of f1,by simp⟩,?_⟩;rw[RM (by decide)];rw[c7 t1] at bo3;exact q tr H3 nHt s3 bo3
theorem qj (B:o8 mg) (E:Fn K mg "maze_of_trail" f7 ["trail"]):ef P w K mg base 1 "maze_of_trail" f7 ["trail"] HZ:=E.mk' λf fd F=>by
 refine F.okS eK (λvs H Q E h=>?_) (λcdv A outer s H vs Q E hr h=>?_)
 ·obtain⟨l,b,ns,rfl,_⟩:=h;rfl
 ·obtain⟨l,b,ns,rfl,bo,O,nc,q⟩:=h;refine⟨[some (.ref l),none,none,none,none,none],_,rfl,(L2.jI.h (aI (ak (i:=1) eK.nd rfl (Or.inl rfl) cF)
   (aI (ak (i:=2) eK.nd rfl (Or.inl rfl) (cu aB))
   (aI (ci aZ rfl (AU (by rfl) B.zip (aG (a9 0) (aV (qb AM (a9 0) (nZ aC) DW) aB))) (lB (n:=2) rfl (eC (bP (i:=3) eK.nd rfl (Or.inl rfl)) (eC (bP (i:=4) eK.nd rfl (Or.inl rfl)) ji)))
   (aI (ak (i:=5) eK.nd rfl (Or.inl rfl) (ae pq (ae fY (aU bf (a9 3) aC (λ_ _=>rfl)) aC) aC))
    (aL (cj (QW.pt (oW (bX iI (aU bf (a9 3) aC (λ_ _=>rfl)) (aU bf (a9 4) aC (λ_ _=>rfl)) (bp _)) (l8 (bX (BQ (oq hr)) (a9 5) (a9 2) (by with_unfolding_all rfl)))))
    (aI (cj (QW.pt (oW (iD (uc (a9 2) (λ_=>rfl))) (l8 (bX lm (aU bf (a9 4) aC (λ_ _=>rfl)) (aU bf (a9 3) aC (λ_ _=>rfl)) (bp _)))))
     (aL (ak (i:=1) eK.nd rfl (Or.inl rfl) cF))
     bi)
     (aL (cZ (eO a8 aq ao dH (a9 2) (aG (a9 5) aB)))))
    bi))))
   (aL (bY (dA (aG (a9 1) (cn (dh lQ (by rfl) B.tuple di (aG (a9 2) aB)) aB))))))))),?_⟩
  have two:(2:Nat)<=sizeLine:=by decide
  have l20:=O.len;have W1:=oG O nc (b:=b);obtain⟨w0,hw0⟩:=kx (b:=b) (ns:=ns) ns.length;have Wl:0<(bn b ns).length:=by rw[show bn b ns=_ from hw0];simp
  obtain⟨as,a1,a2⟩:=bo;have la:=au a2;rw[aA] at la;have sdl:∀k,V.str (sd k)=if k then V.str (Str.ofString "r") else V.str (Str.ofString "l"):=λk=>by cases k<;>rfl
  nofun;refine⟨ac _,λp np=>?_⟩;have v1:=(ar.refl H).new (o:=.lst []) np;have hp1:upd H p (.lst []) p=some (.lst []):=aE;have a11:=v1 _ _ a1;have lp:l≠p:=am a1 np;generalize upd H p (.lst [])=H1 at v1 hp1 a11 ⊢;refine DF (k:=1) a11 (by rw[aA];lia) λz H2 nz s12 hz=>?_;have a12:=s12 _ _ a11;have hp2:=s12 _ _ hp1;have s2:=v1.trans s12;have zp:z≠p:=(am hp1 nz).symm;refine⟨_,_,rfl,⟨_,bw.of a12⟩,⟨_,bw.of hz⟩,?_⟩;have t0:(bn b ns).take 1=[(1,cN b ns 0)]:=by rw[show bn b ns=_ from hw0];rfl
  refine E6 (xs:=as.map V.ref) (ys:=(as.map V.ref).drop 1) (by rw[j7];lia) (λt σ H'=>∃x3 x4 x5:Option V,σ=[some (.ref l),some (.str (sd (gx jm (false,[]) ((bn b ns).take (t+1))).1)),some (.ref p),x3,x4,x5]/\ar H H'/\H' z=some (.lst ((as.map V.ref).drop 1))/\H' p=some (.lst ((uG (gx jm (false,[]) ((bn b ns).take (t+1))).2).map V.int)))
   ⟨_,_,_,by rw[t0];rfl,s2,hz,by rw[t0];exact hp2⟩ (λt σ H' ⟨_,_,_,_,s3,h1,_⟩=>⟨bw.of (s3 _ _ a1),bw.of h1⟩) ?_ ?_
  ·rintro t v1 v2 σ H3 g h1 h2 ⟨x3,x4,x5,rfl,s3,hz3,hp3⟩ ng;rw[List.getElem?_drop] at h2;obtain⟨q1,hq1,rfl⟩:=iF h1;obtain⟨q2,hq2,rfl⟩:=iF h2;obtain⟨c1,hc1,t1⟩:=io a2 hq1;obtain⟨c2,hc2,t2⟩:=io a2 hq2;rw[aP] at hc1 hc2;obtain⟨x,hx,rfl⟩:=cC.mp hc1;obtain⟨y,hy,rfl⟩:=cC.mp hc2;rw[Nat.add_comm 1 t] at hy;have tk1:(bn b ns).take (t+1)=(bn b ns).take t++[x]:=by rw[bD,hx];rfl
   have tk2:(bn b ns).take (t+1+1)=(bn b ns).take t++[x,y]:=by rw[bD,hy,tk1];simp
   have st:gx jm (false,[]) ((bn b ns).take (t+1+1))=jm (gx jm (false,[]) ((bn b ns).take (t+1))) x y:=by rw[tk2,Bd,<-tk1]
   have ml:=A2 ((bn b ns).take (t+1)) (false,[]);rw[bj] at ml;have xin:=lK O nc (aR hx);have yin:=lK O nc (aR hy);rw[st];generalize gx jm (false,[]) ((bn b ns).take (t+1))=S at ml hp3 ⊢;have v4:=(ar.refl H3).new (o:=.tup [.ref q1,.ref q2]) ng;have hg4:upd H3 g (.tup [.ref q1,.ref q2]) g=some (.tup [.ref q1,.ref q2]):=aE;have s4:=s3.trans v4;have hz4:=v4 _ _ hz3;have hp4:=v4 _ _ hp3;generalize upd H3 g (.tup [.ref q1,.ref q2])=H4 at hg4 s4 hz4 hp4 ⊢;have t14:=t1.same s4;have t24:=t2.same s4;have x1:nG [V.int (dI x).1,V.int (dI x).2] 0=some (.int (x.1:Nat)):=rfl;have x2:nG [V.int (dI x).1,V.int (dI x).2] 1=some (.int (x.2:Nat)):=rfl;have y1:nG [V.int (dI y).1,V.int (dI y).2] 0=some (.int (y.1:Nat)):=rfl;have y2:nG [V.int (dI y).1,V.int (dI y).2] 1=some (.int (y.2:Nat)):=rfl;have rg:(((x.1:Nat):Int) - 1) / 2=(((x.1 - 1) / 2:Nat):Int):=by lia
   nofun;refine⟨_,dD.of hg4,rfl,?_⟩;nofun;refine⟨_,_,dD.of t14,x1,?_⟩;nofun;rw[rg];refine⟨by constructor<;>lia,_,_,dD.of t14,x1,_,_,dD.of t24,y1,?_⟩;nofun;have stay:¬(x.1=y.1/\(x.1 - 1) / 2∉S.2)->∃x3 x4 x5:Option V,[some (V.ref l),some (V.str (sd S.1)),some (V.ref p),some (V.ref q1),some (V.ref q2),some (V.int (((x.1 - 1) / 2:Nat):Int))]=[some (V.ref l),some (V.str (sd (jm S x y).1)),some (V.ref p),x3,x4,x5]/\ar H H4/\H4 z=some (.lst ((as.map V.ref).drop 1))/\H4 p=some (.lst ((uG (jm S x y).2).map V.int)):=λh=>by
    have e:jm S x y=S:=RM h;rw[e];exact⟨_,_,_,rfl,s4,hz4,hp4⟩
   refine gl (λh1=>?_) (λh1=>stay λh=>h1 (by rw[h.1]));have h1':x.1=y.1:=by lia
   refine A7 (.inl (bw.of hp4)) ?_;rw[RN rfl];nofun;refine gl (λh2=>?_) (λh2=>stay λh=>h2 λhm=>h.2 (xK.mp hm));have h2':(x.1 - 1) / 2∉S.2:=λhm=>h2 (xK.mpr hm);have e:jm S x y=(if S.2=[]/\y.2<x.2 then true else S.1,S.2++[(x.1 - 1) / 2]):=RN ⟨h1',h2'⟩;rw[e];have put:∀k:Bool,k=(if S.2=[]/\y.2<x.2 then true else S.1)->C2 K "list" (V.ref p) H4/\∃xs,H4 p=some (.lst xs)/\xs.length<sizeLine/\∃x3 x4 x5:Option V,[some (V.ref l),some (V.str (sd k)),some (V.ref p),some (V.ref q1),some (V.ref q2),some (V.int (((x.1 - 1) / 2:Nat):Int))]=[some (V.ref l),some (V.str (sd (if S.2=[]/\y.2<x.2 then true else S.1))),some (V.ref p),x3,x4,x5]/\ar H (upd H4 p (.lst (xs++[V.int (((x.1 - 1) / 2:Nat):Int)])))/\upd H4 p (.lst (xs++[V.int (((x.1 - 1) / 2:Nat):Int)])) z=some (.lst ((as.map V.ref).drop 1))/\upd H4 p (.lst (xs++[V.int (((x.1 - 1) / 2:Nat):Int)])) p=some (.lst ((uG (S.2++[(x.1 - 1) / 2])).map V.int)):=λk hk=>by
    rw[<-hk];refine⟨gP hp4,_,hp4,?_,_,_,_,rfl,s4.new np,by rw[aO zp];exact hz4,by rw[aE];unfold uG;simp⟩;unfold uG;rw[aA,aA,Qf];simp at ml;lia
   refine⟨S.2.isEmpty |> not,.inl ⟨_,bw.of hp4,by unfold uG;cases S.2<;>rfl⟩,?_⟩;by_cases h3:S.2=[]
   ·rw[RN (by rw[h3];rfl)];refine⟨_,_,dD.of t24,y2,_,_,dD.of t14,x2,?_⟩;nofun;refine gl (λh4=>?_) (λh4=>?_)
    ·have h4':y.2<x.2:=by lia
     have:=put true (by rw[RN ⟨h3,h4'⟩]);exact this
    ·exact put _ (by rw[RM λh=>h4 (by lia)])
   ·rw[RM (by simpa using h3)];exact put _ (by rw[RM λh=>h3 h.1])
  ·rintro σ H3 ⟨x3,x4,x5,rfl,s3,hz3,hp3⟩;have tl:(bn b ns).take (((as.map V.ref).drop 1).length+1)=bn b ns:=c7 (by rw[j7,aA];lia);rw[tl,AZ O nc (aH _)] at hp3 ⊢;nofun;have e1:(uG (uH b ns ns.length).2).map V.int=ns.map V.int:=by
    rw[<-FY O];unfold uG;rw[be];rfl
   rw[e1] at hp3;refine⟨_,.inl ⟨bw.of hp3,λo no=>⟨two,λm nm=>?_⟩⟩⟩;have v5:=(ar.refl H3).new (o:=.tup (ns.map V.int)) no;have v6:=(ar.refl (upd H3 o (.tup (ns.map V.int)))).new (o:=.tup [.str (sd (uH b ns ns.length).1),.ref o]) nm;exact q m o _ ((s3.trans v5).free nm) (s3.trans (v5.trans v6)) ⟨aE,v6 _ _ aE⟩
theorem qk (E:Fn K mg "is_drawing_of" f9 ["text","maze"]) (NW:ef P w K mg base 3 "is_maze" jV ["thing"] sN) (NX:ef P w K mg base 4 "crossed" jY ["maze"] qO) (Ob:ef P w K mg base 6 "drawn" oT ["maze"] wV):ef P w K mg base 7 "is_drawing_of" f9 ["text","maze"] DC:=E.mk' λf fd F=>by
 refine F.okS qR (λvs H Q E h=>?_) (λcdv A outer s H vs Q E hr h=>?_)
 ·obtain⟨m,o,b,ns,rfl,_⟩:=h;rfl
 ·obtain⟨m,o,b,ns,rfl,hm,O,nc,q⟩:=h;refine⟨[some (.str (tx (lZ ns.length (bI b ns false) (bI b ns true)))),some (.ref m)],_,rfl,(L2.jI.h (aL (bY (lC (aj NW (hr.mono (by decide)) (by rfl) (aG (a9 1) aB)) (lC (eJ J6 (aj NX (hr.mono (by decide)) (by rfl) (aG (a9 1) aB)) kN (bp _)) (mY (eJ iI (aj Ob (hr.mono (by decide)) (by rfl) (aG (a9 1) aB)) (a9 0) (bp _)))))))),?_⟩;have nc':=GV nc;nofun;refine⟨_,_,rfl,hm.dat,EG,λH1 s1=>⟨true,by rw[EH O],?_⟩⟩;rw[RN rfl];refine⟨m,o,_,ns,rfl,hm.same s1,O,λ_ H2 s2=>⟨trivial,?_⟩,λu p hp q' hq z=>by rw[nc' u p hp q' hq] at z;cases z⟩;rw[RN rfl];refine⟨m,o,_,ns,rfl,(hm.same s1).same s2,O,nc',λL R H3 hL hR s3=>?_⟩;rw[C4 O hL hR];refine(L2.HS (Q:=Q)).mpr ?_;rw[RQ rfl];exact q _ (s1.trans (s2.trans s3))
theorem J8 (B:o8 mg) (E:Fn K mg "way" u4 ["text"]) (Nb:ef P w K mg base 1 "open_cells" iA ["text"] AK) (NL:ef P w K mg base 2 "trail_from_mouth" eM ["cells"] AE) (NP:ef P w K mg base 1 "maze_of_trail" f7 ["trail"] HZ) (NQ:ef P w K mg base 7 "is_drawing_of" f9 ["text","maze"] DC):ef P w K mg base 8 "way" u4 ["text"] Cq:=E.mk' λf fd F=>by
 refine F.okS DJ (λvs H Q E h=>?_) (λcdv A outer s H vs Q E hr h=>?_)
 ·obtain⟨b,ns,rfl,_⟩:=h;rfl
 ·obtain⟨b,ns,rfl,O,nc,q⟩:=h;refine⟨[some (.str (tx (lZ ns.length (bI b ns false) (bI b ns true)))),none],_,rfl,(L2.jI.h (aI (cj (iD (iR (bG ir (by rfl) B.isinstance bq (aG (a9 0) (aG (ig (v:=.ty "str") (by rfl) B.str PyProof.Rows.boot_str rfl) aB)))))
   (aL oX)
   bi)
   (aI (ak (i:=1) DJ.nd rfl (Or.inl rfl) (aj NL (hr.mono (by decide)) (by rfl) (cn (aj Nb (hr.mono (by decide)) (by rfl) (aG (a9 0) aB)) aB)))
   (aI (cj (iD (iR (aj NQ (hr.mono (by decide)) (by rfl) (aG (a9 0) (cn (aj NP (hr.mono (by decide)) (by rfl) (aG (a9 1) aB)) aB)))))
   (aL oX)
   bi)
   (aL (bY (a9 1))))))),?_⟩
  nofun;refine Gb (.str _) ⟨true,rfl,?_⟩;rw[RM (by decide)];refine⟨b,ns,rfl,O,nc,λd kvs cs H1 nd s1 hd C=>?_⟩;refine⟨d,b,ns,kvs,cs,rfl,hd,C,O,nc,λl H2 nl s2 bo=>?_⟩;refine⟨l,b,ns,rfl,bo,O,nc,λm o H3 nm s3 hm=>?_⟩;refine⟨m,o,b,ns,rfl,hm,O,nc,λH4 s4=>⟨true,rfl,?_⟩⟩;rw[RM (by decide)];exact q l H4 (s1.free nl) (s1.trans (s2.trans (s3.trans s4))) (bo.same (s3.trans s4))
theorem Dx (B:o8 mg) (E:Fn K mg "_law_whole" oQ ["_law_found"]):ef P w K mg base 1 "_law_whole" oQ ["_law_found"] (pT K):=E.mk' λf fd F=>by
 refine F.okS DI (λvs H Q E h=>?_) (λcdv A outer s H vs Q E hr h=>?_)
 ·obtain⟨x,t,b,c,rfl,_⟩:=h;rfl
 ·obtain⟨x,t,b,c,rfl,ty,e1,e2,q⟩:=h;refine⟨[some x],_,rfl,(L2.jI.h (aL (bY (lC (bG ir (by rfl) B.isinstance bq (aG (a9 0) (aG (ig (v:=.ty "int") (by rfl) B.int dZ rfl) aB))) (mY (AV (bG ir (by rfl) B.isinstance bq (aG (a9 0) (aG (ig (v:=.ty "bool") (by rfl) B.bool me rfl) aB))))))))),?_⟩;nofun;refine⟨_,_,_,b,rfl,ty,e1,?_⟩;nofun;cases b with
  | false=>exact Jr q
  | true=>exact Jq ⟨_,_,_,c,rfl,ty,e2,_,rfl,q⟩
theorem Jc (B:o8 mg) (E:Fn K mg "law" pY ["_law_script"]) (Nn:ef P w K mg base 1 "_law_cell_at" kW ["_law_script","_law_k"] (DD K)) (OV:ef P w K mg base 2 "_law_digits" l4 ["_law_cell","_law_base"] wW) (Nu:ef P w K mg base 5 "_law_drawable" jW ["_law_side","_law_digits_here"] sO) (OG:ef P w K mg base 2 "_law_drawing" kU ["_law_maze"] uW) (Oz:ef P w K mg base 1 "_law_walk" qT ["_law_lines"] Cr) (PY:ef P w K mg base 8 "way" u4 ["text"] Cq) (OU:ef P w K mg base 1 "_law_whole" oQ ["_law_found"] (pT K)):ef P w K mg base 9 "law" pY ["_law_script"] (wR K):=E.mk' λf fd F=>by
 refine F.okS qQ (λvs H Q E h=>?_) (λcdv A outer s H vs Q E hr h=>?_)
 ·obtain⟨a,ns,rfl,_⟩:=h;rfl
 ·obtain⟨a,cs,rfl,hS,hlen,kQ⟩:=h;refine⟨[some (.ref a),none,none,none,none,none],_,rfl,(L2.jI.h (aI (ak (i:=1) qQ.nd rfl (Or.inl rfl) (aj Nu (hr.mono (by decide)) (by rfl) (aV (aU tM cF (ae kf (aj Nn (hr.mono (by decide)) (by rfl) (aG (a9 0) (cO aC aB))) aC) (λ_ _=>rfl)) (cn (aj OV (hr.mono (by decide)) (by rfl) (cn (aj Nn (hr.mono (by decide)) (by rfl) (aG (a9 0) (cO aC aB))) (cO aC aB))) aB))))
   (aI (ak (i:=2) qQ.nd rfl (Or.inl rfl) (aj OG (hr.mono (by decide)) (by rfl) (aG (a9 1) aB)))
   (aI (ak (i:=3) qQ.nd rfl (Or.inl rfl) (aj Oz (hr.mono (by decide)) (by rfl) (cn (eO dv m9 m8 xM (a9 2) (cO cF aB)) aB)))
   (aI (ak (i:=4) qQ.nd rfl (Or.inl rfl) (aj PY (hr.mono (by decide)) (by rfl) (aG (a9 2) aB)))
   (aI (cj (QW.pt (mW (iD (iR (bG ir (by rfl) B.isinstance bq (aG (a9 4) (aG (ig (v:=.ty "list") (by rfl) B.list dU rfl) aB))))) (mU (bX (yq (oq hr)) (a9 4) (a9 3) (bp _)))))
   (aL (bY pD))
   bi)
   (aI (ci aZ rfl (eZ (a9 4)) (bP (i:=5) qQ.nd rfl (Or.inl rfl))
   (aL (cj (QW.pt (mW (iD (iR (bG ir (by rfl) B.isinstance bq (aG (a9 5) (aG (ig (v:=.ty "tuple") (by rfl) B.tuple di rfl) aB))))) (mW (bX pf (bG bM (by rfl) B.len ax (aG (a9 5) aB)) aC (bp _)) (mW (iD (iR (aj OU (hr.mono (by decide)) (by rfl) (aV (aU bf (a9 5) aC (λ_ _=>rfl)) aB)))) (mU (iD (iR (aj OU (hr.mono (by decide)) (by rfl) (aV (aU bf (a9 5) aC (λ_ _=>rfl)) aB)))))))))
    (aL (bY pD))
    bi)))
   (aI (cZ (p7 a8 jK jJ zE (a9 4)))
   (aL (bY (eJ (vh (oq hr)) (aj PY (hr.mono (by decide)) (by rfl) (aG (a9 2) aB)) (a9 3) (bp _)))))))))))),?_⟩
  nofun;refine⟨a,cs,1,rfl,hS,?_⟩;nofun;refine⟨by decide,by decide,_,Lc (Int.emod_nonneg _ (by decide)) (Int.emod_lt_of_pos _ (by decide)),?_⟩;rw[Lb];generalize decide (cs.getD 1 0 % 2=1)=b;refine⟨a,cs,0,rfl,hS,?_⟩;nofun;refine⟨_,4,rfl,by decide,by decide,λdl ds H3 nd s3 hd hdl=>?_⟩;refine⟨b,dl,ds,rfl,hd,by lia,λm o ns H4 nm no s4 hm O nc=>?_⟩;refine⟨m,o,b,ns,rfl,hm,O,λH5 s5=>?_⟩;have l20:=O.len;have w85:=vK (b:=b) O;refine⟨rfl,_,_,rfl,rfl,by decide +kernel,?_,λll nll=>?_⟩
  ·have h1:=qq (l6 ns.length (bI b ns false) (bI b ns true)) λr hr=>by
    obtain⟨i,_,rfl⟩:=aT.mp hr;rw[rY];lia
   have h2:(l6 ns.length (bI b ns false) (bI b ns true)).length<=45:=by unfold l6;rw[aA,cy];lia
   rw[sH];show (fj (l6 ns.length (bI b ns false) (bI b ns true))).length<=100000;lia
  have e':(Txt.split (tx (lZ ns.length (bI b ns false) (bI b ns true))) (Str.ofString "\n")).map V.str=lP ns.length (bI b ns false) (bI b ns true):=congrArg (List.map V.str) (wM (rs:=l6 ns.length (bI b ns false) (bI b ns true)) (wd _ _ _) sX);rw[e'];refine⟨ll,b,ns,rfl,aE,O,nc,λdu H6 nd6 s6 bo6=>?_⟩;refine⟨b,ns,rfl,O,nc,λfo H7 nf7 s7 bo7=>?_⟩;have bo67:=bo6.same s7;have W1:=oG O nc (b:=b);obtain⟨as,a1,a2⟩:=id bo7;have la:=au a2;rw[aA] at la;dsimp only;refine EW (Eh bo7) ⟨true,rfl,?_⟩;rw[RM (by decide)];refine⟨ow _,ow _,qH bo7,qH bo67,qI _,qI _,bF (gX _ _) (bF (t7 _) (by decide)),?_⟩;simp only[xo,decide_true,RT];refine⟨_,rfl,?_⟩;rw[RM (by decide)];refine⟨fo,rfl,⟨_,bw.of a1⟩,?_⟩;refine gW (xs:=as.map V.ref) (λi σ H'=>∃x5:Option V,σ=[some (.ref a),some (.ref m),some (.str (tx (lZ ns.length (bI b ns false) (bI b ns true)))),some (.ref du),some (.ref fo),x5]/\H'=H7) ⟨_,rfl,rfl⟩ (λi σ H' _ ⟨_,_,e⟩=>by rw[e];exact bw.of a1) ?_ ?_
  ·rintro i v σ H' hv ⟨x5,rfl,rfl⟩;obtain⟨qa,hqa,rfl⟩:=iF hv;obtain⟨cz,hcz,tq⟩:=io a2 hqa;nofun;refine⟨_,_,_,true,rfl,.tup tq,rfl,?_⟩;nofun;refine nR (λz=>nomatch z) ⟨_,.inr (dD.of tq),nR (by simp) ⟨_,_,dD.of tq,rfl,sC (.int _) ?_⟩⟩;nofun;refine nR (λz=>nomatch z) ⟨_,_,dD.of tq,rfl,sC (.int _) ?_⟩;nofun;exact nR (λz=>nomatch z) ⟨_,by first | rfl | trivial,by first | rfl | trivial⟩
  ·rintro σ H' ⟨x5,rfl,rfl⟩;nofun;have Wl:0<(bn b ns).length:=by
    obtain⟨w0,hw0⟩:=kx (b:=b) (ns:=ns) ns.length;rw[show bn b ns=_ from hw0];simp
   refine⟨gP a1,_,_,a1,aJ (by rw[aA];lia),?_⟩;have fd:du≠fo:=λe=>by subst e;obtain⟨_,h,_⟩:=bo6;rw[nf7] at h;cases h
   obtain⟨es,e1,e2⟩:=bo67;have boD:bu (upd H' fo (.lst ((as.map V.ref).dropLast))) du ((bn b ns).map dI):=⟨es,by rw[aO fd];exact e1,Paired.mapP e2 λu w hu=>by
    have uf:u≠fo:=λe=>by rw[e] at hu;rw[show H' fo=_ from hu] at a1;cases a1
    show upd _ fo _ u=_;rw[aO uf];exact hu⟩
   refine⟨b,ns,rfl,O,nc,λf2 H9 nf9 s9 bo9=>?_⟩;refine⟨ow _,ow _,qH bo9,qH (boD.same s9),qI _,qI _,bF (gX _ _) (bF (t7 _) (by decide)),?_⟩;simp only[xo,decide_true];exact kQ _
end
def fP(K:RV)(x:Str)(st:Stmt):Prop:=∃(f:Addr) (oc:Value) (od an:Option Addr) (osl:Array (Option Value)) (kV doc pm cdv ct:Value),PySem.W.nsIn K mainGlobals x=some (some (.ref f))/\K.lookup f=some ⟨oc,od,.func (PySem.W.fnOf x x (lD st) (jc st) (bJ st) .none kV doc pm an cdv ct),osl⟩/\PySem.W.codeIn K cdv x=true/\PySem.W.keepIn K (.ref f)=true
theorem fnIn{K:RV}{x:Str}{st:Stmt}{f:Addr}{oc:Value}{od an:Option Addr}{osl:Array (Option Value)}{kV doc pm cdv ct:Value}(a:PySem.W.nsIn K mainGlobals x=some (some (.ref f)))(l:K.lookup f=some ⟨oc,od,.func (PySem.W.fnOf x x (lD st) (jc st) (bJ st) .none kV doc pm an cdv ct),osl⟩)(c:PySem.W.codeIn K cdv x=true)(k:PySem.W.keepIn K (.ref f)=true):fP K x st:=⟨_,_,_,_,_,_,_,_,_,_,a,l,c,k⟩
theorem dR{K:RV}{h:Heap}{mg:Str->Option Value}(X:K.In h)(G:h.Ns mainGlobals mg){x:Str}{st:Stmt}{ps:List Str}(a:fP K x st)
  (hb:∀(kV doc pm:Value) (an:Option Addr) (cdv ct:Value) (us:List Value),us.length=ps.length->bindArgs (PySem.W.fnOf x x (lD st) (jc st) (bJ st) .none kV doc pm an cdv ct) ⟨us,[]⟩=pure (ps.zip us)):Fn K mg x st ps:=
 let ⟨f,_,_,_,_,_,_,_,_,_,a,l,c,k⟩:=a
 have F:=Jz (st:=st) l c k
 ⟨f,_,F,eU X G a,F.binds hb⟩
theorem all_mk {l:PySem.W.OpenLaw} {w:World} {K:RV} {h:Heap} {mg:Str->Option Value} {fa:Addr} (X:K.In h) (G:h.Ns mainGlobals mg) (hfa:mg "law"=some (.ref fa))
  (Nv:fP K "crossing" jX)
  (PB:fP K "span" qV)
  (N5:fP K "lies_within" gb)
  (OH:fP K "heights" iZ)
  (Nw:fP K "is_whole" jT)
  (OI:fP K "is_side" kP)
  (Nx:fP K "is_order" jU)
  (OJ:fP K "is_maze" jV)
  (Nc:fP K "other_side" h7)
  (N0:fP K "side_of_step" gD)
  (N6:fP K "rows_of_way" g6)
  (OK:fP K "bows_of" jZ)
  (OL:fP K "crossed" jY)
  (Ph:fP K "vet" u5)
  (OM:fP K "line_of" iY)
  (NN:fP K "greatest_height" eg)
  (OW:fP K "by_row" ke)
  (N1:fP K "left_columns" gE)
  (NR:fP K "right_columns" f6)
  (Nd:fP K "carve_bows" iC)
  (N7:fP K "carve_rings" gc)
  (PD:fP K "mark" qX)
  (Oc:fP K "drawn" oT)
  (ON:fP K "_law_cell_at" kW)
  (Pi:fP K "_law_mix" u6)
  (OX:fP K "_law_digits" l4)
  (Pj:fP K "_law_can" u7)
  (Pk:fP K "_law_put" sU)
  (Od:fP K "_law_ended" oS)
  (PH:fP K "_law_need" qW)
  (OO:fP K "_law_fitting" kT)
  (Of:fP K "_law_grown" oR)
  (Ny:fP K "_law_order_of" jS)
  (Nz:fP K "_law_drawable" jW)
  (PJ:fP K "_law_bows" qY)
  (PK:fP K "_law_tall" qU)
  (OP:fP K "_law_drawing" kU)
  (PL:fP K "_law_walk" qT)
  (Nf:fP K "open_cells" iA)
  (Ng:fP K "neighbours" iB)
  (NM:fP K "trail_from_mouth" eM)
  (NS:fP K "maze_of_trail" f7)
  (NT:fP K "is_drawing_of" f9)
  (Pm:fP K "way" u4)
  (Og:fP K "_law_whole" oQ)
  (OY:fP K "law" pY)
  {Oh:Tok} (Nh:PySem.W.nsIn K mainGlobals "MOST_RINGS"=some (some (.int 20 Oh)))
  {QK:Tok} (PM:PySem.W.nsIn K mainGlobals "WALL"=some (some (.str (Str.ofString "#") QK)))
  {Ov:Tok} (Nk:PySem.W.nsIn K mainGlobals "OPEN_CELL"=some (some (.str (Str.ofString ".") Ov)))
  {QB:Tok} (Oi:PySem.W.nsIn K mainGlobals "MOUTH"=some (some (.str (Str.ofString "v") QB)))
  {Pn:Tok} (OZ:PySem.W.nsIn K mainGlobals "MIDDLE"=some (some (.str (Str.ofString "@") Pn)))
  {PZ:Addr} {P3:Obj} (Oj:PySem.W.nsIn K mainGlobals "SIDES"=some (some (.ref PZ))) (Ol:K.lookup PZ=some P3) (Om:L2.zb P3 ["l","r"])
  (Po:PySem.W.nsIn K mainGlobals "len"=some none) (On:PySem.W.nsIn K mainGlobals "range"=some none) (Nl:PySem.W.nsIn K mainGlobals "enumerate"=some none) (Pp:PySem.W.nsIn K mainGlobals "int"=some none) (PN:PySem.W.nsIn K mainGlobals "list"=some none) (Oo:PySem.W.nsIn K mainGlobals "tuple"=some none) (Ni:PySem.W.nsIn K mainGlobals "isinstance"=some none) (Pq:PySem.W.nsIn K mainGlobals "str"=some none) (PP:PySem.W.nsIn K mainGlobals "bool"=some none) (O0:PySem.W.nsIn K mainGlobals "sorted"=some none) (Ps:PySem.W.nsIn K mainGlobals "all"=some none) (Pt:PySem.W.nsIn K mainGlobals "any"=some none) (Pu:PySem.W.nsIn K mainGlobals "zip"=some none) (Pw:PySem.W.nsIn K mainGlobals "max"=some none) (Px:PySem.W.nsIn K mainGlobals "min"=some none) (OA:PySem.W.nsIn K mainGlobals "reversed"=some none) (Nj:PySem.W.nsIn K mainGlobals "ValueError"=some none) :
  ∃fd:FuncData,(∀(s:Shared) (v:Value),BindsTo s fd ⟨[v],[]⟩ [("_law_script",v)])/\∀base:Heap,K.In base->base.Ns mainGlobals mg->qx l.prog w K mg base Bs 9 fa fd ["_law_script"] (wR K):=by
 have B:o8 mg:=⟨b9 X G Po,b9 X G On,b9 X G Nl,b9 X G Pp,b9 X G PN,b9 X G Oo,b9 X G Ni,b9 X G Pq,b9 X G PP,b9 X G O0,b9 X G Ps,b9 X G Pt,b9 X G Pu,b9 X G Pw,b9 X G Px,b9 X G OA,b9 X G Nj,⟨_,eU X G Nh⟩,⟨_,eU X G PM⟩,⟨_,eU X G Nk⟩,⟨_,eU X G Oi⟩,⟨_,eU X G OZ⟩⟩
 have Nm:=L2.E3 X G Oj Ol Om;have PQ:Fn K mg "crossing" jX ["bows"]:=dR X G Nv λ_ _ _ _ _ _=>L2.qM λ_=>rfl;have QL:Fn K mg "span" qV ["bow"]:=dR X G PB λ_ _ _ _ _ _=>L2.qM λ_=>rfl;have O3:Fn K mg "lies_within" gb ["inner","outer"]:=dR X G N5 λ_ _ _ _ _ _=>L2.yD λ_ _=>rfl;have P4:Fn K mg "heights" iZ ["bows"]:=dR X G OH λ_ _ _ _ _ _=>L2.qM λ_=>rfl;have PR:Fn K mg "is_whole" jT ["thing"]:=dR X G Nw λ_ _ _ _ _ _=>L2.qM λ_=>rfl;have P5:Fn K mg "is_side" kP ["thing"]:=dR X G OI λ_ _ _ _ _ _=>L2.qM λ_=>rfl;have PU:Fn K mg "is_order" jU ["thing"]:=dR X G Nx λ_ _ _ _ _ _=>L2.qM λ_=>rfl;have P6:Fn K mg "is_maze" jV ["thing"]:=dR X G OJ λ_ _ _ _ _ _=>L2.qM λ_=>rfl;have Oq:Fn K mg "other_side" h7 ["side"]:=dR X G Nc λ_ _ _ _ _ _=>L2.qM λ_=>rfl;have O1:Fn K mg "side_of_step" gD ["maze","step"]:=dR X G N0 λ_ _ _ _ _ _=>L2.yD λ_ _=>rfl;have O4:Fn K mg "rows_of_way" g6 ["maze"]:=dR X G N6 λ_ _ _ _ _ _=>L2.qM λ_=>rfl;have P7:Fn K mg "bows_of" jZ ["maze"]:=dR X G OK λ_ _ _ _ _ _=>L2.qM λ_=>rfl;have P8:Fn K mg "crossed" jY ["maze"]:=dR X G OL λ_ _ _ _ _ _=>L2.qM λ_=>rfl;have Q1:Fn K mg "vet" u5 ["maze"]:=dR X G Ph λ_ _ _ _ _ _=>L2.qM λ_=>rfl;have P9:Fn K mg "line_of" iY ["row"]:=dR X G OM λ_ _ _ _ _ _=>L2.qM λ_=>rfl;have OC:Fn K mg "greatest_height" eg ["bows"]:=dR X G NN λ_ _ _ _ _ _=>L2.qM λ_=>rfl;have Py:Fn K mg "by_row" ke ["bows","columns"]:=dR X G OW λ_ _ _ _ _ _=>L2.yD λ_ _=>rfl;have O2:Fn K mg "left_columns" gE ["bows","most_left"]:=dR X G N1 λ_ _ _ _ _ _=>L2.yD λ_ _=>rfl;have OQ:Fn K mg "right_columns" f6 ["bows","most_left"]:=dR X G NR λ_ _ _ _ _ _=>L2.yD λ_ _=>rfl;have Os:Fn K mg "carve_bows" iC ["grid","bows","columns"]:=dR X G Nd λ_ _ _ _ _ _=>L2.Lw λ_ _ _=>rfl;have O5:Fn K mg "carve_rings" gc ["grid","rings","lefts","rights"]:=dR X G N7 λ_ _ _ _ _ _=>L2.Mn λ_ _ _ _=>rfl;have QM:Fn K mg "mark" qX ["line","sign"]:=dR X G PD λ_ _ _ _ _ _=>L2.yD λ_ _=>rfl;have QC:Fn K mg "drawn" oT ["maze"]:=dR X G Oc λ_ _ _ _ _ _=>L2.qM λ_=>rfl;have Pa:Fn K mg "_law_cell_at" kW ["_law_script","_law_k"]:=dR X G ON λ_ _ _ _ _ _=>L2.yD λ_ _=>rfl;have Q2:Fn K mg "_law_mix" u6 ["_law_seed","_law_k"]:=dR X G Pi λ_ _ _ _ _ _=>L2.yD λ_ _=>rfl;have Pz:Fn K mg "_law_digits" l4 ["_law_cell","_law_base"]:=dR X G OX λ_ _ _ _ _ _=>L2.yD λ_ _=>rfl;have Q3:Fn K mg "_law_can" u7 ["_law_open_ends","_law_letter"]:=dR X G Pj λ_ _ _ _ _ _=>L2.yD λ_ _=>rfl;have Q4:Fn K mg "_law_put" sU ["_law_open_ends","_law_found","_law_letter","_law_row"]:=dR X G Pk λ_ _ _ _ _ _=>L2.Mn λ_ _ _ _=>rfl;have QD:Fn K mg "_law_ended" oS ["_law_open_ends","_law_found","_law_row"]:=dR X G Od λ_ _ _ _ _ _=>L2.Lw λ_ _ _=>rfl;have QN:Fn K mg "_law_need" qW ["_law_many"]:=dR X G PH λ_ _ _ _ _ _=>L2.qM λ_=>rfl;have Pb:Fn K mg "_law_fitting" kT ["_law_open_ends","_law_row","_law_digit"]:=dR X G OO λ_ _ _ _ _ _=>L2.Lw λ_ _ _=>rfl;have QH:Fn K mg "_law_grown" oR ["_law_side","_law_digits_here"]:=dR X G Of λ_ _ _ _ _ _=>L2.yD λ_ _=>rfl;have PV:Fn K mg "_law_order_of" jS ["_law_side","_law_found"]:=dR X G Ny λ_ _ _ _ _ _=>L2.yD λ_ _=>rfl;have PX:Fn K mg "_law_drawable" jW ["_law_side","_law_digits_here"]:=dR X G Nz λ_ _ _ _ _ _=>L2.yD λ_ _=>rfl;have QP:Fn K mg "_law_bows" qY ["_law_maze"]:=dR X G PJ λ_ _ _ _ _ _=>L2.qM λ_=>rfl;have QQ:Fn K mg "_law_tall" qU ["_law_bows_here"]:=dR X G PK λ_ _ _ _ _ _=>L2.qM λ_=>rfl;have Pd:Fn K mg "_law_drawing" kU ["_law_maze"]:=dR X G OP λ_ _ _ _ _ _=>L2.qM λ_=>rfl;have QR:Fn K mg "_law_walk" qT ["_law_lines"]:=dR X G PL λ_ _ _ _ _ _=>L2.qM λ_=>rfl;have Ot:Fn K mg "open_cells" iA ["text"]:=dR X G Nf λ_ _ _ _ _ _=>L2.qM λ_=>rfl;have Ou:Fn K mg "neighbours" iB ["cell"]:=dR X G Ng λ_ _ _ _ _ _=>L2.qM λ_=>rfl;have OB:Fn K mg "trail_from_mouth" eM ["cells"]:=dR X G NM λ_ _ _ _ _ _=>L2.qM λ_=>rfl;have OS:Fn K mg "maze_of_trail" f7 ["trail"]:=dR X G NS λ_ _ _ _ _ _=>L2.qM λ_=>rfl;have OT:Fn K mg "is_drawing_of" f9 ["text","maze"]:=dR X G NT λ_ _ _ _ _ _=>L2.yD λ_ _=>rfl;have Q5:Fn K mg "way" u4 ["text"]:=dR X G Pm λ_ _ _ _ _ _=>L2.qM λ_=>rfl;have QJ:Fn K mg "_law_whole" oQ ["_law_found"]:=dR X G Og λ_ _ _ _ _ _=>L2.qM λ_=>rfl;have Q6:Fn K mg "law" pY ["_law_script"]:=dR X G OY λ_ _ _ _ _ _=>L2.qM λ_=>rfl;have key:∀base:Heap,K.In base->base.Ns mainGlobals mg->ef l.prog w K mg base 9 "law" pY ["_law_script"] (wR K):=λbase KB GB=>by
  have Nr:=xG (P:=l.prog) (w:=w) (base:=base) PQ;have Np:=xD (P:=l.prog) (w:=w) (base:=base) B PR;have OD:=yt (P:=l.prog) (w:=w) (base:=base) Nm P5;have Nq:=xE B PU Np;have NW:=yu B P6 OD Nq;have N9:=uC (P:=l.prog) (w:=w) (base:=base) Oq;have NY:=rL O1 N9;have N2:=sr (P:=l.prog) (w:=w) (base:=base) B O4;have NV:=zB B P7 NY N2;have NX:=yz B Nm P8 NV Nr;have Pe:=J9 Q1 NW NX;have Ow:=GN (P:=l.prog) (w:=w) (base:=base) QL;have N3:=su (P:=l.prog) (w:=w) (base:=base) O3;have NK:=yw B P4 Ow N3;have d7:=yr (P:=l.prog) (w:=w) (base:=base) P9;have fv:=pF B OC NK;have N8:=BV (P:=l.prog) (w:=w) (base:=base) B Py;have NZ:=rM B O2 NK N8;have NO:=qi B OQ NK N8;have NU:=uF B Os d7;have N4:=sy B O5 d7;have O7:=GP (P:=l.prog) (w:=w) (base:=base) B QM;have Ob:=EA B QC Pe NV d7 fv NZ NO NU N4 O7;have Nn:=zA (P:=l.prog) (w:=w) (base:=base) B Pa;have Pf:=Jb (P:=l.prog) (w:=w) (base:=base) Q2;have OV:=BU B Pz Pf;have Ox:=GO (P:=l.prog) (w:=w) (base:=base) QN;have Pg:=Jd (P:=l.prog) (w:=w) (base:=base) B Q3;have O6:=Ja (P:=l.prog) (w:=w) (base:=base) B Q4;have OE:=yx B Pb Pg Ox;have O8:=Dz B QD O6;have O9:=Dy B QH OE O6 O8;have Nt:=xC (P:=l.prog) (w:=w) (base:=base) B PV;have Nu:=xF PX O9 Nt;have Oy:=GQ (P:=l.prog) (w:=w) (base:=base) B QP;have Oa:=GM (P:=l.prog) (w:=w) (base:=base) B QQ;have OG:=yy B Pd Oy Oa;have Oz:=GL (P:=l.prog) (w:=w) (base:=base) B QR;have Nb:=uD (P:=l.prog) (w:=w) (base:=base) B Ot;have Na:=uE (P:=l.prog) (w:=w) (base:=base) Ou;have NL:=o9 B OB Na;have NP:=qj (P:=l.prog) (w:=w) (base:=base) B OS;have NQ:=qk OT NW NX Ob;have PY:=J8 B Q5 Nb NL NP NQ;have OU:=Dx (P:=l.prog) (w:=w) (base:=base) B QJ;exact Jc B Q6 Nn OV Nu OG Oz PY OU
 obtain⟨f0,oc0,od0,QU,sl0,QV,QX,QY,QZ,Q0,OY,Q7,_,_⟩:=OY;have e:=hfa.symm.trans (eU X G OY);cases e;refine⟨PySem.W.fnOf "law" "law" (lD pY) (jc pY) (bJ pY) .none QV QX QY QU QZ Q0,λs v=>.of_eq rfl,λbase KB GB=>?_⟩;obtain⟨f,fd,F,m,b,ok⟩:=(key base KB GB).ex;rw[eU X G OY] at m;cases m;obtain⟨_,_,_,_,_,_,_,_,_,rfl,lk,_⟩:=F.ex;rw[Q7] at lk;cases lk;exact ok
theorem walk{l:PySem.W.OpenLaw}{q:Program}{loose:List Str}{XP:(Str->Option Value)->Heap->Prop}{YP:World->Heap->Prop}{d:DefRec}{K:Params->RV}(hn:l.most=some 63)(hdf:d.params.defaults=[])
  (hY:∀(w:World) (h:Heap),YP w h->(K w.params).In h)
  (F:∀(w:World) (mg:Str->Option Value) (fa:Addr) (h:Heap),(K w.params).In h->h.Ns mainGlobals mg->mg d.name=some (.ref fa) →
   ∃fd:FuncData,(∀(s:Shared) (u:Value),BindsTo s fd ⟨[u],[]⟩ [("_law_script",u)])/\∀base:Heap,(K w.params).In base->base.Ns mainGlobals mg->qx l.prog w (K w.params) mg base Bs 9 fa fd ["_law_script"] (wR (K w.params))) :
  PySem.W.WalkO q loose XP YP l.row.toRowW d [] (λf vs=>PySem.call f vs):=
 L2.ze (n:=63) (k:=9) (x:="_law_script") (CX:=λ_=>Bs) (sp:=λw=>wR (K w.params)) hn (by decide) hdf ⟨rfl,by decide,by decide,rfl⟩ hY F (λ_ _ a ns hl _ hS=>⟨a,ns,rfl,hS,hl,λ_=>rfl⟩) λ_ _ _ _ _ z=>z
end Rm
open PySem PySem.W PyProof.Rows
local macro_rules | `(tactic| walk_at "kf") => `(tactic| exact Rm.fnIn (by k_is) (by k_is) (by k_is) (by k_is))
set_option maxRecDepth 100000 in
set_option maxHeartbeats 0 in
theorem PySem.Challenge.cw_ringmaze_k13_the_way_told_holds : PySem.Challenge.rw_ringmaze_k13_the_way_told.Holds := by
 w_on; o_law; k_head; (case hw => w_witness2)
 k_fill
 refine Rm.walk (l := PySem.Challenge.rw_ringmaze_k13_the_way_told) rfl rfl (λw h Y => PySem.W.kIn_of Y) ?F
 case F =>
  intro w mg fa h KX G hmg;refine' Rm.all_mk KX G hmg ?Nv ?PB ?N5 ?OH ?Nw ?OI ?Nx ?OJ ?Nc ?N0 ?N6 ?OK ?OL ?Ph ?OM ?NN ?OW ?N1 ?NR ?Nd ?N7 ?PD ?Oc ?ON ?Pi ?OX ?Pj ?Pk ?Od ?PH ?OO ?Of ?Ny ?Nz ?PJ ?PK ?OP ?PL ?Nf ?Ng ?NM ?NS ?NT ?Pm ?Og ?OY ?Nh ?PM ?Nk ?Oi ?OZ ?Oj ?Ol ?Om ?Po ?On ?Nl ?Pp ?PN ?Oo ?Ni ?Pq ?PP ?O0 ?Ps ?Pt ?Pu ?Pw ?Px ?OA ?Nj
  (case Nv => walk_at "kf")
  (case PB => walk_at "kf")
  (case N5 => walk_at "kf")
  (case OH => walk_at "kf")
  (case Nw => walk_at "kf")
  (case OI => walk_at "kf")
  (case Nx => walk_at "kf")
  (case OJ => walk_at "kf")
  (case Nc => walk_at "kf")
  (case N0 => walk_at "kf")
  (case N6 => walk_at "kf")
  (case OK => walk_at "kf")
  (case OL => walk_at "kf")
  (case Ph => walk_at "kf")
  (case OM => walk_at "kf")
  (case NN => walk_at "kf")
  (case OW => walk_at "kf")
  (case N1 => walk_at "kf")
  (case NR => walk_at "kf")
  (case Nd => walk_at "kf")
  (case N7 => walk_at "kf")
  (case PD => walk_at "kf")
  (case Oc => walk_at "kf")
  (case ON => walk_at "kf")
  (case Pi => walk_at "kf")
  (case OX => walk_at "kf")
  (case Pj => walk_at "kf")
  (case Pk => walk_at "kf")
  (case Od => walk_at "kf")
  (case PH => walk_at "kf")
  (case OO => walk_at "kf")
  (case Of => walk_at "kf")
  (case Ny => walk_at "kf")
  (case Nz => walk_at "kf")
  (case PJ => walk_at "kf")
  (case PK => walk_at "kf")
  (case OP => walk_at "kf")
  (case PL => walk_at "kf")
  (case Nf => walk_at "kf")
  (case Ng => walk_at "kf")
  (case NM => walk_at "kf")
  (case NS => walk_at "kf")
  (case NT => walk_at "kf")
  (case Pm => walk_at "kf")
  (case Og => walk_at "kf")
  (case OY => walk_at "kf")
  (case Nh => k_is)
  (case PM => k_is)
  (case Nk => k_is)
  (case Oi => k_is)
  (case OZ => k_is)
  (case Oj => k_is)
  (case Ol => k_is)
  (case Om => exact L2.Ax rfl rfl (by decide) (.cons ⟨_, rfl⟩ (.cons ⟨_, rfl⟩ .nil)))
  (case Po => k_is)
  (case On => k_is)
  (case Nl => k_is)
  (case Pp => k_is)
  (case PN => k_is)
  (case Oo => k_is)
  (case Ni => k_is)
  (case Pq => k_is)
  (case PP => k_is)
  (case O0 => k_is)
  (case Ps => k_is)
  (case Pt => k_is)
  (case Pu => k_is)
  (case Pw => k_is)
  (case Px => k_is)
  (case OA => k_is)
  (case Nj => k_is)
#print axioms PySem.Challenge.cw_ringmaze_k13_the_way_told_holds
