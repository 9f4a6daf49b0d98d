import PyProof.Rows.All
import Wide.All
import OpenK.AllK
import Wide.FinOn
import Lean
import PyProof.EqAt
import PyProof.EqKinds
import PyProof.TupleCall
import KE.LcSums
import PyProof.StrLawsJoin
import KE.KSortTup
import KE.KSortKey
import PyProof.WalkInts
import PyProof.MinMaxWalk
import KE.KRevIter
import KE.KSortedM
import PyProof.ReprLen
import PyProof.P3Eq
import PySem.Challenge.RW_ringmaze_k30_codes_of_mazes
abbrev Oi:=@PySem.wpAny_truthy_bool
abbrev Oj:=@PySem.wpAny_execs_nil
abbrev Ol:=@PySem.wpAny_execs_cons
abbrev Om:=@PySem.wpAny_passesOwn
abbrev On:=@PySem.wpAny_pure
abbrev Oo:=@PySem.wpAny_pyIter_tuple
abbrev Oq:=@PySem.wpAny_pyIter_range
abbrev Os:=@PySem.sizeLine_eq
abbrev Ot:=@PySem.wpAny_call
abbrev Ou:=@PySem.codeAny_mono
abbrev Ov:=@PySem.wpAny_Call_Name_kw
abbrev Ow:=@PySem.wpAny_field
abbrev Ox:=@PySem.wpAny_holding
abbrev Oy:=@PySem.wpAny_call_entry
abbrev Oz:=@PySem.wpAny_newObj_type
abbrev PB:=@PyProof.Rows.mirror_perm
abbrev PD:=@PySem.wpAny_attempt
abbrev PH:=@PySem.wpAny_rule
abbrev PJ:=@PySem.wpAny_setField
abbrev PK:=@PySem.wpAny_ite_false
abbrev PL:=@PySem.codeAny_call_builtin
abbrev PM:=@PySem.wpAny_check_ga_own
abbrev PN:=@PySem.wpAny_seqItems
abbrev PP:=@PySem.wpAny_setField_rec
abbrev PQ:=@PyProof.Rows.ints_snoc
abbrev PR:=@PySem.wpAny_loadPart_at
abbrev PU:=@PySem.wpAny_typeOf_ref
abbrev PV:=@if_neg
abbrev PX:=@if_pos
abbrev PY:=@decide_eq_true_eq
abbrev PZ:=@decide_eq_false
abbrev P0:=@decide_eq_true
abbrev P3:=@if_true
abbrev P4:=@if_false
abbrev P5:=PySem.W.Frag
abbrev aB:=@PySem.Heap.get?_push_of_some
abbrev aD:=@List.length_map
abbrev aH:=@Nat.le_refl
abbrev aI:=@List.mem_cons
abbrev aJ:=@PySem.Heap.lt_size
abbrev aK:=@PySem.Heap.get?_push_size
abbrev aL:=@List.getElem?_eq_getElem
abbrev aN:=@List.mem_cons_of_mem
abbrev aO:=@List.size_toArray
abbrev aQ:=@List.mem_append
abbrev aR:=@List.getElem?_eq_some_iff
abbrev aT:=@Nat.lt_of_lt_of_le
abbrev aV:=@Nat.ne_of_lt
abbrev aZ:=@PySem.boot_len
abbrev a6:=@List.map_append
abbrev a7:=@List.mem_append_right
abbrev a8:=@Bool.false_ne_true
abbrev ae:=@List.map_cons
abbrev af:=@List.flatMap_cons
abbrev ah:=@List.mem_cons_self
abbrev ai:=@List.getElem?_map
abbrev aw:=@List.drop_eq_getElem_cons
abbrev ay:=@Option.some.inj
abbrev bA:=@PySem.W.mg_none_of
abbrev bB:=@List.mem_map
abbrev bC:=@List.mem_append_left
abbrev bD:=@PyProof.Rows.boot_isinstance
abbrev bE:=@List.mem_singleton
abbrev bF:=@Nat.lt_succ_of_lt
abbrev bG:=@List.mem_of_getElem?
abbrev bI:=@Nat.le_of_lt
abbrev bN:=@List.exists_cons_of_length_eq_add_one
abbrev bO:=@Nat.zero_le
abbrev bP:=@PySem.W.nsMap_none_of_in
abbrev bQ:=@List.length_append
abbrev bX:=@PySem.PassesOwn.never
abbrev b6:=@PySem.W.Looks.at
abbrev b9:=@List.append_assoc
abbrev ba:=@PySem.W.mg_of
abbrev bc:=@PyProof.Rows.callWith_type1
abbrev be:=@Bool.and_eq_true
abbrev bf:=@List.getD_eq_getElem?_getD
abbrev bi:=@PySem.F.plainAttrs_list
abbrev bp:=@List.map_map
abbrev bq:=@Array.getD_eq_getD_getElem?
abbrev bx:=@PyProof.Rows.slot_tuple_getitem
abbrev cA:=@PyProof.Rows.boot_int
abbrev cB:=@Nat.mod_two_eq_zero_or_one
abbrev cC:=@List.nil_sublist
abbrev cE:=@List.getElem?_append_right
abbrev cJ:=@PySem.W.kia_one
abbrev cK:=@List.append_nil
abbrev cL:=@PySem.Heap.size_push
abbrev cM:=@List.length_cons
abbrev cO:=@List.perm_append_comm
abbrev cP:=@Nat.le_trans
abbrev cS:=@PySem.F.slot_tuple_iterator_next
abbrev cU:=@Ne.symm
abbrev cV:=@List.perm_middle
abbrev cW:=@List.not_mem_nil
abbrev cX:=@List.countP_cons
abbrev cZ:=@PySem.mem_of_lookup
abbrev c6:=@PySem.W.InstAt.type
abbrev c7:=@List.length_pos_iff
abbrev c8:=@List.filterMap_cons
abbrev cf:=@PySem.Heap.get?_update_self
abbrev cj:=@PySem.F.type_list_append
abbrev ck:=@PySem.F.slot_list_append
abbrev cm:=@List.mem_range
abbrev cn:=@PySem.W.looks_findIn
abbrev cu:=@PyProof.Rows.boot_tuple
abbrev cy:=@List.length_eq_zero_iff
abbrev dB:=@PySem.Paired.length
abbrev dC:=@Nat.lt_irrefl
abbrev dD:=@PyProof.Rows.boot_list
abbrev dF:=@List.map_congr_left
abbrev dG:=@Array.length_toList
abbrev dI:=@List.nodup_cons
abbrev dM:=@PySem.W.isNs_of_in
abbrev dN:=@List.length_take
abbrev dP:=@Bool.false_eq_true
abbrev dZ:=@List.take_add_one
abbrev dc:=@List.range_succ
abbrev de:=@List.dropLast_concat_getLast
abbrev di:=@Int.le_refl
abbrev dk:=@Nat.lt_succ_self
abbrev dm:=@List.take_length
abbrev dq:=@Int.emod_lt_of_pos
abbrev dr:=@List.mem_filter
abbrev dt:=@PySem.Heap.Ns.of_isNs
abbrev dw:=@Nat.le_succ
abbrev dy:=@List.map_nil
abbrev dz:=@List.any_eq_false
abbrev eB:=@PyProof.Rows.boot_sorted
abbrev eK:=@List.length_reverse
abbrev eU:=@Int.eq_ofNat_of_zero_le
abbrev eh:=@PySem.Heap.get?_update_of_ne
abbrev eu:=@PySem.Calls.spliced_cons
abbrev fB:=@List.length_nil
abbrev fD:=@List.find?_cons
abbrev fE:=@Int.emod_nonneg
abbrev fF:=@PySem.F.args_tuple_iterator_next_1
abbrev fJ:=@List.any_cons
abbrev fK:=@PyProof.Rows.boot_max
abbrev fL:=@List.length_singleton
abbrev fN:=@PySem.F.entry_tuple_iterator_next
abbrev fV:=@PySem.W.hideAll_none
abbrev fW:=@PySem.F.excBase_ValueError
abbrev fX:=@PySem.Heap.get?_none_of_le
abbrev fY:=@Array.perm_iff_toList_perm
abbrev fh:=@List.getElem_mem
abbrev fj:=@List.cons_append
abbrev fm:=@List.getElem?_append_left
abbrev fq:=@Array.getElem?_eq_getElem
abbrev fu:=@List.replicate_succ
abbrev fv:=@PySem.Heap.get?_update_ne
abbrev fz:=@PySem.F.args_tuple_add_2
abbrev gC:=@Option.map_some
abbrev gD:=@List.nil_append
abbrev gE:=@List.foldl_cons
abbrev gF:=@List.count_cons
abbrev gG:=@Bool.eq_iff_iff
abbrev gL:=@PySem.W.callWith_K
abbrev gM:=@Nat.add_sub_cancel
abbrev gN:=@List.filter_append
abbrev gV:=@PySem.F.entry_tuple_add
abbrev g9:=@PySem.W.cellsFrom_some
abbrev gb:=@PySem.F.slot_tuple_add
abbrev gg:=@List.take_of_length_le
abbrev gh:=@List.length_eq_one_iff
abbrev gi:=@List.getElem?_set_self
abbrev gj:=@Int.toNat_natCast
abbrev gk:=@PySem.Heap.get?_push_ne
abbrev gm:=@PySem.Calls.spliced_nil
abbrev gq:=@PyProof.Rows.boot_min
abbrev gu:=@PySem.F.attrBase_ValueError
abbrev iG:=@PyProof.Rows.callWith_builtin1
abbrev iH:=@List.mem_flatMap
abbrev iI:=@List.lookup_cons
abbrev iJ:=@List.length_drop
abbrev iK:=@List.all_eq_true
abbrev iL:=@Bool.not_eq_true
abbrev iQ:=@List.pairwise_append
abbrev iR:=@List.getElem?_set_ne
abbrev iS:=@List.eq_nil_of_length_eq_zero
abbrev iT:=@List.count_cons_self
abbrev iZ:=@PySem.W.exm_one
abbrev i0:=@List.of_mem_zip
abbrev i3:=@List.isPerm_iff
abbrev i4:=@PySem.F.slot_zip_next
abbrev i7:=@PySem.W.hideAll_get
abbrev i8:=@PySem.Heap.SameBut.update
abbrev ir:=@Nat.ne_of_gt
abbrev iu:=@Eq.symm
abbrev jO:=@PySem.W.of_hideAll
abbrev jP:=@PySem.W.looks_find
abbrev jQ:=@List.Sublist.trans
abbrev jR:=@PySem.F.slot_range_iterator_next
abbrev jT:=@PySem.Code.quiet_builtin
abbrev jU:=@PySem.Calls.Name_function_global
abbrev jV:=@Bool.and_false
abbrev jX:=@List.pairwise_iff_getElem
abbrev jY:=@Decidable.byContradiction
abbrev jZ:=@Classical.byContradiction
abbrev j4:=@PySem.W.handed_on
abbrev j6:=@List.pairwise_map
abbrev j7:=@List.nodup_append
abbrev j8:=@List.length_range
abbrev j9:=@List.flatten_cons
abbrev ja:=@Int.min_def
abbrev jb:=@Int.max_def
abbrev jd:=@Array.size_append
abbrev jn:=@PySem.F.slot_list_insert
abbrev jo:=@Option.isSome_iff_exists
abbrev jq:=@List.getElem?_take_of_lt
abbrev kI:=@Option.getD_some
abbrev kJ:=@List.sublist_append_iff
abbrev kK:=@List.reverse_eq_nil_iff
abbrev kL:=@List.getElem_inj
abbrev kM:=@List.getElem?_replicate
abbrev kN:=@List.flatMap_nil
abbrev kO:=@List.filter_cons
abbrev kP:=@List.ext_getElem
abbrev kR:=@List.any_eq_true
abbrev kS:=@PySem.Heap.size_update
abbrev ke:=@Option.map_eq_some_iff
abbrev kf:=@List.range_succ_eq_map
abbrev ki:=@List.forIn_cons
abbrev kj:=@List.cons.injEq
abbrev km:=@PySem.F.entry_bexc_ga
abbrev kt:=@PyProof.Rows.boot_abs
abbrev ku:=@List.take_append_drop
abbrev ky:=@List.length_replicate
abbrev kz:=@List.Perm.append_left
abbrev lB:=@Array.mem_of_getElem?
abbrev lV:=@Bool.false_and
abbrev mE:=@Bool.or_false
abbrev mz:=@Nat.sub_self
abbrev nB:=@Nat.lt_or_ge
abbrev nE:=@Nat.le_of_eq
abbrev nF:=@Bool.or_true
set_option Elab.async false
set_option linter.all false
set_option maxRecDepth 100000
set_option maxHeartbeats 4000000
def PySem.W.Fast.tw6825822776631207561:Nat:=0
def PySem.W.Fast.tw17011169904732555342:Nat:=0
def PySem.W.Fast.tw1758947146459690306:Nat:=0
def PySem.W.Fast.tw13123126018731972659:Nat:=0
def PySem.W.Fast.tw14896137810062584885:Nat:=0
def PySem.W.Fast.tw16980499785366798819:Nat:=0
def PySem.W.Fast.tw8902809387500822968:Nat:=0
def PySem.W.Fast.tw8352819334411692597:Nat:=0
def PySem.W.Fast.tw9223337241900666544:Nat:=0
def PySem.W.Fast.tw17376430576841319261:Nat:=0
def PySem.W.Fast.tw6915755776152997754:Nat:=0
def PySem.W.Fast.tw4975200920636016611:Nat:=0
def PySem.W.Fast.tw14169338036329589311:Nat:=0
def PySem.W.Fast.tw2719362506429571605:Nat:=0
def PySem.W.Fast.tw520485824572429603:Nat:=0
def PySem.W.Fast.tw1460218089939809598:Nat:=0
def PySem.W.Fast.tw3301966694214206979:Nat:=0
def PySem.W.Fast.tw10150881158661000968:Nat:=0
def PySem.W.Fast.tw17199059951024845627:Nat:=0
def PySem.W.Fast.tw5314487878484133227:Nat:=0
def PySem.W.Fast.tw16558966952922981814:Nat:=0
def PySem.W.Fast.tw6905676587218602930:Nat:=0
def PySem.W.Fast.tw7685686021205439424:Nat:=0
def PySem.W.Fast.tw8252152284498544763:Nat:=0
def PySem.W.Fast.tw5831017536907588850:Nat:=0
def PySem.W.Fast.tw3558398766126292847:Nat:=0
def PySem.W.Fast.tw15340076138766245799:Nat:=0
def PySem.W.Fast.tw13025483625852816956:Nat:=0
def PySem.W.Fast.tw9374225870844036106:Nat:=0
def PySem.W.Fast.tw10095774895339614042:Nat:=0
def PySem.W.Fast.tw2186655977694483201:Nat:=0
def PySem.W.Fast.tw12568335129362354695:Nat:=0
def PySem.W.Fast.tw9747909204419082839:Nat:=0
def PySem.W.Fast.tw8837072281398678629:Nat:=0
def PySem.W.Fast.tw12676664329109267220:Nat:=0
def PySem.W.Fast.tw17791448830365145192:Nat:=0
def PySem.W.Fast.tw3143697472571998452:Nat:=0
def PySem.W.Fast.tw14249156954511205134:Nat:=0
def PySem.W.Fast.tw4782491160847738198:Nat:=0
def PySem.W.Fast.tw8926696150068384482:Nat:=0
def PySem.W.Fast.tw1060267090877997799:Nat:=0
def PySem.W.Fast.tw4469321377723200935:Nat:=0
def PySem.W.Fast.tw6908473784695262621:Nat:=0
def PySem.W.Fast.tw2872118634636265902:Nat:=0
namespace PySem.W.Fast
def tw2836456982216994198:=0
def tw11302243463836969900:=0
def tw6283434243368905256:=0
def tw203104541955063741:=0
def tw8240506603088060127:=0
def tw4759268892053051490:=0
def tw9696488037868710806:=0
def tw14670970304685206593:=0
def tw531986418198185060:=0
def tw3837402680505861233:=0
def tw3614353705999693831:=0
def tw10975715354339654351:=0
def tw3267184179246941880:=0
def tw18036892996860485341:=0
def tw14010536068825084501:=0
def tw13692774553760666115:=0
def tw8984199578758140736:=0
def tw17264171225735050547:=0
def tw16435284632781717592:=0
def tw9044989227966983381:=0
def tw677598340844619406:=0
def tw6102948066028467756:=0
def tw1589529034490400975:=0
def tw16850626306128758058:=0
def tw8017485198387168542:=0
def tw14194626945736871701:=0
def tw16665174762337253162:=0
def tw17205942355643520765:=0
def tw7211637635730984170:=0
def tw2970926971283977921:=0
def tw7409639413874969237:=0
def tw14204029964760279363:=0
def tw16850960847910043011:=0
def tw690056528795029453:=0
def tw7553512194512357585:=0
def tw9978664672380718543:=0
def tw4721948496918324597:=0
def tw11153078142529284058:=0
def tw4611541883607477219:=0
def tw14860415586735990683:=0
def tw10356247042891098959:=0
def tw16099898794695921090:=0
def tw9094650073478707577:=0
def tw15636883467189174869:=0
def tw13787945835571891740:=0
def tw11027418178801251224:=0
def tw4312279970043058856:=0
def tw2425443552441702426:=0
def tw6122558217187479027:=0
def tw2709573451487810230:=0
def tw3828767454266983893:=0
def tw10686968830721962799:=0
def tw14192184471421959755:=0
def tw4468746345263954563:=0
def tw16227360965351271546:=0
def tw2496708892442237236:=0
def tw9655896691191905583:=0
def tw794434385038143611:=0
def tw3144610520036283075:=0
def tw13653542856822875379:=0
def tw5510474596817148979:=0
def tw9528099816885754690:=0
def tw6729837247743974270:=0
def tw18419098965142670952:=0
def tw10348780892646888857:=0
def tw12934095912617097262:=0
def tw5451818280742408234:=0
def tw3738783428537759484:=0
def tw9495943861590240239:=0
def tw5334358648103102292:=0
def tw3848152127287907830:=0
def tw2747709092421441741:=0
def tw263437545989530315:=0
def tw16998289649800561706:=0
def tw15380814365513651182:=0
def tw13643861789398747989:=0
def tw11353192433268428122:=0
def tw3004908763199015735:=0
def tw18353736264055543282:=0
def tw6661663069800163648:=0
def tw800047528306461522:=0
def tw11247491431777171709:=0
def tw15104804276367839352:=0
def tw48608619665649173:=0
def tw17635002130773527350:=0
def tw5831615405612380605:=0
def tw9930293605819093164:=0
def tw1062074789593687335:=0
def tw12322157728336574601:=0
def tw2908233336489429139:=0
def tw2128857518007479296:=0
def tw13944671627316106970:=0
def tw12613063131042508607:=0
def tw2255605374503520933:=0
def tw9744668075490507770:=0
def tw2553261681893064668:=0
def tw14464857635406821995:=0
def tw12969057908943080137:=0
def tw10862099163979571524:=0
def tw10131209078452059612:=0
def tw9230512023878394251:=0
def tw11096557681508739152:=0
def tw2984320759977616139:=0
def tw14220100142411332239:=0
def tw2257392232358121599:=0
def tw9921008055405494927:=0
def tw1098077641995022644:=0
def tw4278888690522217375:=0
def tw12694535812966969970:=0
def tw10871678189489055414:=0
def tw15271641944513491854:=0
def tw3218282313826503815:=0
def tw7863898668782593027:=0
def tw7411656857653988562:=0
def tw14059782281600686866:=0
def tw13273444971936225857:=0
def tw14948598878692891605:=0
def tw14999692518246841390:=0
def tw13325032317732892693:=0
def tw6863908089550365243:=0
def tw1568755317297313138:=0
def tw3244296560395099966:=0
def tw12800922949796084872:=0
def tw17104042691570172576:=0
def tw12038661281498013609:=0
def tw5530019203631955742:=0
def tw5340726793812164393:=0
def tw13681331426886303946:=0
def tw830641973987394524:=0
def tw8193297564712147472:=0
def tw2331899833237614819:=0
def tw11627862470862748560:=0
def tw3668257988541888113:=0
def tw2924387703661910587:=0
def tw1853889464811742147:=0
def tw15736600588799551384:=0
def tw8267559538861619761:=0
def tw18248587328675726691:=0
def tw12313742515754724333:=0
def tw1146541708844500571:=0
def tw4088814972414574129:=0
def tw10467494933158294288:=0
def tw3623316509027296268:=0
def tw972299150175013569:=0
def tw13161583846031335185:=0
def tw8373706393946384785:=0
def tw16113815529299073452:=0
def tw11270199253576003828:=0
def tw8609610704023520056:=0
def tw6023195725842688699:=0
def tw10807591487691283458:=0
def tw13570632643082355037:=0
def tw5822228036957129137:=0
def tw15688776710481050342:=0
def tw1780447048881208635:=0
def tw15006411498800434014:=0
def tw14581767203162951026:=0
def tw13349447652349912795:=0
def tw853687092703929342:=0
def tw14228291922278436043:=0
def tw7007920669379450650:=0
def tw13191757341574587420:=0
def tw5729293436055796432:=0
def tw6664380062245794704:=0
def tw5465732434569792012:=0
def tw4123021149744757227:=0
def tw378763449032565232:=0
def tw3527315599697346889:=0
def tw15143005217597705926:=0
def tw14211832702515509138:=0
def tw13553684829618456611:=0
def tw106555133208610811:=0
def tw10013425495177366763:=0
def tw7503986769913255196:=0
def tw16330320963165411152:=0
def tw227166500963389730:=0
def tw10245087360838986254:=0
def tw4387363179397003106:=0
def tw14311831438466969533:=0
def tw149130322562285961:=0
def tw12040605701538968521:=0
def tw17670948387422995022:=0
def tw16072783448316558980:=0
def tw11881837041409377617:=0
def tw8555851329290604335:=0
def tw15290812263331036003:=0
def tw11719029013879374738:=0
def tw5520221389386597304:=0
def tw15922731332213158327:=0
def tw12339043819916250589:=0
def tw15743886450156547864:=0
def tw7669114233094703509:=0
def tw5733464214056754334:=0
def tw54594768633486275:=0
def tw4988789487441537775:=0
def tw3381980800177064399:=0
def tw1849115139733788002:=0
def tw17548991657425581024:=0
def tw16730359829251747347:=0
def tw14773949073407280376:=0
def tw11379360468554138381:=0
def tw10835091864013723764:=0
def tw9584662527438512926:=0
def tw8848258067345613635:=0
def tw8682657009197381735:=0
def tw3467674225941237692:=0
def tw15863152635094780201:=0
def tw15026188568457277206:=0
def tw13665799552426486822:=0
def tw12897744669146867860:=0
def tw11533195352376587759:=0
def tw11155365269922448334:=0
def tw10409158041344807710:=0
def tw545872844706565526:=0
def tw8101270643627329564:=0
def tw7517944800509287140:=0
def tw613954010595200779:=0
def tw5630761651122514522:=0
def tw2589127355361128806:=0
def tw15662314842009639227:=0
def tw14830246344130210276:=0
def tw14230215735577662469:=0
def tw12317504813054405879:=0
def tw12064210023399981099:=0
def tw9015226786945144271:=0
def tw8863518741385282890:=0
def tw8828207371459064760:=0
def tw583284293983639980:=0
def tw4886865994962540270:=0
def tw3627812164377735579:=0
def tw15178399297295455493:=0
def tw13355467112631208160:=0
def tw12908472177770137585:=0
def tw11805229674425657822:=0
def tw10166128040487760272:=0
def tw9939599773626082697:=0
def tw9870323497786432258:=0
def tw9857693270750446033:=0
def tw9849068057528838022:=0
def tw9529902430157107005:=0
def tw9498457426758339434:=0
def tw9434718333281371846:=0
def tw9341503063348384234:=0
def tw8953428497412857883:=0
def tw8915514306750664489:=0
def tw8855043043432242769:=0
def tw8412445002583142526:=0
def tw829264048272795758:=0
def tw8244548489875760853:=0
def tw8123542334104547760:=0
def tw7966740813620900291:=0
def tw7657049921552567359:=0
def tw754500742547453449:=0
def tw715563511035699988:=0
def tw6993054722430587504:=0
def tw6216972562905547161:=0
def tw6071157894206882674:=0
def tw5746020091240829805:=0
def tw5717596606409622374:=0
def tw5579396084849872859:=0
def tw5477430291757838747:=0
def tw5274941190471007212:=0
def tw4882055919338580813:=0
def tw4868857689716137168:=0
def tw4592358496084339557:=0
def tw4543346265216148906:=0
def tw4220675627459787091:=0
def tw421637049823920439:=0
def tw4154064490802095929:=0
def tw401696402296515553:=0
def tw3708169524385984829:=0
def tw3620757186568423417:=0
def tw3344818776126499791:=0
def tw3214054796029429776:=0
def tw2881602781724811202:=0
def tw2750559571668421709:=0
def tw2742325091731272837:=0
def tw1996209388856212784:=0
def tw1956919717595992954:=0
def tw1860257005755803365:=0
def tw18404910007172098510:=0
def tw183746526562135508:=0
def tw18337483136035372538:=0
def tw18097877547865324789:=0
def tw18077476605642963029:=0
def tw17787188861950336995:=0
def tw175040514622889850:=0
def tw17318439116393853859:=0
def tw17061395053862377416:=0
def tw16738655284788688112:=0
def tw15223081858862193283:=0
def tw14713309356586822617:=0
def tw14540394646626887370:=0
def tw14386043960980003418:=0
def tw14355727743223070685:=0
def tw13846993348486637391:=0
def tw13389439628881349105:=0
def tw13300748616890569569:=0
def tw13157243878300718546:=0
def tw12950522803229318309:=0
def tw12861610819535766366:=0
def tw12755892344470923171:=0
def tw12305939666580046118:=0
def tw11697727960251814513:=0
def tw11608181326804724275:=0
def tw11418704108497209693:=0
def tw11320523172863783397:=0
def tw11110925043565375073:=0
def tw11000863645244253390:=0
def tw10636185123013275797:=0
def tw1043266476838324699:=0
def tw10378784826917429865:=0
def tw10183157008892911331:=0
end PySem.W.Fast
local macro_rules | `(tactic| lia) => `(tactic| first | lia -verbose | omega)
namespace Rm
structure EW (R:List Int):Prop where
 nn:∀ x∈R,0<=x
 z1:R.count 0=1
 two:∀ x∈R,0<x->R.count x=2
 nc:∀ u v,[u,v,u,v].Sublist R->u=v
 top:∀ u,¬ [u,0,u].Sublist R
section
variable {U W:List Int} {x y:Int}
def gn{s1 s2:List Int}{a:Int}(h1:s1.Sublist U)(h2:s2.Sublist W)(ha:a=x\/a=y):(s1++a::s2).Sublist (U++x::y::W):=by
 refine h1.append ?_;rcases ha with rfl | rfl
 ·exact(h2.cons y).cons_cons a
 ·exact(h2.cons_cons a).cons x
def sub_0{s:List Int}(h:s.Sublist (U++W)):s.Sublist (U++x::y::W):=
 h.trans ((List.Sublist.refl U).append (((List.Sublist.refl W).cons y).cons x))
def zd{a b c d:Int}(h:[a,b,c,d].Sublist (U++W)):
  [a,b,c,d].Sublist W\/([a].Sublist U/\[b,c,d].Sublist W)\/([a,b].Sublist U/\[c,d].Sublist W)\/([a,b,c].Sublist U/\[d].Sublist W)\/[a,b,c,d].Sublist U:=by
 obtain⟨s1,s2,e,h1,h2⟩:=kJ.mp h
 match s1,e with
 | [],e=>simp at e;subst e;exact .inl h2
 | [_],e=>simp at e;obtain⟨rfl,rfl⟩:=e;exact .inr (.inl ⟨h1,h2⟩)
 | [_,_],e=>simp at e;obtain⟨rfl,rfl,rfl⟩:=e;exact .inr (.inr (.inl ⟨h1,h2⟩))
 | [_,_,_],e=>simp at e;obtain⟨rfl,rfl,rfl,rfl⟩:=e;exact .inr (.inr (.inr (.inl ⟨h1,h2⟩)))
 | _::_::_::_::r,e=>simp at e;obtain⟨rfl,rfl,rfl,rfl,rfl,rfl⟩:=e;exact .inr (.inr (.inr (.inr h1)))
def u7{a b c:Int}(h:[a,b,c].Sublist (U++W)):
  [a,b,c].Sublist W\/([a].Sublist U/\[b,c].Sublist W)\/([a,b].Sublist U/\[c].Sublist W)\/[a,b,c].Sublist U:=by
 obtain⟨s1,s2,e,h1,h2⟩:=kJ.mp h
 match s1,e with
 | [],e=>simp at e;subst e;exact .inl h2
 | [_],e=>simp at e;obtain⟨rfl,rfl⟩:=e;exact .inr (.inl ⟨h1,h2⟩)
 | [_,_],e=>simp at e;obtain⟨rfl,rfl,rfl⟩:=e;exact .inr (.inr (.inl ⟨h1,h2⟩))
 | _::_::_::r,e=>simp at e;obtain⟨rfl,rfl,rfl,rfl,rfl⟩:=e;exact .inr (.inr (.inr h1))
def ET{a:Int}{s l:List Int}(h:(a::s).Sublist l):s.Sublist l:=(List.sublist_cons_self a s).trans h
def F8{a b c d:Int}{l:List Int}(h:[a,b,c,d].Sublist l):[a,b,c].Sublist l:=jQ (by simp:[a,b,c].Sublist [a,b,c,d]) h
def HL{a b c:Int}{l:List Int}(h:[a,b,c].Sublist l):[a,b].Sublist l:=jQ (by simp) h
def HM{a b:Int}{l:List Int}(h:[a,b].Sublist l):[a].Sublist l:=jQ (by simp) h
def EW.k1(E:EW (U++x::y::W)){a c v:Int}(ha:a=x\/a=y)(hc:c=x\/c=y)(h:[a,v,c,v].Sublist (U++W)):v=a\/v=c:=by
 rcases zd h with h | ⟨h1,h2⟩ | ⟨h1,h2⟩ | ⟨h1,h2⟩ | h
 ·exact .inr (E.nc _ _ (gn (cC U) (ET h) hc)).symm
 ·exact .inr (E.nc _ _ (gn (cC U) h2 hc)).symm
 ·exact .inl (E.nc _ _ (gn h1 (ET h2) ha)).symm
 ·exact .inl (E.nc _ _ (gn (HL h1) h2 ha)).symm
 ·exact .inr (E.nc _ _ (gn (ET h) (cC W) hc))
def EW.k2(E:EW (U++x::y::W)){a c u:Int}(ha:a=x\/a=y)(hc:c=x\/c=y)(h:[u,a,u,c].Sublist (U++W)):u=a\/u=c:=by
 rcases zd h with h | ⟨h1,h2⟩ | ⟨h1,h2⟩ | ⟨h1,h2⟩ | h
 ·exact .inl (E.nc _ _ (gn (cC U) (F8 h) ha)).symm
 ·exact .inr (E.nc _ _ (gn h1 (ET h2) hc))
 ·exact .inr (E.nc _ _ (gn (HM h1) h2 hc))
 ·exact .inl (E.nc _ _ (gn h1 (cC W) ha))
 ·exact .inl (E.nc _ _ (gn (F8 h) (cC W) ha))
def EW.k3(E:EW (U++x::y::W)){a c:Int}(ha:a=x\/a=y)(hc:c=x\/c=y)(h:[a,0,c].Sublist (U++W)):False:=by
 rcases u7 h with h | ⟨h1,h2⟩ | ⟨h1,h2⟩ | h
 ·exact E.top _ (gn (cC U) (ET h) hc)
 ·exact E.top _ (gn (cC U) h2 hc)
 ·exact E.top _ (gn h1 (cC W) ha)
 ·exact E.top _ (gn (HL h) (cC W) ha)
def EW.k4(E:EW (U++x::y::W)){u v:Int}(h0:x=0\/y=0)(hv:v=x\/v=y)(h:[u,v,u].Sublist (U++W)):u=v:=by
 have hz:(0:Int)=x\/(0:Int)=y:=h0.imp iu iu;rcases u7 h with h | ⟨h1,h2⟩ | ⟨h1,h2⟩ | h
 ·exact(E.nc _ _ (gn (cC U) h hv)).symm
 ·exact(E.top _ (gn h1 (ET h2) hz)).elim
 ·exact(E.top _ (gn (HM h1) h2 hz)).elim
 ·exact E.nc _ _ (gn h (cC W) hv)
end
def rn(lo hi v:Int):Int:=if v=hi then lo else v
def pK{lo hi v:Int}(hne:lo≠hi):∀l:List Int,(l.map (rn lo hi)).count v=if v=hi then 0 else if v=lo then l.count lo+l.count hi else l.count v
 | []=>by simp
 | a::l=>by
  have ih:=pK (v:=v) hne l;simp only[ae,gF,ih,rn,beq_iff_eq];by_cases h1:v=hi
  ·subst h1;by_cases h2:a=v
   ·simp[h2,hne]
   ·simp[h2]
  ·by_cases h3:v=lo
   ·subst h3;by_cases h2:a=hi
    ·subst h2;simp[h1,cU h1];lia
    ·simp[h1,h2];lia
   ·by_cases h2:a=hi
    ·subst h2;simp[h1,h3,cU h3,cU h1]
    ·simp[h1,h2,h3]
def mP{U W:List Int}{x y v:Int}:(U++x::y::W).count v=(U++W).count v+(if x=v then 1 else 0)+(if y=v then 1 else 0):=by
 simp only[List.count_append,gF,beq_iff_eq];lia
def lG{lo hi a:Int}:(a=hi/\rn lo hi a=lo)\/(a≠hi/\rn lo hi a=a):=by
 by_cases h:a=hi
 ·exact .inl ⟨h,by simp[rn,h]⟩
 ·exact .inr ⟨h,by simp[rn,h]⟩
def IW{f:Int->Int}{l:List Int}{u v p q:Int}(h:[u,v,p,q].Sublist (l.map f)):∃a b c d,[a,b,c,d].Sublist l/\u=f a/\v=f b/\p=f c/\q=f d:=by
 obtain⟨l',hl,e⟩:=List.sublist_map_iff.mp h;have hn:l'.length=4:=by have:=congrArg List.length e;simp at this;lia
 obtain⟨a,r,rfl⟩:=bN hn;obtain⟨b,r,rfl⟩:=bN (l:=r) (n:=2) (by simpa using hn);obtain⟨c,r,rfl⟩:=bN (l:=r) (n:=1) (by simpa using hn);obtain⟨d,r,rfl⟩:=bN (l:=r) (n:=0) (by simpa using hn);have:r=[]:=iS (by simpa using hn);subst this;simp only[ae,dy,kj,and_true] at e;exact⟨a,b,c,d,hl,e⟩
def IX{f:Int->Int}{l:List Int}{u v p:Int}(h:[u,v,p].Sublist (l.map f)):∃a b c,[a,b,c].Sublist l/\u=f a/\v=f b/\p=f c:=by
 obtain⟨l',hl,e⟩:=List.sublist_map_iff.mp h;have hn:l'.length=3:=by have:=congrArg List.length e;simp at this;lia
 obtain⟨a,r,rfl⟩:=bN hn;obtain⟨b,r,rfl⟩:=bN (l:=r) (n:=1) (by simpa using hn);obtain⟨c,r,rfl⟩:=bN (l:=r) (n:=0) (by simpa using hn);have:r=[]:=iS (by simpa using hn);subst this;simp only[ae,dy,kj,and_true] at e;exact⟨a,b,c,hl,e⟩
def EW.join{U W:List Int}{x y lo hi:Int}(E:EW (U++x::y::W))(hlh:lo<hi)(hp:(lo=x/\hi=y)\/(lo=y/\hi=x)):EW ((U++W).map (rn lo hi)):=by
 have hne:lo≠hi:=by lia
 have hlo:lo=x\/lo=y:=hp.elim (λh=>.inl h.1) (λh=>.inr h.1);have hhi:hi=x\/hi=y:=hp.elim (λh=>.inr h.2) (λh=>.inl h.2);have mlo:lo∈U++x::y::W:=by rcases hlo with rfl | rfl<;>simp
 have mhi:hi∈U++x::y::W:=by rcases hhi with rfl | rfl<;>simp
 have n0:=E.nn _ mlo;have chi:(U++W).count hi=1:=by
  have:=E.two hi mhi (by lia);rw[mP] at this;rcases hp with ⟨rfl,rfl⟩ | ⟨rfl,rfl⟩
  ·rw[PV hne,PX rfl] at this;lia
  ·rw[PX rfl,PV hne] at this;lia
 have clo:(U++W).count lo=if lo=0 then 0 else 1:=by
  have e:(U++x::y::W).count lo=(U++W).count lo+1:=by
   rw[mP];rcases hp with ⟨rfl,rfl⟩ | ⟨rfl,rfl⟩
   ·rw[PX rfl,PV (cU hne)]
   ·rw[PX rfl,PV (cU hne)]
  by_cases h:lo=0
  ·rw[PX h];have:=E.z1;rw[<-h,e] at this;lia
  ·rw[PV h];have:=E.two lo mlo (by lia);lia
 have oth:∀v,v≠lo->v≠hi->(U++W).count v=(U++x::y::W).count v:=λv h1 h2=>by
  rw[mP];rcases hp with ⟨rfl,rfl⟩ | ⟨rfl,rfl⟩
  ·rw[PV (cU h1),PV (cU h2)];rfl
  ·rw[PV (cU h2),PV (cU h1)];rfl
 have mem0:∀v,v∈(U++W).map (rn lo hi)->v≠hi/\(v=lo\/v∈U++W):=λv hv=>by
  obtain⟨a,ha,rfl⟩:=bB.mp hv;rcases lG (lo:=lo) (hi:=hi) (a:=a) with ⟨h1,h2⟩ | ⟨h1,h2⟩
  ·rw[h2];exact⟨hne,.inl rfl⟩
  ·rw[h2];exact⟨h1,.inr ha⟩
 have inR:∀v,v∈U++W->v∈U++x::y::W:=λv hv=>by
  rcases aQ.mp hv with h | h
  ·exact bC _ h
  ·exact a7 _ (aN _ (aN _ h))
 have pick:∀a c u,rn lo hi a=u->rn lo hi c=u->a=c\/(u=lo/\(a=x\/a=y)/\(c=x\/c=y)):=λa c u h1 h2=>by
  rcases lG (lo:=lo) (hi:=hi) (a:=a) with ⟨h3,h4⟩ | ⟨h3,h4⟩<;>rcases lG (lo:=lo) (hi:=hi) (a:=c) with ⟨h5,h6⟩ | ⟨h5,h6⟩
  ·exact .inl (h3.trans h5.symm)
  ·have e1:u=lo:=by rw[<-h1,h4]
   have e2:c=lo:=by rw[<-h6,h2,e1]
   exact .inr ⟨e1,h3▸hhi,e2▸hlo⟩
  ·have e1:u=lo:=by rw[<-h2,h6]
   have e2:a=lo:=by rw[<-h4,h1,e1]
   exact .inr ⟨e1,e2▸hlo,h5▸hhi⟩
  ·exact .inl (by rw[<-h4,<-h6,h1,h2])
 have xy:∀a:Int,a=x\/a=y->rn lo hi a=lo:=λa h=>by
  have:a=lo\/a=hi:=by
   rcases hp with ⟨rfl,rfl⟩ | ⟨rfl,rfl⟩
   ·exact h
   ·exact h.symm
  rcases this with rfl | rfl
  ·simp[rn,hne]
  ·simp[rn]
 refine⟨λv hv=>?_,?_,λv hv h0=>?_,λu v h=>?_,λu h=>?_⟩
 ·rcases(mem0 v hv).2 with rfl | h
  ·exact n0
  ·exact E.nn v (inR v h)
 ·rw[pK hne,PV (by lia)];by_cases h:(0:Int)=lo
  ·rw[PX h,clo,PX h.symm,chi]
  ·rw[PV h,oth 0 h (by lia),E.z1]
 ·obtain⟨h1,h2⟩:=mem0 v hv;rw[pK hne,PV h1];by_cases h:v=lo
  ·rw[PX h,clo,PV (by lia),chi]
  ·rw[PV h,oth v h h1];exact E.two v (inR v (h2.resolve_left h)) h0
 ·obtain⟨a,b,c,d,hl,e1,e2,e3,e4⟩:=IW h
  ·skip
   rcases pick a c u e1.symm e3.symm with rfl | ⟨hu,ha,hc⟩
   ·rcases pick b d v e2.symm e4.symm with rfl | ⟨hv,hb,hd⟩
    ·have:=E.nc _ _ (sub_0 hl);subst this;rw[e1,e2]
    ·rcases E.k2 hb hd hl with z | z
     ·rw[e1,z,hv];exact xy b hb
     ·rw[e1,z,hv];exact xy d hd
   ·rcases pick b d v e2.symm e4.symm with rfl | ⟨hv,hb,hd⟩
    ·rcases E.k1 ha hc hl with z | z
     ·rw[e2,z,hu];exact(xy a ha).symm
     ·rw[e2,z,hu];exact(xy c hc).symm
    ·rw[hu,hv]
 ·obtain⟨a,b,c,hl,e1,e2,e3⟩:=IX h
  ·skip
   by_cases hl0:lo=0
   ·have h0n:(0:Int)∉U++W:=by rw[<-List.count_eq_zero,<-hl0,clo,PX hl0]
    have hb:b∈U++W:=hl.subset (by simp);have ha:a∈U++W:=hl.subset (by simp);have bh:b=hi:=by
     rcases lG (lo:=lo) (hi:=hi) (a:=b) with ⟨h3,h4⟩ | ⟨h3,h4⟩
     ·exact h3
     ·rw[h4] at e2;exact(h0n (e2▸hb)).elim
    have hz:x=0\/y=0:=hlo.elim (λz=>.inl (z▸hl0)) (λz=>.inr (z▸hl0));rcases pick a c u e1.symm e3.symm with rfl | ⟨hu,ha',hc'⟩
    ·have eab:a=b:=E.k4 hz (bh▸hhi) hl;have:=hl.count_le hi;rw[chi,eab,bh] at this;simp at this
    ·have:a=hi:=by
      have:a=lo\/a=hi:=by
       rcases hp with ⟨rfl,rfl⟩ | ⟨rfl,rfl⟩
       ·exact ha'
       ·exact ha'.symm
      rcases this with z | z
      ·exact(h0n (by rw[<-hl0,<-z];exact ha)).elim
      ·exact z
     have cc:=hl.count_le hi;rw[chi,this,bh] at cc;simp at cc
   ·have b0:b=0:=by
     rcases lG (lo:=lo) (hi:=hi) (a:=b) with ⟨h3,h4⟩ | ⟨h3,h4⟩
     ·rw[h4] at e2;exact(hl0 e2.symm).elim
     ·rw[h4] at e2;exact e2.symm
    subst b0;rcases pick a c u e1.symm e3.symm with rfl | ⟨hu,ha',hc'⟩
    ·exact E.top _ (sub_0 hl)
    ·exact E.k3 ha' hc' hl
def IB{U W:List Int}{z v:Int}(hU:z∉U)(hW:z∉W)(hv:v≠z):¬[z,v,z].Sublist (U++z::z::W):=λh=>by
 have hw:∀{r:List Int},¬(v::z::r).Sublist W:=λh=>hW (h.subset (by simp));rcases u7 h with h | ⟨h1,h2⟩ | ⟨h1,h2⟩ | h
 ·have h':[v,z].Sublist (z::W):=(List.cons_sublist_cons.mp h)
  cases h' with
  | cons _ h''=>exact hw h''
  | cons_cons _ _=>exact hv rfl
 ·exact hU (h1.subset (by simp))
 ·exact hU (h1.subset (by simp))
 ·exact hU (h.subset (by simp))
def BH{l:List Int}{z:Int}(h:z∉l):l.filter (λa=>!decide (a=z))=l:=
 List.filter_eq_self.mpr λa ha=>by simp only[Bool.not_eq_true',decide_eq_false_iff_not];exact λe=>h (e▸ha)
def EW.ins{U W:List Int}{z:Int}(E:EW (U++W))(hz:0<z)(hU:z∉U)(hW:z∉W):EW (U++z::z::W):=by
 have c0:(U++W).count z=0:=List.count_eq_zero.mpr λh=>(aQ.mp h).elim hU hW;have inn:∀v,v∈U++z::z::W->v=z\/v∈U++W:=λv h=>by
  simp only[aQ,aI] at h ⊢;rcases h with h | h | h | h<;>simp[h]
 have fl:∀s:List Int,z∉s->s.Sublist (U++z::z::W)->s.Sublist (U++W):=λs hs h=>by
  have h2:=h.filter (λa=>!decide (a=z));have e1:=BH hs;have e2:(U++z::z::W).filter (λa=>!decide (a=z))=U++W:=by
   rw[gN,kO,kO];simp only[decide_true,Bool.not_true,dP,P4];rw[BH hU,BH hW]
  rw[e1,e2] at h2;exact h2
 refine⟨λv hv=>?_,?_,λv hv h0=>?_,λu v h=>?_,λu h=>?_⟩
 ·rcases inn v hv with rfl | h
  ·lia
  ·exact E.nn v h
 ·rw[mP,PV (by lia),E.z1]
 ·rcases inn v hv with rfl | h
  ·rw[mP,c0,PX rfl]
  ·by_cases hvz:z=v
   ·subst hvz;rw[mP,c0,PX rfl]
   ·rw[mP,PV hvz];exact E.two v h h0
 ·by_cases huv:u=v
  ·exact huv
  by_cases hu:u=z
  ·subst hu;exact(IB hU hW (cU huv) (F8 h)).elim
  by_cases hv:v=z
  ·subst hv;exact(IB hU hW huv (ET h)).elim
  exact E.nc _ _ (fl _ (by simp[cU hu,cU hv]) h)
 ·by_cases hu:u=z
  ·subst hu;exact IB hU hW (by lia) h
  exact E.top _ (fl _ (by simp[cU hu];lia) h)
def JS(pre:List Int)(x:Int):Nat:=if 0<x then (if x∈pre then 41 else 40) else 42
def IL:List Int->List Int->List Nat
 | _,[]=>[]
 | pre,x::r=>JS pre x::IL (pre++[x]) r
def vl(c:Nat):Int:=if c=40 then 1 else if c=41 then -1 else 0
def ps(cs:List Nat):Int:=(cs.map vl).sum
section
variable {x y:Int}
def off{l:List Int}(h1:x∉l)(h2:y∉l):∀v∈l,v≠x/\v≠y:=λv hv=>⟨λe=>h1 (e▸hv),λe=>h2 (e▸hv)⟩
end
def JR(L R:List Int):List Nat:=IL [] L++124::IL L R.reverse
def mx:List Int->Int
 | []=>0
 | x::l=>max x (mx l)
def wa:∀{l:List Int} {x:Int},x∈l->x<=mx l
 | a::l,x,h=>by
  simp only[mx];rcases aI.mp h with rfl | h
  ·lia
  ·have:=wa h;lia
def Dh:∀{l:List Int} {m:Int},0<=m->(∀x∈l,x<=m)->mx l<=m
 | [],m,h0,_=>h0
 | a::l,m,h0,h=>by
  have h1:=h a (by simp);have h2:=Dh h0 (λx hx=>h x (aN _ hx));simp only[mx];lia
def Dg:∀(l:List Int),0<=mx l
 | []=>di 0
 | a::l=>by have:=Dg l;simp only[mx];lia
def HG{l:List Int}{m:Int}(h:m∈l)(h0:0<=m)(hm:∀x∈l,x<=m):m=mx l:=by
 have h1:=wa h;have h2:=Dh h0 hm;lia
def lm(L R:List Int)(c:Nat):Option (List Int×List Int):=
 if c=97 then some (L++[1+mx (L++R)],R++[1+mx (L++R)])
 else if c=98 then (match R.getLast? with | some v=>some (L++[v],R.dropLast) | none=>none)
 else if c=99 then (match L.getLast? with | some v=>some (L.dropLast,R++[v]) | none=>none)
 else match L.getLast?,R.getLast? with
  | some x,some y=>if x=y then none else some (L.dropLast.map (rn (min x y) (max x y)),R.dropLast.map (rn (min x y) (max x y)))
  | _,_=>none
def EE(L R:List Int):Prop:=EW (L++R.reverse)
def dY{l:List Int}(h:l≠[]):∃P x,l=P++[x]:=⟨l.dropLast,l.getLast h,(de h).symm⟩
def tj{L Q:List Int}{v:Int}:lm L (Q++[v]) 98=some (L++[v],Q):=by simp[lm]
def rf{L:List Int}:lm L [] 98=none:=by simp[lm]
def tZ{P R:List Int}{v:Int}:lm (P++[v]) R 99=some (P,R++[v]):=by simp[lm]
def rZ{R:List Int}:lm [] R 99=none:=by simp[lm]
def tY{P Q:List Int}{x y:Int}:lm (P++[x]) (Q++[y]) 100=if x=y then none else some (P.map (rn (min x y) (max x y)),Q.map (rn (min x y) (max x y))):=by simp[lm]
def rY{R:List Int}:lm [] R 100=none:=by simp[lm]
def rX{L:List Int}:lm L [] 100=none:=by
 unfold lm;simp only[List.getLast?_nil];cases L.getLast?<;>simp
def BF{L R:List Int}(E:EE L R):0<1+mx (L++R)/\1+mx (L++R)∉L/\1+mx (L++R)∉R.reverse:=by
 have:=Dg (L++R);refine⟨by lia,λh=>?_,λh=>?_⟩
 ·have:=wa (l:=L++R) (bC _ h);lia
 ·have:=wa (l:=L++R) (a7 _ (List.mem_reverse.mp h));lia
def EE.a{L R:List Int}(E:EE L R):EE (L++[1+mx (L++R)]) (R++[1+mx (L++R)]):=by
 obtain⟨h0,h1,h2⟩:=BF E;unfold EE;have:=EW.ins E h0 h1 h2;simpa using this
def EE.b{L Q:List Int}{v:Int}(E:EE L (Q++[v])):EE (L++[v]) Q:=by unfold EE at *;simpa using E
def EE.c{P R:List Int}{v:Int}(E:EE (P++[v]) R):EE P (R++[v]):=by unfold EE at *;simpa using E
def EE.d{P Q:List Int}{x y:Int}(E:EE (P++[x]) (Q++[y]))(h:x≠y):EE (P.map (rn (min x y) (max x y))) (Q.map (rn (min x y) (max x y))):=by
 unfold EE at *;have:=EW.join (U:=P) (W:=Q.reverse) (x:=x) (y:=y) (lo:=min x y) (hi:=max x y) (by simpa using E) (by lia) (by lia);simpa using this
def EE.go{L R L' R':List Int}{c:Nat}(E:EE L R)(hc:c=97\/c=98\/c=99\/c=100)(h:lm L R c=some (L',R')):EE L' R':=by
 rcases hc with rfl | rfl | rfl | rfl
 ·simp only[lm,P3,Option.some.injEq,Prod.mk.injEq] at h;obtain⟨rfl,rfl⟩:=h;exact E.a
 ·by_cases hR:R=[]
  ·subst hR;rw[rf] at h;cases h
  ·obtain⟨Q,v,rfl⟩:=dY hR;rw[tj] at h;cases h;exact E.b
 ·by_cases hL:L=[]
  ·subst hL;rw[rZ] at h;cases h
  ·obtain⟨P,v,rfl⟩:=dY hL;rw[tZ] at h;cases h;exact E.c
 ·by_cases hL:L=[]
  ·subst hL;rw[rY] at h;cases h
  ·by_cases hR:R=[]
   ·subst hR;rw[rX] at h;cases h
   ·obtain⟨P,x,rfl⟩:=dY hL;obtain⟨Q,y,rfl⟩:=dY hR;rw[tY] at h;by_cases e:x=y
    ·rw[PX e] at h;cases h
    ·rw[PV e] at h;cases h;exact E.d e
def EE.one:EE [0] []:=by
 refine⟨by simp,by decide,by simp,λu v h=>?_,λu h=>?_⟩
 ·have:=h.length_le;simp at this
 ·have:=h.length_le;simp at this
def EE.two:EE [] [0]:=EE.one
end Rm
namespace L2
open PySem PySem.Spec PyProof.Rows
abbrev Key:=Sum Int Str
def qU:Key->Value->Bool
 | .inl k,v=>Value.isInt k v
 | .inr x,v=>Value.isStrOf x v
def IZ(w:World):Key->Int
 | .inl k=>hashInt k
 | .inr x=>hashStr w x
def du:∀{k:Key} {v:Value},qU k v=true->(∃i t,k=Sum.inl i/\v=Value.int i t)\/(∃x t,k=Sum.inr x/\v=Value.str x t)
 | .inl i,v,h=>by
  obtain⟨t,e⟩:=Value.isInt_shape (k:=i) (v:=v) h;exact .inl ⟨i,t,rfl,e⟩
 | .inr x,v,h=>by
  obtain⟨t,e⟩:=Value.isStrOf_shape (x:=x) (v:=v) h;exact .inr ⟨x,t,rfl,e⟩
def xx(i:Int)(t:Tok):qU (.inl i) (.int i t)=true:=by simp[qU,Value.isInt]
def xw(x:Str)(t:Tok):qU (.inr x) (.str x t)=true:=by simp[qU,Value.isStrOf]
def F6(a b:Int):decide ((Sum.inl a:Key)=Sum.inl b)=(a==b):=by
 by_cases e:a=b
 ·subst e;simp
 ·have h:¬(Sum.inl a:Key)=Sum.inl b:=λq=>e (Sum.inl.inj q);rw[PZ h];exact(beq_eq_false_iff_ne.mpr e).symm
def F3(a b:Str):decide ((Sum.inr a:Key)=Sum.inr b)=decide (a=b):=by
 by_cases e:a=b
 ·subst e;simp
 ·have h:¬(Sum.inr a:Key)=Sum.inr b:=λq=>e (Sum.inr.inj q);rw[PZ h,PZ e]
def F5(a:Int)(b:Str):decide ((Sum.inl a:Key)=Sum.inr b)=false:=PZ (λq=>nomatch q)
def F4(a:Str)(b:Int):decide ((Sum.inr a:Key)=Sum.inl b)=false:=PZ (λq=>nomatch q)
def eI (prog : Program) (w : World) : PySem.KeyKind prog w Key where
  is := qU
  hash := IZ w
  inj := fun v a b ha hb => by
    rcases du ha with ⟨i, t, rfl, rfl⟩ | ⟨x, t, rfl, rfl⟩
    · rcases du hb with ⟨j, u, rfl, e⟩ | ⟨y, u, rfl, e⟩
      · injection e with e1 _; rw [e1]
      · exact nomatch e
    · rcases du hb with ⟨j, u, rfl, e⟩ | ⟨y, u, rfl, e⟩
      · exact nomatch e
      · injection e with e1 _; rw [e1]
  byValue := fun k v h => by
    rcases du h with ⟨i, t, rfl, rfl⟩ | ⟨x, t, rfl, rfl⟩ <;> rfl
  pyHash := fun hv h => by
    rcases du hv with ⟨i, t, rfl, rfl⟩ | ⟨x, t, rfl, rfl⟩
    · exact wpAny_pyHash_int h
    · exact wpAny_pyHash_str h
  eqBool := fun hu hv h => by
    rcases du hu with ⟨i, t, rfl, rfl⟩ | ⟨x, t, rfl, rfl⟩
    · rcases du hv with ⟨j, u, rfl, rfl⟩ | ⟨y, u, rfl, rfl⟩
      · rw [F6] at h; exact wpAny_eqBool_int h
      · rw [F5] at h; exact SeqAt.EqAt.int_str i t y u _ _ _ _ h
    · rcases du hv with ⟨j, u, rfl, rfl⟩ | ⟨y, u, rfl, rfl⟩
      · rw [F4] at h; exact SeqAt.EqAt.str_int x t j u _ _ _ _ h
      · rw [F3] at h; exact wpAny_eqBool_str h
  «strs» := fun k x t v h => by
    rcases du h with ⟨i, u, rfl, e⟩ | ⟨y, u, rfl, e⟩
    · exact nomatch e
    · injection e with e1 _
      subst e1
      cases v <;> rfl
def tQ(prog:Program)(w:World)(i:Int)(t:Tok):(eI prog w).is (.inl i) (.int i t)=true:=xx i t
def tP(prog:Program)(w:World)(x:Str)(t:Tok):(eI prog w).is (.inr x) (.str x t)=true:=xw x t
inductive V where
 | non | bl (b:Bool) | int (i:Int) | str (x:Str) | byt (b:Array UInt8) | flt (b:UInt64) | ref (a:Addr) | ty (n:String)
 deriving DecidableEq
def RelV:V->Value->Prop
 | .non,u=>u=Value.none
 | .bl b,u=>u=Value.bool b
 | .int i,u=>∃t,u=Value.int i t
 | .str x,u=>∃t,u=Value.str x t
 | .byt b,u=>∃t,u=Value.bytes b t
 | .flt b,u=>∃t,u=Value.float b t
 | .ref a,u=>u=Value.ref a
 | .ty n,u=>u=Value.type n
abbrev bj:List V->List Value->Prop:=Paired RelV
def bj.length{xs:List V}{us:List Value}(r:bj xs us):xs.length=us.length:=dB r
def bj.get:∀{xs:List V} {us:List Value} {i:Nat} {x:V},bj xs us->xs[i]? = some x->∃u,us[i]? = some u/\RelV x u
 | _,_,_,_,.nil,e=>by simp at e
 | _,_,0,_,.cons r _,e=>by simp at e;subst e;exact⟨_,rfl,r⟩
 | _,_,i+1,x,.cons _ t,e=>by
  obtain⟨u,h1,h2⟩:=bj.get (i:=i) (x:=x) t (by simpa using e);exact⟨u,by simpa using h1,h2⟩
def bj.append:∀{xs ys:List V} {us ws:List Value},bj xs us->bj ys ws->bj (xs++ys) (us++ws)
 | _,_,_,_,.nil,s=>s
 | _,_,_,_,.cons r t,s=>.cons r (bj.append t s)
def bj.take:∀{xs:List V} {us:List Value} (n:Nat),bj xs us->bj (xs.take n) (us.take n)
 | _,_,0,_=>.nil
 | _,_,_+1,.nil=>.nil
 | _,_,n+1,.cons r t=>.cons r (bj.take n t)
def bj.drop:∀{xs:List V} {us:List Value} (n:Nat),bj xs us->bj (xs.drop n) (us.drop n)
 | _,_,0,r=>r
 | _,_,_+1,.nil=>.nil
 | _,_,n+1,.cons _ t=>bj.drop n t
def ny:Option V->Option Value->Prop
 | some v,some u=>RelV v u
 | none,none=>True
 | _,_=>False
def KV{κ:Type}:List (κ×V)->List (κ×Value)->Prop:=Paired λ(p:κ×V) (q:κ×Value)=>p.1=q.1/\RelV p.2 q.2
def kV:Key->V
 | .inl i=>.int i
 | .inr x=>.str x
inductive HO where
  | lst (xs:List V)
  | tup (xs:List V)
  | dK (kvs:List (Key×V)) | dT (kvs:List (List Key×V))
  | set (S:Int->Bool) (n:Nat)
  | ins (C dx:Addr) (fs:List (Str×V))
  | own (x:Addr)
  | xd (fs:List (Str×V))
  | met (f x:Addr)
  | rng (lo hi:Int)
  | frz (o:Obj) (u:HO)
  | tbl (ps:Array Value)
  | ext (φ:Heap->Prop)
abbrev Hp:=Addr->Option HO
def bW(H:Hp)(a:Addr)(o:HO):Hp:=λb=>if b=a then some o else H b
def aE{H:Hp}{a:Addr}{o:HO}:bW H a o a=some o:=by unfold bW;rw[PX rfl]
def aP{H:Hp}{a b:Addr}{o:HO}(h:b≠a):bW H a o b=H b:=by unfold bW;rw[PV h]
def w9{H:Hp}{a b:Addr}{o u:HO}(h:H a=some o)(h':H b=some u)(d:o≠u):a≠b:=by
 intro e;subst e;rw[h] at h';exact d (ay h')
def bJ{H:Hp}{a b:Addr}{o:HO}(h:H a=some o)(h':H b=none):a≠b:=by
 intro e;subst e;rw[h] at h';cases h'
section
variable (P:Program) (w:World)
def cw (H : Hp) (h : Heap) (a : Addr) : HO → Prop
 | .lst xs => xs.length ≤ sizeLine ∧ ∃ (its : List Value) (n : Nat), bj xs its ∧ h.get? a = some { cls := .type "list", data := .seq its.toArray n }
 | .tup xs => xs.length ≤ sizeLine ∧ ∃ its : List Value, bj xs its ∧ IsTup h a its.toArray
 | .dK kvs => kvs.length ≤ sizeLine ∧ (a == sysModules) = false ∧ ∃ vs, KV kvs vs ∧ h.DictOf (eI P w) a vs
 | .dT kvs => kvs.length ≤ sizeLine ∧ (a == sysModules) = false ∧ ∃ xs : List (List Key × Addr × Value),
   Paired (fun (p : List Key × V) (q : List Key × Addr × Value) => p.1 = q.1 ∧ H q.2.1 = some (.tup (p.1.map kV)) ∧ RelV p.2 q.2.2) kvs xs ∧
   ∃ o es ep, h.get? a = some o ∧ o.ExactDict ∧ o.data = .dict es ep ∧ es.toList = xs.map (entryOfKey (tupleKind (eI P w))) ∧ (xs.map (·.1)).Nodup
 | .set S n => h.SetOf (intKind P w) a S n
 | .ins C dx fs => H dx = some (.own a) ∧ fs.length ≤ 1000 ∧ dx ≠ a ∧ h.get? a = some (PySem.W.instObj C dx) ∧
   ∃ mA, h.Ns1 dx mA ∧ (∀ f, ny (fs.lookup f) (mA f)) ∧ PySem.Within mA (fs.map (·.1))
 | .own _ => ∃ o, h.get? a = some o
 | .xd fs => ∃ mA, h.Ns1 a mA ∧ ∀ f, ny (fs.lookup f) (mA f)
 | .rng lo hi => ∃ t u v, h.get? a = some { cls := .type "range", data := .fields #[.int lo t, .int hi u, .int 1 v] }
 | .frz o u => h.get? a = some o ∧ cw H h a u
 | .tbl ps => h.get? a = some { cls := .none, data := .fields ps }
 | .met f x => h.get? a = some (PySem.W.methodObj (.ref f) (.ref x))
 | .ext φ => φ h ∧ (∃ o, h.get? a = some o) ∧ ∀ h1 h2 : Heap, φ h1 → (∀ o, h1.get? a = some o → h2.get? a = some o) → φ h2
def lj(H:Hp)(h:Heap):Prop:=∀a o,H a=some o->cw P w H h a o
end
section
variable {P:Program} {w:World} {H H':Hp} {h h':Heap} {a:Addr} {o:HO}
def cw.lt(x:cw P w H h a o):a<h.objs.size:=by
 cases o with
 | lst xs=>obtain⟨_,_,_,_,e⟩:=x;exact aJ e
 | tup xs=>obtain⟨_,_,_,p⟩:=x;exact p.lt
 | dK kvs=>obtain⟨_,_,_,_,o,_,_,e,_⟩:=x;exact aJ e
 | dT kvs=>obtain⟨_,_,_,_,o,_,_,e,_⟩:=x;exact aJ e
 | set S n=>obtain⟨o,_,_,_,e,_⟩:=x;exact aJ e
 | ins C dx fs=>obtain⟨_,_,_,e,_⟩:=x;exact aJ e
 | own y=>obtain⟨_,e⟩:=x;exact aJ e
 | xd fs=>obtain⟨_,⟨_,_,_,e,_⟩,_⟩:=x;exact aJ e
 | rng lo hi=>obtain⟨_,_,_,e⟩:=x;exact aJ e
 | frz ob u=>obtain⟨e,_⟩:=x;exact aJ e
 | tbl ps=>exact aJ (show h.get? a=some _ from x)
 | met f y=>exact aJ (show h.get? a=some _ from x)
 | ext φ=>obtain⟨_,⟨_,e⟩,_⟩:=x;exact aJ e
def Paired.mapP{α β:Type}{F G:α->β->Prop}:∀{l₁:List α} {l₂:List β},Paired F l₁ l₂->(∀a b,F a b->G a b)->Paired G l₁ l₂
 | _,_,.nil,_=>.nil
 | _,_,.cons r t,f=>.cons (f _ _ r) (Paired.mapP t f)
def cw.stay(x:cw P w H h a o)(k:∀b u,(b=a\/H b=some (.own a))->h.get? b=some u->h'.get? b=some u)
  (ho:∀b,H b=some (.own a)->H' b=some (.own a)) (ht:∀b xs,H b=some (.tup xs)->H' b=some (.tup xs)):cw P w H' h' a o:=by
 induction o with
 | lst xs=>obtain⟨z,its,n,r,e⟩:=x;exact⟨z,its,n,r,k _ _ (.inl rfl) e⟩
 | tup xs=>obtain⟨z,its,r,ob,e,c⟩:=x;exact⟨z,its,r,ob,k _ _ (.inl rfl) e,c⟩
 | dK kvs=>obtain⟨z,y,vs,r,ob,es,ep,e,c⟩:=x;exact⟨z,y,vs,r,ob,es,ep,k _ _ (.inl rfl) e,c⟩
 | dT kvs=>
  obtain⟨z,y,xs,r,ob,es,ep,e,c⟩:=x;exact⟨z,y,xs,Paired.mapP r λp q z=>⟨z.1,ht _ _ z.2.1,z.2.2⟩,ob,es,ep,k _ _ (.inl rfl) e,c⟩
 | set S n=>obtain⟨ob,es,ep,t,e,c⟩:=x;exact⟨ob,es,ep,t,k _ _ (.inl rfl) e,c⟩
 | ins C dx fs=>
  obtain⟨d,z,ne,e,mA,⟨od,es,ep,e2,c⟩,r⟩:=x;exact⟨ho _ d,z,ne,k _ _ (.inl rfl) e,mA,⟨od,es,ep,k _ _ (.inr d) e2,c⟩,r⟩
 | own y=>obtain⟨ob,e⟩:=x;exact⟨ob,k _ _ (.inl rfl) e⟩
 | xd fs=>obtain⟨mA,⟨od,es,ep,e,c⟩,r⟩:=x;exact⟨mA,⟨od,es,ep,k _ _ (.inl rfl) e,c⟩,r⟩
 | rng lo hi=>obtain⟨t,u,v,e⟩:=x;exact⟨t,u,v,k _ _ (.inl rfl) e⟩
 | frz ob u ih=>obtain⟨e,q⟩:=x;exact⟨k _ _ (.inl rfl) e,ih q⟩
 | tbl ps=>
  have e:h.get? a=some { cls:=.none,data:=.fields ps }:=x;show h'.get? a=some { cls:=.none,data:=.fields ps };exact k a _ (.inl rfl) e
 | met f y=>
  have e:h.get? a=some (PySem.W.methodObj (.ref f) (.ref y)):=x;show h'.get? a=some (PySem.W.methodObj (.ref f) (.ref y));exact k a _ (.inl rfl) e
 | ext φ=>obtain⟨p,⟨o,e⟩,st⟩:=x;exact⟨st _ _ p λo q=>k _ _ (.inl rfl) q,⟨o,k _ _ (.inl rfl) e⟩,st⟩
def lj.lt(x:lj P w H h)(e:H a=some o):a<h.objs.size:=(x a o e).lt
def lj.fresh(x:lj P w H h)(e:h.objs.size<=a):H a=none:=by
 cases q:H a with
 | none=>rfl
 | some u=>exact absurd (aT (x.lt q) e) (dC _)
def lj.kept(x:lj P w H h)(k:∀b u,h.get? b=some u->h'.get? b=some u):lj P w H h':=λa o e=>
 (x a o e).stay (λb u _ q=>k b u q) (λ_ q=>q) λ_ _ q=>q
def lj.laid(x:lj P w H h)(k:∀b u,h.get? b=some u->h'.get? b=some u)(hp:h.objs.size<=a)(new:cw P w (bW H a o) h' a o):lj P w (bW H a o) h':=λb u e=>by
 have hn:=x.fresh hp;by_cases hb:b=a
 ·subst hb;rw[aE] at e;cases e;exact new
 ·rw[aP hb] at e;exact(x b u e).stay (λc v _ q=>k c v q) (λc q=>by rw[aP (bJ q hn)];exact q) λc xs q=>by rw[aP (bJ q hn)];exact q
end
def Rd(H:Hp)(a:Addr)(u:HO):Prop:=H a=some u\/∃o,H a=some (.frz o u)
def Rd.ok{P:Program}{w:World}{H:Hp}{h:Heap}{a:Addr}{u:HO}(r:Rd H a u)(x:lj P w H h):cw P w H h a u:=by
 rcases r with r | ⟨o,r⟩
 ·exact x a u r
 ·obtain⟨_,q⟩:=x a _ r;exact q
def Hb:Option HO->Prop
 | some (.lst _)=>True
 | some (.dK _)=>True
 | some (.dT _)=>True
 | some (.set _ _)=>True
 | some (.ins _ _ _)=>True
 | some (.ext _)=>True
 | _=>False
section
variable {P:Program} {w:World} {H:Hp} {h h':Heap} {x e:Addr} {o':HO}
def lj.write(ok:lj P w H h)(mu:Hb (H x))(he:e=x\/H e=some (.own x))(k:∀b u,b≠e->h.get? b=some u->h'.get? b=some u)(heo:∃u,h'.get? e=some u)
  (new:cw P w (bW H x o') h' x o'):lj P w (bW H x o') h':=λb u q=>by
 have nown:∀c y,H c=some (.own y)->c≠x:=λc y r z=>by subst z;rw[r] at mu;exact mu
 have ntup:∀c xs,H c=some (.tup xs)->c≠x:=λc xs r z=>by subst z;rw[r] at mu;exact mu
 by_cases hb:b=x
 ·subst hb;rw[aE] at q;cases q;exact new
 ·rw[aP hb] at q;by_cases hbe:b=e
  ·have q':H b=some (.own x):=by
    rcases he with z | z
    ·exact absurd (hbe.trans z) hb
    ·rw[hbe];exact z
   rw[q] at q';cases q';obtain⟨v,hv⟩:=heo;exact⟨v,by rw[hbe];exact hv⟩
  ·refine(ok b u q).stay (λc v hc r=>k c v ?_ r) (λc r=>by rw[aP (nown c b r)];exact r) λc xs r=>by rw[aP (ntup c xs r)];exact r
   rcases hc with rfl | hc
   ·exact hbe
   ·rintro rfl;rcases he with z | z
    ·exact nown c b hc z
    ·rw[hc] at z;cases z;exact hb rfl
end
structure Un (fs ex:List Addr) (H H':Hp) (h h':Heap):Prop where
 keep:∀ b o,h.get? b=some o->H b=none->b∉fs->b∉ex->h'.get? b=some o
 slot:∀ b o,h.get? b=some o->H b=none->b∈fs->b∉ex->∃ sl,h'.get? b=some { o with slots:=sl }
 free:∀ b o,h.get? b=some o->H b=none->b∉ex->H' b=none
 there:∀ b o,h.get? b=some o->b∉ex->∃ o',h'.get? b=some o'
 tups:∀ b xs,H b=some (.tup xs)->H' b=some (.tup xs)
 frzs:∀ b o u,H b=some (.frz o u)->H' b=some (.frz o u)
 tbls:∀ b ps,H b=some (.tbl ps)->∃ more,H' b=some (.tbl (ps++more))
section
variable {fs ex:List Addr} {H H1:Hp} {h h1 h':Heap} {a x e:Addr} {o:HO}
def Un.any(u:Un fs ex H H1 h h1){b:Addr}{ob:Obj}(q:h.get? b=some ob)(n:H b=none)(hx:b∉ex):∃sl,h1.get? b=some { ob with slots:=sl }:=by
 by_cases hb:b∈fs
 ·exact u.slot b ob q n hb hx
 ·exact⟨ob.slots,u.keep b ob q n hb hx⟩
def Un.kept(k:∀b u,h.get? b=some u->h'.get? b=some u):Un fs ex H H h h':=
 ⟨λb ob q _ _ _=>k b ob q,λb ob q _ _ _=>⟨ob.slots,k b ob q⟩,λ_ _ _ n _=>n,λb ob q _=>⟨ob,k b ob q⟩,λ_ _ q=>q,λ_ _ _ q=>q,λ_ ps q=>⟨#[],by rw[q];simp⟩⟩
def Un.refl:Un fs ex H H h h:=Un.kept λ_ _ q=>q
def Un.laid(k:∀b u,h.get? b=some u->h'.get? b=some u)(hp:h.objs.size<=a)(hn:H a=none):Un fs ex H (bW H a o) h h' where
 keep:=λb u q _ _ _=>k b u q
 slot:=λb u q _ _ _=>⟨u.slots,k b u q⟩
 free:=λb u q n _=>by rw[aP (aV (aT (aJ q) hp))];exact n
 there:=λb u q _=>⟨u,k b u q⟩
 tups:=λb xs q=>by rw[aP (bJ q hn)];exact q
 frzs:=λb u xs q=>by rw[aP (bJ q hn)];exact q
 tbls:=λb ps q=>⟨#[],by rw[aP (bJ q hn),q];simp⟩
def Un.write(mu:Hb (H x))(he:e=x\/H e=some (.own x))(k:∀b u,b≠e->h.get? b=some u->h'.get? b=some u)(heo:∃u,h'.get? e=some u):Un fs ex H (bW H x o) h h':=by
 have hx:∀b,H b=none->b≠x:=λb n z=>by subst z;rw[n] at mu;exact mu
 have hb:∀b,H b=none->b≠e:=λb n z=>by
  subst z;rcases he with r | r
  ·exact hx b n r
  ·rw[n] at r;cases r
 have hm:∀b u,H b=some u->¬Hb (some u)->b≠x:=λb u q nm z=>by subst z;rw[q] at mu;exact nm mu
 refine⟨λb u q n _ _=>k b u (hb b n) q,λb u q n _ _=>⟨u.slots,k b u (hb b n) q⟩,λb u q n _=>by rw[aP (hx b n)];exact n,λb u q _=>?_,
  λb xs q=>by rw[aP (hm b _ q λz=>z)];exact q,λb u xs q=>by rw[aP (hm b _ q λz=>z)];exact q,λb ps q=>⟨#[],by rw[aP (hm b _ q λz=>z),q];simp⟩⟩
 by_cases hbe:b=e
 ·subst hbe;exact heo
 ·exact⟨u,k b u hbe q⟩
end
def trk(h:Heap)(H:Hp):List Addr:=(List.range h.objs.size).filter λa=>(H a).isSome
def rT(h:Heap)(H:Hp):Heap:=PySem.W.hideAll h (trk h H)
def yG(h:Heap)(H:Hp):(rT h H).objs.size=h.objs.size:=PySem.W.hideAll_size _ _
def BA{h:Heap}{H:Hp}{b:Addr}{o:Obj}(e:h.get? b=some o)(n:H b=none):(rT h H).get? b=some o:=
 i7 _ e λhm=>by
  have q:(H b).isSome=true:=(dr.mp hm).2;rw[n] at q;simp at q
def Co{h:Heap}{H:Hp}{b:Addr}{o:Obj}(e:(rT h H).get? b=some o):h.get? b=some o/\H b=none:=by
 have e':h.get? b=some o:=jO (trk h H) e;refine⟨e',?_⟩;cases q:H b with
 | none=>rfl
 | some x=>
  have hm:b∈trk h H:=dr.mpr ⟨cm.mpr (aJ e'),by simp[q]⟩;have z:(rT h H).get? b=none:=fV (trk h H) hm;rw[z] at e;cases e
def DN(g h:Heap)(L:Addr):List (Addr×Obj):=(List.range h.objs.size).filterMap λa=>if a=L\/(g.get? a).isSome=true then none else (h.get? a).map λo=>(a,o)
def rest(g h:Heap)(L d:Addr):List (Addr×Obj):=(DN g h L).filter λp=>decide (p.1≠d)
structure Mod (K:P5) (mg:Str->Option Value) (base:Heap):Prop where
 kin:K.In base
 glob:base.Ns mainGlobals mg
 blt:∃ mb,base.Ns builtinsNs mb/\∀ x:Str,x≠"__name__"->mb x=bootBuiltins x
 nolimit:base.NoLimit
structure Cx where
 prog:Program
 w:World
 K:P5
 mg:Str->Option Value
 base:Heap
 A:Around
 N:List Str
 s₀:Shared
 H₀:Hp
 env:Env
 outer:List Env
 stack:List Env
 ex:List Addr
 fn:Str->Bool
 calm:Bool
 pn:List (Addr×Obj)
 xe:Value->Shared->Prop
def j3(l:List Env):List Addr:=l.filterMap (·.frame)
abbrev Cx.fs (X:Cx):List Addr:=j3 X.outer
def HV(sc:Scope)(x:Str):Prop:=sc.names.lookup x=some .local\/sc.names.lookup x=some .cell\/sc.names.lookup x=some .free
def Loc(sc:Scope)(x:Str):Prop:=sc.names.lookup x=some .local\/sc.names.lookup x=some .cell
def Look(env:Env)(h:Heap)(m:Str->Option Value)(x:Str)(u:Value):Prop:=
 (env.kindOf x=some .local/\m x=some u)\/((env.kindOf x=some .cell\/env.kindOf x=some .free)/\∃c,env.cells.lookup x=some c/\h.IsCell c (some u))
structure Cx.Ok (X:Cx):Prop where
 mod:Mod X.K X.mg X.base
 kind:X.env.scope.kind=.function
 glob:X.env.globals=mainGlobals
 blt:X.env.builtins=builtinsNs
 above:X.s₀.heap.objs.size<=X.env.locals
 inj:∀ x y c,X.env.cells.lookup x=some c->X.env.cells.lookup y=some c->x=y
 has:∀ x,(X.env.kindOf x=some .cell\/X.env.kindOf x=some .free)->∃ c,X.env.cells.lookup x=some c
 cab:∀ x c,X.fn x=true->X.env.cells.lookup x=some c->X.s₀.heap.objs.size<=c
 hd:X.calm=true->X.A.handled=none
 frames:X.A.frames=some X.stack
 stk:X.stack=X.outer\/(X.stack=X.env::X.outer/\X.env.frame=some X.env.locals)
 exf:∀ b∈X.ex,b≠X.env.locals/\∀ x c,X.env.cells.lookup x=some c->c≠b
 bs:∀ b o,X.base.get? b=some o->X.s₀.heap.get? b=some o/\X.H₀ b=none
 bsz:X.base.objs.size<=X.s₀.heap.objs.size
 noex:∀ b o,X.base.get? b=some o->b∉X.ex
 exfs:∀ b∈X.ex,b∉X.fs
 funs:X.s₀.heap.FunFrames X.base X.outer
 frf:∀ b∈X.fs,X.H₀ b=none
structure bT (X:Cx) (pins:List (Addr×Obj)) (σ:List (Option V)) (H:Hp) (s:Shared):Prop where
 ok:X.Ok
 os:s.os=X.s₀.os
 bare:AllBare s.gens
 base:Un X.fs X.ex X.H₀ H X.s₀.heap s.heap
 loc:∃ m,s.heap.Ns X.env.locals m/\∀ (i:Nat) (x:Str) (v:V),X.N[i]? = some x->σ[i]? = some (some v)->HV X.env.scope x->∃ u,RelV v u/\Look X.env s.heap m x u
 cell:∀ x c,X.env.cells.lookup x=some c->∃ v,s.heap.IsCell c v
 free:H X.env.locals=none
 freeC:∀ x c,X.env.cells.lookup x=some c->H c=none
 pin:∀ p∈X.pn++pins,s.heap.get? p.1=some p.2/\H p.1=none/\p.1≠X.env.locals/\p.1∉X.fs/\∀ v,p.2.data≠.cell v
 hok:lj X.prog X.w H s.heap
 len:σ.length=X.N.length
section
variable {X:Cx} {pins:List (Addr×Obj)} {σ:List (Option V)} {H H':Hp} {s:Shared} {h':Heap}
def Cx.Ok.nofr(ok:X.Ok){b:Addr}{o:Obj}(e:X.base.get? b=some o):b∉X.fs:=λhb=>by
 have:=(ok.funs.mem hb).1;rw[e] at this;cases this
def bT.bs(I:bT X pins σ H s):∀b o,X.base.get? b=some o->s.heap.get? b=some o/\H b=none:=λb o e=>
 ⟨I.base.keep b o (I.ok.bs b o e).1 (I.ok.bs b o e).2 (I.ok.nofr e) (I.ok.noex b o e),I.base.free b o (I.ok.bs b o e).1 (I.ok.bs b o e).2 (I.ok.noex b o e)⟩
def bT.bk(I:bT X pins σ H s):∀b o,X.base.get? b=some o->s.heap.get? b=some o:=λb o e=>(I.bs b o e).1
def bT.mod(I:bT X pins σ H s):Mod X.K X.mg X.base:=I.ok.mod
def bT.kIn(I:bT X pins σ H s):X.K.In s.heap:=I.ok.mod.kin.keeps I.bk
def bT.lt(I:bT X pins σ H s):X.env.locals<s.heap.objs.size:=let ⟨_,hn,_⟩:=I.loc;hn.lt
def bT.sz(I:bT X pins σ H s):X.s₀.heap.objs.size<=s.heap.objs.size:=cP I.ok.above (bI I.lt)
def bT.nofs(I:bT X pins σ H s){a:Addr}(h:s.heap.objs.size<=a):a∉X.fs:=λhb=>by
 obtain⟨_,o,ho,_⟩:=I.ok.funs.mem hb;exact absurd (aT (aJ ho) (cP I.sz h)) (dC _)
def bT.cne(I:bT X pins σ H s):∀x c,X.env.cells.lookup x=some c->c≠X.env.locals:=λx c e z=>by
 obtain⟨v,o,ho,hd⟩:=I.cell x c e;obtain⟨m,⟨o',es,ep,ho',hd',_⟩,_⟩:=I.loc;rw[z,ho'] at ho;cases ho;rw[hd'] at hd;cases hd
def bT.funs(I:bT X pins σ H s):s.heap.FunFrames X.base X.outer:=by
 have all:∀(l:List Env),(∀b∈j3 l,b∈X.fs)->X.s₀.heap.FunFrames X.base l->s.heap.FunFrames X.base l:=by
  intro l
  induction l with
  | nil=>intro _ _;trivial
  | cons env r ih=>
   intro hs hl;obtain⟨hk,⟨L,o,hf,hn,ho,hd⟩,hr⟩:=hl;have hL:L∈X.fs:=hs L (by unfold j3;rw[c8,hf];exact ah);obtain⟨sl,e⟩:=I.base.slot L o ho (I.ok.frf L hL) hL λz=>I.ok.exfs L z hL;exact⟨hk,⟨L,_,hf,hn,e,hd⟩,ih (λb hb=>hs b (by unfold j3;rw[c8,hf];exact aN _ hb)) hr⟩
 exact all X.outer (λ_ hb=>hb) I.ok.funs
def bT.stack(I:bT X pins σ H s):s.heap.FunFrames X.base X.stack:=by
 rcases I.ok.stk with e | ⟨e,hf⟩
 ·rw[e];exact I.funs
 ·rw[e];obtain⟨m,hn,_⟩:=I.loc;refine .cons (by rw[I.ok.kind];decide) hf hn ?_ I.funs;exact fX (cP I.ok.bsz I.ok.above)
def bT.stkSub(I:bT X pins σ H s):∀b∈j3 X.stack,b∈X.env.locals::X.fs:=λb hb=>by
 rcases I.ok.stk with e | ⟨e,hf⟩
 ·rw[e] at hb;exact aN _ hb
 ·rw[e] at hb;unfold j3 at hb;rw[c8,hf] at hb;exact hb
def bT.stkFree(I:bT X pins σ H s):∀b∈j3 X.stack,H b=none:=λb hb=>by
 rcases aI.mp (I.stkSub b hb) with e | hb
 ·rw[e];exact I.free
 ·obtain⟨_,o,ho,_⟩:=I.ok.funs.mem hb;exact I.base.free b o ho (I.ok.frf b hb) λz=>I.ok.exfs b z hb
def bT.step{g':Array GenState}{t':Nat}{d':Drawn}{ch:List Addr}(I:bT X pins σ H s)
  (hch:∀b∈ch,(b∈X.ex\/X.s₀.heap.objs.size<=b)/\b≠X.env.locals/\(∀x c,X.env.cells.lookup x=some c->c≠b)/\∀p∈X.pn++pins,p.1≠b)
  (keep:∀b o,b≠X.env.locals->b∉X.fs->b∉ch->s.heap.get? b=some o->H b=none->h'.get? b=some o)
  (slot:∀b o,b≠X.env.locals->b∈X.fs->b∉ch->s.heap.get? b=some o->H b=none->∃sl,h'.get? b=some { o with slots:=sl }) (free:∀b o,b∉ch->s.heap.get? b=some o->H b=none->H' b=none)
  (there:∀b o,b∉ch->s.heap.get? b=some o->∃o',h'.get? b=some o')
  (tups:∀b xs,H b=some (.tup xs)->H' b=some (.tup xs)) (frzs:∀b o u,H b=some (.frz o u)->H' b=some (.frz o u)) (tbls:∀b ps,H b=some (.tbl ps)->∃more,H' b=some (.tbl (ps++more)))
  (ns:∀m,s.heap.Ns X.env.locals m->h'.Ns X.env.locals m) (hok:lj X.prog X.w H' h') (hg:AllBare g') :
  bT X pins σ H' { s with heap:=h',gens:=g',drawn:=d',toks:=t' }:=by
 have neL:∀b o,X.s₀.heap.get? b=some o->b≠X.env.locals:=λb o e=>aV (aT (aJ e) I.ok.above);have neC:∀b o,X.s₀.heap.get? b=some o->b∉X.ex->b∉ch:=λb o e hx hb=>by
  rcases(hch b hb).1 with z | z
  ·exact hx z
  ·exact absurd (aT (aJ e) z) (dC _)
 have cellK:∀x c,X.env.cells.lookup x=some c->∀v,s.heap.IsCell c v->h'.IsCell c v:=λx c e v ⟨o,ho,hd⟩=>by
  have nch:c∉ch:=λz=>(hch c z).2.2.1 x c e rfl;by_cases hc:c∈X.fs
  ·obtain⟨sl,q⟩:=slot c o (I.cne x c e) hc nch ho (I.freeC x c e);exact⟨_,q,hd⟩
  ·exact⟨o,keep c o (I.cne x c e) hc nch ho (I.freeC x c e),hd⟩
 refine⟨I.ok,I.os,hg,⟨λb o e n hb hx=>?_,λb o e n hb hx=>?_,λb o e n hx=>?_,λb o e hx=>?_,λb xs e=>tups b xs (I.base.tups b xs e),λb o xs e=>frzs b o xs (I.base.frzs b o xs e),λb ps e=>?_⟩,?_,λx c e=>?_,?_,λx c e=>?_,λp hp=>?_,hok,I.len⟩
 ·exact keep b o (neL b o e) hb (neC b o e hx) (I.base.keep b o e n hb hx) (I.base.free b o e n hx)
 ·obtain⟨sl,e1⟩:=I.base.slot b o e n hb hx;obtain⟨sl',e2⟩:=slot b _ (neL b o e) hb (neC b o e hx) e1 (I.base.free b o e n hx);exact⟨sl',e2⟩
 ·obtain⟨o',e1⟩:=I.base.there b o e hx;exact free b o' (neC b o e hx) e1 (I.base.free b o e n hx)
 ·obtain⟨o',e1⟩:=I.base.there b o e hx;exact there b o' (neC b o e hx) e1
 ·obtain⟨m1,e1⟩:=I.base.tbls b ps e;obtain⟨m2,e2⟩:=tbls b _ e1;exact⟨m1++m2,by rw[e2,Array.append_assoc]⟩
 ·obtain⟨m,hn,hl⟩:=I.loc;refine⟨m,ns m hn,λi x v e1 e2 e3=>?_⟩;obtain⟨u,r,l⟩:=hl i x v e1 e2 e3;refine⟨u,r,?_⟩;rcases l with l | ⟨k,c,e,z⟩
  ·exact .inl l
  ·exact .inr ⟨k,c,e,cellK x c e _ z⟩
 ·obtain⟨v,z⟩:=I.cell x c e;exact⟨v,cellK x c e v z⟩
 ·obtain⟨m,⟨o,_,_,ho,_⟩,_⟩:=I.loc;exact free _ o (λz=>(hch _ z).2.1 rfl) ho I.free
 ·obtain⟨v,o,ho,hd⟩:=I.cell x c e;exact free c o (λz=>(hch c z).2.2.1 x c e rfl) ho (I.freeC x c e)
 ·obtain⟨e,n,ne,nf,d⟩:=I.pin p hp;have nch:p.1∉ch:=λz=>(hch p.1 z).2.2.2 p hp rfl;exact⟨keep p.1 p.2 ne nf nch e n,free p.1 p.2 nch e n,ne,nf,d⟩
def bT.un{t':Nat}(I:bT X pins σ H s)(u:Un X.fs [] H H' s.heap h')(hok:lj X.prog X.w H' h'):bT X pins σ H' { s with heap:=h',toks:=t' }:=by
 obtain⟨m,⟨o,es,ep,ho,r⟩,_⟩:=id I.loc;obtain⟨sl,hL⟩:=u.any ho I.free (by simp);exact I.step (g':=s.gens) (d':=s.drawn) (ch:=[]) (λ_ z=>nomatch z) (λb o _ hb _ e n=>u.keep b o e n hb (by simp)) (λb o _ hb _ e n=>u.slot b o e n hb (by simp)) (λb o _ e n=>u.free b o e n (by simp)) (λb o _ e=>u.there b o e (by simp)) u.tups u.frzs u.tbls (λm' hm=>by
  obtain⟨o',es',ep',ho',r'⟩:=hm;rw[ho] at ho';cases ho';exact⟨_,es',ep',hL,r'⟩) hok I.bare
def bT.call{g':Array GenState}{t':Nat}{d':Drawn}{ch:List Addr}(I:bT X pins σ H s)(u:Un (j3 X.stack) ch H H' s.heap h')(hok:lj X.prog X.w H' h')(hg:AllBare g')
  (hch:∀b∈ch,(b∈X.ex\/X.s₀.heap.objs.size<=b)/\b≠X.env.locals/\(∀x c,X.env.cells.lookup x=some c->c≠b)/\∀p∈X.pn++pins,p.1≠b) :
  bT X pins σ H' { s with heap:=h',gens:=g',drawn:=d',toks:=t' }:=by
 obtain⟨m,⟨o,es,ep,ho,r⟩,_⟩:=id I.loc;obtain⟨sl,hL⟩:=u.any ho I.free λz=>(hch _ z).2.1 rfl;exact I.step (ch:=ch) hch (λb o hL hb hc e n=>u.keep b o e n (λz=>(aI.mp (I.stkSub b z)).elim hL hb) hc) (λb o _ _ hc e n=>u.any e n hc) (λb o hc e n=>u.free b o e n hc) (λb o hc e=>u.there b o e hc) u.tups u.frzs u.tbls (λm' hm=>by
  obtain⟨o',es',ep',ho',r'⟩:=hm;rw[ho] at ho';cases ho';exact⟨_,es',ep',hL,r'⟩) hok hg
def bT.turned{t':Nat}{it:Addr}(I:bT X pins σ H s)(k:∀b o,b≠it->s.heap.get? b=some o->h'.get? b=some o)(hn:H it=none)(hL:it≠X.env.locals)
  (h1:it∈X.ex\/X.s₀.heap.objs.size<=it) (h2:∀x c,X.env.cells.lookup x=some c->c≠it) (h3:∀p∈X.pn++pins,p.1≠it):bT X pins σ H { s with heap:=h',toks:=t' }:=by
 have nit:∀b u,H b=some u->b≠it:=λb u e z=>by rw[z,hn] at e;cases e
 refine I.step (g':=s.gens) (d':=s.drawn) (ch:=[it]) (λb hb=>?_) (λb o _ _ hc e _=>k b o (λz=>hc (by simp[z])) e) (λb o _ _ hc e _=>⟨o.slots,k b o (λz=>hc (by simp[z])) e⟩) (λ_ _ _ _ n=>n)
  (λb o hc e=>⟨o,k b o (λz=>hc (by simp[z])) e⟩) (λ_ _ e=>e) (λ_ _ _ e=>e) (λb ps e=>⟨#[],by rw[e];simp⟩) (λm hm=>?_) (λb u e=>?_) I.bare
 ·have e:b=it:=by simpa using hb
  subst e;exact⟨h1,hL,h2,h3⟩
 ·obtain⟨o,es,ep,ho,r⟩:=hm;exact⟨o,es,ep,k _ o (cU hL) ho,r⟩
 ·refine(I.hok b u e).stay (λc v hc q=>k c v ?_ q) (λ_ q=>q) λ_ _ q=>q;rcases hc with z | z
  ·rw[z];exact nit b u e
  ·exact nit c _ z
def bT.tok(I:bT X pins σ H s)(t:Nat):bT X pins σ H { s with toks:=t }:=I.un (h':=s.heap) (t':=t) Un.refl I.hok
def bT.kept{t':Nat}(I:bT X pins σ H s)(k:∀b u,s.heap.get? b=some u->h'.get? b=some u):bT X pins σ H { s with heap:=h',toks:=t' }:=I.un (Un.kept k) (I.hok.kept k)
def bT.laid{a:Addr}{o:HO}{t':Nat}(I:bT X pins σ H s)(k:∀b u,s.heap.get? b=some u->h'.get? b=some u)(hp:s.heap.objs.size<=a)(new:cw X.prog X.w (bW H a o) h' a o):
  bT X pins σ (bW H a o) { s with heap:=h',toks:=t' }:=I.un (Un.laid k hp (I.hok.fresh hp)) (I.hok.laid k hp new)
def bT.write{x e:Addr}{o:HO}{t':Nat}(I:bT X pins σ H s)(mu:Hb (H x))(he:e=x\/H e=some (.own x))(k:∀b u,b≠e->s.heap.get? b=some u->h'.get? b=some u)(heo:∃u,h'.get? e=some u)
  (new:cw X.prog X.w (bW H x o) h' x o):bT X pins σ (bW H x o) { s with heap:=h',toks:=t' }:=I.un (Un.write mu he k heo) (I.hok.write mu he k heo new)
def bT.pins_of{pins':List (Addr×Obj)}(I:bT X pins σ H s)(h:∀p∈pins',s.heap.get? p.1=some p.2/\H p.1=none/\p.1≠X.env.locals/\p.1∉X.fs/\∀v,p.2.data≠.cell v):bT X pins' σ H s:=
 ⟨I.ok,I.os,I.bare,I.base,I.loc,I.cell,I.free,I.freeC,λp hp=>(aQ.mp hp).elim (λz=>I.pin p (bC _ z)) (h p),I.hok,I.len⟩
def oo{N:List Str}(hN:N.Nodup){i j:Nat}{x:Str}(a:N[i]? = some x)(b:N[j]? = some x):i=j:=by
 obtain⟨h1,e1⟩:=aR.mp a;obtain⟨h2,e2⟩:=aR.mp b;exact(kL hN).mp (e1.trans e2.symm)
def xL{M:Model}{A:Around}{E:Value->Shared->Prop}{i:Nat}{x:Str}{v:V}{u:Value}{Q:Unit->Shared->Prop}(I:bT X pins σ H s)(hN:X.N.Nodup)(hi:X.N[i]? = some x)(hx:Loc X.env.scope x)(r:RelV v u)
  (h:∀s',bT X pins (σ.set i (some v)) H s'->(∃a,Heap.SameBut a s.heap s'.heap/\(a=X.env.locals\/X.env.cells.lookup x=some a))->Q () s') (hf:X.fn x=true\/X.env.scope.names.lookup x=some .local:=by first | exact .inl rfl | exact .inr rfl | assumption):wpAny M A (storeName X.env x u) Q E s:=by
 obtain⟨m,hn,hl⟩:=id I.loc;have hcls:(X.env.scope.kind==.class || (X.env.scope.kind==.module&&X.env.locals != X.env.globals))=false:=by rw[I.ok.kind];rfl
 have hiσ:i<σ.length:=by rw[I.len];exact(aR.mp hi).1
 have cne:=I.cne;have tracked:∀{a:Addr} {h':Heap},(∃o,s.heap.get? a=some o/\H a=none)->Heap.SameBut a s.heap h'->lj X.prog X.w H h':=fun {a h'} ha hs b ob e=>by
  obtain⟨_,_,hfree⟩:=ha;refine(I.hok b ob e).stay (λc w' hc q=>(hs.2 c ?_).trans q) (λ_ q=>q) λ_ _ q=>q;rintro rfl;rcases hc with rfl | hc
  ·rw[hfree] at e;cases e
  ·rw[hfree] at hc;cases hc
 rcases hx with hk | hk
 ·refine wpAny_storeName_local hk hn (λh' hn' hs=>?_) hcls;obtain⟨oL,_,_,hoL,_⟩:=id hn;refine h _ ⟨I.ok,I.os,I.bare,⟨λb o e n hb hx=>?_,λb o e n hb hx=>?_,I.base.free,λb o e hx=>?_,I.base.tups,I.base.frzs,I.base.tbls⟩,⟨_,hn',λj y v' e1 e2 e3=>?_⟩,λy c e=>?_,I.free,I.freeC,λp hp=>?_,tracked ⟨oL,hoL,I.free⟩ hs,by simpa using I.len⟩ ⟨_,hs,.inl rfl⟩
  ·exact(hs.2 b (aV (aT (aJ e) I.ok.above))).trans (I.base.keep b o e n hb hx)
  ·obtain⟨sl,e1⟩:=I.base.slot b o e n hb hx;exact⟨sl,(hs.2 b (aV (aT (aJ e) I.ok.above))).trans e1⟩
  ·obtain⟨o',e1⟩:=I.base.there b o e hx;exact⟨o',(hs.2 b (aV (aT (aJ e) I.ok.above))).trans e1⟩
  ·by_cases hj:j=i
   ·subst hj;rw[hi] at e1;cases e1;rw[gi hiσ] at e2;cases e2;exact⟨u,r,.inl ⟨hk,by simp⟩⟩
   ·rw[iR (cU hj)] at e2;obtain⟨u',r',q⟩:=hl j y v' e1 e2 e3;refine⟨u',r',?_⟩;rcases q with ⟨k,e⟩ | ⟨k,c,e,z⟩
    ·refine .inl ⟨k,?_⟩;have:y≠x:=λe=>hj (oo hN e1 (e▸hi));simp[this,e]
    ·exact .inr ⟨k,c,e,z.sameBut hs (cne y c e)⟩
  ·obtain⟨w',z⟩:=I.cell y c e;exact⟨w',z.sameBut hs (cne y c e)⟩
  ·obtain⟨e,n,ne,nf,d⟩:=I.pin p hp;exact⟨(hs.2 p.1 ne).trans e,n,ne,nf,d⟩
 ·have hfn:X.fn x=true:=by
   rcases hf with z | z
   ·exact z
   ·rw[z] at hk;cases hk
  obtain⟨c,hc⟩:=I.ok.has x (.inl hk);obtain⟨w',z⟩:=I.cell x c hc;refine wpAny_storeName_cell I.ok.kind hk hc z (λh' hc' hs=>?_);obtain⟨oc,hoc,hocd⟩:=id z;refine h { s with heap:=h' } ⟨I.ok,I.os,I.bare,⟨λb o e n hb hx=>?_,λb o e n hb hx=>?_,I.base.free,λb o e hx=>?_,I.base.tups,I.base.frzs,I.base.tbls⟩,⟨m,hn.sameBut hs (cU (cne x c hc)),λj y v' e1 e2 e3=>?_⟩,λy c' e=>?_,I.free,I.freeC,λp hp=>?_,tracked ⟨oc,hoc,I.freeC x c hc⟩ hs,by simpa using I.len⟩ ⟨c,hs,.inr hc⟩
  ·exact(hs.2 b (aV (aT (aJ e) (I.ok.cab x c hfn hc)))).trans (I.base.keep b o e n hb hx)
  ·obtain⟨sl,e1⟩:=I.base.slot b o e n hb hx;exact⟨sl,(hs.2 b (aV (aT (aJ e) (I.ok.cab x c hfn hc)))).trans e1⟩
  ·obtain⟨o',e1⟩:=I.base.there b o e hx;exact⟨o',(hs.2 b (aV (aT (aJ e) (I.ok.cab x c hfn hc)))).trans e1⟩
  ·by_cases hj:j=i
   ·subst hj;rw[hi] at e1;cases e1;rw[gi hiσ] at e2;cases e2;exact⟨u,r,.inr ⟨.inl hk,c,hc,hc'⟩⟩
   ·rw[iR (cU hj)] at e2;obtain⟨u',r',q⟩:=hl j y v' e1 e2 e3;refine⟨u',r',?_⟩;rcases q with q | ⟨k,c',e,z'⟩
    ·exact .inl q
    ·refine .inr ⟨k,c',e,z'.sameBut hs ?_⟩;rintro rfl;exact hj (oo hN e1 (I.ok.inj _ _ _ e hc▸hi))
  ·by_cases hcc:c'=c
   ·subst hcc;exact⟨_,hc'⟩
   ·obtain⟨w2,z2⟩:=I.cell y c' e;exact⟨w2,z2.sameBut hs hcc⟩
  ·obtain⟨e,n,ne,nf,d⟩:=I.pin p hp;refine⟨(hs.2 p.1 ?_).trans e,n,ne,nf,d⟩;intro q;rw[q,hoc] at e;have q':oc=p.2:=ay e;exact d w' (by rw[<-q'];exact hocd)
def oR{M:Model}{A:Around}{E:Value->Shared->Prop}{i:Nat}{x:Str}{v:V}{u:Value}{Q:Unit->Shared->Prop}(I:bT X pins σ H s)(hN:X.N.Nodup)(hi:X.N[i]? = some x)(hx:Loc X.env.scope x)(r:RelV v u)
  (h:∀s',bT X pins (σ.set i (some v)) H s'->Q () s') (hf:X.fn x=true\/X.env.scope.names.lookup x=some .local:=by first | exact .inl rfl | exact .inr rfl | assumption):wpAny M A (storeName X.env x u) Q E s:=
 xL I hN hi hx r (λs' I' _=>h s' I') hf
def bT.call'{s':Shared}{ch:List Addr}(I:bT X pins σ H s)(ho:s'.os=s.os)(u:Un (j3 X.stack) ch H H' s.heap s'.heap)(hok:lj X.prog X.w H' s'.heap)(hg:AllBare s'.gens)
  (hch:∀b∈ch,(b∈X.ex\/X.s₀.heap.objs.size<=b)/\b≠X.env.locals/\(∀x c,X.env.cells.lookup x=some c->c≠b)/\∀p∈X.pn++pins,p.1≠b):bT X pins σ H' s':=by
 obtain⟨h',g',d',t',o'⟩:=s';have e:o'=s.os:=ho;subst e;exact I.call (g':=g') (t':=t') (d':=d') u hok hg hch
end
abbrev XK:=Value->Option Addr->Hp->Prop
abbrev St:=List (Option V)
abbrev VK:=V->Hp->Prop
abbrev TE:=St->Hp->VK->Prop
abbrev TT:=St->Hp->(Bool->Hp->Prop)->Prop
abbrev TA:=St->Hp->(List V->Hp->Prop)->Prop
structure Ends where
 nx:St->Hp->Prop
 rt:VK
 bk:St->Hp->Prop:=fun _ _=>False
 ct:St->Hp->Prop:=fun _ _=>False
abbrev TS:=Ends->St->Hp->Prop
def EP(X:Cx)(pins:List (Addr×Obj))(σ:St)(Q:VK)(u:Value)(s':Shared):Prop:=∃v H',bT X pins σ H' s'/\RelV v u/\Q v H'
def TP(X:Cx)(pins:List (Addr×Obj))(σ:St)(Q:Bool->Hp->Prop)(b:Bool)(s':Shared):Prop:=∃H',bT X pins σ H' s'/\Q b H'
def AP(X:Cx)(pins:List (Addr×Obj))(σ:St)(Q:List V->Hp->Prop)(us:List Value)(s':Shared):Prop:=∃vs H',bT X pins σ H' s'/\bj vs us/\Q vs H'
def SP(X:Cx)(pins:List (Addr×Obj))(D:Ends)(f:Flow)(s':Shared):Prop:=
 match f with
 | .next=>∃σ' H',bT X pins σ' H' s'/\D.nx σ' H'
 | .brk=>∃σ' H',bT X pins σ' H' s'/\D.bk σ' H'
 | .cont=>∃σ' H',bT X pins σ' H' s'/\D.ct σ' H'
 | .ret u=>∃v σ' H',bT X pins σ' H' s'/\RelV v u/\D.rt v H'
def PE(X:Cx)(e:Expr)(t:TE):Prop:=
 ∀(pins:List (Addr×Obj)) (s:Shared) (σ:St) (H:Hp) (Q:VK),bT X pins σ H s->t σ H Q->wpAny (model X.prog X.w) X.A (eval e X.env) (EP X pins σ Q) X.xe s
def PT(X:Cx)(e:Expr)(t:TT):Prop:=
 ∀(pins:List (Addr×Obj)) (s:Shared) (σ:St) (H:Hp) (Q:Bool->Hp->Prop),bT X pins σ H s->t σ H Q->wpAny (model X.prog X.w) X.A (isTrue e X.env (eval e X.env)) (TP X pins σ Q) X.xe s
def PW(X:Cx)(e:Expr)(t:TT):Prop:=
 ∀(whole:Sem Value) (pins:List (Addr×Obj)) (s:Shared) (σ:St) (H:Hp) (Q:Bool->Hp->Prop),bT X pins σ H s->t σ H Q->wpAny (model X.prog X.w) X.A (isTrue e X.env whole) (TP X pins σ Q) X.xe s
def PW.pt{X:Cx}{e:Expr}{t:TT}(h:PW X e t):PT X e t:=h _
def PA(X:Cx)(es:List Expr)(t:TA):Prop:=
 ∀(pos:Pos) (pins:List (Addr×Obj)) (s:Shared) (σ:St) (H:Hp) (Q:List V->Hp->Prop),bT X pins σ H s->t σ H Q->wpAny (model X.prog X.w) X.A (spliced (backTo pos (starEach es X.env))) (AP X pins σ Q) X.xe s
def PS(X:Cx)(st:Stmt)(t:TS):Prop:=
 ∀(pins:List (Addr×Obj)) (s:Shared) (σ:St) (H:Hp) (D:Ends),bT X pins σ H s->t D σ H->wpAny (model X.prog X.w) X.A (exec st X.env) (SP X pins D) X.xe s
def qo(X:Cx)(st:List Stmt)(t:TS):Prop:=
 ∀(pins:List (Addr×Obj)) (s:Shared) (σ:St) (H:Hp) (D:Ends),bT X pins σ H s->t D σ H->wpAny (model X.prog X.w) X.A (execs st X.env) (SP X pins D) X.xe s
def dW{α:Type}{t:Sem α}{Q Q':α->Shared->Prop}{M:Model}{A:Around}{E:Value->Shared->Prop}{s:Shared}(h:wpAny M A t Q E s)(hQ:∀a s,Q a s->Q' a s):wpAny M A t Q' E s:=wpAny_mono h hQ λ_ _ x=>x
section
variable {X:Cx}
def bin{a b:Expr}{ta tb:TE}(ha:PE X a ta)(hb:PE X b tb){pins:List (Addr×Obj)}{s:Shared}{σ:St}{H:Hp}{R:V->V->Hp->Prop}(I:bT X pins σ H s)(h:ta σ H λx H1=>tb σ H1 λy H2=>R x y H2)
  {α:Type} {Q:α->Shared->Prop} {f:Value->Value->Sem α}
  (hf:∀v u s2 x y H2,bT X pins σ H2 s2->RelV x v->RelV y u->R x y H2->wpAny (model X.prog X.w) X.A (f v u) Q X.xe s2) :
  wpAny (model X.prog X.w) X.A (eval a X.env) (λv s₁=>wpAny (model X.prog X.w) X.A (eval b X.env) (λu s₂=>wpAny (model X.prog X.w) X.A (f v u) Q X.xe s₂) X.xe s₁) X.xe s:=by
 refine dW (ha pins s σ H _ I h) λv s1 ⟨x,H1,I1,r1,q1⟩=>?_;refine dW (hb pins s1 σ H1 _ I1 q1) λu s2 ⟨y,H2,I2,r2,q2⟩=>?_;exact hf v u s2 x y H2 I2 r1 r2 q2
def oP(i:Nat):TE:=λσ H Q=>∃v,σ[i]? = some (some v)/\Q v H
def tC(v:V):TE:=λ_ H Q=>Q v H
def FE {i:Nat} {x:Str} {pos:Pos} (hN:X.N[i]? = some x) (hv:HV X.env.scope x) (hd:(x==("__debug__":Str))=false:=by decide) (hcd:(x==("__classdict__":Str))=false:=by decide):PE X (.Name x pos) (oP i):=by
 intro pins s σ H Q I h;obtain⟨v,e,h⟩:=h;obtain⟨m,hn,hl⟩:=I.loc;obtain⟨u,r,l⟩:=hl i x v hN e hv;have fin:EP X pins σ Q u s:=⟨v,H,I,r,h⟩
 rcases l with ⟨hk,hm⟩ | ⟨hk,c,hc,hcell⟩
 ·exact wpAny_Name (wpAny_loadName_local I.ok.kind hk hn hm fin) hd
 ·rcases hk with hk | hk
  ·exact wpAny_Name (wpAny_loadName_cell I.ok.kind hk hc hcell fin) hd
  ·exact wpAny_Name (wpAny_loadName_free I.ok.kind hk hc hcell fin hcd) hd
def FL{i j pos}:PE X (.Constant (.int i) j pos) (tC (.int i)):=λ_ _ _ H _ I h=>wpAny_Constant_int ⟨.int i,H,I.tok _,⟨_,rfl⟩,h⟩
def Gz{b j pos}:PE X (.Constant (.bool b) j pos) (tC (.bl b)):=λ_ _ _ H _ I h=>Constant_bool ⟨.bl b,H,I,rfl,h⟩
def FJ{j pos}:PE X (.Constant .none j pos) (tC .non):=λ_ _ _ H _ I h=>Constant_none ⟨.non,H,I,rfl,h⟩
def FG{x j pos}:PE X (.Constant (.str x) j pos) (tC (.str x)):=λ_ _ _ H _ I h=>Calls.Constant_str ⟨.str x,H,I.tok _,⟨_,rfl⟩,h⟩
def Gl(X:Cx)(x:Str):Prop:=X.env.kindOf x=some .globalImplicit
def ij{E:Value->Shared->Prop}{pins:List (Addr×Obj)}{s:Shared}{σ:St}{H:Hp}{x:Str}{u:Value}{pos:Pos}{Q:Value->Shared->Prop}(I:bT X pins σ H s)(hg:Gl X x)(hm:X.mg x=some u)(h:Q u s)
  (hd:(x==("__debug__":Str))=false:=by decide):wpAny (model X.prog X.w) X.A (eval (.Name x pos) X.env) Q E s:=
 jU I.ok.kind hg (Calls.loadGlobal_global (by rw[I.ok.glob];exact I.mod.glob.keeps I.bk) hm h) hd
def jh{E:Value->Shared->Prop}{pins:List (Addr×Obj)}{s:Shared}{σ:St}{H:Hp}{x:Str}{u:Value}{pos:Pos}{Q:Value->Shared->Prop}(I:bT X pins σ H s)(hg:Gl X x)(hm:X.mg x=none)(hv:bootBuiltins x=some u)(h:Q u s)
  (hn:x≠"__name__":=by decide) (hd:(x==("__debug__":Str))=false:=by decide):wpAny (model X.prog X.w) X.A (eval (.Name x pos) X.env) Q E s:=by
 obtain⟨mb,h1,h2⟩:=I.mod.blt;exact jU I.ok.kind hg (Calls.loadGlobal_builtin (by rw[I.ok.glob];exact I.mod.glob.keeps I.bk) hm (by rw[I.ok.blt];exact h1.keeps I.bk) ((h2 x hn).trans hv) h) hd
def rK {x:Str} {v:V} {u:Value} {pos:Pos} (hg:Gl X x) (hm:X.mg x=some u) (r:RelV v u) (hd:(x==("__debug__":Str))=false:=by decide):PE X (.Name x pos) (tC v):=
 λ_ _ _ H _ I h=>ij I hg hm ⟨v,H,I,r,h⟩ hd
def Cb {x:Str} {v:V} {u:Value} {pos:Pos} (hg:Gl X x) (hm:X.mg x=none) (hv:bootBuiltins x=some u) (r:RelV v u) (hn:x≠"__name__":=by decide) (hd:(x==("__debug__":Str))=false:=by decide):PE X (.Name x pos) (tC v):=
 λ_ _ _ H _ I h=>jh I hg hm hv ⟨v,H,I,r,h⟩ hn hd
variable {a b:Expr} {ta tb:TE} {pos:Pos}
def PC(X:Cx)(op:CmpOp)(a b:Expr)(t:TE):Prop:=
 ∀(pins:List (Addr×Obj)) (s:Shared) (σ:St) (H:Hp) (Q:VK),bT X pins σ H s->t σ H Q →
  wpAny (model X.prog X.w) X.A (eval a X.env) (λv s₁=>wpAny (model X.prog X.w) X.A (eval b X.env) (λu s₂=>wpAny (model X.prog X.w) X.A (compareOp op v u) (EP X pins σ Q) X.xe s₂) X.xe s₁) X.xe s
def Ak(b:Expr){op:CmpOp}(h:op≠.In)(h2:op≠.NotIn):behindInMarks op b=false:=by
 have e1:(op==CmpOp.In)=false:=by cases op<;>first | rfl | exact absurd rfl h
 have e2:(op==CmpOp.NotIn)=false:=by cases op<;>first | rfl | exact absurd rfl h2
 cases b<;>simp[behindInMarks,e1,e2]
def tB(t:TE):TT:=λσ H Q=>t σ H λx H1=>∃c,x=.bl c/\Q c H1
def IV{op:CmpOp}{t:TE}(h:PC X op a b t)(h1:behindInMarks op b=false:=by first | exact Ak _ (by decide) (by decide) | rfl):PT X (.Compare a [op] [b] pos) (tB t):=by
 intro pins s σ H Q I hw;refine wpAny_isTrue_Compare1 (dW (h pins s σ H _ I hw) λv s1 h1=>dW h1 λu s2 h2=>dW h2 λc s3 ⟨x,H1,I1,r1,q1⟩=>?_) h1;obtain⟨d,rfl,q⟩:=q1;cases r1;exact Oi ⟨H1,I1,q⟩
def Ep{e:Expr}{t:TE}(h:PE X e t)(he:∀whole,isTrue e X.env whole=(do let v <-whole;standAt e.pos;holding [v] (truthy v)):=by intro _;rfl):PT X e (tB t):=by
 intro pins s σ H Q I hw;refine isTrue_plain (dW (h pins s σ H _ I hw) λv s1 ⟨x,H1,I1,r1,q1⟩=>?_) (he _);obtain⟨d,rfl,q⟩:=q1;cases r1;exact Oi ⟨H1,I1,q⟩
variable {tA tB':TT} {rest:List Expr}
def E6(t u:TT):TT:=λσ H Q=>t σ H λc H1=>if c=true then u σ H1 Q else Q false H1
def II(t u:TT):TT:=λσ H Q=>t σ H λc H1=>if c=true then Q true H1 else u σ H1 Q
def EZ(t:TT):TT:=λσ H Q=>t σ H λc H1=>Q (!c) H1
def CP(ha:PT X a tA):PW X (.BoolOp .And [a] pos) tA:=by
 intro wh pins s σ H Q I h;refine isTrue_and (dW (ha pins s σ H Q I h) λc s1 e=>?_);cases c with
 | true=>exact isTrue_and_nil e
 | false=>exact e
def En(ha:PT X a tA):PW X (.BoolOp .Or [a] pos) tA:=by
 intro wh pins s σ H Q I h;refine isTrue_or (dW (ha pins s σ H Q I h) λc s1 e=>?_);cases c with
 | false=>exact isTrue_or_nil e
 | true=>exact e
def Eo(ha:PT X a tA)(hb:PW X (.BoolOp .And (b::rest) pos) tB'):PW X (.BoolOp .And (a::b::rest) pos) (E6 tA tB'):=by
 intro wh pins s σ H Q I h;refine isTrue_and (dW (ha pins s σ H _ I h) λc s1 ⟨H1,I1,q1⟩=>?_);cases c with
 | true=>exact hb wh pins s1 σ H1 Q I1 q1
 | false=>exact⟨H1,I1,q1⟩
def Gq(ha:PT X a tA)(hb:PW X (.BoolOp .Or (b::rest) pos) tB'):PW X (.BoolOp .Or (a::b::rest) pos) (II tA tB'):=by
 intro wh pins s σ H Q I h;refine isTrue_or (dW (ha pins s σ H _ I h) λc s1 ⟨H1,I1,q1⟩=>?_);cases c with
 | true=>exact⟨H1,I1,q1⟩
 | false=>exact hb wh pins s1 σ H1 Q I1 q1
def Es(ha:PT X a tA):PT X (.UnaryOp .Not a pos) (EZ tA):=by
 intro pins s σ H Q I h;exact isTrue_not (ha pins s σ H (λc H1=>Q (!c) H1) I h)
def zc(ta tb:TE):TE:=λσ H Q=>ta σ H λx H1=>∃c,x=.bl c/\if c=true then tb σ H1 Q else Q (.bl false) H1
def IH(ta tb:TE):TE:=λσ H Q=>ta σ H λx H1=>∃c,x=.bl c/\if c=true then Q (.bl true) H1 else tb σ H1 Q
def zX(ta:TE):TE:=λσ H Q=>ta σ H λx H1=>∃c,x=.bl c/\Q (.bl (!c)) H1
def FH{op}{t:TE}(h:PE X a t):PE X (.BoolOp op [a] pos) t:=λpins s σ H Q I hw=>BoolOp_one (h pins s σ H Q I hw)
def FO(ha:PE X a ta)(hb:PE X (.BoolOp .And (b::rest) pos) tb):PE X (.BoolOp .And (a::b::rest) pos) (zc ta tb):=by
 intro pins s σ H Q I h;refine BoolOp_and (dW (ha pins s σ H _ I h) λv s1 ⟨x,H1,I1,r1,q1⟩=>?_);obtain⟨c,rfl,q1⟩:=q1;cases r1;refine Oi ?_;cases c with
 | true=>exact hb pins s1 σ H1 Q I1 q1
 | false=>exact⟨.bl false,H1,I1,rfl,q1⟩
def FI(ha:PE X a ta):PE X (.UnaryOp .Not a pos) (zX ta):=by
 intro pins s σ H Q I h;refine UnaryOp_ (dW (ha pins s σ H _ I h) λv s1 ⟨x,H1,I1,r1,q1⟩=>?_);obtain⟨c,rfl,q1⟩:=q1;cases r1;exact not_of (Oi ⟨.bl (!c),H1,I1,rfl,q1⟩)
def IJ(t:TT)(ta tb:TE):TE:=λσ H Q=>t σ H λc H1=>if c=true then ta σ H1 Q else tb σ H1 Q
def AW{c:Expr}(hc:PT X c tA)(ha:PE X a ta)(hb:PE X b tb):PE X (.IfExp c a b pos) (IJ tA ta tb):=by
 intro pins s σ H Q I h;refine wpAny_IfExp (dW (hc pins s σ H _ I h) λd s1 ⟨H1,I1,q1⟩=>?_);cases d with
 | true=>exact ha pins s1 σ H1 Q I1 q1
 | false=>exact hb pins s1 σ H1 Q I1 q1
end
def ce(K:P5)(H:Hp)(a:Addr)(xs:List V):Prop:=
 Rd H a (.lst xs) ∨
  ∃(o:Obj) (its:Array Value) (n:Nat),K.lookup a=some o/\o.cls=.type "list"/\o.dict=none/\o.data=.seq its n/\its.size<=sizeLine/\bj xs its.toList
def dA(K:P5)(H:Hp)(a:Addr)(xs:List V):Prop:=
 Rd H a (.tup xs) ∨
  ∃(o:Obj) (its:Array Value) (n:Nat),K.lookup a=some o/\o.cls=.type "tuple"/\o.data=.seq its n/\its.size<=sizeLine/\bj xs its.toList
def Ih:Value->Option V
 | .none=>some .non
 | .bool b=>some (.bl b)
 | .int i _=>some (.int i)
 | .str x _=>some (.str x)
 | .bytes b _=>some (.byt b)
 | .float b _=>some (.flt b)
 | .ref a=>some (.ref a)
 | .type n=>some (.ty n)
 | _=>none
def RelV.abs{x:V}{u:Value}(r:RelV x u):Ih u=some x:=by
 cases x with
 | non=>cases r;rfl
 | bl _=>cases r;rfl
 | int _=>obtain⟨t,rfl⟩:=r;rfl
 | str _=>obtain⟨t,rfl⟩:=r;rfl
 | byt _=>obtain⟨t,rfl⟩:=r;rfl
 | flt _=>obtain⟨t,rfl⟩:=r;rfl
 | ref _=>cases r;rfl
 | ty _=>cases r;rfl
def RelV.inj{x y:V}{u:Value}(r:RelV x u)(q:RelV y u):x=y:=ay (r.abs.symm.trans q.abs)
def bj.inj:∀{xs ys:List V} {us:List Value},bj xs us->bj ys us->xs=ys
 | _,_,_,.nil,.nil=>rfl
 | _,_,_,.cons r t,.cons r' t'=>by rw[r.inj r',bj.inj t t']
section
variable {X:Cx} {pins:List (Addr×Obj)} {σ:St} {H:Hp} {s:Shared} {a:Addr} {xs ys:List V}
def ce.of{K:P5}(h:H a=some (.lst xs)):ce K H a xs:=.inl (.inl h)
def dA.of{K:P5}(h:H a=some (.tup xs)):dA K H a xs:=.inl (.inl h)
def bT.list(I:bT X pins σ H s)(h:ce X.K H a xs):∃its:List Value,bj xs its/\PlainL s.heap a its.toArray/\xs.length<=sizeLine:=by
 rcases h with h | ⟨o,its,n,hk,hc,hd,hs,hz,r⟩
 ·obtain⟨z,its,n,r,e⟩:=h.ok I.hok;exact⟨its,r,⟨_,n,e,rfl,rfl,rfl⟩,z⟩
 ·refine⟨its.toList,r,⟨o,n,I.kIn a o hk,hc,hd,by simpa using hs⟩,?_⟩;have e:=r.length;simp only[dG] at e;lia
def bT.tuple(I:bT X pins σ H s)(h:dA X.K H a xs):∃its:List Value,bj xs its/\IsTup s.heap a its.toArray/\xs.length<=sizeLine:=by
 rcases h with h | ⟨o,its,n,hk,hc,hs,hz,r⟩
 ·obtain⟨z,its,r,p⟩:=h.ok I.hok;exact⟨its,r,p,z⟩
 ·refine⟨its.toList,r,⟨o,I.kIn a o hk,hc,n,by simpa using hs⟩,?_⟩;have e:=r.length;simp only[dG] at e;lia
def bT.list_inj(I:bT X pins σ H s)(h:ce X.K H a xs)(h':ce X.K H a ys):xs=ys:=by
 obtain⟨its,r,⟨o,n,e,_,_,d⟩,_⟩:=I.list h;obtain⟨its',r',⟨o',n',e',_,_,d'⟩,_⟩:=I.list h';rw[e] at e';cases e';rw[d] at d';injection d' with d1 _
 have:its=its':=by simpa using congrArg Array.toList d1
 subst this;exact r.inj r'
def bT.tuple_inj(I:bT X pins σ H s)(h:dA X.K H a xs)(h':dA X.K H a ys):xs=ys:=by
 obtain⟨its,r,⟨o,e,_,n,d⟩,_⟩:=I.tuple h;obtain⟨its',r',⟨o',e',_,n',d'⟩,_⟩:=I.tuple h';rw[e] at e';cases e';rw[d] at d';injection d' with d1 _
 have:its=its':=by simpa using congrArg Array.toList d1
 subst this;exact r.inj r'
end
abbrev Cx.wish (X:Cx) (E:Value->Shared->Prop):Cx:={ X with xe:=E }
abbrev Cx.nox (X:Cx):Cx:=X.wish λ_ _=>False
def Cx.Ok.wish{X:Cx}(ok:X.Ok)(E:Value->Shared->Prop):(X.wish E).Ok:=
 ⟨ok.mod,ok.kind,ok.glob,ok.blt,ok.above,ok.inj,ok.has,ok.cab,ok.hd,ok.frames,ok.stk,ok.exf,ok.bs,ok.bsz,ok.noex,ok.exfs,ok.funs,ok.frf⟩
def Cx.Ok.unwish{X:Cx}{E:Value->Shared->Prop}(ok:(X.wish E).Ok):X.Ok:=
 ⟨ok.mod,ok.kind,ok.glob,ok.blt,ok.above,ok.inj,ok.has,ok.cab,ok.hd,ok.frames,ok.stk,ok.exf,ok.bs,ok.bsz,ok.noex,ok.exfs,ok.funs,ok.frf⟩
section
variable {X:Cx} {pins:List (Addr×Obj)} {σ:St} {H:Hp} {s:Shared} {E:Value->Shared->Prop}
def bT.wish(I:bT X pins σ H s)(E:Value->Shared->Prop):bT (X.wish E) pins σ H s:=⟨I.ok.wish E,I.os,I.bare,I.base,I.loc,I.cell,I.free,I.freeC,I.pin,I.hok,I.len⟩
def bT.unwish(I:bT (X.wish E) pins σ H s):bT X pins σ H s:=⟨I.ok.unwish,I.os,I.bare,I.base,I.loc,I.cell,I.free,I.freeC,I.pin,I.hok,I.len⟩
def SP.unwish{D:Ends}{f:Flow}{s':Shared}(h:SP (X.wish E) pins D f s'):SP X pins D f s':=by
 cases f with
 | next=>obtain⟨σ',H',I,q⟩:=h;exact⟨σ',H',I.unwish,q⟩
 | brk=>obtain⟨σ',H',I,q⟩:=h;exact⟨σ',H',I.unwish,q⟩
 | cont=>obtain⟨σ',H',I,q⟩:=h;exact⟨σ',H',I.unwish,q⟩
 | ret u=>obtain⟨v,σ',H',I,r,q⟩:=h;exact⟨v,σ',H',I.unwish,r,q⟩
def PT.nox{e:Expr}{t:TT}(h:PT X.nox e t):PT X e t:=λpins s σ H Q I hw=>
 wpAny_mono (h pins s σ H Q (I.wish _) hw) (λ_ _ ⟨H',I',q⟩=>⟨H',I'.unwish,q⟩) λ_ _ z=>False.elim z
def qo.nox{st:List Stmt}{t:TS}(h:qo X.nox st t):qo X st t:=λpins s σ H D I hw=>
 wpAny_mono (h pins s σ H D (I.wish _) hw) (λ_ _ q=>q.unwish) λ_ _ z=>False.elim z
end
section
variable {X:Cx} {st:Stmt} {rest:List Stmt} {t u:TS} {e:Expr} {te:TE} {pos:Pos}
def zZ:TS:=λD σ H=>D.nx σ H
def EV(t u:TS):TS:=λD σ H=>t { D with nx:=u D } σ H
def CT:qo X [] zZ:=λ_ _ σ H _ I h=>Oj ⟨σ,H,I,h⟩
def AL(h1:PS X st t)(h2:qo X rest u):qo X (st::rest) (EV t u):=by
 intro pins s σ H D I h;refine Ol (dW (h1 pins s σ H { D with nx:=u D } I h) λf s1 q=>?_);cases f with
 | next=>
  obtain⟨σ',H',I',q⟩:=q;exact h2 pins s1 σ' H' D I' q
 | ret v=>exact q
 | brk=>exact q
 | cont=>exact q
def CS(h1:PS X st t):qo X [st] t:=by
 intro pins s σ H D I h;refine Ol (dW (h1 pins s σ H D I h) λf s1 q=>?_);cases f with
 | next=>exact Oj q
 | ret v=>exact q
 | brk=>exact q
 | cont=>exact q
def E4:TS:=λD σ H=>D.bk σ H
def Gb:TS:=λD σ H=>D.ct σ H
def bT.quiet{pins:List (Addr×Obj)}{σ:St}{H:Hp}{s:Shared}(I:bT X pins σ H s):interactive X.env=false:=by simp[interactive,I.ok.kind]
def z8(te:TE):TS:=λD σ H=>te σ H λ_ H1=>D.nx σ H1
def CW(he:PE X e te)(hs:swapsWith e none pos.line X.env=pure false:=by rfl):PS X (.Expr e pos) (z8 te):=by
 intro pins s σ H D I h;exact wpAny_Expr_any (dW (he pins s σ H _ I h) λv s1 ⟨x,H1,I1,r1,q1⟩=>⟨σ,H1,I1,q1⟩) I.quiet hs
def EY(te:TE):TS:=λD σ H=>te σ H D.rt
def Eu(he:PE X e te):PS X (.Return (some e) pos) (EY te):=by
 intro pins s σ H D I h;exact wpAny_Return_some (dW (he pins s σ H _ I h) λv s1 ⟨x,H1,I1,r1,q1⟩=>⟨x,σ,H1,I1,r1,q1⟩)
def Ga:TS:=λD _ H=>D.rt .non H
def E1(c:TT)(t u:TS):TS:=λD σ H=>c σ H λb H1=>if b=true then t D σ H1 else u D σ H1
def Gs{c:Expr}{a b:List Stmt}{tc:TT}(hc:PT X c tc)(ha:qo X a t)(hb:qo X b u):PS X (.If c a b pos) (E1 tc t u):=by
 intro pins s σ H D I h;refine wpAny_If (dW (hc pins s σ H _ I h) λd s1 ⟨H1,I1,q1⟩=>?_);cases d with
 | true=>exact ha pins s1 σ H1 D I1 q1
 | false=>exact hb pins s1 σ H1 D I1 q1
end
abbrev TG:=V->St->Hp->(St->Hp->Prop)->Prop
abbrev yg:=List V->St->Hp->(St->Hp->Prop)->Prop
def PG(X:Cx)(target:Expr)(t:TG):Prop:=
 ∀(pins:List (Addr×Obj)) (s:Shared) (σ:St) (H:Hp) (v:V) (u:Value) (Q:St->Hp->Prop),bT X pins σ H s->RelV v u->t v σ H Q →
  wpAny (model X.prog X.w) X.A (assign target X.env u) (λ_ s'=>∃σ' H',bT X pins σ' H' s'/\Q σ' H') X.xe s
def Ha(X:Cx)(ts:List Expr)(t:yg):Prop:=
 ∀(pins:List (Addr×Obj)) (s:Shared) (σ:St) (H:Hp) (vs:List V) (us:List Value) (Q:St->Hp->Prop),bT X pins σ H s->bj vs us->t vs σ H Q →
  wpAny (model X.prog X.w) X.A (assignInOrder ((assignEach ts X.env).map (·.2)) us) (λ_ s'=>∃σ' H',bT X pins σ' H' s'/\Q σ' H') X.xe s
abbrev HW:=V->V->V->Hp->(Hp->Prop)->Prop
abbrev Ik:=V->V->Hp->VK->Prop
section
variable {X:Cx} {pos:Pos}
def mB(i:Nat):TG:=λv σ H Q=>Q (σ.set i (some v)) H
def C5{i:Nat}{x:Str}(hN:X.N.Nodup)(hi:X.N[i]? = some x)(hx:Loc X.env.scope x)(hf:X.fn x=true\/X.env.scope.names.lookup x=some .local:=by first | exact .inl rfl | exact .inr rfl | assumption):PG X (.Name x pos) (mB i):=by
 intro pins s σ H v u Q I r h;exact wpAny_assign_Name (oR I hN hi hx r (λs' I'=>⟨_,H,I',h⟩) hf)
def Fd:yg:=λvs σ H Q=>vs=[]/\Q σ H
def BD(t:TG)(u:yg):yg:=λvs σ H Q=>∃v r,vs=v::r/\t v σ H λσ' H'=>u r σ' H' Q
def C4:Ha X [] Fd:=by
 intro pins s σ H vs us Q I r h;obtain⟨e,h⟩:=h;subst e;cases r;exact assignInOrder_nil ⟨σ,H,I,h⟩
def AS{e:Expr}{es:List Expr}{t:TG}{u:yg}(h1:PG X e t)(h2:Ha X es u)
  (hs:(assignEach (e::es) X.env).map (·.2)=assign e X.env::(assignEach es X.env).map (·.2):=by rfl):Ha X (e::es) (BD t u):=by
 intro pins s σ H vs us Q I r h;obtain⟨v,vr,e1,h⟩:=h;subst e1;cases r with
 | cons r rr=>
  rw[hs];refine assignInOrder_cons (dW (h1 pins s σ H _ _ _ I r h) λ_ s1 ⟨σ1,H1,I1,q1⟩=>?_);exact h2 pins s1 σ1 H1 _ _ Q I1 rr q1
def Fc(K:P5)(n:Nat)(t:yg):TG:=λv σ H Q=>∃a xs,v=.ref a/\dA K H a xs/\xs.length=n/\t xs σ H Q
def FC{es:List Expr}{k:Nat}{t:yg}{n:Nat}(hc:X.calm=true)(h:Ha X es t)
  (hn:(assignEach es X.env).length=n:=by rfl) (hst:(assignEach es X.env).findIdx? (·.1)=none:=by rfl):PG X (.Tuple es k pos) (Fc X.K n t):=by
 intro pins s σ H v u Q I r hw;obtain⟨a,xs,e1,hq,hl,hw⟩:=hw;subst e1;cases r;obtain⟨its,rv,ht,hz⟩:=I.tuple hq;refine assign_Tuple_tuple (I.ok.hd hc) ht (by simp[hn,<-hl,rv.length]) hst λh' hx=>?_;have I1:bT X pins σ H { s with heap:=h' }:=I.kept (t':=s.toks) λb o e=>hx b o (aV (aJ e)) e;exact h pins _ σ H xs _ Q I1 (by simpa using rv) hw
def Ic(to ti:TE)(t:HW):TG:=λv σ H Q=>to σ H λo H1=>ti σ H1 λi H2=>t o i v H2 λH3=>Q σ H3
def zb(te:TE)(g:TG):TS:=λD σ H=>te σ H λx H1=>g x σ H1 D.nx
def Ey{tg e:Expr}{te:TE}{g:TG}(he:PE X e te)(hg:PG X tg g)(hs:swapsWithSole [tg] e pos.line X.env=pure false:=by rfl)(hw:swappedStores [tg] e X.env=pure none:=by rfl)
  (h1:(assignEach [tg] X.env).map (·.2)=[assign tg X.env]:=by rfl):PS X (.Assign [tg] e pos) (zb te g):=by
 intro pins s σ H D I h;refine wpAny_Assign_stores (dW (he pins s σ H _ I h) λv s1 ⟨x,H1,I1,r1,q1⟩=>?_) hs hw;rw[h1];exact dW (hg pins s1 σ H1 x v _ I1 r1 q1) λ_ s2 q=>q
def Et{i:Nat}{x:Str}{e:Expr}{te:TE}{pos':Pos}(hN:X.N.Nodup)(hi:X.N[i]? = some x)(hx:Loc X.env.scope x)(he:PE X e te)(hs:swapsWith e (some (.Name x pos')) pos.line X.env=pure false:=by rfl)(hf:X.fn x=true\/X.env.scope.names.lookup x=some .local:=by first | exact .inl rfl | exact .inr rfl | assumption):
  PS X (.Assign [.Name x pos'] e pos) (zb te (mB i)):=by
 intro pins s σ H D I h;refine wpAny_Assign_Name (dW (he pins s σ H _ I h) λv s1 ⟨y,H1,I1,r1,q1⟩=>?_) hs;exact oR I1 hN hi hx r1 (λs2 I2=>⟨_,H1,I2,q1⟩) hf
def IK(i:Nat)(te:TE)(ti:Ik):TS:=λD σ H=>∃x,σ[i]? = some (some x)/\te σ H λy H1=>ti x y H1 λz H2=>D.nx (σ.set i (some z)) H2
def JX(f:Int->Int->Int):Ik:=λx y H Q=>∃i j,x=.int i/\y=.int j/\Q (.int (f i j)) H
end
section
variable {X:Cx} {pos:Pos}
def zU(c:TT)(tb:TS):TS:=λD σ H=>∃W:Nat->St->Hp->Prop,(∃m,W m σ H)/\∀m σ H,W m σ H →
 c σ H λb H1=>if b=true then ∃N:St->Hp->Prop,(∀σ' H',N σ' H'->∃m',m'<m/\W m' σ' H')/\tb { D with nx:=N,ct:=N,bk:=D.nx } σ H1 else D.nx σ H1
def AM{c:Expr}{body:List Stmt}{tc:TT}{tb:TS}(hp:PassesOwn (model X.prog X.w) X.A X.env X.xe)(hc:PT X c tc)(hb:qo X body tb):PS X (.While c body [] pos) (zU tc tb):=by
 intro pins s σ H D I h;obtain⟨W,⟨m0,w0⟩,turn⟩:=h;refine wpAny_While (codeAny_whileLoop (λn s'=>∃σ' H',bT X pins σ' H' s'/\W n σ' H') ?_ m0 ⟨σ,H,I,w0⟩);rintro n s1 ⟨σ1,H1,I1,w1⟩;refine Om hp (dW (hc pins s1 σ1 H1 _ I1 (turn n σ1 H1 w1)) λb s2 ⟨H2,I2,q2⟩=>?_);cases b with
 | true=>
  obtain⟨N,hN,q2⟩:=q2;rw[PX rfl];refine Om hp (dW (hb pins s2 σ1 H2 _ I2 q2) λf s3 q3=>?_);cases f with
  | next=>
   obtain⟨σ3,H3,I3,n3⟩:=q3;obtain⟨m',hm,w3⟩:=hN σ3 H3 n3;exact⟨m',hm,σ3,H3,I3,w3⟩
  | cont=>
   obtain⟨σ3,H3,I3,n3⟩:=q3;obtain⟨m',hm,w3⟩:=hN σ3 H3 n3;exact⟨m',hm,σ3,H3,I3,w3⟩
  | brk=>exact q3
  | ret v=>exact q3
 | false=>
  rw[PV a8];exact Oj ⟨σ1,H2,I2,q2⟩
end
structure It where
 go:Nat->Hp->Prop
 yld:Nat->Hp->V->Hp->Prop
 stop:Nat->Hp->Prop
def lT(X:Cx)(pins:List (Addr×Obj))(H:Hp)(b:Addr):Prop:=
 H b=none/\b≠X.env.locals/\b∉X.fs/\(b∈X.ex\/X.s₀.heap.objs.size<=b)/\(∀x c,X.env.cells.lookup x=some c->c≠b)/\∀p∈X.pn++pins,p.1≠b
def bT.fpOk{X:Cx}{pins:List (Addr×Obj)}{σ:St}{H H':Hp}{s:Shared}{b:Addr}(I:bT X pins σ H s)(hb:s.heap.objs.size<=b)(hn:H' b=none):lT X pins H' b:=by
 refine⟨hn,ir (aT I.lt hb),I.nofs hb,.inr (cP I.sz hb),λx c e z=>?_,λp hp z=>?_⟩
 ·obtain⟨v,q⟩:=I.cell x c e;exact absurd (aT q.lt (by rw[z];exact hb)) (dC _)
 ·exact absurd (aT (aJ (I.pin p hp).1) (by rw[z];exact hb)) (dC _)
structure Turn (P : Program) (w : World) (K : P5) (tg : Expr) (J : It) (fp : List Addr) (it : Addr) (tn : Nat → Heap → Prop) : Prop where
  mem : it ∈ fp
  obj : ∀ i h, tn i h → ∀ b ∈ fp, ∃ o, h.get? b = some o ∧ ∀ v, o.data ≠ .cell v
  keep : ∀ i h h', tn i h → (∀ b ∈ fp, ∀ o, h.get? b = some o → h'.get? b = some o) → tn i h'
  item : ∀ (X : Cx), X.prog = P → X.w = w → X.K = K → X.calm = true → ∀ (i : Nat) (pins : List (Addr × Obj)) (s : Shared) (σ : St) (H : Hp) (E : Value → Shared → Prop), bT X pins σ H s → (∀ b ∈ fp, lT X pins H b) → tn i s.heap → J.go i H →
    wpAny (model P w) X.A (pyNext (.ref it)) (fun r s1 => ∃ u, r = some u ∧
      wpAny (model P w) X.A (letOwnedTupleGo tg (.ref it) u) (fun _ s2 => ∃ x H', bT X pins σ H' s2 ∧ RelV x u ∧ J.yld i H x H' ∧ tn (i + 1) s2.heap ∧ ∀ b ∈ fp, H' b = none) E s1) E s
  done : ∀ (X : Cx), X.prog = P → X.w = w → X.K = K → X.calm = true → ∀ (i : Nat) (pins : List (Addr × Obj)) (s : Shared) (σ : St) (H : Hp) (E : Value → Shared → Prop), bT X pins σ H s → (∀ b ∈ fp, lT X pins H b) → tn i s.heap → J.stop i H →
    wpAny (model P w) X.A (pyNext (.ref it)) (fun r s1 => r = none ∧ bT X pins σ H s1) E s
  self : ∀ (A : Around) (i : Nat) (s : Shared) (Q : Value → Shared → Prop) (E : Value → Shared → Prop), tn i s.heap → Q (.ref it) s → wpAny (model P w) A (pyIter (.ref it)) Q E s
abbrev TI:=St->Hp->(It->Hp->Prop)->Prop
def Il(X:Cx)(pins:List (Addr×Obj))(σ:St)(tg:Expr)(R:It->Hp->Prop)(itv:Value)(s2:Shared):Prop:=
 ∃(it:Addr) (fp:List Addr) (tn:Nat->Heap->Prop) (J:It) (H':Hp),itv=.ref it/\bT X pins σ H' s2/\Turn X.prog X.w X.K tg J fp it tn/\tn 0 s2.heap/\(∀b∈fp,lT X pins H' b)/\R J H'
def PI(X:Cx)(tg iter:Expr)(wi:TI):Prop:=
 ∀(pins:List (Addr×Obj)) (s:Shared) (σ:St) (H:Hp) (R:It->Hp->Prop),bT X pins σ H s->wi σ H R →
  wpAny (model X.prog X.w) X.A (eval iter X.env) (λv s1=>wpAny (model X.prog X.w) X.A (pyIter v) (Il X pins σ tg R) X.xe s1) X.xe s
def tX {M : Model} {A : Around} {E : Value → Shared → Prop} {s : Shared} {tg : Expr} {it : Addr} {u : Value} {o : Obj} {n : String} {vs : Array Value} {Q : Unit → Shared → Prop} (ho : s.heap.get? it = some o) (hc : o.cls = .type n) (hd : o.data = .fields vs)
    (hn : ["enumerate", "zip", "dict_itemiterator", "dict_reverseitemiterator", "odict_iterator", "itertools.zip_longest", "itertools.pairwise"].contains n = false) (hQ : Q () s) : wpAny M A (letOwnedTupleGo tg (.ref it) u) Q E s := by
  unfold letOwnedTupleGo
  cases tg <;> first
    | exact On hQ
    | (cases u <;> first
        | exact On hQ
        | (refine wpAny_bind (wpAny_load ho ?_)
           rw [hc, hd]
           show wpAny M A (if (["enumerate", "zip", "dict_itemiterator", "dict_reverseitemiterator", "odict_iterator", "itertools.zip_longest", "itertools.pairwise"].contains n && vs[0]? == some (rawInt _)) = true then _ else _) Q E s
           rw [PV (by intro h; rw [hn, lV] at h; cases h)]
           exact On hQ))
def Bf(K:P5)(a:Addr):It:=
 ⟨λi H=>∃xs x,ce K H a xs/\xs[i]? = some x,λi H x H'=>H'=H/\∀xs,ce K H a xs->xs[i]? = some x,λi H=>∃xs,ce K H a xs/\xs.length<=i⟩
def Hg(K:P5)(a:Addr):It:=
 ⟨λi H=>∃xs x,dA K H a xs/\xs[i]? = some x,λi H x H'=>H'=H/\∀xs,dA K H a xs->xs[i]? = some x,λi H=>∃xs,dA K H a xs/\xs.length<=i⟩
def yh(lo:Int)(n:Nat):It:=⟨λi _=>i<n,λi H x H'=>H'=H/\x=.int (lo+i),λi _=>n<=i⟩
def xI {P : Program} {w : World} {K : P5} {tg : Expr} (a it : Addr) : Turn P w K tg (Bf K a) [it] it (fun i h => h.IsListIter it a i) where
  mem := by simp
  obj := fun i h st b hb => by
    have e : b = it := by simpa using hb
    subst e
    obtain ⟨o, e, c, d⟩ := st
    exact ⟨o, e, fun v z => by rw [d] at z; cases z⟩
  keep := fun i h h' st k => st.at fun o e => k it (by simp) o e
  item := by
    intro X hP hw hK hc i pins s σ H E I hf st hg
    subst hP hw hK
    obtain ⟨xs, x, hq, hx⟩ := hg
    obtain ⟨its, rv, p, hz⟩ := I.list hq
    obtain ⟨u, hu, ru⟩ := rv.get hx
    obtain ⟨f0, f1, f2, f3, f4, f5⟩ := hf it (by simp)
    refine wpAny_pyNext_list_item st p.isList (x := u) (by simpa using hu) fun h' st' sb => ?_
    have I1 : bT X pins σ H { s with heap := h' } := I.turned (t' := s.toks) (fun b o hb e => (sb.2 b hb).trans e) f0 f1 f3 f4 f5
    obtain ⟨o, e, c, d⟩ := id st'
    exact ⟨u, rfl, tX (s := { s with heap := h' }) e c d (by decide) ⟨x, H, I1, ru, ⟨rfl, fun ys hy => by rw [I.list_inj hy hq]; exact hx⟩, st', fun b hb => (hf b hb).1⟩⟩
  done := by
    intro X hP hw hK hc i pins s σ H E I hf st hg
    subst hP hw hK
    obtain ⟨xs, hq, hx⟩ := hg
    obtain ⟨its, rv, p, hz⟩ := I.list hq
    obtain ⟨f0, f1, f2, f3, f4, f5⟩ := hf it (by simp)
    have hl := rv.length
    exact wpAny_pyNext_list_end (I.ok.hd hc) st p.isList (by simp; lia) fun h' eb => ⟨rfl, I.turned (t' := s.toks) (fun b o hb e => eb b o hb e) f0 f1 f3 f4 f5⟩
  self := fun _ _ _ _ _ st h => wpAny_pyIter_listiter st h
def uV {P : Program} {w : World} {K : P5} {tg : Expr} (a it : Addr) : Turn P w K tg (Hg K a) [it] it (fun i h => h.IsTupleIter it a i) where
  mem := by simp
  obj := fun i h st b hb => by
    have e : b = it := by simpa using hb
    subst e
    obtain ⟨o, e, c, d⟩ := st
    exact ⟨o, e, fun v z => by rw [d] at z; cases z⟩
  keep := fun i h h' st k => st.at fun o e => k it (by simp) o e
  item := by
    intro X hP hw hK hc i pins s σ H E I hf st hg
    subst hP hw hK
    obtain ⟨xs, x, hq, hx⟩ := hg
    obtain ⟨its, rv, p, hz⟩ := I.tuple hq
    obtain ⟨u, hu, ru⟩ := rv.get hx
    obtain ⟨f0, f1, f2, f3, f4, f5⟩ := hf it (by simp)
    refine wpAny_pyNext_tuple_item st (show s.heap.IsTuple a its.toArray from p) (x := u) (by simpa using hu) fun h' st' sb => ?_
    have I1 : bT X pins σ H { s with heap := h' } := I.turned (t' := s.toks) (fun b o hb e => (sb.2 b hb).trans e) f0 f1 f3 f4 f5
    obtain ⟨o, e, c, d⟩ := id st'
    exact ⟨u, rfl, tX (s := { s with heap := h' }) e c d (by decide) ⟨x, H, I1, ru, ⟨rfl, fun ys hy => by rw [I.tuple_inj hy hq]; exact hx⟩, st', fun b hb => (hf b hb).1⟩⟩
  done := by
    intro X hP hw hK hc i pins s σ H E I hf st hg
    subst hP hw hK
    obtain ⟨xs, hq, hx⟩ := hg
    obtain ⟨its, rv, p, hz⟩ := I.tuple hq
    obtain ⟨f0, f1, f2, f3, f4, f5⟩ := hf it (by simp)
    have hl := rv.length
    exact wpAny_pyNext_tuple_end (I.ok.hd hc) st (show s.heap.IsTuple a its.toArray from p) (by simp; lia) fun h' eb => ⟨rfl, I.turned (t' := s.toks) (fun b o hb e => eb b o hb e) f0 f1 f3 f4 f5⟩
  self := fun _ _ _ _ _ st h => wpAny_pyIter_tupleiter st h
def uW {P : Program} {w : World} {K : P5} {tg : Expr} (it : Addr) (lo : Int) (n : Nat) : Turn P w K tg (yh lo n) [it] it (fun i h => IsRangeIter h it (lo + (i : Nat) * 1) ((n : Int) - (i : Nat)) 1) where
  mem := by simp
  obj := fun i h st b hb => by
    have e : b = it := by simpa using hb
    subst e
    exact ⟨_, st, fun v z => by
      have z' : Data.fields _ = Data.cell v := z
      cases z'⟩
  keep := fun i h h' st k => k it (by simp) _ st
  item := by
    intro X hP hw hK hc i pins s σ H E I hf st hg
    subst hP hw hK
    obtain ⟨f0, f1, f2, f3, f4, f5⟩ := hf it (by simp)
    have W := Walks.range (prog := X.prog) (w := X.w) (I.ok.hd hc) it lo 1 n
    refine W.item i s _ _ hg st fun v h' tk hv st' kk => ?_
    obtain ⟨t, rfl⟩ := hv
    have I1 : bT X pins σ H { s with heap := h', toks := tk } := I.turned (fun b o hb e => kk b o (by simpa using hb) e) f0 f1 f3 f4 f5
    refine ⟨_, rfl, tX (s := { s with heap := h', toks := tk }) (n := "range_iterator") st' rfl rfl (by decide) ⟨.int (lo + i), H, I1, ⟨t, ?_⟩, ⟨rfl, rfl⟩, st', fun b hb => (hf b hb).1⟩⟩
    rw [Int.mul_one]
  done := by
    intro X hP hw hK hc i pins s σ H E I hf st hg
    subst hP hw hK
    obtain ⟨f0, f1, f2, f3, f4, f5⟩ := hf it (by simp)
    exact wpAny_pyNext_range_end (I.ok.hd hc) st (by have : n ≤ i := hg; lia) fun h' eb => ⟨rfl, I.turned (t' := s.toks) (fun b o hb e => eb b o hb e) f0 f1 f3 f4 f5⟩
  self := fun _ _ _ _ _ st h => wpAny_pyIter_rangeiter st h
section
variable {X:Cx} {tg:Expr}
def wq(K:P5)(tl:TE):TI:=λσ H R=>tl σ H λx H1=>∃a,x=.ref a/\(∃xs,ce K H1 a xs)/\R (Bf K a) H1
def Cy(K:P5)(tl:TE):TI:=λσ H R=>tl σ H λx H1=>∃a,x=.ref a/\(∃xs,dA K H1 a xs)/\R (Hg K a) H1
def C3{l:Expr}{tl:TE}(hl:PE X l tl):PI X tg l (wq X.K tl):=by
 intro pins s σ H R I h;refine dW (hl pins s σ H _ I h) λv s1 ⟨x,H1,I1,r1,q1⟩=>?_;obtain⟨a,e,⟨xs,hq⟩,q⟩:=q1;subst e;cases r1;obtain⟨its,rv,p,hz⟩:=I1.list hq;refine wpAny_pyIter_list p.isList ?_;refine⟨s1.heap.objs.size,[s1.heap.objs.size],_,_,H1,rfl,I1.kept (t':=s1.toks) λb o e=>aB _ e,xI a _,⟨_,aK _ rfl,rfl,rfl⟩,λb hb=>?_,q⟩;have e:b=s1.heap.objs.size:=by simpa using hb
 subst e;exact I1.fpOk (aH _) (I1.hok.fresh (aH _))
def FA{l:Expr}{tl:TE}(hl:PE X l tl):PI X tg l (Cy X.K tl):=by
 intro pins s σ H R I h;refine dW (hl pins s σ H _ I h) λv s1 ⟨x,H1,I1,r1,q1⟩=>?_;obtain⟨a,e,⟨xs,hq⟩,q⟩:=q1;subst e;cases r1;obtain⟨its,rv,p,hz⟩:=I1.tuple hq;refine Oo (show s1.heap.IsTuple a its.toArray from p) ?_;refine⟨s1.heap.objs.size,[s1.heap.objs.size],_,_,H1,rfl,I1.kept (t':=s1.toks) λb o e=>aB _ e,uV a _,⟨_,aK _ rfl,rfl,rfl⟩,λb hb=>?_,q⟩;have e:b=s1.heap.objs.size:=by simpa using hb
 subst e;exact I1.fpOk (aH _) (I1.hok.fresh (aH _))
def sh{pins:List (Addr×Obj)}{σ:St}{H:Hp}{s:Shared}{R:It->Hp->Prop}{E:Value->Shared->Prop}{lo hi:Int}{t u v:Tok}{tk:Nat}(I:bT X pins σ H s)(h1:-(2 ^ 62)<=lo)(h2:lo<2 ^ 62)(h3:-(2 ^ 62)<=hi)(h4:hi<2 ^ 62)
  (q:R (yh lo (hi-lo).toNat) H):wpAny (model X.prog X.w) X.A (pyIter (.ref s.heap.objs.size)) (Il X pins σ tg R) E { s with heap:=s.heap.push { cls:=.type "range",data:=.fields #[.int lo t,.int hi u,.int 1 v] },toks:=tk }:=by
 refine Oq (IsRange.new ..) (small_one h1 h2 h3 h4) ?_;have I1:bT X pins σ H { s with heap:=s.heap.push { cls:=.type "range",data:=.fields #[.int lo t,.int hi u,.int 1 v] },toks:=tk }:=I.kept λb o e=>aB _ e;refine⟨(s.heap.push { cls:=.type "range",data:=.fields #[.int lo t,.int hi u,.int 1 v] }).objs.size,[(s.heap.push { cls:=.type "range",data:=.fields #[.int lo t,.int hi u,.int 1 v] }).objs.size],_,_,H,rfl,
  I1.kept (t':=tk) λb o e=>aB _ e,uW _ lo (hi-lo).toNat,?_,λb hb=>?_,q⟩
 ·have e1:lo+((0:Nat):Int)*1=lo:=by simp
  have e2:(((hi-lo).toNat:Nat):Int)-((0:Nat):Int)=Builtin.Range.rangeSize lo hi 1:=by rw[rangeSize_one];split<;>lia
  show IsRangeIter _ _ (lo+((0:Nat):Int)*1) ((((hi-lo).toNat:Nat):Int)-((0:Nat):Int)) 1;rw[e1,e2];exact aK _ rfl
 ·have e:b=(s.heap.push { cls:=.type "range",data:=.fields #[.int lo t,.int hi u,.int 1 v] }).objs.size:=by simpa using hb
  subst e;exact I1.fpOk (aH _) (I1.hok.fresh (aH _))
def wn(ta:TA):TI:=λσ H R=>ta σ H λvs H1=>∃j:Int,vs=[.int j]/\-(2 ^ 62)<=j/\j<2 ^ 62/\R (yh 0 j.toNat) H1
def wj(ta:TA):TI:=λσ H R=>ta σ H λvs H1=>∃i j:Int,vs=[.int i,.int j]/\(-(2 ^ 62)<=i/\i<2 ^ 62/\-(2 ^ 62)<=j/\j<2 ^ 62)/\R (yh i (j-i).toNat) H1
def xh {a:Expr} {ta:TA} {p pos:Pos} (hg:Gl X "range") (hm:X.mg "range"=none) (ha:PA X [a] ta) (hs:starEach [a] X.env=[(false,eval a X.env)]:=by rfl):PI X tg (.Call (.Name "range" p) [a] [] pos) (wn ta):=by
 intro pins s σ H R I h;refine Call_ (jh I hg hm boot_range (bc (dW (ha pos pins s σ H _ I h) λus s1 ⟨vs,H1,I1,r1,q1⟩=>?_) hs rfl));obtain⟨j,e,q1,q2,q⟩:=q1;subst e;cases r1 with
 | cons r rr=>
  cases rr;obtain⟨t,rfl⟩:=r;exact call_range_1 (sh I1 (by lia) (by lia) q1 q2 (by simpa using q))
def xg {a b:Expr} {ta:TA} {p pos:Pos} (hg:Gl X "range") (hm:X.mg "range"=none) (ha:PA X [a,b] ta) (hs:starEach [a,b] X.env=[(false,eval a X.env),(false,eval b X.env)]:=by rfl) (hs2:starEach [b] X.env=[(false,eval b X.env)]:=by rfl) :
  PI X tg (.Call (.Name "range" p) [a,b] [] pos) (wj ta):=by
 intro pins s σ H R I h;refine Call_ (jh I hg hm boot_range (bc (dW (ha pos pins s σ H _ I h) λus s1 ⟨vs,H1,I1,r1,q1⟩=>?_) (by rw[hs,hs2]) (by rw[hs2];rfl)));obtain⟨i,j,e,⟨q1,q2,q3,q4⟩,q⟩:=q1;subst e;cases r1 with
 | cons r rr=>
  cases rr with
  | cons r' rr=>
   cases rr;obtain⟨t,rfl⟩:=r;obtain⟨t',rfl⟩:=r';exact call_range_2 (sh I1 q1 q2 q3 q4 q)
def mX(wi:TI)(g:TG)(tb:TS):TS:=λD σ H=>wi σ H λJ H1=>∃W:Nat->Nat->St->Hp->Prop,(∃m,W 0 m σ H1)/\∀i m σ H,W i m σ H →
 (J.stop i H/\D.nx σ H)\/(J.go i H/\∃N:St->Hp->Prop,(∀σ' H',N σ' H'->∃m',m'<m/\W (i+1) m' σ' H')/\∀x H',J.yld i H x H'->g x σ H' λσ2 H2=>tb { D with nx:=N,ct:=N,bk:=D.nx } σ2 H2)
def jg(fp:List Addr)(h:Heap):List (Addr×Obj):=fp.filterMap λb=>(h.get? b).map λo=>(b,o)
def iE{fp:List Addr}{h:Heap}{b:Addr}{o:Obj}(hb:b∈fp)(e:h.get? b=some o):(b,o)∈jg fp h:=List.mem_filterMap.mpr ⟨b,hb,by rw[e];rfl⟩
def qR{fp:List Addr}{h:Heap}{p:Addr×Obj}(hp:p∈jg fp h):p.1∈fp/\h.get? p.1=some p.2:=by
 obtain⟨b,hb,e⟩:=List.mem_filterMap.mp hp;cases q:h.get? b with
 | none=>rw[q] at e;cases e
 | some o=>
  rw[q] at e;have e':(b,o)=p:=ay e;subst e';exact⟨hb,q⟩
def bT.pinned{pins:List (Addr×Obj)}{σ:St}{H:Hp}{s:Shared}{fp:List Addr}(I:bT X pins σ H s)(hf:∀b∈fp,lT X pins H b)(ho:∀b∈fp,∃o,s.heap.get? b=some o/\∀v,o.data≠.cell v):bT X (pins++jg fp s.heap) σ H s:=
 I.pins_of λp hp=>(aQ.mp hp).elim (λz=>I.pin p (a7 _ z)) λz=>by
  obtain⟨hb,e⟩:=qR z;obtain⟨f0,f1,f2,_⟩:=hf p.1 hb;obtain⟨o,e',d⟩:=ho p.1 hb;rw[e] at e';cases e';exact⟨e,f0,f1,f2,d⟩
def bT.unpinned{pins pl:List (Addr×Obj)}{σ:St}{H:Hp}{s:Shared}(I:bT X (pins++pl) σ H s):bT X pins σ H s:=I.pins_of λp hp=>I.pin p (a7 _ (bC _ hp))
def Ex{iter:Expr}{body:List Stmt}{wi:TI}{g:TG}{tb:TS}{pos:Pos}(hp:PassesOwn (model X.prog X.w) X.A X.env X.xe)(hc:X.calm=true)(hi:PI X tg iter wi)(hg:PG X tg g)(hb:qo X body tb)
  (hs:∀x,foldedSetIterable iter X.env x=pure x:=by intro _;rfl):PS X (.For tg iter body [] pos) (mX wi g tb):=by
 intro pins s σ H D I h;refine wpAny_For (dW (hi pins s σ H _ I h) λv s1 h1=>dW h1 λitv s2 h2=>?_) hs;obtain⟨it,fp,tn,J,H2,e,I2,T,st2,f2,W,⟨m0,w0⟩,turn⟩:=h2;subst e;have stat:∀{H':Hp},(∀b∈fp,H' b=none)->∀b∈fp,lT X pins H' b:=λhn b hb=>⟨hn b hb,(f2 b hb).2⟩
 refine codeAny_forLoop_any (λn s'=>∃i σ' H',bT X pins σ' H' s'/\tn i s'.heap/\(∀b∈fp,H' b=none)/\W i n σ' H') ?_ m0 ⟨0,σ,H2,I2,st2,λb hb=>(f2 b hb).1,w0⟩;rintro n s3 ⟨i,σ3,H3,I3,st3,fr3,w3⟩;rcases turn i n σ3 H3 w3 with ⟨stop,qn⟩ | ⟨go,N,hN,step⟩
 ·refine Om hp (dW (T.done X rfl rfl rfl hc i pins s3 σ3 H3 X.xe I3 (stat fr3) st3 stop) λr s4 ⟨hr,I4⟩=>?_);subst hr;exact Oj ⟨σ3,H3,I4,qn⟩
 ·refine Om hp (dW (T.item X rfl rfl rfl hc i pins s3 σ3 H3 X.xe I3 (stat fr3) st3 go) λr s4 ⟨u,hr,h4⟩=>?_);subst hr;refine Om hp (dW h4 λ_ s5 ⟨x,H5,I5,r5,y5,st5,fr5⟩=>?_);have I5':=I5.pinned (stat fr5) (T.obj _ _ st5);refine Om hp (dW (hg _ s5 σ3 H5 x u _ I5' r5 (step x H5 y5)) λ_ s6 ⟨σ6,H6,I6,q6⟩=>?_);refine Om hp (dW (hb _ s6 σ6 H6 _ I6 q6) λf s7 q7=>?_);have again:∀{σ7:St} {H7:Hp},bT X (pins++jg fp s5.heap) σ7 H7 s7->N σ7 H7->∃m,m<n/\∃i σ' H',bT X pins σ' H' s7/\tn i s7.heap/\(∀b∈fp,H' b=none)/\W i m σ' H':=fun {σ7 H7} I7 n7=>by
   obtain⟨m',hm,w7⟩:=hN σ7 H7 n7;refine⟨m',hm,i+1,σ7,H7,I7.unpinned,T.keep _ _ _ st5 λb hb o e=>(I7.pin (b,o) (a7 _ (a7 _ (iE hb e)))).1,λb hb=>?_,w7⟩;obtain⟨o,e,d⟩:=T.obj _ _ st5 b hb;exact(I7.pin (b,o) (a7 _ (a7 _ (iE hb e)))).2.1
  cases f with
  | next=>obtain⟨σ7,H7,I7,n7⟩:=q7;exact again I7 n7
  | cont=>obtain⟨σ7,H7,I7,n7⟩:=q7;exact again I7 n7
  | brk=>obtain⟨σ7,H7,I7,q7⟩:=q7;exact⟨σ7,H7,I7.unpinned,q7⟩
  | ret v=>obtain⟨x7,σ7,H7,I7,r7,q7⟩:=q7;exact⟨x7,σ7,H7,I7.unpinned,r7,q7⟩
end
def mi{K:P5}{a:Addr}{xs:List V}{g:TG}{tb:TS}{D:Ends}{σ:St}{H:Hp}(Pv:Nat->St->Hp->Prop)(h0:Pv 0 σ H)(hl:∀i σ H,i<=xs.length->Pv i σ H->ce K H a xs)
  (hs:∀i x σ H,xs[i]? = some x->Pv i σ H->g x σ H λσ2 H2=>tb { D with nx:=Pv (i+1),ct:=Pv (i+1),bk:=D.nx } σ2 H2) (hd:∀σ H,Pv xs.length σ H->D.nx σ H) :
  ∃W:Nat->Nat->St->Hp->Prop,(∃m,W 0 m σ H)/\∀i m σ H,W i m σ H →
   ((Bf K a).stop i H/\D.nx σ H)\/((Bf K a).go i H/\∃N:St->Hp->Prop,(∀σ' H',N σ' H'->∃m',m'<m/\W (i+1) m' σ' H')/\∀x H',(Bf K a).yld i H x H'->g x σ H' λσ2 H2=>tb { D with nx:=N,ct:=N,bk:=D.nx } σ2 H2):=by
 refine⟨λi m σ H=>m=xs.length-i/\i<=xs.length/\Pv i σ H,⟨xs.length,by simp,bO _,h0⟩,?_⟩;rintro i m σ H ⟨rfl,hi,p⟩;have q:=hl i σ H hi p;by_cases hlt:i<xs.length
 ·refine .inr ⟨⟨xs,xs[i],q,by simp[hlt]⟩,Pv (i+1),λσ' H' p'=>⟨xs.length-(i+1),by lia,rfl,hlt,p'⟩,λx H' y=>?_⟩;obtain⟨e,y⟩:=y;subst e;exact hs i x σ _ (y xs q) p
 ·have e:i=xs.length:=by lia
  subst e;exact .inl ⟨⟨xs,q,aH _⟩,hd σ H p⟩
def iF{lo:Int}{n:Nat}{g:TG}{tb:TS}{D:Ends}{σ:St}{H:Hp}(Pv:Nat->St->Hp->Prop)(h0:Pv 0 σ H)
  (hs:∀i σ H,i<n->Pv i σ H->g (.int (lo+i)) σ H λσ2 H2=>tb { D with nx:=Pv (i+1),ct:=Pv (i+1),bk:=D.nx } σ2 H2) (hd:∀σ H,Pv n σ H->D.nx σ H) :
  ∃W:Nat->Nat->St->Hp->Prop,(∃m,W 0 m σ H)/\∀i m σ H,W i m σ H →
   ((yh lo n).stop i H/\D.nx σ H)\/((yh lo n).go i H/\∃N:St->Hp->Prop,(∀σ' H',N σ' H'->∃m',m'<m/\W (i+1) m' σ' H')/\∀x H',(yh lo n).yld i H x H'->g x σ H' λσ2 H2=>tb { D with nx:=N,ct:=N,bk:=D.nx } σ2 H2):=by
 refine⟨λi m σ H=>m=n-i/\i<=n/\Pv i σ H,⟨n,by simp,bO _,h0⟩,?_⟩;rintro i m σ H ⟨rfl,hi,p⟩;by_cases hlt:i<n
 ·refine .inr ⟨hlt,Pv (i+1),λσ' H' p'=>⟨n-(i+1),by lia,rfl,hlt,p'⟩,λx H' y=>?_⟩;obtain⟨e,y⟩:=y;subst e y;exact hs i σ _ hlt p
 ·have e:i=n:=by lia
  subst e;exact .inl ⟨aH _,hd σ H p⟩
abbrev R2:=V->V->Hp->VK->Prop
def j5(X:Cx)(f:Value->Value->Sem Value)(r:R2):Prop:=
 ∀(pins:List (Addr×Obj)) (s:Shared) (σ:St) (H:Hp) (x y:V) (v u:Value) (Q:VK),bT X pins σ H s->RelV x v->RelV y u->r x y H Q →
  wpAny (model X.prog X.w) X.A (f v u) (EP X pins σ Q) X.xe s
def Hy(X:Cx)(f:Value->Sem Value)(r:V->Hp->VK->Prop):Prop:=
 ∀(pins:List (Addr×Obj)) (s:Shared) (σ:St) (H:Hp) (x:V) (v:Value) (Q:VK),bT X pins σ H s->RelV x v->r x H Q →
  wpAny (model X.prog X.w) X.A (f v) (EP X pins σ Q) X.xe s
def eA(X:Cx)(f:Value)(r:List V->Hp->VK->Prop):Prop:=
 ∀(pins:List (Addr×Obj)) (s:Shared) (σ:St) (H:Hp) (xs:List V) (us:List Value) (Q:VK),bT X pins σ H s->bj xs us->r xs H Q →
  wpAny (model X.prog X.w) X.A (call f us) (EP X pins σ Q) X.xe s
def Ij(X:Cx)(r:V->Hp->(Bool->Hp->Prop)->Prop):Prop:=
 ∀(pins:List (Addr×Obj)) (s:Shared) (σ:St) (H:Hp) (x:V) (v:Value) (Q:Bool->Hp->Prop),bT X pins σ H s->RelV x v->r x H Q →
  wpAny (model X.prog X.w) X.A (truthy v) (TP X pins σ Q) X.xe s
def zW(r:R2)(ta tb:TE):TE:=λσ H Q=>ta σ H λx H1=>tb σ H1 λy H2=>r x y H2 Q
def IF(r:V->Hp->VK->Prop)(ta:TE):TE:=λσ H Q=>ta σ H λx H1=>r x H1 Q
def rI(C:Int->Int->Prop)(g:Int->Int->V):R2:=λx y H Q=>∃i j,x=.int i/\y=.int j/\C i j/\Q (g i j) H
def CI(g:Int->Int->V):R2:=λx y H Q=>∃i j,x=.int i/\y=.int j/\Q (g i j) H
def rU(g:Int->V):V->Hp->VK->Prop:=λx H Q=>∃i,x=.int i/\Q (g i) H
section
variable {X:Cx} {a b:Expr} {ta tb:TE} {pos:Pos}
def Fi(ha:PE X a ta)(hb:PE X b tb){pins:List (Addr×Obj)}{s:Shared}{σ:St}{H:Hp}{R:V->V->Hp->Prop}(I:bT X pins σ H s)
  (h:ta σ H λx H1=>tb σ H1 λy H2=>R x y H2) {Q:Value->Shared->Prop} {f:Value->Value->Sem Value}
  (hf:∀v u s2 x y H2,bT X pins σ H2 s2->RelV x v->RelV y u->R x y H2->wpAny (model X.prog X.w) X.A (f v u) Q X.xe s2) :
  wpAny (model X.prog X.w) X.A (eval a X.env) (λv s₁=>wpAny (model X.prog X.w) X.A (eval b X.env) (λu s₂=>wpAny (model X.prog X.w) X.A (f v u) Q X.xe s₂) X.xe s₁) X.xe s:=by
 refine dW (ha pins s σ H _ I h) λv s1 ⟨x,H1,I1,r1,q1⟩=>?_;refine dW (hb pins s1 σ H1 _ I1 q1) λu s2 ⟨y,H2,I2,r2,q2⟩=>?_;exact hf v u s2 x y H2 I2 r1 r2 q2
def Gw{op:Operator}{r:R2}(ho:j5 X (binaryOp op) r)(ha:PE X a ta)(hb:PE X b tb):PE X (.BinOp a op b pos) (zW r ta tb):=by
 intro pins s σ H Q I h;exact wpAny_BinOp (Fi ha hb I h λv u s2 x y H2 I2 rx ry q=>ho pins s2 σ H2 x y v u Q I2 rx ry q)
def Gv{op:UnaryOp}{r:V->Hp->VK->Prop}(ho:Hy X (unaryOp op) r)(ha:PE X a ta):PE X (.UnaryOp op a pos) (IF r ta):=by
 intro pins s σ H Q I h;exact UnaryOp_ (dW (ha pins s σ H _ I h) λv s1 ⟨x,H1,I1,r1,q1⟩=>ho pins s1 σ H1 x v Q I1 r1 q1)
def Hv{f:Value->Value->Sem Value}{C:Int->Int->Prop}{g:Int->Int->Int}
  (rule:∀(i j:Int) (t u:Tok) (s:Shared) (Q:Value->Shared->Prop) (E:Value->Shared->Prop),C i j->Q (.int (g i j) s.toks) { s with toks:=s.toks+1 }->wpAny (model X.prog X.w) X.A (f (.int i t) (.int j u)) Q E s) :
  j5 X f (rI C λi j=>.int (g i j)):=by
 intro pins s σ H x y v u Q I rx ry h;obtain⟨i,j,rfl,rfl,hc,q⟩:=h;obtain⟨t,rfl⟩:=rx;obtain⟨t',rfl⟩:=ry;exact rule i j t t' s _ _ hc ⟨.int (g i j),H,I.tok _,⟨_,rfl⟩,q⟩
def HC{f:Value->Value->Sem Value}{g:Int->Int->Int}
  (rule:∀(i j:Int) (t u:Tok) (s:Shared) (Q:Value->Shared->Prop) (E:Value->Shared->Prop),Q (.int (g i j) s.toks) { s with toks:=s.toks+1 }->wpAny (model X.prog X.w) X.A (f (.int i t) (.int j u)) Q E s) :
  j5 X f (CI λi j=>.int (g i j)):=by
 intro pins s σ H x y v u Q I rx ry h;obtain⟨i,j,rfl,rfl,q⟩:=h;obtain⟨t,rfl⟩:=rx;obtain⟨t',rfl⟩:=ry;exact rule i j t t' s _ _ ⟨.int (g i j),H,I.tok _,⟨_,rfl⟩,q⟩
def Ck{f:Value->Value->Sem Value}{g:Int->Int->Bool}
  (rule:∀(i j:Int) (t u:Tok) (s:Shared) (Q:Value->Shared->Prop) (E:Value->Shared->Prop),Q (.bool (g i j)) s->wpAny (model X.prog X.w) X.A (f (.int i t) (.int j u)) Q E s) :
  j5 X f (CI λi j=>.bl (g i j)):=by
 intro pins s σ H x y v u Q I rx ry h;obtain⟨i,j,rfl,rfl,q⟩:=h;obtain⟨t,rfl⟩:=rx;obtain⟨t',rfl⟩:=ry;exact rule i j t t' s _ _ ⟨.bl (g i j),H,I,rfl,q⟩
def Hk(i j:Int):Prop:=0<j/\j<1073741824
def Ir(i j:Int):Prop:=0<=j/\j<=1000000/\i.natAbs<2 ^ 64
def Fw(i j:Int):Prop:=(-(2 ^ 64)<i/\i<2 ^ 64)\/(-(2 ^ 64)<j/\j<2 ^ 64)
def Fw.ok{i j:Int}(h:Fw i j):IntMulOk i j:=by
 rcases h with ⟨h1,h2⟩ | ⟨h1,h2⟩
 ·exact .of_left (intBits_le_64 h1 h2)
 ·exact .of_right (intBits_le_64 h1 h2)
def dJ:j5 X (binaryOp .Add) (CI λi j=>.int (i+j)):=HC λ_ _ _ _ _ _ _ q=>add_int q
def jL:j5 X (binaryOp .Sub) (CI λi j=>.int (i-j)):=HC λ_ _ _ _ _ _ _ q=>sub_int q
def mJ:j5 X (binaryOp .Mult) (rI Fw λi j=>.int (i*j)):=Hv λ_ _ _ _ _ _ _ hc q=>mul_int q hc.ok
def gB:j5 X (binaryOp .FloorDiv) (rI Hk λi j=>.int (i / j)):=Hv λi j _ _ _ _ _ hc q=>by
 have h1:(0:Int)<j:=hc.1;have h2:j<1073741824:=hc.2;exact floordiv_int (by lia) (by rw[Int.fdiv_eq_ediv_of_nonneg i (by lia)];exact q) (.inl (PyProof.noPylong_small (by lia)))
def gK:j5 X (binaryOp .Mod) (rI (λ_ j=>0<j) λi j=>.int (i % j)):=Hv λi j _ _ _ _ _ hc q=>by
 have h1:(0:Int)<j:=hc;exact mod_int' (by lia) (by rw[Int.fmod_eq_emod_of_nonneg i (by lia)];exact q)
def uv:j5 X (binaryOp .Pow) (rI Ir λi j=>.int (i ^ j.toNat)):=Hv λ_ _ _ _ _ _ _ hc q=>pow_int_small hc.1 hc.2.1 hc.2.2 q
def JN{f:Value->Sem Value}{g:Int->Int}
  (rule:∀(i:Int) (t:Tok) (s:Shared) (Q:Value->Shared->Prop) (E:Value->Shared->Prop),Q (.int (g i) s.toks) { s with toks:=s.toks+1 }->wpAny (model X.prog X.w) X.A (f (.int i t)) Q E s) :
  Hy X f (rU λi=>.int (g i)):=by
 intro pins s σ H x v Q I rx h;obtain⟨i,rfl,q⟩:=h;obtain⟨t,rfl⟩:=rx;exact rule i t s _ _ ⟨.int (g i),H,I.tok _,⟨_,rfl⟩,q⟩
def iU:Hy X (unaryOp .USub) (rU λi=>.int (-i)):=JN λ_ _ _ _ _ q=>neg_int q
end
def Ea:V->V->Bool
 | .non,.non=>true | .non,.int _=>true | .int _,.non=>true | .non,.bl _=>true | .bl _,.non=>true | .non,.str _=>true | .str _,.non=>true
 | .int _,.int _=>true | .bl _,.bl _=>true | .str _,.str _=>true | .byt _,.byt _=>true
 | .int _,.str _=>true | .str _,.int _=>true | .bl _,.str _=>true | .str _,.bl _=>true
 | _,_=>false
def Gk:R2:=λx y H Q=>Ea x y=true/\Q (.bl (decide (x=y))) H
def Hs:R2:=λx y H Q=>Ea x y=true/\Q (.bl (!decide (x=y))) H
def ww{i j:Int}:decide (V.int i=V.int j)=(i==j):=by
 rw[gG];simp
def BU{i j:Bool}:decide (V.bl i=V.bl j)=(i==j):=by
 rw[gG];simp
def wv{i j:Str}:decide (V.str i=V.str j)=(i==j):=by
 rw[gG];simp
def wx{i j:Array UInt8}:decide (V.byt i=V.byt j)=(i.toList==j.toList):=by
 rw[gG];cases i;cases j;simp
section
variable {X:Cx} {a b:Expr} {ta tb tc:TE} {pos:Pos}
def cY{pins:List (Addr×Obj)}{σ:St}{H:Hp}{s:Shared}{Q:VK}{k k':Bool}(I:bT X pins σ H s)(q:Q (.bl k) H)(e:k=k'):EP X pins σ Q (.bool k') s:=by
 subst e;exact⟨.bl k,H,I,rfl,q⟩
def gT:j5 X (compareOp .Eq) Gk:=by
 intro pins s σ H x y v u Q I rx ry h;obtain⟨hs,q⟩:=h;cases x with
 | non=>
  cases rx;cases y with
  | non=>cases ry;exact PySem.EqNone.eq_none_none (cY I q (by simp))
  | bl j=>cases ry;exact PySem.EqNone.eq_none_bool (cY I q (by simp))
  | int j=>obtain⟨t',rfl⟩:=ry;exact PySem.EqNone.eq_none_int (cY I q (by simp))
  | str j=>obtain⟨t',rfl⟩:=ry;exact PySem.EqNone.eq_none_str (cY I q (by simp))
  | _=>exact absurd (show false=true from hs) a8
 | bl i=>
  cases rx;cases y with
  | non=>cases ry;exact PySem.EqNone.eq_bool_none (cY I q (by simp))
  | bl j=>cases ry;exact eq_bool (cY I q BU)
  | str j=>obtain⟨t',rfl⟩:=ry;exact PySem.EqMixed.eq_bool_str (cY I q (by simp))
  | _=>exact absurd (show false=true from hs) a8
 | int i=>
  obtain⟨t,rfl⟩:=rx;cases y with
  | non=>cases ry;exact PySem.EqNone.eq_int_none (cY I q (by simp))
  | int j=>obtain⟨t',rfl⟩:=ry;exact eq_int (cY I q ww)
  | str j=>obtain⟨t',rfl⟩:=ry;exact PySem.EqMixed.eq_int_str (cY I q (by simp))
  | _=>exact absurd (show false=true from hs) a8
 | str i=>
  obtain⟨t,rfl⟩:=rx;cases y with
  | non=>cases ry;exact PySem.EqNone.eq_str_none (cY I q (by simp))
  | bl j=>cases ry;exact PySem.EqMixed.eq_str_bool (cY I q (by simp))
  | int j=>obtain⟨t',rfl⟩:=ry;exact PySem.EqMixed.eq_str_int (cY I q (by simp))
  | str j=>obtain⟨t',rfl⟩:=ry;exact eq_str (cY I q wv)
  | _=>exact absurd (show false=true from hs) a8
 | byt i=>
  obtain⟨t,rfl⟩:=rx;cases y with
  | byt j=>obtain⟨t',rfl⟩:=ry;exact PySem.W.eq_bytes (cY I q wx)
  | _=>exact absurd (show false=true from hs) a8
 | _=>cases y<;>exact absurd (show false=true from hs) a8
def tD:j5 X (compareOp .NotEq) Hs:=by
 intro pins s σ H x y v u Q I rx ry h;obtain⟨hs,q⟩:=h;cases x with
 | non=>
  cases rx;cases y with
  | non=>cases ry;exact PySem.EqNone.ne_none_none (cY I q (by simp))
  | bl j=>cases ry;exact PySem.EqNone.ne_none_bool (cY I q (by simp))
  | int j=>obtain⟨t',rfl⟩:=ry;exact PySem.EqNone.ne_none_int (cY I q (by simp))
  | str j=>obtain⟨t',rfl⟩:=ry;exact PySem.EqNone.ne_none_str (cY I q (by simp))
  | _=>exact absurd (show false=true from hs) a8
 | bl i=>
  cases rx;cases y with
  | non=>cases ry;exact PySem.EqNone.ne_bool_none (cY I q (by simp))
  | bl j=>cases ry;exact ne_bool (cY I q (congrArg not BU))
  | str j=>obtain⟨t',rfl⟩:=ry;exact PySem.EqMixed.ne_bool_str (cY I q (by simp))
  | _=>exact absurd (show false=true from hs) a8
 | int i=>
  obtain⟨t,rfl⟩:=rx;cases y with
  | non=>cases ry;exact PySem.EqNone.ne_int_none (cY I q (by simp))
  | int j=>obtain⟨t',rfl⟩:=ry;exact ne_int (cY I q (congrArg not ww))
  | str j=>obtain⟨t',rfl⟩:=ry;exact PySem.EqMixed.ne_int_str (cY I q (by simp))
  | _=>exact absurd (show false=true from hs) a8
 | str i=>
  obtain⟨t,rfl⟩:=rx;cases y with
  | non=>cases ry;exact PySem.EqNone.ne_str_none (cY I q (by simp))
  | bl j=>cases ry;exact PySem.EqMixed.ne_str_bool (cY I q (by simp))
  | int j=>obtain⟨t',rfl⟩:=ry;exact PySem.EqMixed.ne_str_int (cY I q (by simp))
  | str j=>obtain⟨t',rfl⟩:=ry;exact ne_str (cY I q (congrArg not wv))
  | _=>exact absurd (show false=true from hs) a8
 | byt i=>
  obtain⟨t,rfl⟩:=rx;cases y with
  | byt j=>obtain⟨t',rfl⟩:=ry;exact PySem.W.ne_bytes (cY I q (congrArg not wx))
  | _=>exact absurd (show false=true from hs) a8
 | _=>cases y<;>exact absurd (show false=true from hs) a8
def gp:j5 X (compareOp .Lt) (CI λi j=>.bl (decide (i<j))):=Ck λ_ _ _ _ _ _ _ q=>lt_int q
def De:j5 X (compareOp .LtE) (CI λi j=>.bl (decide (i<=j))):=Ck λ_ _ _ _ _ _ _ q=>le_int q
def tE:j5 X (compareOp .Gt) (CI λi j=>.bl (decide (j<i))):=Ck λ_ _ _ _ _ _ _ q=>gt_int q
def HB:j5 X (compareOp .GtE) (CI λi j=>.bl (decide (j<=i))):=Ck λ_ _ _ _ _ _ _ q=>ge_int q
def xn:j5 X (compareOp .In) (λx y H Q=>∃i j,x=.str i/\y=.str j/\Q (.bl (!(Builtin.Str.occurrences j i 0 j.length 1).isEmpty)) H):=by
 intro pins s σ H x y v u Q I rx ry h;obtain⟨i,j,rfl,rfl,q⟩:=h;obtain⟨t,rfl⟩:=rx;obtain⟨t',rfl⟩:=ry;exact in_str (cY I q rfl)
def Ab:j5 X (compareOp .Is) (λx y H Q=>y=.non/\Q (.bl (decide (x=.non))) H):=by
 intro pins s σ H x y v u Q I rx ry h;obtain⟨rfl,q⟩:=h;cases ry;refine is_none_gen (cY I q ?_);cases x<;>first
  | (cases rx;rfl)
  | (obtain⟨t,rfl⟩:=rx;rfl)
def w5:j5 X (compareOp .IsNot) (λx y H Q=>y=.non/\Q (.bl (!decide (x=.non))) H):=by
 intro pins s σ H x y v u Q I rx ry h;obtain⟨rfl,q⟩:=h;cases ry;refine isnot_none_gen (cY I q ?_);cases x<;>first
  | (cases rx;rfl)
  | (obtain⟨t,rfl⟩:=rx;rfl)
def bb(b:Expr){op:CmpOp}(h:op≠.In:=by decide)(h2:op≠.NotIn:=by decide):behindInMarks op b=false:=by
 have e1:(op==CmpOp.In)=false:=by cases op<;>first | rfl | exact absurd rfl h
 have e2:(op==CmpOp.NotIn)=false:=by cases op<;>first | rfl | exact absurd rfl h2
 cases b<;>simp[behindInMarks,e1,e2]
def Ca{op:CmpOp}{r:R2}(ho:j5 X (compareOp op) r)(ha:PE X a ta)(hb:PE X b tb)(hm:behindInMarks op b=false):PE X (.Compare a [op] [b] pos) (zW r ta tb):=by
 intro pins s σ H Q I h;exact wpAny_Compare1 (Fi ha hb I h λv u s2 x y H2 I2 rx ry q=>ho pins s2 σ H2 x y v u Q I2 rx ry q) hm
def sN(t:TE):TT:=λσ H Q=>t σ H λx H'=>∃k,x=.bl k/\Q k H'
def CQ{op:CmpOp}{r:R2}(ho:j5 X (compareOp op) r)(ha:PE X a ta)(hb:PE X b tb)(hm:behindInMarks op b=false):PT X (.Compare a [op] [b] pos) (sN (zW r ta tb)):=by
 intro pins s σ H Q I h;refine wpAny_isTrue_Compare1 (dW (ha pins s σ H _ I h) λv s1 ⟨x,H1,I1,r1,q1⟩=>dW (hb pins s1 σ H1 _ I1 q1) λu s2 ⟨y,H2,I2,r2,q2⟩=>
  dW (ho pins s2 σ H2 x y v u _ I2 r1 r2 q2) λc s3 ⟨z,H3,I3,r3,k,e,q3⟩=>?_) hm
 subst e;cases r3;exact Oi ⟨H3,I3,q3⟩
def E3(r r':R2)(ta tb tc:TE):TE:=λσ H Q=>ta σ H λx H1=>tb σ H1 λy H2=>r x y H2 λz H3=>∃k,z=.bl k ∧
 (if k=true then tc σ H3 λw' H4=>r' y w' H4 Q else Q (.bl false) H3)
def Fj(K:P5)(x:V)(H:Hp)(k:Bool):Prop:=
 match x with
 | .non=>k=false
 | .bl b=>k=b
 | .int i=>k=(i != 0)
 | .str y=>y.length<=sizeLine/\k=((y.length:Int) != 0)
 | .byt y=>y.size<=sizeLine/\k=((y.size:Int) != 0)
 | .ref p=>(∃xs,ce K H p xs/\k=!xs.isEmpty)\/(∃xs,dA K H p xs/\k=!xs.isEmpty)\/∃kvs,H p=some (.dK kvs)/\k=!kvs.isEmpty
 | _=>False
def vO{κ:Type}{kvs:List (κ×V)}{vs:List (κ×Value)}(r:KV kvs vs):(!vs.isEmpty)=!kvs.isEmpty:=by
 cases r<;>rfl
def pC{xs:List V}{its:List Value}(r:bj xs its):(!its.toArray.isEmpty)=!xs.isEmpty:=by
 cases r<;>simp
def nM:(sizeLine:Nat)<2 ^ 63:=by rw[Os];decide
def ES:Ij X (λx H Q=>∃k,Fj X.K x H k/\Q k H):=by
 intro pins s σ H x v Q I rx h;obtain⟨k,e,q⟩:=h;have hl:=nM;have hs:sizeLine=16777216:=Os;cases x with
 | non=>
  cases rx;have e':k=false:=e;subst e';exact truthy_none ⟨H,I,q⟩
 | bl b=>
  cases rx;have e':k=b:=e;subst e';exact Oi ⟨H,I,q⟩
 | int i=>
  obtain⟨t,rfl⟩:=rx;have e':k=(i != 0):=e;subst e';exact PySem.P.truthy_int ⟨H,I,q⟩
 | str y=>
  obtain⟨t,rfl⟩:=rx;obtain⟨hy,e'⟩:y.length<=sizeLine/\k=((y.length:Int) != 0):=e;subst e';exact PySem.P.truthy_str (by lia) ⟨H,I.tok _,q⟩
 | byt y=>
  obtain⟨t,rfl⟩:=rx;obtain⟨hy,e'⟩:y.size<=sizeLine/\k=((y.size:Int) != 0):=e;subst e';exact PySem.W.truthy_bytes (by lia) ⟨H,I.tok _,q⟩
 | ref p=>
  cases rx;have e':(∃xs,ce X.K H p xs/\k=!xs.isEmpty)\/(∃xs,dA X.K H p xs/\k=!xs.isEmpty)\/∃kvs,H p=some (.dK kvs)/\k=!kvs.isEmpty:=e;rcases e' with ⟨xs,hx,e'⟩ | ⟨xs,hx,e'⟩ | ⟨kvs,hx,e'⟩
  ·subst e';obtain⟨its,r,pl,hz⟩:=I.list hx;have hlen:=r.length;exact wpAny_truthy_list pl.isList (by simp only[aO];lia) ⟨H,I.tok _,by rw[pC r];exact q⟩
  ·subst e';obtain⟨its,r,pl,hz⟩:=I.tuple hx;have hlen:=r.length;exact truthy_tuple pl (by simp only[aO];lia) ⟨H,I.tok _,by rw[pC r];exact q⟩
  ·subst e';obtain⟨hz,hS,vs,r,m⟩:kvs.length<=sizeLine/\(p==sysModules)=false/\∃vs,KV kvs vs/\s.heap.DictOf (eI X.prog X.w) p vs:=I.hok p _ hx;have hlen:kvs.length=vs.length:=dB r;exact wpAny_truthy_dict hS m (by lia) ⟨H,I.tok _,by rw[vO r];exact q⟩
 | _=>exact(show False from e).elim
def AK(ha:PE X a ta)(he:∀whole,isTrue a X.env whole=(do let v <-whole;standAt a.pos;holding [v] (truthy v))):
  PT X a (λσ H Q=>ta σ H λx H'=>∃k,Fj X.K x H' k/\Q k H'):=by
 intro pins s σ H Q I h;exact isTrue_plain (dW (ha pins s σ H _ I h) λv s1 ⟨x,H1,I1,r1,q1⟩=>ES pins s1 σ H1 x v Q I1 r1 q1) (he _)
def k6:j5 X (binaryOp .Add) (λx y H Q=>∃i j,x=.str i/\y=.str j/\i.length+j.length<=sizeLine/\Q (.str (i++j)) H):=by
 intro pins s σ H x y v u Q I rx ry h;obtain⟨i,j,rfl,rfl,hz,q⟩:=h;obtain⟨t,rfl⟩:=rx;obtain⟨t',rfl⟩:=ry;exact add_str (λt' tk=>⟨.str (i++j),H,I.tok _,⟨_,rfl⟩,q⟩) hz
def vals1{x:V}{us:List Value}(r:bj [x] us):∃u,us=[u]/\RelV x u:=by
 cases r with
 | cons r1 r2=>cases r2;exact⟨_,rfl,r1⟩
def vals2{x y:V}{us:List Value}(r:bj [x,y] us):∃u w',us=[u,w']/\RelV x u/\RelV y w':=by
 cases r with
 | cons r1 r2=>
  cases r2 with
  | cons r3 r4=>cases r4;exact⟨_,_,rfl,r1,r3⟩
def uF:eA X (.builtin "abs") (λxs H Q=>∃i,xs=[.int i]/\Q (.int (if i<0 then -i else i)) H):=by
 intro pins s σ H xs us Q I r h;obtain⟨i,rfl,q⟩:=h;obtain⟨u,rfl,t,rfl⟩:=vals1 r;exact call_abs_int λu tk=>⟨.int (if i<0 then -i else i),H,I.tok _,⟨_,rfl⟩,q⟩
def qd (hc:X.calm=true):eA X (.builtin "max") (λxs H Q=>∃i j,xs=[.int i,.int j]/\Q (.int (if j > i then j else i)) H):=by
 intro pins s σ H xs us Q I r h;obtain⟨i,j,rfl,q⟩:=h;obtain⟨u,w',rfl,⟨t,rfl⟩,⟨t',rfl⟩⟩:=vals2 r;refine max_two_ints (I.ok.hd hc) λh' tk k=>⟨_,H,I.kept k,?_,q⟩
 by_cases hj:j > i
 ·rw[PX hj,PX hj];exact⟨_,rfl⟩
 ·rw[PV hj,PV hj];exact⟨_,rfl⟩
def qb (hc:X.calm=true):eA X (.builtin "min") (λxs H Q=>∃i j,xs=[.int i,.int j]/\Q (.int (if j<i then j else i)) H):=by
 intro pins s σ H xs us Q I r h;obtain⟨i,j,rfl,q⟩:=h;obtain⟨u,w',rfl,⟨t,rfl⟩,⟨t',rfl⟩⟩:=vals2 r;refine min_two_ints (I.ok.hd hc) λh' tk k=>⟨_,H,I.kept k,?_,q⟩
 by_cases hj:j<i
 ·rw[PX hj,PX hj];exact⟨_,rfl⟩
 ·rw[PV hj,PV hj];exact⟨_,rfl⟩
def gU:eA X (.type "int") (λxs H Q=>(∃i,xs=[.int i]/\Q (.int i) H)\/∃k,xs=[.bl k]/\Q (.int (if k then 1 else 0)) H):=by
 intro pins s σ H xs us Q I r h;rcases h with ⟨i,rfl,q⟩ | ⟨k,rfl,q⟩
 ·obtain⟨u,rfl,t,rfl⟩:=vals1 r;exact call_int_int ⟨.int i,H,I,⟨_,rfl⟩,q⟩
 ·obtain⟨u,rfl,r1⟩:=vals1 r;cases r1;exact call_int_bool ⟨.int (if k then 1 else 0),H,I.tok _,⟨_,rfl⟩,q⟩
end
structure Fp (h:Heap) (x dx C:Addr) (mA:Str->Option Value):Prop where
 obj:h.get? x=some (PySem.W.instObj C dx)
 ns:h.Ns1 dx mA
 ne:dx≠x
def nL{h:Heap}{dx:Addr}{mA:Str->Option Value}(n:h.Ns1 dx mA):∃od,h.get? dx=some od/\∀name,PySem.W.lookIn name od=some (mA name):=by
 obtain⟨o,es,ep,ho,hd,hk,_,hm⟩:=n;refine⟨o,ho,λname=>?_⟩;have e:=hm name;unfold nsFind findBy at e;rw[<-Array.find?_toList] at e;unfold PySem.W.lookIn;rw[hd];dsimp only
 split
 ·rename_i y q;rw[q] at e;exact congrArg some e
 ·rename_i q;rw[q] at e;have a:es.toList.any (·.refKey)=false:=by
   rw[dz];intro y hy;obtain⟨z,t,hkey⟩:=hk y (Array.mem_toList_iff.mp hy);simp[DictEntry.refKey,hkey]
  have a':¬es.toList.any (·.refKey)=true:=by rw[a];exact a8
  rw[PV a'];exact congrArg some e
def Fp.look{h:Heap}{x dx C:Addr}{mA:Str->Option Value}(I:Fp h x dx C mA):∃od,PySem.W.InstAt h x (PySem.W.instObj C dx) C (some od)/\∀name,PySem.W.lookIn name od=some (mA name):=
 let ⟨od,ho,hl⟩:=nL I.ns
 ⟨od,⟨I.obj,rfl,rfl,ho⟩,hl⟩
def ny.some_of{v:V}{o:Option Value}(r:ny (some v) o):∃u,o=some u/\RelV v u:=by
 cases o with
 | none=>exact(show False from r).elim
 | some u=>exact⟨u,rfl,r⟩
def yL{v:V}{u:Value}(r:RelV v u):PySem.W.handedIn u=true:=by
 cases v with
 | non=>cases (show u=Value.none from r);rfl
 | bl b=>cases (show u=Value.bool b from r);rfl
 | int i=>obtain⟨t,e⟩:=(show ∃t,u=Value.int i t from r);cases e;rfl
 | str x=>obtain⟨t,e⟩:=(show ∃t,u=Value.str x t from r);cases e;rfl
 | byt b=>obtain⟨t,e⟩:=(show ∃t,u=Value.bytes b t from r);cases e;rfl
 | flt b=>obtain⟨t,e⟩:=(show ∃t,u=Value.float b t from r);cases e;rfl
 | ref a=>cases (show u=Value.ref a from r);rfl
 | ty n=>cases (show u=Value.type n from r);rfl
section
variable {P:Program} {w:World} {H:Hp} {h:Heap} {a C dx:Addr} {fs:List (Str×V)}
def Cw(hok:lj P w H h)(e:H a=some (.ins C dx fs)):∃mA,Fp h a dx C mA/\(∀f,ny (fs.lookup f) (mA f))/\PySem.Within mA (fs.map (·.1))/\fs.length<=1000/\H dx=some (.own a):=by
 obtain⟨d,z,ne,ob,mA,n,r,q⟩:=(show cw P w H h a (.ins C dx fs) from hok a _ e)
 exact⟨mA,⟨ob,n,ne⟩,r,q,z,d⟩
end
structure Iq (K:P5) (C:Addr):Prop where
 pg:PySem.W.plainGet K C Str.empty=true
 hd:PySem.W.hasDictIn K C=true
 po:PySem.W.plainOver K C=true
 sa:PySem.W.findIn K (.ref C) "__setattr__"=some (some (.builtin "object.__setattr__"))
def Iq.get{K:P5}{C:Addr}(c:Iq K C)(f:Str):PySem.W.plainGet K C f=true:=c.pg
section
variable {s:Shared} {f:Str} {A:Around} {E:Value->Shared->Prop}
def DM{prog:Program}{w:World}{env:Env}{e:Expr}{f:Str}{pos:Pos}{s:Shared}{Q:Value->Shared->Prop}(hb:attributeBase e f env (eval e env)=eval e env)
  (h:wpAny (model prog w) A (eval e env) (λo s₁=>wpAny (model prog w) A (getAttr o f true) Q E s₁) E s):wpAny (model prog w) A (eval (.Attribute e f pos) env) Q E s:=
 Attribute_any_ h (by rw[arm_eval_Attribute,hb])
end
section
variable {X:Cx} {pins:List (Addr×Obj)} {σ:St} {H:Hp} {s:Shared} {A:Around} {E:Value->Shared->Prop} {Q:Value->Shared->Prop} {c:Value} {b:Bool}
inductive mR (K : P5) (H : Hp) : V → Value → Prop where
 | non : mR K H .non (.type "NoneType")
 | bl (x : Bool) : mR K H (.bl x) (.type "bool")
 | int (i : Int) : mR K H (.int i) (.type "int")
 | str (x : Str) : mR K H (.str x) (.type "str")
 | flt (x : UInt64) : mR K H (.flt x) (.type "float")
 | lst {a : Addr} {xs : List V} (e : H a = some (.lst xs)) : mR K H (.ref a) (.type "list")
 | frz {a : Addr} {o : Obj} {xs : List V} (e : H a = some (.frz o (.lst xs))) : mR K H (.ref a) (.type "list")
 | tup {a : Addr} {xs : List V} (e : H a = some (.tup xs)) : mR K H (.ref a) (.type "tuple")
 | dK {a : Addr} {kvs : List (Key × V)} (e : H a = some (.dK kvs)) : mR K H (.ref a) (.type "dict")
 | dT {a : Addr} {kvs : List (List Key × V)} (e : H a = some (.dT kvs)) : mR K H (.ref a) (.type "dict")
 | ins {a C dx : Addr} {fs : List (Str × V)} (e : H a = some (.ins C dx fs)) (cl : Iq K C) (ha : PySem.W.findIn K (.ref C) "__class__" = some (some (.builtin "object.__class__")))
   (hn : PySem.W.specialIn K (.builtin "object.__class__") "__get__" = some (some (.builtin "getset_descriptor.__get__"))) (htk : PySem.W.takesIn K (.builtin "object.__class__") = some true)
   (hm : PySem.W.mroIn K C (.type "object") = some true) : mR K H (.ref a) (.ref C)
def yB{x:V}{u t:Value}(I:bT X pins σ H s)(rx:RelV x u)(ty:mR X.K H x t)(e:PySem.W.kitOne X.K t c=some b)(h:∀tk,Q (.bool b) { s with toks:=tk }):
  wpAny (model X.prog X.w) A (call (.builtin "isinstance") [u,c]) Q E s:=by
 cases ty with
 | non=>cases (show u=Value.none from rx);exact cJ PySem.W.kitx_none I.kIn True.intro e (λz=>nomatch z) h
 | bl y=>cases (show u=Value.bool y from rx);exact cJ PySem.W.kitx_bool I.kIn True.intro e (λz=>nomatch z) h
 | int i=>obtain⟨t,q⟩:=(show ∃t,u=Value.int i t from rx);cases q;exact cJ PySem.W.kitx_int I.kIn True.intro e (λz=>nomatch z) h
 | str y=>obtain⟨t,q⟩:=(show ∃t,u=Value.str y t from rx);cases q;exact cJ PySem.W.kitx_str I.kIn True.intro e (λz=>nomatch z) h
 | flt y=>obtain⟨t,q⟩:=(show ∃t,u=Value.float y t from rx);cases q;exact cJ PySem.W.kitx_float I.kIn True.intro e (λz=>nomatch z) h
 | @lst a xs ea=>
  cases (show u=Value.ref a from rx);obtain⟨_,_,n,_,h1⟩:=(show cw X.prog X.w H s.heap a (.lst xs) from I.hok a _ ea)
  exact cJ PySem.W.kitx_list I.kIn ⟨_,h1,rfl⟩ e (λz=>nomatch z) h
 | @frz a ob xs ea=>
  cases (show u=Value.ref a from rx);obtain⟨_,_,_,n,_,h1⟩:=(show cw X.prog X.w H s.heap a (.frz ob (.lst xs)) from I.hok a _ ea)
  exact cJ PySem.W.kitx_list I.kIn ⟨_,h1,rfl⟩ e (λz=>nomatch z) h
 | @tup a xs ea=>
  cases (show u=Value.ref a from rx);obtain⟨_,_,_,p⟩:=(show cw X.prog X.w H s.heap a (.tup xs) from I.hok a _ ea)
  obtain⟨o,h1,h2,_⟩:=p;exact cJ PySem.W.kitx_tuple I.kIn ⟨o,h1,h2⟩ e (λz=>nomatch z) h
 | @dK a kvs ea=>
  cases (show u=Value.ref a from rx);obtain⟨_,_,vs,_,p⟩:=(show cw X.prog X.w H s.heap a (.dK kvs) from I.hok a _ ea)
  obtain⟨o,es,ep,h1,h2,_⟩:=p;exact cJ PySem.W.kitx_dict I.kIn ⟨o,h1,h2.1⟩ e (λz=>nomatch z) h
 | @dT a kvs ea=>
  cases (show u=Value.ref a from rx);obtain⟨_,_,xs,_,o,es,ep,h1,h2,_⟩:=(show cw X.prog X.w H s.heap a (.dT kvs) from I.hok a _ ea)
  exact cJ PySem.W.kitx_dict I.kIn ⟨o,h1,h2.1⟩ e (λz=>nomatch z) h
 | @ins a C dx fs ea cl ha hn htk hm=>
  cases (show u=Value.ref a from rx);obtain⟨mA,O,_⟩:=Cw I.hok ea;obtain⟨od,J,_⟩:=O.look;exact cJ (PySem.W.kitx_own (cl.get _) cl.hd ha hn htk hm) I.kIn J e (λz=>nomatch z) h
end
structure fg (k:Nat) (A:Around):Prop where
 hd:A.handled=none
 dp:A.depth+3 * k+5<recursionLimit
 un:A.units+16 * k+200<cLine
 gd:A.guards=some []
def fg.mono{j k:Nat}{A:Around}(r:fg k A)(h:j<=k):fg j A:=⟨r.hd,by have:=r.dp;lia,by have:=r.un;lia,r.gd⟩
def fg.deeper{k:Nat}{A:Around}(r:fg (k+1) A)(env:Env):fg k (A.deeper env):=
 ⟨r.hd,by have:=r.dp;show A.depth+1+3*k+5<_;lia,by have:=r.un;show A.units+3+16*k+200<_;lia,r.gd⟩
def vJ {A:Around} {C:Addr} {us:List Value} {kw:List (Str×Value)}:(A.under (.builtin "type.__call__" ⟨.ref C::us,kw⟩)).depth=A.depth+1:=by
 first | rfl | simp[Around.under,Code.weight,Code.isCreation,Code.isGuard,Code.isCaller,Code.frames,Code.isFrame,guardIds]
def vI {A:Around} {C:Addr} {us:List Value} {kw:List (Str×Value)}:(A.under (.builtin "type.__call__" ⟨.ref C::us,kw⟩)).units=A.units+1:=by
 first | rfl | simp[Around.under,Code.cUnits,Code.frames,Code.isFrame]
def tS {A:Around} {C:Addr} {us:List Value} {kw:List (Str×Value)}:(A.under (.builtin "type.__call__" ⟨.ref C::us,kw⟩)).guards=A.guards:=by
 first | rfl | simp[Around.under,Code.guards,Code.isGuard,guardIds,pushGuards]
def fg.make {k:Nat} {A:Around} (r:fg (k+1) A) (C:Addr) (us:List Value) (kw:List (Str×Value)):fg k (A.under (.builtin "type.__call__" ⟨.ref C::us,kw⟩)):=
 ⟨r.hd,by have:=r.dp;rw[vJ];lia,by have:=r.un;rw[vI];lia,by rw[tS];exact r.gd⟩
def fg.depth{k:Nat}{A:Around}(r:fg k A):A.depth<recursionLimit:=by have:=r.dp;lia
def fg.units{k:Nat}{A:Around}(r:fg k A):A.units+64<cLine:=by have:=r.un;lia
def zY:TA:=λ_ H Q=>Q [] H
def eE(ta:TE)(tr:TA):TA:=λσ H Q=>ta σ H λx H1=>tr σ H1 λxs H2=>Q (x::xs) H2
section
variable {X:Cx} {e:Expr} {es:List Expr} {te:TE} {t:TA} {pos:Pos}
def FP:PA X [] zY:=λ_ _ _ _ H Q I h=>gm ⟨[],H,I,.nil,h⟩
def gA(ha:PE X e te)(hr:PA X es t)(hs:starEach (e::es) X.env=(false,eval e X.env)::starEach es X.env:=by rfl):PA X (e::es) (eE te t):=by
 intro pos pins s σ H Q I h;rw[hs];show wpAny _ _ (spliced ((false,eval e X.env)::backTo pos (starEach es X.env))) _ _ s;refine eu (dW (ha pins s σ H _ I h) λu s1 ⟨x,H1,I1,r1,q1⟩=>?_);exact dW (hr pos pins s1 σ H1 _ I1 q1) λus s2 ⟨xs,H2,I2,r2,q2⟩=>⟨x::xs,H2,I2,.cons r1 r2,q2⟩
def EU(t:TA):TE:=λσ H Q=>t σ H λxs H1=>xs.length<=sizeLine/\∀p,H1 p=none->Q (.ref p) (bW H1 p (.tup xs))
def Bu(t:TA):TE:=λσ H Q=>t σ H λxs H1=>xs.length<=sizeLine/\∀p,H1 p=none->Q (.ref p) (bW H1 p (.lst xs))
def FF{x1}(h:PA X es t):PE X (.Tuple es x1 pos) (EU t):=by
 intro pins s σ H Q I hq;refine wpAny_Tuple_spliced (dW (h pos pins s σ H _ I hq) λus s1 ⟨xs,H1,I1,r,z,q⟩=>⟨by rw[<-r.length];exact z,?_⟩);have hf:H1 s1.heap.objs.size=none:=I1.hok.fresh (aH _);refine⟨.ref s1.heap.objs.size,bW H1 s1.heap.objs.size (.tup xs),I1.laid (t':=s1.toks) (λb u e=>aB _ e) (aH _) ?_,rfl,q _ hf⟩;exact⟨z,us,r,⟨_,aK _ rfl,rfl,_,rfl⟩⟩
def FK(h:PA X es t):PE X (.List es pos) (Bu t):=by
 intro pins s σ H Q I hq;refine wpAny_List_spliced (dW (h pos pins s σ H _ I hq) λus s1 ⟨xs,H1,I1,r,z,q⟩=>⟨by rw[<-r.length];exact z,?_⟩);have hf:H1 s1.heap.objs.size=none:=I1.hok.fresh (aH _);refine⟨.ref s1.heap.objs.size,bW H1 s1.heap.objs.size (.lst xs),I1.laid (t':=s1.toks) (λb u e=>aB _ e) (aH _) ?_,rfl,q _ hf⟩;exact⟨z,us,0,r,aK _ rfl⟩
end
abbrev Sp:=List V->Hp->VK->XK->Prop
abbrev yi:=List Env->Hp->Shared->XK->Value->Shared->Prop
structure sF (P:Program) (w:World) (K:P5) (mg:Str->Option Value) (base:Heap) (A:Around) (outer:List Env) (s:Shared) (H:Hp):Prop where
 frames:A.frames=some outer
 mod:Mod K mg base
 bs:∀ b o,base.get? b=some o->s.heap.get? b=some o/\H b=none
 bsz:base.objs.size<=s.heap.objs.size
 funs:s.heap.FunFrames base outer
 frf:∀ b∈j3 outer,H b=none
 hok:lj P w H s.heap
 bare:AllBare s.gens
def CE(outer:List Env)(P:Program)(w:World)(H:Hp)(s:Shared)(Q:VK)(u:Value)(s':Shared):Prop:=
 ∃v H',s'.os=s.os/\AllBare s'.gens/\Un (j3 outer) [] H H' s.heap s'.heap/\lj P w H' s'.heap/\RelV v u/\Q v H'
def CR(CX:yi)(outer:List Env)(P:Program)(w:World)(H:Hp)(s:Shared)(Q:VK)(E:XK)(r:Result)(s':Shared):Prop:=
 match r with
 | .ok (.ret u)=>CE outer P w H s Q u s'
 | .ok _=>False
 | .error e=>CX outer H s E e s'
structure lU (P:Program) (w:World) (K:P5) (mg:Str->Option Value) (base:Heap) (CX:yi) (k:Nat) (f:Addr) (fd:FuncData) (ps:List Str) (sp:Sp):Prop where
 len:∀ vs H Q E,sp vs H Q E->vs.length=ps.length
 run:∀ (A:Around) (outer:List Env) (s:Shared) (H:Hp) (args:Args) (us:List Value) (vs:List V) (Q:VK) (E:XK),fg k A->sF P w K mg base A outer s H->BindsTo s fd args (ps.zip us)->bj vs us->sp vs H Q E →
  codeAny (model P w) A (.call (.ref f) args) (CR CX outer P w H s Q E) s
def sF.make{P:Program}{w:World}{K:P5}{mg:Str->Option Value}{base:Heap}{A:Around}{outer:List Env}{s:Shared}{H:Hp}(e:sF P w K mg base A outer s H)(C:Addr)(us:List Value)(kw:List (Str×Value)):
  sF P w K mg base (A.under (.builtin "type.__call__" ⟨.ref C::us,kw⟩)) outer s H:=⟨by first | exact e.frames | (simpa [Around.under,Code.envs,Code.isFrame,pushEnvs] using e.frames),e.mod,e.bs,e.bsz,e.funs,e.frf,e.hok,e.bare⟩
section
variable {X:Cx} {pins:List (Addr×Obj)} {σ:St} {H:Hp} {s s':Shared}
def bT.env0(I:bT X pins σ H s):sF X.prog X.w X.K X.mg X.base X.A X.stack s H:=
 ⟨I.ok.frames,I.ok.mod,I.bs,cP I.ok.bsz I.sz,I.stack,I.stkFree,I.hok,I.bare⟩
def bT.after{Q:VK}{u:Value}(I:bT X pins σ H s)(h:CE X.stack X.prog X.w H s Q u s'):EP X pins σ Q u s':=by
 obtain⟨v,H',os,bare,un,hok,r,q⟩:=h;obtain⟨hh,g,d,t,os'⟩:=s';obtain rfl:os'=s.os:=os;exact⟨v,H',I.call (h':=hh) (g':=g) (d':=d) (t':=t) (ch:=[]) un hok bare (λb z=>absurd z (by simp)),r,q⟩
end
def nW(sp:Sp)(dvs:List V)(E:XK)(t:TA):TE:=λσ H Q=>t σ H λvs H1=>sp (vs++dvs) H1 Q E
def Binds(K:P5)(fd:FuncData)(ps:List Str)(ds:List Value):Prop:=
 ∀(s:Shared) (us:List Value),K.In s.heap->(us++ds).length=ps.length->BindsTo s fd ⟨us,[]⟩ (ps.zip (us++ds))
def Binds.all{K:P5}{fd:FuncData}{ps:List Str}(h:∀us:List Value,us.length=ps.length->bindArgs fd ⟨us,[]⟩=pure (ps.zip us)):Binds K fd ps []:=λs us _ hl=>by
 rw[cK] at hl ⊢;exact .of_eq (h us hl)
def sB(CX:yi)(X:Cx)(E:XK):Prop:=∀(pins:List (Addr×Obj)) (σ:St) (H:Hp) (s:Shared) (e:Value) (s':Shared),bT X pins σ H s->CX X.stack H s E e s'->X.xe e s'
section
variable {X:Cx} {CX:yi} {k:Nat} {f:Addr} {fd:FuncData} {ps:List Str} {sp:Sp} {dvs:List V} {ds:List Value} {E:XK} {x:Str} {p pos:Pos} {e:Expr} {es:List Expr} {t:TA}
def Ec{pins:List (Addr×Obj)}{σ:St}{H:Hp}{s:Shared}{Q:VK}{us:List Value}{vs:List V}(F:lU X.prog X.w X.K X.mg X.base CX k f fd ps sp)(hr:fg k X.A)(hb:Binds X.K fd ps ds)(hd:bj dvs ds)(hx:sB CX X E)
  (I:bT X pins σ H s) (r:bj vs us) (h:sp (vs++dvs) H Q E):wpAny (model X.prog X.w) X.A (call (.ref f) us) (EP X pins σ Q) X.xe s:=by
 have r2:bj (vs++dvs) (us++ds):=r.append hd;have hl:(us++ds).length=ps.length:=by rw[<-r2.length];exact F.len _ _ _ _ h
 refine Ot (Ou (F.run X.A X.stack s H ⟨us,[]⟩ (us++ds) (vs++dvs) Q E hr I.env0 (hb s us I.kIn hl) r2 h) λr s' hq=>?_);cases r with
 | error e=>exact hx pins σ H s e s' I hq
 | ok fl=>
  cases fl with
  | ret u=>exact I.after hq
  | next=>exact False.elim hq
  | brk=>exact False.elim hq
  | cont=>exact False.elim hq
def w4(F:lU X.prog X.w X.K X.mg X.base CX k f fd ps sp)(hr:fg k X.A)(hg:Gl X x)(hm:X.mg x=some (.ref f))(hk:PySem.W.keepIn X.K (.ref f)=true)(hb:Binds X.K fd ps ds)(hd:bj dvs ds)(hx:sB CX X E)
  (ha:PA X (e::es) t) (hdb:(x==("__debug__":Str))=false:=by decide) (he:starEach (e::es) X.env=(false,eval e X.env)::starEach es X.env:=by rfl) (hpl:(backTo pos (starEach es X.env)).any (·.1)=false:=by rfl) :
  PE X (.Call (.Name x p) (e::es) [] pos) (nW sp dvs E t):=by
 intro pins s σ H Q I h;refine Ov (ij I hg hm ?_ hdb);refine gL (h₀:=X.base) I.ok.mod.kin hk (dW (ha pos pins s σ H _ I h) λus s1 ⟨vs,H1,I1,r,q⟩=>⟨I1.kIn,?_⟩) he hpl;exact Ec F hr hb hd hx I1 r q
end
structure bn (N P:List Str) (sc:Scope):Prop where
 kind:sc.kind=.function
 co:sc.isCoroutine=false
 gen:sc.isGenerator=false
 nd:N.Nodup
 pre:N.take P.length=P
 par:∀ x∈P,sc.names.lookup x=some .local\/sc.names.lookup x=some .cell
 nofree:∀ y∈sc.names,y.2≠.free
def qi{kindOf:Str->Option NameKind}{x:Str}:∀{binds:List (Str×Value)} {m:Str->Option Value},(∀v,(x,v)∉binds)->bindL kindOf binds m x=m x
 | [],_,_=>rfl
 | (n,v)::r,m,h=>by
  unfold bindL;rw[qi λw hw=>h w (aN _ hw)]
  split
  ·have:x≠n:=by rintro rfl;exact h v ah
   simp[this]
  ·rfl
def qk{kindOf:Str->Option NameKind}{x:Str}:∀{binds:List (Str×Value)} {m:Str->Option Value},(∀v,(x,v)∉binds)->bindC kindOf binds m x=m x
 | [],_,_=>rfl
 | (n,v)::r,m,h=>by
  unfold bindC;rw[qk λw hw=>h w (aN _ hw)]
  split
  ·rfl
  ·have:x≠n:=by rintro rfl;exact h v ah
   simp[this]
def qj{kindOf:Str->Option NameKind}{x:Str}{v:Value}:∀{P:List Str} {vs:List Value} {i:Nat} {m:Str->Option Value},P.Nodup->P[i]? = some x->vs[i]? = some v->kindOf x=some .local →
  bindL kindOf (P.zip vs) m x=some v
 | [],_,_,_,_,h,_,_=>by simp at h
 | _::_,[],_,_,_,_,h,_=>by simp at h
 | p::P,w::vs,0,m,nd,h1,h2,hk=>by
  simp at h1 h2;subst h1;subst h2;show bindL kindOf ((p,w)::P.zip vs) m p=_;unfold bindL;rw[qi λv hv=>(dI.mp nd).1 (i0 hv).1,PX hk];simp
 | p::P,w::vs,i+1,m,nd,h1,h2,hk=>by
  show bindL kindOf ((p,w)::P.zip vs) m x=_;unfold bindL;exact qj (i:=i) (dI.mp nd).2 (by simpa using h1) (by simpa using h2) hk
def qm{kindOf:Str->Option NameKind}{x:Str}{v:Value}:∀{P:List Str} {vs:List Value} {i:Nat} {m:Str->Option Value},P.Nodup->P[i]? = some x->vs[i]? = some v->kindOf x≠some .local →
  bindC kindOf (P.zip vs) m x=some v
 | [],_,_,_,_,h,_,_=>by simp at h
 | _::_,[],_,_,_,_,h,_=>by simp at h
 | p::P,w::vs,0,m,nd,h1,h2,hk=>by
  simp at h1 h2;subst h1;subst h2;show bindC kindOf ((p,w)::P.zip vs) m p=_;unfold bindC;rw[qk λv hv=>(dI.mp nd).1 (i0 hv).1,PV hk];simp
 | p::P,w::vs,i+1,m,nd,h1,h2,hk=>by
  show bindC kindOf ((p,w)::P.zip vs) m x=_;unfold bindC;exact qm (i:=i) (dI.mp nd).2 (by simpa using h1) (by simpa using h2) hk
def start(N:List Str)(vs:List V):St:=vs.map some++List.replicate (N.length-vs.length) none
def iY(CX:yi)(P:Program)(w:World)(K:P5)(mg:Str->Option Value)(base:Heap)(N:List Str)(qual:Str)(scope:Scope)(f:Addr)(cd:Value)(A:Around)(outer:List Env)(s:Shared)(H:Hp)(E:XK):Cx where
 prog:=P
 w:=w
 K:=K
 mg:=mg
 base:=base
 A:=A.deeper (envOfC qual scope s.heap.objs.size f cd)
 N:=N
 s₀:=s
 H₀:=H
 env:=envOfC qual scope s.heap.objs.size f cd
 outer:=outer
 stack:=envOfC qual scope s.heap.objs.size f cd::outer
 ex:=[]
 calm:=true
 fn:=λ_=>true
 pn:=[]
 xe:=λe s'=>wpAny (model P w) (A.deeper (envOfC qual scope s.heap.objs.size f cd)) (leaving (envOfC qual scope s.heap.objs.size f cd) e) (λ_ s''=>CX outer H s E e s'') (λe' s''=>CX outer H s E e' s'') s'
def uC{sc:Scope}{n:Nat}{x:Str}(h:sc.names.lookup x=some .cell):∃c,(cellsFrom n sc.names []).lookup x=some c:=by
 have q:=g9 sc.names n [] (.inl h);exact jo.mp q
def qW{CX:yi}{P:Program}{w:World}{K:P5}{mg:Str->Option Value}{base:Heap}{N ps:List Str}{qual:Str}{scope:Scope}{f:Addr}{cd:Value}{A:Around}{outer:List Env}{s s1:Shared}{H:Hp}{E:XK}{us:List Value}{vs:List V}
  (S:bn N ps scope) (hd:A.handled=none) (e0:sF P w K mg base A outer s H) (hl:vs.length=ps.length) (r:bj vs us)
  (x:InCallC s s.heap.objs.size (bindL (envOfC qual scope s.heap.objs.size f cd).kindOf (ps.zip us) λ_=>none) (cellsFrom (s.heap.objs.size+1) scope.names []) (bindC (envOfC qual scope s.heap.objs.size f cd).kindOf (ps.zip us) λ_=>none) s1) :
  bT (iY CX P w K mg base N qual scope f cd A outer s H E) [] (start N vs) H s1:=by
 have hpl:ps.length<=N.length:=by have:=congrArg List.length S.pre;rw[dN] at this;lia
 obtain⟨h1,tk,rfl,hk⟩:=x.done;have noA:∀b:Addr,b∉(iY CX P w K mg base N qual scope f cd A outer s H E).ex:=λb z=>absurd (show b∈([]:List Addr) from z) (by simp);refine⟨⟨e0.mod,S.kind,rfl,rfl,aH _,λy z c h1 h2=>?_,λy hy=>?_,λy c _ h=>?_,λ_=>hd,Around.frames_deeper e0.frames,.inr ⟨rfl,rfl⟩,λb z=>absurd z (noA b),e0.bs,e0.bsz,λb _ _=>noA b,λb z=>absurd z (noA b),e0.funs,e0.frf⟩,
  rfl,e0.bare,Un.kept hk,⟨_,x.toInCall.ns,λi y v h1 h2 h3=>?_⟩,λy c h=>⟨_,x.cell y c h⟩,e0.hok.fresh (aH _),λy c h=>?_,λp hp=>absurd (show p∈([]:List (Addr×Obj)) from hp) (by simp),e0.hok.kept hk,?_⟩
 ·exact name_of_addr x.apart (cZ h1) (cZ h2)
 ·have hy:scope.names.lookup y=some .cell\/scope.names.lookup y=some .free:=hy;rcases hy with hy | hy
  ·exact uC hy
  ·exact absurd rfl (S.nofree _ (cZ hy))
 ·exact bI (x.above y c (cZ h))
 ·have hi:i<vs.length:=by
   unfold start at h2;by_cases hi:i<vs.length
   ·exact hi
   ·rw[cE (by simpa using hi)] at h2;rw[kM] at h2
    split at h2<;>cases h2
  have ha:vs[i]? = some v:=by
   unfold start at h2;rw[fm (by simpa using hi),ai] at h2;cases e:vs[i]? with
   | none=>rw[e] at h2;cases h2
   | some a=>rw[e] at h2;cases h2;rfl
  obtain⟨u,hu,rv⟩:=r.get ha;have hp:ps[i]? = some y:=by
   rw[<-S.pre,jq (by lia)];exact h1
  have ndP:ps.Nodup:=by rw[<-S.pre];exact S.nd.sublist (List.take_sublist _ _)
  refine⟨u,rv,?_⟩;rcases S.par y (bG hp) with k | k
  ·exact .inl ⟨k,qj ndP hp hu k⟩
  ·obtain⟨c,e⟩:=uC (n:=s.heap.objs.size+1) k;refine .inr ⟨.inl k,c,e,?_⟩;have q:=x.cell y c e;rw[qm ndP hp hu (by show scope.names.lookup y≠_;rw[k];decide)] at q;exact q
 ·exact e0.hok.fresh (bI (x.above y c (cZ h)))
 ·unfold start;show _=N.length;rw[bQ,aD,ky];lia
def Dl{CX:yi}{P:Program}{w:World}{K:P5}{mg:Str->Option Value}{base:Heap}{k:Nat}{f:Addr}{name qual:Str}{params:Arguments}{body:List Stmt}{scope:Scope}{dV kV doc pm cdv ct oc:Value}{an od:Option Addr}
  {osl:Array (Option Value)} {N ps:List Str} {sp:Sp} (lk:K.lookup f=some ⟨oc,od,.func (PySem.W.fnOf name qual params body scope dV kV doc pm an cdv ct),osl⟩) (hcd:PySem.W.codeIn K cdv qual=true) (S:bn N ps scope)
  (len:∀vs H Q E,sp vs H Q E->vs.length=ps.length)
  (hbody:∀(A:Around) (outer:List Env) (s:Shared) (H:Hp) (vs:List V) (Q:VK) (E:XK),fg k (A.deeper (envOfC qual scope s.heap.objs.size f cdv))->sp vs H Q E →
   ∃t,qo (iY CX P w K mg base N qual scope f cdv A outer s H E) body t/\t { nx:=λ_ H'=>Q .non H',rt:=Q } (start N vs) H) :
  lU P w K mg base CX (k+1) f (PySem.W.fnOf name qual params body scope dV kV doc pm an cdv ct) ps sp:=by
 refine⟨len,λA outer s H args us vs Q E hr e0 hb r hsp=>?_⟩;have hl:=len _ _ _ _ hsp;have KX:K.In s.heap:=e0.mod.kin.keeps λb o e=>(e0.bs b o e).1;have lim:s.heap.NoLimit:=e0.mod.nolimit.keeps λb o e=>(e0.bs b o e).1;have hkind:∀y∈ps.zip us,scope.names.lookup y.1=some .local\/(scope.names.lookup y.1=some .cell/\((cellsFrom (s.heap.objs.size+1) scope.names []).lookup y.1).isSome=true):=λ⟨n,v⟩ hy=>by
  rcases S.par n (i0 hy).1 with q | q
  ·exact .inl q
  ·exact .inr ⟨q,g9 _ _ _ (.inl q)⟩
 refine codeAny_call_function hr.depth (KX _ _ lk) rfl S.co S.gen rfl (PySem.W.codeRec_of KX hcd) (hb _ _ _ _ ?_);refine wpAny_newFunctionEnv_cells S.kind hkind λenv he s1 x=>?_;subst he;refine⟨lim.keeps x.toInCall.keep,codeAny_func ?_⟩;obtain⟨t,ht,hq⟩:=hbody A outer s H vs Q E (hr.deeper _) hsp;have I:bT (iY CX P w K mg base N qual scope f cdv A outer s H E) [] (start N vs) H s1:=qW S hr.hd e0 hl r x;refine wpAny_mono (ht [] s1 (start N vs) H _ I hq) (λfl s' hs=>?_) λe s' hs=>hs;have fin:∀{σ':St} {H':Hp} {v:V} {u:Value},bT (iY CX P w K mg base N qual scope f cdv A outer s H E) [] σ' H' s'->RelV v u->Q v H'->CE outer P w H s Q u s':=
  fun {σ' H' v u} J rv q=>⟨v,H',J.os,J.bare,J.base,J.hok,rv,q⟩
 cases fl with
 | ret u=>
  obtain⟨v,σ',H',J,rv,q⟩:=hs;exact fin J rv q
 | next=>
  obtain⟨σ',H',J,q⟩:=hs;exact fin (v:=V.non) (u:=Value.none) J rfl q
 | brk=>
  obtain⟨_,_,_,q⟩:=hs;exact False.elim q
 | cont=>
  obtain⟨_,_,_,q⟩:=hs;exact False.elim q
section
variable {X:Cx} {x:Str} {p pos:Pos} {e:Expr} {es:List Expr} {t:TA} {id T:String} {r:List V->Hp->VK->Prop}
def GA(r:List V->Hp->VK->Prop)(t:TA):TE:=λσ H Q=>t σ H λvs H1=>r vs H1 Q
def A5 (hc:eA X (.builtin id) r) (hg:Gl X x) (hm:X.mg x=none) (hv:bootBuiltins x=some (.builtin id)) (ha:PA X (e::es) t) (hn:x≠"__name__":=by decide) (hdb:(x==("__debug__":Str))=false:=by decide)
  (he:starEach (e::es) X.env=(false,eval e X.env)::starEach es X.env:=by rfl) (hpl:(backTo pos (starEach es X.env)).any (·.1)=false:=by rfl):PE X (.Call (.Name x p) (e::es) [] pos) (GA r t):=by
 intro pins s σ H Q I h;refine Ov (jh I hg hm hv ?_ hn hdb);exact iG (dW (ha pos pins s σ H _ I h) λus s1 ⟨vs,H1,I1,r1,q1⟩=>hc pins s1 σ H1 vs us Q I1 r1 q1) he hpl
def xi (hc:eA X (.type T) r) (hg:Gl X x) (hm:X.mg x=none) (hv:bootBuiltins x=some (.type T)) (ha:PA X (e::es) t) (hn:x≠"__name__":=by decide) (hdb:(x==("__debug__":Str))=false:=by decide)
  (he:starEach (e::es) X.env=(false,eval e X.env)::starEach es X.env:=by rfl) (hpl:(backTo pos (starEach es X.env)).any (·.1)=false:=by rfl):PE X (.Call (.Name x p) (e::es) [] pos) (GA r t):=by
 intro pins s σ H Q I h;refine Ov (jh I hg hm hv ?_ hn hdb);exact bc (dW (ha pos pins s σ H _ I h) λus s1 ⟨vs,H1,I1,r1,q1⟩=>hc pins s1 σ H1 vs us Q I1 r1 q1) he hpl
end
end L2
namespace HT
open PySem PyProof.Rows
section
variable {prog:Program} {w:World} {A:Around} {E:Value->Shared->Prop} {s:Shared}
def cat_tup{t b:Addr}{vs ws:List Value}{Q:Value->Shared->Prop}(ht:IsTup s.heap t vs.toArray)(hb:IsTup s.heap b ws.toArray)(hv:vs≠[])
  (h1:ws=[]->Q (.ref t) s) (h2:ws≠[]->Q (.ref s.heap.objs.size) { s with heap:=s.heap.push { cls:=.type "tuple",data:=.seq (vs++ws).toArray } })
  (hsz:vs.length+ws.length<=sizeLine):wpAny (model prog w) A (binaryOp .Add (.ref t) (.ref b)) Q E s:=by
 obtain⟨⟨cls,dd,data,sl⟩,ho,hc,n,hd⟩:=id ht;obtain⟨⟨cls2,dd2,data2,sl2⟩,ho2,hc2,n2,hd2⟩:=id hb;simp only at hc hd hc2 hd2;subst hc hd hc2 hd2;have e:vs.toArray++ws.toArray=(vs++ws).toArray:=by simp
 by_cases hw:ws=[]
 ·exact concat_meets ⟨_,ho,rfl⟩ ⟨_,ho2,rfl⟩ noFill_tuple_add seq_tuple_add gb gV (fz _ _)
   (tuple_addW1 t b vs.toArray ws.toArray n n2 dd dd2 sl sl2 (by simpa using hv) (by simp[hw])) ⟨ho,ho2,h1 hw⟩
 ·refine concat_meets ⟨_,ho,rfl⟩ ⟨_,ho2,rfl⟩ noFill_tuple_add seq_tuple_add gb gV (fz _ _)
   (tuple_addW2 t b vs.toArray ws.toArray n n2 dd dd2 sl sl2 (by simpa using hv) (by simpa using hw) (by rw[aO,aO];exact hsz)) ⟨ho,ho2,?_⟩
  rw[e];exact h2 hw
def sIx(n d:Nat):Option Int->Nat
 | none=>d
 | some v=>if v<0 then (v+(n:Int)).toNat else min v.toNat n
def sIx_none(n d:Nat):sIx n d none=d:=rfl
def sIx_nat(n d k:Nat):sIx n d (some (k:Int))=min k n:=by
 show (if (k:Int)<0 then ((k:Int)+(n:Int)).toNat else min (k:Int).toNat n)=min k n;rw[PV (by lia),gj]
def Eb(n d:Nat)(hd:d<=n)(o:Option Int):sIx n d o<=n:=by
 cases o with
 | none=>exact hd
 | some v=>
  show (if v<0 then (v+(n:Int)).toNat else min v.toNat n)<=n;by_cases hv:v<0
  ·rw[PX hv];lia
  ·rw[PV hv];exact Nat.min_le_right _ _
def xC(v:Int)(n d:Nat):(if v<0 then max (v+(n:Int)) 0 else min v (n:Int))=((sIx n d (some v):Nat):Int):=by
 show (if v<0 then max (v+(n:Int)) 0 else min v (n:Int))=(((if v<0 then (v+(n:Int)).toNat else min v.toNat n):Nat):Int)
 by_cases hv:v<0
 ·simp only[PX hv];lia
 ·simp only[PV hv];lia
def vb(lo hi:Option Int)(n:Nat):Builtin.Slice.sliceAdjust lo hi 1 (n:Int)=(((sIx n 0 lo:Nat):Int),((sIx n n hi:Nat):Int)):=by
 have h1:¬((1:Int)<0):=by lia
 unfold Builtin.Slice.sliceAdjust;simp only[h1,P4];refine Prod.ext ?_ ?_
 ·cases lo with
  | none=>rfl
  | some v=>exact xC v n 0
 ·cases hi with
  | none=>rfl
  | some v=>exact xC v n n
def um(i j:Nat):Builtin.Slice.slicePlaces (i:Int) (j:Int) 1=j-i:=by
 unfold Builtin.Slice.slicePlaces;have h1:(1:Int) > 0:=by lia
 simp only[h1,P3,Int.ediv_one]
 split<;>lia
def oU{v:Value}{o:Option Int}{Q:Option Int->Shared->Prop}(p:IsPart v o)(h:Q o s):wpAny (model prog w) A (Builtin.Slice.slicePartIndex v) Q E s:=by
 cases p with
 | none=>exact slicePart_none h
 | int i t=>exact slicePart_int h
def ju{sl:Addr}{vl vu:Value}{lo hi:Option Int}{n:Nat}{Q:Int×Int×Nat->Shared->Prop}(hs:s.heap.IsSliceOf sl vl vu .none)(pl:IsPart vl lo)(pu:IsPart vu hi)
  (h:Q (((sIx n 0 lo:Nat):Int),1,sIx n n hi-sIx n 0 lo) s):wpAny (model prog w) A (Builtin.Slice.sliceApplied (.ref sl) (pure (n:Int))) Q E s:=by
 obtain⟨os,hos,hcs,hds⟩:=id hs;unfold Builtin.Slice.sliceApplied Builtin.Slice.sliceFields;refine wpAny_bind (wpAny_bind (Ow hos hds (x:=vl) rfl (wpAny_bind (Ow hos hds (x:=vu) rfl (wpAny_bind (Ow hos hds (x:=.none) rfl (On ?_)))))));refine wpAny_bind (slicePart_none ?_);show wpAny _ _ (if ((1:Int)==0)=true then _ else _) _ _ s;rw[PV (by decide)];refine wpAny_bind (oU pl (wpAny_bind (oU pu (wpAny_bind (On ?_)))));show wpAny _ _ (match Builtin.Slice.sliceAdjust lo hi 1 (n:Int) with | (lo,hi)=>pure (lo,(1:Int),Builtin.Slice.slicePlaces lo hi 1)) _ _ s;rw[vb lo hi n];show wpAny _ _ (pure (((sIx n 0 lo:Nat):Int),(1:Int),Builtin.Slice.slicePlaces ((sIx n 0 lo:Nat):Int) ((sIx n n hi:Nat):Int) 1)) _ _ s;rw[um];exact On h
def AR(xs:Array Value)(i k:Nat):((List.range k).filterMap λ(m:Nat)=>xs[((i:Int)+(m:Int)*1).toNat]?).toArray=((xs.toList.drop i).take k).toArray:=by
 have e:(λ(m:Nat)=>xs[((i:Int)+(m:Int)*1).toNat]?)=λm=>xs[i+m]?:=by
  funext m;have:((i:Int)+(m:Int)*1).toNat=i+m:=by lia
  rw[this]
 rw[e];have:=pick_run xs i k;rw[List.filterMap_map] at this;have e2:((λx=>xs[x]?)∘λx=>i+x)=λm=>xs[i+m]?:=rfl;rw[e2] at this;rw[this]
def getItem_tuple_cut{t sl:Addr}{items:Array Value}{vl vu:Value}{lo hi:Option Int}{Q:Value->Shared->Prop}(ht:IsTup s.heap t items)(hs:s.heap.IsSliceOf sl vl vu .none)(pl:IsPart vl lo)(pu:IsPart vu hi)
  (hw:¬(sIx items.size 0 lo=0/\sIx items.size items.size hi=items.size))
  (h:Q (.ref s.heap.objs.size) { s with heap:=s.heap.push { cls:=.type "tuple",data:=.seq ((items.toList.drop (sIx items.size 0 lo)).take (sIx items.size items.size hi-sIx items.size 0 lo)).toArray } })
  (hsz:items.size<=sizeLine):wpAny (model prog w) A (getItem (.ref t) (.ref sl)) Q E s:=by
 have htake:sizeOk (.seq ((items.toList.drop (sIx items.size 0 lo)).take (sIx items.size items.size hi-sIx items.size 0 lo)).toArray):=by
  show ((items.toList.drop (sIx items.size 0 lo)).take (sIx items.size items.size hi-sIx items.size 0 lo)).toArray.size<=sizeLine;rw[aO,dN,iJ,dG];lia
 have hj:sIx items.size items.size hi<=items.size:=Eb _ _ (aH _) hi;obtain⟨os,hos,hcs,hds⟩:=id hs;have hTs:s.TypeIs (.ref sl) "slice":=⟨os,hos,hcs⟩
 unfold getItem
 try with_reducible refine Ox ?_
 first | refine wpAny_bind (On ?_) | skip
 refine wpAny_bind (wpAny_sequenceKey ht.typeIs (by decide) ?_);refine wpAny_bind (wpAny_callSpecial?_slot (name:=Str.ofString "__getitem__") ht.typeIs bx
  (Oy bx ht.typeIs entry_tuple_getitem ?_ (args_tuple_getitem _ _)))
 show wpAny _ _ (Builtin.Tuple.tupleItemsOf (.ref t)>>=_) _ _ s;refine wpAny_bind (tupleItemsOf_ ht ?_);refine wpAny_bind (wpAny_typeOf hTs ?_);rw[PX (by decide)];refine wpAny_bind (ju hs pl pu ?_);have hno:¬((((sIx items.size 0 lo:Nat):Int)==0&&(1:Int)==1&&(sIx items.size items.size hi-sIx items.size 0 lo)==items.size)=true):=by
  intro q;rw[be,be] at q;have q1:((sIx items.size 0 lo:Nat):Int)=0:=eq_of_beq q.1.1;have q2:sIx items.size items.size hi-sIx items.size 0 lo=items.size:=eq_of_beq q.2;exact hw ⟨by lia,by lia⟩
 show wpAny _ _ (if (((sIx items.size 0 lo:Nat):Int)==0&&(1:Int)==1&&(sIx items.size items.size hi-sIx items.size 0 lo)==items.size)=true then _ else _) _ _ s;rw[PV hno,AR]
 first
  | exact wpAny_bind (m:=Builtin.Tuple.tupleExact _) (Oz (On ⟨_,rfl,On h⟩) htake)
  | exact wpAny_bind (m:=Builtin.Tuple.tupleExact _) (Oz (wpAny_bind (On (On ⟨_,rfl,On h⟩))) htake)
  | exact wpAny_bind (wpAny_bind (m:=Builtin.Tuple.tupleExact _) (Oz (On (On ⟨_,rfl,On h⟩)) htake))
  | exact wpAny_bind (wpAny_bind (m:=Builtin.Tuple.tupleExact _) (Oz (On ⟨_,rfl,On h⟩) htake))
end
end HT
namespace L2
open PySem PySem.Spec PyProof.Rows
abbrev TO:=St->Hp->(Option Int->Hp->Prop)->Prop
def PO(X:Cx)(e:Option Expr)(t:TO):Prop:=
 ∀(pins:List (Addr×Obj)) (s:Shared) (σ:St) (H:Hp) (Q:Option Int->Hp->Prop),bT X pins σ H s->t σ H Q →
  wpAny (model X.prog X.w) X.A (evalPart e X.env) (λu s'=>∃o H',bT X pins σ H' s'/\IsPart u o/\Q o H') X.xe s
def qv:TO:=λ_ H Q=>Q none H
def zV(t:TE):TO:=λσ H Q=>t σ H λx H1=>∃i,x=.int i/\Q (some i) H1
section
variable {X:Cx} {e:Expr} {te:TE} {lo hi:Option Expr} {tl th:TO} {pos p2:Pos}
def C2:PO X none qv:=by
 intro pins s σ H Q I h;rw[evalPart_none];exact On ⟨none,H,I,.none,h⟩
def C1(h:PE X e te):PO X (some e) (zV te):=by
 intro pins s σ H Q I hw;rw[evalPart_some];refine dW (h pins s σ H _ I hw) λu s1 ⟨x,H1,I1,r1,q1⟩=>?_;obtain⟨i,rfl,q⟩:=q1;obtain⟨t,rfl⟩:=r1;exact⟨some i,H1,I1,.int i t,q⟩
def HX(X:Cx)(r:V->Option Int->Option Int->Hp->VK->Prop):Prop:=
 ∀(pins:List (Addr×Obj)) (s:Shared) (σ:St) (H:Hp) (x:V) (v vl vu:Value) (lo hi:Option Int) (sl:Addr) (Q:VK),bT X pins σ H s->RelV x v->s.heap.IsSliceOf sl vl vu .none->IsPart vl lo->IsPart vu hi->r x lo hi H Q →
  ∃T id,typeLookup (.type T) "__getitem__"=pure (some (.builtin id))/\s.TypeIs v T/\wpAny (model X.prog X.w) X.A (getItem v (.ref sl)) (EP X pins σ Q) X.xe s
def IG(r:V->Option Int->Option Int->Hp->VK->Prop)(te:TE)(tl th:TO):TE:=λσ H Q=>te σ H λx H1=>tl σ H1 λl H2=>th σ H2 λu H3=>r x l u H3 Q
def AU{r:V->Option Int->Option Int->Hp->VK->Prop}(hr:HX X r)(he:PE X e te)(hl:PO X lo tl)(hu:PO X hi th):PE X (.Subscript e (.Slice lo hi none p2) pos) (IG r te tl th):=by
 intro pins s σ H Q I h;refine Subscript_ (dW (he pins s σ H _ I h) λv s1 ⟨x,H1,I1,r1,q1⟩=>?_);refine wpAny_Slice (dW (hl pins s1 σ H1 _ I1 q1) λvl s2 ⟨l,H2,I2,pl,q2⟩=>dW (hu pins s2 σ H2 _ I2 q2) λvu s3 ⟨u,H3,I3,pu,q3⟩=>?_);rw[evalPart_none];refine On ?_;have I4:bT X pins σ H3 { s3 with heap:=s3.heap.push { cls:=.type "slice",data:=.fields #[vl,vu,.none] } }:=I3.kept (t':=s3.toks) λb ob q=>aB _ q;obtain⟨T,id,hT,ht,hg⟩:=hr pins { s3 with heap:=s3.heap.push { cls:=.type "slice",data:=.fields #[vl,vu,.none] } } σ H3 x v vl vu l u s3.heap.objs.size Q I4 r1 (Heap.IsSliceOf.new ..) pl pu q3;show wpAny (model X.prog X.w) X.A (subscriptTail e (.Slice lo hi none p2) v (.ref s3.heap.objs.size)) (EP X pins σ Q) X.xe { s3 with heap:=s3.heap.push { cls:=.type "slice",data:=.fields #[vl,vu,.none] } };exact tail_any (ops:=[.ref s3.heap.objs.size,v]) ht hT hg (by with_unfolding_all rfl)
def lp(xs:List V)(lo hi:Option Int):List V:=(xs.drop (HT.sIx xs.length 0 lo)).take (HT.sIx xs.length xs.length hi-HT.sIx xs.length 0 lo)
def nh(xs:List V)(lo hi:Option Int):(lp xs lo hi).length<=xs.length:=by
 unfold lp;rw[dN,iJ];lia
def IR(K:P5):V->Option Int->Option Int->Hp->VK->Prop:=λx lo hi H Q=>∃a xs,x=.ref a/\dA K H a xs ∧
 ¬(HT.sIx xs.length 0 lo=0/\HT.sIx xs.length xs.length hi=xs.length)/\∀p,H p=none->Q (.ref p) (bW H p (.tup (lp xs lo hi)))
def E8:HX X (IR X.K):=by
 intro pins s σ H x v vl vu lo hi sl Q I rx hs pl pu h;obtain⟨a,xs,rfl,hx,hw,q⟩:=h;cases rx;obtain⟨its,r,ht,hz⟩:=I.tuple hx;have hlen:its.toArray.size=xs.length:=by rw[aO];exact r.length.symm
 refine⟨"tuple",_,bx.lookup,ht.typeIs,?_⟩;refine HT.getItem_tuple_cut ht hs pl pu (by rw[hlen];exact hw) ?_ (by rw[hlen];exact hz);rw[hlen];refine⟨.ref s.heap.objs.size,_,I.laid (t':=s.toks) (o:=.tup (lp xs lo hi)) (λb ob q=>aB _ q) (aH _) ?_,rfl,q _ (I.hok.fresh (aH _))⟩;exact⟨cP (nh xs lo hi) hz,_,(r.drop (HT.sIx xs.length 0 lo)).take (HT.sIx xs.length xs.length hi-HT.sIx xs.length 0 lo),IsTup.new _ _⟩
def Gm(K:P5):R2:=λx y H Q=>∃a b xs ys,x=.ref a/\y=.ref b/\dA K H a xs/\dA K H b ys/\xs≠[]/\xs.length+ys.length<=sizeLine ∧
 (ys=[]->Q (.ref a) H)/\(ys≠[]->∀p,H p=none->Q (.ref p) (bW H p (.tup (xs++ys))))
def bj.nil_iff{xs:List V}{us:List Value}(r:bj xs us):us=[]<->xs=[]:=by
 cases r with
 | nil=>simp
 | cons _ _=>simp
def Cj:j5 X (binaryOp .Add) (Gm X.K):=by
 intro pins s σ H x y v u Q I rx ry h;obtain⟨a,b,xs,ys,rfl,rfl,ha,hb,hx,hz,q1,q2⟩:=h;cases rx;cases ry;obtain⟨its,r1,p1,_⟩:=I.tuple ha;obtain⟨its2,r2,p2,_⟩:=I.tuple hb;refine HT.cat_tup p1 p2 (λz=>hx (r1.nil_iff.mp z)) (λz=>⟨.ref a,H,I,rfl,q1 (r2.nil_iff.mp z)⟩) (λz=>?_) (by rw[<-r1.length,<-r2.length];exact hz);refine⟨.ref s.heap.objs.size,_,I.laid (t':=s.toks) (o:=.tup (xs++ys)) (λb ob q=>aB _ q) (aH _) ?_,rfl,q2 (λw=>z (r2.nil_iff.mpr w)) _ (I.hok.fresh (aH _))⟩;exact⟨by rw[bQ];exact hz,_,r1.append r2,IsTup.new _ _⟩
end
def F7(n:Nat)(i:Int):Option Nat:=if 0<=i then (if i<n then some i.toNat else none) else if -(n:Int)<=i then some (i+n).toNat else none
def nw{α:Type}(xs:List α)(i:Int):Option α:=(F7 xs.length i).bind λj=>xs[j]?
def Cv{n:Nat}{i:Int}{j:Nat}(h:F7 n i=some j):seqIndex? i n=some j/\j<n/\-(n:Int)<=i/\i<n:=by
 unfold F7 at h;by_cases h0:0<=i
 ·rw[PX h0] at h;by_cases h1:i<n
  ·rw[PX h1] at h;have e:i.toNat=j:=ay h;exact⟨by rw[seqIndex_of h0 h1,e],by lia,by lia,h1⟩
  ·rw[PV h1] at h;cases h
 ·rw[PV h0] at h;by_cases h1:-(n:Int)<=i
  ·rw[PX h1] at h;have e:(i+n).toNat=j:=ay h;exact⟨by rw[seqIndex_neg (by lia) h1,e],by lia,h1,by lia⟩
  ·rw[PV h1] at h;cases h
def rm{α:Type}{xs:List α}{i:Int}{v:α}(h:nw xs i=some v):∃j,seqIndex? i xs.length=some j/\xs[j]? = some v/\j<xs.length/\-(xs.length:Int)<=i/\i<xs.length:=by
 unfold nw at h;cases e:F7 xs.length i with
 | none=>rw[e] at h;cases h
 | some j=>
  rw[e] at h;obtain⟨h1,h2,h3,h4⟩:=Cv e;exact⟨j,h1,h,h2,h3,h4⟩
def iq{α:Type}{xs:List α}{j:Nat}{v:α}(h:xs[j]? = some v):nw xs (j:Int)=some v:=by
 have hj:j<xs.length:=(aR.mp h).1;have e:F7 xs.length (j:Int)=some j:=by
  unfold F7;rw[PX (by lia),PX (by lia)];simp
 unfold nw;rw[e];exact h
def xE(b:Expr):Prop:=∀o i,subscripted b false o i=operate [o,i] (getItem o i)
def Fs(X:Cx)(r:R2):Prop:=
 ∀(value slice:Expr) (pins:List (Addr×Obj)) (s:Shared) (σ:St) (H:Hp) (x y:V) (v u:Value) (Q:VK),bT X pins σ H s->RelV x v->RelV y u->r x y H Q →
  subscripted slice false v u=operate [v,u] (getItem v u)->wpAny (model X.prog X.w) X.A (subscriptTail value slice v u) (EP X pins σ Q) X.xe s
def Hd(X:Cx)(id:String)(r:V->List V->Hp->VK->Prop):Prop:=
 ∀(pins:List (Addr×Obj)) (s:Shared) (σ:St) (H:Hp) (x:V) (xs:List V) (v:Value) (us:List Value) (Q:VK),bT X pins σ H s->RelV x v->bj xs us->r x xs H Q →
  wpAny (model X.prog X.w) X.A (call (.builtin id) (v::us)) (EP X pins σ Q) X.xe s
section
variable {X:Cx} {a b:Expr} {ta tb:TE} {pos:Pos}
def Gx{r:R2}(hr:Fs X r)(ha:PE X a ta)(hb:PE X b tb)(hs:xE b):PE X (.Subscript a b pos) (zW r ta tb):=by
 intro pins s σ H Q I h;exact Subscript_ (Fi ha hb I h λv u s2 x y H2 I2 rx ry q=>hr a b pins s2 σ H2 x y v u Q I2 rx ry q (hs _ _))
def CG(K:P5):R2:=λx y H Q=>∃p xs i v,x=.ref p/\y=.int i/\ce K H p xs/\nw xs i=some v/\Q v H
def Ej(K:P5):R2:=λx y H Q=>∃p xs i v,x=.ref p/\y=.int i/\dA K H p xs/\nw xs i=some v/\Q v H
def Gj:R2:=λx y H Q=>∃z i c,x=.str z/\y=.int i/\z.length<=sizeLine/\nw z.cps.toList i=some c/\Q (.str ⟨#[c]⟩) H
def cQ:Fs X (CG X.K):=by
 intro value slice pins s σ H x y v u Q I rx ry h hs;obtain⟨p,xs,i,z,rfl,rfl,hq,he,q⟩:=h;cases rx;obtain⟨t,rfl⟩:=ry;obtain⟨its,r,pl,hz⟩:=I.list hq;obtain⟨j,h1,h2,h3,h4,h5⟩:=rm he;obtain⟨w,ew,rw'⟩:=r.get h2;have hl:=r.length;have hn:=nM;have fin:EP X pins σ Q w s:=⟨z,H,I,rw',q⟩
 by_cases h0:0<=i
 ·have hj:i.toNat=j:=by
   rw[seqIndex_of h0 h5] at h1;exact ay h1
  exact item_listR pl.isList h0 (by lia) (by rw[hj];simpa using ew) fin hs
 ·have hj:(i+(its.toArray.size:Int)).toNat=j:=by
   rw[seqIndex_neg (by lia) h4] at h1;rw[aO,<-hl];exact ay h1
  exact subscriptTail_builtinR (x:=w) pl.isList.typeIs slot_list_getitem.lookup
   (wpAny_getItem_list_neg (Q:=λr s'=>r=w/\EP X pins σ Q r s') pl.isList (by lia) (by rw[aO]<;>lia) (by lia) (by rw[hj];simpa using ew) ⟨rfl,fin⟩) hs
def eZ:Fs X (Ej X.K):=by
 intro value slice pins s σ H x y v u Q I rx ry h hs;obtain⟨p,xs,i,z,rfl,rfl,hq,he,q⟩:=h;cases rx;obtain⟨t,rfl⟩:=ry;obtain⟨its,r,pl,hz⟩:=I.tuple hq;obtain⟨j,h1,h2,h3,h4,h5⟩:=rm he;obtain⟨w,ew,rw'⟩:=r.get h2;have hl:=r.length;have hn:=nM;have fin:EP X pins σ Q w s:=⟨z,H,I,rw',q⟩
 exact subscriptTail_builtinR (x:=w) pl.typeIs slot_tuple_getitem.lookup
  (getItem_tuple (j:=j) (Q:=λr s'=>r=w/\EP X pins σ Q r s') pl (by lia) (by lia) (by rw[aO,<-hl];exact h1) (by simpa using ew) ⟨rfl,fin⟩) hs
def pA:Fs X Gj:=by
 intro value slice pins s σ H x y v u Q I rx ry h hs;obtain⟨z,i,c,rfl,rfl,hz,he,q⟩:=h;obtain⟨t,rfl⟩:=rx;obtain⟨t',rfl⟩:=ry;obtain⟨j,h1,h2,h3,h4,h5⟩:=rm he;have hl:z.cps.toList.length=z.length:=by simp[Str.length]
 rw[hl] at h1 h4 h5;have hn:=nM;exact tail_any (typeIs_str s z t) slot_str_getitem.lookup (getItem_str (c:=c) (by
  have e1:decide (i < -(2 ^ 63:Int))=false:=PZ (by lia);have e2:decide (i>=2 ^ 63)=false:=PZ (by lia);rw[e1,e2,mE]) (by rw[h1];simpa using h2) ⟨.str ⟨#[c]⟩,H,I.tok _,⟨_,rfl⟩,q⟩) hs
def rB(lo hi:Option Int)(n:Nat):(sliceBounds lo hi none n).1=((HT.sIx n 0 lo:Nat):Int)/\(sliceBounds lo hi none n).2.1=((HT.sIx n n hi:Nat):Int)/\(sliceBounds lo hi none n).2.2=1:=by
 refine⟨?_,?_,rfl⟩
 ·cases lo with
  | none=>simp[sliceBounds,HT.sIx]
  | some i=>
   simp only[sliceBounds,HT.sIx,Option.getD_none,show (1:Int) > 0 by decide,P3];by_cases h:i<0
   ·simp only[h,P3]<;>lia
   ·simp only[h,P4]<;>lia
 ·cases hi with
  | none=>simp[sliceBounds,HT.sIx]
  | some i=>
   simp only[sliceBounds,HT.sIx,Option.getD_none,show (1:Int) > 0 by decide,P3];by_cases h:i<0
   ·simp only[h,P3]<;>lia
   ·simp only[h,P4]<;>lia
def pU(its:List Value)(lo hi:Option Int):slicePick its.toArray lo hi none=((its.drop (HT.sIx its.length 0 lo)).take (HT.sIx its.length its.length hi-HT.sIx its.length 0 lo)).toArray:=by
 obtain⟨h1,h2,h3⟩:=rB lo hi its.toArray.size;unfold slicePick;rw[h1,h2,h3];simp only[sliceRange_one,pick_run,aO]<;>rfl
def Ei(K:P5):V->Option Int->Option Int->Hp->VK->Prop:=λx lo hi H Q=>∃a xs,x=.ref a/\ce K H a xs/\∀p,H p=none->Q (.ref p) (bW H p (.lst (lp xs lo hi)))
def kU:HX X (Ei X.K):=by
 intro pins s σ H x v vl vu lo hi sl Q I rx hs pl pu h;obtain⟨a,xs,rfl,hx,q⟩:=h;cases rx;obtain⟨its,r,ht,hz⟩:=I.list hx;have hlen:=r.length;refine⟨"list",_,slot_list_getitem.lookup,ht.isList.typeIs,?_⟩;refine wpAny_getItem_list_slice ht.isList hs pl pu .none (by simp) ?_ (by rw[aO]<;>lia);rw[pU,<-hlen];refine⟨.ref s.heap.objs.size,_,I.laid (t':=s.toks) (o:=.lst (lp xs lo hi)) (λb ob q=>aB _ q) (aH _) ?_,rfl,q _ (I.hok.fresh (aH _))⟩;exact⟨cP (nh xs lo hi) hz,_,0,(r.drop (HT.sIx xs.length 0 lo)).take (HT.sIx xs.length xs.length hi-HT.sIx xs.length 0 lo),aK _ rfl⟩
def bV:eA X (.builtin "len") (λxs H Q=>∃p ys,xs=[.ref p]/\(ce X.K H p ys\/dA X.K H p ys)/\Q (.int ys.length) H):=by
 intro pins s σ H xs us Q I r h;obtain⟨p,ys,rfl,hq,q⟩:=h;obtain⟨u,rfl,rx⟩:=vals1 r;cases rx;have hn:=nM;rcases hq with hq | hq
 ·obtain⟨its,r',pl,hz⟩:=I.list hq;have hlen:=r'.length;exact Calls.call_len_list pl.isList (by simp only[aO]<;>lia) ⟨.int ys.length,H,I.tok _,⟨s.toks+1,by rw[aO,hlen]⟩,q⟩
 ·obtain⟨its,r',pl,hz⟩:=I.tuple hq;have hlen:=r'.length;exact len_tuple pl (by simp only[aO]<;>lia) ⟨.int ys.length,H,I.tok _,⟨s.toks+1,by rw[aO,hlen]⟩,q⟩
def dg:eA X (.builtin "len") (λxs H Q=>∃z,xs=[.str z]/\z.length<=sizeLine/\Q (.int z.length) H):=by
 intro pins s σ H xs us Q I r h;obtain⟨z,rfl,hz,q⟩:=h;obtain⟨u,rfl,t,rfl⟩:=vals1 r;have hn:=nM;exact len_str (by lia) ⟨.int z.length,H,I.tok _,⟨_,rfl⟩,q⟩
def g6:eA X (.type "list") (λxs H Q=>∃p ys,xs=[.ref p]/\(ce X.K H p ys\/dA X.K H p ys)/\∀l,H l=none->Q (.ref l) (bW H l (.lst ys))):=by
 intro pins s σ H xs us Q I r h;obtain⟨p,ys,rfl,hq,q⟩:=h;obtain⟨u,rfl,rx⟩:=vals1 r;cases rx;have fin:∀(its:List Value),bj ys its->ys.length<=sizeLine->∀(h':Heap) (c':Nat),(∀b o',s.heap.get? b=some o'->h'.get? b=some o') →
   h'.get? s.heap.objs.size=some { cls:=.type "list",dict:=none,data:=.seq its.toArray c',slots:=#[] }->EP X pins σ Q (.ref s.heap.objs.size) { s with heap:=h' }:=λits r' hz h' c' kp e=>
  ⟨.ref s.heap.objs.size,_,I.laid (t':=s.toks) kp (aH _) (show cw X.prog X.w _ h' _ (.lst ys) from ⟨hz,its,c',r',e⟩),rfl,q _ (I.hok.fresh (aH _))⟩
 rcases hq with hq | hq
 ·obtain⟨its,r',pl,hz⟩:=I.list hq;have hlen:=r'.length;obtain⟨o,ho,hc,n,hd⟩:=pl.isList;exact call_list_seq p (.inl rfl) ho hc hd (λh' c' kp e=>fin its r' hz h' c' kp e) (by simp only[aO]<;>lia)
 ·obtain⟨its,r',pl,hz⟩:=I.tuple hq;have hlen:=r'.length;obtain⟨o,ho,hc,n,hd⟩:=pl;exact call_list_seq p (.inr rfl) ho hc hd (λh' c' kp e=>fin its r' hz h' c' kp e) (by simp only[aO]<;>lia)
def jj:eA X (.type "tuple") (λxs H Q=>∃p ys,xs=[.ref p]/\((ce X.K H p ys/\∀l,H l=none->Q (.ref l) (bW H l (.tup ys)))\/(dA X.K H p ys/\Q (.ref p) H))):=by
 intro pins s σ H xs us Q I r h;obtain⟨p,ys,rfl,h⟩:=h;obtain⟨u,rfl,rx⟩:=vals1 r;cases rx;rcases h with ⟨hq,q⟩ | ⟨hq,q⟩
 ·obtain⟨its,r',pl,hz⟩:=I.list hq;have hlen:=r'.length;refine call_tuple_list pl.isList (λh' kp=>?_) (by simp only[aO]<;>lia);have I1:bT X pins σ H { s with heap:=h' }:=I.kept (t':=s.toks) kp;have I2:bT X pins σ (bW H h'.objs.size (.tup ys)) { s with heap:=h'.push { cls:=.type "tuple",data:=.seq its.toArray } }:=
   I1.laid (t':=s.toks) (λb o e=>aB _ e) (aH _) (show cw X.prog X.w _ _ _ (.tup ys) from ⟨hz,its,r',IsTup.new _ _⟩)
  exact⟨.ref h'.objs.size,_,I2,rfl,q _ (I1.hok.fresh (aH _))⟩
 ·obtain⟨its,r',pl,hz⟩:=I.tuple hq;exact call_tuple_same pl ⟨.ref p,H,I,rfl,q⟩
def Fz (K : P5) (T : String) (x : V) (H : Hp) : Prop := match x with
 | .str _ => T = "str"
 | .int _ => T = "int"
 | .ref p => (T = "list" ∧ ∃ xs, ce K H p xs) ∨ (T = "tuple" ∧ ∃ o, K.lookup p = some o ∧ o.cls = .type "tuple" ∧ o.dict = none) ∨
   (T = "dict" ∧ ((∃ kvs, H p = some (.dK kvs)) ∨ ∃ kvs, H p = some (.dT kvs))) ∨ (T = "set" ∧ ∃ S n, H p = some (.set S n))
 | _ => False
def zP{pins:List (Addr×Obj)}{σ:St}{H:Hp}{s:Shared}{T:String}{x:V}{v:Value}(I:bT X pins σ H s)(r:RelV x v)(ty:Fz X.K T x H):
  s.TypeIs v T/\∀a,v=.ref a->∃ob,s.heap.get? a=some ob/\ob.dict=none:=by
 cases x with
 | str z=>
  obtain⟨t,rfl⟩:=r;cases (show T="str" from ty);exact⟨typeIs_str s z t,λ_ e=>nomatch e⟩
 | int i=>
  obtain⟨t,rfl⟩:=r;cases (show T="int" from ty);exact⟨typeIs_int s i t,λ_ e=>nomatch e⟩
 | ref p=>
  cases r;rcases ty with ⟨rfl,xs,hq⟩ | ⟨rfl,o,hk,hc,hd⟩ | ⟨rfl,hk⟩ | ⟨rfl,S,n,hk⟩
  ·obtain⟨its,_,pl,_⟩:=I.list hq;refine⟨pl.isList.typeIs,λa e=>?_⟩;cases e;obtain⟨o,n,e,c,hd,_⟩:=pl;exact⟨o,e,hd⟩
  ·refine⟨⟨o,I.kIn p o hk,hc⟩,λa e=>?_⟩;cases e;exact⟨o,I.kIn _ o hk,hd⟩
  ·have z:∃o,s.heap.get? p=some o/\o.ExactDict:=by
    rcases hk with ⟨kvs,hk⟩ | ⟨kvs,hk⟩
    ·obtain⟨_,_,_,_,o,_,_,e,ex,_⟩:=I.hok p _ hk;exact⟨o,e,ex⟩
    ·obtain⟨_,_,_,_,o,_,_,e,ex,_⟩:=I.hok p _ hk;exact⟨o,e,ex⟩
   obtain⟨o,e,ex⟩:=z;refine⟨⟨o,e,ex.1⟩,λa e2=>?_⟩;cases e2;exact⟨o,e,ex.2.1⟩
  ·obtain⟨o,_,_,_,e,ex,_⟩:=I.hok p _ hk;refine⟨⟨o,e,ex.1⟩,λa e2=>?_⟩;cases e2;exact⟨o,e,ex.2.1⟩
 | _=>exact False.elim ty
def E5(K:P5)(T:String)(r:V->List V->Hp->VK->Prop)(to:TE):TE:=λσ H Q=>to σ H λx H1=>Fz K T x H1/\r x [] H1 Q
def Gc(K:P5)(T:String)(r:V->List V->Hp->VK->Prop)(to:TE)(t:TA):TE:=λσ H Q=>to σ H λx H1=>Fz K T x H1/\t σ H1 λxs H2=>r x xs H2 Q
variable {o e:Expr} {es:List Expr} {to:TE} {t:TA} {name:Str} {apos cpos:Pos} {T id:String} {r:V->List V->Hp->VK->Prop}
def FN (pa:PlainAttrs T) (slot:Slot T name id) (hty:typeOf (.builtin id)=pure (.type "method_descriptor")) (hm:Hd X id r) (ho:PE X o to)
  (hbase:attributeBase o name X.env (eval o X.env)=eval o X.env:=by rfl) (hline:(apos.endLine==cpos.line)=true:=by rfl):PE X (.Call (.Attribute o name apos) [] [] cpos) (E5 X.K T r to):=by
 intro pins s σ H Q I h;refine wpAny_Call_method0_late hbase hline (dW (ho pins s σ H _ I h) λv s1 ⟨x,H1,I1,r1,ty,q1⟩=>?_);obtain⟨h1,h2⟩:=zP I1 r1 ty;exact⟨T,id,pa,slot,hty,h1,h2,Calls.callWith_builtin rfl (PySem.evalArgs_none (hm pins s1 σ H1 x [] v [] Q I1 r1 .nil q1))⟩
def Gy (pa:PlainAttrs T) (slot:Slot T name id) (hty:typeOf (.builtin id)=pure (.type "method_descriptor")) (hm:Hd X id r) (ho:PE X o to) (ha:PA X (e::es) t)
  (hbase:attributeBase o name X.env (eval o X.env)=eval o X.env:=by rfl)
  (hfew:((backTo cpos (starEach (e::es) X.env)).all (λx=>!x.1)&&(backToKw cpos (keywordEach [] X.env)).all (λx=>x.1.isSome)
   && decide ((e::es).length+([]:List Keyword).length+(if ([]:List Keyword).isEmpty then 0 else 1)<30))=true:=by rfl)
  (hline:(apos.endLine==cpos.line)=true:=by rfl) (hs:starEach (e::es) X.env=(false,eval e X.env)::starEach es X.env:=by rfl) (hplain:(backTo cpos (starEach es X.env)).any (·.1)=false:=by rfl) :
  PE X (.Call (.Attribute o name apos) (e::es) [] cpos) (Gc X.K T r to t):=by
 intro pins s σ H Q I h;refine wpAny_Call_method_late hbase hfew hline rfl (dW (ho pins s σ H _ I h) λv s1 ⟨x,H1,I1,r1,ty,q1⟩=>?_);obtain⟨h1,h2⟩:=zP I1 r1 ty;refine⟨T,id,pa,slot,hty,h1,h2,?_⟩;have hA:=ha cpos pins s1 σ H1 _ I1 q1;rw[hs] at hA ⊢;refine Calls.callWith_builtin (by show (false || (backTo cpos (starEach es X.env)).any (·.1))=false;rw[hplain]<;>rfl) (Calls.evalArgs_plain ?_);exact dW hA λus s2 ⟨vs,H2,I2,r2,q2⟩=>hm pins s2 σ H2 x vs v us Q I2 r1 r2 q2
/- xs.append(e),list.index on a module's tuple .. are Hd facts of 06m -/
end
def He(X:Cx)(id:String)(r:V->List V->Hp->VK->Prop):Prop:=
 ∀(pins:List (Addr×Obj)) (s:Shared) (σ:St) (H:Hp) (x:V) (xs:List V) (v:Value) (us:List Value) (Q:VK),bT X pins σ H s->RelV x v->bj xs us->r x xs H Q →
  wpAny (model X.prog X.w) X.A (call (.builtin id) (v::us)) (EP X pins σ Q) X.xe s
def bj.one:∀{x:V} {us:List Value},bj [x] us->∃u,us=[u]/\RelV x u
 | _,_,.cons r .nil=>⟨_,rfl,r⟩
def bj.two:∀{x y:V} {us:List Value},bj [x,y] us->∃u v,us=[u,v]/\RelV x u/\RelV y v
 | _,_,_,.cons r (.cons q .nil)=>⟨_,_,rfl,r,q⟩
def bj.zero:∀{us:List Value},bj [] us->us=[]
 | _,.nil=>rfl
def bj.dropLast{xs:List V}{us:List Value}(h:bj xs us):bj xs.dropLast us.dropLast:=by
 induction h with
 | nil=>exact .nil
 | cons r t ih=>
  cases t with
  | nil=>exact .nil
  | cons q t'=>exact .cons r ih
def vV{α:Type}(l:List α):l.eraseIdx (l.length - 1)=l.dropLast:=by
 induction l with
 | nil=>rfl
 | cons a r ih=>
  cases r with
  | nil=>rfl
  | cons b r=>
   have e:(a::b::r).length - 1=((b::r).length - 1)+1:=by
    have h1:(a::b::r).length=r.length+2:=rfl;have h2:(b::r).length=r.length+1:=rfl;lia
   rw[e,List.eraseIdx_cons_succ,ih]
   all_goals rfl
section
variable {X:Cx} {pins:List (Addr×Obj)} {σ:St} {H:Hp} {s:Shared} {l:Addr} {xs ys:List V}
def bT.lset{its its':List Value}{n:Nat}{f:Array Value->Array Value}{t':Nat}(I:bT X pins σ H s)(hH:H l=some (.lst xs))
  (e:s.heap.get? l=some { cls:=.type "list",data:=.seq its.toArray n }) (hf:f its.toArray=its'.toArray) (hv:bj ys its') (hz:ys.length<=sizeLine) :
  bT X pins σ (bW H l (.lst ys)) { s with heap:=s.heap.update l (Obj.mapSeq f),toks:=t' }:=by
 have q:=PySem.IsL.update e f;rw[hf] at q;refine I.write (x:=l) (e:=l) (by rw[hH];exact trivial) (.inl rfl) (λb' u hb hu=>(Heap.get?_update_other s.heap (Obj.mapSeq f) (cU hb)).trans hu) ⟨_,q⟩ ?_;exact⟨hz,its',_,hv,q⟩
def bT.lnew{its:List Value}{t':Nat}(I:bT X pins σ H s)(hv:bj ys its)(hz:ys.length<=sizeLine):
  bT X pins σ (bW H s.heap.objs.size (.lst ys)) { s with heap:=s.heap.push { cls:=.type "list",data:=.seq its.toArray },toks:=t' }:=
 I.laid (λ_ _ q=>aB _ q) (aH _) ⟨hz,its,0,hv,aK _ rfl⟩
def bT.fresh(I:bT X pins σ H s):H s.heap.objs.size=none:=I.hok.fresh (aH _)
def bT.lstM (I:bT X pins σ H s) (hH:H l=some (.lst xs)):xs.length<=sizeLine/\∃(its:List Value) (n:Nat),bj xs its/\xs.length=its.length/\s.heap.get? l=some { cls:=.type "list",data:=.seq its.toArray n }:=by
 obtain⟨z,its,n,r,e⟩:=I.hok l _ hH;exact⟨z,its,n,r,r.length,e⟩
end
section
variable {X:Cx}
def wY:V->List V->Hp->VK->Prop:=λx vs H Q=>∃l xs y,x=.ref l/\vs=[y]/\H l=some (.lst xs)/\xs.length<sizeLine/\Q .non (bW H l (.lst (xs++[y])))
def jF:He X "list.append" wY:=by
 intro pins s σ H x vs v us Q I rx rv h;obtain⟨l,xs,y,rfl,rfl,hH,hz,q⟩:=h;cases rx;obtain⟨u,rfl,ru⟩:=rv.one;obtain⟨z,its,n,r,hl,e⟩:=I.lstM hH;refine call_meets F.slot_list_append ⟨_,e,rfl⟩ F.entry_list_append (F.args_list_append_2 _ _) (PySem.list_append l its.toArray n u (by rw[aO];lia)) ⟨e,?_⟩;refine⟨.non,_,I.lset (its':=its++[u]) hH e (by simp) (r.append (.cons ru .nil)) ?_,rfl,q⟩;rw[bQ,fL];lia
def Gh:V->List V->Hp->VK->Prop:=λx vs H Q=>∃l xs y,x=.ref l/\vs=[]/\H l=some (.lst xs)/\xs[xs.length - 1]? = some y/\Q y (bW H l (.lst xs.dropLast))
def FZ:He X "list.pop" Gh:=by
 intro pins s σ H x vs v us Q I rx rv h;obtain⟨l,xs,y,rfl,rfl,hH,hy,q⟩:=h;cases rx;have hus:=rv.zero;subst hus;obtain⟨z,its,n,r,hl,e⟩:=I.lstM hH;obtain⟨u,hu,ru⟩:=r.get hy;have hy':its.toArray[its.toArray.size - 1]? = some u:=by
  show its.toArray[its.length - 1]? = some u;rw[<-Array.getElem?_toList,<-hl];exact hu
 refine call_meets F.slot_list_pop ⟨_,e,rfl⟩ F.entry_list_pop (F.args_list_pop_1 _) (MeetsSeq.list_pop_last l its.toArray n u hy' (by rw[aO];lia)) ⟨e,?_⟩;refine⟨y,_,I.lset (its':=its.dropLast) hH e ?_ r.dropLast ?_,ru,q⟩
 ·show its.toArray.eraseIdxIfInBounds (its.toArray.size - 1)=its.dropLast.toArray;rw[aO,List.eraseIdxIfInBounds_toArray,vV]
 ·rw[List.length_dropLast];lia
def Gn:R2:=λx y H Q=>∃l b xs zs,x=.ref l/\y=.ref b/\H l=some (.lst xs)/\H b=some (.lst zs)/\xs.length+zs.length<=sizeLine/\∀p,H p=none->Q (.ref p) (bW H p (.lst (xs++zs)))
def ft:j5 X (binaryOp .Add) Gn:=by
 intro pins s σ H x y v u Q I rx ry h;obtain⟨l,b,xs,zs,rfl,rfl,hH,hB,hz,q⟩:=h;cases rx;cases ry;obtain⟨z,its,n,r,hl,e⟩:=I.lstM hH;obtain⟨z2,its2,n2,r2,hl2,e2⟩:=I.lstM hB;refine PySem.P.add_list e e2 ?_ (by rw[aO,aO];lia);have ea:its.toArray++its2.toArray=(its++its2).toArray:=by simp
 rw[ea];exact⟨.ref _,_,I.lnew (t':=s.toks) (r.append r2) (by rw[bQ];lia),rfl,q _ I.fresh⟩
end
section
set_option maxRecDepth 100000 in
end
end L2
namespace Att
open PySem PySem.W PySem.Calls PyProof.Rows
def nu{P:Params}{h:Heap}:∀(ns:List Int) (vs:List Value),WellAll P h vs (ns.map WData.int)->IntsAre vs ns:=by
 intro ns
 induction ns with
 | nil=>
  intro vs w;rw[dy] at w;cases w;exact .nil
 | cons n ns ih=>
  intro vs w;rw[ae] at w;cases w with
  | cons a b=>
   cases a;exact .cons _ _ (ih _ b)
def xO{l:OpenLaw}{n:Nat}(hn:l.most=some n){P:Params}{h:Heap}{args:List WData}{vals:List Value}
  (hpre:l.row.toRowW.claim.pre args=true) (hwl:WellAll P h vals args) :
  ∃a vs ns,vals=[Value.ref a]/\args=[WData.list (ns.map WData.int)]/\h.get? a=some { cls:=.type "list",data:=.seq vs.toArray }/\IntsAre vs ns/\ns.length<=n:=by
 have hsh:WShape.hasAll [] args [.list .int]=true:=(pre_splitW hpre).1;have hc:l.pre.holds [] { args:=args }=true:=(pre_splitW hpre).2;obtain⟨d,r,rfl,h1,h2⟩:=hasAllW_cons hsh;obtain rfl:=hasAllW_nil h2;obtain⟨xs,rfl,h3⟩:=hasW_list h1;obtain⟨ns,rfl⟩:=items_int h3;have hlen:ns.length<=n:=by
  unfold OpenLaw.pre at hc;have h4:(WTm.not (.lt (.lit (.int (n:Int))) (.len (.arg 0)))).holds [] { args:=[.list (ns.map .int)] }=true:=by
   have h4:=(holds_andW hc).1;rw[hn] at h4;exact h4
  have h5:=condW_of h4 (w_not (w_lt w_lit (w_len_list (w_arg rfl))));rw[aD] at h5;refine Nat.le_of_not_lt λq=>?_;have q':(n:Int)<((ns.length:Nat):Int):=by lia
  first
   | (rw[P0 q'] at h5;exact absurd h5 (by decide))
   | (simp at h5;lia)
 cases hwl with
 | cons w1 w2=>
  cases w2;cases w1 with
  | list ho hall=>exact⟨_,_,ns,rfl,rfl,ho,nu ns _ hall,hlen⟩
def xf(l:OpenLaw)(args:List WData):l.row.toRowW.claim.post args (.bool true) args=true:=
 postW_of (r:=l.row.toRowW) (X:=(true==true))
  (show WShape.has [] (.bool true) .bool=true by first | rfl | decide | simp[WShape.has,WShape.arms,WShape.armsAll])
  (show (WTm.eq .res (.lit (.bool true))).value [] { args:=args,res:=some (.bool true),after:=args }=some (.bool (true==true)) from w_eq_bool (w_res rfl) w_lit) rfl
def attach_call{l:OpenLaw}{n:Nat}{q:Program}{loose:List Str}{XP:(Str->Option Value)->Heap->Prop}{YP:World->Heap->Prop}{d:DefRec}
  (hn:l.most=some n) (hdf:d.params.defaults=[])
  (call:∀(w:World) (s₀ s₁:Shared) (mg mb:Str->Option Value) (fa:Addr) (o:Obj) (pm cd doc:Value) (a:Addr) (vs:List Value) (ns:List Int),
   Ground q loose [] XP w s₀ mg mb s₁.heap->YP w s₁.heap →
   s₁.heap.get? fa=some o->o.data=.func (docDef d.name d.params d.body d.scope pm cd doc)->s₁.heap.CodeRec cd d.name->mg d.name=some (.ref fa) →
   s₁.heap.get? a=some { cls:=.type "list",data:=.seq vs.toArray }->IntsAre vs ns->ns.length<=n->s₁.gens=#[] →
   codeAny (model l.prog w) callerA (.call (.ref fa) ⟨[.ref a],[]⟩) (λr s'=>r=.ok (.ret (.bool true))/\OldK s₁.heap s'.heap/\s'.os=s₁.os/\AllBare s'.gens) s₁) :
  WalkO q loose XP YP l.row.toRowW d [] (λf vs=>PySem.call f vs):=by
 intro w s₀ s₁ mg mb G Y fa o pm cd doc dV kV ho hd hcd hD hmg hg args vals as hpre hlay hrd hwl hlo;obtain rfl:dV=.none:=Dflts.none hD hdf;obtain rfl:kV=.none:=Dflts.noKw hD;obtain⟨a,vs,ns,rfl,rfl,hobj,hints,hlen⟩:=xO hn hpre hwl;refine enter_call (Ou (call w s₀ s₁ mg mb fa o pm cd doc a vs ns G Y ho (fd_plain hd) hcd hmg hobj hints hlen hg) λr s' hq=>?_);obtain⟨rfl,h2,h3,h4⟩:=hq;exact⟨.inl ⟨.bool true,.bool true,[],rfl,λ_=>rfl,.bool true,xf l _,λ_=>⟨List.Pairwise.nil,λ_ hm=>(nomatch hm)⟩⟩,h2,h3,h4⟩
end Att
namespace L2
open PySem PySem.Spec PyProof.Rows
def lW:∀{vs:List Value} {ns:List Int},IntsAre vs ns->bj (ns.map V.int) vs
 | _,_,.nil=>.nil
 | _,_,.cons n t h=>.cons ⟨t,rfl⟩ (lW h)
def Fo(H:Hp):Prop:=∀b,H b=none\/∃o xs,H b=some (.frz o (.lst xs))
def Au{P:Program}{w:World}{K:P5}{mg mb:Str->Option Value}{CX:yi}{k:Nat}{fa a:Addr}{fd:FuncData}{x:Str}{sp:Sp}{s₁:Shared}{vs:List Value}{ns:List Int}
  (KX:K.In s₁.heap) (hns:s₁.heap.Ns mainGlobals mg) (hb:s₁.heap.Ns builtinsNs mb) (hbb:∀x:Str,x≠"__name__"->mb x=bootBuiltins x) (hlim:s₁.heap.NoLimit) (hg:s₁.gens=#[])
  (ha:s₁.heap.get? a=some { cls:=.type "list",data:=.seq vs.toArray }) (hi:IntsAre vs ns) (hl:ns.length<=sizeLine) (hr:fg k callerA)
  (F:∀base:Heap,K.In base->base.Ns mainGlobals mg->lU P w K mg base CX k fa fd [x] sp) (hbind:∀(s:Shared) (u:Value),BindsTo s fd ⟨[u],[]⟩ [(x,u)])
  (hsp:∀H:Hp,Fo H->ce K H a (ns.map V.int)->sp [.ref a] H (λv _=>v=.bl true) λ_ _ _=>False)
  (hCX:∀H e s',CX [] H s₁ (λ_ _ _=>False) e s'->False) :
  codeAny (model P w) callerA (.call (.ref fa) ⟨[.ref a],[]⟩) (λr s'=>r=.ok (.ret (.bool true))/\OldK s₁.heap s'.heap/\s'.os=s₁.os/\AllBare s'.gens) s₁:=by
 have rv:=lW hi;have lenV:=hi.length;have core:∀H:Hp,Fo H->ce K H a (ns.map V.int)->lj P w H s₁.heap->(∀b,H b≠none->b=a)->(H a≠none->K.lookup a=none) →
   codeAny (model P w) callerA (.call (.ref fa) ⟨[.ref a],[]⟩) (λr s'=>r=.ok (.ret (.bool true))/\OldK s₁.heap s'.heap/\s'.os=s₁.os/\AllBare s'.gens) s₁:=by
  intro H hO hS hok hA hK;have base_of:∀{b:Addr} {o:Obj},s₁.heap.get? b=some o->H b=none->(rT s₁.heap H).get? b=some o:=λe n=>BA e n;have noA:∀{b:Addr} {o:Obj} {es:Array DictEntry} {ep:Nat},s₁.heap.get? b=some o->o.data=.dict es ep->H b=none:=fun {b o es ep} e d=>by
   cases q:H b with
   | none=>rfl
   | some u=>
    have e':b=a:=hA b (by rw[q];simp);subst e';rw[ha] at e;cases e;have d':Data.seq vs.toArray _=Data.dict es ep:=d;cases d'
  have nsK:∀{b:Addr} {m:Str->Option Value},s₁.heap.Ns b m->(rT s₁.heap H).Ns b m:=fun {b m} ⟨o,es,ep,e,d,r⟩=>⟨o,es,ep,base_of e (noA e d),d,r⟩
  have hKb:K.In (rT s₁.heap H):=λb o e=>base_of (KX b o e) (by
   cases q:H b with
   | none=>rfl
   | some u=>
    have e':b=a:=hA b (by rw[q];simp);subst e';rw[hK (by rw[q];simp)] at e;cases e)
  have hM:Mod K mg (rT s₁.heap H):=⟨hKb,nsK hns,⟨mb,nsK hb,hbb⟩,let ⟨mc,h1,h2⟩:=hlim;⟨mc,nsK h1,h2⟩⟩
  have e0:sF P w K mg (rT s₁.heap H) callerA [] s₁ H:=⟨rfl,hM,λb o e=>Co e,nE (yG _ _),trivial,λb hb=>absurd (show b∈([]:List Addr) from hb) (by simp),hok,.of_eq hg⟩
  refine Ou ((F _ hKb (nsK hns)).run callerA [] s₁ H ⟨[.ref a],[]⟩ [.ref a] [.ref a] _ _ hr e0 (hbind s₁ (.ref a)) (.cons rfl .nil) (hsp H hO hS)) λr s' h=>?_;cases r with
  | error e=>exact(hCX H e s' h).elim
  | ok fl=>
   cases fl with
   | next=>exact False.elim h
   | brk=>exact False.elim h
   | cont=>exact False.elim h
   | ret u=>
    obtain⟨v,H',os,bare,un,hok',r',q⟩:=h;have q':v=.bl true:=q;subst q';obtain rfl:u=Value.bool true:=r';refine⟨rfl,OldK.of_keep λb o e=>?_,os,bare⟩;cases q:H b with
    | none=>exact un.keep b o e q (by intro z;exact absurd (show b∈([]:List Addr) from z) (by simp)) (by simp)
    | some u=>
     rcases hO b with z | ⟨ob,xs,z⟩
     ·rw[q] at z;cases z
     ·have z2:=un.frzs b ob _ z;obtain⟨e1,_⟩:=hok b _ z;obtain⟨e2,_⟩:=hok' b _ z2;rw[e] at e1;cases e1;exact e2
 cases hk:K.lookup a with
 | some o=>
  have e:=KX a o hk;rw[ha] at e;cases e;refine core (λ_=>none) (λ_=>.inl rfl) (.inr ⟨_,vs.toArray,_,hk,rfl,rfl,rfl,by rw[aO,lenV];exact hl,by simpa using rv⟩) (λb u z=>by have z':(none:Option HO)=some u:=z;cases z') (λb z=>absurd rfl z) λz=>absurd rfl z
 | none=>
  refine core (λb=>if b=a then some (.frz { cls:=.type "list",data:=.seq vs.toArray } (.lst (ns.map V.int))) else none) (λb=>?_) (.inl (.inr ⟨{ cls:=.type "list",data:=.seq vs.toArray },PX rfl⟩)) (λb u z=>?_) (λb z=>?_) λ_=>hk
  ·by_cases hb:b=a
   ·exact .inr ⟨_,_,PX hb⟩
   ·exact .inl (PV hb)
  ·by_cases hb:b=a
   ·have z':=(PX hb).symm.trans z;cases z';subst hb;exact⟨ha,by rw[aD];exact hl,vs,_,rv,ha⟩
   ·have z':=(PV hb).symm.trans z;cases z'
  ·by_cases hb:b=a
   ·exact hb
   ·exact absurd (PV hb) z
abbrev JE {K:P5} {h:Heap} (_:K.In h):P5:=K
def vg{l:PySem.W.OpenLaw}{n k:Nat}{q:Program}{loose:List Str}{XP:(Str->Option Value)->Heap->Prop}{YP:World->Heap->Prop}{d:DefRec}{K:Params->P5}{CX:World->yi}{sp:World->Sp}{x:Str}
  (hn:l.most=some n) (hn2:n<=sizeLine) (hdf:d.params.defaults=[]) (hr:fg k callerA)
  (hY:∀(w:World) (h:Heap),YP w h->(K w.params).In h)
  (F:∀(w:World) (mg:Str->Option Value) (fa:Addr) (h:Heap),(K w.params).In h->h.Ns mainGlobals mg->mg d.name=some (.ref fa) →
   ∃fd:FuncData,(∀(s:Shared) (u:Value),BindsTo s fd ⟨[u],[]⟩ [(x,u)]) ∧
    ∀base:Heap,(K w.params).In base->base.Ns mainGlobals mg->lU l.prog w (K w.params) mg base (CX w) k fa fd [x] (sp w))
  (hsp:∀(w:World) (H:Hp) (a:Addr) (ns:List Int),ns.length<=n->Fo H->ce (K w.params) H a (ns.map V.int)->sp w [.ref a] H (λv _=>v=.bl true) λ_ _ _=>False)
  (hCX:∀(w:World) (H:Hp) (s:Shared) (e:Value) (s':Shared),CX w [] H s (λ_ _ _=>False) e s'->False) :
  PySem.W.WalkO q loose XP YP l.row.toRowW d [] (λf vs=>PySem.call f vs):=by
 refine Att.attach_call hn hdf λw s₀ s₁ mg mb fa o pm cd doc a vs ns G Y ho hd hcd hmg hobj hints hlen hg=>?_;have KX:=hY w _ Y;obtain⟨fd,hb,hF⟩:=F w mg fa _ KX G.T.g hmg;exact Au KX G.T.g G.T.b G.T.builtins G.T.nolimit hg hobj hints (cP hlen hn2) hr hF hb (λH hO hS=>hsp w H a ns hlen hO hS) λH e s'=>hCX w H s₁ e s'
end L2
/- THE LAST THEOREM (shape;LID,My.* are yours):
   My.Adr: a structure of the addresses that your layer names (classes,functions);My.Txt K t: a structure (Prop) of the equations over K;
   My.txt_mk:{K} {implicit addresses ..} (e1:nsIn K mainGlobals "law"=some (some (.ref f))) (e2:K.lookup f=some ⟨oc,od,.func (fnOf "law" "law" params body scope dV kV doc pm an cdv ct),sl⟩) (e3:codeIn K cdv "law"=true) ..:∃t,My.Txt K t
set_option maxRecDepth 100000 in
set_option maxHeartbeats 0 in
theorem PySem.Challenge.cw_LID_holds : PySem.Challenge.rw_LID.Holds := by
 w_on; o_law; k_head; (case hw => w_witness2)
 k_fill
 refine L2.vg (l := PySem.Challenge.rw_LID) (n := 63) (k := 40) (x := "script") (CX := λw => ..) (sp := λ_ => My.sp_law) rfl (by decide) rfl ⟨rfl, by decide, by decide⟩ (λw h Y => PySem.W.kIn_of Y) ?F ?S ?C
 case F =>
  intro w mg fa h KX G hmg;have T : ∃t, My.Txt (L2.JE KX) t := by
   dsimp only [L2.JE]                          -- K must stand as «<heap const> w.params» for k_is;refine' My.txt_mk ?e1 ?e2 ?e3 ..
   (case e1 => PySem.W.k_is)                    -- in the order: a name -> its address -> its object -> its parts
   (case e2 => PySem.W.k_is)
   ..
  obtain ⟨t, T⟩ := T;have e0 := hmg.symm.trans (ba KX G T.law);cases e0                                       -- fa is the law's own address;exact ⟨_, λs u => .of_eq rfl, λbase kb nb => My.law_fn T kb nb⟩     -- if «.of_eq rfl» comes too early: refine' ⟨_, ?b, λbase kb nb => My.law_fn T kb nb⟩; exact λs u => .of_eq rfl
 case S => exact λw H a ns hl hO hS => ..
 case C => exact ..
(the tactic k_is has no namespace: write k_is) -/
namespace L2
open PySem PySem.Spec PyProof.Rows
def io(s:Stmt):Arguments:=match s with
 | .FunctionDef _ a _ _ _ _ _ _ _ _=>a
 | _=>{ posonlyargs:=[],args:=[],vararg:=none,kwonlyargs:=[],kw_defaults:=[],kwarg:=none,defaults:=[] }
def ff(s:Stmt):List Stmt:=match s with
 | .FunctionDef _ _ b _ _ _ _ _ _ _=>b
 | _=>[]
def aq(s:Stmt):Scope:=match s with
 | .FunctionDef _ _ _ _ _ _ sc _ _ _=>sc
 | _=>{ kind:=.function,names:=[],isGenerator:=false,isCoroutine:=false }
abbrev uS:yi:=λ_ _ _ _ _ _=>False
abbrev E0:XK:=λ_ _ _=>False
def HA{X:Cx}:sB uS X E0:=λ_ _ _ _ _ _ _ h=>h.elim
structure sE (K:P5) (x qual:Str) (st:Stmt) (f:Addr) (fd:FuncData):Prop where
 ex:∃ (oc:Value) (od:Option Addr) (kV doc pm:Value) (an:Option Addr) (cdv ct:Value) (osl:Array (Option Value)),
  fd=PySem.W.fnOf x qual (io st) (ff st) (aq st) .none kV doc pm an cdv ct/\K.lookup f=some ⟨oc,od,.func fd,osl⟩/\PySem.W.codeIn K cdv qual=true
 kp:PySem.W.keepIn K (.ref f)=true
section
variable {P:Program} {w:World} {K:P5} {mg:Str->Option Value} {base:Heap}
def sE.ok{x qual:Str}{st:Stmt}{f:Addr}{fd:FuncData}{N ps:List Str}{k:Nat}{sp:Sp}(F:sE K x qual st f fd)(S:bn N ps (aq st))(len:∀vs H Q E,sp vs H Q E->vs.length=ps.length)
  (hbody:∀(cdv:Value) (A:Around) (outer:List Env) (s:Shared) (H:Hp) (vs:List V) (Q:VK) (E:XK),fg k (A.deeper (envOfC qual (aq st) s.heap.objs.size f cdv))->sp vs H Q E →
   ∃t,qo (iY uS P w K mg base N qual (aq st) f cdv A outer s H E).nox (ff st) t/\t { nx:=λ_ H'=>Q .non H',rt:=Q } (start N vs) H):lU P w K mg base uS (k+1) f fd ps sp:=by
 obtain⟨oc,od,kV,doc,pm,an,cdv,ct,osl,rfl,lk,hcd⟩:=F.ex;refine Dl lk hcd S len λA outer s H vs Q E hr hsp=>?_;obtain⟨t,h,q⟩:=hbody cdv A outer s H vs Q E hr hsp;exact⟨t,h.nox,q⟩
def sE.binds{x qual:Str}{st:Stmt}{f:Addr}{fd:FuncData}{ps:List Str}(F:sE K x qual st f fd)
  (h:∀(kV doc pm:Value) (an:Option Addr) (cdv ct:Value) (us:List Value),us.length=ps.length->bindArgs (PySem.W.fnOf x qual (io st) (ff st) (aq st) .none kV doc pm an cdv ct) ⟨us,[]⟩=pure (ps.zip us)):Binds K fd ps []:=by
 obtain⟨oc,od,kV,doc,pm,an,cdv,ct,osl,rfl,lk,hcd⟩:=F.ex;exact .all (h kV doc pm an cdv ct)
def BE{x qual:Str}{st:Stmt}{f:Addr}{oc:Value}{od an:Option Addr}{osl:Array (Option Value)}{kV doc pm cdv ct:Value}(l:K.lookup f=some ⟨oc,od,.func (PySem.W.fnOf x qual (io st) (ff st) (aq st) .none kV doc pm an cdv ct),osl⟩)
  (c:PySem.W.codeIn K cdv qual=true) (k:PySem.W.keepIn K (.ref f)=true):sE K x qual st f (PySem.W.fnOf x qual (io st) (ff st) (aq st) .none kV doc pm an cdv ct):=⟨⟨oc,od,kV,doc,pm,an,cdv,ct,osl,rfl,l,c⟩,k⟩
end
def bU{n:Nat}(h:n<=1000):n<sizeLine:=Nat.lt_of_le_of_lt h (by decide)
section
variable {X:Cx}
def pv (i:Nat) {x:Str} {pos:Pos} (hN:X.N[i]? = some x:=by rfl) (hv:HV X.env.scope x:=by first | exact Or.inl rfl | exact Or.inr (Or.inl rfl) | exact Or.inr (Or.inr rfl)) (hd:(x==("__debug__":Str))=false:=by decide)
  (hcd:(x==("__classdict__":Str))=false:=by decide):PE X (.Name x pos) (oP i):=FE hN hv hd hcd
end
def HK{A B:Prop}(h:B):if false=true then A else B:=by
 rw[PV a8];exact h
def HJ{A B:Prop}(h:A):if true=true then A else B:=by
 rw[PX rfl];exact h
def k8{c A B:Prop} [Decidable c] (h1:c->A) (h2:¬c->B):if c then A else B:=by
 by_cases h:c
 ·rw[PX h];exact h1 h
 ·rw[PV h];exact h2 h
def aW(H H':Hp):Prop:=∀b o,H b=some o->H' b=some o
def aW.refl(H:Hp):aW H H:=λ_ _ h=>h
def aW.trans{H H1 H2:Hp}(a:aW H H1)(b:aW H1 H2):aW H H2:=λc o h=>b c o (a c o h)
def aW.free{H H':Hp}(e:aW H H'){l:Addr}(h:H' l=Option.none):H l=Option.none:=by
 cases q:H l with
 | none=>rfl
 | some o=>
  rw[e l o q] at h;cases h
def aW.seq{K:P5}{H H':Hp}{a:Addr}{xs:List V}(e:aW H H')(h:ce K H a xs):ce K H' a xs:=by
 rcases h with (h | ⟨o,h⟩) | h
 ·exact .inl (.inl (e _ _ h))
 ·exact .inl (.inr ⟨o,e _ _ h⟩)
 ·exact .inr h
section
variable {κ:Type} [DecidableEq κ]
def i9(kvs:List (κ×V))(k:κ):Option V:=(kvs.find? λkv=>decide (kv.1=k)).map (·.2)
def putK(kvs:List (κ×V))(k:κ)(v:V):List (κ×V):=
 if (kvs.any λkv=>decide (kv.1=k))=true then kvs.map (λkv=>if kv.1=k then (kv.1,v) else kv) else kvs++[(k,v)]
def fP{p:κ×V}{r:List (κ×V)}{k:κ}(e:p.1=k):i9 (p::r) k=some p.2:=by simp[i9,fD,e]
def fQ{p:κ×V}{r:List (κ×V)}{k:κ}(e:¬p.1=k):i9 (p::r) k=i9 r k:=by simp[i9,fD,e]
def mV(k:κ):∀kvs:List (κ×V),(kvs.any λkv=>decide (kv.1=k))=(i9 kvs k).isSome
 | []=>rfl
 | p::r=>by
  rw[fJ];by_cases e:p.1=k
  ·simp only[fP e,P0 e,Bool.true_or,Option.isSome_some]
  ·rw[fQ e,PZ e,Bool.false_or];exact mV k r
def sK(k j:κ)(y:V):∀kvs:List (κ×V),i9 (kvs.map λkv=>if kv.1=k then (kv.1,y) else kv) j=(i9 kvs j).map λx=>if j=k then y else x
 | []=>rfl
 | p::r=>by
  have ih:=sK k j y r;rw[ae];by_cases h:p.1=k
  ·rw[PX h];by_cases e:p.1=j
   ·rw[fP (p:=(p.1,y)) e,fP e,gC,PX (e.symm.trans h)]
   ·rw[fQ (p:=(p.1,y)) e,fQ e,ih]
  ·rw[PV h];by_cases e:p.1=j
   ·rw[fP (p:=p) e,fP e,gC,PV (λz=>h (e.trans z))]
   ·rw[fQ (p:=p) e,fQ e,ih]
def qC(k j:κ)(y:V):∀kvs:List (κ×V),i9 kvs k=none->i9 (kvs++[(k,y)]) j=if j=k then some y else i9 kvs j
 | [],_=>by
  by_cases e:k=j
  ·rw[PX e.symm];exact fP (p:=(k,y)) e
  ·rw[PV (λz=>e z.symm)];exact fQ (p:=(k,y)) e
 | p::r,hn=>by
  rw[fj];have hk:¬p.1=k:=λz=>by rw[fP z] at hn;cases hn
  rw[fQ hk] at hn;have ih:=qC k j y r hn;by_cases e:p.1=j
  ·rw[fP e,fP e,PV (λz=>hk (e.trans z))]
  ·rw[fQ e,fQ e,ih]
def zO(kvs:List (κ×V))(k j:κ)(y:V):i9 (putK kvs k y) j=if j=k then some y else i9 kvs j:=by
 unfold putK;by_cases a:(kvs.any λkv=>decide (kv.1=k))=true
 ·rw[PX a,sK];rw[mV] at a;by_cases e:j=k
  ·obtain⟨x,hx⟩:=jo.mp a;rw[PX e,e,hx,gC,PX rfl]
  ·rw[PV e];cases i9 kvs j with
   | none=>rfl
   | some x=>rw[gC,PV e]
 ·rw[PV a];refine qC k j y kvs ?_;rw[mV] at a;cases q:i9 kvs k with
  | none=>rfl
  | some x=>rw[q] at a;exact(a rfl).elim
def eW(kvs:List (κ×V))(k:κ)(v:V):(putK kvs k v).length<=kvs.length+1:=by
 unfold putK
 split
 ·rw[aD];lia
 ·rw[bQ,cM,fB];lia
def ny.isSome_eq{o:Option V}{u:Option Value}(r:ny o u):o.isSome=u.isSome:=by
 cases o with
 | none=>cases u with
  | none=>rfl
  | some _=>exact(show False from r).elim
 | some _=>cases u with
  | none=>exact(show False from r).elim
  | some _=>rfl
def KV.val{kvs:List (κ×V)}{vs:List (κ×Value)}(r:KV kvs vs)(k:κ):ny (i9 kvs k) (valueAt vs k):=by
 unfold KV at r
 induction r with
 | nil=>exact True.intro
 | @cons p q ps qs h t ih=>
  obtain⟨h1,h2⟩:=h;by_cases e:p.1=k
  ·have e':q.1=k:=h1.symm.trans e;have b:valueAt (q::qs) k=some q.2:=by simp[valueAt,fD,e']
   rw[fP e,b];exact h2
  ·have e':¬q.1=k:=λz=>e (h1.trans z);have b:valueAt (q::qs) k=valueAt qs k:=by simp[valueAt,fD,e']
   rw[fQ e,b];exact ih
def KV.any{kvs:List (κ×V)}{vs:List (κ×Value)}(r:KV kvs vs)(k:κ):(kvs.any λkv=>decide (kv.1=k))=vs.any λkv=>decide (kv.1=k):=by
 unfold KV at r
 induction r with
 | nil=>rfl
 | cons h t ih=>rw[fJ,fJ,ih,h.1]
def KV.repl{kvs:List (κ×V)}{vs:List (κ×Value)}(r:KV kvs vs)(k:κ){y:V}{u:Value}(ry:RelV y u):
  KV (kvs.map λkv=>if kv.1=k then (kv.1,y) else kv) (vs.map λkv=>if kv.1=k then (kv.1,u) else kv):=by
 unfold KV at r ⊢
 induction r with
 | nil=>exact .nil
 | @cons p q ps qs h t ih=>
  rw[ae,ae];refine .cons ?_ ih;obtain⟨h1,h2⟩:=h;by_cases e:p.1=k
  ·rw[PX e,PX (h1.symm.trans e)];exact⟨h1,ry⟩
  ·rw[PV e,PV (λz=>e (h1.trans z))];exact⟨h1,h2⟩
def KV.put{kvs:List (κ×V)}{vs:List (κ×Value)}(r:KV kvs vs)(k:κ){y:V}{u:Value}(ry:RelV y u):KV (putK kvs k y) (stored vs k u):=by
 unfold putK stored;rw[r.any k];by_cases e:(vs.any λkv=>decide (kv.1=k))=true
 ·rw[PX e,PX e];exact r.repl k ry
 ·rw[PV e,PV e];exact Paired.snoc r ⟨rfl,ry⟩
def KV.length{kvs:List (κ×V)}{vs:List (κ×Value)}(r:KV kvs vs):kvs.length=vs.length:=dB r
end
def we{P:Program}{w:World}{k:Key}{u:Value}(r:RelV (kV k) u):(eI P w).is k u=true:=by
 cases k with
 | inl i=>obtain⟨t,e⟩:=(show ∃t,u=Value.int i t from r);subst e;exact tQ P w i t
 | inr x=>obtain⟨t,e⟩:=(show ∃t,u=Value.str x t from r);subst e;exact tP P w x t
def qV{P:Program}{w:World}:∀{ks:List Key} {us:List Value},bj (ks.map kV) us->ItemsAre (eI P w) ks us
 | [],_,r=>by rw[dy] at r;cases r;exact .nil
 | k::ks,_,r=>by
  rw[ae] at r;cases r with
  | cons h t=>exact .cons (we h) (qV t)
abbrev KT (H:Hp):List (List Key×V)->List (List Key×Addr×Value)->Prop:=Paired λp q=>p.1=q.1/\H q.2.1=some (.tup (p.1.map kV))/\RelV p.2 q.2.2
def KT.val{H:Hp}{kvs:List (List Key×V)}{xs:List (List Key×Addr×Value)}(r:KT H kvs xs)(k:List Key):ny (i9 kvs k) ((atKey xs k).map (·.2)):=by
 induction r with
 | nil=>exact True.intro
 | @cons p q ps qs h t ih=>
  obtain⟨h1,_,h2⟩:=h;by_cases e:p.1=k
  ·have e':q.1=k:=h1.symm.trans e;have b:atKey (q::qs) k=some q.2:=by simp[atKey,fD,e']
   rw[fP e,b];exact h2
  ·have e':¬q.1=k:=λz=>e (h1.trans z);have b:atKey (q::qs) k=atKey qs k:=by simp[atKey,fD,e']
   rw[fQ e,b];exact ih
def KT.repl{H:Hp}{kvs:List (List Key×V)}{xs:List (List Key×Addr×Value)}(r:KT H kvs xs)(k:List Key){y:V}{u:Value}(ry:RelV y u):
  KT H (kvs.map λkv=>if kv.1=k then (kv.1,y) else kv) (xs.map (putAt k u)):=by
 induction r with
 | nil=>exact .nil
 | @cons p q ps qs h t ih=>
  rw[ae,ae];refine .cons ?_ ih;obtain⟨h1,h2,h3⟩:=h;unfold putAt;by_cases e:p.1=k
  ·rw[PX e,PX (h1.symm.trans e)];exact⟨h1,h2,ry⟩
  ·rw[PV e,PV (λz=>e (h1.trans z))];exact⟨h1,h2,h3⟩
def KT.put{H:Hp}{kvs:List (List Key×V)}{xs:List (List Key×Addr×Value)}(r:KT H kvs xs)(k:List Key){b:Addr}{y:V}{u:Value}(hb:H b=some (.tup (k.map kV)))(ry:RelV y u):
  KT H (putK kvs k y) (storedH xs k b u):=by
 have e:(kvs.any λkv=>decide (kv.1=k))=(atKey xs k).isSome:=by
  rw[mV,(r.val k).isSome_eq,Option.isSome_map]
 unfold putK storedH;rw[e];by_cases q:(atKey xs k).isSome=true
 ·rw[PX q,PX q];exact r.repl k ry
 ·rw[PV q,PV q];exact Paired.snoc r ⟨rfl,hb,ry⟩
def KT.keeps{H H':Hp}{kvs:List (List Key×V)}{xs:List (List Key×Addr×Value)}(r:KT H kvs xs)(ht:∀b ys,H b=some (.tup ys)->H' b=some (.tup ys)):KT H' kvs xs:=
 Paired.mapP r λ_ _ z=>⟨z.1,ht _ _ z.2.1,z.2.2⟩
section
variable {P:Program} {w:World} {H:Hp} {h:Heap} {a:Addr}
def Dc{u:HO}(ok:lj P w H h)(e:Rd H a u):cw P w H h a u:=e.ok ok
def BR{kvs:List (Key×V)}(ok:lj P w H h)(e:Rd H a (.dK kvs)):kvs.length<=sizeLine/\(a==sysModules)=false/\∃vs,KV kvs vs/\h.DictOf (eI P w) a vs:=
 show cw P w H h a (.dK kvs) from Dc ok e
def Dm{kvs:List (Key×V)}(ok:lj P w H h)(e:H a=some (.dK kvs)):kvs.length<=sizeLine/\(a==sysModules)=false/\∃vs,KV kvs vs/\h.DictOf (eI P w) a vs:=BR ok (.inl e)
def vL{ks:List Key}(ok:lj P w H h)(e:H a=some (.tup (ks.map kV))):(tupleKind (eI P w)).is h ks a:=by
 obtain⟨_,its,r,o,h1,h2,n,h3⟩:=(show cw P w H h a (.tup (ks.map kV)) from ok a _ e)
 exact⟨o,its.toArray,n,h1,h2,h3,by simpa using qV r⟩
def BQ{kvs:List (List Key×V)}(ok:lj P w H h)(e:Rd H a (.dT kvs)):kvs.length<=sizeLine/\(a==sysModules)=false ∧
  ∃xs,KT H kvs xs/\h.DictOfH (tupleKind (eI P w)) a xs:=by
 obtain⟨z,y,xs,r,o,es,ep,h1,h2,h3,h4,h5⟩:=(show cw P w H h a (.dT kvs) from Dc ok e)
 refine⟨z,y,xs,r,o,es,ep,h1,h2,h3,h4,λx hx=>?_,h5⟩;have all:∀{l:List (List Key×V)} {m:List (List Key×Addr×Value)},KT H l m->∀x∈m,(tupleKind (eI P w)).is h x.1 x.2.1:=by
  intro l m q
  induction q with
  | nil=>intro x hx;exact nomatch hx
  | @cons p q ps qs hq t ih=>
   intro x hx;rcases aI.mp hx with e | hx
   ·subst e;exact vL ok (by rw[<-hq.1];exact hq.2.1)
   ·exact ih x hx
 exact all r x hx
def HR{kvs:List (List Key×V)}(ok:lj P w H h)(e:H a=some (.dT kvs)):kvs.length<=sizeLine/\(a==sysModules)=false ∧
  ∃xs,KT H kvs xs/\h.DictOfH (tupleKind (eI P w)) a xs:=BQ ok (.inl e)
end
def uP(H:Hp)(a:Addr)(y:V)(r:Option V):Prop:=
 (∃kvs k,Rd H a (.dK kvs)/\y=kV k/\r=i9 kvs k)\/∃kvs k b,Rd H a (.dT kvs)/\y=.ref b/\H b=some (.tup (k.map kV))/\r=i9 kvs k
def sG(H:Hp)(a:Addr)(y v:V)(H':Hp):Prop:=
 (∃kvs k,H a=some (.dK kvs)/\y=kV k/\kvs.length<sizeLine/\H'=bW H a (.dK (putK kvs k v))) ∨
 ∃kvs k b,H a=some (.dT kvs)/\y=.ref b/\H b=some (.tup (k.map kV))/\kvs.length<sizeLine/\H'=bW H a (.dT (putK kvs k v))
def uP.k{H:Hp}{a:Addr}{kvs:List (Key×V)}{k:Key}(e:H a=some (.dK kvs)):uP H a (kV k) (i9 kvs k):=.inl ⟨kvs,k,.inl e,rfl,rfl⟩
def sG.k{H:Hp}{a:Addr}{kvs:List (Key×V)}{k:Key}{v:V}(e:H a=some (.dK kvs))(hl:kvs.length<sizeLine):sG H a (kV k) v (bW H a (.dK (putK kvs k v))):=.inl ⟨kvs,k,e,rfl,hl,rfl⟩
section
variable {X:Cx} {pins:List (Addr×Obj)} {σ:St} {H:Hp} {s:Shared} {a:Addr} {y v:V} {u r:Value} {o:Option V} {A:Around} {E:Value->Shared->Prop}
def bT.big(I:bT X pins σ H s):sysModules<s.heap.objs.size:=by
 have h:mainGlobals<s.heap.objs.size:=(I.mod.glob.keeps I.bk).lt;exact Nat.lt_trans (by decide) h
def yT{Q:Value->Shared->Prop}(hu:A.units+1<cLine)(I:bT X pins σ H s)(g:uP H a y (some v))(ry:RelV y u)(h:∀w' s',bT X pins σ H s'->RelV v w'->Q w' s'):
  wpAny (model X.prog X.w) A (getItem (.ref a) u) Q E s:=by
 rcases g with ⟨kvs,k,e,ey,l⟩ | ⟨kvs,k,b,e,ey,eb,l⟩
 ·subst ey;obtain⟨z,hd,vs,rel,dd⟩:=BR I.hok e;obtain⟨w',hw,rw'⟩:=ny.some_of (v:=v) (o:=valueAt vs k) (by rw[l];exact rel.val k);exact wpAny_getItem_of (we ry) dd.mapOf hw (h w' _ (I.tok _) rw')
 ·subst ey;cases (show u=Value.ref b from ry);obtain⟨z,hd,xs,rel,dd⟩:=BQ I.hok e;obtain⟨w',hw,rw'⟩:=ny.some_of (v:=v) (o:=(atKey xs k).map (·.2)) (by rw[l];exact rel.val k);obtain⟨p,hp,hp2⟩:=ke.mp hw;refine wpAny_getItem_heap (tupleKind_room_in1 hu) (vL I.hok eb) dd hp ?_;rw[hp2];exact h w' _ (I.tok _) rw'
def rj{h':Heap}{t':Nat}{ob:HO}(I:bT X pins σ H s)(mu:Hb (H a))(hs:Heap.SameBut a s.heap h')(he:∃q,h'.get? a=some q)(new:cw X.prog X.w (bW H a ob) h' a ob):
  bT X pins σ (bW H a ob) { s with heap:=h',toks:=t' }:=
 I.write (x:=a) (e:=a) mu (.inl rfl) (λb q hb z=>(hs.2 b hb).trans z) he new
def BS{P:Program}{w:World}{H':Hp}{h':Heap}{kvs:List (Key×V)}{vs:List (Key×Value)}(z:kvs.length<=sizeLine)(hd:(a==sysModules)=false)(rel:KV kvs vs)(dd:h'.DictOf (eI P w) a vs):
  cw P w H' h' a (.dK kvs):=⟨z,hd,vs,rel,dd⟩
def yR{H':Hp}{Q:Unit->Shared->Prop}(hu:A.units+1<cLine)(I:bT X pins σ H s)(g:sG H a y v H')(ry:RelV y u)(rv:RelV v r)(h:∀s',bT X pins σ H' s'->Q () s'):
  wpAny (model X.prog X.w) A (setItem (.ref a) u r) Q E s:=by
 rcases g with ⟨kvs,k,e,ey,l,eH⟩ | ⟨kvs,k,b,e,ey,eb,l,eH⟩
 ·subst ey eH;obtain⟨z,hd,vs,rel,dd⟩:=Dm I.hok e;have hz:vs.length<=sizeLine:=by rw[<-rel.length];exact z
  have hl:(putK kvs k v).length<=sizeLine:=by have:=eW kvs k v;lia
  refine wpAny_setItem_pairs (hsz:=hz) (we ry) dd λh' dd' hs=>h _ ?_;have he:∃q,h'.get? a=some q:=let ⟨q,_,_,hq,_⟩:=dd';⟨q,hq⟩;exact rj I (by rw[e];exact True.intro) hs he (BS hl hd (rel.put k rv) dd')
 ·subst ey eH;cases (show u=Value.ref b from ry);obtain⟨z,hd,xs,rel,dd⟩:=HR I.hok e;have hz:xs.length<=sizeLine:=by rw[<-dB rel];exact z
  have hl:(putK kvs k v).length<=sizeLine:=by have:=eW kvs k v;lia
  refine wpAny_setItem_heap (hsz:=hz) (tupleKind_room_in1 hu) (vL I.hok eb) dd λh' dd' hs=>h _ ?_;obtain⟨q,es,ep,hq,h2,h3,h4,_,h5⟩:=dd';refine rj I (by rw[e];exact True.intro) hs ⟨q,hq⟩ ⟨hl,hd,_,(rel.put k eb rv).keeps λc ys ec=>?_,q,es,ep,hq,h2,h3,h4,h5⟩;rw[aP (w9 ec e (λz=>nomatch z))];exact ec
end
def Fq(i:Expr):Prop:=∀ov iv,subscripted i false ov iv=operate [ov,iv] (getItem ov iv)
def Bx{prog:Program}{w:World}{A:Around}{E:Value->Shared->Prop}{s:Shared}{env:Env}{value slice:Expr}{pos:Pos}{T id:String}{Q:Value->Shared->Prop}
  (hl:typeLookup (.type T) "__getitem__"=pure (some (.builtin id))) (hs:Fq slice)
  (h:wpAny (model prog w) A (eval value env) (λo s₁=>wpAny (model prog w) A (eval slice env) (λi s₂=>s₂.TypeIs o T/\wpAny (model prog w) A (getItem o i) Q E s₂) E s₁) E s) :
  wpAny (model prog w) A (eval (.Subscript value slice pos) env) Q E s:=by
 refine Subscript_ (wpAny_mono h (λo s₁ h₁=>wpAny_mono h₁ (λi s₂ h₂=>?_) λ_ _ x=>x) λ_ _ x=>x);obtain⟨hT,h₂⟩:=h₂;unfold subscriptTail;refine wpAny_bind ?_;rw[getitemInPython_of_ne hT.not_modules];refine wpAny_bind (wpAny_specialOf hT hl ?_);have fin:wpAny (model prog w) A (subscripted slice false o i) (λr s₃=>wpAny (model prog w) A (letTemporaryGo value o r>>=λ_=>pure r) Q E s₃) E s₂:=by
  rw[hs o i];exact wpAny_operating (wpAny_mono h₂ (λr s₃ h₃=>wpAny_bind (wpAny_letTemporaryGo (On h₃))) λ_ _ x=>x)
 first
  | exact On (wpAny_bind fin)
  | exact wpAny_bind (On (wpAny_bind fin))
  | exact wpAny_bind fin
def tu {X:Cx} {pins:List (Addr×Obj)} {σ:St} {H:Hp} {s:Shared} {a:Addr} {y:V} {o:Option V} (I:bT X pins σ H s) (g:uP H a y o):s.TypeIs (.ref a) "dict":=by
 rcases g with ⟨kvs,k,e,_,_⟩ | ⟨kvs,k,b,e,_,_,_⟩
 ·obtain⟨_,_,vs,_,dd⟩:=BR I.hok e;exact dd.typeIs
 ·obtain⟨_,_,xs,_,dd⟩:=BQ I.hok e;exact dd.typeIs
def za(td ty:TE):TE:=λσ H Q=>td σ H λx H1=>ty σ H1 λy H2=>∃a v,x=.ref a/\uP H2 a y (some v)/\Q v H2
def zt(td ty tv:TE):TS:=λD σ H=>tv σ H λv H1=>td σ H1 λx H2=>ty σ H2 λy H3=>∃a H4,x=.ref a/\sG H3 a y v H4/\D.nx σ H4
section
variable {X:Cx} {o i value:Expr} {pos pos':Pos} {td ty tv:TE}
def C8(hu:X.A.units+1<cLine)(ho:PE X o td)(hi:PE X i ty)(hs:Fq i):PE X (.Subscript o i pos) (za td ty):=by
 intro pins s σ H Q I h;refine Bx PySem.F.slot_dict_getitem.lookup hs (dW (ho pins s σ H _ I h) λu s1 ⟨x,H1,I1,rx,q1⟩=>dW (hi pins s1 σ H1 _ I1 q1) λiv s2 ⟨y,H2,I2,ry,a,v,ex,g,q2⟩=>?_);subst ex;obtain rfl:u=Value.ref a:=rx;exact⟨tu I2 g,yT hu I2 g ry λw' s3 I3 rw'=>⟨v,H2,I3,rw',q2⟩⟩
def CY(hu:X.A.units+1<cLine)(ho:PE X o td)(hi:PE X i ty)(hv:PE X value tv)(hs:swapsWith value (some (.Subscript o i pos')) pos.line X.env=pure false):
  PS X (.Assign [.Subscript o i pos'] value pos) (zt td ty tv):=by
 intro pins s σ H D I h;refine wpAny_Assign_Subscript (dW (hv pins s σ H _ I h) λr s1 ⟨v,H1,I1,rv,q1⟩=>dW (ho pins s1 σ H1 _ I1 q1) λu s2 ⟨x,H2,I2,rx,q2⟩=>dW (hi pins s2 σ H2 _ I2 q2) λiv s3 ⟨y,H3,I3,ry,a,H4,ex,g,q3⟩=>?_) hs;subst ex;obtain rfl:u=Value.ref a:=rx;exact yR hu I3 g ry rv λs4 I4=>⟨σ,H4,I4,q3⟩
end
def tq {P:Program} {w:World} {H:Hp} (h:Heap) (hb:sysModules<h.objs.size):cw P w H (h.push { cls:=.type "dict",data:=.dict #[] }) h.objs.size (.dK []):=
 ⟨bO _,beq_eq_false_iff_ne.mpr (cU (aV hb)),[],.nil,Heap.DictOf.new h⟩
def u5:TE:=λ_ H Q=>∀p,H p=none->Q (.ref p) (bW H p (.dK []))
section
variable {X:Cx} {pos:Pos}
def A2:PE X (.Dict [] [] pos) u5:=λpins s σ H Q I h=>
 wpAny_Dict_empty ⟨.ref s.heap.objs.size,_,I.laid (a:=s.heap.objs.size) (o:=.dK []) (t':=s.toks) (λ_ _ q=>aB _ q) (aH _) (tq s.heap I.big),rfl,h _ (I.hok.fresh (aH _))⟩
end
def mF:List (TE×TE)->St->Hp->(List (V×V)->Hp->Prop)->Prop
 | [],_,H,Q=>Q [] H
 | (tk,tv)::r,σ,H,Q=>tk σ H λx H1=>tv σ H1 λy H2=>mF r σ H2 λps H3=>Q ((x,y)::ps) H3
abbrev VV:List (V×V)->List (Value×Value)->Prop:=Paired λp q=>RelV p.1 q.1/\RelV p.2 q.2
def HZ(X:Cx)(pos:Pos)(keys:List (Option Expr))(values:List Expr)(trs:List (TE×TE)):Prop:=
 ∀(pins:List (Addr×Obj)) (s:Shared) (σ:St) (H:Hp) (Q:List (V×V)->Hp->Prop),bT X pins σ H s->mF trs σ H Q →
  wpAny (model X.prog X.w) X.A (evalPairs (pairTrees keys values X.env pos)) (λvs s'=>∃ps H',bT X pins σ H' s'/\VV ps vs/\Q ps H') X.xe s
def CZ{X:Cx}{pos:Pos}:HZ X pos [] [] []:=λpins s σ H Q I h=>pairTrees_nil_walk ⟨[],H,I,.nil,h⟩
def AO{X:Cx}{pos:Pos}{k v:Expr}{ks:List (Option Expr)}{vs:List Expr}{tk tv:TE}{trs:List (TE×TE)}(hk:PE X k tk)(hv:PE X v tv)(hr:HZ X pos ks vs trs):
  HZ X pos (some k::ks) (v::vs) ((tk,tv)::trs):=λpins s σ H Q I h=>
 pairTrees_cons_walk (dW (hk pins s σ H _ I h) λu s1 ⟨x,H1,I1,rx,q1⟩=>dW (hv pins s1 σ H1 _ I1 q1) λw2 s2 ⟨y,H2,I2,ry,q2⟩=>
  dW (hr pins s2 σ H2 _ I2 q2) λws s3 ⟨ps,H3,I3,rel,q3⟩=>⟨(x,y)::ps,H3,I3,.cons ⟨rx,ry⟩ rel,q3⟩)
def mK(kvs more:List (Key×V)):List (Key×V):=more.foldl (λacc kv=>putK acc kv.1 kv.2) kvs
def KV.merge:∀{more:List (Key×V)} {rs:List (Key×Value)} {kvs:List (Key×V)} {vs:List (Key×Value)},KV more rs->KV kvs vs->KV (mK kvs more) (merged vs rs):=by
 intro more rs kvs vs r;unfold KV at r
 induction r generalizing kvs vs with
 | nil=>intro q;exact q
 | @cons p q ps qs h t ih=>
  intro r0;have e:KV (putK kvs p.1 p.2) (stored vs q.1 q.2):=by
   have:=r0.put p.1 h.2;rw[<-h.1];exact this
  exact ih e
def ly:∀(more kvs:List (Key×V)),(mK kvs more).length<=kvs.length+more.length
 | [],kvs=>by show kvs.length<=kvs.length+0;lia
 | p::r,kvs=>by
  have h1:=ly r (putK kvs p.1 p.2);have h2:=eW kvs p.1 p.2;show (mK (putK kvs p.1 p.2) r).length<=_;rw[cM];lia
def pN{P:Program}{w:World}:∀{kvs:List (Key×V)} {ws:List (Value×Value)},VV (kvs.map λkv=>(kV kv.1,kv.2)) ws->∃rs,Carries (eI P w) ws rs/\KV kvs rs
 | [],_,r=>by rw[dy] at r;cases r;exact⟨[],True.intro,.nil⟩
 | p::kvs,_,r=>by
  rw[ae] at r;cases r with
  | @cons a b as bs h t=>
   obtain⟨rs,c,q⟩:=pN (P:=P) (w:=w) t;obtain⟨b1,b2⟩:=b;exact⟨(p.1,b2)::rs,⟨we h.1,rfl,c⟩,.cons ⟨rfl,h.2⟩ q⟩
def z9(trs:List (TE×TE)):TE:=λσ H Q=>∀p,H p=none->mF trs σ (bW H p (.dK [])) λps H2=>H2 p=some (.dK [])/\∃kvs:List (Key×V),ps=kvs.map (λkv=>(kV kv.1,kv.2))/\kvs.length<=15/\Q (.ref p) (bW H2 p (.dK (mK [] kvs)))
def C7{X:Cx}{pos:Pos}{keys:List (Option Expr)}{values:List Expr}{trs:List (TE×TE)}(h:HZ X pos keys values trs)(hall:keys.all (·.isSome)=true)(hl:keys.length=values.length)(h0:keys≠[])
  (h15:keys.length<=15):PE X (.Dict keys values pos) (z9 trs):=by
 intro pins s σ H Q I q;have hn:=I.hok.fresh (aH s.heap.objs.size);have I1:=I.laid (a:=s.heap.objs.size) (o:=.dK []) (h':=s.heap.push { cls:=.type "dict",data:=.dict #[] }) (t':=s.toks) (λ_ _ q=>aB _ q) (aH _) (tq s.heap I.big);refine wpAny_Dict_walk (knd:=eI X.prog X.w) hall hl h0 h15 (dW (h pins _ σ _ _ I1 (q _ hn)) λws s2 ⟨ps,H2,I2,rel,e,kvs,ep,lk,q2⟩=>?_);subst ep;obtain⟨rs,c,rk⟩:=pN (P:=X.prog) (w:=X.w) rel;obtain⟨z,hd,vs0,r0,dd⟩:=Dm I2.hok e;cases r0;refine⟨rs,c,dd,λh' dd' hs=>⟨.ref s.heap.objs.size,_,?_,rfl,q2⟩⟩;have hz:(mK [] kvs).length<=sizeLine:=by
  have h1:=ly kvs [];rw[fB] at h1;rw[Os];lia
 have he:∃q,h'.get? s.heap.objs.size=some q:=let ⟨q,_,_,hq,_⟩:=dd';⟨q,hq⟩;exact rj I2 (by rw[e];exact True.intro) hs he (BS hz hd (rk.merge .nil) dd')
mutual
inductive Rep (K:P5) (H:Hp):V->PyData->Prop
 | non:Rep K H .non .none
 | bl (b:Bool):Rep K H (.bl b) (.bool b)
 | int (i:Int):Rep K H (.int i) (.int i)
 | str (x:Str):Rep K H (.str x) (.str x)
 | tup {a:Addr} {xs:List V} {ds:List PyData}:dA K H a xs->nS K H xs ds->Rep K H (.ref a) (.tuple ds)
 | lst {a:Addr} {xs:List V} {ds:List PyData}:ce K H a xs->nS K H xs ds->Rep K H (.ref a) (.list ds)
inductive nS (K:P5) (H:Hp):List V->List PyData->Prop
 | nil:nS K H [] []
 | cons {x:V} {xs:List V} {d:PyData} {ds:List PyData}:Rep K H x d->nS K H xs ds->nS K H (x::xs) (d::ds)
end
section
variable {X:Cx} {pins:List (Addr×Obj)} {σ:St} {H:Hp} {s:Shared}
mutual
def Rep.reads(I:bT X pins σ H s):∀{x:V} {d:PyData} {u:Value},Rep X.K H x d->RelV x u->∃as,Reads s.heap u d as
 | _,_,_,.non,r=>by cases r;exact⟨_,.none⟩
 | _,_,_,.bl b,r=>by cases r;exact⟨_,.bool b⟩
 | _,_,_,.int i,r=>by obtain⟨t,rfl⟩:=r;exact⟨_,.int i t⟩
 | _,_,_,.str x,r=>by obtain⟨t,rfl⟩:=r;exact⟨_,.str x t⟩
 | _,_,_,.tup h hl,r=>by
  cases r;obtain⟨its,vs,⟨o,e,c,n,dd⟩,_⟩:=I.tuple h;obtain⟨as,ra⟩:=nS.reads I hl vs;exact⟨_,.tuple e c dd (by simpa using ra)⟩
 | _,_,_,.lst h hl,r=>by
  cases r;obtain⟨its,vs,pl,_⟩:=I.list h;obtain⟨o,e,c,n,dd⟩:=pl.isList;obtain⟨as,ra⟩:=nS.reads I hl vs;exact⟨_,.list e c dd (by simpa using ra)⟩
def nS.reads(I:bT X pins σ H s):∀{xs:List V} {ds:List PyData} {us:List Value},nS X.K H xs ds->bj xs us->∃as,ReadsAll s.heap us ds as
 | _,_,_,.nil,.nil=>⟨_,.nil⟩
 | _,_,_,.cons h hl,.cons r rs=>by
  obtain⟨as,ra⟩:=Rep.reads I h r;obtain⟨bs,rb⟩:=nS.reads I hl rs;exact⟨_,.cons ra rb⟩
end
end
def CJ(K:P5)(neg:Bool):R2:=λx y H Q=>∃d e,Rep K H x d/\Rep K H y e/\d.canLay0=true/\e.canLay0=true/\min d.depth e.depth<=60 ∧
 Q (.bl (if neg then !PyData.eqv d e else PyData.eqv d e)) H
section
variable {X:Cx}
def Ad(hu:X.A.units+64<cLine):j5 X (compareOp .Eq) (CJ X.K false):=by
 intro pins s σ H x y v u Q I rx ry h;obtain⟨d,e,h1,h2,h3,h4,h5,q⟩:=h;obtain⟨as,ra⟩:=h1.reads I rx;obtain⟨bs,rb⟩:=h2.reads I ry;exact SeqAt.compareEq_reads ra rb h3 h4 (by lia) ⟨.bl _,H,I,rfl,q⟩
def Aa(hu:X.A.units+64<cLine):j5 X (compareOp .NotEq) (CJ X.K true):=by
 intro pins s σ H x y v u Q I rx ry h;obtain⟨d,e,h1,h2,h3,h4,h5,q⟩:=h;obtain⟨as,ra⟩:=h1.reads I rx;obtain⟨bs,rb⟩:=h2.reads I ry;exact SeqAt.compareNe_reads ra rb h3 h4 (by lia) ⟨.bl _,H,I,rfl,q⟩
open Classical in
noncomputable def eqR (h:Heap) (d:PyData) (u:Value):Bool:=if z:∃e as,Reads h u e as/\e.canLay0=true then PyData.eqv z.choose d else false
def BN{h:Heap}{d e:PyData}{u:Value}{as:List Addr}(r:Reads h u e as)(c:e.canLay0=true):eqR h d u=PyData.eqv e d:=by
 have z:∃e as,Reads h u e as/\e.canLay0=true:=⟨e,as,r,c⟩
 unfold eqR;rw[dif_pos z];obtain⟨as',r',c'⟩:=z.choose_spec;rw[SeqAt.Reads.unique _ _ _ _ _ c' r' r]
def my{h:Heap}{d:PyData}:∀{us:List Value} {es:List PyData} {as:List Addr},ReadsAll h us es as->PyData.canLayAll0 es=true->us.any (eqR h d)=es.any λe=>PyData.eqv e d
 | _,_,_,.nil,_=>rfl
 | _,_,_,.cons r rs,c=>by
  have c':(PyData.canLay0 _&&PyData.canLayAll0 _)=true:=c;rw[be] at c';rw[fJ,fJ,BN r c'.1,my rs c'.2]
def md{A:Around}{s:Shared}{d:PyData}{x:Value}{bs:List Addr}(rx:Reads s.heap x d bs)(cx:d.canLay0=true)(hu:A.units+d.depth<cLine):
  ∀{us:List Value} {es:List PyData} {as:List Addr},ReadsAll s.heap us es as->PyData.canLayAll0 es=true->∀u∈us,SeqAt.EqAt A s u x (eqR s.heap d u)
 | _,_,_,.nil,_=>λu hu=>nomatch hu
 | _,_,_,.cons r rs,c=>λu hm=>by
  have c':(PyData.canLay0 _&&PyData.canLayAll0 _)=true:=c;rw[be] at c';rcases aI.mp hm with rfl | hm
  ·rw[BN r c'.1];exact SeqAt.eqAt_reads _ _ A s _ _ _ _ r rx c'.1 cx (by lia)
  ·exact md rx cx hu rs c'.2 u hm
def xV(K:P5)(neg:Bool):R2:=λx y H Q=>∃d es p xs,Rep K H x d/\y=.ref p/\(ce K H p xs\/dA K H p xs)/\nS K H xs es/\d.canLay0=true/\PyData.canLayAll0 es=true/\d.depth<=60 ∧
 Q (.bl (if neg then !(es.any λe=>PyData.eqv e d) else es.any λe=>PyData.eqv e d)) H
def Ac(hu:X.A.units+64<cLine):j5 X (compareOp .In) (xV X.K false):=by
 intro pins s σ H x y v u Q I rx ry h;obtain⟨d,es,p,xs,h1,rfl,hq,h2,h3,h4,h5,q⟩:=h;cases ry;obtain⟨as,ra⟩:=h1.reads I rx;rcases hq with hq | hq
 ·obtain⟨its,r,pl,hz⟩:=I.list hq;obtain⟨bs,rb⟩:=h2.reads I r;refine SeqAt.in_listAt (eqR s.heap d) pl.isList (λz hz=>md (A:=X.A.in1) ra h3 (by show X.A.units+1+d.depth<cLine;lia) rb h4 z (by simpa using hz)) ⟨.bl _,H,I,rfl,?_⟩;rw[show its.toArray.any (eqR s.heap d)=its.any (eqR s.heap d) by simp,my rb h4];exact q
 ·obtain⟨its,r,pl,hz⟩:=I.tuple hq;obtain⟨bs,rb⟩:=h2.reads I r;refine SeqAt.in_tupleAt (eqR s.heap d) pl (λz hz=>md (A:=X.A.in1) ra h3 (by show X.A.units+1+d.depth<cLine;lia) rb h4 z (by simpa using hz)) ⟨.bl _,H,I,rfl,?_⟩;rw[show its.toArray.any (eqR s.heap d)=its.any (eqR s.heap d) by simp,my rb h4];exact q
def xm(hu:X.A.units+64<cLine):j5 X (compareOp .NotIn) (xV X.K true):=by
 intro pins s σ H x y v u Q I rx ry h;obtain⟨d,es,p,xs,h1,rfl,hq,h2,h3,h4,h5,q⟩:=h;cases ry;obtain⟨as,ra⟩:=h1.reads I rx;rcases hq with hq | hq
 ·obtain⟨its,r,pl,hz⟩:=I.list hq;obtain⟨bs,rb⟩:=h2.reads I r;refine SeqAt.notIn_listAt (eqR s.heap d) pl.isList (λz hz=>md (A:=X.A.in1) ra h3 (by show X.A.units+1+d.depth<cLine;lia) rb h4 z (by simpa using hz)) ⟨.bl _,H,I,rfl,?_⟩;rw[show its.toArray.any (eqR s.heap d)=its.any (eqR s.heap d) by simp,my rb h4];exact q
 ·obtain⟨its,r,pl,hz⟩:=I.tuple hq;obtain⟨bs,rb⟩:=h2.reads I r;refine SeqAt.notIn_tupleAt (eqR s.heap d) pl (λz hz=>md (A:=X.A.in1) ra h3 (by show X.A.units+1+d.depth<cLine;lia) rb h4 z (by simpa using hz)) ⟨.bl _,H,I,rfl,?_⟩;rw[show its.toArray.any (eqR s.heap d)=its.any (eqR s.heap d) by simp,my rb h4];exact q
def Ek(K:P5):List V->Hp->VK->Prop:=λxs H Q=>∃x T t b,xs=[x,.ty T]/\mR K H x t/\PySem.W.kitOne K t (.type T)=some b/\Q (.bl b) H
def lQ:eA X (.builtin "isinstance") (Ek X.K):=by
 intro pins s σ H xs us Q I r h;obtain⟨x,T,t,b,rfl,ty,e,q⟩:=h;obtain⟨u,w,rfl,rx,rw'⟩:=bj.two r;cases (show w=Value.type T from rw');exact yB I rx ty e λtk=>⟨.bl b,H,I.tok tk,rfl,q⟩
def oA(r r' r2:R2)(ta tb tc td:TE):TE:=λσ H Q=>ta σ H λx H1=>tb σ H1 λy H2=>r x y H2 λz H3=>∃k,z=.bl k ∧
 (if k=true then tc σ H3 λw' H4=>r' y w' H4 λz2 H5=>∃k2,z2=.bl k2/\(if k2=true then td σ H5 λe H6=>r2 w' e H6 Q else Q (.bl false) H5) else Q (.bl false) H3)
def x9{a b c d:Expr}{ta tb tc td:TE}{pos:Pos}{op op' op2:CmpOp}{r r' r2:R2}(ho:j5 X (compareOp op) r)(ho':j5 X (compareOp op') r')(ho2:j5 X (compareOp op2) r2)(ha:PE X a ta)(hb:PE X b tb)(hc:PE X c tc)(hd:PE X d td)
  (hm:lastMarks [op,op',op2] [b,c,d]=false:=by with_unfolding_all rfl):PT X (.Compare a [op,op',op2] [b,c,d] pos) (sN (oA r r' r2 ta tb tc td)):=by
 intro pins s σ H Q I h;refine isTrue_chain (dW (ha pins s σ H _ I h) λv s1 ⟨x,H1,I1,r1,q1⟩=>test_link (dW (hb pins s1 σ H1 _ I1 q1) λu s2 ⟨y,H2,I2,r2',q2⟩=>
  dW (ho pins s2 σ H2 x y v u _ I2 r1 r2' q2) λe s3 ⟨z,H3,I3,r3,k,ek,q3⟩=>?_)) hm
 subst ek;cases r3;refine Oi ?_;cases k with
 | false=>
  obtain⟨k',e',q'⟩:=q3;cases e';exact ite_ff ⟨H3,I3,q'⟩
 | true=>
  refine ite_tt (test_link (dW (hc pins s3 σ H3 _ I3 q3) λw' s4 ⟨z',H4,I4,r4,q4⟩=>dW (ho' pins s4 σ H4 y z' u w' _ I4 r2' r4 q4) λd' s5 ⟨z2,H5,I5,r5,k2,e2,q5⟩=>?_));subst e2;cases r5;refine Oi ?_;cases k2 with
  | false=>
   obtain⟨k',e',q'⟩:=q5;cases e';exact ite_ff ⟨H5,I5,q'⟩
  | true=>
   refine ite_tt (test_last (dW (hd pins s5 σ H5 _ I5 q5) λw2 s6 ⟨z6,H6,I6,r6,q6⟩=>dW (ho2 pins s6 σ H6 z' z6 w' w2 _ I6 r4 r6 q6) λd7 s7 ⟨z7,H7,I7,r7,k7,e7,q7⟩=>?_));subst e7;cases r7;exact Oi ⟨H7,I7,q7⟩
def eG(lo:Int)(n:Nat):List Int:=(List.range n).map λ(i:Nat)=>lo+(i:Int)
def vz:∀{xs:List V} {us:List Value},xs.length=us.length->(∀(j:Nat) x u,xs[j]? = some x->us[j]? = some u->RelV x u)->bj xs us
 | [],[],_,_=>.nil
 | [],_::_,h,_=>by simp at h
 | _::_,[],h,_=>by simp at h
 | x::xs,u::us,h,f=>.cons (f 0 x u rfl rfl) (vz (by simpa using h) λj a b ha hb=>f (j+1) a b (by simpa using ha) (by simpa using hb))
def vN{lo:Int}{n:Nat}{acc:Array Value}(h:ItemsOf (λi v=>∃t,v=.int (lo+i*1) t) acc n):bj ((eG lo n).map V.int) acc.toList:=by
 refine vz (by simp[eG,h.1]) λj x u hx hu=>?_;obtain⟨t,rfl⟩:=h.2 j u (by simpa using hu);have hj:j<n:=by
  have:=(aR.mp hx).1;simpa [eG] using this
 have e:((eG lo n).map V.int)[j]? = some (.int (lo+(j:Int))):=by simp[eG,hj]
 rw[e] at hx;cases hx;exact⟨t,by simp⟩
def y9:eA X (.type "range") (λxs H Q=>∃i j:Int,xs=[.int i,.int j]/\∀p,H p=none->Q (.ref p) (bW H p (.rng i j))):=by
 intro pins s σ H xs us Q I r h;obtain⟨i,j,rfl,q⟩:=h;obtain⟨u,u',rfl,⟨t,rfl⟩,t',rfl⟩:=bj.two r;exact call_range_2 ⟨.ref s.heap.objs.size,_,I.laid (λb o e=>aB _ e) (aH _) (show cw X.prog X.w _ _ _ (.rng i j) from ⟨_,_,_,aK _ rfl⟩),rfl,q _ (I.hok.fresh (aH _))⟩
def ph (hc:X.calm=true):eA X (.type "list") (λxs H Q=>∃p lo hi,xs=[.ref p]/\H p=some (.rng lo hi)/\(-(2 ^ 30)<=lo/\lo<2 ^ 30/\-(2 ^ 30)<=hi/\hi<2 ^ 30/\(hi-lo).toNat<=1000) ∧
  ∀l,H l=none->Q (.ref l) (bW H l (.lst ((eG lo (hi-lo).toNat).map V.int)))):=by
 intro pins s σ H xs us Q I r h;obtain⟨p,lo,hi,rfl,hp,⟨b1,b2,b3,b4,b5⟩,q⟩:=h;obtain⟨u,rfl,rx⟩:=vals1 r;cases rx;obtain⟨t,u,v,e⟩:=(show cw X.prog X.w H s.heap p (.rng lo hi) from I.hok p _ hp)
 have hn:Builtin.Range.rangeSize lo hi 1=(((hi-lo).toNat:Nat):Int):=by rw[rangeSize_one];split<;>lia
 refine call_list_range (n:=(hi-lo).toNat) (I.ok.hd hc) (show IsRange s.heap p lo hi 1 t u v from e) (small_one (by lia) (by lia) (by lia) (by lia)) hn (by lia) λh' tk acc' c' kp e' hit=>?_;have hv:=vN hit;have hz:((eG lo (hi-lo).toNat).map V.int).length<=sizeLine:=by
  rw[aD,eG,aD,j8];exact bI (bU b5)
 exact⟨.ref s.heap.objs.size,_,I.laid kp (aH _) (show cw X.prog X.w _ h' _ (.lst _) from ⟨hz,acc'.toList,c',hv,by simpa using e'⟩),rfl,q _ (I.hok.fresh (aH _))⟩
end
structure Fn (K:P5) (mg:Str->Option Value) (x:Str) (st:Stmt) (ps:List Str):Prop where
 ex:∃ f fd,sE K x x st f fd/\mg x=some (.ref f)/\Binds K fd ps []
structure iM (P:Program) (w:World) (K:P5) (mg:Str->Option Value) (base:Heap) (k:Nat) (x:Str) (st:Stmt) (ps:List Str) (sp:Sp):Prop where
 ex:∃ f fd,sE K x x st f fd/\mg x=some (.ref f)/\Binds K fd ps []/\lU P w K mg base uS k f fd ps sp
def Fn.mk'{P:Program}{w:World}{K:P5}{mg:Str->Option Value}{base:Heap}{k:Nat}{x:Str}{st:Stmt}{ps:List Str}{sp:Sp}(E:Fn K mg x st ps)
  (h:∀f fd,sE K x x st f fd->lU P w K mg base uS k f fd ps sp):iM P w K mg base k x st ps sp:=by
 obtain⟨f,fd,F,m,b⟩:=E.ex;exact⟨f,fd,F,m,b,h f fd F⟩
def aW.new{H H2:Hp}{l:Addr}{o:HO}(s:aW H H2)(h:H l=none):aW H (bW H2 l o):=λb u e=>by rw[aP (bJ e h)];exact s b u e
def nZ{α β:Type}{R:α->β->Prop}:∀{xs:List α} {ys:List β} {x:α} {y:β},Paired R xs ys->R x y->Paired R (xs++[x]) (ys++[y])
 | _,_,_,_,.nil,h=>.cons h .nil
 | _,_,_,_,.cons r t,h=>.cons r (nZ t h)
def eY{α β:Type}{R S:α->β->Prop}:∀{xs:List α} {ys:List β},Paired R xs ys->(∀a b,R a b->S a b)->Paired S xs ys
 | _,_,.nil,_=>.nil
 | _,_,.cons r t,f=>.cons (f _ _ r) (eY t f)
def fU{α β:Type}{R:α->β->Prop}:∀{xs:List α} {ys:List β} {i:Nat} {x:α},Paired R xs ys->xs[i]? = some x->∃y,ys[i]? = some y/\R x y
 | _,_,_,_,.nil,e=>by simp at e
 | _,_,0,_,.cons r _,e=>by simp at e;subst e;exact⟨_,rfl,r⟩
 | _,_,i+1,x,.cons _ t,e=>by
  obtain⟨y,h1,h2⟩:=fU (i:=i) (x:=x) t (by simpa using e);exact⟨y,by simpa using h1,h2⟩
def AY {X:Cx} {x:Str} {i:Int} {pos:Pos} (hg:Gl X x) (hm:∃t,X.mg x=some (.int i t)) (hd:(x==("__debug__":Str))=false:=by decide):PE X (.Name x pos) (tC (.int i)):=
 let ⟨t,h⟩:=hm
 rK hg h ⟨t,rfl⟩ hd
def A4{X:Cx}{k:Nat}{x:Str}{st:Stmt}{ps:List Str}{sp:Sp}{e:Expr}{es:List Expr}{t:TA}{p pos:Pos}(D:iM X.prog X.w X.K X.mg X.base k x st ps sp)(hr:fg k X.A)(hg:Gl X x)(ha:PA X (e::es) t)
  (hdb:(x==("__debug__":Str))=false:=by decide) (he:starEach (e::es) X.env=(false,eval e X.env)::starEach es X.env:=by rfl) (hpl:(backTo pos (starEach es X.env)).any (·.1)=false:=by rfl) :
  PE X (.Call (.Name x p) (e::es) [] pos) (nW sp [] E0 t):=by
 obtain⟨f,fd,F,m,b,G⟩:=D.ex;exact w4 G hr hg m F.kp b .nil HA ha hdb he hpl
section
variable {σ:St} {H:Hp} {Q:VK} {D:Ends}
def Dr{v:V}:oP 0 (some v::σ) H Q=Q v H:=propext ⟨λ⟨_,e,h⟩=>by cases e;exact h,λh=>⟨v,rfl,h⟩⟩
def yn{i:Nat}{x:Option V}:oP (i+1) (x::σ) H Q=oP i σ H Q:=rfl
def Iu{v:V}:tC v σ H Q=Q v H:=rfl
def GO{r:R2}{ta tb:TE}:zW r ta tb σ H Q=ta σ H λx H1=>tb σ H1 λy H2=>r x y H2 Q:=rfl
def GH{r:V->Hp->VK->Prop}{ta:TE}:IF r ta σ H Q=ta σ H λx H1=>r x H1 Q:=rfl
def Bp{g:Int->Int->V}{i j:Int}:CI g (.int i) (.int j) H Q=Q (g i j) H:=propext ⟨λ⟨_,_,e,e',h⟩=>by cases e;cases e';exact h,λh=>⟨i,j,rfl,rfl,h⟩⟩
def JL{C:Int->Int->Prop}{g:Int->Int->V}{i j:Int}:rI C g (.int i) (.int j) H Q=(C i j/\Q (g i j) H):=propext ⟨λ⟨_,_,e,e',h⟩=>by cases e;cases e';exact h,λh=>⟨i,j,rfl,rfl,h⟩⟩
def JK{g:Int->V}{i:Int}:rU g (.int i) H Q=Q (g i) H:=propext ⟨λ⟨_,e,h⟩=>by cases e;exact h,λh=>⟨i,rfl,h⟩⟩
def G5{i j:Int}:Gk (.int i) (.int j) H Q=Q (.bl (decide (i=j))) H:=propext ⟨λ⟨_,h⟩=>by simpa using h,λh=>⟨rfl,by simpa using h⟩⟩
def GP{i j:Int}:Hs (.int i) (.int j) H Q=Q (.bl (!decide (i=j))) H:=propext ⟨λ⟨_,h⟩=>by simpa using h,λh=>⟨rfl,by simpa using h⟩⟩
def G4{i j:Str}:Gk (.str i) (.str j) H Q=Q (.bl (decide (i=j))) H:=propext ⟨λ⟨_,h⟩=>by simpa using h,λh=>⟨rfl,by simpa using h⟩⟩
def D0{i j:Str}:Hs (.str i) (.str j) H Q=Q (.bl (!decide (i=j))) H:=propext ⟨λ⟨_,h⟩=>by simpa using h,λh=>⟨rfl,by simpa using h⟩⟩
def G6{i j:Bool}:Gk (.bl i) (.bl j) H Q=Q (.bl (decide (i=j))) H:=propext ⟨λ⟨_,h⟩=>by simpa using h,λh=>⟨rfl,by simpa using h⟩⟩
def GQ{i j:Bool}:Hs (.bl i) (.bl j) H Q=Q (.bl (!decide (i=j))) H:=propext ⟨λ⟨_,h⟩=>by simpa using h,λh=>⟨rfl,by simpa using h⟩⟩
def G0{b:Bool}{q:Bool->Prop}:(∃k,V.bl b=.bl k/\q k)=q b:=propext ⟨λ⟨_,e,h⟩=>by cases e;exact h,λh=>⟨b,rfl,h⟩⟩
def GZ{b:Int}{q:Int->Prop}:(∃k,V.int b=.int k/\q k)=q b:=propext ⟨λ⟨_,e,h⟩=>by cases e;exact h,λh=>⟨b,rfl,h⟩⟩
def EL{i j:Str}{q:Str->Str->Prop}:(∃a b,V.str i=.str a/\V.str j=.str b/\q a b)=q i j:=
 propext ⟨λ⟨_,_,e,e',h⟩=>by cases e;cases e';exact h,λh=>⟨i,j,rfl,rfl,h⟩⟩
def Iv{CX:yi}{P:Program}{w:World}{K:P5}{mg:Str->Option Value}{base:Heap}{N:List Str}{qual:Str}{scope:Scope}{f:Addr}{cd:Value}{A:Around}{outer:List Env}{s:Shared}{H:Hp}{E:XK}:(iY CX P w K mg base N qual scope f cd A outer s H E).K=K:=rfl
def D7{i:Nat}{te:TE}{ti:Ik}:IK i te ti D σ H=oP i σ H λx _=>te σ H λy H1=>ti x y H1 λz H2=>D.nx (σ.set i (some z)) H2:=rfl
def IC{f:Int->Int->Int}{i j:Int}:JX f (.int i) (.int j) H Q=Q (.int (f i j)) H:=propext ⟨λ⟨_,_,e,e',h⟩=>by cases e;cases e';exact h,λh=>⟨i,j,rfl,rfl,h⟩⟩
def EA{a b:Bool}{q:Bool->Bool->Prop}:(∃c d,V.bl a=.bl c/\V.bl b=.bl d/\q c d)=q a b:=propext ⟨λ⟨_,_,e,e',h⟩=>by cases e;cases e';exact h,λh=>⟨a,b,rfl,rfl,h⟩⟩
def GY{a:Addr}{q:Addr->Prop}:(∃b,V.ref a=.ref b/\q b)=q a:=propext ⟨λ⟨_,e,h⟩=>by cases e;exact h,λh=>⟨a,rfl,h⟩⟩
def Dz{α:Type}{a:Addr}{q:Addr->α->Prop}:(∃b y,V.ref a=.ref b/\q b y)=∃y,q a y:=propext ⟨λ⟨_,y,e,h⟩=>by cases e;exact⟨y,h⟩,λ⟨y,h⟩=>⟨a,y,rfl,h⟩⟩
def EG{i:Int}{q:Int->Prop}:(∃j,[V.int i]=[.int j]/\q j)=q i:=propext ⟨λ⟨_,e,h⟩=>by cases e;exact h,λh=>⟨i,rfl,h⟩⟩
def ED{i:Str}{q:Str->Prop}:(∃j,[V.str i]=[.str j]/\q j)=q i:=propext ⟨λ⟨_,e,h⟩=>by cases e;exact h,λh=>⟨i,rfl,h⟩⟩
def EF{α:Type}{i:Addr}{q:Addr->α->Prop}:(∃j y,[V.ref i]=[.ref j]/\q j y)=∃y,q i y:=propext ⟨λ⟨_,y,e,h⟩=>by cases e;exact⟨y,h⟩,λ⟨y,h⟩=>⟨i,y,rfl,h⟩⟩
def EB{α β:Type}{i:Addr}{q:Addr->α->β->Prop}:(∃j y z,[V.ref i]=[.ref j]/\q j y z)=∃y z,q i y z:=propext ⟨λ⟨_,y,z,e,h⟩=>by cases e;exact⟨y,z,h⟩,λ⟨y,z,h⟩=>⟨i,y,z,rfl,h⟩⟩
def EC{i j:Int}{q:Int->Int->Prop}:(∃a b,[V.int i,V.int j]=[.int a,.int b]/\q a b)=q i j:=propext ⟨λ⟨_,_,e,h⟩=>by cases e;exact h,λh=>⟨i,j,rfl,h⟩⟩
def Du{b:Bool}{q:Int->Prop}{r:Bool->Prop}:((∃i,[V.bl b]=[.int i]/\q i)\/∃k,[V.bl b]=[.bl k]/\r k)=r b:=
 propext ⟨λh=>by rcases h with ⟨_,e,_⟩ | ⟨_,e,h⟩<;>cases e;exact h,λh=>.inr ⟨b,rfl,h⟩⟩
def GS{z:Str}{i:Int}:Gj (.str z) (.int i) H Q=(z.length<=sizeLine/\∃c,nw z.cps.toList i=some c/\Q (.str ⟨#[c]⟩) H):=
 propext ⟨λ⟨_,_,c,e,e',h1,h2,h3⟩=>by cases e;cases e';exact⟨h1,c,h2,h3⟩,λ⟨h1,c,h2,h3⟩=>⟨z,i,c,rfl,rfl,h1,h2,h3⟩⟩
def GT{K:P5}{p:Addr}{i:Int}:CG K (.ref p) (.int i) H Q=∃xs v,ce K H p xs/\nw xs i=some v/\Q v H:=
 propext ⟨λ⟨_,xs,_,v,e,e',h⟩=>by cases e;cases e';exact⟨xs,v,h⟩,λ⟨xs,v,h⟩=>⟨p,xs,i,v,rfl,rfl,h⟩⟩
def GR{K:P5}{p:Addr}{i:Int}:Ej K (.ref p) (.int i) H Q=∃xs v,dA K H p xs/\nw xs i=some v/\Q v H:=
 propext ⟨λ⟨_,xs,_,v,e,e',h⟩=>by cases e;cases e';exact⟨xs,v,h⟩,λ⟨xs,v,h⟩=>⟨p,xs,i,v,rfl,rfl,h⟩⟩
def G9{l:Addr}{y:V}:wY (.ref l) [y] H Q=∃xs,H l=some (.lst xs)/\xs.length<sizeLine/\Q .non (bW H l (.lst (xs++[y]))):=
 propext ⟨λ⟨_,xs,_,e,e',h⟩=>by cases e;cases e';exact⟨xs,h⟩,λ⟨xs,h⟩=>⟨l,xs,y,rfl,rfl,h⟩⟩
def GN{l:Addr}:Gh (.ref l) [] H Q=∃xs y,H l=some (.lst xs)/\xs[xs.length - 1]? = some y/\Q y (bW H l (.lst xs.dropLast)):=
 propext ⟨λ⟨_,xs,y,e,_,h⟩=>by cases e;exact⟨xs,y,h⟩,λ⟨xs,y,h⟩=>⟨l,xs,y,rfl,rfl,h⟩⟩
def rW{α:Type}{f:α->V}{l:List α}{k:Nat}{y:V}(h:(l.map f)[k]? = some y):∃x,l[k]? = some x/\y=f x:=by
 rw[ai] at h;cases e:l[k]? with
 | none=>rw[e] at h;cases h
 | some x=>rw[e] at h;exact⟨x,rfl,(ay h).symm⟩
def lC {K:P5} {l:Addr} {xs:List V} (h:H l=some (.lst xs)):Fz K "list" (.ref l) H:=.inl ⟨rfl,xs,ce.of h⟩
def yo{t:TE}{q:Bool->Hp->Prop}:sN t σ H q=t σ H λx H'=>∃k,x=.bl k/\q k H':=rfl
def GI{t:TE}{q:Bool->Hp->Prop}:tB t σ H q=t σ H λx H'=>∃k,x=.bl k/\q k H':=rfl
def w_and{t u:TT}{q:Bool->Hp->Prop}:E6 t u σ H q=t σ H λc H1=>if c=true then u σ H1 q else q false H1:=rfl
def w_or{t u:TT}{q:Bool->Hp->Prop}:II t u σ H q=t σ H λc H1=>if c=true then q true H1 else u σ H1 q:=rfl
def w_not{t:TT}{q:Bool->Hp->Prop}:EZ t σ H q=t σ H λc H1=>q (!c) H1:=rfl
def zM{ta tb:TE}:zc ta tb σ H Q=ta σ H λx H1=>∃c,x=.bl c/\if c=true then tb σ H1 Q else Q (.bl false) H1:=rfl
def DY{ta tb:TE}:IH ta tb σ H Q=ta σ H λx H1=>∃c,x=.bl c/\if c=true then Q (.bl true) H1 else tb σ H1 Q:=rfl
def yw{ta:TE}:zX ta σ H Q=ta σ H λx H1=>∃c,x=.bl c/\Q (.bl (!c)) H1:=rfl
def GU{t:TT}{ta tb:TE}:IJ t ta tb σ H Q=t σ H λc H1=>if c=true then ta σ H1 Q else tb σ H1 Q:=rfl
def DW{t u:TS}:EV t u D σ H=t { nx:=u D,rt:=D.rt,bk:=D.bk,ct:=D.ct } σ H:=rfl
def w_next:zZ D σ H=D.nx σ H:=rfl
def D5:E4 D σ H=D.bk σ H:=rfl
def zK:Gb D σ H=D.ct σ H:=rfl
def zH{te:TE}:z8 te D σ H=te σ H λ_ H1=>D.nx σ H1:=rfl
def DX{te:TE}:EY te D σ H=te σ H D.rt:=rfl
def yr:Ga D σ H=D.rt .non H:=rfl
def D4{c:TT}{t u:TS}:E1 c t u D σ H=c σ H λb H1=>if b=true then t D σ H1 else u D σ H1:=rfl
def D8{te:TE}{g:TG}:zb te g D σ H=te σ H λx H1=>g x σ H1 D.nx:=rfl
def vm{i:Nat}{v:V}{q:St->Hp->Prop}:mB i v σ H q=q (σ.set i (some v)) H:=rfl
def yq{v:V}{x:Option V}:List.set (x::σ) 0 (some v)=some v::σ:=rfl
def yp{i:Nat}{v:V}{x:Option V}:List.set (x::σ) (i+1) (some v)=x::List.set σ i (some v):=rfl
def DZ{q:List V->Hp->Prop}:zY σ H q=q [] H:=rfl
def zL{ta:TE}{tr:TA}{q:List V->Hp->Prop}:eE ta tr σ H q=ta σ H λx H1=>tr σ H1 λxs H2=>q (x::xs) H2:=rfl
def G7{r:List V->Hp->VK->Prop}{t:TA}:GA r t σ H Q=t σ H λvs H1=>r vs H1 Q:=rfl
def DV{t:TA}:EU t σ H Q=t σ H λxs H1=>xs.length<=sizeLine/\∀p,H1 p=none->Q (.ref p) (bW H1 p (.tup xs)):=rfl
def D3{t:TA}:Bu t σ H Q=t σ H λxs H1=>xs.length<=sizeLine/\∀p,H1 p=none->Q (.ref p) (bW H1 p (.lst xs)):=rfl
def w_call{sp:Sp}{dvs:List V}{E:XK}{t:TA}:nW sp dvs E t σ H Q=t σ H λvs H1=>sp (vs++dvs) H1 Q E:=rfl
def G8{K:P5}{T:String}{r:V->List V->Hp->VK->Prop}{to:TE}{t:TA}:Gc K T r to t σ H Q=to σ H λx H1=>Fz K T x H1/\t σ H1 λxs H2=>r x xs H2 Q:=rfl
def D6{K:P5}{T:String}{r:V->List V->Hp->VK->Prop}{to:TE}:E5 K T r to σ H Q=to σ H λx H1=>Fz K T x H1/\r x [] H1 Q:=rfl
def pS(J:It)(g:TG)(tb:TS)(D:Ends)(σ:St)(H1:Hp):Prop:=∃W:Nat->Nat->St->Hp->Prop,(∃m,W 0 m σ H1)/\∀i m σ H,W i m σ H →
 (J.stop i H/\D.nx σ H)\/(J.go i H/\∃N:St->Hp->Prop,(∀σ' H',N σ' H'->∃m',m'<m/\W (i+1) m' σ' H')/\∀x H',J.yld i H x H'->g x σ H' λσ2 H2=>tb { D with nx:=N,ct:=N,bk:=D.nx } σ2 H2)
def zG{ta:TA}{g:TG}{tb:TS}:mX (wn ta) g tb D σ H=ta σ H λvs H1=>∃j:Int,vs=[.int j]/\-(2 ^ 62)<=j/\j<2 ^ 62/\pS (yh 0 j.toNat) g tb D σ H1:=rfl
def zF{ta:TA}{g:TG}{tb:TS}:mX (wj ta) g tb D σ H=ta σ H λvs H1=>∃i j:Int,vs=[.int i,.int j]/\(-(2 ^ 62)<=i/\i<2 ^ 62/\-(2 ^ 62)<=j/\j<2 ^ 62)/\pS (yh i (j-i).toNat) g tb D σ H1:=rfl
def zD{K:P5}{tl:TE}{g:TG}{tb:TS}:mX (wq K tl) g tb D σ H=tl σ H λx H1=>∃a,x=.ref a/\(∃xs,ce K H1 a xs)/\pS (Bf K a) g tb D σ H1:=rfl
def zB{K:P5}{tl:TE}{g:TG}{tb:TS}:mX (Cy K tl) g tb D σ H=tl σ H λx H1=>∃a,x=.ref a/\(∃xs,dA K H1 a xs)/\pS (Hg K a) g tb D σ H1:=rfl
def yz{K:P5}{n:Nat}{t:yg}{v:V}{q:St->Hp->Prop}:Fc K n t v σ H q=∃a xs,v=.ref a/\dA K H a xs/\xs.length=n/\t xs σ H q:=rfl
def Dw{q:St->Hp->Prop}:Fd [] σ H q=q σ H:=propext ⟨λh=>h.2,λh=>⟨rfl,h⟩⟩
def Bl{t:TG}{u:yg}{v:V}{r:List V}{q:St->Hp->Prop}:BD t u (v::r) σ H q=t v σ H λσ' H'=>u r σ' H' q:=propext ⟨λ⟨_,_,e,h⟩=>by cases e;exact h,λh=>⟨v,r,rfl,h⟩⟩
def sJ{r r' r2:R2}{ta tb tc td:TE}:oA r r' r2 ta tb tc td σ H Q=ta σ H λx H1=>tb σ H1 λy H2=>r x y H2 λz H3=>∃k,z=.bl k ∧
 (if k=true then tc σ H3 λw' H4=>r' y w' H4 λz2 H5=>∃k2,z2=.bl k2/\(if k2=true then td σ H5 λe H6=>r2 w' e H6 Q else Q (.bl false) H5) else Q (.bl false) H3):=rfl
def vy{r r':R2}{ta tb tc:TE}:E3 r r' ta tb tc σ H Q=ta σ H λx H1=>tb σ H1 λy H2=>r x y H2 λz H3=>∃k,z=.bl k ∧
 (if k=true then tc σ H3 λw' H4=>r' y w' H4 Q else Q (.bl false) H3):=rfl
end
def sH{P:List Value->Prop}(h:∀a:Value,P [a]):∀us:List Value,us.length=1->P us
 | [a],_=>h a
def Iw{P:List Value->Prop}{n:Nat}(h:∀(a:Value) (r:List Value),r.length=n->P (a::r)):∀us:List Value,us.length=n+1->P us
 | a::r,e=>h a r (Nat.succ.inj e)
def Bc{P:List Value->Prop}(h:∀a b:Value,P [a,b]):∀us:List Value,us.length=2->P us:=Iw λa=>sH λb=>h a b
def ID{P:List Value->Prop}(h:∀a b c:Value,P [a,b,c]):∀us:List Value,us.length=3->P us:=Iw λa=>Bc λb c=>h a b c
section
variable {X:Cx} {pins:List (Addr×Obj)} {σ:St} {H:Hp} {s:Shared} {h':Heap}
def bT.turnNew{fp:List Addr}{p:Addr}{o:HO}{t':Nat}(I:bT X pins σ H s)(hf:∀b∈fp,lT X pins H b)(k:∀b u,b∉fp->s.heap.get? b=some u->h'.get? b=some u)(hp:s.heap.objs.size<=p)
  (new:cw X.prog X.w (bW H p o) h' p o):bT X pins σ (bW H p o) { s with heap:=h',toks:=t' }:=by
 have hn:H p=none:=I.hok.fresh hp;have nfp:∀b u,H b=some u->b∉fp:=λb u e z=>by rw[(hf b z).1] at e;cases e
 refine I.step (g':=s.gens) (d':=s.drawn) (ch:=fp) (λb hb=>?_) (λb u _ _ hc e _=>k b u hc e) (λb u _ _ hc e _=>⟨u.slots,k b u hc e⟩)
  (λb u _ e n=>by rw[aP (aV (aT (aJ e) hp))];exact n) (λb u hc e=>⟨u,k b u hc e⟩) (λb xs e=>by rw[aP (bJ e hn)];exact e)
  (λb u xs e=>by rw[aP (bJ e hn)];exact e) (λb ps e=>⟨#[],by rw[aP (bJ e hn),e];simp⟩) (λm hm=>?_) (λb u e=>?_) I.bare
 ·obtain⟨_,f1,_,f3,f4,f5⟩:=hf b hb;exact⟨f3,f1,f4,f5⟩
 ·obtain⟨ob,es,ep,ho,r⟩:=hm;exact⟨ob,es,ep,k _ ob (λz=>(hf _ z).2.1 rfl) ho,r⟩
 ·by_cases hb:b=p
  ·subst hb;rw[aE] at e;cases e;exact new
  ·rw[aP hb] at e;refine(I.hok b u e).stay (λc v hc q=>k c v ?_ q) (λc q=>by rw[aP (bJ q hn)];exact q) λc xs q=>by rw[aP (bJ q hn)];exact q
   rcases hc with z | z
   ·rw[z];exact nfp b u e
   ·exact nfp c _ z
end
def JF(x:Str):It:=⟨λi _=>i<x.cps.size,λi H v H'=>H'=H/\∃c,x.cps[i]? = some c/\v=.str ⟨#[c]⟩,λi _=>x.cps.size<=i⟩
def Ib(tl:TE):TI:=λσ H R=>tl σ H λx H1=>∃z,x=.str z/\z.cps.all (·<128)=true/\R (JF z) H1
def JG(x:Str):It:=⟨λi _=>i<x.cps.size,λi H v H'=>∃p c,H p=none/\x.cps[i]? = some c/\v=.ref p/\H'=bW H p (.tup [.int i,.str ⟨#[c]⟩]),λi _=>i=x.cps.size⟩
def HN(ta:TA):TI:=λσ H R=>ta σ H λvs H1=>∃z,vs=[.str z]/\z.cps.all (·<128)=true/\R (JG z) H1
section
variable {σ:St} {H:Hp} {D:Ends}
def zC{tl:TE}{g:TG}{tb:TS}:mX (Ib tl) g tb D σ H=tl σ H λx H1=>∃z,x=.str z/\z.cps.all (·<128)=true/\pS (JF z) g tb D σ H1:=rfl
def zE{ta:TA}{g:TG}{tb:TS}:mX (HN ta) g tb D σ H=ta σ H λvs H1=>∃z,vs=[.str z]/\z.cps.all (·<128)=true/\pS (JG z) g tb D σ H1:=rfl
def GX{a:Str}{q:Str->Prop}:(∃b,V.str a=.str b/\q b)=q a:=propext ⟨λ⟨_,e,h⟩=>by cases e;exact h,λh=>⟨a,rfl,h⟩⟩
end
def lJ:∀{ns:List Int} {us:List Value},bj (ns.map V.int) us->IntsAre us ns
 | [],_,.nil=>.nil
 | n::ns,_,.cons ⟨t,e⟩ r=>by subst e;exact .cons n t (lJ r)
def oM:∀{bs:List Bool} {us:List Value},bj (bs.map V.bl) us->LSm.BoolsAre us bs
 | [],_,.nil=>.nil
 | b::bs,_,.cons r t=>by
  have e:_=Value.bool b:=r;subst e;exact .cons b (oM t)
def qA:∀{ts:List Str} {us:List Value},bj (ts.map V.str) us->∃l:List (Str×Tok),us=strValues l/\l.map (·.1)=ts
 | [],_,.nil=>⟨[],rfl,rfl⟩
 | t::ts,_,.cons ⟨k,e⟩ r=>by
  subst e;obtain⟨l,e1,e2⟩:=qA r;exact⟨(t,k)::l,by rw[e1];rfl,by rw[ae,e2]⟩
section
variable {X:Cx}
def Eg(K:P5):List V->Hp->VK->Prop:=λxs H Q=>∃(p:Addr) (ns:List Int),xs=[.ref p]/\ce K H p (ns.map V.int)/\ns.length<64 ∧
 ∀(l:Addr) (ms:List Int),H l=none->ms.Perm ns->ms.Pairwise (·<=·)->Q (.ref l) (bW H l (.lst (ms.map V.int)))
def nQ:eA X (.builtin "sorted") (Eg X.K):=by
 intro pins s σ H xs us Q I r h;obtain⟨p,ns,rfl,hq,hl,q⟩:=h;obtain⟨u,rfl,rx⟩:=vals1 r;cases rx;obtain⟨its,rv,pl,hz⟩:=I.list hq;have hi:=lJ rv;have hlen:its.length=ns.length:=by have:=rv.length;simpa using this.symm
 refine sorted_ints pl.isList hi (by lia) λout ms hm hp hs=>?_;obtain⟨c,hc⟩:=sortedAll_at s.heap its out;have hml:ms.length=ns.length:=hp.length_eq;exact⟨.ref (s.heap.objs.size+1),bW H (s.heap.objs.size+1) (.lst (ms.map V.int)),I.laid (t':=s.toks) (λb o e=>sortedAll_old e) (dw _)
  (show cw X.prog X.w _ _ _ (.lst _) from ⟨by rw[aD,hml];exact bI (bU (by lia)),out.toList,c,lW hm,by simpa using hc⟩),rfl,q _ ms (I.hok.fresh (dw _)) hp hs⟩
def IT(K:P5)(f:List Bool->Bool):List V->Hp->VK->Prop:=λxs H Q=>∃(p:Addr) (bs:List Bool),xs=[.ref p]/\ce K H p (bs.map V.bl)/\Q (.bl (f bs)) H
def vM{s:Shared}{h':Heap}{o:Obj}(hk:∀b x,b∉[s.heap.objs.size]->(s.heap.push o).get? b=some x->h'.get? b=some x):∀b x,s.heap.get? b=some x->h'.get? b=some x:=
 λb x e=>hk b x (λhm=>by rw[bE.mp hm] at e;exact dC _ (aJ e)) (aB _ e)
def uE (hc:X.calm=true):eA X (.builtin "all") (IT X.K λbs=>bs.all id):=by
 intro pins s σ H xs us Q I r h;obtain⟨p,bs,rfl,hq,q⟩:=h;obtain⟨u,rfl,rx⟩:=vals1 r;cases rx;obtain⟨its,rv,pl,hz⟩:=I.list hq;have hb:=oM rv;have hl:=pl.isList;have hlt:p<s.heap.objs.size:=by obtain⟨_,e,_⟩:=hl;exact aJ e
 refine call_all_walk (wpAny_pyIter_list hl ?_);refine⟨s.heap.objs.size,[s.heap.objs.size,p],[s.heap.objs.size],its.toArray.size,_,_,λi=>(bs[i]?).getD true,rfl,Walks.list (A:=X.A.in1) (I.ok.hd hc) _ p (aV hlt) its.toArray,
  ⟨⟨_,aK _ rfl,rfl,rfl⟩,hl.push _⟩,λi v s' Q' E' hP hQ=>?_,λh' tk hk=>?_⟩
 ·obtain⟨b,e,rfl⟩:=hb.get i v (by simpa using hP);simp only[e,kI] at hQ;exact Oi hQ
 ·have e1:its.toArray.size=bs.length:=by have:=rv.length;simp at this;simp[this]
  rw[e1,LSm.range_all];exact⟨.bl _,H,I.kept (vM hk),rfl,q⟩
def rJoin(K:P5):V->List V->Hp->VK->Prop:=λx vs H Q=>∃(z:Str) (p:Addr) (ts:List Str),x=.str z/\vs=[.ref p]/\ce K H p (ts.map V.str)/\JoinOk z ts=true/\Q (.str (Txt.join z ts)) H
def Cq:He X "str.join" (rJoin X.K):=by
 intro pins s σ H x xs v us Q I r rv h;obtain⟨z,p,ts,rfl,rfl,hq,ok,q⟩:=h;obtain⟨t,rfl⟩:=r;obtain⟨u,rfl,rx⟩:=vals1 rv;cases rx;obtain⟨its,rv',pl,hz⟩:=I.list hq;obtain⟨l,rfl,e⟩:=qA rv';exact SC.join pl.isList e ok λt' k=>⟨.str _,H,I.tok k,⟨t',rfl⟩,q⟩
end
mutual
inductive Dat (H:Hp):V->PyData->Prop
 | non:Dat H .non .none
 | bl (b:Bool):Dat H (.bl b) (.bool b)
 | int (i:Int):Dat H (.int i) (.int i)
 | str (x:Str):Dat H (.str x) (.str x)
 | tup {a:Addr} {xs:List V} {ds:List PyData}:H a=some (.tup xs)->fk H xs ds->Dat H (.ref a) (.tuple ds)
 | lst {a:Addr} {xs:List V} {ds:List PyData}:H a=some (.lst xs)->fk H xs ds->Dat H (.ref a) (.list ds)
inductive fk (H:Hp):List V->List PyData->Prop
 | nil:fk H [] []
 | cons {x:V} {xs:List V} {d:PyData} {ds:List PyData}:Dat H x d->fk H xs ds->fk H (x::xs) (d::ds)
end
mutual
def Dat.rep{K:P5}{H:Hp}:∀{x:V} {d:PyData},Dat H x d->Rep K H x d
 | _,_,.non=>.non
 | _,_,.bl b=>.bl b
 | _,_,.int i=>.int i
 | _,_,.str x=>.str x
 | _,_,.tup h r=>.tup (dA.of h) (fk.rep r)
 | _,_,.lst h r=>.lst (ce.of h) (fk.rep r)
def fk.rep{K:P5}{H:Hp}:∀{xs:List V} {ds:List PyData},fk H xs ds->nS K H xs ds
 | _,_,.nil=>.nil
 | _,_,.cons h r=>.cons (Dat.rep h) (fk.rep r)
end
mutual
def Dat.same{H H':Hp}(s:aW H H'):∀{x:V} {d:PyData},Dat H x d->Dat H' x d
 | _,_,.non=>.non
 | _,_,.bl b=>.bl b
 | _,_,.int i=>.int i
 | _,_,.str x=>.str x
 | _,_,.tup h r=>.tup (s _ _ h) (fk.same s r)
 | _,_,.lst h r=>.lst (s _ _ h) (fk.same s r)
def fk.same{H H':Hp}(s:aW H H'):∀{xs:List V} {ds:List PyData},fk H xs ds->fk H' xs ds
 | _,_,.nil=>.nil
 | _,_,.cons h r=>.cons (Dat.same s h) (fk.same s r)
end
def fk.len{H:Hp}:∀{xs:List V} {ds:List PyData},fk H xs ds->xs.length=ds.length
 | _,_,.nil=>rfl
 | _,_,.cons _ r=>by simp[fk.len r]
def fk.get{H:Hp}:∀{xs:List V} {ds:List PyData} {i:Nat} {x:V},fk H xs ds->xs[i]? = some x->∃d,ds[i]? = some d/\Dat H x d
 | _,_,_,_,.nil,e=>by simp at e
 | _,_,0,_,.cons h _,e=>by simp at e;subst e;exact⟨_,rfl,h⟩
 | _,_,i+1,x,.cons _ r,e=>by
  obtain⟨d,h1,h2⟩:=fk.get (i:=i) (x:=x) r (by simpa using e);exact⟨d,by simpa using h1,h2⟩
def JO:PyData->Value
 | .none=>.type "NoneType"
 | .bool _=>.type "bool"
 | .int _=>.type "int"
 | .str _=>.type "str"
 | .list _=>.type "list"
 | .tuple _=>.type "tuple"
 | .dict _=>.type "dict"
def Dat.ty{K:P5}{H:Hp}{x:V}{d:PyData}(h:Dat H x d):mR K H x (JO d):=by
 cases h with
 | non=>exact .non
 | bl b=>exact .bl b
 | int i=>exact .int i
 | str x=>exact .str x
 | tup h _=>exact .tup h
 | lst h _=>exact .lst h
def isI:PyData->Bool | .int _=>true | .bool _=>true | _=>false
def JA:PyData->Bool | .bool _=>true | _=>false
def Hw:PyData->Bool | .tuple _=>true | _=>false
def isL:PyData->Bool | .list _=>true | _=>false
section
variable {K:P5} {H:Hp} {x:V} {d:PyData} {Q:VK}
def kD (h:Dat H x d) (q:Q (.bl (Hw d)) H):Ek K [x,.ty "tuple"] H Q:=⟨x,"tuple",_,Hw d,rfl,h.ty,by cases h<;>rfl,q⟩
end
def ints_rep{K:P5}{H:Hp}:∀(ns:List Int),nS K H (ns.map V.int) (ns.map PyData.int)
 | []=>.nil
 | n::ns=>.cons (.int n) (ints_rep ns)
def pF:∀ms ns:List Int,PyData.eqvAll (ms.map PyData.int) (ns.map PyData.int)=decide (ms=ns)
 | [],[]=>rfl
 | [],_::_=>by simp[PyData.eqvAll]
 | _::_,[]=>by simp[PyData.eqvAll]
 | p::ps,q::qs=>by
  show (PyData.eqv (.int p) (.int q)&&PyData.eqvAll (ps.map PyData.int) (qs.map PyData.int))=_;rw[pF ps qs];by_cases h1:p=q<;>by_cases h2:ps=qs<;>simp[PyData.eqv,h1,h2]
def iP:∀ns:List Int,PyData.canLayAll0 (ns.map PyData.int)=true
 | []=>rfl
 | n::ns=>by
  show (PyData.canLay0 (.int n)&&PyData.canLayAll0 (ns.map PyData.int))=true;rw[iP ns];rfl
def mO:∀ns:List Int,PyData.depthAll (ns.map PyData.int)=0
 | []=>rfl
 | n::ns=>by
  show max (PyData.depth (.int n)) (PyData.depthAll (ns.map PyData.int))=0;rw[mO ns];rfl
def BP{K:P5}{H:Hp}{a b:Addr}{ms ns:List Int}{Q:VK}(ha:ce K H a (ms.map V.int))(hb:ce K H b (ns.map V.int))(q:Q (.bl (decide (ms=ns))) H):CJ K false (.ref a) (.ref b) H Q:=by
 refine⟨.list (ms.map PyData.int),.list (ns.map PyData.int),.lst ha (ints_rep ms),.lst hb (ints_rep ns),iP ms,iP ns,?_,?_⟩
 ·refine cP (Nat.min_le_left _ _) ?_;show PyData.depthAll (ms.map PyData.int)+1<=60;rw[mO];decide
 ·show Q (.bl (PyData.eqvAll (ms.map PyData.int) (ns.map PyData.int))) H;rw[pF];exact q
def Aw(n:Int)(ns:List Int):((ns.map PyData.int).any λe=>PyData.eqv e (.int n))=decide (n∈ns):=by
 induction ns with
 | nil=>simp
 | cons m ns ih=>
  rw[ae,fJ,ih];by_cases h1:n=m
  ·subst h1;simp[PyData.eqv]
  ·have h2:¬m=n:=λe=>h1 e.symm;by_cases h3:n∈ns<;>simp[PyData.eqv,h1,h2,h3]
def wf{K:P5}{H:Hp}{b:Addr}{n:Int}{ns:List Int}{neg:Bool}{Q:VK}(hb:ce K H b (ns.map V.int)\/dA K H b (ns.map V.int))(q:Q (.bl (if neg then !decide (n∈ns) else decide (n∈ns))) H):xV K neg (.int n) (.ref b) H Q:=by
 refine⟨.int n,ns.map PyData.int,b,_,.int n,rfl,hb,ints_rep ns,rfl,iP ns,bO _,?_⟩;rw[Aw];exact q
def kq(env:Env):List (Str×NameKind)->List (Str×Addr)->List (Str×Addr)
 | [],acc=>acc
 | (n,k)::r,acc=>kq env r (if (k==NameKind.free)=true then (n,(env.cells.lookup n).getD 0)::acc else acc)
def pf{scope:Scope}{env:Env}(h:∀x∈scope.names,x.2=.free->∃c,env.cells.lookup x.1=some c):closureFor scope env=pure (kq env scope.names []):=by
 simp only[closureFor];generalize ([]:List (Str×Addr))=acc
 revert h
 generalize scope.names=l;intro h
 induction l generalizing acc with
 | nil=>rfl
 | cons x l ih=>
  obtain⟨n,k⟩:=x;have ih':=λacc=>ih acc λy hy=>h y (aN _ hy);rw[ki];cases hk:(k==NameKind.free) with
  | false=>
   simp only[dP,P4,pure_bind];rw[show kq env ((n,k)::l) acc=kq env l acc by simp[kq,hk]];exact ih' acc
  | true=>
   obtain⟨c,hc⟩:=h (n,k) ah (by simpa using hk);have e:cellOf env n=pure c:=by unfold cellOf;rw[hc]
   simp only[P3,e,pure_bind];rw[show kq env ((n,k)::l) acc=kq env l ((n,c)::acc) by simp[kq,hk,hc]];exact ih' ((n,c)::acc)
def lP{env:Env}{x:Str}{c:Addr}:∀{l:List (Str×NameKind)} {acc:List (Str×Addr)},(∀y∈l,y.2=.free->∃c,env.cells.lookup y.1=some c)->(kq env l acc).lookup x=some c->acc.lookup x=some c\/env.cells.lookup x=some c
 | [],acc,_,h=>.inl h
 | (n,k)::l,acc,hf,h=>by
  have ih:=lP (l:=l) (acc:=if (k==NameKind.free)=true then (n,(env.cells.lookup n).getD 0)::acc else acc) (λy hy=>hf y (aN _ hy)) h;rcases ih with e | e
  ·cases hk:(k==NameKind.free) with
   | false=>rw[hk] at e;exact .inl (by simpa using e)
   | true=>
    rw[hk] at e;simp only[P3,iI] at e;cases hx:x==n with
    | false=>rw[hx] at e;exact .inl e
    | true=>
     rw[hx] at e;obtain⟨c',hc⟩:=hf (n,k) ah (by simpa using hk);have hxn:x=n:=by simpa using hx
     subst hxn;rw[hc] at e;simp only[kI] at e;exact .inr (hc.trans e)
  ·exact .inr e
def qa{env:Env}{x:Str}:∀{l:List (Str×NameKind)} {acc:List (Str×Addr)},(∃c,acc.lookup x=some c)->∃c,(kq env l acc).lookup x=some c
 | [],acc,h=>h
 | (n,k)::l,acc,h=>by
  refine qa (l:=l) ?_;cases hk:(k==NameKind.free) with
  | false=>simpa using h
  | true=>
   simp only[P3,iI];cases hx:x==n with
   | false=>exact h
   | true=>exact⟨_,rfl⟩
def pM{env:Env}{x:Str}:∀{l:List (Str×NameKind)} {acc:List (Str×Addr)},(x,NameKind.free)∈l->∃c,(kq env l acc).lookup x=some c
 | [],_,h=>nomatch h
 | (n,k)::l,acc,h=>by
  rcases aI.mp h with e | e
  ·cases e;refine qa (l:=l) ?_;simp
  ·exact pM (l:=l) e
def yf(env:Env)(p:Str×NameKind):Str×NameKind:=if (p.2==NameKind.free&&env.scope.kind==.function&&env.kindOf p.1==some .cell) then (p.1,NameKind.cell) else p
def lx(scope:Scope)(env:Env):(relabel scope env).names=scope.names.map (yf env):=by
 show scope.names.map _=_;congr 1
def Bz(env:Env)(p:Str×NameKind):(yf env p).1=p.1:=by unfold yf;split<;>rfl
def mM{env:Env}{x:Str}:∀{names:List (Str×NameKind)},(names.map (yf env)).lookup x=(names.lookup x).map λk=>(yf env (x,k)).2
 | []=>rfl
 | (n,q)::r=>by
  rw[ae];have e:yf env (n,q)=(n,(yf env (n,q)).2):=Prod.ext (Bz env _) rfl;rw[e,iI,iI];cases hx:x==n with
  | true=>
   have hxn:x=n:=by simpa using hx
   subst hxn;rfl
  | false=>exact mM (names:=r)
def m8{scope:Scope}{env:Env}{x:Str}{k:NameKind}(h:(relabel scope env).names.lookup x=some k):scope.names.lookup x=some k\/(k=.cell/\scope.names.lookup x=some .free):=by
 rw[lx,mM] at h;cases e:scope.names.lookup x with
 | none=>rw[e] at h;cases h
 | some q=>
  rw[e] at h;have h':(yf env (x,q)).2=k:=ay h;unfold yf at h'
  split at h'
  ·rename_i hc;have hq:q=.free:=by
    have:=(be _ _).mp ((be _ _).mp hc).1;simpa using this.1
   exact .inr ⟨h'.symm,by rw[hq]⟩
  ·exact .inl (by rw[<-h'])
def rF{scope:Scope}{env:Env}{x:Str}(h:scope.names.lookup x=some .free):(relabel scope env).names.lookup x=some .cell\/(relabel scope env).names.lookup x=some .free:=by
 rw[lx,mM,h];show some (yf env (x,.free)).2=_\/some (yf env (x,.free)).2=_;unfold yf
 split
 ·exact .inl rfl
 ·exact .inr rfl
def yU(X:Cx)(N:List Str)(scope:Scope)(C:Addr)(s:Shared)(H:Hp)(fp:List Addr)(pn:List (Addr×Obj)):Cx:=
 { X with N:=N,s₀:=s,H₀:=H,env:=compEnvC scope (kq X.env scope.names []) C X.env,outer:=X.stack,ex:=fp,fn:=λ_=>false,pn:=pn,xe:=λ_ _=>False }
structure pT (scope:Scope) (ns:List Str):Prop where
 kind:scope.kind=.function
 nocell:∀ y∈scope.names,y.2≠.cell
 names:∀ y∈scope.names,y.2=.local->scope.names.lookup y.1=some .local
 frees:∀ y∈scope.names,y.2=.free->y.1∈ns
inductive mS (X:Cx) (scope:Scope):List Str->List Nat->Prop
 | nil:mS X scope [] []
 | cons {x:Str} {i:Nat} {ns:List Str} {is:List Nat}:X.N[i]? = some x->scope.names.lookup x=some .free->(X.env.kindOf x=some .cell\/X.env.kindOf x=some .free)->mS X scope ns is->mS X scope (x::ns) (i::is)
def mS.mem{X:Cx}{scope:Scope}{ns:List Str}{is:List Nat}{x:Str}(c:mS X scope ns is)(h:x∈ns):X.env.kindOf x=some .cell\/X.env.kindOf x=some .free:=by
 induction c with
 | nil=>exact nomatch h
 | cons _ _ k _ ih=>
  rcases aI.mp h with e | e
  ·subst e;exact k
  ·exact ih e
def mS.len{X:Cx}{scope:Scope}{ns:List Str}{is:List Nat}(c:mS X scope ns is):is.length=ns.length:=by
 induction c with
 | nil=>rfl
 | cons _ _ _ _ ih=>simp[ih]
def mS.at_{X:Cx}{scope:Scope}{ns:List Str}{is:List Nat}(c:mS X scope ns is){j:Nat}{x:Str}(h:ns[j]? = some x):
  ∃i,is[j]? = some i/\X.N[i]? = some x/\scope.names.lookup x=some .free/\(X.env.kindOf x=some .cell\/X.env.kindOf x=some .free):=by
 induction c generalizing j with
 | nil=>simp at h
 | cons a b k _ ih=>
  cases j with
  | zero=>simp at h;subst h;exact⟨_,rfl,a,b,k⟩
  | succ j=>exact ih (by simpa using h)
def yN(σ:St)(i:Nat):Option V:=(σ[i]?).join
def i6(k:Nat)(caps:List Nat)(σ:St):St:=List.replicate k none++caps.map λi=>yN σ i
section
variable {X:Cx} {pins:List (Addr×Obj)} {σ:St} {H:Hp} {s s4:Shared}
def vZ{own ns:List Str}{caps:List Nat}{scope:Scope}{C:Addr}{fp:List Addr}(I:bT X pins σ H s)(S:pT scope ns)(cp:mS X scope ns caps)(hf:∀b∈fp,lT X pins H b)
  (hfl:∀b∈fp,b<s.heap.objs.size) (hC:s.heap.objs.size<=C) (os:s4.os=s.os) (gens:s4.gens=s.gens) (k:∀b o,s.heap.get? b=some o->s4.heap.get? b=some o) {m:Str->Option Value} (hn:s4.heap.Ns C m) :
  bT (yU X (own++ns) scope C s H fp (X.pn++pins)) [] (i6 own.length caps σ) H s4:=by
 have cells:∀x c,(kq X.env scope.names []).lookup x=some c->X.env.cells.lookup x=some c:=λx c e=>by
  rcases lP (λy hy hfr=>I.ok.has y.1 (cp.mem (S.frees y hy hfr))) e with z | z
  ·simp at z
  ·exact z
 have neL:C≠X.env.locals:=ir (aT I.lt hC);have inFs:∀b,b∈j3 X.stack->b=X.env.locals\/b∈X.fs:=λb hb=>aI.mp (I.stkSub b hb);have nst:∀b,b≠X.env.locals->b∉X.fs->b∉j3 X.stack:=λb h1 h2 z=>(inFs b z).elim h1 h2;have cle:∀x c,X.env.cells.lookup x=some c->c<s.heap.objs.size:=λx c e=>by obtain⟨v,q⟩:=I.cell x c e;exact q.lt
 refine⟨⟨I.ok.mod,S.kind,I.ok.glob,I.ok.blt,hC,λx y c h1 h2=>I.ok.inj x y c (cells _ _ h1) (cells _ _ h2),λx hx=>?_,(λx c h=>nomatch h),I.ok.hd,I.ok.frames,.inl rfl,λb hb=>⟨λz=>?_,λx c e=>(hf b hb).2.2.2.2.1 x c (cells _ _ e)⟩,
   I.bs,cP I.ok.bsz I.sz,λb o e hb=>?_,λb hb=>nst b (hf b hb).2.1 (hf b hb).2.2.1,I.stack,I.stkFree⟩,
  os,by rw[gens];exact I.bare,Un.kept k,⟨m,hn,λi x v e1 e2 e3=>?_⟩,λx c e=>?_,?_,λx c e=>I.freeC x c (cells _ _ e),λp hp=>?_,I.hok.kept k,?_⟩
 ·have hx':(relabel scope X.env).names.lookup x=some .cell\/(relabel scope X.env).names.lookup x=some .free:=hx;have hfree:scope.names.lookup x=some .free:=by
   rcases hx' with z | z
   ·rcases m8 z with q | q
    ·exact absurd rfl (S.nocell _ (cZ q))
    ·exact q.2
   ·rcases m8 z with q | q
    ·exact q
    ·exact absurd q.1 (by decide)
  exact pM (cZ hfree)
 ·exact absurd (aT (hfl b hb) hC) (by rw[show b=C from z];exact dC _)
 ·obtain⟨f0,f1,f2,f3,f4,f5⟩:=hf b hb;rcases f3 with z | z
  ·exact I.ok.noex b o e z
  ·exact absurd (aT (aJ e) (cP I.ok.bsz z)) (dC _)
 ·have e2':(List.replicate own.length none++caps.map λi=>yN σ i)[i]? = some (some v):=e2;have e1':(own++ns)[i]? = some x:=e1;by_cases hi:i<own.length
  ·rw[fm (by simpa using hi),kM,PX hi] at e2';cases e2'
  ·rw[cE (by simpa using hi),ky,ai] at e2';rw[cE (by lia)] at e1';obtain⟨i',h1,h2,h3,h4⟩:=cp.at_ e1';rw[h1] at e2';have e4:(σ[i']?).join=some v:=ay e2';have e5:σ[i']? = some (some v):=by
    cases q:σ[i']? with
    | none=>rw[q] at e4;cases e4
    | some w'=>rw[q] at e4;rw[show w'=some v from e4]
   obtain⟨m',hn',hl'⟩:=I.loc;have vis:HV X.env.scope x:=h4.elim (λz=>.inr (.inl z)) λz=>.inr (.inr z);obtain⟨u,r,l⟩:=hl' i' x v h2 e5 vis;refine⟨u,r,.inr ⟨rF h3,?_⟩⟩;obtain⟨c,hc⟩:=pM (env:=X.env) (acc:=[]) (cZ h3);rcases l with ⟨z,_⟩ | ⟨_,c',e6,z⟩
   ·rcases h4 with y | y<;>· rw[y] at z;cases z
   ·have:=cells _ _ hc;rw[e6] at this;cases this;obtain⟨o,ho,hd⟩:=z;exact⟨_,hc,o,k _ _ ho,hd⟩
 ·obtain⟨v,o,ho,hd⟩:=I.cell x c (cells _ _ e);exact⟨v,o,k _ _ ho,hd⟩
 ·exact I.hok.fresh hC
 ·have hp':p∈X.pn++pins:=by simpa [yU] using hp
  obtain⟨a1,a2,a3,a4,a5⟩:=I.pin p hp';exact⟨k _ _ a1,a2,aV (aT (aJ a1) hC),nst _ a3 a4,a5⟩
 ·show (i6 own.length caps σ).length=(own++ns).length;simp[i6,cp.len]
end
def PF(X:Cx)(ifs:List Expr)(t:TT):Prop:=
 ∀(pins:List (Addr×Obj)) (s:Shared) (σ:St) (H:Hp) (Q:Bool->Hp->Prop),bT X pins σ H s->t σ H Q →
  wpAny (model X.prog X.w) X.A (forIn ifs true λc r=>if r=true then do let ok <-isTrue c X.env (eval c X.env);pure (ForInStep.yield ok) else pure (ForInStep.yield r)) (TP X pins σ Q) X.xe s
def nV:TT:=λ_ H q=>q true H
def FD{X:Cx}:PF X [] nV:=λ_ _ _ H _ I h=>On ⟨H,I,h⟩
def jc(J:It)(g:TG)(tf:TT)(te:TE)(Q:VK)(σ:St)(H1:Hp):Prop:=∃W:Nat->Nat->List V->St->Hp->Prop,(∃m,W 0 m [] σ H1)/\∀i m ys σ H,W i m ys σ H →
 (J.stop i H/\ys.length<=sizeLine/\∀p,H p=none->Q (.ref p) (bW H p (.lst ys))) ∨
 (J.go i H/\ys.length<sizeLine/\∀x H',J.yld i H x H'->g x σ H' λσ2 H2=>tf σ2 H2 λb H3=>
  if b=true then te σ2 H3 λy H4=>∃m',m'<m/\W (i+1) m' (ys++[y]) σ2 H4 else ∃m',m'<m/\W (i+1) m' ys σ2 H3)
section
variable {X:Cx} {pins:List (Addr×Obj)} {σ:St} {H:Hp} {s:Shared}
def pd {prog : Program} {w : World} {A : Around} {R : Result → Shared → Prop} {s : Shared} {elt target iter : Expr} {ifs : List Expr} {scope : Scope} {pos : Pos} {it acc : Value} {env : Env} (I : Nat → Shared → Prop)
  (turn : ∀ n s, I n s → wpAny (model prog w) A (pyNext it) (fun r s₁ => match r with
   | none => R (.ok .next) s₁
   | some v => wpAny (model prog w) A (letOwnedTupleGo target it v) (fun _ s₁ => wpAny (model prog w) A (assign target env v) (fun _ s₂ =>
     wpAny (model prog w) A (forIn ifs true fun c r => if r = true then do let ok ← isTrue c env (eval c env); pure (ForInStep.yield ok) else pure (ForInStep.yield r)) (fun ok s₃ =>
      if ok = true then wpAny (model prog w) A (eval elt env) (fun x s₄ =>
       wpAny (model prog w) A (call (.builtin "list.append") [acc, x]) (fun _ s₅ => ∃ m, m < n ∧ I m s₅) (notedBy (model prog w) A env fun e s' => R (.error e) s') s₄) (notedBy (model prog w) A env fun e s' => R (.error e) s') s₃
      else ∃ m, m < n ∧ I m s₃) (notedBy (model prog w) A env fun e s' => R (.error e) s') s₂) (notedBy (model prog w) A env fun e s' => R (.error e) s') s₁) (notedBy (model prog w) A env fun e s' => R (.error e) s') s₁) (notedBy (model prog w) A env fun e s' => R (.error e) s') s)
  (n : Nat) (h : I n s) : codeAny (model prog w) A (.compLoop (.ListComp elt [⟨target, iter, ifs, 0⟩] scope pos) 0 it acc env) R s := by
 refine codeAny_loop rfl I (fun n s hI => ?_) n h
 show wpAny _ A ((compTurn (.ListComp elt [⟨target, iter, ifs, 0⟩] scope pos) 0 it acc env).onRaise (fun x => do noteFrame x env; theTreesLotGoes x)) _ _ s
 refine wpAny_noted ?_
 rw [compTurn_list]
 refine wpAny_bind (wpAny_standAt (wpAny_bind (wpAny_mono (turn n s hI) (fun r s₁ h₁ => ?_) fun _ _ h' => h')))
 cases r with
 | none => exact On h₁
 | some v =>
  refine wpAny_bind (wpAny_mono h₁ (fun _ s₁ h₁ => ?_) fun _ _ h' => h')
  refine wpAny_bind (wpAny_mono h₁ (fun _ s₂ h₂ => wpAny_bind (wpAny_mono h₂ (fun ok s₃ h₃ => ?_) fun _ _ h' => h')) fun _ _ h' => h')
  cases ok with
  | false => exact On ⟨rfl, h₃⟩
  | true =>
   exact wpAny_bind (wpAny_bind (wpAny_mono h₃ (fun x s₄ h₄ => wpAny_bind (wpAny_mono h₄ (fun _ s₅ h₅ => On (On ⟨rfl, h₅⟩)) fun _ _ h' => h')) fun _ _ h' => h'))
def BZ{own ns:List Str}{caps:List Nat}{elt tg iter:Expr}{ifs:List Expr}{scope:Scope}{pos:Pos}{it:Addr}{fp:List Addr}{tn:Nat->Heap->Prop}{J:It}{g:TG}{tf:TT}{te:TE}{Q:VK}{E:Value->Shared->Prop}{RR:Value->Addr->Result->Shared->Prop}
  (hc:X.calm=true) (S:pT scope ns) (cp:mS X scope ns caps)
  (hg:∀C s H fp pn,PG (yU X (own++ns) scope C s H fp pn) tg g) (ht:∀C s H fp pn,PF (yU X (own++ns) scope C s H fp pn) ifs tf) (he:∀C s H fp pn,PE (yU X (own++ns) scope C s H fp pn) elt te)
  (I:bT X pins σ H s) (T:Turn X.prog X.w X.K tg J fp it tn) (st:tn 0 s.heap) (hf:∀b∈fp,lT X pins H b) (hJ:jc J g tf te Q (i6 own.length caps σ) H)
  (fin:∀D C m s' H' ys,D≠C->s'.heap.Ns C m->lT X pins (bW H' D (.lst ys)) C->bT X pins σ (bW H' D (.lst ys)) s'->Q (.ref D) (bW H' D (.lst ys))->RR (.ref D) C (.ok .next) s') :
  wpAny (model X.prog X.w) X.A (newList []) (λacc s₃=>wpAny (model X.prog X.w) X.A (newFunctionEnv scope X.env.globals (kq X.env scope.names []) [] X.env.qual none .none (some X.env)) (λcenv s₄=>
   codeAny (model X.prog X.w) X.A (.compStart (.ListComp elt [⟨tg,iter,ifs,0⟩] scope pos) 0 (.ref it) acc { cenv with scope:=relabel scope X.env }) (RR acc cenv.locals) s₄) E s₃) E s:=by
 refine Oz (wpAny_newFunctionEnv S.nocell (by intro y hy;simp at hy) (λh₁ hns₁ hsb₁=>?_) S.kind);dsimp only at hns₁ hsb₁ ⊢;generalize hH2:s.heap.push { cls:=.type "list",dict:=none,data:=.seq ([]:List Value).toArray }=H2 at hns₁ hsb₁ ⊢;have hC:H2.objs.size=s.heap.objs.size+1:=by rw[<-hH2,cL]
 have hDC:s.heap.objs.size≠H2.objs.size:=by rw[hC];exact aV (dk _)
 have hCle:s.heap.objs.size<=H2.objs.size:=by rw[hC];exact dw _
 have old:∀b o,s.heap.get? b=some o->h₁.get? b=some o:=λb o e=>hsb₁.extBut b o (by rw[hC];exact aV (bF (aJ e))) (aB _ (hH2▸aB _ e));have hacc:h₁.PlainList s.heap.objs.size #[]:=⟨_,hsb₁.extBut _ _ hDC (aB _ (hH2▸aK _ rfl))⟩
 have hfl:∀b∈fp,b<s.heap.objs.size:=λb hb=>by obtain⟨o,e,_⟩:=T.obj _ _ st b hb;exact aJ e
 generalize hD:s.heap.objs.size=D at hDC hacc ⊢;generalize hCe:H2.objs.size=C at hns₁ hsb₁ hDC hCle hC ⊢;have hDle:s.heap.objs.size<=D:=by rw[hD];exact aH _
 have hCle':s.heap.objs.size<=C:=by rw[hD];rw[hD] at hCle;exact hCle
 have I₁:bT (yU X (own++ns) scope C s H fp (X.pn++pins)) [] (i6 own.length caps σ) H { s with heap:=h₁,toks:=s.toks+([]:List (Str×Value)).length }:=
  vZ I S cp hf hfl hCle' rfl rfl old hns₁
 have st₁:tn 0 h₁:=T.keep _ _ _ st λb _ o e=>old b o e;generalize hY:yU X (own++ns) scope C s H fp (X.pn++pins)=Y at I₁;have hgY:PG Y tg g:=hY▸hg C s H fp (X.pn++pins);have htY:PF Y ifs tf:=hY▸ht C s H fp (X.pn++pins);have heY:PE Y elt te:=hY▸he C s H fp (X.pn++pins);have yP:Y.prog=X.prog:=by rw[<-hY];rfl
 have yW:Y.w=X.w:=by rw[<-hY];rfl
 have yK:Y.K=X.K:=by rw[<-hY];rfl
 have yA:Y.A=X.A:=by rw[<-hY];rfl
 have yC:Y.calm=true:=by rw[<-hY];exact hc
 have yE:Y.env=compEnvC scope (kq X.env scope.names []) C X.env:=by rw[<-hY];rfl
 have yX:Y.xe=λ_ _=>False:=by rw[<-hY];rfl
 have yF:Y.fs=j3 X.stack:=by rw[<-hY];rfl
 have yQ:Y.pn=X.pn++pins:=by rw[<-hY];rfl
 have yI:Y.ex=fp:=by rw[<-hY];rfl
 have yS:Y.s₀=s:=by rw[<-hY];rfl
 have yH:Y.H₀=H:=by rw[<-hY];rfl
 have cells:∀x c,Y.env.cells.lookup x=some c->X.env.cells.lookup x=some c:=λx c e=>by
  rw[yE] at e;rcases lP (λy hy hfr=>I.ok.has y.1 (cp.mem (S.frees y hy hfr))) (show (kq X.env scope.names []).lookup x=some c from e) with z | z
  ·simp at z
  ·exact z
 have nst:∀b,b≠X.env.locals->b∉X.fs->b∉Y.fs:=λb h1 h2 z=>by
  rw[yF] at z;exact(aI.mp (I.stkSub b z)).elim h1 h2
 have fpY:∀{H':Hp},(∀b∈fp,H' b=none)->∀b∈fp,lT Y [] H' b:=fun {H'} hn b hb=>by
  obtain⟨f0,f1,f2,f3,f4,f5⟩:=hf b hb;refine⟨hn b hb,?_,nst b f1 f2,.inl (by rw[yI];exact hb),λx c e=>f4 x c (cells x c e),λp hp=>f5 p (by simpa [yQ] using hp)⟩;rw[yE];exact aV (aT (hfl b hb) hCle')
 have fpD:∀{H':Hp},H' D=none->lT Y [] H' D:=fun {H'} hn=>by
  obtain⟨f0,f1,f2,f3,f4,f5⟩:=I.fpOk (H':=H') hDle hn;refine⟨hn,by rw[yE];exact hDC,nst D f1 f2,.inr (by rw[yS];exact hDle),λx c e=>f4 x c (cells x c e),λp hp=>f5 p (by simpa [yQ] using hp)⟩
 have hDf:D∉fp:=λz=>dC _ (aT (hfl D z) hDle);have objD:∀{h:Heap} {us:List Value},h.PlainList D us.toArray->∃o,h.get? D=some o/\∀v,o.data≠.cell v:=fun {h us} ⟨n,e⟩=>⟨_,e,λv z=>by cases z⟩
 have noErr:∀{α:Type} {t:Sem α} {Qt:α->Shared->Prop} {sx:Shared} {E':Value->Shared->Prop},wpAny (model Y.prog Y.w) Y.A t Qt Y.xe sx->wpAny (model X.prog X.w) X.A t Qt E' sx:=fun {α t Qt sx E'} h=>by
  rw[yP,yW,yA,yX] at h;exact wpAny_mono h (λ_ _ q=>q) λ_ _ f=>f.elim
 obtain⟨W,⟨m0,w0⟩,turn⟩:=hJ;have TY:Turn Y.prog Y.w Y.K tg J fp it tn:=by rw[yP,yW,yK];exact T
 have loop:∀s₃:Shared,s₃={ s with heap:=h₁,toks:=s.toks+([]:List (Str×Value)).length } →
   codeAny (model X.prog X.w) X.A (.compLoop (.ListComp elt [⟨tg,iter,ifs,0⟩] scope pos) 0 (.ref it) (.ref D) (compEnvC scope (kq X.env scope.names []) C X.env)) (RR (.ref D) C) s₃:=by
  rintro s₃ rfl;refine pd (λn s'=>∃i ys us σ' H',bT Y [] σ' H' s'/\tn i s'.heap/\(∀b∈fp,H' b=none)/\H' D=none/\s'.heap.PlainList D us.toArray/\bj ys us/\W i n ys σ' H') ?_ m0
   ⟨0,[],[],_,H,I₁,st₁,λb hb=>(hf b hb).1,I.hok.fresh hDle,hacc,.nil,w0⟩
  rintro n s3 ⟨i,ys,us,σ3,H3,I3,st3,fr3,hD3,Hu,v3,w3⟩;have fD3:∀b∈[D],lT Y [] H3 b:=λb hb=>by
   have e:b=D:=by simpa using hb
   subst e;exact fpD hD3
  have I3':bT Y ([]++jg [D] s3.heap) σ3 H3 s3:=I3.pinned fD3 λb hb=>by
   have e:b=D:=by simpa using hb
   subst e;exact objD Hu
  rw[gD] at I3';have fpY':∀{H':Hp},(∀b∈fp,H' b=none)->∀b∈fp,lT Y (jg [D] s3.heap) H' b:=fun {H'} hn b hb=>by
   obtain⟨f0,f1,f2,f3,f4,f5⟩:=fpY hn b hb;refine⟨f0,f1,f2,f3,f4,λp hp=>?_⟩;rcases aQ.mp hp with z | z
   ·exact f5 p (by simpa using z)
   ·have e:p.1=D:=by simpa using (qR z).1
    exact λq=>hDf (by rw[<-e,q];exact hb)
  obtain⟨oD,eD,cD⟩:=objD Hu;have keepD:∀{σ':St} {H':Hp} {s':Shared} {pl:List (Addr×Obj)},bT Y (jg [D] s3.heap++pl) σ' H' s'->s'.heap.PlainList D us.toArray/\H' D=none:=fun {σ' H' s' pl} I'=>by
   have:=I'.pin (D,oD) (a7 _ (bC _ (iE (by simp) eD)));refine⟨?_,this.2.1⟩;obtain⟨k,e⟩:=Hu;rw[e] at eD;cases eD;exact⟨k,this.1⟩
  rcases turn i n ys σ3 H3 w3 with ⟨stop,hlen,qn⟩ | ⟨go,hlen,step⟩
  ·refine noErr (dW (TY.done Y rfl rfl rfl yC i _ s3 σ3 H3 Y.xe I3' (fpY' fr3) st3 stop) λr s4 ⟨hr,I4⟩=>?_);subst hr;obtain⟨pl4,hD4⟩:=keepD (pl:=[]) (by rw[cK];exact I4);have hun:Un (j3 X.stack) fp H H3 s.heap s4.heap:=by have:=I4.base;rw[yF,yI,yS,yH] at this;exact this
   have hok:lj X.prog X.w H3 s4.heap:=by have:=I4.hok;rw[yP,yW] at this;exact this
   obtain⟨m4,hn4,_⟩:=I4.loc;rw[yE] at hn4;have hC4:H3 C=none:=by have:=I4.free;rw[yE] at this;exact this
   have ne:∀b u,H3 b=some u->b≠D:=λb u e z=>by rw[z,hD4] at e;cases e
   refine fin D C m4 s4 H3 ys hDC hn4 (I.fpOk hCle' (by rw[aP (cU hDC)];exact hC4)) (I.call' (ch:=fp) ?_ ?_ ?_ I4.bare ?_) (qn D hD4)
   ·have:=I4.os;rw[yS] at this;exact this
   ·exact⟨hun.keep,hun.slot,λb o e n hx=>by rw[aP (λz=>by rw[z] at e;exact absurd (aJ e) (Nat.not_lt.mpr hDle))];exact hun.free b o e n hx,hun.there,
     λb xs e=>by have:=hun.tups b xs e;rw[aP (ne _ _ this)];exact this,λb o u e=>by have:=hun.frzs b o u e;rw[aP (ne _ _ this)];exact this,
     λb ps e=>by obtain⟨more,q⟩:=hun.tbls b ps e;exact⟨more,by rw[aP (ne _ _ q)];exact q⟩⟩
   ·intro b u e;by_cases hb:b=D
    ·subst hb;rw[aE] at e;cases e;obtain⟨k,e4⟩:=pl4;exact⟨hlen,us,k,v3,e4⟩
    ·rw[aP hb] at e;exact(hok b u e).stay (λc v _ q=>q) (λc q=>by rw[aP (ne _ _ q)];exact q) λc xs q=>by rw[aP (ne _ _ q)];exact q
   ·intro b hb;obtain⟨f0,f1,f2,f3,f4,f5⟩:=hf b hb;exact⟨f3,f1,f4,f5⟩
  ·refine noErr (dW (TY.item Y rfl rfl rfl yC i _ s3 σ3 H3 Y.xe I3' (fpY' fr3) st3 go) λr s4 ⟨u,hr,h4⟩=>?_);subst hr;refine noErr (dW h4 λ_ s5 ⟨x,H5,I5,r5,y5,st5,fr5⟩=>?_);have I5':=I5.pinned (fpY' fr5) (T.obj _ _ st5);rw[<-yE];refine noErr (dW (hgY _ s5 σ3 H5 x u _ I5' r5 (step x H5 y5)) λ_ s6 ⟨σ6,H6,I6,q6⟩=>?_);refine noErr (dW (htY _ s6 σ6 H6 _ I6 q6) λok s7 ⟨H7,I7,q7⟩=>?_);have fpK:∀{σ':St} {H':Hp} {s':Shared},bT Y (jg [D] s3.heap++jg fp s5.heap) σ' H' s'->tn (i+1) s'.heap/\∀b∈fp,H' b=none:=fun {σ' H' s'} I'=>
    ⟨T.keep _ _ _ st5 λb hb o e=>(I'.pin (b,o) (a7 _ (a7 _ (iE hb e)))).1,λb hb=>by
     obtain⟨o,e,_⟩:=T.obj _ _ st5 b hb;exact(I'.pin (b,o) (a7 _ (a7 _ (iE hb e)))).2.1⟩
   cases ok with
   | false=>
    rw[PV a8] at q7 ⊢;obtain⟨m',hm,w7⟩:=q7;obtain⟨pl7,hD7⟩:=keepD I7;obtain⟨st7,fr7⟩:=fpK I7;exact⟨m',hm,i+1,ys,us,σ6,H7,I7.pins_of (λp hp=>nomatch hp),st7,fr7,hD7,pl7,v3,w7⟩
   | true=>
    rw[PX rfl] at q7 ⊢;refine noErr (dW (heY _ s7 σ6 H7 _ I7 q7) λy s8 ⟨yv,H8,I8,r8,m',hm,w8⟩=>?_);obtain⟨pl8,hD8⟩:=keepD I8;obtain⟨st8,fr8⟩:=fpK I8;have hul:us.length=ys.length:=v3.length.symm;refine wpAny_list_append_plain (hsz:=by rw[aO,hul];exact bI hlen) pl8 λh9 pl9 sb9=>?_;obtain⟨d0,d1,d2,d3,d4,d5⟩:=fpD hD8;refine⟨m',hm,i+1,ys++[yv],us++[y],σ6,H8,?_,?_,fr8,hD8,by simpa using pl9,v3.append (.cons r8 .nil),w8⟩
    ·exact(I8.pins_of (pins':=[]) λp hp=>nomatch hp).turned (t':=s8.toks) (λb o hb e=>(sb9.2 b hb).trans e) hD8 d1 d3 d4 d5
    ·exact T.keep _ _ _ st8 λb hb o e=>(sb9.2 b (λz=>hDf (z▸hb))).trans e
 exact codeAny_compStart_list (loop _ rfl) (T.self _ 0 _ _ _ st₁ (loop _ rfl))
def oQ(k:Nat)(caps:List Nat)(wi:TI)(g:TG)(tf:TT)(te:TE):TE:=λσ H Q=>wi σ H λJ H1=>jc J g tf te Q (i6 k caps σ) H1
def mS.cl{scope:Scope}{ns:List Str}{caps:List Nat}(I:bT X pins σ H s)(S:pT scope ns)(cp:mS X scope ns caps):closureFor scope X.env=pure (kq X.env scope.names []):=
 pf λy hy hfr=>I.ok.has y.1 (cp.mem (S.frees y hy hfr))
def C9{own ns:List Str}{caps:List Nat}{elt tg iter:Expr}{ifs:List Expr}{scope:Scope}{pos:Pos}{wi:TI}{g:TG}{tf:TT}{te:TE}(hc:X.calm=true)(S:pT scope ns)(cp:mS X scope ns caps)(hi:PI X tg iter wi)
  (hg:∀C s H fp pn,PG (yU X (own++ns) scope C s H fp pn) tg g) (ht:∀C s H fp pn,PF (yU X (own++ns) scope C s H fp pn) ifs tf) (he:∀C s H fp pn,PE (yU X (own++ns) scope C s H fp pn) elt te)
  (hs:∀x,foldedSetIterable iter X.env x=pure x:=by intro _;rfl):PE X (.ListComp elt [⟨tg,iter,ifs,0⟩] scope pos) (oQ own.length caps wi g tf te):=by
 intro pins s σ H Q I h;rw[eval_ListComp];refine wpAny_comprehension_free (use:=none) rfl hs (cp.cl I S) S.kind S.names (dW (hi pins s σ H _ I h) λv s1 h1=>dW h1 λitv s2 h2=>?_);obtain⟨it,fp,tn,J,H2,e,I2,T,st2,f2,hJ⟩:=h2;subst e;refine BZ hc S cp hg ht he I2 T st2 f2 hJ (RR:=λacc C=>compPost (model X.prog X.w) X.A X.xe none (EP X pins σ Q) acc C) λD C m s' H' ys hDC hn fC I' q=>?_;refine⟨m,hn,λh' hs'=>⟨.ref D,_,?_,rfl,q⟩⟩;obtain⟨f0,f1,f2,f3,f4,f5⟩:=fC;exact I'.turned (t':=s'.toks) (λb o hb e=>(hs'.2 b hb).trans e) f0 f1 f3 f4 f5
def vv{k:Nat}{caps:List Nat}{K:P5}{tl:TE}{g:TG}{tf:TT}{te:TE}{Q:VK}:oQ k caps (wq K tl) g tf te σ H Q=tl σ H λx H1=>∃a,x=.ref a/\(∃xs,ce K H1 a xs)/\jc (Bf K a) g tf te Q (i6 k caps σ) H1:=rfl
def vt{k:Nat}{caps:List Nat}{K:P5}{tl:TE}{g:TG}{tf:TT}{te:TE}{Q:VK}:oQ k caps (Cy K tl) g tf te σ H Q=tl σ H λx H1=>∃a,x=.ref a/\(∃xs,dA K H1 a xs)/\jc (Hg K a) g tf te Q (i6 k caps σ) H1:=rfl
def vx{k:Nat}{caps:List Nat}{ta:TA}{g:TG}{tf:TT}{te:TE}{Q:VK}:oQ k caps (wn ta) g tf te σ H Q=ta σ H λvs H1=>∃j:Int,vs=[.int j]/\-(2 ^ 62)<=j/\j<2 ^ 62/\jc (yh 0 j.toNat) g tf te Q (i6 k caps σ) H1:=rfl
def vw{k:Nat}{caps:List Nat}{ta:TA}{g:TG}{tf:TT}{te:TE}{Q:VK}:oQ k caps (wj ta) g tf te σ H Q=ta σ H λvs H1=>∃i j:Int,vs=[.int i,.int j]/\(-(2 ^ 62)<=i/\i<2 ^ 62/\-(2 ^ 62)<=j/\j<2 ^ 62)/\jc (yh i (j-i).toNat) g tf te Q (i6 k caps σ) H1:=rfl
def vk{x:Str}{l:List Str}{caps:List Nat}:i6 (x::l).length caps σ=none::i6 l.length caps σ:=rfl
def vi{i:Nat}{is:List Nat}:i6 ([]:List Str).length (i::is) σ=yN σ i::i6 ([]:List Str).length is σ:=rfl
def vj:i6 ([]:List Str).length [] σ=[]:=rfl
def yy{x:Option V}:yN (x::σ) 0=x:=rfl
def w_getS{x:Option V}{i:Nat}:yN (x::σ) (i+1)=yN σ i:=rfl
def yx{q:Bool->Hp->Prop}:nV σ H q=q true H:=rfl
end
section
variable {K:P5} {a:Addr} {xs:List V} {g:TG} {tf:TT} {te:TE} {Q:VK} {σ:St} {H:Hp}
def xA{J:It}(n:Nat)(hsz:n<=sizeLine)(Pv:Nat->List V->St->Hp->Prop)(h0:Pv 0 [] σ H)(hlen:∀i ys σ H,Pv i ys σ H->ys.length<=i)(hgo:∀i ys σ H,i<n->Pv i ys σ H->J.go i H)(hstop:∀ys σ H,Pv n ys σ H->J.stop n H)
  (hs:∀i ys σ H x H' (N:List V->St->Hp->Prop),i<n->Pv i ys σ H->J.yld i H x H'->(∀ys σ H,Pv (i+1) ys σ H->N ys σ H)->g x σ H' λσ2 H2=>tf σ2 H2 λb H3=>if b=true then te σ2 H3 λy H4=>N (ys++[y]) σ2 H4 else N ys σ2 H3)
  (hd:∀ys σ H p,Pv n ys σ H->H p=none->Q (.ref p) (bW H p (.lst ys))):jc J g tf te Q σ H:=by
 refine⟨λi m ys σ H=>m=n-i/\i<=n/\Pv i ys σ H,⟨n,by simp,bO _,h0⟩,?_⟩;rintro i m ys σ H ⟨rfl,hi,p⟩;have hy:=hlen i ys σ H p;by_cases hlt:i<n
 ·refine .inr ⟨hgo i ys σ H hlt p,by lia,λx H' y=>?_⟩;exact hs i ys σ H x H' (λys σ H=>∃m',m'<n-i/\m'=n-(i+1)/\i+1<=n/\Pv (i+1) ys σ H) hlt p y λys σ H z=>⟨n-(i+1),by lia,rfl,hlt,z⟩
 ·have e:i=n:=by lia
  subst e;exact .inl ⟨hstop ys σ H p,by lia,λp' hp=>hd ys σ H p' p hp⟩
def y0(Pv:Nat->List V->St->Hp->Prop)(h0:Pv 0 [] σ H)(hl:∀i ys σ H,Pv i ys σ H->ce K H a xs/\ys.length<=i)(hsz:xs.length<=sizeLine)
  (hs:∀i x ys σ H (N:List V->St->Hp->Prop),xs[i]? = some x->Pv i ys σ H->(∀ys σ H,Pv (i+1) ys σ H->N ys σ H)->g x σ H λσ2 H2=>tf σ2 H2 λb H3=>if b=true then te σ2 H3 λy H4=>N (ys++[y]) σ2 H4 else N ys σ2 H3)
  (hd:∀ys σ H p,Pv xs.length ys σ H->H p=none->Q (.ref p) (bW H p (.lst ys))):jc (Bf K a) g tf te Q σ H:=by
 refine xA xs.length hsz Pv h0 (λi ys σ H p=>(hl i ys σ H p).2) (λi ys σ H hi p=>⟨xs,xs[i],(hl i ys σ H p).1,by simp[hi]⟩) (λys σ H p=>⟨xs,(hl _ ys σ H p).1,aH _⟩) ?_ hd;rintro i ys σ H x H' N hi p ⟨rfl,y⟩ hN;exact hs i x ys σ H' N (y xs (hl i ys σ _ p).1) p hN
def pL{J:It}(n:Nat)(hsz:n<=sizeLine){rest:St}(xs ys:List V)(hl:ys.length=n)(hgo:∀i,i<n->J.go i H)(hstop:J.stop n H)(hy:∀i x H',i<n->J.yld i H x H'->H'=H/\xs[i]? = some x)
  (hs:∀(i:Nat) (x y:V) (Q':VK),xs[i]? = some x->ys[i]? = some y->Q' y H->te (some x::rest) H Q')
  (q:∀p,H p=none->Q (.ref p) (bW H p (.lst ys))):jc J (mB 0) nV te Q (none::rest) H:=by
 refine xA n hsz (λi zs σ H'=>H'=H/\zs=ys.take i/\∃x,σ=x::rest) ⟨rfl,by simp,_,rfl⟩ ?_ ?_ ?_ ?_ ?_
 ·rintro i zs σ H' ⟨rfl,rfl,_⟩;rw[dN];lia
 ·rintro i zs σ H' hi ⟨rfl,_,_⟩;exact hgo i hi
 ·rintro zs σ H' ⟨rfl,_,_⟩;exact hstop
 ·rintro i zs σ H1 x H' N hi ⟨rfl,rfl,z,rfl⟩ y hN;obtain⟨rfl,hx⟩:=hy i x H' hi y;show te (some x::rest) H' _;have hyi:ys[i]? = some ys[i]:=aL (by lia);refine hs i x ys[i] _ hx hyi (hN _ _ _ ⟨rfl,?_,_,rfl⟩);rw[dZ,hyi];rfl
 ·rintro zs σ H' p ⟨rfl,rfl,_⟩ hp;rw[<-hl,dm];exact q p hp
def q9{rest:St}(hx:ce K H a xs)(hsz:xs.length<=sizeLine)(ys:List V)(hl:ys.length=xs.length)
  (hs:∀(i:Nat) (x y:V) (Q':VK),xs[i]? = some x->ys[i]? = some y->Q' y H->te (some x::rest) H Q')
  (q:∀p,H p=none->Q (.ref p) (bW H p (.lst ys))):jc (Bf K a) (mB 0) nV te Q (none::rest) H:=by
 refine pL xs.length hsz xs ys hl (λi hi=>⟨xs,xs[i],hx,by simp[hi]⟩) ⟨xs,hx,aH _⟩ (λi x H' hi y=>⟨y.1,y.2 xs hx⟩) hs q
def yY{rest:St}(hx:dA K H a xs)(hsz:xs.length<=sizeLine)(ys:List V)(hl:ys.length=xs.length)
  (hs:∀(i:Nat) (x y:V) (Q':VK),xs[i]? = some x->ys[i]? = some y->Q' y H->te (some x::rest) H Q')
  (q:∀p,H p=none->Q (.ref p) (bW H p (.lst ys))):jc (Hg K a) (mB 0) nV te Q (none::rest) H:=
 pL xs.length hsz xs ys hl (λi hi=>⟨xs,xs[i],hx,by simp[hi]⟩) ⟨xs,hx,aH _⟩ (λi x H' hi y=>⟨y.1,y.2 xs hx⟩) hs q
def yZ{lo:Int}{n:Nat}{rest:St}(hsz:n<=sizeLine)(ys:List V)(hl:ys.length=n)
  (hs:∀(i:Nat) y (Q':VK),i<n->ys[i]? = some y->Q' y H->te (some (.int (lo+i))::rest) H Q')
  (q:∀p,H p=none->Q (.ref p) (bW H p (.lst ys))):jc (yh lo n) (mB 0) nV te Q (none::rest) H:=by
 refine pL n hsz ((List.range n).map λi:Nat=>V.int (lo+i)) ys hl (λi hi=>hi) (aH _) (λi x H' hi y=>⟨y.1,by simp[hi,y.2]⟩) (λi x y Q' hx hy hq=>?_) q;have hi:i<n:=by
  have:=(aR.mp hx).1;simpa using this
 have e:x=.int (lo+i):=by simp[hi] at hx;exact hx.symm
 subst e;exact hs i y Q' hi hy hq
end
def ji{c:Prop} [Decidable c] {A B:Prop} (h:¬c) (b:B):if c then A else B:=by rw[PV h];exact b
def mT{c:Prop} [Decidable c] {A B:Prop} (h:c) (a:A):if c then A else B:=by rw[PX h];exact a
section
variable {X:Cx} {K:P5}
def kC(h:X.K=K):Fs X (CG K):=h▸cQ
def eJ(h:X.K=K):Fs X (Ej K):=h▸eZ
def w6(h:X.K=K)(hu:X.A.units+64<cLine):j5 X (compareOp .In) (xV K false):=h▸Ac hu
def mI(h:X.K=K)(hu:X.A.units+64<cLine):j5 X (compareOp .NotIn) (xV K true):=h▸xm hu
def yb (h:X.K=K):eA X (.builtin "isinstance") (Ek K):=h▸lQ
def jm (h:X.K=K):eA X (.builtin "len") (λxs H Q=>∃p ys,xs=[.ref p]/\(ce K H p ys\/dA K H p ys)/\Q (.int ys.length) H):=h▸bV
def pp (h:X.K=K):eA X (.type "list") (λxs H Q=>∃p ys,xs=[.ref p]/\(ce K H p ys\/dA K H p ys)/\∀l,H l=none->Q (.ref l) (bW H l (.lst ys))):=h▸g6
end
def vc (o:Obj) (xs:List Str):Prop:=o.cls=.type "tuple"/\∃its n,o.data=.seq its n/\its.size<=sizeLine/\bj (xs.map V.str) its.toList
def xK {o:Obj} {xs:List Str} {its:Array Value} {n:Nat} (h1:o.cls=.type "tuple") (h2:o.data=.seq its n) (h3:its.size<=sizeLine) (h4:bj (xs.map V.str) its.toList):vc o xs:=⟨h1,its,n,h2,h3,h4⟩
def BB{K:P5}{h:Heap}{mg:Str->Option Value}{x:Str}{a:Addr}{o:Obj}{xs:List Str}(X:K.In h)(G:h.Ns mainGlobals mg)(y:PySem.W.nsIn K mainGlobals x=some (some (.ref a)))(l:K.lookup a=some o)(t:vc o xs):
  ∃a,mg x=some (.ref a)/\∀H,dA K H a (xs.map V.str):=by
 obtain⟨h1,its,n,h2,h3,h4⟩:=t;exact⟨a,ba X G y,λH=>.inr ⟨o,its,n,l,h1,h2,h3,h4⟩⟩
def uZ(K:P5)(xs:List V):TE:=λ_ H Q=>∀a,(∀H,dA K H a xs)->Q (.ref a) H
def AX {X:Cx} {x:Str} {K:P5} {xs:List V} {pos:Pos} (hg:Gl X x) (hm:∃a,X.mg x=some (.ref a)/\∀H,dA K H a xs) (hd:(x==("__debug__":Str))=false:=by decide):PE X (.Name x pos) (uZ K xs):=by
 obtain⟨a,h1,h2⟩:=hm;intro pins s σ H Q I h;exact rK (v:=.ref a) hg h1 rfl hd pins s σ H Q I (h a h2)
def Bk{K:P5}{xs:List V}{σ:St}{H:Hp}{Q:VK}:uZ K xs σ H Q=∀a,(∀H,dA K H a xs)->Q (.ref a) H:=rfl
def Bv(t u:TS):TS:=λD σ H=>∃J:St->Hp->Prop,t { D with nx:=J } σ H/\∀σ' H',J σ' H'->u D σ' H'
def CU{X:Cx}{st:Stmt}{rest:List Stmt}{t u:TS}(h1:PS X st t)(h2:qo X rest u):qo X (st::rest) (Bv t u):=by
 intro pins s σ H D I h;obtain⟨J,h,hJ⟩:=h;refine Ol (dW (h1 pins s σ H { D with nx:=J } I h) λf s1 q=>?_);cases f with
 | next=>
  obtain⟨σ',H',I',q⟩:=q;exact h2 pins s1 σ' H' D I' (hJ _ _ q)
 | ret v=>exact q
 | brk=>exact q
 | cont=>exact q
section
variable {X:Cx} {es:List Expr} {te:TE} {t:TA}
def A8{a0:PySem.Expr}{a1:PySem.Operator}{a2:PySem.Expr}{a3:PySem.Pos}(ha:PE X (Expr.BinOp a0 a1 a2 a3) te)(hr:PA X es t):PA X ((Expr.BinOp a0 a1 a2 a3)::es) (eE te t):=gA ha hr rfl
def sv{a0:PySem.Expr}{a1:List Comprehension}{a2:PySem.Scope}{a3:PySem.Pos}(ha:PE X (Expr.ListComp a0 a1 a2 a3) te)(hr:PA X es t):PA X ((Expr.ListComp a0 a1 a2 a3)::es) (eE te t):=gA ha hr rfl
def uu{a0:PySem.Expr}{a1:List CmpOp}{a2:List Expr}{a3:PySem.Pos}(ha:PE X (Expr.Compare a0 a1 a2 a3) te)(hr:PA X es t):PA X ((Expr.Compare a0 a1 a2 a3)::es) (eE te t):=gA ha hr rfl
def Cf{a0:PySem.Expr}{a1:List Expr}{a2:List Keyword}{a3:PySem.Pos}(ha:PE X (Expr.Call a0 a1 a2 a3) te)(hr:PA X es t):PA X ((Expr.Call a0 a1 a2 a3)::es) (eE te t):=gA ha hr rfl
def sy{a0:PySem.Const}{a1:Nat}{a2:PySem.Pos}(ha:PE X (Expr.Constant a0 a1 a2) te)(hr:PA X es t):PA X ((Expr.Constant a0 a1 a2)::es) (eE te t):=gA ha hr rfl
def rM{a0:PySem.Expr}{a1:PySem.Str}{a2:PySem.Pos}(ha:PE X (Expr.Attribute a0 a1 a2) te)(hr:PA X es t):PA X ((Expr.Attribute a0 a1 a2)::es) (eE te t):=gA ha hr rfl
def rL{a0:PySem.Expr}{a1:PySem.Expr}{a2:PySem.Pos}(ha:PE X (Expr.Subscript a0 a1 a2) te)(hr:PA X es t):PA X ((Expr.Subscript a0 a1 a2)::es) (eE te t):=gA ha hr rfl
def Cc{a0:PySem.Str}{a1:PySem.Pos}(ha:PE X (Expr.Name a0 a1) te)(hr:PA X es t):PA X ((Expr.Name a0 a1)::es) (eE te t):=gA ha hr rfl
def Cd{a0:List Expr}{a1:PySem.Pos}(ha:PE X (Expr.List a0 a1) te)(hr:PA X es t):PA X ((Expr.List a0 a1)::es) (eE te t):=gA ha hr rfl
def A7{a0:List Expr}{a1:Nat}{a2:PySem.Pos}(ha:PE X (Expr.Tuple a0 a1 a2) te)(hr:PA X es t):PA X ((Expr.Tuple a0 a1 a2)::es) (eE te t):=gA ha hr rfl
def Ce{a0:List (Option Expr)}{a1:List Expr}{a2:PySem.Pos}(ha:PE X (Expr.Dict a0 a1 a2) te)(hr:PA X es t):PA X ((Expr.Dict a0 a1 a2)::es) (eE te t):=gA ha hr rfl
end
def zA{to ti:TE}{t:HW}{v:V}{σ:St}{H:Hp}{q:St->Hp->Prop}:Ic to ti t v σ H q=to σ H λo H1=>ti σ H1 λi H2=>t o i v H2 λH3=>q σ H3:=rfl
def dL{t u:TS}{D:Ends}{σ:St}{H:Hp}(J:St->Hp->Prop)(h1:t { nx:=J,rt:=D.rt,bk:=D.bk,ct:=D.ct } σ H)(h2:∀σ' H',J σ' H'->u D σ' H'):Bv t u D σ H:=⟨J,h1,h2⟩
end L2
namespace Rm
def dl(b:Bool):Int:=if b then 1 else -1
def D(bs:List Bool)(i:Nat):Int:=((bs.take i).map dl).sum
structure Hf (bs:List Bool) (k m:Nat):Prop where
 lt:k<m
 ml:m<bs.length
 op:bs[k]? = some true
 cl:bs[m]? = some false
 eq:D bs (m+1)=D bs k
 gt:∀ i,k<i->i<=m->D bs k<D bs i
end Rm
namespace L2
open PySem PySem.Spec PyProof.Rows
def sE.okS{P:Program}{w:World}{K:P5}{mg:Str->Option Value}{base:Heap}{x qual:Str}{st:Stmt}{f:Addr}{fd:FuncData}{N ps:List Str}{k:Nat}{sp:Sp}(F:sE K x qual st f fd)(S:bn N ps (aq st))(len:∀vs H Q E,sp vs H Q E->vs.length=ps.length)
  (hbody:∀(cdv:Value) (A:Around) (outer:List Env) (s:Shared) (H:Hp) (vs:List V) (Q:VK) (E:XK),fg k (A.deeper (envOfC qual (aq st) s.heap.objs.size f cdv))->sp vs H Q E →
   ∃(σ:St) (t:TS),start N vs=σ/\qo (iY uS P w K mg base N qual (aq st) f cdv A outer s H E).nox (ff st) t/\t { nx:=λ_ H'=>Q .non H',rt:=Q } σ H):lU P w K mg base uS (k+1) f fd ps sp:=
 F.ok S len λcdv A outer s H vs Q E hr h=>by
  obtain⟨σ,t,e,h1,h2⟩:=hbody cdv A outer s H vs Q E hr h;exact⟨t,h1,by rw[e];exact h2⟩
def pG{A:Around}{k:Nat}(hr:fg k A):A.units+64<cLine:=hr.units
end L2
namespace Rm
open PySem L2
abbrev Bw:=Int×Int
def eV(H:Hp)(a:Addr)(p:Bw):Prop:=H a=some (.tup [.int p.1,.int p.2])
def ez(H:Hp)(l:Addr)(ps:List Bw):Prop:=∃as:List Addr,H l=some (.lst (as.map V.ref))/\Paired (eV H) as ps
def eV.same{H H':Hp}(s:aW H H'){a:Addr}{p:Bw}(h:eV H a p):eV H' a p:=s _ _ h
def ez.same{H H':Hp}(s:aW H H'){l:Addr}{ps:List Bw}(h:ez H l ps):ez H' l ps:=
 let ⟨as,h1,h2⟩:=h
 ⟨as,s _ _ h1,eY h2 λ_ _ z=>z.same s⟩
def qe{H:Hp}{l t:Addr}{as:List Addr}{ps:List Bw}{x y:Int}(h1:H l=some (.lst (as.map V.ref)))(h2:Paired (eV H) as ps)(ht:H t=none):
  ez (bW (bW H t (.tup [.int x,.int y])) l (.lst (as.map V.ref++[V.ref t]))) l (ps++[(x,y)]):=by
 have ntl:t≠l:=λe=>by subst e;rw[h1] at ht;cases ht
 refine⟨as++[t],by rw[aE,a6];rfl,nZ (eY h2 λa p z=>?_) ?_⟩
 ·have z':H a=some (.tup [.int p.1,.int p.2]):=z;have n1:a≠l:=w9 z' h1 (by intro q;cases q);have n2:a≠t:=bJ z' ht;show bW _ _ _ a=_;rw[aP n1,aP n2];exact z'
 ·show bW _ _ _ t=_;rw[aP ntl,aE]
def uH{H:Hp}{l f:Addr}{ps:List Bw}{xs ys:List V}(h:ez H f ps)(hl:H l=some (.lst xs))(ne:f≠l):ez (bW H l (.lst ys)) f ps:=by
 obtain⟨as,h1,h2⟩:=h;refine⟨as,by rw[aP ne];exact h1,eY h2 λa p z=>?_⟩;have z':H a=some (.tup [.int p.1,.int p.2]):=z;show bW _ _ _ a=_;rw[aP (w9 z' hl (by intro q;cases q))];exact z'
def qh{H:Hp}{l hd:Addr}{as:List Addr}{ps:List Bw}(h2:Paired (eV H) as ps)(hn:H hd=none):ez (bW H hd (.lst (as.map V.ref))) hd ps:=
 ⟨as,aE,eY h2 λa p z=>by
  have z':H a=some (.tup [.int p.1,.int p.2]):=z;show bW _ _ _ a=_;rw[aP (bJ z' hn)];exact z'⟩
def ez.get{H:Hp}{l:Addr}{ps:List Bw}(h:ez H l ps):∃as:List Addr,H l=some (.lst (as.map V.ref))/\as.length=ps.length/\∀(i:Nat) x,(as.map V.ref)[i]? = some x->∃a p,x=.ref a/\ps[i]? = some p/\eV H a p:=by
 obtain⟨as,h1,h2⟩:=h;refine⟨as,h1,dB h2,λi x hx=>?_⟩;rw[ai] at hx;cases e:as[i]? with
 | none=>rw[e] at hx;cases hx
 | some a=>
  rw[e] at hx;obtain⟨p,hp,ht⟩:=fU h2 e;exact⟨a,p,(ay hx).symm,hp,ht⟩
def df(p q:Bw):Bool:=decide (p.1<q.1)&&(decide (q.1<p.2)&&decide (p.2<q.2))
def kn(ws:List Nat):List V:=ws.map λ(n:Nat)=>V.int (n:Int)
def tO(ws:List Nat):(kn ws).length=ws.length:=by simp[kn]
def nK(ws:List Nat)(k:Nat):kn (ws++[k])=kn ws++[.int k]:=by simp[kn]
def qT(ws:List Nat)(k:Nat):(kn (ws++[k])).dropLast=kn ws:=by rw[nK];simp
def qS(ws:List Nat)(k:Nat):(kn (ws++[k]))[(kn (ws++[k])).length - 1]? = some (.int k):=by rw[nK];simp
def oS:Sp:=λvs H Q _=>∃l ps,vs=[.ref l]/\ez H l ps/\((∀p∈ps,∀q∈ps,df p q=false)->Q .non H) ∧
 ∀p∈ps,∀q∈ps,df p q=true->∀t a b H',H t=none->aW H H'->H' t=some (.tup [.ref a,.ref b])->eV H' a p->eV H' b q->Q (.ref t) H'
def qy (K:P5):Sp:=λvs H Q _=>∃(x:V) (t:Value) (b c:Bool),vs=[x]/\mR K H x t/\PySem.W.kitOne K t (.type "int")=some b/\PySem.W.kitOne K t (.type "bool")=some c/\Q (.bl (b&&!c)) H
def sS(K:P5):Sp:=λvs H Q _=>∃(a:Addr) (ns:List Int),vs=[.ref a]/\ce K H a (ns.map V.int)/\ns.length<=63/\∀H',Q (.bl true) H'
end Rm
namespace Rm
open PySem PySem.W PyProof.Rows
section
variable {r:Nat->Int} {N:Nat} {cmp:Nat->Nat->(Bool->Shared->Prop)->Shared->Prop} {s:Shared}
def Told(r:Nat->Int)(N:Nat)(cmp:Nat->Nat->(Bool->Shared->Prop)->Shared->Prop)(s:Shared):Prop:=
 ∀i j,i<N->j<N->∀C:Bool->Shared->Prop,C (decide (r i<r j)) s->cmp i j C s
def In(N:Nat)(p:Array Nat):Prop:=p.size=N/\∀i,p.getD i 0<N
def Kk(r:Nat->Int)(p:Array Nat)(i:Nat):Int:=r (p.getD i 0)
def uQ(r:Nat->Int)(p:Array Nat)(k:Nat):Prop:=∀i j,i<=j->j<k->Kk r p i<=Kk r p j
def Dp(r:Nat->Int)(p:Array Nat)(k:Nat):Prop:=∀i j,i<=j->j<k->Kk r p j<=Kk r p i
def lS{p q:Array Nat}{i j:Nat}(h:p[i]? = q[j]?):Kk r p i=Kk r q j:=by
 unfold Kk;rw[bq,bq,h]
def sC{p:Array Nat}{i j:Nat}(hj:j<=p.size)(k:Nat):Kk r (kas_rev p i j) k=if i<=k/\k<j then Kk r p (i+j - 1-k) else Kk r p k:=by
 have e:=getElem?_mirror_all (i:=i) hj k;unfold kas_rev;by_cases h1:i<=k/\k<j
 ·rw[PX h1] at e ⊢;exact lS e
 ·rw[PV h1] at e ⊢;exact lS e
def qp{p:Array Nat}{src d:Nat}(hs:src<p.size)(hd:d<=src)(k:Nat):Kk r (bubble p src d) k=if k=src-d then Kk r p src else if src-d<k/\k<=src then Kk r p (k - 1) else Kk r p k:=by
 have e:=getElem?_bubble hs d hd k;by_cases h1:k=src-d
 ·rw[PX h1] at e ⊢;exact lS e
 ·rw[PV h1] at e ⊢;by_cases h2:src-d<k/\k<=src
  ·rw[PX h2] at e ⊢;exact lS e
  ·rw[PV h2] at e ⊢;exact lS e
def In.of_perm{p q:Array Nat}(h:In N p)(hp:q.Perm p):In N q:=by
 refine⟨hp.size_eq.trans h.1,λi=>?_⟩;rw[bq];cases e:q[i]? with
 | none=>
  have:=h.2 N;rw[bq,Array.getElem?_eq_none (nE h.1)] at this;exact this
 | some x=>
  have hx:x∈q:=lB e;have hx':x∈p:=hp.mem_iff.mp hx;obtain⟨j,hj,rfl⟩:=Array.mem_iff_getElem.mp hx';have:=h.2 j;rw[bq,fq hj] at this;exact this
def In.rev{p:Array Nat}(h:In N p)(i j:Nat):In N (kas_rev p i j):=h.of_perm (PB _ _ _ _)
def pO(T:Told r N cmp s){G:Nat->Shared->Prop}{p:Array Nat}(hp:In N p):∀(f n:Nat),1<=n->uQ r p n->(∀m,n<=m->m<=n+f->uQ r p m->(m<n+f->Kk r p m<Kk r p (m - 1))->G m s)->(kas_asc p f n).kasWp cmp G s
 | 0,n,_,ha,hG=>hG n (aH _) (aH _) ha (λh=>absurd h (by lia))
 | f+1,n,h1,ha,hG=>by
  refine T _ _ (hp.2 _) (hp.2 _) _ ?_;by_cases c:Kk r p n<Kk r p (n - 1)
  ·have c':r (p.getD n 0)<r (p.getD (n - 1) 0):=c;rw[P0 c'];exact hG n (aH _) (by lia) ha λ_=>c
  ·have c':¬r (p.getD n 0)<r (p.getD (n - 1) 0):=c;rw[PZ c'];refine pO T hp f (n+1) (by lia) (λi j hij hj=>?_) λm a b c2 d=>hG m (by lia) (by lia) c2 λe=>d (by lia);by_cases e:j=n
   ·subst e;by_cases e2:i=j
    ·subst e2;exact di _
    ·have:=ha i (j - 1) (by lia) (by lia);lia
   ·exact ha i j hij (by lia)
def Fk(r:Nat->Int)(p:Array Nat)(n q:Nat):Prop:=q<n/\∀k,n-(q+1)<=k->k<n->Kk r p k=Kk r p (n - 1)
def sf{p:Array Nat}{n q:Nat}(hn:n<=p.size)(h:Fk r p n q)(k:Nat):Kk r (kas_rev p (n-(q+1)) n) k=Kk r p k:=by
 rw[sC hn]
 split
 ·rw[h.2 _ (by have:=h.1;lia) (by lia),h.2 k (by lia) (by lia)]
 ·rfl
def Dp.same{p p':Array Nat}{n:Nat}(h:Dp r p n)(e:∀k,Kk r p' k=Kk r p k):Dp r p' n:=λi j a b=>by rw[e,e];exact h i j a b
def nO(T:Told r N cmp s){G:Array Nat×Nat×Nat->Shared->Prop}:∀(f:Nat) (p:Array Nat) (n q:Nat),In N p->n+f<=N->Dp r p n->Fk r p n q →
  (∀p' n' q',p'.Perm p->n<=n'->n'<=n+f->Dp r p' n'->Fk r p' n' q'->G (p',n',q') s)->(kas_desc f p n q).kasWp cmp G s
 | 0,p,n,q,_,_,hd,ht,hG=>hG p n q (.refl _) (aH _) (aH _) hd ht
 | f+1,p,n,q,hp,hN,hd,ht,hG=>by
  refine T _ _ (hp.2 _) (hp.2 _) _ ?_;by_cases c:Kk r p n<Kk r p (n - 1)
  ·have c':r (p.getD n 0)<r (p.getD (n - 1) 0):=c;rw[P0 c'];have hq:=ht.1;have grow:∀p':Array Nat,p'.Perm p->(∀k,Kk r p' k=Kk r p k)->(kas_desc f p' (n+1) 0).kasWp cmp G s:=λp' hpp e=>by
    refine nO T f p' (n+1) 0 (hp.of_perm hpp) (by lia) (λi j hij hj=>?_) ⟨by lia,λk h1 h2=>by have e9:k=n:=(by lia);rw[e9];rfl⟩ λp2 n2 q2 a b c2 d e2=>hG p2 n2 q2 (a.trans hpp) (by lia) (by lia) d e2;rw[e,e];by_cases e3:j=n
    ·subst e3;by_cases e4:i=j
     ·subst e4;exact di _
     ·have:=hd i (j - 1) (by lia) (by lia);lia
    ·exact hd i j hij (by lia)
   show KasT.kasWp cmp (if true=true then (if q > 0 then kas_desc f (kas_rev p (n-(q+1)) n) (n+1) 0 else kas_desc f p (n+1) 0) else _) G s;rw[PX rfl]
   split
   ·exact grow _ (PB _ _ _ _) (sf (by rw[hp.1];lia) ht)
   ·exact grow p (.refl _) λ_=>rfl
  ·have c':¬r (p.getD n 0)<r (p.getD (n - 1) 0):=c;rw[PZ c'];show KasT.kasWp cmp (if false=true then _ else KasT.ask (p.getD (n - 1) 0) (p.getD n 0) λd=>if d=true then .ret (p,n,q) else kas_desc f p (n+1) (q+1)) G s;rw[PV (by simp)];refine T _ _ (hp.2 _) (hp.2 _) _ ?_;by_cases d:Kk r p (n - 1)<Kk r p n
   ·have d':r (p.getD (n - 1) 0)<r (p.getD n 0):=d;rw[P0 d'];exact hG p n q (.refl _) (aH _) (by lia) hd ht
   ·have d':¬r (p.getD (n - 1) 0)<r (p.getD n 0):=d;rw[PZ d'];have hq:=ht.1;have eq:Kk r p n=Kk r p (n - 1):=by lia
    refine nO T f p (n+1) (q+1) hp (by lia) (λi j hij hj=>?_) ⟨by lia,λk h1 h2=>?_⟩ λp2 n2 q2 a b c2 d2 e2=>hG p2 n2 q2 a (by lia) (by lia) d2 e2
    ·by_cases e3:j=n
     ·subst e3;by_cases e4:i=j
      ·subst e4;exact di _
      ·have:=hd i (j - 1) (by lia) (by lia);lia
     ·exact hd i j hij (by lia)
    ·show Kk r p k=Kk r p n;by_cases e3:k=n
     ·rw[e3]
     ·rw[eq];exact ht.2 k (by lia) (by lia)
def GF(r:Nat->Int)(p:Array Nat)(nrem:Nat)(G:Nat×Array Nat->Shared->Prop)(s:Shared):Prop:=∀n p',p'.Perm p->1<=n->n<=nrem->uQ r p' n->G (n,p') s
def oO(T:Told r N cmp s){G:Nat×Array Nat->Shared->Prop}{p:Array Nat}{n:Nat}(hp:In N p)(h1:1<=n)(hn:n<=N)(hd:Dp r p n)(hG:GF r p N G s):(kas_tail3 n N p).kasWp cmp G s:=by
 unfold kas_tail3;rw[KasT.kasWp_bind];refine pO T (hp.rev 0 n) (N-n) n h1 (λi j hij hj=>?_) λm a b c _=>hG m _ (PB _ _ _ _) (by lia) (by lia) c;rw[sC (by rw[hp.1];exact hn),sC (by rw[hp.1];exact hn),PX (by lia),PX (by lia)];exact hd _ _ (by lia) (by lia)
def GF.perm{p q:Array Nat}{G:Nat×Array Nat->Shared->Prop}(h:GF r p N G s)(hp:q.Perm p):GF r q N G s:=λn p' a b c d=>h n p' (a.trans hp) b c d
def mD(T:Told r N cmp s){G:Nat×Array Nat->Shared->Prop}{p:Array Nat}{n:Nat}(hp:In N p)(hn:n+1<=N)(h1:1<=n)(hd:Dp r p (n+1))(hG:GF r p N G s):(kas_descPart n N p).kasWp cmp G s:=by
 unfold kas_descPart;rw[KasT.kasWp_bind];refine nO T _ p (n+1) 0 hp (by lia) hd ⟨by lia,λk a b=>by have e9:k=n:=(by lia);rw[e9];rfl⟩ λp' n' q' a b c d e=>?_;dsimp only;have hp':=hp.of_perm a
 split
 ·exact oO T (hp'.rev _ _) (by lia) (by lia) (d.same (sf (by rw[hp'.1];lia) e)) (hG.perm ((PB _ _ _ _).trans a))
 ·exact oO T hp' (by lia) (by lia) d (hG.perm a)
def vY(T:Told r N cmp s){G:Nat×Array Nat->Shared->Prop}{p:Array Nat}(hp:In N p)(hN:1<=N)(hG:GF r p N G s):(kas_count N p).kasWp cmp G s:=by
 unfold kas_count;rw[KasT.kasWp_bind];refine pO T hp (N - 1) 1 (aH _) (λi j a b=>by have e9:i=j:=(by lia);rw[e9];exact di _) λn h1 h2 ha hb=>?_;by_cases e:n=N
 ·subst e;rw[PX (by simp)];exact hG n p (.refl _) h1 (aH _) ha
 ·rw[PV (by simp[e])];have hlt:=hb (by lia)
  split
  ·refine T _ _ (hp.2 _) (hp.2 _) _ ?_;by_cases c:Kk r p 0<Kk r p (n - 1)
   ·have c':r (p.getD 0 0)<r (p.getD (n - 1) 0):=c;rw[P0 c'];exact hG n p (.refl _) h1 (by lia) ha
   ·have c':¬r (p.getD 0 0)<r (p.getD (n - 1) 0):=c;rw[PZ c'];have alike:∀k,k<n->Kk r p k=Kk r p (n - 1):=λk hk=>by
     have a1:=ha 0 k (by lia) hk;have a2:=ha k (n - 1) (by lia) (by lia);lia
    have same:∀k,Kk r (kas_rev p 0 n) k=Kk r p k:=λk=>by
     rw[sC (by rw[hp.1];lia)]
     split
     ·rw[alike _ (by lia),alike k (by lia)]
     ·rfl
    refine mD T (hp.rev 0 n) (by lia) h1 (Dp.same (p:=p) (λi j hij hj=>?_) same) (hG.perm (PB _ _ _ _));by_cases e3:j=n
    ·subst e3;by_cases e4:i=j
     ·subst e4;exact di _
     ·rw[alike i (by lia)];lia
    ·rw[alike i (by lia),alike j (by lia)];exact di _
  ·have:n=1:=by lia
   subst this;refine mD T hp (by lia) (aH _) (λi j hij hj=>?_) hG;have hj':j=0\/j=1:=by lia
   have hi':i=0\/i=1:=by lia
   rcases hj' with rfl | rfl<;>rcases hi' with rfl | rfl
   ·exact di _
   ·lia
   ·have:Kk r p 1<Kk r p 0:=hlt;lia
   ·exact di _
def place_spec(T:Told r N cmp s){G:Nat->Shared->Prop}{p:Array Nat}{k:Nat}(hp:In N p)(hs:uQ r p k):∀(f l e:Nat),e<=k->e<=l+f->l<=e->(∀i,i<l->Kk r p i<=Kk r p k)->(∀i,e<=i->i<k->Kk r p k<Kk r p i) →
  (∀l,l<=k->(∀i,i<l->Kk r p i<=Kk r p k)->(∀i,l<=i->i<k->Kk r p k<Kk r p i)->G l s)->(kas_place p k f l e).kasWp cmp G s
 | 0,l,e,h1,h2,h3,h4,h5,hG=>by
  have:l=e:=by lia
  subst this;exact hG l h1 h4 h5
 | f+1,l,e,h1,h2,h3,h4,h5,hG=>by
  unfold kas_place
  split
  ·have:l=e:=by lia
   subst this;exact hG l h1 h4 h5
  ·refine T _ _ (hp.2 _) (hp.2 _) _ ?_;by_cases c:Kk r p k<Kk r p ((l+e) / 2)
   ·have c':r (p.getD k 0)<r (p.getD ((l+e) / 2) 0):=c;rw[P0 c'];refine place_spec T hp hs f l ((l+e) / 2) (by lia) (by lia) (by lia) h4 (λi a b=>?_) hG;have:=hs ((l+e) / 2) i a b;lia
   ·have c':¬r (p.getD k 0)<r (p.getD ((l+e) / 2) 0):=c;rw[PZ c'];refine place_spec T hp hs f ((l+e) / 2+1) e h1 (by lia) (by lia) (λi a=>?_) h5 hG;have:=hs i ((l+e) / 2) (by lia) (by lia);lia
def va{p:Array Nat}{k l:Nat}(hk:k<p.size)(hs:uQ r p k)(hl:l<=k)(h1:∀i,i<l->Kk r p i<=Kk r p k)(h2:∀i,l<=i->i<k->Kk r p k<Kk r p i):uQ r (bubble p k (k-l)) (k+1):=λi j hij hj=>by
 rw[qp hk (by lia),qp hk (by lia)];have e:k-(k-l)=l:=by lia
 rw[e];by_cases i1:i=l
 ·rw[PX i1];by_cases j1:j=l
  ·rw[PX j1];exact di _
  ·rw[PV j1,PX (by lia)];have:=h2 (j - 1) (by lia) (by lia);lia
 ·rw[PV i1];by_cases i2:l<i/\i<=k
  ·rw[PX i2,PV (by lia),PX (by lia)];exact hs _ _ (by lia) (by lia)
  ·rw[PV i2];by_cases j1:j=l
   ·rw[PX j1];exact h1 i (by lia)
   ·rw[PV j1];by_cases j2:l<j/\j<=k
    ·rw[PX j2];exact hs _ _ (by lia) (by lia)
    ·rw[PV j2];exact hs _ _ (by lia) (by lia)
def uI(T:Told r N cmp s){G:Array Nat->Shared->Prop}:∀(f:Nat) (p:Array Nat) (k:Nat),In N p->k+f=N->uQ r p k->(∀p',p'.Perm p->uQ r p' N->G p' s)->(kas_bin f p k).kasWp cmp G s
 | 0,p,k,hp,hk,hs,hG=>hG p (.refl _) (by have e9:k=N:=(by lia);rw[<-e9];exact hs)
 | f+1,p,k,hp,hk,hs,hG=>by
  unfold kas_bin;rw[KasT.kasWp_bind];refine place_spec T hp hs k 0 k (aH _) (by lia) (by lia) (λi h=>absurd h (by lia)) (λi h h'=>absurd h' (by lia)) λl h1 h2 h3=>?_;refine uI T f _ (k+1) (hp.of_perm (bubble_perm _ _ _)) (by lia) (va (by rw[hp.1];lia) hs h1 h2 h3) λp' a b=>hG p' (a.trans (bubble_perm _ _ _)) b
def xM(T:Told r N cmp s){G:Array Nat->Shared->Prop}(hN:1<=N)(hG:∀p:Array Nat,p.Perm (List.toArray (List.range N))->uQ r p N->G p s):(kas_sort N).kasWp cmp G s:=by
 have h0:In N (List.toArray (List.range N)):=⟨by simp,λi=>by
  rw[bq];cases e:(List.toArray (List.range N))[i]? with
  | none=>exact hN
  | some x=>
   have:=lB e;simpa using this⟩
 unfold kas_sort;rw[KasT.kasWp_bind];refine vY T h0 hN λn p a b c d=>?_;dsimp only;have hp:=h0.of_perm a
 split
 ·have e:max n 1=n:=by lia
  rw[e];exact uI T _ p n hp (by lia) d λp' x y=>hG p' (x.trans a) y
 ·have:n=N:=by lia
  subst this;exact hG p a d
end
section
variable {prog:Program} {w:World} {A:Around} {E:Value->Shared->Prop} {s:Shared}
def jK(vs:List Value)(p:Array Nat):Array Value:=List.toArray (p.toList.map λi=>vs.getD i Value.none)
def xN:∀vs:List Value,vs.length<2->(vs.toArray.zip vs.toArray).map (·.2)=jK vs (List.toArray (List.range vs.length))
 | [],_=>by simp[jK]
 | [v],_=>by simp[jK]
 | _::_::_,h=>by simp at h;lia
def Kp(a:Addr)(h h':Heap):Prop:=∀b o,b≠a->h.get? b=some o->h'.get? b=some o
def oq {a:Addr} {vs:List Value} {n:Nat} {P:PySem.Fin->Shared->Prop} {r:Nat->Int} (κ:SortKind) (ho:s.heap.get? a=some (seqObj "list" vs.toArray n)) (h64:vs.length<64)
  (hk:2<=vs.length->∀(h':Heap) (Q:SortKind->Shared->Prop),Kp a s.heap h'->Q κ { s with heap:=h' }->wpAny (model prog w) A (keyKind' vs.toArray) Q E { s with heap:=h' })
  (hc:∀i j,i<vs.length->j<vs.length->∀(h':Heap) (C:Bool->Shared->Prop),Kp a s.heap h'->C (decide (r i<r j)) { s with heap:=h' }->wpAny (model prog w) A (keyLt' κ (vs.getD i Value.none) (vs.getD j Value.none)) C (λ_ _=>False) { s with heap:=h' })
  (h:∀p:Array Nat,p.Perm (List.toArray (List.range vs.length))->uQ r p vs.length->P (.done (.ret .none)) { s with heap:=sortedHeap s.heap a vs (jK vs p) }) :
  wpAny (model prog w) A (Builtin.«list.sort» ⟨[.ref a],[]⟩) P E s:=by
 rw[list_sort_plain];have ha:a<s.heap.objs.size:=aJ ho;refine wpAny_bind (listItems_at ho rfl ?_);refine wpAny_bind (listUpdate_at ho rfl ?_);obtain⟨e1,ho1⟩:∃e1,(s.heap.update a (Obj.mapSeq λ_=>#[])).get? a=some (seqObj "list" #[] e1):=⟨_,get?_update_seq ho (λ_=>#[])⟩
 refine wpAny_bind (seqEpoch_at ho1 rfl ?_);refine wpAny_bind (wpAny_newTuple ?_);refine wpAny_bind (wpAny_newList ?_);refine Ox ?_;have ho6:(((s.heap.update a (Obj.mapSeq λ_=>#[])).push (seqObj "tuple" vs.toArray 0)).push (seqObj "list" #[] 0)).get? a=some (seqObj "list" #[] e1):=by
  rw[gk _ _ _ (by rw[size_push',kS];exact aV (bF ha)),gk _ _ _ (by rw[kS];exact aV ha)];exact ho1
 have kp6:Kp a s.heap (((s.heap.update a (Obj.mapSeq λ_=>#[])).push (seqObj "tuple" vs.toArray 0)).push (seqObj "list" #[] 0)):=λb o hb e=>
  aB _ (aB _ (by rw[fv _ _ _ _ hb];exact e))
 show wpAny (model prog w) A _ P E { s with heap:=((s.heap.update a (Obj.mapSeq λ_=>#[])).push (seqObj "tuple" vs.toArray 0)).push (seqObj "list" #[] 0) };dsimp only;have hsz:vs.toArray.size=vs.length:=by simp
 by_cases h2:vs.toArray.size<2
 ·rw[PX h2,PX h2];refine wpAny_bind (On ?_);rw[StateT.run_pure];refine wpAny_bind (On ?_);dsimp only;refine wpAny_bind (seqEpoch_at ho6 rfl ?_);refine wpAny_bind (listUpdate_at ho6 rfl ?_ (hsz2:=by rw[Array.size_map];show (pairsOf vs).size<=_;rw[pairsOf_size,Os];lia));simp only[bne_self_eq_false,dP,P4];have e:(arrOf (SortSt.mk' general' (vs.toArray.zip vs.toArray) #[] 7 none)).map (·.2)=jK vs (List.toArray (List.range vs.length)):=by
   exact xN vs (by lia)
  rw[e];refine On (h (List.toArray (List.range vs.length)) (Array.Perm.refl _) ?_);intro i j hij hj;have e9:i=j:=by lia
  rw[e9];exact di _
 ·rw[PV h2,PV h2];refine wpAny_bind (hk (by lia) _ _ kp6 ?_);have T:Told r vs.length (kas_ask prog w A κ vs) { s with heap:=((s.heap.update a (Obj.mapSeq λ_=>#[])).push (seqObj "tuple" vs.toArray 0)).push (seqObj "list" #[] 0) }:=λi j hi hj C hC=>hc i j hi hj _ C kp6 hC;refine wpAny_bind (wpAny_mono (kat_run (ks:=vs) (vs:=vs) (Q:=λst' s'=>s'={ s with heap:=((s.heap.update a (Obj.mapSeq λ_=>#[])).push (seqObj "tuple" vs.toArray 0)).push (seqObj "list" #[] 0) }/\∃p:Array Nat,p.size=vs.length/\arrOf st'=p.map (kas_item (vs.toArray.zip vs.toArray))/\failedOf st'=none/\p.Perm (List.toArray (List.range vs.length))/\uQ r p vs.length)
   (G:=λp s'=>s'={ s with heap:=((s.heap.update a (Obj.mapSeq λ_=>#[])).push (seqObj "tuple" vs.toArray 0)).push (seqObj "list" #[] 0) }/\p.Perm (List.toArray (List.range vs.length))/\uQ r p vs.length)
   rfl (by lia) h64 (λp' st' s' a1 a2 a3 a4=>⟨a4.1,p',a1,a2,a3,a4.2⟩) (xM T (by lia) λp hp ha=>⟨rfl,hp,ha⟩)) ?_ λ_ _ e=>e)
  rintro⟨⟨⟩,st'⟩ s' ⟨rfl,p,hps,har,hf,hp,hs⟩;dsimp only;have hout:=kat_snds (ks:=vs) (vs:=vs) rfl har;rw[hout];refine wpAny_bind (seqEpoch_at ho6 rfl ?_);refine wpAny_bind (listUpdate_at ho6 rfl ?_ (hsz2:=by rw[aO,aD,dG,hps,Os];lia));rw[hf];simp only[bne_self_eq_false,dP,P4];exact On (h p hp hs)
def lD {l:Addr} {vs:List Value} {Q:Value->Shared->Prop} {r:Nat->Int} (κ:SortKind) (hcol:∀(A:Around) (E:Value->Shared->Prop) (Q:List Value->Shared->Prop),Q vs { s with heap:=(s.heap.push (seqObj "list" #[] 0)).update s.heap.objs.size (Obj.mapSeq (·++vs.toArray)) }->wpAny (model prog w) A (collect (.ref l)) Q E s) (h64:vs.length<64)
  (hk:2<=vs.length->∀(h':Heap) (Q:SortKind->Shared->Prop),(∀b o,s.heap.get? b=some o->h'.get? b=some o)->Q κ { s with heap:=h' }->wpAny (model prog w) A.in1.in1 (keyKind' vs.toArray) Q (λ_ _=>False) { s with heap:=h' })
  (hc:∀i j,i<vs.length->j<vs.length->∀(h':Heap) (C:Bool->Shared->Prop),(∀b o,s.heap.get? b=some o->h'.get? b=some o)->C (decide (r i<r j)) { s with heap:=h' }->wpAny (model prog w) A.in1.in1 (keyLt' κ (vs.getD i Value.none) (vs.getD j Value.none)) C (λ_ _=>False) { s with heap:=h' })
  (h:∀p:Array Nat,p.Perm (List.toArray (List.range vs.length))->uQ r p vs.length->Q (.ref (s.heap.objs.size+1)) { s with heap:=sortedAll s.heap vs (jK vs p) }) :
  wpAny (model prog w) A (call (.builtin "sorted") [.ref l]) Q E s:=by
 refine Calls.call_function_entry kind_sorted plain_sorted entry_sorted (args_sorted1 _) ?_;unfold Builtin.«sorted»;refine wpAny_bind (m:=checkCount "sorted" 1 1 _) (On ?_);refine wpAny_bind (hcol _ _ _ ?_);refine wpAny_bind (wpAny_newList ?_);have hsz:((s.heap.push (seqObj "list" #[] 0)).update s.heap.objs.size (Obj.mapSeq (·++vs.toArray))).objs.size=s.heap.objs.size+1:=by
  rw[kS,size_push']
 have hoL:(((s.heap.push (seqObj "list" #[] 0)).update s.heap.objs.size (Obj.mapSeq (·++vs.toArray))).push (seqObj "list" vs.toArray 0)).get? (s.heap.objs.size+1)=some (seqObj "list" vs.toArray 0):=by
  rw[<-hsz];exact aK _ rfl
 have keep:∀b o,s.heap.get? b=some o->(((s.heap.push (seqObj "list" #[] 0)).update s.heap.objs.size (Obj.mapSeq (·++vs.toArray))).push (seqObj "list" vs.toArray 0)).get? b=some o:=λb o q=>by
  have hlt:b<s.heap.objs.size:=aJ q;rw[gk _ _ _ (by rw[hsz];exact aV (bF hlt)),fv _ _ _ _ (aV hlt),gk _ _ _ (aV hlt)];exact q
 have keep2:∀h',Kp (s.heap.objs.size+1) (((s.heap.push (seqObj "list" #[] 0)).update s.heap.objs.size (Obj.mapSeq (·++vs.toArray))).push (seqObj "list" vs.toArray 0)) h'->∀b o,s.heap.get? b=some o->h'.get? b=some o:=λh' k b o q=>
  k b o (aV (bF (aJ q))) (keep b o q)
 show wpAny _ _ _ _ _ { s with heap:=((s.heap.push (seqObj "list" #[] 0)).update s.heap.objs.size (Obj.mapSeq (·++vs.toArray))).push (seqObj "list" vs.toArray 0) };rw[hsz];refine wpAny_bind (Ox (Oy slot_list_sort ⟨_,hoL,rfl⟩ entry_list_sort (oq (r:=r) κ hoL h64 (λh2 h' Q k q=>?_) (λi j hi hj h' C k q=>?_) λp hp ha=>⟨_,rfl,?_⟩) (args_list_sort _)))
 ·exact wpAny_mono (hk h2 h' Q (keep2 h' k) q) (λ_ _ z=>z) λ_ _ z=>z.elim
 ·exact hc i j hi hj h' C (keep2 h' k) q
 ·exact On ⟨_,rfl,h p hp ha⟩
def nX{l:Addr}{vs:List Value}{Q:Value->Shared->Prop}{r:Nat->Int}(κ:SortKind)(hl:s.heap.IsList l vs.toArray)(h64:vs.length<64)
  (hk:2<=vs.length->∀(h':Heap) (Q:SortKind->Shared->Prop),(∀b o,s.heap.get? b=some o->h'.get? b=some o)->Q κ { s with heap:=h' }->wpAny (model prog w) A.in1.in1 (keyKind' vs.toArray) Q (λ_ _=>False) { s with heap:=h' })
  (hc:∀i j,i<vs.length->j<vs.length->∀(h':Heap) (C:Bool->Shared->Prop),(∀b o,s.heap.get? b=some o->h'.get? b=some o)->C (decide (r i<r j)) { s with heap:=h' }->wpAny (model prog w) A.in1.in1 (keyLt' κ (vs.getD i Value.none) (vs.getD j Value.none)) C (λ_ _=>False) { s with heap:=h' })
  (h:∀p:Array Nat,p.Perm (List.toArray (List.range vs.length))->uQ r p vs.length->Q (.ref (s.heap.objs.size+1)) { s with heap:=sortedAll s.heap vs (jK vs p) }) :
  wpAny (model prog w) A (call (.builtin "sorted") [.ref l]) Q E s:=
 lD κ (λA E Q q=>collect_list hl q (by rw[Os];lia)) h64 hk hc h
def uB{l:Addr}{vs:List Value}{Q:List Value->Shared->Prop}(hl:IsTup s.heap l vs.toArray)
  (h:Q vs { s with heap:=(s.heap.push (seqObj "list" #[] 0)).update s.heap.objs.size (Obj.mapSeq (·++vs.toArray)) }) (hsz:vs.length<=sizeLine) :
  wpAny (model prog w) A (collect (.ref l)) Q E s:=by
 obtain⟨o,ho,hc,n,hd⟩:=id hl;unfold collect;refine wpAny_bind (wpAny_runValue (codeAny_builtin entry_proto_collect' ?_));show wpAny _ _ (do again (.builtin "list.__iadd__" ⟨[<-newList [],.ref l],[]⟩)) _ _ s;refine wpAny_bind (wpAny_newList (On ⟨jT _ (by decide +kernel),codeAny_builtin entry_list_iadd' ?_⟩));show wpAny _ _ (Builtin.List.listExtendWith (.ref s.heap.objs.size) (.ref l) (.ref s.heap.objs.size)) _ _ { s with heap:=s.heap.push (seqObj "list" #[] 0) };unfold Builtin.List.listExtendWith;have ho':(s.heap.push (seqObj "list" #[] 0)).get? l=some o:=aB _ ho;refine wpAny_bind (wpAny_typeOf (T:="tuple") ⟨o,ho',hc⟩ ?_);have ht:(Value.type "tuple"==Value.type "tuple")=true:=by rfl
 rw[PX (by rw[ht];simp)];refine wpAny_bind (listItems_at ho' hd ?_);refine wpAny_bind (listItems_at (xs:=#[]) (n:=0) (aK _ rfl) rfl ?_);rw[PV (by simp)];refine wpAny_bind (listUpdate_at (xs:=#[]) (n:=0) (aK _ rfl) rfl ?_ (bO _) (by show (#[]++vs.toArray).size<=sizeLine+1;simp only[jd,aO,fB];lia));refine On ?_;show wpAny (model prog w) A (do
   let o <-load s.heap.objs.size
   match o.data with
   | .seq xs _=>pure xs.toList
   | _=>unsupported "internal:collect") Q E { s with heap:=(s.heap.push (seqObj "list" #[] 0)).update s.heap.objs.size (Obj.mapSeq (·++vs.toArray)) }
 refine wpAny_bind (wpAny_load (get?_update_seq (aK _ rfl) _) ?_);show wpAny _ _ (pure ((#[]:Array Value)++vs.toArray).toList) Q E _;rw[show ((#[]:Array Value)++vs.toArray).toList=vs by simp];exact On h
def qz{l:Addr}{vs:List Value}{Q:Value->Shared->Prop}{r:Nat->Int}(κ:SortKind)(hl:IsTup s.heap l vs.toArray)(h64:vs.length<64)
  (hk:2<=vs.length->∀(h':Heap) (Q:SortKind->Shared->Prop),(∀b o,s.heap.get? b=some o->h'.get? b=some o)->Q κ { s with heap:=h' }->wpAny (model prog w) A.in1.in1 (keyKind' vs.toArray) Q (λ_ _=>False) { s with heap:=h' })
  (hc:∀i j,i<vs.length->j<vs.length->∀(h':Heap) (C:Bool->Shared->Prop),(∀b o,s.heap.get? b=some o->h'.get? b=some o)->C (decide (r i<r j)) { s with heap:=h' }->wpAny (model prog w) A.in1.in1 (keyLt' κ (vs.getD i Value.none) (vs.getD j Value.none)) C (λ_ _=>False) { s with heap:=h' })
  (h:∀p:Array Nat,p.Perm (List.toArray (List.range vs.length))->uQ r p vs.length->Q (.ref (s.heap.objs.size+1)) { s with heap:=sortedAll s.heap vs (jK vs p) }) :
  wpAny (model prog w) A (call (.builtin "sorted") [.ref l]) Q E s:=
 lD κ (λA E Q q=>uB hl q (by rw[Os];lia)) h64 hk hc h
end
end Rm
namespace Rm
open PySem PySem.W PyProof.Rows L2
def jt:∀{as:List Addr} {us:List Value},bj (as.map V.ref) us->us=as.map Value.ref
 | [],_,.nil=>rfl
 | a::as,u::us,.cons r t=>by
  have e:u=Value.ref a:=r;rw[e,jt t];rfl
def xS(as:List Addr):bj (as.map V.ref) (as.map Value.ref):=by
 induction as with
 | nil=>exact .nil
 | cons a as ih=>exact .cons rfl ih
def DP (h:Heap) (a:Addr) (p:Bw):Prop:=∃o t u n,h.get? a=some o/\o.cls=.type "tuple"/\o.data=.seq #[.int p.1 t,.int p.2 u] n
def EQ{X:Cx}{pins:List (Addr×Obj)}{σ:L2.St}{H:Hp}{s:Shared}(I:bT X pins σ H s){a:Addr}{p:Bw}(h:eV H a p):DP s.heap a p:=by
 obtain⟨_,its,v,o,e,c,n,d⟩:=I.hok a _ h;obtain⟨u,w,rfl,⟨t,rfl⟩,t',rfl⟩:=bj.two v;exact⟨o,t,t',n,e,c,by rw[d]⟩
def DP.kept{h h':Heap}{a:Addr}{p:Bw}(x:DP h a p)(k:∀b o,h.get? b=some o->h'.get? b=some o):DP h' a p:=by
 obtain⟨o,t,u,n,e,c,d⟩:=x;exact⟨o,t,u,n,k _ _ e,c,d⟩
def sL{h:Heap}:∀{as:List Addr} {ps:List Bw},Paired (DP h) as ps->∃fs,KatTups h (as.map Value.ref) fs/\fs.length=as.length/\∀v∈fs,∃n t,v=Value.int n t
 | _,_,.nil=>⟨[],KatTups.nil,rfl,(λv hv=>nomatch hv)⟩
 | _,_,.cons r t=>by
  obtain⟨o,t1,u1,n,e,c,d⟩:=r;obtain⟨fs,h1,h2,h3⟩:=sL t;exact⟨.int _ t1::fs,KatTups.cons e c d rfl h1,by simp[h2],λv hv=>by
   rcases aI.mp hv with rfl | hv
   ·exact⟨_,_,rfl⟩
   ·exact h3 v hv⟩
def i5(p:Bw):Int:=p.1*1000+p.2
def kB:SortKind:=tuples' (Value.type "int" != Value.type "tuple")
def ER{prog:Program}{w:World}{A:Around}{s:Shared}{a b:Addr}{p q:Bw}{C:Bool->Shared->Prop}(ha:DP s.heap a p)(hb:DP s.heap b q)(hp:0<=p.2/\p.2<1000)(hq:0<=q.2/\q.2<1000)
  (h:C (decide (i5 p<i5 q)) s):wpAny (model prog w) A (keyLt' kB (.ref a) (.ref b)) C (λ_ _=>False) s:=by
 obtain⟨oa,t,u,n,ea,ca,da⟩:=ha;obtain⟨ob,t',u',n',eb,cb,db⟩:=hb;refine kat_lt ea da eb db ?_;show KatLex prog w A _ _ C [(Value.int p.1 t,Value.int q.1 t'),(Value.int p.2 u,Value.int q.2 u')] 0 s;refine kat_cons (wpAny_eqBool_int (kat_go (λe=>?_) (λe=>?_)))
 ·have e1:p.1=q.1:=by simpa using e
  refine kat_yes (kat_cons (wpAny_eqBool_int (kat_go (λe=>?_) (λe=>?_))))
  ·have e2:p.2=q.2:=by simpa using e
   refine kat_yes (kat_nil ?_);have z:decide (i5 p<i5 q)=false:=PZ (by unfold i5;lia);rw[z] at h;exact h
  ·have e2:¬p.2=q.2:=by simpa using e
   refine kat_no ?_;have z:decide (i5 p<i5 q)=decide (p.2<q.2):=by
    by_cases y:p.2<q.2
    ·rw[P0 y,P0 (by unfold i5;lia)]
    ·rw[PZ y,PZ (by unfold i5;lia)]
   rw[z] at h;have b0:((Value.type "int" != Value.type "tuple")&&((0+1:Nat)==0))=false:=by decide
   rw[b0];exact kat_one _ _ (lt_int h)
 ·have e1:¬p.1=q.1:=by simpa using e
  refine kat_no ?_;have z:decide (i5 p<i5 q)=decide (p.1<q.1):=by
   by_cases y:p.1<q.1
   ·rw[P0 y,P0 (by unfold i5;lia)]
   ·rw[PZ y,PZ (by unfold i5;lia)]
  rw[z] at h;have b0:((Value.type "int" != Value.type "tuple")&&((0:Nat)==0))=true:=by decide
  rw[b0];exact oneLt_int h
def pick{α:Type}(d:α)(xs:List α)(p:Array Nat):List α:=p.toList.map λi=>xs.getD i d
def l8{α:Type}(d:α)(xs:List α){p:Array Nat}(hp:p.Perm (List.toArray (List.range xs.length))):(pick d xs p).Perm xs:=by
 have h1:p.toList.Perm (List.range xs.length):=by simpa using fY.mp hp
 have h2:=h1.map λi=>xs.getD i d;have e:(List.range xs.length).map (λi=>xs.getD i d)=xs:=by
  apply kP
  ·simp
  ·intro i h1 h2;simp at h1;simp[h1]
 rw[e] at h2;exact h2
def sr{α β:Type}{R:α->β->Prop}(d:α)(e:β){xs:List α}{ys:List β}(h:Paired R xs ys){p:Array Nat}(hp:∀i∈p.toList,i<xs.length):Paired R (pick d xs p) (pick e ys p):=by
 unfold pick
 revert hp
 induction p.toList with
 | nil=>intro _;exact .nil
 | cons i r ih=>
  intro hp;refine .cons ?_ (ih λj hj=>hp j (aN _ hj));have hi:=hp i ah;have hx:xs[i]? = some xs[i]:=aL hi;obtain⟨y,hy,hr⟩:=fU h hx;have e1:xs.getD i d=xs[i]:=by simp[List.getD,hx]
  have e2:ys.getD i e=y:=by simp[List.getD,hy]
  show R (xs.getD i d) (ys.getD i e);rw[e1,e2];exact hr
def su{r:Nat->Int}{n:Nat}{p:Array Nat}(hn:p.size=n)(ha:uQ r p n){α:Type}(d:α)(xs:List α)(f:α->Int)(hf:∀i,r i=f (xs.getD i d)):(pick d xs p).Pairwise λa b=>f a<=f b:=by
 rw[jX];intro i j hi hj hij;have hi':i<p.size:=by simpa [pick] using hi
 have hj':j<p.size:=by simpa [pick] using hj
 have h1:=ha i j (bI hij) (by lia);unfold Kk at h1;rw[hf,hf] at h1;simp only[bq,fq hi',fq hj',kI] at h1;simpa [pick] using h1
def leB(p q:Bw):Prop:=p.1<q.1\/p.1=q.1/\p.2<=q.2
def Eh(K:P5):List V->Hp->VK->Prop:=λxs H Q=>∃(l:Addr) (as:List Addr) (ps:List Bw),xs=[.ref l]/\ce K H l (as.map V.ref)/\Paired (eV H) as ps/\ps.length<64/\(∀p∈ps,0<=p.2/\p.2<1000) ∧
 ∀l' as' ps',H l'=none->Paired (eV H) as' ps'->ps'.Perm ps->ps'.Pairwise leB->Q (.ref l') (bW H l' (.lst (as'.map V.ref)))
def kF {X:Cx}:eA X (.builtin "sorted") (Eh X.K):=by
 intro pins s σ H xs us Q I rr h;obtain⟨l,as,ps,rfl,hq,hP,h64,hb,q⟩:=h;obtain⟨u,rfl,rx⟩:=vals1 rr;cases rx;obtain⟨its,rv,pl,hz⟩:=I.list hq;have e:=jt rv;subst e;have hlen:as.length=ps.length:=dB hP;have two:Paired (DP s.heap) as ps:=eY hP λa p z=>EQ I z;have at_:∀i,i<as.length->∃a p,(as.map Value.ref).getD i Value.none=.ref a/\ps.getD i (0,0)=p/\DP s.heap a p/\0<=p.2/\p.2<1000:=λi hi=>by
  have hx:as[i]? = some as[i]:=aL hi;obtain⟨p,hp,ht⟩:=fU two hx;exact⟨as[i],p,by simp[List.getD,hi],by simp[List.getD,hp],ht,hb p (bG hp)⟩
 refine nX (r:=λi=>i5 (ps.getD i (0,0))) kB pl.isList (by rw[aD];lia) (λh2 h' Q' k q'=>?_) (λi j hi hj h' C k q'=>?_) λp hp ha=>?_
 ·obtain⟨fs,k1,k2,k3⟩:=sL (eY two λa p z=>z.kept k);refine kat_kind (T:=.type "int") k1 (by rw[aD] at h2;lia) (λv hv=>?_) rfl q';obtain⟨n,t,rfl⟩:=k3 v hv;exact(show Looks _ _ (pure (Value.type "int")) (Value.type "int") from .now)
 ·rw[aD] at hi hj;obtain⟨a,p,e1,e2,t1,b1⟩:=at_ i hi;obtain⟨c,p',e3,e4,t2,b2⟩:=at_ j hj;rw[e1,e3];refine ER (t1.kept k) (t2.kept k) b1 b2 ?_;rw[<-e2,<-e4];exact q'
 ·rw[aD] at hp ha;obtain⟨c,hc⟩:=sortedAll_at s.heap (as.map Value.ref) (jK (as.map Value.ref) p);have hin:∀i∈p.toList,i<as.length:=λi hi=>by
   have h1:p.toList.Perm (List.range as.length):=by simpa using fY.mp hp
   simpa using h1.mem_iff.mp hi
  have eo:jK (as.map Value.ref) p=List.toArray ((pick 0 as p).map Value.ref):=by
   unfold jK pick;rw[bp];congr 1;refine dF λi hi=>?_;have:=hin i hi;simp[List.getD,this]
  have hps:(pick 0 as p).length<=sizeLine:=by
   have:=(l8 0 as hp).length_eq;rw[this];exact bI (bU (by lia))
  rw[eo] at hc;have hp':p.Perm (List.toArray (List.range ps.length)):=by rw[<-hlen];exact hp
  refine⟨.ref (s.heap.objs.size+1),bW H (s.heap.objs.size+1) (.lst ((pick 0 as p).map V.ref)),I.laid (t':=s.toks) (λb o e=>sortedAll_old e) (dw _) ?_,rfl,?_⟩
  ·exact(show cw X.prog X.w _ _ _ (.lst _) from ⟨by rw[aD];exact hps,(pick 0 as p).map Value.ref,c,xS _,by rw[eo];exact hc⟩)
  ·have hasc:=su (n:=as.length) (by have:=hp.size_eq;simpa using this) ha (0,0) ps i5 λi=>rfl;have hmem:∀x∈pick (0,0) ps p,0<=x.2/\x.2<1000:=λx hx=>hb x ((l8 (0,0) ps hp').mem_iff.mp hx);refine q _ _ (pick (0,0) ps p) (I.hok.fresh (dw _)) (sr 0 (0,0) hP hin) (l8 (0,0) ps hp') ?_;refine List.Pairwise.imp_of_mem (fun {a b} ma mb hab=>?_) hasc;have h1:=hmem a ma;have h2:=hmem b mb;unfold i5 at hab;unfold leB;lia
end Rm
namespace L2
open PySem PySem.W PySem.Spec PyProof.Rows Rm
section
variable {X:Cx}
def ints_getD:∀{us:List Value} {ns:List Int},IntsAre us ns->∀i,i<us.length->∃t,us.getD i Value.none=.int (ns.getD i 0) t
 | _,_,.nil,i,h=>by simp at h
 | _,_,.cons n t r,0,_=>⟨t,rfl⟩
 | _,_,.cons n t r,i+1,h=>by
  obtain⟨t',e⟩:=ints_getD r i (by simpa using h);exact⟨t',by simpa using e⟩
def qX{us:List Value}{ns:List Int}(hi:IntsAre us ns):∀(p:List Nat),(∀i∈p,i<us.length)->IntsAre (p.map λi=>us.getD i Value.none) (p.map λi=>ns.getD i 0)
 | [],_=>.nil
 | i::p,h=>by
  obtain⟨t,e⟩:=ints_getD hi i (h i ah);rw[ae,ae,e];exact .cons _ t (qX hi p λj hj=>h j (aN _ hj))
def pE{us:List Value}{ns:List Int}(hi:IntsAre us ns):us.length=ns.length:=by
 induction hi with
 | nil=>rfl
 | cons _ _ _ ih=>simp[ih]
def tV:∀{us:List Value} {ns:List Int},IntsAre us ns->∀v∈us,∃n t,v=Value.int n t
 | _,_,.nil,v,h=>nomatch h
 | _,_,.cons n t r,v,h=>by
  rcases aI.mp h with rfl | h
  ·exact⟨n,t,rfl⟩
  ·exact tV r v h
def Ef(K:P5):List V->Hp->VK->Prop:=λxs H Q=>∃(p:Addr) (ns:List Int),xs=[.ref p]/\(ce K H p (ns.map V.int)\/dA K H p (ns.map V.int))/\ns.length<64 ∧
 ∀(l:Addr) (ms:List Int),H l=none->ms.Perm ns->ms.Pairwise (·<=·)->Q (.ref l) (bW H l (.lst (ms.map V.int)))
def mw:eA X (.builtin "sorted") (Ef X.K):=by
 intro pins s σ H xs us Q I r h;obtain⟨p,ns,rfl,hq,hl,q⟩:=h;obtain⟨u,rfl,rx⟩:=vals1 r;cases rx;have fin:∀its:List Value,IntsAre its ns->∀pr:Array Nat,pr.Perm (List.toArray (List.range its.length))->uQ (λi=>ns.getD i 0) pr its.length →
   EP X pins σ Q (.ref (s.heap.objs.size+1)) { s with heap:=sortedAll s.heap its (jK its pr) }:=λits hi pr hp ha=>by
  obtain⟨c,hc⟩:=sortedAll_at s.heap its (jK its pr);have hil:=pE hi;have hin:∀i∈pr.toList,i<its.length:=λi him=>by
   have h1:pr.toList.Perm (List.range its.length):=by simpa using fY.mp hp
   simpa using h1.mem_iff.mp him
  have hp':pr.Perm (List.toArray (List.range ns.length)):=by rw[<-hil];exact hp
  have hpk:=l8 0 ns hp';have hlen:=hpk.length_eq;refine⟨.ref (s.heap.objs.size+1),bW H (s.heap.objs.size+1) (.lst ((pick 0 ns pr).map V.int)),I.laid (t':=s.toks) (λb o e=>sortedAll_old e) (dw _)
   (show cw X.prog X.w _ _ _ (.lst _) from ⟨by rw[aD,hlen];exact bI (bU (by lia)),(jK its pr).toList,c,lW ?_,by simpa using hc⟩),rfl,q _ _ (I.hok.fresh (dw _)) hpk ?_⟩
  ·have:=qX hi pr.toList hin;simpa [jK,pick] using this
  ·exact su (n:=its.length) (by have:=hp.size_eq;simpa using this) ha 0 ns (λx=>x) λi=>rfl
 have kind:∀(A:Around) (its:List Value),IntsAre its ns->2<=its.length->∀(h':Heap) (Q:SortKind->Shared->Prop),Q oneType' { s with heap:=h' }->wpAny (model X.prog X.w) A (keyKind' its.toArray) Q (λ_ _=>False) { s with heap:=h' }:=λA its hi h2 h' Q q'=>by
  refine kas_kind (T:=.type "int") h2 (λv hv=>?_) (by decide) (by decide) q';obtain⟨n,t,rfl⟩:=tV hi v hv;exact(show Looks _ _ (pure (Value.type "int")) (Value.type "int") from .now)
 have lt:∀(A:Around) (its:List Value),IntsAre its ns->∀i j,i<its.length->j<its.length->∀(h':Heap) (C:Bool->Shared->Prop),C (decide (ns.getD i 0<ns.getD j 0)) { s with heap:=h' } →
   wpAny (model X.prog X.w) A (keyLt' oneType' (its.getD i Value.none) (its.getD j Value.none)) C (λ_ _=>False) { s with heap:=h' }:=λA its hi i j h1 h2 h' C q'=>by
  obtain⟨t,e⟩:=ints_getD hi i h1;obtain⟨t',e'⟩:=ints_getD hi j h2;rw[e,e'];exact kat_lt_int q'
 rcases hq with hq | hq
 ·obtain⟨its,rv,pl,hz⟩:=I.list hq;have hi:=lJ rv;have hil:=pE hi;exact nX (r:=λi=>ns.getD i 0) oneType' pl.isList (by lia) (λh2 h' Q k q'=>kind _ its hi h2 h' Q q') (λi j h1 h2 h' C k q'=>lt _ its hi i j h1 h2 h' C q') (fin its hi)
 ·obtain⟨its,rv,pl,hz⟩:=I.tuple hq;have hi:=lJ rv;have hil:=pE hi;exact qz (r:=λi=>ns.getD i 0) oneType' pl (by lia) (λh2 h' Q k q'=>kind _ its hi h2 h' Q q') (λi j h1 h2 h' C k q'=>lt _ its hi i j h1 h2 h' C q') (fin its hi)
end
section
variable {X:Cx}
def CH:V->List V->Hp->VK->Prop:=λx vs H Q=>∃(l:Addr) (xs:List V) (k:Nat) (y:V),x=.ref l/\vs=[.int k,y]/\H l=some (.lst xs)/\k<=xs.length/\xs.length<=999/\Q .non (bW H l (.lst (xs.take k++y::xs.drop k)))
def pz:∀{xs:List V} {us:List Value} (k:Nat),bj xs us->bj (xs.take k) (us.take k)
 | _,_,0,_=>by simpa using (Paired.nil:bj [] [])
 | _,_,k+1,.nil=>by simpa using (Paired.nil:bj [] [])
 | _,_,k+1,.cons r t=>.cons r (pz k t)
def qB:∀{xs:List V} {us:List Value} (k:Nat),bj xs us->bj (xs.drop k) (us.drop k)
 | _,_,0,h=>h
 | _,_,k+1,.nil=>by simpa using (Paired.nil:bj [] [])
 | _,_,k+1,.cons r t=>qB k t
def xt:He X "list.insert" CH:=by
 intro pins s σ H x vs v us Q I rx rv h;obtain⟨l,xs,k,y,rfl,rfl,hH,hk,hx,q⟩:=h;cases rx;obtain⟨u,u',rfl,⟨t,rfl⟩,ru⟩:=bj.two rv;obtain⟨z,its,n,r,hl,e⟩:=I.lstM hH;have hz:its.toArray.size<=sizeLine:=by rw[aO];lia
 have hfit:Builtin.List.listFitsIndex (k:Int)=true:=by
  unfold Builtin.List.listFitsIndex;rw[be];exact⟨P0 (by lia),P0 (by lia)⟩
 have hc0:¬(!Builtin.List.listFitsIndex (k:Int))=true:=by rw[hfit];decide
 generalize hx0:(k:Int)=x0 at hc0 ⊢;refine call_meets jn ⟨_,e,rfl⟩ PySem.F.entry_list_insert (PySem.F.args_list_insert_3 _ _ _) (PySem.AutoSeq1.list_insert_list_int_val_1 l its.toArray n x0 t u' hc0 hz) ⟨e,?_⟩;refine⟨.non,_,I.lset (its':=its.take k++u'::its.drop k) hH e ?_ ((pz k r).append (.cons ru (qB k r))) ?_,rfl,q⟩
 ·subst hx0;have h0:¬(k:Int)<0:=by lia
  have hk2:min (k:Int).toNat its.toArray.size=k:=by rw[aO];lia
  show (its.toArray.extract 0 (if (k:Int)<0 then _ else min (k:Int).toNat its.toArray.size)).push u'++its.toArray.extract (if (k:Int)<0 then _ else min (k:Int).toNat its.toArray.size)=_;rw[PV h0,hk2];apply Array.ext';simp[gg]
 ·rw[bQ,cM,dN,iJ];exact bI (bU (by lia))
end
end L2
namespace L2
open PySem PySem.Spec PyProof.Rows
section
variable {σ:St} {H:Hp} {a:Addr}
def zJ{td ty:TE}{Q:VK}:za td ty σ H Q=td σ H λx H1=>ty σ H1 λy H2=>∃a v,x=.ref a/\uP H2 a y (some v)/\Q v H2:=rfl
def zI{td ty tv:TE}{D:Ends}:zt td ty tv D σ H=tv σ H λv H1=>td σ H1 λx H2=>ty σ H2 λy H3=>∃a H4,x=.ref a/\sG H3 a y v H4/\D.nx σ H4:=rfl
def vp{Q:VK}:u5 σ H Q=∀p,H p=none->Q (.ref p) (bW H p (.dK [])):=rfl
end
section
def vQ{A:Around}{k:Nat}(hr:fg k A):A.units+1<cLine:=by have:=hr.units;lia
end
def nU(dO:Option Addr)(e:Addr)(h:Heap):Prop:=∃o vs,h.get? e=some o/\(o.dict=dO/\o.data=.fields vs)/\vs[2]? = some .none
abbrev JJ (e:Addr) (h:Heap):Prop:=nU none e h
structure dj {α:Type} (I:Heap->Prop) (t:Sem α):Prop where
 out:∀ (M:Model) (Γ:PySem.Ctx) (P:α->Pos->Shared->Prop) (E:Value->Pos->Shared->Prop) (p:Pos) (s:Shared),I s.heap->Sem.wp M Γ t P E p s->Sem.wp M Γ t (fun a p' s'=>P a p' s'/\I s'.heap) E p s
section
variable {α β:Type} {I:Heap->Prop}
def dj.pure(a:α):dj I (Pure.pure a:Sem α):=⟨λM Γ P E p s i h=>⟨h,i⟩⟩
def dj.un(w:String):dj I (unsupported w:Sem α):=⟨λM Γ P E p s i h=>False.elim h⟩
def dj.load(a:Addr):dj I (load a):=⟨λM Γ P E p s i ⟨o,e,h⟩=>⟨o,e,h,i⟩⟩
def dj.stack:dj I stack:=⟨λM Γ P E p s i h=>⟨h,i⟩⟩
def dj.update{a:Addr}{f:Obj->Obj}(k:∀h,I h->I (h.update a f)):dj I (update a f):=⟨λM Γ P E p s i ⟨e,h⟩=>⟨e,h,k _ i⟩⟩
def dj.alloc{o:Obj}(k:∀h,I h->I (h.push o)):dj I (alloc o):=⟨λM Γ P E p s i h=>⟨h,k _ i⟩⟩
def dj.bind{m:Sem α}{f:α->Sem β}(hm:dj I m)(hf:∀a,dj I (f a)):dj I (m>>=f):=⟨λM Γ P E p s i h=>by
 have h':Sem.wp M Γ (m.bind f) P E p s:=h;show Sem.wp M Γ (m.bind f) _ E p s;rw[Sem.wp_bind] at h' ⊢;exact Sem.wp_mono M Γ m (λa p' s' ⟨h1,i1⟩=>(hf a).out M Γ P E p' s' i1 h1) (λ_ _ _ z=>z) _ _ (hm.out M Γ _ E p s i h')⟩
def dj.ite{c:Prop} [Decidable c] {a b:Sem α} (ha:dj I a) (hb:dj I b):dj I (if c then a else b):=by split<;>assumption
def dj.newObjT{T:String}{vs:List Value}(k:∀h o,I h->I (h.push o)):dj I (newFields T vs):=by
 unfold newFields newObj;exact dj.ite (.bind (.un _) λ_=>.bind (.alloc λh i=>k h _ i) λa=>.pure _) (.bind (.alloc λh i=>k h _ i) λa=>.pure _)
end
def DI{dO:Option Addr}{e:Addr}{h:Heap}{o:Obj}(c:nU dO e h):nU dO e (h.push o):=by
 obtain⟨ob,vs,e1,e2,e3⟩:=c;exact⟨ob,vs,aB _ e1,e2,e3⟩
def BX{dO:Option Addr}{e a:Addr}{h:Heap}{f:Obj->Obj}(k:∀o vs,o.dict=dO/\o.data=.fields vs->vs[2]? = some Value.none->∃ws,((f o).dict=dO/\(f o).data=.fields ws)/\ws[2]? = some Value.none)(c:nU dO e h):nU dO e (h.update a f):=by
 obtain⟨ob,vs,e1,e2,e3⟩:=c;by_cases z:a=e
 ·subst z;obtain⟨ws,e4,e5⟩:=k ob vs e2 e3;exact⟨_,ws,cf f e1 (by clear e5;revert e4;generalize f ob=z;intro ⟨_,e4⟩;obtain⟨c,d,da,sl⟩:=z;cases e4;rfl),e4,e5⟩
 ·exact⟨ob,vs,eh f z e1,e2,e3⟩
def dj.setField{dO:Option Addr}{e:Addr}{v x:Value}{i:Nat}(hi:i≠2):dj (nU dO e) (PySem.setField v i x):=by
 unfold PySem.setField
 split
 ·unfold updateField;refine .bind (.load _) λo=>?_
  split
  ·refine .ite (.update λh c=>BX (λo vs e1 e2=>?_) c) (.un _);obtain⟨c,d,da,sl⟩:=o;obtain⟨e0,e1⟩:=e1;cases e1;refine⟨_,⟨e0,rfl⟩,?_⟩;rw[Array.getElem?_setIfInBounds,PV hi];exact e2
  ·exact .un _
 ·exact .un _
def dj.field{I:Heap->Prop}{v:Value}{i:Nat}:dj I (PySem.field v i):=by
 unfold PySem.field fieldsOf;refine .bind ?_ λvs=>?_
 ·split
  ·refine .bind (.load _) λo=>?_
   split
   ·exact .pure _
   ·exact .un _
  ·exact .un _
 ·split
  ·exact .pure _
  ·exact .un _
def dj.ready{dO:Option Addr}{e:Addr}:∀l:List Env,dj (nU dO e) (readyFrames l)
 | []=>.pure _
 | env::outer=>by
  unfold readyFrames
  split
  ·refine .bind (.load _) λo=>.ite (.pure _) (.bind ?_ λb=>.bind ?_ λc=>.bind (.update λh c=>BX (λo vs e1 e2=>⟨vs,e1,e2⟩) c) λ_=>dj.ready outer)
   ·unfold behindIsImport;exact .ite (.pure _) (.ite (.pure _) (.bind .field λ_=>.pure _))
   ·unfold keptBack
    split
    ·refine .ite (.pure _) (.bind ?_ λ_=>.pure _);unfold underTheClaimsCaller;exact .bind .stack λ_=>.pure _
    ·exact .pure _
  ·exact .un _
def dj.note{dO:Option Addr}{e:Addr}{v:Value}{env:Env}:dj (nU dO e) (noteFrame v env):=by
 have jp:∀(f:Addr) (head:Value),dj (nU dO e) (do
   let a <-PySem.frameOf env
   let b <-entryPlaceOf f (head != Value.none)
   let c <-EntryCells.newEntry head a Value.none (rawInt ↑f) Value.none b
   PySem.setField v 1 c):=λf head=>by
  refine .bind ?_ λa=>.bind ?_ λb=>.bind ?_ λc=>.setField (by decide)
  ·unfold PySem.frameOf frameEnvs;refine .bind (.bind .stack λ_=>.pure _) λl=>.bind ?_ λo=>?_
   ·unfold frameObject
    split
    ·exact .pure _
    ·exact .bind (dj.ready _) λ_=>.pure _
   ·split
    ·exact .pure _
    ·exact .un _
  ·unfold entryPlaceOf;refine .bind .stack λacts=>?_
   split
   ·exact .pure _
   ·exact .pure _
  ·unfold EntryCells.newEntry;exact .newObjT λh o c=>DI c
 unfold noteFrame
 split
 ·refine .bind .field λhead=>?_;refine .ite (.bind .field λx=>.ite (.pure _) (.bind (.setField (by decide)) λ_=>jp _ _)) (jp _ _)
 ·exact .un _
def dj.flight{dO:Option Addr}{e:Addr}{v:Value}{fr:Option Addr}:dj (nU dO e) (setFlight v fr):=by
 unfold setFlight;exact .bind .field λtb=>.ite (.setField (by decide)) (.pure _)
def dj.leave{dO:Option Addr}{e:Addr}{v:Value}{env:Env}:dj (nU dO e) (leaving env v):=by
 unfold leaving;exact .bind .note λ_=>.flight
def dj.any{α:Type}{I:Heap->Prop}{t:Sem α}(p:dj I t){M:Model}{A:Around}{Q:α->Shared->Prop}{E:Value->Shared->Prop}{s:Shared}(i:I s.heap)(h:wpAny M A t Q E s):wpAny M A t (λa s'=>Q a s'/\I s'.heap) E s:=
 fun Γ q hΓ=>p.out M Γ _ _ q s i (h Γ q hΓ)
def gH{α:Type}{I:Heap->Prop}{t:Sem α}(p:dj I t){M:Model}{A:Around}{Q:α->Shared->Prop}{E:Value->Shared->Prop}{s:Shared}(i:I s.heap)(h:wpAny M A t (λa s'=>I s'.heap->Q a s') E s):wpAny M A t Q E s:=
 wpAny_mono (p.any i h) (λ_ _ ⟨q,c⟩=>q c) λ_ _ z=>z
def Cs{h h':Heap}{e:Addr}{cls:Value}{vs:List Value}(M:h.MadeExcOf h' e cls vs):JJ e h':=by
 obtain⟨t,e1,_⟩:=M.there;exact⟨_,_,e1,⟨rfl,rfl⟩,rfl⟩
def lw:entryFor table "proto.unchain"=some Builtin.«proto.unchain»:=entryFor_of_tree (Eq.refl (entriesT.find (code "proto.unchain")))
def nq{prog:Program}{w:World}{A:Around}{E:Value->Shared->Prop}{s:Shared}{it hx:Addr}{x left step:Int}{Q:Option Value->Shared->Prop}{dO:Option Addr}(hh:A.handled=some (.ref hx))(hc:nU dO hx s.heap)
  (hit:IsRangeIter s.heap it x left step) (hleft:left<=0) (hQ:∀h',Heap.ExtBut it s.heap h'->Q none { s with heap:=h' }):wpAny (model prog w) A (pyNext (.ref it)) Q E s:=by
 have hT:s.TypeIs (.ref it) "range_iterator":=⟨_,hit,rfl⟩
 unfold pyNext;refine wpAny_bind (PD (wpAny_callSpecial?_slot hT jR (Oy jR hT F.entry_range_iterator_next ?_)));show wpAny (model prog w) A.in1 (Bind.bind (field (Value.ref it) 0) _) _ _ s;refine wpAny_bind (Ow hit rfl rfl ?_);show wpAny (model prog w) A.in1 (Bind.bind (field (Value.ref it) 1) _) _ _ s;refine wpAny_bind (Ow hit rfl rfl ?_);show wpAny (model prog w) A.in1 (Bind.bind (field (Value.ref it) 2) _) _ _ s;refine wpAny_bind (Ow hit rfl rfl ?_);show wpAny (model prog w) A.in1 (if left<=0 then _ else _) _ _ s;rw[PX hleft];refine wpAny_bind (PH (wpAny_bind ?_));show wpAny (model prog w) A.in1 (Bind.bind (newExc (Value.type "StopIteration") []) raiseNew) _ _ s;refine wpAny_bind ?_;show wpAny (model prog w) A.in1 (Bind.bind (newTuple []) _) _ _ s;refine wpAny_bind (Oz (wpAny_bind (wpAny_of_eq (Eq.refl (firstArgMember (Value.type "StopIteration") [])) (Oz ?_))));generalize hh1:(s.heap.push _).push _=h1;unfold raiseNew;refine wpAny_bind (wpAny_handled ?_);rw[show A.in1.handled=some (.ref hx) from hh];dsimp only;obtain⟨o,vs,e1,⟨_,e2⟩,e3⟩:=hc;have lt:=aJ e1;have sz:(s.heap.push { cls:=Value.type "tuple",data:=Data.seq #[] }).objs.size=s.heap.objs.size+1:=cL _ _;rw[sz];have nx:hx≠s.heap.objs.size+1:=aV (bF lt);have k1:∀b u,s.heap.get? b=some u->h1.get? b=some u:=λb u q=>by
  rw[<-hh1];exact aB _ (aB _ q)
 have new1:∃ob ws,h1.get? (s.heap.objs.size+1)=some ob/\ob.data=.fields ws/\2<ws.size/\ob.cls=.type "StopIteration":=by
  rw[<-hh1,<-sz];exact⟨_,_,aK _ rfl,rfl,by rw[jd];exact aT (show 2<6 by decide) (Nat.le_add_right _ _),rfl⟩
 obtain⟨ob,ws,n1,n2,n3,n4⟩:=new1;rw[PX (by simp[nx])];refine wpAny_bind (Ox (runValue_entry lw ?_));show wpAny _ _ (Bind.bind (field (Value.ref hx) 2) _) _ _ _;refine wpAny_bind (Ow (k1 _ _ e1) e2 e3 ?_);rw[PX (show (Value.none==Value.none)=true from rfl)];refine On ⟨_,rfl,?_⟩;show wpAny _ _ (Bind.bind (setField (Value.ref (s.heap.objs.size+1)) 2 (Value.ref hx)) _) _ _ _;refine wpAny_bind (PJ n1 n2 n3 (wpAny_throw ?_));have up:=cf (Obj.mapFields λz=>z.setIfInBounds 2 (Value.ref hx)) n1 (by obtain⟨c,d,da,sl⟩:=ob;cases n2;rfl);refine wpAny_bind (wpAny_isInstance (T:="StopIteration") ⟨_,up,by obtain⟨c,d,da,sl⟩:=ob;cases n2;exact n4⟩ isSubtype_stop (On (hQ _ λb o hb q=>?_)));have ne:b≠s.heap.objs.size+1:=aV (bF (aJ q));exact eh _ (cU ne) (k1 b o q)
def cw.ex{P:Program}{w:World}{H:Hp}{h:Heap}{a:Addr}{o:HO}(x:cw P w H h a o):∃ob,h.get? a=some ob:=by
 cases o with
 | lst xs=>obtain⟨_,_,_,_,e⟩:=x;exact⟨_,e⟩
 | tup xs=>obtain⟨_,_,_,ob,e,_⟩:=x;exact⟨_,e⟩
 | dK kvs=>obtain⟨_,_,_,_,o,_,_,e,_⟩:=x;exact⟨_,e⟩
 | dT kvs=>obtain⟨_,_,_,_,o,_,_,e,_⟩:=x;exact⟨_,e⟩
 | set S n=>obtain⟨o,_,_,_,e,_⟩:=x;exact⟨_,e⟩
 | ins C dx fs=>obtain⟨_,_,_,e,_⟩:=x;exact⟨_,e⟩
 | own y=>exact x
 | xd fs=>obtain⟨_,⟨_,_,_,e,_⟩,_⟩:=x;exact⟨_,e⟩
 | rng lo hi=>obtain⟨_,_,_,e⟩:=x;exact⟨_,e⟩
 | frz ob u=>obtain⟨e,_⟩:=x;exact⟨_,e⟩
 | tbl ps=>exact⟨_,show h.get? a=some _ from x⟩
 | met f y=>exact⟨_,show h.get? a=some _ from x⟩
 | ext φ=>obtain⟨_,e,_⟩:=x;exact e
structure Ip (B h:Heap) (H':Hp) (outer:List Env):Prop where
 old:∀ b o,h.get? b=some o->b∉j3 outer->∃ o',B.get? b=some o'
 trk:∀ b u,H' b=some u->∃ o',B.get? b=some o'
def nG(P:Program)(w:World):yi:=λouter H s E e s'=>∃(a C t:Addr) (H':Hp) (B:Heap) (dO:Option Addr),e=.ref a/\s'.os=s.os/\AllBare s'.gens/\Un (j3 outer) [] H H' s.heap s'.heap/\lj P w H' s'.heap ∧
 B.FlyingW outer a (.ref C) (.ref t) s'.heap/\Ip B s.heap H' outer/\nU dO a s'.heap/\E (.ref C) dO H'
def lK {h base B : Heap} : ∀ {l : List Env}, h.FunFrames base l → (∀ b ∈ j3 l, B.get? b = none) → h.FunFrames B l
 | [], _, _ => trivial
 | env :: r, ⟨hk, ⟨L, o, hf, hn, ho, hd⟩, hr⟩, hb => ⟨hk, ⟨L, o, hf, hb L (by unfold j3; rw [c8, hf]; exact ah), ho, hd⟩,
   lK hr fun b m => hb b (by unfold j3; rw [c8, hf]; exact aN _ m)⟩
def Fm(X:Cx)(E:XK):Prop:=∀(pins:List (Addr×Obj)) (σ:St) (H:Hp) (s:Shared) (h':Heap) (e C:Addr) (vs:List Value),bT X pins σ H s->s.heap.MadeExcOf h' e (.ref C) vs->E (.ref C) none H->X.xe (.ref e) { s with heap:=h' }
def zx{P:Program}{w:World}{K:P5}{mg:Str->Option Value}{base:Heap}{N:List Str}{qual:Str}{scope:Scope}{f:Addr}{cd:Value}{A:Around}{outer:List Env}{s0:Shared}{H0:Hp}{E:XK}:
  Fm (iY (nG P w) P w K mg base N qual scope f cd A outer s0 H0 E) E:=by
 intro pins σ H s h' e C vs I M hE;generalize hX:iY (nG P w) P w K mg base N qual scope f cd A outer s0 H0 E=X at I ⊢;have hst:X.stack=X.env::X.outer:=by rw[<-hX];rfl
 have hfr:X.env.frame=some X.env.locals:=by rw[<-hX];rfl
 have hxe:X.xe=λe s'=>wpAny (model X.prog X.w) X.A (leaving X.env e) (λ_ s''=>nG X.prog X.w X.outer X.H₀ X.s₀ E e s'') (λe' s''=>nG X.prog X.w X.outer X.H₀ X.s₀ E e' s'') s':=by rw[<-hX];rfl
 have hex:X.ex=[]:=by rw[<-hX];rfl
 have hfs:j3 X.stack=X.env.locals::X.fs:=by rw[hst];unfold j3;rw[c8,hfr];rfl
 clear hX;rw[hxe];have hB:∀b o,s.heap.get? b=some o->b∉j3 X.stack->(PySem.W.hideAll s.heap (j3 X.stack)).get? b=some o:=λb o e1 e2=>i7 _ e1 e2;refine gH (dj.leave (dO:=none) (e:=e)) (Cs M) ?_;refine wpAny_leaves_madeW (base:=PySem.W.hideAll s.heap (j3 X.stack)) (h:=s.heap) (outer:=X.outer) (L:=X.env.locals) (by rw[I.ok.frames,hst]) hfr (λb o e1=>jO _ e1)
  (lK (hst▸I.stack) λb m=>fV _ (hst▸m)) M λh2 t fl _ _ up ct=>?_
 have lt0:∀b o,X.s₀.heap.get? b=some o->b≠X.env.locals:=λb o e1=>aV (aT (aJ e1) I.ok.above);have out:∀b o,X.s₀.heap.get? b=some o->b∉X.fs->b∉j3 X.stack:=λb o e1 e2 z=>by
  rw[hfs] at z;exact(aI.mp z).elim (lt0 b o e1) e2
 have ne:∀b,b∉X.ex:=λb z=>by rw[hex] at z;cases z
 have stay:=fl.1;have slot:∀b o,s.heap.get? b=some o->b∈X.fs->∃sl,h2.get? b=some { o with slots:=sl }:=λb o e1 m=>by
  obtain⟨_,o',e2,nf⟩:=I.funs.mem m;rw[e1] at e2;cases e2;obtain⟨sl,q⟩:=up b o (M.keeps b o e1) nf;exact⟨sl,q⟩
 have u:=I.base;rw[hex] at u;refine⟨e,C,t,H,_,none,rfl,I.os,I.bare,⟨λb o e1 e2 e3 e4=>?_,λb o e1 e2 e3 e4=>?_,u.free,λb o e1 e2=>?_,u.tups,u.frzs,u.tbls⟩,λb o e1=>?_,fl,⟨λb o e1 e2=>?_,λb o e1=>?_⟩,ct,hE⟩
 ·exact stay b o (hB b o (u.keep b o e1 e2 e3 e4) (out b o e1 e3))
 ·obtain⟨sl,q⟩:=u.slot b o e1 e2 e3 e4;obtain⟨sl',q'⟩:=slot b _ q e3;exact⟨sl',q'⟩
 ·obtain⟨o',q⟩:=u.there b o e1 e2;by_cases m:b∈X.fs
  ·obtain⟨sl,q'⟩:=slot b o' q m;exact⟨_,q'⟩
  ·exact⟨o',stay b o' (hB b o' q (out b o e1 m))⟩
 ·refine(I.hok b o e1).stay (λc v hc q=>stay c v (hB c v q λz=>?_)) (λ_ q=>q) λ_ _ q=>q;have n:=I.stkFree c z;rcases hc with r | r
  ·rw[r,e1] at n;cases n
  ·rw[r] at n;cases n
 ·obtain⟨o',q⟩:=u.there b o e1 (by simp);exact⟨o',hB b o' q (out b o e1 e2)⟩
 ·obtain⟨ob,q⟩:=(I.hok b o e1).ex;refine⟨ob,hB b ob q λz=>?_⟩;have n:=I.stkFree b z;rw[e1] at n;cases n
def oN{h:Heap}{bmB:List Value}{v:Value}(hv:bmB.contains v=true):∀{l:List Value},OwnTail h bmB l->l.contains v=true
 | _,.base=>hv
 | _,.own _ _ _ t=>by rw[List.contains_cons,oN hv t,nF]
def oj{h h':Heap}(k:∀b o,h.get? b=some o->h'.get? b=some o){N:Addr}{m:Str->Option Value}(x:h.Ns N m):h'.Ns N m:=by
 obtain⟨o,es,ep,ho,r⟩:=x;exact⟨o,es,ep,k _ _ ho,r⟩
def kT{h h':Heap}(k:∀b o,h.get? b=some o->h'.get? b=some o){bmB:List Value}:∀{l:List Value},OwnTail h bmB l->OwnTail h' bmB l
 | _,.base=>.base
 | _,.own a b c t=>.own (k _ _ a) (oj k b) c (kT k t)
def uX(C:Addr)(E:XK)(t:TA):TS:=λ_ σ H=>t σ H λvs H1=>vs.length<=sizeLine/\E (.ref C) none H1
section
variable {X:Cx}
def AN{x:Str}{C:Addr}{bmB:List Value}{B newId initId:String}{E:XK}{e:Expr}{es:List Expr}{t:TA}{np cpos pos:Pos}(R:Fm X E)(O:OwnCls x C bmB newId X.mg X.base)(F:ExcBaseFacts B newId initId bmB)(hc:X.calm=true)(hg:Gl X x)(ha:PA X (e::es) t)
  (hdb:(x==("__debug__":Str))=false:=by decide) (he:starEach (e::es) X.env=(false,eval e X.env)::starEach es X.env:=by rfl) (hpl:(backTo cpos (starEach es X.env)).any (·.1)=false:=by rfl) :
  PS X (.Raise (some (.Call (.Name x np) (e::es) [] cpos)) none pos) (uX C E t):=by
 intro pins s σ H D I h;obtain⟨bm,N,nm,q,bs,hdct,sn,sub,ab,col,dd,k0,k1,k2,k3,k5,mN,hC,hN,hi,ot⟩:=O.obj;have eq:backTo cpos (starEach (e::es) X.env)=(false,eval e X.env)::backTo cpos (starEach es X.env):=by rw[he];rfl
 have hb:(backTo cpos (starEach (e::es) X.env)).any (·.1)=false:=by rw[eq,fJ,hpl];rfl
 refine wpAny_Raise_call_subT (nm:=nm) (q:=q) (N:=N) (bs:=bs) (hdct:=hdct) (sn:=sn) (sub:=sub) (ab:=ab) (col:=col) (dd:=dd) (k0:=k0) (k1:=k1) (k2:=k2) (k3:=k3) (k5:=k5) F (oN F.hasBase ot) (I.ok.hd hc) hb hi (ij I hg O.bound ⟨rfl,?_⟩ hdb);have pl:=ha cpos pins s σ H _ I h;rw[eq] at pl ⊢;refine Calls.evalArgs_plain (dW pl λus s1 ⟨vs,H1,I1,r,z,q1⟩=>⟨rfl,by rw[<-r.length];exact z,I1.bk _ _ hC,oj I1.bk hN,kT I1.bk ot,λh' a M=>R pins σ H1 s1 h' a C us I1 M q1⟩)
end
def jW(dO:Option Addr)(C a:Addr):HO:=.ext λh=>(∃o,h.get? a=some o/\o.cls=.ref C)/\nU dO a h
abbrev Ff (C a:Addr):HO:=jW none C a
def Cx.exc(X:Cx)(a:Addr):Cx:={ X with A:=X.A.mark (some (.ref a)),calm:=false,xe:=λ_ _=>False }
section
variable {X:Cx} {pins:List (Addr×Obj)} {σ:St} {H H':Hp} {s s':Shared}
def Cx.Ok.exc(ok:X.Ok)(a:Addr):(X.exc a).Ok:=
 ⟨ok.mod,ok.kind,ok.glob,ok.blt,ok.above,ok.inj,ok.has,ok.cab,(λz=>nomatch z),ok.frames,ok.stk,ok.exf,ok.bs,ok.bsz,ok.noex,ok.exfs,ok.funs,ok.frf⟩
def bT.exc(I:bT X pins σ H s)(a:Addr):bT (X.exc a) pins σ H s:=⟨I.ok.exc a,I.os,I.bare,I.base,I.loc,I.cell,I.free,I.freeC,I.pin,I.hok,I.len⟩
def bT.unexc{a:Addr}(I:bT (X.exc a) pins σ H s)(ok:X.Ok):bT X pins σ H s:=⟨ok,I.os,I.bare,I.base,I.loc,I.cell,I.free,I.freeC,I.pin,I.hok,I.len⟩
def UpToSlots.trans{h1 h2 h3:Heap}(a:h1.UpToSlots h2)(b:h2.UpToSlots h3):h1.UpToSlots h3:=λc o e nf=>by
 obtain⟨sl,e1⟩:=a c o e nf;obtain⟨sl',e2⟩:=b c _ e1 nf;exact⟨sl',e2⟩
def bT.land{dO:Option Addr}{B:Heap}{a C t:Addr}{h4:Heap}{E:XK}(I:bT X pins σ H s)(os:s'.os=s.os)(bare:AllBare s'.gens)(un:Un (j3 X.stack) [] H H' s.heap s'.heap)(hok:lj X.prog X.w H' s'.heap)(f1:B.FlyingW X.stack a (.ref C) (.ref t) s'.heap)
  (cov:Ip B s.heap H' X.stack) (f4:B.FlyingW X.stack a (.ref C) (.ref t) h4) (up:s'.heap.UpToSlots h4) (ct:nU dO a h4):bT X pins σ (bW H' a (jW dO C a)) { s' with heap:=h4 }:=by
 have Bn:B.get? a=none:=f1.2.1;have ntr:∀b u,H' b=some u->b≠a:=λb u e z=>by
  obtain⟨o,q⟩:=cov.trk b u e;rw[z,Bn] at q;cases q
 have na:∀b o,s.heap.get? b=some o->b≠a:=λb o e z=>by
  subst z;by_cases m:b∈j3 X.stack
  ·obtain⟨_,o1,e1,nf⟩:=f4.2.2.1.mem m;obtain⟨oe,vs,_,_,_,e2,_,e3,_⟩:=f4.2.2.2;rw[e1] at e2;cases e2;exact nf vs e3
  ·obtain⟨o',q⟩:=cov.old b o e m;rw[Bn] at q;cases q
 have fr:∀b o,s'.heap.get? b=some o->b∈j3 X.stack->∃sl,h4.get? b=some { o with slots:=sl }:=λb o e m=>by
  obtain⟨_,o1,e1,nf⟩:=f1.2.2.1.mem m;rw[e] at e1;cases e1;exact up b o e nf
 have same:∀b o ob,B.get? b=some ob->s'.heap.get? b=some o->h4.get? b=some o:=λb o ob e e1=>by
  have e2:=f1.1 b ob e;rw[e1] at e2;cases e2;exact f4.1 b o e
 refine I.call' (s':={ s' with heap:=h4 }) (ch:=[]) os ⟨λb o e n hb _=>?_,λb o e n hb hx=>?_,λb o e n hx=>?_,λb o e hx=>?_,λb xs e=>?_,λb o u e=>?_,λb ps e=>?_⟩ (λb o e=>?_) bare (λb z=>nomatch z)
 ·have e1:=un.keep b o e n hb (by simp);obtain⟨ob,q⟩:=cov.old b o e hb;exact same b o ob q e1
 ·obtain⟨sl,e1⟩:=un.slot b o e n hb (by simp);obtain⟨sl',e2⟩:=fr b _ e1 hb;exact⟨sl',e2⟩
 ·rw[aP (na b o e)];exact un.free b o e n (by simp)
 ·obtain⟨o',e1⟩:=un.there b o e (by simp);by_cases m:b∈j3 X.stack
  ·obtain⟨sl,q⟩:=fr b o' e1 m;exact⟨_,q⟩
  ·obtain⟨ob,q⟩:=cov.old b o e m;exact⟨_,f4.1 b ob q⟩
 ·have e1:=un.tups b xs e;rw[aP (ntr b _ e1)];exact e1
 ·have e1:=un.frzs b o u e;rw[aP (ntr b _ e1)];exact e1
 ·obtain⟨more,e1⟩:=un.tbls b ps e;exact⟨more,by rw[aP (ntr b _ e1)];exact e1⟩
 ·by_cases z:b=a
  ·subst z;rw[aE] at e;cases e;obtain⟨oe,_,_,_,_,e2,⟨e3,_⟩,_⟩:=f4.2.2.2;refine⟨⟨⟨oe,e2,e3⟩,ct⟩,⟨oe,e2⟩,λh1 h2 ⟨⟨o,e5,e6⟩,⟨o',vs,e7,e8⟩⟩ k=>⟨⟨o,k o e5,e6⟩,⟨o',vs,k o' e7,e8⟩⟩⟩
  ·rw[aP z] at e;refine(hok b o e).stay (λc v hc q=>?_) (λc q=>by rw[aP (ntr c _ q)];exact q) λc xs q=>by rw[aP (ntr c _ q)];exact q
   obtain⟨ob,q'⟩:∃ob,B.get? c=some ob:=by
    rcases hc with r | r
    ·rw[r];exact cov.trk b o e
    ·exact cov.trk c _ r
   exact same c v ob q' q
end
def oI{X:Cx}{pins:List (Addr×Obj)}{σ:St}{H:Hp}{s:Shared}{M:Model}{A:Around}{E:Value->Shared->Prop}{i:Nat}{n:Str}{pos:Pos}{Q:Unit->Shared->Prop}(I:bT X pins σ H s)(hN:X.N.Nodup)(hi:X.N[i]? = some n)(hx:X.env.scope.names.lookup n=some .local)
  (h:∀s',bT X pins (σ.set i none) H s'->Q () s'):wpAny M A (do bindName X.env n Value.none;unbindBehindTheSuite X.env n pos) Q E s:=by
 obtain⟨m,hn,hl⟩:=id I.loc;have hcls:(X.env.scope.kind==.class || (X.env.scope.kind==.module&&X.env.locals != X.env.globals))=false:=by rw[I.ok.kind];rfl
 have cne:=I.cne;refine wpAny_nameGoes_keeps hx hn hcls λh' v hn' hs=>?_;obtain⟨oL,_,_,hoL,_⟩:=id hn;refine h _ ⟨I.ok,I.os,I.bare,⟨λb o e n hb hx=>?_,λb o e n hb hx=>?_,I.base.free,λb o e hx=>?_,I.base.tups,I.base.frzs,I.base.tbls⟩,⟨_,hn',λj y v' e1 e2 e3=>?_⟩,λy c e=>?_,I.free,I.freeC,λp hp=>?_,λb ob e=>?_,by simpa using I.len⟩
 ·exact(hs.2 b (aV (aT (aJ e) I.ok.above))).trans (I.base.keep b o e n hb hx)
 ·obtain⟨sl,e1⟩:=I.base.slot b o e n hb hx;exact⟨sl,(hs.2 b (aV (aT (aJ e) I.ok.above))).trans e1⟩
 ·obtain⟨o',e1⟩:=I.base.there b o e hx;exact⟨o',(hs.2 b (aV (aT (aJ e) I.ok.above))).trans e1⟩
 ·have hj:j≠i:=λz=>by
   subst z;have:j<σ.length:=by rw[I.len];exact(aR.mp e1).1
   rw[gi this] at e2;cases e2
  rw[iR (cU hj)] at e2;obtain⟨u',r',q⟩:=hl j y v' e1 e2 e3;refine⟨u',r',?_⟩;rcases q with ⟨k,e⟩ | ⟨k,c,e,z⟩
  ·refine .inl ⟨k,?_⟩;have:y≠n:=λe=>hj (oo hN e1 (e▸hi));simp[this,e]
  ·exact .inr ⟨k,c,e,z.sameBut hs (cne y c e)⟩
 ·obtain⟨w',z⟩:=I.cell y c e;exact⟨w',z.sameBut hs (cne y c e)⟩
 ·obtain⟨e,n,ne,nf,d⟩:=I.pin p hp;exact⟨(hs.2 p.1 ne).trans e,n,ne,nf,d⟩
 ·refine(I.hok b ob e).stay (λc w' hc q=>(hs.2 c ?_).trans q) (λ_ q=>q) λ_ _ q=>q;rintro rfl;have hfree:=I.free;rcases hc with rfl | hc
  ·rw[hfree] at e;cases e
  ·rw[hfree] at hc;cases hc
structure kH (a:Addr) (k:Nat) (A:Around):Prop where
 hd:A.handled=some (.ref a)
 dp:A.depth+3 * k+5<recursionLimit
 un:A.units+16 * k+200<cLine
def kH.deeper{a:Addr}{k:Nat}{A:Around}(r:kH a (k+1) A)(env:Env):kH a k (A.deeper env):=
 ⟨r.hd,by have:=r.dp;show A.depth+1+3*k+5<_;lia,by have:=r.un;show A.units+3+16*k+200<_;lia⟩
def kH.of{a:Addr}{k:Nat}{A:Around}(r:fg k A):kH a k (A.mark (some (.ref a))):=⟨rfl,r.dp,r.un⟩
structure uM (P:Program) (w:World) (K:P5) (mg:Str->Option Value) (base:Heap) (a:Addr) (k:Nat) (f:Addr) (fd:FuncData) (ps:List Str) (sp:Sp):Prop where
 len:∀ vs H Q E,sp vs H Q E->vs.length=ps.length
 run:∀ (A:Around) (outer:List Env) (s:Shared) (H:Hp) (args:Args) (us:List Value) (vs:List V) (Q:VK) (E:XK),kH a k A->sF P w K mg base A outer s H->BindsTo s fd args (ps.zip us)->bj vs us->sp vs H Q E →
  codeAny (model P w) A (.call (.ref f) args) (CR uS outer P w H s Q E) s
def Hx(P:Program)(w:World)(K:P5)(mg:Str->Option Value)(base:Heap)(N:List Str)(qual:Str)(scope:Scope)(f:Addr)(cd:Value)(A:Around)(outer:List Env)(s:Shared)(H:Hp)(E:XK):Cx:=
 { iY uS P w K mg base N qual scope f cd A outer s H E with calm:=false,xe:=λ_ _=>False }
def Fe{P:Program}{w:World}{K:P5}{mg:Str->Option Value}{base:Heap}{a:Addr}{k:Nat}{f:Addr}{name qual:Str}{params:Arguments}{body:List Stmt}{scope:Scope}{dV kV doc pm cdv ct oc:Value}{an od:Option Addr}
  {osl:Array (Option Value)} {N ps:List Str} {sp:Sp} (lk:K.lookup f=some ⟨oc,od,.func (PySem.W.fnOf name qual params body scope dV kV doc pm an cdv ct),osl⟩) (hcd:PySem.W.codeIn K cdv qual=true) (S:bn N ps scope)
  (len:∀vs H Q E,sp vs H Q E->vs.length=ps.length)
  (hbody:∀(A:Around) (outer:List Env) (s:Shared) (H:Hp) (vs:List V) (Q:VK) (E:XK),kH a k (A.deeper (envOfC qual scope s.heap.objs.size f cdv))->sp vs H Q E →
   ∃t,qo (Hx P w K mg base N qual scope f cdv A outer s H E) body t/\t { nx:=λ_ H'=>Q .non H',rt:=Q } (start N vs) H) :
  uM P w K mg base a (k+1) f (PySem.W.fnOf name qual params body scope dV kV doc pm an cdv ct) ps sp:=by
 refine⟨len,λA outer s H args us vs Q E hr e0 hb r hsp=>?_⟩;have hl:=len _ _ _ _ hsp;have KX:K.In s.heap:=e0.mod.kin.keeps λb o e=>(e0.bs b o e).1;have lim:s.heap.NoLimit:=e0.mod.nolimit.keeps λb o e=>(e0.bs b o e).1;have hkind:∀y∈ps.zip us,scope.names.lookup y.1=some .local\/(scope.names.lookup y.1=some .cell/\((cellsFrom (s.heap.objs.size+1) scope.names []).lookup y.1).isSome=true):=λ⟨n,v⟩ hy=>by
  rcases S.par n (i0 hy).1 with q | q
  ·exact .inl q
  ·exact .inr ⟨q,g9 _ _ _ (.inl q)⟩
 refine codeAny_call_function (by have:=hr.dp;lia) (KX _ _ lk) rfl S.co S.gen rfl (PySem.W.codeRec_of KX hcd) (hb _ _ _ _ ?_);refine wpAny_newFunctionEnv_cells S.kind hkind λenv he s1 x=>?_;subst he;refine⟨lim.keeps x.toInCall.keep,codeAny_func ?_⟩;obtain⟨t,ht,hq⟩:=hbody A outer s H vs Q E (hr.deeper _) hsp;have e1:sF P w K mg base { A with handled:=none } outer s H:=⟨e0.frames,e0.mod,e0.bs,e0.bsz,e0.funs,e0.frf,e0.hok,e0.bare⟩
 have I0:=qW (CX:=uS) (E:=E) (f:=f) (qual:=qual) (cd:=cdv) S (A:={ A with handled:=none }) rfl e1 hl r x;have ok0:=I0.ok;have I:bT (Hx P w K mg base N qual scope f cdv A outer s H E) [] (start N vs) H s1:=
  ⟨⟨ok0.mod,ok0.kind,ok0.glob,ok0.blt,ok0.above,ok0.inj,ok0.has,ok0.cab,(λz=>nomatch z),Around.frames_deeper e0.frames,ok0.stk,ok0.exf,ok0.bs,ok0.bsz,ok0.noex,ok0.exfs,ok0.funs,ok0.frf⟩,I0.os,I0.bare,I0.base,I0.loc,I0.cell,I0.free,I0.freeC,I0.pin,I0.hok,I0.len⟩
 refine wpAny_mono (ht [] s1 (start N vs) H _ I hq) (λfl s' hs=>?_) λe s' hs=>False.elim hs;have fin:∀{σ':St} {H':Hp} {v:V} {u:Value},bT (Hx P w K mg base N qual scope f cdv A outer s H E) [] σ' H' s'->RelV v u->Q v H'->CE outer P w H s Q u s':=
  fun {σ' H' v u} J rv q=>⟨v,H',J.os,J.bare,J.base,J.hok,rv,q⟩
 cases fl with
 | ret u=>
  obtain⟨v,σ',H',J,rv,q⟩:=hs;exact fin J rv q
 | next=>
  obtain⟨σ',H',J,q⟩:=hs;exact fin (v:=V.non) (u:=Value.none) J rfl q
 | brk=>
  obtain⟨_,_,_,q⟩:=hs;exact False.elim q
 | cont=>
  obtain⟨_,_,_,q⟩:=hs;exact False.elim q
def A3{X:Cx}{a:Addr}{k:Nat}{f:Addr}{fd:FuncData}{ps:List Str}{sp:Sp}{x:Str}{e:Expr}{es:List Expr}{t:TA}{p pos:Pos}(F:uM X.prog X.w X.K X.mg X.base a k f fd ps sp)(hr:kH a k X.A)(hg:Gl X x)(hm:X.mg x=some (.ref f))(hk:PySem.W.keepIn X.K (.ref f)=true)(hb:Binds X.K fd ps [])
  (ha:PA X (e::es) t) (hdb:(x==("__debug__":Str))=false:=by decide) (he:starEach (e::es) X.env=(false,eval e X.env)::starEach es X.env:=by rfl) (hpl:(backTo pos (starEach es X.env)).any (·.1)=false:=by rfl) :
  PE X (.Call (.Name x p) (e::es) [] pos) (nW sp [] E0 t):=by
 intro pins s σ H Q I h;refine Ov (ij I hg hm ?_ hdb);refine gL (h₀:=X.base) I.ok.mod.kin hk (dW (ha pos pins s σ H _ I h) λus s1 ⟨vs,H1,I1,r,q⟩=>⟨I1.kIn,?_⟩) he hpl;have r2:bj (vs++[]) (us++[]):=r.append .nil;have hl:(us++[]).length=ps.length:=by rw[<-r2.length];exact F.len _ _ _ _ q
 refine Ot (Ou (F.run X.A X.stack s1 H1 ⟨us,[]⟩ (us++[]) (vs++[]) Q E0 hr I1.env0 (hb s1 us I1.kIn hl) r2 q) λr s' hq=>?_);cases r with
 | error e=>exact False.elim hq
 | ok fl=>
  cases fl with
  | ret u=>exact I1.after hq
  | next=>exact False.elim hq
  | brk=>exact False.elim hq
  | cont=>exact False.elim hq
def yO{prog:Program}{w:World}{A:Around}{E:Value->Shared->Prop}{s:Shared}{K:P5}{a C N:Addr}{o:Obj}{bs bm bmB:List Value}{nm q:Str}{hdct:Bool}{sn:List Str}{sub:List Value}{ab:Bool}{col:Option Bool}{dd:Option Addr}{k0 k1 k2 k3 k5:Option Value}{B newId:String}{Q:Option Value->Shared->Prop}
  (X:K.In s.heap) (I:PySem.W.InstAt s.heap a o C none) (hga:PySem.W.findIn K (.ref C) "__getattribute__"=some (some (.builtin "BaseException.__getattribute__"))) (hgt:PySem.W.findIn K (.ref C) "__getattr__"=some none)
  (hf:PySem.W.findObj K C none "__class__"=some (.bind (.builtin "getset_descriptor.__get__") (.builtin "object.__class__"))) (hm:PySem.W.mroIn K C (.type "object")=some true) (FB:ExcAttrBase B bmB)
  (hC:s.heap.get? C=some (excClassObj nm q C N bs bm hdct sn sub ab col dd k0 k1 k2 k3 k5 newId)) (T:OwnTailQ s.heap bmB bm) (hq:Q (some (.ref C)) { s with toks:=s.toks+1 }):wpAny (model prog w) A (getAttr? (.ref a) "__class__") Q E s:=by
 obtain⟨h,g,d,t,os⟩:=s;unfold getAttr?;refine wpAny_bind (wpAny_mkText ?_);unfold getAttrBy?;refine wpAny_bind (PD ?_);unfold getAttrBy;refine Ox (wpAny_bind (b6 (c6 I) (wpAny_bind (b6 (cn X hga) ?_))));refine PK (by rfl) ?_;unfold getAttrByItsOwn hookBefore;refine wpAny_bind (wpAny_ite_true (by rfl) (b6 (cn X hgt) (wpAny_bind (PD (Ox ?_)))));unfold callGetattribute boundAndCalled;refine PK (by rfl) (wpAny_bind (wpAny_of_eq (FB.ga.bind (Value.ref a)) (Ot (PL FB.ga.plain km (PM FB hC T I.at_ I.cls ?_)))));unfold Builtin.«object.__getattribute__»;refine wpAny_bind ?_;unfold slotArgs;refine PK (by rfl) (PK (by rfl) (On ?_));show wpAny _ _ (Bind.bind (Builtin.ObjectAttr.attrName (Value.str (Str.ofString "__class__") _)) _) _ _ _;refine wpAny_bind ?_;unfold Builtin.ObjectAttr.attrName;refine On ?_;refine wpAny_bind (b6 (c6 I) (wpAny_bind (b6 (jP X I hf) ?_)));unfold Builtin.ObjectAttr.bindTo;refine wpAny_bind (Ox (Ot (PySem.W.class_get X I hm ?_)));refine On ?_;refine j4 rfl ?_;exact On hq
structure yc (K:P5) (C:Addr):Prop where
 ga:PySem.W.findIn K (.ref C) "__getattribute__"=some (some (.builtin "BaseException.__getattribute__"))
 gt:PySem.W.findIn K (.ref C) "__getattr__"=some none
 fo:PySem.W.findObj K C none "__class__"=some (.bind (.builtin "getset_descriptor.__get__") (.builtin "object.__class__"))
 mro:PySem.W.mroIn K C (.type "object")=some true
 lk:∃ c dd cd sl,K.lookup C=some ⟨c,dd,.cls cd,sl⟩
 own:∃ B bmB,ExcAttrBase B bmB/\∀ h:Heap,K.In h->∃ nm q N bs bm hdct sn sub ab col dd k0 k1 k2 k3 k5 newId,h.get? C=some (excClassObj nm q C N bs bm hdct sn sub ab col dd k0 k1 k2 k3 k5 newId)/\OwnTailQ h bmB bm
def Ft(C a:Addr)(h:Heap):Prop:=(∃o,h.get? a=some o/\o.cls=.ref C)/\JJ a h
def Ft.inst{C a:Addr}{h:Heap}(x:Ft C a h):∃o,PySem.W.InstAt h a o C none:=by
 obtain⟨⟨o,e1,e2⟩,o',vs,e3,⟨e4,e5⟩,_⟩:=x;rw[e1] at e3;cases e3;exact⟨o,e1,e2,by unfold PySem.W.notCls;rw[e5],by rw[e4];trivial⟩
def Av{K:P5}{C a:Addr}(k:yc K C):PySem.W.KitX K (.ref a) (.ref C) (Ft C a):=by
 obtain⟨c,dd,cd,sl,lk⟩:=k.lk;refine⟨λM h _ x=>?_,λM h X _ A Q E s kp hq=>?_,λh tp dd' its n sl' X htp=>?_,fun {prog w A E Q s} X x hq=>?_⟩
 ·obtain⟨o,I⟩:=x.inst;exact c6 I
 ·exact wpAny_bind (wpAny_loadPart (kp C _ (X C _ lk)) (On hq))
 ·refine Bool.eq_false_iff.mpr λq=>?_;have e:=Value.ref.inj (beq_iff_eq.mp q);subst e;rw[X C _ lk] at htp;cases htp
 ·obtain⟨o,I⟩:=x.inst;obtain⟨B,bmB,FB,ow⟩:=k.own;obtain⟨nm,q,N,bs,bm,hdct,sn,sub,ab,col,dd,k0,k1,k2,k3,k5,newId,hC,T⟩:=ow s.heap X;exact yO X I k.ga k.gt k.fo k.mro FB hC T hq
section
variable {K:P5} {C D R:Addr} {dd:Option Addr} {cd:ClassData} {sl:Array (Option Value)} {b:Bool}
def xB (lk:K.lookup D=some ⟨.type "type",dd,.cls cd,sl⟩) (m:PySem.W.mroIn K C (.ref D)=some b):PySem.W.kitCls K (.ref C) (.ref D)=some b:=by
 have e1:PySem.W.clsIn K D=some cd:=by unfold PySem.W.clsIn;rw[lk]
 have e2:PySem.W.typeIn K (.ref D)=some (.type "type"):=by show Option.map (λx=>x.cls) (List.lookup D K)=_;rw[lk];rfl
 show (if ((PySem.W.clsIn K D).isSome&&PySem.W.typeIn K (Value.ref D)==some (Value.type "type"))=true then PySem.W.subIn K (Value.ref C) (Value.ref D) else none)=some b;rw[e1,e2];rw[PX (by simp)];exact m
def c9 (ne:(Value.ref C==Value.ref D)=false) (lk:K.lookup D=some ⟨.type "type",dd,.cls cd,sl⟩) (m:PySem.W.mroIn K C (.ref D)=some b):PySem.W.kitOne K (.ref C) (.ref D)=some b:=by
 unfold PySem.W.kitOne;rw[PV (by rw[ne];exact a8)];exact xB lk m
def tU:PySem.W.kitOne K (.ref C) (.ref C)=some true:=by
 unfold PySem.W.kitOne;rw[PX (beq_self_eq_true _)]
def tT{T:String}(mt:PySem.W.kitMeta T=true)(m:PySem.W.mroIn K C (.type T)=some b):PySem.W.kitOne K (.ref C) (.type T)=some b:=by
 unfold PySem.W.kitOne PySem.W.kitCls;rw[PV (by exact λz=>nomatch (beq_iff_eq.mp z))];simp only[mt,P3];exact m
def lh (lk:K.lookup R=some ⟨.type "type",dd,.cls cd,sl⟩) (m:PySem.W.mroIn K C (.ref R)=some b) (e:PySem.W.mroIn K R (.type "BaseException")=some true):PySem.W.exmOne K (.ref C) (.ref R)=some b:=by
 unfold PySem.W.exmOne;rw[PX (by show (PySem.W.mroIn K R (.type "BaseException")==some true)=true;rw[e];rfl)];exact xB lk m
def find_none {name:Str} {a g:Value} (lk:K.lookup C=some ⟨.type "type",dd,.cls cd,sl⟩) (h1:PySem.W.findIn K (.ref C) name=some (some a)) (h2:PySem.W.specialIn K a "__get__"=some (some g)) (h3:PySem.W.takesIn K a=some true):PySem.W.findObj K C none name=some (.bind g a):=by
 have e1:PySem.W.clsIn K C=some cd:=by unfold PySem.W.clsIn;rw[lk]
 unfold PySem.W.findObj;simp only[e1,h1,h2,h3,Option.bind_some]
end
def strKeys(es:Array DictEntry):Bool:=es.toList.all λe=>match e.key with | .str _ _=>true | _=>false
def l9{K:P5}{N:Addr}{c:Value}{d:Option Addr}{es:Array DictEntry}{ep:Nat}{sl:Array (Option Value)}(lk:K.lookup N=some ⟨c,d,.dict es ep,sl⟩)(h:strKeys es=true):PySem.W.nsOkIn K N=true:=by
 unfold PySem.W.nsOkIn;rw[lk];unfold strKeys at h;rw[Array.all_toList] at h;exact h
def AC {P:Str->Prop} (h1:P "__init__") (h2:P "__getattribute__") (h3:P "__getattr__") (h4:P "args"):∀n∈quietNames,P n:=λn hn=>by
 unfold quietNames at hn;simp only[aI,cW,or_false] at hn;rcases hn with rfl | rfl | rfl | rfl<;>assumption
def qY{K:P5}{C R N NR:Addr}{nm q x:Str}{bs bmB:List Value}{hdct:Bool}{sn:List Str}{sub:List Value}{ab:Bool}{col:Option Bool}{dd dR:Option Addr}{k0 k1 k2 k3 k5:Option Value}{newId B:String}{cR:Value}{cdR:ClassData}{slR:Array (Option Value)}{mg:Str->Option Value}{base:Heap}
  (KX:K.In base) (G:base.Ns mainGlobals mg) (e0:PySem.W.nsIn K mainGlobals x=some (some (.ref C))) (lkC:K.lookup C=some (excClassObj nm q C N bs (.ref R::bmB) hdct sn sub ab col dd k0 k1 k2 k3 k5 newId)) (lkR:K.lookup R=some ⟨cR,dR,.cls cdR,slR⟩)
  (nC:PySem.W.nsOkIn K N=true) (iC:PySem.W.nsIn K N "__init__"=some none) (eR:cdR.ns=NR) (nR:PySem.W.nsOkIn K NR=true) (r1:PySem.W.nsIn K NR "__init__"=some none) (r2:PySem.W.nsIn K NR "__getattribute__"=some none) (r3:PySem.W.nsIn K NR "__getattr__"=some none) (r4:PySem.W.nsIn K NR "args"=some none)
  (FB:ExcAttrBase B bmB) (ga:PySem.W.findIn K (.ref C) "__getattribute__"=some (some (.builtin "BaseException.__getattribute__"))) (gt:PySem.W.findIn K (.ref C) "__getattr__"=some none) (gc:PySem.W.findIn K (.ref C) "__class__"=some (some (.builtin "object.__class__")))
  (sp:PySem.W.specialIn K (.builtin "object.__class__") "__get__"=some (some (.builtin "getset_descriptor.__get__"))) (tk:PySem.W.takesIn K (.builtin "object.__class__")=some true) (mr:PySem.W.mroIn K C (.type "object")=some true):OwnCls x C bmB newId mg base/\yc K C:=by
 subst eR;refine⟨⟨ba KX G e0,?_⟩,⟨ga,gt,find_none lkC gc sp tk,mr,⟨_,_,_,_,lkC⟩,B,bmB,FB,λh X=>?_⟩⟩
 ·exact⟨_,N,nm,q,bs,hdct,sn,sub,ab,col,dd,k0,k1,k2,k3,k5,_,KX _ _ lkC,dt (dM KX nC),bP KX nC iC,
   .own (KX _ _ lkR) (dt (dM KX nR)) (bP KX nR r1) .base⟩
 ·exact⟨nm,q,N,bs,_,hdct,sn,sub,ab,col,dd,k0,k1,k2,k3,k5,newId,X _ _ lkC,.own (X _ _ lkR) (dt (dM X nR))
   (AC (bP X nR r1) (bP X nR r2) (bP X nR r3) (bP X nR r4)) .base⟩
structure uO (P:Program) (w:World) (K:P5) (mg:Str->Option Value) (base:Heap) (k:Nat) (x:Str) (st:Stmt) (ps:List Str) (sp:Sp):Prop where
 ex:∃ f fd,sE K x x st f fd/\mg x=some (.ref f)/\Binds K fd ps []/\lU P w K mg base (nG P w) k f fd ps sp
structure B9 (P:Program) (w:World) (K:P5) (mg:Str->Option Value) (base:Heap) (k:Nat) (x:Str) (st:Stmt) (ps:List Str) (sp:Addr->Sp):Prop where
 ex:∃ f fd,sE K x x st f fd/\mg x=some (.ref f)/\Binds K fd ps []/\∀ a,uM P w K mg base a k f fd ps (sp a)
section
variable {P:Program} {w:World} {K:P5} {mg:Str->Option Value} {base:Heap} {k:Nat} {x:Str} {st:Stmt} {ps:List Str} {sp:Sp}
def Fn.mkX(E:Fn K mg x st ps)(h:∀f fd,sE K x x st f fd->lU P w K mg base (nG P w) k f fd ps sp):uO P w K mg base k x st ps sp:=by
 obtain⟨f,fd,F,m,b⟩:=E.ex;exact⟨f,fd,F,m,b,h f fd F⟩
def Fn.mkH{sp:Addr->Sp}(E:Fn K mg x st ps)(h:∀f fd,sE K x x st f fd->∀a,uM P w K mg base a k f fd ps (sp a)):B9 P w K mg base k x st ps sp:=by
 obtain⟨f,fd,F,m,b⟩:=E.ex;exact⟨f,fd,F,m,b,h f fd F⟩
def sE.okX{qual:Str}{f:Addr}{fd:FuncData}{N:List Str}(F:sE K x qual st f fd)(S:bn N ps (aq st))(len:∀vs H Q E,sp vs H Q E->vs.length=ps.length)
  (hbody:∀(cdv:Value) (A:Around) (outer:List Env) (s:Shared) (H:Hp) (vs:List V) (Q:VK) (E:XK),fg k (A.deeper (envOfC qual (aq st) s.heap.objs.size f cdv))->sp vs H Q E →
   ∃(σ:St) (t:TS),start N vs=σ/\qo (iY (nG P w) P w K mg base N qual (aq st) f cdv A outer s H E) (ff st) t/\t { nx:=λ_ H'=>Q .non H',rt:=Q } σ H):lU P w K mg base (nG P w) (k+1) f fd ps sp:=by
 obtain⟨oc,od,kV,doc,pm,an,cdv,ct,osl,rfl,lk,hcd⟩:=F.ex;refine Dl lk hcd S len λA outer s H vs Q E hr hsp=>?_;obtain⟨σ,t,e,h,q⟩:=hbody cdv A outer s H vs Q E hr hsp;exact⟨t,h,by rw[e];exact q⟩
def sE.okH{a:Addr}{qual:Str}{f:Addr}{fd:FuncData}{N:List Str}(F:sE K x qual st f fd)(S:bn N ps (aq st))(len:∀vs H Q E,sp vs H Q E->vs.length=ps.length)
  (hbody:∀(cdv:Value) (A:Around) (outer:List Env) (s:Shared) (H:Hp) (vs:List V) (Q:VK) (E:XK),kH a k (A.deeper (envOfC qual (aq st) s.heap.objs.size f cdv))->sp vs H Q E →
   ∃(σ:St) (t:TS),start N vs=σ/\qo (Hx P w K mg base N qual (aq st) f cdv A outer s H E) (ff st) t/\t { nx:=λ_ H'=>Q .non H',rt:=Q } σ H):uM P w K mg base a (k+1) f fd ps sp:=by
 obtain⟨oc,od,kV,doc,pm,an,cdv,ct,osl,rfl,lk,hcd⟩:=F.ex;refine Fe lk hcd S len λA outer s H vs Q E hr hsp=>?_;obtain⟨σ,t,e,h,q⟩:=hbody cdv A outer s H vs Q E hr hsp;exact⟨t,h,by rw[e];exact q⟩
end
section
variable {X:Cx}
def Ew{st:Stmt}{t:TS}(h:PS X.nox st t):PS X st t:=λpins s σ H D I hw=>
 wpAny_mono (h pins s σ H D (I.wish _) hw) (λ_ _ q=>q.unwish) λ_ _ z=>False.elim z
def Er{e:Expr}{t:TT}(h:PT X.nox e t):PT X e t:=h.nox
def AZ {x:Str} {C:Addr} {pos:Pos} (hg:Gl X x) (hm:X.mg x=some (.ref C)) (hd:(x==("__debug__":Str))=false:=by decide):PE X (.Name x pos) (tC (.ref C)):=rK hg hm rfl hd
def xj{a:Addr}{k:Nat}{x:Str}{st:Stmt}{ps:List Str}{sp:Addr->Sp}{e:Expr}{es:List Expr}{t:TA}{p pos:Pos}(D:B9 X.prog X.w X.K X.mg X.base k x st ps sp)(hr:kH a k X.A)(hg:Gl X x)(ha:PA X (e::es) t)
  (hdb:(x==("__debug__":Str))=false:=by decide) (he:starEach (e::es) X.env=(false,eval e X.env)::starEach es X.env:=by rfl) (hpl:(backTo pos (starEach es X.env)).any (·.1)=false:=by rfl) :
  PE X (.Call (.Name x p) (e::es) [] pos) (nW (sp a) [] E0 t):=by
 obtain⟨f,fd,F,m,b,G⟩:=D.ex;exact A3 (G a) hr hg m F.kp b ha hdb he hpl
end
section
variable {σ:St} {H:Hp}
def vh{C:Addr}{E:XK}{t:TA}{D:Ends}:uX C E t D σ H=t σ H λvs H1=>vs.length<=sizeLine/\E (.ref C) none H1:=rfl
end
def nv:bootBuiltins "ValueError"=some (.type "ValueError"):=by decide +kernel
structure Io (K:P5) (C:Addr) (ds:List Addr) (due:Nat):Prop where
 ek:yc K C
 kit:∀ j d,ds[j]? = some d->PySem.W.kitOne K (.ref C) (.ref d)=some (decide (j=due))
 val:PySem.W.kitOne K (.ref C) (.type "ValueError")=some true
def Aj:typeLookup (.type "list_reverseiterator") "__len__"=pure none:=by rw[typeLookup_type,builtinLookup_eq_fast];kernel_rfl
def Cz:typeLookup (.type "list_reverseiterator") "__length_hint__"=pure (some (.builtin "list_reverseiterator.__length_hint__")):=by rw[typeLookup_type,builtinLookup_eq_fast];kernel_rfl
section
variable {prog:Program} {w:World} {A:Around} {E:Value->Shared->Prop} {s:Shared}
def Az{I l:Addr}{i:Int}{Q:Bool->Shared->Prop}(hit:s.heap.IsRevIter I l i)(h:Q false s):wpAny (model prog w) A (Builtin.List.listLengthHint (.ref I)) Q E s:=by
 unfold Builtin.List.listLengthHint;refine wpAny_bind (wpAny_specialOf hit.typeIs Aj ?_);show wpAny _ A (specialOf (Value.ref I) (Str.ofString "__length_hint__")>>=_) _ _ _;refine wpAny_bind (wpAny_specialOf hit.typeIs Cz ?_);generalize hid:("list_reverseiterator.__length_hint__":String)=id0
 wp_delta
 rw[show splitId id0=some ("list_reverseiterator","__length_hint__") from by subst hid;decide +kernel];subst hid;refine wpAny_bind (wpAny_isInstance (b:=true) hit.typeIs (by rw[isSubtype_type];kernel_rfl) ?_);refine On ?_;exact h
def vS{R:Result->Shared->Prop}{l I:Addr}{items:Array Value}(hh:A.handled=none)(hit:s.heap.IsRevIter I l ((items.size:Int) - 1))(hl:s.heap.IsList l items)(hne:l≠I)(hlen:items.size<=1000)(S:Addr)(res:Value)(c₀:Nat)
  (hS:s.heap.get? S=some { cls:=.type "list",data:=.seq #[] c₀ }) (hSI:S≠I) (hSl:S≠l)
  (hR:∀h' tk acc' c',(∀b o,b≠S->b≠I->s.heap.get? b=some o->h'.get? b=some o)->h'.get? S=some { cls:=.type "list",dict:=none,data:=.seq acc' c',slots:=#[] } →
   ItemsOf (λi v=>items[items.size - 1-i]? = some v) acc' items.size->R (.ok (.ret res)) { s with heap:=h',toks:=tk }) :
  wpAny (model prog w) A.in1 (Builtin.List.listExtendWith (.ref S) (.ref I) res)
   (λfin s'=>match fin with | .done f=>R (.ok f) s' | .again c'=>c'.quiet=true/\codeAny (model prog w) A c' R s') (λe s'=>R (.error e) s') s:=by
 have hSf:S∉[I,l]:=λhm=>by
  rcases aI.mp hm with e | e
  ·exact hSI e
  ·exact hSl (bE.mp e)
 have W:=(Walks.listRev (prog:=prog) (w:=w) (A:=A.in1) hh I l hne items).toS;have h1:Builtin.List.listSameRef (.ref S) (.ref I)=false:=by simp[Builtin.List.listSameRef,hSI]
 have h2:(Value.type "list_reverseiterator"==Value.type "list")=false:=by decide
 have h3:(Value.type "list_reverseiterator"==Value.type "tuple")=false:=by decide
 have hz:((items.size:Int) - 1-((0:Nat):Int))=(items.size:Int) - 1:=by simp
 unfold Builtin.List.listExtendWith;refine wpAny_bind (wpAny_typeOf hit.typeIs ?_);simp only[h1,h2,h3,mE,dP,P4];refine wpAny_bind (wpAny_pyIter_revIter hit ?_);refine wpAny_bind (Ox (Az hit ?_));refine On ⟨plainId_quiet F.plain_extend_loop _,?_⟩;refine codeAny_extend_loopS W (bI (bU hlen)) S hSf res items.size 0 _ #[] c₀ rfl (bO _) ⟨bO _,by rw[hz];exact hit,hl⟩ hS (ItemsOf.nil _) λs' acc' c' hm hS' hacc=>?_;rw[Moved.eq_with hm];refine hR s'.heap s'.toks acc' c' (λb o hb hb2 e=>hm.heap b o (λhmem=>?_) e) hS' hacc;rcases aI.mp hmem with e' | hmem
 ·exact hb e'
 ·exact hb2 (bE.mp hmem)
def Ay{R:Result->Shared->Prop}{l I:Addr}{items:Array Value}(hh:A.handled=none)(hit:s.heap.IsRevIter I l ((items.size:Int) - 1))(hl:s.heap.IsList l items)(hne:l≠I)(hlen:items.size<=1000)(S:Addr)
  (hS:s.heap.get? S=some { cls:=.type "list",data:=.seq #[] }) (hSI:S≠I) (hSl:S≠l)
  (hR:∀h' tk acc' c',(∀b o,b≠S->b≠I->s.heap.get? b=some o->h'.get? b=some o)->h'.get? S=some { cls:=.type "list",dict:=none,data:=.seq acc' c',slots:=#[] } →
   ItemsOf (λi v=>items[items.size - 1-i]? = some v) acc' items.size->R (.ok (.ret .none)) { s with heap:=h',toks:=tk }) :
  wpAny (model prog w) A.in1 (Builtin.«list.__init__» ⟨[.ref S,.ref I],[]⟩)
   (λfin s'=>match fin with | .done f=>R (.ok f) s' | .again c'=>c'.quiet=true/\codeAny (model prog w) A c' R s') (λe s'=>R (.error e) s') s:=by
 show wpAny _ _ (do let old <-Builtin.List.listItems (.ref S);Builtin.List.listUpdate (.ref S) (λ_=>#[]);letGo old.toList.reverse;Builtin.List.listExtendWith (.ref S) (.ref I) .none) _ _ s;refine wpAny_bind ?_;unfold Builtin.List.listItems;refine wpAny_bind (PN hS rfl (On ?_));show wpAny _ _ (updateSeq S (λ_=>#[])>>=λ_=>letGo (#[]:Array Value).toList.reverse>>=λ_=>Builtin.List.listExtendWith (.ref S) (.ref I) .none) _ _ s;refine wpAny_bind (wpAny_updateSeq hS rfl ?_);have hS₂:=cf (Obj.mapSeq (λ_=>(#[]:Array Value))) hS rfl;have oth:∀b o,b≠S->s.heap.get? b=some o->(s.heap.update S (Obj.mapSeq (λ_=>(#[]:Array Value)))).get? b=some o:=
  λb o hb e=>(Heap.get?_update_other _ _ (cU hb)).trans e
 refine wpAny_bind (wpAny_letGo ?_);refine vS hh (hit.at λo e=>oth I o hSI.symm e) (hl.at λo e=>oth l o hSl.symm e) hne hlen S .none _ hS₂ hSI hSl λh' tk acc' c' hk hS' hacc=>?_;exact hR h' tk acc' c' (λb o hb hb2 e=>hk b o hb hb2 (oth b o hb e)) hS' hacc
def pj{Q:Value->Shared->Prop}{l I:Addr}{items:Array Value}(hh:A.handled=none)(hit:s.heap.IsRevIter I l ((items.size:Int) - 1))(hl:s.heap.IsList l items)(hne:l≠I)(hlen:items.size<=1000)
  (hQ:∀h' tk acc' c',(∀b o,b≠I->s.heap.get? b=some o->h'.get? b=some o) →
   h'.get? s.heap.objs.size=some { cls:=.type "list",dict:=none,data:=.seq acc' c',slots:=#[] }->ItemsOf (λi v=>items[items.size - 1-i]? = some v) acc' items.size->Q (.ref s.heap.objs.size) { s with heap:=h',toks:=tk }) :
  wpAny (model prog w) A (call (.type "list") [.ref I]) Q E s:=by
 refine callType_codes (Q₁:=λobj s₁=>obj=.ref s.heap.objs.size/\s₁={ s with heap:=s.heap.push { cls:=.type "list",data:=.seq #[] } }) F.called_list (F.typeCall_list_1 _) F.entry_list_init
  (code_list_new _ ⟨rfl,rfl⟩) λobj s₁ h₁=>?_
 obtain⟨rfl,rfl⟩:=h₁;have hS:(s.heap.push { cls:=.type "list",data:=.seq #[] }).get? s.heap.objs.size=some { cls:=.type "list",data:=.seq #[] }:=aK _ rfl;obtain⟨o1,e1,_⟩:=id hit;obtain⟨o2,e2,_⟩:=id hl;have n1:s.heap.objs.size≠I:=(aV (aJ e1)).symm;have n2:s.heap.objs.size≠l:=(aV (aJ e2)).symm;refine⟨⟨_,hS,rfl⟩,F.args_list_init_2 _ _,Ay (A:=A.in1) hh (hit.at λo e=>aB _ e) (hl.at λo e=>aB _ e) hne hlen _ hS n1 n2 λh' tk acc' c' hk hS' hacc=>?_⟩;exact⟨rfl,hQ h' tk acc' c' (λb o hb e=>hk b o (aV (aJ e)) hb (aB _ e)) hS' hacc⟩
end
def EX(te:TE):TE:=λσ H Q=>te σ H λx H1=>∃(a:Addr) (xs:List V),x=.ref a/\H1 a=some (.lst xs)/\xs.length<=1000/\∀l,H1 l=none->Q (.ref l) (bW H1 l (.lst xs.reverse))
def w_rev{te:TE}{σ:St}{H:Hp}{Q:VK}:EX te σ H Q=te σ H λx H1=>∃(a:Addr) (xs:List V),x=.ref a/\H1 a=some (.lst xs)/\xs.length<=1000/\∀l,H1 l=none->Q (.ref l) (bW H1 l (.lst xs.reverse)):=rfl
def zN{xs:List V}{us:List Value}(r:bj xs us):∀{i:Nat} {x:V} {u:Value},xs[i]? = some x->us[i]? = some u->RelV x u:=by
 induction r with
 | nil=>intro i x u h;simp at h
 | cons a b ih=>
  intro i x u h h';cases i with
  | zero=>cases h;cases h';exact a
  | succ i=>exact ih h h'
def Bq{xs:List V}{us:List Value}(hl:xs.length=us.length)(h:∀(i:Nat) x u,xs[i]? = some x->us[i]? = some u->RelV x u):bj xs us:=by
 induction xs generalizing us with
 | nil=>cases us with | nil=>exact .nil | cons a b=>simp at hl
 | cons x xs ih=>
  cases us with
  | nil=>simp at hl
  | cons u us=>exact .cons (h 0 x u rfl rfl) (ih (by simpa using hl) λi y v h1 h2=>h (i+1) y v h1 h2)
def ur {X:Cx} {e:Expr} {te:TE} {p p2 pos2 pos:Pos} (hc:X.calm=true) (hgl:Gl X "list") (hml:X.mg "list"=none) (hgr:Gl X "reversed") (hmr:X.mg "reversed"=none) (he:PE X e te)
  (hs:starEach [.Call (.Name "reversed" p2) [e] [] pos2] X.env=[(false,eval (.Call (.Name "reversed" p2) [e] [] pos2) X.env)]:=by rfl) (hs2:starEach [e] X.env=[(false,eval e X.env)]:=by rfl) :
  PE X (.Call (.Name "list" p) [.Call (.Name "reversed" p2) [e] [] pos2] [] pos) (EX te):=by
 intro pins s σ H Q I h;refine Ov (jh I hgl hml boot_list ?_);refine bc ?_ hs rfl;rw[hs];show wpAny _ _ (spliced ((false,eval (.Call (.Name "reversed" p2) [e] [] pos2) X.env)::[])) _ _ s;refine eu (Ov (jh I hgr hmr boot_reversed (bc ?_ hs2 rfl)));rw[hs2];show wpAny _ _ (spliced ((false,eval e X.env)::[])) _ _ s;refine eu (dW (he pins s σ H _ I h) λu s1 ⟨x,H1,I1,r1,a,xs,ex,hx,hle,q⟩=>?_);subst ex;cases r1;obtain⟨hz,its,n,rv,hlen,ho⟩:=I1.lstM hx;have hL:s1.heap.IsList a its.toArray:=⟨_,ho,rfl,n,rfl⟩
 have hsz:its.toArray.size=its.length:=by simp
 have hal:=aJ ho;refine gm (call_reversed_list hL (gm ?_));refine pj (I:=s1.heap.objs.size) (l:=a) (items:=its.toArray) (I1.ok.hd hc) ⟨_,aK _ rfl,rfl,rfl⟩ (hL.at λo e=>aB _ e) (aV hal) (by rw[hsz];lia) λh' tk acc' c' kp e' hit=>?_;have sz:(s1.heap.push (revObj a ((its.toArray.size:Int) - 1))).objs.size=s1.heap.objs.size+1:=cL _ _;have hv:bj xs.reverse acc'.toList:=by
  obtain⟨a1,a2⟩:=hit;rw[hsz] at a1 a2;have al:acc'.toList.length=its.length:=by rw[<-a1];simp
  refine Bq (by rw[eK,hlen,al]) λi x u h1 h2=>?_;have hu:acc'[i]? = some u:=by simpa using h2
  have h3:=a2 i u hu;have hi:i<its.length:=by rw[<-a1];exact(Array.getElem?_eq_some_iff.mp hu).1
  rw[List.getElem?_reverse (by rw[hlen];exact hi),hlen] at h1;have h4:its[its.length - 1-i]? = some u:=by simpa using h3
  exact zN rv h1 h4
 refine⟨.ref _,_,I1.laid (h':=h') (t':=tk) (λb o e=>kp b o (aV (aJ e)) (aB _ e)) (by rw[sz];exact dw _) (show cw X.prog X.w _ h' _ (.lst _) from ⟨by rw[eK];exact hz,acc'.toList,c',hv,by simpa using e'⟩),rfl,q _ (I1.hok.fresh (by rw[sz];exact dw _))⟩
structure QE (X:Cx) (e:Expr) (t:TE):Prop where
 h:PE X e t
structure QT (X:Cx) (e:Expr) (t:TT):Prop where
 h:PT X e t
structure QA (X:Cx) (es:List Expr) (t:TA):Prop where
 h:PA X es t
structure QS (X:Cx) (st:Stmt) (t:TS):Prop where
 h:PS X st t
structure jr (X:Cx) (sts:List Stmt) (t:TS):Prop where
 h:qo X sts t
structure QG (X:Cx) (e:Expr) (t:TG):Prop where
 h:PG X e t
structure Hz (X:Cx) (es:List Expr) (t:yg):Prop where
 h:Ha X es t
structure QF (X:Cx) (es:List Expr) (t:TT):Prop where
 h:PF X es t
structure QW (X:Cx) (e:Expr) (t:TT):Prop where
 h:PW X e t
structure QO (X:Cx) (e:Option Expr) (t:TO):Prop where
 h:PO X e t
structure DS (X:Cx) (pos:Pos) (keys:List (Option Expr)) (values:List Expr) (trs:List (TE×TE)):Prop where
 h:HZ X pos keys values trs
structure QI (X:Cx) (tg iter:Expr) (t:TI):Prop where
 h:PI X tg iter t
def QW.pt{X:Cx}{e:Expr}{t:TT}(h:QW X e t):QT X e t:=⟨h.h.pt⟩
section
variable {X:Cx}
def aG{i j pos}:QE X (.Constant (.int i) j pos) (tC (.int i)):=⟨FL ⟩
end
section
variable {X:Cx}
def gJ{b j pos}:QE X (.Constant (.bool b) j pos) (tC (.bl b)):=⟨Gz ⟩
end
section
variable {X:Cx}
def ig{j pos}:QE X (.Constant .none j pos) (tC .non):=⟨FJ ⟩
end
section
variable {X:Cx}
def bM{x j pos}:QE X (.Constant (.str x) j pos) (tC (.str x)):=⟨FG ⟩
end
section
variable {X:Cx}
def jz {x:Str} {v:V} {u:Value} {pos:Pos} (hg:Gl X x) (hm:X.mg x=none) (hv:bootBuiltins x=some u) (r:RelV v u) (hn:x≠"__name__":=by decide) (hd:(x==("__debug__":Str))=false:=by decide):QE X (.Name x pos) (tC v):=⟨Cb hg hm hv r hn hd⟩
end
section
variable {X:Cx} {pos:Pos}
def f7{e:Expr}{t:TE}(h:QE X e t)(he:∀whole,isTrue e X.env whole=(do let v <-whole;standAt e.pos;holding [v] (truthy v)):=by intro _;rfl):QT X e (tB t):=⟨Ep h.h he⟩
end
section
variable {X:Cx} {a:Expr} {pos:Pos} {tA:TT}
def jw(ha:QT X a tA):QW X (.BoolOp .And [a] pos) tA:=⟨CP ha.h⟩
end
section
variable {X:Cx} {a:Expr} {pos:Pos} {tA:TT}
def ie(ha:QT X a tA):QW X (.BoolOp .Or [a] pos) tA:=⟨En ha.h⟩
end
section
variable {X:Cx} {a b:Expr} {pos:Pos} {tA tB':TT} {rest:List Expr}
def l3(ha:QT X a tA)(hb:QW X (.BoolOp .And (b::rest) pos) tB'):QW X (.BoolOp .And (a::b::rest) pos) (E6 tA tB'):=⟨Eo ha.h hb.h⟩
end
section
variable {X:Cx} {a b:Expr} {pos:Pos} {tA tB':TT} {rest:List Expr}
def iV(ha:QT X a tA)(hb:QW X (.BoolOp .Or (b::rest) pos) tB'):QW X (.BoolOp .Or (a::b::rest) pos) (II tA tB'):=⟨Gq ha.h hb.h⟩
end
section
variable {X:Cx} {a:Expr} {pos:Pos} {tA:TT}
def kY(ha:QT X a tA):QT X (.UnaryOp .Not a pos) (EZ tA):=⟨Es ha.h⟩
end
section
variable {X:Cx} {a:Expr} {pos:Pos}
def rG{op}{t:TE}(h:QE X a t):QE X (.BoolOp op [a] pos) t:=⟨FH h.h⟩
end
section
variable {X:Cx} {a b:Expr} {ta tb:TE} {pos:Pos} {rest:List Expr}
def rH(ha:QE X a ta)(hb:QE X (.BoolOp .And (b::rest) pos) tb):QE X (.BoolOp .And (a::b::rest) pos) (zc ta tb):=⟨FO ha.h hb.h⟩
end
section
variable {X:Cx} {a:Expr} {ta:TE} {pos:Pos}
def CM(ha:QE X a ta):QE X (.UnaryOp .Not a pos) (zX ta):=⟨FI ha.h⟩
end
section
variable {X:Cx} {a b:Expr} {ta tb:TE} {pos:Pos} {tA:TT}
def jx{c:Expr}(hc:QT X c tA)(ha:QE X a ta)(hb:QE X b tb):QE X (.IfExp c a b pos) (IJ tA ta tb):=⟨AW hc.h ha.h hb.h⟩
end
section
variable {X:Cx}
def bu  : jr X [] zZ:=⟨CT ⟩
end
section
variable {X:Cx} {st:Stmt} {rest:List Stmt} {t u:TS}
def aM(h1:QS X st t)(h2:jr X rest u):jr X (st::rest) (EV t u):=⟨AL h1.h h2.h⟩
end
section
variable {X:Cx} {st:Stmt} {t:TS}
def aS(h1:QS X st t):jr X [st] t:=⟨CS h1.h⟩
end
section
variable {X:Cx} {e:Expr} {te:TE} {pos:Pos}
def gZ(he:QE X e te)(hs:swapsWith e none pos.line X.env=pure false:=by rfl):QS X (.Expr e pos) (z8 te):=⟨CW he.h hs⟩
end
section
variable {X:Cx} {e:Expr} {te:TE} {pos:Pos}
def bH(he:QE X e te):QS X (.Return (some e) pos) (EY te):=⟨Eu he.h⟩
end
section
variable {X:Cx} {t u:TS} {pos:Pos}
def cz{c:Expr}{a b:List Stmt}{tc:TT}(hc:QT X c tc)(ha:jr X a t)(hb:jr X b u):QS X (.If c a b pos) (E1 tc t u):=⟨Gs hc.h ha.h hb.h⟩
end
section
variable {X:Cx} {pos:Pos}
def cI{i:Nat}{x:Str}(hN:X.N.Nodup)(hi:X.N[i]? = some x)(hx:Loc X.env.scope x)(hf:X.fn x=true\/X.env.scope.names.lookup x=some .local:=by first | exact .inl rfl | exact .inr rfl | assumption):QG X (.Name x pos) (mB i):=⟨C5 hN hi hx hf⟩
end
section
variable {X:Cx}
def m9  : Hz X [] Fd:=⟨C4 ⟩
end
section
variable {X:Cx}
def gS{e:Expr}{es:List Expr}{t:TG}{u:yg}(h1:QG X e t)(h2:Hz X es u)(hs:(assignEach (e::es) X.env).map (·.2)=assign e X.env::(assignEach es X.env).map (·.2):=by rfl):Hz X (e::es) (BD t u):=⟨AS h1.h h2.h hs⟩
end
section
variable {X:Cx} {pos:Pos}
def oH{es:List Expr}{k:Nat}{t:yg}{n:Nat}(hc:X.calm=true)(h:Hz X es t)(hn:(assignEach es X.env).length=n:=by rfl)(hst:(assignEach es X.env).findIdx? (·.1)=none:=by rfl):QG X (.Tuple es k pos) (Fc X.K n t):=⟨FC hc h.h hn hst⟩
end
section
variable {X:Cx} {pos:Pos}
def CK{tg e:Expr}{te:TE}{g:TG}(he:QE X e te)(hg:QG X tg g)(hs:swapsWithSole [tg] e pos.line X.env=pure false:=by rfl)(hw:swappedStores [tg] e X.env=pure none:=by rfl)(h1:(assignEach [tg] X.env).map (·.2)=[assign tg X.env]:=by rfl):QS X (.Assign [tg] e pos) (zb te g):=⟨Ey he.h hg.h hs hw h1⟩
end
section
variable {X:Cx} {pos:Pos}
def am{i:Nat}{x:Str}{e:Expr}{te:TE}{pos':Pos}(hN:X.N.Nodup)(hi:X.N[i]? = some x)(hx:Loc X.env.scope x)(he:QE X e te)(hs:swapsWith e (some (.Name x pos')) pos.line X.env=pure false:=by rfl)(hf:X.fn x=true\/X.env.scope.names.lookup x=some .local:=by first | exact .inl rfl | exact .inr rfl | assumption):QS X (.Assign [.Name x pos'] e pos) (zb te (mB i)):=⟨Et hN hi hx he.h hs hf⟩
end
section
variable {X:Cx} {pos:Pos}
def nJ{c:Expr}{body:List Stmt}{tc:TT}{tb:TS}(hp:PassesOwn (model X.prog X.w) X.A X.env X.xe)(hc:QT X c tc)(hb:jr X body tb):QS X (.While c body [] pos) (zU tc tb):=⟨AM hp hc.h hb.h⟩
end
section
variable {X:Cx} {tg:Expr}
def iO{l:Expr}{tl:TE}(hl:QE X l tl):QI X tg l (wq X.K tl):=⟨C3 hl.h⟩
end
section
variable {X:Cx} {tg:Expr}
def CL{l:Expr}{tl:TE}(hl:QE X l tl):QI X tg l (Cy X.K tl):=⟨FA hl.h⟩
end
section
variable {X:Cx} {tg:Expr}
def jJ {a:Expr} {ta:TA} {p pos:Pos} (hg:Gl X "range") (hm:X.mg "range"=none) (ha:QA X [a] ta) (hs:starEach [a] X.env=[(false,eval a X.env)]:=by rfl):QI X tg (.Call (.Name "range" p) [a] [] pos) (wn ta):=⟨xh hg hm ha.h hs⟩
end
section
variable {X:Cx} {tg:Expr}
def mH {a b:Expr} {ta:TA} {p pos:Pos} (hg:Gl X "range") (hm:X.mg "range"=none) (ha:QA X [a,b] ta) (hs:starEach [a,b] X.env=[(false,eval a X.env),(false,eval b X.env)]:=by rfl) (hs2:starEach [b] X.env=[(false,eval b X.env)]:=by rfl):QI X tg (.Call (.Name "range" p) [a,b] [] pos) (wj ta):=⟨xg hg hm ha.h hs hs2⟩
end
section
variable {X:Cx} {tg:Expr}
def f9{iter:Expr}{body:List Stmt}{wi:TI}{g:TG}{tb:TS}{pos:Pos}(hp:PassesOwn (model X.prog X.w) X.A X.env X.xe)(hc:X.calm=true)(hi:QI X tg iter wi)(hg:QG X tg g)(hb:jr X body tb)(hs:∀x,foldedSetIterable iter X.env x=pure x:=by intro _;rfl):QS X (.For tg iter body [] pos) (mX wi g tb):=⟨Ex hp hc hi.h hg.h hb.h hs⟩
end
section
variable {X:Cx} {a b:Expr} {ta tb:TE} {pos:Pos}
def aX{op:Operator}{r:R2}(ho:j5 X (binaryOp op) r)(ha:QE X a ta)(hb:QE X b tb):QE X (.BinOp a op b pos) (zW r ta tb):=⟨Gw ho ha.h hb.h⟩
end
section
variable {X:Cx} {a:Expr} {ta:TE} {pos:Pos}
def iW{op:UnaryOp}{r:V->Hp->VK->Prop}(ho:Hy X (unaryOp op) r)(ha:QE X a ta):QE X (.UnaryOp op a pos) (IF r ta):=⟨Gv ho ha.h⟩
end
section
variable {X:Cx} {a b:Expr} {ta tb:TE} {pos:Pos}
def dU{op:CmpOp}{r:R2}(ho:j5 X (compareOp op) r)(ha:QE X a ta)(hb:QE X b tb)(hm:behindInMarks op b=false):QE X (.Compare a [op] [b] pos) (zW r ta tb):=⟨Ca ho ha.h hb.h hm⟩
end
section
variable {X:Cx} {a b:Expr} {ta tb:TE} {pos:Pos}
def bK{op:CmpOp}{r:R2}(ho:j5 X (compareOp op) r)(ha:QE X a ta)(hb:QE X b tb)(hm:behindInMarks op b=false):QT X (.Compare a [op] [b] pos) (sN (zW r ta tb)):=⟨CQ ho ha.h hb.h hm⟩
end
section
variable {X:Cx} {a:Expr} {ta:TE} {pos:Pos}
def xW(ha:QE X a ta)(he:∀whole,isTrue a X.env whole=(do let v <-whole;standAt a.pos;holding [v] (truthy v))):QT X a (λσ H Q=>ta σ H λx H'=>∃k,Fj X.K x H' k/\Q k H'):=⟨AK ha.h he⟩
end
section
variable {X:Cx}
def aC  : QA X [] zY:=⟨FP ⟩
end
section
variable {X:Cx} {e:Expr} {es:List Expr} {te:TE} {t:TA}
def o9(ha:QE X e te)(hr:QA X es t)(hs:starEach (e::es) X.env=(false,eval e X.env)::starEach es X.env:=by rfl):QA X (e::es) (eE te t):=⟨gA ha.h hr.h hs⟩
end
section
variable {X:Cx} {es:List Expr} {t:TA} {pos:Pos}
def cT{x1}(h:QA X es t):QE X (.Tuple es x1 pos) (EU t):=⟨FF h.h⟩
end
section
variable {X:Cx} {es:List Expr} {t:TA} {pos:Pos}
def bZ(h:QA X es t):QE X (.List es pos) (Bu t):=⟨FK h.h⟩
end
section
variable {X:Cx} {x:Str} {p pos:Pos} {e:Expr} {es:List Expr} {t:TA} {id:String} {r:List V->Hp->VK->Prop}
def aY (hc:eA X (.builtin id) r) (hg:Gl X x) (hm:X.mg x=none) (hv:bootBuiltins x=some (.builtin id)) (ha:QA X (e::es) t) (hn:x≠"__name__":=by decide) (hdb:(x==("__debug__":Str))=false:=by decide) (he:starEach (e::es) X.env=(false,eval e X.env)::starEach es X.env:=by rfl) (hpl:(backTo pos (starEach es X.env)).any (·.1)=false:=by rfl):QE X (.Call (.Name x p) (e::es) [] pos) (GA r t):=⟨A5 hc hg hm hv ha.h hn hdb he hpl⟩
end
section
variable {X:Cx} {x:Str} {p pos:Pos} {e:Expr} {es:List Expr} {t:TA} {T:String} {r:List V->Hp->VK->Prop}
def cN (hc:eA X (.type T) r) (hg:Gl X x) (hm:X.mg x=none) (hv:bootBuiltins x=some (.type T)) (ha:QA X (e::es) t) (hn:x≠"__name__":=by decide) (hdb:(x==("__debug__":Str))=false:=by decide) (he:starEach (e::es) X.env=(false,eval e X.env)::starEach es X.env:=by rfl) (hpl:(backTo pos (starEach es X.env)).any (·.1)=false:=by rfl):QE X (.Call (.Name x p) (e::es) [] pos) (GA r t):=⟨xi hc hg hm hv ha.h hn hdb he hpl⟩
end
section
variable {X:Cx}
def fy  : QO X none qv:=⟨C2 ⟩
end
section
variable {X:Cx} {e:Expr} {te:TE}
def fA(h:QE X e te):QO X (some e) (zV te):=⟨C1 h.h⟩
end
section
variable {X:Cx} {e:Expr} {te:TE} {lo hi:Option Expr} {tl th:TO} {pos p2:Pos}
def eP{r:V->Option Int->Option Int->Hp->VK->Prop}(hr:HX X r)(he:QE X e te)(hl:QO X lo tl)(hu:QO X hi th):QE X (.Subscript e (.Slice lo hi none p2) pos) (IG r te tl th):=⟨AU hr he.h hl.h hu.h⟩
end
section
variable {X:Cx} {a b:Expr} {ta tb:TE} {pos:Pos}
def au{r:R2}(hr:Fs X r)(ha:QE X a ta)(hb:QE X b tb)(hs:xE b):QE X (.Subscript a b pos) (zW r ta tb):=⟨Gx hr ha.h hb.h hs⟩
end
section
variable {X:Cx} {o:Expr} {to:TE} {name:Str} {apos cpos:Pos} {T id:String} {r:V->List V->Hp->VK->Prop}
def CO (pa:PlainAttrs T) (slot:Slot T name id) (hty:typeOf (.builtin id)=pure (.type "method_descriptor")) (hm:Hd X id r) (ho:QE X o to) (hbase:attributeBase o name X.env (eval o X.env)=eval o X.env:=by rfl) (hline:(apos.endLine==cpos.line)=true:=by rfl):QE X (.Call (.Attribute o name apos) [] [] cpos) (E5 X.K T r to):=⟨FN pa slot hty hm ho.h hbase hline⟩
end
section
variable {X:Cx} {o e:Expr} {es:List Expr} {to:TE} {t:TA} {name:Str} {apos cpos:Pos} {T id:String} {r:V->List V->Hp->VK->Prop}
def kZ (pa:PlainAttrs T) (slot:Slot T name id) (hty:typeOf (.builtin id)=pure (.type "method_descriptor")) (hm:Hd X id r) (ho:QE X o to) (ha:QA X (e::es) t) (hbase:attributeBase o name X.env (eval o X.env)=eval o X.env:=by rfl) (hfew:((backTo cpos (starEach (e::es) X.env)).all (λx=>!x.1)&&(backToKw cpos (keywordEach [] X.env)).all (λx=>x.1.isSome)
   && decide ((e::es).length+([]:List Keyword).length+(if ([]:List Keyword).isEmpty then 0 else 1)<30))=true:=by rfl) (hline:(apos.endLine==cpos.line)=true:=by rfl) (hs:starEach (e::es) X.env=(false,eval e X.env)::starEach es X.env:=by rfl) (hplain:(backTo cpos (starEach es X.env)).any (·.1)=false:=by rfl):QE X (.Call (.Attribute o name apos) (e::es) [] cpos) (Gc X.K T r to t):=⟨Gy pa slot hty hm ho.h ha.h hbase hfew hline hs hplain⟩
end
section
variable {X:Cx}
def a9 (i:Nat) {x:Str} {pos:Pos} (hN:X.N[i]? = some x:=by rfl) (hv:HV X.env.scope x:=by first | exact Or.inl rfl | exact Or.inr (Or.inl rfl) | exact Or.inr (Or.inr rfl)) (hd:(x==("__debug__":Str))=false:=by decide) (hcd:(x==("__classdict__":Str))=false:=by decide):QE X (.Name x pos) (oP i):=⟨pv i hN hv hd hcd⟩
end
section
variable {X:Cx}
def o8{a b c d:Expr}{ta tb tc td:TE}{pos:Pos}{op op' op2:CmpOp}{r r' r2:R2}(ho:j5 X (compareOp op) r)(ho':j5 X (compareOp op') r')(ho2:j5 X (compareOp op2) r2)(ha:QE X a ta)(hb:QE X b tb)(hc:QE X c tc)(hd:QE X d td)(hm:lastMarks [op,op',op2] [b,c,d]=false:=by with_unfolding_all rfl):QT X (.Compare a [op,op',op2] [b,c,d] pos) (sN (oA r r' r2 ta tb tc td)):=⟨x9 ho ho' ho2 ha.h hb.h hc.h hd.h hm⟩
end
section
def x8 {X:Cx} {x:Str} {i:Int} {pos:Pos} (hg:Gl X x) (hm:∃t,X.mg x=some (.int i t)) (hd:(x==("__debug__":Str))=false:=by decide):QE X (.Name x pos) (tC (.int i)):=⟨AY hg hm hd⟩
end
section
def bS {X:Cx} {k:Nat} {x:Str} {st:Stmt} {ps:List Str} {sp:Sp} {e:Expr} {es:List Expr} {t:TA} {p pos:Pos} (D:iM X.prog X.w X.K X.mg X.base k x st ps sp) (hr:fg k X.A) (hg:Gl X x) (ha:QA X (e::es) t) (hdb:(x==("__debug__":Str))=false:=by decide) (he:starEach (e::es) X.env=(false,eval e X.env)::starEach es X.env:=by rfl) (hpl:(backTo pos (starEach es X.env)).any (·.1)=false:=by rfl):QE X (.Call (.Name x p) (e::es) [] pos) (nW sp [] E0 t):=⟨A4 D hr hg ha.h hdb he hpl⟩
end
section
def l6{X:Cx}:QF X [] nV:=⟨FD ⟩
end
section
variable {X:Cx} {H:Hp} {s:Shared}
def jy{own ns:List Str}{caps:List Nat}{elt tg iter:Expr}{ifs:List Expr}{scope:Scope}{pos:Pos}{wi:TI}{g:TG}{tf:TT}{te:TE}(hc:X.calm=true)(S:pT scope ns)(cp:mS X scope ns caps)(hi:QI X tg iter wi)(hg:∀C s H fp pn,QG (yU X (own++ns) scope C s H fp pn) tg g)(ht:∀C s H fp pn,QF (yU X (own++ns) scope C s H fp pn) ifs tf)(he:∀C s H fp pn,QE (yU X (own++ns) scope C s H fp pn) elt te)(hs:∀x,foldedSetIterable iter X.env x=pure x:=by intro _;rfl):QE X (.ListComp elt [⟨tg,iter,ifs,0⟩] scope pos) (oQ own.length caps wi g tf te):=⟨C9 hc S cp hi.h (λC s H fp pn=>(hg C s H fp pn).h) (λC s H fp pn=>(ht C s H fp pn).h) (λC s H fp pn=>(he C s H fp pn).h) hs⟩
end
section
def qO {X:Cx} {x:Str} {K:P5} {xs:List V} {pos:Pos} (hg:Gl X x) (hm:∃a,X.mg x=some (.ref a)/\∀H,dA K H a xs) (hd:(x==("__debug__":Str))=false:=by decide):QE X (.Name x pos) (uZ K xs):=⟨AX hg hm hd⟩
end
section
def dn{X:Cx}{st:Stmt}{rest:List Stmt}{t u:TS}(h1:QS X st t)(h2:jr X rest u):jr X (st::rest) (Bv t u):=⟨CU h1.h h2.h⟩
end
section
variable {X:Cx} {es:List Expr} {te:TE} {t:TA}
def bY{a0:PySem.Expr}{a1:PySem.Operator}{a2:PySem.Expr}{a3:PySem.Pos}(ha:QE X (Expr.BinOp a0 a1 a2 a3) te)(hr:QA X es t):QA X ((Expr.BinOp a0 a1 a2 a3)::es) (eE te t):=⟨A8 ha.h hr.h⟩
end
section
variable {X:Cx} {es:List Expr} {te:TE} {t:TA}
def ii{a0:PySem.Expr}{a1:List Comprehension}{a2:PySem.Scope}{a3:PySem.Pos}(ha:QE X (Expr.ListComp a0 a1 a2 a3) te)(hr:QA X es t):QA X ((Expr.ListComp a0 a1 a2 a3)::es) (eE te t):=⟨sv ha.h hr.h⟩
end
section
variable {X:Cx} {es:List Expr} {te:TE} {t:TA}
def dh{a0:PySem.Expr}{a1:List CmpOp}{a2:List Expr}{a3:PySem.Pos}(ha:QE X (Expr.Compare a0 a1 a2 a3) te)(hr:QA X es t):QA X ((Expr.Compare a0 a1 a2 a3)::es) (eE te t):=⟨uu ha.h hr.h⟩
end
section
variable {X:Cx} {es:List Expr} {te:TE} {t:TA}
def ci{a0:PySem.Expr}{a1:List Expr}{a2:List Keyword}{a3:PySem.Pos}(ha:QE X (Expr.Call a0 a1 a2 a3) te)(hr:QA X es t):QA X ((Expr.Call a0 a1 a2 a3)::es) (eE te t):=⟨Cf ha.h hr.h⟩
end
section
variable {X:Cx} {es:List Expr} {te:TE} {t:TA}
def aU{a0:PySem.Const}{a1:Nat}{a2:PySem.Pos}(ha:QE X (Expr.Constant a0 a1 a2) te)(hr:QA X es t):QA X ((Expr.Constant a0 a1 a2)::es) (eE te t):=⟨sy ha.h hr.h⟩
end
section
variable {X:Cx} {es:List Expr} {te:TE} {t:TA}
def pW{a0:PySem.Expr}{a1:PySem.Str}{a2:PySem.Pos}(ha:QE X (Expr.Attribute a0 a1 a2) te)(hr:QA X es t):QA X ((Expr.Attribute a0 a1 a2)::es) (eE te t):=⟨rM ha.h hr.h⟩
end
section
variable {X:Cx} {es:List Expr} {te:TE} {t:TA}
def ar{a0:PySem.Expr}{a1:PySem.Expr}{a2:PySem.Pos}(ha:QE X (Expr.Subscript a0 a1 a2) te)(hr:QA X es t):QA X ((Expr.Subscript a0 a1 a2)::es) (eE te t):=⟨rL ha.h hr.h⟩
end
section
variable {X:Cx} {es:List Expr} {te:TE} {t:TA}
def aF{a0:PySem.Str}{a1:PySem.Pos}(ha:QE X (Expr.Name a0 a1) te)(hr:QA X es t):QA X ((Expr.Name a0 a1)::es) (eE te t):=⟨Cc ha.h hr.h⟩
end
section
variable {X:Cx} {es:List Expr} {te:TE} {t:TA}
def g0{a0:List Expr}{a1:PySem.Pos}(ha:QE X (Expr.List a0 a1) te)(hr:QA X es t):QA X ((Expr.List a0 a1)::es) (eE te t):=⟨Cd ha.h hr.h⟩
end
section
variable {X:Cx} {es:List Expr} {te:TE} {t:TA}
def dX{a0:List Expr}{a1:Nat}{a2:PySem.Pos}(ha:QE X (Expr.Tuple a0 a1 a2) te)(hr:QA X es t):QA X ((Expr.Tuple a0 a1 a2)::es) (eE te t):=⟨A7 ha.h hr.h⟩
end
section
variable {X:Cx} {es:List Expr} {te:TE} {t:TA}
def sq{a0:List (Option Expr)}{a1:List Expr}{a2:PySem.Pos}(ha:QE X (Expr.Dict a0 a1 a2) te)(hr:QA X es t):QA X ((Expr.Dict a0 a1 a2)::es) (eE te t):=⟨Ce ha.h hr.h⟩
end
section
variable {X:Cx} {o i:Expr} {pos:Pos} {td ty:TE}
def lH(hu:X.A.units+1<cLine)(ho:QE X o td)(hi:QE X i ty)(hs:Fq i):QE X (.Subscript o i pos) (za td ty):=⟨C8 hu ho.h hi.h hs⟩
end
section
variable {X:Cx} {o i value:Expr} {pos pos':Pos} {td ty tv:TE}
def sk(hu:X.A.units+1<cLine)(ho:QE X o td)(hi:QE X i ty)(hv:QE X value tv)(hs:swapsWith value (some (.Subscript o i pos')) pos.line X.env=pure false):QS X (.Assign [.Subscript o i pos'] value pos) (zt td ty tv):=⟨CY hu ho.h hi.h hv.h hs⟩
end
section
variable {X:Cx} {pos:Pos}
def qP  : QE X (.Dict [] [] pos) u5:=⟨A2 ⟩
end
section
def AF{X:Cx}{pos:Pos}:DS X pos [] [] []:=⟨CZ ⟩
end
section
def qN{X:Cx}{pos:Pos}{k v:Expr}{ks:List (Option Expr)}{vs:List Expr}{tk tv:TE}{trs:List (TE×TE)}(hk:QE X k tk)(hv:QE X v tv)(hr:DS X pos ks vs trs):DS X pos (some k::ks) (v::vs) ((tk,tv)::trs):=⟨AO hk.h hv.h hr.h⟩
end
section
def AI{X:Cx}{pos:Pos}{keys:List (Option Expr)}{values:List Expr}{trs:List (TE×TE)}(h:DS X pos keys values trs)(hall:keys.all (·.isSome)=true)(hl:keys.length=values.length)(h0:keys≠[])(h15:keys.length<=15):QE X (.Dict keys values pos) (z9 trs):=⟨C7 h.h hall hl h0 h15⟩
end
section
variable {X:Cx}
def xX {x:Str} {C:Addr} {bmB:List Value} {B newId initId:String} {E:XK} {e:Expr} {es:List Expr} {t:TA} {np cpos pos:Pos} (R:Fm X E) (O:OwnCls x C bmB newId X.mg X.base) (F:ExcBaseFacts B newId initId bmB) (hc:X.calm=true) (hg:Gl X x) (ha:QA X (e::es) t) (hdb:(x==("__debug__":Str))=false:=by decide) (he:starEach (e::es) X.env=(false,eval e X.env)::starEach es X.env:=by rfl) (hpl:(backTo cpos (starEach es X.env)).any (·.1)=false:=by rfl):QS X (.Raise (some (.Call (.Name x np) (e::es) [] cpos)) none pos) (uX C E t):=⟨AN R O F hc hg ha.h hdb he hpl⟩
end
section
variable {X:Cx}
def l4{st:Stmt}{t:TS}(h:QS X.nox st t):QS X st t:=⟨Ew h.h⟩
end
section
variable {X:Cx}
def wZ{e:Expr}{t:TT}(h:QT X.nox e t):QT X e t:=⟨Er h.h⟩
end
section
variable {X:Cx}
def eQ {x:Str} {C:Addr} {pos:Pos} (hg:Gl X x) (hm:X.mg x=some (.ref C)) (hd:(x==("__debug__":Str))=false:=by decide):QE X (.Name x pos) (tC (.ref C)):=⟨AZ hg hm hd⟩
end
section
variable {X:Cx}
def ul {a:Addr} {k:Nat} {x:Str} {st:Stmt} {ps:List Str} {sp:Addr->Sp} {e:Expr} {es:List Expr} {t:TA} {p pos:Pos} (D:B9 X.prog X.w X.K X.mg X.base k x st ps sp) (hr:kH a k X.A) (hg:Gl X x) (ha:QA X (e::es) t) (hdb:(x==("__debug__":Str))=false:=by decide) (he:starEach (e::es) X.env=(false,eval e X.env)::starEach es X.env:=by rfl) (hpl:(backTo pos (starEach es X.env)).any (·.1)=false:=by rfl):QE X (.Call (.Name x p) (e::es) [] pos) (nW (sp a) [] E0 t):=⟨xj D hr hg ha.h hdb he hpl⟩
end
section
def so {X:Cx} {e:Expr} {te:TE} {p p2 pos2 pos:Pos} (hc:X.calm=true) (hgl:Gl X "list") (hml:X.mg "list"=none) (hgr:Gl X "reversed") (hmr:X.mg "reversed"=none) (he:QE X e te) (hs:starEach [.Call (.Name "reversed" p2) [e] [] pos2] X.env=[(false,eval (.Call (.Name "reversed" p2) [e] [] pos2) X.env)]:=by rfl) (hs2:starEach [e] X.env=[(false,eval e X.env)]:=by rfl):QE X (.Call (.Name "list" p) [.Call (.Name "reversed" p2) [e] [] pos2] [] pos) (EX te):=⟨ur hc hgl hml hgr hmr he.h hs hs2⟩
end
open AutoSeq1 (wpAny_loadPart')
section
variable {prog:Program} {w:World} {A:Around} {E:Value->Shared->Prop} {s:Shared}
def vG{it t:Addr}{i:Nat}{items}{x:Value}{Q:Value->Shared->Prop}(hit:s.heap.IsTupleIter it t i)(ht:s.heap.IsTuple t items)(hx:items[i]? = some x)
  (hQ:∀h',h'.IsTupleIter it t (i+1)->Heap.SameBut it s.heap h'->Q x { s with heap:=h' }):wpAny (model prog w) A (Builtin.SmallTypes.nextOf (.ref it)) Q E s:=by
 obtain⟨o,ho,hc,hd⟩:=id hit;obtain⟨ol,hol,_,nl,hdl⟩:=ht;unfold Builtin.SmallTypes.nextOf;refine wpAny_bind (wpAny_callSpecial?_slot (name:=Str.ofString "__next__") hit.typeIs cS (Oy cS hit.typeIs fN ?_ (fF _)));show wpAny _ _ (field (.ref it) 0>>=_) _ _ s;refine wpAny_bind (Ow ho hd (x:=.ref t) rfl ?_);show wpAny _ _ (if (Value.ref t==Value.none)=true then _ else _) _ _ s;rw[PV (show ¬((Value.ref t==Value.none)=true) from a8)];show wpAny _ _ (field (.ref it) 1>>=_) _ _ s;refine wpAny_bind (Ow ho hd (x:=.int i 0) rfl ?_);show wpAny _ _ (seqItems? (.ref t)>>=_) _ _ s;refine wpAny_bind (PN hol hdl ?_);simp only[gj,hx];refine wpAny_bind (PJ ho hd (by simp) (On ⟨x,rfl,On (hQ _ ?_ (i8 ..))⟩));exact⟨_,cf _ ho (Obj.isFreed_of_fields (Obj.data_mapFields hd _)),(Obj.cls_mapFields ..).trans hc,by rw[Obj.data_mapFields hd];simp[rawInt]⟩
def xr{it t:Addr}{i:Nat}{items}{Q:Value->Shared->Prop}(hh:A.handled=none)(hit:s.heap.IsTupleIter it t i)(ht:s.heap.IsTuple t items)(hx:items[i]? = none)
  (hE:∀h' e,Heap.ExtBut it s.heap h'->(∃o,h'.get? e=some o/\o.cls=.type "StopIteration")->E (.ref e) { s with heap:=h' }):wpAny (model prog w) A (Builtin.SmallTypes.nextOf (.ref it)) Q E s:=by
 obtain⟨o,ho,hc,hd⟩:=id hit;obtain⟨ol,hol,_,nl,hdl⟩:=ht;unfold Builtin.SmallTypes.nextOf;refine wpAny_bind (wpAny_callSpecial?_slot (name:=Str.ofString "__next__") hit.typeIs cS (Oy cS hit.typeIs fN ?_ (fF _)));show wpAny _ _ (field (.ref it) 0>>=_) _ _ s;refine wpAny_bind (Ow ho hd (x:=.ref t) rfl ?_);show wpAny _ _ (if (Value.ref t==Value.none)=true then _ else _) _ _ s;rw[PV (show ¬((Value.ref t==Value.none)=true) from a8)];show wpAny _ _ (field (.ref it) 1>>=_) _ _ s;refine wpAny_bind (Ow ho hd (x:=.int i 0) rfl ?_);show wpAny _ _ (seqItems? (.ref t)>>=_) _ _ s;refine wpAny_bind (PN hol hdl ?_);simp only[gj,hx];refine wpAny_bind (PH (wpAny_bind (PJ ho hd (by simp) ?_)));show wpAny _ _ (newExc (.type "StopIteration") []>>=_) _ _ _;refine wpAny_bind ?_;simp only[newExc,newTuple];refine wpAny_bind (Oz ?_ (by size_fits));refine wpAny_bind (m:=firstArgMember _ _) (wpAny_of_eq (a:=Value.none) (by first | rfl | (simp only[firstArgMember];rfl)) ?_);refine Oz ?_ (by size_fits);simp only[raiseNew];refine wpAny_bind (wpAny_handled ?_);first | rw[show A.in1.handled=none from hh] | rw[hh]
 refine wpAny_bind (On (wpAny_throw ?_));exact hE _ _ (((i8 ..).extBut.push _).push _) ⟨_,aK _ rfl,rfl⟩
def Draws.tup(hh:A.handled=none)(it t:Addr)(hne:t≠it)(items:Array Value):Draws prog w A it [it,t] items.size (λi v=>items[i]? = some v) (λi h=>h.IsTupleIter it t i/\h.IsTuple t items) where
 live:=λ_ _ st=>let ⟨o,ho,_⟩:=st.1;⟨o,ho⟩
 frame:=λ_ _ _ st hk=>by
  obtain⟨st1,o,ho,r⟩:=st;exact⟨st1.at λo e=>hk it (by simp) o e,o,hk t (by simp) o ho,r⟩
 item:=λi s Q E hi st hQ=>vG st.1 st.2 (x:=items[i]) (by simp[hi]) λh' hit' hs'=>hQ _ h' s.toks (by simp[hi]) ⟨hit',st.2.extBut hs'.extBut hne⟩ hs'
 done:=λs Q E st hE=>xr hh st.1 st.2 (by simp) hE
end
section
variable {X:Cx} {pins:List (Addr×Obj)} {σ:St} {H:Hp} {s:Shared} {h':Heap}
def bT.turnAll{fp:List Addr}{t':Nat}(I:bT X pins σ H s)(hf:∀b∈fp,lT X pins H b)(k:∀b u,b∉fp->s.heap.get? b=some u->h'.get? b=some u):bT X pins σ H { s with heap:=h',toks:=t' }:=by
 have nfp:∀b u,H b=some u->b∉fp:=λb u e z=>by rw[(hf b z).1] at e;cases e
 refine I.step (g':=s.gens) (d':=s.drawn) (ch:=fp) (λb hb=>?_) (λb o _ _ hc e _=>k b o hc e) (λb o _ _ hc e _=>⟨o.slots,k b o hc e⟩) (λ_ _ _ _ n=>n)
  (λb o hc e=>⟨o,k b o hc e⟩) (λ_ _ e=>e) (λ_ _ _ e=>e) (λb ps e=>⟨#[],by rw[e];simp⟩) (λm hm=>?_) (λb u e=>?_) I.bare
 ·obtain⟨_,f1,_,f3,f4,f5⟩:=hf b hb;exact⟨f3,f1,f4,f5⟩
 ·obtain⟨ob,es,ep,ho,r⟩:=hm;exact⟨ob,es,ep,k _ ob (λz=>(hf _ z).2.1 rfl) ho,r⟩
 ·refine(I.hok b u e).stay (λc v hc q=>k c v ?_ q) (λ_ q=>q) λ_ _ q=>q;rcases hc with z | z
  ·rw[z];exact nfp b u e
  ·exact nfp c _ z
end
def Hh(K:P5)(a:Addr):It:=
 ⟨λi H=>∃xs x,dA K H a xs/\xs[i]? = some x,λi H v H'=>∃p x,H p=none/\(∀xs,dA K H a xs->xs[i]? = some x)/\v=.ref p/\H'=bW H p (.tup [.int i,x]),λi H=>∃xs,dA K H a xs/\xs.length=i⟩
def Fa(K:P5)(ta:TA):TI:=λσ H R=>ta σ H λvs H1=>∃a,vs=[.ref a]/\(∃xs,dA K H1 a xs)/\R (Hh K a) H1
def JH(K:P5)(a b:Addr):It:=
  ⟨λi H=>∃xs ys x y,ce K H a xs/\ce K H b ys/\xs[i]? = some x/\ys[i]? = some y,
   λi H v H'=>∃p x y,H p=none/\(∀xs,ce K H a xs->xs[i]? = some x)/\(∀ys,ce K H b ys->ys[i]? = some y)/\v=.ref p/\H'=bW H p (.tup [x,y]),
   λi H=>∃xs ys,ce K H a xs/\ce K H b ys/\(xs.length<=i\/ys.length<=i)⟩
def Ia(K:P5)(ta:TA):TI:=λσ H R=>ta σ H λvs H1=>∃a b,vs=[.ref a,.ref b]/\(∃xs,ce K H1 a xs)/\(∃ys,ce K H1 b ys)/\R (JH K a b) H1
end L2
namespace L2
open PySem PySem.Spec PyProof.Rows HT
section
variable {prog:Program} {w:World} {A:Around} {E:Value->Shared->Prop} {s:Shared}
def BC{t sl:Addr}{items:Array Value}{vl vu:Value}{lo hi:Option Int}{Q:Value->Shared->Prop}(ht:IsTup s.heap t items)(hs:s.heap.IsSliceOf sl vl vu .none)(pl:IsPart vl lo)(pu:IsPart vu hi)
  (hw:sIx items.size 0 lo=0/\sIx items.size items.size hi=items.size) (h:Q (.ref t) s):wpAny (model prog w) A (getItem (.ref t) (.ref sl)) Q E s:=by
 obtain⟨os,hos,hcs,hds⟩:=id hs;have hTs:s.TypeIs (.ref sl) "slice":=⟨os,hos,hcs⟩
 unfold getItem
 try with_reducible refine Ox ?_
 first | refine wpAny_bind (On ?_) | skip
 refine wpAny_bind (wpAny_sequenceKey ht.typeIs (by decide) ?_);refine wpAny_bind (wpAny_callSpecial?_slot (name:=Str.ofString "__getitem__") ht.typeIs bx (Oy bx ht.typeIs entry_tuple_getitem ?_ (args_tuple_getitem _ _)));show wpAny _ _ (Builtin.Tuple.tupleItemsOf (.ref t)>>=_) _ _ s;refine wpAny_bind (tupleItemsOf_ ht ?_);refine wpAny_bind (wpAny_typeOf hTs ?_);rw[PX (by decide)];refine wpAny_bind (ju hs pl pu ?_);have hyes:(((sIx items.size 0 lo:Nat):Int)==0&&(1:Int)==1&&(sIx items.size items.size hi-sIx items.size 0 lo)==items.size)=true:=by
  rw[hw.1,hw.2];simp
 show wpAny _ _ (if (((sIx items.size 0 lo:Nat):Int)==0&&(1:Int)==1&&(sIx items.size items.size hi-sIx items.size 0 lo)==items.size)=true then _ else _) _ _ s;rw[PX hyes];refine wpAny_bind ?_;unfold Builtin.Tuple.tupleIsExact;refine wpAny_bind (wpAny_typeOf ht.typeIs ?_);refine On ?_;rw[PX (by decide)];exact wpAny_bind (PH (On ⟨_,rfl,On h⟩))
end
section
variable {X:Cx}
def zy(K:P5):V->Option Int->Option Int->Hp->VK->Prop:=λx lo hi H Q=>∃a xs,x=.ref a/\dA K H a xs ∧
 ((HT.sIx xs.length 0 lo=0/\HT.sIx xs.length xs.length hi=xs.length)->Q (.ref a) H)/\(¬(HT.sIx xs.length 0 lo=0/\HT.sIx xs.length xs.length hi=xs.length)->∀p,H p=none->Q (.ref p) (bW H p (.tup (lp xs lo hi))))
def oB:HX X (zy X.K):=by
 intro pins s σ H x v vl vu lo hi sl Q I rx hs pl pu h;obtain⟨a,xs,rfl,hx,q1,q2⟩:=h;by_cases hw:HT.sIx xs.length 0 lo=0/\HT.sIx xs.length xs.length hi=xs.length
 ·cases rx;obtain⟨its,r,ht,hz⟩:=I.tuple hx;have hlen:its.toArray.size=xs.length:=by rw[aO];exact r.length.symm
  exact⟨"tuple",_,bx.lookup,ht.typeIs,BC ht hs pl pu (by rw[hlen];exact hw) ⟨.ref a,H,I,rfl,q1 hw⟩⟩
 ·exact E8 pins s σ H (.ref a) v vl vu lo hi sl Q I rx hs pl pu ⟨a,xs,rfl,hx,hw,q2 hw⟩
end
def AB(K:P5):R2:=λx y H Q=>∃a b xs ys,x=.ref a/\y=.ref b/\dA K H a xs/\dA K H b ys/\xs.length+ys.length<=sizeLine ∧
 (xs=[]->Q (.ref b) H)/\(xs≠[]->(ys=[]->Q (.ref a) H)/\(ys≠[]->∀p,H p=none->Q (.ref p) (bW H p (.tup (xs++ys)))))
def lI{X:Cx}:j5 X (binaryOp .Add) (AB X.K):=by
 intro pins s σ H x y v u Q I rx ry h;obtain⟨a,b,xs,ys,rfl,rfl,ha,hb,hz,q1,q2⟩:=h;by_cases hx:xs=[]
 ·cases rx;cases ry;obtain⟨its,r1,p1,_⟩:=I.tuple ha;obtain⟨its2,r2,p2,_⟩:=I.tuple hb;obtain⟨⟨cls,dd,data,sl⟩,ho,hc,n,hd⟩:=id p1;obtain⟨⟨cls2,dd2,data2,sl2⟩,ho2,hc2,n2,hd2⟩:=id p2;simp only at hc hd hc2 hd2;subst hc hd hc2 hd2;exact concat_meets ⟨_,ho,rfl⟩ ⟨_,ho2,rfl⟩ noFill_tuple_add seq_tuple_add gb gV (fz _ _)
   (tuple_addW0 a b its.toArray its2.toArray n n2 dd dd2 sl sl2 (by simp[r1.nil_iff.mpr hx])) ⟨ho,ho2,.ref b,H,I,rfl,q1 hx⟩
 ·exact Cj pins s σ H (.ref a) (.ref b) v u Q I rx ry ⟨a,b,xs,ys,rfl,rfl,ha,hb,hx,hz,(q2 hx).1,(q2 hx).2⟩
def mn{K:P5}{H:Hp}{Q:VK}{a b:Addr}{xs ys:List V}(ha:H a=some (.tup xs))(hb:H b=some (.tup ys))(hz:xs.length+ys.length<=1000)(q:∀p H',aW H H'->H' p=some (.tup (xs++ys))->Q (.ref p) H'):AB K (.ref a) (.ref b) H Q:=by
 refine⟨a,b,xs,ys,rfl,rfl,dA.of ha,dA.of hb,bI (bU hz),λe=>?_,λ_=>⟨λe=>?_,λ_ p hp=>?_⟩⟩
 ·exact q b H (aW.refl _) (by rw[hb,e];rfl)
 ·exact q a H (aW.refl _) (by rw[ha,e,cK])
 ·exact q p _ ((aW.refl H).new hp) aE
def zk{K:P5}{H:Hp}{Q:VK}{a:Addr}{xs:List V}{hi:Nat}(h:H a=some (.tup xs))(h2:hi<=xs.length)(q:∀p H',aW H H'->H' p=some (.tup (xs.take hi))->Q (.ref p) H'):zy K (.ref a) none (some (hi:Int)) H Q:=by
 refine⟨a,xs,rfl,dA.of h,?_,?_⟩
 ·rw[HT.sIx_nat];rintro⟨_,e2⟩;refine q a H (aW.refl _) ?_;have e4:hi=xs.length:=by lia
  subst e4;rw[dm];exact h
 ·intro _ p hp;refine q p _ ((aW.refl H).new hp) ?_;rw[aE];unfold lp;rw[HT.sIx_nat,HT.sIx_none,Nat.min_eq_left h2];rfl
section
variable {σ:St} {H:Hp} {D:Ends} {K:P5}
def vo{ta:TA}{g:TG}{tb:TS}:mX (Fa K ta) g tb D σ H=ta σ H λvs H1=>∃a,vs=[.ref a]/\(∃xs,dA K H1 a xs)/\pS (Hh K a) g tb D σ H1:=rfl
def vq{k:Nat}{caps:List Nat}{ta:TA}{g:TG}{tf:TT}{te:TE}{Q:VK}:oQ k caps (Ia K ta) g tf te σ H Q=ta σ H λvs H1=>∃a b,vs=[.ref a,.ref b]/\(∃xs,ce K H1 a xs)/\(∃ys,ce K H1 b ys)/\jc (JH K a b) g tf te Q (i6 k caps σ) H1:=rfl
end
end L2
namespace L2
open PySem PySem.Spec PyProof.Rows
structure pP (z TI TO i1 i2:Addr) (f1 f2:List Addr):Prop where
 tz:TI≠z
 oz:TO≠z
 az:i1≠z
 bz:i2≠z
 to:TI≠TO
 ta:TI≠i1
 tb:TI≠i2
 oa:TO≠i1
 ob:TO≠i2
 ab:i1≠i2
 z1:z∉f1
 o1:TO∉f1
 b1:i2∉f1
 z2:z∉f2
 o2:TO∉f2
 a2:i1∉f2
section
variable {prog:Program} {w:World} {A:Around} {E:Value->Shared->Prop} {s:Shared} {z TI TO i1 i2:Addr} {f1 f2:List Addr} {n1 n2 k:Nat} {P1 P2:Nat->Value->Prop} {S1 S2:Nat->Heap->Prop} {a b:Value}
def ef{it:Addr}{fp:List Addr}{n i:Nat}{P:Nat->Value->Prop}{S:Nat->Heap->Prop}{h h':Heap}{c:Addr}(D:Draws prog w A it fp n P S)(st:S i h)(sb:Heap.SameBut c h h')(hc:c∉fp):S i h':=
 D.frame i h h' st λb hb o e=>(sb.2 b (λq=>hc (q▸hb))).trans e
def xF{Q:Value->Shared->Prop}(D1:Draws prog w A i1 f1 n1 P1 S1)(D2:Draws prog w A i2 f2 n2 P2 S2)(ap:pP z TI TO i1 i2 f1 f2)(hz:IsZip s.heap z TI TO .none)(hTI:IsPair s.heap TI (.ref i1) (.ref i2))(hTO:IsPair s.heap TO a b)(h1:S1 k s.heap)(h2:S2 k s.heap)(k1:k<n1)(k2:k<n2)
  (hQ:∀(h':Heap) (x y:Value) (tk:Nat),P1 k x->P2 k y->IsZip h' z TI TO (rawInt s.heap.objs.size)->IsPair h' TO x y->S1 (k+1) h'->S2 (k+1) h'->IsPair h' s.heap.objs.size x y->(∀c o,c≠z->c≠TO->c≠i1->c≠i2->s.heap.get? c=some o->h'.get? c=some o)->Q (.ref s.heap.objs.size) { s with heap:=h',toks:=tk }) :
  wpAny (model prog w) A (Builtin.«zip.__next__» ⟨[.ref z],[]⟩) (λfin s'=>∃v,fin=.done (.ret v)/\Q v s') E s:=by
 show wpAny _ _ (field (.ref z) 2>>=_) _ _ _;refine wpAny_bind (Ow hz rfl (x:=.bool false) rfl ?_);show wpAny _ _ (field (.ref z) 3>>=_) _ _ _;refine wpAny_bind (Ow hz rfl (x:=.ref TI) rfl ?_);refine wpAny_bind (PN hTI rfl ?_);show wpAny _ _ (Builtin.SmallTypes.ownedTupleIsFree (.ref z)>>=_) _ _ _;refine wpAny_bind ?_;unfold Builtin.SmallTypes.ownedTupleIsFree;refine wpAny_bind (Ow hz rfl (x:=.none) rfl (On ?_));simp only[P3];refine wpAny_bind (PH ?_);refine wpAny_bind (Ow hz rfl (x:=.ref TO) rfl ?_);refine wpAny_bind (PP hz (by simp) λg1 hz1 b1=>?_)
 replace hz1:IsZip g1 z TI TO .ellipsis:=hz1
 refine wpAny_bind ?_;simp only[List.zipIdx_cons,List.zipIdx_nil,ki,List.forIn_nil];refine wpAny_bind (wpAny_bind (wpAny_onRaise ?_));show wpAny _ _ (Builtin.SmallTypes.nextOf (.ref i1)>>=_) _ _ _;refine wpAny_bind (D1.item k { s with heap:=g1 } _ _ k1 (ef D1 h1 b1 ap.z1) λx g2 t2 px s2 b2=>On ?_);have hT2:IsPair g2 TO a b:=b2.extBut _ _ ap.oa (b1.extBut _ _ ap.oz hTO);refine wpAny_bind (PN hT2 rfl ?_);refine wpAny_bind (wpAny_updateSeq_pair hT2 λg3 hT3 b3=>?_)
 replace hT3:IsPair g3 TO x b:=hT3
 refine wpAny_bind (wpAny_letGo (On ?_));refine wpAny_bind (wpAny_bind (wpAny_onRaise ?_));show wpAny _ _ (Builtin.SmallTypes.nextOf (.ref i2)>>=_) _ _ _;refine wpAny_bind (D2.item k { s with heap:=g3,toks:=t2 } _ _ k2 (ef D2 (ef D2 (ef D2 h2 b1 ap.z2) b2 ap.a2) b3 ap.o2) λy g4 t4 py s4 b4=>On ?_);have hT4:IsPair g4 TO x b:=b4.extBut _ _ ap.ob hT3;refine wpAny_bind (PN hT4 rfl ?_);refine wpAny_bind (wpAny_updateSeq_pair hT4 λg5 hT5 b5=>?_)
 replace hT5:IsPair g5 TO x y:=hT5
 refine wpAny_bind (wpAny_letGo (On (On ?_)));refine wpAny_bind (PN hT5 rfl ?_);refine wpAny_bind (wpAny_newTuple ?_);have hsz:g5.objs.size=s.heap.objs.size:=by rw[b5.1,b4.1,b3.1,b2.1,b1.1]
 have hz5:IsZip g5 z TI TO .ellipsis:=b5.extBut _ _ ap.oz.symm (b4.extBut _ _ ap.bz.symm (b3.extBut _ _ ap.oz.symm (b2.extBut _ _ ap.az.symm hz1)));have kp5:∀c o,c≠z->c≠TO->c≠i1->c≠i2->s.heap.get? c=some o->g5.get? c=some o:=λc o c1 c2 c3 c4 e=>b5.extBut _ _ c2 (b4.extBut _ _ c4 (b3.extBut _ _ c2 (b2.extBut _ _ c3 (b1.extBut _ _ c1 e))));have w1:S1 (k+1) g5:=ef D1 (ef D1 (ef D1 s2 b3 ap.o1) b4 ap.b1) b5 ap.o1;have w2:S2 (k+1) g5:=ef D2 s4 b5 ap.o2;have zlt:z<g5.objs.size:=aJ hz5;show wpAny _ _ (Builtin.SmallTypes.ownedTupleHandOut (.ref z) (.ref g5.objs.size)>>=_) _ _ _;refine wpAny_bind ?_;unfold Builtin.SmallTypes.ownedTupleHandOut;have hz6:IsZip (g5.push { cls:=.type "tuple",data:=.seq #[x,y] }) z TI TO .ellipsis:=aB _ hz5;refine wpAny_bind (PP hz6 (by simp) λg7 hz7 b7=>?_)
 replace hz7:IsZip g7 z TI TO (rawInt g5.objs.size):=hz7
 refine PP hz7 (by simp) λg8 hz8 b8=>?_
 replace hz8:IsZip g8 z TI TO (rawInt g5.objs.size):=hz8
 have up:∀c o,c≠z->g5.get? c=some o->g8.get? c=some o:=λc o c1 e=>b8.extBut _ _ c1 (b7.extBut _ _ c1 (aB _ e));have hP:IsPair g8 g5.objs.size x y:=b8.extBut _ _ (ir zlt) (b7.extBut _ _ (ir zlt) (aK _ rfl));rw[hsz] at hz8 hP;refine On ⟨_,rfl,?_⟩;show Q (.ref g5.objs.size) _;rw[hsz];exact hQ g8 x y t4 px py hz8 (up _ _ ap.oz hT5) (D1.frame _ _ _ w1 λc hc o e=>up c o (λq=>ap.z1 (q▸hc)) e) (D2.frame _ _ _ w2 λc hc o e=>up c o (λq=>ap.z2 (q▸hc)) e) hP λc o c1 c2 c3 c4 e=>up c o c1 (kp5 c o c1 c2 c3 c4 e)
def yk{Q:Fin->Shared->Prop}(D1:Draws prog w A i1 f1 n1 P1 S1)(ap:pP z TI TO i1 i2 f1 f2)(hz:IsZip s.heap z TI TO .none)(hTI:IsPair s.heap TI (.ref i1) (.ref i2))(h1:S1 n1 s.heap)
  (hE:∀h' e,(∀c o,c≠z->c≠i1->s.heap.get? c=some o->h'.get? c=some o)->(∃o,h'.get? e=some o/\o.cls=.type "StopIteration")->E (.ref e) { s with heap:=h' }):wpAny (model prog w) A (Builtin.«zip.__next__» ⟨[.ref z],[]⟩) Q E s:=by
 show wpAny _ _ (field (.ref z) 2>>=_) _ _ _;refine wpAny_bind (Ow hz rfl (x:=.bool false) rfl ?_);show wpAny _ _ (field (.ref z) 3>>=_) _ _ _;refine wpAny_bind (Ow hz rfl (x:=.ref TI) rfl ?_);refine wpAny_bind (PN hTI rfl ?_);show wpAny _ _ (Builtin.SmallTypes.ownedTupleIsFree (.ref z)>>=_) _ _ _;refine wpAny_bind ?_;unfold Builtin.SmallTypes.ownedTupleIsFree;refine wpAny_bind (Ow hz rfl (x:=.none) rfl (On ?_));simp only[P3];refine wpAny_bind (PH ?_);refine wpAny_bind (Ow hz rfl (x:=.ref TO) rfl ?_);refine wpAny_bind (PP hz (by simp) λg1 hz1 b1=>?_)
 replace hz1:IsZip g1 z TI TO .ellipsis:=hz1
 refine wpAny_bind ?_;simp only[List.zipIdx_cons,List.zipIdx_nil,ki,List.forIn_nil];refine wpAny_bind (wpAny_bind (wpAny_onRaise ?_));show wpAny _ _ (Builtin.SmallTypes.nextOf (.ref i1)>>=_) _ _ _;refine wpAny_bind (D1.done { s with heap:=g1 } _ _ (ef D1 h1 b1 ap.z1) λg2 e b2 he=>?_);obtain⟨oe,hoe,hce⟩:=he;have hz2:IsZip g2 z TI TO .ellipsis:=b2 _ _ ap.az.symm hz1;have hez:e≠z:=λx=>by subst x;rw[hz2] at hoe;cases hoe;simp at hce
 exact PP hz2 (by simp) λg3 _ b3=>hE g3 e (λc o c1 c3 x=>b3.extBut _ _ c1 (b2 _ _ c3 (b1.extBut _ _ c1 x))) ⟨oe,b3.extBut _ _ hez hoe,hce⟩
def vF{Q:Option Value->Shared->Prop}(D1:Draws prog w A.in1 i1 f1 n1 P1 S1)(D2:Draws prog w A.in1 i2 f2 n2 P2 S2)(ap:pP z TI TO i1 i2 f1 f2)(hz:IsZip s.heap z TI TO .none)(hTI:IsPair s.heap TI (.ref i1) (.ref i2))(hTO:IsPair s.heap TO a b)(h1:S1 k s.heap)(h2:S2 k s.heap)(k1:k<n1)(k2:k<n2)
  (hQ:∀(h':Heap) (x y:Value) (tk:Nat),P1 k x->P2 k y->IsZip h' z TI TO (rawInt s.heap.objs.size)->IsPair h' TO x y->S1 (k+1) h'->S2 (k+1) h'->IsPair h' s.heap.objs.size x y->(∀c o,c≠z->c≠TO->c≠i1->c≠i2->s.heap.get? c=some o->h'.get? c=some o)->Q (some (.ref s.heap.objs.size)) { s with heap:=h',toks:=tk }) :
  wpAny (model prog w) A (pyNext (.ref z)) Q E s:=by
 have hT:s.TypeIs (.ref z) "zip":=⟨_,hz,rfl⟩
 unfold pyNext;exact wpAny_bind (PD (wpAny_callSpecial?_slot (name:=Str.ofString "__next__") hT i4 (Oy i4 hT F.entry_zip_next (xF D1 D2 ap hz hTI hTO h1 h2 k1 k2 λh' x y tk q1 q2 q3 q4 q5 q6 q7 q8=>On (hQ h' x y tk q1 q2 q3 q4 q5 q6 q7 q8)) (F.args_zip_next_1 _))))
def xq{Q:Option Value->Shared->Prop}(D1:Draws prog w A.in1 i1 f1 n1 P1 S1)(ap:pP z TI TO i1 i2 f1 f2)(hz:IsZip s.heap z TI TO .none)(hTI:IsPair s.heap TI (.ref i1) (.ref i2))(h1:S1 n1 s.heap)
  (hQ:∀h',(∀c o,c≠z->c≠i1->s.heap.get? c=some o->h'.get? c=some o)->Q none { s with heap:=h' }):wpAny (model prog w) A (pyNext (.ref z)) Q E s:=by
 have hT:s.TypeIs (.ref z) "zip":=⟨_,hz,rfl⟩
 unfold pyNext;refine wpAny_bind (PD (wpAny_callSpecial?_slot (name:=Str.ofString "__next__") hT i4 (Oy i4 hT F.entry_zip_next (yk D1 ap hz hTI h1 λh' e hk he=>?_) (F.args_zip_next_1 _))));obtain⟨o,ho,hc⟩:=he;exact wpAny_bind (wpAny_isInstance (T:="StopIteration") (b:=true) ⟨o,ho,hc⟩ isSubtype_stop (On (hQ _ hk)))
end
abbrev yj (h:Heap) (l:Addr):Heap:=h.push { cls:=.type "tuple_iterator",data:=.fields #[.ref l,.int 0 0] }
abbrev Hm (h:Heap) (l1 l2:Addr):Heap:=(yj (yj h l1) l2).push { cls:=.type "tuple",data:=.seq #[.ref h.objs.size,.ref (yj h l1).objs.size] }
abbrev Hl (h:Heap) (l1 l2:Addr):Heap:=(Hm h l1 l2).push { cls:=.type "tuple",data:=.seq #[.none,.none] }
abbrev Fy (h:Heap) (l1 l2:Addr):Heap:=(Hl h l1 l2).push { cls:=.type "zip",data:=.fields #[.none,.bool false,.bool false,.ref (yj (yj h l1) l2).objs.size,.ref (Hm h l1 l2).objs.size] }
def Cr (l1 l2:Addr) (xs ys:Array Value):Meets (Builtin.«zip.__new__» ⟨[.type "zip",.ref l1,.ref l2],[]⟩) (λ_ R s=>s.heap.IsTuple l1 xs/\s.heap.IsTuple l2 ys/\R (.ok (.ret (.ref (Hl s.heap l1 l2).objs.size))) { s with heap:=Fy s.heap l1 l2 }):=.of_wp λprog w A R s h=>by
  obtain⟨hp,g,d,tk,os⟩:=s;obtain⟨hl1,hl2,h⟩:=h;have hsub:=sub_zip;have hL1:Heap.IsTuple (Shared.heap ⟨hp,g,d,tk,os⟩) l1 xs:=hl1;have hL2:Heap.IsTuple (Shared.heap ⟨hp.push { cls:=.type "tuple_iterator",data:=.fields #[.ref l1,.int 0 0] },g,d,tk,os⟩) l2 ys:=Heap.IsTuple.push hl2 _
  wp_walk using Oo hL1,Oo hL2;exact⟨_,rfl,h⟩
def Fg{prog:Program}{w:World}{A:Around}{E:Value->Shared->Prop}{s:Shared}{l1 l2:Addr}{xs ys:Array Value}{Q:Value->Shared->Prop}(hl1:s.heap.IsTuple l1 xs)(hl2:s.heap.IsTuple l2 ys)
  (h:∀h' n,n=s.heap.objs.size->IsZip h' (n+4) (n+2) (n+3) .none->IsPair h' (n+2) (.ref n) (.ref (n+1))->IsPair h' (n+3) .none .none->h'.IsTupleIter n l1 0->h'.IsTupleIter (n+1) l2 0->(∀c o,s.heap.get? c=some o->h'.get? c=some o)->Q (.ref (n+4)) { s with heap:=h' }):wpAny (model prog w) A (call (.type "zip") [.ref l1,.ref l2]) Q E s:=by
 refine callType_new F.called_zip (by decide) (F.typeCall_zip_2 _ _) (F.newCall_zip_2 _ _) (λobj=>F.args_object_init_3 obj _ _) F.entry_zip_new (Cr l1 l2 xs ys) ⟨hl1,hl2,?_⟩;have z1:(yj s.heap l1).objs.size=s.heap.objs.size+1:=cL ..;have z2:(yj (yj s.heap l1) l2).objs.size=s.heap.objs.size+2:=by rw[cL,z1]
 have z3:(Hm s.heap l1 l2).objs.size=s.heap.objs.size+3:=by rw[cL,z2]
 have z4:(Hl s.heap l1 l2).objs.size=s.heap.objs.size+4:=by rw[cL,z3]
 have g5:(Fy s.heap l1 l2).get? (Hl s.heap l1 l2).objs.size=some _:=aK _ rfl;have g4:(Fy s.heap l1 l2).get? (Hm s.heap l1 l2).objs.size=some _:=aB _ (aK _ rfl);have g3:(Fy s.heap l1 l2).get? (yj (yj s.heap l1) l2).objs.size=some _:=aB _ (aB _ (aK _ rfl));have g2:(Fy s.heap l1 l2).get? (yj s.heap l1).objs.size=some _:=aB _ (aB _ (aB _ (aK _ rfl)));have g1:(Fy s.heap l1 l2).get? s.heap.objs.size=some _:=aB _ (aB _ (aB _ (aB _ (aK _ rfl))));show _/\_;rw[z2,z3,z4] at g5;rw[z1,z2] at g3;rw[z3] at g4;rw[z1] at g2;rw[z4];exact⟨⟨_,g5,rfl⟩,h _ _ rfl g5 g3 g4 ⟨_,g1,rfl,rfl⟩ ⟨_,g2,rfl,rfl⟩ λc o x=>aB _ (aB _ (aB _ (aB _ (aB _ x))))⟩
def DT(K:P5)(a b:Addr):It:=
  ⟨λi H=>∃xs ys x y,dA K H a xs/\dA K H b ys/\xs[i]? = some x/\ys[i]? = some y,
   λi H v H'=>∃p x y,H p=none/\(∀xs,dA K H a xs->xs[i]? = some x)/\(∀ys,dA K H b ys->ys[i]? = some y)/\v=.ref p/\H'=bW H p (.tup [x,y]),
   λi H=>∃xs,dA K H a xs/\xs.length=i⟩
def xH {P : Program} {w : World} {K : P5} {elts : List Expr} {x1 : Nat} {pos : Pos} (n a b : Addr) (ha : a < n) (hb : b < n) :
    Turn P w K (.Tuple elts x1 pos) (DT K a b) [n + 4, n + 2, n + 3, n, n + 1] (n + 4) (fun i h => IsZip h (n + 4) (n + 2) (n + 3) .none ∧ IsPair h (n + 2) (.ref n) (.ref (n + 1)) ∧ (∃ u v, IsPair h (n + 3) u v) ∧ h.IsTupleIter n a i ∧ h.IsTupleIter (n + 1) b i) := by
  have hap : pP (n + 4) (n + 2) (n + 3) n (n + 1) [n, a] [n + 1, b] := by
    have h1 : @LT.lt Nat _ a n := ha
    have h2 : @LT.lt Nat _ b n := hb
    constructor <;> first
      | (intro h; simp only [aI, cW, or_false] at h; rcases h with h | h <;> (have h' : @Eq Nat _ _ := h; lia))
      | (intro h; have h' : @Eq Nat _ _ := h; lia)
  exact {
    mem := by simp
    obj := fun i h st c hb => by
      obtain ⟨h1, h2, ⟨u, v, h3⟩, ⟨o4, e4, c4, d4⟩, ⟨o5, e5, c5, d5⟩⟩ := st
      simp only [aI, cW, or_false] at hb
      rcases hb with rfl | rfl | rfl | rfl | rfl
      · exact ⟨_, h1, fun v z => by cases z⟩
      · exact ⟨_, h2, fun v z => by cases z⟩
      · exact ⟨_, h3, fun v z => by cases z⟩
      · exact ⟨o4, e4, fun v z => by rw [d4] at z; cases z⟩
      · exact ⟨o5, e5, fun v z => by rw [d5] at z; cases z⟩
    keep := fun i h h' st k => by
      obtain ⟨h1, h2, ⟨u, v, h3⟩, h4, h5⟩ := st
      exact ⟨k _ (by simp) _ h1, k _ (by simp) _ h2, ⟨u, v, k _ (by simp) _ h3⟩, h4.at fun o e => k _ (by simp) o e, h5.at fun o e => k _ (by simp) o e⟩
    item := by
      intro X hP hw hK hc i pins s σ H E I hf st hg
      subst hP hw hK
      obtain ⟨h1, h2, ⟨u0, v0, h3⟩, h4, h5⟩ := st
      obtain ⟨xs, ys, x, y, hqa, hqb, hx, hy⟩ := hg
      obtain ⟨ia, ra, pa, _⟩ := I.tuple hqa
      obtain ⟨ib, rb, pb, _⟩ := I.tuple hqb
      obtain ⟨ua, hua, rua⟩ := ra.get hx
      obtain ⟨ub, hub, rub⟩ := rb.get hy
      have hA : X.A.in1.handled = none := I.ok.hd hc
      have la : i < ia.toArray.size := by rw [aO]; exact (aR.mp hua).1
      have lb : i < ib.toArray.size := by rw [aO]; exact (aR.mp hub).1
      refine vF (Draws.tup hA n a (aV ha) ia.toArray) (Draws.tup hA (n + 1) b (aV (bF hb)) ib.toArray) hap h1 h2 h3 ⟨h4, pa⟩ ⟨h5, pb⟩ la lb fun h' x' y' tk e1 e2 hz ho hi1 hi2 hp kp => ?_
      have e1' : x' = ua := by have : ia[i]? = some x' := by simpa using e1
                               rw [hua] at this; cases this; rfl
      have e2' : y' = ub := by have : ib[i]? = some y' := by simpa using e2
                               rw [hub] at this; cases this; rfl
      subst e1' e2'
      refine ⟨_, rfl, wpAny_letOwnedTupleGo_zip hz fun hh hz2 hs2 => ?_⟩
      have hn : H s.heap.objs.size = none := I.hok.fresh (aH _)
      have lz : s.heap.objs.size ≠ n + 4 := ir (aJ h1)
      have ht2 : hh.get? s.heap.objs.size = some { cls := .type "tuple", data := .seq #[x', y'] } := (hs2.2 _ lz).trans hp
      refine ⟨.ref s.heap.objs.size, bW H s.heap.objs.size (.tup [x, y]), I.turnNew (fp := [n + 4, n + 2, n + 3, n, n + 1]) hf (fun c o hb q => ?_) (aH _) (show cw X.prog X.w _ hh _ (.tup _) from ⟨(by show 2 ≤ sizeLine; decide), [x', y'], .cons rua (.cons rub .nil), _, ht2, rfl, _, rfl⟩), rfl, ⟨_, x, y, hn, fun zs hz => by rw [I.tuple_inj hz hqa]; exact hx, fun zs hz => by rw [I.tuple_inj hz hqb]; exact hy, rfl, rfl⟩, ?_, fun c hb => ?_⟩
      · simp only [aI, cW, or_false, not_or] at hb
        exact (hs2.2 c hb.1).trans (kp c o hb.1 hb.2.2.1 hb.2.2.2.1 hb.2.2.2.2 q)
      · exact ⟨hz2, (hs2.2 _ hap.tz).trans (kp _ _ hap.tz hap.to hap.ta hap.tb h2), ⟨_, _, (hs2.2 _ hap.oz).trans ho⟩, hi1.1.at fun o e => (hs2.2 _ hap.az).trans e, hi2.1.at fun o e => (hs2.2 _ hap.bz).trans e⟩
      · have hb' := (hf c hb).1
        rw [aP (fun z => ?_)]
        · exact hb'
        · have hz4 : @LT.lt Nat _ (n + 4) s.heap.objs.size := aJ h1
          have z' : @Eq Nat c s.heap.objs.size := z
          simp only [aI, cW, or_false] at hb
          rcases hb with h | h | h | h | h <;> (have h' : @Eq Nat _ _ := h; lia)
    done := by
      intro X hP hw hK hc i pins s σ H E I hf st hg
      subst hP hw hK
      obtain ⟨h1, h2, ⟨u0, v0, h3⟩, h4, h5⟩ := st
      obtain ⟨xs, hqa, hx⟩ := hg
      obtain ⟨ia, ra, pa, _⟩ := I.tuple hqa
      have la := ra.length
      have hA : X.A.in1.handled = none := I.ok.hd hc
      have ei : ia.toArray.size = i := by rw [aO]; lia
      refine xq (Draws.tup hA n a (aV ha) ia.toArray) hap h1 h2 ⟨by rw [ei]; exact h4, pa⟩ fun h' kp => ⟨rfl, I.turnAll (t' := s.toks) hf fun c o hb q => ?_⟩
      simp only [aI, cW, or_false, not_or] at hb
      exact kp c o hb.1 hb.2.2.2.1 q
    self := fun _ _ _ _ _ st h => wpAny_pyIter_zip st.1 h }
def Dj(K:P5)(ta:TA):TI:=λσ H R=>ta σ H λvs H1=>∃a b,vs=[.ref a,.ref b]/\(∃xs,dA K H1 a xs)/\(∃ys,dA K H1 b ys)/\R (DT K a b) H1
def AG {X:Cx} {a b:Expr} {ta:TA} {elts:List Expr} {x1:Nat} {p pos tpos:Pos} (hg:Gl X "zip") (hm:X.mg "zip"=none) (ha:QA X [a,b] ta) (hs:starEach [a,b] X.env=(false,eval a X.env)::starEach [b] X.env:=by rfl) (hpl:(backTo pos (starEach [b] X.env)).any (·.1)=false:=by rfl) :
  QI X (.Tuple elts x1 tpos) (.Call (.Name "zip" p) [a,b] [] pos) (Dj X.K ta):=⟨by
 intro pins s σ H R I h;refine Call_ (jh I hg hm boot_zip (bc (dW (ha.h pos pins s σ H _ I h) λus s1 ⟨vs,H1,I1,r1,z1,z2,e,⟨xs,hx⟩,⟨ys,hy⟩,q⟩=>?_) hs hpl));subst e;obtain⟨u,u',rfl,r2,r3⟩:=vals2 r1;cases r2;cases r3;obtain⟨ia,ra,pa,_⟩:=I1.tuple hx;obtain⟨ib,rb,pb,_⟩:=I1.tuple hy;have ha':s1.heap.IsTuple z1 ia.toArray:=pa;have hb':s1.heap.IsTuple z2 ib.toArray:=pb;obtain⟨oa,hoa,_⟩:=id ha';obtain⟨ob,hob,_⟩:=id hb';refine Fg ha' hb' λh' n en hz hti hto hi1 hi2 kp=>?_;refine wpAny_pyIter_zip hz ?_;have I2:bT X pins σ H1 { s1 with heap:=h' }:=I1.kept (t':=s1.toks) kp;refine⟨_,_,_,_,H1,rfl,I2,xH n z1 z2 (by rw[en];exact aJ hoa) (by rw[en];exact aJ hob),⟨hz,hti,⟨_,_,hto⟩,hi1,hi2⟩,λb hb=>?_,q⟩;have hle:s1.heap.objs.size<=b:=by
  simp only[aI,cW,or_false] at hb;have en':@Eq Nat n s1.heap.objs.size:=en;show @LE.le Nat _ _ _;rcases hb with h | h | h | h | h<;>(have h':@Eq Nat _ _:=h;lia)
 exact I1.fpOk hle (I1.hok.fresh hle)⟩
def vn{K:P5}{σ:St}{H:Hp}{D:Ends}{ta:TA}{g:TG}{tb:TS}:mX (Dj K ta) g tb D σ H=ta σ H λvs H1=>∃a b,vs=[.ref a,.ref b]/\(∃xs,dA K H1 a xs)/\(∃ys,dA K H1 b ys)/\pS (DT K a b) g tb D σ H1:=rfl
def BG{K:P5}{σ:St}{H:Hp}{D:Ends}{a b:Addr}{xs ys:List V}{g:TG}{tb:TS}(hle:xs.length<=ys.length)(Pv:Nat->St->Hp->Prop)(h0:Pv 0 σ H)(hl:∀i σ H,Pv i σ H->dA K H a xs/\dA K H b ys)
  (hs:∀i x y σ H p,xs[i]? = some x->ys[i]? = some y->Pv i σ H->H p=none->g (.ref p) σ (bW H p (.tup [x,y])) λσ2 H2=>tb { D with nx:=Pv (i+1),ct:=Pv (i+1),bk:=D.nx } σ2 H2) (hd:∀σ H,Pv xs.length σ H->D.nx σ H):pS (DT K a b) g tb D σ H:=by
 refine⟨λi m σ H=>m+i=xs.length/\Pv i σ H,⟨xs.length,rfl,h0⟩,?_⟩;rintro i m σ H ⟨hm,hp⟩;obtain⟨q1,q2⟩:=hl i σ H hp;by_cases hi:i<xs.length
 ·refine .inr ⟨⟨xs,ys,xs[i],ys[i],q1,q2,by simp[hi],by simp[aT hi hle]⟩,Pv (i+1),λσ' H' h=>⟨m - 1,by lia,by lia,h⟩,?_⟩;rintro v H' ⟨p,x,y,hn,hx,hy,rfl,rfl⟩;exact hs i x y σ H p (hx xs q1) (hy ys q2) hp hn
 ·have e:i=xs.length:=by lia
  subst e;exact .inl ⟨⟨xs,q1,rfl⟩,hd σ H hp⟩
end L2
namespace Rm
open PySem L2
def oZ(lo:Int)(n:Nat):(eG lo n).length=n:=by simp[eG]
def fO(d:PyData):Bool:=isI d&&!JA d
def ym{K:P5}{H:Hp}{x:V}{d:PyData}{Q:VK}{E:XK}(h:Dat H x d)(q:Q (.bl (fO d)) H):qy K [x] H Q E:=
 ⟨x,_,isI d,JA d,rfl,h.ty,by cases h<;>rfl,by cases h<;>rfl,q⟩
def DF{H:Hp}{xs:List V}{d e:PyData}(h:fk H xs [d,e]):∃x y,xs=[x,y]/\Dat H x d/\Dat H y e:=by
 cases h with
 | cons h1 h2=>
  cases h2 with
  | cons h3 h4=>cases h4;exact⟨_,_,rfl,h1,h3⟩
def intOf:PyData->Int
 | .int n=>n
 | _=>0
def uT:∀{d:PyData},fO d=true->d=.int (intOf d)
 | .int n,_=>rfl
def iX:PyData->Bool
 | .tuple ds=>decide (ds.length<=20)&&(ds.all fO&&(ds.map intOf).isPerm (eG 1 ds.length))
 | _=>false
def lE:PyData->Bool
 | .str z=>decide (z=Str.ofString "l") || decide (z=Str.ofString "r")
 | _=>false
def kA:PyData->Bool
 | .tuple [a,b]=>lE a&&iX b
 | _=>false
def tR{x:Int}{n:Nat}:x∈eG 1 n<->1<=x/\x<=n:=by
 unfold eG;rw[bB];constructor
 ·rintro⟨i,hi,rfl⟩;have:=cm.mp hi;lia
 ·rintro⟨h1,h2⟩;exact⟨(x - 1).toNat,cm.mpr (by lia),by lia⟩
def zv(n:Nat):(eG 1 n).Pairwise (·<=·):=by
 unfold eG;rw[j6,jX];intro i j hi hj hij;simp;lia
def o7(n:Nat):(eG 1 n).Nodup:=by
 unfold eG List.Nodup;rw[j6];exact(List.nodup_range (n:=n)).imp λh e=>h (by lia)
def rA{ms ns:List Int}(hp:ms.Perm ns)(hs:ms.Pairwise (·<=·)):decide (ms=eG 1 ns.length)=ns.isPerm (eG 1 ns.length):=by
 by_cases h:ns.Perm (eG 1 ns.length)
 ·rw[i3.mpr h];exact P0 (PySem.W.ksm_same (hp.trans h) hs (zv _))
 ·have h2:ns.isPerm (eG 1 ns.length)=false:=by
   cases e:ns.isPerm (eG 1 ns.length) with
   | false=>rfl
   | true=>exact absurd (i3.mp e) h
  rw[h2];exact PZ λe=>h (e▸hp.symm)
def qQ{ds:List PyData}{i:Nat}{d:PyData}(h:ds[i]? = some d)(hb:fO d=false\/intOf d<1\/(ds.length:Int)<intOf d\/intOf d∈(ds.map intOf).take i):iX (.tuple ds)=false:=by
 cases e:iX (.tuple ds) with
 | false=>rfl
 | true=>
  have e':(decide (ds.length<=20)&&(ds.all fO&&(ds.map intOf).isPerm (eG 1 ds.length)))=true:=e;rw[be,be] at e';obtain⟨_,e1,e2⟩:=e';have hp:=i3.mp e2;have hm:=bG h;have hr:=tR.mp (hp.mem_iff.mp (bB.mpr ⟨d,hm,rfl⟩));rcases hb with z | z | z | z
  ·rw[iK.mp e1 d hm] at z;cases z
  ·lia
  ·lia
  ·have nd:(ds.map intOf).Nodup:=hp.nodup_iff.mpr (o7 _);have e3:(ds.map intOf)[i]? = some (intOf d):=by rw[ai,h];rfl
   obtain⟨j,hj,ej⟩:=List.getElem_of_mem z;rw[dN] at hj;rw[List.getElem_take] at ej;obtain⟨hi,e4⟩:=aR.mp e3;have:=(kL nd (h₀:=by lia) (h₁:=hi)).mp (ej.trans e4.symm);lia
def wd:(Str.ofString "l")=⟨#[108]⟩:=by decide +kernel
def wc:(Str.ofString "r")=⟨#[114]⟩:=by decide +kernel
def zo (d:PyData):([PyData.str (Str.ofString "l"),.str (Str.ofString "r")].any λe=>PyData.eqv e d)=lE d:=by
 cases d with
 | str z=>
  show (decide (Str.ofString "l"=z) || (decide (Str.ofString "r"=z) || false))=_;rw[mE];show _=(decide (z=Str.ofString "l") || decide (z=Str.ofString "r"))
  congr 1
  ·exact decide_eq_decide.mpr ⟨iu,iu⟩
  ·exact decide_eq_decide.mpr ⟨iu,iu⟩
 | _=>rfl
structure Pl (d:PyData) (n:Nat):Prop where
 lay:d.canLay0=true
 deep:d.depth<=n
def sT:Sp:=λvs H Q _=>∃x d,vs=[x]/\Dat H x d/\Pl d 60/\Q (.bl (lE d)) H
def qD:Sp:=λvs H Q _=>∃x d,vs=[x]/\Dat H x d/\∀H',aW H H'->Q (.bl (iX d)) H'
def sU:Sp:=λvs H Q _=>∃x d,vs=[x]/\Dat H x d/\Pl d 60/\∀H',aW H H'->Q (.bl (kA d)) H'
mutual
def IY:PyData->Bool
 | .list _=>false
 | .tuple ds=>Cp ds
 | .dict _=>false
 | _=>true
def Cp:List PyData->Bool
 | []=>true
 | d::ds=>IY d&&Cp ds
end
mutual
def DD{H:Hp}{l:Addr}{ys:List V}{o:HO}(hl:H l=some (.lst ys)):∀{x:V} {d:PyData},Dat H x d->IY d=true->Dat (bW H l o) x d
 | _,_,.non,_=>.non
 | _,_,.bl b,_=>.bl b
 | _,_,.int i,_=>.int i
 | _,_,.str x,_=>.str x
 | _,_,.tup h r,n=>.tup (by rw[aP (w9 h hl (by intro q;cases q))];exact h) (tw hl r n)
 | _,_,.lst h r,n=>nomatch n
def tw{H:Hp}{l:Addr}{ys:List V}{o:HO}(hl:H l=some (.lst ys)):∀{xs:List V} {ds:List PyData},fk H xs ds->Cp ds=true->fk (bW H l o) xs ds
 | _,_,.nil,_=>.nil
 | _,_,.cons h r,n=>by
  have n':(IY _&&Cp _)=true:=n;rw[be] at n';exact .cons (DD hl h n'.1) (tw hl r n'.2)
end
def kE{H:Hp}:∀ns:List Int,fk H (ns.map V.int) (ns.map PyData.int)
 | []=>.nil
 | n::ns=>.cons (.int n) (kE ns)
def mj{H:Hp}:∀{xs ys:List V} {ds es:List PyData},fk H xs ds->fk H ys es->fk H (xs++ys) (ds++es)
 | _,_,_,_,.nil,h=>h
 | _,_,_,_,.cons a r,h=>.cons a (mj r h)
end Rm
namespace L2
open PySem PySem.Spec PyProof.Rows
section
variable {σ:St} {H:Hp}
def EH{trs:List (TE×TE)}{Q:VK}:z9 trs σ H Q=∀p,H p=none->mF trs σ (bW H p (.dK [])) λps H2=>H2 p=some (.dK [])/\∃kvs:List (Key×V),ps=kvs.map (λkv=>(kV kv.1,kv.2))/\kvs.length<=15/\Q (.ref p) (bW H2 p (.dK (mK [] kvs))):=rfl
def GM{Q:List (V×V)->Hp->Prop}:mF [] σ H Q=Q [] H:=rfl
def GL{tk tv:TE}{r:List (TE×TE)}{Q:List (V×V)->Hp->Prop}:mF ((tk,tv)::r) σ H Q=tk σ H λx H1=>tv σ H1 λy H2=>mF r σ H2 λps H3=>Q ((x,y)::ps) H3:=rfl
def GK{r:V->Option Int->Option Int->Hp->VK->Prop}{te:TE}{tl th:TO}{Q:VK}:IG r te tl th σ H Q=te σ H λx H1=>tl σ H1 λl H2=>th σ H2 λu H3=>r x l u H3 Q:=rfl
def yu{t:TE}{Q:Option Int->Hp->Prop}:zV t σ H Q=t σ H λx H1=>∃i,x=.int i/\Q (some i) H1:=rfl
def sI{Q:Option Int->Hp->Prop}:qv σ H Q=Q none H:=rfl
end
end L2
namespace Rm
open PySem L2
def sd (b:Bool):Str:=if b then Str.ofString "r" else Str.ofString "l"
def IP (b:Bool):(sd b=Str.ofString "l")=(b=false):=by cases b<;>simp[sd,wd,wc]
def Ge (b:Bool):(sd b=Str.ofString "r")=(b=true):=by cases b<;>simp[sd,wd,wc]
def E9{a b:Bool}(h:sd a=sd b):a=b:=by cases a<;>cases b<;>simp[sd,wd,wc] at h<;>rfl
def F2:(Str.ofString "lr")=⟨#[108,114]⟩:=by decide +kernel
def HI {i:Int} (h0:0<=i) (h1:i<2):nw (Str.ofString "lr").cps.toList i=some (if i=1 then 114 else 108):=by
 have e:i=0\/i=1:=by lia
 rw[F2];rcases e with rfl | rfl<;>rfl
def HH(i:Int):(⟨#[if i=1 then 114 else 108]⟩:Str)=sd (decide (i=1)):=by
 by_cases h:i=1
 ·simp[h,sd,wc]
 ·simp[h,sd,wd]
def odd(i:Nat):Bool:=i % 2==1
def jM(i:Nat):odd (i+1)=!odd i:=by
 unfold odd;rcases cB i with h | h<;>simp[Nat.add_mod,h]
def dS(ns:List Int):List Int:=0::(ns++[(ns.length:Int)+1])
def gR(ns:List Int):(dS ns).length=ns.length+2:=by simp[dS]
def ao(ns:List Int)(i:Nat):Int:=(dS ns).getD i 0
def fx(ns:List Int)(i:Nat):Bw:=(min (ao ns i) (ao ns (i+1)),max (ao ns i) (ao ns (i+1)))
def cH(b s:Bool)(i:Nat):Bool:=(b ^^ odd i)==s
def ac(b:Bool)(ns:List Int)(s:Bool)(m:Nat):List Bw:=((List.range m).filter (cH b s)).map (fx ns)
def m5{b:Bool}{ns:List Int}{s:Bool}{i:Nat}(h:cH b s i=true):ac b ns s (i+1)=ac b ns s i++[fx ns i]:=by
 unfold ac;rw[dc,gN,a6];simp[h]
def nY{b:Bool}{ns:List Int}{s:Bool}{i:Nat}(h:cH b s i=false):ac b ns s (i+1)=ac b ns s i:=by
 unfold ac;rw[dc,gN,a6];simp[h]
def tF(b:Bool)(i:Nat):cH b (b ^^ odd i) i=true:=by simp[cH]
def gX(b:Bool)(ns:List Int)(s:Bool)(m:Nat):(ac b ns s m).length<=m:=by
 unfold ac;rw[aD];exact cP (List.length_filter_le _ _) (by rw[j8];exact aH _)
structure kd (ns:List Int):Prop where
 len:ns.length<=20
 perm:ns.Perm (eG 1 ns.length)
def kd.mem{ns:List Int}(O:kd ns){x:Int}:x∈ns<->1<=x/\x<=ns.length:=O.perm.mem_iff.trans tR
def kd.rows_nodup{ns:List Int}(O:kd ns):(dS ns).Nodup:=by
 have nd:ns.Nodup:=O.perm.nodup_iff.mpr (o7 _);unfold dS;rw[dI,j7];refine⟨λh=>?_,nd,by simp,λa ha b hb e=>?_⟩
 ·rcases aQ.mp h with z | z
  ·have:=O.mem.mp z;lia
  ·have:(0:Int)=ns.length+1:=by simpa using z
   lia
 ·have:b=(ns.length:Int)+1:=by simpa using hb
  have:=O.mem.mp ha;lia
def kd.rows_mem{ns:List Int}(O:kd ns){x:Int}(h:x∈dS ns):0<=x/\x<=(ns.length:Int)+1:=by
 unfold dS at h;rcases aI.mp h with z | z
 ·lia
 ·rcases aQ.mp z with z | z
  ·have:=O.mem.mp z;lia
  ·have:x=(ns.length:Int)+1:=by simpa using z
   lia
def fS{ns:List Int}{i:Nat}(h:i<ns.length+2):(dS ns)[i]? = some (ao ns i):=by
 unfold ao;have:i<(dS ns).length:=by rw[gR];exact h
 simp[List.getD,this]
def kd.row_inj{ns:List Int}(O:kd ns){i j:Nat}(hi:i<ns.length+2)(hj:j<ns.length+2)(h:ao ns i=ao ns j):i=j:=by
 have h1:=aR.mp (fS hi);have h2:=aR.mp (fS hj);exact(kL O.rows_nodup (h₀:=h1.1) (h₁:=h2.1)).mp (h1.2.trans (h.trans h2.2.symm))
def kd.row_in{ns:List Int}(O:kd ns){i:Nat}(hi:i<ns.length+2):0<=ao ns i/\ao ns i<=(ns.length:Int)+1:=O.rows_mem (bG (fS hi))
def Ed(ns:List Int):ao ns 0=0:=rfl
def qL(ns:List Int):ao ns (ns.length+1)=(ns.length:Int)+1:=by simp[ao,dS,List.getD]
def zu{ns:List Int}{i:Nat}{x:Int}(h:(ns++[(ns.length:Int)+1])[i]? = some x):ao ns (i+1)=x:=by simp only[ao,dS,List.getD,List.getElem?_cons_succ,h];rfl
def nI{ns:List Int}{i:Nat}{x:Int}(h:ns[i]? = some x):ao ns (i+1)=x:=zu (by rw[fm (aR.mp h).1];exact h)
def kd.step_lt{ns:List Int}(O:kd ns){i:Nat}(hi:i<=ns.length):(fx ns i).1<(fx ns i).2:=by
 have:ao ns i≠ao ns (i+1):=λe=>by
  have:=O.row_inj (by lia) (by lia) e;lia
 show min (ao ns i) (ao ns (i+1))<max (ao ns i) (ao ns (i+1));lia
def kd.step_in{ns:List Int}(O:kd ns){i:Nat}(hi:i<=ns.length):0<=(fx ns i).1/\(fx ns i).2<=(ns.length:Int)+1:=by
 have h1:=O.row_in (i:=i) (by lia);have h2:=O.row_in (i:=i+1) (by lia);show 0<=min (ao ns i) (ao ns (i+1))/\max (ao ns i) (ao ns (i+1))<=_;lia
def jv{b:Bool}{ns:List Int}{s:Bool}{m:Nat}{p:Bw}(h:p∈ac b ns s m):∃i,i<m/\cH b s i=true/\p=fx ns i:=by
 unfold ac at h;obtain⟨i,hi,rfl⟩:=bB.mp h;obtain⟨h1,h2⟩:=dr.mp hi;exact⟨i,cm.mp h1,h2,rfl⟩
def mY{b:Bool}{ns:List Int}{s:Bool}{m i:Nat}(h:i<m)(hs:cH b s i=true):fx ns i∈ac b ns s m:=
 bB.mpr ⟨i,dr.mpr ⟨cm.mpr h,hs⟩,rfl⟩
def rV(x:Int)(p:Bw):Bool:=decide (x=p.1) || decide (x=p.2)
def kd.has_iff{ns:List Int}(O:kd ns){i j:Nat}(hi:i<ns.length+2)(hj:j<=ns.length):rV (ao ns i) (fx ns j)=decide (j=i\/j+1=i):=by
 have e:rV (ao ns i) (fx ns j)=decide (ao ns i=ao ns j\/ao ns i=ao ns (j+1)):=by
  show (decide (ao ns i=min (ao ns j) (ao ns (j+1))) || decide (ao ns i=max (ao ns j) (ao ns (j+1))))=_;rw[<-Bool.decide_or];exact decide_eq_decide.mpr (by lia)
 rw[e];refine decide_eq_decide.mpr ⟨λh=>?_,λh=>?_⟩
 ·rcases h with h | h
  ·exact .inl (O.row_inj hi (by lia) h).symm
  ·exact .inr (O.row_inj hi (by lia) h).symm
 ·rcases h with rfl | rfl
  ·exact .inl rfl
  ·exact .inr rfl
def qM{k:Nat}:∀{m:Nat},k<m->(List.range m).filter (λj=>decide (j=k))=[k]
 | m+1,h=>by
  rw[dc,gN];by_cases e:k=m
  ·subst e;have:(List.range k).filter (λj=>decide (j=k))=[]:=List.filter_eq_nil_iff.mpr λx hx=>by have:=cm.mp hx;simp;lia
   simp[this]
  ·have hm:¬m=k:=λz=>e z.symm;rw[qM (m:=m) (by lia)];simp[hm]
def rP{b s:Bool}{j k:Nat}(h1:cH b s j=true)(h2:cH b s k=true)(h:j=k+1):False:=by
 subst h;simp only[cH,jM,beq_iff_eq] at h1 h2;cases b<;>cases s<;>cases hk:odd k<;>simp[hk] at h1 h2
def kd.only{ns:List Int}(O:kd ns){b s:Bool}{i k:Nat}(hk:k<=ns.length)(hs:cH b s k=true)(h:k=i\/k+1=i):(ac b ns s (ns.length+1)).filter (rV (ao ns i))=[fx ns k]:=by
 unfold ac;rw[List.filter_map,List.filter_filter];have e:(List.range (ns.length+1)).filter (λa=>(rV (ao ns i)∘fx ns) a&&cH b s a)=(List.range (ns.length+1)).filter (λj=>decide (j=k)):=by
  refine List.filter_congr λj hj=>?_;have hj:=cm.mp hj;show (rV (ao ns i) (fx ns j)&&cH b s j)=_;rw[O.has_iff (by lia) (by lia)];by_cases e:j=k
  ·subst e;simp[hs,h]
  ·cases hsj:cH b s j with
   | false=>simp[e]
   | true=>
    have:¬(j=i\/j+1=i):=λz=>by
     have:j=k+1\/k=j+1:=by lia
     rcases this with z | z
     ·exact rP hsj hs z
     ·exact rP hs hsj z
    simp[this,e]
 rw[e,qM (by lia)];rfl
structure pQ (b:Bool) (ns:List Int) (s:Bool) (L:List Bw):Prop where
 perm:L.Perm (ac b ns s (ns.length+1))
 asc:L.Pairwise leB
def pQ.len{b:Bool}{ns:List Int}{s:Bool}{L:List Bw}(h:pQ b ns s L)(O:kd ns):L.length<=21:=by
 have h1:=h.perm.length_eq;have h2:=gX b ns s (ns.length+1);have:=O.len;lia
def uU{x y:Int}{ms:List Int}(h:ms.Perm [x,y])(hs:ms.Pairwise (·<=·)):ms=[min x y,max x y]:=by
 have:(if x<=y then [x,y] else [y,x]).Perm [x,y]:=by
  by_cases e:x<=y
  ·rw[PX e]
  ·rw[PV e];exact List.Perm.swap x y []
 have e2:[min x y,max x y]=(if x<=y then [x,y] else [y,x]):=by
  by_cases e:x<=y
  ·rw[PX e];simp[ja,jb,e]
  ·rw[PV e];have:y<=x:=by lia
   simp[ja,jb,e]
 rw[e2];refine List.Perm.eq_of_pairwise (le:=(·<=·)) (λa b _ _ h h'=>by lia) hs ?_ (h.trans this.symm);by_cases e:x<=y
 ·rw[PX e];simp[e]
 ·rw[PV e];simp;lia
def DH{ns:List Int}{i:Nat}(h:i<=ns.length):lp ((dS ns).map V.int) (some (0+(i:Int))) (some (0+(i:Int)+2))=[ao ns i,ao ns (i+1)].map V.int:=by
 have e1:HT.sIx ((dS ns).map V.int).length 0 (some (0+(i:Int)))=i:=by
  show (if (0+(i:Int))<0 then (0+(i:Int)+(((dS ns).map V.int).length:Int)).toNat else min (0+(i:Int)).toNat ((dS ns).map V.int).length)=i;rw[PV (by lia),aD,gR];lia
 have e2:HT.sIx ((dS ns).map V.int).length ((dS ns).map V.int).length (some (0+(i:Int)+2))=i+2:=by
  show (if (0+(i:Int)+2)<0 then (0+(i:Int)+2+(((dS ns).map V.int).length:Int)).toNat else min (0+(i:Int)+2).toNat ((dS ns).map V.int).length)=i+2;rw[PV (by lia),aD,gR];lia
 unfold lp;rw[e1,e2,show i+2-i=2 by lia,<-List.map_drop,<-List.map_take];congr 1;have h1:=aR.mp (fS (ns:=ns) (i:=i) (by lia));have h2:=aR.mp (fS (ns:=ns) (i:=i+1) (by lia));rw[aw h1.1,aw h2.1,h1.2,h2.2];rfl
def gf(H:Hp)(m o:Addr)(b:Bool)(ns:List Int):Prop:=H m=some (.tup [.str (sd b),.ref o])/\H o=some (.tup (ns.map V.int))
def gf.same{H H':Hp}{m o:Addr}{b:Bool}{ns:List Int}(h:gf H m o b ns)(s:aW H H'):gf H' m o b ns:=⟨s _ _ h.1,s _ _ h.2⟩
def wD:Sp:=λvs H Q _=>∃b,vs=[.str (sd b)]/\Q (.str (sd !b)) H
def sP:Sp:=λvs H Q _=>∃m o b ns,∃k:Nat,vs=[.ref m,.int k]/\gf H m o b ns/\Q (.str (sd (b ^^ odd k))) H
def zf:Sp:=λvs H Q _=>∃m o b ns,vs=[.ref m]/\gf H m o b ns/\ns.length<=40/\∀l H',H l=none->aW H H'->H' l=some (.lst ((dS ns).map V.int))->Q (.ref l) H'
structure Fx (H:Hp) (t l r:Addr) (b:Bool) (ns:List Int) (L R:List Bw):Prop where
 tup:H t=some (.tup [.ref l,.ref r])
 left:ez H l L
 right:ez H r R
 isL:pQ b ns false L
 isR:pQ b ns true R
 ne:l≠r
def oT:Sp:=λvs H Q _=>∃m o b ns,vs=[.ref m]/\gf H m o b ns/\kd ns/\∀t l r L R H',H t=none->H l=none->H r=none->aW H H'->Fx H' t l r b ns L R->Q (.ref t) H'
def qf{H:Hp}{l t:Addr}{as:List Addr}{ps:List Bw}{p:Bw}(h1:H l=some (.lst (as.map V.ref)))(h2:Paired (eV H) as ps)(ht:eV H t p):ez (bW H l (.lst (as.map V.ref++[.ref t]))) l (ps++[p]):=by
 have st:∀{a:Addr} {p:Bw},eV H a p->eV (bW H l (.lst (as.map V.ref++[.ref t]))) a p:=fun {a p} h=>by
  have:a≠l:=λe=>by subst e;unfold eV at h;rw[h1] at h;cases h
  unfold eV;rw[aP this];exact h
 refine⟨as++[t],by rw[aE,a6];rfl,?_⟩;clear h1;generalize bW H l (.lst (as.map V.ref++[.ref t]))=H' at st ⊢
 induction h2 with
 | nil=>exact .cons (st ht) .nil
 | cons a b ih=>exact .cons (st a) ih
end Rm
namespace L2
open PySem PySem.Spec PyProof.Rows
def IS:V->Option Int->Option Int->Hp->VK->Prop:=λx lo hi H Q=>∃z,x=.str z/\z.length<=sizeLine/\Q (.str (Txt.slice z lo hi)) H
section
def GJ{z:Str}{lo hi:Option Int}{H:Hp}{Q:VK}:IS (.str z) lo hi H Q=(z.length<=sizeLine/\Q (.str (Txt.slice z lo hi)) H):=
 propext ⟨λ⟨_,e,h⟩=>by cases e;exact h,λh=>⟨z,rfl,h⟩⟩
end
end L2
namespace Rm
open PySem L2
def wo(H:Hp)(m:Addr):Hp:=λb=>if b=m then none else H b
def Bg(H:Hp)(m:Addr):aW (wo H m) H:=λb o e=>by
 unfold wo at e;by_cases h:b=m
 ·rw[PX h] at e;cases e
 ·rw[PV h] at e;exact e
def Dq{H:Hp}{m t:Addr}{o:HO}(h:H t=none):aW (wo H m) (wo (bW H t o) m):=λb u e=>by
 have e':=Bg H m b u e;unfold wo at e ⊢;by_cases hb:b=m
 ·rw[PX hb] at e;cases e
 ·rw[PV hb,aP (bJ e' h)];exact e'
def GG{H:Hp}{m t:Addr}{u:HO}(h:t≠m)(e:H t=some u):wo H m t=some u:=by unfold wo;rw[PV h];exact e
end Rm
namespace L2
open PySem PySem.Spec PyProof.Rows PySem.Builtin PySem.Builtin.Str
section
variable {X:Cx}
def Gi(K:P5):List V->Hp->VK->Prop:=λxs H Q=>∃(p:Addr) (ns:List Int),xs=[.ref p]/\ce K H p (ns.map V.int)/\0<ns.length/\∀M,M∈ns->(∀a∈ns,a<=M)->Q (.int M) H
def v5 (hc:X.calm=true):eA X (.builtin "max") (Gi X.K):=by
 intro pins s σ H xs us Q I r h;obtain⟨p,ns,rfl,hq,hn,q⟩:=h;obtain⟨u,rfl,rx⟩:=vals1 r;cases rx;obtain⟨its,rv,pl,hz⟩:=I.list hq;have hi:=lJ rv;have hl:=pl.isList;obtain⟨xs,e⟩:=hi.allInts.items;have hns:ns=xs.toList.map (·.1):=by rw[<-hi.numsOf,<-nums_intItems,<-e]
 have hsz:0<xs.size:=by
  have h3:=hn;rw[hns,aD,dG] at h3;exact h3
 rw[e] at hl;refine max_intList (I.ok.hd hc) hl hsz λv h' tk hv hk=>?_;obtain⟨t,rfl⟩:=intItems_at hv;obtain⟨h1,h2⟩:=argBest_gt (numAt xs) (xs.size - 1);refine⟨.int _,H,I.kept hk,⟨t,rfl⟩,q _ ?_ λa ha=>?_⟩
 ·rw[hns,numAt_eq];exact getD_mem (by rw[aD,dG];lia)
 ·rw[hns] at ha;obtain⟨j,hj,rfl⟩:=mem_getD ha;rw[aD,dG] at hj;rw[<-numAt_eq];exact h2 j (by lia)
end
end L2
namespace Rm
open PySem L2 PyProof.Rows
def eY{α β:Type}{R T:α->β->Prop}(f:∀a b,R a b->T a b):∀{xs:List α} {ys:List β},Paired R xs ys->Paired T xs ys
 | _,_,.nil=>.nil
 | _,_,.cons r t=>.cons (f _ _ r) (eY f t)
def fU{α β:Type}{R:α->β->Prop}:∀{xs:List α} {ys:List β},Paired R xs ys->∀{i:Nat} {x:α},xs[i]? = some x->∃y,ys[i]? = some y/\R x y
 | _,_,.nil,i,x,h=>by simp at h
 | _,_,.cons r t,0,x,h=>by simp at h;subst h;exact⟨_,rfl,r⟩
 | _,_,.cons r t,i+1,x,h=>fU t (by simpa using h)
def wN(K:P5):Sp:=λvs H Q _=>∃(a:Addr) (ns:List Int) (k:Nat),vs=[.ref a,.int k]/\ce K H a (ns.map V.int)/\∀v:Int,Q (.int v) H
end Rm
namespace Rm
open PySem L2
def tx(cs:List Nat):Str:=⟨cs.toArray⟩
def eX(cs:List Nat):(tx cs).length=cs.length:=by simp[tx,Str.length]
def zQ(cs:List Nat):(tx cs).cps.toList=cs:=by simp[tx]
def qr(a b:List Nat):tx a++tx b=tx (a++b):=by
 show Str.mk _=Str.mk _;simp[tx]
def EO{a b:List Nat}(h:tx a=tx b):a=b:=by
 have:=congrArg (λz:Str=>z.cps.toList) h;simpa [tx] using this
def Gf:Str.ofString ""=tx []:=by decide +kernel
def Hr:Str.ofString "a"=tx [97]:=by decide +kernel
def Hq:Str.ofString "b"=tx [98]:=by decide +kernel
def Ho:Str.ofString "c"=tx [99]:=by decide +kernel
def IQ:Str.ofString "d"=tx [100]:=by decide +kernel
def JU:Str.ofString "l"=tx [108]:=by decide +kernel
def ue:Str.ofString "abcd"=tx [97,98,99,100]:=by decide +kernel
def BM{a b:Nat}:((⟨#[a]⟩:Str)=tx [b])=(a=b):=propext ⟨λh=>by have:=EO (show tx [a]=tx [b] from h);simpa using this,λh=>by rw[h];rfl⟩
def jG{α:Type}{P:List α}{c:α}:nw (P++[c]) (-1)=some c:=by
 unfold nw F7;have e:(P++[c]).length=P.length+1:=by simp
 rw[e,PV (by decide),PX (by lia)];show (P++[c])[(-1+((P.length+1:Nat):Int)).toNat]? = some c;rw[show (-1+((P.length+1:Nat):Int)).toNat=P.length by lia];simp
def vX{xs:List V}{k:Nat}(h:k<=xs.length):lp xs (some (k:Int)) none=xs.drop k:=by
 unfold lp;rw[HT.sIx_nat,HT.sIx_none,show min k xs.length=k by lia];exact gg (by rw[iJ];lia)
def BV{P:List V}{c:V}:lp (P++[c]) none (some (-1))=P:=by
 unfold lp;have e:HT.sIx (P++[c]).length (P++[c]).length (some (-1))=P.length:=by unfold HT.sIx;simp;lia
 rw[e,HT.sIx_none,List.drop_zero];simp
def BW{P:List V}{c:V}:lp (P++[c]) (some (-1)) none=[c]:=by
 unfold lp;have e:HT.sIx (P++[c]).length 0 (some (-1))=P.length:=by unfold HT.sIx;simp;lia
 rw[e,HT.sIx_none,List.drop_left];simp
def wA:∀(cs:List Nat) (acc:Array Nat),(cs.map λc=>(⟨#[c]⟩:Str)).foldl (λacc p=>acc++(Str.ofString "").cps++p.cps) acc=acc++cs.toArray
 | [],acc=>by simp
 | c::cs,acc=>by
  rw[ae,gE,wA cs];have:(Str.ofString "").cps=#[]:=by decide +kernel
  rw[this];simp
def Br (cs:List Nat):Txt.join (Str.ofString "") (cs.map λc=>(⟨#[c]⟩:Str))=tx cs:=by
 cases cs with
 | nil=>rfl
 | cons c cs=>
  show Str.mk (((((c::cs).map λc=>(⟨#[c]⟩:Str)).drop 1).foldl (λacc p=>acc++(Str.ofString "").cps++p.cps) (((c::cs).map λc=>(⟨#[c]⟩:Str)).headD Str.empty).cps))=_;rw[ae,List.drop_one,List.tail_cons,List.headD_cons,wA];simp[tx]
def xG {cs:List Nat} (hl:cs.length<=900):JoinOk (Str.ofString "") (cs.map λc=>(⟨#[c]⟩:Str))=true:=by
 unfold JoinOk;have e:Builtin.Str.tooLong ((cs.map λc=>(⟨#[c]⟩:Str)).toArray.foldl (λa t=>a+t.length+(Str.ofString "").length) 0)=false:=by
  have h0:∀(cs:List Nat) (a:Nat),(cs.map λc=>(⟨#[c]⟩:Str)).foldl (λa t=>a+t.length+(Str.ofString "").length) a=a+cs.length:=by
   intro cs
   induction cs with
   | nil=>intro a;rfl
   | cons b cs ih=>
    intro a;rw[ae,gE,ih];have h1:(⟨#[b]⟩:Str).length=1:=rfl;have h2:(Str.ofString "").length=0:=by decide +kernel
    rw[h1,h2,cM];lia
  rw[List.foldl_toArray',h0];unfold Builtin.Str.tooLong;exact PZ (by have:=bU (n:=0+cs.length) (by lia);lia);simp
 rw[e];rfl
def JW:Option (List Int×List Int)->V
 | none=>.non
 | some (L,R)=>.str (tx (JR L R))
def pZ(c:Nat):Prop:=c=97\/c=98\/c=99\/c=100
def fM(H:Hp)(a:Addr)(L R:List Int):Prop:=∃l r,H a=some (.tup [.ref l,.ref r])/\H l=some (.lst (L.map V.int))/\H r=some (.lst (R.map V.int))
def fM.same{H H':Hp}{a:Addr}{L R:List Int}(h:fM H a L R)(s:aW H H'):fM H' a L R:=let ⟨l,r,h1,h2,h3⟩:=h;⟨l,r,s _ _ h1,s _ _ h2,s _ _ h3⟩
def JI(H:Hp)(v:V):Option (List Int×List Int)->Prop
 | none=>v=.non
 | some (L,R)=>∃a,v=.ref a/\fM H a L R
def mZ(c:Nat):List Int×List Int:=if c=108 then ([0],[]) else ([],[0])
def sQ:Sp:=λvs H Q _=>∃n:Int,vs=[.int n]/\∀m:Int,0<=m->m<2 ^ 61->Q (.int m) H
def wC:Sp:=λvs H Q _=>∃n:Int,vs=[.int n]/\∀m:Int,Q (.int m) H
def Gd:Sp:=λvs H Q _=>∃(a:Addr) (L R:List Int) (c:Nat),vs=[.ref a,.str ⟨#[c]⟩]/\fM H a L R/\pZ c/\EE L R/\L.length+R.length<=400/\∀v H',aW H H'->JI H' v (lm L R c)->Q v H'
def wK:Sp:=λvs H Q _=>∃c:Nat,vs=[.str ⟨#[c]⟩]/\∀a H',aW H H'->fM H' a (mZ c).1 (mZ c).2->Q (.ref a) H'
section
variable {K:P5} {H:Hp} {Q:VK} {a b:Addr} {xs ys:List V}
def FU{R:Addr->Hp->Prop}{o:HO}(q:∀p H',H p=none->aW H H'->H' p=some o->R p H'):∀p,H p=none->R p (bW H p o):=λp hp=>q p _ hp ((aW.refl H).new hp) aE
def mq(ha:H a=some (.lst xs))(hb:H b=some (.lst ys))(hz:xs.length+ys.length<=1000)(q:∀p H',H p=none->aW H H'->H' p=some (.lst (xs++ys))->Q (.ref p) H'):Gn (.ref a) (.ref b) H Q:=
 ⟨a,b,xs,ys,rfl,rfl,ha,hb,bI (bU hz),FU (R:=λp H'=>Q (.ref p) H') q⟩
def oC{c:V}(ha:H a=some (.lst (xs++[c])))(q:∀p H',H p=none->aW H H'->H' p=some (.lst xs)->Q (.ref p) H'):Ei K (.ref a) none (some (-1)) H Q:=
 ⟨a,xs++[c],rfl,ce.of ha,by rw[BV];exact FU (R:=λp H'=>Q (.ref p) H') q⟩
def wR{c:V}(ha:H a=some (.lst (xs++[c])))(q:∀p H',H p=none->aW H H'->H' p=some (.lst [c])->Q (.ref p) H'):Ei K (.ref a) (some (-1)) none H Q:=
 ⟨a,xs++[c],rfl,ce.of ha,by rw[BW];exact FU (R:=λp H'=>Q (.ref p) H') q⟩
def fM.new{l r:Addr}{L R:List Int}(hl:H l=some (.lst (L.map V.int)))(hr:H r=some (.lst (R.map V.int)))(na:H a=none):fM (bW H a (.tup [.ref l,.ref r])) a L R:=
 ⟨l,r,aE,by rw[aP (bJ hl na)];exact hl,by rw[aP (bJ hr na)];exact hr⟩
def PQ(L:List Int)(x:Int):(L++[x]).map V.int=L.map V.int++[V.int x]:=by simp
end
def wQ{n:Nat}(h:n<=900):n<=sizeLine:=bI (bU (by lia))
end Rm
set_option maxHeartbeats 400000
namespace Rm
def fT(L R:List Int):List Nat->Nat->Option Nat
 | [],i=>if L.length+R.length=1 then none else some i
 | c::cs,i=>match lm L R c with | none=>some i | some p=>fT p.1 p.2 cs (i+1)
def oE{L R:List Int}{c:Nat}{cs:List Nat}{i:Nat}(h:lm L R c=none):fT L R (c::cs) i=some i:=by simp only[fT,h]
def oF{L R L' R':List Int}{c:Nat}{cs:List Nat}{i:Nat}(h:lm L R c=some (L',R')):fT L R (c::cs) i=fT L' R' cs (i+1):=by simp only[fT,h]
def isIn(k:Bool)(c:Nat):Bool:=c==97 || (if k then c==99 else c==98)
def ko(m:Nat->Option Nat)(a b:Nat):Nat->Option Nat:=λx=>if x=a then some b else if x=b then some a else m x
abbrev B4:=List Nat×(Nat->Option Nat)
def sO(k:Bool)(s:B4)(row c:Nat):B4:=if isIn k c then (s.1++[row],s.2) else match s.1.getLast? with | some o=>(s.1.dropLast,ko s.2 row o) | none=>s
def ye(k b:Bool):B4:=(if k=b then [0] else [],λ_=>none)
def stN(k b:Bool)(cs:List Nat):Nat->B4
 | 0=>ye k b
 | i+1=>sO k (stN k b cs i) (i+1) (cs.getD i 0)
def u6{k:Bool}{s:B4}{row c:Nat}(h:isIn k c=true):sO k s row c=(s.1++[row],s.2):=by unfold sO;rw[PX h]
def qw{k:Bool}{s:B4}{P:List Nat}{o row c:Nat}(h:isIn k c=false)(e:s.1=P++[o]):sO k s row c=(P,ko s.2 row o):=by
 unfold sO;rw[PV (by rw[h];decide),e];simp
structure uR (k b:Bool) (i:Nat) (s:B4):Prop where
 nd:s.1.Nodup
 le:∀ x∈s.1,x<=i
 out:∀ x∈s.1,s.2 x=none
 sym:∀ x y,s.2 x=some y->s.2 y=some x
 irr:∀ x y,s.2 x=some y->y≠x
 bd:∀ x y,s.2 x=some y->x<=i
 tot:∀ x,x<=i->(x=0->k=b)->x∈s.1\/∃ y,s.2 x=some y
 z:k≠b->0∉s.1/\s.2 0=none
def uR.zero(k b:Bool):uR k b 0 (ye k b):=by
 unfold ye;refine⟨?_,λx h=>?_,λ_ _=>rfl,λ_ _ h=>(by cases h),λ_ _ h=>(by cases h),λ_ _ h=>(by cases h),λx hx h=>.inl ?_,λh=>⟨?_,rfl⟩⟩
 ·dsimp only;split<;>simp
 ·dsimp only at h;split at h<;>simp at h;lia
 ·have hx0:x=0:=by lia
  dsimp only;rw[PX (h hx0),hx0];simp
 ·dsimp only;rw[PV h];simp
def ou{l:List Nat}(h:l≠[]):∃P x,l=P++[x]:=⟨l.dropLast,l.getLast h,(de h).symm⟩
def uR.step{k b:Bool}{i c:Nat}{s:B4}(I:uR k b i s)(h:isIn k c=false->s.1≠[]):uR k b (i+1) (sO k s (i+1) c):=by
 have new:s.2 (i+1)=none:=by
  cases e:s.2 (i+1) with
  | none=>rfl
  | some y=>have:=I.bd _ _ e;lia
 by_cases hc:isIn k c=true
 ·rw[u6 hc];refine⟨?_,λx hx=>?_,λx hx=>?_,I.sym,I.irr,λx y e=>by have:=I.bd x y e;lia,λx hx h0=>?_,λhk=>⟨?_,(I.z hk).2⟩⟩
  ·rw[j7];refine⟨I.nd,by simp,λa ha b hb e=>?_⟩;have:=I.le a ha;simp at hb;lia
  ·rcases aQ.mp hx with h1 | h1
   ·have:=I.le x h1;lia
   ·simp at h1;lia
  ·rcases aQ.mp hx with h1 | h1
   ·exact I.out x h1
   ·simp at h1;subst h1;exact new
  ·by_cases e:x=i+1
   ·exact .inl (by subst e;simp)
   ·rcases I.tot x (by lia) h0 with h1 | h1
    ·exact .inl (bC _ h1)
    ·exact .inr h1
  ·intro z;rcases aQ.mp z with h1 | h1
   ·exact(I.z hk).1 h1
   ·simp at h1
 ·have hc':isIn k c=false:=by simpa using hc
  obtain⟨P,o,e⟩:=ou (h hc');rw[qw hc' e];have om:o∈s.1:=by rw[e];simp
  have ole:=I.le o om;have on:=I.out o om;have nd:=I.nd;rw[e,j7] at nd;have onP:o∉P:=λz=>nd.2.2 o z o (by simp) rfl;have inP:∀x∈P,x∈s.1:=λx hx=>by rw[e];exact bC _ hx
  have ms:∀x y,ko s.2 (i+1) o x=some y->(x=i+1/\y=o)\/(x=o/\y=i+1)\/(x≠i+1/\x≠o/\s.2 x=some y):=λx y h=>by
   unfold ko at h
   split at h
   ·rename_i z;cases h;exact .inl ⟨z,rfl⟩
   ·split at h
    ·rename_i z;cases h;exact .inr (.inl ⟨z,rfl⟩)
    ·rename_i z1 z2;exact .inr (.inr ⟨z1,z2,h⟩)
  have mo:∀x,x≠i+1->x≠o->ko s.2 (i+1) o x=s.2 x:=λx h1 h2=>by unfold ko;rw[PV h1,PV h2]
  refine⟨nd.1,λx hx=>by have:=I.le x (inP x hx);lia,λx hx=>?_,λx y h=>?_,λx y h=>?_,λx y h=>?_,λx hx h0=>?_,λhk=>⟨λz=>(I.z hk).1 (inP 0 z),?_⟩⟩<;>dsimp only at *
  ·have:=I.le x (inP x hx);rw[mo x (by lia) (λz=>onP (z▸hx))];exact I.out x (inP x hx)
  ·rcases ms x y h with ⟨rfl,rfl⟩ | ⟨rfl,rfl⟩ | ⟨h1,h2,h3⟩
   ·unfold ko;rw[PV (by lia),PX rfl]
   ·unfold ko;rw[PX rfl]
   ·have hy:=I.sym x y h3;rw[mo y (λz=>by rw[z,new] at hy;cases hy) (λz=>by rw[z,on] at hy;cases hy)];exact hy
  ·rcases ms x y h with ⟨rfl,rfl⟩ | ⟨rfl,rfl⟩ | ⟨h1,h2,h3⟩
   ·lia
   ·lia
   ·exact I.irr x y h3
  ·rcases ms x y h with ⟨rfl,rfl⟩ | ⟨rfl,rfl⟩ | ⟨h1,h2,h3⟩
   ·lia
   ·lia
   ·have:=I.bd x y h3;lia
  ·by_cases z1:x=i+1
   ·exact .inr ⟨o,by unfold ko;rw[PX z1]⟩
   ·by_cases z2:x=o
    ·exact .inr ⟨i+1,by unfold ko;rw[PV z1,PX z2]⟩
    ·rcases I.tot x (by lia) h0 with h1 | ⟨y,h1⟩
     ·rw[e] at h1;rcases aQ.mp h1 with h2 | h2
      ·exact .inl h2
      ·simp at h2;exact absurd h2 z2
     ·exact .inr ⟨y,by rw[mo x z1 z2];exact h1⟩
  ·rw[mo 0 (by lia) (λz=>(I.z hk).1 (z▸om))];exact(I.z hk).2
def qx{k:Bool}{s:B4}{row c:Nat}:(sO k s row c).1.length=if isIn k c then s.1.length+1 else s.1.length - 1:=by
 unfold sO
 split
 ·simp
 ·cases e:s.1.getLast? with
  | none=>simp at e;simp[e]
  | some o=>simp
def pH{L R L' R':List Int}{c:Nat}(hc:c=97\/c=98\/c=99\/c=100)(h:lm L R c=some (L',R')):
  (isIn false c=false->L≠[])/\(isIn true c=false->R≠[])/\L'.length=(if isIn false c then L.length+1 else L.length - 1)/\R'.length=(if isIn true c then R.length+1 else R.length - 1):=by
 rcases hc with rfl | rfl | rfl | rfl
 ·simp only[lm,P3,Option.some.injEq,Prod.mk.injEq] at h;obtain⟨rfl,rfl⟩:=h;simp[isIn]
 ·by_cases hR:R=[]
  ·subst hR;rw[rf] at h;cases h
  ·obtain⟨Q,v,rfl⟩:=dY hR;rw[tj] at h;cases h;simp[isIn]
 ·by_cases hL:L=[]
  ·subst hL;rw[rZ] at h;cases h
  ·obtain⟨P,v,rfl⟩:=dY hL;rw[tZ] at h;cases h;simp[isIn]
 ·by_cases hL:L=[]
  ·subst hL;rw[rY] at h;cases h
  ·by_cases hR:R=[]
   ·subst hR;rw[rX] at h;cases h
   ·obtain⟨P,x,rfl⟩:=dY hL;obtain⟨Q,y,rfl⟩:=dY hR;rw[tY] at h;by_cases e:x=y
    ·rw[PX e] at h;cases h
    ·rw[PV e] at h;cases h;simp[isIn]
structure Run (b:Bool) (cs:List Nat) (i:Nat) (L R:List Int):Prop where
 ee:EE L R
 li:uR false b i (stN false b cs i)
 ri:uR true b i (stN true b cs i)
 ll:(stN false b cs i).1.length=L.length
 rl:(stN true b cs i).1.length=R.length
def Run.step{b:Bool}{cs:List Nat}{i c:Nat}{L R L' R':List Int}(h:Run b cs i L R)(e:cs[i]? = some c)(hc:c=97\/c=98\/c=99\/c=100)(g:lm L R c=some (L',R')):Run b cs (i+1) L' R':=by
 obtain⟨n1,n2,s1,s2⟩:=pH hc g;have eg:cs.getD i 0=c:=by rw[bf,e];rfl
 have k1:isIn false c=false->(stN false b cs i).1≠[]:=λz=>by have:=c7.mpr (n1 z);exact c7.mp (by rw[h.ll];exact this)
 have k2:isIn true c=false->(stN true b cs i).1≠[]:=λz=>by have:=c7.mpr (n2 z);exact c7.mp (by rw[h.rl];exact this)
 refine⟨h.ee.go hc g,?_,?_,?_,?_⟩
 ·show uR false b (i+1) (sO false _ _ _);rw[eg];exact h.li.step k1
 ·show uR true b (i+1) (sO true _ _ _);rw[eg];exact h.ri.step k2
 ·show (sO false _ _ _).1.length=_;rw[eg,qx,s1,h.ll]
 ·show (sO true _ _ _).1.length=_;rw[eg,qx,s2,h.rl]
def Run.zero(b:Bool)(cs:List Nat):Run b cs 0 (if b then [] else [0]) (if b then [0] else []):=by
 cases b
 ·exact⟨EE.one,.zero _ _,.zero _ _,rfl,rfl⟩
 ·exact⟨EE.two,.zero _ _,.zero _ _,rfl,rfl⟩
def rg(n:Nat)(s:B4)(x:Nat):Option Nat:=if x∈s.1 then some (n+1) else s.2 x
structure Do (n:Nat) (b:Bool) (f:Bool->Nat->Option Nat):Prop where
 sym:∀ k x y,f k x=some y->y<=n->f k y=some x
 irr:∀ k x y,f k x=some y->x<=n->y≠x
 tot:∀ k x,x<=n->(x=0->k=b)->∃ y,f k x=some y/\y<=n+1
 z:f (!b) 0=none
def fin2(b:Bool)(cs:List Nat)(k:Bool):Nat->Option Nat:=rg cs.length (stN k b cs cs.length)
def F1{b:Bool}{cs:List Nat}(h:∀k,uR k b cs.length (stN k b cs cs.length)):Do cs.length b (fin2 b cs):=by
 refine⟨λk x y e hy=>?_,λk x y e hx=>?_,λk x hx h0=>?_,?_⟩
 ·unfold fin2 rg at e ⊢
  split at e
  ·cases e;lia
  ·have e2:=(h k).sym x y e;rw[PV (λz=>by rw[(h k).out y z] at e2;cases e2)];exact e2
 ·unfold fin2 rg at e
  split at e
  ·cases e;lia
  ·exact(h k).irr x y e
 ·unfold fin2 rg
  split
  ·exact⟨_,rfl,by lia⟩
  ·rename_i nx;rcases(h k).tot x hx h0 with h1 | ⟨y,h1⟩
   ·exact absurd h1 nx
   ·exact⟨y,h1,by have:=(h k).bd y x ((h k).sym x y h1);lia⟩
 ·unfold fin2 rg;have:=(h (!b)).z (by cases b<;>decide);rw[PV this.1];exact this.2
def pth(f:Bool->Nat->Option Nat)(b:Bool):Nat->Nat×Bool
 | 0=>(0,b)
 | i+1=>((f (pth f b i).2 (pth f b i).1).getD 0,!(pth f b i).2)
def rJ{f:Bool->Nat->Option Nat}{b:Bool}:∀i j,i % 2=j % 2->(pth f b i).2=(pth f b j).2:=by
 have h:∀i,(pth f b i).2=(b ^^ decide (i % 2=1)):=by
  intro i
  induction i with
  | zero=>simp[pth]
  | succ i ih=>
   show (!(pth f b i).2)=_;rw[ih];rcases cB i with e | e
   ·have e2:(i+1) % 2=1:=by lia
    simp[e,e2]
   ·have e2:(i+1) % 2=0:=by lia
    simp[e,e2]
 intro i j e;rw[h,h,e]
structure Bd (n:Nat) (b:Bool) (f:Bool->Nat->Option Nat) (N:Nat):Prop where
 le:∀ i,i<N->(pth f b i).1<=n
 st:∀ i,i<N->f (pth f b i).2 (pth f b i).1=some (pth f b (i+1)).1
section
variable {n:Nat} {b:Bool} {f:Bool->Nat->Option Nat}
def Do.back(M:Do n b f){N i:Nat}(V:Bd n b f N)(hi:i<N)(hl:(pth f b (i+1)).1<=n):f (pth f b i).2 (pth f b (i+1)).1=some (pth f b i).1:=M.sym _ _ _ (V.st i hi) hl
def Do.nz(M:Do n b f){N:Nat}(V:Bd n b f N)(h1:1<=N):(pth f b N).1≠0:=by
 intro h0;obtain⟨i,rfl⟩:∃i,N=i+1:=⟨N - 1,by lia⟩
 have e0:=M.back V (i:=i) (by lia) (by rw[h0];lia);rw[h0] at e0;have hb:(pth f b i).2=b:=by
  cases hh:(pth f b i).2==b with
  | true=>exact beq_iff_eq.mp hh
  | false=>
   have:(pth f b i).2=!b:=by
    have:=beq_eq_false_iff_ne.mp hh;cases hb2:(pth f b i).2<;>cases b<;>simp_all
   rw[this,M.z] at e0;cases e0
 have ev:i % 2=0:=by
  rcases cB i with e | e
  ·exact e
  ·have:=rJ (f:=f) (b:=b) i 1 e;rw[hb] at this;have h2:(pth f b 1).2=!b:=rfl;rw[h2] at this;cases b<;>cases this
 have pal:∀j,j<=i+1->(pth f b (i+1-j)).1=(pth f b j).1:=by
  intro j
  induction j with
  | zero=>intro _;rw[Nat.sub_zero];exact h0
  | succ j ih=>
   intro hj;have e1:=ih (by lia);have e2:i+1-j=(i-j)+1:=by lia
   rw[e2] at e1;have hjn:j<i+1:=by lia
   have b1:=M.back V (i:=i-j) (by lia) (by rw[e1];exact V.le j hjn);rw[e1,rJ (i-j) j (by lia),V.st j hjn] at b1;rw[show i+1-(j+1)=i-j by lia];exact(ay b1).symm
 have t:=pal (i / 2) (by lia);rw[show i+1-i / 2=i / 2+1 by lia] at t;exact M.irr _ _ _ (V.st (i / 2) (by lia)) (V.le _ (by lia)) t
def Iz:∀(n:Nat) (g:Nat->Nat),(∀i,i<=n->g i<n)->∃i j,i<j/\j<=n/\g i=g j
 | 0,g,h=>absurd (h 0 (by lia)) (by lia)
 | n+1,g,h=>by
  by_cases hv:∃i,i<=n/\g i=g (n+1)
  ·obtain⟨i,hi,e⟩:=hv;exact⟨i,n+1,by lia,by lia,e⟩
  ·have hv':∀i,i<=n->g i≠g (n+1):=λi hi e=>hv ⟨i,hi,e⟩;obtain⟨i,j,h1,h2,h3⟩:=Iz n (λi=>if g i=n then g (n+1) else g i) (λi hi=>by
    have a:=h i (by lia);have c:=h (n+1) (by lia);have d:=hv' i hi;show (if g i=n then g (n+1) else g i)<n
    split<;>lia)
   refine⟨i,j,h1,by lia,?_⟩;have d1:=hv' i (by lia);have d2:=hv' j (by lia)
   split at h3<;>split at h3<;>lia
def Do.ends(M:Do n b f):∃T,1<=T/\T<=2*n+4/\Bd n b f T/\(pth f b T).1=n+1:=by
 have go:∀N,N<=2*n+4->(∃T,1<=T/\T<=2*n+4/\Bd n b f T/\(pth f b T).1=n+1)\/(Bd n b f N/\(pth f b N).1<=n):=by
  intro N
  induction N with
  | zero=>intro _;exact .inr ⟨⟨λi h=>by lia,λi h=>by lia⟩,bO _⟩
  | succ N ih=>
   intro hN;rcases ih (by lia) with h | ⟨V,hl⟩
   ·exact .inl h
   ·have h0:(pth f b N).1=0->(pth f b N).2=b:=λz=>by
     rcases Nat.eq_zero_or_pos N with e | e
     ·subst e;rfl
     ·exact absurd z (M.nz V e)
    obtain⟨y,e1,e2⟩:=M.tot _ _ hl h0;have ey:(pth f b (N+1)).1=y:=by show (f _ _).getD 0=y;rw[e1];rfl
    have V':Bd n b f (N+1):=⟨λi hi=>by
      rcases nB i N with h | h
      ·exact V.le i h
      ·rw[show i=N by lia];exact hl,λi hi=>by
      rcases nB i N with h | h
      ·exact V.st i h
      ·rw[show i=N by lia,ey];exact e1⟩
    by_cases hy:y=n+1
    ·exact .inl ⟨N+1,by lia,hN,V',ey.trans hy⟩
    ·exact .inr ⟨V',by rw[ey];lia⟩
 rcases go (2*n+4) (aH _) with h | ⟨V,hl⟩
 ·exact h
 ·exfalso;obtain⟨i,j,h1,h2,h3⟩:=Iz (n+1) (λi=>(pth f b (2*i)).1) (λi hi=>by have:=V.le (2*i) (by lia);lia);have bk:∀d,d<=2*i->(pth f b (2*i-d)).1=(pth f b (2*j-d)).1:=by
   intro d
   induction d with
   | zero=>intro _;exact h3
   | succ d ih=>
    intro hd;have e1:=ih (by lia);rw[show 2*i-d=(2*i-(d+1))+1 by lia,show 2*j-d=(2*j-(d+1))+1 by lia] at e1;have b1:=M.back V (i:=2*i-(d+1)) (by lia) (V.le _ (by lia));have b2:=M.back V (i:=2*j-(d+1)) (by lia) (V.le _ (by lia));rw[e1,rJ (2*i-(d+1)) (2*j-(d+1)) (by lia),b2] at b1;exact(ay b1).symm
  have e0:=bk (2*i) (aH _);rw[mz] at e0;exact M.nz (N:=2*j - 2*i) ⟨λt ht=>V.le t (by lia),λt ht=>V.st t (by lia)⟩ (by lia) e0.symm
end
def pJ(L:List Int)(p:Nat):Prop:=1<=p/\p<L.length/\L[p-1]?≠L[p]?
instance (L:List Int) (p:Nat):Decidable (pJ L p):=by unfold pJ;infer_instance
def rQ(L:List Int)(p:Nat):Nat:=if pJ L p then 0 else if p=0 then (if L[0]? = L[1]? then 2 else 1) else if p=L.length then (if L[p-2]? = L[p-1]? then 2 else 1) else 1
def FY(L:List Int)(p:Nat):rQ L p<=2:=by unfold rQ;(repeat' split)<;>lia
def Al{L:List Int}{p:Nat}(h:pJ L p):rQ L p=0:=by unfold rQ;rw[PX h]
def Th(L:List Int):Prop:=∀i,i+2<L.length->¬(L[i]? = L[i+1]?/\L[i+1]? = L[i+2]?)
def EW.th{R:List Int}(E:EW R):Th R:=λi hi ⟨e1,e2⟩=>by
 have e:R=R.take i++(R[i]::R[i+1]::R[i+2]::R.drop (i+3)):=by
  conv=>lhs;rw[<-ku i R]
  rw[aw (by lia:i<R.length),aw (by lia:i+1<R.length),aw (by lia:i+1+1<R.length)]
 rw[aL (by lia),aL (by lia)] at e1 e2;have a1:=ay e1;have a2:=ay e2;have hm:R[i]∈R:=fh _;have c3:3<=R.count R[i]:=by
  have c1:R.count R[i]=(R.take i++(R[i]::R[i+1]::R[i+2]::R.drop (i+3))).count R[i]:=by rw[<-e]
  rw[c1,<-a2,<-a1,List.count_append,iT,iT,iT];lia
 have n0:=E.nn _ hm;by_cases z:R[i]=0
 ·have:=E.z1;rw[<-z] at this;lia
 ·have:=E.two _ hm (by lia);lia
def EW.three{R:List Int}(E:EW R)(h:1<R.length):3<=R.length:=by
 match R,E,h with
 | [a,b],E,_=>
  exfalso;have z:=E.z1;have na:=E.nn a (by simp);have nb:=E.nn b (by simp);by_cases ha:a=0
  ·by_cases hb:b=0
   ·subst ha hb;simp at z
   ·have:=E.two b (by simp) (by lia);subst ha;simp[gF,cU hb] at this
  ·have:=E.two a (by simp) (by lia);by_cases hb:b=a
   ·subst hb;simp[gF,ha] at z
   ·simp[gF,hb] at this
 | _::_::_::_,_,_=>simp
def vd(L R:List Int):Nat:=if L.length+R.length<=1 then 0 else 3*((L.length+R.length) / 2 - 1)+1+rQ (L++R.reverse) L.length
def Dn{L R:List Int}(E:EE L R):vd L R<=3*((L.length+R.length) / 2):=by
 unfold vd
 split
 ·lia
 ·have h3:3<=(L++R.reverse).length:=E.three (by simp;lia);have:=FY (L++R.reverse) L.length;simp at h3;lia
def Fb{L:List Int}(th:Th L)(h3:3<=L.length):∃p,pJ L p:=by
 by_cases h:L[0]? = L[1]?
 ·exact⟨2,by lia,by lia,λz=>th 0 (by lia) ⟨h,z⟩⟩
 ·exact⟨1,by lia,by lia,h⟩
structure B6 (L:List Int) (p best:Nat):Prop where
 d:pJ L best
 m:∀ k,pJ L k->((best:Int) - p).natAbs<=((k:Int) - p).natAbs
def FV{L:List Int}{p best:Nat}(th:Th L)(h3:3<=L.length)(hp:p<=L.length)(N:B6 L p best)(h:best<p):rQ L (p - 1)+1<=rQ L p:=by
 have nd:¬pJ L p:=λz=>by have:=N.m p z;lia
 obtain⟨b1,b2,b3⟩:=N.d;unfold rQ;rw[PV nd,PV (by lia:¬p=0)];by_cases hl:p=L.length
 ·rw[PX hl];by_cases e:L[p-2]? = L[p-1]?
  ·rw[PX e];have e1:¬pJ L (p - 1):=λz=>z.2.2 (by rw[show p - 1 - 1=p - 2 by lia];exact e);rw[PV e1,PV (by lia),PV (by lia)];lia
  ·rw[PV e];have e1:pJ L (p - 1):=⟨by lia,by lia,by rw[show p - 1 - 1=p - 2 by lia];exact e⟩
   rw[PX e1];lia
 ·rw[PV hl];have ee:L[p-1]? = L[p]?:=jZ λz=>nd ⟨by lia,by lia,z⟩;have b4:best=p - 1:=by
   rcases(show p=1\/2<=p by lia) with e | e
   ·lia
   ·have:=th (p - 2) (by lia);rw[show p - 2+1=p - 1 by lia,show p - 2+2=p by lia] at this;have e1:pJ L (p - 1):=⟨by lia,by lia,by rw[show p - 1 - 1=p - 2 by lia];exact λz=>this ⟨z,ee⟩⟩
    have:=N.m _ e1;lia
  rw[<-b4,PX N.d];lia
def FW{L:List Int}{p best:Nat}(th:Th L)(h3:3<=L.length)(hp:p<=L.length)(N:B6 L p best)(h:p<best):rQ L (p+1)+1<=rQ L p:=by
 have nd:¬pJ L p:=λz=>by have:=N.m p z;lia
 obtain⟨b1,b2,b3⟩:=N.d;by_cases h0:p=0
 ·subst h0;have m0:rQ L 0=if L[0]? = L[1]? then 2 else 1:=by unfold rQ;rw[PV nd,PX rfl]
  by_cases e:L[0]? = L[1]?
  ·have e1:¬pJ L 1:=λz=>z.2.2 e;have m1:rQ L 1=1:=by unfold rQ;rw[PV e1,PV (by lia),PV (by lia)]
   rw[m0,PX e,m1];lia
  ·have e1:pJ L 1:=⟨by lia,by lia,e⟩
   rw[m0,PV e,Al e1];lia
 ·have mp:rQ L p=1:=by unfold rQ;rw[PV nd,PV h0,PV (by lia)]
  have ee:L[p-1]? = L[p]?:=jZ λz=>nd ⟨by lia,by lia,z⟩;have b4:best=p+1:=by
   rcases(show p+1=L.length\/p+1<L.length by lia) with e | e
   ·lia
   ·have:=th (p - 1) (by lia);rw[show p - 1+1=p by lia,show p - 1+2=p+1 by lia] at this;have e1:pJ L (p+1):=⟨by lia,by lia,by rw[show p+1 - 1=p by lia];exact λz=>this ⟨ee,z⟩⟩
    have:=N.m _ e1;lia
  rw[mp,<-b4,Al N.d];lia
def y8(p best:Nat):Nat:=if best=p then 100 else if best<p then 99 else 98
def B1{L R:List Int}{best:Nat}(E:EE L R)(h:1<L.length+R.length)(N:B6 (L++R.reverse) L.length best):∃L' R',lm L R (y8 L.length best)=some (L',R')/\EE L' R'/\vd L' R'+1<=vd L R:=by
 have hl:(L++R.reverse).length=L.length+R.length:=by simp
 have h3:3<=(L++R.reverse).length:=E.three (by lia);have th:Th (L++R.reverse):=E.th;obtain⟨b1,b2,b3⟩:=N.d;have p1:vd L R=3*((L.length+R.length) / 2 - 1)+1+rQ (L++R.reverse) L.length:=by unfold vd;rw[PV (by lia)]
 unfold y8;by_cases e:best=L.length
 ·rw[PX e];have hL:L≠[]:=λz=>by rw[z] at e;simp at e;lia
  have hR:R≠[]:=λz=>by rw[z] at b2;simp at b2;lia
  obtain⟨P,x,rfl⟩:=dY hL;obtain⟨Q,y,rfl⟩:=dY hR;have hxy:x≠y:=λz=>b3 (by
   subst z e;simp[List.getElem?_append])
  rw[tY,PV hxy];have E':=E.d hxy;refine⟨_,_,rfl,E',?_⟩;have:=Dn E';rw[aD,aD] at this;rw[p1];simp only[bQ,fL];simp only[bQ,fL] at h hl;lia
 ·rw[PV e];by_cases c:best<L.length
  ·rw[PX c];have hL:L≠[]:=λz=>by rw[z] at c;simp at c
   obtain⟨P,x,rfl⟩:=dY hL;rw[tZ];have E':=E.c;refine⟨_,_,rfl,E',?_⟩;have nc:=FV th h3 (by simp) N c;have er:P++(R++[x]).reverse=(P++[x])++R.reverse:=by simp
   have p2:vd P (R++[x])=3*(((P++[x]).length+R.length) / 2 - 1)+1+rQ ((P++[x])++R.reverse) ((P++[x]).length - 1):=by
    unfold vd;have hh:P.length+(R++[x]).length=(P++[x]).length+R.length:=by simp;lia
    rw[hh,PV (by lia),er];congr 2;simp
   rw[p1,p2];lia
  ·rw[PV c];have hR:R≠[]:=λz=>by rw[z] at b2;simp at b2;lia
   obtain⟨Q,y,rfl⟩:=dY hR;rw[tj];have E':=E.b;refine⟨_,_,rfl,E',?_⟩;have nb:=FW th h3 (by simp) N (by lia);have er:(L++[y])++Q.reverse=L++(Q++[y]).reverse:=by simp
   have p2:vd (L++[y]) Q=3*((L.length+(Q++[y]).length) / 2 - 1)+1+rQ (L++(Q++[y]).reverse) (L.length+1):=by
    unfold vd;have hh:(L++[y]).length+Q.length=L.length+(Q++[y]).length:=by simp;lia
    rw[hh,PV (by lia),er];congr 2;simp
   rw[p1,p2];lia
def yM{L R L' R':List Int}{c:Nat}(hc:c=97\/c=98\/c=99\/c=100)(h:lm L R c=some (L',R')):L'.length+R'.length<=L.length+R.length+2:=by
 obtain⟨_,_,s1,s2⟩:=pH hc h
 split at s1<;>split at s2<;>lia
def HQ(L R:List Int):∃L' R',lm L R 97=some (L',R'):=⟨_,_,rfl⟩
end Rm
namespace L2
open PySem PySem.Spec PyProof.Rows
section
variable {prog:Program} {w:World} {A:Around} {E:Value->Shared->Prop} {h:Heap} {g:Array GenState} {d:Drawn} {t:Nat} {os:OsState}
variable {nm q:Str} {C N:Addr} {bs bm bmB:List Value} {hdct:Bool} {sn:List Str} {sub:List Value} {ab:Bool} {col:Option Bool} {dd:Option Addr} {k0 k1 k2 k3 k5:Option Value} {B newId initId:String}
def rh(F:ExcBaseFacts B newId initId bmB)(tl:OwnTail h bmB bm){mC:Str->Option Value}{us:List Value}{fi:Addr}{of:Obj}{R:Fin->Shared->Prop}
  (hK:h.get? C=some (excClassObj nm q C N bs bm hdct sn sub ab col dd k0 k1 k2 k3 k5 newId)) (hNs:h.Ns N mC) (hin:mC "__init__"=some (.ref fi)) (hof:h.get? fi=some of) (hfn:of.cls=.type "function") (hlen:us.length<=sizeLine)
  (go:∀hh x,Heap.MadeExcOf h hh x (.ref C) us->wpAny (model prog w) A (call (.ref fi) (.ref x::us)) (λr z=>r=.none/\R (.done (.ret (.ref x))) z) E ⟨hh,g,d,t,os⟩) :
  wpAny (model prog w) A (Builtin.«type.__call__» ⟨.ref C::us,[]⟩) R E ⟨h,g,d,t,os⟩:=by
 repeat (first | (with_reducible refine PR hK ?_) | (with_reducible refine wpAny_madeBy_exc hK ?_) | wp_step)
 refine codeAny_call_builtin_code (jT _ F.quiet) (wpAny_check_new_subT F tl hK ?_);refine codeAny_exc_new_subT F tl hK ?_ hlen;show wpAny _ _ _ _ _ _;generalize hh1:h.push { cls:=.type "tuple",data:=.seq us.toArray }=h1;generalize hh2:h1.push { cls:=.ref C,data:=.fields #[.ref h.objs.size,.none,.none,.none,.bool false,.none] }=h2;have kp:∀b o,h.get? b=some o->h2.get? b=some o:=λb o e=>by rw[<-hh2,<-hh1];exact aB _ (aB _ e)
 have sz:h1.objs.size=h.objs.size+1:=by rw[<-hh1];exact cL _ _
 have at2:h2.get? (h.objs.size+1)=some { cls:=.ref C,data:=.fields #[.ref h.objs.size,.none,.none,.none,.bool false,.none] }:=by rw[<-hh2,<-sz];exact aK _ rfl
 have at1:h2.get? h.objs.size=some { cls:=.type "tuple",data:=.seq us.toArray }:=by rw[<-hh2];refine aB _ ?_;rw[<-hh1];exact aK _ rfl
 have hK2:=kp _ _ hK;have tl2:=tl.keeps kp;have hN2:h2.Ns N mC:=let ⟨o,es,ep,e,r⟩:=hNs;⟨o,es,ep,kp _ _ e,r⟩;have own:(Value.ref C::bm).contains (.ref C)=true:=by simp
 unfold isInstance
 repeat (first | (with_reducible refine PR at2 ?_) | (with_reducible refine wpAny_isSubtype_exc hK2 ?_;rw[own]) | wp_step)
 show wpAny _ _ (typeLookup (.ref C) _) _ _ _;refine wpAny_typeLookup_tail hK2 hN2 tl2 F.mroIs F.init.lookup ?_;rw[hin];refine Ox (wpAny_bind ?_);unfold bindSpecial;refine wpAny_bind (wpAny_typeOf (T:="function") ⟨_,kp _ _ hof,hfn⟩ ?_);rw[PX (by decide)];refine On (wpAny_bind (wpAny_mono (go h2 (h.objs.size+1) ⟨kp,fX (dw _),h.objs.size,at2,fX (aH _),at1⟩) (λr z hr=>?_) λ_ _ y=>y));obtain⟨rfl,hR⟩:=hr
 wp_walk
 exact hR
def BK(F:ExcBaseFacts B newId initId bmB)(tl:OwnTail h bmB bm){mC:Str->Option Value}{us:List Value}{fi:Addr}{of:Obj}{R:Value->Shared->Prop}
  (hK:h.get? C=some (excClassObj nm q C N bs bm hdct sn sub ab col dd k0 k1 k2 k3 k5 newId)) (hNs:h.Ns N mC) (hin:mC "__init__"=some (.ref fi)) (hof:h.get? fi=some of) (hfn:of.cls=.type "function") (hlen:us.length<=sizeLine)
  (go:∀hh x,Heap.MadeExcOf h hh x (.ref C) us->wpAny (model prog w) (A.under (.builtin "type.__call__" ⟨.ref C::us,[]⟩)) (call (.ref fi) (.ref x::us)) (λr z=>r=.none/\R (.ref x) z) E ⟨hh,g,d,t,os⟩) :
  wpAny (model prog w) A (call (.ref C) us) R E ⟨h,g,d,t,os⟩:=by
 have l1:=tc_lookup;have l2:=tc_bind (.ref C);have ty:(⟨h,g,d,t,os⟩:Shared).TypeIs (.ref C) "type":=⟨_,hK,rfl⟩
 refine Ot (codeAny_of_tree ?_);show wpAny _ _ (callAny (.ref C) _) _ _ _
 repeat (any_goals (first | assumption | (with_reducible refine PR hK ?_) | wp_step))
 refine⟨rfl,?_⟩;exact codeAny_call_builtin_at (jT _ (by decide +kernel)) entry_typeCall (wpAny_check_type_call_sub hK (rh F tl hK hNs hin hof hfn hlen λhh x m=>go hh x m))
end
section
variable {M:Model} {A:Around} {E:Value->Shared->Prop} {env:Env}
variable {nm q:Str} {C N:Addr} {bs bm:List Value} {hdct:Bool} {sn:List Str} {sub:List Value} {ab:Bool} {col:Option Bool} {dd:Option Addr} {k0 k1 k2 k3 k5:Option Value} {newId:String}
def ug {s:Shared} {x:Sem Value} {R:Flow->Shared->Prop} (hb:bm.contains (.type "BaseException")=true) (hh:A.handled=none)
  (go:wpAny M A x (λv z=>∃e dO a0 sl,v=.ref e/\z.heap.get? C=some (excClassObj nm q C N bs bm hdct sn sub ab col dd k0 k1 k2 k3 k5 newId)/\z.heap.get? e=some ⟨.ref C,dO,.fields #[a0,.none,.none,.none,.bool false,.none],sl⟩/\E (.ref e) z) E s) :
  wpAny M A (raiseStmt env (some x) none) R E s:=by
 have has:(Value.ref C::bm).contains (.type "BaseException")=true:=by rw[List.contains_cons,hb,nF]
 unfold raiseStmt;refine wpAny_bind (wpAny_mono go (λv z h1=>?_) λ_ _ y=>y);obtain⟨e,dO,a0,sl,rfl,hK,he,hE⟩:=h1;obtain⟨hp,g,d,tk,os⟩:=z
 repeat (first | (with_reducible refine PR he ?_) | (with_reducible refine PR hK ?_) | (with_reducible refine wpAny_isSubtype_exc hK ?_;rw[has]) | wp_step)
 exact wpAny_raiseNew_none hh hE
end
def jN(dO:Option Addr)(C t:Addr):Obj:=⟨.ref C,dO,.fields #[.ref t,.none,.none,.none,.bool false,.none],#[]⟩
def gO(dO:Option Addr)(C e:Addr):HO:=.ext λh=>∃t,h.get? e=some (jN dO C t)
def rC{P:Program}{w:World}{H:Hp}{h:Heap}{dO:Option Addr}{C e t:Addr}(he:h.get? e=some (jN dO C t)):cw P w H h e (gO dO C e):=
 ⟨⟨t,he⟩,⟨_,he⟩,λ_ _ ⟨t,a⟩ k=>⟨t,k _ a⟩⟩
structure nT (x:Str) (C fi:Addr) (bmB:List Value) (newId:String) (mg:Str->Option Value) (base:Heap):Prop where
 bound:mg x=some (.ref C)
 obj:∃ (bm:List Value) (N:Addr) (nm q:Str) (bs:List Value) (hdct:Bool) (sn:List Str) (sub:List Value) (ab:Bool) (col:Option Bool) (dd:Option Addr) (k0 k1 k2 k3 k5:Option Value) (mN:Str->Option Value),
  base.get? C=some (excClassObj nm q C N bs bm hdct sn sub ab col dd k0 k1 k2 k3 k5 newId)/\base.Ns N mN/\mN "__init__"=some (.ref fi)/\OwnTail base bmB bm
def uY(C:Addr)(t:TA):TE:=λσ H Q=>t σ H λvs H1=>∃e v,vs=[.ref e,v]/\H1 e=some (gO none C e)/\Q .non H1
def EM{H:Hp}{a:Addr}{o:HO}(h:H a=some o):bW H a o=H:=by
 funext b;unfold bW
 split
 ·rename_i z;rw[z,h]
 ·rfl
section
variable {X:Cx}
def Ax{prog:Program}{w:World}{A:Around}{E:Value->Shared->Prop}{s:Shared}{bm bmB:List Value}{C N e t0:Addr}{nm q:Str}{bs:List Value}{hdct:Bool}{sn:List Str}{sub:List Value}{ab:Bool}{col:Option Bool}{dd:Option Addr}{k0 k1 k2 k3 k5:Option Value}{B newId initId:String}{v:Value}{Q:Value->Shared->Prop}
  (F:ExcBaseFacts B newId initId bmB) (tl:OwnTail s.heap bmB bm) (hK:s.heap.get? C=some (excClassObj nm q C N bs bm hdct sn sub ab col dd k0 k1 k2 k3 k5 newId)) (he:s.heap.get? e=some (jN none C t0))
  (hq:∀h' t1,h'.get? e=some (jN none C t1)->(∀b o,b≠e->s.heap.get? b=some o->h'.get? b=some o)->Q .none { s with heap:=h' }) :
  wpAny (model prog w) A (call (.builtin initId) [.ref e,v]) Q E s:=by
 obtain⟨h,g,d,t,os⟩:=s;refine Ot (PL F.init.plain F.initEntry (wpAny_check_init_subT F tl hK he rfl ?_));unfold Builtin.«BaseException.__init__»;dsimp only;rw[PV (by simp)];unfold newTuple Builtin.BaseException.bexcPut;have he1:=aB (h:=h) { cls:=.type "tuple",data:=.seq [v].toArray } he;refine wpAny_bind (Oz (wpAny_bind (wpAny_bind (Ow he1 rfl rfl (wpAny_bind (PJ he1 rfl (by show 0<6;decide) ?_))))) (by show 1<=sizeLine;rw[Os];lia));refine wpAny_letGo (On (hq _ h.objs.size ?_ λb o nb hb=>?_))
 ·exact(cf _ he1 rfl).trans rfl
 ·exact(eh _ (cU nb) (aB _ hb))
def AV{xR:Str}{x:Str}{R C fi:Addr}{bmB:List Value}{B newId initId:String}{e:Expr}{es:List Expr}{t:TA}{p apos pos:Pos}{pl:Sem Bool}(F:ExcBaseFacts B newId initId bmB)(O:nT x C fi bmB newId X.mg X.base)(hgR:Gl X xR)(hmR:X.mg xR=some (.ref R))
  (rd:PySem.W.readsIn X.K R (.type "type")=true) (sg:PySem.W.specialIn X.K (.ref R) "__getattribute__"=some (some (.builtin "type.__getattribute__"))) (fc:PySem.W.findCls X.K (.ref R) (.type "type") "__init__"=some (.val (.builtin initId)))
  (hh:PySem.W.handedIn (.builtin initId)=true) (ha:PA X (e::es) t) (hdb:(xR==("__debug__":Str))=false:=by decide)
  (hst:starEach (e::es) X.env=(false,eval e X.env)::starEach es X.env:=by rfl) (hpl:(backTo pos (starEach es X.env)).any (·.1)=false:=by rfl)
  (ht:eval (.Call (.Attribute (.Name xR p) "__init__" apos) (e::es) [] pos) X.env=(do
   let ov <-eval (.Name xR p) X.env
   standAt apos.atName
   let (f,fst) <-holding [ov] (getMethod ov "__init__" pl)
   callWith pos f fst (backTo pos (starEach (e::es) X.env)) (backToKw pos (keywordEach [] X.env))):=by rfl) :
  PE X (.Call (.Attribute (.Name xR p) "__init__" apos) (e::es) [] pos) (uY C t):=by
 intro pins s σ H Q I h;refine PySem.W.methodCall_KW (pl:=pl) (ij I hgR hmR (PySem.W.method_cls I.kIn sg (PySem.W.cls_value I.kIn rd fc hh ?_)) hdb) ht;have It:=I.tok (s.toks+1);refine iG (dW (ha pos pins _ σ H _ It h) λus s1 ⟨vs,H1,I1,r,x0,v,ev,hx,q⟩=>?_) hst hpl;subst ev;obtain⟨bm,N,nm,q0,bs,hdct,sn,sub,ab,col,dd,k0,k1,k2,k3,k5,mN,hC,hN,hi,ot⟩:=O.obj;obtain⟨u0,u1,rfl,r0,r1⟩:=bj.two r;cases (show u0=Value.ref x0 from r0);obtain⟨t0,hx0⟩:=(I1.hok x0 _ hx).1;refine Ax (A:=X.A) F (kT I1.bk ot) (I1.bk _ _ hC) hx0 λh' t1 e1 k=>?_;have I2:=I1.write (x:=x0) (e:=x0) (o:=gO none C x0) (t':=s1.toks) (by rw[hx];exact True.intro) (.inl rfl) (λb o nb hb=>k b o nb hb) ⟨_,e1⟩ (rC e1);rw[EM hx] at I2;exact⟨.non,_,I2,rfl,q⟩
end
def Cg{prog:Program}{w:World}{A:Around}{R:Result->Shared->Prop}{s:Shared}{K:P5}{x C:Addr}{cd:ClassData}{name:Str}{tk:Tok}{v:Value}{t0:Addr}(Xk:K.In s.heap)(hx:s.heap.get? x=some (jN none C t0))
  (hc:PySem.W.clsIn K C=some cd) (hdc:cd.hasDict=true) (hob:cd.mro.contains (.type "object")=true) (hpass:refuseLoop (.ref x) "__setattr__" cd.mro=pure ()) (hn:PySem.W.findIn K (.ref C) name=some none)
  (go:∀h' tk' dx,s.heap.get? dx=none->h'.get? x=some (jN (some dx) C t0)->h'.Ns1 dx (λy=>if y=name then some v else none)->(∀b o,b≠x->s.heap.get? b=some o->h'.get? b=some o)->R (.ok (.ret .none)) { s with heap:=h',toks:=tk' }) :
  codeAny (model prog w) A (.call (.builtin "object.__setattr__") ⟨[.ref x,.str name tk,v],[]⟩) R s:=by
 have SF:=PySem.F.store_object;obtain⟨h,g,d,t,os⟩:=s;have ty:PySem.W.InstAt h x (jN none C t0) C none:=⟨hx,rfl,rfl,trivial⟩
 have ne:cd.mro.isEmpty=false:=by cases q:cd.mro with | nil=>rw[q] at hob;cases hob | cons _ _=>rfl
 have sub:PySem.W.Looks (model prog w) h (isInstance (.ref x) (.type "object")) true:=ty.type.andThen (PySem.W.looks_mroIn Xk (by unfold PySem.W.mroIn;rw[hc,Option.bind_some,PV (by rw[ne];decide),hob]));refine PL SF.slot.plain SF.entry (@PySem.W.check_slot (model prog w) _ _ ⟨h,g,d,t,os⟩ "object.__setattr__" "object" "__setattr__" (.ref x) [.str name tk,v] [] _ SF.kind SF.split sub (SF.args (.ref x) (.str name tk) v) ?_);have mr:PySem.W.Looks (model prog w) h (mroOf (.ref C)) cd.mro:=(PySem.W.looks_clsIn Xk hc).andThen .now;rw[PySem.W.osa_eq,refuse_eq];refine wpAny_bind (wpAny_bind (ty.type.here (wpAny_bind (mr.here ?_))));rw[hpass];refine On (wpAny_bind (ty.type.here (wpAny_bind ((cn Xk hn).here (wpAny_bind (On ?_))))));show wpAny _ _ (Builtin.ObjectAttr.storeInOwnDict (.ref x) (.ref C) (.str name tk) name v false) _ _ _;unfold Builtin.ObjectAttr.storeInOwnDict;refine wpAny_bind (On (wpAny_bind (wpAny_bind (wpAny_loadPart hx (wpAny_bind ((PySem.W.looks_clsIn Xk hc).here ?_))))));rw[hdc];have hx1:(h.push { cls:=.type "dict",data:=.dict #[] }).get? x=some (jN none C t0):=aB _ hx;have ns:x≠h.objs.size:=aV (aJ hx);refine wpAny_bind (wpAny_alloc' (wpAny_bind (wpAny_update' hx1 ?_)));refine On ?_;generalize hh2:(h.push { cls:=.type "dict",data:=.dict #[] }).update x _=h2;have dNew:h2.get? h.objs.size=some { cls:=.type "dict",data:=.dict #[] }:=by rw[<-hh2];exact(fv _ _ _ _ (cU ns)).trans (aK _ rfl)
 have x2:h2.get? x=some (jN (some h.objs.size) C t0):=by rw[<-hh2];exact(cf _ hx1 rfl).trans rfl
 have nsE:h2.Ns h.objs.size (λ_=>none):=⟨_,#[],_,dNew,rfl,λe he=>absurd he (by simp),λ_=>rfl⟩
 show wpAny _ _ (Builtin.ObjectAttr.storeInDict h.objs.size (.str name tk) name v) _ _ _;unfold Builtin.ObjectAttr.storeInDict Builtin.ObjectAttr.newKeyGuard;refine wpAny_bind (On (wpAny_bind (wpAny_nsSet1 (Heap.Ns1.of_empty nsE) λh3 n3 s3=>?_)));obtain⟨oD,esD,epD,e1,e2,e3⟩:=n3.count (Within.cons name v Within.nil);refine wpAny_bind (wpAny_lookBehind e1 (by rw[e2];exact pastItsLine_dict (cP e3 (by rw[cM,fB,Os];lia))) ?_);refine On (go h3 _ h.objs.size (fX (aH _)) ((s3.2 x ns).trans x2) n3 λb o nb hb=>(s3.2 b (aV (aJ hb))).trans ?_);rw[<-hh2];exact(fv _ _ _ _ nb).trans (aB _ hb)
structure DU (K:P5) (C:Addr) (f:Str):Prop where
 sa:PySem.W.findIn K (.ref C) "__setattr__"=some (some (.builtin "object.__setattr__"))
 cls:∃ cd,PySem.W.clsIn K C=some cd/\cd.hasDict=true/\cd.mro.contains (.type "object")=true/\∀ self,refuseLoop self "__setattr__" cd.mro=pure ()
 no:PySem.W.findIn K (.ref C) f=some none
def zr(C:Addr)(f:Str)(ta tv:TE):TS:=λD σ H=>tv σ H λy H1=>ta σ H1 λx H2=>∃e,x=.ref e/\H2 e=some (gO none C e)/\∀dx,H2 dx=none->dx≠e->D.nx σ (bW (bW H2 dx (.xd [(f,y)])) e (gO (some dx) C e))
section
variable {X:Cx}
def bT.dicted{pins:List (Addr×Obj)}{σ:St}{H:Hp}{s:Shared}{e dx C t0:Addr}{f:Str}{y:V}{u:Value}{h':Heap}{tk:Nat}(I:bT X pins σ H s)(he:H e=some (gO none C e))(nd:s.heap.get? dx=none)(ne:dx≠e)(ry:RelV y u)
  (e1:h'.get? e=some (jN (some dx) C t0)) (n1:h'.Ns1 dx (λz=>if z=f then some u else none)) (kp:∀b o,b≠e->s.heap.get? b=some o->h'.get? b=some o) :
  H dx=none/\bT X pins σ (bW (bW H dx (.xd [(f,y)])) e (gO (some dx) C e)) { s with heap:=h',toks:=tk }:=by
 have hn:H dx=none:=by
  cases z:H dx with
  | none=>rfl
  | some o=>obtain⟨ob,q⟩:=(I.hok dx o z).ex;rw[nd] at q;cases q
 have oth:∀b,b≠e->b≠dx->bW (bW H dx (.xd [(f,y)])) e (gO (some dx) C e) b=H b:=λb h1 h2=>by rw[aP h1,aP h2]
 have inh:∀b o,s.heap.get? b=some o->b≠dx:=λb o q z=>by subst z;rw[nd] at q;cases q
 have trk:∀b o,H b=some o->b≠dx:=λb o q z=>by subst z;rw[hn] at q;cases q
 have net:∀b o,H b=some o->(∀φ,o≠.ext φ)->b≠e:=λb o q n z=>by subst z;rw[he] at q;cases q;exact n _ rfl
 have unt:∀b,H b=none->b≠e:=λb q z=>by subst z;rw[he] at q;cases q
 refine⟨hn,I.un ⟨λb o q n _ _=>kp b o (unt b n) q,λb o q n _ _=>⟨o.slots,kp b o (unt b n) q⟩,λb o q n _=>by rw[oth b (unt b n) (inh b o q)];exact n,λb o q _=>?_,
  λb xs q=>by rw[oth b (net b _ q λφ z=>by cases z) (trk b _ q)];exact q,λb o v q=>by rw[oth b (net b _ q λφ z=>by cases z) (trk b _ q)];exact q,λb ps q=>⟨#[],by rw[oth b (net b _ q λφ z=>by cases z) (trk b _ q),q];simp⟩⟩ λb o q=>?_⟩
 ·by_cases z:b=e
  ·exact⟨_,z▸e1⟩
  ·exact⟨o,kp b o z q⟩
 ·by_cases z:b=e
  ·subst z;rw[aE] at q;cases q;exact rC e1
  ·rw[aP z] at q;by_cases z2:b=dx
   ·subst z2;rw[aE] at q;cases q;refine⟨_,n1,λg=>?_⟩;by_cases zg:g=f
    ·subst zg;simp only[List.lookup,beq_self_eq_true,P3];exact ry
    ·have:(g==f)=false:=beq_eq_false_iff_ne.mpr zg;simp only[List.lookup,this,PV zg];trivial
   ·rw[aP z2] at q;refine(I.hok b o q).stay (λc v hc q'=>kp c v ?_ q') (λc q'=>by rw[oth c (net c _ q' λφ z=>by cases z) (trk c _ q')];exact q') λc xs q'=>by rw[oth c (net c _ q' λφ z=>by cases z) (trk c _ q')];exact q'
    rcases hc with r | r
    ·rw[r];exact z
    ·exact net c _ r λφ z=>by cases z
def CV{o value:Expr}{f:Str}{C:Addr}{pos pos':Pos}{ta tv:TE}(k:DU X.K C f)(ha:PE X o ta)(hv:PE X value tv)(hs:swapsWith value (some (.Attribute o f pos')) pos.line X.env=pure false):PS X (.Assign [.Attribute o f pos'] value pos) (zr C f ta tv):=by
 intro pins s σ H D I h;refine plainObj_wpAny_Assign_Attribute (dW (hv pins s σ H _ I h) λu s1 ⟨y,H1,I1,ry,q⟩=>dW (ha pins s1 σ H1 _ I1 q) λov s2 ⟨x,H2,I2,rx,e,ex,he,q2⟩=>?_) hs;subst ex;obtain rfl:ov=Value.ref e:=rx;obtain⟨t0,hx⟩:=(I2.hok e _ he).1;obtain⟨cd,hc,hd,ho,hp⟩:=k.cls;refine PySem.W.set_plain I2.kIn (ox:=jN none C t0) (od:=none) ⟨hx,rfl,rfl,trivial⟩ k.sa (Cg (s:={ s2 with toks:=s2.toks+1 }) I2.kIn hx hc hd ho (hp _) k.no λh' tk' dx nd e1 n1 kp=>?_);have ne:dx≠e:=λz=>by subst z;rw[show s2.heap.get? dx=none from nd] at hx;cases hx
 obtain⟨hn,I3⟩:=bT.dicted (tk:=tk') I2 he nd ne ry e1 n1 kp;exact⟨_,_,I3,q2 dx hn ne⟩
end
def xp:∀n:Nat,n<=60->(PySem.Str.ofString (toString (n:Int))).length<=2/\(n:Int).natAbs.log2<1920:=by
 have h:∀n:Fin 61,(PySem.Str.ofString (toString ((n:Nat):Int))).length<=2/\((n:Nat):Int).natAbs.log2<1920:=by decide +kernel
 exact λn hn=>h ⟨n,by lia⟩
def vW(H:Hp)(e:Addr):Hp:=λb=>if b=e then none else H b
def ka{H:Hp}{e b:Addr}(h:b≠e):vW H e b=H b:=PV h
def qZ{H:Hp}{e b:Addr}{o:HO}(h:vW H e b=some o):b≠e/\H b=some o:=by
 unfold vW at h
 split at h
 ·cases h
 ·rename_i z;exact⟨z,h⟩
def B5(X:Cx)(E:XK):Prop:=∀(pins:List (Addr×Obj)) (σ:St) (H1 H:Hp) (s1 s:Shared) (e C:Addr) (dO:Option Addr),bT X pins σ H1 s1->s1.heap.get? e=none->bT X pins σ H s->H e=some (gO dO C e)->E (.ref C) dO (vW H e)->X.xe (.ref e) s
def xU{P:Program}{w:World}{K:P5}{mg:Str->Option Value}{base:Heap}{N:List Str}{qual:Str}{scope:Scope}{f:Addr}{cd:Value}{A:Around}{outer:List Env}{s0:Shared}{H0:Hp}{E:XK}:
  B5 (iY (nG P w) P w K mg base N qual scope f cd A outer s0 H0 E) E:=by
 intro pins σ H1 H s1 s e C dO I1 n1 I he hE;generalize hX:iY (nG P w) P w K mg base N qual scope f cd A outer s0 H0 E=X at I I1 ⊢;have hst:X.stack=X.env::X.outer:=by rw[<-hX];rfl
 have hfr:X.env.frame=some X.env.locals:=by rw[<-hX];rfl
 have hxe:X.xe=λe s'=>wpAny (model X.prog X.w) X.A (leaving X.env e) (λ_ s''=>nG X.prog X.w X.outer X.H₀ X.s₀ E e s'') (λe' s''=>nG X.prog X.w X.outer X.H₀ X.s₀ E e' s'') s':=by rw[<-hX];rfl
 have hex:X.ex=[]:=by rw[<-hX];rfl
 have hfs:j3 X.stack=X.env.locals::X.fs:=by rw[hst];unfold j3;rw[c8,hfr];rfl
 clear hX;have ne0:∀b o,X.s₀.heap.get? b=some o->b≠e:=λb o q z=>by
  subst z;obtain⟨o',q'⟩:=I1.base.there b o q (by rw[hex];simp);rw[n1] at q';cases q'
 rw[hxe];obtain⟨t0,hobj⟩:=(I.hok e _ he).1;have hB:∀b o,s.heap.get? b=some o->b≠e->b∉j3 X.stack->(PySem.W.hideAll s.heap (e::j3 X.stack)).get? b=some o:=λb o q1 q2 q3=>i7 _ q1 (λz=>(aI.mp z).elim q2 q3);have Be:(PySem.W.hideAll s.heap (e::j3 X.stack)).get? e=none:=fV _ ah;refine gH (dj.leave (dO:=dO) (e:=e)) ⟨_,_,hobj,⟨rfl,rfl⟩,rfl⟩ ?_;refine wpAny_leaving_firstW (base:=PySem.W.hideAll s.heap (e::j3 X.stack)) (outer:=X.outer) (L:=X.env.locals) (a0:=.ref t0) (by rw[I.ok.frames,hst]) (lK (hst▸I.stack) λb m=>fV _ (aN _ (hst▸m))) hfr hobj
  (λb o q=>jO _ q) Be rfl rfl rfl λh2 hL ct=>?_
 obtain⟨stay,⟨_,_,k2⟩,k3,up⟩:=hL;have out:∀b o,X.s₀.heap.get? b=some o->b∉X.fs->b∉j3 X.stack:=λb o q1 q2 z=>by
  rw[hfs] at z;exact(aI.mp z).elim (aV (aT (aJ q1) I.ok.above)) q2
 have slot:∀b o,s.heap.get? b=some o->b∈X.fs->∃sl,h2.get? b=some { o with slots:=sl }:=λb o q m=>by
  obtain⟨_,o',q2,nf⟩:=I.funs.mem m;rw[q] at q2;cases q2;obtain⟨sl,z⟩:=up b o q nf;exact⟨sl,z⟩
 have u:=I.base;rw[hex] at u;have net:∀b o,H b=some o->(∀φ,o≠.ext φ)->b≠e:=λb o q n z=>by subst z;rw[he] at q;cases q;exact n _ rfl
 refine⟨e,C,t0,vW H e,_,dO,rfl,I.os,I.bare,⟨λb o q1 q2 q3 q4=>?_,λb o q1 q2 q3 q4=>?_,λb o q1 q2 q3=>?_,λb o q1 q2=>?_,λb xs q=>?_,λb o v q=>?_,λb ps q=>?_⟩,λb o q1=>?_,⟨stay,Be,k2,k3⟩,⟨λb o q1 q2=>?_,λb o q1=>?_⟩,ct,hE⟩
 ·exact stay b o (hB b o (u.keep b o q1 q2 q3 q4) (ne0 b o q1) (out b o q1 q3))
 ·obtain⟨sl,q⟩:=u.slot b o q1 q2 q3 q4;exact(slot b _ q q3).imp λsl' z=>z
 ·rw[ka (ne0 b o q1)];exact u.free b o q1 q2 q3
 ·obtain⟨o',q⟩:=u.there b o q1 q2;by_cases m:b∈X.fs
  ·obtain⟨sl,q'⟩:=slot b o' q m;exact⟨_,q'⟩
  ·exact⟨o',stay b o' (hB b o' q (ne0 b o q1) (out b o q1 m))⟩
 ·have q':=u.tups b xs q;rw[ka (net b _ q' λφ z=>by cases z)];exact q'
 ·have q':=u.frzs b o v q;rw[ka (net b _ q' λφ z=>by cases z)];exact q'
 ·obtain⟨more,q'⟩:=u.tbls b ps q;exact⟨more,by rw[ka (net b _ q' λφ z=>by cases z)];exact q'⟩
 ·obtain⟨nb,q2⟩:=qZ q1;refine(I.hok b o q2).stay (λc v hc q=>stay c v (hB c v q ?_ λz=>?_)) (λc q=>by rw[ka (net c _ q λφ z=>by cases z)];exact q) λc xs q=>by rw[ka (net c _ q λφ z=>by cases z)];exact q
  ·rcases hc with r | r
   ·rw[r];exact nb
   ·exact net c _ r λφ z=>by cases z
  ·have n:=I.stkFree c z;rcases hc with r | r
   ·rw[r,q2] at n;cases n
   ·rw[r] at n;cases n
 ·obtain⟨o',q⟩:=u.there b o q1 (by simp);exact⟨o',hB b o' q (ne0 b o q1) (out b o q1 q2)⟩
 ·obtain⟨nb,q2⟩:=qZ q1;obtain⟨ob,q⟩:=(I.hok b o q2).ex;refine⟨ob,hB b ob q nb λz=>?_⟩;have n:=I.stkFree b z;rw[q2] at n;cases n
def wJ(C:Addr)(f:Str)(ok:V->Hp->Prop):Sp:=λvs H Q _=>∃e v,vs=[.ref e,v]/\ok v H/\H e=some (gO none C e)/\∀dx,H dx=none->dx≠e->Q .non (bW (bW H dx (.xd [(f,v)])) e (gO (some dx) C e))
def qu(C:Addr)(f:Str)(ok:V->Hp->Prop)(E:XK)(t:TA):TS:=λ_ σ H=>t σ H λvs H1=>∃v,vs=[v]/\ok v H1/\∀dx,H1 dx=none->E (.ref C) (some dx) (bW H1 dx (.xd [(f,v)]))
section
variable {X:Cx}
def bT.freshV{pins:List (Addr×Obj)}{σ:St}{H:Hp}{s:Shared}{a:Addr}{o:HO}{h':Heap}(I:bT X pins σ H s)(na:s.heap.get? a=none)(k:∀b u,s.heap.get? b=some u->h'.get? b=some u)(new:cw X.prog X.w (bW H a o) h' a o):H a=none/\bT X pins σ (bW H a o) { s with heap:=h' }:=by
 have hn:H a=none:=by
  cases z:H a with
  | none=>rfl
  | some o=>obtain⟨ob,q⟩:=(I.hok a o z).ex;rw[na] at q;cases q
 have inh:∀b o,s.heap.get? b=some o->b≠a:=λb o q z=>by subst z;rw[na] at q;cases q
 have trk:∀b o,H b=some o->b≠a:=λb o q z=>by subst z;rw[hn] at q;cases q
 refine⟨hn,I.un (t':=s.toks) ⟨λb o q n _ _=>k b o q,λb o q n _ _=>⟨o.slots,k b o q⟩,λb o q n _=>by rw[aP (inh b o q)];exact n,λb o q _=>⟨o,k b o q⟩,λb xs q=>by rw[aP (trk b _ q)];exact q,λb o v q=>by rw[aP (trk b _ q)];exact q,λb ps q=>⟨#[],by rw[aP (trk b _ q),q];simp⟩⟩ λb u q=>?_⟩;by_cases z:b=a
 ·subst z;rw[aE] at q;cases q;exact new
 ·rw[aP z] at q;exact(I.hok b u q).stay (λc v hc q'=>k c v q') (λc q'=>by rw[aP (trk c _ q')];exact q') λc xs q'=>by rw[aP (trk c _ q')];exact q'
def xb{x f:Str}{ok:V->Hp->Prop}{C fi:Addr}{fd:FuncData}{ps:List Str}{k:Nat}{bmB:List Value}{B newId initId:String}{E:XK}{e:Expr}{es:List Expr}{t:TA}{np cpos pos:Pos}(R:B5 X E)(O:nT x C fi bmB newId X.mg X.base)(F:ExcBaseFacts B newId initId bmB)
  (G:lU X.prog X.w X.K X.mg X.base uS k fi fd ps (wJ C f ok)) (hty:PySem.W.typeIn X.K (.ref fi)=some (.type "function")) (hkp:PySem.W.keepIn X.K (.ref C)=true) (hb:Binds X.K fd ps []) (hok:∀v H x o,H x=none->ok v H->ok v (bW H x o)) (hr:fg (k+1) X.A) (hg:Gl X x) (ha:PA X (e::es) t)
  (hdb:(x==("__debug__":Str))=false:=by decide) (he:starEach (e::es) X.env=(false,eval e X.env)::starEach es X.env:=by rfl) (hpl:(backTo cpos (starEach es X.env)).any (·.1)=false:=by rfl) :
  PS X (.Raise (some (.Call (.Name x np) (e::es) [] cpos)) none pos) (qu C f ok E t):=by
 intro pins s σ H D I h;obtain⟨bm,N,nm,q,bs,hdct,sn,sub,ab,col,dd,k0,k1,k2,k3,k5,mN,hC,hN,hi,ot⟩:=O.obj;obtain⟨of,hof,hfn⟩:∃of,X.K.lookup fi=some of/\of.cls=.type "function":=by
  have hty':Option.map (λx=>x.cls) (List.lookup fi X.K)=some (.type "function"):=hty;obtain⟨of,h1,h2⟩:=ke.mp hty';exact⟨of,h1,h2⟩
 rw[arm_exec_Raise];refine wpAny_bind (wpAny_standAt (ug (C:=C) (nm:=nm) (q:=q) (N:=N) (bs:=bs) (bm:=bm) (hdct:=hdct) (sn:=sn) (sub:=sub) (ab:=ab) (col:=col) (dd:=dd) (k0:=k0) (k1:=k1) (k2:=k2) (k3:=k3) (k5:=k5) (newId:=newId) (oN F.hasBase ot) hr.hd ?_));refine wpAny_bind (wpAny_mono (Q:=λv z=>∃e dO a0 sl,v=.ref e/\z.heap.get? C=some (excClassObj nm q C N bs bm hdct sn sub ab col dd k0 k1 k2 k3 k5 newId)/\z.heap.get? e=some ⟨.ref C,dO,.fields #[a0,.none,.none,.none,.bool false,.none],sl⟩/\X.xe (.ref e) z) ?_ (λv s3 h3=>wpAny_bind (wpAny_standAt (On h3))) λ_ _ y=>y);refine Ov (ij I hg O.bound ?_ hdb);refine gL (h₀:=X.base) I.ok.mod.kin hkp (dW (ha cpos pins s σ H _ I h) λus s1 ⟨vs,H1,I1,r,v,ev,okv,qE⟩=>⟨I1.kIn,?_⟩) he hpl;subst ev;obtain⟨h1,g1,d1,t1,os1⟩:=s1;have hlen:us.length<=sizeLine:=by rw[<-r.length];show 1<=sizeLine;rw[Os];lia
 refine BK F (kT I1.bk ot) (I1.bk _ _ hC) (oj I1.bk hN) hi (I1.kIn _ _ hof) hfn hlen λhh x0 m=>?_;obtain⟨t0,m1,m2,m3⟩:=m.there;obtain⟨nx,I2⟩:=I1.freshV (o:=gO none C x0) m.new m.keeps (rC (t:=t0) m1);have r2:bj ([V.ref x0,v]++[]) ((Value.ref x0::us)++[]):=bj.append (.cons rfl r) .nil;have sp0:wJ C f ok ([V.ref x0,v]++[]) (bW H1 x0 (gO none C x0)) (λy H3=>y=.non/\∃dx,H1 dx=none/\dx≠x0/\H3=bW (bW (bW H1 x0 (gO none C x0)) dx (.xd [(f,v)])) x0 (gO (some dx) C x0)) E0:=
  ⟨x0,v,rfl,hok _ _ _ _ nx okv,aE,λdx n1 n2=>⟨rfl,dx,by rw[aP n2] at n1;exact n1,n2,rfl⟩⟩
 have hl:((Value.ref x0::us)++[]).length=ps.length:=by rw[<-r2.length];exact G.len _ _ _ _ sp0
 refine Ot (Ou (G.run _ X.stack _ _ ⟨Value.ref x0::us,[]⟩ ((Value.ref x0::us)++[]) ([V.ref x0,v]++[]) _ E0 (hr.make C us []) (I2.env0.make C us []) (hb _ (Value.ref x0::us) I2.kIn hl) r2 sp0) λrs s' hq=>?_);cases rs with
 | error ev=>exact False.elim hq
 | ok fl=>
  cases fl with
  | ret u=>
   obtain⟨y,H3,I3,ry,rfl,dx,n1,n2,rfl⟩:=I2.after hq;obtain⟨t3,o3⟩:=(I3.hok x0 _ aE).1;refine⟨ry,x0,some dx,.ref t3,#[],rfl,I3.bk _ _ hC,o3,R pins σ H1 _ _ _ x0 C (some dx) I1 m.new I3 aE ?_⟩;have e:vW (bW (bW (bW H1 x0 (gO none C x0)) dx (.xd [(f,v)])) x0 (gO (some dx) C x0)) x0=bW H1 dx (.xd [(f,v)]):=by
    funext b;by_cases z:b=x0
    ·subst z;unfold vW;rw[PX rfl,aP (cU n2),nx]
    ·rw[ka z,aP z];by_cases z2:b=dx
     ·subst z2;rw[aE,aE]
     ·rw[aP z2,aP z2,aP z]
   rw[e];exact qE dx n1
  | next=>exact False.elim hq
  | brk=>exact False.elim hq
  | cont=>exact False.elim hq
end
def BJ{prog:Program}{w:World}{A:Around}{E:Value->Shared->Prop}{s:Shared}{K:P5}{a C N:Addr}{o od:Obj}{bs bm bmB:List Value}{nm q:Str}{hdct:Bool}{sn:List Str}{sub:List Value}{ab:Bool}{col:Option Bool}{dd:Option Addr}{k0 k1 k2 k3 k5:Option Value}{B newId:String}{name:Str}{expr:Bool}{v:Value}{Q:Value->Shared->Prop}
  (X:K.In s.heap) (I:PySem.W.InstAt s.heap a o C (some od)) (hga:PySem.W.findIn K (.ref C) "__getattribute__"=some (some (.builtin "BaseException.__getattribute__"))) (hgt:PySem.W.findIn K (.ref C) "__getattr__"=some none)
  (hf:PySem.W.findObj K C (some od) name=some (.value v)) (FB:ExcAttrBase B bmB) (hC:s.heap.get? C=some (excClassObj nm q C N bs bm hdct sn sub ab col dd k0 k1 k2 k3 k5 newId)) (T:OwnTailQ s.heap bmB bm) (hh:PySem.W.handedIn v=true) (hq:Q v { s with toks:=s.toks+1 }) :
  wpAny (model prog w) A (getAttr (.ref a) name expr) Q E s:=by
 obtain⟨h,g,d,t,os⟩:=s;unfold getAttr getAttrBy;refine wpAny_bind (wpAny_mkText (Ox (wpAny_bind (b6 (c6 I) (wpAny_bind (b6 (cn X hga) ?_))))));refine PK (by rfl) ?_;unfold getAttrByItsOwn hookBefore;refine wpAny_bind (wpAny_ite_true (by rfl) (b6 (cn X hgt) (wpAny_bind (PD (Ox ?_)))));unfold callGetattribute boundAndCalled;refine PK (by cases expr<;>rfl) (wpAny_bind (wpAny_of_eq (FB.ga.bind (Value.ref a)) (Ot (PL FB.ga.plain km (PM FB hC T I.at_ I.cls ?_)))));unfold Builtin.«object.__getattribute__»;refine wpAny_bind ?_;unfold slotArgs;refine PK (by rfl) (PK (by rfl) (On ?_));show wpAny _ _ (Bind.bind (Builtin.ObjectAttr.attrName (Value.str name _)) _) _ _ _;refine wpAny_bind ?_;unfold Builtin.ObjectAttr.attrName;refine On ?_;refine wpAny_bind (b6 (c6 I) (wpAny_bind (b6 (jP X I hf) ?_)));refine On ?_;refine j4 hh ?_;exact hq
structure yd (K:P5) (C:Addr) (f:Str):Prop where
 ga:PySem.W.findIn K (.ref C) "__getattribute__"=some (some (.builtin "BaseException.__getattribute__"))
 gt:PySem.W.findIn K (.ref C) "__getattr__"=some none
 no:PySem.W.findIn K (.ref C) f=some none
 hd:PySem.W.hasDictIn K C=true
 own:∃ B bmB,ExcAttrBase B bmB/\∀ h:Heap,K.In h->∃ nm q N bs bm hdct sn sub ab col dd k0 k1 k2 k3 k5 newId,h.get? C=some (excClassObj nm q C N bs bm hdct sn sub ab col dd k0 k1 k2 k3 k5 newId)/\OwnTailQ h bmB bm
def z0(K:P5)(f:Str)(ta:TE):TE:=λσ H Q=>ta σ H λx H1=>∃a C dx v,x=.ref a/\H1 a=some (jW (some dx) C a)/\H1 dx=some (.xd [(f,v)])/\yd K C f/\Q v H1
section
variable {X:Cx}
def C6{e:Expr}{f:Str}{ta:TE}{pos:Pos}(he:PE X e ta)(hb:attributeBase e f X.env (eval e X.env)=eval e X.env):PE X (.Attribute e f pos) (z0 X.K f ta):=by
 intro pins s σ H Q I h;refine DM hb (dW (he pins s σ H _ I h) λu s1 ⟨x,H1,I1,rx,a,C,dx,v,ex,ea,ed,k,q⟩=>?_);subst ex;obtain rfl:u=Value.ref a:=rx;obtain⟨⟨⟨o,o1,o2⟩,o',vs,o3,⟨o4,o5⟩,o6⟩,_⟩:=I1.hok a _ ea;rw[o1] at o3;cases o3;obtain⟨mA,n1,rl⟩:=I1.hok dx _ ed;obtain⟨od,d1,d2⟩:=nL n1;obtain⟨u',hu,ru⟩:=ny.some_of (v:=v) (o:=mA f) (by have:=rl f;simp only[List.lookup,beq_self_eq_true] at this;exact this);obtain⟨B,bmB,FB,ow⟩:=k.own;obtain⟨nm,q0,N,bs,bm,hdct,sn,sub,ab,col,dd,k0,k1,k2,k3,k5,newId,hC,T⟩:=ow s1.heap I1.kIn;have J:PySem.W.InstAt s1.heap a o C (some od):=⟨o1,o2,by unfold PySem.W.notCls;rw[o5],by rw[o4];exact d1⟩
 exact BJ I1.kIn J k.ga k.gt (PySem.W.findObj_own k.hd k.no rfl (by rw[d2,hu])) FB hC T (yL ru) ⟨v,H1,I1.tok _,ru,q⟩
end
def FT{K:P5}{h:Heap}{N:Addr}{m:Str->Option Value}{x:Str}{v:Value}(KX:K.In h)(G:h.Ns N m)(q:PySem.W.nsIn K N x=some (some v)):m x=some v:=by
 obtain⟨o,es,ep,ho,hd,hk,hf⟩:=G;unfold PySem.W.nsIn at q
 revert q
 split
 ·rename_i c d es' n' sl lk;have e1:=KX _ _ lk;rw[ho] at e1;cases e1;cases hd;intro q
  split at q
  ·rename_i en fe;cases q;rw[<-hf];unfold nsFind findBy;rw[<-Array.find?_toList,fe];rfl
  ·split at q<;>cases q
 ·intro q;cases q
def vT{K:P5}{C R N NR fi:Addr}{nm q x f:Str}{bs bmB:List Value}{sn:List Str}{sub:List Value}{ab:Bool}{col:Option Bool}{dd dR:Option Addr}{k0 k1 k2 k3 k5:Option Value}{newId B:String}{cR:Value}{cdR:ClassData}{slR:Array (Option Value)}{mg:Str->Option Value}{base:Heap}
  (KX:K.In base) (G:base.Ns mainGlobals mg) (e0:PySem.W.nsIn K mainGlobals x=some (some (.ref C))) (lkC:K.lookup C=some (excClassObj nm q C N bs (.ref R::bmB) true sn sub ab col dd k0 k1 k2 k3 k5 newId)) (lkR:K.lookup R=some ⟨cR,dR,.cls cdR,slR⟩)
  (nC:PySem.W.nsOkIn K N=true) (iC:PySem.W.nsIn K N "__init__"=some (some (.ref fi))) (eR:cdR.ns=NR) (nR:PySem.W.nsOkIn K NR=true) (r1:PySem.W.nsIn K NR "__init__"=some none) (r2:PySem.W.nsIn K NR "__getattribute__"=some none) (r3:PySem.W.nsIn K NR "__getattr__"=some none) (r4:PySem.W.nsIn K NR "args"=some none)
  (FB:ExcAttrBase B bmB) (ga:PySem.W.findIn K (.ref C) "__getattribute__"=some (some (.builtin "BaseException.__getattribute__"))) (gt:PySem.W.findIn K (.ref C) "__getattr__"=some none) (sa:PySem.W.findIn K (.ref C) "__setattr__"=some (some (.builtin "object.__setattr__"))) (no:PySem.W.findIn K (.ref C) f=some none)
  (hob:(Value.ref C::.ref R::bmB).contains (.type "object")=true) (pass:∀self,refuseLoop self "__setattr__" bmB=pure ()):nT x C fi bmB newId mg base/\yd K C f/\DU K C f:=by
 subst eR;have hcl:∃cd,PySem.W.clsIn K C=some cd/\cd.hasDict=true/\cd.mro=.ref C::.ref R::bmB:=by
  unfold PySem.W.clsIn;rw[lkC];exact⟨_,rfl,rfl,rfl⟩
 obtain⟨cd,c1,c2,c3⟩:=hcl;refine⟨⟨ba KX G e0,?_⟩,⟨ga,gt,no,?_,B,bmB,FB,λh X=>?_⟩,⟨sa,⟨cd,c1,c2,by rw[c3];exact hob,λself=>by rw[c3,refuseLoop_ref,refuseLoop_ref];exact pass self⟩,no⟩⟩
 ·exact⟨_,N,nm,q,bs,true,sn,sub,ab,col,dd,k0,k1,k2,k3,k5,_,KX _ _ lkC,dt (dM KX nC),FT KX (dt (dM KX nC)) iC,.own (KX _ _ lkR) (dt (dM KX nR)) (bP KX nR r1) .base⟩
 ·unfold PySem.W.hasDictIn;rw[c1];exact c2
 ·exact⟨nm,q,N,bs,_,true,sn,sub,ab,col,dd,k0,k1,k2,k3,k5,newId,X _ _ lkC,.own (X _ _ lkR) (dt (dM X nR))
   (AC (bP X nR r1) (bP X nR r2) (bP X nR r3) (bP X nR r4)) .base⟩
def I9:Stmt->Stmt
 | .ClassDef _ _ _ (b::r) _ _ _ _ _ _ _=>b
 | st=>st
structure Ii (K:P5) (R:Addr) (initId:String):Prop where
 rd:PySem.W.readsIn K R (.type "type")=true
 sg:PySem.W.specialIn K (.ref R) "__getattribute__"=some (some (.builtin "type.__getattribute__"))
 fc:PySem.W.findCls K (.ref R) (.type "type") "__init__"=some (.val (.builtin initId))
 hh:PySem.W.handedIn (.builtin initId)=true
def yJ:PySem.W.handedIn (.builtin "ValueError.__init__")=true:=by decide +kernel
structure Fv (P:Program) (w:World) (K:P5) (mg:Str->Option Value) (base:Heap) (k:Nat) (x:Str) (C:Addr) (f:Str) (ok:V->Hp->Prop):Prop where
 ex:∃ fi fd ps bmB newId B initId,nT x C fi bmB newId mg base/\ExcBaseFacts B newId initId bmB/\lU P w K mg base uS k fi fd ps (wJ C f ok)/\PySem.W.typeIn K (.ref fi)=some (.type "function")/\PySem.W.keepIn K (.ref C)=true/\Binds K fd ps []/\∀ (v:V) (H:Hp) (x:Addr) (o:HO),H x=none->ok v H->ok v (bW H x o)
section
variable {X:Cx}
def xZ{xR x:Str}{R C fi:Addr}{bmB:List Value}{B newId initId:String}{e:Expr}{es:List Expr}{t:TA}{p apos pos:Pos}{pl:Sem Bool}(F:ExcBaseFacts B newId initId bmB)(O:nT x C fi bmB newId X.mg X.base)(hmR:X.mg xR=some (.ref R))(u:Ii X.K R initId)(hgR:Gl X xR)(ha:QA X (e::es) t)
  (hdb:(xR==("__debug__":Str))=false:=by decide) (hst:starEach (e::es) X.env=(false,eval e X.env)::starEach es X.env:=by rfl) (hpl:(backTo pos (starEach es X.env)).any (·.1)=false:=by rfl)
  (ht:eval (.Call (.Attribute (.Name xR p) "__init__" apos) (e::es) [] pos) X.env=(do
   let ov <-eval (.Name xR p) X.env
   standAt apos.atName
   let (f,fst) <-holding [ov] (getMethod ov "__init__" pl)
   callWith pos f fst (backTo pos (starEach (e::es) X.env)) (backToKw pos (keywordEach [] X.env))):=by rfl) :
  QE X (.Call (.Attribute (.Name xR p) "__init__" apos) (e::es) [] pos) (uY C t):=⟨AV F O hgR hmR u.rd u.sg u.fc u.hh ha.h hdb hst hpl ht⟩
def AE{o value:Expr}{f:Str}{C:Addr}{pos pos':Pos}{ta tv:TE}(k:DU X.K C f)(ha:QE X o ta)(hv:QE X value tv)(hs:swapsWith value (some (.Attribute o f pos')) pos.line X.env=pure false:=by rfl):QS X (.Assign [.Attribute o f pos'] value pos) (zr C f ta tv):=⟨CV k ha.h hv.h hs⟩
def uh{k:Nat}{x f:Str}{ok:V->Hp->Prop}{C:Addr}{E:XK}{e:Expr}{es:List Expr}{t:TA}{np cpos pos:Pos}(R:B5 X E)(D:Fv X.prog X.w X.K X.mg X.base k x C f ok)(hr:fg (k+1) X.A)(hg:Gl X x)(ha:QA X (e::es) t)
  (hdb:(x==("__debug__":Str))=false:=by decide) (he:starEach (e::es) X.env=(false,eval e X.env)::starEach es X.env:=by rfl) (hpl:(backTo cpos (starEach es X.env)).any (·.1)=false:=by rfl) :
  QS X (.Raise (some (.Call (.Name x np) (e::es) [] cpos)) none pos) (qu C f ok E t):=by
 obtain⟨fi,fd,ps,bmB,newId,B,initId,O,F,G,ty,kp,b,hok⟩:=D.ex;exact⟨xb R O F G ty kp b hok hr hg ha.h hdb he hpl⟩
def AH{e:Expr}{f:Str}{ta:TE}{pos:Pos}(he:QE X e ta)(hb:attributeBase e f X.env (eval e X.env)=eval e X.env:=by rfl):QE X (.Attribute e f pos) (z0 X.K f ta):=⟨C6 he.h hb⟩
end
section
variable {σ:St} {H:Hp} {Q:VK} {D:Ends}
def Bh{C:Addr}{t:TA}:uY C t σ H Q=t σ H λvs H1=>∃e v,vs=[.ref e,v]/\H1 e=some (gO none C e)/\Q .non H1:=rfl
def Dt{C:Addr}{f:Str}{ta tv:TE}:zr C f ta tv D σ H=tv σ H λy H1=>ta σ H1 λx H2=>∃e,x=.ref e/\H2 e=some (gO none C e)/\∀dx,H2 dx=none->dx≠e->D.nx σ (bW (bW H2 dx (.xd [(f,y)])) e (gO (some dx) C e)):=rfl
def yt{C:Addr}{f:Str}{ok:V->Hp->Prop}{E:XK}{t:TA}:qu C f ok E t D σ H=t σ H λvs H1=>∃v,vs=[v]/\ok v H1/\∀dx,H1 dx=none->E (.ref C) (some dx) (bW H1 dx (.xd [(f,v)])):=rfl
def Dy{K:P5}{f:Str}{ta:TE}:z0 K f ta σ H Q=ta σ H λx H1=>∃a C dx v,x=.ref a/\H1 a=some (jW (some dx) C a)/\H1 dx=some (.xd [(f,v)])/\yd K C f/\Q v H1:=rfl
end
def A6{P:Program}{w:World}{K:P5}{mg:Str->Option Value}{base:Heap}{N:List Str}{qual:Str}{scope:Scope}{f:Addr}{cd:Value}{A:Around}{outer:List Env}{s0:Shared}{H0:Hp}{E:XK}:
  sB (nG P w) (iY (nG P w) P w K mg base N qual scope f cd A outer s0 H0 E) E:=by
 intro pins σ H s e s' I hc;generalize hX:iY (nG P w) P w K mg base N qual scope f cd A outer s0 H0 E=X at I hc ⊢;have hst:X.stack=X.env::X.outer:=by rw[<-hX];rfl
 have hfr:X.env.frame=some X.env.locals:=by rw[<-hX];rfl
 have hxe:X.xe=λe s'=>wpAny (model X.prog X.w) X.A (leaving X.env e) (λ_ s''=>nG X.prog X.w X.outer X.H₀ X.s₀ E e s'') (λe' s''=>nG X.prog X.w X.outer X.H₀ X.s₀ E e' s'') s':=by rw[<-hX];rfl
 have hex:X.ex=[]:=by rw[<-hX];rfl
 have hP:X.prog=P:=by rw[<-hX];rfl
 have hw:X.w=w:=by rw[<-hX];rfl
 have hfs:j3 X.stack=X.env.locals::X.fs:=by rw[hst];unfold j3;rw[c8,hfr];rfl
 clear hX;subst hP hw;rw[hxe];obtain⟨a,C,t,H',B,dO,rfl,os,bare,un,hok,f1,cov,ct,hE⟩:=hc;refine gH (dj.leave (e:=a)) ct ?_;refine wpAny_leaves_onW (base:=B) (outer:=X.outer) (L:=X.env.locals) (by rw[I.ok.frames,hst]) hfr (hst▸f1) λh2 f4 up ct2=>?_;have lt0:∀b o,X.s₀.heap.get? b=some o->b≠X.env.locals:=λb o e1=>aV (aT (aJ e1) I.ok.above);have out:∀b o,X.s₀.heap.get? b=some o->b∉X.fs->b∉j3 X.stack:=λb o e1 e2 z=>by
  rw[hfs] at z;exact(aI.mp z).elim (lt0 b o e1) e2
 have mem:∀b,b∈X.fs->b∈j3 X.stack:=λb m=>by rw[hfs];exact aN _ m
 have same:∀b o ob,B.get? b=some ob->s'.heap.get? b=some o->h2.get? b=some o:=λb o ob e e1=>by
  have e2:=f1.1 b ob e;rw[e1] at e2;cases e2;exact f4.1 b o e
 have fr:∀b o,s'.heap.get? b=some o->b∈j3 X.stack->∃sl,h2.get? b=some { o with slots:=sl }:=λb o e m=>by
  obtain⟨_,o1,e1,nf⟩:=f1.2.2.1.mem m;rw[e] at e1;cases e1;exact up b o e nf
 have u:=I.base;rw[hex] at u;refine⟨a,C,t,H',B,dO,rfl,os.trans I.os,bare,⟨λb o e1 e2 e3 e4=>?_,λb o e1 e2 e3 e4=>?_,λb o e1 e2 e4=>?_,λb o e1 e2=>?_,λb xs e1=>?_,λb o v e1=>?_,λb ps e1=>?_⟩,λb o e1=>?_,f4,⟨λb o e1 e2=>?_,cov.trk⟩,ct2,hE⟩
 ·have k1:=u.keep b o e1 e2 e3 e4;have n1:=out b o e1 e3;have k2:=un.keep b o k1 (u.free b o e1 e2 e4) n1 (by simp);obtain⟨ob,q⟩:=cov.old b o k1 n1;exact same b o ob q k2
 ·obtain⟨sl,q⟩:=u.slot b o e1 e2 e3 e4;obtain⟨sl1,q1⟩:=un.slot b _ q (u.free b o e1 e2 e4) (mem b e3) (by simp);obtain⟨sl2,q2⟩:=fr b _ q1 (mem b e3);exact⟨sl2,q2⟩
 ·obtain⟨o',q⟩:=u.there b o e1 e4;exact un.free b o' q (u.free b o e1 e2 e4) (by simp)
 ·obtain⟨o',q⟩:=u.there b o e1 e2;obtain⟨o2,q2⟩:=un.there b o' q (by simp);by_cases m:b∈j3 X.stack
  ·obtain⟨sl,q'⟩:=fr b o2 q2 m;exact⟨_,q'⟩
  ·obtain⟨ob,q'⟩:=cov.old b o' q m;exact⟨_,f4.1 b ob q'⟩
 ·exact un.tups b xs (u.tups b xs e1)
 ·exact un.frzs b o v (u.frzs b o v e1)
 ·obtain⟨m1,q1⟩:=u.tbls b ps e1;obtain⟨m2,q2⟩:=un.tbls b _ q1;exact⟨m1++m2,by rw[q2,Array.append_assoc]⟩
 ·refine(hok b o e1).stay (λc v hc q=>?_) (λ_ q=>q) λ_ _ q=>q;obtain⟨ob,q'⟩:∃ob,B.get? c=some ob:=by
   rcases hc with r | r
   ·rw[r];exact cov.trk b o e1
   ·exact cov.trk c _ r
  exact same c v ob q' q
 ·obtain⟨o',q⟩:=u.there b o e1 (by simp);exact cov.old b o' q (out b o e1 e2)
section
variable {P:Program} {w:World} {K:P5} {mg:Str->Option Value} {base:Heap} {N:List Str} {qual:Str} {scope:Scope} {f:Addr} {cd:Value} {A:Around} {outer:List Env} {s0:Shared} {H0:Hp} {E:XK}
def uk{k:Nat}{x:Str}{st:Stmt}{ps:List Str}{sp:Sp}{e:Expr}{es:List Expr}{t:TA}{p pos:Pos}(D:uO P w K mg base k x st ps sp)(hr:fg k (iY (nG P w) P w K mg base N qual scope f cd A outer s0 H0 E).A)(hg:Gl (iY (nG P w) P w K mg base N qual scope f cd A outer s0 H0 E) x)
  (ha:QA (iY (nG P w) P w K mg base N qual scope f cd A outer s0 H0 E) (e::es) t) (hdb:(x==("__debug__":Str))=false:=by decide)
  (he:starEach (e::es) (iY (nG P w) P w K mg base N qual scope f cd A outer s0 H0 E).env=(false,eval e (iY (nG P w) P w K mg base N qual scope f cd A outer s0 H0 E).env)::starEach es (iY (nG P w) P w K mg base N qual scope f cd A outer s0 H0 E).env:=by rfl)
  (hpl:(backTo pos (starEach es (iY (nG P w) P w K mg base N qual scope f cd A outer s0 H0 E).env)).any (·.1)=false:=by rfl) :
  QE (iY (nG P w) P w K mg base N qual scope f cd A outer s0 H0 E) (.Call (.Name x p) (e::es) [] pos) (nW sp [] E t):=by
 obtain⟨g,fd,F,m,b,G⟩:=D.ex;exact⟨w4 (X:=iY (nG P w) P w K mg base N qual scope f cd A outer s0 H0 E) G hr hg m F.kp b .nil A6 ha.h hdb he hpl⟩
end
end L2
namespace Rm
open PySem L2
structure View where
 φ:Hp->Hp
 ok:Hp->Prop
 new:∀ {H t o},ok H->H t=none->ok (bW H t o)/\aW (φ H) (φ (bW H t o))/\φ (bW H t o) t=some o
def View.all:View:=⟨id,λ_=>True,λ_ h=>⟨trivial,(aW.refl _).new h,aE⟩⟩
def View.but(m:Addr):View:=⟨λH=>wo H m,λH=>∃o,H m=some o,fun {H t o} ⟨u,hu⟩ h=>⟨⟨u,by rw[aP (bJ hu h)];exact hu⟩,Dq h,GG (bJ hu h).symm aE⟩⟩
structure DE (w:View) (σ:St) (H0:Hp) (te:TE) (d:PyData):Prop where
 run:∀ (H:Hp) (Q:VK),w.ok H->aW H0 H->aW (w.φ H0) (w.φ H)->(∀ x H',w.ok H'->aW H H'->aW (w.φ H) (w.φ H')->Dat (w.φ H') x d->Q x H')->te σ H Q
structure DA (w:View) (σ:St) (H0:Hp) (ta:TA) (ds:List PyData):Prop where
 run:∀ (H:Hp) (Q:List V->Hp->Prop),w.ok H->aW H0 H->aW (w.φ H0) (w.φ H)->(∀ xs H',w.ok H'->aW H H'->aW (w.φ H) (w.φ H')->fk (w.φ H') xs ds->Q xs H')->ta σ H Q
def DG{H:Hp}{xs:List V}{ds:List PyData}{i:Int}(h:fk H xs ds)(h0:0<=i)(h1:i<ds.length):∃v d,nw xs i=some v/\d∈ds/\Dat H v d:=by
 have hi:i.toNat<xs.length:=by rw[h.len];lia
 obtain⟨d,hd,hv⟩:=h.get (aL hi);refine⟨_,d,?_,bG hd,hv⟩;have:=iq (xs:=xs) (j:=i.toNat) (aL hi)
 rwa [Int.toNat_of_nonneg h0] at this
end Rm
namespace L2
open PySem PySem.Spec PyProof.Rows
def xQ(z:Str)(n:Nat):Str:=⟨(List.replicate n z.cps).foldl (·++·) #[]⟩
def Gg:R2:=λx y H Q=>∃(z:Str) (n:Nat),x=.str z/\y=.int n/\n<=1000/\1<=z.length/\z.length<=1000/\z.length*n<=1000/\(xQ z n).length<=1000/\Q (.str (xQ z n)) H
def Ci{X:Cx}:j5 X (binaryOp .Mult) Gg:=by
 intro pins s σ H x y v u Q I rx ry h;obtain⟨z,n,rfl,rfl,h3,h4,h5,h6,h7,q⟩:=h;obtain⟨t,rfl⟩:=rx;obtain⟨t',rfl⟩:=ry;refine PySem.P.mul_str (by rw[PZ (by lia),PZ (by lia)];rfl) (λ_ _=>?_) (λ_ _=>?_) ?_
 ·have:(1000:Int)<=(2 ^ 63 - 1) / (n:Int):=by
   rw[Int.le_ediv_iff_mul_le (by lia)];lia
  lia
 ·unfold Builtin.Str.tooLong;exact PZ (by have:=bU h6;simp;lia)
 ·match n,h3,h6,h7,q with
  | 0,_,_,_,q=>
   rw[PX (by decide)];exact⟨by decide,.str Str.empty,H,I.tok _,⟨_,rfl⟩,q⟩
  | 1,_,_,_,q=>
   rw[PV (by decide),PX (by simp)];have e:xQ z 1=z:=by
    obtain⟨c⟩:=z;show Str.mk (#[]++c)=_;rw[Array.empty_append]
   rw[e] at q;exact⟨.str z,H,I,⟨_,rfl⟩,q⟩
  | n+2,h3,h6,h7,q=>
   have e1:(((n+2:Nat):Int)==1 || z.length==0)=false:=by
    rw[Bool.or_eq_false_iff];exact⟨by simp;lia,by simp;lia⟩
   rw[PV (by lia),PV (by rw[e1];exact λz=>nomatch z)];exact⟨bI (bU h7),.str (xQ z (n+2)),H,I.tok _,⟨_,rfl⟩,q⟩
end L2
namespace Rm
open PySem L2
abbrev pR (cs:List Nat):Prop:=∀c∈cs,pZ c
def IM(b:Bool):Nat:=if b then 114 else 108
def bL(b:Bool):List Int:=if b then [] else [0]
def bR(b:Bool):List Int:=if b then [0] else []
def By(b:Bool):mZ (IM b)=(bL b,bR b):=by cases b<;>rfl
def JT(b:Bool):sd b=⟨#[IM b]⟩:=by cases b<;>decide +kernel
def oX{b:Bool}{cs:List Nat}(hl:pR cs)(h:fT (bL b) (bR b) cs 0=none):∀i,i<=cs.length->∃L R,Run b cs i L R/\fT L R (cs.drop i) i=none
 | 0,_=>⟨_,_,Run.zero b cs,by rw[List.drop_zero];exact h⟩
 | i+1,hi=>by
  obtain⟨L,R,r,e⟩:=oX hl h i (by lia);have hc:cs[i]? = some cs[i]:=aL (by lia);have lt:=hl _ (bG hc);rw[aw (by lia:i<cs.length)] at e;cases g:lm L R cs[i] with
  | none=>rw[oE g] at e;cases e
  | some p=>
   obtain⟨L',R'⟩:=p;rw[oF g] at e;exact⟨L',R',r.step hc lt g,e⟩
def wV{b:Bool}{cs:List Nat}(hl:pR cs)(h:fT (bL b) (bR b) cs 0=none):∃L R,Run b cs cs.length L R/\L.length+R.length=1:=by
 obtain⟨L,R,r,e⟩:=oX hl h cs.length (aH _);rw[List.drop_length] at e;refine⟨L,R,r,?_⟩;unfold fT at e
 split at e
 ·assumption
 ·cases e
def E7{b:Bool}{cs:List Nat}(hl:pR cs)(h:fT (bL b) (bR b) cs 0=none)(k:Bool)(i:Nat)(hi:i<cs.length)(hk:isIn k (cs.getD i 0)=false):(stN k b cs i).1≠[]:=by
 obtain⟨L,R,r,e⟩:=oX hl h i (by lia);have hc:cs[i]? = some cs[i]:=aL (by lia);have lt:=hl _ (bG hc);rw[aw (by lia:i<cs.length)] at e;have eg:cs.getD i 0=cs[i]:=by rw[bf,hc];rfl
 rw[eg] at hk;cases g:lm L R cs[i] with
 | none=>rw[oE g] at e;cases e
 | some p=>
  obtain⟨L',R'⟩:=p;obtain⟨n1,n2,_,_⟩:=pH lt g;cases k
  ·exact c7.mp (by rw[r.ll];exact c7.mpr (n1 hk))
  ·exact c7.mp (by rw[r.rl];exact c7.mpr (n2 hk))
def CC{b:Bool}{cs:List Nat}(hl:pR cs)(h:fT (bL b) (bR b) cs 0=none):Do cs.length b (fin2 b cs):=by
 obtain⟨L,R,r,_⟩:=wV hl h;exact F1 λk=>by cases k;exact r.li;exact r.ri
structure lq (kvs:List (Key×V)) (n:Nat) (m:Nat->Option Nat):Prop where
 get:∀ r,r<=n->i9 kvs (.inl (r:Int):Key)=(m r).map fun x=>V.int (x:Nat)
 len:kvs.length<=100
def lq.nil{n:Nat}:lq [] n (λ_=>none):=⟨λ_ _=>rfl,by decide⟩
def ordF(f:Bool->Nat->Option Nat)(b:Bool)(n:Nat):List Int:=(List.range n).map λi=>((pth f b (i+1)).1:Int)
def lq.put{kvs:List (Key×V)}{n a b:Nat}{m:Nat->Option Nat}(h:lq kvs n m)(hl:kvs.length<100):lq (putK kvs (.inl (a:Int):Key) (.int (b:Nat))) n (λx=>if x=a then some b else m x):=by
 refine⟨λr hr=>?_,by have:=eW kvs (.inl (a:Int):Key) (.int (b:Nat));lia⟩;rw[zO];by_cases e:r=a
 ·subst e;rw[PX rfl,PX rfl];rfl
 ·have ne:¬((.inl (r:Int):Key)=.inl (a:Int)):=λz=>e (by have:=Sum.inl.inj z;lia);rw[PV ne,PV e];exact h.get r hr
def lq.congr{kvs:List (Key×V)}{n:Nat}{m m':Nat->Option Nat}(h:lq kvs n m)(e:∀x,x<=n->m x=m' x):lq kvs n m':=⟨λr hr=>by rw[h.get r hr,e r hr],h.len⟩
def An{m:Nat->Option Nat}{a o:Nat}(h:o≠a):(λx=>if x=a then some o else (λx=>if x=o then some a else m x) x)=ko m a o:=by
 funext x;unfold ko;rfl
def wB(k b:Bool)(cs:List Nat):∀i,(stN k b cs i).1.length<=i+1
 | 0=>by unfold stN ye;dsimp only;split<;>simp
 | i+1=>by
  have:=wB k b cs i;show (sO k _ _ _).1.length<=_;rw[qx]
  split<;>lia
def AJ{f:Bool->Nat->Option Nat}{b:Bool}(i:Nat):(pth f b (i+1)).2=!(pth f b i).2:=rfl
def xk{f:Bool->Nat->Option Nat}{b:Bool}(i:Nat):ordF f b (i+1)=ordF f b i++[((pth f b (i+1)).1:Int)]:=by unfold ordF;rw[dc,a6];rfl
def A9{f:Bool->Nat->Option Nat}{b:Bool}(i:Nat):(ordF f b i).length=i:=by simp[ordF]
def Fl{n:Nat}{b:Bool}{f:Bool->Nat->Option Nat}{T T':Nat}(V:Bd n b f T)(e:(pth f b T).1=n+1)(V':Bd n b f T')(e':(pth f b T').1=n+1):T=T':=by
 rcases Nat.lt_trichotomy T T' with h | h | h
 ·have:=V'.le T h;lia
 ·exact h
 ·have:=V.le T' h;lia
def SS(b:Bool)(cs:List Nat)(u:Bool)(i:Nat):B4:=if i<=cs.length then stN u b cs i else ([],fin2 b cs u)
def wF:Sp:=λvs H Q _=>∃(b:Bool) (cs:List Nat),vs=[.str (sd b),.str (tx cs)]/\pR cs/\cs.length<=20/\fT (bL b) (bR b) cs 0=none ∧
 ∀o T H',aW H H'->1<=T->Bd cs.length b (fin2 b cs) T->(pth (fin2 b cs) b T).1=cs.length+1->H' o=some (.tup ((ordF (fin2 b cs) b (T - 1)).map V.int))->Q (.ref o) H'
structure OS (H:Hp) (ls lr:Addr) (A D:Bool->Addr):Prop where
 l:H ls=some (.lst [.ref (A false),.ref (A true)])
 r:H lr=some (.lst [.ref (D false),.ref (D true)])
structure uL (H:Hp) (A D:Bool->Addr) (b:Bool) (cs:List Nat) (u:Bool) (i:Nat):Prop where
 st:H (A u)=some (.lst (kn (SS b cs u i).1))
 rw:∃ kk,H (D u)=some (.dK kk)/\kk.length<=2 * i/\lq kk cs.length (SS b cs u i).2
 le:∀ x∈(SS b cs u i).1,x<=i
structure DQ (ls lr:Addr) (A D:Bool->Addr):Prop where
 aa:A false≠A true
 dd:D false≠D true
 ad:∀ u v,A u≠D v
 la:∀ u,ls≠A u
 ld:∀ u,ls≠D u
 ra:∀ u,lr≠A u
 rd:∀ u,lr≠D u
def DR{b:Bool}{cs:List Nat}{u:Bool}{i c:Nat}(h:cs[i]? = some c):SS b cs u i=stN u b cs i/\SS b cs u (i+1)=sO u (SS b cs u i) (i+1) c:=by
 have hi:=(aR.mp h).1;unfold SS;rw[PX (by lia),PX (by lia)];refine⟨rfl,?_⟩;show sO u _ _ _=_;rw[bf,h];rfl
def ro{b:Bool}{cs:List Nat}{u:Bool}:SS b cs u cs.length=stN u b cs cs.length/\SS b cs u (cs.length+1)=([],fin2 b cs u):=by
 unfold SS;rw[PX (aH _),PV (by lia)];exact⟨rfl,rfl⟩
def DB{b:Bool}{cs:List Nat}{u:Bool}{o:Nat}(h:(stN u b cs cs.length).1=[o]):∀x,x<=cs.length->(λx=>if x=cs.length+1 then some o else (λx=>if x=o then some (cs.length+1) else (stN u b cs cs.length).2 x) x) x=fin2 b cs u x:=λx hx=>by
 unfold fin2 rg;rw[h];dsimp only;rw[PV (by lia)];simp
def BI{b:Bool}{cs:List Nat}{u:Bool}(h:(stN u b cs cs.length).1=[]):fin2 b cs u=(stN u b cs cs.length).2:=by
 funext x;unfold fin2 rg;rw[h];simp
def Ae{b:Bool}{cs:List Nat}{u:Bool}(hl:pR cs)(h:fT (bL b) (bR b) cs 0=none):(stN u b cs cs.length).1=[]\/∃o,(stN u b cs cs.length).1=[o]:=by
 obtain⟨L,R,r,e⟩:=wV hl h;have hz:(stN u b cs cs.length).1.length<=1:=by cases u;rw[r.ll];lia;rw[r.rl];lia
 match hh:(stN u b cs cs.length).1 with
 | []=>exact .inl rfl
 | [o]=>exact .inr ⟨o,rfl⟩
 | _::_::_=>rw[hh] at hz;simp at hz
section
variable {H:Hp} {ls lr:Addr} {A D:Bool->Addr} {b:Bool} {cs:List Nat} {u v:Bool} {i:Nat} {o:HO}
def DQ.av(S:DQ ls lr A D)(h:v≠u):A v≠A u:=by
 have:=S.aa;cases u<;>cases v<;>first | exact absurd rfl h | exact this | exact this.symm
def DQ.dv(S:DQ ls lr A D)(h:v≠u):D v≠D u:=by
 have:=S.dd;cases u<;>cases v<;>first | exact absurd rfl h | exact this | exact this.symm
def OS.updA(S:DQ ls lr A D)(h:OS H ls lr A D):OS (bW H (A u) o) ls lr A D:=⟨by rw[aP (S.la u)];exact h.l,by rw[aP (S.ra u)];exact h.r⟩
def OS.updD(S:DQ ls lr A D)(h:OS H ls lr A D):OS (bW H (D u) o) ls lr A D:=⟨by rw[aP (S.ld u)];exact h.l,by rw[aP (S.rd u)];exact h.r⟩
def uL.updA(S:DQ ls lr A D)(hv:v≠u)(h:uL H A D b cs v i):uL (bW H (A u) o) A D b cs v i:=
 ⟨by rw[aP (S.av hv)];exact h.st,let ⟨kk,a,c⟩:=h.rw;⟨kk,by rw[aP (S.ad u v).symm];exact a,c⟩,h.le⟩
def uL.updD(S:DQ ls lr A D)(hv:v≠u)(h:uL H A D b cs v i):uL (bW H (D u) o) A D b cs v i:=
 ⟨by rw[aP (S.ad v u)];exact h.st,let ⟨kk,a,c⟩:=h.rw;⟨kk,by rw[aP (S.dv hv)];exact a,c⟩,h.le⟩
end
def F9 {u:Bool} {c:Nat} (h:pZ c):(Builtin.Str.occurrences (if u then Str.ofString "bd" else Str.ofString "cd") ⟨#[c]⟩ 0 (if u then Str.ofString "bd" else Str.ofString "cd").length 1).isEmpty=isIn u c:=by
 cases u<;>rcases h with rfl | rfl | rfl | rfl<;>decide +kernel
def qG:Sp:=λvs H Q _=>∃(a:Addr) (L R:List Int),vs=[.ref a]/\fM H a L R/\EE L R/\1<L.length+R.length/\L.length+R.length<=100/\∀best H',aW H H'->B6 (L++R.reverse) L.length best->Q (.str ⟨#[y8 L.length best]⟩) H'
def Bb(L:List Int)(p i:Nat)(v:V):Prop:=(v=.non/\∀k,k<i->¬pJ L k)\/∃best:Nat,v=.int best/\pJ L best/\∀k,k<i->pJ L k->((best:Int)-p).natAbs<=((k:Int)-p).natAbs
def BY{tc:TT}{σ:L2.St}{H:Hp}{C0:Bool->Hp->Prop}(P:Bool->Hp->Prop)(h:∀C:Bool->Hp->Prop,(∀k H',P k H'->C k H')->tc σ H C)(hk:∀k H',P k H'->C0 k H'):tc σ H C0:=h C0 hk
def Aq{cs:List Nat}{c:Nat}(h:pR cs)(hc:pZ c):pR (cs++[c]):=λx hx=>by
 rcases aQ.mp hx with h1 | h1
 ·exact h x h1
 ·simp at h1;subst h1;exact hc
def DO (r:Int):∃c:Nat,nw (Str.ofString "abcd").cps.toList (r % 4)=some c/\pZ c:=by
 have h:r % 4=0\/r % 4=1\/r % 4=2\/r % 4=3:=by lia
 rcases h with e | e | e | e<;>rw[e]
 ·exact⟨97,by decide +kernel,.inl rfl⟩
 ·exact⟨98,by decide +kernel,.inr (.inl rfl)⟩
 ·exact⟨99,by decide +kernel,.inr (.inr (.inl rfl))⟩
 ·exact⟨100,by decide +kernel,.inr (.inr (.inr rfl))⟩
def B2(p best:Nat):pZ (y8 p best):=by
 unfold y8
 split
 ·exact .inr (.inr (.inr rfl))
 ·split
  ·exact .inr (.inr (.inl rfl))
  ·exact .inr (.inl rfl)
def oG(w:List Nat):∀n,xQ (tx w) n=tx ((List.replicate n w).flatten)
 | 0=>rfl
 | n+1=>by
  have h:∀(l:List (Array Nat)) (a:Array Nat),l.foldl (·++·) a=a++l.foldl (·++·) #[]:=by
   intro l
   induction l with
   | nil=>intro a;simp
   | cons x l ih=>intro a;rw[gE,gE,ih (a++x),ih (#[]++x)];simp
  have ih:=oG w n;unfold xQ at ih ⊢;rw[fu,gE,h];have e:=congrArg Str.cps ih;dsimp only at e;rw[e,fu,j9,<-qr];show Str.mk _=Str.mk _;simp
def CF(w:List Nat)(n:Nat):((List.replicate n w).flatten).length=n*w.length:=by induction n with
 | zero=>simp
 | succ n ih=>rw[fu,j9,bQ,ih,Nat.succ_mul];lia
def CD{w:List Nat}(h:pR w)(n:Nat):pR ((List.replicate n w).flatten):=λx hx=>by
 obtain⟨l,h1,h2⟩:=List.mem_flatten.mp hx;rw[List.eq_of_mem_replicate h1] at h2;exact h x h2
abbrev Oe:=Int×Int
def chain:Bool->List Int->Bool->List Bw
 | s,a::b::rest,t=>(if (!s)=t then [(min a b,max a b)] else [])++chain (!s) (b::rest) t
 | _,_,_=>[]
def eS(s:Bool)(R:List Int):Bool:=s ^^ odd R.length
def wu(R:List Int):Int:=R.head?.getD 0
def ltZ(R:List Int):Int:=R.getLast?.getD 0
def oy(s:Bool)(a:Int)(R:List Int):eS s (a::R)=eS (!s) R:=by
 unfold eS;rw[cM,jM];cases s<;>cases odd R.length<;>rfl
def vK(s:Bool)(R:List Int)(r:Int):eS s (R++[r])=!eS s R:=by
 unfold eS;rw[bQ,fL,jM];cases s<;>cases odd R.length<;>rfl
def Ar(R:List Int)(r:Int):ltZ (R++[r])=r:=by simp[ltZ]
def As(a b:Int)(R:List Int):ltZ (a::b::R)=ltZ (b::R):=by simp[ltZ]
def wr(R:List Int):wu R.reverse=ltZ R:=by simp[wu,ltZ]
def rR(R:List Int):ltZ R.reverse=wu R:=by simp[wu,ltZ]
def wt{R S:List Int}(h:R≠[]):wu (R++S)=wu R:=by cases R with | nil=>exact absurd rfl h | cons a R=>rfl
def wb{R S:List Int}(h:S≠[]):ltZ (R++S)=ltZ S:=by
 unfold ltZ;rw[List.getLast?_append];cases e:S.getLast? with
 | none=>exact absurd (List.getLast?_eq_none_iff.mp e) h
 | some x=>rfl
def mQ:∀{R:List Int} (s:Bool) (r:Int) (S:List Int) (t:Bool),R≠[]->chain s (R++r::S) t=chain s R t++(if eS s R=t then [(min (ltZ R) r,max (ltZ R) r)] else [])++chain (eS s R) (r::S) t
 | [a],s,r,S,t,_=>by
  show (if (!s)=t then [(min a r,max a r)] else [])++chain (!s) (r::S) t=[]++_++_;have e:eS s [a]=!s:=by cases s<;>rfl
  rw[e];rfl
 | a::b::R,s,r,S,t,_=>by
  show (if (!s)=t then [(min a b,max a b)] else [])++chain (!s) ((b::R)++r::S) t=((if (!s)=t then [(min a b,max a b)] else [])++chain (!s) (b::R) t)++_++_;rw[mQ (!s) r S t (by simp),oy s a (b::R),As];simp only[b9]
def chain_snoc{R:List Int}(s:Bool)(r:Int)(t:Bool)(h:R≠[]):chain s (R++[r]) t=chain s R t++(if eS s R=t then [(min (ltZ R) r,max (ltZ R) r)] else []):=by
 rw[mQ s r [] t h];show _++[]=_;rw[cK]
def nP:∀(R:List Int) (s t:Bool),(chain (eS s R) R.reverse t).Perm (chain s R t)
 | [],_,_=>.refl _
 | [a],s,t=>.refl _
 | a::b::R,s,t=>by
  have ih:=nP (b::R) (!s) t;rw[List.reverse_cons,oy,chain_snoc _ _ _ (by simp)];have e:eS (eS (!s) (b::R)) (b::R).reverse=!s:=by
   unfold eS;rw[eK];cases s<;>cases odd (b::R).length<;>rfl
  rw[e,rR];show (chain (eS (!s) (b::R)) (b::R).reverse t++(if (!s)=t then [(min b a,max b a)] else [])).Perm ((if (!s)=t then [(min a b,max a b)] else [])++chain (!s) (b::R) t);rw[Int.min_comm b a,Int.max_comm b a];exact cO.trans (ih.append_left _)
structure Pc where
 lab:Int
 rows:List Int
 s:Bool
 main:Bool
def Pc.fst(p:Pc):Oe×Bool:=((wu p.rows,p.lab),p.s)
def Pc.lst(p:Pc):Oe×Bool:=((ltZ p.rows,p.lab),eS p.s p.rows)
def Pc.more(p:Pc):List (Oe×Bool):=if p.main then [] else [p.fst]
def Pc.ends(p:Pc):List (Oe×Bool):=p.lst::p.more
def Pc.rev(p:Pc):Pc:={ p with rows:=p.rows.reverse,s:=eS p.s p.rows }
def Pc.bows(t:Bool)(p:Pc):List Bw:=chain p.s p.rows t
def rE(p:Pc):p.rev.lst=p.fst:=by
 show ((ltZ p.rows.reverse,p.lab),eS (eS p.s p.rows) p.rows.reverse)=((wu p.rows,p.lab),p.s)
 rw[rR];congr 1;unfold eS;rw[eK];cases p.s<;>cases odd p.rows.length<;>rfl
def CA(p:Pc):p.rev.fst=p.lst:=by
 show ((wu p.rows.reverse,p.lab),eS p.s p.rows)=_;rw[wr];rfl
def d9(st:Bool->List Oe):List (Oe×Bool):=(st false).map (·,false)++(st true).map (·,true)
def k9{st:Bool->List Oe}{t:Bool}{st':List Oe}{e:Oe}(h:st t=st'++[e]):(d9 st).Perm ((e,t)::d9 λu=>if u=t then st' else st u):=by
 unfold d9;cases t with
 | false=>
  simp only[h,P3,Bool.true_eq_false,P4,a6,ae,dy,b9,fj,gD];exact cV
 | true=>
  simp only[h,P3,dP,P4,a6,ae,dy];rw[<-b9];exact cO
def lM{st:Bool->List Oe}{t:Bool}{e:Oe}:(d9 λu=>if u=t then st u++[e] else st u).Perm ((e,t)::d9 st):=by
 have h:=k9 (st:=λu=>if u=t then st u++[e] else st u) (t:=t) (st':=st t) (e:=e) (by simp);refine h.trans ?_;have:(λu=>if u=t then st t else if u=t then st u++[e] else st u)=st:=by
  funext u;by_cases z:u=t
  ·simp[z]
  ·simp[z]
 rw[this]
structure pw (st:List Oe) (f:List Bw) (r:Nat):Prop where
 inc:st.Pairwise fun a b=>a.1<b.1
 low:∀ e∈st,0<=e.1/\e.1<r
 bow:∀ p∈f,0<=p.1/\p.1<p.2/\p.2<r
 nc:∀ p∈f,∀ q∈f,df p q=false
 un:∀ p∈f,∀ e∈st,¬ (p.1<e.1/\e.1<p.2)
def pw.push{st:List Oe}{f:List Bw}{r:Nat}(S:pw st f r)(l:Int):pw (st++[((r:Int),l)]) f (r+1):=by
 refine⟨iQ.mpr ⟨S.inc,by simp,λa ha b hb=>?_⟩,λe h=>?_,λp h=>by have:=S.bow p h;lia,S.nc,λp hp e h=>?_⟩
 ·have e:b=((r:Int),l):=by simpa using hb
  subst e;exact(S.low a ha).2
 ·rcases aQ.mp h with z | z
  ·have:=S.low e z;lia
  ·have e':e=((r:Int),l):=by simpa using z
   subst e';simp only;lia
 ·rcases aQ.mp h with z | z
  ·exact S.un p hp e z
  ·have e':e=((r:Int),l):=by simpa using z
   subst e';have:=S.bow p hp;simp only;lia
def pw.close{st:List Oe}{f:List Bw}{r:Nat}{o l:Int}(S:pw (st++[(o,l)]) f r):pw st (f++[(o,(r:Int))]) (r+1):=by
 have ho:=S.low (o,l) (by simp);simp only at ho;have low:∀e∈st,e.1<o:=λe he=>(iQ.mp S.inc).2.2 e he (o,l) (by simp);have cr:∀p q:Bw,(¬(p.1<q.1/\q.1<p.2/\p.2<q.2))->df p q=false:=λp q h=>by
  unfold df;by_cases a:p.1<q.1
  ·by_cases b:q.1<p.2
   ·have c:¬p.2<q.2:=λc=>h ⟨a,b,c⟩;simp[c]
   ·simp[b]
  ·simp[a]
 refine⟨(iQ.mp S.inc).1,λe h=>by have:=S.low e (bC _ h);lia,λp h=>?_,λp hp q hq=>?_,λp hp e h=>?_⟩
 ·rcases aQ.mp h with z | z
  ·have:=S.bow p z;lia
  ·have e':p=(o,(r:Int)):=by simpa using z
   subst e';simp only;lia
 ·rcases aQ.mp hp with z | z
  ·rcases aQ.mp hq with y | y
   ·exact S.nc p z q y
   ·have e':q=(o,(r:Int)):=by simpa using y
    subst e';have h1:=S.un p z (o,l) (by simp);exact cr _ _ λh=>h1 ⟨h.1,h.2.1⟩
  ·have e':p=(o,(r:Int)):=by simpa using z
   subst e';rcases aQ.mp hq with y | y
   ·have h1:=S.bow q y;exact cr _ _ λh=>by simp only at h;lia
   ·have e':q=(o,(r:Int)):=by simpa using y
    subst e';exact cr _ _ λh=>by simp only at h;lia
 ·have h1:=low e h;rcases aQ.mp hp with z | z
  ·exact S.un p z e (bC _ h)
  ·have e':p=(o,(r:Int)):=by simpa using z
   subst e';simp only;lia
def pw.map{st:List Oe}{f:List Bw}{r:Nat}(S:pw st f r)(g:Int->Int):pw (st.map λe=>(e.1,g e.2)) f r:=by
 refine⟨?_,λe h=>?_,S.bow,S.nc,λp hp e h=>?_⟩
 ·rw[j6];exact S.inc
 ·obtain⟨x,hx,rfl⟩:=bB.mp h;exact S.low x hx
 ·obtain⟨x,hx,rfl⟩:=bB.mp h;exact S.un p hp x hx
structure Gr (b:Bool) (st:Bool->List Oe) (f:Bool->List Bw) (r:Nat) (is:List Pc):Prop where
 ne:∀ p∈is,p.rows≠[]
 rows:(is.flatMap Pc.rows).Perm (eG 0 r)
 labs:(is.map Pc.lab).Nodup
 lr:∀ p∈is,p.lab<r
 one:is.countP Pc.main=1
 hd:∀ p∈is,p.main=true->p.rows.head? = some 0/\p.s=!b
 ends:(d9 st).Perm (is.flatMap Pc.ends)
 bows:∀ t,(f t).Perm (is.flatMap (Pc.bows t))
 stk:∀ t,pw (st t) (f t) r
section
variable {b:Bool} {st:Bool->List Oe} {f:Bool->List Bw} {r:Nat} {is js:List Pc} {p q:Pc}
def Gr.perm(G:Gr b st f r is)(h:is.Perm js):Gr b st f r js:=
 ⟨λp hp=>G.ne p (h.mem_iff.mpr hp),(h.flatMap_right _).symm.trans G.rows,(h.map _).nodup_iff.mp G.labs,λp hp=>G.lr p (h.mem_iff.mpr hp),(h.countP_eq _).symm.trans G.one,λp hp=>G.hd p (h.mem_iff.mpr hp),
  G.ends.trans (h.flatMap_right _),λt=>(G.bows t).trans (h.flatMap_right _),G.stk⟩
def Gr.flip(G:Gr b st f r (p::is))(h:p.main=false):Gr b st f r (p.rev::is):=by
 have more:p.more=[p.fst]:=by unfold Pc.more;rw[h];rfl
 have more':p.rev.more=[p.lst]:=by
  unfold Pc.more;rw[show p.rev.main=false from h,CA];rfl
 refine⟨λq hq=>?_,?_,G.labs,λq hq=>?_,?_,λq hq hm=>?_,?_,λt=>?_,G.stk⟩
 ·rcases aI.mp hq with z | z
  ·subst z;exact λe=>G.ne p ah (kK.mp e)
  ·exact G.ne q (aN _ z)
 ·exact((List.reverse_perm p.rows).append_right _).trans G.rows
 ·rcases aI.mp hq with z | z
  ·subst z;exact G.lr p ah
  ·exact G.lr q (aN _ z)
 ·have:=G.one;rw[cX] at this ⊢;exact this
 ·rcases aI.mp hq with z | z
  ·subst z;rw[show p.rev.main=false from h] at hm;cases hm
  ·exact G.hd q (aN _ z) hm
 ·refine G.ends.trans ?_;rw[af,af];refine List.Perm.append_right _ ?_;unfold Pc.ends;rw[more,more',rE];exact List.Perm.swap _ _ _
 ·refine(G.bows t).trans ?_;rw[af,af];exact(nP p.rows p.s t).symm.append_right _
def Gr.pick(G:Gr b st f r is){e:Oe×Bool}(h:e∈d9 st):∃p js,p.lst=e/\Gr b st f r (p::js)/\∀q∈js,q∈is:=by
 obtain⟨p,hp,he⟩:=iH.mp (G.ends.mem_iff.mp h);obtain⟨A,B,rfl⟩:=List.append_of_mem hp;have G1:=G.perm cV;have sub:∀q∈A++B,q∈A++p::B:=λq hq=>by
  rcases aQ.mp hq with z | z
  ·exact bC _ z
  ·exact a7 _ (aN _ z)
 rcases aI.mp he with z | z
 ·exact⟨p,A++B,z.symm,G1,sub⟩
 ·unfold Pc.more at z;cases hm:p.main with
  | true=>rw[hm] at z;cases z
  | false=>
   rw[hm] at z;have e':e=p.fst:=by simpa using z
   exact⟨p.rev,A++B,by rw[rE,e'],G1.flip hm,sub⟩
def oY(r:Nat):eG 0 (r+1)=eG 0 r++[(r:Int)]:=by
 unfold eG;rw[dc,a6];simp
def Gr.opA(G:Gr b st f r is):Gr b (λu=>st u++[((r:Int),(r:Int))]) f (r+1) (⟨r,[(r:Int)],false,false⟩::is):=by
 refine⟨λq hq=>?_,?_,?_,λq hq=>?_,?_,λq hq hm=>?_,?_,λt=>?_,λt=>(G.stk t).push _⟩
 ·rcases aI.mp hq with z | z
  ·subst z;simp
  ·exact G.ne q z
 ·rw[oY];exact(G.rows.cons (r:Int)).trans (cO (l₁:=[(r:Int)]) (l₂:=eG 0 r))
 ·rw[ae,dI];refine⟨λz=>?_,G.labs⟩;obtain⟨q,hq,e⟩:=bB.mp z;have:=G.lr q hq;simp only at e;lia
 ·rcases aI.mp hq with z | z
  ·subst z;simp only;lia
  ·have:=G.lr q z;lia
 ·rw[cX,G.one];rfl
 ·rcases aI.mp hq with z | z
  ·subst z;cases hm
  ·exact G.hd q z hm
 ·have h1:=lM (st:=st) (t:=false) (e:=((r:Int),(r:Int)));have h2:=lM (st:=λu=>if u=false then st u++[((r:Int),(r:Int))] else st u) (t:=true) (e:=((r:Int),(r:Int)));have e:(λu=>if u=true then (if u=false then st u++[((r:Int),(r:Int))] else st u)++[((r:Int),(r:Int))] else if u=false then st u++[((r:Int),(r:Int))] else st u)=λu=>st u++[((r:Int),(r:Int))]:=by
   funext u;cases u<;>rfl
  rw[e] at h2;refine h2.trans ((h1.cons _).trans ?_);rw[af];exact((G.ends.cons _).cons _)
 ·refine(G.bows t).trans ?_;rw[af];exact .refl _
def Gr.ext{t:Bool}{st':List Oe}{o l:Int}(G:Gr b st f r (p::is))(hl:p.lst=((o,l),t))(hs:st t=st'++[(o,l)]):
  Gr b (λu=>if u=t then st' else st u++[((r:Int),l)]) (λu=>if u=t then f u++[(o,(r:Int))] else f u) (r+1) ({ p with rows:=p.rows++[(r:Int)] }::is):=by
 have pne:=G.ne p ah;have e1:ltZ p.rows=o:=congrArg (λx=>x.1.1) hl;have e2:p.lab=l:=congrArg (λx=>x.1.2) hl;have e3:eS p.s p.rows=t:=congrArg (λx=>x.2) hl;have low:=(G.stk t).low (o,l) (by rw[hs];simp);simp only at low;have lst':Pc.lst { p with rows:=p.rows++[(r:Int)] }=(((r:Int),l),!t):=by
  show ((ltZ (p.rows++[(r:Int)]),p.lab),eS p.s (p.rows++[(r:Int)]))=_;rw[Ar,vK,e2,e3]
 have more':Pc.more { p with rows:=p.rows++[(r:Int)] }=p.more:=by
  unfold Pc.more Pc.fst;rw[wt pne]
 refine⟨λq hq=>?_,?_,G.labs,λq hq=>?_,?_,λq hq hm=>?_,?_,λu=>?_,λu=>?_⟩
 ·rcases aI.mp hq with z | z
  ·subst z;simp
  ·exact G.ne q (aN _ z)
 ·have h1:=G.rows;rw[af] at h1 ⊢;rw[oY];show ((p.rows++[(r:Int)])++is.flatMap Pc.rows).Perm _;rw[b9];exact(cV (l₁:=p.rows) (a:=(r:Int)) (l₂:=is.flatMap Pc.rows)).trans ((h1.cons _).trans (cO (l₁:=[(r:Int)])))
 ·rcases aI.mp hq with z | z
  ·subst z;have:=G.lr p ah;simp only;lia
  ·have:=G.lr q (aN _ z);lia
 ·have:=G.one;rw[cX] at this ⊢;exact this
 ·rcases aI.mp hq with z | z
  ·subst z;obtain⟨a,c⟩:=G.hd p ah hm;refine⟨?_,c⟩;show (p.rows++[(r:Int)]).head? = _;rw[List.head?_append,a];rfl
  ·exact G.hd q (aN _ z) hm
 ·have h1:=(k9 hs).symm.trans G.ends;rw[af] at h1 ⊢;have h2:(d9 λu=>if u=t then st' else st u).Perm (p.more++is.flatMap Pc.ends):=by
   have e:p.ends++is.flatMap Pc.ends=((o,l),t)::(p.more++is.flatMap Pc.ends):=by
    unfold Pc.ends;rw[hl];rfl
   rw[e] at h1;exact h1.cons_inv
  have e:(λu=>if u=t then st' else st u++[((r:Int),l)])=λu=>if u=(!t) then (if u=t then st' else st u)++[((r:Int),l)] else (if u=t then st' else st u):=by
   funext u;cases u<;>cases t<;>rfl
  rw[e];refine lM.trans ((h2.cons _).trans ?_);have e4:Pc.ends { p with rows:=p.rows++[(r:Int)] }=(((r:Int),l),!t)::p.more:=by
   unfold Pc.ends;rw[lst',more']
  rw[e4];exact .refl _
 ·have h1:=G.bows u;rw[af] at h1 ⊢;have e4:Pc.bows u { p with rows:=p.rows++[(r:Int)] }=p.bows u++if u=t then [(o,(r:Int))] else []:=by
   show chain p.s (p.rows++[(r:Int)]) u=chain p.s p.rows u++_;rw[chain_snoc _ _ _ pne,e1,e3];have m1:min o (r:Int)=o:=by lia
   have m2:max o (r:Int)=(r:Int):=by lia
   rw[m1,m2];congr 1;cases t<;>cases u<;>rfl
  rw[e4];by_cases z:u=t
  ·rw[PX z,PX z,b9];exact(h1.append_right _).trans (by rw[b9];exact kz _ cO)
  ·rw[PV z,PV z,cK];exact h1
 ·by_cases z:u=t
  ·subst z;simp only[P3];have:=G.stk u;rw[hs] at this;exact this.close
  ·simp only[z,P4];exact(G.stk u).push l
def Gr.pick2{o1 l1 o2 l2:Int}{n' f':List Oe}(G:Gr b st f r is)(h1:st false=n'++[(o1,l1)])(h2:st true=f'++[(o2,l2)])(hne:l1≠l2):∃p q js,p.lst=((o1,l1),false)/\q.lst=((o2,l2),true)/\Gr b st f r (p::q::js):=by
 obtain⟨p,js,hp,G1,_⟩:=G.pick (e:=((o1,l1),false)) (by unfold d9;rw[h1];simp);have hm:((o2,l2),true)∈d9 st:=by unfold d9;rw[h2];simp
 obtain⟨q,hq,he⟩:=iH.mp (G1.ends.mem_iff.mp hm);have lab:∀(x:Pc) e,e∈x.ends->e.1.2=x.lab:=λx e h=>by
  rcases aI.mp h with z | z
  ·subst z;rfl
  ·unfold Pc.more at z;cases hm:x.main with
   | true=>rw[hm] at z;cases z
   | false=>
    rw[hm] at z;have e':e=x.fst:=by simpa using z
    subst e';rfl
 have pl:p.lab=l1:=congrArg (λx=>x.1.2) hp;have ql:=lab q _ he;rcases aI.mp hq with z | z
 ·subst z;simp only at ql;exact absurd (pl.symm.trans ql.symm) hne
 ·obtain⟨A,B,rfl⟩:=List.append_of_mem z;have G2:Gr b st f r (q::p::(A++B)):=G1.perm ((cV.cons p).trans (List.Perm.swap _ _ _));rcases aI.mp he with y | y
  ·exact⟨p,q,A++B,hp,y.symm,G2.perm (List.Perm.swap _ _ _)⟩
  ·unfold Pc.more at y;cases hm:q.main with
   | true=>rw[hm] at y;cases y
   | false=>
    rw[hm] at y;have e':((o2,l2),true)=q.fst:=by simpa using y
    exact⟨p,q.rev,A++B,hp,by rw[rE,<-e'],(G2.flip hm).perm (List.Perm.swap _ _ _)⟩
def jI(x y:Int)(e:Oe):Oe:=(e.1,if e.2=x then y else e.2)
def Gr.join0{ta:Bool}{o:Bool->Int}{la lb l1 l2:Int}{st':Bool->List Oe}(G:Gr b st f r (p::q::is))(hp:p.lst=((o ta,la),ta))(hq:q.lst=((o (!ta),lb),!ta))(hs:∀u,st u=st' u++[(o u,if u=ta then la else lb)])(hm:q.main=false)(hlab:(l1=la/\l2=lb)\/(l1=lb/\l2=la)):
  Gr b (λu=>(st' u).map (jI l2 l1)) (λu=>f u++[(o u,(r:Int))]) (r+1) (⟨l1,p.rows++(r:Int)::q.rows.reverse,p.s,p.main⟩::is):=by
 have pne:=G.ne p ah;have qne:=G.ne q (aN _ ah);have qrne:q.rows.reverse≠[]:=λe=>qne (kK.mp e);have p1:ltZ p.rows=o ta:=congrArg (λx=>x.1.1) hp;have p2:p.lab=la:=congrArg (λx=>x.1.2) hp;have p3:eS p.s p.rows=ta:=congrArg (λx=>x.2) hp;have q1:ltZ q.rows=o (!ta):=congrArg (λx=>x.1.1) hq;have q2:q.lab=lb:=congrArg (λx=>x.1.2) hq;have q3:eS q.s q.rows=!ta:=congrArg (λx=>x.2) hq;have low:∀u,0<=o u/\o u<r:=λu=>(G.stk u).low (o u,if u=ta then la else lb) (by rw[hs u];simp);have nd:=G.labs;rw[ae,ae,dI,dI,p2,q2] at nd;obtain⟨n1,n2,n3⟩:=nd;have nab:la≠lb:=λe=>n1 (by rw[e];exact ah);have nla:∀x∈is,x.lab≠la:=λx hx e=>n1 (aN _ (bB.mpr ⟨x,hx,e⟩));have nlb:∀x∈is,x.lab≠lb:=λx hx e=>n2 (bB.mpr ⟨x,hx,e⟩);have n1':∀x∈is,x.lab≠l1:=λx hx=>by rcases hlab with ⟨e,_⟩ | ⟨e,_⟩<;>rw[e];exact nla x hx;exact nlb x hx
 have n2':∀x∈is,x.lab≠l2:=λx hx=>by rcases hlab with ⟨_,e⟩ | ⟨_,e⟩<;>rw[e];exact nlb x hx;exact nla x hx
 have rla:(if la=l2 then l1 else la)=l1:=by
  rcases hlab with ⟨e,e'⟩ | ⟨e,e'⟩
  ·rw[e',PV nab,e]
  ·rw[e',PX rfl]
 have rlb:(if lb=l2 then l1 else lb)=l1:=by
  rcases hlab with ⟨e,e'⟩ | ⟨e,e'⟩
  ·rw[e',PX rfl]
  ·rw[e',PV nab.symm,e]
 refine⟨λx hx=>?_,?_,?_,λx hx=>?_,?_,λx hx hmx=>?_,?_,λu=>?_,λu=>?_⟩
 ·rcases aI.mp hx with z | z
  ·subst z;simp
  ·exact G.ne x (aN _ (aN _ z))
 ·have h1:=G.rows;rw[af,af] at h1;rw[af,oY];show ((p.rows++(r:Int)::q.rows.reverse)++is.flatMap Pc.rows).Perm _;rw[b9,fj];refine cV.trans (List.Perm.trans ?_ (cO (l₁:=[(r:Int)])));refine List.Perm.cons _ (List.Perm.trans ?_ h1);exact kz _ ((List.reverse_perm q.rows).append_right _)
 ·rw[ae,dI];refine⟨λz=>?_,n3⟩;obtain⟨x,hx,e⟩:=bB.mp z;exact n1' x hx e
 ·rcases aI.mp hx with z | z
  ·subst z;have h1:=G.lr p ah;have h2:=G.lr q (aN _ ah);simp only;rcases hlab with ⟨e,_⟩ | ⟨e,_⟩<;>rw[e]<;>lia
  ·have:=G.lr x (aN _ (aN _ z));lia
 ·have:=G.one;rw[cX,cX,hm] at this;rw[cX];simpa using this
 ·rcases aI.mp hx with z | z
  ·subst z;obtain⟨a,c⟩:=G.hd p ah hmx;refine⟨?_,c⟩;show (p.rows++(r:Int)::q.rows.reverse).head? = _;rw[List.head?_append,a];rfl
  ·exact G.hd x (aN _ (aN _ z)) hmx
 ·have h0:(d9 st).Perm (((o ta,la),ta)::((o (!ta),lb),!ta)::d9 st'):=by
   have e1:(d9 st).Perm _:=k9 (t:=ta) (hs ta);refine e1.trans ?_;rw[PX rfl];refine List.Perm.cons _ ?_;have e2:=k9 (st:=λu=>if u=ta then st' ta else st u) (t:=!ta) (st':=st' (!ta)) (e:=(o (!ta),lb)) (by
    have z:¬(!ta)=ta:=by cases ta<;>decide
    simp only[z,P4];rw[hs (!ta),PV z])
   refine e2.trans (List.Perm.cons _ ?_);have:(λu=>if u=(!ta) then st' (!ta) else if u=ta then st' ta else st u)=st':=by
    funext u;cases u<;>cases ta<;>rfl
   rw[this]
  have h1:=h0.symm.trans G.ends;rw[af,af] at h1;have eqm:q.more=[q.fst]:=by unfold Pc.more;rw[hm];rfl
  have h2:(d9 st').Perm (p.more++(q.fst::is.flatMap Pc.ends)):=by
   have e:(p.ends++(q.ends++is.flatMap Pc.ends)).Perm (((o ta,la),ta)::((o (!ta),lb),!ta)::(p.more++(q.fst::is.flatMap Pc.ends))):=by
    unfold Pc.ends;rw[hp,hq,eqm];refine List.Perm.cons _ ?_;exact cV
   exact(h1.trans e).cons_inv.cons_inv
  have hmap:(d9 λu=>(st' u).map (jI l2 l1))=(d9 st').map λx=>(jI l2 l1 x.1,x.2):=by
   unfold d9;rw[a6,bp,bp,bp,bp];rfl
  rw[hmap];refine(h2.map _).trans ?_;rw[a6,ae,af];have r1:(is.flatMap Pc.ends).map (λx=>(jI l2 l1 x.1,x.2))=is.flatMap Pc.ends:=by
   have:∀x∈is.flatMap Pc.ends,(jI l2 l1 x.1,x.2)=x:=λx hx=>by
    obtain⟨y,hy,he⟩:=iH.mp hx;have:x.1.2=y.lab:=by
     rcases aI.mp he with z | z
     ·subst z;rfl
     ·unfold Pc.more at z;cases hm:y.main with
      | true=>rw[hm] at z;cases z
      | false=>
       rw[hm] at z;have e':x=y.fst:=by simpa using z
       subst e';rfl
    unfold jI;rw[PV (by rw[this];exact n2' y hy)]
   exact(dF this).trans (List.map_id _)
  have r2:(jI l2 l1 q.fst.1,q.fst.2)=Pc.lst ⟨l1,p.rows++(r:Int)::q.rows.reverse,p.s,p.main⟩:=by
   show ((wu q.rows,if q.lab=l2 then l1 else q.lab),q.s)=((ltZ (p.rows++(r:Int)::q.rows.reverse),l1),eS p.s (p.rows++(r:Int)::q.rows.reverse))
   rw[q2,rlb,wb (by simp)];have e1:ltZ ((r:Int)::q.rows.reverse)=wu q.rows:=by
    have:(r:Int)::q.rows.reverse=[(r:Int)]++q.rows.reverse:=rfl;rw[this,wb qrne,rR]
   rw[e1];congr 1;unfold eS at p3 q3 ⊢;rw[bQ,cM,eK];have:odd (p.rows.length+(q.rows.length+1))=(odd p.rows.length ^^ !odd q.rows.length):=by
    unfold odd;rcases cB p.rows.length with h | h<;>rcases cB q.rows.length with h' | h'<;>simp[Nat.add_mod,h,h']
   rw[this]
   revert p3 q3
   cases p.s<;>cases q.s<;>cases odd p.rows.length<;>cases odd q.rows.length<;>cases ta<;>decide
  have r3:p.more.map (λx=>(jI l2 l1 x.1,x.2))=Pc.more ⟨l1,p.rows++(r:Int)::q.rows.reverse,p.s,p.main⟩:=by
   unfold Pc.more;cases hmp:p.main with
   | true=>rfl
   | false=>
    show [((wu p.rows,if p.lab=l2 then l1 else p.lab),p.s)]=[((wu (p.rows++(r:Int)::q.rows.reverse),l1),p.s)]
    rw[wt pne,p2,rla]
  rw[r1,r2,r3];exact cV
 ·have h1:=G.bows u;rw[af,af] at h1;rw[af];have e4:(Pc.bows u ⟨l1,p.rows++(r:Int)::q.rows.reverse,p.s,p.main⟩).Perm ((o u,(r:Int))::(p.bows u++q.bows u)):=by
   show (chain p.s (p.rows++(r:Int)::q.rows.reverse) u).Perm _;rw[mQ _ _ _ _ pne,p1,p3];obtain⟨x,R,hR⟩:∃x R,q.rows.reverse=x::R:=by
    cases e:q.rows.reverse with
    | nil=>exact absurd e qrne
    | cons x R=>exact⟨x,R,rfl⟩
   have hx:x=o (!ta):=by
    rw[<-q1,<-wr,hR];rfl
   have e5:chain ta ((r:Int)::q.rows.reverse) u=(if (!ta)=u then [(o (!ta),(r:Int))] else [])++chain (!ta) q.rows.reverse u:=by
    rw[hR];show (if (!ta)=u then [(min (r:Int) x,max (r:Int) x)] else [])++chain (!ta) (x::R) u=_;have:=low (!ta);rw[hx];have m1:min (r:Int) (o (!ta))=o (!ta):=by lia
    have m2:max (r:Int) (o (!ta))=(r:Int):=by lia
    rw[m1,m2]
   have m1:min (o ta) (r:Int)=o ta:=by have:=low ta;lia
   have m2:max (o ta) (r:Int)=(r:Int):=by have:=low ta;lia
   rw[e5,m1,m2];have cq:(chain (!ta) q.rows.reverse u).Perm (q.bows u):=by
    have:=nP q.rows q.s u;rw[q3] at this;exact this
   by_cases z:ta=u
   ·have z':¬(!ta)=u:=by rw[<-z];cases ta<;>decide
    rw[PX z,PV z',<-z,gD,b9];refine(cV (l₁:=chain p.s p.rows ta) (a:=(o ta,(r:Int))) (l₂:=chain (!ta) q.rows.reverse ta)).trans ?_;rw[<-z] at cq;exact(cq.append_left _).cons _
   ·have z':(!ta)=u:=by revert z;cases ta<;>cases u<;>decide
    rw[PV z,PX z',cK];refine(cV (l₁:=chain p.s p.rows u) (a:=(o (!ta),(r:Int))) (l₂:=chain (!ta) q.rows.reverse u)).trans ?_;rw[<-z'];rw[<-z'] at cq;exact(cq.append_left _).cons _
  refine List.Perm.trans ?_ (e4.symm.append_right _);refine(cO (l₁:=f u) (l₂:=[(o u,(r:Int))])).trans ?_;refine List.Perm.cons _ (h1.trans ?_);show (Pc.bows u p++(Pc.bows u q++is.flatMap (Pc.bows u))).Perm ((Pc.bows u p++Pc.bows u q)++is.flatMap (Pc.bows u));rw[b9]
 ·have:=G.stk u;rw[hs u] at this;exact this.close.map λx=>if x=l2 then l1 else x
def Gr.many(G:Gr b st f r is):(st false).length+(st true).length+1=2*is.length:=by
 have h1:=G.ends.length_eq;unfold d9 at h1;rw[bQ,aD,aD] at h1;have h2:∀js:List Pc,(js.flatMap Pc.ends).length+js.countP Pc.main=2*js.length:=by
  intro js
  induction js with
  | nil=>rfl
  | cons p js ih=>
   rw[af,bQ,cX,cM];have:p.ends.length+(if p.main=true then 1 else 0)=2:=by
    unfold Pc.ends Pc.more;cases p.main<;>rfl
   lia
 have:=h2 is;rw[G.one] at this;lia
def Gr.start (b : Bool) : Gr b (fun u => if u = b then [((0 : Int), (0 : Int))] else []) (fun _ => []) 1 [⟨0, [0], !b, true⟩] := by
  refine ⟨fun p hp => ?_, ?_, by simp, fun p hp => ?_, rfl, fun p hp _ => ?_, ?_, fun t => .refl _, fun t => ?_⟩
  · have e : p = ⟨0, [0], !b, true⟩ := by simpa using hp
    subst e; simp
  · exact .refl _
  · have e : p = ⟨0, [0], !b, true⟩ := by simpa using hp
    subst e; exact (by decide : (0 : Int) < 1)
  · have e : p = ⟨0, [0], !b, true⟩ := by simpa using hp
    subst e; exact ⟨rfl, rfl⟩
  · cases b <;> exact .refl _
  · by_cases z : t = b
    · simp only [z, P3]
      exact ⟨by simp, fun e h => by have e' : e = (0, 0) := by simpa using h
                                    subst e'; decide, fun p h => (nomatch h), fun p h => (nomatch h), fun p h => (nomatch h)⟩
    · simp only [z, P4]
      exact ⟨.nil, fun p h => (nomatch h), fun p h => (nomatch h), fun p h => (nomatch h), fun p h => (nomatch h)⟩
def Gr.last{t:Bool}{o l:Int}(G:Gr b st f r is)(h1:st t=[(o,l)])(h2:st (!t)=[]):
  ∃ns:List Int,ns.length+1=r/\ns.Perm (eG 1 ns.length)/\∀u,(if u=t then f u++[(o,(r:Int))] else f u).Perm (ac b ns u (ns.length+1))/\∀p∈ac b ns u (ns.length+1),∀q∈ac b ns u (ns.length+1),df p q=false:=by
 have hl:=G.many;have h3:(st false).length+(st true).length=1:=by
  cases t
  ·rw[h1,show st true=[] from h2];rfl
  ·rw[h1,show st false=[] from h2];rfl
 obtain⟨p,rfl⟩:∃p,is=[p]:=by
  match is,(show is.length=1 by lia) with
  | [p],_=>exact⟨p,rfl⟩
 have hm:p.main=true:=by
  have:=G.one;rw[cX] at this;cases z:p.main with
  | true=>rfl
  | false=>rw[z] at this;simp at this
 obtain⟨hd,hs⟩:=G.hd p (by simp) hm;have he:=G.ends;have hp:p.lst=((o,l),t):=by
  have e:d9 st=[((o,l),t)]:=by
   unfold d9;cases t
   ·rw[h1,show st true=[] from h2];rfl
   ·rw[h1,show st false=[] from h2];rfl
  rw[e,af,kN,cK] at he;unfold Pc.ends Pc.more at he;rw[hm] at he;have:=List.perm_singleton.mp he.symm;simpa using this
 have G':=G.ext hp (st':=[]) h1;obtain⟨ns,hns⟩:∃ns,p.rows=0::ns:=by
  cases e:p.rows with
  | nil=>rw[e] at hd;cases hd
  | cons a R=>rw[e] at hd;cases hd;exact⟨R,rfl⟩
 have hr:=G.rows;rw[af,kN,cK,hns] at hr;have hlen:=hr.length_eq;rw[cM,oZ] at hlen;have hr1:ns.Perm (eG 1 ns.length):=by
  have e:eG 0 r=0::eG 1 ns.length:=by
   rw[<-hlen];unfold eG;rw[kf,ae,bp];congr 1;refine dF λi _=>?_;simp only[Function.comp]
   push_cast
   lia
  rw[e] at hr;exact hr.cons_inv
 have er:p.rows++[(r:Int)]=dS ns:=by
  rw[hns,<-hlen];unfold dS
  push_cast
  rfl
 have ch:∀(k m:Nat) (u:Bool),m=ns.length+1-k->k<=ns.length+1->chain (!(b ^^ odd k)) ((dS ns).drop k) u=(((List.range m).map (·+k)).filter (cH b u)).map (fx ns):=by
  intro k m
  induction m generalizing k with
  | zero=>
   intro u hm hk;have e:k=ns.length+1:=by lia
   have:(dS ns).drop k=[ao ns k]:=by
    have h:=aR.mp (fS (ns:=ns) (i:=k) (by lia));rw[aw h.1,h.2,List.drop_of_length_le (by rw[gR];lia)]
   rw[this];rfl
  | succ m ih=>
   intro u hm hk;have h:=aR.mp (fS (ns:=ns) (i:=k) (by lia));have h':=aR.mp (fS (ns:=ns) (i:=k+1) (by lia));have ih':=ih (k+1) u (by lia) (by lia);rw[aw h.1,h.2,aw h'.1,h'.2];show (if (!!(b ^^ odd k))=u then [(min (ao ns k) (ao ns (k+1)),max (ao ns k) (ao ns (k+1)))] else [])++chain (!!(b ^^ odd k)) (ao ns (k+1)::(dS ns).drop (k+1+1)) u=_;have e2:chain (!!(b ^^ odd k)) (ao ns (k+1)::(dS ns).drop (k+1+1)) u=(((List.range m).map (·+(k+1))).filter (cH b u)).map (fx ns):=by
    rw[<-ih',jM];have e3:(!(b ^^ !odd k))=!!(b ^^ odd k):=by cases b<;>cases odd k<;>rfl
    rw[e3];congr 1;rw[aw h'.1,h'.2]
   rw[e2,kf,ae,bp,kO];have e4:((λx=>x+k)∘Nat.succ)=λx=>x+(k+1):=by funext x;simp only[Function.comp];lia
   rw[e4];show _=List.map (fx ns) (if cH b u (0+k)=true then _ else _);rw[Nat.zero_add];have e5:cH b u k=decide ((!!(b ^^ odd k))=u):=by unfold cH;cases b<;>cases u<;>cases odd k<;>rfl
   rw[e5];by_cases z:(!!(b ^^ odd k))=u
   ·rw[PX z,P0 z,PX rfl];rfl
   ·rw[PV z,PZ z,PV a8];rfl
 have sb:∀u,Pc.bows u { p with rows:=p.rows++[(r:Int)] }=ac b ns u (ns.length+1):=λu=>by
  show chain p.s (p.rows++[(r:Int)]) u=_;have:=ch 0 (ns.length+1) u rfl (bO _);rw[show odd 0=false from rfl,Bool.xor_false] at this;rw[hs,er];refine Eq.trans this ?_;unfold ac;congr 2;simp
 have pu:∀u,(if u=t then f u++[(o,(r:Int))] else f u).Perm (ac b ns u (ns.length+1)):=λu=>by
  have:=G'.bows u;rw[af,kN,cK,sb u] at this;exact this
 refine⟨ns,hlen,hr1,λu=>⟨pu u,λx hx y hy=>?_⟩⟩;exact(G'.stk u).nc x ((pu u).mem_iff.mpr hx) y ((pu u).mem_iff.mpr hy)
end
def NC(b:Bool)(ns:List Int):Prop:=∀u,∀p∈ac b ns u (ns.length+1),∀q∈ac b ns u (ns.length+1),df p q=false
inductive rq (st:Bool->List Oe) (f:Bool->List Bw) (r:Nat):Nat->(Bool->List Oe)->(Bool->List Bw)->Prop
 | a:rq st f r 0 (fun u=>st u++[((r:Int),(r:Int))]) f
 | b {S:List Oe} {o l:Int}:st true=S++[(o,l)]->rq st f r 1 (fun u=>if u=true then S else st u++[((r:Int),l)]) (fun u=>if u=true then f u++[(o,(r:Int))] else f u)
 | c {S:List Oe} {o l:Int}:st false=S++[(o,l)]->rq st f r 2 (fun u=>if u=false then S else st u++[((r:Int),l)]) (fun u=>if u=false then f u++[(o,(r:Int))] else f u)
 | d {n' f':List Oe} {o1 l1 o2 l2:Int}:st false=n'++[(o1,l1)]->st true=f'++[(o2,l2)]->l1≠l2->rq st f r 3 (fun u=>(if u then f' else n').map (jI (max l1 l2) (min l1 l2))) (fun u=>f u++[(if u then o2 else o1,(r:Int))])
section
variable {b:Bool} {st:Bool->List Oe} {f:Bool->List Bw} {r:Nat} {is:List Pc}
def Gr.joinS{o1 l1 o2 l2 x y:Int}{n' f':List Oe}(G:Gr b st f r is)(h1:st false=n'++[(o1,l1)])(h2:st true=f'++[(o2,l2)])(hne:l1≠l2)(hxy:(y=l1/\x=l2)\/(y=l2/\x=l1)):
  ∃js,Gr b (λu=>(if u then f' else n').map (jI x y)) (λu=>f u++[(if u then o2 else o1,(r:Int))]) (r+1) js:=by
 obtain⟨p,q,js,hp,hq,G2⟩:=G.pick2 h1 h2 hne;cases hm:q.main with
 | false=>
  exact⟨_,G2.join0 (ta:=false) (o:=λu=>if u then o2 else o1) (st':=λu=>if u then f' else n') hp hq (λu=>by cases u;exact h1;exact h2) hm hxy⟩
 | true=>
  have hm2:p.main=false:=by
   have:=G2.one;rw[cX,cX,hm] at this;cases z:p.main with
   | false=>rfl
   | true=>rw[z] at this;simp at this
  have G3:=G2.perm (List.Perm.swap q p js);exact⟨_,G3.join0 (ta:=true) (o:=λu=>if u then o2 else o1) (st':=λu=>if u then f' else n') hq hp (λu=>by cases u;exact h1;exact h2) hm2 hxy.symm⟩
def rq.gr{st':Bool->List Oe}{f':Bool->List Bw}{k:Nat}(P:rq st f r k st' f')(G:Gr b st f r is):∃js,Gr b st' f' (r+1) js:=by
 cases P with
 | a=>exact⟨_,G.opA⟩
 | @b S o l h=>obtain⟨p,js,hp,G1,_⟩:=G.pick (e:=((o,l),true)) (by unfold d9;rw[h];simp);exact⟨_,G1.ext hp h⟩
 | @c S o l h=>obtain⟨p,js,hp,G1,_⟩:=G.pick (e:=((o,l),false)) (by unfold d9;rw[h];simp);exact⟨_,G1.ext hp h⟩
 | d h h' ne=>exact G.joinS h h' ne (by lia)
def JD(L:List Int)(p:Nat):Prop:=1<=p/\p<L.length/\L[p-1]?≠L[p]?
instance (L:List Int) (p:Nat):Decidable (JD L p):=by unfold JD;infer_instance
end
end Rm
namespace Rm
open PySem L2 PyProof.Rows
section
variable {σ:L2.St} {H0:Hp}
abbrev D1 (σ:L2.St) (H0:Hp) (te:TE) (d:PyData):Prop:=DE View.all σ H0 te d
abbrev D2 (σ:L2.St) (H0:Hp) (ta:TA) (ds:List PyData):Prop:=DA View.all σ H0 ta ds
end
def jS(H:Hp)(t:Addr)(u:Bool)(p q:Bw):Prop:=∃a c,H t=some (.tup [.str (sd u),.ref a,.ref c])/\eV H a p/\eV H c q
def qF:Sp:=λvs H Q _=>∃m o b ns,vs=[.ref m]/\gf H m o b ns/\kd ns/\(NC b ns->∀H',aW H H'->Q .non H') ∧
 ∀u,∀p∈ac b ns u (ns.length+1),∀q∈ac b ns u (ns.length+1),df p q=true->∀t H',aW H H'->jS H' t u p q->Q (.ref t) H'
def GD(b:Bool)(ns:List Int):PyData:=.tuple [.str (sd b),.tuple (ns.map PyData.int)]
def gf.dat{H:Hp}{m o:Addr}{b:Bool}{ns:List Int}(h:gf H m o b ns):Dat H (.ref m) (GD b ns):=.tup h.1 (.cons (.str _) (.cons (.tup h.2 (kE ns)) .nil))
def FX{b:Bool}{ns:List Int}(O:kd ns):kA (GD b ns)=true:=by
 show (lE (.str (sd b))&&iX (.tuple (ns.map PyData.int)))=true;have e1:lE (.str (sd b))=true:=by cases b<;>decide +kernel
 have e2:(ns.map PyData.int).map intOf=ns:=by rw[bp];show ns.map id=ns;exact List.map_id _
 have e3:(ns.map PyData.int).all fO=true:=by rw[List.all_map,iK];intro _ _;rfl
 rw[e1,Bool.true_and];show (decide ((ns.map PyData.int).length<=20)&&((ns.map PyData.int).all fO&&((ns.map PyData.int).map intOf).isPerm (eG 1 (ns.map PyData.int).length)))=true;rw[e2,e3,aD,P0 O.len,i3.mpr O.perm];rfl
def vH{b:Bool}{ns:List Int}:Pl (GD b ns) 60:=by
 refine⟨?_,?_⟩
 ·show (PyData.canLay0 (.str (sd b))&&(PyData.canLayAll0 (ns.map PyData.int)&&true))=true;rw[iP];cases b<;>decide +kernel
 ·show max 0 (max (PyData.depthAll (ns.map PyData.int)+1) 0)+1<=60;rw[mO];decide
def n8{d e:PyData}(h:lE d=false):kA (.tuple [d,e])=false:=by show (lE d&&iX e)=false;rw[h];rfl
def mL{d e:PyData}(h:iX e=false):kA (.tuple [d,e])=false:=by show (lE d&&iX e)=false;rw[h,jV]
def lg:∀{ds:List PyData},(∀d∈ds,d.canLay0=true)->PyData.canLayAll0 ds=true
 | [],_=>rfl
 | d::ds,h=>by
  show (d.canLay0&&PyData.canLayAll0 ds)=true;rw[h d (by simp),lg λe he=>h e (by simp[he])];rfl
def lN{k:Nat}:∀{ds:List PyData},(∀d∈ds,d.depth<=k)->PyData.depthAll ds<=k
 | [],_=>bO _
 | d::ds,h=>by
  show max d.depth (PyData.depthAll ds)<=k;exact Nat.max_le.mpr ⟨h d (by simp),lN λe he=>h e (by simp[he])⟩
def jf{ds:List PyData}{k:Nat}(h:∀d∈ds,Pl d k):Pl (.tuple ds) (k+1):=⟨lg λd hd=>(h d hd).lay,Nat.succ_le_succ (lN λd hd=>(h d hd).deep)⟩
def Ez{ds:List PyData}{k:Nat}(h:∀d∈ds,Pl d k):Pl (.list ds) (k+1):=⟨lg λd hd=>(h d hd).lay,Nat.succ_le_succ (lN λd hd=>(h d hd).deep)⟩
def Pl.le{d:PyData}{j k:Nat}(h:Pl d j)(e:j<=k):Pl d k:=⟨h.lay,cP h.deep e⟩
def uo(n:Int){k:Nat}:Pl (.int n) k:=⟨rfl,bO _⟩
def AQ{z:Str}{k:Nat}(h:PyData.canLay0 (.str z)=true):Pl (.str z) k:=⟨h,bO _⟩
def Gu(b:Bool){k:Nat}:Pl (.str (sd b)) k:=AQ (by cases b<;>decide +kernel)
def JV{d:PyData}{k:Nat}(h:Pl d k):∀e∈[d],Pl e k:=λe he=>by rw[bE] at he;subst he;exact h
def Dd{d e:PyData}{k:Nat}(h:Pl d k)(g:Pl e k):∀f∈[d,e],Pl f k:=λf hf=>by
 rcases aI.mp hf with rfl | hf
 ·exact h
 ·exact JV g f hf
def Hu{d e f:PyData}{k:Nat}(h:Pl d k)(g:Pl e k)(i:Pl f k):∀x∈[d,e,f],Pl x k:=λx hx=>by
 rcases aI.mp hx with rfl | hx
 ·exact h
 ·exact Dd g i x hx
def Ea:PyData->Bool
 | .none | .bool _ | .int _ | .str _=>true
 | _=>false
def DC{ms:List Int}{i j:Nat}{z:Int}(hij:i<j)(h1:ms[i]? = some z)(h2:ms[j]? = some z):iX (.tuple (ms.map PyData.int))=false:=by
 have e:(ms.map PyData.int).map intOf=ms:=by rw[bp];show ms.map id=ms;exact List.map_id _
 refine qQ (i:=j) (d:=.int z) (by rw[ai,h2];rfl) (.inr (.inr (.inr ?_)));rw[e];show z∈ms.take j;exact bG (i:=i) (by rw[jq hij];exact h1)
def uJ{b:Bool}{ds:List PyData}{i:Nat}{d:PyData}(h:ds[i]? = some d)(hb:fO d=false\/intOf d<1\/(ds.length:Int)<intOf d):kA (.tuple [.str (sd b),.tuple ds])=false:=
 mL (qQ h (hb.imp id (Or.imp id .inl)))
end Rm
namespace L2
open PySem PySem.Spec PyProof.Rows
def jt:∀{cs:List Addr} {us:List Value},bj (cs.map V.ref) us->us=cs.map Value.ref
 | [],_,.nil=>rfl
 | c::cs,_,.cons r t=>by
  rw[jt t];cases r;rfl
def nN{K:P5}{t:Value}:∀{cs:List Addr},(∀c∈cs,PySem.W.kitOne K t (.ref c)=some false)->PySem.W.kitAny K t (cs.map Value.ref)=some false
 | [],_=>rfl
 | c::cs,h=>by
  show (match PySem.W.kitOne K t (.ref c) with | some true=>some true | some false=>PySem.W.kitAny K t (cs.map Value.ref) | none=>none)=some false;rw[h c (by simp)];exact nN λd hd=>h d (aN _ hd)
def Cm(v:V)(H:Hp):Prop:=∃a d,v=.ref a/\Dat H v d/\d.showable=true/\d.hasDict=false/\d.depth<=10/\d.shown.length<=500
def Ai:∀(v:V) (H:Hp) (x:Addr) (o:HO),H x=none->Cm v H->Cm v (bW H x o):=λ_ H _ _ hn ⟨a,d,e,h,r⟩=>⟨a,d,e,h.same ((aW.refl H).new hn),r⟩
def JQ(x y:Str):(tupleText [x,y]).length<=x.length+y.length+7:=by
 have:=tupleText_len_le [x,y];simp only[ae,dy,List.sum_cons,List.sum_nil,cM,fB] at this;lia
def JP(x y z:Str):(tupleText [x,y,z]).length<=x.length+y.length+z.length+9:=by
 have:=tupleText_len_le [x,y,z];simp only[ae,dy,List.sum_cons,List.sum_nil,cM,fB] at this;lia
abbrev pB (a b:Int):PyData:=.tuple [.int a,.int b]
def sV{a:Int}(h0:0<=a)(h1:a<=60):(PyData.shown (.int a)).length<=2/\PyData.showable (.int a)=true:=by
 obtain⟨n,rfl⟩:=eU h0;obtain⟨e1,e2⟩:=xp n (by lia);exact⟨e1,by simp only[PyData.showable];exact P0 e2⟩
def sW{a b:Int}(a0:0<=a)(a1:a<=60)(b0:0<=b)(b1:b<=60):(PyData.shown (pB a b)).length<=11/\PyData.showable (pB a b)=true:=by
 obtain⟨x1,x2⟩:=sV a0 a1;obtain⟨y1,y2⟩:=sV b0 b1;refine⟨?_,?_⟩
 ·show (tupleText [PyData.shown (.int a),PyData.shown (.int b)]).length<=11;have:=JQ (PyData.shown (.int a)) (PyData.shown (.int b));lia
 ·show (PyData.showable (.int a)&&(PyData.showable (.int b)&&true))=true;rw[x2,y2];rfl
def xo {H:Hp} {p:Addr} {z:Str} {a b c d:Int} (hz:z=Str.ofString "l"\/z=Str.ofString "r") (h:Dat H (.ref p) (.tuple [.str z,pB a b,pB c d])) (a0:0<=a) (a1:a<=60) (b0:0<=b) (b1:b<=60) (c0:0<=c) (c1:c<=60) (d0:0<=d) (d1:d<=60):Cm (.ref p) H:=by
 obtain⟨x1,x2⟩:=sW a0 a1 b0 b1;obtain⟨y1,y2⟩:=sW c0 c1 d0 d1;have z1:(PyData.shown (.str z)).length<=10:=by rcases hz with rfl | rfl<;>decide +kernel
 refine⟨p,_,rfl,h,?_,rfl,by simp[PyData.depth,PyData.depthAll],?_⟩
 ·show (PyData.showable (.str z)&&(PyData.showable (pB a b)&&(PyData.showable (pB c d)&&true)))=true;rw[x2,y2];rfl
 ·show (tupleText [PyData.shown (.str z),PyData.shown (pB a b),PyData.shown (pB c d)]).length<=500;have:=JP (PyData.shown (.str z)) (PyData.shown (pB a b)) (PyData.shown (pB c d));lia
def E2(ta tb:TE):TE:=λσ H Q=>ta σ H λx H1=>∃c,x=.str c/\c.length<=400/\tb σ H1 λy H2=>Cm y H2/\∀z,Q (.str z) H2
section
variable {X:Cx}
def FM{k:Nat}{v1 v2:Expr}{fpos pos:Pos}{ta tb:TE}(hr:fg k X.A)(ha:PE X v1 ta)(hb:PE X v2 tb):PE X (.JoinedStr [v1,.FormattedValue v2 114 none fpos] pos) (E2 ta tb):=by
 intro pins s σ H Q I h;refine JoinedStr_many (joinParts_cons (dW (ha pins s σ H _ I h) λu s1 ⟨x,H1,I1,rx,c,ex,hc,q⟩=>?_));subst ex;obtain⟨tk,rfl⟩:∃tk,u=Value.str c tk:=rx;have l0:(Str.empty++c).length=c.length:=by rw[strLen_append];exact Nat.zero_add _
 refine⟨by rw[l0];exact bI (bU (by lia)),joinParts_cons (wpAny_FormattedValue_repr (dW (hb pins s1 σ H1 _ I1 q) λu2 s2 ⟨y,H2,I2,ry,ok,q2⟩=>?_))⟩;obtain⟨a,d,rfl,hd,h1,h2,h3,h4⟩:=ok;obtain rfl:u2=Value.ref a:=ry;obtain⟨as,r⟩:=(hd.rep (K:=X.K)).reads I2 rfl;refine pyReprObj_of_reads r h1 (PyData.noDict_hsm h2) hr.gd (by have:=hr.un;lia) (λ_ _ e=>e) (λh' u tk hk=>?_) (bI (bU (by lia)));have l1:((Str.empty++c)++d.shown).length<=sizeLine:=by rw[strLen_append,l0];exact bI (bU (by lia))
 exact wpAny_formatField_str ⟨l1,joinParts_nil ⟨.str ((Str.empty++c)++d.shown),H2,I2.kept hk,⟨_,rfl⟩,q2 _⟩ l1⟩ ⟨l1,joinParts_nil ⟨.str ((Str.empty++c)++d.shown),H2,I2.kept hk,⟨_,rfl⟩,q2 _⟩ l1⟩ (bI (bU (by lia)))
def CN{k:Nat}{v1 v2:Expr}{fpos pos:Pos}{ta tb:TE}(hr:fg k X.A)(ha:QE X v1 ta)(hb:QE X v2 tb):QE X (.JoinedStr [v1,.FormattedValue v2 114 none fpos] pos) (E2 ta tb):=⟨FM hr ha.h hb.h⟩
end
def GW{σ:St}{H:Hp}{Q:VK}{ta tb:TE}:E2 ta tb σ H Q=ta σ H λx H1=>∃c,x=.str c/\c.length<=400/\tb σ H1 λy H2=>Cm y H2/\∀z,Q (.str z) H2:=rfl
def vU{prog:Program}{w:World}{A:Around}{E:Value->Shared->Prop}{s:Shared}{K:P5}{a C N:Addr}{o:Obj}{od:Option Obj}{bs bm bmB:List Value}{nm q:Str}{hdct:Bool}{sn:List Str}{sub:List Value}{ab:Bool}{col:Option Bool}{dd:Option Addr}{k0 k1 k2 k3 k5:Option Value}{B newId:String}{Q:Option Value->Shared->Prop}
  (X:K.In s.heap) (I:PySem.W.InstAt s.heap a o C od) (hga:PySem.W.findIn K (.ref C) "__getattribute__"=some (some (.builtin "BaseException.__getattribute__"))) (hgt:PySem.W.findIn K (.ref C) "__getattr__"=some none)
  (hf:PySem.W.findObj K C od "__class__"=some (.bind (.builtin "getset_descriptor.__get__") (.builtin "object.__class__"))) (hm:PySem.W.mroIn K C (.type "object")=some true) (FB:ExcAttrBase B bmB)
  (hC:s.heap.get? C=some (excClassObj nm q C N bs bm hdct sn sub ab col dd k0 k1 k2 k3 k5 newId)) (T:OwnTailQ s.heap bmB bm) (hq:Q (some (.ref C)) { s with toks:=s.toks+1 }):wpAny (model prog w) A (getAttr? (.ref a) "__class__") Q E s:=by
 obtain⟨h,g,d,t,os⟩:=s;unfold getAttr?;refine wpAny_bind (wpAny_mkText ?_);unfold getAttrBy?;refine wpAny_bind (PD ?_);unfold getAttrBy;refine Ox (wpAny_bind (b6 (c6 I) (wpAny_bind (b6 (cn X hga) ?_))));refine PK (by rfl) ?_;unfold getAttrByItsOwn hookBefore;refine wpAny_bind (wpAny_ite_true (by rfl) (b6 (cn X hgt) (wpAny_bind (PD (Ox ?_)))));unfold callGetattribute boundAndCalled;refine PK (by rfl) (wpAny_bind (wpAny_of_eq (FB.ga.bind (Value.ref a)) (Ot (PL FB.ga.plain km (PM FB hC T I.at_ I.cls ?_)))));unfold Builtin.«object.__getattribute__»;refine wpAny_bind ?_;unfold slotArgs;refine PK (by rfl) (PK (by rfl) (On ?_));show wpAny _ _ (Bind.bind (Builtin.ObjectAttr.attrName (Value.str (Str.ofString "__class__") _)) _) _ _ _;refine wpAny_bind ?_;unfold Builtin.ObjectAttr.attrName;refine On ?_;refine wpAny_bind (b6 (c6 I) (wpAny_bind (b6 (jP X I hf) ?_)));unfold Builtin.ObjectAttr.bindTo;refine wpAny_bind (Ox (Ot (PySem.W.class_get X I hm ?_)));refine On ?_;refine j4 rfl ?_;exact On hq
structure uN (K:P5) (C:Addr):Prop where
 ga:PySem.W.findIn K (.ref C) "__getattribute__"=some (some (.builtin "BaseException.__getattribute__"))
 gt:PySem.W.findIn K (.ref C) "__getattr__"=some none
 fo:∀ od:Obj,PySem.W.findObj K C (some od) "__class__"=some (.bind (.builtin "getset_descriptor.__get__") (.builtin "object.__class__"))
 mro:PySem.W.mroIn K C (.type "object")=some true
 lk:∃ c dd cd sl,K.lookup C=some ⟨c,dd,.cls cd,sl⟩
 own:∃ B bmB,ExcAttrBase B bmB/\∀ h:Heap,K.In h->∃ nm q N bs bm hdct sn sub ab col dd k0 k1 k2 k3 k5 newId,h.get? C=some (excClassObj nm q C N bs bm hdct sn sub ab col dd k0 k1 k2 k3 k5 newId)/\OwnTailQ h bmB bm
def Hj(C a:Addr)(h:Heap):Prop:=∃o od,PySem.W.InstAt h a o C (some od)
def xv{K:P5}{C a:Addr}(k:uN K C):PySem.W.KitX K (.ref a) (.ref C) (Hj C a):=by
 obtain⟨c,dd,cd,sl,lk⟩:=k.lk;refine⟨λM h _ x=>?_,λM h X _ A Q E s kp hq=>?_,λh tp dd' its n sl' X htp=>?_,fun {prog w A E Q s} X x hq=>?_⟩
 ·obtain⟨o,od,I⟩:=x;exact c6 I
 ·exact wpAny_bind (wpAny_loadPart (kp C _ (X C _ lk)) (On hq))
 ·refine Bool.eq_false_iff.mpr λq=>?_;have e:=Value.ref.inj (beq_iff_eq.mp q);subst e;rw[X C _ lk] at htp;cases htp
 ·obtain⟨o,od,I⟩:=x;obtain⟨B,bmB,FB,ow⟩:=k.own;obtain⟨nm,q,N,bs,bm,hdct,sn,sub,ab,col,dd,k0,k1,k2,k3,k5,newId,hC,T⟩:=ow s.heap X;exact vU X I k.ga k.gt (k.fo od) k.mro FB hC T hq
inductive ExcAt (K:P5) (H:Hp) (a C:Addr):Prop
 | bare:H a=some (Ff C a)->yc K C->ExcAt K H a C
 | dict {dx:Addr} {f:Str} {v:V}:H a=some (jW (some dx) C a)->H dx=some (.xd [(f,v)])->uN K C->ExcAt K H a C
def ExcAt.same{K:P5}{H H':Hp}{a C:Addr}(h:ExcAt K H a C)(s:aW H H'):ExcAt K H' a C:=by
 cases h with
 | bare h k=>exact .bare (s _ _ h) k
 | dict h h2 k=>exact .dict (s _ _ h) (s _ _ h2) k
def ExcAt.kit{X:Cx}{pins:List (Addr×Obj)}{σ:St}{H:Hp}{s:Shared}{a C:Addr}(I:bT X pins σ H s)(h:ExcAt X.K H a C):∃R:Heap->Prop,PySem.W.KitX X.K (.ref a) (.ref C) R/\R s.heap:=by
 cases h with
 | bare h k=>exact⟨_,Av k,(I.hok a _ h).1⟩
 | dict h h2 k=>
  refine⟨_,xv k,?_⟩;obtain⟨⟨⟨o,o1,o2⟩,o',vs,o3,⟨o4,o5⟩,o6⟩,_⟩:=I.hok a _ h;rw[o1] at o3;cases o3;obtain⟨mA,n1,rl⟩:=I.hok _ _ h2;obtain⟨od,d1,d2⟩:=nL n1;exact⟨o,od,o1,o2,by unfold PySem.W.notCls;rw[o5],by rw[o4];exact d1⟩
def wX(K:P5):List V->Hp->VK->Prop:=λxs H Q=>∃a C c cv b,xs=[.ref a,c]/\ExcAt K H a C/\((∃T,c=.ty T/\cv=Value.type T)\/∃D,c=.ref D/\cv=Value.ref D)/\PySem.W.kitOne K (.ref C) cv=some b/\Q (.bl b) H
def ya {X:Cx}:eA X (.builtin "isinstance") (wX X.K):=by
 intro pins s σ H xs us Q I r h;obtain⟨a,C,c,cv,b,rfl,hC,hc,e,q⟩:=h;obtain⟨u,w,rfl,rx,rw'⟩:=bj.two r;cases (show u=Value.ref a from rx);have ew:w=cv:=by
  rcases hc with ⟨T,rfl,rfl⟩ | ⟨D,rfl,rfl⟩
  ·exact rw'
  ·exact rw'
 subst ew;obtain⟨R,kx,hx⟩:=hC.kit I;exact cJ kx I.kIn hx e (λz=>nomatch z) λtk=>⟨.bl b,H,I.tok tk,rfl,q⟩
def kc {X:Cx} {K:P5} (h:X.K=K):eA X (.builtin "isinstance") (wX K):=h▸ya
def zz(K:P5):List V->Hp->VK->Prop:=λxs H Q=>∃(a C tp:Addr) (cs:List Addr) (b:Bool),xs=[.ref a,.ref tp]/\ExcAt K H a C/\H tp=some (.tup (cs.map V.ref))/\PySem.W.kitAny K (.ref C) (cs.map Value.ref)=some b/\Q (.bl b) H
def v8 {X:Cx}:eA X (.builtin "isinstance") (zz X.K):=by
 intro pins s σ H xs us Q I r h;obtain⟨a,C,tp,cs,b,rfl,hC,ht,e,q⟩:=h;obtain⟨u,w,rfl,rx,rw'⟩:=bj.two r;cases (show u=Value.ref a from rx);cases (show w=Value.ref tp from rw');obtain⟨R,kx,hx⟩:=hC.kit I;obtain⟨hz,its,rv,o,ho,hcls,n,hdat⟩:=(show cw X.prog X.w H s.heap tp (.tup (cs.map V.ref)) from I.hok tp _ ht)
 have ei:=jt rv;subst ei;obtain⟨oc,od,oda,osl⟩:=o;dsimp only at hcls hdat;subst hcls hdat;exact PySem.W.kia_tup kx I.kIn hx ho e (λz=>nomatch z) λtk=>⟨.bl b,H,I.tok tk,rfl,q⟩
def uD {X:Cx} {K:P5} (h:X.K=K):eA X (.builtin "isinstance") (zz K):=h▸v8
def yD{K:P5}{a C D:Addr}{H:Hp}{b:Bool}{Q:VK}(hC:ExcAt K H a C)(e:PySem.W.kitOne K (.ref C) (.ref D)=some b)(q:Q (.bl b) H):wX K [.ref a,.ref D] H Q:=⟨a,C,_,_,b,rfl,hC,.inr ⟨D,rfl,rfl⟩,e,q⟩
def Di{K:P5}{a C:Addr}{T:String}{H:Hp}{b:Bool}{Q:VK}(hC:ExcAt K H a C)(e:PySem.W.kitOne K (.ref C) (.type T)=some b)(q:Q (.bl b) H):wX K [.ref a,.ty T] H Q:=⟨a,C,_,_,b,rfl,hC,.inl ⟨T,rfl,rfl⟩,e,q⟩
structure B8 (K:P5) (C:Addr) (ds:List Addr) (due:Nat):Prop where
 kit:∀ j d,ds[j]? = some d->PySem.W.kitOne K (.ref C) (.ref d)=some (decide (j=due))
 val:PySem.W.kitOne K (.ref C) (.type "ValueError")=some true
def Io.d{K:P5}{C:Addr}{ds:List Addr}{due:Nat}(h:Io K C ds due):B8 K C ds due:=⟨h.kit,h.val⟩
def BL{K:P5}{C R N NR:Addr}{nm q:Str}{bs bmB:List Value}{hdct:Bool}{sn:List Str}{sub:List Value}{ab:Bool}{col:Option Bool}{dd dR:Option Addr}{k0 k1 k2 k3 k5:Option Value}{newId:String}{cR:Value}{cdR:ClassData}{slR:Array (Option Value)}{f:Str}
  (lkC:K.lookup C=some (excClassObj nm q C N bs (.ref R::bmB) hdct sn sub ab col dd k0 k1 k2 k3 k5 newId)) (A:yd K C f) (gc:PySem.W.findIn K (.ref C) "__class__"=some (some (.builtin "object.__class__")))
  (sp:PySem.W.specialIn K (.builtin "object.__class__") "__get__"=some (some (.builtin "getset_descriptor.__get__"))) (tk:PySem.W.takesIn K (.builtin "object.__class__")=some true) (mr:PySem.W.mroIn K C (.type "object")=some true):uN K C:=
 ⟨A.ga,A.gt,λod=>PySem.W.findObj_data (by unfold PySem.W.clsIn;rw[lkC];rfl) gc sp tk,mr,⟨_,_,_,_,lkC⟩,A.own⟩
end L2
namespace Rm
open PySem L2 PyProof.Rows
structure JY (S:List Bw) (n:Int):Prop where
 lt:∀ p∈S,p.1<p.2
 bd:∀ p∈S,0<=p.1/\p.2<=n+1
 has:∀ x,1<=x->x<=n->∃ p∈S,p.1=x\/p.2=x
 one:∀ p∈S,∀ q∈S,∀ x,(p.1=x\/p.2=x)->(q.1=x\/q.2=x)->p=q
 nc:∀ p∈S,∀ q∈S,df p q=false
def vR{x:Int}{p:Bw}:rV x p=true<->(p.1=x\/p.2=x):=by
 unfold rV;rw[Bool.or_eq_true,PY,PY];exact⟨λh=>h.imp iu iu,λh=>h.imp iu iu⟩
def zm{b:Bool}{ns:List Int}(O:kd ns)(nc:NC b ns)(u:Bool):JY (ac b ns u (ns.length+1)) ns.length where
 lt:=λp hp=>by obtain⟨i,hi,_,rfl⟩:=jv hp;exact O.step_lt (by lia)
 bd:=λp hp=>by obtain⟨i,hi,_,rfl⟩:=jv hp;exact O.step_in (by lia)
 has:=λx h1 h2=>by
  obtain⟨i,hi⟩:=List.getElem?_of_mem (O.mem.mpr ⟨h1,h2⟩);have il:=(aR.mp hi).1;have er:=nI hi;have:cH b u i=true\/cH b u (i+1)=true:=by
   unfold cH;rw[jM];cases b<;>cases u<;>cases odd i<;>simp
  rcases this with s | s
  ·refine⟨_,mY (by lia) s,?_⟩;rw[<-vR,<-er,O.has_iff (by lia) (by lia)];simp
  ·refine⟨_,mY (by lia) s,?_⟩;rw[<-vR,<-er,O.has_iff (by lia) (by lia)];simp
 one:=λp hp q hq x h1 h2=>by
  obtain⟨i,hi,si,rfl⟩:=jv hp;obtain⟨j,hj,sj,rfl⟩:=jv hq;have hx:∃k,k<ns.length+2/\x=ao ns k/\(i=k\/i+1=k):=by
   have e:x=ao ns i\/x=ao ns (i+1):=by
    have h1':min (ao ns i) (ao ns (i+1))=x\/max (ao ns i) (ao ns (i+1))=x:=h1;lia
   rcases e with e | e
   ·exact⟨i,by lia,e,.inl rfl⟩
   ·exact⟨i+1,by lia,e,.inr rfl⟩
  obtain⟨k,hk,rfl,ik⟩:=hx;have h2':=vR.mpr h2;rw[O.has_iff hk (by lia)] at h2';have jk:=of_decide_eq_true h2';have:i=j\/i=j+1\/j=i+1:=by lia
  rcases this with z | z | z
  ·rw[z]
  ·exact absurd z λz=>rP si sj z
  ·exact absurd z λz=>rP sj si z
 nc:=nc u
def wU{b:Bool}{ns:List Int}(O:kd ns){u:Bool}{p:Bw}(hp:p∈ac b ns u (ns.length+1)):0<=p.1/\p.1<p.2/\p.2<=21:=by
 obtain⟨i,hi,_,rfl⟩:=jv hp;have h1:=O.step_in (i:=i) (by lia);have h2:=O.step_lt (i:=i) (by lia);have:=O.len;exact⟨h1.1,h2,by lia⟩
def jS.dat{H:Hp}{t:Addr}{u:Bool}{p q:Bw}(h:jS H t u p q):Dat H (.ref t) (.tuple [.str (sd u),pB p.1 p.2,pB q.1 q.2]):=by
 obtain⟨a,c,h1,h2,h3⟩:=h;exact .tup h1 (.cons (.str _) (.cons (.tup h2 (.cons (.int _) (.cons (.int _) .nil))) (.cons (.tup h3 (.cons (.int _) (.cons (.int _) .nil))) .nil)))
def jS.same{H H':Hp}{t:Addr}{u:Bool}{p q:Bw}(h:jS H t u p q)(s:aW H H'):jS H' t u p q:=by
 obtain⟨a,c,h1,h2,h3⟩:=h;exact⟨a,c,s _ _ h1,s _ _ h2,s _ _ h3⟩
def jS.ok{H:Hp}{t:Addr}{u:Bool}{p q:Bw}{b:Bool}{ns:List Int}(h:jS H t u p q)(O:kd ns)(hp:p∈ac b ns u (ns.length+1))(hq:q∈ac b ns u (ns.length+1)):Cm (.ref t) H:=by
 have h1:=wU O hp;have h2:=wU O hq;exact xo (by cases u;exact .inl rfl;exact .inr rfl) h.dat (by lia) (by lia) (by lia) (by lia) (by lia) (by lia) (by lia) (by lia)
def ze(M C:Addr):Sp:=λvs H Q E=>∃x d,vs=[x]/\Dat H x d/\Pl d 60/\((kA d=false/\∀H',aW H H'->E (.ref M) none H')\/∃m o b ns,x=.ref m/\gf H m o b ns/\d=GD b ns/\kd ns/\(NC b ns->∀H',aW H H'->Q (.bl true) H') ∧
 ∀u,∀p∈ac b ns u (ns.length+1),∀q∈ac b ns u (ns.length+1),df p q=true->∀t dx H',aW H H'->jS H' t u p q->H' dx=some (.xd [("bows",.ref t)])->E (.ref C) (some dx) H')
structure J0 (b:Bool) (ns:List Int) (u:Bool) (p q:Bw):Prop where
 hp:p∈ac b ns u (ns.length+1)
 hq:q∈ac b ns u (ns.length+1)
 z:df p q=true
def xD(p:Bw):PyData:=pB p.1 p.2
def DL(p q:Bw):PyData.eqv (xD p) (xD q)=decide (p=q):=by
 show PyData.eqvAll ([p.1,p.2].map PyData.int) ([q.1,q.2].map PyData.int)=_;rw[pF];refine decide_eq_decide.mpr ⟨λh=>?_,λh=>by rw[h]⟩;simp only[kj,and_true] at h;exact Prod.ext h.1 h.2
def zT{H:Hp}{a:Addr}{p:Bw}(h:eV H a p):Dat H (.ref a) (xD p):=.tup h (.cons (.int _) (.cons (.int _) .nil))
def DJ{H:Hp}{as:List Addr}{ps:List Bw}(h:Paired (eV H) as ps):fk H (as.map V.ref) (ps.map xD):=by
 induction h with
 | nil=>exact .nil
 | cons r _ ih=>exact .cons (zT r) ih
def v9(p:Bw){k:Nat}:Pl (xD p) (k+1):=jf (Dd (uo _) (uo _))
def Fh(ps:List Bw){k:Nat}:∀d∈ps.map xD,Pl d (k+1):=λd hd=>by obtain⟨p,_,rfl⟩:=bB.mp hd;exact v9 p
def wg{K:P5}{H:Hp}{a l:Addr}{p:Bw}{ps:List Bw}{neg:Bool}{Q:VK}(ha:eV H a p)(hl:ez H l ps)(q:Q (.bl (if neg then !decide (p∈ps) else decide (p∈ps))) H):xV K neg (.ref a) (.ref l) H Q:=by
 obtain⟨as,h1,h2⟩:=hl;refine⟨xD p,ps.map xD,l,_,(zT ha).rep,rfl,.inl (ce.of h1),(DJ h2).rep,(v9 p (k:=0)).lay,lg λd hd=>(Fh ps (k:=0) d hd).lay,cP (v9 p (k:=0)).deep (by decide),?_⟩;have e:(ps.map xD).any (λe=>PyData.eqv e (xD p))=decide (p∈ps):=by
  rw[List.any_map];have:(λx=>(λe=>PyData.eqv e (xD p)) (xD x))=λx=>decide (x=p):=by funext x;exact DL x p
  show ps.any (λx=>PyData.eqv (xD x) (xD p))=_;rw[this];rw[gG,kR,PY];exact⟨λ⟨x,h,e⟩=>by rw[PY] at e;rw[<-e];exact h,λh=>⟨p,h,P0 rfl⟩⟩
 rw[e];exact q
def yV{p q:Bw}(h:df p q=true):p.1<q.1/\q.1<p.2/\p.2<q.2:=by
 unfold df at h;rw[be,be,PY,PY,PY] at h;exact h
def nz(x:Nat):Int:=(x:Int)
structure Sd (u b:Bool) (cs:List Nat) (i:Nat) (S:List Oe) (F:List Bw):Prop where
 row:S.map (·.1)=(stN u b cs i).1.map nz
 bow:∀ p∈F,∃ x y:Nat,p=(nz x,nz y)/\(stN u b cs i).2 x=some y/\1<=y/\y<=i/\isIn u (cs.getD (y - 1) 0)=false/\(x=0\/isIn u (cs.getD (x - 1) 0)=true)
 top:∀ x∈(stN u b cs i).1,x=0\/isIn u (cs.getD (x - 1) 0)=true
section
variable {u b:Bool} {cs:List Nat} {i c:Nat} {S:List Oe} {F:List Bw}
def Sd.push(h:Sd u b cs i S F)(hc:cs.getD i 0=c)(hi:isIn u c=true)(l:Int):Sd u b cs (i+1) (S++[(((i+1:Nat):Int),l)]) F:=by
 have e:stN u b cs (i+1)=((stN u b cs i).1++[i+1],(stN u b cs i).2):=by
  show sO u (stN u b cs i) (i+1) (cs.getD i 0)=_;rw[hc,u6 hi]
 refine⟨by rw[e,a6,a6,h.row];rfl,λp hp=>?_,λx hx=>?_⟩
 ·obtain⟨x,y,e1,e2,e3,e4,e5,e6⟩:=h.bow p hp;rw[e];exact⟨x,y,e1,e2,e3,by lia,e5,e6⟩
 ·rw[e] at hx;rcases aQ.mp hx with z | z
  ·exact h.top x z
  ·rw[bE] at z;subst z;exact .inr (by rw[gM,hc];exact hi)
def Sd.pop{o l:Int}(h:Sd u b cs i (S++[(o,l)]) F)(I:uR u b i (stN u b cs i))(hc:cs.getD i 0=c)(hi:isIn u c=false):Sd u b cs (i+1) S (F++[(o,((i+1:Nat):Int))]):=by
 have hr:=h.row;rw[a6] at hr;obtain⟨P,w,hs⟩:=ou (l:=(stN u b cs i).1) (λz=>by rw[z] at hr;simp at hr);rw[hs,a6] at hr;obtain⟨r1,r2⟩:=List.append_inj' hr rfl;have ow:o=nz w:=by simpa using r2
 have e:stN u b cs (i+1)=(P,ko (stN u b cs i).2 (i+1) w):=by
  show sO u (stN u b cs i) (i+1) (cs.getD i 0)=_;rw[hc,qw hi hs]
 have wm:w∈(stN u b cs i).1:=by rw[hs];simp
 have wl:=I.le w wm;refine⟨by rw[e];exact r1,λp hp=>?_,λx hx=>?_⟩
 ·rw[e];rcases aQ.mp hp with z | z
  ·obtain⟨x,y,e1,e2,e3,e4,e5,e6⟩:=h.bow p z;refine⟨x,y,e1,?_,e3,by lia,e5,e6⟩;have n1:x≠i+1:=λz=>by have:=I.bd x y e2;lia
   have n2:x≠w:=λz=>by rw[z,I.out w wm] at e2;cases e2
   show ko _ _ _ x=_;unfold ko;rw[PV n1,PV n2];exact e2
  ·rw[bE] at z;subst z;refine⟨w,i+1,by rw[ow];rfl,?_,by lia,by lia,by rw[gM,hc];exact hi,h.top w wm⟩;show ko _ _ _ w=_;unfold ko;rw[PV (by lia),PX rfl]
 ·rw[e] at hx;exact h.top x (by rw[hs];exact bC _ hx)
def Sd.lab(h:Sd u b cs i S F)(g:Oe->Oe)(hg:∀e,(g e).1=e.1):Sd u b cs i (S.map g) F:=by
 refine⟨?_,h.bow,h.top⟩;rw[<-h.row,bp];exact dF λe _=>hg e
end
structure Im (g:Int->Int) (L R:List Int) (st:Bool->List Oe):Prop where
 inj:∀ x∈L++R,∀ y∈L++R,g x=g y->x=y
 l:(st false).map (·.2)=L.map g
 r:(st true).map (·.2)=R.map g
structure Sm (b:Bool) (cs:List Nat) (i:Nat) (L R:List Int) (st:Bool->List Oe) (f:Bool->List Bw):Prop where
 gr:∃ is,Gr b st f (i+1) is
 lab:∃ g,Im g L R st
 sd:∀ u,Sd u b cs i (st u) (f u)
def Sm.start(b:Bool)(cs:List Nat):Sm b cs 0 (bL b) (bR b) (λu=>if u=b then [((0:Int),(0:Int))] else []) (λ_=>[]):=by
 refine⟨⟨_,Gr.start b⟩,⟨id,?_⟩,λu=>?_⟩
 ·cases b
  ·exact⟨λx _ y _ h=>h,rfl,rfl⟩
  ·exact⟨λx _ y _ h=>h,rfl,rfl⟩
 ·refine⟨?_,(λp h=>nomatch h),λx hx=>?_⟩
  ·show _=(ye u b).1.map nz;unfold ye;by_cases h:u=b
   ·rw[PX h,PX h];rfl
   ·rw[PV h,PV h];rfl
  ·have hx:x∈(ye u b).1:=hx;unfold ye at hx
   split at hx
   ·left;simpa using hx
   ·cases hx
def Gr.lab_lt{b:Bool}{st:Bool->List Oe}{f:Bool->List Bw}{r:Nat}{is:List Pc}(G:Gr b st f r is){u:Bool}{e:Oe}(h:e∈st u):e.2<r:=by
 have hm:(e,u)∈d9 st:=by
  unfold d9;cases u
  ·exact bC _ (bB.mpr ⟨e,h,rfl⟩)
  ·exact a7 _ (bB.mpr ⟨e,h,rfl⟩)
 obtain⟨p,hp,he⟩:=iH.mp (G.ends.mem_iff.mp hm);have hl:=G.lr p hp;unfold Pc.ends at he;rcases aI.mp he with z | z
 ·have:e=(ltZ p.rows,p.lab):=congrArg Prod.fst z;rw[this];exact hl
 ·unfold Pc.more at z
  split at z
  ·cases z
  ·have:e=(wu p.rows,p.lab):=by rw[bE] at z;exact congrArg Prod.fst z
   rw[this];exact hl
def mf{α β:Type}{f:α->β}{l:List α}{Q:List β}{v:β}(h:l.map f=Q++[v]):∃S e,l=S++[e]/\S.map f=Q/\f e=v:=by
 have hne:l≠[]:=λz=>by rw[z] at h;simp at h
 refine⟨l.dropLast,l.getLast hne,(de hne).symm,?_⟩;rw[<-de hne,a6] at h;obtain⟨h1,h2⟩:=List.append_inj' h rfl;exact⟨h1,by simpa using h2⟩
section
variable {b:Bool} {cs:List Nat} {i c:Nat} {L R L' R':List Int} {st:Bool->List Oe} {f:Bool->List Bw}
def Sm.la(h:Sm b cs i L R st f)(E:EE L R)(hc:cs.getD i 0=97):Sm b cs (i+1) (L++[1+mx (L++R)]) (R++[1+mx (L++R)]) (λu=>st u++[(((i+1:Nat):Int),((i+1:Nat):Int))]) f:=by
 obtain⟨is,G⟩:=h.gr;obtain⟨g,M⟩:=h.lab;obtain⟨f0,f1,f2⟩:=BF E;have f2:1+mx (L++R)∉R:=λz=>f2 (List.mem_reverse.mpr z);refine⟨(rq.a (st:=st) (f:=f) (r:=i+1)).gr G,⟨λx=>if x=1+mx (L++R) then ((i+1:Nat):Int) else g x,?_⟩,λu=>(h.sd u).push hc (by cases u<;>rfl) _⟩;generalize 1+mx (L++R)=m at f1 f2;have gl:∀x∈L++R,g x<((i+1:Nat):Int):=λx hx=>by
  rcases aQ.mp hx with z | z
  ·have:g x∈(st false).map (·.2):=by rw[M.l];exact bB.mpr ⟨x,z,rfl⟩
   obtain⟨e,he,e2⟩:=bB.mp this;rw[<-e2];exact G.lab_lt he
  ·have:g x∈(st true).map (·.2):=by rw[M.r];exact bB.mpr ⟨x,z,rfl⟩
   obtain⟨e,he,e2⟩:=bB.mp this;rw[<-e2];exact G.lab_lt he
 have ng:∀x∈L++R,x≠m:=λx hx z=>by
  rcases aQ.mp hx with w | w
  ·exact f1 (z▸w)
  ·exact f2 (z▸w)
 have mm:∀l:List Int,(∀x∈l,x∈L++R)->l.map g++[((i+1:Nat):Int)]=(l++[m]).map (λx=>if x=m then ((i+1:Nat):Int) else g x):=λl hl=>by
  rw[a6];congr 1
  ·exact dF λx hx=>by rw[PV (ng x (hl x hx))]
  ·simp
 have mem:∀x,x∈(L++[m])++(R++[m])->x=m\/x∈L++R:=λx hx=>by
  simp only[aQ,bE] at hx ⊢;rcases hx with (z | z) | (z | z)
  ·exact .inr (.inl z)
  ·exact .inl z
  ·exact .inr (.inr z)
  ·exact .inl z
 refine⟨λx hx y hy e=>?_,?_,?_⟩
 ·rcases mem x hx with z | z<;>rcases mem y hy with w | w
  ·rw[z,w]
  ·rw[PX z,PV (ng y w)] at e;have:=gl y w;lia
  ·rw[PV (ng x z),PX w] at e;have:=gl x z;lia
  ·rw[PV (ng x z),PV (ng y w)] at e;exact M.inj x z y w e
 ·show (st false++_).map _=_;rw[a6,M.l];exact mm L λx hx=>bC _ hx
 ·show (st true++_).map _=_;rw[a6,M.r];exact mm R λx hx=>a7 _ hx
def Sm.lb{Q:List Int}{v:Int}(h:Sm b cs i L (Q++[v]) st f)(I:∀u,uR u b i (stN u b cs i))(hc:cs.getD i 0=98):∃st' f',Sm b cs (i+1) (L++[v]) Q st' f':=by
 obtain⟨is,G⟩:=h.gr;obtain⟨g,M⟩:=h.lab;have hr:=M.r;rw[a6] at hr;obtain⟨S,⟨o,l⟩,e1,e2,e3⟩:=mf hr;have e3:l=g v:=e3;refine⟨_,_,(rq.b (st:=st) (f:=f) (r:=i+1) e1).gr G,⟨g,λx hx y hy e=>M.inj x ?_ y ?_ e,?_,?_⟩,λu=>?_⟩
 ·simp only[aQ,bE] at hx ⊢;rcases hx with (z | z) | z<;>simp[z]
 ·simp only[aQ,bE] at hy ⊢;rcases hy with (z | z) | z<;>simp[z]
 ·simp[M.l,e3]
 ·simpa using e2
 ·have hs:=h.sd u;cases u with
  | false=>simpa using hs.push hc (by rfl) l
  | true=>
   rw[e1] at hs;simpa using hs.pop (I true) hc (by rfl)
def Sm.lc{P:List Int}{v:Int}(h:Sm b cs i (P++[v]) R st f)(I:∀u,uR u b i (stN u b cs i))(hc:cs.getD i 0=99):∃st' f',Sm b cs (i+1) P (R++[v]) st' f':=by
 obtain⟨is,G⟩:=h.gr;obtain⟨g,M⟩:=h.lab;have hr:=M.l;rw[a6] at hr;obtain⟨S,⟨o,l⟩,e1,e2,e3⟩:=mf hr;have e3:l=g v:=e3;refine⟨_,_,(rq.c (st:=st) (f:=f) (r:=i+1) e1).gr G,⟨g,λx hx y hy e=>M.inj x ?_ y ?_ e,?_,?_⟩,λu=>?_⟩
 ·simp only[aQ,bE] at hx ⊢;rcases hx with z | (z | z)<;>simp[z]
 ·simp only[aQ,bE] at hy ⊢;rcases hy with z | (z | z)<;>simp[z]
 ·simpa using e2
 ·simp[M.r,e3]
 ·have hs:=h.sd u;cases u with
  | true=>simpa using hs.push hc (by rfl) l
  | false=>
   rw[e1] at hs;simpa using hs.pop (I false) hc (by rfl)
def Sm.ld{P Q:List Int}{x y:Int}(h:Sm b cs i (P++[x]) (Q++[y]) st f)(I:∀u,uR u b i (stN u b cs i))(hc:cs.getD i 0=100)(hxy:x≠y):∃st' f',Sm b cs (i+1) (P.map (rn (min x y) (max x y))) (Q.map (rn (min x y) (max x y))) st' f':=by
 obtain⟨is,G⟩:=h.gr;obtain⟨g,M⟩:=h.lab;have hl:=M.l;have hr:=M.r;rw[a6] at hl hr;obtain⟨n',⟨o1,l1⟩,e1,e2,e3⟩:=mf hl;obtain⟨f',⟨o2,l2⟩,d1,d2,d3⟩:=mf hr;have e3:l1=g x:=e3;have d3:l2=g y:=d3;have mx1:x∈(P++[x])++(Q++[y]):=by simp
 have my1:y∈(P++[x])++(Q++[y]):=by simp
 have hne:l1≠l2:=λz=>hxy (M.inj x mx1 y my1 (by rw[<-e3,<-d3];exact z));have lohi:(min x y=x/\max x y=y)\/(min x y=y/\max x y=x):=by lia
 have LOHI:(min l1 l2=l1/\max l1 l2=l2)\/(min l1 l2=l2/\max l1 l2=l1):=by lia
 have lne:min x y≠max x y:=by lia
 have Lne:min l1 l2≠max l1 l2:=by lia
 have xy:∀v∈(P++[x])++(Q++[y]),(g v=l1->v=x)/\(g v=l2->v=y):=λv hv=>⟨λz=>M.inj v hv x mx1 (by rw[z,e3]),λz=>M.inj v hv y my1 (by rw[z,d3])⟩
 generalize min x y=lo at *;generalize max x y=hi at *;generalize min l1 l2=Lo at *;generalize max l1 l2=Hi at *;refine⟨λu=>(if u then f' else n').map (jI Hi Lo),λu=>f u++[(if u then o2 else o1,((i+1:Nat):Int))],?_,⟨λw=>if w=lo then Lo else g w,?_⟩,λu=>?_⟩
 ·exact G.joinS e1 d1 hne (by rcases LOHI with ⟨a,b⟩ | ⟨a,b⟩<;>simp[a,b])
 ·have key:∀v∈(P++[x])++(Q++[y]),(if rn lo hi v=lo then Lo else g (rn lo hi v))=rn Lo Hi (g v):=λv hv=>by
   obtain⟨k1,k2⟩:=xy v hv;unfold rn;by_cases v1:v=hi
   ·rw[PX v1,PX rfl];have:g v=Lo\/g v=Hi:=by
     rcases lohi with ⟨a,c⟩ | ⟨a,c⟩<;>rcases LOHI with ⟨a',c'⟩ | ⟨a',c'⟩<;>rw[v1,c]<;>simp only[<-e3,<-d3]<;>lia
    split
    ·rfl
    ·lia
   ·rw[PV v1];by_cases v2:v=lo
    ·rw[PX v2];have:g v=Lo\/g v=Hi:=by
      rcases lohi with ⟨a,c⟩ | ⟨a,c⟩<;>rcases LOHI with ⟨a',c'⟩ | ⟨a',c'⟩<;>rw[v2,a]<;>simp only[<-e3,<-d3]<;>lia
     split
     ·rfl
     ·lia
    ·rw[PV v2,PV];intro z;rcases lohi with ⟨a,c⟩ | ⟨a,c⟩<;>rcases LOHI with ⟨a',c'⟩ | ⟨a',c'⟩<;>lia
  have sub:∀w,w∈P.map (rn lo hi)++Q.map (rn lo hi)->∃v∈(P++[x])++(Q++[y]),w=rn lo hi v:=λw hw=>by
   rcases aQ.mp hw with z | z
   ·obtain⟨v,hv,e⟩:=bB.mp z;exact⟨v,by simp[hv],e.symm⟩
   ·obtain⟨v,hv,e⟩:=bB.mp z;exact⟨v,by simp[hv],e.symm⟩
  have rnn:∀v,rn lo hi v≠hi:=λv=>by unfold rn;split<;>lia
  have inL:∀w,w∈P.map (rn lo hi)++Q.map (rn lo hi)->w=lo\/(w∈(P++[x])++(Q++[y])/\w≠hi):=λw hw=>by
   obtain⟨v,hv,rfl⟩:=sub w hw;by_cases z:v=hi
   ·left;unfold rn;rw[PX z]
   ·right;exact⟨by unfold rn;rw[PV z];exact hv,rnn v⟩
  have noLo:∀w,w∈(P++[x])++(Q++[y])->w≠hi->w≠lo->g w≠Lo:=λw hw n1 n2 z=>by
   obtain⟨k1,k2⟩:=xy w hw;rcases lohi with ⟨a,c⟩ | ⟨a,c⟩<;>rcases LOHI with ⟨a',c'⟩ | ⟨a',c'⟩<;>lia
  refine⟨λv hv w hw e=>?_,?_,?_⟩
  ·rcases inL v hv with z | ⟨z,zn⟩<;>rcases inL w hw with t | ⟨t,tn⟩
   ·rw[z,t]
   ·by_cases tl:w=lo
    ·rw[z,tl]
    ·rw[PX z,PV tl] at e;exact absurd e.symm (noLo w t tn tl)
   ·by_cases zl:v=lo
    ·rw[zl,t]
    ·rw[PV zl,PX t] at e;exact absurd e (noLo v z zn zl)
   ·by_cases zl:v=lo
    ·by_cases tl:w=lo
     ·rw[zl,tl]
     ·rw[PX zl,PV tl] at e;exact absurd e.symm (noLo w t tn tl)
    ·by_cases tl:w=lo
     ·rw[PV zl,PX tl] at e;exact absurd e (noLo v z zn zl)
     ·rw[PV zl,PV tl] at e;exact M.inj v z w t e
  ·show (n'.map (jI Hi Lo)).map (·.2)=_;rw[bp,bp];have:n'.map ((·.2)∘jI Hi Lo)=(n'.map (·.2)).map (rn Lo Hi):=by rw[bp];rfl
   rw[this,e2,bp];exact dF λv hv=>(key v (by simp[hv])).symm
  ·show (f'.map (jI Hi Lo)).map (·.2)=_;rw[bp,bp];have:f'.map ((·.2)∘jI Hi Lo)=(f'.map (·.2)).map (rn Lo Hi):=by rw[bp];rfl
   rw[this,d2,bp];exact dF λv hv=>(key v (by simp[hv])).symm
 ·have hs:=h.sd u;cases u with
  | false=>
   rw[e1] at hs;exact(hs.pop (I false) hc (by rfl)).lab _ λe=>rfl
  | true=>
   rw[d1] at hs;exact(hs.pop (I true) hc (by rfl)).lab _ λe=>rfl
def Sm.step(h:Sm b cs i L R st f)(Rn:Run b cs i L R)(e:cs[i]? = some c)(hc:pZ c)(g:lm L R c=some (L',R')):∃st' f',Sm b cs (i+1) L' R' st' f':=by
 have hg:cs.getD i 0=c:=by rw[bf,e];rfl
 have I:∀u,uR u b i (stN u b cs i):=λu=>by cases u;exact Rn.li;exact Rn.ri
 rcases hc with rfl | rfl | rfl | rfl
 ·cases g;exact⟨_,_,h.la Rn.ee hg⟩
 ·by_cases z:R=[]
  ·subst z;rw[rf] at g;cases g
  ·obtain⟨Q,v,rfl⟩:=dY z;rw[tj] at g;cases g;exact h.lb I hg
 ·by_cases z:L=[]
  ·subst z;rw[rZ] at g;cases g
  ·obtain⟨P,v,rfl⟩:=dY z;rw[tZ] at g;cases g;exact h.lc I hg
 ·by_cases z:L=[]
  ·subst z;rw[rY] at g;cases g
  ·by_cases z2:R=[]
   ·subst z2;rw[rX] at g;cases g
   ·obtain⟨P,x,rfl⟩:=dY z;obtain⟨Q,y,rfl⟩:=dY z2;rw[tY] at g
    split at g
    ·cases g
    ·cases g;exact h.ld I hg (by assumption)
end
def kd.row_leC{ns:List Int}(O:kd ns){j:Nat}(h:j<ns.length+1):0<=ao ns j/\ao ns j<=ns.length:=by
 have h1:=O.row_in (i:=j) (by lia);have:ao ns j≠(ns.length:Int)+1:=λe=>by
  rw[<-qL ns] at e;have:=O.row_inj (by lia) (by lia) e;lia
 lia
def wO{b:Bool}{cs:List Nat}(hl:pR cs)(h:fT (bL b) (bR b) cs 0=none):∀i,i<=cs.length->∃L R st f,Run b cs i L R/\fT L R (cs.drop i) i=none/\Sm b cs i L R st f
 | 0,_=>⟨_,_,_,_,Run.zero b cs,h,Sm.start b cs⟩
 | i+1,hi=>by
  obtain⟨L,R,st,f,rn,re,sm⟩:=wO hl h i (by lia);have hi':i<cs.length:=by lia
  rw[aw hi'] at re;have hc:pZ cs[i]:=hl _ (fh hi');cases g:lm L R cs[i] with
  | none=>rw[oE g] at re;cases re
  | some p=>
   obtain⟨L',R'⟩:=p;rw[oF g] at re;obtain⟨st',f',sm'⟩:=sm.step rn (aL hi') hc g;exact⟨L',R',st',f',rn.step (aL hi') hc g,re,sm'⟩
structure Ba (b:Bool) (cs:List Nat) (ns:List Int):Prop where
 len:ns.length=cs.length
 ord:kd ns
 nc:NC b ns
 step:∀ j,j<=cs.length->fin2 b cs (b ^^ odd j) (ao ns j).toNat=some (ao ns (j+1)).toNat
 lets:∀ u,∀ r:Nat,1<=r->r<=cs.length->decide ((r:Int)∈(ac b ns u (ns.length+1)).map (·.1))=isIn u (cs.getD (r - 1) 0)
def y6{b:Bool}{cs:List Nat}(hl:pR cs)(h20:cs.length<=20)(h:fT (bL b) (bR b) cs 0=none):∃ns,Ba b cs ns:=by
 obtain⟨L,R,st,f,rn,re,sm⟩:=wO hl h cs.length (aH _);rw[List.drop_length] at re;have one:L.length+R.length=1:=by
  unfold fT at re
  split at re
  ·assumption
  ·cases re
 obtain⟨g,M⟩:=sm.lab;obtain⟨is,G⟩:=sm.gr;have I:∀u,uR u b cs.length (stN u b cs cs.length):=λu=>by cases u;exact rn.li;exact rn.ri
 have l1:(st false).length=L.length:=by have:=congrArg List.length M.l;simpa using this
 have l2:(st true).length=R.length:=by have:=congrArg List.length M.r;simpa using this
 obtain⟨t,o,l,h1,h2⟩:∃t o l,st t=[(o,l)]/\st (!t)=[]:=by
  by_cases z:(st false).length=1
  ·obtain⟨⟨o,l⟩,e⟩:=gh.mp z;exact⟨false,o,l,e,cy.mp (by show (st true).length=0;lia)⟩
  ·obtain⟨⟨o,l⟩,e⟩:=gh.mp (show (st true).length=1 by lia);exact⟨true,o,l,e,cy.mp (by show (st false).length=0;lia)⟩
 obtain⟨ns,e1,e2,e3⟩:=G.last h1 h2;have en:ns.length=cs.length:=by lia
 have O:kd ns:=⟨by lia,e2⟩
 have NCs:NC b ns:=λu=>(e3 u).2;have lt:=(sm.sd t).row;rw[h1] at lt;obtain⟨w,hw⟩:∃w,(stN t b cs cs.length).1=[w]:=by
  have:(stN t b cs cs.length).1.length=1:=by have:=congrArg List.length lt;simpa using this.symm
  exact gh.mp this
 have ow:o=nz w:=by rw[hw] at lt;simpa using lt
 have fin_in:∀u x y,(stN u b cs cs.length).2 x=some y->fin2 b cs u x=some y:=λu x y e=>by
  unfold fin2 rg;rw[PV (λz=>by rw[(I u).out x z] at e;cases e)];exact e
 have pairs:∀u,∀p∈ac b ns u (ns.length+1),∃x y:Nat,p=(nz x,nz y)/\fin2 b cs u x=some y/\(y<=cs.length->fin2 b cs u y=some x/\1<=y/\isIn u (cs.getD (y - 1) 0)=false)/\(x=0\/isIn u (cs.getD (x - 1) 0)=true):=by
  intro u p hp;have hp:=(e3 u).1.mem_iff.mpr hp;have old:p∈f u->∃x y:Nat,p=(nz x,nz y)/\fin2 b cs u x=some y/\(y<=cs.length->fin2 b cs u y=some x/\1<=y/\isIn u (cs.getD (y - 1) 0)=false)/\(x=0\/isIn u (cs.getD (x - 1) 0)=true):=λhp=>by
   obtain⟨x,y,p1,p2,p3,p4,p5,p6⟩:=(sm.sd u).bow p hp;exact⟨x,y,p1,fin_in u x y p2,λ_=>⟨fin_in u y x ((I u).sym x y p2),p3,p5⟩,p6⟩
  by_cases ut:u=t
  ·rw[PX ut] at hp;rcases aQ.mp hp with z | z
   ·exact old z
   ·rw[bE] at z;subst ut;refine⟨w,cs.length+1,by rw[z,ow];rfl,?_,λz=>by lia,(sm.sd u).top w (by rw[hw];simp)⟩;unfold fin2 rg;rw[PX (by rw[hw];simp)]
  ·rw[PV ut] at hp;exact old hp
 refine⟨ns,en,O,NCs,λj hj=>?_,λu r hr1 hr2=>?_⟩
 ·obtain⟨x,y,p1,p2,p3,p4⟩:=pairs _ _ (mY (b:=b) (ns:=ns) (m:=ns.length+1) (i:=j) (by lia) (tF b j));have q1:min (ao ns j) (ao ns (j+1))=nz x:=congrArg Prod.fst p1;have q2:max (ao ns j) (ao ns (j+1))=nz y:=congrArg Prod.snd p1;have b1:=O.row_leC (j:=j) (by lia);unfold nz at q1 q2;by_cases le:ao ns j<=ao ns (j+1)
  ·rw[show (ao ns j).toNat=x by lia,show (ao ns (j+1)).toNat=y by lia];exact p2
  ·rw[show (ao ns j).toNat=y by lia,show (ao ns (j+1)).toNat=x by lia];exact(p3 (by lia)).1
 ·cases hi:isIn u (cs.getD (r - 1) 0) with
  | true=>
   refine P0 ?_;obtain⟨p,hp,e⟩:=(zm O NCs u).has (r:Int) (by lia) (by lia);rcases e with e | e
   ·exact bB.mpr ⟨p,hp,e⟩
   ·obtain⟨x,y,p1,p2,p3,p4⟩:=pairs u p hp;rw[p1] at e;have e:nz y=(r:Int):=e;unfold nz at e;have ey:y=r:=by lia
    subst ey;rw[(p3 hr2).2.2] at hi;cases hi
  | false=>
   refine PZ λz=>?_;obtain⟨p,hp,e⟩:=bB.mp z;obtain⟨x,y,p1,p2,p3,p4⟩:=pairs u p hp;rw[p1] at e;have e:nz x=(r:Int):=e;unfold nz at e;have ex:x=r:=by lia
   subst ex;rcases p4 with z | z
   ·lia
   ·rw[hi] at z;cases z
section
variable {b:Bool} {cs:List Nat} {ns:List Int}
def Ba.pth(C:Ba b cs ns):∀j,j<=cs.length+1->pth (fin2 b cs) b j=((ao ns j).toNat,b ^^ odd j)
 | 0,_=>by
  show (0,b)=_;rw[Ed];cases b<;>rfl
 | j+1,h=>by
  have ih:=C.pth j (by lia);show ((fin2 b cs (Rm.pth (fin2 b cs) b j).2 (Rm.pth (fin2 b cs) b j).1).getD 0,!(Rm.pth (fin2 b cs) b j).2)=_;rw[ih];simp only;rw[C.step j (by lia),jM];cases b<;>cases odd j<;>rfl
def Ba.vld(C:Ba b cs ns):Bd cs.length b (fin2 b cs) (cs.length+1):=by
 refine⟨λi hi=>?_,λi hi=>?_⟩
 ·rw[C.pth i (by lia)];have:=C.ord.row_leC (j:=i) (by rw[C.len];lia);have:=C.len;simp only;lia
 ·rw[C.pth i (by lia),C.pth (i+1) (by lia)];exact C.step i (by lia)
def Ba.last(C:Ba b cs ns):(Rm.pth (fin2 b cs) b (cs.length+1)).1=cs.length+1:=by
 rw[C.pth _ (aH _)];simp only;rw[<-C.len,qL];lia
def Ba.ordF(C:Ba b cs ns):ordF (fin2 b cs) b cs.length=ns:=by
 unfold Rm.ordF;apply kP
 ·simp[C.len]
 ·intro i h1 h2;have hi:i<cs.length:=by simpa using h1
  simp only[List.getElem_map,List.getElem_range];rw[C.pth _ (by lia)];simp only;rw[nI (aL h2)];have:=C.ord.mem.mp (fh h2);lia
end
def rS(l r:Bool):Nat:=if l then (if r then 97 else 98) else if r then 99 else 100
def ip(b:Bool)(ns:List Int):List Nat:=(List.range ns.length).map λi:Nat=>rS (decide (((i+1:Nat):Int)∈(ac b ns false (ns.length+1)).map (·.1))) (decide (((i+1:Nat):Int)∈(ac b ns true (ns.length+1)).map (·.1)))
def Cu{c:Nat}(h:pZ c):rS (isIn false c) (isIn true c)=c:=by rcases h with rfl | rfl | rfl | rfl<;>rfl
def Ba.code{b:Bool}{cs:List Nat}{ns:List Int}(C:Ba b cs ns)(hl:pR cs):ip b ns=cs:=by
 unfold ip;apply kP
 ·simp[C.len]
 ·intro i h1 h2;simp only[List.getElem_map,List.getElem_range];rw[C.lets false (i+1) (by lia) (by lia),C.lets true (i+1) (by lia) (by lia),gM];have e:cs.getD i 0=cs[i]:=by rw[bf,aL h2];rfl
  rw[e,Cu (hl _ (fh h2))]
def CB{L R:List Int}{i:Nat}(E:EE L R)(h:L.length+R.length<=1):fT L R [] i=none:=by
 have z:=E.z1;have:L.length+R.length=1:=by
  have h2:(L++R.reverse).length≠0:=λe=>by rw[cy.mp e] at z;simp at z
  simp at h2;have:L.length+R.length≠0:=λe=>h2 (cy.mp (by lia)) (cy.mp (by lia));lia
 show (if L.length+R.length=1 then none else some i)=none;rw[PX this]
def wM:Sp:=λvs H Q _=>∃(r:Int) (b:Bool) (m:Nat),vs=[.int r,.str (sd b),.int m]/\m<=5/\∀cs H',aW H H'->pR cs->cs.length<=20->fT (bL b) (bR b) cs 0=none->Q (.str (tx cs)) H'
end Rm
namespace L2
open PySem PySem.Spec PyProof.Rows
def ve(lo:Int)(n:Nat):It:=⟨λi _=>i<n,λi H x H'=>H'=H/\x=.int (lo+i*2),λi _=>n<=i⟩
def sM {P : Program} {w : World} {K : P5} {tg : Expr} (it : Addr) (lo : Int) (n : Nat) : Turn P w K tg (ve lo n) [it] it (fun i h => IsRangeIter h it (lo + (i : Nat) * 2) ((n : Int) - (i : Nat)) 2) where
  mem := by simp
  obj := fun i h st b hb => by
    have e : b = it := by simpa using hb
    subst e
    exact ⟨_, st, fun v z => by
      have z' : Data.fields _ = Data.cell v := z
      cases z'⟩
  keep := fun i h h' st k => k it (by simp) _ st
  item := by
    intro X hP hw hK hc i pins s σ H E I hf st hg
    subst hP hw hK
    obtain ⟨f0, f1, f2, f3, f4, f5⟩ := hf it (by simp)
    have W := Walks.range (prog := X.prog) (w := X.w) (I.ok.hd hc) it lo 2 n
    refine W.item i s _ _ hg st fun v h' tk hv st' kk => ?_
    obtain ⟨t, rfl⟩ := hv
    have I1 : bT X pins σ H { s with heap := h', toks := tk } := I.turned (fun b o hb e => kk b o (by simpa using hb) e) f0 f1 f3 f4 f5
    exact ⟨_, rfl, tX (s := { s with heap := h', toks := tk }) (n := "range_iterator") st' rfl rfl (by decide) ⟨.int (lo + i * 2), H, I1, ⟨t, rfl⟩, ⟨rfl, rfl⟩, st', fun b hb => (hf b hb).1⟩⟩
  done := by
    intro X hP hw hK hc i pins s σ H E I hf st hg
    subst hP hw hK
    obtain ⟨f0, f1, f2, f3, f4, f5⟩ := hf it (by simp)
    exact wpAny_pyNext_range_end (I.ok.hd hc) st (by have : n ≤ i := hg; lia) fun h' eb => ⟨rfl, I.turned (t' := s.toks) (fun b o hb e => eb b o hb e) f0 f1 f3 f4 f5⟩
  self := fun _ _ _ _ _ st h => wpAny_pyIter_rangeiter st h
def je(a b:Int):Builtin.Range.rangeSize a b 2=(((b-a+1) / 2).toNat:Int):=by
 unfold Builtin.Range.rangeSize;simp
 split<;>lia
def qH{a b:Int}(ha:-(2 ^ 61)<=a)(ha':a<2 ^ 61)(hb:-(2 ^ 61)<=b)(hb':b<2 ^ 61):Builtin.Range.small a b 2=true:=by
 unfold Builtin.Range.small;rw[je];simp only[Builtin.Range.rangeFitsLong,be,Bool.or_eq_true,PY,beq_iff_eq,show (2:Int) > 0 by decide,P3];lia
section
variable {X:Cx} {tg:Expr}
def xT{pins:List (Addr×Obj)}{σ:St}{H:Hp}{s:Shared}{R:It->Hp->Prop}{E:Value->Shared->Prop}{lo hi:Int}{t u v:Tok}{tk:Nat}(I:bT X pins σ H s)(h1:-(2 ^ 61)<=lo)(h2:lo<2 ^ 61)(h3:-(2 ^ 61)<=hi)(h4:hi<2 ^ 61)
  (q:R (ve lo ((hi-lo+1) / 2).toNat) H):wpAny (model X.prog X.w) X.A (pyIter (.ref s.heap.objs.size)) (Il X pins σ tg R) E { s with heap:=s.heap.push { cls:=.type "range",data:=.fields #[.int lo t,.int hi u,.int 2 v] },toks:=tk }:=by
 refine Oq (IsRange.new ..) (qH h1 h2 h3 h4) ?_;have I1:bT X pins σ H { s with heap:=s.heap.push { cls:=.type "range",data:=.fields #[.int lo t,.int hi u,.int 2 v] },toks:=tk }:=I.kept λb o e=>aB _ e;refine⟨(s.heap.push { cls:=.type "range",data:=.fields #[.int lo t,.int hi u,.int 2 v] }).objs.size,[(s.heap.push { cls:=.type "range",data:=.fields #[.int lo t,.int hi u,.int 2 v] }).objs.size],_,_,H,rfl,
  I1.kept (t':=tk) λb o e=>aB _ e,sM _ lo ((hi-lo+1) / 2).toNat,?_,λb hb=>?_,q⟩
 ·have e1:lo+((0:Nat):Int)*2=lo:=by simp
  have e2:((((hi-lo+1) / 2).toNat:Nat):Int)-((0:Nat):Int)=Builtin.Range.rangeSize lo hi 2:=by rw[je];simp
  show IsRangeIter _ _ (lo+((0:Nat):Int)*2) (((((hi-lo+1) / 2).toNat:Nat):Int)-((0:Nat):Int)) 2;rw[e1,e2];exact aK _ rfl
 ·have e:b=(s.heap.push { cls:=.type "range",data:=.fields #[.int lo t,.int hi u,.int 2 v] }).objs.size:=by simpa using hb
  subst e;exact I1.fpOk (aH _) (I1.hok.fresh (aH _))
def tW(ta:TA):TI:=λσ H R=>ta σ H λvs H1=>∃i j:Int,vs=[.int i,.int j,.int 2]/\(-(2 ^ 61)<=i/\i<2 ^ 61/\-(2 ^ 61)<=j/\j<2 ^ 61)/\R (ve i ((j-i+1) / 2).toNat) H1
def ui {a b c:Expr} {ta:TA} {p pos:Pos} (hg:Gl X "range") (hm:X.mg "range"=none) (ha:QA X [a,b,c] ta) (hs:starEach [a,b,c] X.env=(false,eval a X.env)::starEach [b,c] X.env:=by rfl) (hpl:(backTo pos (starEach [b,c] X.env)).any (·.1)=false:=by rfl) :
  QI X tg (.Call (.Name "range" p) [a,b,c] [] pos) (tW ta):=⟨by
 intro pins s σ H R I h;refine Call_ (jh I hg hm boot_range (bc (dW (ha.h pos pins s σ H _ I h) λus s1 ⟨vs,H1,I1,r1,q1⟩=>?_) hs hpl));obtain⟨i,j,e,⟨q1,q2,q3,q4⟩,q⟩:=q1;subst e;cases r1 with
 | cons r rr=>
  cases rr with
  | cons r' rr=>
   cases rr with
   | cons r'' rr=>
    cases rr;obtain⟨t,rfl⟩:=r;obtain⟨t',rfl⟩:=r';obtain⟨t'',rfl⟩:=r'';exact call_range_3 (by decide) (xT I1 q1 q2 q3 q4 q)⟩
def Dx{σ:St}{H:Hp}{D:Ends}{ta:TA}{g:TG}{tb:TS}:mX (tW ta) g tb D σ H=ta σ H λvs H1=>∃i j:Int,vs=[.int i,.int j,.int 2]/\(-(2 ^ 61)<=i/\i<2 ^ 61/\-(2 ^ 61)<=j/\j<2 ^ 61)/\pS (ve i ((j-i+1) / 2).toNat) g tb D σ H1:=rfl
def pI{lo:Int}{n:Nat}{g:TG}{tb:TS}{D:Ends}{σ:St}{H:Hp}(Pv:Nat->St->Hp->Prop)(h0:Pv 0 σ H)
  (hs:∀i σ H,i<n->Pv i σ H->g (.int (lo+i*2)) σ H λσ2 H2=>tb { D with nx:=Pv (i+1),ct:=Pv (i+1),bk:=D.nx } σ2 H2) (hd:∀σ H,Pv n σ H->D.nx σ H):pS (ve lo n) g tb D σ H:=by
 refine⟨λi m σ H=>m+i=n/\Pv i σ H,⟨n,rfl,h0⟩,?_⟩;rintro i m σ H ⟨hm,hp⟩;by_cases hi:i<n
 ·refine .inr ⟨hi,Pv (i+1),λσ' H' h=>⟨m - 1,by lia,by lia,h⟩,?_⟩;rintro v H' ⟨rfl,rfl⟩;exact hs i σ H' hi hp
 ·have e:i=n:=by lia
  subst e;exact .inl ⟨aH _,hd σ H hp⟩
end
end L2
namespace Rm
open PySem L2
def qI{K:P5}{H:Hp}{Q:VK}{a:Addr}{xs:List V}{k:Nat}(h:H a=some (.tup xs))(h2:k<=xs.length)(q:∀p H',aW H H'->H' p=some (.tup (xs.drop k))->Q (.ref p) H'):zy K (.ref a) (some (k:Int)) none H Q:=by
 refine⟨a,xs,rfl,dA.of h,λc=>?_,λ_ p np=>?_⟩
 ·have c1:=c.1;rw[HT.sIx_nat] at c1;have e:xs.drop k=xs:=by
   have:k=0\/xs.length=0:=by lia
   rcases this with rfl | z
   ·rfl
   ·have:=cy.mp z;subst this;simp
  exact q a H (aW.refl _) (by rw[e];exact h)
 ·rw[vX h2];exact q p _ ((aW.refl H).new np) aE
def cG(o:List Int):List Int:=[0]++o++[(o.length:Int)+1]
def DK(r:List Int)(k:Nat):Int×Int:=(min (r.getD k 0) (r.getD (k+1) 0),max (r.getD k 0) (r.getD (k+1) 0))
def kG(r:List Int)(t:Nat)(n:Nat):List (Int×Int):=(List.range n).map λj=>DK r (t+j*2)
def x2(a b:Int×Int):Bool:=decide (a.1<b.1)&&(decide (b.1<a.2)&&decide (a.2<b.2))
def yl(bs:List (Int×Int)):Bool:=bs.any λa=>bs.any λb=>x2 a b
def qt(o:List Int)(t:Nat):Bool:=yl (kG (cG o) t ((o.length+2-t) / 2))
def uA(o:List Int):Bool:=qt o 0 || qt o 1
def IE(H:Hp)(a:Addr)(o:List Int):Prop:=H a=some (.tup (o.map V.int))
def Da:Sp:=λvs H Q _=>∃(z:Str) (a:Addr) (o:List Int),vs=[.str z,.ref a]/\IE H a o/\o.length<=20/\∀H',aW H H'->Q (.bl (uA o)) H'
end Rm
namespace L2
open PySem PySem.Spec PyProof.Rows
def uj{X:Cx}{a b c d:Expr}{ta tb tc td:TE}{pos:Pos}{op op' op2:CmpOp}{r r' r2:R2}(ho:j5 X (compareOp op) r)(ho':j5 X (compareOp op') r')(ho2:j5 X (compareOp op2) r2)(ha:QE X a ta)(hb:QE X b tb)(hc:QE X c tc)(hd:QE X d td)
  (hm:lastMarks [op,op',op2] [b,c,d]=false:=by with_unfolding_all rfl):QE X (.Compare a [op,op',op2] [b,c,d] pos) (oA r r' r2 ta tb tc td):=⟨by
 intro pins s σ H Q I h;refine Compare_chain (dW (ha.h pins s σ H _ I h) λv s1 ⟨x,H1,I1,r1,q1⟩=>chain_link (dW (hb.h pins s1 σ H1 _ I1 q1) λu s2 ⟨y,H2,I2,r2',q2⟩=>
  dW (ho pins s2 σ H2 x y v u _ I2 r1 r2' q2) λe s3 ⟨z,H3,I3,r3,k,ek,q3⟩=>?_)) hm
 subst ek;cases r3;refine Oi ?_;cases k with
 | false=>exact ite_ff ⟨.bl false,H3,I3,rfl,q3⟩
 | true=>
  refine ite_tt (chain_link (dW (hc.h pins s3 σ H3 _ I3 q3) λw' s4 ⟨z',H4,I4,r4,q4⟩=>dW (ho' pins s4 σ H4 y z' u w' _ I4 r2' r4 q4) λd' s5 ⟨z2,H5,I5,r5,k2,e2,q5⟩=>?_));subst e2;cases r5;refine Oi ?_;cases k2 with
  | false=>exact ite_ff ⟨.bl false,H5,I5,rfl,q5⟩
  | true=>exact ite_tt (chain_last (dW (hd.h pins s5 σ H5 _ I5 q5) λw2 s6 ⟨z3,H6,I6,r6,q6⟩=>ho2 pins s6 σ H6 z' z3 w' w2 Q I6 r4 r6 q6))⟩
def nU.keep{dO:Option Addr}{e:Addr}{h h':Heap}(c:nU dO e h)(k:∀o,h.get? e=some o->h'.get? e=some o):nU dO e h':=by
 obtain⟨o,vs,e1,e2,e3⟩:=c;exact⟨o,vs,k o e1,e2,e3⟩
def nk{prog:Program}{w:World}{A:Around}{E:Value->Shared->Prop}{s:Shared}{it t hx:Addr}{i:Nat}{items:Array Value}{Q:Option Value->Shared->Prop}{dO:Option Addr}(hh:A.handled=some (.ref hx))(hc:nU dO hx s.heap)(hne:hx≠it)
  (hit:s.heap.IsTupleIter it t i) (ht:s.heap.IsTuple t items) (hxn:items[i]? = none)
  (hQ:∀h',Heap.ExtBut it s.heap h'->Q none { s with heap:=h' }):wpAny (model prog w) A (pyNext (.ref it)) Q E s:=by
 obtain⟨o0,ho,hc0,hd⟩:=id hit;obtain⟨ol,hol,_,nl,hdl⟩:=ht;unfold pyNext;refine wpAny_bind (PD (wpAny_callSpecial?_slot (name:=Str.ofString "__next__") hit.typeIs cS
  (Oy cS hit.typeIs fN ?_ (fF _))))
 show wpAny _ _ (field (.ref it) 0>>=_) _ _ s;refine wpAny_bind (Ow ho hd (x:=.ref t) rfl ?_);show wpAny _ _ (if (Value.ref t==Value.none)=true then _ else _) _ _ s;rw[PV (show ¬((Value.ref t==Value.none)=true) from a8)];show wpAny _ _ (field (.ref it) 1>>=_) _ _ s;refine wpAny_bind (Ow ho hd (x:=.int i 0) rfl ?_);show wpAny _ _ (seqItems? (.ref t)>>=_) _ _ s;refine wpAny_bind (PN hol hdl ?_);simp only[gj,hxn];refine wpAny_bind (PH (wpAny_bind (PJ ho hd (by simp) ?_)));generalize hg:s.heap.update it _=g;have kg:Heap.ExtBut it s.heap g:=by rw[<-hg];exact(i8 ..).extBut
 have szg:g.objs.size=s.heap.objs.size:=by rw[<-hg];simp[Heap.update]
 have hcg:nU dO hx g:=hc.keep λo q=>kg hx o hne q;show wpAny (model prog w) A.in1 (Bind.bind (newExc (Value.type "StopIteration") []) raiseNew) _ _ _;refine wpAny_bind ?_;show wpAny (model prog w) A.in1 (Bind.bind (newTuple []) _) _ _ _;refine wpAny_bind (Oz (wpAny_bind (wpAny_of_eq (Eq.refl (firstArgMember (Value.type "StopIteration") [])) (Oz ?_))));generalize hh1:(g.push _).push _=h1;unfold raiseNew;refine wpAny_bind (wpAny_handled ?_);rw[show A.in1.handled=some (.ref hx) from hh];dsimp only;obtain⟨o,vs,e1,⟨_,e2⟩,e3⟩:=hcg;have lt:=aJ e1;have sz:(g.push { cls:=Value.type "tuple",data:=Data.seq #[] }).objs.size=g.objs.size+1:=cL _ _;rw[sz];have nx:hx≠g.objs.size+1:=aV (bF lt);have k1:∀b u,g.get? b=some u->h1.get? b=some u:=λb u q=>by
  rw[<-hh1];exact aB _ (aB _ q)
 have new1:∃ob ws,h1.get? (g.objs.size+1)=some ob/\ob.data=.fields ws/\2<ws.size/\ob.cls=.type "StopIteration":=by
  rw[<-hh1,<-sz];exact⟨_,_,aK _ rfl,rfl,by rw[jd];exact aT (show 2<6 by decide) (Nat.le_add_right _ _),rfl⟩
 obtain⟨ob,ws,n1,n2,n3,n4⟩:=new1;rw[PX (by simp[nx])];refine wpAny_bind (Ox (runValue_entry lw ?_));show wpAny _ _ (Bind.bind (field (Value.ref hx) 2) _) _ _ _;refine wpAny_bind (Ow (k1 _ _ e1) e2 e3 ?_);rw[PX (show (Value.none==Value.none)=true from rfl)];refine On ⟨_,rfl,?_⟩;show wpAny _ _ (Bind.bind (setField (Value.ref (g.objs.size+1)) 2 (Value.ref hx)) _) _ _ _;refine wpAny_bind (PJ n1 n2 n3 (wpAny_throw ?_));have up:=cf (Obj.mapFields λz=>z.setIfInBounds 2 (Value.ref hx)) n1 (by obtain⟨c,d,da,sl⟩:=ob;cases n2;rfl);refine wpAny_bind (wpAny_isInstance (T:="StopIteration") ⟨_,up,by obtain⟨c,d,da,sl⟩:=ob;cases n2;exact n4⟩ isSubtype_stop (On (hQ _ λb o hb q=>?_)));have qg:=kg b o hb q;have ne:b≠g.objs.size+1:=aV (bF (aJ qg));exact eh _ (cU ne) (k1 b o qg)
def mU{prog:Program}{w:World}{A:Around}{hx:Addr}{dO:Option Addr}(hh:A.handled=some (.ref hx))(I ax:Addr)(hne:ax≠I)(hnx:hx≠I)(items:Array Value):
  Walks prog w A I [I,ax,hx] [I] items.size (λi v=>items[i]? = some v) (λi h=>(h.IsTupleIter I ax i/\h.IsTuple ax items)/\nU dO hx h) where
 sub:=λb hb=>by simp at hb;simp[hb]
 frame:=λ_ _ _ st hk=>⟨⟨st.1.1.at λo e=>hk I (by simp) o e,st.1.2.at λo e=>hk ax (by simp) o e⟩,st.2.keep λo e=>hk hx (by simp) o e⟩
 item:=λi s Q E hi st hQ=>by
  refine wpAny_pyNext_tuple_item st.1.1 st.1.2 (x:=items[i]) (by simp[hi]) λh' hit' hs'=>?_;exact hQ _ h' s.toks (by simp[hi]) ⟨⟨hit',st.1.2.extBut hs'.extBut hne⟩,st.2.keep λo e=>hs'.extBut hx o hnx e⟩ λb o hb e=>hs'.extBut b o (λh=>hb (by simp[h])) e
 done:=λs Q E st hQ=>nk hh st.2 hnx st.1.1 st.1.2 (by simp) λh' he'=>hQ h' s.toks λb o hb e=>he' b o (λh=>hb (by simp[h])) e
 self:=λ_ _ _ _ st hQ=>wpAny_pyIter_tupleiter st.1.1 hQ
def Ap{prog:Program}{w:World}{A:Around}{E:Value->Shared->Prop}{s:Shared}{hx:Addr}{dO:Option Addr}{a b:Int}{t u:Tok}{Q:Value->Shared->Prop}(hh:A.handled=some (.ref hx))(hc:nU dO hx s.heap)
  (h:∀h' tk,(∀c o,s.heap.get? c=some o->h'.get? c=some o)->Q (if b > a then .int b u else .int a t) { s with heap:=h',toks:=tk }) :
  wpAny (model prog w) A (call (.builtin "max") [.int a t,.int b u]) Q E s:=by
 have hT:(s.heap.push { cls:=.type "tuple",data:=.seq #[.int a t,.int b u] }).IsTuple s.heap.objs.size (intItems #[(a,t),(b,u)]):=⟨_,aK _ rfl,rfl,0,by simp[intItems]⟩
 refine call_max_two (Oo hT ?_);have hlt:hx<s.heap.objs.size:=by obtain⟨_,_,e1,_⟩:=hc;exact aJ e1
 have hsz:(s.heap.push { cls:=.type "tuple",data:=.seq #[.int a t,.int b u] }).objs.size=s.heap.objs.size+1:=cL ..;refine⟨_,[_,s.heap.objs.size,hx],[_],_,_,_,_,rfl,mU (A:=A.in1) (dO:=dO) hh _ s.heap.objs.size (by rw[hsz];exact aV (dk _)) (by rw[hsz];exact aV (bF hlt)) (intItems #[(a,t),(b,u)]),
  ⟨⟨⟨_,aK _ rfl,rfl,rfl⟩,hT.push _⟩,hc.keep λo e=>aB _ (aB _ e)⟩,λc hcm=>?_,by simp[intItems],CmpOf.ints_gt (numAt #[(a,t),(b,u)]) (λ_ _=>intItems_at),λv h' tk hP hk=>?_⟩
 ·show c<((s.heap.push _).push _).objs.size;rw[cL,hsz];rcases aI.mp hcm with rfl | hc
  ·rw[hsz];exact dk _
  ·rcases aI.mp hc with rfl | hc
   ·exact bF (dk _)
   ·rcases aI.mp hc with rfl | hc
    ·exact bF (bF hlt)
    ·cases hc
 ·have hold:∀c o,s.heap.get? c=some o->h'.get? c=some o:=λc o e=>by
   refine hk c o (λhm=>?_) (aB _ (aB _ e));rcases aI.mp hm with e1 | hm
   ·have:=aJ e;rw[e1,hsz] at this;exact dC _ (Nat.lt_of_succ_lt this)
   ·cases hm
  have:=h h' tk hold;have hv:v=if b > a then Value.int b u else Value.int a t:=by
   have hP':(intItems #[(a,t),(b,u)])[argBest (λi j=>decide (numAt #[(a,t),(b,u)] i > numAt #[(a,t),(b,u)] j)) 1]? = some v:=by
    have hsz2:(intItems #[(a,t),(b,u)]).size - 1=1:=by simp[intItems]
    rw[<-hsz2];exact hP
   by_cases hba:b > a
   ·have e:argBest (λi j=>decide (numAt #[(a,t),(b,u)] i > numAt #[(a,t),(b,u)] j)) 1=1:=by simp[argBest,numAt,hba]
    rw[e] at hP';simpa [intItems,hba] using hP'.symm
   ·have e:argBest (λi j=>decide (numAt #[(a,t),(b,u)] i > numAt #[(a,t),(b,u)] j)) 1=0:=by simp[argBest,numAt,hba]
    rw[e] at hP';simpa [intItems,hba] using hP'.symm
  rw[hv];exact this
def v7 {X:Cx} {a:Addr} (hh:X.A.handled=some (.ref a)):eA X (.builtin "max") (λxs H Q=>(∃C dO,H a=some (jW dO C a))/\∃i j,xs=[.int i,.int j]/\Q (.int (if j > i then j else i)) H):=by
 intro pins s σ H xs us Q I r h;obtain⟨⟨C,dO,hC⟩,i,j,rfl,q⟩:=h;obtain⟨u,w',rfl,⟨t,rfl⟩,⟨t',rfl⟩⟩:=vals2 r;have ct:nU dO a s.heap:=by
  obtain⟨⟨_,c⟩,_⟩:=I.hok a _ hC;exact c
 refine Ap hh ct λh' tk k=>⟨_,H,I.kept k,?_,q⟩
 by_cases hj:j > i
 ·rw[PX hj,PX hj];exact⟨_,rfl⟩
 ·rw[PV hj,PV hj];exact⟨_,rfl⟩
def Ao{prog:Program}{w:World}{A:Around}{E:Value->Shared->Prop}{s:Shared}{hx:Addr}{dO:Option Addr}{a b:Int}{t u:Tok}{Q:Value->Shared->Prop}(hh:A.handled=some (.ref hx))(hc:nU dO hx s.heap)
  (h:∀h' tk,(∀c o,s.heap.get? c=some o->h'.get? c=some o)->Q (if b<a then .int b u else .int a t) { s with heap:=h',toks:=tk }) :
  wpAny (model prog w) A (call (.builtin "min") [.int a t,.int b u]) Q E s:=by
 have hT:(s.heap.push { cls:=.type "tuple",data:=.seq #[.int a t,.int b u] }).IsTuple s.heap.objs.size (intItems #[(a,t),(b,u)]):=⟨_,aK _ rfl,rfl,0,by simp[intItems]⟩
 refine call_min_two (Oo hT ?_);have hlt:hx<s.heap.objs.size:=by obtain⟨_,_,e1,_⟩:=hc;exact aJ e1
 have hsz:(s.heap.push { cls:=.type "tuple",data:=.seq #[.int a t,.int b u] }).objs.size=s.heap.objs.size+1:=cL ..;refine⟨_,[_,s.heap.objs.size,hx],[_],_,_,_,_,rfl,mU (A:=A.in1) (dO:=dO) hh _ s.heap.objs.size (by rw[hsz];exact aV (dk _)) (by rw[hsz];exact aV (bF hlt)) (intItems #[(a,t),(b,u)]),
  ⟨⟨⟨_,aK _ rfl,rfl,rfl⟩,hT.push _⟩,hc.keep λo e=>aB _ (aB _ e)⟩,λc hcm=>?_,by simp[intItems],CmpOf.ints_lt (numAt #[(a,t),(b,u)]) (λ_ _=>intItems_at),λv h' tk hP hk=>?_⟩
 ·show c<((s.heap.push _).push _).objs.size;rw[cL,hsz];rcases aI.mp hcm with rfl | hc
  ·rw[hsz];exact dk _
  ·rcases aI.mp hc with rfl | hc
   ·exact bF (dk _)
   ·rcases aI.mp hc with rfl | hc
    ·exact bF (bF hlt)
    ·cases hc
 ·have hold:∀c o,s.heap.get? c=some o->h'.get? c=some o:=λc o e=>by
   refine hk c o (λhm=>?_) (aB _ (aB _ e));rcases aI.mp hm with e1 | hm
   ·have:=aJ e;rw[e1,hsz] at this;exact dC _ (Nat.lt_of_succ_lt this)
   ·cases hm
  have:=h h' tk hold;have hv:v=if b<a then Value.int b u else Value.int a t:=by
   have hP':(intItems #[(a,t),(b,u)])[argBest (λi j=>decide (numAt #[(a,t),(b,u)] i<numAt #[(a,t),(b,u)] j)) 1]? = some v:=by
    have hsz2:(intItems #[(a,t),(b,u)]).size - 1=1:=by simp[intItems]
    rw[<-hsz2];exact hP
   by_cases hba:b<a
   ·have e:argBest (λi j=>decide (numAt #[(a,t),(b,u)] i<numAt #[(a,t),(b,u)] j)) 1=1:=by simp[argBest,numAt,hba]
    rw[e] at hP';simpa [intItems,hba] using hP'.symm
   ·have e:argBest (λi j=>decide (numAt #[(a,t),(b,u)] i<numAt #[(a,t),(b,u)] j)) 1=0:=by simp[argBest,numAt,hba]
    rw[e] at hP';simpa [intItems,hba] using hP'.symm
  rw[hv];exact this
def v4 {X:Cx} {a:Addr} (hh:X.A.handled=some (.ref a)):eA X (.builtin "min") (λxs H Q=>(∃C dO,H a=some (jW dO C a))/\∃i j,xs=[.int i,.int j]/\Q (.int (if j<i then j else i)) H):=by
 intro pins s σ H xs us Q I r h;obtain⟨⟨C,dO,hC⟩,i,j,rfl,q⟩:=h;obtain⟨u,w',rfl,⟨t,rfl⟩,⟨t',rfl⟩⟩:=vals2 r;have ct:nU dO a s.heap:=by
  obtain⟨⟨_,c⟩,_⟩:=I.hok a _ hC;exact c
 refine Ao hh ct λh' tk k=>⟨_,H,I.kept k,?_,q⟩
 by_cases hj:j<i
 ·rw[PX hj,PX hj];exact⟨_,rfl⟩
 ·rw[PV hj,PV hj];exact⟨_,rfl⟩
def vP{A:Around}{a:Addr}{k:Nat}(hr:kH a k A):A.units+64<cLine:=by have:=hr.un;lia
def HY(X:Cx)(pins:List (Addr×Obj))(σ:St)(R:It->Hp->Prop)(itv:Value)(s2:Shared):Prop:=
 ∃(it:Addr) (lo:Int) (n:Nat) (H':Hp),itv=.ref it/\bT X pins σ H' s2/\IsRangeIter s2.heap it (lo+((0:Nat):Int)*2) ((n:Int)-((0:Nat):Int)) 2/\lT X pins H' it/\R (ve lo n) H'
def uf{X:Cx}{pins:List (Addr×Obj)}{σ:St}{H:Hp}{s:Shared}{R:It->Hp->Prop}{E:Value->Shared->Prop}{lo hi:Int}{t u v:Tok}{tk:Nat}(I:bT X pins σ H s)(h1:-(2 ^ 61)<=lo)(h2:lo<2 ^ 61)(h3:-(2 ^ 61)<=hi)(h4:hi<2 ^ 61)
  (q:R (ve lo ((hi-lo+1) / 2).toNat) H):wpAny (model X.prog X.w) X.A (pyIter (.ref s.heap.objs.size)) (HY X pins σ R) E { s with heap:=s.heap.push { cls:=.type "range",data:=.fields #[.int lo t,.int hi u,.int 2 v] },toks:=tk }:=by
 refine Oq (IsRange.new ..) (qH h1 h2 h3 h4) ?_;have I1:bT X pins σ H { s with heap:=s.heap.push { cls:=.type "range",data:=.fields #[.int lo t,.int hi u,.int 2 v] },toks:=tk }:=I.kept λb o e=>aB _ e;refine⟨(s.heap.push { cls:=.type "range",data:=.fields #[.int lo t,.int hi u,.int 2 v] }).objs.size,lo,((hi-lo+1) / 2).toNat,H,rfl,
  I1.kept (t':=tk) λb o e=>aB _ e,?_,I1.fpOk (aH _) (I1.hok.fresh (aH _)),q⟩
 have e1:lo+((0:Nat):Int)*2=lo:=by simp
 have e2:((((hi-lo+1) / 2).toNat:Nat):Int)-((0:Nat):Int)=Builtin.Range.rangeSize lo hi 2:=by rw[je];simp
 show IsRangeIter _ _ (lo+((0:Nat):Int)*2) (((((hi-lo+1) / 2).toNat:Nat):Int)-((0:Nat):Int)) 2;rw[e1,e2];exact aK _ rfl
def uq {X:Cx} {a b c:Expr} {ta:TA} {p pos:Pos} (hg:Gl X "range") (hm:X.mg "range"=none) (ha:QA X [a,b,c] ta) (hs:starEach [a,b,c] X.env=(false,eval a X.env)::starEach [b,c] X.env) (hpl:(backTo pos (starEach [b,c] X.env)).any (·.1)=false) (pins:List (Addr×Obj)) (s:Shared) (σ:St) (H:Hp) (R:It->Hp->Prop) (I:bT X pins σ H s) (h:tW ta σ H R) :
  wpAny (model X.prog X.w) X.A (eval (.Call (.Name "range" p) [a,b,c] [] pos) X.env) (λv s1=>wpAny (model X.prog X.w) X.A (pyIter v) (HY X pins σ R) X.xe s1) X.xe s:=by
 refine Call_ (jh I hg hm boot_range (bc (dW (ha.h pos pins s σ H _ I h) λus s1 ⟨vs,H1,I1,r1,q1⟩=>?_) hs hpl));obtain⟨i,j,e,⟨q1,q2,q3,q4⟩,q⟩:=q1;subst e;cases r1 with
 | cons r rr=>
  cases rr with
  | cons r' rr=>
   cases rr with
   | cons r'' rr=>
    cases rr;obtain⟨t,rfl⟩:=r;obtain⟨t',rfl⟩:=r';obtain⟨t'',rfl⟩:=r'';exact call_range_3 (by decide) (uf I1 q1 q2 q3 q4 q)
def u4(a:Addr)(ta:TA)(g:TG)(tb:TS):TS:=λD σ H=>mX (tW ta) g tb { D with nx:=λσ H=>(∃C dO,H a=some (jW dO C a))/\D.nx σ H } σ H
def Bm{a:Addr}{ta:TA}{g:TG}{tb:TS}{D:Ends}{σ:St}{H:Hp}:u4 a ta g tb D σ H=mX (tW ta) g tb { D with nx:=λσ H=>(∃C dO,H a=some (jW dO C a))/\D.nx σ H } σ H:=rfl
def xY {X:Cx} {tg:Expr} {a:Addr} {e e1 e2:Expr} {ta:TA} {body:List Stmt} {g:TG} {tb:TS} {p ipos pos:Pos} (hp:PassesOwn (model X.prog X.w) X.A X.env X.xe) (hh:X.A.handled=some (.ref a)) (hgr:Gl X "range") (hm:X.mg "range"=none) (ha:QA X [e,e1,e2] ta) (hg:QG X tg g) (hb:jr X body tb)
  (hse:starEach [e,e1,e2] X.env=(false,eval e X.env)::starEach [e1,e2] X.env:=by rfl) (hpl:(backTo ipos (starEach [e1,e2] X.env)).any (·.1)=false:=by rfl) (hs:∀x,foldedSetIterable (.Call (.Name "range" p) [e,e1,e2] [] ipos) X.env x=pure x:=by intro _;rfl):QS X (.For tg (.Call (.Name "range" p) [e,e1,e2] [] ipos) body [] pos) (u4 a ta g tb):=⟨by
 intro pins s σ H D I h;unfold u4 mX at h;refine wpAny_For (dW (uq hgr hm ha hse hpl pins s σ H _ I h) λv s1 h1=>dW h1 λitv s2 h2=>?_) hs;obtain⟨it,lo,n,H2,e,I2,st2,f2,W,⟨m0,w0⟩,turn⟩:=h2;subst e;have stat:∀{H':Hp},H' it=none->∀b∈[it],lT X pins H' b:=λhn b hb=>by
  have e:b=it:=by simpa using hb
  subst e;exact⟨hn,f2.2⟩
 refine codeAny_forLoop_any (λm s'=>∃i σ' H',bT X pins σ' H' s'/\IsRangeIter s'.heap it (lo+(i:Nat)*2) ((n:Int)-(i:Nat)) 2/\H' it=none/\W i m σ' H') ?_ m0 ⟨0,σ,H2,I2,st2,f2.1,w0⟩;rintro m s3 ⟨i,σ3,H3,I3,st3,fr3,w3⟩;obtain⟨f0,f1,f2',f3,f4,f5⟩:=stat fr3 it (by simp);rcases turn i m σ3 H3 w3 with ⟨stop,⟨C,dO,hC⟩,qn⟩ | ⟨go,N,hN,step⟩
 ·have ct:nU dO a s3.heap:=by
   obtain⟨⟨_,c⟩,_⟩:=I3.hok a _ hC;exact c
  refine Om hp (nq hh ct st3 (by have:n<=i:=stop;lia) λh' eb=>?_);exact Oj ⟨σ3,H3,I3.turned (t':=s3.toks) (λb o hb e=>eb b o hb e) f0 f1 f3 f4 f5,qn⟩
 ·refine Om hp (wpAny_pyNext_range_item st3 (by have:i<n:=go;lia) λh' st' sb=>?_);have I4:bT X pins σ3 H3 { s3 with heap:=h',toks:=s3.toks+1 }:=I3.turned (λb o hb e=>(sb.2 b hb).trans e) f0 f1 f3 f4 f5;have st5:IsRangeIter h' it (lo+((i+1:Nat):Int)*2) ((n:Int)-((i+1:Nat):Int)) 2:=by
   have e1:lo+((i+1:Nat):Int)*2=lo+(i:Nat)*2+2:=by push_cast;lia
   have e2:(n:Int)-((i+1:Nat):Int)=(n:Int)-(i:Nat) - 1:=by push_cast;lia
   rw[e1,e2];exact st'
  refine Om hp (tX (s:={ s3 with heap:=h',toks:=s3.toks+1 }) (n:="range_iterator") st' rfl rfl (by decide) ?_);have I5':=I4.pinned (fp:=[it]) (stat fr3) (λb hb=>by
   have e:b=it:=by simpa using hb
   subst e;exact⟨_,st5,λv z=>by
    have z':Data.fields _=Data.cell v:=z;cases z'⟩)
  refine Om hp (dW (hg.h _ _ σ3 H3 (.int (lo+i*2)) _ _ I5' ⟨_,rfl⟩ (step (.int (lo+i*2)) H3 ⟨rfl,rfl⟩)) λ_ s6 ⟨σ6,H6,I6,q6⟩=>?_);refine Om hp (dW (hb.h _ s6 σ6 H6 _ I6 q6) λf s7 q7=>?_);have again:∀{σ7:St} {H7:Hp},bT X (pins++jg [it] h') σ7 H7 s7->N σ7 H7->∃m',m'<m/\∃i σ' H',bT X pins σ' H' s7/\IsRangeIter s7.heap it (lo+(i:Nat)*2) ((n:Int)-(i:Nat)) 2/\H' it=none/\W i m' σ' H':=fun {σ7 H7} I7 n7=>by
   obtain⟨m',hm,w7⟩:=hN σ7 H7 n7;have pq:=I7.pin (it,_) (a7 _ (a7 _ (iE (by simp) st5)));exact⟨m',hm,i+1,σ7,H7,I7.unpinned,pq.1,pq.2.1,w7⟩
  cases f with
  | next=>obtain⟨σ7,H7,I7,n7⟩:=q7;exact again I7 n7
  | cont=>obtain⟨σ7,H7,I7,n7⟩:=q7;exact again I7 n7
  | brk=>obtain⟨σ7,H7,I7,q7⟩:=q7;exact⟨σ7,H7,I7.unpinned,q7.2⟩
  | ret v=>obtain⟨x7,σ7,H7,I7,r7,q7⟩:=q7;exact⟨x7,σ7,H7,I7.unpinned,r7,q7⟩⟩
end L2
namespace Rm
open PySem L2 PyProof.Rows
def uG(o:List Int){k:Nat}(h:k<=o.length):DK (cG o) k=fx o k:=by
 have e:cG o=dS o:=by simp[cG,dS]
 unfold DK fx ao;rw[e]
def oK{b:Bool}{o:List Int}{t:Nat}{u:Bool}(ht:t=0/\u=b\/t=1/\u=!b){p:Bw}:p∈kG (cG o) t ((o.length+2-t) / 2)<->p∈ac b o u (o.length+1):=by
 unfold kG ac;rw[bB,bB];constructor
 ·rintro⟨j,hj,rfl⟩;have hj:=cm.mp hj;refine⟨t+j*2,dr.mpr ⟨cm.mpr (by lia),?_⟩,(uG o (by lia)).symm⟩;unfold cH odd;rcases ht with ⟨rfl,rfl⟩ | ⟨rfl,rfl⟩
  ·rw[show (0+j*2) % 2=0 by lia];cases u<;>rfl
  ·rw[show (1+j*2) % 2=1 by lia];cases b<;>rfl
 ·rintro⟨i,hi,rfl⟩;obtain⟨h1,h2⟩:=dr.mp hi;have h1:=cm.mp h1;have h3:i % 2=t:=by
   unfold cH odd at h2;rcases cB i with e | e
   ·rw[e] at h2;rcases ht with ⟨rfl,rfl⟩ | ⟨rfl,rfl⟩
    ·exact e
    ·cases b<;>cases h2
   ·rw[e] at h2;rcases ht with ⟨rfl,rfl⟩ | ⟨rfl,rfl⟩
    ·cases u<;>cases h2
    ·exact e
  exact⟨i / 2,cm.mpr (by lia),by rw[show t+i / 2*2=i by lia];exact uG o (by lia)⟩
def vf{ps qs:List Bw}(h:∀p,p∈ps<->p∈qs):yl ps=false<->∀p∈qs,∀q∈qs,df p q=false:=by
 unfold yl;rw[dz];constructor
 ·intro z p hp q hq;have:=z p ((h p).mpr hp);rw[iL,dz] at this;have:=this q ((h q).mpr hq);rw[iL] at this;exact this
 ·intro z p hp;rw[iL,dz];intro q hq;rw[iL];exact z p ((h p).mp hp) q ((h q).mp hq)
def wy(b:Bool)(o:List Int):uA o=false<->NC b o:=by
 unfold uA qt;rw[Bool.or_eq_false_iff,vf (λp=>oK (b:=b) (.inl ⟨rfl,rfl⟩)),vf (λp=>oK (b:=b) (.inr ⟨rfl,rfl⟩))];constructor
 ·rintro⟨h1,h2⟩ u;by_cases e:u=b
  ·rw[e];exact h1
  ·have:u=!b:=by cases u<;>cases b<;>first | rfl | exact absurd rfl e
   rw[this];exact h2
 ·intro h;exact⟨h b,h (!b)⟩
def tm{b u:Bool}{ns:List Int}(O:kd ns){i k:Nat}(hi:i<ns.length+2)(hk:k<=ns.length)(hs:cH b u k=true)(h:k=i\/k+1=i):decide (ao ns i∈(ac b ns u (ns.length+1)).map (·.1))=decide (ao ns i<ao ns (if k=i then i+1 else k)):=by
 have on:=O.only (b:=b) hk hs h;have ne:=O.step_lt (i:=k) hk;have ne:min (ao ns k) (ao ns (k+1))<max (ao ns k) (ao ns (k+1)):=ne;have e:(ao ns i∈(ac b ns u (ns.length+1)).map (·.1))<->(fx ns k).1=ao ns i:=by
  rw[bB];constructor
  ·rintro⟨p,hp,e⟩;have:p∈(ac b ns u (ns.length+1)).filter (rV (ao ns i)):=dr.mpr ⟨hp,by unfold rV;rw[e];simp⟩;rw[on,bE] at this;rw[<-this];exact e
  ·intro e;exact⟨fx ns k,mY (by lia) hs,e⟩
 refine decide_eq_decide.mpr (e.trans ?_);show min (ao ns k) (ao ns (k+1))=_<->_;rcases h with rfl | rfl
 ·rw[PX rfl];lia
 ·rw[PV (by lia)];lia
def xu(b:Bool)(ns:List Int)(i:Nat):Nat:=if odd i=!b then rS (!decide (ao ns (i - 1)<ao ns i)) (!decide (ao ns (i+1)<ao ns i)) else rS (!decide (ao ns (i+1)<ao ns i)) (!decide (ao ns (i - 1)<ao ns i))
def Ct{b:Bool}{ns:List Int}(O:kd ns){i:Nat}(h1:1<=i)(h2:i<=ns.length):xu b ns i=rS (decide (ao ns i∈(ac b ns false (ns.length+1)).map (·.1))) (decide (ao ns i∈(ac b ns true (ns.length+1)).map (·.1))):=by
 have na:ao ns (i - 1)≠ao ns i:=λe=>by have:=O.row_inj (by lia) (by lia) e;lia
 have nb:ao ns (i+1)≠ao ns i:=λe=>by have:=O.row_inj (by lia) (by lia) e;lia
 have ea:(!decide (ao ns (i - 1)<ao ns i))=decide (ao ns i<ao ns (i - 1)):=by rw[<-decide_not];exact decide_eq_decide.mpr (by lia)
 have eb:(!decide (ao ns (i+1)<ao ns i))=decide (ao ns i<ao ns (i+1)):=by rw[<-decide_not];exact decide_eq_decide.mpr (by lia)
 have fa:∀u,cH b u (i - 1)=true->decide (ao ns i∈(ac b ns u (ns.length+1)).map (·.1))=decide (ao ns i<ao ns (i - 1)):=λu hs=>by
  have:=tm O (i:=i) (k:=i - 1) (by lia) (by lia) hs (.inr (by lia));rw[PV (by lia)] at this;exact this
 have fb:∀u,cH b u i=true->decide (ao ns i∈(ac b ns u (ns.length+1)).map (·.1))=decide (ao ns i<ao ns (i+1)):=λu hs=>by
  have:=tm O (i:=i) (k:=i) (by lia) (by lia) hs (.inl rfl);rw[PX rfl] at this;exact this
 have op:odd (i - 1)=!odd i:=by
  have:=jM (i - 1);rw[show i - 1+1=i by lia] at this;rw[this,Bool.not_not]
 unfold xu;rw[ea,eb];by_cases h:odd i=!b
 ·rw[PX h,fa false (by unfold cH;rw[op,h];cases b<;>rfl),fb true (by unfold cH;rw[h];cases b<;>rfl)]
 ·have h':odd i=b:=by cases b<;>cases z:odd i<;>simp_all
  rw[PV h,fb false (by unfold cH;rw[h'];cases b<;>rfl),fa true (by unfold cH;rw[op,h'];cases b<;>rfl)]
def xJ (cs:List Nat):PyData:=.list [.str (Str.ofString "told"),.str (tx cs)]
def Ee (c m:Bool):PyData:=.list [.str (Str.ofString "refused"),.list [.bool c,.bool m]]
def wG:Sp:=λvs H Q _=>∃l r,vs=[.bl l,.bl r]/\Q (.str (tx [rS l r])) H
def wL(M C:Addr):Sp:=λvs H Q E=>∃x d,vs=[x]/\Dat H x d/\Pl d 60/\((kA d=false/\∀H',aW H H'->E (.ref M) none H')\/∃m o b ns,x=.ref m/\gf H m o b ns/\d=GD b ns/\kd ns/\(NC b ns->∀H',aW H H'->Q (.str (tx (ip b ns))) H') ∧
 ∀u,∀p∈ac b ns u (ns.length+1),∀q∈ac b ns u (ns.length+1),df p q=true->∀t dx H',aW H H'->jS H' t u p q->H' dx=some (.xd [("bows",.ref t)])->E (.ref C) (some dx) H')
def zi:Sp:=λvs H Q _=>∃(r:Int) (n:Nat),vs=[.int r,.int n]/\n<=20/\∀(l:Addr) (ns:List Int) (H':Hp),aW H H'->H' l=some (.tup (ns.map V.int))->ns.length=n->ns.Perm (eG 1 n)->Q (.ref l) H'
def sR:Sp:=λvs H Q _=>∃(b:Bool) (o:Addr) (ns:List Int),vs=[.str (sd b),.ref o]/\H o=some (.tup (ns.map V.int))/\kd ns/\∀H',aW H H'->Q (.str (tx (ip b ns))) H'
def wI(a:Addr):Sp:=λvs H Q _=>∃(t o:Addr) (b:Bool) (ns:List Int) (u:Bool) (p q:Bw),vs=[.ref t,.str (sd b),.ref o]/\H o=some (.tup (ns.map V.int))/\kd ns/\jS H t u p q/\J0 b ns u p q/\(∃C D,H a=some (jW D C a))/\∀H',aW H H'->Q (.bl true) H'
def wH:Sp:=λvs H Q _=>∃x d,vs=[x]/\Dat H x d/\Pl d 60/\((kA d=false/\∀v H',aW H H'->Dat H' v (Ee false true)->Q v H')\/∃m o b ns,x=.ref m/\gf H m o b ns/\d=GD b ns/\kd ns/\(NC b ns->∀v H',aW H H'->Dat H' v (xJ (ip b ns))->Q v H')/\(¬NC b ns->∀v H',aW H H'->Dat H' v (Ee true false)->Q v H'))
def zh:Sp:=λvs H Q _=>∃(c:Int) (b:Bool) (o:Addr) (ns:List Int),vs=[.int c,.str (sd b),.ref o]/\H o=some (.tup (ns.map V.int))/\kd ns/\∀v d H',aW H H'->Dat H' v d->kA d=false->Pl d 60->Q v H'
def uK (p q:Bool):nw (Str.ofString "abcd").cps.toList (2*(if p=true then 1 else 0)+if q=true then 1 else 0)=some (rS (!p) (!q)):=by
 rw[ue,zQ];cases p<;>cases q<;>rfl
def y7{b:Bool}{ns:List Int}{i k:Nat}(O:kd ns)(hi:i<ns.length)(hk:k+1<=ns.length)(er:ao ns (k+1)=1+i):(ip b ns).take (i+1)=(ip b ns).take i++[xu b ns (k+1)]:=by
 rw[Ct O (by lia) hk,er];have e1:((i+1:Nat):Int)=1+i:=by lia
 rw[dZ];congr 1;unfold ip;rw[ai,List.getElem?_range hi,<-e1];rfl
def tN (k:Nat) (b:Bool):(decide (((k:Nat):Int) % 2=1)=decide (sd b=Str.ofString "l"))<->odd k=!b:=by
 have e1:decide (((k:Nat):Int) % 2=1)=odd k:=by
  unfold odd;rcases cB k with h | h
  ·rw[h,PZ (by lia)];rfl
  ·rw[h,P0 (by lia)];rfl
 have e2:decide (sd b=Str.ofString "l")=!b:=by cases b<;>decide +kernel
 rw[e1,e2]
def tI(ns:List Int):PyData:=.tuple (ns.map PyData.int)
def GC (b:Bool) (ns:List Int) (k:Nat):List PyData:=[.tuple [.str (sd b),tI (ns.take k++[1,1]++ns.drop k)],.tuple [.str (sd b),tI (ns++[(ns.length:Int)+2])],.tuple [.str (Str.ofString "L"),tI ns]]
def HF(b:Bool)(ns:List Int)(k:Nat):List PyData:=[.tuple [.str (sd b),.list (ns.map PyData.int)],.none,.tuple [.str (sd b)],.tuple [.str (sd b),.tuple ((ns.take k).map PyData.int++[.bool true]++(ns.drop k).map PyData.int)],.tuple [tI ns,.str (sd b)]]
def FS{b:Bool}{ns:List Int}{k:Nat}(hk:k<=ns.length):∀d∈GC b ns k++HF b ns k,kA d=false:=by
 have lk:(ns.take k).length=k:=by rw[dN];lia
 intro d hd;simp only[GC,HF,fj,gD,aI,cW,or_false] at hd;rcases hd with rfl | rfl | rfl | rfl | rfl | rfl | rfl | rfl
 ·refine mL (DC (i:=k) (j:=k+1) (z:=1) (by lia) ?_ ?_)
  ·rw[b9,cE (by lia),lk,mz];rfl
  ·rw[b9,cE (by lia),lk,show k+1-k=1 by lia];rfl
 ·refine uJ (i:=ns.length) (d:=.int ((ns.length:Int)+2)) ?_ (.inr (.inr ?_))
  ·rw[a6,cE (by simp)];simp
  ·simp[intOf]
 ·exact n8 (by decide +kernel)
 ·exact mL rfl
 ·rfl
 ·rfl
 ·refine uJ (i:=k) (d:=.bool true) ?_ (.inl rfl);rw[b9,cE (by rw[aD];lia),aD,lk,mz];rfl
 ·exact n8 rfl
def mh(ns:List Int):∀d∈ns.map PyData.int,Pl d 0:=λd hd=>by obtain⟨n,_,rfl⟩:=bB.mp hd;exact uo n
def HE{b:Bool}{ns:List Int}{k:Nat}:∀d∈GC b ns k++HF b ns k,Pl d 60:=by
 have ti:∀l:List Int,Pl (tI l) 1:=λl=>jf (mh l);have sb:Pl (.str (sd b)) 1:=Gu b;intro d hd;simp only[GC,HF,fj,gD,aI,cW,or_false] at hd;rcases hd with rfl | rfl | rfl | rfl | rfl | rfl | rfl | rfl
 ·exact(jf (Dd sb (ti _))).le (by decide)
 ·exact(jf (Dd sb (ti _))).le (by decide)
 ·exact(jf (Dd (AQ (by decide +kernel)) (ti _))).le (by decide)
 ·exact(jf (Dd sb (Ez (mh ns)))).le (by decide)
 ·exact⟨rfl,by decide⟩
 ·exact(jf (k:=1) (λd hd=>by rw[bE] at hd;rw[hd];exact sb)).le (by decide)
 ·refine(jf (Dd sb (jf (k:=0) λd hd=>?_))).le (by decide);simp only[aQ,bE] at hd;rcases hd with (h | h) | h
  ·exact mh _ d h
  ·rw[h];exact⟨rfl,aH _⟩
  ·exact mh _ d h
 ·exact(jf (Dd (ti _) sb)).le (by decide)
def zw{L R:List Int}:∀(cs:List Nat) (i j:Nat),fT L R cs i=none->fT L R cs j=none:=by
 intro cs
 induction cs generalizing L R with
 | nil=>
  intro i j h;unfold fT at h ⊢
  split at h
  ·rename_i e;rw[PX e]
  ·cases h
 | cons c cs ih=>
  intro i j h;cases g:lm L R c with
  | none=>rw[oE g] at h;cases h
  | some p=>
   obtain⟨L',R'⟩:=p;rw[oF g] at h ⊢;exact ih _ _ h
def ni(b:Bool):List Nat:=if b then [98,99] else [99,98]
def Bs(b:Bool)(ds:List Nat)(i:Nat):fT (bL b) (bR b) (ni b++ds) i=fT (bL b) (bR b) ds (i+2):=by cases b<;>rfl
def wW{b:Bool}{cs:List Nat}(h:fT (bL b) (bR b) cs 0=none):∀k i,fT (bL b) (bR b) ((List.replicate k (ni b)).flatten++cs) i=none
 | 0,i=>zw cs 0 i h
 | k+1,i=>by
  rw[fu,j9,b9,Bs];exact wW h k (i+2)
def zR(b:Bool):pR (ni b):=by
 intro x hx;cases b
 ·simp[ni] at hx;rcases hx with rfl | rfl;exact .inr (.inr (.inl rfl));exact .inr (.inl rfl)
 ·simp[ni] at hx;rcases hx with rfl | rfl;exact .inr (.inl rfl);exact .inr (.inr (.inl rfl))
def zS(b:Bool):(ni b).length=2:=by cases b<;>rfl
def Bt (c:Int):nw [V.str (Str.ofString "cb"),V.str (Str.ofString "bc")] (c % 2)=some (.str (tx (ni (decide (c % 2=1))))):=by
 have h:c % 2=0\/c % 2=1:=by lia
 rcases h with e | e<;>rw[e]
 ·rw[show tx (ni (decide ((0:Int)=1)))=Str.ofString "cb" by decide +kernel];rfl
 ·rw[show tx (ni (decide ((1:Int)=1)))=Str.ofString "bc" by decide +kernel];rfl
def oJ{K:P5}{H:Hp}{x y:V}{d:PyData}{neg:Bool}{Q:VK}(hx:Dat H x d)(hy:Dat H y d)(lay:d.canLay0=true)(dp:d.depth<=60)(q:Q (.bl (!neg)) H):CJ K neg x y H Q:=by
 refine⟨_,_,hx.rep,hy.rep,lay,lay,by rw[Nat.min_self];exact dp,?_⟩;rw[PySem.SeqAt.eqv_refl _ lay];cases neg
 ·exact q
 ·exact q
def B0(b:Bool)(ns:List Int):pR (ip b ns):=λc hc=>by
 unfold ip at hc;obtain⟨i,_,rfl⟩:=bB.mp hc;unfold rS
 split<;>split
 ·exact .inl rfl
 ·exact .inr (.inl rfl)
 ·exact .inr (.inr (.inl rfl))
 ·exact .inr (.inr (.inr rfl))
def EN{cs:List Nat}(h:pR cs):PyData.canLay0 (.str (tx cs))=true:=by
 show PyData.strOk (tx cs)=true;unfold PyData.strOk;rw[Array.all_eq_true];intro i hi;have hi2:i<cs.length:=by simpa [tx] using hi
 have:=h cs[i] (fh hi2);have e:(tx cs).cps[i]=cs[i]:=by simp[tx]
 refine P0 (Nat.lt_of_le_of_lt (nE e) ?_);rcases this with z | z | z | z<;>rw[z]<;>decide
def mW{cs:List Nat}(h:pR cs):(xJ cs).canLay0=true/\(xJ cs).depth<=60:=by
 refine⟨?_,by show 1+max 0 (max 0 0)<=60;decide⟩;show (PyData.canLay0 (.str (Str.ofString "told"))&&(PyData.canLay0 (.str (tx cs))&&true))=true;rw[EN h,show PyData.canLay0 (.str (Str.ofString "told"))=true by decide +kernel];rfl
end Rm
namespace L2
open PySem PySem.Spec PyProof.Rows
structure QB (X:Cx) (body:List Stmt) (tb:XK->TS):Prop where
 h:∀ (pins:List (Addr×Obj)) (s:Shared) (σ:St) (H:Hp) (D:Ends) (E:XK),bT X pins σ H s->tb E D σ H->wpAny (model X.prog X.w) X.A (execs body X.env) (SP X pins D) (fun ev s'=>∃ H1 s1,bT X pins σ H1 s1/\nG X.prog X.w X.stack H1 s1 E ev s') s
structure B7 (X:Cx) (pins:List (Addr×Obj)) (σ:St) (a C t0:Addr) (dO:Option Addr) (H2:Hp) (s':Shared) (h3:Heap):Prop where
 ex:∃ (B:Heap) (H1:Hp) (s1:Shared),bT X pins σ H1 s1/\s'.os=s1.os/\AllBare s'.gens/\Un (j3 X.stack) [] H1 H2 s1.heap s'.heap/\lj X.prog X.w H2 s'.heap/\B.FlyingW X.stack a (.ref C) (.ref t0) s'.heap/\Ip B s1.heap H2 X.stack/\B.FlyingW (X.env::X.outer) a (.ref C) (.ref t0) h3/\s'.heap.UpToSlots h3/\nU dO a h3
abbrev TH:=Ends->St->Addr->Option Addr->Hp->Prop
structure QH (X:Cx) (hs:List ExceptHandler) (th:TH):Prop where
 h:∀ (pins:List (Addr×Obj)) (σ:St) (D:Ends) (a C t0:Addr) (dO:Option Addr) (H2:Hp) (s':Shared) (h3:Heap),B7 X pins σ a C t0 dO H2 s' h3->H2 a=none->th D σ C dO H2->wpAny (model X.prog X.w) X.A (handleBy (.ref a) X.env hs) (SP X pins D) X.xe { s' with heap:=h3 }
def HP:TH:=λ_ _ _ _ _=>False
def Dk(K:P5)(c:Value)(ts:Addr->TS)(th:TH):TH:=λD σ C dO H2=>(PySem.W.exmOne K (.ref C) c=some true/\∀a,H2 a=none->ts a D σ (bW H2 a (jW dO C a)))\/(PySem.W.exmOne K (.ref C) c=some false/\th D σ C dO H2)
def JB(K:P5)(c:Value)(i:Nat)(ts:Addr->TS)(th:TH):TH:=λD σ C dO H2=>(PySem.W.exmOne K (.ref C) c=some true/\∀a,H2 a=none->ts a { nx:=λσ' H'=>D.nx (σ'.set i none) H',rt:=D.rt,bk:=λσ' H'=>D.bk (σ'.set i none) H',ct:=λσ' H'=>D.ct (σ'.set i none) H' } (σ.set i (some (.ref a))) (bW H2 a (jW dO C a)))\/(PySem.W.exmOne K (.ref C) c=some false/\th D σ C dO H2)
section
variable {X:Cx}
def El:QH X [] HP:=⟨λ_ _ _ _ _ _ _ _ _ _ _ _ h=>h.elim⟩
def B7.inv{pins:List (Addr×Obj)}{σ:St}{a C t0:Addr}{dO:Option Addr}{H2:Hp}{s':Shared}{h3:Heap}(hst:X.stack=X.env::X.outer)(L:B7 X pins σ a C t0 dO H2 s' h3):bT X pins σ (bW H2 a (jW dO C a)) { s' with heap:=h3 }/\∃oe,h3.get? a=some oe/\oe.cls=.ref C:=by
 obtain⟨B,H1,s1,I1,os,bare,un,hok,fl,cov,fl3,up3,ct3⟩:=L.ex;have fl3':=fl3;rw[<-hst] at fl3';exact⟨I1.land (E:=E0) os bare un hok fl cov fl3' up3 ct3,Heap.FlyingW.there fl3⟩
def Ht {cx:Str} {c:Value} {b₀:Stmt} {suite:List Stmt} {ts:Addr->TS} {th:TH} {hs:List ExceptHandler} {np hpos:Pos} (hst:X.stack=X.env::X.outer) (hgc:Gl X cx) (hmc:X.mg cx=some c) (hsu:∀a,jr (X.exc a) (b₀::suite) (ts a)) (hh:QH X hs th) (hdc:(cx==("__debug__":Str))=false:=by decide) :
  QH X (.ExceptHandler (some (.Name cx np)) none (b₀::suite) hpos::hs) (Dk X.K c ts th):=⟨by
 intro pins σ D a C t0 dO H2 s' h3 L Hn hq;obtain⟨I3,oe,e1,e2⟩:=L.inv hst;refine wpAny_handleBy_cons (codeAny_handlers_test (ij (X:=X.exc a) (I3.exc a) hgc hmc ?_ hdc)) (λz=>nomatch z);rcases hq with ⟨hx,q⟩ | ⟨hx,q⟩
 ·refine iZ (K:=X.K) (h:=h3) (cls:=.ref C) I3.kIn (λA Q E s k hq=>PU (k _ _ e1) (by rw[e2];exact hq)) hx _ _ _ _ (λb o e=>e) ?_;obtain⟨B,H1,s1,I1,os,bare,un,hok,fl,cov,fl3,up3,ct3⟩:=L.ex;refine codeAny_handlers_suite (gH (dj.flight (e:=a)) ct3 (lands_againW fl3 λh4 fl4 up4 ct4=>?_));have fl4':=fl4;rw[<-hst] at fl4';have I4:bT X pins σ (bW H2 a (jW dO C a)) { s' with heap:=h4 }:=I1.land (E:=E0) os bare un hok fl cov fl4' (UpToSlots.trans up3 up4) ct4;refine wpAny_mono ((hsu a).h pins _ _ _ _ (I4.exc a) (q a Hn)) (λfw s6 h6=>?_) (λ_ _ z=>False.elim z);obtain⟨B',H1',s1',I1',_⟩:=L.ex;cases fw with
  | next=>obtain⟨σ6,H6,I6,q6⟩:=h6;exact⟨_,_,I6.unexc I1.ok,q6⟩
  | brk=>obtain⟨σ6,H6,I6,q6⟩:=h6;exact⟨_,_,I6.unexc I1.ok,q6⟩
  | cont=>obtain⟨σ6,H6,I6,q6⟩:=h6;exact⟨_,_,I6.unexc I1.ok,q6⟩
  | ret u=>obtain⟨v6,σ6,H6,I6,r6,q6⟩:=h6;exact⟨v6,_,_,I6.unexc I1.ok,r6,q6⟩
 ·refine iZ (K:=X.K) (h:=h3) (cls:=.ref C) I3.kIn (λA Q E s k hq=>PU (k _ _ e1) (by rw[e2];exact hq)) hx _ _ _ _ (λb o e=>e) ?_;exact hh.h pins σ D a C t0 dO H2 s' h3 L Hn q⟩
def Gp {cx n:Str} {c:Value} {i:Nat} {b₀:Stmt} {suite:List Stmt} {ts:Addr->TS} {th:TH} {hs:List ExceptHandler} {np hpos:Pos} (hst:X.stack=X.env::X.outer) (hgc:Gl X cx) (hmc:X.mg cx=some c) (hN:X.N.Nodup) (hi:X.N[i]? = some n) (hl:X.env.scope.names.lookup n=some .local) (hsu:∀a,jr (X.exc a) (b₀::suite) (ts a)) (hh:QH X hs th) (hdc:(cx==("__debug__":Str))=false:=by decide) :
  QH X (.ExceptHandler (some (.Name cx np)) (some n) (b₀::suite) hpos::hs) (JB X.K c i ts th):=⟨by
 intro pins σ D a C t0 dO H2 s' h3 L Hn hq;obtain⟨I3,oe,e1,e2⟩:=L.inv hst;refine wpAny_handleBy_cons (codeAny_handlers_test (ij (X:=X.exc a) (I3.exc a) hgc hmc ?_ hdc)) (λz=>nomatch z);rcases hq with ⟨hx,q⟩ | ⟨hx,q⟩
 ·refine iZ (K:=X.K) (h:=h3) (cls:=.ref C) I3.kIn (λA Q E s k hq=>PU (k _ _ e1) (by rw[e2];exact hq)) hx _ _ _ _ (λb o e=>e) ?_;obtain⟨B,H1,s1,I1,os,bare,un,hok,fl,cov,fl3,up3,ct3⟩:=L.ex;refine codeAny_handlers_suite_as (gH (dj.flight (e:=a)) ct3 (lands_againW fl3 λh4 fl4 up4 ct4=>?_));have fl4':=fl4;rw[<-hst] at fl4';have I4:bT X pins σ (bW H2 a (jW dO C a)) { s' with heap:=h4 }:=I1.land (E:=E0) os bare un hok fl cov fl4' (UpToSlots.trans up3 up4) ct4;refine oR I4 hN hi (.inl hl) (show RelV (.ref a) (.ref a) from rfl) (λs5 I5=>?_) (.inr hl);refine wpAny_mono ((hsu a).h pins s5 _ _ _ (I5.exc a) (q a Hn)) (λfw s6 h6=>?_) (λ_ _ z=>False.elim z);cases fw with
  | next=>obtain⟨σ6,H6,I6,q6⟩:=h6;exact oI (I6.unexc I1.ok) hN hi hl λs7 I7=>⟨_,_,I7,q6⟩
  | brk=>obtain⟨σ6,H6,I6,q6⟩:=h6;exact oI (I6.unexc I1.ok) hN hi hl λs7 I7=>⟨_,_,I7,q6⟩
  | cont=>obtain⟨σ6,H6,I6,q6⟩:=h6;exact oI (I6.unexc I1.ok) hN hi hl λs7 I7=>⟨_,_,I7,q6⟩
  | ret u=>obtain⟨v6,σ6,H6,I6,r6,q6⟩:=h6;exact oI (I6.unexc I1.ok) hN hi hl λs7 I7=>⟨v6,_,_,I7,r6,q6⟩
 ·refine iZ (K:=X.K) (h:=h3) (cls:=.ref C) I3.kIn (λA Q E s k hq=>PU (k _ _ e1) (by rw[e2];exact hq)) hx _ _ _ _ (λb o e=>e) ?_;exact hh.h pins σ D a C t0 dO H2 s' h3 L Hn q⟩
def D9(tb:XK->TS)(th:TH):TS:=λD σ H=>tb (λcls dO H2=>∃C,cls=Value.ref C/\th D σ C dO H2) D σ H
def AD{body:List Stmt}{h₀:ExceptHandler}{hs:List ExceptHandler}{tb:XK->TS}{th:TH}{pos:Pos}(hst:X.stack=X.env::X.outer)(hfr:X.env.frame=some X.env.locals)(hb:QB X body tb)(hh:QH X (h₀::hs) th):QS X (.Try body (h₀::hs) [] [] pos) (D9 tb th):=⟨by
 intro pins s σ H D I h;refine wpAny_Try_except (wpAny_mono (hb.h pins s σ H D _ I h) (λf s1 h1=>?_) λev s' ⟨H1,s1,I1,hx⟩=>?_)
 ·cases f with
  | next=>exact Oj h1
  | brk=>exact h1
  | cont=>exact h1
  | ret u=>exact h1
 ·obtain⟨a,C,t0,H2,B,dO,rfl,os,bare,un,hok,fl,cov,ct,C',eC,q⟩:=hx;cases eC;have Hn:H2 a=none:=by
   cases z:H2 a with
   | none=>rfl
   | some u=>
    obtain⟨o,e'⟩:=cov.trk a u z;rw[fl.2.1] at e';cases e'
  have fl':=fl;rw[hst] at fl';refine gH (dj.note (e:=a)) ct ?_;refine wpAny_looks_onW (base:=B) (env:=X.env) (outer:=X.outer) (by rw[I.ok.frames,hst]) hfr fl' λh2 held up2 ct2=>?_;refine gH (dj.flight (e:=a)) ct2 ?_;refine wpAny_landsW held λh3 fl3 up3 ct3=>?_;exact hh.h pins σ D a C t0 dO H2 s' h3 ⟨B,H1,s1,I1,os,bare,un,hok,fl,cov,fl3,UpToSlots.trans up2 up3,ct3⟩ Hn q⟩
def B3{k:Nat}{st:Stmt}{ps:List Str}{sp:Sp}{x:Str}{e:Expr}{es:List Expr}{t:TA}{p cpos:Pos}{pins:List (Addr×Obj)}{s:Shared}{σ:St}{H:Hp}{Q:VK}{E:XK}(Df:uO X.prog X.w X.K X.mg X.base k x st ps sp)(hr:fg k X.A)(hg:Gl X x)(ha:QA X.nox (e::es) t)(I:bT X pins σ H s)(h:t σ H λvs H1=>sp vs H1 Q E)
  (hdb:(x==("__debug__":Str))=false) (he:starEach (e::es) X.env=(false,eval e X.env)::starEach es X.env) (hpl:(backTo cpos (starEach es X.env)).any (·.1)=false) :
  wpAny (model X.prog X.w) X.A (eval (.Call (.Name x p) (e::es) [] cpos) X.env) (EP X pins σ Q) (λev s'=>∃H1 s1,bT X pins σ H1 s1/\nG X.prog X.w X.stack H1 s1 E ev s') s:=by
 obtain⟨f,fd,Fu,hm,hb,F⟩:=Df.ex;have hk:=Fu.kp;refine Ov (ij I hg hm ?_ hdb);refine gL (h₀:=X.base) I.ok.mod.kin hk (wpAny_mono (ha.h cpos pins s σ H _ (I.wish _) h) (λus s1 ⟨vs,H1,I1,r,q⟩=>⟨I1.kIn,?_⟩) λ_ _ z=>False.elim z) he hpl;have I1:=I1.unwish;have r2:bj (vs++[]) (us++[]):=r.append .nil;have q2:sp (vs++[]) H1 Q E:=by rw[cK];exact q
 have hlen:(us++[]).length=ps.length:=by rw[<-r2.length];exact F.len _ _ _ _ q2
 refine Ot (Ou (F.run X.A X.stack s1 H1 ⟨us,[]⟩ (us++[]) (vs++[]) _ E hr I1.env0 (hb s1 us I1.kIn hlen) r2 q2) λr s' hq=>?_);cases r with
 | error ev=>exact⟨H1,s1,I1,hq⟩
 | ok fl=>
  cases fl with
  | ret u=>exact I1.after hq
  | next=>exact False.elim hq
  | brk=>exact False.elim hq
  | cont=>exact False.elim hq
section
variable {k:Nat} {st:Stmt} {ps:List Str} {sp:Sp} {x:Str} {e:Expr} {es:List Expr} {t:TA} {p cpos:Pos}
def HU(sp:Sp)(t:TA):XK->TS:=λE D σ H=>t σ H λvs H1=>sp vs H1 (λ_ H2=>D.nx σ H2) E
def Ig(sp:Sp)(j:Nat)(t:TA):XK->TS:=λE D σ H=>t σ H λvs H1=>sp vs H1 (λv H2=>D.nx (σ.set j (some v)) H2) E
def Ie(sp:Sp)(z:Str)(t:TA):XK->TS:=λE D σ H=>t σ H λvs H1=>sp vs H1 (λv H2=>∀q,H2 q=none->D.rt (.ref q) (bW H2 q (.tup [.str z,v]))) E
def HS(sp:Sp)(z:Str)(t:TA):XK->TS:=λE D σ H=>t σ H λvs H1=>sp vs H1 (λv H2=>∀q,H2 q=none->D.rt (.ref q) (bW H2 q (.lst [.str z,v]))) E
def Em{z:Str}{zj}{zp tp rp:Pos}(Df:uO X.prog X.w X.K X.mg X.base k x st ps sp)(hr:fg k X.A)(hg:Gl X x)(ha:QA X.nox (e::es) t)
  (hdb:(x==("__debug__":Str))=false:=by decide) (he:starEach (e::es) X.env=(false,eval e X.env)::starEach es X.env:=by rfl) (hpl:(backTo cpos (starEach es X.env)).any (·.1)=false:=by rfl):QB X [.Return (some (.List [.Constant (.str z) zj zp,.Call (.Name x p) (e::es) [] cpos] tp)) rp] (HS sp z t):=⟨by
 intro pins s σ H D E I h;refine Ol (wpAny_Return_some (wpAny_List_spliced ?_));show wpAny _ _ (spliced ((false,eval (.Constant (.str z) zj zp) X.env)::(false,eval (.Call (.Name x p) (e::es) [] cpos) X.env)::_)) _ _ s;refine eu (Calls.Constant_str (eu (wpAny_mono (B3 Df hr hg ha (I.tok _) h hdb he hpl) (λv s1 ⟨y,H1,I1,ry,q⟩=>gm ?_) λ_ _ z=>z)));have hf:H1 s1.heap.objs.size=none:=I1.hok.fresh (aH _);refine⟨by show 2<=sizeLine;rw[Os];lia,.ref s1.heap.objs.size,σ,bW H1 s1.heap.objs.size (.lst [.str z,y]),I1.laid (t':=s1.toks) (λb u e=>aB _ e) (aH _) ?_,rfl,q _ hf⟩;exact⟨by show 2<=sizeLine;rw[Os];lia,_,0,.cons ⟨_,rfl⟩ (.cons ry .nil),aK _ rfl⟩⟩
end
end
section
variable {σ:St} {H H2:Hp} {D:Ends} {E:XK} {C:Addr} {dO:Option Addr} {K:P5} {c:Value} {sp:Sp} {t:TA} {ts:Addr->TS} {th:TH} {tb:XK->TS} {z:Str} {i j:Nat}
def Ds:D9 tb th D σ H=tb (λcls dO H2=>∃C,cls=Value.ref C/\th D σ C dO H2) D σ H:=rfl
def Dv:HP D σ C dO H2=False:=rfl
def Bj:Dk K c ts th D σ C dO H2=((PySem.W.exmOne K (.ref C) c=some true/\∀a,H2 a=none->ts a D σ (bW H2 a (jW dO C a)))\/(PySem.W.exmOne K (.ref C) c=some false/\th D σ C dO H2)):=rfl
def GV:JB K c i ts th D σ C dO H2=((PySem.W.exmOne K (.ref C) c=some true/\∀a,H2 a=none->ts a { nx:=λσ' H'=>D.nx (σ'.set i none) H',rt:=D.rt,bk:=λσ' H'=>D.bk (σ'.set i none) H',ct:=λσ' H'=>D.ct (σ'.set i none) H' } (σ.set i (some (.ref a))) (bW H2 a (jW dO C a)))\/(PySem.W.exmOne K (.ref C) c=some false/\th D σ C dO H2)):=rfl
def Bo:HU sp t E D σ H=t σ H λvs H1=>sp vs H1 (λ_ H2=>D.nx σ H2) E:=rfl
def EK:Ig sp j t E D σ H=t σ H λvs H1=>sp vs H1 (λv H2=>D.nx (σ.set j (some v)) H2) E:=rfl
def EI:Ie sp z t E D σ H=t σ H λvs H1=>sp vs H1 (λv H2=>∀q,H2 q=none->D.rt (.ref q) (bW H2 q (.tup [.str z,v]))) E:=rfl
def EJ:HS sp z t E D σ H=t σ H λvs H1=>sp vs H1 (λv H2=>∀q,H2 q=none->D.rt (.ref q) (bW H2 q (.lst [.str z,v]))) E:=rfl
end
end L2
namespace Rm
open PySem L2 PyProof.Rows
def Pr(bs:List Bool)(x y:Nat):Prop:=Hf bs x y\/Hf bs y x
open Classical in
noncomputable def mtF (bs:List Bool) (x:Nat):Nat:=if h:∃y,Pr bs x y then h.choose else x
def gv(g:List Int)(x:Nat):Int:=g.getD x 0
def GE(L R:Nat->Nat)(e:Nat):Nat->Nat
 | 0=>e
 | i+1=>R (L (GE L R e i))
def Iy(L R:Nat->Nat)(e:Nat):Nat->List Nat
 | 0=>[]
 | i+1=>Iy L R e i++[GE L R e i]++[L (GE L R e i)]
def Inj(L R:Nat->Nat)(e i:Nat):Prop:=∀j k,j<i->k<i->GE L R e j=GE L R e k->j=k
structure JZ (L R:Nat->Nat) (e i:Nat):Prop where
 pos:0<i
 inj:Inj L R e i
 back:GE L R e i=e
open Classical in
noncomputable def perF (L R:Nat->Nat) (e:Nat):Nat:=if h:∃i,JZ L R e i then h.choose else 0
noncomputable def rdF (L R:Nat->Nat) (e:Nat):List Nat:=Iy L R e (perF L R e)
open Classical in
noncomputable def rsF (L R:Nat->Nat):Nat->List (List Nat)
 | 0=>[]
 | i+1=>if ∃r∈rsF L R i,i∈r then rsF L R i else rsF L R i++[rdF L R i]
def rk(G:Nat->Bool):Nat->Nat
 | 0=>0
 | k+1=>if G k then rk G k else rk G k+1
def dK(G:Nat->Bool)(bs:List Bool):Nat->Int
 | 0=>0
 | k+1=>if G k then dK G bs k else dK G bs k+((bs[k]?).toList.map dl).sum
end Rm
namespace L2
open PySem PySem.Spec PyProof.Rows
def AA:V->List V->Hp->VK->Prop:=λx vs H Q=>∃(l:Addr) (ks:List Int) (z:Int) (j:Nat),x=.ref l/\vs=[.int z]/\H l=some (.lst (ks.map V.int))/\ks.length<=1000/\ks[j]? = some z/\(∀m,m<j->ks[m]?≠some z)/\Q (.int j) H
def Am {X:Cx}:He X "list.index" AA:=by
 intro pins s σ H x vs v us Q I rx rv h;obtain⟨l,ks,z,j,rfl,rfl,hH,hsz,hj,hno,q⟩:=h;cases rx;obtain⟨u,rfl,ru⟩:=rv.one;obtain⟨t,rfl⟩:=ru;obtain⟨c,its,n,r,hl,e⟩:=I.lstM hH;have at_:∀(m:Nat) (k:Int),ks[m]? = some k->∃t,its[m]? = some (Value.int k t):=λm k hk=>by
  obtain⟨w,hw,t,ht⟩:=r.get (show (ks.map V.int)[m]? = some (V.int k) by rw[ai,hk];rfl);exact⟨t,by rw[hw,ht]⟩
 have ln:its.length=ks.length:=by have:=r.length;rw[aD] at this;exact this.symm
 have jl:j<ks.length:=(aR.mp hj).1
 let f:Value->Bool:=λy=>match y with | .int v _=>v==z | _=>false
 refine call_meets F.slot_list_index ⟨_,e,rfl⟩ F.entry_list_index (F.args_list_index_2 _ _)
  (MeetsSeq.list_index l its.toArray n (.int z t) f (λy hy=>?_) j (by rw[aO];lia) (by lia) ?_ ?_) ⟨e,⟨.int j,H,I.tok _,⟨_,rfl⟩,q⟩⟩
 ·obtain⟨m,hm,rfl⟩:=List.getElem_of_mem (List.mem_toArray.mp hy);obtain⟨t',ht⟩:=at_ m ks[m] (aL (by lia));rw[aL hm] at ht;rw[ay ht];exact MeetsSeq.EqGives.int _ _ _ _
 ·obtain⟨t',ht⟩:=at_ j z hj;have h2:its.toArray[j]'(by rw[aO];lia)=Value.int z t':=by
   rw[List.getElem_toArray];rw[aL (by lia)] at ht;exact ay ht
  rw[h2];exact beq_self_eq_true z
 ·intro m hm hmj;obtain⟨t',ht⟩:=at_ m ks[m] (aL (by lia));have h2:its.toArray[m]=Value.int (ks[m]'(by lia)) t':=by
   rw[List.getElem_toArray];rw[aL (by lia)] at ht;exact ay ht
  rw[h2];have:=hno m hmj;rw[aL (by lia)] at this;exact beq_false_of_ne λz=>this (by rw[z])
def IU{X:Cx}{K:P5}{e:Expr}{T:String}{r:V->List V->Hp->VK->Prop}{to:TE}{t:TA}(hK:X.K=K)(h:QE X e (Gc X.K T r to t)):QE X e (Gc K T r to t):=hK▸h
def Bi{l:Addr}{z:Int}{H:Hp}{Q:VK}:AA (.ref l) [.int z] H Q=∃(ks:List Int) (j:Nat),H l=some (.lst (ks.map V.int))/\ks.length<=1000/\ks[j]? = some z/\(∀m,m<j->ks[m]?≠some z)/\Q (.int j) H:=
 propext ⟨λ⟨_,ks,_,j,e,e',h⟩=>by cases e;cases e';exact⟨ks,j,h⟩,λ⟨ks,j,h⟩=>⟨l,ks,z,j,rfl,rfl,h⟩⟩
end L2
namespace Rm
open PySem L2 PyProof.Rows
def top(i:Nat):Stmt:=PySem.Challenge.pw_ringmaze_k30_codes_of_mazes.main.body.getD i (.Pass ⟨0,0,0,0⟩)
abbrev iA:Stmt:=top 13
def iN:bn ["bows","a","b","c","d"] ["bows"] (aq iA):=⟨rfl,rfl,rfl,by decide +kernel,rfl,by decide +kernel,by decide +kernel⟩
abbrev hV:Stmt:=top 17
def sY:bn ["thing"] ["thing"] (aq hV):=⟨rfl,rfl,rfl,by decide +kernel,rfl,by decide +kernel,by decide +kernel⟩
abbrev iy:Stmt:=top 18
def u9:bn ["thing"] ["thing"] (aq iy):=⟨rfl,rfl,rfl,by decide +kernel,rfl,by decide +kernel,by decide +kernel⟩
abbrev hZ:Stmt:=top 19
def sZ:bn ["thing"] ["thing"] (aq hZ):=⟨rfl,rfl,rfl,by decide +kernel,rfl,by decide +kernel,by decide +kernel⟩
abbrev iz:Stmt:=top 20
def uc:bn ["thing"] ["thing"] (aq iz):=⟨rfl,rfl,rfl,by decide +kernel,rfl,by decide +kernel,by decide +kernel⟩
abbrev fZ:Stmt:=top 22
def pV:bn ["side"] ["side"] (aq fZ):=⟨rfl,rfl,rfl,by decide +kernel,rfl,by decide +kernel,by decide +kernel⟩
abbrev eO:Stmt:=top 23
def kh:bn ["maze","step","side"] ["maze","step"] (aq eO):=⟨rfl,rfl,rfl,by decide +kernel,rfl,by decide +kernel,by decide +kernel⟩
abbrev fG:Stmt:=top 24
def lF:bn ["maze","order"] ["maze"] (aq fG):=⟨rfl,rfl,rfl,by decide +kernel,rfl,by decide +kernel,by decide +kernel⟩
abbrev iB:Stmt:=top 25
def jH:bn ["maze","rows","told","step","bow"] ["maze"] (aq iB):=⟨rfl,rfl,rfl,by decide +kernel,rfl,by decide +kernel,by decide +kernel⟩
abbrev jB:Stmt:=top 26
def kX:bn ["maze","side","bows","found"] ["maze"] (aq jB):=⟨rfl,rfl,rfl,by decide +kernel,rfl,by decide +kernel,by decide +kernel⟩
abbrev qK:Stmt:=top 27
def zq:bn ["maze","found"] ["maze"] (aq qK):=⟨rfl,rfl,rfl,by decide +kernel,rfl,by decide +kernel,by decide +kernel⟩
abbrev gP:Stmt:=top 29
def rD:bn ["left_inwards","right_inwards"] ["left_inwards","right_inwards"] (aq gP):=⟨rfl,rfl,rfl,by decide +kernel,rfl,by decide +kernel,by decide +kernel⟩
abbrev lZ:Stmt:=top 30
def m6:bn ["maze","bows","lefts","rights"] ["maze"] (aq lZ):=⟨rfl,rfl,rfl,by decide +kernel,rfl,by decide +kernel,by decide +kernel⟩
abbrev jE:Stmt:=top 32
def ud:bn ["_law_script","_law_k"] ["_law_script","_law_k"] (aq jE):=⟨rfl,rfl,rfl,by decide +kernel,rfl,by decide +kernel,by decide +kernel⟩
abbrev lX:Stmt:=top 33
def sX:bn ["_law_cell","_law_rest"] ["_law_cell"] (aq lX):=⟨rfl,rfl,rfl,by decide +kernel,rfl,by decide +kernel,by decide +kernel⟩
abbrev iw:Stmt:=top 34
def mG:bn ["_law_cell","_law_top"] ["_law_cell"] (aq iw):=⟨rfl,rfl,rfl,by decide +kernel,rfl,by decide +kernel,by decide +kernel⟩
abbrev xP:Stmt:=top 35
def qJ:bn ["_law_ends","_law_letter","_law_left","_law_right","_law_new","_law_low","_law_high"] ["_law_ends","_law_letter"] (aq xP):=⟨rfl,rfl,rfl,by decide +kernel,rfl,by decide +kernel,by decide +kernel⟩
abbrev iD:Stmt:=top 36
def se:bn ["_law_side"] ["_law_side"] (aq iD):=⟨rfl,rfl,rfl,by decide +kernel,rfl,by decide +kernel,by decide +kernel⟩
abbrev jD:Stmt:=top 37
def gw:bn ["_law_ends","_law_row","_law_here","_law_best","_law_k"] ["_law_ends"] (aq jD):=⟨rfl,rfl,rfl,by decide +kernel,rfl,by decide +kernel,by decide +kernel⟩
abbrev jC:Stmt:=top 38
def fR:bn ["_law_rest","_law_side","_law_many","_law_ends","_law_code","_law_letter"] ["_law_rest","_law_side","_law_many"] (aq jC):=⟨rfl,rfl,rfl,by decide +kernel,rfl,by decide +kernel,by decide +kernel⟩
abbrev gx:Stmt:=top 39
def dH:bn ["_law_side","_law_code","_law_stacks","_law_rows","_law_at","_law_k","_law_closes","_law_other","_law_order","_law_turn","_law_here"] ["_law_side","_law_code"] (aq gx):=⟨rfl,rfl,rfl,by decide +kernel,rfl,by decide +kernel,by decide +kernel⟩
abbrev jA:Stmt:=top 40
def gI:bn ["_law_side","_law_order","_law_road","_law_turn","_law_bows","_law_k","_law_one","_law_other"] ["_law_side","_law_order"] (aq jA):=⟨rfl,rfl,rfl,by decide +kernel,rfl,by decide +kernel,by decide +kernel⟩
abbrev gQ:Stmt:=top 41
def ic:bn ["_law_rest","_law_many","_law_order","_law_k"] ["_law_rest","_law_many"] (aq gQ):=⟨rfl,rfl,rfl,by decide +kernel,rfl,by decide +kernel,by decide +kernel⟩
abbrev f6:Stmt:=top 42
def dQ:bn ["_law_side","_law_order","_law_road","_law_code","_law_ring","_law_at","_law_ahead","_law_behind"] ["_law_side","_law_order"] (aq f6):=⟨rfl,rfl,rfl,by decide +kernel,rfl,by decide +kernel,by decide +kernel⟩
abbrev fH:Stmt:=top 43
def gY:bn ["_law_found","_law_side","_law_order","_law_road","_law_bows","_law_k"] ["_law_found","_law_side","_law_order"] (aq fH):=⟨rfl,rfl,rfl,by decide +kernel,rfl,by decide +kernel,by decide +kernel⟩
abbrev lY:Stmt:=top 44
def oV:bn ["_law_maze","e","_law_odd"] ["_law_maze"] (aq lY):=⟨rfl,rfl,rfl,by decide +kernel,rfl,by decide +kernel,by decide +kernel⟩
abbrev gz:Stmt:=top 45
def j0:bn ["_law_cell","_law_side","_law_order","_law_at","_law_some"] ["_law_cell","_law_side","_law_order"] (aq gz):=⟨rfl,rfl,rfl,by decide +kernel,rfl,by decide +kernel,by decide +kernel⟩
abbrev m7:Stmt:=top 46
def kW:bn ["_law_script","_law_head","_law_side","_law_code","_law_found","_law_order","_law_due"] ["_law_script"] (aq m7):=⟨rfl,rfl,rfl,by decide +kernel,rfl,by decide +kernel,by decide +kernel⟩
abbrev fI:Stmt:=L2.I9 (top 3)
def oW:bn ["self","bows"] ["self","bows"] (aq fI):=⟨rfl,rfl,rfl,by decide +kernel,rfl,by decide +kernel,by decide +kernel⟩
structure qq (mg:Str->Option Value):Prop where
 len:mg "len"=none
 range:mg "range"=none
 int:mg "int"=none
 list:mg "list"=none
 tuple:mg "tuple"=none
 isinstance:mg "isinstance"=none
 str:mg "str"=none
 bool:mg "bool"=none
 sorted:mg "sorted"=none
 all:mg "all"=none
 zip:mg "zip"=none
 max:mg "max"=none
 min:mg "min"=none
 reversed:mg "reversed"=none
 enumerate:mg "enumerate"=none
 abs:mg "abs"=none
 ValueError:mg "ValueError"=none
 MOST_RINGS:∃ t,mg "MOST_RINGS"=some (.int 20 t)
local macro_rules | `(tactic| nofun) => `(tactic| (try dsimp (maxSteps := 3000000) only [L2.yn, L2.Iu, L2.GO, L2.GH, L2.D7, L2.Iv, L2.yo, L2.GI, L2.w_and, L2.w_or, L2.w_not, L2.zM, L2.DY, L2.yw, L2.GU, L2.DW, L2.w_next, L2.D5, L2.zK, L2.zH, L2.DX, L2.yr, L2.D4, L2.D8, L2.vm, L2.yq, L2.yp, L2.DZ, L2.zL, L2.G7, L2.DV, L2.D3, L2.w_call, L2.G8, L2.D6, L2.vy, L2.sJ, L2.zG, L2.zF, L2.zD, L2.zB, L2.yz, L2.zC, L2.zE, L2.vv, L2.vt, L2.vx, L2.vw, L2.vq, L2.vo, L2.vn, L2.yx, L2.vk, L2.vi, L2.vj, L2.yy, L2.w_getS, L2.zA, L2.vh, L2.GK, L2.yu, L2.sI, L2.zJ, L2.zI, L2.vp]); (try simp (maxSteps := 3000000) only [L2.Dr, L2.yn, L2.Iu, L2.GO, L2.GH, L2.Bp, L2.JL, L2.JK, L2.G5, L2.GP, L2.G4, L2.D0, L2.G6, L2.GQ, L2.G0, L2.GZ, L2.EA, L2.EL, L2.D7, L2.IC, P3, P4, dP, L2.Iv, L2.GY, L2.Dz, L2.EG, L2.ED, L2.EF, L2.EB, L2.EC, L2.Du, L2.GS, L2.GT, L2.GR, L2.G9, L2.GN, L2.yo, L2.GI, L2.w_and, L2.w_or, L2.w_not, L2.zM, L2.DY, L2.yw, L2.GU, L2.DW, L2.w_next, L2.D5, L2.zK, L2.zH, L2.DX, L2.yr, L2.D4, L2.D8, L2.vm, L2.yq, L2.yp, L2.DZ, L2.zL, L2.G7, L2.DV, L2.D3, L2.w_call, L2.G8, L2.D6, L2.vy, L2.sJ, L2.zG, L2.zF, L2.zD, L2.zB, L2.yz, L2.Dw, L2.Bl, cK, PY, Bool.not_eq_true', decide_eq_false_iff_not, L2.Bh, L2.Dt, L2.GW, L2.yt, L2.Dy, L2.zC, L2.zE, L2.vv, L2.vt, L2.vx, L2.vw, L2.vq, L2.vo, L2.vn, L2.Dx, L2.Bm, L2.yx, L2.GX, L2.vk, L2.vi, L2.vj, L2.yy, L2.w_getS, L2.Bk, L2.zA, L2.vh, L2.GK, L2.yu, L2.sI, L2.GJ, L2.zJ, L2.zI, L2.vp, L2.EH, L2.GM, L2.GL, L2.w_rev, L2.Bi, L2.Ds, L2.Dv, L2.Bj, L2.GV, L2.Bo, L2.EK, L2.EI, L2.EJ]))
section
variable {P:Program} {w:World} {K:P5} {mg:Str->Option Value} {base:Heap}
def tL (E:Fn K mg "crossing" iA ["bows"]):iM P w K mg base 1 "crossing" iA ["bows"] oS:=E.mk' λf fd F=>by
 refine F.okS iN (λvs H Q E h=>?_) (λcdv A outer s H vs Q E hr h=>?_)
 ·obtain⟨l,ps,rfl,_⟩:=h;rfl
 ·obtain⟨l,ps,rfl,bo,qn,qs⟩:=h;obtain⟨as,b1,bl,bg⟩:=bo.get;refine⟨[some (.ref l),none,none,none,none],_,rfl,(L2.jr.h (aM (f9 bX rfl (iO (a9 0)) (oH (n:=2) rfl (gS (cI (i:=1) iN.nd rfl (Or.inl rfl)) (gS (cI (i:=2) iN.nd rfl (Or.inl rfl)) m9)))
   (aS (f9 bX rfl (iO (a9 0)) (oH (n:=2) rfl (gS (cI (i:=3) iN.nd rfl (Or.inl rfl)) (gS (cI (i:=4) iN.nd rfl (Or.inl rfl)) m9)))
    (aS (cz (o8 gp gp gp (a9 1) (a9 3) (a9 2) (a9 4))
     (aS (bH (cT (dX (cT (aF (a9 1) (aF (a9 2) aC))) (dX (cT (aF (a9 3) (aF (a9 4) aC))) aC)))))
     bu)))))
   (aS (bH ig)))),?_⟩
  nofun;refine⟨⟨_,ce.of b1⟩,mi (xs:=as.map V.ref) (λi σ H2=>∃x1 x2 x3 x4:Option V,σ=[some (.ref l),x1,x2,x3,x4]/\H2=H/\∀p∈ps.take i,∀q∈ps,df p q=false) ⟨none,none,none,none,rfl,rfl,λp hp=>by simp at hp⟩ (λi σ H2 _ ⟨_,_,_,_,_,e,_⟩=>by rw[e];exact ce.of b1) ?_ ?_⟩
  ·rintro i x σ H2 hx ⟨x1,x2,x3,x4,rfl,rfl,hn⟩;obtain⟨a,p,rfl,hp,ta⟩:=bg i x hx;nofun;refine⟨_,dA.of ta,rfl,?_⟩;nofun;refine⟨⟨_,ce.of b1⟩,mi (xs:=as.map V.ref) (λj σ H3=>∃x3 x4:Option V,σ=[some (.ref l),some (.int p.1),some (.int p.2),x3,x4]/\H3=H2/\∀q∈ps.take j,df p q=false) ⟨x3,x4,rfl,rfl,λp hp=>by simp at hp⟩ (λi σ H2 _ ⟨_,_,_,e,_⟩=>by rw[e];exact ce.of b1) ?_ ?_⟩
   ·rintro j y σ H3 hy ⟨y3,y4,rfl,rfl,hm⟩;obtain⟨c,q,rfl,hq,tc⟩:=bg j y hy;nofun;refine⟨_,dA.of tc,rfl,?_⟩;nofun;have nx:df p q=false->∃x3 x4:Option V,[some (V.ref l),some (V.int p.1),some (V.int p.2),some (V.int q.1),some (V.int q.2)]=[some (V.ref l),some (V.int p.1),some (V.int p.2),x3,x4]/\True/\∀q∈ps.take (j+1),df p q=false:=λe=>by
     refine⟨_,_,rfl,trivial,λq' hq'=>?_⟩;rw[dZ,hq] at hq';rcases aQ.mp hq' with z | z
     ·exact hm q' z
     ·have e':q'=q:=by simpa using z
      rw[e'];exact e
    refine k8 (λh1=>k8 (λh2=>k8 (λh3=>?_) (λh3=>nx (by simp[df,h3]))) (λh2=>nx (by simp[df,h2]))) (λh1=>nx (by simp[df,h1]));refine⟨(by show 2<=sizeLine;decide),λt1 n1=>⟨(by show 2<=sizeLine;decide),λt2 n2=>⟨(by show 2<=sizeLine;decide),λt3 n3=>?_⟩⟩⟩;have s1:aW H3 (bW H3 t1 (.tup [.int p.1,.int p.2])):=(aW.refl _).new n1;have s2:=s1.new (o:=.tup [.int q.1,.int q.2]) (s1.free n2);have s3:=s2.new (o:=.tup [.ref t1,.ref t2]) (s2.free n3);have e12:t1≠t2:=λe=>by subst e;rw[aE] at n2;cases n2
    have e23:t2≠t3:=λe=>by subst e;rw[aE] at n3;cases n3
    have e13:t1≠t3:=λe=>by subst e;rw[aP e12,aE] at n3;cases n3
    refine qs p (bG hp) q (bG hq) (by simp[df,h1,h2,h3]) t3 t1 t2 _ (s2.free n3) s3 aE ?_ ?_
    ·show bW _ _ _ t1=_;rw[aP e13,aP e12,aE]
    ·show bW _ _ _ t2=_;rw[aP e23,aE]
   ·rintro σ H3 ⟨y3,y4,rfl,rfl,hm⟩;refine⟨_,_,y3,y4,rfl,rfl,λp' hp'=>?_⟩;rw[dZ,hp] at hp';rcases aQ.mp hp' with z | z
    ·exact hn p' z
    ·have e:p'=p:=by simpa using z
     subst e;intro q hq;refine hm q ?_;rw[aD,bl,dm];exact hq
  ·rintro σ H2 ⟨x1,x2,x3,x4,rfl,rfl,hn⟩;nofun;refine qn λp hp=>hn p ?_;rw[aD,bl,dm];exact hp
def tJ (B:qq mg) (E:Fn K mg "is_whole" hV ["thing"]):iM P w K mg base 1 "is_whole" hV ["thing"] (qy K):=E.mk' λf fd F=>by
 refine F.okS sY (λvs H Q E h=>?_) (λcdv A outer s H vs Q E hr h=>?_)
 ·obtain⟨x,t,b,c,rfl,_⟩:=h;rfl
 ·obtain⟨x,t,b,c,rfl,ty,e1,e2,q⟩:=h;refine⟨[some x],_,rfl,(L2.jr.h (aS (bH (rH (aY lQ (by rfl) B.isinstance bD (aF (a9 0) (aF (jz (v:=.ty "int") (by rfl) B.int cA rfl) aC))) (rG (CM (aY lQ (by rfl) B.isinstance bD (aF (a9 0) (aF (jz (v:=.ty "bool") (by rfl) B.bool PyProof.Rows.boot_bool rfl) aC))))))))),?_⟩;nofun;refine⟨_,_,_,b,rfl,ty,e1,?_⟩;nofun;cases b with
  | false=>exact HK q
  | true=>exact HJ ⟨_,_,_,c,rfl,ty,e2,_,rfl,q⟩
def ux (LS:∃a,mg "SIDES"=some (.ref a)/\∀H,dA K H a (([("l":Str),"r"]:List Str).map V.str)) (E:Fn K mg "is_side" iy ["thing"]):iM P w K mg base 1 "is_side" iy ["thing"] sT:=E.mk' λf fd F=>by
 refine F.okS u9 (λvs H Q E h=>?_) (λcdv A outer s H vs Q E hr h=>?_)
 ·obtain⟨x,d,rfl,_⟩:=h;rfl
 ·obtain⟨x,d,rfl,hd,pl,q⟩:=h;refine⟨[some x],_,rfl,(L2.jr.h (aS (bH (dU (Ac (pG hr)) (a9 0) (qO (by rfl) LS) (by with_unfolding_all rfl))))),?_⟩;nofun;intro a ha;refine⟨d,[.str (Str.ofString "l"),.str (Str.ofString "r")],a,_,hd.rep,rfl,.inr (ha H),.cons (.str _) (.cons (.str _) .nil),pl.lay,by decide +kernel,pl.deep,?_⟩;rw[zo];exact q
def tK (B:qq mg) (E:Fn K mg "is_order" hZ ["thing"]) (LX:iM P w K mg base 1 "is_whole" hV ["thing"] (qy K)):iM P w K mg base 2 "is_order" hZ ["thing"] qD:=E.mk' λf fd F=>by
 refine F.okS sZ (λvs H Q E h=>?_) (λcdv A outer s H vs Q E hr h=>?_)
 ·obtain⟨x,d,rfl,_⟩:=h;rfl
 ·obtain⟨x,d,rfl,hd,q⟩:=h;refine⟨[some x],_,rfl,(L2.jr.h (aM (cz (QW.pt (iV (kY (f7 (aY lQ (by rfl) B.isinstance bD (aF (a9 0) (aF (jz (v:=.ty "tuple") (by rfl) B.tuple cu rfl) aC))))) (ie (bK tE (aY bV (by rfl) B.len aZ (aF (a9 0) aC)) (x8 (by rfl) B.MOST_RINGS) (bb _)))))
   (aS (bH gJ))
   bu)
   (aM (cz (kY (f7 (aY (uE rfl) (by rfl) B.all PyProof.Rows.boot_all (ii (jy (own:=["ring"]) (ns:=[]) (caps:=[]) rfl ⟨rfl,by decide +kernel,by decide +kernel,by decide +kernel⟩ .nil (CL (a9 0)) (λC s H fp pn=>(cI (i:=0) (show List.Nodup ((["ring"]:List Str)++([]:List Str)) by decide +kernel) rfl (Or.inl rfl))) (λC s H fp pn=>l6) (λC s H fp pn=>(bS LX (hr.mono (by decide)) (by rfl) (aF (a9 0) aC)))) aC))))
   (aS (bH gJ))
   bu)
   (aS (bH (dU (Ad (pG hr)) (aY mw (by rfl) B.sorted eB (aF (a9 0) aC)) (cN (ph rfl) (by rfl) B.list dD (o9 (cN y9 (by rfl) B.range PyProof.Rows.boot_range (aU aG (bY (aX dJ (aY bV (by rfl) B.len aZ (aF (a9 0) aC)) aG) aC))) aC)) (bb _))))))),?_⟩
  cases id hd with
  | tup h1 h2=>
   rename_i a xs ds;nofun;refine kD hd ?_;nofun;refine ji (by simp[Hw]) ⟨_,.inr (dA.of h1),?_⟩;have hl:=h2.len;refine k8 (λhn=>?_) (λhn=>?_)
   ·have e:iX (.tuple ds)=false:=by
     show (decide (ds.length<=20)&&_)=false;rw[PZ (by lia)];rfl
    rw[e] at q;exact q H (aW.refl _)
   ·have hn':xs.length<=20:=by lia
    have hz:xs.length<=sizeLine:=bI (bU (by lia));have hds:ds.length=xs.length:=hl.symm;have e0:iX (.tuple ds)=(ds.all fO&&(ds.map intOf).isPerm (eG 1 ds.length)):=by
     show (decide (ds.length<=20)&&_)=_;rw[P0 (by lia)];rfl
    rw[e0] at q;refine⟨⟨_,dA.of h1⟩,yY (dA.of h1) hz ((ds.map fO).map V.bl) (by simp[hds]) (λi x y Q' hx hy hq=>?_) λp1 n1=>?_⟩
    ·obtain⟨d,hd1,hd2⟩:=h2.get hx;nofun;refine ym hd2 ?_;have ey:y=V.bl (fO d):=by simp[hd1] at hy;exact hy.symm
     rw[ey] at hq;exact hq
    ·have s1:aW H (bW H p1 (.lst ((ds.map fO).map V.bl))):=(aW.refl _).new n1;refine⟨p1,_,rfl,ce.of aE,_,rfl,?_⟩;have ea:(ds.map fO).all id=ds.all fO:=by rw[List.all_map];rfl
     cases hb:ds.all fO with
     | false=>
      rw[hb] at q;exact mT (show (ds.map fO).all id=false by rw[ea,hb]) (q _ s1)
     | true=>
      rw[hb,Bool.true_and] at q;rw[iK] at hb;have hq1:=s1 _ _ h1;have ex:xs=(ds.map intOf).map V.int:=by
       apply List.ext_getElem?;intro i;cases e:xs[i]? with
       | none=>
        have:xs.length<=i:=by rw[<-List.getElem?_eq_none_iff];exact e
        rw[List.getElem?_eq_none (by simp;lia)]
       | some x=>
        obtain⟨d,hd1,hd2⟩:=h2.get e;have hw:=uT (hb d (bG hd1));rw[hw] at hd2;cases hd2;simp[hd1]
      refine ji (show ¬(ds.map fO).all id=false by rw[ea,iK.mpr hb];decide) ⟨a,ds.map intOf,rfl,.inr (by rw[<-ex];exact dA.of hq1),by rw[aD];lia,λl5 ms n5 hp hs=>?_⟩;have s5:=s1.new (o:=.lst (ms.map V.int)) (s1.free n5);nofun;refine⟨_,.inr (dA.of (s5 _ _ h1)),λp6 n6=>⟨1,_,aE,⟨by decide,by decide,by lia,by lia,by lia⟩,λl7 n7=>?_⟩⟩;have s6:=s5.new (o:=.rng 1 ((xs.length:Int)+1)) (s5.free n6);have n56:l5≠p6:=λe=>by subst e;rw[aE] at n6;cases n6
      have n57:l5≠l7:=λe=>by subst e;rw[aP n56,aE] at n7;cases n7
      have eN:((xs.length:Int)+1 - 1).toNat=(ds.map intOf).length:=by rw[aD];lia
      refine BP (ce.of (by rw[aP n57,aP n56,aE])) (ce.of aE) ?_;rw[eN,rA hp hs];rw[aD];exact q _ (s6.new (s6.free n7))
  | _=>
   nofun;refine kD hd ?_;nofun;exact mT (by rfl) (q H (aW.refl _))
def uy (B:qq mg) (E:Fn K mg "is_maze" iz ["thing"]) (Le:iM P w K mg base 1 "is_side" iy ["thing"] sT) (LY:iM P w K mg base 2 "is_order" hZ ["thing"] qD):iM P w K mg base 3 "is_maze" iz ["thing"] sU:=E.mk' λf fd F=>by
 refine F.okS uc (λvs H Q E h=>?_) (λcdv A outer s H vs Q E hr h=>?_)
 ·obtain⟨x,d,rfl,_⟩:=h;rfl
 ·obtain⟨x,d,rfl,hd,pl,q⟩:=h;refine⟨[some x],_,rfl,(L2.jr.h (aM (cz (QW.pt (iV (kY (f7 (aY lQ (by rfl) B.isinstance bD (aF (a9 0) (aF (jz (v:=.ty "tuple") (by rfl) B.tuple cu rfl) aC))))) (ie (bK tD (aY bV (by rfl) B.len aZ (aF (a9 0) aC)) aG (bb _)))))
   (aS (bH gJ))
   bu)
   (aS (bH (rH (bS Le (hr.mono (by decide)) (by rfl) (ar (au eZ (a9 0) aG (λ_ _=>rfl)) aC)) (rG (bS LY (hr.mono (by decide)) (by rfl) (ar (au eZ (a9 0) aG (λ_ _=>rfl)) aC)))))))),?_⟩
  cases id hd with
  | tup h1 h2=>
   rename_i a xs ds;nofun;refine kD hd ?_;nofun;refine ji (by simp[Hw]) ⟨_,.inr (dA.of h1),?_⟩;have hl:=h2.len;refine k8 (λhn=>?_) (λhn=>?_)
   ·have e:kA (.tuple ds)=false:=by
     match ds,hl with
     | [],_=>rfl
     | [u],_=>rfl
     | [u,v],hl=>exact absurd (by rw[hl];rfl) hn
     | u::v::w::r,_=>rfl
    rw[e] at q;exact q H (aW.refl _)
   ·have hn':xs.length=2:=by
     have:(xs.length:Int)=2:=Classical.not_not.mp hn;lia
    obtain⟨d,e,rfl⟩:∃d e,ds=[d,e]:=match ds,hl.symm.trans hn' with
     | [u,v],_=>⟨u,v,rfl⟩
    obtain⟨x,y,rfl,hx,hy⟩:=DF h2;have hlay:d.canLay0=true:=by
     have:(PyData.canLay0 d&&(PyData.canLay0 e&&true))=true:=pl.lay;rw[be] at this;exact this.1
    have hdp:d.depth<=60:=by
     have:max d.depth (max e.depth 0)+1<=60:=pl.deep;lia
    refine⟨_,x,dA.of h1,rfl,x,d,rfl,hx,⟨hlay,hdp⟩,?_⟩;nofun;cases es:lE d with
    | false=>
     refine HK ?_;have e:kA (.tuple [d,e])=false:=by show (lE d&&_)=false;rw[es];rfl
     rw[e] at q;exact q H (aW.refl _)
    | true=>
     have e:kA (.tuple [d,e])=iX e:=by show (lE d&&_)=_;rw[es];rfl
     rw[e] at q;exact HJ ⟨_,y,dA.of h1,rfl,y,_,rfl,hy,q⟩
  | _=>
   nofun;refine kD hd ?_;nofun;exact mT (by rfl) (q H (aW.refl _))
def pX (E:Fn K mg "other_side" fZ ["side"]):iM P w K mg base 1 "other_side" fZ ["side"] wD:=E.mk' λf fd F=>by
 refine F.okS pV (λvs H Q E h=>?_) (λcdv A outer s H vs Q E hr h=>?_)
 ·obtain⟨b,rfl,_⟩:=h;rfl
 ·obtain⟨b,rfl,q⟩:=h;refine⟨[some (.str (sd b))],_,rfl,(L2.jr.h (aS (bH (jx (bK gT (a9 0) bM (bb _)) bM bM)))),?_⟩;nofun;simp only[IP];refine k8 (λh=>?_) (λh=>?_)
  ·subst h;exact q
  ·have e:b=true:=by cases b;exact absurd rfl h;rfl
   subst e;exact q
def nj (E:Fn K mg "side_of_step" eO ["maze","step"]) (Kf:iM P w K mg base 1 "other_side" fZ ["side"] wD):iM P w K mg base 2 "side_of_step" eO ["maze","step"] sP:=E.mk' λf fd F=>by
 refine F.okS kh (λvs H Q E h=>?_) (λcdv A outer s H vs Q E hr h=>?_)
 ·obtain⟨m,o,b,ns,k,rfl,_⟩:=h;rfl
 ·obtain⟨m,o,b,ns,k,rfl,hm,q⟩:=h;refine⟨[some (.ref m),some (.int k),none],_,rfl,(L2.jr.h (aM (am (i:=2) kh.nd rfl (Or.inl rfl) (au eZ (a9 0) aG (λ_ _=>rfl)))
   (aS (bH (jx (bK gT (aX gK (a9 1) aG) aG (bb _)) (a9 2) (bS Kf (hr.mono (by decide)) (by rfl) (aF (a9 2) aC))))))),?_⟩
  nofun;refine⟨_,_,dA.of hm.1,rfl,?_⟩;refine⟨by decide,k8 (λh=>?_) (λh=>?_)⟩
  ·have e:odd k=false:=by simp[odd];lia
   rw[e,Bool.xor_false] at q;exact q
  ·have e:odd k=true:=by simp[odd];lia
   rw[e,Bool.xor_true] at q;exact⟨b,rfl,q⟩
def og (B:qq mg) (E:Fn K mg "rows_of_way" fG ["maze"]):iM P w K mg base 1 "rows_of_way" fG ["maze"] zf:=E.mk' λf fd F=>by
 refine F.okS lF (λvs H Q E h=>?_) (λcdv A outer s H vs Q E hr h=>?_)
 ·obtain⟨m,o,b,ns,rfl,_⟩:=h;rfl
 ·obtain⟨m,o,b,ns,rfl,hm,hl,q⟩:=h;refine⟨[some (.ref m),none],_,rfl,(L2.jr.h (aM (am (i:=1) lF.nd rfl (Or.inl rfl) (au eZ (a9 0) aG (λ_ _=>rfl)))
   (aS (bH (aX ft (aX ft (bZ (aU aG aC)) (cN g6 (by rfl) B.list dD (aF (a9 1) aC))) (bZ (bY (aX dJ (aY bV (by rfl) B.len aZ (aF (a9 1) aC)) aG) aC))))))),?_⟩
  nofun;refine⟨_,_,dA.of hm.1,rfl,(by show 1<=sizeLine;decide),λp1 n1=>?_⟩;have s1:=(aW.refl H).new (o:=.lst [.int 0]) n1;refine⟨o,_,rfl,.inr (dA.of (s1 _ _ hm.2)),λp2 n2=>?_⟩;have s2:=s1.new (o:=.lst (ns.map V.int)) (s1.free n2);have e12:p1≠p2:=λe=>by subst e;rw[aE] at n2;cases n2
  refine⟨p1,p2,_,_,rfl,rfl,by rw[aP e12,aE],aE,bI (bU (by simp;lia)),λp3 n3=>?_⟩;have s3:=s2.new (o:=.lst ([.int 0]++ns.map V.int)) (s2.free n3);refine⟨o,_,rfl,.inr (dA.of (s3 _ _ hm.2)),(by show 1<=sizeLine;decide),λp4 n4=>?_⟩;have s4:=s3.new (o:=.lst [.int (((ns.map V.int).length:Int)+1)]) (s3.free n4);have e34:p3≠p4:=λe=>by subst e;rw[aE] at n4;cases n4
  refine⟨p3,p4,_,_,rfl,rfl,by rw[aP e34,aE],aE,bI (bU (by simp;lia)),λp5 n5=>?_⟩;have s5:=s4.new (o:=.lst ([.int 0]++ns.map V.int++[.int (((ns.map V.int).length:Int)+1)])) (s4.free n5);refine q p5 _ (s4.free n5) s5 ?_;rw[aE];simp[dS]
def vE (B:qq mg) (E:Fn K mg "bows_of" iB ["maze"]) (KZ:iM P w K mg base 2 "side_of_step" eO ["maze","step"] sP) (Ka:iM P w K mg base 1 "rows_of_way" fG ["maze"] zf):iM P w K mg base 3 "bows_of" iB ["maze"] oT:=E.mk' λf fd F=>by
 refine F.okS jH (λvs H Q E h=>?_) (λcdv A outer s H vs Q E hr h=>?_)
 ·obtain⟨m,o,b,ns,rfl,_⟩:=h;rfl
 ·obtain⟨m,o,b,ns,rfl,hm,O,q⟩:=h;have hlen:=O.len;refine⟨[some (.ref m),none,none,none,none],_,rfl,(L2.jr.h (aM (am (i:=1) jH.nd rfl (Or.inl rfl) (bS Ka (hr.mono (by decide)) (by rfl) (aF (a9 0) aC)))
   (aM (am (i:=2) jH.nd rfl (Or.inl rfl) (AI (qN bM (bZ aC) (qN bM (bZ aC) AF)) rfl rfl (λz=>nomatch z) (by decide)))
   (aM (f9 bX rfl (jJ (by rfl) B.range (bY (aX jL (aY bV (by rfl) B.len aZ (aF (a9 1) aC)) aG) aC)) (cI (i:=3) jH.nd rfl (Or.inl rfl))
   (aM (am (i:=4) jH.nd rfl (Or.inl rfl) (cN jj (by rfl) B.tuple cu (ci (aY nQ (by rfl) B.sorted eB (ar (eP kU (a9 1) (fA (a9 3)) (fA (aX dJ (a9 3) aG))) aC)) aC)))
    (aS (gZ (kZ bi ck cj jF (lH (vQ hr) (a9 2) (bS KZ (hr.mono (by decide)) (by rfl) (aF (a9 0) (aF (a9 3) aC))) (λ_ _=>rfl)) (aF (a9 4) aC))))))
   (aS (bH (cT (ci (aY kF (by rfl) B.sorted eB (ar (lH (vQ hr) (a9 2) bM (λ_ _=>rfl)) aC)) (ci (aY kF (by rfl) B.sorted eB (ar (lH (vQ hr) (a9 2) bM (λ_ _=>rfl)) aC)) aC))))))))),?_⟩
  nofun;refine⟨m,o,b,ns,rfl,hm,by lia,λrl H1 nrl s1 hrl=>?_⟩;nofun;intro d nd;have sd1:=s1.new (o:=.dK []) (s1.free nd);refine⟨bO _,λl1 nl1=>?_⟩;have edl:d≠l1:=λe=>by subst e;rw[aE] at nl1;cases nl1
  have sl1:=sd1.new (o:=.lst []) (sd1.free nl1);refine⟨bO _,λr1 nr1=>?_⟩;have edr:d≠r1:=λe=>by subst e;rw[aP edl,aE] at nr1;cases nr1
  have elr:l1≠r1:=λe=>by subst e;rw[aE] at nr1;cases nr1
  have sr1:=sl1.new (o:=.lst []) (sl1.free nr1);refine⟨by rw[aP edr,aP edl,aE],[(.inr (Str.ofString "l"),.ref l1),(.inr (Str.ofString "r"),.ref r1)],rfl,(by show 2<=15;decide),?_⟩;have fd0:H d=none:=s1.free nd;have fl0:H l1=none:=sd1.free nl1;have fr0:H r1=none:=sl1.free nr1;have erl:rl≠d:=bJ hrl nd;have erl1:rl≠l1:=bJ (((aW.refl H1).new (o:=.dK []) nd) _ _ hrl) nl1;have erl2:rl≠r1:=bJ ((((aW.refl H1).new (o:=.dK []) nd).new (o:=.lst []) (((aW.refl H1).new (o:=.dK []) nd).free nl1)) _ _ hrl) nr1;generalize hkv:mK [] [((.inr (Str.ofString "l"):Key),V.ref l1),(.inr (Str.ofString "r"),.ref r1)]=kvs;have kl:i9 kvs (.inr (Str.ofString "l"))=some (.ref l1):=by subst hkv;rfl
  have kr:i9 kvs (.inr (Str.ofString "r"))=some (.ref r1):=by subst hkv;rfl
  have ks:∀s:Bool,i9 kvs (.inr (sd s))=some (.ref (if s then r1 else l1)):=λs=>by cases s;exact kl;exact kr
  refine⟨_,.inl (ce.of (by rw[aP erl,aP erl2,aP erl1,aP erl];exact hrl)),by rw[aD,gR];lia,by rw[aD,gR];lia,?_⟩;have eN:(((dS ns).map V.int).length - 1:Int).toNat=ns.length+1:=by rw[aD,gR];lia
  rw[eN];refine iF (n:=ns.length+1) (λi σ H2=>∃(x3 x4:Option V),σ=[some (.ref m),some (.ref rl),some (.ref d),x3,x4]/\aW H H2/\H2 rl=some (.lst ((dS ns).map V.int))/\H2 d=some (.dK kvs)/\ez H2 l1 (ac b ns false i)/\ez H2 r1 (ac b ns true i))
   ⟨none,none,rfl,sr1.new fd0,by rw[aP erl,aP erl2,aP erl1,aP erl];exact hrl,aE,⟨[],by rw[aP edl.symm,aP elr,aE];rfl,.nil⟩,⟨[],by rw[aP edr.symm,aE];rfl,.nil⟩⟩ ?_ ?_
  ·rintro i σ H2 hi ⟨x3,x4,rfl,sm,hrl2,hd2,bl,br⟩;nofun;refine⟨rl,_,rfl,ce.of hrl2,λp1 n1=>?_⟩;rw[DH (by lia)];have t1:=(aW.refl H2).new (o:=.lst ([ao ns i,ao ns (i+1)].map V.int)) n1;refine⟨p1,_,rfl,ce.of aE,(by show 2<64;decide),λp2 ms n2 hp hs=>?_⟩;rw[uU hp hs];have t2:=t1.new (o:=.lst ([min (ao ns i) (ao ns (i+1)),max (ao ns i) (ao ns (i+1))].map V.int)) (t1.free n2);refine⟨p2,_,rfl,.inl ⟨ce.of aE,λt n3=>?_⟩⟩;have t3:=t2.new (o:=.tup ([min (ao ns i) (ao ns (i+1)),max (ao ns i) (ao ns (i+1))].map V.int)) (t2.free n3);have sm3:=sm.trans t3;refine⟨m,o,b,ns,i,by simp,hm.same sm3,?_⟩;have bl3:=bl.same t3;have br3:=br.same t3;refine⟨_,.inl ⟨kvs,.inr (sd (b ^^ odd i)),.inl (t3 _ _ hd2),rfl,(ks _).symm⟩,?_⟩;have tt:eV (bW (bW (bW H2 p1 (.lst ([ao ns i,ao ns (i+1)].map V.int))) p2 (.lst ([min (ao ns i) (ao ns (i+1)),max (ao ns i) (ao ns (i+1))].map V.int))) t (.tup ([min (ao ns i) (ao ns (i+1)),max (ao ns i) (ao ns (i+1))].map V.int))) t (fx ns i):=aE;generalize bW (bW (bW H2 p1 (.lst ([ao ns i,ao ns (i+1)].map V.int))) p2 (.lst ([min (ao ns i) (ao ns (i+1)),max (ao ns i) (ao ns (i+1))].map V.int))) t (.tup ([min (ao ns i) (ao ns (i+1)),max (ao ns i) (ao ns (i+1))].map V.int))=H3 at *;cases hs:(b ^^ odd i) with
   | false=>
    have h1:cH b false i=true:=by simp[cH,hs]
    have h2:cH b true i=false:=by simp[cH,hs]
    rw[m5 h1,nY h2];obtain⟨as,b1,b2⟩:=bl3;have ha:as.length=(ac b ns false i).length:=dB b2;have:=gX b ns false i;refine⟨lC b1,l1,as.map V.ref,_,rfl,rfl,b1,by rw[aD];exact bU (by lia),_,_,rfl,sm3.new fl0,by rw[aP erl1];exact t3 _ _ hrl2,by rw[aP edl];exact t3 _ _ hd2,qf b1 b2 tt,uH br3 b1 elr.symm⟩
   | true=>
    have h1:cH b true i=true:=by simp[cH,hs]
    have h2:cH b false i=false:=by simp[cH,hs]
    rw[m5 h1,nY h2];obtain⟨as,b1,b2⟩:=br3;have ha:as.length=(ac b ns true i).length:=dB b2;have:=gX b ns true i;refine⟨lC b1,r1,as.map V.ref,_,rfl,rfl,b1,by rw[aD];exact bU (by lia),_,_,rfl,sm3.new fr0,by rw[aP erl2];exact t3 _ _ hrl2,by rw[aP edr];exact t3 _ _ hd2,uH bl3 b1 elr,qf b1 b2 tt⟩
  ·rintro σ H2 ⟨x3,x4,rfl,sm,hrl2,hd2,bl,br⟩;nofun;have bnd:∀s,∀p∈ac b ns s (ns.length+1),0<=p.2/\p.2<1000:=λs p hp=>by
    obtain⟨i,hi,_,rfl⟩:=jv hp;have:=O.step_in (i:=i) (by lia);have:=O.step_lt (i:=i) (by lia);lia
   obtain⟨as,b1,b2⟩:=bl;have:=gX b ns false (ns.length+1);refine⟨_,.inl ⟨kvs,.inr (Str.ofString "l"),.inl hd2,rfl,kl.symm⟩,l1,as,_,rfl,ce.of b1,b2,by lia,bnd false,λl as' L nl hP hp hs=>?_⟩;have t1:=(aW.refl H2).new (o:=.lst (as'.map V.ref)) nl;obtain⟨bs,c1,c2⟩:=br.same t1;have:=gX b ns true (ns.length+1);refine⟨_,.inl ⟨kvs,.inr (Str.ofString "r"),.inl (t1 _ _ hd2),rfl,kr.symm⟩,r1,bs,_,rfl,ce.of c1,c2,by lia,bnd true,λr bs' R nr hP2 hp2 hs2=>?_⟩;have t2:=(aW.refl (bW H2 l (.lst (as'.map V.ref)))).new (o:=.lst (bs'.map V.ref)) nr;refine⟨(by show 2<=sizeLine;decide),λt nt=>?_⟩;have t3:=(aW.refl (bW (bW H2 l (.lst (as'.map V.ref))) r (.lst (bs'.map V.ref)))).new (o:=.tup [.ref l,.ref r]) nt;have elr2:l≠r:=λe=>by subst e;rw[aE] at nr;cases nr
   refine q t l r L R _ (sm.free (t1.free (t2.free nt))) (sm.free nl) (sm.free (t1.free nr)) (((sm.trans t1).trans t2).trans t3) ⟨aE,?_,?_,⟨hp,hs⟩,⟨hp2,hs2⟩,elr2⟩
   ·exact((qh (l:=l) hP nl).same t2).same t3
   ·exact(qh (l:=r) hP2 nr).same t3
def vA (B:qq mg) (LS:∃a,mg "SIDES"=some (.ref a)/\∀H,dA K H a (([("l":Str),"r"]:List Str).map V.str)) (E:Fn K mg "crossed" jB ["maze"]) (KW:iM P w K mg base 3 "bows_of" iB ["maze"] oT) (LZ:iM P w K mg base 1 "crossing" iA ["bows"] oS):iM P w K mg base 4 "crossed" jB ["maze"] qF:=E.mk' λf fd F=>by
 refine F.okS kX (λvs H Q E h=>?_) (λcdv A outer s H vs Q E hr h=>?_)
 ·obtain⟨m,o,b,ns,rfl,_⟩:=h;rfl
 ·obtain⟨m,o,b,ns,rfl,hm,O,qn,qc⟩:=h;refine⟨[some (.ref m),none,none,none],_,rfl,(L2.jr.h (aM (f9 bX rfl (AG (by rfl) B.zip (aF (qO (by rfl) LS) (ci (bS KW (hr.mono (by decide)) (by rfl) (aF (a9 0) aC)) aC))) (oH (n:=2) rfl (gS (cI (i:=1) kX.nd rfl (Or.inl rfl)) (gS (cI (i:=2) kX.nd rfl (Or.inl rfl)) m9)))
   (aM (am (i:=3) kX.nd rfl (Or.inl rfl) (bS LZ (hr.mono (by decide)) (by rfl) (aF (a9 2) aC)))
    (aS (cz (bK w5 (a9 3) ig (bb _))
    (aS (bH (cT (aF (a9 1) (ar (au eZ (a9 3) aG (λ_ _=>rfl)) (ar (au eZ (a9 3) aG (λ_ _=>rfl)) aC))))))
    bu))))
   (aS (bH ig)))),?_⟩
  nofun;intro a ha;refine⟨m,o,b,ns,rfl,hm,O,λt l r L R H1 nt nl nr s1 BO=>⟨a,t,rfl,⟨_,ha _⟩,⟨_,dA.of BO.tup⟩,?_⟩⟩;refine BG (xs:=[V.str (sd false),.str (sd true)]) (ys:=[.ref l,.ref r]) (aH _) (λi σ H'=>∃x1 x2 x3:Option V,σ=[some (.ref m),x1,x2,x3]/\aW H1 H'/\∀u:Bool,(if u then 2 else 1)<=i->∀p∈ac b ns u (ns.length+1),∀q∈ac b ns u (ns.length+1),df p q=false)
   ⟨_,_,_,rfl,aW.refl _,λu hu=>by cases u<;>simp at hu⟩ (λi σ H' ⟨_,_,_,_,s2,_⟩=>⟨ha _,dA.of (s2 _ _ BO.tup)⟩) ?_ ?_
  ·rintro i x y σ H2 p hx hy ⟨x1,x2,x3,rfl,s2,hn⟩ np;obtain⟨u,lu,S,rfl,rfl,hBS,hS,hi⟩:∃(u:Bool) (lu:Addr) (S:List Bw),x=.str (sd u)/\y=.ref lu/\ez H2 lu S/\pQ b ns u S/\i+1=(if u then 2 else 1):=by
    match i,hx,hy with
    | 0,hx,hy=>cases hx;cases hy;exact⟨false,l,L,rfl,rfl,BO.left.same s2,BO.isL,rfl⟩
    | 1,hx,hy=>cases hx;cases hy;exact⟨true,r,R,rfl,rfl,BO.right.same s2,BO.isR,rfl⟩
    | j+2,hx,hy=>simp at hx
   nofun;refine⟨_,dA.of aE,rfl,?_⟩;have s3:=(aW.refl H2).new (o:=.tup [.str (sd u),.ref lu]) np;nofun;refine⟨lu,S,rfl,hBS.same s3,λhc=>⟨trivial,?_⟩,λe1 h1 e2 h2 z t2 a2 b2 H3 nt2 s4 ht2 ta tb=>⟨trivial,?_⟩⟩
   ·nofun;refine ji (λz=>z trivial) ⟨_,_,_,rfl,s2.trans s3,λv hv=>?_⟩;by_cases e:v=u
    ·subst e;exact λp hp q hq=>hc p (hS.perm.mem_iff.mpr hp) q (hS.perm.mem_iff.mpr hq)
    ·refine hn v ?_;cases u<;>cases v<;>simp_all
   ·nofun;refine mT (λz=>nomatch z) ⟨_,_,dA.of ht2,rfl,_,_,dA.of ht2,rfl,(by show 3<=sizeLine;decide),λt3 nt3=>?_⟩;have s5:=(aW.refl H3).new (o:=.tup [.str (sd u),.ref a2,.ref b2]) nt3;exact qc u e1 (hS.perm.mem_iff.mp h1) e2 (hS.perm.mem_iff.mp h2) z t3 _ ((((s1.trans s2).trans s3).trans s4).trans s5) ⟨a2,b2,aE,s5 _ _ ta,s5 _ _ tb⟩
  ·rintro σ H2 ⟨x1,x2,x3,rfl,s2,hn⟩;nofun;exact qn (λu=>hn u (by cases u<;>decide)) _ (s1.trans s2)
def oi {R C fi:Addr} {fd:FuncData} {bmB:List Value} {B newId initId:String} (O:nT "Crossed" C fi bmB newId mg base) (F0:ExcBaseFacts B newId initId bmB) (u:Ii K R initId) (hR:mg "RingError"=some (.ref R)) (k:DU K C "bows") (F:sE K "__init__" "Crossed.__init__" fI fi fd) :
  lU P w K mg base uS 1 fi fd ["self","bows"] (wJ C "bows" Cm):=by
 refine F.okS oW (λvs H Q E h=>?_) (λcdv A outer s H vs Q E hr h=>?_)
 ·obtain⟨e,v,rfl,_⟩:=h;rfl
 ·obtain⟨e,v,rfl,ok,he,q⟩:=h;refine⟨[some (.ref e),some v],_,rfl,(L2.jr.h (aM (gZ (xZ F0 O hR u (by rfl) (o9 (a9 0) (o9 (CN hr bM (a9 1)) aC)))) (aS (AE k (a9 0) (a9 1))))),?_⟩;nofun;exact⟨by decide +kernel,ok,λz=>⟨e,_,rfl,he,he,λdx nd ne=>q dx nd ne⟩⟩
def FQ {J1 p7:Addr} (Lf:Fv P w K mg base 1 "Crossed" p7 "bows" Cm) (MB:OwnCls "NoMaze" J1 [.type "ValueError",.type "Exception",.type "BaseException",.type "object"] "ValueError.__new__" mg base) (E:Fn K mg "vet" qK ["maze"]) (Lg:iM P w K mg base 3 "is_maze" iz ["thing"] sU) (Lh:iM P w K mg base 4 "crossed" jB ["maze"] qF):uO P w K mg base 5 "vet" qK ["maze"] (ze J1 p7):=E.mkX λf fd F=>by
 refine F.okX zq (λvs H Q E h=>?_) (λcdv A outer s H vs Q E hr h=>?_)
 ·obtain⟨x,d,rfl,_⟩:=h;rfl
 ·obtain⟨x,d,rfl,hd,pl,h⟩:=h;refine⟨[some x,none],_,rfl,(L2.jr.h (aM (cz (wZ (kY (f7 (bS Lg (hr.mono (by decide)) (by rfl) (aF (a9 0) aC)))))
   (aS (xX zx MB fW rfl (by rfl) (aU bM aC)))
   bu)
   (aM (l4 (am (i:=1) zq.nd rfl (Or.inl rfl) (bS Lh (hr.mono (by decide)) (by rfl) (aF (a9 0) aC))))
   (aM (cz (wZ (bK w5 (a9 1) ig (bb _)))
   (aS (uh xU Lf (hr.mono (by lia)) (by rfl) (aF (a9 1) aC)))
   bu)
   (aS (l4 (bH gJ))))))),?_⟩
  nofun;refine⟨x,d,rfl,hd,pl,λH1 s1=>?_⟩;rcases h with ⟨hf,q⟩ | ⟨m,o,b,ns,rfl,hm,rfl,O,q,qc⟩
  ·rw[hf];nofun;exact⟨(by show 1<=sizeLine;decide),q _ s1⟩
  ·rw[FX O];nofun;refine⟨m,o,b,ns,rfl,hm.same s1,O,λnc H2 s2=>⟨trivial,?_⟩,λu p hp q' hq z t H2 s2 ct=>⟨trivial,?_⟩⟩
   ·nofun;exact ji (λz=>z trivial) (q nc _ (s1.trans s2))
   ·nofun;refine mT (λz=>nomatch z) ⟨_,rfl,ct.ok O hp hq,λdx nd=>?_⟩;exact qc u p hp q' hq z t dx _ ((s1.trans s2).trans ((aW.refl _).new nd)) (ct.same ((aW.refl _).new nd)) aE
def rN (E:Fn K mg "letter_of" gP ["left_inwards","right_inwards"]):iM P w K mg base 1 "letter_of" gP ["left_inwards","right_inwards"] wG:=E.mk' λf fd F=>by
 refine F.okS rD (λvs H Q E h=>?_) (λcdv A outer s H vs Q E hr h=>?_)
 ·obtain⟨l,r,rfl,_⟩:=h;rfl
 ·obtain⟨l,r,rfl,q⟩:=h;refine⟨[some (.bl l),some (.bl r)],_,rfl,(L2.jr.h (aM (cz (f7 (a9 0))
   (aS (bH (jx (f7 (a9 1)) bM bM)))
   bu)
   (aS (bH (jx (f7 (a9 1)) bM bM))))),?_⟩
  nofun;rw[Hr,Hq,Ho,IQ];cases l<;>cases r<;>exact q
def Ah {J1 p7:Addr} (B:qq mg) (E:Fn K mg "coded" lZ ["maze"]) (OD:uO P w K mg base 5 "vet" qK ["maze"] (ze J1 p7)) (KW:iM P w K mg base 3 "bows_of" iB ["maze"] oT) (LG:iM P w K mg base 1 "letter_of" gP ["left_inwards","right_inwards"] wG):uO P w K mg base 6 "coded" lZ ["maze"] (wL J1 p7):=E.mkX λf fd F=>by
 refine F.okX m6 (λvs H Q E h=>?_) (λcdv A outer s H vs Q E hr h=>?_)
 ·obtain⟨x,d,rfl,_⟩:=h;rfl
 ·obtain⟨x,d,rfl,hd,pl,h⟩:=h;refine⟨[some x,none,none,none],_,rfl,(L2.jr.h (aM (gZ (uk OD (hr.mono (by decide)) (by rfl) (aF (a9 0) aC)))
   (aM (l4 (am (i:=1) m6.nd rfl (Or.inl rfl) (bS KW (hr.mono (by decide)) (by rfl) (aF (a9 0) aC))))
   (aM (l4 (am (i:=2) m6.nd rfl (Or.inr rfl) (jy (own:=["bow"]) (ns:=[]) (caps:=[]) rfl ⟨rfl,by decide +kernel,by decide +kernel,by decide +kernel⟩ .nil (iO (au eZ (a9 1) aG (λ_ _=>rfl))) (λC s H fp pn=>(cI (i:=0) (show List.Nodup ((["bow"]:List Str)++([]:List Str)) by decide +kernel) rfl (Or.inl rfl))) (λC s H fp pn=>l6) (λC s H fp pn=>(au (eJ (K:=K) rfl) (a9 0) aG (λ_ _=>rfl))))))
   (aM (l4 (am (i:=3) m6.nd rfl (Or.inr rfl) (jy (own:=["bow"]) (ns:=[]) (caps:=[]) rfl ⟨rfl,by decide +kernel,by decide +kernel,by decide +kernel⟩ .nil (iO (au eZ (a9 1) aG (λ_ _=>rfl))) (λC s H fp pn=>(cI (i:=0) (show List.Nodup ((["bow"]:List Str)++([]:List Str)) by decide +kernel) rfl (Or.inl rfl))) (λC s H fp pn=>l6) (λC s H fp pn=>(au (eJ (K:=K) rfl) (a9 0) aG (λ_ _=>rfl))))))
   (aS (l4 (bH (kZ PySem.F.plainAttrs_str PySem.F.slot_str_join PySem.F.type_str_join Cq bM (ii (jy (own:=["ring"]) (ns:=["lefts","rights"]) (caps:=[2,3]) rfl ⟨rfl,by decide +kernel,by decide +kernel,by decide +kernel⟩ (.cons rfl rfl (.inl rfl) (.cons rfl rfl (.inl rfl) .nil)) (mH (by rfl) B.range (aU aG (bY (aX dJ (aY bV (by rfl) B.len aZ (ar (au eZ (a9 0) aG (λ_ _=>rfl)) aC)) aG) aC))) (λC s H fp pn=>(cI (i:=0) (show List.Nodup ((["ring"]:List Str)++(["lefts","rights"]:List Str)) by decide +kernel) rfl (Or.inl rfl))) (λC s H fp pn=>l6) (λC s H fp pn=>(bS LG (hr.mono (by decide)) (by rfl) (dh (dU (w6 (K:=K) rfl (pG hr)) (a9 0) (a9 1) (by with_unfolding_all rfl)) (dh (dU (w6 (K:=K) rfl (pG hr)) (a9 0) (a9 2) (by with_unfolding_all rfl)) aC))))) aC)))))))))),?_⟩
  nofun;refine⟨x,d,rfl,hd,pl,?_⟩;rcases h with ⟨hf,q⟩ | ⟨m,o,b,ns,rfl,hm,rfl,O,q,qc⟩
  ·exact .inl ⟨hf,q⟩
  refine .inr ⟨m,o,b,ns,rfl,hm,rfl,O,λnc H1 s1=>?_,qc⟩;have q:=q nc;have hm1:=hm.same s1;have nlen:=O.len;nofun;refine⟨m,o,b,ns,rfl,hm1,O,λt l r L R H2 nt nl nr s2 BO=>?_⟩;have lL:=BO.isL.len O;have lR:=BO.isR.len O;obtain⟨as,b1,bl,bg⟩:=BO.left.get;obtain⟨bs,c1,cl,cg⟩:=BO.right.get;refine⟨t,_,0,_,rfl,rfl,dA.of BO.tup,rfl,l,rfl,⟨_,ce.of b1⟩,?_⟩;refine q9 (ce.of b1) (by rw[aD];exact bI (bU (by lia))) ((L.map (·.1)).map V.int) (by simp[bl]) (λi x y Q' hx hy hq=>?_) λp3 n3=>?_
  ·obtain⟨a,p,rfl,hp,ta⟩:=bg i x hx;rw[ai,ai,hp] at hy;cases hy;nofun;exact⟨_,_,dA.of ta,rfl,hq⟩
  have s3:=(aW.refl H2).new (o:=.lst ((L.map (·.1)).map V.int)) n3;have h3:bW H2 p3 (.lst ((L.map (·.1)).map V.int)) p3=some (.lst ((L.map (·.1)).map V.int)):=aE;generalize bW H2 p3 (.lst ((L.map (·.1)).map V.int))=H3 at s3 h3 ⊢;refine⟨t,_,1,_,rfl,rfl,dA.of (s3 _ _ BO.tup),rfl,r,rfl,⟨_,ce.of (s3 _ _ c1)⟩,?_⟩;refine q9 (ce.of (s3 _ _ c1)) (by rw[aD];exact bI (bU (by lia))) ((R.map (·.1)).map V.int) (by simp[cl]) (λi x y Q' hx hy hq=>?_) λp4 n4=>?_
  ·obtain⟨a,p,rfl,hp,ta⟩:=cg i x hx;rw[ai,ai,hp] at hy;cases hy;nofun;exact⟨_,_,dA.of (s3 _ _ ta),rfl,hq⟩
  have s4:=(aW.refl H3).new (o:=.lst ((R.map (·.1)).map V.int)) n4;have h4:bW H3 p4 (.lst ((R.map (·.1)).map V.int)) p4=some (.lst ((R.map (·.1)).map V.int)):=aE;generalize bW H3 p4 (.lst ((R.map (·.1)).map V.int))=H4 at s4 h4 ⊢;have h34:=s4 _ _ h3;have s14:=s2.trans (s3.trans s4);have hm4:=hm1.same s14;refine⟨rfl,_,_,dA.of hm4.1,rfl,o,_,rfl,.inr (dA.of hm4.2),?_⟩;rw[aD,show ((ns.length:Int)+1 - 1).toNat=ns.length by lia];refine⟨⟨by decide,by decide,by lia,by lia⟩,?_⟩;refine yZ (bI (bU (by lia))) (((ip b ns).map λc=>(⟨#[c]⟩:Str)).map V.str) (by simp[ip]) (λi y Q' hi hy hq=>?_) λp5 n5=>?_
  ·nofun;refine wf (.inl (ce.of h34)) (wf (.inl (ce.of h4)) ⟨_,_,rfl,?_⟩);rw[PV (by decide),PV (by decide)];have e:((ip b ns).map λc=>(⟨#[c]⟩:Str))[i]? = some (tx [rS (decide ((1:Int)+i∈L.map (·.1))) (decide ((1:Int)+i∈R.map (·.1)))]):=by
    have e1:((i+1:Nat):Int)=1+i:=by lia
    rw[ai];unfold ip;rw[ai,List.getElem?_range hi];simp only[gC];rw[e1,decide_eq_decide.mpr (BO.isL.perm.map (·.1)).symm.mem_iff,decide_eq_decide.mpr (BO.isR.perm.map (·.1)).symm.mem_iff];rfl
   rw[ai,e] at hy;cases hy;exact hq
  ·refine⟨_,p5,(ip b ns).map λc=>(⟨#[c]⟩:Str),rfl,rfl,ce.of aE,xG (by unfold ip;rw[aD,j8];lia),?_⟩;rw[Br];exact q _ (s1.trans (s14.trans ((aW.refl _).new n5)))
def vD (B:qq mg) (E:Fn K mg "_law_cell_at" jE ["_law_script","_law_k"]):iM P w K mg base 1 "_law_cell_at" jE ["_law_script","_law_k"] (wN K):=E.mk' λf fd F=>by
 refine F.okS ud (λvs H Q E h=>?_) (λcdv A outer s H vs Q E hr h=>?_)
 ·obtain⟨a,ns,k,rfl,_⟩:=h;rfl
 ·obtain⟨a,ns,k,rfl,hS,q⟩:=h;refine⟨[some (.ref a),some (.int k)],_,rfl,(L2.jr.h (aM (cz (bK gp (a9 1) (aY bV (by rfl) B.len aZ (aF (a9 0) aC)) (bb _))
   (aS (bH (au cQ (a9 0) (a9 1) (λ_ _=>rfl))))
   bu)
   (aS (bH (aX dJ (aX mJ aG (a9 1)) aG))))),?_⟩
  nofun;refine⟨_,.inl hS,?_⟩;rw[aD];refine k8 (λh=>?_) (λh=>?_)
  ·have hk:k<ns.length:=by lia
   refine⟨_,.int (ns.getD k 0),hS,iq ?_,q _⟩;simp[ai,hk]
  ·exact⟨.inl ⟨by decide,by decide⟩,q _⟩
def Af (E:Fn K mg "_law_mixed" lX ["_law_cell"]):iM P w K mg base 1 "_law_mixed" lX ["_law_cell"] sQ:=E.mk' λf fd F=>by
 refine F.okS sX (λvs H Q E h=>?_) (λcdv A outer s H vs Q E hr h=>?_)
 ·obtain⟨n,rfl,_⟩:=h;rfl
 ·obtain⟨n,rfl,q⟩:=h;refine⟨[some (.int n),none],_,rfl,(L2.jr.h (aM (am (i:=1) sX.nd rfl (Or.inl rfl) (aX gK (aX mJ (aX dJ (aX gK (a9 0) (aX uv aG aG)) aG) aG) (aX jL (aX uv aG aG) aG)))
   (aS (bH (aX gB (aX gK (aX mJ (a9 1) aG) (aX jL (aX uv aG aG) aG)) aG))))),?_⟩
  nofun;refine⟨⟨by decide,by decide,by decide⟩,by decide,.inr ⟨by decide,by decide⟩,⟨by decide,by decide,by decide⟩,by decide,.inr ⟨by decide,by decide⟩,⟨by decide,by decide,by decide⟩,by decide,⟨by decide,by decide⟩,?_⟩;have e:((2:Int) ^ Int.toNat 61 - 1)=2305843009213693951:=by decide
  rw[e];refine q _ ?_ ?_<;>lia
def uw (E:Fn K mg "_law_rest_of" iw ["_law_cell"]) (MA:iM P w K mg base 1 "_law_mixed" lX ["_law_cell"] sQ):iM P w K mg base 2 "_law_rest_of" iw ["_law_cell"] wC:=E.mk' λf fd F=>by
 refine F.okS mG (λvs H Q E h=>?_) (λcdv A outer s H vs Q E hr h=>?_)
 ·obtain⟨n,rfl,_⟩:=h;rfl
 ·obtain⟨n,rfl,q⟩:=h;refine⟨[some (.int n),none],_,rfl,(L2.jr.h (aM (cz (bK gT (aX gK (a9 0) aG) aG (bb _))
   (aS (bH (bS MA (hr.mono (by decide)) (by rfl) (bY (aX gB (a9 0) aG) aC))))
   bu)
   (aM (am (i:=1) mG.nd rfl (Or.inl rfl) aG)
   (aM (nJ bX (bK De (a9 1) (aX gB (a9 0) aG) (bb _))
   (aS (am (i:=1) mG.nd rfl (Or.inl rfl) (aX mJ aG (a9 1)))))
   (aS (bH (aX dJ (aX gB (a9 0) aG) (aX mJ (a9 1) (bS MA (hr.mono (by decide)) (by rfl) (bY (aX gB (a9 0) aG) aC)))))))))),?_⟩
  nofun;refine⟨by decide,k8 (λh=>⟨⟨by decide,by decide⟩,_,rfl,λm _ _=>q m⟩) (λh=>?_)⟩;refine⟨λm σ H3=>∃t:Int,σ=[some (.int n),some (.int t)]/\1<=t/\m=(n / 2+1-t).toNat/\H3=H,⟨_,1,rfl,by decide,rfl,rfl⟩,?_⟩;rintro m σ H3 ⟨t,rfl,ht,rfl,rfl⟩;nofun;refine⟨⟨by decide,by decide⟩,k8 (λh=>?_) (λh=>?_)⟩
  ·refine⟨_,λ_ _ z=>z,.inl ⟨by decide,by decide⟩,_,?_,4*t,rfl,by lia,rfl,rfl⟩;lia
  ·refine⟨⟨by decide,by decide⟩,⟨by decide,by decide⟩,_,rfl,λm h1 h2=>?_⟩;nofun;exact⟨.inr ⟨by lia,by lia⟩,q _⟩
def wz{H:Hp}{a0:Addr}{ns:List Int}{lo hi:Int}{Q:VK}(h:H a0=some (.lst (ns.map V.int)))(hl:ns.length<=900)(q:∀p H',aW H H'->H' p=some (.lst ((ns.map (rn lo hi)).map V.int))->Q (.ref p) H'):
  jc (Bf K a0) (mB 0) nV (zW (CG K) (Bu (eE (oP 0) (eE (oP 1) zY))) (GA (λxs H Q=>(∃i,xs=[V.int i]/\Q (V.int i) H)\/∃k,xs=[V.bl k]/\Q (V.int (if k=true then 1 else 0)) H) (eE (zW Gk (oP 0) (oP 2)) zY))) Q [none,some (V.int lo),some (V.int hi)] H:=by
 refine y0 (xs:=ns.map V.int) (λi ys σ H'=>aW H H'/\ys=((ns.take i).map (rn lo hi)).map V.int/\∃x0,σ=[x0,some (V.int lo),some (V.int hi)]) ⟨aW.refl _,by simp,_,rfl⟩ ?_ (by rw[aD];exact wQ hl) ?_ ?_
 ·rintro i ys σ H' ⟨sm,rfl,_⟩;exact⟨ce.of (sm _ _ h),by simp;lia⟩
 ·rintro i x ys σ H' N hx ⟨sm,rfl,x0,rfl⟩ hN;obtain⟨v,hv,rfl⟩:=rW hx;have etk:ns.take (i+1)=ns.take i++[v]:=by rw[dZ,hv];rfl
  nofun;refine⟨(by show 2<=sizeLine;decide),λp np=>⟨_,V.int (rn lo hi v),ce.of aE,?_,hN _ _ _ ⟨sm.trans ((aW.refl _).new np),?_,_,rfl⟩⟩⟩
  ·unfold rn;by_cases e:v=hi
   ·rw[PX e,PX e];rfl
   ·rw[PV e,PV e];rfl
  ·rw[etk];simp
 ·rintro ys σ H' p ⟨sm,rfl,_⟩ np;have eL:(ns.map V.int).length=ns.length:=aD ..;rw[eL,dm];exact q p _ (sm.trans ((aW.refl _).new np)) aE
def HD (B:qq mg) (E:Fn K mg "_law_go" xP ["_law_ends","_law_letter"]):iM P w K mg base 1 "_law_go" xP ["_law_ends","_law_letter"] Gd:=E.mk' λf fd F=>by
 refine F.okS qJ (λvs H Q E h=>?_) (λcdv A outer s H vs Q E hr h=>?_)
 ·obtain⟨a,L,R,c,rfl,_⟩:=h;rfl
 ·obtain⟨a,L,R,c,rfl,⟨l,r,ha,hL,hR⟩,hc,EE,hl,q⟩:=h;have two:(2:Nat)<=sizeLine:=by decide
  have one:(1:Nat)<=sizeLine:=by decide
  refine⟨[some (.ref a),some (.str ⟨#[c]⟩),none,none,none,none,none],_,rfl,(L2.jr.h (aM (CK (a9 0) (oH (n:=2) rfl (gS (cI (i:=2) qJ.nd rfl (Or.inl rfl)) (gS (cI (i:=3) qJ.nd rfl (Or.inl rfl)) m9))))
   (aM (cz (bK gT (a9 1) bM (bb _))
   (aM (am (i:=4) qJ.nd rfl (Or.inl rfl) (aX dJ aG (aY (v5 rfl) (by rfl) B.max fK (bY (aX ft (a9 2) (a9 3)) aC))))
    (aS (bH (cT (bY (aX ft (a9 2) (bZ (aF (a9 4) aC))) (bY (aX ft (a9 3) (bZ (aF (a9 4) aC))) aC))))))
   bu)
   (aM (cz (QW.pt (l3 (bK gT (a9 1) bM (bb _)) (jw (bK tE (aY bV (by rfl) B.len aZ (aF (a9 3) aC)) aG (bb _)))))
   (aS (bH (cT (bY (aX ft (a9 2) (eP kU (a9 3) (fA (iW iU aG)) fy)) (ar (eP kU (a9 3) fy (fA (iW iU aG))) aC)))))
   bu)
   (aM (cz (QW.pt (l3 (bK gT (a9 1) bM (bb _)) (jw (bK tE (aY bV (by rfl) B.len aZ (aF (a9 2) aC)) aG (bb _)))))
   (aS (bH (cT (ar (eP kU (a9 2) fy (fA (iW iU aG))) (bY (aX ft (a9 3) (eP kU (a9 2) (fA (iW iU aG)) fy)) aC)))))
   bu)
   (aM (cz (QW.pt (iV (bK tD (a9 1) bM (bb _)) (iV (bK gT (aY bV (by rfl) B.len aZ (aF (a9 2) aC)) aG (bb _)) (iV (bK gT (aY bV (by rfl) B.len aZ (aF (a9 3) aC)) aG (bb _)) (ie (bK gT (au cQ (a9 2) (iW iU aG) (λ_ _=>rfl)) (au cQ (a9 3) (iW iU aG) (λ_ _=>rfl)) (bb _)))))))
   (aS (bH ig))
   bu)
   (aM (am (i:=5) qJ.nd rfl (Or.inr rfl) (aY (qb rfl) (by rfl) B.min gq (ar (au cQ (a9 2) (iW iU aG) (λ_ _=>rfl)) (ar (au cQ (a9 3) (iW iU aG) (λ_ _=>rfl)) aC))))
   (aM (am (i:=6) qJ.nd rfl (Or.inr rfl) (aY (qd rfl) (by rfl) B.max fK (ar (au cQ (a9 2) (iW iU aG) (λ_ _=>rfl)) (ar (au cQ (a9 3) (iW iU aG) (λ_ _=>rfl)) aC))))
   (aS (bH (cT (ii (jy (own:=["_law_end"]) (ns:=["_law_low","_law_high"]) (caps:=[5,6]) rfl ⟨rfl,by decide +kernel,by decide +kernel,by decide +kernel⟩ (.cons rfl rfl (.inl rfl) (.cons rfl rfl (.inl rfl) .nil)) (iO (eP kU (a9 2) fy (fA (iW iU aG)))) (λC s H fp pn=>(cI (i:=0) (show List.Nodup ((["_law_end"]:List Str)++(["_law_low","_law_high"]:List Str)) by decide +kernel) rfl (Or.inl rfl))) (λC s H fp pn=>l6) (λC s H fp pn=>(au (kC (K:=K) rfl) (bZ (aF (a9 0) (aF (a9 1) aC))) (cN gU (by rfl) B.int cA (dh (dU gT (a9 0) (a9 2) (bb _)) aC)) (λ_ _=>rfl)))) (ii (jy (own:=["_law_end"]) (ns:=["_law_low","_law_high"]) (caps:=[5,6]) rfl ⟨rfl,by decide +kernel,by decide +kernel,by decide +kernel⟩ (.cons rfl rfl (.inl rfl) (.cons rfl rfl (.inl rfl) .nil)) (iO (eP kU (a9 3) fy (fA (iW iU aG)))) (λC s H fp pn=>(cI (i:=0) (show List.Nodup ((["_law_end"]:List Str)++(["_law_low","_law_high"]:List Str)) by decide +kernel) rfl (Or.inl rfl))) (λC s H fp pn=>l6) (λC s H fp pn=>(au (kC (K:=K) rfl) (bZ (aF (a9 0) (aF (a9 1) aC))) (cN gU (by rfl) B.int cA (dh (dU gT (a9 0) (a9 2) (bb _)) aC)) (λ_ _=>rfl)))) aC))))))))))))),?_⟩
  nofun;refine⟨_,dA.of ha,rfl,?_⟩;nofun;simp only[Hr,Hq,Ho,IQ,BM];rcases hc with rfl | rfl | rfl | rfl
  ·refine mT rfl (mq hL hR (by simp;lia) λp1 H1 n1 s1 h1=>?_);rw[<-a6] at h1;have z1:=EE.z1;have cl:=List.count_le_length (a:=(0:Int)) (l:=L++R.reverse);have nn:∀x∈L++R,0<=x:=λx hx=>EE.nn x (by simpa using hx);have hpos:0<(L++R).length:=by rw[z1] at cl;simp at cl ⊢;lia
   refine⟨p1,L++R,rfl,ce.of h1,hpos,λM hM hmx=>?_⟩;have eM:=HG hM (nn M hM) hmx;nofun;refine⟨one,λp2 n2=>?_⟩;have s2:=(aW.refl H1).new (o:=.lst [V.int (1+M)]) n2;refine mq ((s1.trans s2) _ _ hL) aE (by simp;lia) λp3 H3 n3 s3 h3=>⟨one,λp4 n4=>?_⟩
   have s4:=(aW.refl H3).new (o:=.lst [V.int (1+M)]) n4;have s04:=s1.trans (s2.trans (s3.trans s4));refine mq (s04 _ _ hR) aE (by simp;lia) λp5 H5 n5 s5 h5=>⟨two,λb nb=>?_⟩
   have s05:=s04.trans s5;rw[eM] at h3 h5;have h3':H5 p3=some (.lst ((L++[1+mx (L++R)]).map V.int)):=by rw[PQ];exact(s4.trans s5) _ _ h3
   have h5':H5 p5=some (.lst ((R++[1+mx (L++R)]).map V.int)):=by rw[PQ];exact h5
   exact q _ _ (s05.trans ((aW.refl _).new nb)) ⟨b,rfl,fM.new h3' h5' nb⟩
  ·refine ji (by decide) (mT rfl ⟨_,.inl (ce.of hR),?_⟩);by_cases hR0:R=[]
   ·subst hR0;rw[rf] at q;exact ji (by simp) (ji (by decide) (mT (by decide) (q _ _ (aW.refl _) rfl)))
   ·obtain⟨R',v,rfl⟩:=dY hR0;rw[tj] at q;have hR':=hR;rw[PQ] at hR';refine mT (by simp) (wR hR' λp1 H1 n1 s1 h1=>mq (s1 _ _ hL) h1 (by simp;simp at hl;lia) λp2 H2 n2 s2 h2=>oC ((s1.trans s2) _ _ hR') λp3 H3 n3 s3 h3=>⟨two,λb nb=>?_⟩);have h2':H3 p2=some (.lst ((L++[v]).map V.int)):=by rw[PQ];exact s3 _ _ h2
    exact q _ _ ((s1.trans (s2.trans s3)).trans ((aW.refl _).new nb)) ⟨b,rfl,fM.new h2' h3 nb⟩
  ·refine ji (by decide) (ji (by decide) (mT rfl ⟨_,.inl (ce.of hL),?_⟩));by_cases hL0:L=[]
   ·subst hL0;rw[rZ] at q;exact ji (by simp) (mT (by decide) (q _ _ (aW.refl _) rfl))
   ·obtain⟨L',v,rfl⟩:=dY hL0;rw[tZ] at q;have hL':=hL;rw[PQ] at hL';refine mT (by simp) (oC hL' λp1 H1 n1 s1 h1=>wR (s1 _ _ hL') λp2 H2 n2 s2 h2=>mq ((s1.trans s2) _ _ hR) h2 (by simp;simp at hl;lia) λp3 H3 n3 s3 h3=>⟨two,λb nb=>?_⟩);have h3':H3 p3=some (.lst ((R++[v]).map V.int)):=by rw[PQ];exact h3
    exact q _ _ ((s1.trans (s2.trans s3)).trans ((aW.refl _).new nb)) ⟨b,rfl,fM.new ((s2.trans s3) _ _ h1) h3' nb⟩
  ·refine ji (by decide) (ji (by decide) (ji (by decide) (ji (by decide) ⟨_,.inl (ce.of hL),?_⟩)));by_cases hL0:L=[]
   ·subst hL0;rw[rY] at q;exact mT rfl (q _ _ (aW.refl _) rfl)
   ·obtain⟨L',x,rfl⟩:=dY hL0;refine ji (by simp;lia) ⟨_,.inl (ce.of hR),?_⟩;by_cases hR0:R=[]
    ·subst hR0;rw[rX] at q;exact mT rfl (q _ _ (aW.refl _) rfl)
    ·obtain⟨R',y,rfl⟩:=dY hR0;rw[tY] at q;have hL':=hL;have hR':=hR;rw[PQ] at hL' hR';refine ji (by simp;lia) ⟨_,_,ce.of hL',jG,_,_,ce.of hR',jG,?_⟩;nofun;by_cases exy:x=y
     ·rw[PX exy] at q;exact mT exy (q _ _ (aW.refl _) rfl)
     ·rw[PV exy] at q;refine ji exy ⟨_,_,ce.of hL',jG,_,_,ce.of hR',jG,_,_,rfl,_,_,ce.of hL',jG,_,_,ce.of hR',jG,_,_,rfl,?_⟩;have e1:(if y<x then y else x)=min x y:=by rw[ja];split<;>split<;>lia
      have e2:(if y > x then y else x)=max x y:=by rw[jb];split<;>split<;>lia
      rw[e1,e2];nofun;simp at hl;refine oC hL' λp1 H1 n1 s1 h1=>⟨p1,rfl,⟨_,ce.of h1⟩,wz h1 (by lia) λp2 H2 s2 h2=>oC ((s1.trans s2) _ _ hR') λp3 H3 n3 s3 h3=>⟨p3,rfl,⟨_,ce.of h3⟩,wz h3 (by lia) λp4 H4 s4 h4=>⟨two,λb nb=>?_⟩⟩⟩
      exact q _ _ ((s1.trans (s2.trans (s3.trans s4))).trans ((aW.refl _).new nb)) ⟨b,rfl,fM.new ((s3.trans s4) _ _ h2) h4 nb⟩
def tM (E:Fn K mg "_law_at_first" iD ["_law_side"]):iM P w K mg base 1 "_law_at_first" iD ["_law_side"] wK:=E.mk' λf fd F=>by
 refine F.okS se (λvs H Q E h=>?_) (λcdv A outer s H vs Q E hr h=>?_)
 ·obtain⟨c,rfl,_⟩:=h;rfl
 ·obtain⟨c,rfl,q⟩:=h;refine⟨[some (.str ⟨#[c]⟩)],_,rfl,(L2.jr.h (aM (cz (bK gT (a9 0) bM (bb _))
   (aS (bH (cT (g0 (bZ (aU aG aC)) (g0 (bZ aC) aC)))))
   bu)
   (aS (bH (cT (g0 (bZ aC) (g0 (bZ (aU aG aC)) aC))))))),?_⟩
  nofun;rw[JU];simp only[BM];unfold mZ at q;refine k8 (λh=>?_) (λh=>?_)
  ·rw[PX h] at q;refine⟨by decide,λl nl=>⟨bO _,λr nr=>⟨(by show 2<=sizeLine;decide),λa na=>?_⟩⟩⟩;have hl:=aP (o:=.lst []) (H:=bW H l (.lst [V.int 0])) (λz:l=r=>by rw[z,aE] at nr;cases nr);rw[aE] at hl;exact q a _ ((((aW.refl H).new nl).trans ((aW.refl _).new nr)).trans ((aW.refl _).new na)) (fM.new (L:=[0]) (R:=[]) hl aE na)
  ·rw[PV h] at q;refine⟨bO _,λl nl=>⟨by decide,λr nr=>⟨(by show 2<=sizeLine;decide),λa na=>?_⟩⟩⟩;have hl:=aP (o:=.lst [V.int 0]) (H:=bW H l (.lst [])) (λz:l=r=>by rw[z,aE] at nr;cases nr);rw[aE] at hl;exact q a _ ((((aW.refl H).new nl).trans ((aW.refl _).new nr)).trans ((aW.refl _).new na)) (fM.new (L:=[]) (R:=[0]) hl aE na)
def vC (B:qq mg) (E:Fn K mg "_law_closing" jD ["_law_ends"]):iM P w K mg base 1 "_law_closing" jD ["_law_ends"] qG:=E.mk' λf fd F=>by
 refine F.okS gw (λvs H Q E h=>?_) (λcdv A outer s H vs Q E hr h=>?_)
 ·obtain⟨a,L,R,rfl,_⟩:=h;rfl
 ·obtain⟨a,L,R,rfl,⟨l,r,ha,hL,hR⟩,ee,h1,h2,q⟩:=h;refine⟨[some (.ref a),none,none,none,none],_,rfl,(L2.jr.h (aM (am (i:=1) gw.nd rfl (Or.inl rfl) (aX ft (au eZ (a9 0) aG (λ_ _=>rfl)) (so rfl (by rfl) B.list (by rfl) B.reversed (au eZ (a9 0) aG (λ_ _=>rfl)))))
   (aM (am (i:=2) gw.nd rfl (Or.inl rfl) (aY bV (by rfl) B.len aZ (ar (au eZ (a9 0) aG (λ_ _=>rfl)) aC)))
   (aM (am (i:=3) gw.nd rfl (Or.inl rfl) ig)
   (aM (f9 bX rfl (mH (by rfl) B.range (aU aG (ci (aY bV (by rfl) B.len aZ (aF (a9 1) aC)) aC))) (cI (i:=4) gw.nd rfl (Or.inl rfl))
   (aS (cz (QW.pt (l3 (bK tD (au cQ (a9 1) (aX jL (a9 4) aG) (λ_ _=>rfl)) (au cQ (a9 1) (a9 4) (λ_ _=>rfl)) (bb _)) (jw (QW.pt (iV (bK Ab (a9 3) ig (bb _)) (ie (bK gp (aY uF (by rfl) B.abs kt (bY (aX jL (a9 4) (a9 2)) aC)) (aY uF (by rfl) B.abs kt (bY (aX jL (a9 3) (a9 2)) aC)) (bb _))))))))
    (aS (am (i:=3) gw.nd rfl (Or.inl rfl) (a9 4)))
    bu)))
   (aM (cz (bK gT (a9 3) (a9 2) (bb _))
   (aS (bH bM))
   bu)
   (aS (bH (au cQ (bZ (aU bM (aU bM aC))) (cN gU (by rfl) B.int cA (dh (dU gp (a9 3) (a9 2) (bb _)) aC)) (λ_ _=>rfl)))))))))),?_⟩
  nofun;have two:(2:Nat)<=sizeLine:=by decide
  refine⟨_,_,dA.of ha,rfl,_,_,dA.of ha,rfl,r,_,rfl,hR,by rw[aD];lia,λp1 n1=>?_⟩;have s1:=(aW.refl H).new (o:=.lst (R.map V.int).reverse) n1;have hL1:=s1 _ _ hL;refine mq hL1 aE (by simp;lia) λp2 H2 n2 s2 h2'=>?_;have s3:=s1.trans s2;have hrow:H2 p2=some (.lst ((L++R.reverse).map V.int)):=by rw[h2',a6,List.map_reverse]
  have wl:(L++R.reverse).length=L.length+R.length:=by simp
  have h3:3<=(L++R.reverse).length:=ee.three (by lia);have th:Th (L++R.reverse):=ee.th;generalize hW:L++R.reverse=W at *;refine⟨_,_,dA.of (s3 _ _ ha),rfl,l,_,rfl,.inl (ce.of (s3 _ _ hL)),p2,_,rfl,.inl (ce.of hrow),⟨by decide,by decide,by lia,by rw[aD];lia⟩,?_⟩;rw[aD,aD,show ((W.length:Int) - 1).toNat=W.length - 1 by lia];refine iF (n:=W.length - 1) (λi σ H'=>∃(v:V) (x4:Option V),σ=[some (.ref a),some (.ref p2),some (.int (L.length:Nat)),some v,x4]/\aW H H'/\H' p2=some (.lst (W.map V.int))/\Bb W L.length (1+i) v) ⟨_,_,rfl,s3,hrow,.inl ⟨rfl,λk hk z=>by have:=z.1;lia⟩⟩ ?_ ?_
  ·rintro i σ H3 hi ⟨v,x4,rfl,s4,hr3,bv⟩;have g1:W[i]? = some W[i]:=aL (by lia);have g2:W[i+1]? = some W[i+1]:=aL (by lia);have a1:nw (W.map V.int) ((1:Int)+i - 1)=some (.int W[i]):=by rw[show (1:Int)+i - 1=((i:Nat):Int) by lia];exact iq (by rw[ai,g1];rfl)
   have a2:nw (W.map V.int) ((1:Int)+i)=some (.int W[i+1]):=by rw[show (1:Int)+i=((i+1:Nat):Int) by lia];exact iq (by rw[ai,g2];rfl)
   have dE:pJ W (1+i)<->W[i]≠W[i+1]:=by
    unfold pJ;rw[show 1+i - 1=i by lia,show 1+i=i+1 by lia,g1,g2];constructor
    ·rintro⟨_,_,z⟩ e;exact z (by rw[e])
    ·intro z;exact⟨by lia,by lia,λe=>z (ay e)⟩
   have keep:∀v,Bb W L.length (1+i) v->¬pJ W (1+i)->Bb W L.length (1+(i+1)) v:=λv h nd=>by
    rcases h with ⟨rfl,h⟩ | ⟨best,rfl,h1,h⟩
    ·exact .inl ⟨rfl,λk hk=>by
      by_cases e:k=1+i
      ·rw[e];exact nd
      ·exact h k (by lia)⟩
    ·exact .inr ⟨best,rfl,h1,λk hk hd=>by
      by_cases e:k=1+i
      ·rw[e] at hd;exact absurd hd nd
      ·exact h k (by lia) hd⟩
   nofun;refine⟨_,_,ce.of hr3,a1,_,_,ce.of hr3,a2,?_⟩;nofun;have ek:(1:Int)+i=((1+i:Nat):Int):=by lia
   refine k8 (λhne=>⟨trivial,?_⟩) (λheq=>⟨v,_,rfl,s4,hr3,keep v bv (λz=>heq (dE.mp z))⟩);have hd:=dE.mpr hne;rcases bv with ⟨rfl,h⟩ | ⟨best,rfl,h1',h⟩
   ·refine mT rfl ⟨_,_,rfl,s4,hr3,.inr ⟨1+i,by rw[ek],hd,λk hk hk2=>?_⟩⟩;by_cases e:k=1+i
    ·rw[e];exact aH _
    ·exact absurd hk2 (h k (by lia))
   ·refine ji (λz=>nomatch z) ?_;nofun;refine k8 (λhlt=>⟨_,_,rfl,s4,hr3,.inr ⟨1+i,by rw[ek],hd,λk hk hk2=>?_⟩⟩) (λhge=>⟨_,_,rfl,s4,hr3,.inr ⟨best,rfl,h1',λk hk hk2=>?_⟩⟩)
    ·by_cases e:k=1+i
     ·rw[e];exact aH _
     ·have:=h k (by lia) hk2
      split at hlt<;>split at hlt<;>lia
    ·by_cases e:k=1+i
     ·subst e
      split at hge<;>split at hge<;>lia
     ·exact h k (by lia) hk2
  ·rintro σ H3 ⟨v,x4,rfl,s4,hr3,bv⟩;obtain⟨best,rfl,bd,bm⟩:∃best:Nat,v=.int best/\pJ W best/\∀k,k<W.length->pJ W k->((best:Int)-L.length).natAbs<=((k:Int)-L.length).natAbs:=by
    rcases bv with ⟨rfl,h⟩ | ⟨best,rfl,h1,h⟩
    ·obtain⟨k,hk⟩:=Fb th h3;exact absurd hk (h k (by have:=hk.2.1;lia))
    ·exact⟨best,rfl,h1,λk hk hd=>h k (by lia) hd⟩
   have N:B6 W L.length best:=⟨bd,λk hk=>bm k hk.2.1 hk⟩
   nofun;refine k8 (λe=>?_) (λe=>⟨two,λp np=>⟨_,.str ⟨#[y8 L.length best]⟩,ce.of aE,?_,q best _ (s4.trans ((aW.refl _).new np)) N⟩⟩)
   ·have:=q best H3 s4 N;rw[show y8 L.length best=100 by unfold y8;rw[PX (by lia)]] at this;rw[IQ];exact this
   ·have ne:¬best=L.length:=λz=>e (by rw[z]);by_cases c:best<L.length
    ·rw[show y8 L.length best=99 by unfold y8;rw[PV ne,PX c],PX (by lia),Hq,Ho];rfl
    ·rw[show y8 L.length best=98 by unfold y8;rw[PV ne,PV c],PV (by lia),Hq,Ho];rfl
def vB (B:qq mg) (E:Fn K mg "_law_code_by" jC ["_law_rest","_law_side","_law_many"]) (L0:iM P w K mg base 1 "_law_at_first" iD ["_law_side"] wK) (OY:iM P w K mg base 1 "_law_go" xP ["_law_ends","_law_letter"] Gd) (Li:iM P w K mg base 1 "_law_closing" jD ["_law_ends"] qG):iM P w K mg base 2 "_law_code_by" jC ["_law_rest","_law_side","_law_many"] wM:=E.mk' λf fd F=>by
 refine F.okS fR (λvs H Q E h=>?_) (λcdv A outer s H vs Q E hr h=>?_)
 ·obtain⟨r,b,m,rfl,_⟩:=h;rfl
 ·obtain⟨r,b,m,rfl,hm,q⟩:=h;refine⟨[some (.int r),some (.str (sd b)),some (.int m),none,none,none],_,rfl,(L2.jr.h (aM (am (i:=3) fR.nd rfl (Or.inl rfl) (bS L0 (hr.mono (by decide)) (by rfl) (aF (a9 1) aC)))
   (aM (am (i:=4) fR.nd rfl (Or.inl rfl) bM)
   (aM (nJ bX (QW.pt (iV (bK gp (aY dg (by rfl) B.len aZ (aF (a9 4) aC)) (a9 2) (bb _)) (ie (bK tE (aY bV (by rfl) B.len aZ (bY (aX ft (au eZ (a9 3) aG (λ_ _=>rfl)) (au eZ (a9 3) aG (λ_ _=>rfl))) aC)) aG (bb _)))))
   (aM (am (i:=5) fR.nd rfl (Or.inl rfl) (jx (bK HB (aY dg (by rfl) B.len aZ (aF (a9 4) aC)) (a9 2) (bb _)) (bS Li (hr.mono (by decide)) (by rfl) (aF (a9 3) aC)) (au pA bM (aX gK (a9 0) aG) (λ_ _=>rfl))))
    (aM (cz (QW.pt (l3 (bK gp (aY dg (by rfl) B.len aZ (aF (a9 4) aC)) (a9 2) (bb _)) (jw (bK Ab (bS OY (hr.mono (by decide)) (by rfl) (aF (a9 3) (aF (a9 5) aC))) ig (bb _)))))
    (aS (am (i:=5) fR.nd rfl (Or.inl rfl) bM))
    bu)
    (aM (am (i:=0) fR.nd rfl (Or.inl rfl) (aX gB (a9 0) aG))
    (aM (am (i:=3) fR.nd rfl (Or.inl rfl) (bS OY (hr.mono (by decide)) (by rfl) (aF (a9 3) (aF (a9 5) aC))))
    (aS (am (i:=4) fR.nd rfl (Or.inl rfl) (aX k6 (a9 4) (a9 5)))))))))
   (aS (bH (a9 4))))))),?_⟩
  nofun;refine⟨IM b,by rw[JT],λa0 H1 s1 e0=>?_⟩;rw[By] at e0;nofun;refine⟨λM σ H2=>∃(r':Int) (cs:List Nat) (L R:List Int) (a:Addr) (x5:Option V),σ=[some (.int r'),some (.str (sd b)),some (.int m),some (.ref a),some (.str (tx cs)),x5]/\aW H H2/\fM H2 a L R/\EE L R/\(∀ds,fT (bL b) (bR b) (cs++ds) 0=fT L R ds cs.length)/\pR cs/\L.length+R.length<=2*cs.length+1/\(cs.length<=m\/(m<=cs.length/\cs.length+vd L R<=20))/\M=40-cs.length,
   ⟨_,r,[],bL b,bR b,a0,_,rfl,s1,e0,(by cases b;exact EE.one;exact EE.two),(λds=>rfl),(λx hx=>by cases hx),by cases b<;>decide,.inl (bO _),rfl⟩,?_⟩
  rintro M σ H2 ⟨r',cs,L,R,a,x5,rfl,s2,ea,ee,wk,lt,hs,hi,rfl⟩;have hle:cs.length<=20:=by lia
  refine BY (λk H'=>aW H H'/\aW H2 H'/\(k=true->cs.length<m\/1<L.length+R.length)/\(k=false->m<=cs.length/\L.length+R.length<=1)) (λC hC=>?_) ?_
  ·obtain⟨l,r2,ha,hL,hR⟩:=ea;nofun;rw[eX];refine⟨wQ (by lia),?_⟩;refine k8 (λh=>hC true H2 ⟨s2,aW.refl _,λ_=>.inl (by lia),λz=>nomatch z⟩) (λh=>?_);refine⟨_,_,dA.of ha,rfl,_,_,dA.of ha,rfl,mq hL hR (by rw[aD,aD];lia) λp1 H3 n1 s3 h3=>⟨p1,_,rfl,.inl (ce.of h3),?_⟩⟩;rw[bQ,aD,aD];refine hC _ H3 ⟨s2.trans s3,s3,λz=>.inr (by have:=of_decide_eq_true z;lia),λz=>⟨by lia,by have:=of_decide_eq_false z;lia⟩⟩
  ·rintro k H3 ⟨s3,s32,k1,k2⟩;cases k
   ·obtain⟨h1,h2⟩:=k2 rfl;nofun;refine q cs H3 s3 lt hle ?_;have:=wk [];rw[cK] at this;rw[this];exact CB ee h2
   ·have h1:=k1 rfl;have ea3:=ea.same s32;nofun;refine⟨λσ' H'=>∃(r':Int) (cs':List Nat) (L R:List Int) (a:Addr) (x5:Option V),σ'=[some (.int r'),some (.str (sd b)),some (.int m),some (.ref a),some (.str (tx cs')),x5]/\aW H H'/\fM H' a L R/\EE L R/\(∀ds,fT (bL b) (bR b) (cs'++ds) 0=fT L R ds cs'.length)/\pR cs'/\L.length+R.length<=2*cs'.length+1/\(cs'.length<=m\/(m<=cs'.length/\cs'.length+vd L R<=20))/\cs'.length=cs.length+1,λσ' H' ⟨r',cs',L,R,a,x5,e1,e2,e3,e4,e9,e5,e6,e7,e8⟩=>⟨40-cs'.length,by lia,r',cs',L,R,a,x5,e1,e2,e3,e4,e9,e5,e6,e7,rfl⟩,by rw[eX];exact wQ (by lia),?_⟩;have nxt:∀(H4:Hp) (c:Nat) (L' R':List Int) (v:V) (x5:Option V) (r1:Int),aW H H4->JI H4 v (some (L',R'))->pZ c->lm L R c=some (L',R')->(cs.length+1<=m\/(m<=cs.length+1/\cs.length+1+vd L' R'<=20))->∃(r':Int) (cs':List Nat) (L R:List Int) (a:Addr) (x5':Option V),([some (.int r1),some (.str (sd b)),some (.int m),some v,some (.str (tx cs++⟨#[c]⟩)),x5]:L2.St)=[some (.int r'),some (.str (sd b)),some (.int m),some (.ref a),some (.str (tx cs')),x5']/\aW H H4/\fM H4 a L R/\EE L R/\(∀ds,fT (bL b) (bR b) (cs'++ds) 0=fT L R ds cs'.length)/\pR cs'/\L.length+R.length<=2*cs'.length+1/\(cs'.length<=m\/(m<=cs'.length/\cs'.length+vd L R<=20))/\cs'.length=cs.length+1:=λH4 c L' R' v x5 r1 z1 z2 z3 z4 z5=>by
     obtain⟨a',rfl,ea'⟩:=z2;have:=yM z3 z4;have el:(cs++[c]).length=cs.length+1:=by simp
     exact⟨r1,cs++[c],L',R',a',x5,by rw[<-qr];rfl,z1,ea',ee.go z3 z4,(λds=>by rw[b9,wk,List.singleton_append,oF z4,el]),Aq lt z3,by lia,by rw[el];exact z5,el⟩
    have cd:Hk r' 4:=⟨by decide,by decide⟩
    have sl:∀c:Nat,(tx cs).length+(⟨#[c]⟩:Str).length<=sizeLine:=λc=>by rw[eX];exact wQ (by show cs.length+1<=900;lia)
    rw[eX];refine k8 (λhm1=>?_) (λhm1=>?_)
    ·have hs1:1<L.length+R.length:=by lia
     refine⟨a,L,R,rfl,ea3,ee,hs1,by lia,λbest H4 s4 N=>?_⟩;obtain⟨L',R',g,ee',pc⟩:=B1 ee hs1 N;have p20:cs.length+vd L R<=20:=by
      rcases hi with h | h
      ·have:=Dn ee;lia
      ·exact h.2
     refine⟨wQ (by lia),ji (by lia) ⟨cd,a,L,R,y8 L.length best,rfl,ea3.same s4,B2 _ _,ee,by lia,λv H5 s5 gv=>⟨_,_,rfl,rfl,sl _,?_⟩⟩⟩;rw[g] at gv;exact nxt H5 _ L' R' v _ _ ((s3.trans s4).trans s5) gv (B2 _ _) g (.inr ⟨by lia,by lia⟩)
    ·obtain⟨c,hc,lc⟩:=DO r';refine⟨by decide,by decide +kernel,c,hc,wQ (by lia),mT (by lia) ⟨a,L,R,c,rfl,ea3,lc,ee,by lia,λv H4 s4 gv=>⟨trivial,?_⟩⟩⟩;cases g:lm L R c with
     | none=>
      rw[g] at gv;refine mT gv ⟨cd,a,L,R,97,by rw[Hr];rfl,ea3.same s4,.inl rfl,ee,by lia,λv2 H5 s5 gv2=>?_⟩;obtain⟨L',R',ga⟩:=HQ L R;rw[ga] at gv2;rw[Hr,<-eX cs];exact⟨sl 97,nxt H5 97 L' R' v2 _ _ ((s3.trans s4).trans s5) gv2 (.inl rfl) ga (.inl (by lia))⟩
     | some pr=>
      obtain⟨L',R'⟩:=pr;rw[g] at gv;obtain⟨a',rfl,ea'⟩:=gv;refine ji (λz=>nomatch z) ⟨cd,a,L,R,c,rfl,ea3.same s4,lc,ee,by lia,λv2 H5 s5 gv2=>?_⟩;rw[g] at gv2;rw[<-eX cs];exact⟨sl c,nxt H5 c L' R' v2 _ _ ((s3.trans s4).trans s5) gv2 lc g (.inl (by lia))⟩
def tG (B:qq mg) (E:Fn K mg "_law_order_of" gx ["_law_side","_law_code"]):iM P w K mg base 1 "_law_order_of" gx ["_law_side","_law_code"] wF:=E.mk' λf fd F=>by
 refine F.okS dH (λvs H Q E h=>?_) (λcdv A outer s H vs Q E hr h=>?_)
 ·obtain⟨b,cs,rfl,_⟩:=h;rfl
 ·obtain⟨b,cs,rfl,lt,hn,hr0,q⟩:=h;refine⟨[some (.str (sd b)),some (.str (tx cs)),none,none,none,none,none,none,none,none,none],_,rfl,(L2.jr.h (aM (am (i:=2) dH.nd rfl (Or.inl rfl) (bZ (g0 (bZ aC) (g0 (bZ aC) aC))))
   (aM (gZ (kZ bi ck cj jF (au cQ (a9 2) (cN gU (by rfl) B.int cA (dh (dU gT (a9 0) bM (bb _)) aC)) (λ_ _=>rfl)) (aU aG aC)))
   (dn (am (i:=3) dH.nd rfl (Or.inl rfl) (bZ (sq qP (sq qP aC))))
   (dn (f9 bX rfl (jJ (by rfl) B.range (bY (aX dJ (aY dg (by rfl) B.len aZ (aF (a9 1) aC)) aG) aC)) (cI (i:=4) dH.nd rfl (Or.inl rfl))
   (aS (f9 bX rfl (jJ (by rfl) B.range (aU aG aC)) (cI (i:=5) dH.nd rfl (Or.inl rfl))
    (aM (am (i:=6) dH.nd rfl (Or.inl rfl) (rH (dU gp (a9 4) (aY dg (by rfl) B.len aZ (aF (a9 1) aC)) (bb _)) (rG (dU xn (au pA (a9 1) (a9 4) (λ_ _=>rfl)) (au cQ (bZ (aU bM (aU bM aC))) (a9 5) (λ_ _=>rfl)) (by with_unfolding_all rfl)))))
     (aS (cz (QW.pt (iV (xW (a9 6) (λ_=>rfl)) (ie (QW.pt (l3 (bK gT (a9 4) (aY dg (by rfl) B.len aZ (aF (a9 1) aC)) (bb _)) (jw (bK tE (aY bV (by rfl) B.len aZ (ar (au cQ (a9 2) (a9 5) (λ_ _=>rfl)) aC)) aG (bb _))))))))
     (aM (am (i:=7) dH.nd rfl (Or.inl rfl) (CO bi PySem.F.slot_list_pop PySem.F.type_list_pop FZ (au cQ (a9 2) (a9 5) (λ_ _=>rfl))))
      (aM (sk (vQ hr) (au cQ (a9 3) (a9 5) (λ_ _=>rfl)) (a9 7) (aX dJ (a9 4) aG) rfl)
      (aS (sk (vQ hr) (au cQ (a9 3) (a9 5) (λ_ _=>rfl)) (aX dJ (a9 4) aG) (a9 7) rfl))))
     (aS (cz (bK gp (a9 4) (aY dg (by rfl) B.len aZ (aF (a9 1) aC)) (bb _))
      (aS (gZ (kZ bi ck cj jF (au cQ (a9 2) (a9 5) (λ_ _=>rfl)) (bY (aX dJ (a9 4) aG) aC))))
      bu))))))))
   (aM (am (i:=8) dH.nd rfl (Or.inl rfl) (bZ aC))
   (aM (am (i:=9) dH.nd rfl (Or.inl rfl) (cN gU (by rfl) B.int cA (dh (dU gT (a9 0) bM (bb _)) aC)))
   (aM (am (i:=10) dH.nd rfl (Or.inl rfl) (lH (vQ hr) (au cQ (a9 3) (a9 9) (λ_ _=>rfl)) aG (λ_ _=>rfl)))
   (aM (nJ bX (bK De (a9 10) (aY dg (by rfl) B.len aZ (aF (a9 1) aC)) (bb _))
   (aM (gZ (kZ bi ck cj jF (a9 8) (aF (a9 10) aC)))
    (aM (am (i:=9) dH.nd rfl (Or.inl rfl) (aX jL aG (a9 9)))
    (aS (am (i:=10) dH.nd rfl (Or.inl rfl) (lH (vQ hr) (au cQ (a9 3) (a9 9) (λ_ _=>rfl)) (a9 10) (λ_ _=>rfl)))))))
   (aS (bH (cN jj (by rfl) B.tuple cu (aF (a9 8) aC))))))))))))),?_⟩
  nofun;have two:(2:Nat)<=sizeLine:=by decide
  refine⟨bO _,λa0 n0=>⟨bO _,λa1 n1=>⟨two,λls nl=>?_⟩⟩⟩;have e01:a0≠a1:=λe=>by subst e;rw[aE] at n1;cases n1
  have e1l:a1≠ls:=λe=>by subst e;rw[aE] at nl;cases nl
  have e0l:a0≠ls:=λe=>by subst e;rw[aP e01,aE] at nl;cases nl
  have s1:=(aW.refl H).new (o:=.lst []) n0;have s2:=s1.trans ((aW.refl _).new (o:=.lst []) n1);have s3:=s2.trans ((aW.refl _).new (o:=.lst [.ref a0,.ref a1]) nl);have m1:=s1.free n1;have ml:=s2.free nl;have h0:bW (bW (bW H a0 (.lst [])) a1 (.lst [])) ls (.lst [.ref a0,.ref a1]) a0=some (.lst []):=by rw[aP e0l,aP e01,aE]
  have h1:bW (bW (bW H a0 (.lst [])) a1 (.lst [])) ls (.lst [.ref a0,.ref a1]) a1=some (.lst []):=by rw[aP e1l,aE]
  have hl:bW (bW (bW H a0 (.lst [])) a1 (.lst [])) ls (.lst [.ref a0,.ref a1]) ls=some (.lst [.ref a0,.ref a1]):=aE;generalize bW (bW (bW H a0 (.lst [])) a1 (.lst [])) ls (.lst [.ref a0,.ref a1])=H3 at s3 h0 h1 hl ⊢;obtain⟨A,hA⟩:∃A:Bool->Addr,A=λu:Bool=>if u then a1 else a0:=⟨_,rfl⟩
  have A0:a0=A false:=by rw[hA];rfl
  have A1:a1=A true:=by rw[hA];rfl
  rw[A0,A1] at hl;have hAA:∀u,H3 (A u)=some (.lst []):=λu=>by cases u;rw[<-A0];exact h0;rw[<-A1];exact h1
  have nA:∀u,H (A u)=none:=λu=>by cases u;rw[<-A0];exact n0;rw[<-A1];exact m1
  have lA:∀u,ls≠A u:=λu=>by cases u;rw[<-A0];exact e0l.symm;rw[<-A1];exact e1l.symm
  have aA:A false≠A true:=by rw[<-A0,<-A1];exact e01
  clear n1 nl h0 h1 hA s1 s2;simp only[Ge];refine⟨_,.ref (A b),ce.of hl,by cases b<;>rfl,lC (hAA b),⟨A b,[],.int 0,rfl,rfl,hAA b,(by show 0<sizeLine;decide),?_⟩⟩;have s4:=s3.new (o:=.lst [.int 0]) (nA b);have hA4:∀u,bW H3 (A b) (.lst [.int 0]) (A u)=some (.lst (kn (ye u b).1)):=λu=>by
   unfold ye;dsimp only;by_cases e:u=b
   ·subst e;rw[aE,PX rfl];rfl
   ·have:A u≠A b:=by cases u<;>cases b<;>first | exact absurd rfl e | exact aA | exact aA.symm
    rw[aP this,hAA,PV e];rfl
  have hl4:bW H3 (A b) (.lst [.int 0]) ls=some (.lst [.ref (A false),.ref (A true)]):=by rw[aP (lA b)];exact hl
  show Bv _ _ _ _ (bW H3 (A b) (.lst [.int 0]));generalize bW H3 (A b) (.lst [.int 0])=H4 at s4 hA4 hl4 ⊢;refine dL (λσ H'=>∃(lr:Addr) (D:Bool->Addr),σ=[some (.str (sd b)),some (.str (tx cs)),some (.ref ls),some (.ref lr),none,none,none,none,none,none,none]/\aW H H'/\OS H' ls lr A D/\DQ ls lr A D/\(∀u,H (D u)=none)/\∀u,uL H' A D b cs u 0) ?_ ?_
  ·nofun;intro d0 n0 d1 n1;refine⟨two,λlr nr=>?_⟩;have f01:d0≠d1:=λe=>by subst e;rw[aE] at n1;cases n1
   have f1l:d1≠lr:=λe=>by subst e;rw[aE] at nr;cases nr
   have f0l:d0≠lr:=λe=>by subst e;rw[aP f01,aE] at nr;cases nr
   have s5:=s4.trans ((aW.refl _).new (o:=.dK []) n0);have s6:=s5.trans ((aW.refl _).new (o:=.dK []) n1);have s7:=s6.trans ((aW.refl _).new (o:=.lst [.ref d0,.ref d1]) nr);have t5:=(aW.refl H4).new (o:=.dK []) n0;have t6:=t5.trans ((aW.refl _).new (o:=.dK []) n1);have t7:=t6.trans ((aW.refl _).new (o:=.lst [.ref d0,.ref d1]) nr);have A0d:∀u,A u≠d0:=λu=>bJ (hA4 u) n0;have A1d:∀u,A u≠d1:=λu=>bJ (t5 _ _ (hA4 u)) n1;have Ald:∀u,A u≠lr:=λu=>bJ (t6 _ _ (hA4 u)) nr;have l0d:ls≠d0:=bJ hl4 n0;have l1d:ls≠d1:=bJ (t5 _ _ hl4) n1;refine⟨lr,λu=>if u then d1 else d0,rfl,s7,⟨t7 _ _ hl4,aE⟩,⟨aA,f01,λu v=>by cases v;exact A0d u;exact A1d u,lA,λu=>by cases u;exact l0d;exact l1d,λu=>(Ald u).symm,λu=>by cases u;exact f0l.symm;exact f1l.symm⟩,λu=>by cases u;exact s4.free n0;exact s5.free n1,λu=>⟨t7 _ _ (hA4 u),⟨[],?_,bO _,lq.nil⟩,λx hx=>?_⟩⟩
   ·cases u
    ·show bW _ _ _ d0=_;rw[aP f0l,aP f01,aE]
    ·show bW _ _ _ d1=_;rw[aP f1l,aE]
   ·have hx':x∈(ye u b).1:=hx;unfold ye at hx';dsimp only at hx'
    split at hx'<;>simp at hx'
    lia
  ·rintro σ H5 ⟨lr,D,rfl,s5,os5,S,nD,st5⟩;nofun;refine dL (λσ H'=>∃(x4 x5 x6 x7:Option V),σ=[some (.str (sd b)),some (.str (tx cs)),some (.ref ls),some (.ref lr),x4,x5,x6,x7,none,none,none]/\aW H H'/\OS H' ls lr A D/\∀u,uL H' A D b cs u (cs.length+1)) ?_ ?_
   ·nofun;rw[eX];refine⟨wQ (by lia),by lia,by lia,?_⟩;rw[show ((cs.length:Int)+1).toNat=cs.length+1 by lia];refine iF (n:=cs.length+1) (λi σ H'=>∃(x4 x5 x6 x7:Option V),σ=[some (.str (sd b)),some (.str (tx cs)),some (.ref ls),some (.ref lr),x4,x5,x6,x7,none,none,none]/\aW H H'/\OS H' ls lr A D/\∀u,uL H' A D b cs u i) ⟨_,_,_,_,rfl,s5,os5,st5⟩ ?_ ?_
    ·rintro i σ H6 hi ⟨x4,x5,x6,x7,rfl,s6,os6,st6⟩;nofun;refine⟨by decide,by decide,?_⟩;refine iF (n:=Int.toNat 2) (λj σ H'=>∃(x5 x6 x7:Option V),σ=[some (.str (sd b)),some (.str (tx cs)),some (.ref ls),some (.ref lr),some (.int (0+(i:Int))),x5,x6,x7,none,none,none]/\aW H H'/\OS H' ls lr A D/\∀u:Bool,uL H' A D b cs u (if (if u then 1 else 0)<j then i+1 else i)) ⟨_,_,_,rfl,s6,os6,λu=>by rw[PV (by lia)];exact st6 u⟩ ?_ ?_
     ·rintro j σ H7 hj ⟨x5,x6,x7,rfl,s7,os7,st7⟩;obtain⟨u,rfl⟩:∃u:Bool,j=if u then 1 else 0:=by
       have hj':j<2:=hj;rcases(show j=0\/j=1 by lia) with rfl | rfl
       ·exact⟨false,rfl⟩
       ·exact⟨true,rfl⟩
      have me:=st7 u;rw[PV (by lia)] at me;have fin:∀H',aW H H'->OS H' ls lr A D->uL H' A D b cs u (i+1)->(∀v,v≠u->uL H' A D b cs v (if (if v then 1 else 0)<(if u then 1 else 0:Nat) then i+1 else i))->∀v:Bool,uL H' A D b cs v (if (if v then 1 else 0)<(if u then 1 else 0:Nat)+1 then i+1 else i):=λH' a1 a2 a3 a4 v=>by
       by_cases e:v=u
       ·subst e;rw[PX (by lia)];exact a3
       ·have:=a4 v e;cases u<;>cases v<;>first | exact absurd rfl e | exact this
      have atA:nw [V.ref (A false),V.ref (A true)] (0+((if u then 1 else 0:Nat):Int))=some (.ref (A u)):=by cases u<;>rfl
      have atD:nw [V.ref (D false),V.ref (D true)] (0+((if u then 1 else 0:Nat):Int))=some (.ref (D u)):=by cases u<;>rfl
      have atS:nw [V.str (Str.ofString "cd"),V.str (Str.ofString "bd")] (0+((if u then 1 else 0:Nat):Int))=some (.str (if u then Str.ofString "bd" else Str.ofString "cd")):=by cases u<;>rfl
      have oth:∀(H':Hp),(∀v,v≠u->uL H' A D b cs v (if (if v then 1 else 0)<(if u then 1 else 0:Nat) then i+1 else i))->∀o1,(∀v,v≠u->uL (bW H' (A u) o1) A D b cs v (if (if v then 1 else 0)<(if u then 1 else 0:Nat) then i+1 else i))/\(∀v,v≠u->uL (bW H' (D u) o1) A D b cs v (if (if v then 1 else 0)<(if u then 1 else 0:Nat) then i+1 else i)):=λH' h o1=>⟨λv hv=>(h v hv).updA S hv,λv hv=>(h v hv).updD S hv⟩
      have en:(0:Int)+(i:Int)+1=((i+1:Nat):Int):=by lia
      obtain⟨kk,k1,k2,k3⟩:=me.rw;nofun;simp only[en];have tl:=eX cs;have tz:(tx cs).length<=sizeLine:=by rw[tl];exact wQ (by lia)
      refine⟨tz,?_⟩;by_cases hlt:i<cs.length
      ·refine mT (by rw[tl];lia) ⟨tz,cs[i],?_,two,λp np=>?_⟩
       ·rw[zQ,Int.zero_add];exact iq (aL hlt)
       have hc:cs[i]? = some cs[i]:=aL hlt;have lc:=lt _ (bG hc);obtain⟨e1,e2⟩:=DR (b:=b) (u:=u) hc;have s8:=s7.trans ((aW.refl _).new (o:=.lst [V.str (Str.ofString "cd"),V.str (Str.ofString "bd")]) np);have t8:=(aW.refl H7).new (o:=.lst [V.str (Str.ofString "cd"),V.str (Str.ofString "bd")]) np;have os8:OS (bW H7 p (.lst [V.str (Str.ofString "cd"),V.str (Str.ofString "bd")])) ls lr A D:=⟨t8 _ _ os7.l,t8 _ _ os7.r⟩
       have st8:∀v,uL (bW H7 p (.lst [V.str (Str.ofString "cd"),V.str (Str.ofString "bd")])) A D b cs v (if (if v then 1 else 0)<(if u then 1 else 0:Nat) then i+1 else i):=λv=>⟨t8 _ _ (st7 v).st,let ⟨kk,a,c⟩:=(st7 v).rw;⟨kk,t8 _ _ a,c⟩,(st7 v).le⟩
       have sA:bW H7 p (.lst [V.str (Str.ofString "cd"),V.str (Str.ofString "bd")]) (A u)=some (.lst (kn (SS b cs u i).1)):=t8 _ _ me.st;have sD:bW H7 p (.lst [V.str (Str.ofString "cd"),V.str (Str.ofString "bd")]) (D u)=some (.dK kk):=t8 _ _ k1;refine⟨_,_,ce.of aE,atS,_,_,rfl,rfl,_,rfl,?_⟩;rw[F9 lc];generalize bW H7 p (.lst [V.str (Str.ofString "cd"),V.str (Str.ofString "bd")])=H8 at s8 os8 st8 sA sD ⊢;by_cases hin:isIn u cs[i]=true
       ·refine ji (by rw[hin];decide) ⟨tz,ji (by rw[tl];lia) ?_⟩;rw[u6 hin] at e2;refine⟨tz,mT (by rw[tl];lia) ⟨_,_,ce.of os8.l,atA,lC sA,A u,_,_,rfl,rfl,sA,by rw[tO];exact bU (by have:=wB u b cs i;rw[e1];lia),_,_,_,rfl,s8.new (nA u),os8.updA S,fin _ (s8.new (nA u)) (os8.updA S) ⟨by rw[aE,e2,nK],⟨kk,by rw[aP (S.ad u u).symm];exact sD,by lia,by rw[e2];exact k3⟩,?_⟩ (oth _ (λv hv=>st8 v) _).1⟩⟩;rw[e2];intro x hx;rcases aQ.mp hx with h1 | h1
        ·have:=me.le x h1;lia
        ·simp at h1;lia
       ·have hin':isIn u cs[i]=false:=by simpa using hin
        refine mT (by rw[hin'];rfl) ⟨_,_,ce.of os8.l,atA,lC sA,?_⟩;obtain⟨Pq,o,eo⟩:∃P x,(SS b cs u i).1=P++[x]:=ou (by rw[e1];exact E7 lt hr0 u i hlt (by rw[bf,hc];exact hin'));have ole:=me.le o (by rw[eo];simp);rw[qw hin' eo] at e2;have ep:(SS b cs u (i+1)).1=Pq:=by rw[e2]
        have ep2:(SS b cs u (i+1)).2=ko (SS b cs u i).2 (i+1) o:=by rw[e2]
        rw[eo] at sA;refine⟨A u,kn (Pq++[o]),.int o,rfl,rfl,sA,qS Pq o,?_⟩;rw[qT];have hD1:bW H8 (A u) (.lst (kn Pq)) (D u)=some (.dK kk):=by rw[aP (S.ad u u).symm];exact sD
        have o1:=os8.updA (u:=u) (o:=.lst (kn Pq)) S;have o2:=o1.updD (u:=u) (o:=.dK (putK kk (.inl (o:Int):Key) (.int ((i+1:Nat):Int)))) S;have o3:=o2.updD (u:=u) (o:=.dK (putK (putK kk (.inl (o:Int):Key) (.int ((i+1:Nat):Int))) (.inl ((i+1:Nat):Int):Key) (.int (o:Int)))) S;have g1:=eW kk (.inl (o:Int):Key) (.int ((i+1:Nat):Int));have g2:=eW (putK kk (.inl (o:Int):Key) (.int ((i+1:Nat):Int))) (.inl ((i+1:Nat):Int):Key) (.int (o:Int));refine⟨_,_,ce.of o1.r,atD,D u,_,rfl,sG.k (k:=.inl (o:Int)) hD1 (bU (by lia)),_,_,ce.of o2.r,atD,D u,_,rfl,sG.k (k:=.inl ((i+1:Nat):Int)) aE (bU (by lia)),_,_,_,rfl,((s8.new (nA u)).new (nD u)).new (nD u),o3,fin _ (((s8.new (nA u)).new (nD u)).new (nD u)) o3 ⟨by rw[aP (S.ad u u),aP (S.ad u u),aE,ep],⟨_,aE,by lia,?_⟩,?_⟩ ?_⟩
        ·have r2:=(k3.put (a:=o) (b:=i+1) (by lia)).put (a:=i+1) (b:=o) (by lia);rw[An (by lia)] at r2;rw[ep2];exact r2
        ·rw[ep];intro x hx;have:=me.le x (by rw[eo];exact bC _ hx);lia
        ·exact(oth _ (oth _ (oth _ (λv hv=>st8 v) _).1 _).2 _).2
      ·refine ji (by rw[tl];lia) ⟨false,rfl,ji (by decide) ⟨tz,mT (by rw[tl];lia) ⟨_,_,ce.of os7.l,atA,A u,_,rfl,.inl (ce.of me.st),?_⟩⟩⟩;have hiE:i=cs.length:=by lia
       have e1:SS b cs u i=stN u b cs cs.length:=by rw[hiE];exact ro.1
       have e2:SS b cs u (i+1)=([],fin2 b cs u):=by rw[hiE];exact ro.2
       have ep2:(SS b cs u (i+1)).2=fin2 b cs u:=by rw[e2]
       rw[tO];rcases Ae (u:=u) lt hr0 with h0 | ⟨o,h0⟩
       ·refine ji (by rw[e1,h0];simp) ⟨tz,ji (by rw[tl];lia) ⟨_,_,_,rfl,s7,os7,fin _ s7 os7 ⟨by rw[me.st,e1,e2,h0],⟨kk,k1,by lia,?_⟩,by rw[e2];simp⟩ λv _=>st7 v⟩⟩;rw[ep2,BI h0,<-e1];exact k3
       ·obtain⟨Pq,hPq,eo⟩:∃P:List Nat,P=[]/\(SS b cs u i).1=P++[o]:=⟨[],rfl,by rw[e1,h0];rfl⟩
        have ep:(SS b cs u (i+1)).1=Pq:=by rw[e2,hPq]
        have ole:=me.le o (by rw[eo];simp);have sA:=me.st;rw[eo] at sA;refine mT (by rw[eo];simp) ⟨_,_,ce.of os7.l,atA,lC sA,?_⟩;refine⟨A u,kn (Pq++[o]),.int o,rfl,rfl,sA,qS Pq o,?_⟩;rw[qT];have hD1:bW H7 (A u) (.lst (kn Pq)) (D u)=some (.dK kk):=by rw[aP (S.ad u u).symm];exact k1
        have o1:=os7.updA (u:=u) (o:=.lst (kn Pq)) S;have o2:=o1.updD (u:=u) (o:=.dK (putK kk (.inl (o:Int):Key) (.int ((i+1:Nat):Int)))) S;have o3:=o2.updD (u:=u) (o:=.dK (putK (putK kk (.inl (o:Int):Key) (.int ((i+1:Nat):Int))) (.inl ((i+1:Nat):Int):Key) (.int (o:Int)))) S;have g1:=eW kk (.inl (o:Int):Key) (.int ((i+1:Nat):Int));have g2:=eW (putK kk (.inl (o:Int):Key) (.int ((i+1:Nat):Int))) (.inl ((i+1:Nat):Int):Key) (.int (o:Int));refine⟨_,_,ce.of o1.r,atD,D u,_,rfl,sG.k (k:=.inl (o:Int)) hD1 (bU (by lia)),_,_,ce.of o2.r,atD,D u,_,rfl,sG.k (k:=.inl ((i+1:Nat):Int)) aE (bU (by lia)),_,_,_,rfl,((s7.new (nA u)).new (nD u)).new (nD u),o3,fin _ (((s7.new (nA u)).new (nD u)).new (nD u)) o3 ⟨by rw[aP (S.ad u u),aP (S.ad u u),aE,ep],⟨_,aE,by lia,?_⟩,?_⟩ ?_⟩
        ·have r2:=(k3.put (a:=o) (b:=i+1) (by lia)).put (a:=i+1) (b:=o) (by lia);rw[ep2];refine r2.congr ?_;rw[e1,hiE];exact DB h0
        ·rw[ep];intro x hx;have:=me.le x (by rw[eo];exact bC _ hx);lia
        ·exact(oth _ (oth _ (oth _ (λv hv=>st7 v) _).1 _).2 _).2
     ·rintro σ H7 ⟨x5,x6,x7,rfl,s7,os7,st7⟩;refine⟨_,_,_,_,rfl,s7,os7,λu=>?_⟩;have:=st7 u;rw[PX (by cases u<;>decide)] at this;exact this
    ·rintro σ H6 ⟨x4,x5,x6,x7,rfl,s6,os6,st6⟩;exact⟨_,_,_,_,rfl,s6,os6,st6⟩
   ·rintro σ H6 ⟨x4,x5,x6,x7,rfl,s6,os6,st6⟩;obtain⟨T,t1,t2,VT,eT⟩:=(CC lt hr0).ends;nofun;refine⟨bO _,λp np=>?_⟩;simp only[Ge];have pr:lr≠p:=bJ os6.r np;have pD:∀u,D u≠p:=λu=>by obtain⟨kk,h,_⟩:=(st6 u).rw;exact bJ h np
    have nH:H p=none:=s6.free np;have hD6:∀u,∃kk,H6 (D u)=some (.dK kk)/\lq kk cs.length (fin2 b cs u):=λu=>by
     obtain⟨kk,h,_,r⟩:=(st6 u).rw;rw[ro.2] at r;exact⟨kk,h,r⟩
    have look:∀(H':Hp) (u:Bool) (r y:Nat),(∀u,∃kk,H' (D u)=some (.dK kk)/\lq kk cs.length (fin2 b cs u))->r<=cs.length->fin2 b cs u r=some y->uP H' (D u) (.int (r:Nat)) (some (.int (y:Nat))):=λH' u r y h2 hr hf=>by
     obtain⟨kk,g1,g2⟩:=h2 u;have e2:=uP.k (k:=.inl (r:Int)) g1;rw[g2.get r hr,hf] at e2;exact e2
    have hD0:∀u,∃kk,bW H6 p (.lst []) (D u)=some (.dK kk)/\lq kk cs.length (fin2 b cs u):=λu=>by obtain⟨kk,h,r⟩:=hD6 u;exact⟨kk,by rw[aP (pD u)];exact h,r⟩
    have ix:∀u:Bool,nw [V.ref (D false),V.ref (D true)] (if u=true then 1 else 0)=some (.ref (D u)):=λu=>by cases u<;>rfl
    refine⟨_,_,ce.of (by rw[aP pr];exact os6.r),ix b,D b,_,rfl,look _ b 0 _ hD0 (bO _) (VT.st 0 (by lia)),?_⟩;refine⟨λm σ H'=>∃(j:Nat),σ=[some (.str (sd b)),some (.str (tx cs)),some (.ref ls),some (.ref lr),x4,x5,x6,x7,some (.ref p),some (.int (if (pth (fin2 b cs) b j).2=true then 1 else 0)),some (.int ((pth (fin2 b cs) b (j+1)).1:Nat))]/\aW H H'/\H' lr=some (.lst [.ref (D false),.ref (D true)])/\(∀u,∃kk,H' (D u)=some (.dK kk)/\lq kk cs.length (fin2 b cs u))/\H' p=some (.lst ((ordF (fin2 b cs) b j).map V.int))/\j+1<=T/\m=T-j,⟨_,0,rfl,s6.new nH,by rw[aP pr];exact os6.r,hD0,aE,t1,rfl⟩,?_⟩;rintro m σ H7 ⟨j,rfl,s7,hr7,hD7,hl7,hj,rfl⟩;nofun;rw[eX];refine⟨wQ (by lia),?_⟩;refine k8 (λhle=>?_) (λhgt=>?_)
    ·have hjT:j+1<T:=by
      apply jY;intro z;have:j+1=T:=by lia
      rw[this,eT] at hle;lia
     have hD8:∀u,∃kk,bW H7 p (.lst ((ordF (fin2 b cs) b (j+1)).map V.int)) (D u)=some (.dK kk)/\lq kk cs.length (fin2 b cs u):=λu=>by obtain⟨kk,h,r⟩:=hD7 u;exact⟨kk,by rw[aP (pD u)];exact h,r⟩
     have hr8:bW H7 p (.lst ((ordF (fin2 b cs) b (j+1)).map V.int)) lr=some (.lst [.ref (D false),.ref (D true)]):=by rw[aP pr];exact hr7
     have g4:=look _ (pth (fin2 b cs) b (j+1)).2 _ _ hD8 (VT.le (j+1) hjT) (VT.st (j+1) hjT);refine⟨λσ' H'=>σ'=[some (.str (sd b)),some (.str (tx cs)),some (.ref ls),some (.ref lr),x4,x5,x6,x7,some (.ref p),some (.int (if (pth (fin2 b cs) b (j+1)).2=true then 1 else 0)),some (.int ((pth (fin2 b cs) b (j+1+1)).1:Nat))]/\aW H H'/\H' lr=some (.lst [.ref (D false),.ref (D true)])/\(∀u,∃kk,H' (D u)=some (.dK kk)/\lq kk cs.length (fin2 b cs u))/\H' p=some (.lst ((ordF (fin2 b cs) b (j+1)).map V.int)),λσ' H' ⟨e,a,c,d,f⟩=>⟨T-(j+1),by lia,j+1,e,a,c,d,f,hjT,rfl⟩,?_⟩;have el:(ordF (fin2 b cs) b j).map V.int++[V.int ((pth (fin2 b cs) b (j+1)).1:Nat)]=(ordF (fin2 b cs) b (j+1)).map V.int:=by rw[xk,a6];rfl
     have et:(1:Int)-(if (pth (fin2 b cs) b j).2=true then 1 else 0)=if (pth (fin2 b cs) b (j+1)).2=true then 1 else 0:=by rw[AJ];cases (pth (fin2 b cs) b j).2<;>rfl
     refine⟨lC hl7,_,hl7,by rw[aD,A9];exact bU (by lia),?_⟩;rw[el,et];exact⟨_,_,ce.of hr8,ix _,_,_,rfl,g4,rfl,s7.new nH,hr8,hD8,aE⟩
    ·have ejT:j+1=T:=by
      apply jY;intro z;have:=VT.le (j+1) (by lia);lia
     refine⟨_,.inl ⟨ce.of hl7,λo no=>?_⟩⟩;refine q o T _ (s7.trans ((aW.refl _).new no)) t1 VT eT ?_;rw[aE,<-ejT];rfl
def uz (B:qq mg) (E:Fn K mg "_law_crosses" jA ["_law_side","_law_order"]):iM P w K mg base 1 "_law_crosses" jA ["_law_side","_law_order"] Da:=E.mk' λf fd F=>by
 refine F.okS gI (λvs H Q E h=>?_) (λcdv A outer s H vs Q E hr h=>?_)
 ·obtain⟨z,a,o,rfl,_⟩:=h;rfl
 ·obtain⟨z,a,o,rfl,ha,hl,q⟩:=h;refine⟨[some (.str z),some (.ref a),none,none,none,none,none,none],_,rfl,(L2.jr.h (aM (am (i:=2) gI.nd rfl (Or.inl rfl) (aX ft (aX ft (bZ (aU aG aC)) (cN g6 (by rfl) B.list dD (aF (a9 1) aC))) (bZ (bY (aX dJ (aY bV (by rfl) B.len aZ (aF (a9 1) aC)) aG) aC))))
   (aM (f9 bX rfl (jJ (by rfl) B.range (aU aG aC)) (cI (i:=3) gI.nd rfl (Or.inl rfl))
   (aM (am (i:=4) gI.nd rfl (Or.inl rfl) (bZ aC))
    (aM (f9 bX rfl (ui (by rfl) B.range (aF (a9 3) (bY (aX jL (aY bV (by rfl) B.len aZ (aF (a9 2) aC)) aG) (aU aG aC)))) (cI (i:=5) gI.nd rfl (Or.inl rfl))
    (aS (gZ (kZ bi ck cj jF (a9 4) (dX (cT (ci (aY (qb rfl) (by rfl) B.min gq (ar (au cQ (a9 2) (a9 5) (λ_ _=>rfl)) (ar (au cQ (a9 2) (aX dJ (a9 5) aG) (λ_ _=>rfl)) aC))) (ci (aY (qd rfl) (by rfl) B.max fK (ar (au cQ (a9 2) (a9 5) (λ_ _=>rfl)) (ar (au cQ (a9 2) (aX dJ (a9 5) aG) (λ_ _=>rfl)) aC))) aC))) aC)))))
    (aS (f9 bX rfl (iO (a9 4)) (cI (i:=6) gI.nd rfl (Or.inl rfl))
    (aS (f9 bX rfl (iO (a9 4)) (cI (i:=7) gI.nd rfl (Or.inl rfl))
     (aS (cz (o8 gp gp gp (au eZ (a9 6) aG (λ_ _=>rfl)) (au eZ (a9 7) aG (λ_ _=>rfl)) (au eZ (a9 6) aG (λ_ _=>rfl)) (au eZ (a9 7) aG (λ_ _=>rfl)))
      (aS (bH gJ))
      bu)))))))))
   (aS (bH gJ))))),?_⟩
  nofun;have two:(2:Nat)<=sizeLine:=by decide
  have one:(1:Nat)<=sizeLine:=by decide
  refine⟨one,λp0 n0=>?_⟩;have s0:=(aW.refl H).new (o:=.lst [V.int 0]) n0;have hp0:bW H p0 (.lst [V.int 0]) p0=some (.lst [V.int 0]):=aE;generalize bW H p0 (.lst [V.int 0])=H0 at s0 hp0 ⊢;have ha0:H0 a=some (.tup (o.map V.int)):=s0 _ _ ha;refine⟨_,.inr (dA.of ha0),λl1 n1=>?_⟩;have s1:=(aW.refl H0).new (o:=.lst (o.map V.int)) n1;refine mq (s1 _ _ hp0) aE (by simp;lia) λp2 H2 n2 s2 h2=>?_;have s02:=s0.trans (s1.trans s2);refine⟨_,.inr (dA.of (s02 _ _ ha)),one,λp3 n3=>?_⟩;rw[aD];have s3:=(aW.refl H2).new (o:=.lst [V.int ((o.length:Int)+1)]) n3;refine mq (s3 _ _ h2) aE (by simp;lia) λrd H4 n4 s4 h4=>?_;have s04:=s02.trans (s3.trans s4);have erd:[V.int 0]++o.map V.int++[V.int ((o.length:Int)+1)]=(cG o).map V.int:=by simp[cG]
  rw[erd] at h4;have hrl:(cG o).length=o.length+2:=by simp[cG]
  have rdat:∀k:Nat,k<o.length+2->nw ((cG o).map V.int) (k:Int)=some (V.int ((cG o).getD k 0)):=λk hk=>iq (by
   rw[ai,aL (by lia),bf,aL (by lia)];rfl)
  clear erd h2 hp0 ha0;refine⟨by decide,by decide,?_⟩;refine iF (n:=Int.toNat 2) (λi σ H'=>∃(x3 x4 x5 x6 x7:Option V),σ=[some (.str z),some (.ref a),some (.ref rd),x3,x4,x5,x6,x7]/\aW H4 H'/\∀t,t<i->qt o t=false) ⟨_,_,_,_,_,rfl,aW.refl _,λt ht=>absurd ht (Nat.not_lt_zero t)⟩ ?_ ?_
  ·rintro i σ H5 hi ⟨x3,x4,x5,x6,x7,rfl,s5,hno⟩;have hi2:i<2:=hi;have h5:=s5 _ _ h4;generalize hnn:(o.length+2-i) / 2=nn;nofun;rw[Int.zero_add];refine⟨bO _,λbw nbw=>?_⟩;have s6:=(aW.refl H5).new (o:=.lst []) nbw;have hb6:bW H5 bw (.lst []) bw=some (.lst []):=aE;generalize bW H5 bw (.lst [])=H6 at s6 hb6 ⊢;refine⟨_,.inl (ce.of (s6 _ _ h5)),_,_,rfl,?_⟩;rw[aD,hrl];refine⟨⟨by lia,by lia,by lia,by lia⟩,?_⟩;have en:((((o.length+2:Nat):Int) - 1-(i:Int)+1) / 2).toNat=nn:=by lia
   rw[en];refine pI (λj σ H'=>∃(x5 x6 x7:Option V),σ=[some (.str z),some (.ref a),some (.ref rd),some (.int (i:Int)),some (.ref bw),x5,x6,x7]/\aW H5 H'/\ez H' bw (kG (cG o) i j)) ⟨_,_,_,rfl,s6,⟨[],hb6,.nil⟩⟩ ?_ ?_
   ·rintro j σ H7 hj ⟨x5,x6,x7,rfl,s7,as,hbw,prs⟩;have h7:=s7 _ _ h5;have hal:as.length=(kG (cG o) i j).length:=dB prs;have hbl:(kG (cG o) i j).length=j:=by simp[kG]
    have k1:(i:Int)+(j:Int)*2=((i+j*2:Nat):Int):=by lia
    have k2:((i+j*2:Nat):Int)+1=((i+j*2+1:Nat):Int):=by lia
    have r1:=rdat (i+j*2) (by lia);have r2:=rdat (i+j*2+1) (by lia);nofun;rw[k1,k2];refine⟨lC hbw,_,_,ce.of h7,r1,_,_,ce.of h7,r2,_,_,rfl,_,_,ce.of h7,r1,_,_,ce.of h7,r2,_,_,rfl,two,λt nt=>?_⟩;have ntb:bw≠t:=bJ hbw nt;refine⟨as.map V.ref,by rw[aP ntb];exact hbw,bU (by rw[aD];lia),_,_,_,rfl,(s7.trans ((aW.refl _).new nt)).new nbw,?_⟩;have ebw:kG (cG o) i (j+1)=kG (cG o) i j++[DK (cG o) (i+j*2)]:=by
     unfold kG;rw[dc,a6];rfl
    have em:DK (cG o) (i+j*2)=((if (cG o).getD (i+j*2+1) 0<(cG o).getD (i+j*2) 0 then (cG o).getD (i+j*2+1) 0 else (cG o).getD (i+j*2) 0),(if (cG o).getD (i+j*2+1) 0 > (cG o).getD (i+j*2) 0 then (cG o).getD (i+j*2+1) 0 else (cG o).getD (i+j*2) 0)):=by
     unfold DK;generalize (cG o).getD (i+j*2) 0=u;generalize (cG o).getD (i+j*2+1) 0=v;have e1:min u v=if v<u then v else u:=by rw[ja];split<;>split<;>lia
     have e2:max u v=if v > u then v else u:=by rw[jb];split<;>split<;>lia
     rw[e1,e2]
    rw[ebw,em];exact qe hbw prs nt
   ·rintro σ H7 ⟨x5,x6,x7,rfl,s7,as,hbw,prs⟩;have hal:as.length=(kG (cG o) i nn).length:=dB prs;have etr:qt o i=yl (kG (cG o) i nn):=by unfold qt;rw[hnn]
    generalize kG (cG o) i nn=bs at prs hal etr;have hit:∀a∈bs,∀b∈bs,x2 a b=true->uA o=true:=λu hu v hv huv=>by
     have:qt o i=true:=by
      rw[etr];unfold yl;exact kR.mpr ⟨u,hu,kR.mpr ⟨v,hv,huv⟩⟩
     unfold uA;have:i=0\/i=1:=by lia
     rcases this with rfl | rfl
     ·rw[‹qt o 0=true›];rfl
     ·rw[‹qt o 1=true›,nF]
    nofun;refine⟨⟨_,ce.of hbw⟩,mi (xs:=as.map V.ref) (λj σ H'=>∃(x6 x7:Option V),σ=[some (.str z),some (.ref a),some (.ref rd),some (.int (i:Int)),some (.ref bw),x5,x6,x7]/\H'=H7/\∀u∈bs.take j,bs.any (λv=>x2 u v)=false) ⟨_,_,rfl,rfl,λu hu=>by simp at hu⟩ (λj σ H' _ ⟨_,_,_,e,_⟩=>by rw[e];exact ce.of hbw) ?_ ?_⟩
    ·rintro j x σ H' hx ⟨x6,x7,rfl,rfl,hnj⟩;obtain⟨aj,haj,rfl⟩:=rW hx;obtain⟨u,huj,hu⟩:=L2.fU prs haj;have etk:bs.take (j+1)=bs.take j++[u]:=by rw[dZ,huj];rfl
     nofun;refine⟨⟨_,ce.of hbw⟩,mi (xs:=as.map V.ref) (λk σ H''=>∃(x7:Option V),σ=[some (.str z),some (.ref a),some (.ref rd),some (.int (i:Int)),some (.ref bw),x5,some (.ref aj),x7]/\H''=H'/\∀v∈bs.take k,x2 u v=false) ⟨_,rfl,rfl,λv hv=>by simp at hv⟩ (λk σ H'' _ ⟨_,_,e,_⟩=>by rw[e];exact ce.of hbw) ?_ ?_⟩
     ·rintro k y σ H'' hy ⟨x7,rfl,rfl,hnk⟩;obtain⟨ak,hak,rfl⟩:=rW hy;obtain⟨v,hvk,hv⟩:=L2.fU prs hak;have etk2:bs.take (k+1)=bs.take k++[v]:=by rw[dZ,hvk];rfl
      have hu':H'' aj=some (.tup [V.int u.1,V.int u.2]):=hu;have hv':H'' ak=some (.tup [V.int v.1,V.int v.2]):=hv;have nx:x2 u v=false->∃(x7:Option V),[some (V.str z),some (V.ref a),some (V.ref rd),some (V.int (i:Int)),some (V.ref bw),x5,some (V.ref aj),some (V.ref ak)]=[some (.str z),some (.ref a),some (.ref rd),some (.int (i:Int)),some (.ref bw),x5,some (.ref aj),x7]/\H''=H''/\∀v∈bs.take (k+1),x2 u v=false:=λhz=>⟨_,rfl,rfl,λw hw=>by
       rw[etk2] at hw;rcases aQ.mp hw with h | h
       ·exact hnk w h
       ·have:w=v:=by simpa using h
        subst this;exact hz⟩
      nofun;refine⟨_,_,dA.of hu',rfl,_,_,dA.of hv',rfl,?_⟩;rw[Bp];by_cases c1:u.1<v.1
      ·refine⟨_,rfl,mT (P0 c1) ⟨_,_,dA.of hu',rfl,?_⟩⟩;rw[Bp];by_cases c2:v.1<u.2
       ·refine⟨_,rfl,mT (P0 c2) ⟨_,_,dA.of hv',rfl,?_⟩⟩;rw[Bp];by_cases c3:u.2<v.2
        ·have ht:x2 u v=true:=by unfold x2;rw[P0 c1,P0 c2,P0 c3];rfl
         have ec:=hit u (bG huj) v (bG hvk) ht;rw[ec] at q;exact⟨_,rfl,mT (P0 c3) (q _ (s04.trans (s5.trans s7)))⟩
        ·exact⟨_,rfl,ji (by rw[PZ c3];exact λz=>nomatch z) (nx (by unfold x2;rw[PZ c3,jV,jV]))⟩
       ·exact⟨_,rfl,ji (by rw[PZ c2];exact λz=>nomatch z) (nx (by unfold x2;rw[PZ c2,lV,jV]))⟩
      ·exact⟨_,rfl,ji (by rw[PZ c1];exact λz=>nomatch z) (nx (by unfold x2;rw[PZ c1,lV]))⟩
     ·rintro σ H'' ⟨x7,rfl,rfl,hnk⟩;rw[aD,hal,dm] at hnk;refine⟨_,_,rfl,rfl,λw hw=>?_⟩;rw[etk] at hw;rcases aQ.mp hw with h | h
      ·exact hnj w h
      ·have:w=u:=by simpa using h
       subst this;exact dz.mpr λv hv=>by rw[hnk v hv];exact λz=>nomatch z
    ·rintro σ H' ⟨x6,x7,rfl,rfl,hnj⟩;rw[aD,hal,dm] at hnj;refine⟨_,_,_,_,_,rfl,s5.trans s7,λt ht=>?_⟩;rcases nB t i with h | h
     ·exact hno t h
     ·have:t=i:=by lia
      subst this;rw[etr];exact dz.mpr λu hu=>by rw[hnj u hu];exact λz=>nomatch z
  ·rintro σ H5 ⟨x3,x4,x5,x6,x7,rfl,s5,hno⟩;have e0:=hno 0 (by decide);have e1:=hno 1 (by decide);have ec:uA o=false:=by unfold uA;rw[e0,e1];rfl
   rw[ec] at q;nofun;exact q _ (s04.trans s5)
def rO (B:qq mg) (E:Fn K mg "_law_any_order" gQ ["_law_rest","_law_many"]):iM P w K mg base 1 "_law_any_order" gQ ["_law_rest","_law_many"] zi:=E.mk' λf fd F=>by
 refine F.okS ic (λvs H Q E h=>?_) (λcdv A outer s H vs Q E hr h=>?_)
 ·obtain⟨c,n,rfl,_⟩:=h;rfl
 ·obtain⟨c,n,rfl,n60,q⟩:=h;refine⟨[some (.int c),some (.int n),none,none],_,rfl,(L2.jr.h (aM (am (i:=2) ic.nd rfl (Or.inl rfl) (bZ aC))
   (aM (f9 bX rfl (jJ (by rfl) B.range (aF (a9 1) aC)) (cI (i:=3) ic.nd rfl (Or.inl rfl))
   (aM (gZ (kZ bi jn PySem.F.type_list_insert xt (a9 2) (bY (aX gK (a9 0) (aX dJ (a9 3) aG)) (bY (aX dJ (a9 3) aG) aC))))
    (aS (am (i:=0) ic.nd rfl (Or.inl rfl) (aX gB (a9 0) (aX dJ (a9 3) aG))))))
   (aS (bH (cN jj (by rfl) B.tuple cu (aF (a9 2) aC))))))),?_⟩
  nofun;refine⟨bO _,λl nl=>?_⟩;have sl:=(aW.refl H).new (o:=.lst []) nl;refine⟨by lia,by lia,iF (n:=n) (λi σ H2=>∃(ns:List Int) (r:Int) (x4:Option V),σ=[some (.int r),some (.int n),some (.ref l),x4]/\aW H H2/\H2 l=some (.lst (ns.map V.int))/\ns.Perm (eG 1 i))
   ⟨[],_,_,rfl,sl,aE,.refl _⟩ ?_ ?_⟩
  ·rintro i σ H2 hi ⟨ns,r0,x4,rfl,sm,hl2,pm⟩;have hl:ns.length=i:=by have:=pm.length_eq;rwa [oZ] at this
   nofun;refine⟨lC hl2,by lia,?_⟩;have m0:0<=r0 % ((0:Int)+i+1):=fE _ (by lia);have m1:r0 % ((0:Int)+i+1)<(0:Int)+i+1:=dq _ (by lia);generalize r0 % ((0:Int)+i+1)=r at m0 m1 ⊢;refine⟨l,_,r.toNat,.int ((0:Int)+i+1),rfl,by rw[Int.toNat_of_nonneg m0],hl2,by rw[aD];lia,by rw[aD];lia,?_⟩;refine⟨⟨by lia,by lia⟩,ns.take r.toNat++((0:Int)+i+1)::ns.drop r.toNat,_,_,rfl,sm.new nl,by rw[aE];simp,?_⟩;have e:eG 1 (i+1)=eG 1 i++[(0:Int)+i+1]:=by simp[eG,dc];lia
   rw[e];refine cV.trans ?_;rw[ku];exact((pm.cons _).trans (cO (l₁:=[_]) (l₂:=eG 1 i)))
  ·rintro σ H2 ⟨ns,r0,x4,rfl,sm,hl2,pm⟩;have hl:ns.length=n:=by have:=pm.length_eq;rwa [oZ] at this
   nofun;exact⟨_,.inl ⟨ce.of hl2,λt nt=>q t ns _ (sm.new (sm.free nt)) aE hl pm⟩⟩
def pY (B:qq mg) (E:Fn K mg "_law_letters_of" f6 ["_law_side","_law_order"]):iM P w K mg base 1 "_law_letters_of" f6 ["_law_side","_law_order"] sR:=E.mk' λf fd F=>by
 refine F.okS dQ (λvs H Q E h=>?_) (λcdv A outer s H vs Q E hr h=>?_)
 ·obtain⟨b,o,ns,rfl,_⟩:=h;rfl
 ·obtain⟨b,o,ns,rfl,ho,O,q⟩:=h;have nlen:=O.len;refine⟨[some (.str (sd b)),some (.ref o),none,none,none,none,none,none],_,rfl,(L2.jr.h (aM (am (i:=2) dQ.nd rfl (Or.inl rfl) (aX ft (aX ft (bZ (aU aG aC)) (cN g6 (by rfl) B.list dD (aF (a9 1) aC))) (bZ (bY (aX dJ (aY bV (by rfl) B.len aZ (aF (a9 1) aC)) aG) aC))))
   (aM (am (i:=3) dQ.nd rfl (Or.inl rfl) bM)
   (aM (f9 bX rfl (mH (by rfl) B.range (aU aG (bY (aX dJ (aY bV (by rfl) B.len aZ (aF (a9 1) aC)) aG) aC))) (cI (i:=4) dQ.nd rfl (Or.inl rfl))
   (aM (am (i:=5) dQ.nd rfl (Or.inl rfl) (kZ bi PySem.F.slot_list_index PySem.F.type_list_index Am (a9 2) (aF (a9 4) aC)))
    (aM (am (i:=6) dQ.nd rfl (Or.inl rfl) (cN gU (by rfl) B.int cA (dh (dU gp (au cQ (a9 2) (aX jL (a9 5) aG) (λ_ _=>rfl)) (a9 4) (bb _)) aC)))
    (aM (am (i:=7) dQ.nd rfl (Or.inl rfl) (cN gU (by rfl) B.int cA (dh (dU gp (au cQ (a9 2) (aX dJ (a9 5) aG) (λ_ _=>rfl)) (a9 4) (bb _)) aC)))
    (aS (cz (bK gT (dU gT (aX gK (a9 5) aG) aG (bb _)) (dU gT (a9 0) bM (bb _)) (bb _))
    (aS (am (i:=3) dQ.nd rfl (Or.inl rfl) (aX k6 (a9 3) (au pA bM (aX dJ (aX mJ aG (a9 6)) (a9 7)) (λ_ _=>rfl)))))
    (aS (am (i:=3) dQ.nd rfl (Or.inl rfl) (aX k6 (a9 3) (au pA bM (aX dJ (aX mJ aG (a9 7)) (a9 6)) (λ_ _=>rfl)))))))))))
   (aS (bH (a9 3))))))),?_⟩
  nofun;have one:(1:Nat)<=sizeLine:=by decide
  refine⟨one,λp0 n0=>?_⟩;have s0:=(aW.refl H).new (o:=.lst [V.int 0]) n0;have hp0:bW H p0 (.lst [V.int 0]) p0=some (.lst [V.int 0]):=aE;generalize bW H p0 (.lst [V.int 0])=H0 at s0 hp0 ⊢;refine⟨_,.inr (dA.of (s0 _ _ ho)),λl1 n1=>?_⟩;have s1:=(aW.refl H0).new (o:=.lst (ns.map V.int)) n1;refine mq (s1 _ _ hp0) aE (by simp;lia) λp2 H2 n2 s2 h2=>?_;have s02:=s0.trans (s1.trans s2);refine⟨_,.inr (dA.of (s02 _ _ ho)),one,λp3 n3=>?_⟩;rw[aD];have s3:=(aW.refl H2).new (o:=.lst [V.int ((ns.length:Int)+1)]) n3;refine mq (s3 _ _ h2) aE (by simp;lia) λrd H4 n4 s4 h4=>?_;have s04:=s02.trans (s3.trans s4);have erd:[V.int 0]++ns.map V.int++[V.int ((ns.length:Int)+1)]=(dS ns).map V.int:=by simp[dS]
  rw[erd] at h4;refine⟨_,.inr (dA.of (s04 _ _ ho)),⟨by decide,by decide,by simp;lia,by simp;lia⟩,?_⟩;rw[aD,show ((ns.length:Int)+1 - 1).toNat=ns.length by lia];have cl:(ip b ns).length=ns.length:=by simp[ip]
  refine iF (n:=ns.length) (λi σ H2=>∃x4 x5 x6 x7:Option V,σ=[some (.str (sd b)),some (.ref o),some (.ref rd),some (.str (tx ((ip b ns).take i))),x4,x5,x6,x7]/\H4=H2) ⟨_,_,_,_,by rw[Gf];rfl,rfl⟩ ?_ ?_
  ·rintro i σ H5 hi ⟨x4,x5,x6,x7,rfl,rfl⟩;obtain⟨k,hk⟩:=List.getElem?_of_mem (O.mem.mpr (show (1:Int)<=1+i/\(1:Int)+i<=ns.length by lia));have kl:=(aR.mp hk).1;have er:ao ns (k+1)=1+i:=nI hk;have rz:∀j,j<ns.length+2->((dS ns).map V.int)[j]? = some (.int (ao ns j)):=λj hj=>by rw[ai,fS hj];rfl
   have ll:=gR ns;nofun;refine⟨lC h4,dS ns,k+1,h4,by lia,by rw[fS (by lia),er],λm hm z=>?_,?_⟩
   ·rw[fS (by lia)] at z;have:=O.row_inj (i:=m) (j:=k+1) (by lia) (by lia) (by rw[er];exact ay z);lia
   refine⟨_,.int (ao ns k),ce.of h4,by rw[show ((k+1:Nat):Int) - 1=(k:Nat) by lia];exact iq (rz k (by lia)),?_⟩;nofun;refine⟨_,.int (ao ns (k+2)),ce.of h4,by rw[show ((k+1:Nat):Int)+1=(k+2:Nat) by lia];exact iq (rz (k+2) (by lia)),?_⟩;nofun;have tk:=y7 (b:=b) O hi (by lia) er;have sl:∀c:Nat,(tx ((ip b ns).take i)).length+(⟨#[c]⟩:Str).length<=sizeLine:=λc=>by rw[eX,dN];exact wQ (by show _+1<=900;lia)
   have fin:∀c:Nat,xu b ns (k+1)=c->tx ((ip b ns).take i)++(⟨#[c]⟩:Str)=tx ((ip b ns).take (i+1)):=λc e=>by rw[tk,e,<-qr];rfl
   refine⟨by decide,k8 (λh=>?_) (λh=>?_)⟩
   ·have h:=(tN (k+1) b).mp h;refine⟨by split<;>exact .inl ⟨by decide,by decide⟩,by rw[ue,eX];exact wQ (by decide),?_⟩;have:=uK (decide (ao ns k<1+(i:Int))) (decide (ao ns (k+2)<1+(i:Int)));simp only[PY] at this;refine⟨_,this,sl _,?_⟩;rw[fin _ (by unfold xu;rw[PX h,er];rfl)];exact⟨_,_,_,_,rfl,trivial⟩
   ·have h:¬odd (k+1)=!b:=λz=>h ((tN (k+1) b).mpr z);refine⟨by split<;>exact .inl ⟨by decide,by decide⟩,by rw[ue,eX];exact wQ (by decide),?_⟩;have:=uK (decide (ao ns (k+2)<1+(i:Int))) (decide (ao ns k<1+(i:Int)));simp only[PY] at this;refine⟨_,this,sl _,?_⟩;rw[fin _ (by unfold xu;rw[PV h,er];rfl)];exact⟨_,_,_,_,rfl,trivial⟩
  ·rintro σ H5 ⟨x4,x5,x6,x7,rfl,rfl⟩;nofun;have:=q _ s04;rw[gg (by lia)];exact this
def oh (B:qq mg) (E:Fn K mg "_law_is_crossing" fH ["_law_found","_law_side","_law_order"]):B9 P w K mg base 1 "_law_is_crossing" fH ["_law_found","_law_side","_law_order"] wI:=E.mkH λf fd F a=>by
 refine F.okH gY (λvs H Q E h=>?_) (λcdv A outer s H vs Q E hr h=>?_)
 ·obtain⟨t,o,b,ns,u,p,q,rfl,_⟩:=h;rfl
 ·obtain⟨t,o,b,ns,u,p,q',rfl,ho,O,ct,cr,hx,q⟩:=h;have nlen:=O.len;refine⟨[some (.ref t),some (.str (sd b)),some (.ref o),none,none,none],_,rfl,(L2.jr.h (aM (cz (QW.pt (iV (kY (f7 (aY (yb (K:=K) rfl) (by rfl) B.isinstance bD (aF (a9 0) (aF (jz (v:=.ty "tuple") (by rfl) B.tuple cu rfl) aC))))) (iV (bK tD (aY (jm (K:=K) rfl) (by rfl) B.len aZ (aF (a9 0) aC)) aG (bb _)) (ie (bK (mI (K:=K) rfl (vP hr)) (au (eJ (K:=K) rfl) (a9 0) aG (λ_ _=>rfl)) (cT (aU bM (aU bM aC))) (by with_unfolding_all rfl))))))
   (aS (bH gJ))
   bu)
   (aM (am (i:=3) gY.nd rfl (Or.inl rfl) (aX ft (aX ft (bZ (aU aG aC)) (cN (pp (K:=K) rfl) (by rfl) B.list dD (aF (a9 2) aC))) (bZ (bY (aX dJ (aY (jm (K:=K) rfl) (by rfl) B.len aZ (aF (a9 2) aC)) aG) aC))))
   (aM (am (i:=4) gY.nd rfl (Or.inl rfl) (bZ aC))
   (aM (xY bX hr.hd (by rfl) B.range (ci (cN gU (by rfl) B.int cA (dh (dU tD (au (eJ (K:=K) rfl) (a9 0) aG (λ_ _=>rfl)) (a9 1) (bb _)) aC)) (bY (aX jL (aY (jm (K:=K) rfl) (by rfl) B.len aZ (aF (a9 3) aC)) aG) (aU aG aC))) (cI (i:=5) gY.nd rfl (Or.inl rfl))
   (aS (gZ (IU (K:=K) rfl (kZ bi ck cj jF (a9 4) (dX (cT (ci (aY (v4 hr.hd) (by rfl) B.min gq (ar (au (kC (K:=K) rfl) (a9 3) (a9 5) (λ_ _=>rfl)) (ar (au (kC (K:=K) rfl) (a9 3) (aX dJ (a9 5) aG) (λ_ _=>rfl)) aC))) (ci (aY (v7 hr.hd) (by rfl) B.max fK (ar (au (kC (K:=K) rfl) (a9 3) (a9 5) (λ_ _=>rfl)) (ar (au (kC (K:=K) rfl) (a9 3) (aX dJ (a9 5) aG) (λ_ _=>rfl)) aC))) aC))) aC))))))
   (aM (cz (QW.pt (iV (bK (mI (K:=K) rfl (vP hr)) (au (eJ (K:=K) rfl) (a9 0) aG (λ_ _=>rfl)) (a9 4) (by with_unfolding_all rfl)) (ie (bK (mI (K:=K) rfl (vP hr)) (au (eJ (K:=K) rfl) (a9 0) aG (λ_ _=>rfl)) (a9 4) (by with_unfolding_all rfl)))))
   (aS (bH gJ))
   bu)
   (aS (bH (uj gp gp gp (au (eJ (K:=K) rfl) (au (eJ (K:=K) rfl) (a9 0) aG (λ_ _=>rfl)) aG (λ_ _=>rfl)) (au (eJ (K:=K) rfl) (au (eJ (K:=K) rfl) (a9 0) aG (λ_ _=>rfl)) aG (λ_ _=>rfl)) (au (eJ (K:=K) rfl) (au (eJ (K:=K) rfl) (a9 0) aG (λ_ _=>rfl)) aG (λ_ _=>rfl)) (au (eJ (K:=K) rfl) (au (eJ (K:=K) rfl) (a9 0) aG (λ_ _=>rfl)) aG (λ_ _=>rfl))))))))))),?_⟩
  obtain⟨a1,c1,h1,h2,h3⟩:=ct;nofun;have one:(1:Nat)<=sizeLine:=by decide
  obtain⟨z1,z2,z3⟩:=yV cr.z;refine kD (.tup h1 (.cons (.str _) (.cons (.tup h2 (.cons (.int _) (.cons (.int _) .nil))) (.cons (.tup h3 (.cons (.int _) (.cons (.int _) .nil))) .nil)))) ⟨true,rfl,ji (by decide) ?_⟩;refine⟨_,.inr (dA.of h1),ji (λz=>z rfl) ⟨_,_,dA.of h1,rfl,by decide,λp1 n1=>?_⟩⟩;have s1:=(aW.refl H).new (o:=.tup [V.str (Str.ofString "l"),V.str (Str.ofString "r")]) n1;have g1:bW H p1 (.tup [V.str (Str.ofString "l"),V.str (Str.ofString "r")]) p1=some (.tup [V.str (Str.ofString "l"),V.str (Str.ofString "r")]):=aE;generalize bW H p1 (.tup [V.str (Str.ofString "l"),V.str (Str.ofString "r")])=H1 at s1 g1 ⊢;refine⟨.str (sd u),[.str (Str.ofString "l"),.str (Str.ofString "r")],p1,_,.str _,rfl,.inr (dA.of g1),.cons (.str _) (.cons (.str _) .nil),by cases u<;>decide +kernel,by decide +kernel,bO _,false,by cases u<;>decide +kernel,ji (by decide) ?_⟩;refine⟨one,λp0 n0=>?_⟩;have s0:=(aW.refl H1).new (o:=.lst [V.int 0]) n0;have hp0:bW H1 p0 (.lst [V.int 0]) p0=some (.lst [V.int 0]):=aE;generalize bW H1 p0 (.lst [V.int 0])=H0 at s0 hp0 ⊢;have s0:=s1.trans s0;refine⟨_,.inr (dA.of (s0 _ _ ho)),λl1 n1=>?_⟩;have s1:=(aW.refl H0).new (o:=.lst (ns.map V.int)) n1;refine mq (s1 _ _ hp0) aE (by simp;lia) λp2 H2 n2 s2 h2'=>?_;have s02:=s0.trans (s1.trans s2);refine⟨_,.inr (dA.of (s02 _ _ ho)),one,λp3 n3=>?_⟩;rw[aD];have s3:=(aW.refl H2).new (o:=.lst [V.int ((ns.length:Int)+1)]) n3;refine mq (s3 _ _ h2') aE (by simp;lia) λrd H4 n4 s4 h4=>?_;have s04:=s02.trans (s3.trans s4);have erd:[V.int 0]++ns.map V.int++[V.int ((ns.length:Int)+1)]=(cG ns).map V.int:=by simp[cG]
  rw[erd] at h4;have hrl:(cG ns).length=ns.length+2:=by simp[cG]
  have rdat:∀k:Nat,k<ns.length+2->nw ((cG ns).map V.int) (k:Int)=some (V.int ((cG ns).getD k 0)):=λk hk=>iq (by
   rw[ai,aL (by lia),bf,aL (by lia)];rfl)
  clear s0 s1 s2 s3 s4 s02 h2' hp0 n0 n1 n2 n3;refine⟨bO _,λbl nb=>?_⟩;have s5:=(aW.refl H4).new (o:=.lst []) nb;have hb5:bW H4 bl (.lst []) bl=some (.lst []):=aE;have s05:=s04.trans s5;have h45:=s5 _ _ h4;have nb0:=s04.free nb;generalize bW H4 bl (.lst [])=H5 at s5 hb5 s05 h45 ⊢;have k5:=s05 _ _ h1;refine⟨_,_,dA.of k5,rfl,?_⟩;have two:(2:Nat)<=sizeLine:=by decide
  obtain⟨t0,ht0,ei⟩:∃t0:Nat,(t0=0/\u=b\/t0=1/\u=!b)/\(if (!decide (sd u=sd b))=true then (1:Int) else 0)=t0:=by
   by_cases z:u=b
   ·exact⟨0,.inl ⟨rfl,z⟩,by rw[z,P0 rfl];rfl⟩
   ·exact⟨1,.inr ⟨rfl,by cases u<;>cases b<;>first | rfl | exact absurd rfl z⟩,by rw[PZ λe=>z (E9 e)];rfl⟩
  have ht1:t0<=1:=by lia
  rw[L2.D0];refine .inr ⟨_,rfl,rd,_,rfl,.inl (ce.of h45),_,_,rfl,?_⟩;rw[ei,aD,hrl];generalize hnn:(ns.length+2-t0) / 2=nn;refine⟨⟨by lia,by lia,by lia,by lia⟩,?_⟩;have en:((((ns.length+2:Nat):Int) - 1-(t0:Int)+1) / 2).toNat=nn:=by lia
  rw[en];refine pI (λj σ H'=>∃(x5:Option V),σ=[some (.ref t),some (.str (sd b)),some (.ref o),some (.ref rd),some (.ref bl),x5]/\aW H4 H'/\ez H' bl (kG (cG ns) t0 j)) ⟨_,rfl,s5,⟨[],hb5,.nil⟩⟩ ?_ ?_
  ·rintro j σ H7 hj ⟨x5,rfl,s7,as,hbw,prs⟩;have h7:=s7 _ _ h4;have hal:as.length=(kG (cG ns) t0 j).length:=dB prs;have hbl:(kG (cG ns) t0 j).length=j:=by simp[kG]
   have k1:(t0:Int)+(j:Int)*2=((t0+j*2:Nat):Int):=by lia
   have k2:((t0+j*2:Nat):Int)+1=((t0+j*2+1:Nat):Int):=by lia
   have r1:=rdat (t0+j*2) (by lia);have r2:=rdat (t0+j*2+1) (by lia);obtain⟨xc,xd,hx0⟩:=hx;have hx7:∃C dO,H7 a=some (jW dO C a):=⟨xc,xd,s7 _ _ (s04 _ _ hx0)⟩
   nofun;rw[k1,k2];refine⟨lC hbw,_,_,ce.of h7,r1,_,_,ce.of h7,r2,hx7,_,_,rfl,_,_,ce.of h7,r1,_,_,ce.of h7,r2,hx7,_,_,rfl,two,λt nt=>?_⟩;have ntb:bl≠t:=bJ hbw nt;refine⟨as.map V.ref,by rw[aP ntb];exact hbw,bU (by rw[aD];lia),_,rfl,(s7.trans ((aW.refl _).new nt)).new nb,?_⟩;have ebw:kG (cG ns) t0 (j+1)=kG (cG ns) t0 j++[DK (cG ns) (t0+j*2)]:=by
    unfold kG;rw[dc,a6];rfl
   have em:DK (cG ns) (t0+j*2)=((if (cG ns).getD (t0+j*2+1) 0<(cG ns).getD (t0+j*2) 0 then (cG ns).getD (t0+j*2+1) 0 else (cG ns).getD (t0+j*2) 0),(if (cG ns).getD (t0+j*2+1) 0 > (cG ns).getD (t0+j*2) 0 then (cG ns).getD (t0+j*2+1) 0 else (cG ns).getD (t0+j*2) 0)):=by
    unfold DK;generalize (cG ns).getD (t0+j*2) 0=u;generalize (cG ns).getD (t0+j*2+1) 0=v;have e1:min u v=if v<u then v else u:=by rw[ja];split<;>split<;>lia
    have e2:max u v=if v > u then v else u:=by rw[jb];split<;>split<;>lia
    rw[e1,e2]
   rw[ebw,em];exact qe hbw prs nt
  ·rintro σ H7 ⟨x5,rfl,s7,hbw⟩;nofun;rw[<-hnn] at hbw;have s07:=s04.trans s7;obtain⟨xc,xd,hx0⟩:=hx;have k2:=s07 _ _ h1;have ta:=eV.same s07 h2;have tc:=eV.same s07 h3;refine⟨⟨xc,xd,s07 _ _ hx0⟩,_,_,dA.of k2,rfl,wg ta hbw ?_⟩;rw[PX rfl,P0 ((oK ht0).mpr cr.hp)];refine⟨_,rfl,ji (by decide) ⟨_,_,dA.of k2,rfl,wg tc hbw ?_⟩⟩;rw[PX rfl,P0 ((oK ht0).mpr cr.hq)];refine⟨_,rfl,ji (by decide) ⟨_,_,dA.of k2,rfl,a1,_,0,_,rfl,rfl,dA.of ta,rfl,_,_,dA.of k2,rfl,c1,_,0,_,rfl,rfl,dA.of tc,rfl,?_⟩⟩;nofun;refine mT z1 ⟨_,_,dA.of k2,rfl,a1,_,1,_,rfl,rfl,dA.of ta,rfl,?_⟩;nofun;refine mT z2 ⟨_,_,dA.of k2,rfl,c1,_,1,_,rfl,rfl,dA.of tc,rfl,?_⟩;nofun;rw[P0 z3];exact q _ s07
def Ag {J1 p7 J6 J2 J9 J5 J7 J3 J8 Ja J4:Addr} (B:qq mg) (K2:mg "RingError"=some (.ref J4)) (MC:mg "NoMaze"=some (.ref J1)) (LU:mg "Crossed"=some (.ref p7)) (MD:mg "NoWord"=some (.ref J6)) (LH:mg "NoDrawing"=some (.ref J2)) (MU:mg "NoBow"=some (.ref J9))
  (Lj:mg "NoRound"=some (.ref J5)) (ME:mg "NoCode"=some (.ref J7)) (L1:mg "NoNumber"=some (.ref J3)) (MF:mg "NoName"=some (.ref J8)) (MV:mg "NoRow"=some (.ref Ja)) (XMM:PySem.W.exmOne K (.ref J1) (.ref J4)=some true) (XMC:PySem.W.exmOne K (.ref p7) (.ref J4)=some true) (KM:yc K J1) (KC:uN K p7) (IA:yd K p7 "bows")
  (JM:B8 K J1 [J1,p7,J6,J2,J9,J5,J7,J3,J8,Ja] 0) (JC:B8 K p7 [J1,p7,J6,J2,J9,J5,J7,J3,J8,Ja] 1)
  (E:Fn K mg "_law_kinds" lY ["_law_maze"]) (MW:uO P w K mg base 6 "coded" lZ ["maze"] (wL J1 p7)) (Kb:B9 P w K mg base 1 "_law_is_crossing" fH ["_law_found","_law_side","_law_order"] wI):iM P w K mg base 7 "_law_kinds" lY ["_law_maze"] wH:=E.mk' λf fd F=>by
 refine F.okS oV (λvs H Q E h=>?_) (λcdv A outer s H vs Q E hr h=>?_)
 ·obtain⟨x,d,rfl,_⟩:=h;rfl
 ·obtain⟨x,d,rfl,hd,pl,h⟩:=h;have two:(2:Nat)<=sizeLine:=by decide
  have eight:(8:Nat)<=sizeLine:=by decide
  have oth:∀{C:Addr} {n:Nat},B8 K C [J1,p7,J6,J2,J9,J5,J7,J3,J8,Ja] n->(n=0\/n=1)->∀c∈[J9,J7,J2,J8,J3,J5,Ja,J6],PySem.W.kitOne K (.ref C) (.ref c)=some false:=by
   intro C n J hn c hc;have one:∀j,j≠n->∀d,[J1,p7,J6,J2,J9,J5,J7,J3,J8,Ja][j]? = some d->PySem.W.kitOne K (.ref C) (.ref d)=some false:=λj hj d hd=>by rw[J.kit j d hd,PZ hj]
   simp only[aI,cW,or_false] at hc;rcases hc with h | h | h | h | h | h | h | h<;>subst h
   ·exact one 4 (by lia) _ rfl
   ·exact one 6 (by lia) _ rfl
   ·exact one 3 (by lia) _ rfl
   ·exact one 8 (by lia) _ rfl
   ·exact one 7 (by lia) _ rfl
   ·exact one 5 (by lia) _ rfl
   ·exact one 9 (by lia) _ rfl
   ·exact one 2 (by lia) _ rfl
  refine⟨[some x,none,none],_,rfl,(L2.jr.h (aS (AD rfl rfl (Em MW (hr.mono (by decide)) (by rfl) (aF (a9 0) aC)) (Gp (i:=1) rfl (by rfl) K2 oV.nd rfl rfl (λa=>(aM (am (i:=2) oV.nd rfl (Or.inl rfl) (aY (uD (K:=K) rfl) (by rfl) B.isinstance bD (aF (a9 1) (dX (cT (aF (eQ (by rfl) MU) (aF (eQ (by rfl) ME) (aF (eQ (by rfl) LH) (aF (eQ (by rfl) MF) (aF (eQ (by rfl) L1) (aF (eQ (by rfl) Lj) (aF (eQ (by rfl) MV) (aF (eQ (by rfl) MD) aC))))))))) aC))))
    (aM (cz (QW.pt (iV (f7 (a9 2)) (ie (kY (f7 (aY (kc (K:=K) rfl) (by rfl) B.isinstance bD (aF (a9 1) (aF (jz (v:=.ty "ValueError") (by rfl) B.ValueError L2.nv rfl) aC))))))))
    (aS (bH (bZ (aU bM (aU bM aC)))))
    bu)
    (aM (cz (QW.pt (l3 (f7 (aY (kc (K:=K) rfl) (by rfl) B.isinstance bD (aF (a9 1) (aF (eQ (by rfl) LU) aC)))) (jw (kY (f7 (ul (a:=a) Kb (kH.of (hr.mono (by decide))) (by rfl) (pW (AH (a9 1)) (ar (au (eJ (K:=K) rfl) (a9 0) aG (λ_ _=>rfl)) (ar (au (eJ (K:=K) rfl) (a9 0) aG (λ_ _=>rfl)) aC)))))))))
    (aS (bH (bZ (aU bM (aU bM aC)))))
    bu)
    (aS (bH (bZ (aU bM (g0 (bZ (ci (aY (kc (K:=K) rfl) (by rfl) B.isinstance bD (aF (a9 1) (aF (eQ (by rfl) LU) aC))) (ci (aY (kc (K:=K) rfl) (by rfl) B.isinstance bD (aF (a9 1) (aF (eQ (by rfl) MC) aC))) aC))) aC))))))))) El)))),?_⟩
  nofun;refine⟨x,d,rfl,hd,pl,?_⟩;rcases h with ⟨bad,q⟩ | ⟨m,o,b,ns,rfl,hm,rfl,O,qn,qc⟩
  ·refine .inl ⟨bad,λH1 s1=>⟨J1,rfl,.inl ⟨XMM,λa na=>?_⟩⟩⟩;have hx:ExcAt K (bW H1 a (Ff J1 a)) a J1:=.bare aE KM;have s2:=s1.trans ((aW.refl H1).new (o:=Ff J1 a) na);nofun;refine⟨eight,λp np=>?_⟩;have s3:=(aW.refl _).new (o:=.tup [V.ref J9,V.ref J7,V.ref J2,V.ref J8,V.ref J3,V.ref J5,V.ref Ja,V.ref J6]) np;have hx2:=hx.same s3;refine⟨a,J1,p,[J9,J7,J2,J8,J3,J5,Ja,J6],false,rfl,hx2,aE,nN (oth JM (.inl rfl)),?_⟩;nofun;refine Di hx2 JM.val ⟨_,rfl,ji (λz=>nomatch z) (yD hx2 (JM.kit 1 _ rfl) ⟨_,rfl,ji (by decide) (yD hx2 (JM.kit 1 _ rfl) (yD hx2 (JM.kit 0 _ rfl) ⟨two,λp1 n1=>⟨two,λp2 n2=>?_⟩⟩))⟩)⟩;have s4:=(aW.refl _).new (o:=.lst [V.bl (decide (1=0)),V.bl (decide (0=0))]) n1;have s5:=(aW.refl _).new (o:=.lst [V.str (Str.ofString "refused"),.ref p1]) n2;exact q _ _ (s2.trans (s3.trans (s4.trans s5))) (.lst aE (.cons (.str _) (.cons (.lst (s5 _ _ aE) (.cons (.bl _) (.cons (.bl _) .nil))) .nil)))
  ·refine .inr ⟨m,o,b,ns,rfl,hm,rfl,O,λnc H1 s1 p np=>qn nc _ _ (s1.trans ((aW.refl _).new np)) (.lst aE (.cons (.str _) (.cons (.str _) .nil))),λu p hp q' hq z t dx H1 s1 ct hdx=>⟨p7,rfl,.inl ⟨XMC,λa na=>?_⟩⟩⟩;have nn:¬NC b ns:=λnc=>by rw[nc u p hp q' hq] at z;cases z
   have sx:=(aW.refl H1).new (o:=jW (some dx) p7 a) na;have ea:bW H1 a (jW (some dx) p7 a) a=some (jW (some dx) p7 a):=aE;have hdx:=sx _ _ hdx;have s2:=s1.trans sx;have ct:=ct.same sx;generalize bW H1 a (jW (some dx) p7 a)=H2 at sx ea hdx s2 ct ⊢;have hx:ExcAt K H2 a p7:=.dict ea hdx KC;nofun;refine⟨eight,λp np=>?_⟩;have s3:=(aW.refl H2).new (o:=.tup [V.ref J9,V.ref J7,V.ref J2,V.ref J8,V.ref J3,V.ref J5,V.ref Ja,V.ref J6]) np;have hp3:bW H2 p (.tup [V.ref J9,V.ref J7,V.ref J2,V.ref J8,V.ref J3,V.ref J5,V.ref Ja,V.ref J6]) p=some (.tup [V.ref J9,V.ref J7,V.ref J2,V.ref J8,V.ref J3,V.ref J5,V.ref Ja,V.ref J6]):=aE;generalize bW H2 p (.tup [V.ref J9,V.ref J7,V.ref J2,V.ref J8,V.ref J3,V.ref J5,V.ref Ja,V.ref J6])=H3 at s3 hp3 ⊢;have hx2:=hx.same s3;have hm3:=hm.same (s2.trans s3);refine⟨a,p7,p,[J9,J7,J2,J8,J3,J5,Ja,J6],false,rfl,hx2,hp3,nN (oth JC (.inr rfl)),?_⟩;nofun;refine Di hx2 JC.val ⟨_,rfl,ji (λz=>nomatch z) (yD hx2 (JC.kit 1 _ rfl) ⟨_,rfl,mT rfl ?_⟩)⟩;refine⟨a,p7,dx,_,rfl,s3 _ _ ea,s3 _ _ hdx,IA,_,_,dA.of hm3.1,rfl,_,_,dA.of hm3.1,rfl,t,o,b,ns,u,_,_,rfl,hm3.2,O,ct.same s3,⟨hp,hq,z⟩,⟨p7,some dx,s3 _ _ ea⟩,λH4 s4=>⟨_,rfl,ji (by decide) ?_⟩⟩;have hx4:=hx2.same s4;refine yD hx4 (JC.kit 1 _ rfl) (yD hx4 (JC.kit 0 _ rfl) ⟨two,λp1 n1=>⟨two,λp2 n2=>?_⟩⟩);have s5:=(aW.refl _).new (o:=.lst [V.bl (decide (1=1)),V.bl (decide (0=1))]) n1;have s6:=(aW.refl _).new (o:=.lst [V.str (Str.ofString "refused"),.ref p1]) n2;exact qc nn _ _ (s2.trans (s3.trans (s4.trans (s5.trans s6)))) (.lst aE (.cons (.str _) (.cons (.lst (s6 _ _ aE) (.cons (.bl _) (.cons (.bl _) .nil))) .nil)))
def tH (B:qq mg) (E:Fn K mg "_law_odd_maze" gz ["_law_cell","_law_side","_law_order"]):iM P w K mg base 1 "_law_odd_maze" gz ["_law_cell","_law_side","_law_order"] zh:=E.mk' λf fd F=>by
 refine F.okS j0 (λvs H Q E h=>?_) (λcdv A outer s H vs Q E hr h=>?_)
 ·obtain⟨c,b,o,ns,rfl,_⟩:=h;rfl
 ·obtain⟨c,b,o,ns,rfl,ho,O,q⟩:=h;have nlen:=O.len;have two:(2:Nat)<=sizeLine:=by decide
  have one:(1:Nat)<=sizeLine:=by decide
  have ti:∀{H':Hp} {a:Addr} {l:List Int},H' a=some (.tup (l.map V.int))->Dat H' (.ref a) (tI l):=λh=>.tup h (kE _);refine⟨[some (.int c),some (.str (sd b)),some (.ref o),none,none],_,rfl,(L2.jr.h (dn (am (i:=3) j0.nd rfl (Or.inl rfl) (aX gK (aX gB (a9 0) aG) (aX dJ (aY bV (by rfl) B.len aZ (aF (a9 2) aC)) aG)))
   (dn (am (i:=4) j0.nd rfl (Or.inl rfl) (bZ (dX (cT (aF (a9 1) (bY (aX lI (aX lI (eP oB (a9 2) fy (fA (a9 3))) (cT (aU aG (aU aG aC)))) (eP oB (a9 2) (fA (a9 3)) fy)) aC))) (dX (cT (aF (a9 1) (bY (aX lI (a9 2) (cT (bY (aX dJ (aY bV (by rfl) B.len aZ (aF (a9 2) aC)) aG) aC))) aC))) (dX (cT (aU bM (aF (a9 2) aC))) aC)))))
   (dn (am (i:=4) j0.nd rfl (Or.inl rfl) (aX ft (a9 4) (bZ (dX (cT (aF (a9 1) (ci (cN g6 (by rfl) B.list dD (aF (a9 2) aC)) aC))) (aU ig (dX (cT (aF (a9 1) aC)) (dX (cT (aF (a9 1) (bY (aX lI (aX lI (eP oB (a9 2) fy (fA (a9 3))) (cT (aU gJ aC))) (eP oB (a9 2) (fA (a9 3)) fy)) aC))) (dX (cT (aF (a9 2) (aF (a9 1) aC))) aC))))))))
   (aS (bH (au cQ (a9 4) (aX gK (a9 0) aG) (λ_ _=>rfl)))))))),?_⟩
  refine dL (λσ H'=>∃k:Nat,k<=ns.length/\σ=[some (.int c),some (.str (sd b)),some (.ref o),some (.int k),none]/\H=H') ?_ ?_
  ·nofun;refine⟨⟨by decide,by decide⟩,_,.inr (dA.of ho),?_⟩;rw[aD];have m0:0<=c / 8 % ((ns.length:Int)+1):=fE _ (by lia);have m1:c / 8 % ((ns.length:Int)+1)<(ns.length:Int)+1:=dq _ (by lia);obtain⟨k,hk⟩:=eU m0;rw[hk] at m1 ⊢;exact⟨by lia,k,by lia,rfl,trivial⟩
  rintro σ H' ⟨k,hk,rfl,rfl⟩;refine dL (λσ H'=>∃l xs,σ=[some (.int c),some (.str (sd b)),some (.ref o),some (.int k),some (.ref l)]/\aW H H'/\H' l=some (.lst xs)/\fk H' xs (GC b ns k)) ?_ ?_
  ·nofun;refine zk ho (by rw[aD];exact hk) λp1 H1 s1 h1=>⟨two,λp2 n2=>?_⟩
   have s2:=(aW.refl H1).new (o:=.tup [V.int 1,V.int 1]) n2;refine mn (s2 _ _ h1) aE (by simp;lia) λp3 H3 s3 h3=>?_;have s13:=s1.trans (s2.trans s3);refine qI (s13 _ _ ho) (by rw[aD];exact hk) λp4 H4 s4 h4=>?_;refine mn (s4 _ _ h3) h4 (by simp;lia) λp5 H5 s5 h5=>⟨two,λp6 n6=>?_⟩
   have s15:=s13.trans (s4.trans s5);have e5:(ns.map V.int).take k++[V.int 1,V.int 1]++(ns.map V.int).drop k=(ns.take k++[1,1]++ns.drop k).map V.int:=by simp
   rw[e5] at h5;have s6:=(aW.refl H5).new (o:=.tup [V.str (sd b),.ref p5]) n6;have d1:Dat (bW H5 p6 (.tup [V.str (sd b),.ref p5])) (.ref p6) (.tuple [.str (sd b),tI (ns.take k++[1,1]++ns.drop k)]):=.tup aE (.cons (.str _) (.cons (ti (s6 _ _ h5)) .nil));have s16:=s15.trans s6;generalize bW H5 p6 (.tup [V.str (sd b),.ref p5])=H6 at d1 s16 ⊢;refine⟨_,.inr (dA.of (s16 _ _ ho)),one,λp7 n7=>?_⟩;rw[aD];have s7:=(aW.refl H6).new (o:=.tup [V.int ((ns.length:Int)+2)]) n7;have s17:=s16.trans s7;refine mn (s17 _ _ ho) aE (by simp;lia) λp8 H8 s8 h8=>⟨two,λp9 n9=>?_⟩
   have e8:ns.map V.int++[V.int ((ns.length:Int)+2)]=(ns++[(ns.length:Int)+2]).map V.int:=by simp
   rw[e8] at h8;have s9:=(aW.refl H8).new (o:=.tup [V.str (sd b),.ref p8]) n9;have d2:Dat (bW H8 p9 (.tup [V.str (sd b),.ref p8])) (.ref p9) (.tuple [.str (sd b),tI (ns++[(ns.length:Int)+2])]):=.tup aE (.cons (.str _) (.cons (ti (s9 _ _ h8)) .nil));have s19:=s17.trans (s8.trans s9);have d1:=d1.same (s7.trans (s8.trans s9));generalize bW H8 p9 (.tup [V.str (sd b),.ref p8])=H9 at d2 s19 d1 ⊢;refine⟨two,λpa na=>⟨(by show 3<=sizeLine;decide),λpb nb=>?_⟩⟩;have sa:=(aW.refl H9).new (o:=.tup [V.str (Str.ofString "L"),.ref o]) na;have d3:Dat (bW H9 pa (.tup [V.str (Str.ofString "L"),.ref o])) (.ref pa) (.tuple [.str (Str.ofString "L"),tI ns]):=.tup aE (.cons (.str _) (.cons (ti (sa _ _ (s19 _ _ ho))) .nil));have sb:=(aW.refl _).new (o:=.lst [V.ref p6,.ref p9,.ref pa]) nb;exact⟨pb,_,rfl,s19.trans (sa.trans sb),aE,.cons (d1.same (sa.trans sb)) (.cons (d2.same (sa.trans sb)) (.cons (d3.same sb) .nil))⟩
  rintro σ H1 ⟨l,xs,rfl,s1,hl,hL⟩;have ho1:=s1 _ _ ho;refine dL (λσ H'=>∃l xs,σ=[some (.int c),some (.str (sd b)),some (.ref o),some (.int k),some (.ref l)]/\aW H H'/\H' l=some (.lst xs)/\fk H' xs (GC b ns k++HF b ns k)) ?_ ?_
  ·nofun;refine⟨_,.inr (dA.of ho1),λp1 n1=>⟨two,λp2 n2=>⟨one,λp3 n3=>?_⟩⟩⟩;have t1:=(aW.refl H1).new (o:=.lst (ns.map V.int)) n1;have t2:=(aW.refl _).new (o:=.tup [V.str (sd b),.ref p1]) n2;have d4:Dat (bW (bW H1 p1 (.lst (ns.map V.int))) p2 (.tup [V.str (sd b),.ref p1])) (.ref p2) (.tuple [.str (sd b),.list (ns.map PyData.int)]):=.tup aE (.cons (.str _) (.cons (.lst (t2 _ _ aE) (kE _)) .nil));have t12:=t1.trans t2;generalize bW (bW H1 p1 (.lst (ns.map V.int))) p2 (.tup [V.str (sd b),.ref p1])=H2 at d4 t12 n3 ⊢;have t3:=(aW.refl H2).new (o:=.tup [V.str (sd b)]) n3;have d6:Dat (bW H2 p3 (.tup [V.str (sd b)])) (.ref p3) (.tuple [.str (sd b)]):=.tup aE (.cons (.str _) .nil);have d4:=d4.same t3;have t13:=t12.trans t3;generalize bW H2 p3 (.tup [V.str (sd b)])=H3 at d6 d4 t13 ⊢;refine zk (t13 _ _ ho1) (by rw[aD];exact hk) λp4 H4 t4 h4=>⟨one,λp5 n5=>?_⟩
   have t5:=(aW.refl H4).new (o:=.tup [V.bl true]) n5;refine mn (t5 _ _ h4) aE (by simp;lia) λp6 H6 t6 h6=>?_;have t16:=t13.trans (t4.trans (t5.trans t6));refine qI (t16 _ _ ho1) (by rw[aD];exact hk) λp7 H7 t7 h7=>?_;refine mn (t7 _ _ h6) h7 (by simp;lia) λp8 H8 t8 h8=>⟨two,λp9 n9=>?_⟩
   have t9:=(aW.refl H8).new (o:=.tup [V.str (sd b),.ref p8]) n9;have d7:Dat (bW H8 p9 (.tup [V.str (sd b),.ref p8])) (.ref p9) (.tuple [.str (sd b),.tuple ((ns.take k).map PyData.int++[.bool true]++(ns.drop k).map PyData.int)]):=by
    refine .tup aE (.cons (.str _) (.cons (.tup (t9 _ _ h8) ?_) .nil));rw[<-List.map_take,<-List.map_drop];exact mj (mj (kE _) (.cons (.bl _) .nil)) (kE _)
   have t39:=t4.trans (t5.trans (t6.trans (t7.trans (t8.trans t9))));have d4:=d4.same t39;have d6:=d6.same t39;have t19:=t13.trans t39;generalize bW H8 p9 (.tup [V.str (sd b),.ref p8])=H9 at d7 d4 d6 t19 ⊢;refine⟨two,λpa na=>⟨(by show 5<=sizeLine;decide),λpb nb=>?_⟩⟩;have ta:=(aW.refl H9).new (o:=.tup [V.ref o,V.str (sd b)]) na;have d8:Dat (bW H9 pa (.tup [V.ref o,V.str (sd b)])) (.ref pa) (.tuple [tI ns,.str (sd b)]):=.tup aE (.cons (ti (ta _ _ (t19 _ _ ho1))) (.cons (.str _) .nil));have tb:=(aW.refl _).new (o:=.lst [V.ref p2,.non,.ref p3,.ref p9,.ref pa]) nb;have t1b:=t19.trans (ta.trans tb);have tab:=ta.trans tb;have xl:=hL.len;refine mq (t1b _ _ hl) aE (by rw[xl];show 3+5<=1000;decide) λpc Hc nc tc hc=>⟨pc,_,rfl,s1.trans (t1b.trans tc),hc,mj (hL.same (t1b.trans tc)) ?_⟩
   exact .cons ((d4.same tab).same tc) (.cons .non (.cons ((d6.same tab).same tc) (.cons ((d7.same tab).same tc) (.cons ((d8.same tb).same tc) .nil))))
  rintro σ H2 ⟨l2,xs2,rfl,s2,hl2,hL2⟩;nofun;obtain⟨v,d,hv,hd,hD⟩:=DG (i:=c % 8) hL2 (fE _ (by decide)) (by show c % 8<8;exact dq _ (by decide));exact⟨by decide,_,_,ce.of hl2,hv,q v d _ s2 hD (FS hk d hd) (HE d hd)⟩
def FR (B:qq mg) (E:Fn K mg "law" m7 ["_law_script"]) (KY:iM P w K mg base 1 "_law_cell_at" jE ["_law_script","_law_k"] (wN K)) (LV:iM P w K mg base 2 "_law_rest_of" iw ["_law_cell"] wC) (Lk:iM P w K mg base 2 "_law_code_by" jC ["_law_rest","_law_side","_law_many"] wM) (L3:iM P w K mg base 1 "_law_order_of" gx ["_law_side","_law_code"] wF) (Ll:iM P w K mg base 1 "_law_crosses" jA ["_law_side","_law_order"] Da) (LI:iM P w K mg base 1 "_law_any_order" gQ ["_law_rest","_law_many"] zi) (Kg:iM P w K mg base 1 "_law_letters_of" f6 ["_law_side","_law_order"] sR) (Ld:iM P w K mg base 7 "_law_kinds" lY ["_law_maze"] wH) (L4:iM P w K mg base 1 "_law_odd_maze" gz ["_law_cell","_law_side","_law_order"] zh):iM P w K mg base 8 "law" m7 ["_law_script"] (sS K):=E.mk' λf fd F=>by
 refine F.okS kW (λvs H Q E h=>?_) (λcdv A outer s H vs Q E hr h=>?_)
 ·obtain⟨a,ns,rfl,_⟩:=h;rfl
 ·obtain⟨a,cs0,rfl,hS,hlen,kQ⟩:=h;have two:(2:Nat)<=sizeLine:=by decide
  refine⟨[some (.ref a),none,none,none,none,none,none],_,rfl,(L2.jr.h (dn (am (i:=1) kW.nd rfl (Or.inl rfl) (bS KY (hr.mono (by decide)) (by rfl) (aF (a9 0) (aU aG aC))))
   (dn (am (i:=2) kW.nd rfl (Or.inl rfl) (au pA bM (aX gK (a9 1) aG) (λ_ _=>rfl)))
   (dn (am (i:=3) kW.nd rfl (Or.inl rfl) (bS Lk (hr.mono (by decide)) (by rfl) (ci (bS LV (hr.mono (by decide)) (by rfl) (ci (bS KY (hr.mono (by decide)) (by rfl) (aF (a9 0) (aU aG aC))) aC)) (aF (a9 2) (bY (aX gK (aX gB (a9 1) aG) aG) aC)))))
   (dn (cz (bK gT (aX gK (aX gB (a9 1) aG) aG) aG (bb _))
   (aS (am (i:=3) kW.nd rfl (Or.inl rfl) (aX k6 (aX Ci (au cQ (bZ (aU bM (aU bM aC))) (aX gK (a9 1) aG) (λ_ _=>rfl)) (aX gB (aX jL aG (aY dg (by rfl) B.len aZ (aF (a9 3) aC))) aG)) (a9 3))))
   bu)
   (dn (am (i:=4) kW.nd rfl (Or.inl rfl) (bS Ld (hr.mono (by decide)) (by rfl) (dX (cT (aF (a9 2) (ci (bS L3 (hr.mono (by decide)) (by rfl) (aF (a9 2) (aF (a9 3) aC))) aC))) aC)))
   (dn (cz (bK (Aa (pG hr)) (a9 4) (bZ (aU bM (aF (a9 3) aC))) (bb _))
   (aS (bH gJ))
   bu)
   (dn (am (i:=5) kW.nd rfl (Or.inl rfl) (bS LI (hr.mono (by decide)) (by rfl) (ci (bS LV (hr.mono (by decide)) (by rfl) (ci (bS KY (hr.mono (by decide)) (by rfl) (aF (a9 0) (aU aG aC))) aC)) (bY (aX gK (aX gB (a9 1) aG) aG) aC))))
   (dn (am (i:=6) kW.nd rfl (Or.inl rfl) (bZ (aU bM (ci (bS Kg (hr.mono (by decide)) (by rfl) (aF (a9 2) (aF (a9 5) aC))) aC))))
   (dn (cz (f7 (bS Ll (hr.mono (by decide)) (by rfl) (aF (a9 2) (aF (a9 5) aC))))
   (aS (am (i:=6) kW.nd rfl (Or.inl rfl) (bZ (aU bM (g0 (bZ (aU gJ (aU gJ aC))) aC)))))
   bu)
   (dn (cz (bK (Aa (pG hr)) (bS Ld (hr.mono (by decide)) (by rfl) (dX (cT (aF (a9 2) (aF (a9 5) aC))) aC)) (a9 6) (bb _))
   (aS (bH gJ))
   bu)
   (aS (bH (dU (Ad (pG hr)) (bS Ld (hr.mono (by decide)) (by rfl) (ci (bS L4 (hr.mono (by decide)) (by rfl) (ci (bS KY (hr.mono (by decide)) (by rfl) (aF (a9 0) (aU aG aC))) (aF (a9 2) (aF (a9 5) aC)))) aC)) (bZ (aU bM (g0 (bZ (aU gJ (aU gJ aC))) aC))) (bb _))))))))))))))),?_⟩
  refine dL (λσ H'=>∃c0:Int,σ=[some (.ref a),some (.int c0),none,none,none,none,none]/\H=H') ?_ ?_
  ·nofun;exact⟨a,cs0,0,rfl,hS,λc0=>⟨c0,rfl,rfl⟩⟩
  rintro σ H' ⟨c0,rfl,rfl⟩;refine dL (λσ H'=>σ=[some (.ref a),some (.int c0),some (.str (sd (decide (c0 % 2=1)))),none,none,none,none]/\H=H') ?_ ?_
  ·nofun;refine⟨by decide,by decide,_,HI (fE _ (by decide)) (dq _ (by decide)),?_⟩;rw[HH];exact⟨rfl,trivial⟩
  rintro σ H' ⟨rfl,rfl⟩;generalize hb:decide (c0 % 2=1)=b;refine dL (λσ H'=>∃cs,σ=[some (.ref a),some (.int c0),some (.str (sd b)),some (.str (tx cs)),none,none,none]/\aW H H'/\pR cs/\cs.length<=20/\fT (bL b) (bR b) cs 0=none) ?_ ?_
  ·nofun;refine⟨a,cs0,1,rfl,hS,λc1=>⟨c1,rfl,λr=>?_⟩⟩;nofun;have m0:0<=c0 / 2 % 6:=fE _ (by decide);have m1:c0 / 2 % 6<6:=dq _ (by decide);obtain⟨m,hm⟩:=eU m0;rw[hm] at m1 ⊢;exact⟨⟨by decide,by decide⟩,by decide,r,b,m,rfl,by lia,λcs H' s' lt h20 hn=>⟨cs,rfl,s',lt,h20,hn⟩⟩
  rintro σ H1 ⟨cs1,rfl,s1,lt1,h1,hn1⟩;refine dL (λσ H'=>∃cs,σ=[some (.ref a),some (.int c0),some (.str (sd b)),some (.str (tx cs)),none,none,none]/\aW H1 H'/\pR cs/\cs.length<=20/\fT (bL b) (bR b) cs 0=none) ?_ ?_
  ·nofun;refine⟨⟨by decide,by decide⟩,by decide,k8 (λ_=>?_) (λ_=>⟨cs1,rfl,aW.refl _,lt1,h1,hn1⟩)⟩;refine⟨two,λp np=>?_⟩;have hw:=Bt c0;rw[hb] at hw;have hw2:=zR b;have hw3:=zS b;have en:(20-((cs1.length:Nat):Int)) / 2=(((20-cs1.length) / 2:Nat):Int):=by lia
   rw[eX,en];generalize hk:(20-cs1.length) / 2=k;have kl:k*2+cs1.length<=20:=by lia
   have rl:=CF (ni b) k;rw[hw3] at rl;refine⟨by decide,_,_,ce.of aE,hw,wQ (by lia),⟨by decide,by decide⟩,tx (ni b),k,rfl,rfl,by lia,by rw[eX];lia,by rw[eX];lia,by rw[eX,hw3];lia,by rw[oG,eX];lia,_,_,rfl,rfl,?_,(List.replicate k (ni b)).flatten++cs1,by rw[oG,qr],(aW.refl _).new np,?_,by rw[bQ];lia,wW hn1 k 0⟩
   ·rw[oG,eX,eX];exact wQ (by lia)
   ·intro x hx;rcases aQ.mp hx with h1 | h1
    ·exact CD hw2 k x h1
    ·exact lt1 x h1
  clear lt1 h1 hn1;rintro σ H2 ⟨cs,rfl,s2,lt,h20,hn⟩;have s12:=s1.trans s2;clear s1 s2;obtain⟨ns,C⟩:=y6 lt h20 hn;have cF:=C.code lt;have nl:=C.ord.len;refine dL (λσ H'=>∃v,σ=[some (.ref a),some (.int c0),some (.str (sd b)),some (.str (tx cs)),some v,none,none]/\aW H2 H'/\Dat H' v (xJ cs)) ?_ ?_
  ·nofun;refine⟨b,cs,rfl,lt,h20,hn,λo T H3 s3 t1 V e h4=>⟨two,λm nm=>?_⟩⟩;have:=Fl V e C.vld C.last;subst this;rw[gM,C.ordF] at h4;have s4:=(aW.refl H3).new (o:=.tup [.str (sd b),.ref o]) nm;have hm:gf (bW H3 m (.tup [.str (sd b),.ref o])) m o b ns:=⟨aE,s4 _ _ h4⟩
   refine⟨_,_,rfl,hm.dat,vH,.inr ⟨m,o,b,ns,rfl,hm,rfl,C.ord,λnc v H5 s5 hv=>⟨v,rfl,s3.trans (s4.trans s5),by rw[cF] at hv;exact hv⟩,λnn=>absurd C.nc nn⟩⟩
  rintro σ H3 ⟨v,rfl,s3,hv⟩;refine dL (λσ H'=>σ=[some (.ref a),some (.int c0),some (.str (sd b)),some (.str (tx cs)),some v,none,none]/\aW H3 H') ?_ ?_
  ·nofun;refine⟨two,λp np=>?_⟩;have s4:=(aW.refl H3).new (o:=.lst [.str (Str.ofString "told"),.str (tx cs)]) np;exact oJ (hv.same s4) (.lst aE (.cons (.str _) (.cons (.str _) .nil))) (mW lt).1 (mW lt).2 ⟨_,rfl,ji (by decide) ⟨trivial,s4⟩⟩
  rintro σ H4 ⟨rfl,s4⟩;have s14:=s12.trans (s3.trans s4);clear s12 s3 s4 hv C cF nl;refine dL (λσ H'=>∃(o:Addr) (os:List Int),σ=[some (.ref a),some (.int c0),some (.str (sd b)),some (.str (tx cs)),some v,some (.ref o),none]/\aW H4 H'/\H' o=some (.tup (os.map V.int))/\kd os) ?_ ?_
  ·nofun;refine⟨a,cs0,2,rfl,s14.seq hS,λc2=>⟨c2,rfl,λr=>?_⟩⟩;nofun;have m0:0<=c0 / 12 % 8:=fE _ (by decide);have m1:c0 / 12 % 8<8:=dq _ (by decide);obtain⟨m,hm⟩:=eU m0;rw[hm] at m1 ⊢;exact⟨⟨by decide,by decide⟩,by decide,r,m,rfl,by lia,λl os H' s' hl ln pm=>⟨l,os,rfl,s',hl,⟨by lia,by rw[ln];exact pm⟩⟩⟩
  rintro σ H5 ⟨o,os,rfl,s5,ho,O⟩;have lO:=O.len;have s15:=s14.trans s5;have ltO:=B0 b os;refine dL (λσ H'=>∃w,σ=[some (.ref a),some (.int c0),some (.str (sd b)),some (.str (tx cs)),some v,some (.ref o),some w]/\aW H5 H'/\Dat H' w (xJ (ip b os))) ?_ ?_
  ·nofun;refine⟨b,o,os,rfl,ho,O,λH6 s6=>⟨two,λp np=>?_⟩⟩;exact⟨_,rfl,s6.trans ((aW.refl _).new np),.lst aE (.cons (.str _) (.cons (.str _) .nil))⟩
  rintro σ H6 ⟨w0,rfl,s6,hw⟩;refine dL (λσ H'=>∃w,σ=[some (.ref a),some (.int c0),some (.str (sd b)),some (.str (tx cs)),some v,some (.ref o),some w]/\aW H6 H'/\((NC b os/\Dat H' w (xJ (ip b os)))\/(¬NC b os/\Dat H' w (Ee true false)))) ?_ ?_
  ·nofun;refine⟨_,o,os,rfl,s6 _ _ ho,lO,λH7 s7=>?_⟩;refine⟨_,rfl,?_⟩;cases hc:uA os with
   | false=>exact ji (by decide) ⟨_,rfl,s7,.inl ⟨(wy b os).mp hc,hw.same s7⟩⟩
   | true=>
    refine mT rfl ⟨two,λp1 n1=>⟨two,λp2 n2=>?_⟩⟩;have s8:=(aW.refl H7).new (o:=.lst [V.bl true,V.bl false]) n1;have s9:=(aW.refl _).new (o:=.lst [V.str (Str.ofString "refused"),.ref p1]) n2;exact⟨_,rfl,s7.trans (s8.trans s9),.inr ⟨(λnc=>by rw[(wy b os).mpr nc] at hc;cases hc),.lst aE (.cons (.str _) (.cons (.lst (s9 _ _ aE) (.cons (.bl _) (.cons (.bl _) .nil))) .nil))⟩⟩
  rintro σ H7 ⟨w1,rfl,s7,hw7⟩;have ho7:=s7 _ _ (s6 _ _ ho);have s17:=s15.trans (s6.trans s7);refine dL (λσ H'=>σ=[some (.ref a),some (.int c0),some (.str (sd b)),some (.str (tx cs)),some v,some (.ref o),some w1]/\aW H7 H') ?_ ?_
  ·nofun;refine⟨two,λm nm=>?_⟩;have s8:=(aW.refl H7).new (o:=.tup [.str (sd b),.ref o]) nm;have hm:gf (bW H7 m (.tup [.str (sd b),.ref o])) m o b os:=⟨aE,s8 _ _ ho7⟩
   rcases hw7 with ⟨nc,hw7⟩ | ⟨nn,hw7⟩
   ·exact⟨_,_,rfl,hm.dat,vH,.inr ⟨m,o,b,os,rfl,hm,rfl,O,λ_ v H9 s9 hv=>oJ hv (hw7.same (s8.trans s9)) (mW ltO).1 (mW ltO).2 ⟨_,rfl,ji (by decide) ⟨trivial,s8.trans s9⟩⟩,λnn=>absurd nc nn⟩⟩
   ·exact⟨_,_,rfl,hm.dat,vH,.inr ⟨m,o,b,os,rfl,hm,rfl,O,λnc=>absurd nc nn,λ_ v H9 s9 hv=>oJ hv (hw7.same (s8.trans s9)) (by decide +kernel) (by decide +kernel) ⟨_,rfl,ji (by decide) ⟨trivial,s8.trans s9⟩⟩⟩⟩
  rintro σ H8 ⟨rfl,s8⟩;have s18:=s17.trans s8;nofun;refine⟨a,cs0,3,rfl,s18.seq hS,λc3=>⟨c3,b,o,os,rfl,s8 _ _ ho7,O,λx d H9 s9 hd bad pl=>⟨x,d,rfl,hd,pl,.inl ⟨bad,λv H10 s10 hv=>?_⟩⟩⟩⟩;refine⟨two,λp1 n1=>⟨two,λp2 n2=>?_⟩⟩;have s11:=(aW.refl H10).new (o:=.lst [V.bl false,V.bl true]) n1;have s12:=(aW.refl _).new (o:=.lst [V.str (Str.ofString "refused"),.ref p1]) n2;exact oJ (hv.same (s11.trans s12)) (.lst aE (.cons (.str _) (.cons (.lst (s12 _ _ aE) (.cons (.bl _) (.cons (.bl _) .nil))) .nil))) (by decide +kernel) (by decide +kernel) (kQ _)
end
def gW(K:P5)(x:Str)(st:Stmt):Prop:=∃(f:Addr) (oc:Value) (od an:Option Addr) (osl:Array (Option Value)) (kV doc pm cdv ct:Value),PySem.W.nsIn K mainGlobals x=some (some (.ref f))/\K.lookup f=some ⟨oc,od,.func (PySem.W.fnOf x x (io st) (ff st) (aq st) .none kV doc pm an cdv ct),osl⟩/\PySem.W.codeIn K cdv x=true/\PySem.W.keepIn K (.ref f)=true
def fnIn{K:P5}{x:Str}{st:Stmt}{f:Addr}{oc:Value}{od an:Option Addr}{osl:Array (Option Value)}{kV doc pm cdv ct:Value}(a:PySem.W.nsIn K mainGlobals x=some (some (.ref f)))(l:K.lookup f=some ⟨oc,od,.func (PySem.W.fnOf x x (io st) (ff st) (aq st) .none kV doc pm an cdv ct),osl⟩)(c:PySem.W.codeIn K cdv x=true)(k:PySem.W.keepIn K (.ref f)=true):gW K x st:=⟨_,_,_,_,_,_,_,_,_,_,a,l,c,k⟩
def eF{K:P5}{h:Heap}{mg:Str->Option Value}(X:K.In h)(G:h.Ns mainGlobals mg){x:Str}{st:Stmt}{ps:List Str}(a:gW K x st)
  (hb:∀(kV doc pm:Value) (an:Option Addr) (cdv ct:Value) (us:List Value),us.length=ps.length->bindArgs (PySem.W.fnOf x x (io st) (ff st) (aq st) .none kV doc pm an cdv ct) ⟨us,[]⟩=pure (ps.zip us)):Fn K mg x st ps:=
 let ⟨f,_,_,_,_,_,_,_,_,_,a,l,c,k⟩:=a
 have F:=BE (st:=st) l c k
 ⟨f,_,F,ba X G a,F.binds hb⟩
def all_mk {l:PySem.W.OpenLaw} {w:World} {K:P5} {h:Heap} {mg:Str->Option Value} {fa:Addr} (X:K.In h) (G:h.Ns mainGlobals mg) (hfa:mg "law"=some (.ref fa))
  (L5:gW K "crossing" iA)
  (L6:gW K "is_whole" hV)
  (Lm:gW K "is_side" iy)
  (L7:gW K "is_order" hZ)
  (Ln:gW K "is_maze" iz)
  (Kh:gW K "other_side" fZ)
  (K0:gW K "side_of_step" eO)
  (Kc:gW K "rows_of_way" fG)
  (Lp:gW K "bows_of" iB)
  (Lq:gW K "crossed" jB)
  (OE:gW K "vet" qK)
  (LJ:gW K "letter_of" gP)
  (MX:gW K "coded" lZ)
  (Lr:gW K "_law_cell_at" jE)
  (MY:gW K "_law_mixed" lX)
  (Ls:gW K "_law_rest_of" iw)
  (O4:gW K "_law_go" xP)
  (L8:gW K "_law_at_first" iD)
  (Lu:gW K "_law_closing" jD)
  (Lv:gW K "_law_code_by" jC)
  (L9:gW K "_law_order_of" gx)
  (Lw:gW K "_law_crosses" jA)
  (LK:gW K "_law_any_order" gQ)
  (Ki:gW K "_law_letters_of" f6)
  (Kd:gW K "_law_is_crossing" fH)
  (MZ:gW K "_law_kinds" lY)
  (La:gW K "_law_odd_maze" gz)
  (MG:gW K "law" m7)
  {M0:Tok} (Kj:PySem.W.nsIn K mainGlobals "MOST_RINGS"=some (some (.int 20 M0)))
  {J4:Addr} (LL:PySem.W.nsIn K mainGlobals "RingError"=some (some (.ref J4)))
  {J1:Addr} (LM:PySem.W.nsIn K mainGlobals "NoMaze"=some (some (.ref J1)))
  {p7:Addr} (LW:PySem.W.nsIn K mainGlobals "Crossed"=some (some (.ref p7)))
  {J6:Addr} (MH:PySem.W.nsIn K mainGlobals "NoWord"=some (some (.ref J6)))
  {J2:Addr} (LN:PySem.W.nsIn K mainGlobals "NoDrawing"=some (some (.ref J2)))
  {J9:Addr} (M1:PySem.W.nsIn K mainGlobals "NoBow"=some (some (.ref J9)))
  {J5:Addr} (Lx:PySem.W.nsIn K mainGlobals "NoRound"=some (some (.ref J5)))
  {J7:Addr} (MI:PySem.W.nsIn K mainGlobals "NoCode"=some (some (.ref J7)))
  {J3:Addr} (Lb:PySem.W.nsIn K mainGlobals "NoNumber"=some (some (.ref J3)))
  {J8:Addr} (MJ:PySem.W.nsIn K mainGlobals "NoName"=some (some (.ref J8)))
  {Ja:Addr} (M2:PySem.W.nsIn K mainGlobals "NoRow"=some (some (.ref Ja)))
  {NR:Addr} {dR_x dM_x:Option Addr} {cdR_x:ClassData} {slR_x slM_x:Array (Option Value)} {cM_x:Value} {es2_x:Array DictEntry} {ep2_x:Nat}
  (x_lkR:K.lookup J4=some ⟨.type "type",dR_x,.cls cdR_x,slR_x⟩) (x_eR:cdR_x.ns=NR) (x_lkM:K.lookup NR=some ⟨cM_x,dM_x,.dict es2_x ep2_x,slM_x⟩) (x_nR:L2.strKeys es2_x=true)
  (x_r1:PySem.W.nsIn K NR "__init__"=some none)
  (x_r2:PySem.W.nsIn K NR "__getattribute__"=some none)
  (x_r3:PySem.W.nsIn K NR "__getattr__"=some none)
  (x_r4:PySem.W.nsIn K NR "args"=some none)
  (x_sp:PySem.W.specialIn K (.builtin "object.__class__") "__get__"=some (some (.builtin "getset_descriptor.__get__"))) (x_tk:PySem.W.takesIn K (.builtin "object.__class__")=some true) (x_rb:PySem.W.mroIn K J4 (.type "BaseException")=some true)
  (x_rd:PySem.W.readsIn K J4 (.type "type")=true) (x_sg:PySem.W.specialIn K (.ref J4) "__getattribute__"=some (some (.builtin "type.__getattribute__"))) (x_fi:PySem.W.findCls K (.ref J4) (.type "type") "__init__"=some (.val (.builtin "ValueError.__init__")))
  {OG:Option Addr} {N3:ClassData} {N4:Array (Option Value)} (x_lk_NoWord:K.lookup J6=some ⟨.type "type",OG,.cls N3,N4⟩)
  {Mc:Option Addr} {M3:ClassData} {M4:Array (Option Value)} (x_lk_NoDrawing:K.lookup J2=some ⟨.type "type",Mc,.cls M3,M4⟩)
  {OZ:Option Addr} {OH:ClassData} {OI:Array (Option Value)} (x_lk_NoBow:K.lookup J9=some ⟨.type "type",OZ,.cls OH,OI⟩)
  {N5:Option Addr} {Mk:ClassData} {Ml:Array (Option Value)} (x_lk_NoRound:K.lookup J5=some ⟨.type "type",N5,.cls Mk,Ml⟩)
  {OJ:Option Addr} {N6:ClassData} {N7:Array (Option Value)} (x_lk_NoCode:K.lookup J7=some ⟨.type "type",OJ,.cls N6,N7⟩)
  {Mm:Option Addr} {Md:ClassData} {Me:Array (Option Value)} (x_lk_NoNumber:K.lookup J3=some ⟨.type "type",Mm,.cls Md,Me⟩)
  {OK:Option Addr} {N8:ClassData} {N9:Array (Option Value)} (x_lk_NoName:K.lookup J8=some ⟨.type "type",OK,.cls N8,N9⟩)
  {O0:Option Addr} {OL:ClassData} {OM:Array (Option Value)} (x_lk_NoRow:K.lookup Ja=some ⟨.type "type",O0,.cls OL,OM⟩)
  {MK:Addr} {Na ON:Str} {Nb:List Value} {Nc:Bool} {Nd:List Str} {Mn:List Value} {Nf:Bool} {Mo:Option Bool} {Ng Nh:Option Addr} {Ni Nj Nk Nl Nm:Option Value} {Mp:Array (Option Value)} {Nn:Value} {MT:Array DictEntry} {Np:Nat}
  (Je:K.lookup J1=some (excClassObj Na ON J1 MK Nb (.ref J4::[.type "ValueError",.type "Exception",.type "BaseException",.type "object"]) Nc Nd Mn Nf Mo Ng Ni Nj Nk Nl Nm "ValueError.__new__")) (KS:K.lookup MK=some ⟨Nn,Nh,.dict MT Np,Mp⟩) (K3:L2.strKeys MT=true)
  (K4:PySem.W.nsIn K MK "__init__"=some none)
  (K5:PySem.W.findIn K (.ref J1) "__getattribute__"=some (some (.builtin "BaseException.__getattribute__"))) (K6:PySem.W.findIn K (.ref J1) "__getattr__"=some none) (K7:PySem.W.findIn K (.ref J1) "__class__"=some (some (.builtin "object.__class__"))) (K8:PySem.W.mroIn K J1 (.type "object")=some true)
  (LO:PySem.W.mroIn K J1 (.ref J4)=some true) (LP:PySem.W.mroIn K J1 (.type "ValueError")=some true) (LQ:PySem.W.mroIn K J1 (.ref J1)=some true) (K9:PySem.W.mroIn K J1 (.type "BaseException")=some true)
  (Jc:PySem.W.mroIn K J1 (.ref p7)=some false) (Jp:(Value.ref J1==Value.ref p7)=false)
  (Jz:PySem.W.mroIn K J1 (.ref J6)=some false) (KA:(Value.ref J1==Value.ref J6)=false)
  (Jh:PySem.W.mroIn K J1 (.ref J2)=some false) (Ji:(Value.ref J1==Value.ref J2)=false)
  (KO:PySem.W.mroIn K J1 (.ref J9)=some false) (KP:(Value.ref J1==Value.ref J9)=false)
  (Jq:PySem.W.mroIn K J1 (.ref J5)=some false) (Jr:(Value.ref J1==Value.ref J5)=false)
  (KD:PySem.W.mroIn K J1 (.ref J7)=some false) (KF:(Value.ref J1==Value.ref J7)=false)
  (Jl:PySem.W.mroIn K J1 (.ref J3)=some false) (Jm:(Value.ref J1==Value.ref J3)=false)
  (KG:PySem.W.mroIn K J1 (.ref J8)=some false) (KH:(Value.ref J1==Value.ref J8)=false)
  (KQ:PySem.W.mroIn K J1 (.ref Ja)=some false) (KR:(Value.ref J1==Value.ref Ja)=false)
  {Ly:Addr} {Mq Nq:Str} {Mr:List Value} {Ms:List Str} {Mf:List Value} {Mt:Bool} {Mg:Option Bool} {Mu Mv:Option Addr} {Mw Mx Mz NA NB:Option Value} {Mh:Array (Option Value)} {ND:Value} {ML:Array DictEntry} {NE:Nat}
  {K1:Addr} {NF NG:Option Addr} {NH:Array (Option Value)} {NI NJ NK NL MM NM:Value}
  (Jb:K.lookup p7=some (excClassObj Mq Nq p7 Ly Mr (.ref J4::[.type "ValueError",.type "Exception",.type "BaseException",.type "object"]) true Ms Mf Mt Mg Mu Mw Mx Mz NA NB "ValueError.__new__")) (Ke:K.lookup Ly=some ⟨ND,Mv,.dict ML NE,Mh⟩) (Kl:L2.strKeys ML=true)
  (Km:PySem.W.nsIn K Ly "__init__"=some (some (.ref K1)))
  (Kn:PySem.W.findIn K (.ref p7) "__getattribute__"=some (some (.builtin "BaseException.__getattribute__"))) (Ko:PySem.W.findIn K (.ref p7) "__getattr__"=some none) (Kq:PySem.W.findIn K (.ref p7) "__class__"=some (some (.builtin "object.__class__"))) (Kr:PySem.W.mroIn K p7 (.type "object")=some true)
  (Ks:PySem.W.mroIn K p7 (.ref J4)=some true) (Kt:PySem.W.mroIn K p7 (.type "ValueError")=some true) (Ku:PySem.W.mroIn K p7 (.ref p7)=some true) (KU:PySem.W.mroIn K p7 (.type "BaseException")=some true)
  (Jd:PySem.W.mroIn K p7 (.ref J1)=some false) (Js:(Value.ref p7==Value.ref J1)=false)
  (Jt:PySem.W.mroIn K p7 (.ref J6)=some false) (Ju:(Value.ref p7==Value.ref J6)=false)
  (Jf:PySem.W.mroIn K p7 (.ref J2)=some false) (Jg:(Value.ref p7==Value.ref J2)=false)
  (KI:PySem.W.mroIn K p7 (.ref J9)=some false) (KJ:(Value.ref p7==Value.ref J9)=false)
  (Jn:PySem.W.mroIn K p7 (.ref J5)=some false) (Jo:(Value.ref p7==Value.ref J5)=false)
  (Jv:PySem.W.mroIn K p7 (.ref J7)=some false) (Jw:(Value.ref p7==Value.ref J7)=false)
  (Jj:PySem.W.mroIn K p7 (.ref J3)=some false) (Jk:(Value.ref p7==Value.ref J3)=false)
  (Jx:PySem.W.mroIn K p7 (.ref J8)=some false) (Jy:(Value.ref p7==Value.ref J8)=false)
  (KL:PySem.W.mroIn K p7 (.ref Ja)=some false) (KN:(Value.ref p7==Value.ref Ja)=false)
  (Kv:PySem.W.findIn K (.ref p7) "__setattr__"=some (some (.builtin "object.__setattr__"))) (Kw:PySem.W.findIn K (.ref p7) "bows"=some none)
  (Kx:K.lookup K1=some ⟨NI,NF,.func (PySem.W.fnOf "__init__" "Crossed.__init__" (io fI) (ff fI) (aq fI) .none NJ NK NL NG MM NM),NH⟩) (Ky:PySem.W.codeIn K MM "Crossed.__init__"=true) (Kz:PySem.W.keepIn K (.ref K1)=true) (LA:PySem.W.typeIn K (.ref K1)=some (.type "function")) (LB:PySem.W.keepIn K (.ref p7)=true)
  {NZ:Addr} {N0:Obj} (M5:PySem.W.nsIn K mainGlobals "SIDES"=some (some (.ref NZ))) (M6:K.lookup NZ=some N0) (M7:L2.vc N0 ["l","r"])
  (OO:PySem.W.nsIn K mainGlobals "len"=some none) (M8:PySem.W.nsIn K mainGlobals "range"=some none) (OP:PySem.W.nsIn K mainGlobals "int"=some none) (NN:PySem.W.nsIn K mainGlobals "list"=some none) (M9:PySem.W.nsIn K mainGlobals "tuple"=some none) (LC:PySem.W.nsIn K mainGlobals "isinstance"=some none) (OQ:PySem.W.nsIn K mainGlobals "str"=some none) (NO:PySem.W.nsIn K mainGlobals "bool"=some none) (MN:PySem.W.nsIn K mainGlobals "sorted"=some none) (OT:PySem.W.nsIn K mainGlobals "all"=some none) (OU:PySem.W.nsIn K mainGlobals "zip"=some none) (OV:PySem.W.nsIn K mainGlobals "max"=some none) (OW:PySem.W.nsIn K mainGlobals "min"=some none) (Lc:PySem.W.nsIn K mainGlobals "reversed"=some none) (LR:PySem.W.nsIn K mainGlobals "enumerate"=some none) (OX:PySem.W.nsIn K mainGlobals "abs"=some none) (LD:PySem.W.nsIn K mainGlobals "ValueError"=some none) :
  ∃fd:FuncData,(∀(s:Shared) (v:Value),BindsTo s fd ⟨[v],[]⟩ [("_law_script",v)])/\∀base:Heap,K.In base->base.Ns mainGlobals mg->lU l.prog w K mg base uS 8 fa fd ["_law_script"] (sS K):=by
 have B:qq mg:=⟨bA X G OO,bA X G M8,bA X G OP,bA X G NN,bA X G M9,bA X G LC,bA X G OQ,bA X G NO,bA X G MN,bA X G OT,bA X G OU,bA X G OV,bA X G OW,bA X G Lc,bA X G LR,bA X G OX,bA X G LD,⟨_,ba X G Kj⟩⟩
 have K2:mg "RingError"=some (.ref J4):=ba X G LL;have MC:mg "NoMaze"=some (.ref J1):=ba X G LM;have LU:mg "Crossed"=some (.ref p7):=ba X G LW;have MD:mg "NoWord"=some (.ref J6):=ba X G MH;have LH:mg "NoDrawing"=some (.ref J2):=ba X G LN;have MU:mg "NoBow"=some (.ref J9):=ba X G M1;have Lj:mg "NoRound"=some (.ref J5):=ba X G Lx;have ME:mg "NoCode"=some (.ref J7):=ba X G MI;have L1:mg "NoNumber"=some (.ref J3):=ba X G Lb;have MF:mg "NoName"=some (.ref J8):=ba X G MJ;have MV:mg "NoRow"=some (.ref Ja):=ba X G M2;have Lz:L2.yc K J1/\∀base:Heap,K.In base->base.Ns mainGlobals mg->OwnCls "NoMaze" J1 [.type "ValueError",.type "Exception",.type "BaseException",.type "object"] "ValueError.__new__" mg base:=⟨(L2.qY X G LM Je x_lkR (L2.l9 KS K3) K4 x_eR (L2.l9 x_lkM x_nR) x_r1 x_r2 x_r3 x_r4 gu K5 K6 K7 x_sp x_tk K8).2,λbase KB GB=>(L2.qY KB GB LM Je x_lkR (L2.l9 KS K3) K4 x_eR (L2.l9 x_lkM x_nR) x_r1 x_r2 x_r3 x_r4 gu K5 K6 K7 x_sp x_tk K8).1⟩
 have Nr:L2.Io K J1 [J1,p7,J6,J2,J9,J5,J7,J3,J8,Ja] 0:=⟨Lz.1,λj d h=>match j,h with | 0,h=>by cases h;exact L2.tU | 1,h=>by cases h;exact L2.c9 Jp Jb Jc | 2,h=>by cases h;exact L2.c9 KA x_lk_NoWord Jz | 3,h=>by cases h;exact L2.c9 Ji x_lk_NoDrawing Jh | 4,h=>by cases h;exact L2.c9 KP x_lk_NoBow KO | 5,h=>by cases h;exact L2.c9 Jr x_lk_NoRound Jq | 6,h=>by cases h;exact L2.c9 KF x_lk_NoCode KD | 7,h=>by cases h;exact L2.c9 Jm x_lk_NoNumber Jl | 8,h=>by cases h;exact L2.c9 KH x_lk_NoName KG | 9,h=>by cases h;exact L2.c9 KR x_lk_NoRow KQ | j+10,h=>by simp at h,L2.tT (by decide) LP⟩
 have Nt:PySem.W.exmOne K (.ref J1) (.ref J4)=some true:=L2.lh x_lkR LO x_rb;have Oc:PySem.W.exmOne K (.ref J1) (.ref J1)=some true:=L2.lh Je LQ K9;have N1:PySem.W.exmOne K (.ref J1) (.ref p7)=some false:=L2.lh Jb Jc KU;have LF:=λ(base:Heap) (KB:K.In base) (GB:base.Ns mainGlobals mg)=>L2.vT (f:="bows") KB GB LW Jb x_lkR (L2.l9 Ke Kl) Km x_eR (L2.l9 x_lkM x_nR) x_r1 x_r2 x_r3 x_r4 gu Kn Ko Kv Kw (by simp) F.store_ValueError.passes;have MO:L2.yd K p7 "bows":=(LF h X G).2.1;have MP:=BE (st:=fI) Kx Ky Kz;have NP:L2.uN K p7:=L2.BL (cR:=.type "type") (cdR:=cdR_x) (dR:=dR_x) (slR:=slR_x) (NR:=NR) Jb MO Kq x_sp x_tk Kr;have NQ:L2.B8 K p7 [J1,p7,J6,J2,J9,J5,J7,J3,J8,Ja] 1:=⟨λj d h=>match j,h with | 0,h=>by cases h;exact L2.c9 Js Je Jd | 1,h=>by cases h;exact L2.tU | 2,h=>by cases h;exact L2.c9 Ju x_lk_NoWord Jt | 3,h=>by cases h;exact L2.c9 Jg x_lk_NoDrawing Jf | 4,h=>by cases h;exact L2.c9 KJ x_lk_NoBow KI | 5,h=>by cases h;exact L2.c9 Jo x_lk_NoRound Jn | 6,h=>by cases h;exact L2.c9 Jw x_lk_NoCode Jv | 7,h=>by cases h;exact L2.c9 Jk x_lk_NoNumber Jj | 8,h=>by cases h;exact L2.c9 Jy x_lk_NoName Jx | 9,h=>by cases h;exact L2.c9 KN x_lk_NoRow KL | j+10,h=>by simp at h,L2.tT (by decide) Kt⟩
 have NS:PySem.W.exmOne K (.ref p7) (.ref J4)=some true:=L2.lh x_lkR Ks x_rb;have O5:PySem.W.exmOne K (.ref p7) (.ref p7)=some true:=L2.lh Jb Ku KU;have N2:PySem.W.exmOne K (.ref p7) (.ref J1)=some false:=L2.lh Je Jd K9;have UK:L2.Ii K J4 "ValueError.__init__":=⟨x_rd,x_sg,x_fi,L2.yJ⟩
 have LS:=L2.BB X G M5 M6 M7;have NT:Fn K mg "crossing" iA ["bows"]:=eF X G L5 λ_ _ _ _ _ _=>L2.sH λ_=>rfl;have NU:Fn K mg "is_whole" hV ["thing"]:=eF X G L6 λ_ _ _ _ _ _=>L2.sH λ_=>rfl;have Nu:Fn K mg "is_side" iy ["thing"]:=eF X G Lm λ_ _ _ _ _ _=>L2.sH λ_=>rfl;have NV:Fn K mg "is_order" hZ ["thing"]:=eF X G L7 λ_ _ _ _ _ _=>L2.sH λ_=>rfl;have Nv:Fn K mg "is_maze" iz ["thing"]:=eF X G Ln λ_ _ _ _ _ _=>L2.sH λ_=>rfl;have Ma:Fn K mg "other_side" fZ ["side"]:=eF X G Kh λ_ _ _ _ _ _=>L2.sH λ_=>rfl;have MQ:Fn K mg "side_of_step" eO ["maze","step"]:=eF X G K0 λ_ _ _ _ _ _=>L2.Bc λ_ _=>rfl;have MR:Fn K mg "rows_of_way" fG ["maze"]:=eF X G Kc λ_ _ _ _ _ _=>L2.sH λ_=>rfl;have Nw:Fn K mg "bows_of" iB ["maze"]:=eF X G Lp λ_ _ _ _ _ _=>L2.sH λ_=>rfl;have Nx:Fn K mg "crossed" jB ["maze"]:=eF X G Lq λ_ _ _ _ _ _=>L2.sH λ_=>rfl;have Od:Fn K mg "vet" qK ["maze"]:=eF X G OE λ_ _ _ _ _ _=>L2.sH λ_=>rfl;have Mi:Fn K mg "letter_of" gP ["left_inwards","right_inwards"]:=eF X G LJ λ_ _ _ _ _ _=>L2.Bc λ_ _=>rfl;have O1:Fn K mg "coded" lZ ["maze"]:=eF X G MX λ_ _ _ _ _ _=>L2.sH λ_=>rfl;have Ny:Fn K mg "_law_cell_at" jE ["_law_script","_law_k"]:=eF X G Lr λ_ _ _ _ _ _=>L2.Bc λ_ _=>rfl;have O2:Fn K mg "_law_mixed" lX ["_law_cell"]:=eF X G MY λ_ _ _ _ _ _=>L2.sH λ_=>rfl;have Nz:Fn K mg "_law_rest_of" iw ["_law_cell"]:=eF X G Ls λ_ _ _ _ _ _=>L2.sH λ_=>rfl;have Oh:Fn K mg "_law_go" xP ["_law_ends","_law_letter"]:=eF X G O4 λ_ _ _ _ _ _=>L2.Bc λ_ _=>rfl;have NW:Fn K mg "_law_at_first" iD ["_law_side"]:=eF X G L8 λ_ _ _ _ _ _=>L2.sH λ_=>rfl;have OA:Fn K mg "_law_closing" jD ["_law_ends"]:=eF X G Lu λ_ _ _ _ _ _=>L2.sH λ_=>rfl;have OB:Fn K mg "_law_code_by" jC ["_law_rest","_law_side","_law_many"]:=eF X G Lv λ_ _ _ _ _ _=>L2.ID λ_ _ _=>rfl;have NX:Fn K mg "_law_order_of" gx ["_law_side","_law_code"]:=eF X G L9 λ_ _ _ _ _ _=>L2.Bc λ_ _=>rfl;have OC:Fn K mg "_law_crosses" jA ["_law_side","_law_order"]:=eF X G Lw λ_ _ _ _ _ _=>L2.Bc λ_ _=>rfl;have Mj:Fn K mg "_law_any_order" gQ ["_law_rest","_law_many"]:=eF X G LK λ_ _ _ _ _ _=>L2.Bc λ_ _=>rfl;have Mb:Fn K mg "_law_letters_of" f6 ["_law_side","_law_order"]:=eF X G Ki λ_ _ _ _ _ _=>L2.Bc λ_ _=>rfl;have MS:Fn K mg "_law_is_crossing" fH ["_law_found","_law_side","_law_order"]:=eF X G Kd λ_ _ _ _ _ _=>L2.ID λ_ _ _=>rfl;have O3:Fn K mg "_law_kinds" lY ["_law_maze"]:=eF X G MZ λ_ _ _ _ _ _=>L2.sH λ_=>rfl;have NY:Fn K mg "_law_odd_maze" gz ["_law_cell","_law_side","_law_order"]:=eF X G La λ_ _ _ _ _ _=>L2.ID λ_ _ _=>rfl;have Of:Fn K mg "law" m7 ["_law_script"]:=eF X G MG λ_ _ _ _ _ _=>L2.sH λ_=>rfl;have key:∀base:Heap,K.In base->base.Ns mainGlobals mg->iM l.prog w K mg base 8 "law" m7 ["_law_script"] (sS K):=λbase KB GB=>by
  have MB:=Lz.2 base KB GB;have Lf:L2.Fv l.prog w K mg base 1 "Crossed" p7 "bows" L2.Cm:=⟨K1,_,_,_,_,_,_,(LF base KB GB).1,fW,oi (LF base KB GB).1 fW UK K2 (LF h X G).2.2 MP,LA,LB,MP.binds λ_ _ _ _ _ _=>L2.Bc λ_ _=>rfl,L2.Ai⟩
  have LZ:=tL (P:=l.prog) (w:=w) (base:=base) NT;have LX:=tJ (P:=l.prog) (w:=w) (base:=base) B NU;have Le:=ux (P:=l.prog) (w:=w) (base:=base) LS Nu;have LY:=tK B NV LX;have Lg:=uy B Nv Le LY;have Kf:=pX (P:=l.prog) (w:=w) (base:=base) Ma;have KZ:=nj MQ Kf;have Ka:=og (P:=l.prog) (w:=w) (base:=base) B MR;have KW:=vE B Nw KZ Ka;have Lh:=vA B LS Nx KW LZ;have OD:=FQ Lf MB Od Lg Lh;have LG:=rN (P:=l.prog) (w:=w) (base:=base) Mi;have MW:=Ah B O1 OD KW LG;have KY:=vD (P:=l.prog) (w:=w) (base:=base) B Ny;have MA:=Af (P:=l.prog) (w:=w) (base:=base) O2;have LV:=uw Nz MA;have OY:=HD (P:=l.prog) (w:=w) (base:=base) B Oh;have L0:=tM (P:=l.prog) (w:=w) (base:=base) NW;have Li:=vC (P:=l.prog) (w:=w) (base:=base) B OA;have Lk:=vB B OB L0 OY Li;have L3:=tG (P:=l.prog) (w:=w) (base:=base) B NX;have Ll:=uz (P:=l.prog) (w:=w) (base:=base) B OC;have LI:=rO (P:=l.prog) (w:=w) (base:=base) B Mj;have Kg:=pY (P:=l.prog) (w:=w) (base:=base) B Mb;have Kb:=oh (P:=l.prog) (w:=w) (base:=base) B MS;have Ld:=Ag B K2 MC LU MD LH MU Lj ME L1 MF MV Nt NS Lz.1 NP MO Nr.d NQ O3 MW Kb;have L4:=tH (P:=l.prog) (w:=w) (base:=base) B NY;exact FR B Of KY LV Lk L3 Ll LI Kg Ld L4
 obtain⟨f0,oc0,od0,O6,sl0,O7,O8,O9,Oa,Ob,MG,Og,_,_⟩:=MG;have e:=hfa.symm.trans (ba X G MG);cases e;refine⟨PySem.W.fnOf "law" "law" (io m7) (ff m7) (aq m7) .none O7 O8 O9 O6 Oa Ob,λs v=>.of_eq rfl,λbase KB GB=>?_⟩;obtain⟨f,fd,F,m,b,ok⟩:=(key base KB GB).ex;rw[ba X G MG] at m;cases m;obtain⟨_,_,_,_,_,_,_,_,_,rfl,lk,_⟩:=F.ex;rw[Og] at lk;cases lk;exact ok
def walk{l:PySem.W.OpenLaw}{q:Program}{loose:List Str}{XP:(Str->Option Value)->Heap->Prop}{YP:World->Heap->Prop}{d:DefRec}{K:Params->P5}(hn:l.most=some 63)(hdf:d.params.defaults=[])
  (hY:∀(w:World) (h:Heap),YP w h->(K w.params).In h)
  (F:∀(w:World) (mg:Str->Option Value) (fa:Addr) (h:Heap),(K w.params).In h->h.Ns mainGlobals mg->mg d.name=some (.ref fa) →
   ∃fd:FuncData,(∀(s:Shared) (u:Value),BindsTo s fd ⟨[u],[]⟩ [("_law_script",u)])/\∀base:Heap,(K w.params).In base->base.Ns mainGlobals mg->lU l.prog w (K w.params) mg base uS 8 fa fd ["_law_script"] (sS (K w.params))) :
  PySem.W.WalkO q loose XP YP l.row.toRowW d [] (λf vs=>PySem.call f vs):=
 L2.vg (n:=63) (k:=8) (x:="_law_script") (CX:=λ_=>uS) (sp:=λw=>sS (K w.params)) hn (by decide) hdf ⟨rfl,by decide,by decide,rfl⟩ hY F (λ_ _ a ns hl _ hS=>⟨a,ns,rfl,hS,hl,λ_=>rfl⟩) λ_ _ _ _ _ z=>z
end Rm
open PySem PySem.W PyProof.Rows
local macro_rules | `(tactic| walk_at "kf") => `(tactic| exact Rm.fnIn (by k_is) (by k_is) (by k_is) (by k_is))
set_option maxRecDepth 100000 in
set_option maxHeartbeats 0 in
theorem PySem.Challenge.cw_ringmaze_k30_codes_of_mazes_holds : PySem.Challenge.rw_ringmaze_k30_codes_of_mazes.Holds := by
 w_on; o_law; k_head; (case hw => w_witness2)
 k_fill
 refine Rm.walk (l := PySem.Challenge.rw_ringmaze_k30_codes_of_mazes) rfl rfl (λw h Y => PySem.W.kIn_of Y) ?F
 case F =>
  intro w mg fa h KX G hmg;refine' Rm.all_mk KX G hmg ?L5 ?L6 ?Lm ?L7 ?Ln ?Kh ?K0 ?Kc ?Lp ?Lq ?OE ?LJ ?MX ?Lr ?MY ?Ls ?O4 ?L8 ?Lu ?Lv ?L9 ?Lw ?LK ?Ki ?Kd ?MZ ?La ?MG ?Kj ?LL ?LM ?LW ?MH ?LN ?M1 ?Lx ?MI ?Lb ?MJ ?M2 ?x_lkR ?x_eR ?x_lkM ?x_nR ?x_r1 ?x_r2 ?x_r3 ?x_r4 ?x_sp ?x_tk ?x_rb ?x_rd ?x_sg ?x_fi ?x_lk_NoWord ?x_lk_NoDrawing ?x_lk_NoBow ?x_lk_NoRound ?x_lk_NoCode ?x_lk_NoNumber ?x_lk_NoName ?x_lk_NoRow ?Je ?KS ?K3 ?K4 ?K5 ?K6 ?K7 ?K8 ?LO ?LP ?LQ ?K9 ?Jc ?Jp ?Jz ?KA ?Jh ?Ji ?KO ?KP ?Jq ?Jr ?KD ?KF ?Jl ?Jm ?KG ?KH ?KQ ?KR ?Jb ?Ke ?Kl ?Km ?Kn ?Ko ?Kq ?Kr ?Ks ?Kt ?Ku ?KU ?Jd ?Js ?Jt ?Ju ?Jf ?Jg ?KI ?KJ ?Jn ?Jo ?Jv ?Jw ?Jj ?Jk ?Jx ?Jy ?KL ?KN ?Kv ?Kw ?Kx ?Ky ?Kz ?LA ?LB ?M5 ?M6 ?M7 ?OO ?M8 ?OP ?NN ?M9 ?LC ?OQ ?NO ?MN ?OT ?OU ?OV ?OW ?Lc ?LR ?OX ?LD
  (case L5 => walk_at "kf")
  (case L6 => walk_at "kf")
  (case Lm => walk_at "kf")
  (case L7 => walk_at "kf")
  (case Ln => walk_at "kf")
  (case Kh => walk_at "kf")
  (case K0 => walk_at "kf")
  (case Kc => walk_at "kf")
  (case Lp => walk_at "kf")
  (case Lq => walk_at "kf")
  (case OE => walk_at "kf")
  (case LJ => walk_at "kf")
  (case MX => walk_at "kf")
  (case Lr => walk_at "kf")
  (case MY => walk_at "kf")
  (case Ls => walk_at "kf")
  (case O4 => walk_at "kf")
  (case L8 => walk_at "kf")
  (case Lu => walk_at "kf")
  (case Lv => walk_at "kf")
  (case L9 => walk_at "kf")
  (case Lw => walk_at "kf")
  (case LK => walk_at "kf")
  (case Ki => walk_at "kf")
  (case Kd => walk_at "kf")
  (case MZ => walk_at "kf")
  (case La => walk_at "kf")
  (case MG => walk_at "kf")
  (case Kj => k_is)
  (case LL => k_is)
  (case LM => k_is)
  (case LW => k_is)
  (case MH => k_is)
  (case LN => k_is)
  (case M1 => k_is)
  (case Lx => k_is)
  (case MI => k_is)
  (case Lb => k_is)
  (case MJ => k_is)
  (case M2 => k_is)
  (case x_lkR => k_is)
  (case x_eR => first | rfl | k_is)
  (case x_lkM => k_is)
  (case x_nR => first | rfl | k_is)
  (case x_r1 => k_is)
  (case x_r2 => k_is)
  (case x_r3 => k_is)
  (case x_r4 => k_is)
  (case x_sp => k_is)
  (case x_tk => k_is)
  (case x_rb => k_is)
  (case x_rd => k_is)
  (case x_sg => k_is)
  (case x_fi => k_is)
  (case x_lk_NoWord => k_is)
  (case x_lk_NoDrawing => k_is)
  (case x_lk_NoBow => k_is)
  (case x_lk_NoRound => k_is)
  (case x_lk_NoCode => k_is)
  (case x_lk_NoNumber => k_is)
  (case x_lk_NoName => k_is)
  (case x_lk_NoRow => k_is)
  (case Je => k_is)
  (case KS => k_is)
  (case K3 => first | rfl | k_is)
  (case K4 => k_is)
  (case K5 => k_is)
  (case K6 => k_is)
  (case K7 => k_is)
  (case K8 => k_is)
  (case LO => k_is)
  (case LP => k_is)
  (case LQ => k_is)
  (case K9 => k_is)
  (case Jc => k_is)
  (case Jp => first | rfl | k_is)
  (case Jz => k_is)
  (case KA => first | rfl | k_is)
  (case Jh => k_is)
  (case Ji => first | rfl | k_is)
  (case KO => k_is)
  (case KP => first | rfl | k_is)
  (case Jq => k_is)
  (case Jr => first | rfl | k_is)
  (case KD => k_is)
  (case KF => first | rfl | k_is)
  (case Jl => k_is)
  (case Jm => first | rfl | k_is)
  (case KG => k_is)
  (case KH => first | rfl | k_is)
  (case KQ => k_is)
  (case KR => first | rfl | k_is)
  (case Jb => k_is)
  (case Ke => k_is)
  (case Kl => first | rfl | k_is)
  (case Km => k_is)
  (case Kn => k_is)
  (case Ko => k_is)
  (case Kq => k_is)
  (case Kr => k_is)
  (case Ks => k_is)
  (case Kt => k_is)
  (case Ku => k_is)
  (case KU => k_is)
  (case Jd => k_is)
  (case Js => first | rfl | k_is)
  (case Jt => k_is)
  (case Ju => first | rfl | k_is)
  (case Jf => k_is)
  (case Jg => first | rfl | k_is)
  (case KI => k_is)
  (case KJ => first | rfl | k_is)
  (case Jn => k_is)
  (case Jo => first | rfl | k_is)
  (case Jv => k_is)
  (case Jw => first | rfl | k_is)
  (case Jj => k_is)
  (case Jk => first | rfl | k_is)
  (case Jx => k_is)
  (case Jy => first | rfl | k_is)
  (case KL => k_is)
  (case KN => first | rfl | k_is)
  (case Kv => k_is)
  (case Kw => k_is)
  (case Kx => k_is)
  (case Ky => k_is)
  (case Kz => k_is)
  (case LA => k_is)
  (case LB => k_is)
  (case M5 => k_is)
  (case M6 => k_is)
  (case M7 => exact L2.xK rfl rfl (by decide) (.cons ⟨_, rfl⟩ (.cons ⟨_, rfl⟩ .nil)))
  (case OO => k_is)
  (case M8 => k_is)
  (case OP => k_is)
  (case NN => k_is)
  (case M9 => k_is)
  (case LC => k_is)
  (case OQ => k_is)
  (case NO => k_is)
  (case MN => k_is)
  (case OT => k_is)
  (case OU => k_is)
  (case OV => k_is)
  (case OW => k_is)
  (case Lc => k_is)
  (case LR => k_is)
  (case OX => k_is)
  (case LD => k_is)
#print axioms PySem.Challenge.cw_ringmaze_k30_codes_of_mazes_holds
