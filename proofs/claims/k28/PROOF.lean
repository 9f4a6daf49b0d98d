import PyProof.Rows.All
import Wide.All
import OpenK.AllK
import Wide.FinOn
import Lean
import PyProof.EqAt
import PyProof.EqKinds
import PyProof.TupleCall
import KE.LcSums
import PyProof.StrLawsJoin
import KE.KSortedM
import KE.KSortTup
import KE.KSortKey
import PyProof.WalkInts
import PyProof.MinMaxWalk
import KE.KRevIter
import PyProof.ReprLen
import PyProof.P3Eq
import PySem.Challenge.RW_ringmaze_k28_whole_one_round_just_for_ma
abbrev Lo:=@PySem.wpAny_mono
abbrev Lp:=@PySem.wpAny_truthy_bool
abbrev Lq:=@PySem.wpAny_pure
abbrev Lr:=@PySem.sizeLine_eq
abbrev Ls:=@PyProof.Rows.vals1
abbrev Lu:=@PySem.wpAny_call
abbrev Lv:=@PySem.codeAny_mono
abbrev Lw:=@PySem.wpAny_Call_Name_kw
abbrev Lx:=@PySem.wpAny_newObj_type
abbrev Ly:=@PyProof.Rows.mirror_perm
abbrev Lz:=@PySem.wpAny_holding
abbrev MA:=@PySem.wpAny_call_entry
abbrev MB:=@PySem.wpAny_attempt
abbrev MC:=@PySem.wpAny_ite_false
abbrev MD:=@PySem.tupleKind_room_in1
abbrev ME:=@PySem.wpAny_execs_nil
abbrev MF:=@PySem.wpAny_execs_cons
abbrev MG:=@PySem.wpAny_passesOwn
abbrev MH:=@PySem.wpAny_pyIter_tuple
abbrev MI:=@PySem.wpAny_field
abbrev MJ:=@PySem.wpAny_seqItems
abbrev MK:=@PySem.wpAny_setField
abbrev ML:=@PySem.wpAny_setField_rec
abbrev MM:=@PySem.wpAny_typeOf_ref
abbrev MN:=@if_neg
abbrev MO:=@if_pos
abbrev MP:=@decide_eq_true_eq
abbrev MQ:=@decide_eq_false
abbrev MR:=@of_decide_eq_true
abbrev MS:=@if_true
abbrev MT:=@if_false
abbrev MU:=PySem.W.Frag
abbrev aD:=@PySem.Heap.get?_push_of_some
abbrev aE:=@List.getElem?_eq_some_iff
abbrev aF:=@List.length_map
abbrev aH:=@Nat.le_refl
abbrev aL:=@List.getElem?_eq_getElem
abbrev aM:=@PySem.Heap.lt_size
abbrev aN:=@PyProof.Rows.boot_isinstance
abbrev aO:=@Nat.lt_of_lt_of_le
abbrev aP:=@PySem.Heap.get?_push_size
abbrev aQ:=@List.size_toArray
abbrev aS:=@Nat.le_of_lt
abbrev aT:=@List.mem_append
abbrev aU:=@List.mem_range
abbrev aY:=@Bool.false_ne_true
abbrev aZ:=@List.mem_cons
abbrev aa:=@List.mem_append_right
abbrev ac:=@Nat.ne_of_lt
abbrev af:=@List.mem_map
abbrev aj:=@PySem.boot_len
abbrev ak:=@List.mem_cons_of_mem
abbrev al:=@PySem.PassesOwn.never
abbrev ao:=@List.length_append
abbrev aq:=@Option.some.inj
abbrev ar:=@List.mem_singleton
abbrev aw:=@List.mem_cons_self
abbrev ax:=@List.mem_append_left
abbrev ay:=@PySem.W.mg_none_of
abbrev bA:=@PySem.F.plainAttrs_list
abbrev bD:=@List.getElem?_map
abbrev bH:=@Nat.zero_le
abbrev bI:=@List.mem_of_getElem?
abbrev bL:=@Bool.and_eq_true
abbrev bM:=@PySem.W.mg_of
abbrev bN:=@PySem.F.type_list_append
abbrev bO:=@PySem.F.slot_list_append
abbrev bP:=@Bool.false_eq_true
abbrev bR:=@List.map_cons
abbrev bY:=@List.mem_filter
abbrev bZ:=@List.take_add_one
abbrev b6:=@List.pairwise_map
abbrev b9:=@Array.getD_eq_getD_getElem?
abbrev bd:=@Nat.le_trans
abbrev bf:=@PySem.W.kia_one
abbrev bh:=@PyProof.Rows.boot_sorted
abbrev bi:=@List.length_singleton
abbrev bn:=@PyProof.Rows.boot_tuple
abbrev bq:=@PySem.W.Looks.at
abbrev bu:=@PyProof.Rows.boot_list
abbrev bv:=@List.take_length
abbrev bx:=@List.map_map
abbrev cA:=@PySem.mem_of_lookup
abbrev cE:=@PySem.W.nsMap_none_of_in
abbrev cG:=@List.map_append
abbrev cN:=@PySem.Paired.length
abbrev cO:=@PySem.F.excBase_ValueError
abbrev cP:=@Nat.lt_succ_of_lt
abbrev cQ:=@List.map_congr_left
abbrev cS:=@List.filterMap_cons
abbrev cU:=@Ne.symm
abbrev cV:=@List.getElem?_append_left
abbrev cX:=@List.not_mem_nil
abbrev cY:=@List.nodup_range
abbrev c6:=@Nat.lt_irrefl
abbrev ci:=@List.nodup_cons
abbrev cu:=@PySem.W.InstAt.type
abbrev dB:=@PyProof.Rows.callWith_type1
abbrev dC:=@Int.zero_add
abbrev dF:=@List.all_eq_true
abbrev dL:=@Nat.mod_two_eq_zero_or_one
abbrev dM:=@List.getElem?_append_right
abbrev dN:=@PySem.F.slot_tuple_iterator_next
abbrev dU:=@List.Pairwise.and_mem
abbrev dX:=@List.pairwise_iff_getElem
abbrev dY:=@Array.getElem?_eq_getElem
abbrev dZ:=@List.isPerm_iff
abbrev df:=@Nat.le_succ
abbrev dh:=@Int.le_refl
abbrev dm:=@List.countP_pos_iff
abbrev dt:=@Nat.lt_succ_self
abbrev du:=@PySem.Heap.size_push
abbrev eA:=@List.eq_nil_of_length_eq_zero
abbrev eF:=@Nat.lt_of_le_of_lt
abbrev eG:=@List.filter_append
abbrev eK:=@List.find?_cons
abbrev eM:=@List.append_nil
abbrev eV:=@List.any_cons
abbrev ee:=@PySem.Heap.get?_update_self
abbrev ef:=@PySem.F.attrBase_ValueError
abbrev eg:=@Int.toNat_natCast
abbrev fH:=@PySem.W.looks_findIn
abbrev fI:=@Array.perm_iff_toList_perm
abbrev fM:=@Nat.lt_trans
abbrev fN:=@List.length_cons
abbrev fO:=@List.drop_eq_getElem_cons
abbrev f7:=@List.range_succ
abbrev ff:=@List.pairwise_cons
abbrev fg:=@List.countP_append
abbrev fx:=@PyProof.Rows.boot_range
abbrev gK:=@PySem.W.cellsFrom_some
abbrev gM:=@Nat.ne_of_gt
abbrev gN:=@Nat.lt_or_ge
abbrev gO:=@List.getElem?_set_self
abbrev gP:=@PySem.Heap.get?_push_ne
abbrev gT:=@List.length_filter_le
abbrev gb:=@Nat.le_of_not_lt
abbrev gf:=@List.lookup_cons
abbrev gg:=@List.length_take
abbrev gk:=@Bool.true_and
abbrev hV:=@List.pairwise_append
abbrev hW:=@List.getElem?_set_ne
abbrev iD:=@PySem.W.exm_one
abbrev iE:=@Option.map_some
abbrev iF:=@List.of_mem_zip
abbrev iG:=@List.forIn_cons
abbrev iH:=@PySem.F.slot_zip_next
abbrev iI:=@PySem.F.args_tuple_iterator_next_1
abbrev iJ:=@Bool.eq_iff_iff
abbrev iM:=@List.getElem_of_mem
abbrev iN:=@List.getElem?_range
abbrev iO:=@Int.toNat_of_nonneg
abbrev iP:=@PySem.Heap.SameBut.update
abbrev iQ:=@Array.length_toList
abbrev iU:=@PySem.F.entry_tuple_iterator_next
abbrev ik:=@PySem.W.isNs_of_in
abbrev io:=@PySem.W.callWith_K
abbrev ir:=@Int.emod_lt_of_pos
abbrev iu:=@PySem.Calls.spliced_cons
abbrev iw:=@PySem.Calls.Name_function_global
abbrev jC:=@Decidable.byContradiction
abbrev jD:=@Classical.byContradiction
abbrev jP:=@List.length_range
abbrev jQ:=@List.countP_congr
abbrev jR:=@List.any_eq_false
abbrev jS:=@Classical.not_not
abbrev jT:=@Array.size_append
abbrev jY:=@Option.isSome_iff_exists
abbrev je:=@Option.getD_some
abbrev jf:=@List.getElem?_replicate
abbrev jg:=@List.ext_getElem
abbrev jh:=@List.countP_cons
abbrev ji:=@PySem.Heap.size_update
abbrev jx:=@PySem.F.plainAttrs_str
abbrev jy:=@List.length_pos_of_mem
abbrev jz:=@List.length_eq_one_iff
abbrev kA:=@List.all_map
abbrev kC:=@Int.ofNat_lt
abbrev kD:=@Int.le_of_lt
abbrev kH:=@Array.getElem?_eq_none
abbrev kL:=@List.length_nil
abbrev kM:=@List.foldl_cons
abbrev kN:=@Int.emod_nonneg
abbrev kO:=@PySem.Heap.Ns.of_isNs
abbrev kU:=@PySem.F.type_str_join
abbrev kW:=@PySem.F.type_list_pop
abbrev kX:=@PySem.F.slot_str_join
abbrev kY:=@PySem.F.slot_list_pop
abbrev kZ:=@PyProof.Rows.boot_min
abbrev k4:=@PyProof.Rows.boot_max
abbrev k6:=@PyProof.Rows.boot_int
abbrev k8:=@PyProof.Rows.boot_all
abbrev k9:=@List.length_replicate
abbrev ka:=@List.countP_mono_left
abbrev kc:=@Array.mem_of_getElem?
abbrev lA:=@Prod.ext
abbrev m8:=@Nat.le_of_eq
abbrev m9:=@List.map_nil
abbrev md:=@Int.lt_trans
set_option Elab.async false
set_option linter.all false
set_option maxRecDepth 100000
def PySem.W.Fast.tw16236570009677744589:Nat:=0
def PySem.W.Fast.tw2466231315155524191:Nat:=0
def PySem.W.Fast.tw10651680265626985727:Nat:=0
def PySem.W.Fast.tw15016513942236652666:Nat:=0
def PySem.W.Fast.tw15197181898945117353:Nat:=0
def PySem.W.Fast.tw6388865410314697507:Nat:=0
def PySem.W.Fast.tw7763487773657202890:Nat:=0
def PySem.W.Fast.tw17214109271283423268:Nat:=0
def PySem.W.Fast.tw12386433598654087281:Nat:=0
def PySem.W.Fast.tw1124806591861267347:Nat:=0
def PySem.W.Fast.tw16677206897652665213:Nat:=0
def PySem.W.Fast.tw11276327311146679372:Nat:=0
def PySem.W.Fast.tw15174973474255051682:Nat:=0
def PySem.W.Fast.tw6651667714477885340:Nat:=0
def PySem.W.Fast.tw12314087850537986626:Nat:=0
def PySem.W.Fast.tw18057484396974676541:Nat:=0
def PySem.W.Fast.tw9976758043854216530:Nat:=0
def PySem.W.Fast.tw2791747792200474692:Nat:=0
def PySem.W.Fast.tw1084059731679454015:Nat:=0
def PySem.W.Fast.tw10249286424543092247:Nat:=0
def PySem.W.Fast.tw5749559477536308001:Nat:=0
def PySem.W.Fast.tw12764283999313587631:Nat:=0
def PySem.W.Fast.tw6334266997121482684:Nat:=0
def PySem.W.Fast.tw17417223496207324050:Nat:=0
def PySem.W.Fast.tw8289577837901634597:Nat:=0
def PySem.W.Fast.tw12179532056203446752:Nat:=0
def PySem.W.Fast.tw4341178090834757049:Nat:=0
def PySem.W.Fast.tw2870733523754742858:Nat:=0
def PySem.W.Fast.tw12488393724627908340:Nat:=0
def PySem.W.Fast.tw16885143058816376952:Nat:=0
def PySem.W.Fast.tw1135246606816872846:Nat:=0
def PySem.W.Fast.tw7170582778935132120:Nat:=0
def PySem.W.Fast.tw5962379151675981162:Nat:=0
def PySem.W.Fast.tw4768397220887788426:Nat:=0
def PySem.W.Fast.tw2656064156175502627:Nat:=0
def PySem.W.Fast.tw1461234804427939828:Nat:=0
def PySem.W.Fast.tw15421717795606021228:Nat:=0
def PySem.W.Fast.tw1622449961400093567:Nat:=0
def PySem.W.Fast.tw12932485990414439009:Nat:=0
def PySem.W.Fast.tw5227640735089541252:Nat:=0
def PySem.W.Fast.tw18069539297163711426:Nat:=0
def PySem.W.Fast.tw7169141163035977511:Nat:=0
def PySem.W.Fast.tw6756709298827136542:Nat:=0
def PySem.W.Fast.tw7794995940277691795:Nat:=0
def PySem.W.Fast.tw2559502499336657278:Nat:=0
namespace PySem.W.Fast
def tw176162689937857127:=0
def tw8045510810599344010:=0
def tw12024302542272272170:=0
def tw1573723035209473321:=0
def tw6956030206201936769:=0
def tw2650252984934172467:=0
def tw8131946478283906107:=0
def tw14439909162260645280:=0
def tw1686077315659458815:=0
def tw9905074089368927677:=0
def tw10859454693742169543:=0
def tw13051194003777687830:=0
def tw12255881027334271326:=0
def tw15037881528955560498:=0
def tw1804750358779732810:=0
def tw9680537138251097747:=0
def tw9637905354703013279:=0
def tw16322451933822781152:=0
def tw7397210727565749773:=0
def tw8826320656967827717:=0
def tw14127589606591966100:=0
def tw1472932094136295534:=0
def tw12993925357511033089:=0
def tw10248603046865988033:=0
def tw9648296278973791914:=0
def tw1883270131532404325:=0
def tw4086259553750156569:=0
def tw12206329902152189470:=0
def tw1722609792028871283:=0
def tw7899352964134175629:=0
def tw5902215273208181147:=0
def tw11435838244408369419:=0
def tw6367666541387745226:=0
def tw5478407411115180202:=0
def tw8925551393082795368:=0
def tw1484602177615830595:=0
def tw16743331898103429757:=0
def tw7930363746836999078:=0
def tw13563235852315554829:=0
def tw15997184149753826946:=0
def tw15748045894706834307:=0
def tw3162523374241855100:=0
def tw2495443626207459325:=0
def tw3955010458709101771:=0
def tw2494215199165263123:=0
def tw10175148214979844489:=0
def tw5590221640349387742:=0
def tw12460565573138022929:=0
def tw1141995345068354557:=0
def tw7278913355712053150:=0
def tw11877565748511171899:=0
def tw15784507516752346330:=0
def tw8908909131499630407:=0
def tw7578295370964666594:=0
def tw5494697820005859026:=0
def tw9024104067393708310:=0
def tw6354577249743767518:=0
def tw8978061892412860692:=0
def tw9792497361856319423:=0
def tw7433142432055654947:=0
def tw18413215419491011506:=0
def tw5782665900158858883:=0
def tw13309533059372699480:=0
def tw1919805166685705325:=0
def tw10951130052529533246:=0
def tw11557902412750763487:=0
def tw7523643414412001900:=0
def tw3048534790416997079:=0
def tw5348735468337112485:=0
def tw1502258948210519437:=0
def tw14848709624005567615:=0
def tw16039484089678089616:=0
def tw15614720078421552620:=0
def tw5876685870274767643:=0
def tw14077953457008010885:=0
def tw12848611378485565707:=0
def tw4853976789072672556:=0
def tw17852363310141930010:=0
def tw3985864614762511741:=0
def tw672384271442499124:=0
def tw12716400586458582437:=0
def tw6892904354951938549:=0
def tw13545810138411361045:=0
def tw13067433770280036237:=0
def tw4030974118253308944:=0
def tw10061360609462964825:=0
def tw5019576314818981230:=0
def tw17580324915180100048:=0
def tw13199702094866324147:=0
def tw2861392103327093778:=0
def tw16547489143820794770:=0
def tw9773319396828652274:=0
def tw18032638647590644521:=0
def tw17124116930479763561:=0
def tw16684996987402197458:=0
def tw14995904581949274708:=0
def tw12471954345249902837:=0
def tw11521764183247768258:=0
def tw4378508465485942150:=0
def tw17962307312122062819:=0
def tw10224034409269496599:=0
def tw9729912138012714825:=0
def tw7653763030685329460:=0
def tw16417967196326573197:=0
def tw989684973806652169:=0
def tw4517117956437223570:=0
def tw6443324349770531639:=0
def tw3780368833954579024:=0
def tw14435205043012651243:=0
def tw17269296893993745423:=0
def tw17497946959160461066:=0
def tw13729517198494819902:=0
def tw11290245016722693149:=0
def tw17709350541345234116:=0
def tw6780285830281770233:=0
def tw17560702321091573733:=0
def tw15999151086392408275:=0
def tw2976092276183176542:=0
def tw13703391629903138460:=0
def tw12502950739084298523:=0
def tw3424095226611103082:=0
def tw1044164253382385027:=0
def tw10031559094761873522:=0
def tw5854424020345507014:=0
def tw13918193943733809741:=0
def tw3371285073606793546:=0
def tw12294758040166983025:=0
def tw1118197465354319822:=0
def tw3188986432763112059:=0
def tw2035356062817094633:=0
def tw10117404631595100484:=0
def tw15243172306405466706:=0
def tw5359462082934389905:=0
def tw8308684385584158648:=0
def tw565659901089225751:=0
def tw11474251959820131693:=0
def tw4622342201563919834:=0
def tw6111430969679379595:=0
def tw5505707996667311269:=0
def tw1667658685617909196:=0
def tw11853257658963553935:=0
def tw5045906493635727722:=0
def tw9736075693790415366:=0
def tw1788463075545507821:=0
def tw4637981055208283315:=0
def tw16325775586389161611:=0
def tw18226602834149014018:=0
def tw18167994453040834188:=0
def tw15740735027103908203:=0
def tw15722786002566730410:=0
def tw14866927796538397491:=0
def tw11453315879489151027:=0
def tw5965151725089856376:=0
def tw2472690145881112507:=0
def tw10196609643802983891:=0
def tw7970497386367502585:=0
def tw11216152843315762722:=0
def tw6880029041808731908:=0
def tw6637775435221646753:=0
def tw253634334914293316:=0
def tw16077723585030961353:=0
def tw10111204616984833994:=0
def tw18050484459867274028:=0
def tw18045369900330264054:=0
def tw15197295562398101321:=0
def tw8360910344062682971:=0
def tw4088222863809852392:=0
def tw17228654071516828805:=0
def tw15959064752479083136:=0
def tw11683989756679325160:=0
def tw2655576083670071134:=0
def tw2874465346450555461:=0
def tw16554753428217073450:=0
def tw12849312739687118578:=0
def tw5534337803003657708:=0
def tw13689038953336708984:=0
def tw5877342629017996315:=0
def tw9326243710668334520:=0
def tw15303262160600887428:=0
def tw6801959574267334318:=0
def tw6505197310361114727:=0
def tw15524715200826953688:=0
def tw10495998193413811368:=0
def tw16810407638090544856:=0
def tw1707189718842570175:=0
def tw2133659425816326955:=0
def tw17462469450055803505:=0
def tw11041246420119483921:=0
def tw16139872067381486425:=0
def tw12795998033556010544:=0
def tw14022939259434401046:=0
def tw648099656871870359:=0
def tw2808748455769814309:=0
def tw2292702880958665355:=0
def tw8879759700753614834:=0
def tw6477611243770176487:=0
def tw17125714777169918988:=0
def tw9690439785326566836:=0
def tw10935624343879476698:=0
def tw17941876837771262775:=0
def tw8945170361896659092:=0
def tw7342883728819092655:=0
def tw7297354809956728836:=0
def tw5246728565765897895:=0
def tw5090217996239801668:=0
def tw4335782523687942737:=0
def tw2948132470539817711:=0
def tw2035008483955649864:=0
def tw17678815064435670555:=0
def tw14159209911418656340:=0
def tw12769277389186398607:=0
def tw10062892151175298615:=0
def tw12795596503753445599:=0
def tw15220970967372353840:=0
def tw5200788002011592881:=0
def tw16213099230745481299:=0
def tw868050888391586893:=0
def tw15374540743660763641:=0
def tw13634247416193275152:=0
def tw3748565107363664991:=0
def tw3224544045830062165:=0
def tw8689975152422057342:=0
def tw4851882546475537643:=0
def tw4670536907815522122:=0
def tw15419591608521016539:=0
def tw9483917983339706445:=0
def tw7201820357742145516:=0
def tw9950801603294183947:=0
def tw12672391416428488849:=0
def tw9788802627898886449:=0
def tw7256408732453888434:=0
def tw5684432631093197148:=0
def tw5512960748648053211:=0
def tw1949759059119440063:=0
def tw17993258198586416083:=0
def tw1788544811095017860:=0
def tw15668210505223198406:=0
def tw14070256757075912711:=0
def tw13992392225812621955:=0
def tw10762241853360919090:=0
def tw7431704135089614804:=0
def tw4577817162086549364:=0
def tw4207167895829699863:=0
def tw3327674394654615241:=0
def tw2371831990437890670:=0
def tw1827338632438790609:=0
def tw17730377541802571484:=0
def tw17400398450059792968:=0
def tw16654707791407252619:=0
def tw14367775854327304930:=0
def tw11637443752830073899:=0
def tw3285496820695354335:=0
def tw8181512836446022754:=0
def tw3310816442942715524:=0
def tw2634644564539622340:=0
def tw17129553271667438213:=0
def tw16558746385813589692:=0
def tw16032394541151441904:=0
def tw15395547472832093218:=0
def tw13407596876325066716:=0
def tw11657252474404586345:=0
def tw11574996882558227060:=0
def tw8878513471643429994:=0
def tw8872123477393895232:=0
def tw232448309129142209:=0
def tw17827352503626855727:=0
def tw15998552717801571898:=0
def tw15844229305410943431:=0
def tw14510344512676325498:=0
def tw14146064173223154730:=0
def tw13539860966043538619:=0
def tw12338688640284034480:=0
def tw12192303877039075130:=0
def tw9915140147198008491:=0
def tw9513151381431658707:=0
def tw9139214349891335055:=0
def tw87417984787231672:=0
def tw8629591074610324728:=0
def tw8479235523588072012:=0
def tw8019791313767986598:=0
def tw7980597514141173456:=0
def tw7939868527807721265:=0
def tw7707643939001933127:=0
def tw7545699759749176026:=0
def tw7336627741744322217:=0
def tw6894937748337091913:=0
def tw6657058678520225160:=0
def tw6555142813885577167:=0
def tw652942381309415711:=0
def tw6471934892180132412:=0
def tw6143300247565269964:=0
def tw5935232485107925951:=0
def tw5832531000975534803:=0
def tw5414687643041380967:=0
def tw5399449185577904069:=0
def tw5025385227237443919:=0
def tw4967032538955654938:=0
def tw4839651565728654147:=0
def tw4524191276112847855:=0
def tw4162369538512470435:=0
def tw4036224291969293770:=0
def tw3805569536680372030:=0
def tw3783212542060273878:=0
def tw366212645262633339:=0
def tw3628037814661987104:=0
def tw354928671489027643:=0
def tw321447304467469026:=0
def tw3110286914210053001:=0
def tw3105003990696361946:=0
def tw3090902878243017574:=0
def tw3083693584518122336:=0
def tw3077256025868548612:=0
def tw2671658145340208170:=0
def tw2665389848442524728:=0
def tw2579894772608489077:=0
def tw251782373862618883:=0
def tw2487909057625574313:=0
def tw2226452384927700452:=0
def tw1967270572758993770:=0
def tw18349133951655411702:=0
def tw18272954832377143646:=0
def tw17914696371457675161:=0
def tw17884511133750919197:=0
def tw17827879966135088011:=0
def tw17715326767267428838:=0
def tw17472947793462102521:=0
def tw17236337329573589443:=0
def tw17218525496803604889:=0
def tw17194105288177269245:=0
def tw17120191777136822007:=0
def tw17085532995257211005:=0
def tw16916504732812842416:=0
def tw16585668072639161004:=0
def tw16578803130072205315:=0
def tw16523126371710803658:=0
def tw16186216236985274025:=0
def tw15646959652189499747:=0
def tw15608841064476490108:=0
def tw15552828822670012919:=0
def tw15386711260981055661:=0
def tw15218745183143949002:=0
def tw14940858135897175674:=0
def tw1462777858394898376:=0
def tw14437592548034020643:=0
def tw14362003817621383743:=0
def tw14279523128434497080:=0
def tw14129603653879158060:=0
def tw13780329853610057487:=0
def tw13752782105154589297:=0
def tw13720385730670479113:=0
def tw13522378234014820869:=0
def tw13505961778944156502:=0
def tw12767809723397590176:=0
def tw12581934361829008578:=0
def tw12579732091821802465:=0
def tw12513433793454031331:=0
def tw12369659304836204632:=0
def tw12251791225104835958:=0
def tw12064847276795319051:=0
def tw11674212553872524734:=0
def tw11665010267185154607:=0
def tw11378676667992693473:=0
def tw11366922185603548089:=0
def tw11286711150781856596:=0
def tw10999055760219659072:=0
def tw10657388424028197446:=0
def tw10324658338385968801:=0
end PySem.W.Fast
local macro_rules | `(tactic| lia) => `(tactic| first | lia -verbose | omega)
namespace L2
open PySem PySem.Spec PyProof.Rows
abbrev Key:=Sum Int Str
def qP:Key->Value->Bool
 | .inl k,v=>Value.isInt k v
 | .inr x,v=>Value.isStrOf x v
def FF(w:World):Key->Int
 | .inl k=>hashInt k
 | .inr x=>hashStr w x
theorem d8:∀{k:Key} {v:Value},qP k v=true->(∃i t,k=Sum.inl i/\v=Value.int i t)\/(∃x t,k=Sum.inr x/\v=Value.str x t)
 | .inl i,v,h=>by
  obtain⟨t,e⟩:=Value.isInt_shape (k:=i) (v:=v) h;exact .inl ⟨i,t,rfl,e⟩
 | .inr x,v,h=>by
  obtain⟨t,e⟩:=Value.isStrOf_shape (x:=x) (v:=v) h;exact .inr ⟨x,t,rfl,e⟩
theorem wu(i:Int)(t:Tok):qP (.inl i) (.int i t)=true:=by simp[qP,Value.isInt]
theorem wr(x:Str)(t:Tok):qP (.inr x) (.str x t)=true:=by simp[qP,Value.isStrOf]
theorem Co(a b:Int):decide ((Sum.inl a:Key)=Sum.inl b)=(a==b):=by
 by_cases e:a=b
 ·subst e;simp
 ·have h:¬(Sum.inl a:Key)=Sum.inl b:=λq=>e (Sum.inl.inj q);rw[MQ h];exact(beq_eq_false_iff_ne.mpr e).symm
theorem Cj(a b:Str):decide ((Sum.inr a:Key)=Sum.inr b)=decide (a=b):=by
 by_cases e:a=b
 ·subst e;simp
 ·have h:¬(Sum.inr a:Key)=Sum.inr b:=λq=>e (Sum.inr.inj q);rw[MQ h,MQ e]
theorem Cm(a:Int)(b:Str):decide ((Sum.inl a:Key)=Sum.inr b)=false:=MQ (λq=>nomatch q)
theorem Ck(a:Str)(b:Int):decide ((Sum.inr a:Key)=Sum.inl b)=false:=MQ (λq=>nomatch q)
def dk (prog : Program) (w : World) : PySem.KeyKind prog w Key where
  is := qP
  hash := FF w
  inj := fun v a b ha hb => by
    rcases d8 ha with ⟨i, t, rfl, rfl⟩ | ⟨x, t, rfl, rfl⟩
    · rcases d8 hb with ⟨j, u, rfl, e⟩ | ⟨y, u, rfl, e⟩
      · injection e with e1 _; rw [e1]
      · exact nomatch e
    · rcases d8 hb with ⟨j, u, rfl, e⟩ | ⟨y, u, rfl, e⟩
      · exact nomatch e
      · injection e with e1 _; rw [e1]
  byValue := fun k v h => by
    rcases d8 h with ⟨i, t, rfl, rfl⟩ | ⟨x, t, rfl, rfl⟩ <;> rfl
  pyHash := fun hv h => by
    rcases d8 hv with ⟨i, t, rfl, rfl⟩ | ⟨x, t, rfl, rfl⟩
    · exact wpAny_pyHash_int h
    · exact wpAny_pyHash_str h
  eqBool := fun hu hv h => by
    rcases d8 hu with ⟨i, t, rfl, rfl⟩ | ⟨x, t, rfl, rfl⟩
    · rcases d8 hv with ⟨j, u, rfl, rfl⟩ | ⟨y, u, rfl, rfl⟩
      · rw [Co] at h; exact wpAny_eqBool_int h
      · rw [Cm] at h; exact SeqAt.EqAt.int_str i t y u _ _ _ _ h
    · rcases d8 hv with ⟨j, u, rfl, rfl⟩ | ⟨y, u, rfl, rfl⟩
      · rw [Ck] at h; exact SeqAt.EqAt.str_int x t j u _ _ _ _ h
      · rw [Cj] at h; exact wpAny_eqBool_str h
  «strs» := fun k x t v h => by
    rcases d8 h with ⟨i, u, rfl, e⟩ | ⟨y, u, rfl, e⟩
    · exact nomatch e
    · injection e with e1 _
      subst e1
      cases v <;> rfl
theorem su(prog:Program)(w:World)(i:Int)(t:Tok):(dk prog w).is (.inl i) (.int i t)=true:=wu i t
theorem sr(prog:Program)(w:World)(x:Str)(t:Tok):(dk prog w).is (.inr x) (.str x t)=true:=wr x t
inductive V where
 | non | bl (b:Bool) | int (i:Int) | str (x:Str) | byt (b:Array UInt8) | flt (b:UInt64) | ref (a:Addr) | ty (n:String)
 deriving DecidableEq
def RelV:V->Value->Prop
 | .non,u=>u=Value.none
 | .bl b,u=>u=Value.bool b
 | .int i,u=>∃t,u=Value.int i t
 | .str x,u=>∃t,u=Value.str x t
 | .byt b,u=>∃t,u=Value.bytes b t
 | .flt b,u=>∃t,u=Value.float b t
 | .ref a,u=>u=Value.ref a
 | .ty n,u=>u=Value.type n
abbrev bb:List V->List Value->Prop:=Paired RelV
theorem bb.length{xs:List V}{us:List Value}(r:bb xs us):xs.length=us.length:=cN r
theorem bb.get:∀{xs:List V} {us:List Value} {i:Nat} {x:V},bb xs us->xs[i]? = some x->∃u,us[i]? = some u/\RelV x u
 | _,_,_,_,.nil,e=>by simp at e
 | _,_,0,_,.cons r _,e=>by simp at e;subst e;exact⟨_,rfl,r⟩
 | _,_,i+1,x,.cons _ t,e=>by
  obtain⟨u,h1,h2⟩:=bb.get (i:=i) (x:=x) t (by simpa using e);exact⟨u,by simpa using h1,h2⟩
theorem bb.set{x:V}{u:Value}(r:RelV x u):∀{xs:List V} {us:List Value} (i:Nat),bb xs us->bb (xs.set i x) (us.set i u)
 | _,_,_,.nil=>.nil
 | _,_,0,.cons _ t=>.cons r t
 | _,_,i+1,.cons q t=>.cons q (bb.set r i t)
theorem bb.append:∀{xs ys:List V} {us ws:List Value},bb xs us->bb ys ws->bb (xs++ys) (us++ws)
 | _,_,_,_,.nil,s=>s
 | _,_,_,_,.cons r t,s=>.cons r (bb.append t s)
theorem bb.take:∀{xs:List V} {us:List Value} (n:Nat),bb xs us->bb (xs.take n) (us.take n)
 | _,_,0,_=>.nil
 | _,_,_+1,.nil=>.nil
 | _,_,n+1,.cons r t=>.cons r (bb.take n t)
theorem bb.drop:∀{xs:List V} {us:List Value} (n:Nat),bb xs us->bb (xs.drop n) (us.drop n)
 | _,_,0,r=>r
 | _,_,_+1,.nil=>.nil
 | _,_,n+1,.cons _ t=>bb.drop n t
def pU:Option V->Option Value->Prop
 | some v,some u=>RelV v u
 | none,none=>True
 | _,_=>False
def KV{κ:Type}:List (κ×V)->List (κ×Value)->Prop:=Paired λ(p:κ×V) (q:κ×Value)=>p.1=q.1/\RelV p.2 q.2
def kV:Key->V
 | .inl i=>.int i
 | .inr x=>.str x
inductive HO where
  | lst (xs:List V)
  | tup (xs:List V)
  | dK (kvs:List (Key×V)) | dT (kvs:List (List Key×V))
  | set (S:Int->Bool) (n:Nat)
  | ins (C dx:Addr) (fs:List (Str×V))
  | own (x:Addr)
  | xd (fs:List (Str×V))
  | met (f x:Addr)
  | rng (lo hi:Int)
  | frz (o:Obj) (u:HO)
  | tbl (ps:Array Value)
  | ext (φ:Heap->Prop)
abbrev Hp:=Addr->Option HO
def bU(H:Hp)(a:Addr)(o:HO):Hp:=λb=>if b=a then some o else H b
theorem aC{H:Hp}{a:Addr}{o:HO}:bU H a o a=some o:=by unfold bU;rw[MO rfl]
theorem aK{H:Hp}{a b:Addr}{o:HO}(h:b≠a):bU H a o b=H b:=by unfold bU;rw[MN h]
theorem vm{H:Hp}{a b:Addr}{o u:HO}(h:H a=some o)(h':H b=some u)(d:o≠u):a≠b:=by
 intro e;subst e;rw[h] at h';exact d (aq h')
theorem av{H:Hp}{a b:Addr}{o:HO}(h:H a=some o)(h':H b=none):a≠b:=by
 intro e;subst e;rw[h] at h';cases h'
section
variable (P:Program) (w:World)
def cL (H : Hp) (h : Heap) (a : Addr) : HO → Prop
 | .lst xs => xs.length ≤ sizeLine ∧ ∃ (its : List Value) (n : Nat), bb xs its ∧ h.get? a = some { cls := .type "list", data := .seq its.toArray n }
 | .tup xs => xs.length ≤ sizeLine ∧ ∃ its : List Value, bb xs its ∧ IsTup h a its.toArray
 | .dK kvs => kvs.length ≤ sizeLine ∧ (a == sysModules) = false ∧ ∃ vs, KV kvs vs ∧ h.DictOf (dk P w) a vs
 | .dT kvs => kvs.length ≤ sizeLine ∧ (a == sysModules) = false ∧ ∃ xs : List (List Key × Addr × Value),
   Paired (fun (p : List Key × V) (q : List Key × Addr × Value) => p.1 = q.1 ∧ H q.2.1 = some (.tup (p.1.map kV)) ∧ RelV p.2 q.2.2) kvs xs ∧
   ∃ o es ep, h.get? a = some o ∧ o.ExactDict ∧ o.data = .dict es ep ∧ es.toList = xs.map (entryOfKey (tupleKind (dk P w))) ∧ (xs.map (·.1)).Nodup
 | .set S n => h.SetOf (intKind P w) a S n
 | .ins C dx fs => H dx = some (.own a) ∧ fs.length ≤ 1000 ∧ dx ≠ a ∧ h.get? a = some (PySem.W.instObj C dx) ∧
   ∃ mA, h.Ns1 dx mA ∧ (∀ f, pU (fs.lookup f) (mA f)) ∧ PySem.Within mA (fs.map (·.1))
 | .own _ => ∃ o, h.get? a = some o
 | .xd fs => ∃ mA, h.Ns1 a mA ∧ ∀ f, pU (fs.lookup f) (mA f)
 | .rng lo hi => ∃ t u v, h.get? a = some { cls := .type "range", data := .fields #[.int lo t, .int hi u, .int 1 v] }
 | .frz o u => h.get? a = some o ∧ cL H h a u
 | .tbl ps => h.get? a = some { cls := .none, data := .fields ps }
 | .met f x => h.get? a = some (PySem.W.methodObj (.ref f) (.ref x))
 | .ext φ => φ h ∧ (∃ o, h.get? a = some o) ∧ ∀ h1 h2 : Heap, φ h1 → (∀ o, h1.get? a = some o → h2.get? a = some o) → φ h2
def lC(H:Hp)(h:Heap):Prop:=∀a o,H a=some o->cL P w H h a o
end
section
variable {P:Program} {w:World} {H H':Hp} {h h':Heap} {a:Addr} {o:HO}
theorem cL.lt(x:cL P w H h a o):a<h.objs.size:=by
 cases o with
 | lst xs=>obtain⟨_,_,_,_,e⟩:=x;exact aM e
 | tup xs=>obtain⟨_,_,_,p⟩:=x;exact p.lt
 | dK kvs=>obtain⟨_,_,_,_,o,_,_,e,_⟩:=x;exact aM e
 | dT kvs=>obtain⟨_,_,_,_,o,_,_,e,_⟩:=x;exact aM e
 | set S n=>obtain⟨o,_,_,_,e,_⟩:=x;exact aM e
 | ins C dx fs=>obtain⟨_,_,_,e,_⟩:=x;exact aM e
 | own y=>obtain⟨_,e⟩:=x;exact aM e
 | xd fs=>obtain⟨_,⟨_,_,_,e,_⟩,_⟩:=x;exact aM e
 | rng lo hi=>obtain⟨_,_,_,e⟩:=x;exact aM e
 | frz ob u=>obtain⟨e,_⟩:=x;exact aM e
 | tbl ps=>exact aM (show h.get? a=some _ from x)
 | met f y=>exact aM (show h.get? a=some _ from x)
 | ext φ=>obtain⟨_,⟨_,e⟩,_⟩:=x;exact aM e
theorem Paired.mapP{α β:Type}{F G:α->β->Prop}:∀{l₁:List α} {l₂:List β},Paired F l₁ l₂->(∀a b,F a b->G a b)->Paired G l₁ l₂
 | _,_,.nil,_=>.nil
 | _,_,.cons r t,f=>.cons (f _ _ r) (Paired.mapP t f)
theorem cL.stay(x:cL P w H h a o)(k:∀b u,(b=a\/H b=some (.own a))->h.get? b=some u->h'.get? b=some u)
  (ho:∀b,H b=some (.own a)->H' b=some (.own a)) (ht:∀b xs,H b=some (.tup xs)->H' b=some (.tup xs)):cL P w H' h' a o:=by
 induction o with
 | lst xs=>obtain⟨z,its,n,r,e⟩:=x;exact⟨z,its,n,r,k _ _ (.inl rfl) e⟩
 | tup xs=>obtain⟨z,its,r,ob,e,c⟩:=x;exact⟨z,its,r,ob,k _ _ (.inl rfl) e,c⟩
 | dK kvs=>obtain⟨z,y,vs,r,ob,es,ep,e,c⟩:=x;exact⟨z,y,vs,r,ob,es,ep,k _ _ (.inl rfl) e,c⟩
 | dT kvs=>
  obtain⟨z,y,xs,r,ob,es,ep,e,c⟩:=x;exact⟨z,y,xs,Paired.mapP r λp q z=>⟨z.1,ht _ _ z.2.1,z.2.2⟩,ob,es,ep,k _ _ (.inl rfl) e,c⟩
 | set S n=>obtain⟨ob,es,ep,t,e,c⟩:=x;exact⟨ob,es,ep,t,k _ _ (.inl rfl) e,c⟩
 | ins C dx fs=>
  obtain⟨d,z,ne,e,mA,⟨od,es,ep,e2,c⟩,r⟩:=x;exact⟨ho _ d,z,ne,k _ _ (.inl rfl) e,mA,⟨od,es,ep,k _ _ (.inr d) e2,c⟩,r⟩
 | own y=>obtain⟨ob,e⟩:=x;exact⟨ob,k _ _ (.inl rfl) e⟩
 | xd fs=>obtain⟨mA,⟨od,es,ep,e,c⟩,r⟩:=x;exact⟨mA,⟨od,es,ep,k _ _ (.inl rfl) e,c⟩,r⟩
 | rng lo hi=>obtain⟨t,u,v,e⟩:=x;exact⟨t,u,v,k _ _ (.inl rfl) e⟩
 | frz ob u ih=>obtain⟨e,q⟩:=x;exact⟨k _ _ (.inl rfl) e,ih q⟩
 | tbl ps=>
  have e:h.get? a=some { cls:=.none,data:=.fields ps }:=x;show h'.get? a=some { cls:=.none,data:=.fields ps };exact k a _ (.inl rfl) e
 | met f y=>
  have e:h.get? a=some (PySem.W.methodObj (.ref f) (.ref y)):=x;show h'.get? a=some (PySem.W.methodObj (.ref f) (.ref y));exact k a _ (.inl rfl) e
 | ext φ=>obtain⟨p,⟨o,e⟩,st⟩:=x;exact⟨st _ _ p λo q=>k _ _ (.inl rfl) q,⟨o,k _ _ (.inl rfl) e⟩,st⟩
theorem lC.lt(x:lC P w H h)(e:H a=some o):a<h.objs.size:=(x a o e).lt
theorem lC.fresh(x:lC P w H h)(e:h.objs.size<=a):H a=none:=by
 cases q:H a with
 | none=>rfl
 | some u=>exact absurd (aO (x.lt q) e) (c6 _)
theorem lC.kept(x:lC P w H h)(k:∀b u,h.get? b=some u->h'.get? b=some u):lC P w H h':=λa o e=>
 (x a o e).stay (λb u _ q=>k b u q) (λ_ q=>q) λ_ _ q=>q
theorem lC.laid(x:lC P w H h)(k:∀b u,h.get? b=some u->h'.get? b=some u)(hp:h.objs.size<=a)(new:cL P w (bU H a o) h' a o):lC P w (bU H a o) h':=λb u e=>by
 have hn:=x.fresh hp;by_cases hb:b=a
 ·subst hb;rw[aC] at e;cases e;exact new
 ·rw[aK hb] at e;exact(x b u e).stay (λc v _ q=>k c v q) (λc q=>by rw[aK (av q hn)];exact q) λc xs q=>by rw[aK (av q hn)];exact q
end
def Rd(H:Hp)(a:Addr)(u:HO):Prop:=H a=some u\/∃o,H a=some (.frz o u)
theorem Rd.ok{P:Program}{w:World}{H:Hp}{h:Heap}{a:Addr}{u:HO}(r:Rd H a u)(x:lC P w H h):cL P w H h a u:=by
 rcases r with r | ⟨o,r⟩
 ·exact x a u r
 ·obtain⟨_,q⟩:=x a _ r;exact q
def E8:Option HO->Prop
 | some (.lst _)=>True
 | some (.dK _)=>True
 | some (.dT _)=>True
 | some (.set _ _)=>True
 | some (.ins _ _ _)=>True
 | some (.ext _)=>True
 | _=>False
section
variable {P:Program} {w:World} {H:Hp} {h h':Heap} {x e:Addr} {o':HO}
theorem lC.write(ok:lC P w H h)(mu:E8 (H x))(he:e=x\/H e=some (.own x))(k:∀b u,b≠e->h.get? b=some u->h'.get? b=some u)(heo:∃u,h'.get? e=some u)
  (new:cL P w (bU H x o') h' x o'):lC P w (bU H x o') h':=λb u q=>by
 have nown:∀c y,H c=some (.own y)->c≠x:=λc y r z=>by subst z;rw[r] at mu;exact mu
 have ntup:∀c xs,H c=some (.tup xs)->c≠x:=λc xs r z=>by subst z;rw[r] at mu;exact mu
 by_cases hb:b=x
 ·subst hb;rw[aC] at q;cases q;exact new
 ·rw[aK hb] at q;by_cases hbe:b=e
  ·have q':H b=some (.own x):=by
    rcases he with z | z
    ·exact absurd (hbe.trans z) hb
    ·rw[hbe];exact z
   rw[q] at q';cases q';obtain⟨v,hv⟩:=heo;exact⟨v,by rw[hbe];exact hv⟩
  ·refine(ok b u q).stay (λc v hc r=>k c v ?_ r) (λc r=>by rw[aK (nown c b r)];exact r) λc xs r=>by rw[aK (ntup c xs r)];exact r
   rcases hc with rfl | hc
   ·exact hbe
   ·rintro rfl;rcases he with z | z
    ·exact nown c b hc z
    ·rw[hc] at z;cases z;exact hb rfl
end
structure Un (fs ex:List Addr) (H H':Hp) (h h':Heap):Prop where
 keep:∀ b o,h.get? b=some o->H b=none->b∉fs->b∉ex->h'.get? b=some o
 slot:∀ b o,h.get? b=some o->H b=none->b∈fs->b∉ex->∃ sl,h'.get? b=some { o with slots:=sl }
 free:∀ b o,h.get? b=some o->H b=none->b∉ex->H' b=none
 there:∀ b o,h.get? b=some o->b∉ex->∃ o',h'.get? b=some o'
 tups:∀ b xs,H b=some (.tup xs)->H' b=some (.tup xs)
 frzs:∀ b o u,H b=some (.frz o u)->H' b=some (.frz o u)
 tbls:∀ b ps,H b=some (.tbl ps)->∃ more,H' b=some (.tbl (ps++more))
section
variable {fs ex:List Addr} {H H1:Hp} {h h1 h':Heap} {a x e:Addr} {o:HO}
theorem Un.any(u:Un fs ex H H1 h h1){b:Addr}{ob:Obj}(q:h.get? b=some ob)(n:H b=none)(hx:b∉ex):∃sl,h1.get? b=some { ob with slots:=sl }:=by
 by_cases hb:b∈fs
 ·exact u.slot b ob q n hb hx
 ·exact⟨ob.slots,u.keep b ob q n hb hx⟩
theorem Un.kept(k:∀b u,h.get? b=some u->h'.get? b=some u):Un fs ex H H h h':=
 ⟨λb ob q _ _ _=>k b ob q,λb ob q _ _ _=>⟨ob.slots,k b ob q⟩,λ_ _ _ n _=>n,λb ob q _=>⟨ob,k b ob q⟩,λ_ _ q=>q,λ_ _ _ q=>q,λ_ ps q=>⟨#[],by rw[q];simp⟩⟩
theorem Un.refl:Un fs ex H H h h:=Un.kept λ_ _ q=>q
theorem Un.laid(k:∀b u,h.get? b=some u->h'.get? b=some u)(hp:h.objs.size<=a)(hn:H a=none):Un fs ex H (bU H a o) h h' where
 keep:=λb u q _ _ _=>k b u q
 slot:=λb u q _ _ _=>⟨u.slots,k b u q⟩
 free:=λb u q n _=>by rw[aK (ac (aO (aM q) hp))];exact n
 there:=λb u q _=>⟨u,k b u q⟩
 tups:=λb xs q=>by rw[aK (av q hn)];exact q
 frzs:=λb u xs q=>by rw[aK (av q hn)];exact q
 tbls:=λb ps q=>⟨#[],by rw[aK (av q hn),q];simp⟩
theorem Un.write(mu:E8 (H x))(he:e=x\/H e=some (.own x))(k:∀b u,b≠e->h.get? b=some u->h'.get? b=some u)(heo:∃u,h'.get? e=some u):Un fs ex H (bU H x o) h h':=by
 have hx:∀b,H b=none->b≠x:=λb n z=>by subst z;rw[n] at mu;exact mu
 have hb:∀b,H b=none->b≠e:=λb n z=>by
  subst z;rcases he with r | r
  ·exact hx b n r
  ·rw[n] at r;cases r
 have hm:∀b u,H b=some u->¬E8 (some u)->b≠x:=λb u q nm z=>by subst z;rw[q] at mu;exact nm mu
 refine⟨λb u q n _ _=>k b u (hb b n) q,λb u q n _ _=>⟨u.slots,k b u (hb b n) q⟩,λb u q n _=>by rw[aK (hx b n)];exact n,λb u q _=>?_,
  λb xs q=>by rw[aK (hm b _ q λz=>z)];exact q,λb u xs q=>by rw[aK (hm b _ q λz=>z)];exact q,λb ps q=>⟨#[],by rw[aK (hm b _ q λz=>z),q];simp⟩⟩
 by_cases hbe:b=e
 ·subst hbe;exact heo
 ·exact⟨u,k b u hbe q⟩
end
def trk(h:Heap)(H:Hp):List Addr:=(List.range h.objs.size).filter λa=>(H a).isSome
def rH(h:Heap)(H:Hp):Heap:=PySem.W.hideAll h (trk h H)
theorem ww(h:Heap)(H:Hp):(rH h H).objs.size=h.objs.size:=PySem.W.hideAll_size _ _
theorem zL{h:Heap}{H:Hp}{b:Addr}{o:Obj}(e:h.get? b=some o)(n:H b=none):(rH h H).get? b=some o:=
 PySem.W.hideAll_get _ e λhm=>by
  have q:(H b).isSome=true:=(bY.mp hm).2;rw[n] at q;simp at q
theorem AO{h:Heap}{H:Hp}{b:Addr}{o:Obj}(e:(rH h H).get? b=some o):h.get? b=some o/\H b=none:=by
 have e':h.get? b=some o:=PySem.W.of_hideAll (trk h H) e;refine⟨e',?_⟩;cases q:H b with
 | none=>rfl
 | some x=>
  have hm:b∈trk h H:=bY.mpr ⟨aU.mpr (aM e'),by simp[q]⟩;have z:(rH h H).get? b=none:=PySem.W.hideAll_none (trk h H) hm;rw[z] at e;cases e
def Ah(g h:Heap)(L:Addr):List (Addr×Obj):=(List.range h.objs.size).filterMap λa=>if a=L\/(g.get? a).isSome=true then none else (h.get? a).map λo=>(a,o)
def rest(g h:Heap)(L d:Addr):List (Addr×Obj):=(Ah g h L).filter λp=>decide (p.1≠d)
structure Mod (K:MU) (mg:Str->Option Value) (base:Heap):Prop where
 kin:K.In base
 glob:base.Ns mainGlobals mg
 blt:∃ mb,base.Ns builtinsNs mb/\∀ x:Str,x≠"__name__"->mb x=bootBuiltins x
 nolimit:base.NoLimit
structure Cx where
 prog:Program
 w:World
 K:MU
 mg:Str->Option Value
 base:Heap
 A:Around
 N:List Str
 s₀:Shared
 H₀:Hp
 env:Env
 outer:List Env
 stack:List Env
 ex:List Addr
 fn:Str->Bool
 calm:Bool
 pn:List (Addr×Obj)
 xe:Value->Shared->Prop
def jw(l:List Env):List Addr:=l.filterMap (·.frame)
abbrev Cx.fs (X:Cx):List Addr:=jw X.outer
def E1(sc:Scope)(x:Str):Prop:=sc.names.lookup x=some .local\/sc.names.lookup x=some .cell\/sc.names.lookup x=some .free
def Loc(sc:Scope)(x:Str):Prop:=sc.names.lookup x=some .local\/sc.names.lookup x=some .cell
def Look(env:Env)(h:Heap)(m:Str->Option Value)(x:Str)(u:Value):Prop:=
 (env.kindOf x=some .local/\m x=some u)\/((env.kindOf x=some .cell\/env.kindOf x=some .free)/\∃c,env.cells.lookup x=some c/\h.IsCell c (some u))
structure Cx.Ok (X:Cx):Prop where
 mod:Mod X.K X.mg X.base
 kind:X.env.scope.kind=.function
 glob:X.env.globals=mainGlobals
 blt:X.env.builtins=builtinsNs
 above:X.s₀.heap.objs.size<=X.env.locals
 inj:∀ x y c,X.env.cells.lookup x=some c->X.env.cells.lookup y=some c->x=y
 has:∀ x,(X.env.kindOf x=some .cell\/X.env.kindOf x=some .free)->∃ c,X.env.cells.lookup x=some c
 cab:∀ x c,X.fn x=true->X.env.cells.lookup x=some c->X.s₀.heap.objs.size<=c
 hd:X.calm=true->X.A.handled=none
 frames:X.A.frames=some X.stack
 stk:X.stack=X.outer\/(X.stack=X.env::X.outer/\X.env.frame=some X.env.locals)
 exf:∀ b∈X.ex,b≠X.env.locals/\∀ x c,X.env.cells.lookup x=some c->c≠b
 bs:∀ b o,X.base.get? b=some o->X.s₀.heap.get? b=some o/\X.H₀ b=none
 bsz:X.base.objs.size<=X.s₀.heap.objs.size
 noex:∀ b o,X.base.get? b=some o->b∉X.ex
 exfs:∀ b∈X.ex,b∉X.fs
 funs:X.s₀.heap.FunFrames X.base X.outer
 frf:∀ b∈X.fs,X.H₀ b=none
structure bE (X:Cx) (pins:List (Addr×Obj)) (σ:List (Option V)) (H:Hp) (s:Shared):Prop where
 ok:X.Ok
 os:s.os=X.s₀.os
 bare:AllBare s.gens
 base:Un X.fs X.ex X.H₀ H X.s₀.heap s.heap
 loc:∃ m,s.heap.Ns X.env.locals m/\∀ (i:Nat) (x:Str) (v:V),X.N[i]? = some x->σ[i]? = some (some v)->E1 X.env.scope x->∃ u,RelV v u/\Look X.env s.heap m x u
 cell:∀ x c,X.env.cells.lookup x=some c->∃ v,s.heap.IsCell c v
 free:H X.env.locals=none
 freeC:∀ x c,X.env.cells.lookup x=some c->H c=none
 pin:∀ p∈X.pn++pins,s.heap.get? p.1=some p.2/\H p.1=none/\p.1≠X.env.locals/\p.1∉X.fs/\∀ v,p.2.data≠.cell v
 hok:lC X.prog X.w H s.heap
 len:σ.length=X.N.length
section
variable {X:Cx} {pins:List (Addr×Obj)} {σ:List (Option V)} {H H':Hp} {s:Shared} {h':Heap}
theorem Cx.Ok.nofr(ok:X.Ok){b:Addr}{o:Obj}(e:X.base.get? b=some o):b∉X.fs:=λhb=>by
 have:=(ok.funs.mem hb).1;rw[e] at this;cases this
theorem bE.bs(I:bE X pins σ H s):∀b o,X.base.get? b=some o->s.heap.get? b=some o/\H b=none:=λb o e=>
 ⟨I.base.keep b o (I.ok.bs b o e).1 (I.ok.bs b o e).2 (I.ok.nofr e) (I.ok.noex b o e),I.base.free b o (I.ok.bs b o e).1 (I.ok.bs b o e).2 (I.ok.noex b o e)⟩
theorem bE.bk(I:bE X pins σ H s):∀b o,X.base.get? b=some o->s.heap.get? b=some o:=λb o e=>(I.bs b o e).1
theorem bE.mod(I:bE X pins σ H s):Mod X.K X.mg X.base:=I.ok.mod
theorem bE.kIn(I:bE X pins σ H s):X.K.In s.heap:=I.ok.mod.kin.keeps I.bk
theorem bE.lt(I:bE X pins σ H s):X.env.locals<s.heap.objs.size:=let ⟨_,hn,_⟩:=I.loc;hn.lt
theorem bE.sz(I:bE X pins σ H s):X.s₀.heap.objs.size<=s.heap.objs.size:=bd I.ok.above (aS I.lt)
theorem bE.nofs(I:bE X pins σ H s){a:Addr}(h:s.heap.objs.size<=a):a∉X.fs:=λhb=>by
 obtain⟨_,o,ho,_⟩:=I.ok.funs.mem hb;exact absurd (aO (aM ho) (bd I.sz h)) (c6 _)
theorem bE.cne(I:bE X pins σ H s):∀x c,X.env.cells.lookup x=some c->c≠X.env.locals:=λx c e z=>by
 obtain⟨v,o,ho,hd⟩:=I.cell x c e;obtain⟨m,⟨o',es,ep,ho',hd',_⟩,_⟩:=I.loc;rw[z,ho'] at ho;cases ho;rw[hd'] at hd;cases hd
theorem bE.funs(I:bE X pins σ H s):s.heap.FunFrames X.base X.outer:=by
 have all:∀(l:List Env),(∀b∈jw l,b∈X.fs)->X.s₀.heap.FunFrames X.base l->s.heap.FunFrames X.base l:=by
  intro l
  induction l with
  | nil=>intro _ _;trivial
  | cons env r ih=>
   intro hs hl;obtain⟨hk,⟨L,o,hf,hn,ho,hd⟩,hr⟩:=hl;have hL:L∈X.fs:=hs L (by unfold jw;rw[cS,hf];exact aw);obtain⟨sl,e⟩:=I.base.slot L o ho (I.ok.frf L hL) hL λz=>I.ok.exfs L z hL;exact⟨hk,⟨L,_,hf,hn,e,hd⟩,ih (λb hb=>hs b (by unfold jw;rw[cS,hf];exact ak _ hb)) hr⟩
 exact all X.outer (λ_ hb=>hb) I.ok.funs
theorem bE.stack(I:bE X pins σ H s):s.heap.FunFrames X.base X.stack:=by
 rcases I.ok.stk with e | ⟨e,hf⟩
 ·rw[e];exact I.funs
 ·rw[e];obtain⟨m,hn,_⟩:=I.loc;refine .cons (by rw[I.ok.kind];decide) hf hn ?_ I.funs;exact Heap.get?_none_of_le (bd I.ok.bsz I.ok.above)
theorem bE.stkSub(I:bE X pins σ H s):∀b∈jw X.stack,b∈X.env.locals::X.fs:=λb hb=>by
 rcases I.ok.stk with e | ⟨e,hf⟩
 ·rw[e] at hb;exact ak _ hb
 ·rw[e] at hb;unfold jw at hb;rw[cS,hf] at hb;exact hb
theorem bE.stkFree(I:bE X pins σ H s):∀b∈jw X.stack,H b=none:=λb hb=>by
 rcases aZ.mp (I.stkSub b hb) with e | hb
 ·rw[e];exact I.free
 ·obtain⟨_,o,ho,_⟩:=I.ok.funs.mem hb;exact I.base.free b o ho (I.ok.frf b hb) λz=>I.ok.exfs b z hb
theorem bE.step{g':Array GenState}{t':Nat}{d':Drawn}{ch:List Addr}(I:bE X pins σ H s)
  (hch:∀b∈ch,(b∈X.ex\/X.s₀.heap.objs.size<=b)/\b≠X.env.locals/\(∀x c,X.env.cells.lookup x=some c->c≠b)/\∀p∈X.pn++pins,p.1≠b)
  (keep:∀b o,b≠X.env.locals->b∉X.fs->b∉ch->s.heap.get? b=some o->H b=none->h'.get? b=some o)
  (slot:∀b o,b≠X.env.locals->b∈X.fs->b∉ch->s.heap.get? b=some o->H b=none->∃sl,h'.get? b=some { o with slots:=sl }) (free:∀b o,b∉ch->s.heap.get? b=some o->H b=none->H' b=none)
  (there:∀b o,b∉ch->s.heap.get? b=some o->∃o',h'.get? b=some o')
  (tups:∀b xs,H b=some (.tup xs)->H' b=some (.tup xs)) (frzs:∀b o u,H b=some (.frz o u)->H' b=some (.frz o u)) (tbls:∀b ps,H b=some (.tbl ps)->∃more,H' b=some (.tbl (ps++more)))
  (ns:∀m,s.heap.Ns X.env.locals m->h'.Ns X.env.locals m) (hok:lC X.prog X.w H' h') (hg:AllBare g') :
  bE X pins σ H' { s with heap:=h',gens:=g',drawn:=d',toks:=t' }:=by
 have neL:∀b o,X.s₀.heap.get? b=some o->b≠X.env.locals:=λb o e=>ac (aO (aM e) I.ok.above);have neC:∀b o,X.s₀.heap.get? b=some o->b∉X.ex->b∉ch:=λb o e hx hb=>by
  rcases(hch b hb).1 with z | z
  ·exact hx z
  ·exact absurd (aO (aM e) z) (c6 _)
 have cellK:∀x c,X.env.cells.lookup x=some c->∀v,s.heap.IsCell c v->h'.IsCell c v:=λx c e v ⟨o,ho,hd⟩=>by
  have nch:c∉ch:=λz=>(hch c z).2.2.1 x c e rfl;by_cases hc:c∈X.fs
  ·obtain⟨sl,q⟩:=slot c o (I.cne x c e) hc nch ho (I.freeC x c e);exact⟨_,q,hd⟩
  ·exact⟨o,keep c o (I.cne x c e) hc nch ho (I.freeC x c e),hd⟩
 refine⟨I.ok,I.os,hg,⟨λb o e n hb hx=>?_,λb o e n hb hx=>?_,λb o e n hx=>?_,λb o e hx=>?_,λb xs e=>tups b xs (I.base.tups b xs e),λb o xs e=>frzs b o xs (I.base.frzs b o xs e),λb ps e=>?_⟩,?_,λx c e=>?_,?_,λx c e=>?_,λp hp=>?_,hok,I.len⟩
 ·exact keep b o (neL b o e) hb (neC b o e hx) (I.base.keep b o e n hb hx) (I.base.free b o e n hx)
 ·obtain⟨sl,e1⟩:=I.base.slot b o e n hb hx;obtain⟨sl',e2⟩:=slot b _ (neL b o e) hb (neC b o e hx) e1 (I.base.free b o e n hx);exact⟨sl',e2⟩
 ·obtain⟨o',e1⟩:=I.base.there b o e hx;exact free b o' (neC b o e hx) e1 (I.base.free b o e n hx)
 ·obtain⟨o',e1⟩:=I.base.there b o e hx;exact there b o' (neC b o e hx) e1
 ·obtain⟨m1,e1⟩:=I.base.tbls b ps e;obtain⟨m2,e2⟩:=tbls b _ e1;exact⟨m1++m2,by rw[e2,Array.append_assoc]⟩
 ·obtain⟨m,hn,hl⟩:=I.loc;refine⟨m,ns m hn,λi x v e1 e2 e3=>?_⟩;obtain⟨u,r,l⟩:=hl i x v e1 e2 e3;refine⟨u,r,?_⟩;rcases l with l | ⟨k,c,e,z⟩
  ·exact .inl l
  ·exact .inr ⟨k,c,e,cellK x c e _ z⟩
 ·obtain⟨v,z⟩:=I.cell x c e;exact⟨v,cellK x c e v z⟩
 ·obtain⟨m,⟨o,_,_,ho,_⟩,_⟩:=I.loc;exact free _ o (λz=>(hch _ z).2.1 rfl) ho I.free
 ·obtain⟨v,o,ho,hd⟩:=I.cell x c e;exact free c o (λz=>(hch c z).2.2.1 x c e rfl) ho (I.freeC x c e)
 ·obtain⟨e,n,ne,nf,d⟩:=I.pin p hp;have nch:p.1∉ch:=λz=>(hch p.1 z).2.2.2 p hp rfl;exact⟨keep p.1 p.2 ne nf nch e n,free p.1 p.2 nch e n,ne,nf,d⟩
theorem bE.un{t':Nat}(I:bE X pins σ H s)(u:Un X.fs [] H H' s.heap h')(hok:lC X.prog X.w H' h'):bE X pins σ H' { s with heap:=h',toks:=t' }:=by
 obtain⟨m,⟨o,es,ep,ho,r⟩,_⟩:=id I.loc;obtain⟨sl,hL⟩:=u.any ho I.free (by simp);exact I.step (g':=s.gens) (d':=s.drawn) (ch:=[]) (λ_ z=>nomatch z) (λb o _ hb _ e n=>u.keep b o e n hb (by simp)) (λb o _ hb _ e n=>u.slot b o e n hb (by simp)) (λb o _ e n=>u.free b o e n (by simp)) (λb o _ e=>u.there b o e (by simp)) u.tups u.frzs u.tbls (λm' hm=>by
  obtain⟨o',es',ep',ho',r'⟩:=hm;rw[ho] at ho';cases ho';exact⟨_,es',ep',hL,r'⟩) hok I.bare
theorem bE.call{g':Array GenState}{t':Nat}{d':Drawn}{ch:List Addr}(I:bE X pins σ H s)(u:Un (jw X.stack) ch H H' s.heap h')(hok:lC X.prog X.w H' h')(hg:AllBare g')
  (hch:∀b∈ch,(b∈X.ex\/X.s₀.heap.objs.size<=b)/\b≠X.env.locals/\(∀x c,X.env.cells.lookup x=some c->c≠b)/\∀p∈X.pn++pins,p.1≠b) :
  bE X pins σ H' { s with heap:=h',gens:=g',drawn:=d',toks:=t' }:=by
 obtain⟨m,⟨o,es,ep,ho,r⟩,_⟩:=id I.loc;obtain⟨sl,hL⟩:=u.any ho I.free λz=>(hch _ z).2.1 rfl;exact I.step (ch:=ch) hch (λb o hL hb hc e n=>u.keep b o e n (λz=>(aZ.mp (I.stkSub b z)).elim hL hb) hc) (λb o _ _ hc e n=>u.any e n hc) (λb o hc e n=>u.free b o e n hc) (λb o hc e=>u.there b o e hc) u.tups u.frzs u.tbls (λm' hm=>by
  obtain⟨o',es',ep',ho',r'⟩:=hm;rw[ho] at ho';cases ho';exact⟨_,es',ep',hL,r'⟩) hok hg
theorem bE.turned{t':Nat}{it:Addr}(I:bE X pins σ H s)(k:∀b o,b≠it->s.heap.get? b=some o->h'.get? b=some o)(hn:H it=none)(hL:it≠X.env.locals)
  (h1:it∈X.ex\/X.s₀.heap.objs.size<=it) (h2:∀x c,X.env.cells.lookup x=some c->c≠it) (h3:∀p∈X.pn++pins,p.1≠it):bE X pins σ H { s with heap:=h',toks:=t' }:=by
 have nit:∀b u,H b=some u->b≠it:=λb u e z=>by rw[z,hn] at e;cases e
 refine I.step (g':=s.gens) (d':=s.drawn) (ch:=[it]) (λb hb=>?_) (λb o _ _ hc e _=>k b o (λz=>hc (by simp[z])) e) (λb o _ _ hc e _=>⟨o.slots,k b o (λz=>hc (by simp[z])) e⟩) (λ_ _ _ _ n=>n)
  (λb o hc e=>⟨o,k b o (λz=>hc (by simp[z])) e⟩) (λ_ _ e=>e) (λ_ _ _ e=>e) (λb ps e=>⟨#[],by rw[e];simp⟩) (λm hm=>?_) (λb u e=>?_) I.bare
 ·have e:b=it:=by simpa using hb
  subst e;exact⟨h1,hL,h2,h3⟩
 ·obtain⟨o,es,ep,ho,r⟩:=hm;exact⟨o,es,ep,k _ o (cU hL) ho,r⟩
 ·refine(I.hok b u e).stay (λc v hc q=>k c v ?_ q) (λ_ q=>q) λ_ _ q=>q;rcases hc with z | z
  ·rw[z];exact nit b u e
  ·exact nit c _ z
theorem bE.tok(I:bE X pins σ H s)(t:Nat):bE X pins σ H { s with toks:=t }:=I.un (h':=s.heap) (t':=t) Un.refl I.hok
theorem bE.kept{t':Nat}(I:bE X pins σ H s)(k:∀b u,s.heap.get? b=some u->h'.get? b=some u):bE X pins σ H { s with heap:=h',toks:=t' }:=I.un (Un.kept k) (I.hok.kept k)
theorem bE.laid{a:Addr}{o:HO}{t':Nat}(I:bE X pins σ H s)(k:∀b u,s.heap.get? b=some u->h'.get? b=some u)(hp:s.heap.objs.size<=a)(new:cL X.prog X.w (bU H a o) h' a o):
  bE X pins σ (bU H a o) { s with heap:=h',toks:=t' }:=I.un (Un.laid k hp (I.hok.fresh hp)) (I.hok.laid k hp new)
theorem bE.write{x e:Addr}{o:HO}{t':Nat}(I:bE X pins σ H s)(mu:E8 (H x))(he:e=x\/H e=some (.own x))(k:∀b u,b≠e->s.heap.get? b=some u->h'.get? b=some u)(heo:∃u,h'.get? e=some u)
  (new:cL X.prog X.w (bU H x o) h' x o):bE X pins σ (bU H x o) { s with heap:=h',toks:=t' }:=I.un (Un.write mu he k heo) (I.hok.write mu he k heo new)
theorem bE.pins_of{pins':List (Addr×Obj)}(I:bE X pins σ H s)(h:∀p∈pins',s.heap.get? p.1=some p.2/\H p.1=none/\p.1≠X.env.locals/\p.1∉X.fs/\∀v,p.2.data≠.cell v):bE X pins' σ H s:=
 ⟨I.ok,I.os,I.bare,I.base,I.loc,I.cell,I.free,I.freeC,λp hp=>(aT.mp hp).elim (λz=>I.pin p (ax _ z)) (h p),I.hok,I.len⟩
theorem pB{N:List Str}(hN:N.Nodup){i j:Nat}{x:Str}(a:N[i]? = some x)(b:N[j]? = some x):i=j:=by
 obtain⟨h1,e1⟩:=aE.mp a;obtain⟨h2,e2⟩:=aE.mp b;exact(List.getElem_inj hN).mp (e1.trans e2.symm)
theorem pz{M:Model}{A:Around}{E:Value->Shared->Prop}{i:Nat}{x:Str}{v:V}{u:Value}{Q:Unit->Shared->Prop}(I:bE X pins σ H s)(hN:X.N.Nodup)(hi:X.N[i]? = some x)(hx:Loc X.env.scope x)(r:RelV v u)
  (h:∀s',bE X pins (σ.set i (some v)) H s'->(∃a,Heap.SameBut a s.heap s'.heap/\(a=X.env.locals\/X.env.cells.lookup x=some a))->Q () s') (hf:X.fn x=true\/X.env.scope.names.lookup x=some .local:=by first | exact .inl rfl | exact .inr rfl | assumption):wpAny M A (storeName X.env x u) Q E s:=by
 obtain⟨m,hn,hl⟩:=id I.loc;have hcls:(X.env.scope.kind==.class || (X.env.scope.kind==.module&&X.env.locals != X.env.globals))=false:=by rw[I.ok.kind];rfl
 have hiσ:i<σ.length:=by rw[I.len];exact(aE.mp hi).1
 have cne:=I.cne;have tracked:∀{a:Addr} {h':Heap},(∃o,s.heap.get? a=some o/\H a=none)->Heap.SameBut a s.heap h'->lC X.prog X.w H h':=fun {a h'} ha hs b ob e=>by
  obtain⟨_,_,hfree⟩:=ha;refine(I.hok b ob e).stay (λc w' hc q=>(hs.2 c ?_).trans q) (λ_ q=>q) λ_ _ q=>q;rintro rfl;rcases hc with rfl | hc
  ·rw[hfree] at e;cases e
  ·rw[hfree] at hc;cases hc
 rcases hx with hk | hk
 ·refine wpAny_storeName_local hk hn (λh' hn' hs=>?_) hcls;obtain⟨oL,_,_,hoL,_⟩:=id hn;refine h _ ⟨I.ok,I.os,I.bare,⟨λb o e n hb hx=>?_,λb o e n hb hx=>?_,I.base.free,λb o e hx=>?_,I.base.tups,I.base.frzs,I.base.tbls⟩,⟨_,hn',λj y v' e1 e2 e3=>?_⟩,λy c e=>?_,I.free,I.freeC,λp hp=>?_,tracked ⟨oL,hoL,I.free⟩ hs,by simpa using I.len⟩ ⟨_,hs,.inl rfl⟩
  ·exact(hs.2 b (ac (aO (aM e) I.ok.above))).trans (I.base.keep b o e n hb hx)
  ·obtain⟨sl,e1⟩:=I.base.slot b o e n hb hx;exact⟨sl,(hs.2 b (ac (aO (aM e) I.ok.above))).trans e1⟩
  ·obtain⟨o',e1⟩:=I.base.there b o e hx;exact⟨o',(hs.2 b (ac (aO (aM e) I.ok.above))).trans e1⟩
  ·by_cases hj:j=i
   ·subst hj;rw[hi] at e1;cases e1;rw[gO hiσ] at e2;cases e2;exact⟨u,r,.inl ⟨hk,by simp⟩⟩
   ·rw[hW (cU hj)] at e2;obtain⟨u',r',q⟩:=hl j y v' e1 e2 e3;refine⟨u',r',?_⟩;rcases q with ⟨k,e⟩ | ⟨k,c,e,z⟩
    ·refine .inl ⟨k,?_⟩;have:y≠x:=λe=>hj (pB hN e1 (e▸hi));simp[this,e]
    ·exact .inr ⟨k,c,e,z.sameBut hs (cne y c e)⟩
  ·obtain⟨w',z⟩:=I.cell y c e;exact⟨w',z.sameBut hs (cne y c e)⟩
  ·obtain⟨e,n,ne,nf,d⟩:=I.pin p hp;exact⟨(hs.2 p.1 ne).trans e,n,ne,nf,d⟩
 ·have hfn:X.fn x=true:=by
   rcases hf with z | z
   ·exact z
   ·rw[z] at hk;cases hk
  obtain⟨c,hc⟩:=I.ok.has x (.inl hk);obtain⟨w',z⟩:=I.cell x c hc;refine wpAny_storeName_cell I.ok.kind hk hc z (λh' hc' hs=>?_);obtain⟨oc,hoc,hocd⟩:=id z;refine h { s with heap:=h' } ⟨I.ok,I.os,I.bare,⟨λb o e n hb hx=>?_,λb o e n hb hx=>?_,I.base.free,λb o e hx=>?_,I.base.tups,I.base.frzs,I.base.tbls⟩,⟨m,hn.sameBut hs (cU (cne x c hc)),λj y v' e1 e2 e3=>?_⟩,λy c' e=>?_,I.free,I.freeC,λp hp=>?_,tracked ⟨oc,hoc,I.freeC x c hc⟩ hs,by simpa using I.len⟩ ⟨c,hs,.inr hc⟩
  ·exact(hs.2 b (ac (aO (aM e) (I.ok.cab x c hfn hc)))).trans (I.base.keep b o e n hb hx)
  ·obtain⟨sl,e1⟩:=I.base.slot b o e n hb hx;exact⟨sl,(hs.2 b (ac (aO (aM e) (I.ok.cab x c hfn hc)))).trans e1⟩
  ·obtain⟨o',e1⟩:=I.base.there b o e hx;exact⟨o',(hs.2 b (ac (aO (aM e) (I.ok.cab x c hfn hc)))).trans e1⟩
  ·by_cases hj:j=i
   ·subst hj;rw[hi] at e1;cases e1;rw[gO hiσ] at e2;cases e2;exact⟨u,r,.inr ⟨.inl hk,c,hc,hc'⟩⟩
   ·rw[hW (cU hj)] at e2;obtain⟨u',r',q⟩:=hl j y v' e1 e2 e3;refine⟨u',r',?_⟩;rcases q with q | ⟨k,c',e,z'⟩
    ·exact .inl q
    ·refine .inr ⟨k,c',e,z'.sameBut hs ?_⟩;rintro rfl;exact hj (pB hN e1 (I.ok.inj _ _ _ e hc▸hi))
  ·by_cases hcc:c'=c
   ·subst hcc;exact⟨_,hc'⟩
   ·obtain⟨w2,z2⟩:=I.cell y c' e;exact⟨w2,z2.sameBut hs hcc⟩
  ·obtain⟨e,n,ne,nf,d⟩:=I.pin p hp;refine⟨(hs.2 p.1 ?_).trans e,n,ne,nf,d⟩;intro q;rw[q,hoc] at e;have q':oc=p.2:=aq e;exact d w' (by rw[<-q'];exact hocd)
theorem mG{M:Model}{A:Around}{E:Value->Shared->Prop}{i:Nat}{x:Str}{v:V}{u:Value}{Q:Unit->Shared->Prop}(I:bE X pins σ H s)(hN:X.N.Nodup)(hi:X.N[i]? = some x)(hx:Loc X.env.scope x)(r:RelV v u)
  (h:∀s',bE X pins (σ.set i (some v)) H s'->Q () s') (hf:X.fn x=true\/X.env.scope.names.lookup x=some .local:=by first | exact .inl rfl | exact .inr rfl | assumption):wpAny M A (storeName X.env x u) Q E s:=
 pz I hN hi hx r (λs' I' _=>h s' I') hf
theorem bE.call'{s':Shared}{ch:List Addr}(I:bE X pins σ H s)(ho:s'.os=s.os)(u:Un (jw X.stack) ch H H' s.heap s'.heap)(hok:lC X.prog X.w H' s'.heap)(hg:AllBare s'.gens)
  (hch:∀b∈ch,(b∈X.ex\/X.s₀.heap.objs.size<=b)/\b≠X.env.locals/\(∀x c,X.env.cells.lookup x=some c->c≠b)/\∀p∈X.pn++pins,p.1≠b):bE X pins σ H' s':=by
 obtain⟨h',g',d',t',o'⟩:=s';have e:o'=s.os:=ho;subst e;exact I.call (g':=g') (t':=t') (d':=d') u hok hg hch
end
abbrev XK:=Value->Option Addr->Hp->Prop
abbrev St:=List (Option V)
abbrev VK:=V->Hp->Prop
abbrev TE:=St->Hp->VK->Prop
abbrev TT:=St->Hp->(Bool->Hp->Prop)->Prop
abbrev TA:=St->Hp->(List V->Hp->Prop)->Prop
structure Ends where
 nx:St->Hp->Prop
 rt:VK
 bk:St->Hp->Prop:=fun _ _=>False
 ct:St->Hp->Prop:=fun _ _=>False
abbrev TS:=Ends->St->Hp->Prop
def EP(X:Cx)(pins:List (Addr×Obj))(σ:St)(Q:VK)(u:Value)(s':Shared):Prop:=∃v H',bE X pins σ H' s'/\RelV v u/\Q v H'
def TP(X:Cx)(pins:List (Addr×Obj))(σ:St)(Q:Bool->Hp->Prop)(b:Bool)(s':Shared):Prop:=∃H',bE X pins σ H' s'/\Q b H'
def AP(X:Cx)(pins:List (Addr×Obj))(σ:St)(Q:List V->Hp->Prop)(us:List Value)(s':Shared):Prop:=∃vs H',bE X pins σ H' s'/\bb vs us/\Q vs H'
def SP(X:Cx)(pins:List (Addr×Obj))(D:Ends)(f:Flow)(s':Shared):Prop:=
 match f with
 | .next=>∃σ' H',bE X pins σ' H' s'/\D.nx σ' H'
 | .brk=>∃σ' H',bE X pins σ' H' s'/\D.bk σ' H'
 | .cont=>∃σ' H',bE X pins σ' H' s'/\D.ct σ' H'
 | .ret u=>∃v σ' H',bE X pins σ' H' s'/\RelV v u/\D.rt v H'
def PE(X:Cx)(e:Expr)(t:TE):Prop:=
 ∀(pins:List (Addr×Obj)) (s:Shared) (σ:St) (H:Hp) (Q:VK),bE X pins σ H s->t σ H Q->wpAny (model X.prog X.w) X.A (eval e X.env) (EP X pins σ Q) X.xe s
def PT(X:Cx)(e:Expr)(t:TT):Prop:=
 ∀(pins:List (Addr×Obj)) (s:Shared) (σ:St) (H:Hp) (Q:Bool->Hp->Prop),bE X pins σ H s->t σ H Q->wpAny (model X.prog X.w) X.A (isTrue e X.env (eval e X.env)) (TP X pins σ Q) X.xe s
def PW(X:Cx)(e:Expr)(t:TT):Prop:=
 ∀(whole:Sem Value) (pins:List (Addr×Obj)) (s:Shared) (σ:St) (H:Hp) (Q:Bool->Hp->Prop),bE X pins σ H s->t σ H Q->wpAny (model X.prog X.w) X.A (isTrue e X.env whole) (TP X pins σ Q) X.xe s
theorem PW.pt{X:Cx}{e:Expr}{t:TT}(h:PW X e t):PT X e t:=h _
def PA(X:Cx)(es:List Expr)(t:TA):Prop:=
 ∀(pos:Pos) (pins:List (Addr×Obj)) (s:Shared) (σ:St) (H:Hp) (Q:List V->Hp->Prop),bE X pins σ H s->t σ H Q->wpAny (model X.prog X.w) X.A (spliced (backTo pos (starEach es X.env))) (AP X pins σ Q) X.xe s
def PS(X:Cx)(st:Stmt)(t:TS):Prop:=
 ∀(pins:List (Addr×Obj)) (s:Shared) (σ:St) (H:Hp) (D:Ends),bE X pins σ H s->t D σ H->wpAny (model X.prog X.w) X.A (exec st X.env) (SP X pins D) X.xe s
def zh(X:Cx)(st:List Stmt)(t:TS):Prop:=
 ∀(pins:List (Addr×Obj)) (s:Shared) (σ:St) (H:Hp) (D:Ends),bE X pins σ H s->t D σ H->wpAny (model X.prog X.w) X.A (execs st X.env) (SP X pins D) X.xe s
theorem cm{α:Type}{t:Sem α}{Q Q':α->Shared->Prop}{M:Model}{A:Around}{E:Value->Shared->Prop}{s:Shared}(h:wpAny M A t Q E s)(hQ:∀a s,Q a s->Q' a s):wpAny M A t Q' E s:=Lo h hQ λ_ _ x=>x
section
variable {X:Cx}
theorem bin{a b:Expr}{ta tb:TE}(ha:PE X a ta)(hb:PE X b tb){pins:List (Addr×Obj)}{s:Shared}{σ:St}{H:Hp}{R:V->V->Hp->Prop}(I:bE X pins σ H s)(h:ta σ H λx H1=>tb σ H1 λy H2=>R x y H2)
  {α:Type} {Q:α->Shared->Prop} {f:Value->Value->Sem α}
  (hf:∀v u s2 x y H2,bE X pins σ H2 s2->RelV x v->RelV y u->R x y H2->wpAny (model X.prog X.w) X.A (f v u) Q X.xe s2) :
  wpAny (model X.prog X.w) X.A (eval a X.env) (λv s₁=>wpAny (model X.prog X.w) X.A (eval b X.env) (λu s₂=>wpAny (model X.prog X.w) X.A (f v u) Q X.xe s₂) X.xe s₁) X.xe s:=by
 refine cm (ha pins s σ H _ I h) λv s1 ⟨x,H1,I1,r1,q1⟩=>?_;refine cm (hb pins s1 σ H1 _ I1 q1) λu s2 ⟨y,H2,I2,r2,q2⟩=>?_;exact hf v u s2 x y H2 I2 r1 r2 q2
def rm(i:Nat):TE:=λσ H Q=>∃v,σ[i]? = some (some v)/\Q v H
def tC(v:V):TE:=λ_ H Q=>Q v H
theorem C7 {i:Nat} {x:Str} {pos:Pos} (hN:X.N[i]? = some x) (hv:E1 X.env.scope x) (hd:(x==("__debug__":Str))=false:=by decide) (hcd:(x==("__classdict__":Str))=false:=by decide):PE X (.Name x pos) (rm i):=by
 intro pins s σ H Q I h;obtain⟨v,e,h⟩:=h;obtain⟨m,hn,hl⟩:=I.loc;obtain⟨u,r,l⟩:=hl i x v hN e hv;have fin:EP X pins σ Q u s:=⟨v,H,I,r,h⟩
 rcases l with ⟨hk,hm⟩ | ⟨hk,c,hc,hcell⟩
 ·exact wpAny_Name (wpAny_loadName_local I.ok.kind hk hn hm fin) hd
 ·rcases hk with hk | hk
  ·exact wpAny_Name (wpAny_loadName_cell I.ok.kind hk hc hcell fin) hd
  ·exact wpAny_Name (wpAny_loadName_free I.ok.kind hk hc hcell fin hcd) hd
def Gl(X:Cx)(x:Str):Prop:=X.env.kindOf x=some .globalImplicit
theorem ju{E:Value->Shared->Prop}{pins:List (Addr×Obj)}{s:Shared}{σ:St}{H:Hp}{x:Str}{u:Value}{pos:Pos}{Q:Value->Shared->Prop}(I:bE X pins σ H s)(hg:Gl X x)(hm:X.mg x=some u)(h:Q u s)
  (hd:(x==("__debug__":Str))=false:=by decide):wpAny (model X.prog X.w) X.A (eval (.Name x pos) X.env) Q E s:=
 iw I.ok.kind hg (Calls.loadGlobal_global (by rw[I.ok.glob];exact I.mod.glob.keeps I.bk) hm h) hd
theorem nF{E:Value->Shared->Prop}{pins:List (Addr×Obj)}{s:Shared}{σ:St}{H:Hp}{x:Str}{u:Value}{pos:Pos}{Q:Value->Shared->Prop}(I:bE X pins σ H s)(hg:Gl X x)(hm:X.mg x=none)(hv:bootBuiltins x=some u)(h:Q u s)
  (hn:x≠"__name__":=by decide) (hd:(x==("__debug__":Str))=false:=by decide):wpAny (model X.prog X.w) X.A (eval (.Name x pos) X.env) Q E s:=by
 obtain⟨mb,h1,h2⟩:=I.mod.blt;exact iw I.ok.kind hg (Calls.loadGlobal_builtin (by rw[I.ok.glob];exact I.mod.glob.keeps I.bk) hm (by rw[I.ok.blt];exact h1.keeps I.bk) ((h2 x hn).trans hv) h) hd
theorem qt {x:Str} {v:V} {u:Value} {pos:Pos} (hg:Gl X x) (hm:X.mg x=some u) (r:RelV v u) (hd:(x==("__debug__":Str))=false:=by decide):PE X (.Name x pos) (tC v):=
 λ_ _ _ H _ I h=>ju I hg hm ⟨v,H,I,r,h⟩ hd
variable {a b:Expr} {ta tb:TE} {pos:Pos}
def PC(X:Cx)(op:CmpOp)(a b:Expr)(t:TE):Prop:=
 ∀(pins:List (Addr×Obj)) (s:Shared) (σ:St) (H:Hp) (Q:VK),bE X pins σ H s->t σ H Q →
  wpAny (model X.prog X.w) X.A (eval a X.env) (λv s₁=>wpAny (model X.prog X.w) X.A (eval b X.env) (λu s₂=>wpAny (model X.prog X.w) X.A (compareOp op v u) (EP X pins σ Q) X.xe s₂) X.xe s₁) X.xe s
theorem yt(b:Expr){op:CmpOp}(h:op≠.In)(h2:op≠.NotIn):behindInMarks op b=false:=by
 have e1:(op==CmpOp.In)=false:=by cases op<;>first | rfl | exact absurd rfl h
 have e2:(op==CmpOp.NotIn)=false:=by cases op<;>first | rfl | exact absurd rfl h2
 cases b<;>simp[behindInMarks,e1,e2]
def tB(t:TE):TT:=λσ H Q=>t σ H λx H1=>∃c,x=.bl c/\Q c H1
theorem C5{op:CmpOp}{t:TE}(h:PC X op a b t)(h1:behindInMarks op b=false:=by first | exact yt _ (by decide) (by decide) | rfl):PT X (.Compare a [op] [b] pos) (tB t):=by
 intro pins s σ H Q I hw;refine wpAny_isTrue_Compare1 (cm (h pins s σ H _ I hw) λv s1 h1=>cm h1 λu s2 h2=>cm h2 λc s3 ⟨x,H1,I1,r1,q1⟩=>?_) h1;obtain⟨d,rfl,q⟩:=q1;cases r1;exact Lp ⟨H1,I1,q⟩
def EB(t u:TT):TT:=λσ H Q=>t σ H λc H1=>if c=true then u σ H1 Q else Q false H1
def F0(t u:TT):TT:=λσ H Q=>t σ H λc H1=>if c=true then Q true H1 else u σ H1 Q
def Dv(t:TT):TT:=λσ H Q=>t σ H λc H1=>Q (!c) H1
def BM(ta tb:TE):TE:=λσ H Q=>ta σ H λx H1=>∃c,x=.bl c/\if c=true then tb σ H1 Q else Q (.bl false) H1
def Er(ta tb:TE):TE:=λσ H Q=>ta σ H λx H1=>∃c,x=.bl c/\if c=true then Q (.bl true) H1 else tb σ H1 Q
def BH(ta:TE):TE:=λσ H Q=>ta σ H λx H1=>∃c,x=.bl c/\Q (.bl (!c)) H1
def F1(t:TT)(ta tb:TE):TE:=λσ H Q=>t σ H λc H1=>if c=true then ta σ H1 Q else tb σ H1 Q
end
def bp(K:MU)(H:Hp)(a:Addr)(xs:List V):Prop:=
 Rd H a (.lst xs) ∨
  ∃(o:Obj) (its:Array Value) (n:Nat),K.lookup a=some o/\o.cls=.type "list"/\o.dict=none/\o.data=.seq its n/\its.size<=sizeLine/\bb xs its.toList
def cg(K:MU)(H:Hp)(a:Addr)(xs:List V):Prop:=
 Rd H a (.tup xs) ∨
  ∃(o:Obj) (its:Array Value) (n:Nat),K.lookup a=some o/\o.cls=.type "tuple"/\o.data=.seq its n/\its.size<=sizeLine/\bb xs its.toList
def FK:Value->Option V
 | .none=>some .non
 | .bool b=>some (.bl b)
 | .int i _=>some (.int i)
 | .str x _=>some (.str x)
 | .bytes b _=>some (.byt b)
 | .float b _=>some (.flt b)
 | .ref a=>some (.ref a)
 | .type n=>some (.ty n)
 | _=>none
theorem RelV.abs{x:V}{u:Value}(r:RelV x u):FK u=some x:=by
 cases x with
 | non=>cases r;rfl
 | bl _=>cases r;rfl
 | int _=>obtain⟨t,rfl⟩:=r;rfl
 | str _=>obtain⟨t,rfl⟩:=r;rfl
 | byt _=>obtain⟨t,rfl⟩:=r;rfl
 | flt _=>obtain⟨t,rfl⟩:=r;rfl
 | ref _=>cases r;rfl
 | ty _=>cases r;rfl
theorem RelV.inj{x y:V}{u:Value}(r:RelV x u)(q:RelV y u):x=y:=aq (r.abs.symm.trans q.abs)
theorem bb.inj:∀{xs ys:List V} {us:List Value},bb xs us->bb ys us->xs=ys
 | _,_,_,.nil,.nil=>rfl
 | _,_,_,.cons r t,.cons r' t'=>by rw[r.inj r',bb.inj t t']
section
variable {X:Cx} {pins:List (Addr×Obj)} {σ:St} {H:Hp} {s:Shared} {a:Addr} {xs ys:List V}
theorem bp.of{K:MU}(h:H a=some (.lst xs)):bp K H a xs:=.inl (.inl h)
theorem cg.of{K:MU}(h:H a=some (.tup xs)):cg K H a xs:=.inl (.inl h)
theorem bE.list(I:bE X pins σ H s)(h:bp X.K H a xs):∃its:List Value,bb xs its/\PlainL s.heap a its.toArray/\xs.length<=sizeLine:=by
 rcases h with h | ⟨o,its,n,hk,hc,hd,hs,hz,r⟩
 ·obtain⟨z,its,n,r,e⟩:=h.ok I.hok;exact⟨its,r,⟨_,n,e,rfl,rfl,rfl⟩,z⟩
 ·refine⟨its.toList,r,⟨o,n,I.kIn a o hk,hc,hd,by simpa using hs⟩,?_⟩;have e:=r.length;simp only[iQ] at e;lia
theorem bE.tuple(I:bE X pins σ H s)(h:cg X.K H a xs):∃its:List Value,bb xs its/\IsTup s.heap a its.toArray/\xs.length<=sizeLine:=by
 rcases h with h | ⟨o,its,n,hk,hc,hs,hz,r⟩
 ·obtain⟨z,its,r,p⟩:=h.ok I.hok;exact⟨its,r,p,z⟩
 ·refine⟨its.toList,r,⟨o,I.kIn a o hk,hc,n,by simpa using hs⟩,?_⟩;have e:=r.length;simp only[iQ] at e;lia
theorem bE.list_inj(I:bE X pins σ H s)(h:bp X.K H a xs)(h':bp X.K H a ys):xs=ys:=by
 obtain⟨its,r,⟨o,n,e,_,_,d⟩,_⟩:=I.list h;obtain⟨its',r',⟨o',n',e',_,_,d'⟩,_⟩:=I.list h';rw[e] at e';cases e';rw[d] at d';injection d' with d1 _
 have:its=its':=by simpa using congrArg Array.toList d1
 subst this;exact r.inj r'
theorem bE.tuple_inj(I:bE X pins σ H s)(h:cg X.K H a xs)(h':cg X.K H a ys):xs=ys:=by
 obtain⟨its,r,⟨o,e,_,n,d⟩,_⟩:=I.tuple h;obtain⟨its',r',⟨o',e',_,n',d'⟩,_⟩:=I.tuple h';rw[e] at e';cases e';rw[d] at d';injection d' with d1 _
 have:its=its':=by simpa using congrArg Array.toList d1
 subst this;exact r.inj r'
end
abbrev Cx.wish (X:Cx) (E:Value->Shared->Prop):Cx:={ X with xe:=E }
abbrev Cx.nox (X:Cx):Cx:=X.wish λ_ _=>False
theorem Cx.Ok.wish{X:Cx}(ok:X.Ok)(E:Value->Shared->Prop):(X.wish E).Ok:=
 ⟨ok.mod,ok.kind,ok.glob,ok.blt,ok.above,ok.inj,ok.has,ok.cab,ok.hd,ok.frames,ok.stk,ok.exf,ok.bs,ok.bsz,ok.noex,ok.exfs,ok.funs,ok.frf⟩
theorem Cx.Ok.unwish{X:Cx}{E:Value->Shared->Prop}(ok:(X.wish E).Ok):X.Ok:=
 ⟨ok.mod,ok.kind,ok.glob,ok.blt,ok.above,ok.inj,ok.has,ok.cab,ok.hd,ok.frames,ok.stk,ok.exf,ok.bs,ok.bsz,ok.noex,ok.exfs,ok.funs,ok.frf⟩
section
variable {X:Cx} {pins:List (Addr×Obj)} {σ:St} {H:Hp} {s:Shared} {E:Value->Shared->Prop}
theorem bE.wish(I:bE X pins σ H s)(E:Value->Shared->Prop):bE (X.wish E) pins σ H s:=⟨I.ok.wish E,I.os,I.bare,I.base,I.loc,I.cell,I.free,I.freeC,I.pin,I.hok,I.len⟩
theorem bE.unwish(I:bE (X.wish E) pins σ H s):bE X pins σ H s:=⟨I.ok.unwish,I.os,I.bare,I.base,I.loc,I.cell,I.free,I.freeC,I.pin,I.hok,I.len⟩
theorem SP.unwish{D:Ends}{f:Flow}{s':Shared}(h:SP (X.wish E) pins D f s'):SP X pins D f s':=by
 cases f with
 | next=>obtain⟨σ',H',I,q⟩:=h;exact⟨σ',H',I.unwish,q⟩
 | brk=>obtain⟨σ',H',I,q⟩:=h;exact⟨σ',H',I.unwish,q⟩
 | cont=>obtain⟨σ',H',I,q⟩:=h;exact⟨σ',H',I.unwish,q⟩
 | ret u=>obtain⟨v,σ',H',I,r,q⟩:=h;exact⟨v,σ',H',I.unwish,r,q⟩
theorem PT.nox{e:Expr}{t:TT}(h:PT X.nox e t):PT X e t:=λpins s σ H Q I hw=>
 Lo (h pins s σ H Q (I.wish _) hw) (λ_ _ ⟨H',I',q⟩=>⟨H',I'.unwish,q⟩) λ_ _ z=>False.elim z
theorem zh.nox{st:List Stmt}{t:TS}(h:zh X.nox st t):zh X st t:=λpins s σ H D I hw=>
 Lo (h pins s σ H D (I.wish _) hw) (λ_ _ q=>q.unwish) λ_ _ z=>False.elim z
end
section
variable {X:Cx} {t u:TS} {te:TE}
def BI:TS:=λD σ H=>D.nx σ H
def Ds(t u:TS):TS:=λD σ H=>t { D with nx:=u D } σ H
def CP:TS:=λD σ H=>D.bk σ H
def Dy:TS:=λD σ H=>D.ct σ H
theorem bE.quiet{pins:List (Addr×Obj)}{σ:St}{H:Hp}{s:Shared}(I:bE X pins σ H s):interactive X.env=false:=by simp[interactive,I.ok.kind]
def BJ(te:TE):TS:=λD σ H=>te σ H λ_ H1=>D.nx σ H1
def Du(te:TE):TS:=λD σ H=>te σ H D.rt
def Dt:TS:=λD _ H=>D.rt .non H
def Dw(c:TT)(t u:TS):TS:=λD σ H=>c σ H λb H1=>if b=true then t D σ H1 else u D σ H1
def CM:TS:=λ_ _ _=>False
end
abbrev TG:=V->St->Hp->(St->Hp->Prop)->Prop
abbrev zf:=List V->St->Hp->(St->Hp->Prop)->Prop
def PG(X:Cx)(target:Expr)(t:TG):Prop:=
 ∀(pins:List (Addr×Obj)) (s:Shared) (σ:St) (H:Hp) (v:V) (u:Value) (Q:St->Hp->Prop),bE X pins σ H s->RelV v u->t v σ H Q →
  wpAny (model X.prog X.w) X.A (assign target X.env u) (λ_ s'=>∃σ' H',bE X pins σ' H' s'/\Q σ' H') X.xe s
def Fm(X:Cx)(ts:List Expr)(t:zf):Prop:=
 ∀(pins:List (Addr×Obj)) (s:Shared) (σ:St) (H:Hp) (vs:List V) (us:List Value) (Q:St->Hp->Prop),bE X pins σ H s->bb vs us->t vs σ H Q →
  wpAny (model X.prog X.w) X.A (assignInOrder ((assignEach ts X.env).map (·.2)) us) (λ_ s'=>∃σ' H',bE X pins σ' H' s'/\Q σ' H') X.xe s
abbrev Aj:=V->V->V->Hp->(Hp->Prop)->Prop
def E6(X:Cx)(t:Aj):Prop:=
 ∀(pins:List (Addr×Obj)) (s:Shared) (σ:St) (H:Hp) (o i v:V) (ov iv u:Value) (Q:Hp->Prop),bE X pins σ H s->RelV o ov->RelV i iv->RelV v u->t o i v H Q →
  wpAny (model X.prog X.w) X.A (setItem ov iv u) (λ_ s'=>∃H',bE X pins σ H' s'/\Q H') X.xe s
abbrev E3:=V->V->Hp->VK->Prop
def FN(X:Cx)(op:Operator)(t:E3):Prop:=
 ∀(pins:List (Addr×Obj)) (s:Shared) (σ:St) (H:Hp) (x y:V) (v u:Value) (Q:VK),bE X pins σ H s->RelV x v->RelV y u->t x y H Q →
  wpAny (model X.prog X.w) X.A (inplaceOp op v u) (EP X pins σ Q) X.xe s
section
variable {X:Cx}
def lZ(i:Nat):TG:=λv σ H Q=>Q (σ.set i (some v)) H
def EV:zf:=λvs σ H Q=>vs=[]/\Q σ H
def B6(t:TG)(u:zf):zf:=λvs σ H Q=>∃v r,vs=v::r/\t v σ H λσ' H'=>u r σ' H' Q
def ET(K:MU)(n:Nat)(t:zf):TG:=λv σ H Q=>∃a xs,v=.ref a/\cg K H a xs/\xs.length=n/\t xs σ H Q
def EU(to ti:TE)(t:Aj):TG:=λv σ H Q=>to σ H λo H1=>ti σ H1 λi H2=>t o i v H2 λH3=>Q σ H3
def wM(te:TE)(g:TG):TS:=λD σ H=>te σ H λx H1=>g x σ H1 D.nx
def EA(i:Nat)(te:TE)(ti:E3):TS:=λD σ H=>∃x,σ[i]? = some (some x)/\te σ H λy H1=>ti x y H1 λz H2=>D.nx (σ.set i (some z)) H2
def FG(f:Int->Int->Int):E3:=λx y H Q=>∃i j,x=.int i/\y=.int j/\Q (.int (f i j)) H
theorem Ct:FN X .Add (FG λi j=>i+j):=by
 intro pins s σ H x y v u Q I r1 r2 h;obtain⟨i,j,e1,e2,q⟩:=h;subst e1;subst e2;obtain⟨t,rfl⟩:=r1;obtain⟨t',rfl⟩:=r2;exact iadd_int ⟨.int _,H,I.tok _,⟨_,rfl⟩,q⟩
theorem Cs:FN X .Sub (FG λi j=>i-j):=by
 intro pins s σ H x y v u Q I r1 r2 h;obtain⟨i,j,e1,e2,q⟩:=h;subst e1;subst e2;obtain⟨t,rfl⟩:=r1;obtain⟨t',rfl⟩:=r2;exact isub_int ⟨.int _,H,I.tok _,⟨_,rfl⟩,q⟩
end
section
def CH(c:TT)(tb:TS):TS:=λD σ H=>∃W:Nat->St->Hp->Prop,(∃m,W m σ H)/\∀m σ H,W m σ H →
 c σ H λb H1=>if b=true then ∃N:St->Hp->Prop,(∀σ' H',N σ' H'->∃m',m'<m/\W m' σ' H')/\tb { D with nx:=N,ct:=N,bk:=D.nx } σ H1 else D.nx σ H1
end
structure It where
 go:Nat->Hp->Prop
 yld:Nat->Hp->V->Hp->Prop
 stop:Nat->Hp->Prop
def iT(X:Cx)(pins:List (Addr×Obj))(H:Hp)(b:Addr):Prop:=
 H b=none/\b≠X.env.locals/\b∉X.fs/\(b∈X.ex\/X.s₀.heap.objs.size<=b)/\(∀x c,X.env.cells.lookup x=some c->c≠b)/\∀p∈X.pn++pins,p.1≠b
theorem bE.fpOk{X:Cx}{pins:List (Addr×Obj)}{σ:St}{H H':Hp}{s:Shared}{b:Addr}(I:bE X pins σ H s)(hb:s.heap.objs.size<=b)(hn:H' b=none):iT X pins H' b:=by
 refine⟨hn,gM (aO I.lt hb),I.nofs hb,.inr (bd I.sz hb),λx c e z=>?_,λp hp z=>?_⟩
 ·obtain⟨v,q⟩:=I.cell x c e;exact absurd (aO q.lt (by rw[z];exact hb)) (c6 _)
 ·exact absurd (aO (aM (I.pin p hp).1) (by rw[z];exact hb)) (c6 _)
structure Turn (P : Program) (w : World) (K : MU) (tg : Expr) (J : It) (fp : List Addr) (it : Addr) (tn : Nat → Heap → Prop) : Prop where
  mem : it ∈ fp
  obj : ∀ i h, tn i h → ∀ b ∈ fp, ∃ o, h.get? b = some o ∧ ∀ v, o.data ≠ .cell v
  keep : ∀ i h h', tn i h → (∀ b ∈ fp, ∀ o, h.get? b = some o → h'.get? b = some o) → tn i h'
  item : ∀ (X : Cx), X.prog = P → X.w = w → X.K = K → X.calm = true → ∀ (i : Nat) (pins : List (Addr × Obj)) (s : Shared) (σ : St) (H : Hp) (E : Value → Shared → Prop), bE X pins σ H s → (∀ b ∈ fp, iT X pins H b) → tn i s.heap → J.go i H →
    wpAny (model P w) X.A (pyNext (.ref it)) (fun r s1 => ∃ u, r = some u ∧
      wpAny (model P w) X.A (letOwnedTupleGo tg (.ref it) u) (fun _ s2 => ∃ x H', bE X pins σ H' s2 ∧ RelV x u ∧ J.yld i H x H' ∧ tn (i + 1) s2.heap ∧ ∀ b ∈ fp, H' b = none) E s1) E s
  done : ∀ (X : Cx), X.prog = P → X.w = w → X.K = K → X.calm = true → ∀ (i : Nat) (pins : List (Addr × Obj)) (s : Shared) (σ : St) (H : Hp) (E : Value → Shared → Prop), bE X pins σ H s → (∀ b ∈ fp, iT X pins H b) → tn i s.heap → J.stop i H →
    wpAny (model P w) X.A (pyNext (.ref it)) (fun r s1 => r = none ∧ bE X pins σ H s1) E s
  self : ∀ (A : Around) (i : Nat) (s : Shared) (Q : Value → Shared → Prop) (E : Value → Shared → Prop), tn i s.heap → Q (.ref it) s → wpAny (model P w) A (pyIter (.ref it)) Q E s
abbrev TI:=St->Hp->(It->Hp->Prop)->Prop
def F7(X:Cx)(pins:List (Addr×Obj))(σ:St)(tg:Expr)(R:It->Hp->Prop)(itv:Value)(s2:Shared):Prop:=
 ∃(it:Addr) (fp:List Addr) (tn:Nat->Heap->Prop) (J:It) (H':Hp),itv=.ref it/\bE X pins σ H' s2/\Turn X.prog X.w X.K tg J fp it tn/\tn 0 s2.heap/\(∀b∈fp,iT X pins H' b)/\R J H'
def PI(X:Cx)(tg iter:Expr)(wi:TI):Prop:=
 ∀(pins:List (Addr×Obj)) (s:Shared) (σ:St) (H:Hp) (R:It->Hp->Prop),bE X pins σ H s->wi σ H R →
  wpAny (model X.prog X.w) X.A (eval iter X.env) (λv s1=>wpAny (model X.prog X.w) X.A (pyIter v) (F7 X pins σ tg R) X.xe s1) X.xe s
theorem tQ {M : Model} {A : Around} {E : Value → Shared → Prop} {s : Shared} {tg : Expr} {it : Addr} {u : Value} {o : Obj} {n : String} {vs : Array Value} {Q : Unit → Shared → Prop} (ho : s.heap.get? it = some o) (hc : o.cls = .type n) (hd : o.data = .fields vs)
    (hn : ["enumerate", "zip", "dict_itemiterator", "dict_reverseitemiterator", "odict_iterator", "itertools.zip_longest", "itertools.pairwise"].contains n = false) (hQ : Q () s) : wpAny M A (letOwnedTupleGo tg (.ref it) u) Q E s := by
  unfold letOwnedTupleGo
  cases tg <;> first
    | exact Lq hQ
    | (cases u <;> first
        | exact Lq hQ
        | (refine wpAny_bind (wpAny_load ho ?_)
           rw [hc, hd]
           show wpAny M A (if (["enumerate", "zip", "dict_itemiterator", "dict_reverseitemiterator", "odict_iterator", "itertools.zip_longest", "itertools.pairwise"].contains n && vs[0]? == some (rawInt _)) = true then _ else _) Q E s
           rw [MN (by intro h; rw [hn, Bool.false_and] at h; cases h)]
           exact Lq hQ))
def Ap(K:MU)(a:Addr):It:=
 ⟨λi H=>∃xs x,bp K H a xs/\xs[i]? = some x,λi H x H'=>H'=H/\∀xs,bp K H a xs->xs[i]? = some x,λi H=>∃xs,bp K H a xs/\xs.length<=i⟩
def DT(K:MU)(a:Addr):It:=
 ⟨λi H=>∃xs x,cg K H a xs/\xs[i]? = some x,λi H x H'=>H'=H/\∀xs,cg K H a xs->xs[i]? = some x,λi H=>∃xs,cg K H a xs/\xs.length<=i⟩
def xO(lo:Int)(n:Nat):It:=⟨λi _=>i<n,λi H x H'=>H'=H/\x=.int (lo+i),λi _=>n<=i⟩
theorem j4 {P : Program} {w : World} {K : MU} {tg : Expr} (a it : Addr) : Turn P w K tg (Ap K a) [it] it (fun i h => h.IsListIter it a i) where
  mem := by simp
  obj := fun i h st b hb => by
    have e : b = it := by simpa using hb
    subst e
    obtain ⟨o, e, c, d⟩ := st
    exact ⟨o, e, fun v z => by rw [d] at z; cases z⟩
  keep := fun i h h' st k => st.at fun o e => k it (by simp) o e
  item := by
    intro X hP hw hK hc i pins s σ H E I hf st hg
    subst hP hw hK
    obtain ⟨xs, x, hq, hx⟩ := hg
    obtain ⟨its, rv, p, hz⟩ := I.list hq
    obtain ⟨u, hu, ru⟩ := rv.get hx
    obtain ⟨f0, f1, f2, f3, f4, f5⟩ := hf it (by simp)
    refine wpAny_pyNext_list_item st p.isList (x := u) (by simpa using hu) fun h' st' sb => ?_
    have I1 : bE X pins σ H { s with heap := h' } := I.turned (t' := s.toks) (fun b o hb e => (sb.2 b hb).trans e) f0 f1 f3 f4 f5
    obtain ⟨o, e, c, d⟩ := id st'
    exact ⟨u, rfl, tQ (s := { s with heap := h' }) e c d (by decide) ⟨x, H, I1, ru, ⟨rfl, fun ys hy => by rw [I.list_inj hy hq]; exact hx⟩, st', fun b hb => (hf b hb).1⟩⟩
  done := by
    intro X hP hw hK hc i pins s σ H E I hf st hg
    subst hP hw hK
    obtain ⟨xs, hq, hx⟩ := hg
    obtain ⟨its, rv, p, hz⟩ := I.list hq
    obtain ⟨f0, f1, f2, f3, f4, f5⟩ := hf it (by simp)
    have hl := rv.length
    exact wpAny_pyNext_list_end (I.ok.hd hc) st p.isList (by simp; lia) fun h' eb => ⟨rfl, I.turned (t' := s.toks) (fun b o hb e => eb b o hb e) f0 f1 f3 f4 f5⟩
  self := fun _ _ _ _ _ st h => wpAny_pyIter_listiter st h
theorem uH {P : Program} {w : World} {K : MU} {tg : Expr} (a it : Addr) : Turn P w K tg (DT K a) [it] it (fun i h => h.IsTupleIter it a i) where
  mem := by simp
  obj := fun i h st b hb => by
    have e : b = it := by simpa using hb
    subst e
    obtain ⟨o, e, c, d⟩ := st
    exact ⟨o, e, fun v z => by rw [d] at z; cases z⟩
  keep := fun i h h' st k => st.at fun o e => k it (by simp) o e
  item := by
    intro X hP hw hK hc i pins s σ H E I hf st hg
    subst hP hw hK
    obtain ⟨xs, x, hq, hx⟩ := hg
    obtain ⟨its, rv, p, hz⟩ := I.tuple hq
    obtain ⟨u, hu, ru⟩ := rv.get hx
    obtain ⟨f0, f1, f2, f3, f4, f5⟩ := hf it (by simp)
    refine wpAny_pyNext_tuple_item st (show s.heap.IsTuple a its.toArray from p) (x := u) (by simpa using hu) fun h' st' sb => ?_
    have I1 : bE X pins σ H { s with heap := h' } := I.turned (t' := s.toks) (fun b o hb e => (sb.2 b hb).trans e) f0 f1 f3 f4 f5
    obtain ⟨o, e, c, d⟩ := id st'
    exact ⟨u, rfl, tQ (s := { s with heap := h' }) e c d (by decide) ⟨x, H, I1, ru, ⟨rfl, fun ys hy => by rw [I.tuple_inj hy hq]; exact hx⟩, st', fun b hb => (hf b hb).1⟩⟩
  done := by
    intro X hP hw hK hc i pins s σ H E I hf st hg
    subst hP hw hK
    obtain ⟨xs, hq, hx⟩ := hg
    obtain ⟨its, rv, p, hz⟩ := I.tuple hq
    obtain ⟨f0, f1, f2, f3, f4, f5⟩ := hf it (by simp)
    have hl := rv.length
    exact wpAny_pyNext_tuple_end (I.ok.hd hc) st (show s.heap.IsTuple a its.toArray from p) (by simp; lia) fun h' eb => ⟨rfl, I.turned (t' := s.toks) (fun b o hb e => eb b o hb e) f0 f1 f3 f4 f5⟩
  self := fun _ _ _ _ _ st h => wpAny_pyIter_tupleiter st h
theorem uI {P : Program} {w : World} {K : MU} {tg : Expr} (it : Addr) (lo : Int) (n : Nat) : Turn P w K tg (xO lo n) [it] it (fun i h => IsRangeIter h it (lo + (i : Nat) * 1) ((n : Int) - (i : Nat)) 1) where
  mem := by simp
  obj := fun i h st b hb => by
    have e : b = it := by simpa using hb
    subst e
    exact ⟨_, st, fun v z => by
      have z' : Data.fields _ = Data.cell v := z
      cases z'⟩
  keep := fun i h h' st k => k it (by simp) _ st
  item := by
    intro X hP hw hK hc i pins s σ H E I hf st hg
    subst hP hw hK
    obtain ⟨f0, f1, f2, f3, f4, f5⟩ := hf it (by simp)
    have W := Walks.range (prog := X.prog) (w := X.w) (I.ok.hd hc) it lo 1 n
    refine W.item i s _ _ hg st fun v h' tk hv st' kk => ?_
    obtain ⟨t, rfl⟩ := hv
    have I1 : bE X pins σ H { s with heap := h', toks := tk } := I.turned (fun b o hb e => kk b o (by simpa using hb) e) f0 f1 f3 f4 f5
    refine ⟨_, rfl, tQ (s := { s with heap := h', toks := tk }) (n := "range_iterator") st' rfl rfl (by decide) ⟨.int (lo + i), H, I1, ⟨t, ?_⟩, ⟨rfl, rfl⟩, st', fun b hb => (hf b hb).1⟩⟩
    rw [Int.mul_one]
  done := by
    intro X hP hw hK hc i pins s σ H E I hf st hg
    subst hP hw hK
    obtain ⟨f0, f1, f2, f3, f4, f5⟩ := hf it (by simp)
    exact wpAny_pyNext_range_end (I.ok.hd hc) st (by have : n ≤ i := hg; lia) fun h' eb => ⟨rfl, I.turned (t' := s.toks) (fun b o hb e => eb b o hb e) f0 f1 f3 f4 f5⟩
  self := fun _ _ _ _ _ st h => wpAny_pyIter_rangeiter st h
section
variable {X:Cx} {tg:Expr}
def zK(K:MU)(tl:TE):TI:=λσ H R=>tl σ H λx H1=>∃a,x=.ref a/\(∃xs,bp K H1 a xs)/\R (Ap K a) H1
def Cu(K:MU)(tl:TE):TI:=λσ H R=>tl σ H λx H1=>∃a,x=.ref a/\(∃xs,cg K H1 a xs)/\R (DT K a) H1
theorem yd{pins:List (Addr×Obj)}{σ:St}{H:Hp}{s:Shared}{R:It->Hp->Prop}{E:Value->Shared->Prop}{lo hi:Int}{t u v:Tok}{tk:Nat}(I:bE X pins σ H s)(h1:-(2 ^ 62)<=lo)(h2:lo<2 ^ 62)(h3:-(2 ^ 62)<=hi)(h4:hi<2 ^ 62)
  (q:R (xO lo (hi-lo).toNat) H):wpAny (model X.prog X.w) X.A (pyIter (.ref s.heap.objs.size)) (F7 X pins σ tg R) E { s with heap:=s.heap.push { cls:=.type "range",data:=.fields #[.int lo t,.int hi u,.int 1 v] },toks:=tk }:=by
 refine wpAny_pyIter_range (IsRange.new ..) (small_one h1 h2 h3 h4) ?_;have I1:bE X pins σ H { s with heap:=s.heap.push { cls:=.type "range",data:=.fields #[.int lo t,.int hi u,.int 1 v] },toks:=tk }:=I.kept λb o e=>aD _ e;refine⟨(s.heap.push { cls:=.type "range",data:=.fields #[.int lo t,.int hi u,.int 1 v] }).objs.size,[(s.heap.push { cls:=.type "range",data:=.fields #[.int lo t,.int hi u,.int 1 v] }).objs.size],_,_,H,rfl,
  I1.kept (t':=tk) λb o e=>aD _ e,uI _ lo (hi-lo).toNat,?_,λb hb=>?_,q⟩
 ·have e1:lo+((0:Nat):Int)*1=lo:=by simp
  have e2:(((hi-lo).toNat:Nat):Int)-((0:Nat):Int)=Builtin.Range.rangeSize lo hi 1:=by rw[rangeSize_one];split<;>lia
  show IsRangeIter _ _ (lo+((0:Nat):Int)*1) ((((hi-lo).toNat:Nat):Int)-((0:Nat):Int)) 1;rw[e1,e2];exact aP _ rfl
 ·have e:b=(s.heap.push { cls:=.type "range",data:=.fields #[.int lo t,.int hi u,.int 1 v] }).objs.size:=by simpa using hb
  subst e;exact I1.fpOk (aH _) (I1.hok.fresh (aH _))
def zJ(ta:TA):TI:=λσ H R=>ta σ H λvs H1=>∃j:Int,vs=[.int j]/\-(2 ^ 62)<=j/\j<2 ^ 62/\R (xO 0 j.toNat) H1
def B3(ta:TA):TI:=λσ H R=>ta σ H λvs H1=>∃i j:Int,vs=[.int i,.int j]/\(-(2 ^ 62)<=i/\i<2 ^ 62/\-(2 ^ 62)<=j/\j<2 ^ 62)/\R (xO i (j-i).toNat) H1
def oX(wi:TI)(g:TG)(tb:TS):TS:=λD σ H=>wi σ H λJ H1=>∃W:Nat->Nat->St->Hp->Prop,(∃m,W 0 m σ H1)/\∀i m σ H,W i m σ H →
 (J.stop i H/\D.nx σ H)\/(J.go i H/\∃N:St->Hp->Prop,(∀σ' H',N σ' H'->∃m',m'<m/\W (i+1) m' σ' H')/\∀x H',J.yld i H x H'->g x σ H' λσ2 H2=>tb { D with nx:=N,ct:=N,bk:=D.nx } σ2 H2)
def gF(fp:List Addr)(h:Heap):List (Addr×Obj):=fp.filterMap λb=>(h.get? b).map λo=>(b,o)
theorem fE{fp:List Addr}{h:Heap}{b:Addr}{o:Obj}(hb:b∈fp)(e:h.get? b=some o):(b,o)∈gF fp h:=List.mem_filterMap.mpr ⟨b,hb,by rw[e];rfl⟩
theorem nD{fp:List Addr}{h:Heap}{p:Addr×Obj}(hp:p∈gF fp h):p.1∈fp/\h.get? p.1=some p.2:=by
 obtain⟨b,hb,e⟩:=List.mem_filterMap.mp hp;cases q:h.get? b with
 | none=>rw[q] at e;cases e
 | some o=>
  rw[q] at e;have e':(b,o)=p:=aq e;subst e';exact⟨hb,q⟩
theorem bE.pinned{pins:List (Addr×Obj)}{σ:St}{H:Hp}{s:Shared}{fp:List Addr}(I:bE X pins σ H s)(hf:∀b∈fp,iT X pins H b)(ho:∀b∈fp,∃o,s.heap.get? b=some o/\∀v,o.data≠.cell v):bE X (pins++gF fp s.heap) σ H s:=
 I.pins_of λp hp=>(aT.mp hp).elim (λz=>I.pin p (aa _ z)) λz=>by
  obtain⟨hb,e⟩:=nD z;obtain⟨f0,f1,f2,_⟩:=hf p.1 hb;obtain⟨o,e',d⟩:=ho p.1 hb;rw[e] at e';cases e';exact⟨e,f0,f1,f2,d⟩
theorem bE.unpinned{pins pl:List (Addr×Obj)}{σ:St}{H:Hp}{s:Shared}(I:bE X (pins++pl) σ H s):bE X pins σ H s:=I.pins_of λp hp=>I.pin p (aa _ (ax _ hp))
end
theorem gz{K:MU}{a:Addr}{xs:List V}{g:TG}{tb:TS}{D:Ends}{σ:St}{H:Hp}(Pv:Nat->St->Hp->Prop)(h0:Pv 0 σ H)(hl:∀i σ H,i<=xs.length->Pv i σ H->bp K H a xs)
  (hs:∀i x σ H,xs[i]? = some x->Pv i σ H->g x σ H λσ2 H2=>tb { D with nx:=Pv (i+1),ct:=Pv (i+1),bk:=D.nx } σ2 H2) (hd:∀σ H,Pv xs.length σ H->D.nx σ H) :
  ∃W:Nat->Nat->St->Hp->Prop,(∃m,W 0 m σ H)/\∀i m σ H,W i m σ H →
   ((Ap K a).stop i H/\D.nx σ H)\/((Ap K a).go i H/\∃N:St->Hp->Prop,(∀σ' H',N σ' H'->∃m',m'<m/\W (i+1) m' σ' H')/\∀x H',(Ap K a).yld i H x H'->g x σ H' λσ2 H2=>tb { D with nx:=N,ct:=N,bk:=D.nx } σ2 H2):=by
 refine⟨λi m σ H=>m=xs.length-i/\i<=xs.length/\Pv i σ H,⟨xs.length,by simp,bH _,h0⟩,?_⟩;rintro i m σ H ⟨rfl,hi,p⟩;have q:=hl i σ H hi p;by_cases hlt:i<xs.length
 ·refine .inr ⟨⟨xs,xs[i],q,by simp[hlt]⟩,Pv (i+1),λσ' H' p'=>⟨xs.length-(i+1),by lia,rfl,hlt,p'⟩,λx H' y=>?_⟩;obtain⟨e,y⟩:=y;subst e;exact hs i x σ _ (y xs q) p
 ·have e:i=xs.length:=by lia
  subst e;exact .inl ⟨⟨xs,q,aH _⟩,hd σ H p⟩
theorem eU{lo:Int}{n:Nat}{g:TG}{tb:TS}{D:Ends}{σ:St}{H:Hp}(Pv:Nat->St->Hp->Prop)(h0:Pv 0 σ H)
  (hs:∀i σ H,i<n->Pv i σ H->g (.int (lo+i)) σ H λσ2 H2=>tb { D with nx:=Pv (i+1),ct:=Pv (i+1),bk:=D.nx } σ2 H2) (hd:∀σ H,Pv n σ H->D.nx σ H) :
  ∃W:Nat->Nat->St->Hp->Prop,(∃m,W 0 m σ H)/\∀i m σ H,W i m σ H →
   ((xO lo n).stop i H/\D.nx σ H)\/((xO lo n).go i H/\∃N:St->Hp->Prop,(∀σ' H',N σ' H'->∃m',m'<m/\W (i+1) m' σ' H')/\∀x H',(xO lo n).yld i H x H'->g x σ H' λσ2 H2=>tb { D with nx:=N,ct:=N,bk:=D.nx } σ2 H2):=by
 refine⟨λi m σ H=>m=n-i/\i<=n/\Pv i σ H,⟨n,by simp,bH _,h0⟩,?_⟩;rintro i m σ H ⟨rfl,hi,p⟩;by_cases hlt:i<n
 ·refine .inr ⟨hlt,Pv (i+1),λσ' H' p'=>⟨n-(i+1),by lia,rfl,hlt,p'⟩,λx H' y=>?_⟩;obtain⟨e,y⟩:=y;subst e y;exact hs i σ _ hlt p
 ·have e:i=n:=by lia
  subst e;exact .inl ⟨aH _,hd σ H p⟩
abbrev R2:=V->V->Hp->VK->Prop
def nN(X:Cx)(f:Value->Value->Sem Value)(r:R2):Prop:=
 ∀(pins:List (Addr×Obj)) (s:Shared) (σ:St) (H:Hp) (x y:V) (v u:Value) (Q:VK),bE X pins σ H s->RelV x v->RelV y u->r x y H Q →
  wpAny (model X.prog X.w) X.A (f v u) (EP X pins σ Q) X.xe s
def fX(X:Cx)(f:Value)(r:List V->Hp->VK->Prop):Prop:=
 ∀(pins:List (Addr×Obj)) (s:Shared) (σ:St) (H:Hp) (xs:List V) (us:List Value) (Q:VK),bE X pins σ H s->bb xs us->r xs H Q →
  wpAny (model X.prog X.w) X.A (call f us) (EP X pins σ Q) X.xe s
def FL(X:Cx)(r:V->Hp->(Bool->Hp->Prop)->Prop):Prop:=
 ∀(pins:List (Addr×Obj)) (s:Shared) (σ:St) (H:Hp) (x:V) (v:Value) (Q:Bool->Hp->Prop),bE X pins σ H s->RelV x v->r x H Q →
  wpAny (model X.prog X.w) X.A (truthy v) (TP X pins σ Q) X.xe s
def CJ(r:R2)(ta tb:TE):TE:=λσ H Q=>ta σ H λx H1=>tb σ H1 λy H2=>r x y H2 Q
def Ff(r:V->Hp->VK->Prop)(ta:TE):TE:=λσ H Q=>ta σ H λx H1=>r x H1 Q
def rI(C:Int->Int->Prop)(g:Int->Int->V):R2:=λx y H Q=>∃i j,x=.int i/\y=.int j/\C i j/\Q (g i j) H
def C2(g:Int->Int->V):R2:=λx y H Q=>∃i j,x=.int i/\y=.int j/\Q (g i j) H
def rU(g:Int->V):V->Hp->VK->Prop:=λx H Q=>∃i,x=.int i/\Q (g i) H
section
variable {X:Cx} {a b:Expr} {ta tb:TE}
theorem DH(ha:PE X a ta)(hb:PE X b tb){pins:List (Addr×Obj)}{s:Shared}{σ:St}{H:Hp}{R:V->V->Hp->Prop}(I:bE X pins σ H s)
  (h:ta σ H λx H1=>tb σ H1 λy H2=>R x y H2) {Q:Value->Shared->Prop} {f:Value->Value->Sem Value}
  (hf:∀v u s2 x y H2,bE X pins σ H2 s2->RelV x v->RelV y u->R x y H2->wpAny (model X.prog X.w) X.A (f v u) Q X.xe s2) :
  wpAny (model X.prog X.w) X.A (eval a X.env) (λv s₁=>wpAny (model X.prog X.w) X.A (eval b X.env) (λu s₂=>wpAny (model X.prog X.w) X.A (f v u) Q X.xe s₂) X.xe s₁) X.xe s:=by
 refine cm (ha pins s σ H _ I h) λv s1 ⟨x,H1,I1,r1,q1⟩=>?_;refine cm (hb pins s1 σ H1 _ I1 q1) λu s2 ⟨y,H2,I2,r2,q2⟩=>?_;exact hf v u s2 x y H2 I2 r1 r2 q2
theorem Eg{f:Value->Value->Sem Value}{C:Int->Int->Prop}{g:Int->Int->Int}
  (rule:∀(i j:Int) (t u:Tok) (s:Shared) (Q:Value->Shared->Prop) (E:Value->Shared->Prop),C i j->Q (.int (g i j) s.toks) { s with toks:=s.toks+1 }->wpAny (model X.prog X.w) X.A (f (.int i t) (.int j u)) Q E s) :
  nN X f (rI C λi j=>.int (g i j)):=by
 intro pins s σ H x y v u Q I rx ry h;obtain⟨i,j,rfl,rfl,hc,q⟩:=h;obtain⟨t,rfl⟩:=rx;obtain⟨t',rfl⟩:=ry;exact rule i j t t' s _ _ hc ⟨.int (g i j),H,I.tok _,⟨_,rfl⟩,q⟩
theorem EK{f:Value->Value->Sem Value}{g:Int->Int->Int}
  (rule:∀(i j:Int) (t u:Tok) (s:Shared) (Q:Value->Shared->Prop) (E:Value->Shared->Prop),Q (.int (g i j) s.toks) { s with toks:=s.toks+1 }->wpAny (model X.prog X.w) X.A (f (.int i t) (.int j u)) Q E s) :
  nN X f (C2 λi j=>.int (g i j)):=by
 intro pins s σ H x y v u Q I rx ry h;obtain⟨i,j,rfl,rfl,q⟩:=h;obtain⟨t,rfl⟩:=rx;obtain⟨t',rfl⟩:=ry;exact rule i j t t' s _ _ ⟨.int (g i j),H,I.tok _,⟨_,rfl⟩,q⟩
theorem EL{f:Value->Value->Sem Value}{g:Int->Int->Bool}
  (rule:∀(i j:Int) (t u:Tok) (s:Shared) (Q:Value->Shared->Prop) (E:Value->Shared->Prop),Q (.bool (g i j)) s->wpAny (model X.prog X.w) X.A (f (.int i t) (.int j u)) Q E s) :
  nN X f (C2 λi j=>.bl (g i j)):=by
 intro pins s σ H x y v u Q I rx ry h;obtain⟨i,j,rfl,rfl,q⟩:=h;obtain⟨t,rfl⟩:=rx;obtain⟨t',rfl⟩:=ry;exact rule i j t t' s _ _ ⟨.bl (g i j),H,I,rfl,q⟩
def FV(i j:Int):Prop:=0<j/\j<1073741824
def FU(i j:Int):Prop:=0<=j/\j<=1000000/\i.natAbs<2 ^ 64
def DO(i j:Int):Prop:=(-(2 ^ 64)<i/\i<2 ^ 64)\/(-(2 ^ 64)<j/\j<2 ^ 64)
theorem DO.ok{i j:Int}(h:DO i j):IntMulOk i j:=by
 rcases h with ⟨h1,h2⟩ | ⟨h1,h2⟩
 ·exact .of_left (intBits_le_64 h1 h2)
 ·exact .of_right (intBits_le_64 h1 h2)
theorem fQ:nN X (binaryOp .Add) (C2 λi j=>.int (i+j)):=EK λ_ _ _ _ _ _ _ q=>add_int q
theorem mz:nN X (binaryOp .Sub) (C2 λi j=>.int (i-j)):=EK λ_ _ _ _ _ _ _ q=>sub_int q
theorem jr:nN X (binaryOp .Mult) (rI DO λi j=>.int (i*j)):=Eg λ_ _ _ _ _ _ _ hc q=>mul_int q hc.ok
theorem oJ:nN X (binaryOp .FloorDiv) (rI FV λi j=>.int (i / j)):=Eg λi j _ _ _ _ _ hc q=>by
 have h1:(0:Int)<j:=hc.1;have h2:j<1073741824:=hc.2;exact floordiv_int (by lia) (by rw[Int.fdiv_eq_ediv_of_nonneg i (by lia)];exact q) (.inl (PyProof.noPylong_small (by lia)))
theorem iA:nN X (binaryOp .Mod) (rI (λ_ j=>0<j) λi j=>.int (i % j)):=Eg λi j _ _ _ _ _ hc q=>by
 have h1:(0:Int)<j:=hc;exact mod_int' (by lia) (by rw[Int.fmod_eq_emod_of_nonneg i (by lia)];exact q)
theorem C8:nN X (binaryOp .Pow) (rI FU λi j=>.int (i ^ j.toNat)):=Eg λ_ _ _ _ _ _ _ hc q=>pow_int_small hc.1 hc.2.1 hc.2.2 q
end
def CS:V->V->Bool
 | .non,.non=>true | .non,.int _=>true | .int _,.non=>true | .non,.bl _=>true | .bl _,.non=>true | .non,.str _=>true | .str _,.non=>true
 | .int _,.int _=>true | .bl _,.bl _=>true | .str _,.str _=>true | .byt _,.byt _=>true
 | .int _,.str _=>true | .str _,.int _=>true | .bl _,.str _=>true | .str _,.bl _=>true
 | _,_=>false
def Ef:R2:=λx y H Q=>CS x y=true/\Q (.bl (decide (x=y))) H
def Ee:R2:=λx y H Q=>CS x y=true/\Q (.bl (!decide (x=y))) H
theorem vz{i j:Int}:decide (V.int i=V.int j)=(i==j):=by
 rw[iJ];simp
theorem zS{i j:Bool}:decide (V.bl i=V.bl j)=(i==j):=by
 rw[iJ];simp
theorem vy{i j:Str}:decide (V.str i=V.str j)=(i==j):=by
 rw[iJ];simp
theorem wA{i j:Array UInt8}:decide (V.byt i=V.byt j)=(i.toList==j.toList):=by
 rw[iJ];cases i;cases j;simp
section
variable {X:Cx} {b:Expr} {ta tb tc:TE}
theorem cH{pins:List (Addr×Obj)}{σ:St}{H:Hp}{s:Shared}{Q:VK}{k k':Bool}(I:bE X pins σ H s)(q:Q (.bl k) H)(e:k=k'):EP X pins σ Q (.bool k') s:=by
 subst e;exact⟨.bl k,H,I,rfl,q⟩
theorem ig:nN X (compareOp .Eq) Ef:=by
 intro pins s σ H x y v u Q I rx ry h;obtain⟨hs,q⟩:=h;cases x with
 | non=>
  cases rx;cases y with
  | non=>cases ry;exact PySem.EqNone.eq_none_none (cH I q (by simp))
  | bl j=>cases ry;exact PySem.EqNone.eq_none_bool (cH I q (by simp))
  | int j=>obtain⟨t',rfl⟩:=ry;exact PySem.EqNone.eq_none_int (cH I q (by simp))
  | str j=>obtain⟨t',rfl⟩:=ry;exact PySem.EqNone.eq_none_str (cH I q (by simp))
  | _=>exact absurd (show false=true from hs) aY
 | bl i=>
  cases rx;cases y with
  | non=>cases ry;exact PySem.EqNone.eq_bool_none (cH I q (by simp))
  | bl j=>cases ry;exact eq_bool (cH I q zS)
  | str j=>obtain⟨t',rfl⟩:=ry;exact PySem.EqMixed.eq_bool_str (cH I q (by simp))
  | _=>exact absurd (show false=true from hs) aY
 | int i=>
  obtain⟨t,rfl⟩:=rx;cases y with
  | non=>cases ry;exact PySem.EqNone.eq_int_none (cH I q (by simp))
  | int j=>obtain⟨t',rfl⟩:=ry;exact eq_int (cH I q vz)
  | str j=>obtain⟨t',rfl⟩:=ry;exact PySem.EqMixed.eq_int_str (cH I q (by simp))
  | _=>exact absurd (show false=true from hs) aY
 | str i=>
  obtain⟨t,rfl⟩:=rx;cases y with
  | non=>cases ry;exact PySem.EqNone.eq_str_none (cH I q (by simp))
  | bl j=>cases ry;exact PySem.EqMixed.eq_str_bool (cH I q (by simp))
  | int j=>obtain⟨t',rfl⟩:=ry;exact PySem.EqMixed.eq_str_int (cH I q (by simp))
  | str j=>obtain⟨t',rfl⟩:=ry;exact eq_str (cH I q vy)
  | _=>exact absurd (show false=true from hs) aY
 | byt i=>
  obtain⟨t,rfl⟩:=rx;cases y with
  | byt j=>obtain⟨t',rfl⟩:=ry;exact PySem.W.eq_bytes (cH I q wA)
  | _=>exact absurd (show false=true from hs) aY
 | _=>cases y<;>exact absurd (show false=true from hs) aY
theorem mS:nN X (compareOp .NotEq) Ee:=by
 intro pins s σ H x y v u Q I rx ry h;obtain⟨hs,q⟩:=h;cases x with
 | non=>
  cases rx;cases y with
  | non=>cases ry;exact PySem.EqNone.ne_none_none (cH I q (by simp))
  | bl j=>cases ry;exact PySem.EqNone.ne_none_bool (cH I q (by simp))
  | int j=>obtain⟨t',rfl⟩:=ry;exact PySem.EqNone.ne_none_int (cH I q (by simp))
  | str j=>obtain⟨t',rfl⟩:=ry;exact PySem.EqNone.ne_none_str (cH I q (by simp))
  | _=>exact absurd (show false=true from hs) aY
 | bl i=>
  cases rx;cases y with
  | non=>cases ry;exact PySem.EqNone.ne_bool_none (cH I q (by simp))
  | bl j=>cases ry;exact ne_bool (cH I q (congrArg not zS))
  | str j=>obtain⟨t',rfl⟩:=ry;exact PySem.EqMixed.ne_bool_str (cH I q (by simp))
  | _=>exact absurd (show false=true from hs) aY
 | int i=>
  obtain⟨t,rfl⟩:=rx;cases y with
  | non=>cases ry;exact PySem.EqNone.ne_int_none (cH I q (by simp))
  | int j=>obtain⟨t',rfl⟩:=ry;exact ne_int (cH I q (congrArg not vz))
  | str j=>obtain⟨t',rfl⟩:=ry;exact PySem.EqMixed.ne_int_str (cH I q (by simp))
  | _=>exact absurd (show false=true from hs) aY
 | str i=>
  obtain⟨t,rfl⟩:=rx;cases y with
  | non=>cases ry;exact PySem.EqNone.ne_str_none (cH I q (by simp))
  | bl j=>cases ry;exact PySem.EqMixed.ne_str_bool (cH I q (by simp))
  | int j=>obtain⟨t',rfl⟩:=ry;exact PySem.EqMixed.ne_str_int (cH I q (by simp))
  | str j=>obtain⟨t',rfl⟩:=ry;exact ne_str (cH I q (congrArg not vy))
  | _=>exact absurd (show false=true from hs) aY
 | byt i=>
  obtain⟨t,rfl⟩:=rx;cases y with
  | byt j=>obtain⟨t',rfl⟩:=ry;exact PySem.W.ne_bytes (cH I q (congrArg not wA))
  | _=>exact absurd (show false=true from hs) aY
 | _=>cases y<;>exact absurd (show false=true from hs) aY
theorem km:nN X (compareOp .Lt) (C2 λi j=>.bl (decide (i<j))):=EL λ_ _ _ _ _ _ _ q=>lt_int q
theorem qM:nN X (compareOp .Gt) (C2 λi j=>.bl (decide (j<i))):=EL λ_ _ _ _ _ _ _ q=>gt_int q
theorem qv:nN X (compareOp .IsNot) (λx y H Q=>y=.non/\Q (.bl (!decide (x=.non))) H):=by
 intro pins s σ H x y v u Q I rx ry h;obtain⟨rfl,q⟩:=h;cases ry;refine isnot_none_gen (cH I q ?_);cases x<;>first
  | (cases rx;rfl)
  | (obtain⟨t,rfl⟩:=rx;rfl)
theorem bS(b:Expr){op:CmpOp}(h:op≠.In:=by decide)(h2:op≠.NotIn:=by decide):behindInMarks op b=false:=by
 have e1:(op==CmpOp.In)=false:=by cases op<;>first | rfl | exact absurd rfl h
 have e2:(op==CmpOp.NotIn)=false:=by cases op<;>first | rfl | exact absurd rfl h2
 cases b<;>simp[behindInMarks,e1,e2]
def yL(t:TE):TT:=λσ H Q=>t σ H λx H'=>∃k,x=.bl k/\Q k H'
def CO(r r':R2)(ta tb tc:TE):TE:=λσ H Q=>ta σ H λx H1=>tb σ H1 λy H2=>r x y H2 λz H3=>∃k,z=.bl k ∧
 (if k=true then tc σ H3 λw' H4=>r' y w' H4 Q else Q (.bl false) H3)
def E2(K:MU)(x:V)(H:Hp)(k:Bool):Prop:=
 match x with
 | .non=>k=false
 | .bl b=>k=b
 | .int i=>k=(i != 0)
 | .str y=>y.length<=sizeLine/\k=((y.length:Int) != 0)
 | .byt y=>y.size<=sizeLine/\k=((y.size:Int) != 0)
 | .ref p=>(∃xs,bp K H p xs/\k=!xs.isEmpty)\/(∃xs,cg K H p xs/\k=!xs.isEmpty)\/∃kvs,H p=some (.dK kvs)/\k=!kvs.isEmpty
 | _=>False
theorem ui{κ:Type}{kvs:List (κ×V)}{vs:List (κ×Value)}(r:KV kvs vs):(!vs.isEmpty)=!kvs.isEmpty:=by
 cases r<;>rfl
theorem pG{xs:List V}{its:List Value}(r:bb xs its):(!its.toArray.isEmpty)=!xs.isEmpty:=by
 cases r<;>simp
theorem mB:(sizeLine:Nat)<2 ^ 63:=by rw[Lr];decide
theorem CG:FL X (λx H Q=>∃k,E2 X.K x H k/\Q k H):=by
 intro pins s σ H x v Q I rx h;obtain⟨k,e,q⟩:=h;have hl:=mB;have hs:sizeLine=16777216:=Lr;cases x with
 | non=>
  cases rx;have e':k=false:=e;subst e';exact truthy_none ⟨H,I,q⟩
 | bl b=>
  cases rx;have e':k=b:=e;subst e';exact Lp ⟨H,I,q⟩
 | int i=>
  obtain⟨t,rfl⟩:=rx;have e':k=(i != 0):=e;subst e';exact PySem.P.truthy_int ⟨H,I,q⟩
 | str y=>
  obtain⟨t,rfl⟩:=rx;obtain⟨hy,e'⟩:y.length<=sizeLine/\k=((y.length:Int) != 0):=e;subst e';exact PySem.P.truthy_str (by lia) ⟨H,I.tok _,q⟩
 | byt y=>
  obtain⟨t,rfl⟩:=rx;obtain⟨hy,e'⟩:y.size<=sizeLine/\k=((y.size:Int) != 0):=e;subst e';exact PySem.W.truthy_bytes (by lia) ⟨H,I.tok _,q⟩
 | ref p=>
  cases rx;have e':(∃xs,bp X.K H p xs/\k=!xs.isEmpty)\/(∃xs,cg X.K H p xs/\k=!xs.isEmpty)\/∃kvs,H p=some (.dK kvs)/\k=!kvs.isEmpty:=e;rcases e' with ⟨xs,hx,e'⟩ | ⟨xs,hx,e'⟩ | ⟨kvs,hx,e'⟩
  ·subst e';obtain⟨its,r,pl,hz⟩:=I.list hx;have hlen:=r.length;exact wpAny_truthy_list pl.isList (by simp only[aQ];lia) ⟨H,I.tok _,by rw[pG r];exact q⟩
  ·subst e';obtain⟨its,r,pl,hz⟩:=I.tuple hx;have hlen:=r.length;exact truthy_tuple pl (by simp only[aQ];lia) ⟨H,I.tok _,by rw[pG r];exact q⟩
  ·subst e';obtain⟨hz,hS,vs,r,m⟩:kvs.length<=sizeLine/\(p==sysModules)=false/\∃vs,KV kvs vs/\s.heap.DictOf (dk X.prog X.w) p vs:=I.hok p _ hx;have hlen:kvs.length=vs.length:=cN r;exact wpAny_truthy_dict hS m (by lia) ⟨H,I.tok _,by rw[ui r];exact q⟩
 | _=>exact(show False from e).elim
theorem ii:nN X (binaryOp .Add) (λx y H Q=>∃i j,x=.str i/\y=.str j/\i.length+j.length<=sizeLine/\Q (.str (i++j)) H):=by
 intro pins s σ H x y v u Q I rx ry h;obtain⟨i,j,rfl,rfl,hz,q⟩:=h;obtain⟨t,rfl⟩:=rx;obtain⟨t',rfl⟩:=ry;exact add_str (λt' tk=>⟨.str (i++j),H,I.tok _,⟨_,rfl⟩,q⟩) hz
theorem Ls{x:V}{us:List Value}(r:bb [x] us):∃u,us=[u]/\RelV x u:=by
 cases r with
 | cons r1 r2=>cases r2;exact⟨_,rfl,r1⟩
theorem vals2{x y:V}{us:List Value}(r:bb [x,y] us):∃u w',us=[u,w']/\RelV x u/\RelV y w':=by
 cases r with
 | cons r1 r2=>
  cases r2 with
  | cons r3 r4=>cases r4;exact⟨_,_,rfl,r1,r3⟩
theorem q9 (hc:X.calm=true):fX X (.builtin "max") (λxs H Q=>∃i j,xs=[.int i,.int j]/\Q (.int (if j > i then j else i)) H):=by
 intro pins s σ H xs us Q I r h;obtain⟨i,j,rfl,q⟩:=h;obtain⟨u,w',rfl,⟨t,rfl⟩,⟨t',rfl⟩⟩:=vals2 r;refine max_two_ints (I.ok.hd hc) λh' tk k=>⟨_,H,I.kept k,?_,q⟩
 by_cases hj:j > i
 ·rw[MO hj,MO hj];exact⟨_,rfl⟩
 ·rw[MN hj,MN hj];exact⟨_,rfl⟩
theorem qZ (hc:X.calm=true):fX X (.builtin "min") (λxs H Q=>∃i j,xs=[.int i,.int j]/\Q (.int (if j<i then j else i)) H):=by
 intro pins s σ H xs us Q I r h;obtain⟨i,j,rfl,q⟩:=h;obtain⟨u,w',rfl,⟨t,rfl⟩,⟨t',rfl⟩⟩:=vals2 r;refine min_two_ints (I.ok.hd hc) λh' tk k=>⟨_,H,I.kept k,?_,q⟩
 by_cases hj:j<i
 ·rw[MO hj,MO hj];exact⟨_,rfl⟩
 ·rw[MN hj,MN hj];exact⟨_,rfl⟩
theorem xK:fX X (.type "int") (λxs H Q=>(∃i,xs=[.int i]/\Q (.int i) H)\/∃k,xs=[.bl k]/\Q (.int (if k then 1 else 0)) H):=by
 intro pins s σ H xs us Q I r h;rcases h with ⟨i,rfl,q⟩ | ⟨k,rfl,q⟩
 ·obtain⟨u,rfl,t,rfl⟩:=Ls r;exact call_int_int ⟨.int i,H,I,⟨_,rfl⟩,q⟩
 ·obtain⟨u,rfl,r1⟩:=Ls r;cases r1;exact call_int_bool ⟨.int (if k then 1 else 0),H,I.tok _,⟨_,rfl⟩,q⟩
end
structure DL (h:Heap) (x dx C:Addr) (mA:Str->Option Value):Prop where
 obj:h.get? x=some (PySem.W.instObj C dx)
 ns:h.Ns1 dx mA
 ne:dx≠x
theorem qN{h:Heap}{dx:Addr}{mA:Str->Option Value}(n:h.Ns1 dx mA):∃od,h.get? dx=some od/\∀name,PySem.W.lookIn name od=some (mA name):=by
 obtain⟨o,es,ep,ho,hd,hk,_,hm⟩:=n;refine⟨o,ho,λname=>?_⟩;have e:=hm name;unfold nsFind findBy at e;rw[<-Array.find?_toList] at e;unfold PySem.W.lookIn;rw[hd];dsimp only
 split
 ·rename_i y q;rw[q] at e;exact congrArg some e
 ·rename_i q;rw[q] at e;have a:es.toList.any (·.refKey)=false:=by
   rw[jR];intro y hy;obtain⟨z,t,hkey⟩:=hk y (Array.mem_toList_iff.mp hy);simp[DictEntry.refKey,hkey]
  have a':¬es.toList.any (·.refKey)=true:=by rw[a];exact aY
  rw[MN a'];exact congrArg some e
theorem DL.look{h:Heap}{x dx C:Addr}{mA:Str->Option Value}(I:DL h x dx C mA):∃od,PySem.W.InstAt h x (PySem.W.instObj C dx) C (some od)/\∀name,PySem.W.lookIn name od=some (mA name):=
 let ⟨od,ho,hl⟩:=qN I.ns
 ⟨od,⟨I.obj,rfl,rfl,ho⟩,hl⟩
theorem pU.some_of{v:V}{o:Option Value}(r:pU (some v) o):∃u,o=some u/\RelV v u:=by
 cases o with
 | none=>exact(show False from r).elim
 | some u=>exact⟨u,rfl,r⟩
section
variable {P:Program} {w:World} {H:Hp} {h:Heap} {a C dx:Addr} {fs:List (Str×V)}
theorem A5(hok:lC P w H h)(e:H a=some (.ins C dx fs)):∃mA,DL h a dx C mA/\(∀f,pU (fs.lookup f) (mA f))/\PySem.Within mA (fs.map (·.1))/\fs.length<=1000/\H dx=some (.own a):=by
 obtain⟨d,z,ne,ob,mA,n,r,q⟩:=(show cL P w H h a (.ins C dx fs) from hok a _ e)
 exact⟨mA,⟨ob,n,ne⟩,r,q,z,d⟩
end
structure FT (K:MU) (C:Addr):Prop where
 pg:PySem.W.plainGet K C Str.empty=true
 hd:PySem.W.hasDictIn K C=true
 po:PySem.W.plainOver K C=true
 sa:PySem.W.findIn K (.ref C) "__setattr__"=some (some (.builtin "object.__setattr__"))
theorem FT.get{K:MU}{C:Addr}(c:FT K C)(f:Str):PySem.W.plainGet K C f=true:=c.pg
section
variable {X:Cx} {pins:List (Addr×Obj)} {σ:St} {H:Hp} {s:Shared} {A:Around} {E:Value->Shared->Prop} {Q:Value->Shared->Prop} {c:Value} {b:Bool}
inductive lU (K : MU) (H : Hp) : V → Value → Prop where
 | non : lU K H .non (.type "NoneType")
 | bl (x : Bool) : lU K H (.bl x) (.type "bool")
 | int (i : Int) : lU K H (.int i) (.type "int")
 | str (x : Str) : lU K H (.str x) (.type "str")
 | flt (x : UInt64) : lU K H (.flt x) (.type "float")
 | lst {a : Addr} {xs : List V} (e : H a = some (.lst xs)) : lU K H (.ref a) (.type "list")
 | frz {a : Addr} {o : Obj} {xs : List V} (e : H a = some (.frz o (.lst xs))) : lU K H (.ref a) (.type "list")
 | tup {a : Addr} {xs : List V} (e : H a = some (.tup xs)) : lU K H (.ref a) (.type "tuple")
 | dK {a : Addr} {kvs : List (Key × V)} (e : H a = some (.dK kvs)) : lU K H (.ref a) (.type "dict")
 | dT {a : Addr} {kvs : List (List Key × V)} (e : H a = some (.dT kvs)) : lU K H (.ref a) (.type "dict")
 | ins {a C dx : Addr} {fs : List (Str × V)} (e : H a = some (.ins C dx fs)) (cl : FT K C) (ha : PySem.W.findIn K (.ref C) "__class__" = some (some (.builtin "object.__class__")))
   (hn : PySem.W.specialIn K (.builtin "object.__class__") "__get__" = some (some (.builtin "getset_descriptor.__get__"))) (htk : PySem.W.takesIn K (.builtin "object.__class__") = some true)
   (hm : PySem.W.mroIn K C (.type "object") = some true) : lU K H (.ref a) (.ref C)
theorem wv{x:V}{u t:Value}(I:bE X pins σ H s)(rx:RelV x u)(ty:lU X.K H x t)(e:PySem.W.kitOne X.K t c=some b)(h:∀tk,Q (.bool b) { s with toks:=tk }):
  wpAny (model X.prog X.w) A (call (.builtin "isinstance") [u,c]) Q E s:=by
 cases ty with
 | non=>cases (show u=Value.none from rx);exact bf PySem.W.kitx_none I.kIn True.intro e (λz=>nomatch z) h
 | bl y=>cases (show u=Value.bool y from rx);exact bf PySem.W.kitx_bool I.kIn True.intro e (λz=>nomatch z) h
 | int i=>obtain⟨t,q⟩:=(show ∃t,u=Value.int i t from rx);cases q;exact bf PySem.W.kitx_int I.kIn True.intro e (λz=>nomatch z) h
 | str y=>obtain⟨t,q⟩:=(show ∃t,u=Value.str y t from rx);cases q;exact bf PySem.W.kitx_str I.kIn True.intro e (λz=>nomatch z) h
 | flt y=>obtain⟨t,q⟩:=(show ∃t,u=Value.float y t from rx);cases q;exact bf PySem.W.kitx_float I.kIn True.intro e (λz=>nomatch z) h
 | @lst a xs ea=>
  cases (show u=Value.ref a from rx);obtain⟨_,_,n,_,h1⟩:=(show cL X.prog X.w H s.heap a (.lst xs) from I.hok a _ ea)
  exact bf PySem.W.kitx_list I.kIn ⟨_,h1,rfl⟩ e (λz=>nomatch z) h
 | @frz a ob xs ea=>
  cases (show u=Value.ref a from rx);obtain⟨_,_,_,n,_,h1⟩:=(show cL X.prog X.w H s.heap a (.frz ob (.lst xs)) from I.hok a _ ea)
  exact bf PySem.W.kitx_list I.kIn ⟨_,h1,rfl⟩ e (λz=>nomatch z) h
 | @tup a xs ea=>
  cases (show u=Value.ref a from rx);obtain⟨_,_,_,p⟩:=(show cL X.prog X.w H s.heap a (.tup xs) from I.hok a _ ea)
  obtain⟨o,h1,h2,_⟩:=p;exact bf PySem.W.kitx_tuple I.kIn ⟨o,h1,h2⟩ e (λz=>nomatch z) h
 | @dK a kvs ea=>
  cases (show u=Value.ref a from rx);obtain⟨_,_,vs,_,p⟩:=(show cL X.prog X.w H s.heap a (.dK kvs) from I.hok a _ ea)
  obtain⟨o,es,ep,h1,h2,_⟩:=p;exact bf PySem.W.kitx_dict I.kIn ⟨o,h1,h2.1⟩ e (λz=>nomatch z) h
 | @dT a kvs ea=>
  cases (show u=Value.ref a from rx);obtain⟨_,_,xs,_,o,es,ep,h1,h2,_⟩:=(show cL X.prog X.w H s.heap a (.dT kvs) from I.hok a _ ea)
  exact bf PySem.W.kitx_dict I.kIn ⟨o,h1,h2.1⟩ e (λz=>nomatch z) h
 | @ins a C dx fs ea cl ha hn htk hm=>
  cases (show u=Value.ref a from rx);obtain⟨mA,O,_⟩:=A5 I.hok ea;obtain⟨od,J,_⟩:=O.look;exact bf (PySem.W.kitx_own (cl.get _) cl.hd ha hn htk hm) I.kIn J e (λz=>nomatch z) h
end
structure gS (k:Nat) (A:Around):Prop where
 hd:A.handled=none
 dp:A.depth+3 * k+5<recursionLimit
 un:A.units+16 * k+200<cLine
 gd:A.guards=some []
theorem gS.mono{j k:Nat}{A:Around}(r:gS k A)(h:j<=k):gS j A:=⟨r.hd,by have:=r.dp;lia,by have:=r.un;lia,r.gd⟩
theorem gS.deeper{k:Nat}{A:Around}(r:gS (k+1) A)(env:Env):gS k (A.deeper env):=
 ⟨r.hd,by have:=r.dp;show A.depth+1+3*k+5<_;lia,by have:=r.un;show A.units+3+16*k+200<_;lia,r.gd⟩
theorem gS.depth{k:Nat}{A:Around}(r:gS k A):A.depth<recursionLimit:=by have:=r.dp;lia
theorem gS.units{k:Nat}{A:Around}(r:gS k A):A.units+64<cLine:=by have:=r.un;lia
def CK:TA:=λ_ H Q=>Q [] H
def jE(ta:TE)(tr:TA):TA:=λσ H Q=>ta σ H λx H1=>tr σ H1 λxs H2=>Q (x::xs) H2
section
variable {X:Cx} {e:Expr} {es:List Expr} {te:TE} {t:TA} {pos:Pos}
theorem gG(ha:PE X e te)(hr:PA X es t)(hs:starEach (e::es) X.env=(false,eval e X.env)::starEach es X.env:=by rfl):PA X (e::es) (jE te t):=by
 intro pos pins s σ H Q I h;rw[hs];show wpAny _ _ (spliced ((false,eval e X.env)::backTo pos (starEach es X.env))) _ _ s;refine iu (cm (ha pins s σ H _ I h) λu s1 ⟨x,H1,I1,r1,q1⟩=>?_);exact cm (hr pos pins s1 σ H1 _ I1 q1) λus s2 ⟨xs,H2,I2,r2,q2⟩=>⟨x::xs,H2,I2,.cons r1 r2,q2⟩
def CI(t:TA):TE:=λσ H Q=>t σ H λxs H1=>xs.length<=sizeLine/\∀p,H1 p=none->Q (.ref p) (bU H1 p (.tup xs))
def yN(t:TA):TE:=λσ H Q=>t σ H λxs H1=>xs.length<=sizeLine/\∀p,H1 p=none->Q (.ref p) (bU H1 p (.lst xs))
end
abbrev Sp:=List V->Hp->VK->XK->Prop
abbrev xT:=List Env->Hp->Shared->XK->Value->Shared->Prop
structure xP (P:Program) (w:World) (K:MU) (mg:Str->Option Value) (base:Heap) (A:Around) (outer:List Env) (s:Shared) (H:Hp):Prop where
 frames:A.frames=some outer
 mod:Mod K mg base
 bs:∀ b o,base.get? b=some o->s.heap.get? b=some o/\H b=none
 bsz:base.objs.size<=s.heap.objs.size
 funs:s.heap.FunFrames base outer
 frf:∀ b∈jw outer,H b=none
 hok:lC P w H s.heap
 bare:AllBare s.gens
def CE(outer:List Env)(P:Program)(w:World)(H:Hp)(s:Shared)(Q:VK)(u:Value)(s':Shared):Prop:=
 ∃v H',s'.os=s.os/\AllBare s'.gens/\Un (jw outer) [] H H' s.heap s'.heap/\lC P w H' s'.heap/\RelV v u/\Q v H'
def CR(CX:xT)(outer:List Env)(P:Program)(w:World)(H:Hp)(s:Shared)(Q:VK)(E:XK)(r:Result)(s':Shared):Prop:=
 match r with
 | .ok (.ret u)=>CE outer P w H s Q u s'
 | .ok _=>False
 | .error e=>CX outer H s E e s'
structure me (P:Program) (w:World) (K:MU) (mg:Str->Option Value) (base:Heap) (CX:xT) (k:Nat) (f:Addr) (fd:FuncData) (ps:List Str) (sp:Sp):Prop where
 len:∀ vs H Q E,sp vs H Q E->vs.length=ps.length
 run:∀ (A:Around) (outer:List Env) (s:Shared) (H:Hp) (args:Args) (us:List Value) (vs:List V) (Q:VK) (E:XK),gS k A->xP P w K mg base A outer s H->BindsTo s fd args (ps.zip us)->bb vs us->sp vs H Q E →
  codeAny (model P w) A (.call (.ref f) args) (CR CX outer P w H s Q E) s
section
variable {X:Cx} {pins:List (Addr×Obj)} {σ:St} {H:Hp} {s s':Shared}
theorem bE.env0(I:bE X pins σ H s):xP X.prog X.w X.K X.mg X.base X.A X.stack s H:=
 ⟨I.ok.frames,I.ok.mod,I.bs,bd I.ok.bsz I.sz,I.stack,I.stkFree,I.hok,I.bare⟩
theorem bE.after{Q:VK}{u:Value}(I:bE X pins σ H s)(h:CE X.stack X.prog X.w H s Q u s'):EP X pins σ Q u s':=by
 obtain⟨v,H',os,bare,un,hok,r,q⟩:=h;obtain⟨hh,g,d,t,os'⟩:=s';obtain rfl:os'=s.os:=os;exact⟨v,H',I.call (h':=hh) (g':=g) (d':=d) (t':=t) (ch:=[]) un hok bare (λb z=>absurd z (by simp)),r,q⟩
end
def oY(sp:Sp)(dvs:List V)(E:XK)(t:TA):TE:=λσ H Q=>t σ H λvs H1=>sp (vs++dvs) H1 Q E
def Binds(K:MU)(fd:FuncData)(ps:List Str)(ds:List Value):Prop:=
 ∀(s:Shared) (us:List Value),K.In s.heap->(us++ds).length=ps.length->BindsTo s fd ⟨us,[]⟩ (ps.zip (us++ds))
theorem Binds.all{K:MU}{fd:FuncData}{ps:List Str}(h:∀us:List Value,us.length=ps.length->bindArgs fd ⟨us,[]⟩=pure (ps.zip us)):Binds K fd ps []:=λs us _ hl=>by
 rw[eM] at hl ⊢;exact .of_eq (h us hl)
def pV(CX:xT)(X:Cx)(E:XK):Prop:=∀(pins:List (Addr×Obj)) (σ:St) (H:Hp) (s:Shared) (e:Value) (s':Shared),bE X pins σ H s->CX X.stack H s E e s'->X.xe e s'
section
variable {X:Cx} {CX:xT} {k:Nat} {f:Addr} {fd:FuncData} {ps:List Str} {sp:Sp} {dvs:List V} {ds:List Value} {E:XK} {x:Str} {p pos:Pos} {e:Expr} {es:List Expr} {t:TA}
theorem CT{pins:List (Addr×Obj)}{σ:St}{H:Hp}{s:Shared}{Q:VK}{us:List Value}{vs:List V}(F:me X.prog X.w X.K X.mg X.base CX k f fd ps sp)(hr:gS k X.A)(hb:Binds X.K fd ps ds)(hd:bb dvs ds)(hx:pV CX X E)
  (I:bE X pins σ H s) (r:bb vs us) (h:sp (vs++dvs) H Q E):wpAny (model X.prog X.w) X.A (call (.ref f) us) (EP X pins σ Q) X.xe s:=by
 have r2:bb (vs++dvs) (us++ds):=r.append hd;have hl:(us++ds).length=ps.length:=by rw[<-r2.length];exact F.len _ _ _ _ h
 refine Lu (Lv (F.run X.A X.stack s H ⟨us,[]⟩ (us++ds) (vs++dvs) Q E hr I.env0 (hb s us I.kIn hl) r2 h) λr s' hq=>?_);cases r with
 | error e=>exact hx pins σ H s e s' I hq
 | ok fl=>
  cases fl with
  | ret u=>exact I.after hq
  | next=>exact False.elim hq
  | brk=>exact False.elim hq
  | cont=>exact False.elim hq
theorem qu(F:me X.prog X.w X.K X.mg X.base CX k f fd ps sp)(hr:gS k X.A)(hg:Gl X x)(hm:X.mg x=some (.ref f))(hk:PySem.W.keepIn X.K (.ref f)=true)(hb:Binds X.K fd ps ds)(hd:bb dvs ds)(hx:pV CX X E)
  (ha:PA X (e::es) t) (hdb:(x==("__debug__":Str))=false:=by decide) (he:starEach (e::es) X.env=(false,eval e X.env)::starEach es X.env:=by rfl) (hpl:(backTo pos (starEach es X.env)).any (·.1)=false:=by rfl) :
  PE X (.Call (.Name x p) (e::es) [] pos) (oY sp dvs E t):=by
 intro pins s σ H Q I h;refine Lw (ju I hg hm ?_ hdb);refine io (h₀:=X.base) I.ok.mod.kin hk (cm (ha pos pins s σ H _ I h) λus s1 ⟨vs,H1,I1,r,q⟩=>⟨I1.kIn,?_⟩) he hpl;exact CT F hr hb hd hx I1 r q
end
structure bJ (N P:List Str) (sc:Scope):Prop where
 kind:sc.kind=.function
 co:sc.isCoroutine=false
 gen:sc.isGenerator=false
 nd:N.Nodup
 pre:N.take P.length=P
 par:∀ x∈P,sc.names.lookup x=some .local\/sc.names.lookup x=some .cell
 nofree:∀ y∈sc.names,y.2≠.free
theorem qa{kindOf:Str->Option NameKind}{x:Str}:∀{binds:List (Str×Value)} {m:Str->Option Value},(∀v,(x,v)∉binds)->bindL kindOf binds m x=m x
 | [],_,_=>rfl
 | (n,v)::r,m,h=>by
  unfold bindL;rw[qa λw hw=>h w (ak _ hw)]
  split
  ·have:x≠n:=by rintro rfl;exact h v aw
   simp[this]
  ·rfl
theorem qd{kindOf:Str->Option NameKind}{x:Str}:∀{binds:List (Str×Value)} {m:Str->Option Value},(∀v,(x,v)∉binds)->bindC kindOf binds m x=m x
 | [],_,_=>rfl
 | (n,v)::r,m,h=>by
  unfold bindC;rw[qd λw hw=>h w (ak _ hw)]
  split
  ·rfl
  ·have:x≠n:=by rintro rfl;exact h v aw
   simp[this]
theorem qb{kindOf:Str->Option NameKind}{x:Str}{v:Value}:∀{P:List Str} {vs:List Value} {i:Nat} {m:Str->Option Value},P.Nodup->P[i]? = some x->vs[i]? = some v->kindOf x=some .local →
  bindL kindOf (P.zip vs) m x=some v
 | [],_,_,_,_,h,_,_=>by simp at h
 | _::_,[],_,_,_,_,h,_=>by simp at h
 | p::P,w::vs,0,m,nd,h1,h2,hk=>by
  simp at h1 h2;subst h1;subst h2;show bindL kindOf ((p,w)::P.zip vs) m p=_;unfold bindL;rw[qa λv hv=>(ci.mp nd).1 (iF hv).1,MO hk];simp
 | p::P,w::vs,i+1,m,nd,h1,h2,hk=>by
  show bindL kindOf ((p,w)::P.zip vs) m x=_;unfold bindL;exact qb (i:=i) (ci.mp nd).2 (by simpa using h1) (by simpa using h2) hk
theorem qe{kindOf:Str->Option NameKind}{x:Str}{v:Value}:∀{P:List Str} {vs:List Value} {i:Nat} {m:Str->Option Value},P.Nodup->P[i]? = some x->vs[i]? = some v->kindOf x≠some .local →
  bindC kindOf (P.zip vs) m x=some v
 | [],_,_,_,_,h,_,_=>by simp at h
 | _::_,[],_,_,_,_,h,_=>by simp at h
 | p::P,w::vs,0,m,nd,h1,h2,hk=>by
  simp at h1 h2;subst h1;subst h2;show bindC kindOf ((p,w)::P.zip vs) m p=_;unfold bindC;rw[qd λv hv=>(ci.mp nd).1 (iF hv).1,MN hk];simp
 | p::P,w::vs,i+1,m,nd,h1,h2,hk=>by
  show bindC kindOf ((p,w)::P.zip vs) m x=_;unfold bindC;exact qe (i:=i) (ci.mp nd).2 (by simpa using h1) (by simpa using h2) hk
def start(N:List Str)(vs:List V):St:=vs.map some++List.replicate (N.length-vs.length) none
def ij(CX:xT)(P:Program)(w:World)(K:MU)(mg:Str->Option Value)(base:Heap)(N:List Str)(qual:Str)(scope:Scope)(f:Addr)(cd:Value)(A:Around)(outer:List Env)(s:Shared)(H:Hp)(E:XK):Cx where
 prog:=P
 w:=w
 K:=K
 mg:=mg
 base:=base
 A:=A.deeper (envOfC qual scope s.heap.objs.size f cd)
 N:=N
 s₀:=s
 H₀:=H
 env:=envOfC qual scope s.heap.objs.size f cd
 outer:=outer
 stack:=envOfC qual scope s.heap.objs.size f cd::outer
 ex:=[]
 calm:=true
 fn:=λ_=>true
 pn:=[]
 xe:=λe s'=>wpAny (model P w) (A.deeper (envOfC qual scope s.heap.objs.size f cd)) (leaving (envOfC qual scope s.heap.objs.size f cd) e) (λ_ s''=>CX outer H s E e s'') (λe' s''=>CX outer H s E e' s'') s'
theorem t9{sc:Scope}{n:Nat}{x:Str}(h:sc.names.lookup x=some .cell):∃c,(cellsFrom n sc.names []).lookup x=some c:=by
 have q:=gK sc.names n [] (.inl h);exact jY.mp q
theorem qS{CX:xT}{P:Program}{w:World}{K:MU}{mg:Str->Option Value}{base:Heap}{N ps:List Str}{qual:Str}{scope:Scope}{f:Addr}{cd:Value}{A:Around}{outer:List Env}{s s1:Shared}{H:Hp}{E:XK}{us:List Value}{vs:List V}
  (S:bJ N ps scope) (hd:A.handled=none) (e0:xP P w K mg base A outer s H) (hl:vs.length=ps.length) (r:bb vs us)
  (x:InCallC s s.heap.objs.size (bindL (envOfC qual scope s.heap.objs.size f cd).kindOf (ps.zip us) λ_=>none) (cellsFrom (s.heap.objs.size+1) scope.names []) (bindC (envOfC qual scope s.heap.objs.size f cd).kindOf (ps.zip us) λ_=>none) s1) :
  bE (ij CX P w K mg base N qual scope f cd A outer s H E) [] (start N vs) H s1:=by
 have hpl:ps.length<=N.length:=by have:=congrArg List.length S.pre;rw[gg] at this;lia
 obtain⟨h1,tk,rfl,hk⟩:=x.done;have noA:∀b:Addr,b∉(ij CX P w K mg base N qual scope f cd A outer s H E).ex:=λb z=>absurd (show b∈([]:List Addr) from z) (by simp);refine⟨⟨e0.mod,S.kind,rfl,rfl,aH _,λy z c h1 h2=>?_,λy hy=>?_,λy c _ h=>?_,λ_=>hd,Around.frames_deeper e0.frames,.inr ⟨rfl,rfl⟩,λb z=>absurd z (noA b),e0.bs,e0.bsz,λb _ _=>noA b,λb z=>absurd z (noA b),e0.funs,e0.frf⟩,
  rfl,e0.bare,Un.kept hk,⟨_,x.toInCall.ns,λi y v h1 h2 h3=>?_⟩,λy c h=>⟨_,x.cell y c h⟩,e0.hok.fresh (aH _),λy c h=>?_,λp hp=>absurd (show p∈([]:List (Addr×Obj)) from hp) (by simp),e0.hok.kept hk,?_⟩
 ·exact name_of_addr x.apart (cA h1) (cA h2)
 ·have hy:scope.names.lookup y=some .cell\/scope.names.lookup y=some .free:=hy;rcases hy with hy | hy
  ·exact t9 hy
  ·exact absurd rfl (S.nofree _ (cA hy))
 ·exact aS (x.above y c (cA h))
 ·have hi:i<vs.length:=by
   unfold start at h2;by_cases hi:i<vs.length
   ·exact hi
   ·rw[dM (by simpa using hi)] at h2;rw[jf] at h2
    split at h2<;>cases h2
  have ha:vs[i]? = some v:=by
   unfold start at h2;rw[cV (by simpa using hi),bD] at h2;cases e:vs[i]? with
   | none=>rw[e] at h2;cases h2
   | some a=>rw[e] at h2;cases h2;rfl
  obtain⟨u,hu,rv⟩:=r.get ha;have hp:ps[i]? = some y:=by
   rw[<-S.pre,List.getElem?_take_of_lt (by lia)];exact h1
  have ndP:ps.Nodup:=by rw[<-S.pre];exact S.nd.sublist (List.take_sublist _ _)
  refine⟨u,rv,?_⟩;rcases S.par y (bI hp) with k | k
  ·exact .inl ⟨k,qb ndP hp hu k⟩
  ·obtain⟨c,e⟩:=t9 (n:=s.heap.objs.size+1) k;refine .inr ⟨.inl k,c,e,?_⟩;have q:=x.cell y c e;rw[qe ndP hp hu (by show scope.names.lookup y≠_;rw[k];decide)] at q;exact q
 ·exact e0.hok.fresh (aS (x.above y c (cA h)))
 ·unfold start;show _=N.length;rw[ao,aF,k9];lia
theorem B7{CX:xT}{P:Program}{w:World}{K:MU}{mg:Str->Option Value}{base:Heap}{k:Nat}{f:Addr}{name qual:Str}{params:Arguments}{body:List Stmt}{scope:Scope}{dV kV doc pm cdv ct oc:Value}{an od:Option Addr}
  {osl:Array (Option Value)} {N ps:List Str} {sp:Sp} (lk:K.lookup f=some ⟨oc,od,.func (PySem.W.fnOf name qual params body scope dV kV doc pm an cdv ct),osl⟩) (hcd:PySem.W.codeIn K cdv qual=true) (S:bJ N ps scope)
  (len:∀vs H Q E,sp vs H Q E->vs.length=ps.length)
  (hbody:∀(A:Around) (outer:List Env) (s:Shared) (H:Hp) (vs:List V) (Q:VK) (E:XK),gS k (A.deeper (envOfC qual scope s.heap.objs.size f cdv))->sp vs H Q E →
   ∃t,zh (ij CX P w K mg base N qual scope f cdv A outer s H E) body t/\t { nx:=λ_ H'=>Q .non H',rt:=Q } (start N vs) H) :
  me P w K mg base CX (k+1) f (PySem.W.fnOf name qual params body scope dV kV doc pm an cdv ct) ps sp:=by
 refine⟨len,λA outer s H args us vs Q E hr e0 hb r hsp=>?_⟩;have hl:=len _ _ _ _ hsp;have KX:K.In s.heap:=e0.mod.kin.keeps λb o e=>(e0.bs b o e).1;have lim:s.heap.NoLimit:=e0.mod.nolimit.keeps λb o e=>(e0.bs b o e).1;have hkind:∀y∈ps.zip us,scope.names.lookup y.1=some .local\/(scope.names.lookup y.1=some .cell/\((cellsFrom (s.heap.objs.size+1) scope.names []).lookup y.1).isSome=true):=λ⟨n,v⟩ hy=>by
  rcases S.par n (iF hy).1 with q | q
  ·exact .inl q
  ·exact .inr ⟨q,gK _ _ _ (.inl q)⟩
 refine codeAny_call_function hr.depth (KX _ _ lk) rfl S.co S.gen rfl (PySem.W.codeRec_of KX hcd) (hb _ _ _ _ ?_);refine wpAny_newFunctionEnv_cells S.kind hkind λenv he s1 x=>?_;subst he;refine⟨lim.keeps x.toInCall.keep,codeAny_func ?_⟩;obtain⟨t,ht,hq⟩:=hbody A outer s H vs Q E (hr.deeper _) hsp;have I:bE (ij CX P w K mg base N qual scope f cdv A outer s H E) [] (start N vs) H s1:=qS S hr.hd e0 hl r x;refine Lo (ht [] s1 (start N vs) H _ I hq) (λfl s' hs=>?_) λe s' hs=>hs;have fin:∀{σ':St} {H':Hp} {v:V} {u:Value},bE (ij CX P w K mg base N qual scope f cdv A outer s H E) [] σ' H' s'->RelV v u->Q v H'->CE outer P w H s Q u s':=
  fun {σ' H' v u} J rv q=>⟨v,H',J.os,J.bare,J.base,J.hok,rv,q⟩
 cases fl with
 | ret u=>
  obtain⟨v,σ',H',J,rv,q⟩:=hs;exact fin J rv q
 | next=>
  obtain⟨σ',H',J,q⟩:=hs;exact fin (v:=V.non) (u:=Value.none) J rfl q
 | brk=>
  obtain⟨_,_,_,q⟩:=hs;exact False.elim q
 | cont=>
  obtain⟨_,_,_,q⟩:=hs;exact False.elim q
section
variable {t:TA} {r:List V->Hp->VK->Prop}
def Et(r:List V->Hp->VK->Prop)(t:TA):TE:=λσ H Q=>t σ H λvs H1=>r vs H1 Q
end
end L2
namespace HT
open PySem PyProof.Rows
section
def sIx(n d:Nat):Option Int->Nat
 | none=>d
 | some v=>if v<0 then (v+(n:Int)).toNat else min v.toNat n
end
end HT
namespace L2
open PySem PySem.Spec PyProof.Rows
abbrev TO:=St->Hp->(Option Int->Hp->Prop)->Prop
def PO(X:Cx)(e:Option Expr)(t:TO):Prop:=
 ∀(pins:List (Addr×Obj)) (s:Shared) (σ:St) (H:Hp) (Q:Option Int->Hp->Prop),bE X pins σ H s->t σ H Q →
  wpAny (model X.prog X.w) X.A (evalPart e X.env) (λu s'=>∃o H',bE X pins σ H' s'/\IsPart u o/\Q o H') X.xe s
def vT:TO:=λ_ H Q=>Q none H
def BG(t:TE):TO:=λσ H Q=>t σ H λx H1=>∃i,x=.int i/\Q (some i) H1
section
variable {X:Cx} {te:TE} {lo hi:Option Expr} {tl th:TO}
def F6(X:Cx)(r:V->Option Int->Option Int->Hp->VK->Prop):Prop:=
 ∀(pins:List (Addr×Obj)) (s:Shared) (σ:St) (H:Hp) (x:V) (v vl vu:Value) (lo hi:Option Int) (sl:Addr) (Q:VK),bE X pins σ H s->RelV x v->s.heap.IsSliceOf sl vl vu .none->IsPart vl lo->IsPart vu hi->r x lo hi H Q →
  ∃T id,typeLookup (.type T) "__getitem__"=pure (some (.builtin id))/\s.TypeIs v T/\wpAny (model X.prog X.w) X.A (getItem v (.ref sl)) (EP X pins σ Q) X.xe s
def FZ(r:V->Option Int->Option Int->Hp->VK->Prop)(te:TE)(tl th:TO):TE:=λσ H Q=>te σ H λx H1=>tl σ H1 λl H2=>th σ H2 λu H3=>r x l u H3 Q
def tX(xs:List V)(lo hi:Option Int):List V:=(xs.drop (HT.sIx xs.length 0 lo)).take (HT.sIx xs.length xs.length hi-HT.sIx xs.length 0 lo)
theorem tW(xs:List V)(lo hi:Option Int):(tX xs lo hi).length<=xs.length:=by
 unfold tX;rw[gg,List.length_drop];lia
end
def A2(n:Nat)(i:Int):Option Nat:=if 0<=i then (if i<n then some i.toNat else none) else if -(n:Int)<=i then some (i+n).toNat else none
def xM{α:Type}(xs:List α)(i:Int):Option α:=(A2 xs.length i).bind λj=>xs[j]?
theorem vq{n:Nat}{i:Int}{j:Nat}(h:A2 n i=some j):seqIndex? i n=some j/\j<n/\-(n:Int)<=i/\i<n:=by
 unfold A2 at h;by_cases h0:0<=i
 ·rw[MO h0] at h;by_cases h1:i<n
  ·rw[MO h1] at h;have e:i.toNat=j:=aq h;exact⟨by rw[seqIndex_of h0 h1,e],by lia,by lia,h1⟩
  ·rw[MN h1] at h;cases h
 ·rw[MN h0] at h;by_cases h1:-(n:Int)<=i
  ·rw[MO h1] at h;have e:(i+n).toNat=j:=aq h;exact⟨by rw[seqIndex_neg (by lia) h1,e],by lia,h1,by lia⟩
  ·rw[MN h1] at h;cases h
theorem rQ{α:Type}{xs:List α}{i:Int}{v:α}(h:xM xs i=some v):∃j,seqIndex? i xs.length=some j/\xs[j]? = some v/\j<xs.length/\-(xs.length:Int)<=i/\i<xs.length:=by
 unfold xM at h;cases e:A2 xs.length i with
 | none=>rw[e] at h;cases h
 | some j=>
  rw[e] at h;obtain⟨h1,h2,h3,h4⟩:=vq e;exact⟨j,h1,h,h2,h3,h4⟩
theorem gJ{α:Type}{xs:List α}{j:Nat}{v:α}(h:xs[j]? = some v):xM xs (j:Int)=some v:=by
 have hj:j<xs.length:=(aE.mp h).1;have e:A2 xs.length (j:Int)=some j:=by
  unfold A2;rw[MO (by lia),MO (by lia)];simp
 unfold xM;rw[e];exact h
def Al(b:Expr):Prop:=∀o i,subscripted b false o i=operate [o,i] (getItem o i)
def DS(X:Cx)(r:R2):Prop:=
 ∀(value slice:Expr) (pins:List (Addr×Obj)) (s:Shared) (σ:St) (H:Hp) (x y:V) (v u:Value) (Q:VK),bE X pins σ H s->RelV x v->RelV y u->r x y H Q →
  subscripted slice false v u=operate [v,u] (getItem v u)->wpAny (model X.prog X.w) X.A (subscriptTail value slice v u) (EP X pins σ Q) X.xe s
def FO(X:Cx)(id:String)(r:V->List V->Hp->VK->Prop):Prop:=
 ∀(pins:List (Addr×Obj)) (s:Shared) (σ:St) (H:Hp) (x:V) (xs:List V) (v:Value) (us:List Value) (Q:VK),bE X pins σ H s->RelV x v->bb xs us->r x xs H Q →
  wpAny (model X.prog X.w) X.A (call (.builtin id) (v::us)) (EP X pins σ Q) X.xe s
section
variable {X:Cx} {a b:Expr}
def AD(K:MU):R2:=λx y H Q=>∃p xs i v,x=.ref p/\y=.int i/\bp K H p xs/\xM xs i=some v/\Q v H
def CZ(K:MU):R2:=λx y H Q=>∃p xs i v,x=.ref p/\y=.int i/\cg K H p xs/\xM xs i=some v/\Q v H
def EE:R2:=λx y H Q=>∃z i c,x=.str z/\y=.int i/\z.length<=sizeLine/\xM z.cps.toList i=some c/\Q (.str ⟨#[c]⟩) H
theorem d9:DS X (AD X.K):=by
 intro value slice pins s σ H x y v u Q I rx ry h hs;obtain⟨p,xs,i,z,rfl,rfl,hq,he,q⟩:=h;cases rx;obtain⟨t,rfl⟩:=ry;obtain⟨its,r,pl,hz⟩:=I.list hq;obtain⟨j,h1,h2,h3,h4,h5⟩:=rQ he;obtain⟨w,ew,rw'⟩:=r.get h2;have hl:=r.length;have hn:=mB;have fin:EP X pins σ Q w s:=⟨z,H,I,rw',q⟩
 by_cases h0:0<=i
 ·have hj:i.toNat=j:=by
   rw[seqIndex_of h0 h5] at h1;exact aq h1
  exact item_listR pl.isList h0 (by lia) (by rw[hj];simpa using ew) fin hs
 ·have hj:(i+(its.toArray.size:Int)).toNat=j:=by
   rw[seqIndex_neg (by lia) h4] at h1;rw[aQ,<-hl];exact aq h1
  exact subscriptTail_builtinR (x:=w) pl.isList.typeIs slot_list_getitem.lookup
   (wpAny_getItem_list_neg (Q:=λr s'=>r=w/\EP X pins σ Q r s') pl.isList (by lia) (by rw[aQ]<;>lia) (by lia) (by rw[hj];simpa using ew) ⟨rfl,fin⟩) hs
theorem cw:DS X (CZ X.K):=by
 intro value slice pins s σ H x y v u Q I rx ry h hs;obtain⟨p,xs,i,z,rfl,rfl,hq,he,q⟩:=h;cases rx;obtain⟨t,rfl⟩:=ry;obtain⟨its,r,pl,hz⟩:=I.tuple hq;obtain⟨j,h1,h2,h3,h4,h5⟩:=rQ he;obtain⟨w,ew,rw'⟩:=r.get h2;have hl:=r.length;have hn:=mB;have fin:EP X pins σ Q w s:=⟨z,H,I,rw',q⟩
 exact subscriptTail_builtinR (x:=w) pl.typeIs slot_tuple_getitem.lookup
  (getItem_tuple (j:=j) (Q:=λr s'=>r=w/\EP X pins σ Q r s') pl (by lia) (by lia) (by rw[aQ,<-hl];exact h1) (by simpa using ew) ⟨rfl,fin⟩) hs
theorem Cp:DS X EE:=by
 intro value slice pins s σ H x y v u Q I rx ry h hs;obtain⟨z,i,c,rfl,rfl,hz,he,q⟩:=h;obtain⟨t,rfl⟩:=rx;obtain⟨t',rfl⟩:=ry;obtain⟨j,h1,h2,h3,h4,h5⟩:=rQ he;have hl:z.cps.toList.length=z.length:=by simp[Str.length]
 rw[hl] at h1 h4 h5;have hn:=mB;exact tail_any (typeIs_str s z t) slot_str_getitem.lookup (getItem_str (c:=c) (by
  have e1:decide (i < -(2 ^ 63:Int))=false:=MQ (by lia);have e2:decide (i>=2 ^ 63)=false:=MQ (by lia);rw[e1,e2,Bool.or_false]) (by rw[h1];simpa using h2) ⟨.str ⟨#[c]⟩,H,I.tok _,⟨_,rfl⟩,q⟩) hs
theorem uf (its:List Value) (n j:Nat) (u:Value):Obj.mapSeq (·.setIfInBounds j u) { cls:=.type "list",data:=.seq its.toArray n }={ cls:=.type "list",data:=.seq (its.set j u).toArray n }:=by
 simp[Obj.mapSeq]
theorem bE.lst{pins:List (Addr×Obj)}{σ:St}{H:Hp}{s:Shared}{p:Addr}{xs:List V}(I:bE X pins σ H s)(h:H p=some (.lst xs)):
  ∃(its:List Value) (n:Nat),bb xs its/\s.heap.get? p=some { cls:=.type "list",data:=.seq its.toArray n }/\xs.length<=sizeLine:=by
 obtain⟨z,its,n,r,e⟩:=I.hok p _ h;exact⟨its,n,r,e,z⟩
theorem bE.lstUpd{pins:List (Addr×Obj)}{σ:St}{H:Hp}{s:Shared}{p:Addr}{xs ys:List V}{its its':List Value}{n n':Nat}{f:Obj->Obj}(I:bE X pins σ H s)(h:H p=some (.lst xs))
  (ho:s.heap.get? p=some { cls:=.type "list",data:=.seq its.toArray n }) (hf:f { cls:=.type "list",data:=.seq its.toArray n }={ cls:=.type "list",data:=.seq its'.toArray n' }) (r:bb ys its') (hz:ys.length<=sizeLine) (t:Nat) :
  bE X pins σ (bU H p (.lst ys)) { s with heap:=s.heap.update p f,toks:=t }:=by
 have e:(s.heap.update p f).get? p=some { cls:=.type "list",data:=.seq its'.toArray n' }:=by
  rw[ee f ho (by rw[hf]<;>rfl),hf]
 refine I.write (x:=p) (e:=p) (by rw[h];trivial) (.inl rfl) (λb u hb q=>(Heap.get?_update_other _ _ (cU hb)).trans q) ⟨_,e⟩ ?_;exact⟨hz,its',n',r,e⟩
def BV:V->V->V->Hp->(Hp->Prop)->Prop:=λo i v H Q=>∃p xs k j,o=.ref p/\i=.int k/\H p=some (.lst xs)/\A2 xs.length k=some j/\Q (bU H p (.lst (xs.set j v)))
theorem set_list:E6 X BV:=by
 intro pins s σ H o i v ov iv u Q I ro ri rv h;obtain⟨p,xs,k,j,rfl,rfl,hp,hj,q⟩:=h;cases ro;obtain⟨t,rfl⟩:=ri;obtain⟨its,n,r,ho,hz⟩:=I.lst hp;obtain⟨h1,h2,h3,h4⟩:=vq hj;have hl:=r.length;have hn:=mB;have I':bE X pins σ (bU H p (.lst (xs.set j v))) { s with heap:=s.heap.update p (Obj.mapSeq (·.setIfInBounds j u)) }:=
  I.lstUpd hp ho (uf its n j u) (r.set rv j) (by rw[List.length_set];exact hz) s.toks
 by_cases h0:0<=k
 ·have hk:k.toNat=j:=by
   rw[seqIndex_of h0 h4] at h1;exact aq h1
  exact PySem.W.ki_setAt ho h0 (by lia) (by rw[aQ,<-hl];exact h4) (by rw[hk];exact⟨_,I',q⟩)
 ·have hk:(k+(its.toArray.size:Int)).toNat=j:=by
   rw[seqIndex_neg (by lia) h3] at h1;rw[aQ,<-hl];exact aq h1
  exact PySem.W.ki_setBack ho (by lia) (by rw[aQ,<-hl];exact h3) (by lia) (by rw[hk];exact⟨_,I',q⟩)
theorem ql(lo hi:Option Int)(n:Nat):(sliceBounds lo hi none n).1=((HT.sIx n 0 lo:Nat):Int)/\(sliceBounds lo hi none n).2.1=((HT.sIx n n hi:Nat):Int)/\(sliceBounds lo hi none n).2.2=1:=by
 refine⟨?_,?_,rfl⟩
 ·cases lo with
  | none=>simp[sliceBounds,HT.sIx]
  | some i=>
   simp only[sliceBounds,HT.sIx,Option.getD_none,show (1:Int) > 0 by decide,MS];by_cases h:i<0
   ·simp only[h,MS]<;>lia
   ·simp only[h,MT]<;>lia
 ·cases hi with
  | none=>simp[sliceBounds,HT.sIx]
  | some i=>
   simp only[sliceBounds,HT.sIx,Option.getD_none,show (1:Int) > 0 by decide,MS];by_cases h:i<0
   ·simp only[h,MS]<;>lia
   ·simp only[h,MT]<;>lia
theorem p7(its:List Value)(lo hi:Option Int):slicePick its.toArray lo hi none=((its.drop (HT.sIx its.length 0 lo)).take (HT.sIx its.length its.length hi-HT.sIx its.length 0 lo)).toArray:=by
 obtain⟨h1,h2,h3⟩:=ql lo hi its.toArray.size;unfold slicePick;rw[h1,h2,h3];simp only[sliceRange_one,pick_run,aQ]<;>rfl
def Ey(K:MU):V->Option Int->Option Int->Hp->VK->Prop:=λx lo hi H Q=>∃a xs,x=.ref a/\bp K H a xs/\∀p,H p=none->Q (.ref p) (bU H p (.lst (tX xs lo hi)))
theorem v8:F6 X (Ey X.K):=by
 intro pins s σ H x v vl vu lo hi sl Q I rx hs pl pu h;obtain⟨a,xs,rfl,hx,q⟩:=h;cases rx;obtain⟨its,r,ht,hz⟩:=I.list hx;have hlen:=r.length;refine⟨"list",_,slot_list_getitem.lookup,ht.isList.typeIs,?_⟩;refine wpAny_getItem_list_slice ht.isList hs pl pu .none (by simp) ?_ (by rw[aQ]<;>lia);rw[p7,<-hlen];refine⟨.ref s.heap.objs.size,_,I.laid (t':=s.toks) (o:=.lst (tX xs lo hi)) (λb ob q=>aD _ q) (aH _) ?_,rfl,q _ (I.hok.fresh (aH _))⟩;exact⟨bd (tW xs lo hi) hz,_,0,(r.drop (HT.sIx xs.length 0 lo)).take (HT.sIx xs.length xs.length hi-HT.sIx xs.length 0 lo),aP _ rfl⟩
theorem bV:fX X (.builtin "len") (λxs H Q=>∃p ys,xs=[.ref p]/\(bp X.K H p ys\/cg X.K H p ys)/\Q (.int ys.length) H):=by
 intro pins s σ H xs us Q I r h;obtain⟨p,ys,rfl,hq,q⟩:=h;obtain⟨u,rfl,rx⟩:=Ls r;cases rx;have hn:=mB;rcases hq with hq | hq
 ·obtain⟨its,r',pl,hz⟩:=I.list hq;have hlen:=r'.length;exact Calls.call_len_list pl.isList (by simp only[aQ]<;>lia) ⟨.int ys.length,H,I.tok _,⟨s.toks+1,by rw[aQ,hlen]⟩,q⟩
 ·obtain⟨its,r',pl,hz⟩:=I.tuple hq;have hlen:=r'.length;exact len_tuple pl (by simp only[aQ]<;>lia) ⟨.int ys.length,H,I.tok _,⟨s.toks+1,by rw[aQ,hlen]⟩,q⟩
theorem dA:fX X (.builtin "len") (λxs H Q=>∃z,xs=[.str z]/\z.length<=sizeLine/\Q (.int z.length) H):=by
 intro pins s σ H xs us Q I r h;obtain⟨z,rfl,hz,q⟩:=h;obtain⟨u,rfl,t,rfl⟩:=Ls r;have hn:=mB;exact len_str (by lia) ⟨.int z.length,H,I.tok _,⟨_,rfl⟩,q⟩
theorem m5:fX X (.type "list") (λxs H Q=>∃p ys,xs=[.ref p]/\(bp X.K H p ys\/cg X.K H p ys)/\∀l,H l=none->Q (.ref l) (bU H l (.lst ys))):=by
 intro pins s σ H xs us Q I r h;obtain⟨p,ys,rfl,hq,q⟩:=h;obtain⟨u,rfl,rx⟩:=Ls r;cases rx;have fin:∀(its:List Value),bb ys its->ys.length<=sizeLine->∀(h':Heap) (c':Nat),(∀b o',s.heap.get? b=some o'->h'.get? b=some o') →
   h'.get? s.heap.objs.size=some { cls:=.type "list",dict:=none,data:=.seq its.toArray c',slots:=#[] }->EP X pins σ Q (.ref s.heap.objs.size) { s with heap:=h' }:=λits r' hz h' c' kp e=>
  ⟨.ref s.heap.objs.size,_,I.laid (t':=s.toks) kp (aH _) (show cL X.prog X.w _ h' _ (.lst ys) from ⟨hz,its,c',r',e⟩),rfl,q _ (I.hok.fresh (aH _))⟩
 rcases hq with hq | hq
 ·obtain⟨its,r',pl,hz⟩:=I.list hq;have hlen:=r'.length;obtain⟨o,ho,hc,n,hd⟩:=pl.isList;exact call_list_seq p (.inl rfl) ho hc hd (λh' c' kp e=>fin its r' hz h' c' kp e) (by simp only[aQ]<;>lia)
 ·obtain⟨its,r',pl,hz⟩:=I.tuple hq;have hlen:=r'.length;obtain⟨o,ho,hc,n,hd⟩:=pl;exact call_list_seq p (.inr rfl) ho hc hd (λh' c' kp e=>fin its r' hz h' c' kp e) (by simp only[aQ]<;>lia)
theorem l6:fX X (.type "tuple") (λxs H Q=>∃p ys,xs=[.ref p]/\((bp X.K H p ys/\∀l,H l=none->Q (.ref l) (bU H l (.tup ys)))\/(cg X.K H p ys/\Q (.ref p) H))):=by
 intro pins s σ H xs us Q I r h;obtain⟨p,ys,rfl,h⟩:=h;obtain⟨u,rfl,rx⟩:=Ls r;cases rx;rcases h with ⟨hq,q⟩ | ⟨hq,q⟩
 ·obtain⟨its,r',pl,hz⟩:=I.list hq;have hlen:=r'.length;refine call_tuple_list pl.isList (λh' kp=>?_) (by simp only[aQ]<;>lia);have I1:bE X pins σ H { s with heap:=h' }:=I.kept (t':=s.toks) kp;have I2:bE X pins σ (bU H h'.objs.size (.tup ys)) { s with heap:=h'.push { cls:=.type "tuple",data:=.seq its.toArray } }:=
   I1.laid (t':=s.toks) (λb o e=>aD _ e) (aH _) (show cL X.prog X.w _ _ _ (.tup ys) from ⟨hz,its,r',IsTup.new _ _⟩)
  exact⟨.ref h'.objs.size,_,I2,rfl,q _ (I1.hok.fresh (aH _))⟩
 ·obtain⟨its,r',pl,hz⟩:=I.tuple hq;exact call_tuple_same pl ⟨.ref p,H,I,rfl,q⟩
def DR (K : MU) (T : String) (x : V) (H : Hp) : Prop := match x with
 | .str _ => T = "str"
 | .int _ => T = "int"
 | .ref p => (T = "list" ∧ ∃ xs, bp K H p xs) ∨ (T = "tuple" ∧ ∃ o, K.lookup p = some o ∧ o.cls = .type "tuple" ∧ o.dict = none) ∨
   (T = "dict" ∧ ((∃ kvs, H p = some (.dK kvs)) ∨ ∃ kvs, H p = some (.dT kvs))) ∨ (T = "set" ∧ ∃ S n, H p = some (.set S n))
 | _ => False
theorem yG{pins:List (Addr×Obj)}{σ:St}{H:Hp}{s:Shared}{T:String}{x:V}{v:Value}(I:bE X pins σ H s)(r:RelV x v)(ty:DR X.K T x H):
  s.TypeIs v T/\∀a,v=.ref a->∃ob,s.heap.get? a=some ob/\ob.dict=none:=by
 cases x with
 | str z=>
  obtain⟨t,rfl⟩:=r;cases (show T="str" from ty);exact⟨typeIs_str s z t,λ_ e=>nomatch e⟩
 | int i=>
  obtain⟨t,rfl⟩:=r;cases (show T="int" from ty);exact⟨typeIs_int s i t,λ_ e=>nomatch e⟩
 | ref p=>
  cases r;rcases ty with ⟨rfl,xs,hq⟩ | ⟨rfl,o,hk,hc,hd⟩ | ⟨rfl,hk⟩ | ⟨rfl,S,n,hk⟩
  ·obtain⟨its,_,pl,_⟩:=I.list hq;refine⟨pl.isList.typeIs,λa e=>?_⟩;cases e;obtain⟨o,n,e,c,hd,_⟩:=pl;exact⟨o,e,hd⟩
  ·refine⟨⟨o,I.kIn p o hk,hc⟩,λa e=>?_⟩;cases e;exact⟨o,I.kIn _ o hk,hd⟩
  ·have z:∃o,s.heap.get? p=some o/\o.ExactDict:=by
    rcases hk with ⟨kvs,hk⟩ | ⟨kvs,hk⟩
    ·obtain⟨_,_,_,_,o,_,_,e,ex,_⟩:=I.hok p _ hk;exact⟨o,e,ex⟩
    ·obtain⟨_,_,_,_,o,_,_,e,ex,_⟩:=I.hok p _ hk;exact⟨o,e,ex⟩
   obtain⟨o,e,ex⟩:=z;refine⟨⟨o,e,ex.1⟩,λa e2=>?_⟩;cases e2;exact⟨o,e,ex.2.1⟩
  ·obtain⟨o,_,_,_,e,ex,_⟩:=I.hok p _ hk;refine⟨⟨o,e,ex.1⟩,λa e2=>?_⟩;cases e2;exact⟨o,e,ex.2.1⟩
 | _=>exact False.elim ty
def Dz(K:MU)(T:String)(r:V->List V->Hp->VK->Prop)(to:TE):TE:=λσ H Q=>to σ H λx H1=>DR K T x H1/\r x [] H1 Q
def F2(K:MU)(T:String)(r:V->List V->Hp->VK->Prop)(to:TE)(t:TA):TE:=λσ H Q=>to σ H λx H1=>DR K T x H1/\t σ H1 λxs H2=>r x xs H2 Q
variable {o e:Expr} {to:TE} {t:TA} {T:String} {r:V->List V->Hp->VK->Prop}
end
def FP(X:Cx)(id:String)(r:V->List V->Hp->VK->Prop):Prop:=
 ∀(pins:List (Addr×Obj)) (s:Shared) (σ:St) (H:Hp) (x:V) (xs:List V) (v:Value) (us:List Value) (Q:VK),bE X pins σ H s->RelV x v->bb xs us->r x xs H Q →
  wpAny (model X.prog X.w) X.A (call (.builtin id) (v::us)) (EP X pins σ Q) X.xe s
theorem bb.one:∀{x:V} {us:List Value},bb [x] us->∃u,us=[u]/\RelV x u
 | _,_,.cons r .nil=>⟨_,rfl,r⟩
theorem bb.two:∀{x y:V} {us:List Value},bb [x,y] us->∃u v,us=[u,v]/\RelV x u/\RelV y v
 | _,_,_,.cons r (.cons q .nil)=>⟨_,_,rfl,r,q⟩
theorem bb.zero:∀{us:List Value},bb [] us->us=[]
 | _,.nil=>rfl
theorem bb.dropLast{xs:List V}{us:List Value}(h:bb xs us):bb xs.dropLast us.dropLast:=by
 induction h with
 | nil=>exact .nil
 | cons r t ih=>
  cases t with
  | nil=>exact .nil
  | cons q t'=>exact .cons r ih
theorem um{α:Type}(l:List α):l.eraseIdx (l.length - 1)=l.dropLast:=by
 induction l with
 | nil=>rfl
 | cons a r ih=>
  cases r with
  | nil=>rfl
  | cons b r=>
   have e:(a::b::r).length - 1=((b::r).length - 1)+1:=by
    have h1:(a::b::r).length=r.length+2:=rfl;have h2:(b::r).length=r.length+1:=rfl;lia
   rw[e,List.eraseIdx_cons_succ,ih]
   all_goals rfl
section
variable {X:Cx} {pins:List (Addr×Obj)} {σ:St} {H:Hp} {s:Shared} {l:Addr} {xs ys:List V}
theorem bE.lset{its its':List Value}{n:Nat}{f:Array Value->Array Value}{t':Nat}(I:bE X pins σ H s)(hH:H l=some (.lst xs))
  (e:s.heap.get? l=some { cls:=.type "list",data:=.seq its.toArray n }) (hf:f its.toArray=its'.toArray) (hv:bb ys its') (hz:ys.length<=sizeLine) :
  bE X pins σ (bU H l (.lst ys)) { s with heap:=s.heap.update l (Obj.mapSeq f),toks:=t' }:=by
 have q:=PySem.IsL.update e f;rw[hf] at q;refine I.write (x:=l) (e:=l) (by rw[hH];exact trivial) (.inl rfl) (λb' u hb hu=>(Heap.get?_update_other s.heap (Obj.mapSeq f) (cU hb)).trans hu) ⟨_,q⟩ ?_;exact⟨hz,its',_,hv,q⟩
theorem bE.lnew{its:List Value}{t':Nat}(I:bE X pins σ H s)(hv:bb ys its)(hz:ys.length<=sizeLine):
  bE X pins σ (bU H s.heap.objs.size (.lst ys)) { s with heap:=s.heap.push { cls:=.type "list",data:=.seq its.toArray },toks:=t' }:=
 I.laid (λ_ _ q=>aD _ q) (aH _) ⟨hz,its,0,hv,aP _ rfl⟩
theorem bE.fresh(I:bE X pins σ H s):H s.heap.objs.size=none:=I.hok.fresh (aH _)
theorem bE.lstM (I:bE X pins σ H s) (hH:H l=some (.lst xs)):xs.length<=sizeLine/\∃(its:List Value) (n:Nat),bb xs its/\xs.length=its.length/\s.heap.get? l=some { cls:=.type "list",data:=.seq its.toArray n }:=by
 obtain⟨z,its,n,r,e⟩:=I.hok l _ hH;exact⟨z,its,n,r,r.length,e⟩
end
section
variable {X:Cx}
def vb:V->List V->Hp->VK->Prop:=λx vs H Q=>∃l xs y,x=.ref l/\vs=[y]/\H l=some (.lst xs)/\xs.length<sizeLine/\Q .non (bU H l (.lst (xs++[y])))
theorem eT:FP X "list.append" vb:=by
 intro pins s σ H x vs v us Q I rx rv h;obtain⟨l,xs,y,rfl,rfl,hH,hz,q⟩:=h;cases rx;obtain⟨u,rfl,ru⟩:=rv.one;obtain⟨z,its,n,r,hl,e⟩:=I.lstM hH;refine call_meets F.slot_list_append ⟨_,e,rfl⟩ F.entry_list_append (F.args_list_append_2 _ _) (PySem.list_append l its.toArray n u (by rw[aQ];lia)) ⟨e,?_⟩;refine⟨.non,_,I.lset (its':=its++[u]) hH e (by simp) (r.append (.cons ru .nil)) ?_,rfl,q⟩;rw[ao,bi];lia
def ED:V->List V->Hp->VK->Prop:=λx vs H Q=>∃l xs y,x=.ref l/\vs=[]/\H l=some (.lst xs)/\xs[xs.length - 1]? = some y/\Q y (bU H l (.lst xs.dropLast))
theorem yz:FP X "list.pop" ED:=by
 intro pins s σ H x vs v us Q I rx rv h;obtain⟨l,xs,y,rfl,rfl,hH,hy,q⟩:=h;cases rx;have hus:=rv.zero;subst hus;obtain⟨z,its,n,r,hl,e⟩:=I.lstM hH;obtain⟨u,hu,ru⟩:=r.get hy;have hy':its.toArray[its.toArray.size - 1]? = some u:=by
  show its.toArray[its.length - 1]? = some u;rw[<-Array.getElem?_toList,<-hl];exact hu
 refine call_meets F.slot_list_pop ⟨_,e,rfl⟩ F.entry_list_pop (F.args_list_pop_1 _) (MeetsSeq.list_pop_last l its.toArray n u hy' (by rw[aQ];lia)) ⟨e,?_⟩;refine⟨y,_,I.lset (its':=its.dropLast) hH e ?_ r.dropLast ?_,ru,q⟩
 ·show its.toArray.eraseIdxIfInBounds (its.toArray.size - 1)=its.dropLast.toArray;rw[aQ,List.eraseIdxIfInBounds_toArray,um]
 ·rw[List.length_dropLast];lia
def Ez:R2:=λx y H Q=>∃l b xs zs,x=.ref l/\y=.ref b/\H l=some (.lst xs)/\H b=some (.lst zs)/\xs.length+zs.length<=sizeLine/\∀p,H p=none->Q (.ref p) (bU H p (.lst (xs++zs)))
theorem kn:nN X (binaryOp .Add) Ez:=by
 intro pins s σ H x y v u Q I rx ry h;obtain⟨l,b,xs,zs,rfl,rfl,hH,hB,hz,q⟩:=h;cases rx;cases ry;obtain⟨z,its,n,r,hl,e⟩:=I.lstM hH;obtain⟨z2,its2,n2,r2,hl2,e2⟩:=I.lstM hB;refine PySem.P.add_list e e2 ?_ (by rw[aQ,aQ];lia);have ea:its.toArray++its2.toArray=(its++its2).toArray:=by simp
 rw[ea];exact⟨.ref _,_,I.lnew (t':=s.toks) (r.append r2) (by rw[ao];lia),rfl,q _ I.fresh⟩
end
section
set_option maxRecDepth 100000 in
end
end L2
namespace Att
open PySem PySem.W PySem.Calls PyProof.Rows
theorem nk{P:Params}{h:Heap}:∀(ns:List Int) (vs:List Value),WellAll P h vs (ns.map WData.int)->IntsAre vs ns:=by
 intro ns
 induction ns with
 | nil=>
  intro vs w;rw[m9] at w;cases w;exact .nil
 | cons n ns ih=>
  intro vs w;rw[bR] at w;cases w with
  | cons a b=>
   cases a;exact .cons _ _ (ih _ b)
theorem wU{l:OpenLaw}{n:Nat}(hn:l.most=some n){P:Params}{h:Heap}{args:List WData}{vals:List Value}
  (hpre:l.row.toRowW.claim.pre args=true) (hwl:WellAll P h vals args) :
  ∃a vs ns,vals=[Value.ref a]/\args=[WData.list (ns.map WData.int)]/\h.get? a=some { cls:=.type "list",data:=.seq vs.toArray }/\IntsAre vs ns/\ns.length<=n:=by
 have hsh:WShape.hasAll [] args [.list .int]=true:=(pre_splitW hpre).1;have hc:l.pre.holds [] { args:=args }=true:=(pre_splitW hpre).2;obtain⟨d,r,rfl,h1,h2⟩:=hasAllW_cons hsh;obtain rfl:=hasAllW_nil h2;obtain⟨xs,rfl,h3⟩:=hasW_list h1;obtain⟨ns,rfl⟩:=items_int h3;have hlen:ns.length<=n:=by
  unfold OpenLaw.pre at hc;have h4:(WTm.not (.lt (.lit (.int (n:Int))) (.len (.arg 0)))).holds [] { args:=[.list (ns.map .int)] }=true:=by
   have h4:=(holds_andW hc).1;rw[hn] at h4;exact h4
  have h5:=condW_of h4 (w_not (w_lt w_lit (w_len_list (w_arg rfl))));rw[aF] at h5;refine gb λq=>?_;have q':(n:Int)<((ns.length:Nat):Int):=by lia
  first
   | (rw[decide_eq_true q'] at h5;exact absurd h5 (by decide))
   | (simp at h5;lia)
 cases hwl with
 | cons w1 w2=>
  cases w2;cases w1 with
  | list ho hall=>exact⟨_,_,ns,rfl,rfl,ho,nk ns _ hall,hlen⟩
theorem w4(l:OpenLaw)(args:List WData):l.row.toRowW.claim.post args (.bool true) args=true:=
 postW_of (r:=l.row.toRowW) (X:=(true==true))
  (show WShape.has [] (.bool true) .bool=true by first | rfl | decide | simp[WShape.has,WShape.arms,WShape.armsAll])
  (show (WTm.eq .res (.lit (.bool true))).value [] { args:=args,res:=some (.bool true),after:=args }=some (.bool (true==true)) from w_eq_bool (w_res rfl) w_lit) rfl
theorem attach_call{l:OpenLaw}{n:Nat}{q:Program}{loose:List Str}{XP:(Str->Option Value)->Heap->Prop}{YP:World->Heap->Prop}{d:DefRec}
  (hn:l.most=some n) (hdf:d.params.defaults=[])
  (call:∀(w:World) (s₀ s₁:Shared) (mg mb:Str->Option Value) (fa:Addr) (o:Obj) (pm cd doc:Value) (a:Addr) (vs:List Value) (ns:List Int),
   Ground q loose [] XP w s₀ mg mb s₁.heap->YP w s₁.heap →
   s₁.heap.get? fa=some o->o.data=.func (docDef d.name d.params d.body d.scope pm cd doc)->s₁.heap.CodeRec cd d.name->mg d.name=some (.ref fa) →
   s₁.heap.get? a=some { cls:=.type "list",data:=.seq vs.toArray }->IntsAre vs ns->ns.length<=n->s₁.gens=#[] →
   codeAny (model l.prog w) callerA (.call (.ref fa) ⟨[.ref a],[]⟩) (λr s'=>r=.ok (.ret (.bool true))/\OldK s₁.heap s'.heap/\s'.os=s₁.os/\AllBare s'.gens) s₁) :
  WalkO q loose XP YP l.row.toRowW d [] (λf vs=>PySem.call f vs):=by
 intro w s₀ s₁ mg mb G Y fa o pm cd doc dV kV ho hd hcd hD hmg hg args vals as hpre hlay hrd hwl hlo;obtain rfl:dV=.none:=Dflts.none hD hdf;obtain rfl:kV=.none:=Dflts.noKw hD;obtain⟨a,vs,ns,rfl,rfl,hobj,hints,hlen⟩:=wU hn hpre hwl;refine enter_call (Lv (call w s₀ s₁ mg mb fa o pm cd doc a vs ns G Y ho (fd_plain hd) hcd hmg hobj hints hlen hg) λr s' hq=>?_);obtain⟨rfl,h2,h3,h4⟩:=hq;exact⟨.inl ⟨.bool true,.bool true,[],rfl,λ_=>rfl,.bool true,w4 l _,λ_=>⟨List.Pairwise.nil,λ_ hm=>(nomatch hm)⟩⟩,h2,h3,h4⟩
end Att
namespace L2
open PySem PySem.Spec PyProof.Rows
theorem lF:∀{vs:List Value} {ns:List Int},IntsAre vs ns->bb (ns.map V.int) vs
 | _,_,.nil=>.nil
 | _,_,.cons n t h=>.cons ⟨t,rfl⟩ (lF h)
def DK(H:Hp):Prop:=∀b,H b=none\/∃o xs,H b=some (.frz o (.lst xs))
theorem zC{P:Program}{w:World}{K:MU}{mg mb:Str->Option Value}{CX:xT}{k:Nat}{fa a:Addr}{fd:FuncData}{x:Str}{sp:Sp}{s₁:Shared}{vs:List Value}{ns:List Int}
  (KX:K.In s₁.heap) (hns:s₁.heap.Ns mainGlobals mg) (hb:s₁.heap.Ns builtinsNs mb) (hbb:∀x:Str,x≠"__name__"->mb x=bootBuiltins x) (hlim:s₁.heap.NoLimit) (hg:s₁.gens=#[])
  (ha:s₁.heap.get? a=some { cls:=.type "list",data:=.seq vs.toArray }) (hi:IntsAre vs ns) (hl:ns.length<=sizeLine) (hr:gS k callerA)
  (F:∀base:Heap,K.In base->base.Ns mainGlobals mg->me P w K mg base CX k fa fd [x] sp) (hbind:∀(s:Shared) (u:Value),BindsTo s fd ⟨[u],[]⟩ [(x,u)])
  (hsp:∀H:Hp,DK H->bp K H a (ns.map V.int)->sp [.ref a] H (λv _=>v=.bl true) λ_ _ _=>False)
  (hCX:∀H e s',CX [] H s₁ (λ_ _ _=>False) e s'->False) :
  codeAny (model P w) callerA (.call (.ref fa) ⟨[.ref a],[]⟩) (λr s'=>r=.ok (.ret (.bool true))/\OldK s₁.heap s'.heap/\s'.os=s₁.os/\AllBare s'.gens) s₁:=by
 have rv:=lF hi;have lenV:=hi.length;have core:∀H:Hp,DK H->bp K H a (ns.map V.int)->lC P w H s₁.heap->(∀b,H b≠none->b=a)->(H a≠none->K.lookup a=none) →
   codeAny (model P w) callerA (.call (.ref fa) ⟨[.ref a],[]⟩) (λr s'=>r=.ok (.ret (.bool true))/\OldK s₁.heap s'.heap/\s'.os=s₁.os/\AllBare s'.gens) s₁:=by
  intro H hO hS hok hA hK;have base_of:∀{b:Addr} {o:Obj},s₁.heap.get? b=some o->H b=none->(rH s₁.heap H).get? b=some o:=λe n=>zL e n;have noA:∀{b:Addr} {o:Obj} {es:Array DictEntry} {ep:Nat},s₁.heap.get? b=some o->o.data=.dict es ep->H b=none:=fun {b o es ep} e d=>by
   cases q:H b with
   | none=>rfl
   | some u=>
    have e':b=a:=hA b (by rw[q];simp);subst e';rw[ha] at e;cases e;have d':Data.seq vs.toArray _=Data.dict es ep:=d;cases d'
  have nsK:∀{b:Addr} {m:Str->Option Value},s₁.heap.Ns b m->(rH s₁.heap H).Ns b m:=fun {b m} ⟨o,es,ep,e,d,r⟩=>⟨o,es,ep,base_of e (noA e d),d,r⟩
  have hKb:K.In (rH s₁.heap H):=λb o e=>base_of (KX b o e) (by
   cases q:H b with
   | none=>rfl
   | some u=>
    have e':b=a:=hA b (by rw[q];simp);subst e';rw[hK (by rw[q];simp)] at e;cases e)
  have hM:Mod K mg (rH s₁.heap H):=⟨hKb,nsK hns,⟨mb,nsK hb,hbb⟩,let ⟨mc,h1,h2⟩:=hlim;⟨mc,nsK h1,h2⟩⟩
  have e0:xP P w K mg (rH s₁.heap H) callerA [] s₁ H:=⟨rfl,hM,λb o e=>AO e,m8 (ww _ _),trivial,λb hb=>absurd (show b∈([]:List Addr) from hb) (by simp),hok,.of_eq hg⟩
  refine Lv ((F _ hKb (nsK hns)).run callerA [] s₁ H ⟨[.ref a],[]⟩ [.ref a] [.ref a] _ _ hr e0 (hbind s₁ (.ref a)) (.cons rfl .nil) (hsp H hO hS)) λr s' h=>?_;cases r with
  | error e=>exact(hCX H e s' h).elim
  | ok fl=>
   cases fl with
   | next=>exact False.elim h
   | brk=>exact False.elim h
   | cont=>exact False.elim h
   | ret u=>
    obtain⟨v,H',os,bare,un,hok',r',q⟩:=h;have q':v=.bl true:=q;subst q';obtain rfl:u=Value.bool true:=r';refine⟨rfl,OldK.of_keep λb o e=>?_,os,bare⟩;cases q:H b with
    | none=>exact un.keep b o e q (by intro z;exact absurd (show b∈([]:List Addr) from z) (by simp)) (by simp)
    | some u=>
     rcases hO b with z | ⟨ob,xs,z⟩
     ·rw[q] at z;cases z
     ·have z2:=un.frzs b ob _ z;obtain⟨e1,_⟩:=hok b _ z;obtain⟨e2,_⟩:=hok' b _ z2;rw[e] at e1;cases e1;exact e2
 cases hk:K.lookup a with
 | some o=>
  have e:=KX a o hk;rw[ha] at e;cases e;refine core (λ_=>none) (λ_=>.inl rfl) (.inr ⟨_,vs.toArray,_,hk,rfl,rfl,rfl,by rw[aQ,lenV];exact hl,by simpa using rv⟩) (λb u z=>by have z':(none:Option HO)=some u:=z;cases z') (λb z=>absurd rfl z) λz=>absurd rfl z
 | none=>
  refine core (λb=>if b=a then some (.frz { cls:=.type "list",data:=.seq vs.toArray } (.lst (ns.map V.int))) else none) (λb=>?_) (.inl (.inr ⟨{ cls:=.type "list",data:=.seq vs.toArray },MO rfl⟩)) (λb u z=>?_) (λb z=>?_) λ_=>hk
  ·by_cases hb:b=a
   ·exact .inr ⟨_,_,MO hb⟩
   ·exact .inl (MN hb)
  ·by_cases hb:b=a
   ·have z':=(MO hb).symm.trans z;cases z';subst hb;exact⟨ha,by rw[aF];exact hl,vs,_,rv,ha⟩
   ·have z':=(MN hb).symm.trans z;cases z'
  ·by_cases hb:b=a
   ·exact hb
   ·exact absurd (MN hb) z
abbrev F8 {K:MU} {h:Heap} (_:K.In h):MU:=K
theorem vB{l:PySem.W.OpenLaw}{n k:Nat}{q:Program}{loose:List Str}{XP:(Str->Option Value)->Heap->Prop}{YP:World->Heap->Prop}{d:DefRec}{K:Params->MU}{CX:World->xT}{sp:World->Sp}{x:Str}
  (hn:l.most=some n) (hn2:n<=sizeLine) (hdf:d.params.defaults=[]) (hr:gS k callerA)
  (hY:∀(w:World) (h:Heap),YP w h->(K w.params).In h)
  (F:∀(w:World) (mg:Str->Option Value) (fa:Addr) (h:Heap),(K w.params).In h->h.Ns mainGlobals mg->mg d.name=some (.ref fa) →
   ∃fd:FuncData,(∀(s:Shared) (u:Value),BindsTo s fd ⟨[u],[]⟩ [(x,u)]) ∧
    ∀base:Heap,(K w.params).In base->base.Ns mainGlobals mg->me l.prog w (K w.params) mg base (CX w) k fa fd [x] (sp w))
  (hsp:∀(w:World) (H:Hp) (a:Addr) (ns:List Int),ns.length<=n->DK H->bp (K w.params) H a (ns.map V.int)->sp w [.ref a] H (λv _=>v=.bl true) λ_ _ _=>False)
  (hCX:∀(w:World) (H:Hp) (s:Shared) (e:Value) (s':Shared),CX w [] H s (λ_ _ _=>False) e s'->False) :
  PySem.W.WalkO q loose XP YP l.row.toRowW d [] (λf vs=>PySem.call f vs):=by
 refine Att.attach_call hn hdf λw s₀ s₁ mg mb fa o pm cd doc a vs ns G Y ho hd hcd hmg hobj hints hlen hg=>?_;have KX:=hY w _ Y;obtain⟨fd,hb,hF⟩:=F w mg fa _ KX G.T.g hmg;exact zC KX G.T.g G.T.b G.T.builtins G.T.nolimit hg hobj hints (bd hlen hn2) hr hF hb (λH hO hS=>hsp w H a ns hlen hO hS) λH e s'=>hCX w H s₁ e s'
end L2
/- THE LAST THEOREM (shape;LID,My.* are yours):
   My.Adr: a structure of the addresses that your layer names (classes,functions);My.Txt K t: a structure (Prop) of the equations over K;
   My.txt_mk:{K} {implicit addresses ..} (e1:nsIn K mainGlobals "law"=some (some (.ref f))) (e2:K.lookup f=some ⟨oc,od,.func (fnOf "law" "law" params body scope dV kV doc pm an cdv ct),sl⟩) (e3:codeIn K cdv "law"=true) ..:∃t,My.Txt K t
set_option maxRecDepth 100000 in
set_option maxHeartbeats 0 in
theorem PySem.Challenge.cw_LID_holds : PySem.Challenge.rw_LID.Holds := by
 w_on; o_law; k_head; (case hw => w_witness2)
 k_fill
 refine L2.vB (l := PySem.Challenge.rw_LID) (n := 63) (k := 40) (x := "script") (CX := λw => ..) (sp := λ_ => My.sp_law) rfl (by decide) rfl ⟨rfl, by decide, by decide⟩ (λw h Y => PySem.W.kIn_of Y) ?F ?S ?C
 case F =>
  intro w mg fa h KX G hmg;have T : ∃t, My.Txt (L2.F8 KX) t := by
   dsimp only [L2.F8]                          -- K must stand as «<heap const> w.params» for k_is;refine' My.txt_mk ?e1 ?e2 ?e3 ..
   (case e1 => PySem.W.k_is)                    -- in the order: a name -> its address -> its object -> its parts
   (case e2 => PySem.W.k_is)
   ..
  obtain ⟨t, T⟩ := T;have e0 := hmg.symm.trans (bM KX G T.law);cases e0                                       -- fa is the law's own address;exact ⟨_, λs u => .of_eq rfl, λbase kb nb => My.law_fn T kb nb⟩     -- if «.of_eq rfl» comes too early: refine' ⟨_, ?b, λbase kb nb => My.law_fn T kb nb⟩; exact λs u => .of_eq rfl
 case S => exact λw H a ns hl hO hS => ..
 case C => exact ..
(the tactic k_is has no namespace: write k_is) -/
namespace L2
open PySem PySem.Spec PyProof.Rows
def jL(s:Stmt):Arguments:=match s with
 | .FunctionDef _ a _ _ _ _ _ _ _ _=>a
 | _=>{ posonlyargs:=[],args:=[],vararg:=none,kwonlyargs:=[],kw_defaults:=[],kwarg:=none,defaults:=[] }
def f6(s:Stmt):List Stmt:=match s with
 | .FunctionDef _ _ b _ _ _ _ _ _ _=>b
 | _=>[]
def ae(s:Stmt):Scope:=match s with
 | .FunctionDef _ _ _ _ _ _ sc _ _ _=>sc
 | _=>{ kind:=.function,names:=[],isGenerator:=false,isCoroutine:=false }
abbrev xQ:xT:=λ_ _ _ _ _ _=>False
abbrev E0:XK:=λ_ _ _=>False
theorem EI{X:Cx}:pV xQ X E0:=λ_ _ _ _ _ _ _ h=>h.elim
structure rT (K:MU) (x qual:Str) (st:Stmt) (f:Addr) (fd:FuncData):Prop where
 ex:∃ (oc:Value) (od:Option Addr) (kV doc pm:Value) (an:Option Addr) (cdv ct:Value) (osl:Array (Option Value)),
  fd=PySem.W.fnOf x qual (jL st) (f6 st) (ae st) .none kV doc pm an cdv ct/\K.lookup f=some ⟨oc,od,.func fd,osl⟩/\PySem.W.codeIn K cdv qual=true
 kp:PySem.W.keepIn K (.ref f)=true
section
variable {P:Program} {w:World} {K:MU} {mg:Str->Option Value} {base:Heap}
theorem rT.ok{x qual:Str}{st:Stmt}{f:Addr}{fd:FuncData}{N ps:List Str}{k:Nat}{sp:Sp}(F:rT K x qual st f fd)(S:bJ N ps (ae st))(len:∀vs H Q E,sp vs H Q E->vs.length=ps.length)
  (hbody:∀(cdv:Value) (A:Around) (outer:List Env) (s:Shared) (H:Hp) (vs:List V) (Q:VK) (E:XK),gS k (A.deeper (envOfC qual (ae st) s.heap.objs.size f cdv))->sp vs H Q E →
   ∃t,zh (ij xQ P w K mg base N qual (ae st) f cdv A outer s H E).nox (f6 st) t/\t { nx:=λ_ H'=>Q .non H',rt:=Q } (start N vs) H):me P w K mg base xQ (k+1) f fd ps sp:=by
 obtain⟨oc,od,kV,doc,pm,an,cdv,ct,osl,rfl,lk,hcd⟩:=F.ex;refine B7 lk hcd S len λA outer s H vs Q E hr hsp=>?_;obtain⟨t,h,q⟩:=hbody cdv A outer s H vs Q E hr hsp;exact⟨t,h.nox,q⟩
theorem rT.binds{x qual:Str}{st:Stmt}{f:Addr}{fd:FuncData}{ps:List Str}(F:rT K x qual st f fd)
  (h:∀(kV doc pm:Value) (an:Option Addr) (cdv ct:Value) (us:List Value),us.length=ps.length->bindArgs (PySem.W.fnOf x qual (jL st) (f6 st) (ae st) .none kV doc pm an cdv ct) ⟨us,[]⟩=pure (ps.zip us)):Binds K fd ps []:=by
 obtain⟨oc,od,kV,doc,pm,an,cdv,ct,osl,rfl,lk,hcd⟩:=F.ex;exact .all (h kV doc pm an cdv ct)
theorem Cw{x qual:Str}{st:Stmt}{f:Addr}{oc:Value}{od an:Option Addr}{osl:Array (Option Value)}{kV doc pm cdv ct:Value}(l:K.lookup f=some ⟨oc,od,.func (PySem.W.fnOf x qual (jL st) (f6 st) (ae st) .none kV doc pm an cdv ct),osl⟩)
  (c:PySem.W.codeIn K cdv qual=true) (k:PySem.W.keepIn K (.ref f)=true):rT K x qual st f (PySem.W.fnOf x qual (jL st) (f6 st) (ae st) .none kV doc pm an cdv ct):=⟨⟨oc,od,kV,doc,pm,an,cdv,ct,osl,rfl,l,c⟩,k⟩
end
theorem ai{n:Nat}(h:n<=1000):n<sizeLine:=eF h (by decide)
theorem A4{A B:Prop}(h:B):if false=true then A else B:=by
 rw[MN aY];exact h
theorem A3{A B:Prop}(h:A):if true=true then A else B:=by
 rw[MO rfl];exact h
theorem eZ{c A B:Prop} [Decidable c] (h1:c->A) (h2:¬c->B):if c then A else B:=by
 by_cases h:c
 ·rw[MO h];exact h1 h
 ·rw[MN h];exact h2 h
def aX(H H':Hp):Prop:=∀b o,H b=some o->H' b=some o
theorem aX.refl(H:Hp):aX H H:=λ_ _ h=>h
theorem aX.trans{H H1 H2:Hp}(a:aX H H1)(b:aX H1 H2):aX H H2:=λc o h=>b c o (a c o h)
theorem aX.free{H H':Hp}(e:aX H H'){l:Addr}(h:H' l=Option.none):H l=Option.none:=by
 cases q:H l with
 | none=>rfl
 | some o=>
  rw[e l o q] at h;cases h
theorem aX.seq{K:MU}{H H':Hp}{a:Addr}{xs:List V}(e:aX H H')(h:bp K H a xs):bp K H' a xs:=by
 rcases h with (h | ⟨o,h⟩) | h
 ·exact .inl (.inl (e _ _ h))
 ·exact .inl (.inr ⟨o,e _ _ h⟩)
 ·exact .inr h
end L2
set_option maxHeartbeats 4000000
namespace L2
open PySem PySem.Spec PyProof.Rows
mutual
inductive Rep (K:MU) (H:Hp):V->PyData->Prop
 | non:Rep K H .non .none
 | bl (b:Bool):Rep K H (.bl b) (.bool b)
 | int (i:Int):Rep K H (.int i) (.int i)
 | str (x:Str):Rep K H (.str x) (.str x)
 | tup {a:Addr} {xs:List V} {ds:List PyData}:cg K H a xs->m6 K H xs ds->Rep K H (.ref a) (.tuple ds)
 | lst {a:Addr} {xs:List V} {ds:List PyData}:bp K H a xs->m6 K H xs ds->Rep K H (.ref a) (.list ds)
inductive m6 (K:MU) (H:Hp):List V->List PyData->Prop
 | nil:m6 K H [] []
 | cons {x:V} {xs:List V} {d:PyData} {ds:List PyData}:Rep K H x d->m6 K H xs ds->m6 K H (x::xs) (d::ds)
end
section
variable {X:Cx} {pins:List (Addr×Obj)} {σ:St} {H:Hp} {s:Shared}
mutual
theorem Rep.reads(I:bE X pins σ H s):∀{x:V} {d:PyData} {u:Value},Rep X.K H x d->RelV x u->∃as,Reads s.heap u d as
 | _,_,_,.non,r=>by cases r;exact⟨_,.none⟩
 | _,_,_,.bl b,r=>by cases r;exact⟨_,.bool b⟩
 | _,_,_,.int i,r=>by obtain⟨t,rfl⟩:=r;exact⟨_,.int i t⟩
 | _,_,_,.str x,r=>by obtain⟨t,rfl⟩:=r;exact⟨_,.str x t⟩
 | _,_,_,.tup h hl,r=>by
  cases r;obtain⟨its,vs,⟨o,e,c,n,dd⟩,_⟩:=I.tuple h;obtain⟨as,ra⟩:=m6.reads I hl vs;exact⟨_,.tuple e c dd (by simpa using ra)⟩
 | _,_,_,.lst h hl,r=>by
  cases r;obtain⟨its,vs,pl,_⟩:=I.list h;obtain⟨o,e,c,n,dd⟩:=pl.isList;obtain⟨as,ra⟩:=m6.reads I hl vs;exact⟨_,.list e c dd (by simpa using ra)⟩
theorem m6.reads(I:bE X pins σ H s):∀{xs:List V} {ds:List PyData} {us:List Value},m6 X.K H xs ds->bb xs us->∃as,ReadsAll s.heap us ds as
 | _,_,_,.nil,.nil=>⟨_,.nil⟩
 | _,_,_,.cons h hl,.cons r rs=>by
  obtain⟨as,ra⟩:=Rep.reads I h r;obtain⟨bs,rb⟩:=m6.reads I hl rs;exact⟨_,.cons ra rb⟩
end
end
def uU(K:MU)(neg:Bool):R2:=λx y H Q=>∃d e,Rep K H x d/\Rep K H y e/\d.canLay0=true/\e.canLay0=true/\min d.depth e.depth<=60 ∧
 Q (.bl (if neg then !PyData.eqv d e else PyData.eqv d e)) H
section
variable {X:Cx}
theorem nB(hu:X.A.units+64<cLine):nN X (compareOp .Eq) (uU X.K false):=by
 intro pins s σ H x y v u Q I rx ry h;obtain⟨d,e,h1,h2,h3,h4,h5,q⟩:=h;obtain⟨as,ra⟩:=h1.reads I rx;obtain⟨bs,rb⟩:=h2.reads I ry;exact SeqAt.compareEq_reads ra rb h3 h4 (by lia) ⟨.bl _,H,I,rfl,q⟩
theorem qw(hu:X.A.units+64<cLine):nN X (compareOp .NotEq) (uU X.K true):=by
 intro pins s σ H x y v u Q I rx ry h;obtain⟨d,e,h1,h2,h3,h4,h5,q⟩:=h;obtain⟨as,ra⟩:=h1.reads I rx;obtain⟨bs,rb⟩:=h2.reads I ry;exact SeqAt.compareNe_reads ra rb h3 h4 (by lia) ⟨.bl _,H,I,rfl,q⟩
open Classical in
noncomputable def eqR (h:Heap) (d:PyData) (u:Value):Bool:=if z:∃e as,Reads h u e as/\e.canLay0=true then PyData.eqv z.choose d else false
theorem zP{h:Heap}{d e:PyData}{u:Value}{as:List Addr}(r:Reads h u e as)(c:e.canLay0=true):eqR h d u=PyData.eqv e d:=by
 have z:∃e as,Reads h u e as/\e.canLay0=true:=⟨e,as,r,c⟩
 unfold eqR;rw[dif_pos z];obtain⟨as',r',c'⟩:=z.choose_spec;rw[SeqAt.Reads.unique _ _ _ _ _ c' r' r]
theorem rR{h:Heap}{d:PyData}:∀{us:List Value} {es:List PyData} {as:List Addr},ReadsAll h us es as->PyData.canLayAll0 es=true->us.any (eqR h d)=es.any λe=>PyData.eqv e d
 | _,_,_,.nil,_=>rfl
 | _,_,_,.cons r rs,c=>by
  have c':(PyData.canLay0 _&&PyData.canLayAll0 _)=true:=c;rw[bL] at c';rw[eV,eV,zP r c'.1,rR rs c'.2]
theorem rE{A:Around}{s:Shared}{d:PyData}{x:Value}{bs:List Addr}(rx:Reads s.heap x d bs)(cx:d.canLay0=true)(hu:A.units+d.depth<cLine):
  ∀{us:List Value} {es:List PyData} {as:List Addr},ReadsAll s.heap us es as->PyData.canLayAll0 es=true->∀u∈us,SeqAt.EqAt A s u x (eqR s.heap d u)
 | _,_,_,.nil,_=>λu hu=>nomatch hu
 | _,_,_,.cons r rs,c=>λu hm=>by
  have c':(PyData.canLay0 _&&PyData.canLayAll0 _)=true:=c;rw[bL] at c';rcases aZ.mp hm with rfl | hm
  ·rw[zP r c'.1];exact SeqAt.eqAt_reads _ _ A s _ _ _ _ r rx c'.1 cx (by lia)
  ·exact rE rx cx hu rs c'.2 u hm
def C1(K:MU)(neg:Bool):R2:=λx y H Q=>∃d es p xs,Rep K H x d/\y=.ref p/\(bp K H p xs\/cg K H p xs)/\m6 K H xs es/\d.canLay0=true/\PyData.canLayAll0 es=true/\d.depth<=60 ∧
 Q (.bl (if neg then !(es.any λe=>PyData.eqv e d) else es.any λe=>PyData.eqv e d)) H
theorem yo(hu:X.A.units+64<cLine):nN X (compareOp .In) (C1 X.K false):=by
 intro pins s σ H x y v u Q I rx ry h;obtain⟨d,es,p,xs,h1,rfl,hq,h2,h3,h4,h5,q⟩:=h;cases ry;obtain⟨as,ra⟩:=h1.reads I rx;rcases hq with hq | hq
 ·obtain⟨its,r,pl,hz⟩:=I.list hq;obtain⟨bs,rb⟩:=h2.reads I r;refine SeqAt.in_listAt (eqR s.heap d) pl.isList (λz hz=>rE (A:=X.A.in1) ra h3 (by show X.A.units+1+d.depth<cLine;lia) rb h4 z (by simpa using hz)) ⟨.bl _,H,I,rfl,?_⟩;rw[show its.toArray.any (eqR s.heap d)=its.any (eqR s.heap d) by simp,rR rb h4];exact q
 ·obtain⟨its,r,pl,hz⟩:=I.tuple hq;obtain⟨bs,rb⟩:=h2.reads I r;refine SeqAt.in_tupleAt (eqR s.heap d) pl (λz hz=>rE (A:=X.A.in1) ra h3 (by show X.A.units+1+d.depth<cLine;lia) rb h4 z (by simpa using hz)) ⟨.bl _,H,I,rfl,?_⟩;rw[show its.toArray.any (eqR s.heap d)=its.any (eqR s.heap d) by simp,rR rb h4];exact q
def C0(K:MU):List V->Hp->VK->Prop:=λxs H Q=>∃x T t b,xs=[x,.ty T]/\lU K H x t/\PySem.W.kitOne K t (.type T)=some b/\Q (.bl b) H
theorem gI:fX X (.builtin "isinstance") (C0 X.K):=by
 intro pins s σ H xs us Q I r h;obtain⟨x,T,t,b,rfl,ty,e,q⟩:=h;obtain⟨u,w,rfl,rx,rw'⟩:=bb.two r;cases (show w=Value.type T from rw');exact wv I rx ty e λtk=>⟨.bl b,H,I.tok tk,rfl,q⟩
def vU(r r' r2:R2)(ta tb tc td:TE):TE:=λσ H Q=>ta σ H λx H1=>tb σ H1 λy H2=>r x y H2 λz H3=>∃k,z=.bl k ∧
 (if k=true then tc σ H3 λw' H4=>r' y w' H4 λz2 H5=>∃k2,z2=.bl k2/\(if k2=true then td σ H5 λe H6=>r2 w' e H6 Q else Q (.bl false) H5) else Q (.bl false) H3)
def dW(lo:Int)(n:Nat):List Int:=(List.range n).map λ(i:Nat)=>lo+(i:Int)
theorem vQ:∀{xs:List V} {us:List Value},xs.length=us.length->(∀(j:Nat) x u,xs[j]? = some x->us[j]? = some u->RelV x u)->bb xs us
 | [],[],_,_=>.nil
 | [],_::_,h,_=>by simp at h
 | _::_,[],h,_=>by simp at h
 | x::xs,u::us,h,f=>.cons (f 0 x u rfl rfl) (vQ (by simpa using h) λj a b ha hb=>f (j+1) a b (by simpa using ha) (by simpa using hb))
theorem uh{lo:Int}{n:Nat}{acc:Array Value}(h:ItemsOf (λi v=>∃t,v=.int (lo+i*1) t) acc n):bb ((dW lo n).map V.int) acc.toList:=by
 refine vQ (by simp[dW,h.1]) λj x u hx hu=>?_;obtain⟨t,rfl⟩:=h.2 j u (by simpa using hu);have hj:j<n:=by
  have:=(aE.mp hx).1;simpa [dW] using this
 have e:((dW lo n).map V.int)[j]? = some (.int (lo+(j:Int))):=by simp[dW,hj]
 rw[e] at hx;cases hx;exact⟨t,by simp⟩
theorem xI:fX X (.type "range") (λxs H Q=>∃j:Int,xs=[.int j]/\∀p,H p=none->Q (.ref p) (bU H p (.rng 0 j))):=by
 intro pins s σ H xs us Q I r h;obtain⟨j,rfl,q⟩:=h;obtain⟨u,rfl,t,rfl⟩:=Ls r;exact call_range_1 ⟨.ref s.heap.objs.size,_,I.laid (λb o e=>aD _ e) (aH _) (show cL X.prog X.w _ _ _ (.rng 0 j) from ⟨_,_,_,aP _ rfl⟩),rfl,q _ (I.hok.fresh (aH _))⟩
theorem qY:fX X (.type "range") (λxs H Q=>∃i j:Int,xs=[.int i,.int j]/\∀p,H p=none->Q (.ref p) (bU H p (.rng i j))):=by
 intro pins s σ H xs us Q I r h;obtain⟨i,j,rfl,q⟩:=h;obtain⟨u,u',rfl,⟨t,rfl⟩,t',rfl⟩:=bb.two r;exact call_range_2 ⟨.ref s.heap.objs.size,_,I.laid (λb o e=>aD _ e) (aH _) (show cL X.prog X.w _ _ _ (.rng i j) from ⟨_,_,_,aP _ rfl⟩),rfl,q _ (I.hok.fresh (aH _))⟩
theorem jW (hc:X.calm=true):fX X (.type "list") (λxs H Q=>∃p lo hi,xs=[.ref p]/\H p=some (.rng lo hi)/\(-(2 ^ 30)<=lo/\lo<2 ^ 30/\-(2 ^ 30)<=hi/\hi<2 ^ 30/\(hi-lo).toNat<=1000) ∧
  ∀l,H l=none->Q (.ref l) (bU H l (.lst ((dW lo (hi-lo).toNat).map V.int)))):=by
 intro pins s σ H xs us Q I r h;obtain⟨p,lo,hi,rfl,hp,⟨b1,b2,b3,b4,b5⟩,q⟩:=h;obtain⟨u,rfl,rx⟩:=Ls r;cases rx;obtain⟨t,u,v,e⟩:=(show cL X.prog X.w H s.heap p (.rng lo hi) from I.hok p _ hp)
 have hn:Builtin.Range.rangeSize lo hi 1=(((hi-lo).toNat:Nat):Int):=by rw[rangeSize_one];split<;>lia
 refine call_list_range (n:=(hi-lo).toNat) (I.ok.hd hc) (show IsRange s.heap p lo hi 1 t u v from e) (small_one (by lia) (by lia) (by lia) (by lia)) hn (by lia) λh' tk acc' c' kp e' hit=>?_;have hv:=uh hit;have hz:((dW lo (hi-lo).toNat).map V.int).length<=sizeLine:=by
  rw[aF,dW,aF,jP];exact aS (ai b5)
 exact⟨.ref s.heap.objs.size,_,I.laid kp (aH _) (show cL X.prog X.w _ h' _ (.lst _) from ⟨hz,acc'.toList,c',hv,by simpa using e'⟩),rfl,q _ (I.hok.fresh (aH _))⟩
end
structure Fn (K:MU) (mg:Str->Option Value) (x:Str) (st:Stmt) (ps:List Str):Prop where
 ex:∃ f fd,rT K x x st f fd/\mg x=some (.ref f)/\Binds K fd ps []
structure eO (P:Program) (w:World) (K:MU) (mg:Str->Option Value) (base:Heap) (k:Nat) (x:Str) (st:Stmt) (ps:List Str) (sp:Sp):Prop where
 ex:∃ f fd,rT K x x st f fd/\mg x=some (.ref f)/\Binds K fd ps []/\me P w K mg base xQ k f fd ps sp
theorem Fn.mk'{P:Program}{w:World}{K:MU}{mg:Str->Option Value}{base:Heap}{k:Nat}{x:Str}{st:Stmt}{ps:List Str}{sp:Sp}(E:Fn K mg x st ps)
  (h:∀f fd,rT K x x st f fd->me P w K mg base xQ k f fd ps sp):eO P w K mg base k x st ps sp:=by
 obtain⟨f,fd,F,m,b⟩:=E.ex;exact⟨f,fd,F,m,b,h f fd F⟩
theorem aX.new{H H2:Hp}{l:Addr}{o:HO}(s:aX H H2)(h:H l=none):aX H (bU H2 l o):=λb u e=>by rw[aK (av e h)];exact s b u e
theorem fD{α β:Type}{R:α->β->Prop}:∀{xs:List α} {ys:List β} {x:α} {y:β},Paired R xs ys->R x y->Paired R (xs++[x]) (ys++[y])
 | _,_,_,_,.nil,h=>.cons h .nil
 | _,_,_,_,.cons r t,h=>.cons r (fD t h)
theorem di{α β:Type}{R S:α->β->Prop}:∀{xs:List α} {ys:List β},Paired R xs ys->(∀a b,R a b->S a b)->Paired S xs ys
 | _,_,.nil,_=>.nil
 | _,_,.cons r t,f=>.cons (f _ _ r) (di t f)
theorem fe{α β:Type}{R:α->β->Prop}:∀{xs:List α} {ys:List β} {i:Nat} {x:α},Paired R xs ys->xs[i]? = some x->∃y,ys[i]? = some y/\R x y
 | _,_,_,_,.nil,e=>by simp at e
 | _,_,0,_,.cons r _,e=>by simp at e;subst e;exact⟨_,rfl,r⟩
 | _,_,i+1,x,.cons _ t,e=>by
  obtain⟨y,h1,h2⟩:=fe (i:=i) (x:=x) t (by simpa using e);exact⟨y,by simpa using h1,h2⟩
section
variable {σ:St} {H:Hp} {Q:VK} {D:Ends}
theorem Bh{v:V}:rm 0 (some v::σ) H Q=Q v H:=propext ⟨λ⟨_,e,h⟩=>by cases e;exact h,λh=>⟨v,rfl,h⟩⟩
theorem xZ{i:Nat}{x:Option V}:rm (i+1) (x::σ) H Q=rm i σ H Q:=rfl
theorem FW{v:V}:tC v σ H Q=Q v H:=rfl
theorem D7{r:R2}{ta tb:TE}:CJ r ta tb σ H Q=ta σ H λx H1=>tb σ H1 λy H2=>r x y H2 Q:=rfl
theorem DY{r:V->Hp->VK->Prop}{ta:TE}:Ff r ta σ H Q=ta σ H λx H1=>r x H1 Q:=rfl
theorem Eo{g:Int->Int->V}{i j:Int}:C2 g (.int i) (.int j) H Q=Q (g i j) H:=propext ⟨λ⟨_,_,e,e',h⟩=>by cases e;cases e';exact h,λh=>⟨i,j,rfl,rfl,h⟩⟩
theorem Fc{C:Int->Int->Prop}{g:Int->Int->V}{i j:Int}:rI C g (.int i) (.int j) H Q=(C i j/\Q (g i j) H):=propext ⟨λ⟨_,_,e,e',h⟩=>by cases e;cases e';exact h,λh=>⟨i,j,rfl,rfl,h⟩⟩
theorem Fb{g:Int->V}{i:Int}:rU g (.int i) H Q=Q (g i) H:=propext ⟨λ⟨_,e,h⟩=>by cases e;exact h,λh=>⟨i,rfl,h⟩⟩
theorem Dn{i j:Int}:Ef (.int i) (.int j) H Q=Q (.bl (decide (i=j))) H:=propext ⟨λ⟨_,h⟩=>by simpa using h,λh=>⟨rfl,by simpa using h⟩⟩
theorem D9{i j:Int}:Ee (.int i) (.int j) H Q=Q (.bl (!decide (i=j))) H:=propext ⟨λ⟨_,h⟩=>by simpa using h,λh=>⟨rfl,by simpa using h⟩⟩
theorem Dm{i j:Str}:Ef (.str i) (.str j) H Q=Q (.bl (decide (i=j))) H:=propext ⟨λ⟨_,h⟩=>by simpa using h,λh=>⟨rfl,by simpa using h⟩⟩
theorem D8{i j:Str}:Ee (.str i) (.str j) H Q=Q (.bl (!decide (i=j))) H:=propext ⟨λ⟨_,h⟩=>by simpa using h,λh=>⟨rfl,by simpa using h⟩⟩
theorem Do{i j:Bool}:Ef (.bl i) (.bl j) H Q=Q (.bl (decide (i=j))) H:=propext ⟨λ⟨_,h⟩=>by simpa using h,λh=>⟨rfl,by simpa using h⟩⟩
theorem Da{i j:Bool}:Ee (.bl i) (.bl j) H Q=Q (.bl (!decide (i=j))) H:=propext ⟨λ⟨_,h⟩=>by simpa using h,λh=>⟨rfl,by simpa using h⟩⟩
theorem Dl{b:Bool}{q:Bool->Prop}:(∃k,V.bl b=.bl k/\q k)=q b:=propext ⟨λ⟨_,e,h⟩=>by cases e;exact h,λh=>⟨b,rfl,h⟩⟩
theorem Dk{b:Int}{q:Int->Prop}:(∃k,V.int b=.int k/\q k)=q b:=propext ⟨λ⟨_,e,h⟩=>by cases e;exact h,λh=>⟨b,rfl,h⟩⟩
theorem CA{i j:Str}{q:Str->Str->Prop}:(∃a b,V.str i=.str a/\V.str j=.str b/\q a b)=q i j:=
 propext ⟨λ⟨_,_,e,e',h⟩=>by cases e;cases e';exact h,λh=>⟨i,j,rfl,rfl,h⟩⟩
theorem FX{CX:xT}{P:Program}{w:World}{K:MU}{mg:Str->Option Value}{base:Heap}{N:List Str}{qual:Str}{scope:Scope}{f:Addr}{cd:Value}{A:Around}{outer:List Env}{s:Shared}{H:Hp}{E:XK}:(ij CX P w K mg base N qual scope f cd A outer s H E).K=K:=rfl
theorem BD{i:Nat}{te:TE}{ti:E3}:EA i te ti D σ H=rm i σ H λx _=>te σ H λy H1=>ti x y H1 λz H2=>D.nx (σ.set i (some z)) H2:=rfl
theorem En{f:Int->Int->Int}{i j:Int}:FG f (.int i) (.int j) H Q=Q (.int (f i j)) H:=propext ⟨λ⟨_,_,e,e',h⟩=>by cases e;cases e';exact h,λh=>⟨i,j,rfl,rfl,h⟩⟩
theorem Bp{a b:Bool}{q:Bool->Bool->Prop}:(∃c d,V.bl a=.bl c/\V.bl b=.bl d/\q c d)=q a b:=propext ⟨λ⟨_,_,e,e',h⟩=>by cases e;cases e';exact h,λh=>⟨a,b,rfl,rfl,h⟩⟩
theorem Dj{a:Addr}{q:Addr->Prop}:(∃b,V.ref a=.ref b/\q b)=q a:=propext ⟨λ⟨_,e,h⟩=>by cases e;exact h,λh=>⟨a,rfl,h⟩⟩
theorem Bo{α:Type}{a:Addr}{q:Addr->α->Prop}:(∃b y,V.ref a=.ref b/\q b y)=∃y,q a y:=propext ⟨λ⟨_,y,e,h⟩=>by cases e;exact⟨y,h⟩,λ⟨y,h⟩=>⟨a,y,rfl,h⟩⟩
theorem Bu{i:Int}{q:Int->Prop}:(∃j,[V.int i]=[.int j]/\q j)=q i:=propext ⟨λ⟨_,e,h⟩=>by cases e;exact h,λh=>⟨i,rfl,h⟩⟩
theorem Bs{i:Str}{q:Str->Prop}:(∃j,[V.str i]=[.str j]/\q j)=q i:=propext ⟨λ⟨_,e,h⟩=>by cases e;exact h,λh=>⟨i,rfl,h⟩⟩
theorem Bt{α:Type}{i:Addr}{q:Addr->α->Prop}:(∃j y,[V.ref i]=[.ref j]/\q j y)=∃y,q i y:=propext ⟨λ⟨_,y,e,h⟩=>by cases e;exact⟨y,h⟩,λ⟨y,h⟩=>⟨i,y,rfl,h⟩⟩
theorem Bq{α β:Type}{i:Addr}{q:Addr->α->β->Prop}:(∃j y z,[V.ref i]=[.ref j]/\q j y z)=∃y z,q i y z:=propext ⟨λ⟨_,y,z,e,h⟩=>by cases e;exact⟨y,z,h⟩,λ⟨y,z,h⟩=>⟨i,y,z,rfl,h⟩⟩
theorem Br{i j:Int}{q:Int->Int->Prop}:(∃a b,[V.int i,V.int j]=[.int a,.int b]/\q a b)=q i j:=propext ⟨λ⟨_,_,e,h⟩=>by cases e;exact h,λh=>⟨i,j,rfl,h⟩⟩
theorem Bj{b:Bool}{q:Int->Prop}{r:Bool->Prop}:((∃i,[V.bl b]=[.int i]/\q i)\/∃k,[V.bl b]=[.bl k]/\r k)=r b:=
 propext ⟨λh=>by rcases h with ⟨_,e,_⟩ | ⟨_,e,h⟩<;>cases e;exact h,λh=>.inr ⟨b,rfl,h⟩⟩
theorem Dd{z:Str}{i:Int}:EE (.str z) (.int i) H Q=(z.length<=sizeLine/\∃c,xM z.cps.toList i=some c/\Q (.str ⟨#[c]⟩) H):=
 propext ⟨λ⟨_,_,c,e,e',h1,h2,h3⟩=>by cases e;cases e';exact⟨h1,c,h2,h3⟩,λ⟨h1,c,h2,h3⟩=>⟨z,i,c,rfl,rfl,h1,h2,h3⟩⟩
theorem De{K:MU}{p:Addr}{i:Int}:AD K (.ref p) (.int i) H Q=∃xs v,bp K H p xs/\xM xs i=some v/\Q v H:=
 propext ⟨λ⟨_,xs,_,v,e,e',h⟩=>by cases e;cases e';exact⟨xs,v,h⟩,λ⟨xs,v,h⟩=>⟨p,xs,i,v,rfl,rfl,h⟩⟩
theorem Dc{K:MU}{p:Addr}{i:Int}:CZ K (.ref p) (.int i) H Q=∃xs v,cg K H p xs/\xM xs i=some v/\Q v H:=
 propext ⟨λ⟨_,xs,_,v,e,e',h⟩=>by cases e;cases e';exact⟨xs,v,h⟩,λ⟨xs,v,h⟩=>⟨p,xs,i,v,rfl,rfl,h⟩⟩
theorem Dr{l:Addr}{y:V}:vb (.ref l) [y] H Q=∃xs,H l=some (.lst xs)/\xs.length<sizeLine/\Q .non (bU H l (.lst (xs++[y]))):=
 propext ⟨λ⟨_,xs,_,e,e',h⟩=>by cases e;cases e';exact⟨xs,h⟩,λ⟨xs,h⟩=>⟨l,xs,y,rfl,rfl,h⟩⟩
theorem D6{l:Addr}:ED (.ref l) [] H Q=∃xs y,H l=some (.lst xs)/\xs[xs.length - 1]? = some y/\Q y (bU H l (.lst xs.dropLast)):=
 propext ⟨λ⟨_,xs,y,e,_,h⟩=>by cases e;exact⟨xs,y,h⟩,λ⟨xs,y,h⟩=>⟨l,xs,y,rfl,rfl,h⟩⟩
theorem vv{α:Type}{f:α->V}{l:List α}{k:Nat}{y:V}(h:(l.map f)[k]? = some y):∃x,l[k]? = some x/\y=f x:=by
 rw[bD] at h;cases e:l[k]? with
 | none=>rw[e] at h;cases h
 | some x=>rw[e] at h;exact⟨x,rfl,(aq h).symm⟩
theorem j3 {K:MU} {l:Addr} {xs:List V} (h:H l=some (.lst xs)):DR K "list" (.ref l) H:=.inl ⟨rfl,xs,bp.of h⟩
theorem xb{t:TE}{q:Bool->Hp->Prop}:yL t σ H q=t σ H λx H'=>∃k,x=.bl k/\q k H':=rfl
theorem DZ{t:TE}{q:Bool->Hp->Prop}:tB t σ H q=t σ H λx H'=>∃k,x=.bl k/\q k H':=rfl
theorem w_and{t u:TT}{q:Bool->Hp->Prop}:EB t u σ H q=t σ H λc H1=>if c=true then u σ H1 q else q false H1:=rfl
theorem w_or{t u:TT}{q:Bool->Hp->Prop}:F0 t u σ H q=t σ H λc H1=>if c=true then q true H1 else u σ H1 q:=rfl
theorem w_not{t:TT}{q:Bool->Hp->Prop}:Dv t σ H q=t σ H λc H1=>q (!c) H1:=rfl
theorem yD{ta tb:TE}:BM ta tb σ H Q=ta σ H λx H1=>∃c,x=.bl c/\if c=true then tb σ H1 Q else Q (.bl false) H1:=rfl
theorem Aw{ta tb:TE}:Er ta tb σ H Q=ta σ H λx H1=>∃c,x=.bl c/\if c=true then Q (.bl true) H1 else tb σ H1 Q:=rfl
theorem xi{ta:TE}:BH ta σ H Q=ta σ H λx H1=>∃c,x=.bl c/\Q (.bl (!c)) H1:=rfl
theorem Dg{t:TT}{ta tb:TE}:F1 t ta tb σ H Q=t σ H λc H1=>if c=true then ta σ H1 Q else tb σ H1 Q:=rfl
theorem Au{t u:TS}:Ds t u D σ H=t { nx:=u D,rt:=D.rt,bk:=D.bk,ct:=D.ct } σ H:=rfl
theorem w_next:BI D σ H=D.nx σ H:=rfl
theorem BB:CP D σ H=D.bk σ H:=rfl
theorem xy:Dy D σ H=D.ct σ H:=rfl
theorem xu{te:TE}:BJ te D σ H=te σ H λ_ H1=>D.nx σ H1:=rfl
theorem Av{te:TE}:Du te D σ H=te σ H D.rt:=rfl
theorem xg:Dt D σ H=D.rt .non H:=rfl
theorem Az{c:TT}{t u:TS}:Dw c t u D σ H=c σ H λb H1=>if b=true then t D σ H1 else u D σ H1:=rfl
theorem BE{te:TE}{g:TG}:wM te g D σ H=te σ H λx H1=>g x σ H1 D.nx:=rfl
theorem vG{i:Nat}{v:V}{q:St->Hp->Prop}:lZ i v σ H q=q (σ.set i (some v)) H:=rfl
theorem xf{v:V}{x:Option V}:List.set (x::σ) 0 (some v)=some v::σ:=rfl
theorem xc{i:Nat}{v:V}{x:Option V}:List.set (x::σ) (i+1) (some v)=x::List.set σ i (some v):=rfl
theorem Ax{q:List V->Hp->Prop}:CK σ H q=q [] H:=rfl
theorem yB{ta:TE}{tr:TA}{q:List V->Hp->Prop}:jE ta tr σ H q=ta σ H λx H1=>tr σ H1 λxs H2=>q (x::xs) H2:=rfl
theorem Dp{r:List V->Hp->VK->Prop}{t:TA}:Et r t σ H Q=t σ H λvs H1=>r vs H1 Q:=rfl
theorem As{t:TA}:CI t σ H Q=t σ H λxs H1=>xs.length<=sizeLine/\∀p,H1 p=none->Q (.ref p) (bU H1 p (.tup xs)):=rfl
theorem Ay{t:TA}:yN t σ H Q=t σ H λxs H1=>xs.length<=sizeLine/\∀p,H1 p=none->Q (.ref p) (bU H1 p (.lst xs)):=rfl
theorem w_call{sp:Sp}{dvs:List V}{E:XK}{t:TA}:oY sp dvs E t σ H Q=t σ H λvs H1=>sp (vs++dvs) H1 Q E:=rfl
theorem Dq{K:MU}{T:String}{r:V->List V->Hp->VK->Prop}{to:TE}{t:TA}:F2 K T r to t σ H Q=to σ H λx H1=>DR K T x H1/\t σ H1 λxs H2=>r x xs H2 Q:=rfl
theorem BC{K:MU}{T:String}{r:V->List V->Hp->VK->Prop}{to:TE}:Dz K T r to σ H Q=to σ H λx H1=>DR K T x H1/\r x [] H1 Q:=rfl
def nO(J:It)(g:TG)(tb:TS)(D:Ends)(σ:St)(H1:Hp):Prop:=∃W:Nat->Nat->St->Hp->Prop,(∃m,W 0 m σ H1)/\∀i m σ H,W i m σ H →
 (J.stop i H/\D.nx σ H)\/(J.go i H/\∃N:St->Hp->Prop,(∀σ' H',N σ' H'->∃m',m'<m/\W (i+1) m' σ' H')/\∀x H',J.yld i H x H'->g x σ H' λσ2 H2=>tb { D with nx:=N,ct:=N,bk:=D.nx } σ2 H2)
theorem xt{ta:TA}{g:TG}{tb:TS}:oX (zJ ta) g tb D σ H=ta σ H λvs H1=>∃j:Int,vs=[.int j]/\-(2 ^ 62)<=j/\j<2 ^ 62/\nO (xO 0 j.toNat) g tb D σ H1:=rfl
theorem xr{ta:TA}{g:TG}{tb:TS}:oX (B3 ta) g tb D σ H=ta σ H λvs H1=>∃i j:Int,vs=[.int i,.int j]/\(-(2 ^ 62)<=i/\i<2 ^ 62/\-(2 ^ 62)<=j/\j<2 ^ 62)/\nO (xO i (j-i).toNat) g tb D σ H1:=rfl
theorem xp{K:MU}{tl:TE}{g:TG}{tb:TS}:oX (zK K tl) g tb D σ H=tl σ H λx H1=>∃a,x=.ref a/\(∃xs,bp K H1 a xs)/\nO (Ap K a) g tb D σ H1:=rfl
theorem xn{K:MU}{tl:TE}{g:TG}{tb:TS}:oX (Cu K tl) g tb D σ H=tl σ H λx H1=>∃a,x=.ref a/\(∃xs,cg K H1 a xs)/\nO (DT K a) g tb D σ H1:=rfl
theorem xl{K:MU}{n:Nat}{t:zf}{v:V}{q:St->Hp->Prop}:ET K n t v σ H q=∃a xs,v=.ref a/\cg K H a xs/\xs.length=n/\t xs σ H q:=rfl
theorem Bl{q:St->Hp->Prop}:EV [] σ H q=q σ H:=propext ⟨λh=>h.2,λh=>⟨rfl,h⟩⟩
theorem zo{t:TG}{u:zf}{v:V}{r:List V}{q:St->Hp->Prop}:B6 t u (v::r) σ H q=t v σ H λσ' H'=>u r σ' H' q:=propext ⟨λ⟨_,_,e,h⟩=>by cases e;exact h,λh=>⟨v,r,rfl,h⟩⟩
theorem re{r r' r2:R2}{ta tb tc td:TE}:vU r r' r2 ta tb tc td σ H Q=ta σ H λx H1=>tb σ H1 λy H2=>r x y H2 λz H3=>∃k,z=.bl k ∧
 (if k=true then tc σ H3 λw' H4=>r' y w' H4 λz2 H5=>∃k2,z2=.bl k2/\(if k2=true then td σ H5 λe H6=>r2 w' e H6 Q else Q (.bl false) H5) else Q (.bl false) H3):=rfl
theorem vP{r r':R2}{ta tb tc:TE}:CO r r' ta tb tc σ H Q=ta σ H λx H1=>tb σ H1 λy H2=>r x y H2 λz H3=>∃k,z=.bl k ∧
 (if k=true then tc σ H3 λw' H4=>r' y w' H4 Q else Q (.bl false) H3):=rfl
end
theorem oB{P:List Value->Prop}(h:∀a:Value,P [a]):∀us:List Value,us.length=1->P us
 | [a],_=>h a
theorem FY{P:List Value->Prop}{n:Nat}(h:∀(a:Value) (r:List Value),r.length=n->P (a::r)):∀us:List Value,us.length=n+1->P us
 | a::r,e=>h a r (Nat.succ.inj e)
theorem uF{P:List Value->Prop}(h:∀a b:Value,P [a,b]):∀us:List Value,us.length=2->P us:=FY λa=>oB λb=>h a b
theorem Fd{P:List Value->Prop}(h:∀a b c:Value,P [a,b,c]):∀us:List Value,us.length=3->P us:=FY λa=>uF λb c=>h a b c
end L2
namespace Rm
def dl(b:Bool):Int:=if b then 1 else -1
def D(bs:List Bool)(i:Nat):Int:=((bs.take i).map dl).sum
theorem zb(bs:List Bool):D bs 0=0:=by simp[D]
theorem jZ{bs:List Bool}{i:Nat}{b:Bool}(h:bs[i]? = some b):D bs (i+1)=D bs i+dl b:=by
 obtain⟨hi,e⟩:=aE.mp h;unfold D;rw[bZ,h];simp
theorem uA{xs ys:List Bool}{i:Nat}(h:i<=xs.length):D (xs++ys) i=D xs i:=by
 unfold D;rw[List.take_append_of_le_length h]
theorem zc(xs:List Bool)(b:Bool):D (xs++[b]) (xs.length+1)=D xs xs.length+dl b:=by
 rw[jZ (b:=b) (by simp),uA (aH _)]
structure kd (bs:List Bool):Prop where
 nn:∀ i,i<=bs.length->0<=D bs i
 z:D bs bs.length=0
structure kE (bs:List Bool) (deep:Int) (room:Int):Prop where
 nn:∀ i,i<=bs.length->0<=D bs i
 d:D bs bs.length=deep
 le:deep<=room
 ev:(room - deep) % 2=0
theorem kE.start(n:Int)(h:0<=n):kE [] 0 (2*n):=⟨λi hi=>by simp[D],by simp[D],by lia,by lia⟩
theorem kE.snoc{bs:List Bool}{deep room:Int}(g:kE bs deep room)(b:Bool)(h0:0<=deep+dl b)(h1:deep+dl b<=room - 1):kE (bs++[b]) (deep+dl b) (room - 1):=by
 refine⟨λi hi=>?_,?_,h1,?_⟩
 ·rw[ao,bi] at hi;by_cases e:i<=bs.length
  ·rw[uA e];exact g.nn i e
  ·have:i=bs.length+1:=by lia
   subst this;rw[zc,g.d];exact h0
 ·rw[ao,bi,zc,g.d]
 ·have:=g.ev;cases b<;>simp only[dl,MS,MT,bP]<;>lia
theorem kE.deep0{bs:List Bool}{deep room:Int}(g:kE bs deep room):0<=deep:=by
 have:=g.nn bs.length (aH _);rw[g.d] at this;exact this
theorem kE.opens{bs:List Bool}{deep room:Int}(g:kE bs deep room)(hr:0<room)(h:deep=0\/deep<room):kE (bs++[true]) (deep+1) (room - 1):=by
 have h0:=g.deep0;have h1:=g.ev;have h2:=g.le;exact g.snoc true (by simp only[dl,MS];lia) (by simp only[dl,MS];lia)
theorem kE.closes{bs:List Bool}{deep room:Int}(g:kE bs deep room)(h:deep≠0):kE (bs++[false]) (deep - 1) (room - 1):=by
 have h0:=g.deep0;have h2:=g.le;have:=g.snoc false (by simp only[dl,bP,MT];lia) (by simp only[dl,bP,MT];lia);simpa only [dl,bP,MT,<-Int.sub_eq_add_neg] using this
theorem kE.bal{bs:List Bool}{deep room:Int}(g:kE bs deep room)(h:room=0):kd bs:=
 ⟨g.nn,by have:=g.deep0;have:=g.le;rw[g.d];lia⟩
structure iq (bs:List Bool) (k m:Nat):Prop where
 lt:k<m
 ml:m<bs.length
 op:bs[k]? = some true
 cl:bs[m]? = some false
 eq:D bs (m+1)=D bs k
 gt:∀ i,k<i->i<=m->D bs k<D bs i
theorem iq.uniq{bs:List Bool}{k m m':Nat}(a:iq bs k m)(b:iq bs k m'):m=m':=by
 have h1:¬m<m':=λh=>by have:=b.gt (m+1) (by have:=a.lt;lia) h;rw[a.eq] at this;lia
 have h2:¬m'<m:=λh=>by have:=a.gt (m'+1) (by have:=b.lt;lia) h;rw[b.eq] at this;lia
 lia
theorem iq.uniqL{bs:List Bool}{k k' m:Nat}(a:iq bs k m)(b:iq bs k' m):k=k':=by
 have h1:¬k<k':=λh=>by
  have:=a.gt k' h (by have:=b.lt;lia);have e:=a.eq;have e':=b.eq;rw[e] at e';lia
 have h2:¬k'<k:=λh=>by
  have:=b.gt k h (by have:=a.lt;lia);have e:=a.eq;have e':=b.eq;rw[e] at e';lia
 lia
structure Walk (bs:List Bool) (k j:Nat) (deep:Int):Prop where
 op:bs[k]? = some true
 kj:k<=j
 jl:j<=bs.length
 d:deep=D bs j - D bs k
 gt:∀ i,k<i->i<j->D bs k<D bs i
theorem Walk.start{bs:List Bool}{k:Nat}(h:bs[k]? = some true):Walk bs k k 0:=
 ⟨h,aH _,by have:=(aE.mp h).1;lia,by lia,λi h1 h2=>by lia⟩
theorem Walk.inside{bs:List Bool}{k j:Nat}{deep:Int}(b:kd bs)(w:Walk bs k j deep)(h:0<deep\/j=k):j<bs.length:=by
 have hk:=(aE.mp w.op).1;rcases h with h | h
 ·have e:=w.d;have h0:=b.nn k (by lia);have hj:=w.jl;by_cases q:j<bs.length
  ·exact q
  ·have:j=bs.length:=by lia
   rw[this,b.z] at e;lia
 ·lia
theorem Walk.step{bs:List Bool}{k j:Nat}{deep:Int}{c:Bool}(w:Walk bs k j deep)(h:0<deep\/j=k)(hc:bs[j]? = some c):Walk bs k (j+1) (deep+dl c):=by
 have hj:=(aE.mp hc).1;refine⟨w.op,by have:=w.kj;lia,hj,?_,λi h1 h2=>?_⟩
 ·rw[jZ hc,w.d];lia
 ·by_cases e:i<j
  ·exact w.gt i h1 e
  ·have:i=j:=by lia
   subst this;rcases h with h | h
   ·have:=w.d;lia
   ·lia
theorem Walk.mate{bs:List Bool}{k j:Nat}{deep:Int}(w:Walk bs k j deep)(h:¬(0<deep\/j=k)):∃m,j=m+1/\iq bs k m:=by
 have hk:=(aE.mp w.op).1;have h1:=w.kj;have hne:j≠k:=λe=>h (.inr e);obtain⟨m,rfl⟩:∃m,j=m+1:=⟨j - 1,by lia⟩
 have hjl:=w.jl;have hm:m<bs.length:=by lia
 have hd:deep<=0:=by
  by_cases q:0<deep
  ·exact absurd (.inl q) h
  ·lia
 have e:=w.d;have hkm:k<m:=by
  rcases gN k m with q | q
  ·exact q
  ·have:k=m:=by lia
   subst this;rw[jZ w.op] at e;simp only[dl,MS] at e;lia
 have hg:=w.gt m hkm (by lia);obtain⟨c,hc⟩:∃c,bs[m]? = some c:=⟨bs[m],aL hm⟩
 have hs:=jZ hc;cases c with
 | true=>simp only[dl,MS] at hs;lia
 | false=>
  simp only[dl,bP,MT] at hs;refine⟨m,rfl,hkm,hm,w.op,hc,by lia,λi a b=>?_⟩;by_cases q:i=m
  ·subst q;exact hg
  ·exact w.gt i a (by lia)
structure hU (bs:List Bool) (k:Nat) (ms:List (Nat×Nat)):Prop where
 mate:∀ p∈ms,iq bs p.1 p.2/\p.1<k
 all:∀ i,i<k->bs[i]? = some true->∃ m,(i,m)∈ms
 inc:ms.Pairwise (fun p q=>p.1<q.1)
 len:ms.length<=k
theorem hU.nil(bs:List Bool):hU bs 0 []:=⟨(λ_ h=>nomatch h),λi h=>by lia,.nil,aH _⟩
theorem hU.skip{bs:List Bool}{k:Nat}{ms:List (Nat×Nat)}(a:hU bs k ms)(h:bs[k]?≠some true):hU bs (k+1) ms:=
 ⟨λp hp=>⟨(a.mate p hp).1,by have:=(a.mate p hp).2;lia⟩,λi hi ho=>by
  by_cases e:i=k
  ·subst e;exact absurd ho h
  ·exact a.all i (by lia) ho,a.inc,Nat.le_succ_of_le a.len⟩
theorem hU.snoc{bs:List Bool}{k m:Nat}{ms:List (Nat×Nat)}(a:hU bs k ms)(h:iq bs k m):hU bs (k+1) (ms++[(k,m)]):=by
 refine⟨λp hp=>?_,λi hi ho=>?_,?_,by rw[ao];exact Nat.succ_le_succ a.len⟩
 ·rcases aT.mp hp with hp | hp
  ·exact⟨(a.mate p hp).1,by have:=(a.mate p hp).2;lia⟩
  ·have:p=(k,m):=by simpa using hp
   subst this;exact⟨h,dt k⟩
 ·by_cases e:i=k
  ·subst e;exact⟨m,by simp⟩
  ·obtain⟨m',hm⟩:=a.all i (by lia) ho;exact⟨m',ax _ hm⟩
 ·refine hV.mpr ⟨a.inc,by simp,λp hp q hq=>?_⟩;have:q=(k,m):=by simpa using hq
  subst this;exact(a.mate p hp).2
end Rm
namespace L2
open PySem PySem.Spec PyProof.Rows
theorem rT.okS{P:Program}{w:World}{K:MU}{mg:Str->Option Value}{base:Heap}{x qual:Str}{st:Stmt}{f:Addr}{fd:FuncData}{N ps:List Str}{k:Nat}{sp:Sp}(F:rT K x qual st f fd)(S:bJ N ps (ae st))(len:∀vs H Q E,sp vs H Q E->vs.length=ps.length)
  (hbody:∀(cdv:Value) (A:Around) (outer:List Env) (s:Shared) (H:Hp) (vs:List V) (Q:VK) (E:XK),gS k (A.deeper (envOfC qual (ae st) s.heap.objs.size f cdv))->sp vs H Q E →
   ∃(σ:St) (t:TS),start N vs=σ/\zh (ij xQ P w K mg base N qual (ae st) f cdv A outer s H E).nox (f6 st) t/\t { nx:=λ_ H'=>Q .non H',rt:=Q } σ H):me P w K mg base xQ (k+1) f fd ps sp:=
 F.ok S len λcdv A outer s H vs Q E hr h=>by
  obtain⟨σ,t,e,h1,h2⟩:=hbody cdv A outer s H vs Q E hr h;exact⟨t,h1,by rw[e];exact h2⟩
theorem kK{A:Around}{k:Nat}(hr:gS k A):A.units+64<cLine:=hr.units
end L2
namespace Rm
open PySem L2
def pX(b:Bool):Nat:=if b then 40 else 41
def wd(bs:List Bool):Str:=⟨(bs.map pX).toArray⟩
theorem bK(bs:List Bool):(wd bs).length=bs.length:=by simp[wd,Str.length]
theorem ke:(Str.ofString "(")=⟨#[40]⟩:=by decide +kernel
theorem lG:(Str.ofString ")")=⟨#[41]⟩:=by decide +kernel
theorem oC:(Str.ofString "")=⟨#[]⟩:=by decide +kernel
theorem tF:(Str.ofString "(").length=1:=by rw[ke];rfl
theorem qO:(Str.ofString ")").length=1:=by rw[lG];rfl
theorem Be:wd []=Str.ofString "":=by rw[oC];rfl
theorem vA (bs:List Bool):wd bs++Str.ofString "("=wd (bs++[true]):=by
 rw[ke];show Str.mk _=Str.mk _;simp[wd,pX]
theorem rW (bs:List Bool):wd bs++Str.ofString ")"=wd (bs++[false]):=by
 rw[lG];show Str.mk _=Str.mk _;simp[wd,pX]
theorem DX{bs:List Bool}{i:Nat}{b:Bool}(h:bs[i]? = some b):(wd bs).cps.toList[i]? = some (pX b):=by
 simp[wd,h]
theorem qE (b:Bool):((⟨#[pX b]⟩:Str)=Str.ofString "(")=(b=true):=by
 rw[ke];cases b<;>simp[pX]
def scan:List Nat->Int->Bool
 | [],w=>decide (w=0)
 | c::r,w=>if c=40 then scan r (w+1) else if c=41 then (if w - 1<0 then false else scan r (w - 1)) else false
def B1(z:Str):Bool:=decide (z.length<=40)&&scan z.cps.toList 0
theorem sJ:∀(bs pre:List Bool) (w:Int),w=D (pre++bs) pre.length->kd (pre++bs)->scan (bs.map pX) w=true
 | [],pre,w,hw,b=>by
  have:=b.z;rw[eM] at this hw;show decide (w=0)=true;exact decide_eq_true (by rw[hw,this])
 | x::bs,pre,w,hw,b=>by
  have hs:D (pre++x::bs) (pre.length+1)=D (pre++x::bs) pre.length+dl x:=jZ (by simp);have hn:=b.nn (pre.length+1) (by simp);have ih:=λw' (h:w'=w+dl x)=>sJ bs (pre++[x]) w' (by rw[h,hw];simpa using hs.symm) (by simpa using b);cases x with
  | true=>
   show (if (40:Nat)=40 then scan (bs.map pX) (w+1) else _)=true;rw[MO rfl];exact ih _ (by simp[dl])
  | false=>
   show (if (41:Nat)=40 then _ else if (41:Nat)=41 then (if w - 1<0 then false else scan (bs.map pX) (w - 1)) else false)=true;rw[MN (by decide),MO rfl,MN (by simp only[dl,bP,MT] at hs;lia)];exact ih _ (by simp[dl];lia)
theorem oS(bs:List Bool):(wd bs).cps.toList=bs.map pX:=by simp[wd]
theorem i5(bs:List Bool):(wd bs).cps.all (·<128)=true:=by
 rw[<-Array.all_toList,oS,dF];intro c hc;obtain⟨b,_,rfl⟩:=af.mp hc;cases b<;>decide
theorem uz(bs:List Bool):(wd bs).cps.size=bs.length:=by simp[wd]
theorem zH{bs:List Bool}(b:kd bs)(h:bs.length<=40):B1 (wd bs)=true:=by
 unfold B1;rw[bK,decide_eq_true h,oS,sJ bs [] 0 (by simp[D]) b];rfl
theorem Bf{bs:List Bool}{i c:Nat}(h:(wd bs).cps[i]? = some c):∃b,bs[i]? = some b/\c=pX b:=by
 have h1:(wd bs).cps.toList[i]? = some c:=by simpa using h
 rw[oS,bD] at h1;cases e:bs[i]? with
 | none=>rw[e] at h1;cases h1
 | some b=>rw[e] at h1;exact⟨b,rfl,(aq h1).symm⟩
theorem xG (c:Nat):((⟨#[c]⟩:Str)=Str.ofString "(")=(c=40):=by rw[ke];simp
theorem ut (c:Nat):((⟨#[c]⟩:Str)=Str.ofString ")")=(c=41):=by rw[lG];simp
abbrev Bw:=Int×Int
def d6(H:Hp)(a:Addr)(p:Bw):Prop:=H a=some (.tup [.int p.1,.int p.2])
def cK(H:Hp)(l:Addr)(ps:List Bw):Prop:=∃as:List Addr,H l=some (.lst (as.map V.ref))/\Paired (d6 H) as ps
theorem d6.same{H H':Hp}(s:aX H H'){a:Addr}{p:Bw}(h:d6 H a p):d6 H' a p:=s _ _ h
theorem cK.same{H H':Hp}(s:aX H H'){l:Addr}{ps:List Bw}(h:cK H l ps):cK H' l ps:=
 let ⟨as,h1,h2⟩:=h
 ⟨as,s _ _ h1,di h2 λ_ _ z=>z.same s⟩
theorem xL{H:Hp}{l t:Addr}{as:List Addr}{ps:List Bw}{x y:Int}(h1:H l=some (.lst (as.map V.ref)))(h2:Paired (d6 H) as ps)(ht:H t=none):
  cK (bU (bU H t (.tup [.int x,.int y])) l (.lst (as.map V.ref++[V.ref t]))) l (ps++[(x,y)]):=by
 have ntl:t≠l:=λe=>by subst e;rw[h1] at ht;cases ht
 refine⟨as++[t],by rw[aC,cG];rfl,fD (di h2 λa p z=>?_) ?_⟩
 ·have z':H a=some (.tup [.int p.1,.int p.2]):=z;have n1:a≠l:=vm z' h1 (by intro q;cases q);have n2:a≠t:=av z' ht;show bU _ _ _ a=_;rw[aK n1,aK n2];exact z'
 ·show bU _ _ _ t=_;rw[aK ntl,aC]
theorem ky{H:Hp}{l f:Addr}{ps:List Bw}{xs ys:List V}(h:cK H f ps)(hl:H l=some (.lst xs))(ne:f≠l):cK (bU H l (.lst ys)) f ps:=by
 obtain⟨as,h1,h2⟩:=h;refine⟨as,by rw[aK ne];exact h1,di h2 λa p z=>?_⟩;have z':H a=some (.tup [.int p.1,.int p.2]):=z;show bU _ _ _ a=_;rw[aK (vm z' hl (by intro q;cases q))];exact z'
theorem nM{H:Hp}{l hd:Addr}{as:List Addr}{ps:List Bw}(h2:Paired (d6 H) as ps)(hn:H hd=none):cK (bU H hd (.lst (as.map V.ref))) hd ps:=
 ⟨as,aC,di h2 λa p z=>by
  have z':H a=some (.tup [.int p.1,.int p.2]):=z;show bU _ _ _ a=_;rw[aK (av z' hn)];exact z'⟩
theorem cK.get{H:Hp}{l:Addr}{ps:List Bw}(h:cK H l ps):∃as:List Addr,H l=some (.lst (as.map V.ref))/\as.length=ps.length/\∀(i:Nat) x,(as.map V.ref)[i]? = some x->∃a p,x=.ref a/\ps[i]? = some p/\d6 H a p:=by
 obtain⟨as,h1,h2⟩:=h;refine⟨as,h1,cN h2,λi x hx=>?_⟩;rw[bD] at hx;cases e:as[i]? with
 | none=>rw[e] at hx;cases hx
 | some a=>
  rw[e] at hx;obtain⟨p,hp,ht⟩:=fe h2 e;exact⟨a,p,(aq hx).symm,hp,ht⟩
def tm(p:Bw):PyData:=.tuple [.int p.1,.int p.2]
def wF(ps:List Bw):PyData:=.list (ps.map tm)
def bX(p q:Bw):Bool:=decide (p.1<q.1)&&(decide (q.1<p.2)&&decide (p.2<q.2))
def iB(ws:List Nat):List V:=ws.map λ(n:Nat)=>V.int (n:Int)
theorem yy(ws:List Nat):(iB ws).length=ws.length:=by simp[iB]
theorem nE(ws:List Nat)(k:Nat):iB (ws++[k])=iB ws++[.int k]:=by simp[iB]
theorem wn(ws:List Nat)(k:Nat):(iB (ws++[k])).dropLast=iB ws:=by rw[nE];simp
theorem wm(ws:List Nat)(k:Nat):(iB (ws++[k]))[(iB (ws++[k])).length - 1]? = some (.int k):=by rw[nE];simp
def sq(ms:List (Nat×Nat)):List Bw:=ms.map λp=>((p.1:Int),(p.2:Int))
def ll:Sp:=λvs H Q _=>∃l ps,vs=[.ref l]/\cK H l ps/\((∀p∈ps,∀q∈ps,bX p q=false)->Q .non H) ∧
 ∀p∈ps,∀q∈ps,bX p q=true->∀t a b H',H t=none->aX H H'->H' t=some (.tup [.ref a,.ref b])->d6 H' a p->d6 H' b q->Q (.ref t) H'
def mH (K:MU):Sp:=λvs H Q _=>∃x:V,vs=[x]/\((∃z:Str,x=.str z/\z.cps.all (·<128)=true/\z.length<=1000/\Q (.bl (B1 z)) H)\/(∃t:Value,lU K H x t/\PySem.W.kitOne K t (.type "str")=some false/\Q (.bl false) H))
def oE (K:MU):Sp:=λvs H Q _=>∃(x:V) (t:Value) (b c:Bool),vs=[x]/\lU K H x t/\PySem.W.kitOne K t (.type "int")=some b/\PySem.W.kitOne K t (.type "bool")=some c/\Q (.bl (b&&!c)) H
def sE(K:MU):Sp:=λvs H Q _=>∃(a:Addr) (ns:List Int),vs=[.ref a]/\bp K H a (ns.map V.int)/\ns.length<=63/\∀H',Q (.bl true) H'
end Rm
namespace L2
open PySem PySem.Spec PyProof.Rows
theorem mY:∀{ns:List Int} {us:List Value},bb (ns.map V.int) us->IntsAre us ns
 | [],_,.nil=>.nil
 | n::ns,_,.cons ⟨t,e⟩ r=>by subst e;exact .cons n t (mY r)
theorem oU:∀{bs:List Bool} {us:List Value},bb (bs.map V.bl) us->LSm.BoolsAre us bs
 | [],_,.nil=>.nil
 | b::bs,_,.cons r t=>by
  have e:_=Value.bool b:=r;subst e;exact .cons b (oU t)
theorem pq:∀{ts:List Str} {us:List Value},bb (ts.map V.str) us->∃l:List (Str×Tok),us=strValues l/\l.map (·.1)=ts
 | [],_,.nil=>⟨[],rfl,rfl⟩
 | t::ts,_,.cons ⟨k,e⟩ r=>by
  subst e;obtain⟨l,e1,e2⟩:=pq r;exact⟨(t,k)::l,by rw[e1];rfl,by rw[bR,e2]⟩
section
variable {X:Cx}
def CW(K:MU):List V->Hp->VK->Prop:=λxs H Q=>∃(p:Addr) (ns:List Int),xs=[.ref p]/\bp K H p (ns.map V.int)/\ns.length<64 ∧
 ∀(l:Addr) (ms:List Int),H l=none->ms.Perm ns->ms.Pairwise (·<=·)->Q (.ref l) (bU H l (.lst (ms.map V.int)))
theorem jd:fX X (.builtin "sorted") (CW X.K):=by
 intro pins s σ H xs us Q I r h;obtain⟨p,ns,rfl,hq,hl,q⟩:=h;obtain⟨u,rfl,rx⟩:=Ls r;cases rx;obtain⟨its,rv,pl,hz⟩:=I.list hq;have hi:=mY rv;have hlen:its.length=ns.length:=by have:=rv.length;simpa using this.symm
 refine sorted_ints pl.isList hi (by lia) λout ms hm hp hs=>?_;obtain⟨c,hc⟩:=sortedAll_at s.heap its out;have hml:ms.length=ns.length:=hp.length_eq;exact⟨.ref (s.heap.objs.size+1),bU H (s.heap.objs.size+1) (.lst (ms.map V.int)),I.laid (t':=s.toks) (λb o e=>sortedAll_old e) (df _)
  (show cL X.prog X.w _ _ _ (.lst _) from ⟨by rw[aF,hml];exact aS (ai (by lia)),out.toList,c,lF hm,by simpa using hc⟩),rfl,q _ ms (I.hok.fresh (df _)) hp hs⟩
def FA(K:MU)(f:List Bool->Bool):List V->Hp->VK->Prop:=λxs H Q=>∃(p:Addr) (bs:List Bool),xs=[.ref p]/\bp K H p (bs.map V.bl)/\Q (.bl (f bs)) H
theorem ug{s:Shared}{h':Heap}{o:Obj}(hk:∀b x,b∉[s.heap.objs.size]->(s.heap.push o).get? b=some x->h'.get? b=some x):∀b x,s.heap.get? b=some x->h'.get? b=some x:=
 λb x e=>hk b x (λhm=>by rw[ar.mp hm] at e;exact c6 _ (aM e)) (aD _ e)
theorem nh (hc:X.calm=true):fX X (.builtin "all") (FA X.K λbs=>bs.all id):=by
 intro pins s σ H xs us Q I r h;obtain⟨p,bs,rfl,hq,q⟩:=h;obtain⟨u,rfl,rx⟩:=Ls r;cases rx;obtain⟨its,rv,pl,hz⟩:=I.list hq;have hb:=oU rv;have hl:=pl.isList;have hlt:p<s.heap.objs.size:=by obtain⟨_,e,_⟩:=hl;exact aM e
 refine call_all_walk (wpAny_pyIter_list hl ?_);refine⟨s.heap.objs.size,[s.heap.objs.size,p],[s.heap.objs.size],its.toArray.size,_,_,λi=>(bs[i]?).getD true,rfl,Walks.list (A:=X.A.in1) (I.ok.hd hc) _ p (ac hlt) its.toArray,
  ⟨⟨_,aP _ rfl,rfl,rfl⟩,hl.push _⟩,λi v s' Q' E' hP hQ=>?_,λh' tk hk=>?_⟩
 ·obtain⟨b,e,rfl⟩:=hb.get i v (by simpa using hP);simp only[e,je] at hQ;exact Lp hQ
 ·have e1:its.toArray.size=bs.length:=by have:=rv.length;simp at this;simp[this]
  rw[e1,LSm.range_all];exact⟨.bl _,H,I.kept (ug hk),rfl,q⟩
def rJoin(K:MU):V->List V->Hp->VK->Prop:=λx vs H Q=>∃(z:Str) (p:Addr) (ts:List Str),x=.str z/\vs=[.ref p]/\bp K H p (ts.map V.str)/\JoinOk z ts=true/\Q (.str (Txt.join z ts)) H
theorem vn:FP X "str.join" (rJoin X.K):=by
 intro pins s σ H x xs v us Q I r rv h;obtain⟨z,p,ts,rfl,rfl,hq,ok,q⟩:=h;obtain⟨t,rfl⟩:=r;obtain⟨u,rfl,rx⟩:=Ls rv;cases rx;obtain⟨its,rv',pl,hz⟩:=I.list hq;obtain⟨l,rfl,e⟩:=pq rv';exact SC.join pl.isList e ok λt' k=>⟨.str _,H,I.tok k,⟨t',rfl⟩,q⟩
end
mutual
inductive Dat (H:Hp):V->PyData->Prop
 | non:Dat H .non .none
 | bl (b:Bool):Dat H (.bl b) (.bool b)
 | int (i:Int):Dat H (.int i) (.int i)
 | str (x:Str):Dat H (.str x) (.str x)
 | tup {a:Addr} {xs:List V} {ds:List PyData}:H a=some (.tup xs)->fh H xs ds->Dat H (.ref a) (.tuple ds)
 | lst {a:Addr} {xs:List V} {ds:List PyData}:H a=some (.lst xs)->fh H xs ds->Dat H (.ref a) (.list ds)
inductive fh (H:Hp):List V->List PyData->Prop
 | nil:fh H [] []
 | cons {x:V} {xs:List V} {d:PyData} {ds:List PyData}:Dat H x d->fh H xs ds->fh H (x::xs) (d::ds)
end
mutual
theorem Dat.rep{K:MU}{H:Hp}:∀{x:V} {d:PyData},Dat H x d->Rep K H x d
 | _,_,.non=>.non
 | _,_,.bl b=>.bl b
 | _,_,.int i=>.int i
 | _,_,.str x=>.str x
 | _,_,.tup h r=>.tup (cg.of h) (fh.rep r)
 | _,_,.lst h r=>.lst (bp.of h) (fh.rep r)
theorem fh.rep{K:MU}{H:Hp}:∀{xs:List V} {ds:List PyData},fh H xs ds->m6 K H xs ds
 | _,_,.nil=>.nil
 | _,_,.cons h r=>.cons (Dat.rep h) (fh.rep r)
end
mutual
theorem Dat.same{H H':Hp}(s:aX H H'):∀{x:V} {d:PyData},Dat H x d->Dat H' x d
 | _,_,.non=>.non
 | _,_,.bl b=>.bl b
 | _,_,.int i=>.int i
 | _,_,.str x=>.str x
 | _,_,.tup h r=>.tup (s _ _ h) (fh.same s r)
 | _,_,.lst h r=>.lst (s _ _ h) (fh.same s r)
theorem fh.same{H H':Hp}(s:aX H H'):∀{xs:List V} {ds:List PyData},fh H xs ds->fh H' xs ds
 | _,_,.nil=>.nil
 | _,_,.cons h r=>.cons (Dat.same s h) (fh.same s r)
end
theorem fh.len{H:Hp}:∀{xs:List V} {ds:List PyData},fh H xs ds->xs.length=ds.length
 | _,_,.nil=>rfl
 | _,_,.cons _ r=>by simp[fh.len r]
theorem fh.get{H:Hp}:∀{xs:List V} {ds:List PyData} {i:Nat} {x:V},fh H xs ds->xs[i]? = some x->∃d,ds[i]? = some d/\Dat H x d
 | _,_,_,_,.nil,e=>by simp at e
 | _,_,0,_,.cons h _,e=>by simp at e;subst e;exact⟨_,rfl,h⟩
 | _,_,i+1,x,.cons _ r,e=>by
  obtain⟨d,h1,h2⟩:=fh.get (i:=i) (x:=x) r (by simpa using e);exact⟨d,by simpa using h1,h2⟩
def Fe:PyData->Value
 | .none=>.type "NoneType"
 | .bool _=>.type "bool"
 | .int _=>.type "int"
 | .str _=>.type "str"
 | .list _=>.type "list"
 | .tuple _=>.type "tuple"
 | .dict _=>.type "dict"
theorem Dat.ty{K:MU}{H:Hp}{x:V}{d:PyData}(h:Dat H x d):lU K H x (Fe d):=by
 cases h with
 | non=>exact .non
 | bl b=>exact .bl b
 | int i=>exact .int i
 | str x=>exact .str x
 | tup h _=>exact .tup h
 | lst h _=>exact .lst h
def isI:PyData->Bool | .int _=>true | .bool _=>true | _=>false
def F3:PyData->Bool | .bool _=>true | _=>false
def Cr:PyData->Bool | .tuple _=>true | _=>false
def isL:PyData->Bool | .list _=>true | _=>false
section
variable {K:MU} {H:Hp} {x:V} {d:PyData} {Q:VK}
theorem ft (h:Dat H x d) (q:Q (.bl (Cr d)) H):C0 K [x,.ty "tuple"] H Q:=⟨x,"tuple",_,Cr d,rfl,h.ty,by cases h<;>rfl,q⟩
theorem tL (h:Dat H x d) (q:Q (.bl (isL d)) H):C0 K [x,.ty "list"] H Q:=⟨x,"list",_,isL d,rfl,h.ty,by cases h<;>rfl,q⟩
end
theorem ints_rep{K:MU}{H:Hp}:∀(ns:List Int),m6 K H (ns.map V.int) (ns.map PyData.int)
 | []=>.nil
 | n::ns=>.cons (.int n) (ints_rep ns)
theorem tN:∀ms ns:List Int,PyData.eqvAll (ms.map PyData.int) (ns.map PyData.int)=decide (ms=ns)
 | [],[]=>rfl
 | [],_::_=>by simp[PyData.eqvAll]
 | _::_,[]=>by simp[PyData.eqvAll]
 | p::ps,q::qs=>by
  show (PyData.eqv (.int p) (.int q)&&PyData.eqvAll (ps.map PyData.int) (qs.map PyData.int))=_;rw[tN ps qs];by_cases h1:p=q<;>by_cases h2:ps=qs<;>simp[PyData.eqv,h1,h2]
theorem fF:∀ns:List Int,PyData.canLayAll0 (ns.map PyData.int)=true
 | []=>rfl
 | n::ns=>by
  show (PyData.canLay0 (.int n)&&PyData.canLayAll0 (ns.map PyData.int))=true;rw[fF ns];rfl
theorem jv:∀ns:List Int,PyData.depthAll (ns.map PyData.int)=0
 | []=>rfl
 | n::ns=>by
  show max (PyData.depth (.int n)) (PyData.depthAll (ns.map PyData.int))=0;rw[jv ns];rfl
theorem tR{K:MU}{H:Hp}{a b:Addr}{ms ns:List Int}{Q:VK}(ha:bp K H a (ms.map V.int))(hb:bp K H b (ns.map V.int))(q:Q (.bl (decide (ms=ns))) H):uU K false (.ref a) (.ref b) H Q:=by
 refine⟨.list (ms.map PyData.int),.list (ns.map PyData.int),.lst ha (ints_rep ms),.lst hb (ints_rep ns),fF ms,fF ns,?_,?_⟩
 ·refine bd (Nat.min_le_left _ _) ?_;show PyData.depthAll (ms.map PyData.int)+1<=60;rw[jv];decide
 ·show Q (.bl (PyData.eqvAll (ms.map PyData.int) (ns.map PyData.int))) H;rw[tN];exact q
theorem zI(n:Int)(ns:List Int):((ns.map PyData.int).any λe=>PyData.eqv e (.int n))=decide (n∈ns):=by
 induction ns with
 | nil=>simp
 | cons m ns ih=>
  rw[bR,eV,ih];by_cases h1:n=m
  ·subst h1;simp[PyData.eqv]
  ·have h2:¬m=n:=λe=>h1 e.symm;by_cases h3:n∈ns<;>simp[PyData.eqv,h1,h2,h3]
theorem A6{K:MU}{H:Hp}{b:Addr}{n:Int}{ns:List Int}{neg:Bool}{Q:VK}(hb:bp K H b (ns.map V.int)\/cg K H b (ns.map V.int))(q:Q (.bl (if neg then !decide (n∈ns) else decide (n∈ns))) H):C1 K neg (.int n) (.ref b) H Q:=by
 refine⟨.int n,ns.map PyData.int,b,_,.int n,rfl,hb,ints_rep ns,rfl,fF ns,bH _,?_⟩;rw[zI];exact q
def jA(env:Env):List (Str×NameKind)->List (Str×Addr)->List (Str×Addr)
 | [],acc=>acc
 | (n,k)::r,acc=>jA env r (if (k==NameKind.free)=true then (n,(env.cells.lookup n).getD 0)::acc else acc)
theorem pf{scope:Scope}{env:Env}(h:∀x∈scope.names,x.2=.free->∃c,env.cells.lookup x.1=some c):closureFor scope env=pure (jA env scope.names []):=by
 simp only[closureFor];generalize ([]:List (Str×Addr))=acc
 revert h
 generalize scope.names=l;intro h
 induction l generalizing acc with
 | nil=>rfl
 | cons x l ih=>
  obtain⟨n,k⟩:=x;have ih':=λacc=>ih acc λy hy=>h y (ak _ hy);rw[iG];cases hk:(k==NameKind.free) with
  | false=>
   simp only[bP,MT,pure_bind];rw[show jA env ((n,k)::l) acc=jA env l acc by simp[jA,hk]];exact ih' acc
  | true=>
   obtain⟨c,hc⟩:=h (n,k) aw (by simpa using hk);have e:cellOf env n=pure c:=by unfold cellOf;rw[hc]
   simp only[MS,e,pure_bind];rw[show jA env ((n,k)::l) acc=jA env l ((n,c)::acc) by simp[jA,hk,hc]];exact ih' ((n,c)::acc)
theorem jM{env:Env}{x:Str}{c:Addr}:∀{l:List (Str×NameKind)} {acc:List (Str×Addr)},(∀y∈l,y.2=.free->∃c,env.cells.lookup y.1=some c)->(jA env l acc).lookup x=some c->acc.lookup x=some c\/env.cells.lookup x=some c
 | [],acc,_,h=>.inl h
 | (n,k)::l,acc,hf,h=>by
  have ih:=jM (l:=l) (acc:=if (k==NameKind.free)=true then (n,(env.cells.lookup n).getD 0)::acc else acc) (λy hy=>hf y (ak _ hy)) h;rcases ih with e | e
  ·cases hk:(k==NameKind.free) with
   | false=>rw[hk] at e;exact .inl (by simpa using e)
   | true=>
    rw[hk] at e;simp only[MS,gf] at e;cases hx:x==n with
    | false=>rw[hx] at e;exact .inl e
    | true=>
     rw[hx] at e;obtain⟨c',hc⟩:=hf (n,k) aw (by simpa using hk);have hxn:x=n:=by simpa using hx
     subst hxn;rw[hc] at e;simp only[je] at e;exact .inr (hc.trans e)
  ·exact .inr e
theorem qX{env:Env}{x:Str}:∀{l:List (Str×NameKind)} {acc:List (Str×Addr)},(∃c,acc.lookup x=some c)->∃c,(jA env l acc).lookup x=some c
 | [],acc,h=>h
 | (n,k)::l,acc,h=>by
  refine qX (l:=l) ?_;cases hk:(k==NameKind.free) with
  | false=>simpa using h
  | true=>
   simp only[MS,gf];cases hx:x==n with
   | false=>exact h
   | true=>exact⟨_,rfl⟩
theorem pP{env:Env}{x:Str}:∀{l:List (Str×NameKind)} {acc:List (Str×Addr)},(x,NameKind.free)∈l->∃c,(jA env l acc).lookup x=some c
 | [],_,h=>nomatch h
 | (n,k)::l,acc,h=>by
  rcases aZ.mp h with e | e
  ·cases e;refine qX (l:=l) ?_;simp
  ·exact pP (l:=l) e
def xR(env:Env)(p:Str×NameKind):Str×NameKind:=if (p.2==NameKind.free&&env.scope.kind==.function&&env.kindOf p.1==some .cell) then (p.1,NameKind.cell) else p
theorem lW(scope:Scope)(env:Env):(relabel scope env).names=scope.names.map (xR env):=by
 show scope.names.map _=_;congr 1
theorem AC(env:Env)(p:Str×NameKind):(xR env p).1=p.1:=by unfold xR;split<;>rfl
theorem lx{env:Env}{x:Str}:∀{names:List (Str×NameKind)},(names.map (xR env)).lookup x=(names.lookup x).map λk=>(xR env (x,k)).2
 | []=>rfl
 | (n,q)::r=>by
  rw[bR];have e:xR env (n,q)=(n,(xR env (n,q)).2):=lA (AC env _) rfl;rw[e,gf,gf];cases hx:x==n with
  | true=>
   have hxn:x=n:=by simpa using hx
   subst hxn;rfl
  | false=>exact lx (names:=r)
theorem mP{scope:Scope}{env:Env}{x:Str}{k:NameKind}(h:(relabel scope env).names.lookup x=some k):scope.names.lookup x=some k\/(k=.cell/\scope.names.lookup x=some .free):=by
 rw[lW,lx] at h;cases e:scope.names.lookup x with
 | none=>rw[e] at h;cases h
 | some q=>
  rw[e] at h;have h':(xR env (x,q)).2=k:=aq h;unfold xR at h'
  split at h'
  ·rename_i hc;have hq:q=.free:=by
    have:=(bL _ _).mp ((bL _ _).mp hc).1;simpa using this.1
   exact .inr ⟨h'.symm,by rw[hq]⟩
  ·exact .inl (by rw[<-h'])
theorem qq{scope:Scope}{env:Env}{x:Str}(h:scope.names.lookup x=some .free):(relabel scope env).names.lookup x=some .cell\/(relabel scope env).names.lookup x=some .free:=by
 rw[lW,lx,h];show some (xR env (x,.free)).2=_\/some (xR env (x,.free)).2=_;unfold xR
 split
 ·exact .inl rfl
 ·exact .inr rfl
def nJ(X:Cx)(N:List Str)(scope:Scope)(C:Addr)(s:Shared)(H:Hp)(fp:List Addr)(pn:List (Addr×Obj)):Cx:=
 { X with N:=N,s₀:=s,H₀:=H,env:=compEnvC scope (jA X.env scope.names []) C X.env,outer:=X.stack,ex:=fp,fn:=λ_=>false,pn:=pn,xe:=λ_ _=>False }
structure kG (scope:Scope) (ns:List Str):Prop where
 kind:scope.kind=.function
 nocell:∀ y∈scope.names,y.2≠.cell
 names:∀ y∈scope.names,y.2=.local->scope.names.lookup y.1=some .local
 frees:∀ y∈scope.names,y.2=.free->y.1∈ns
inductive kF (X:Cx) (scope:Scope):List Str->List Nat->Prop
 | nil:kF X scope [] []
 | cons {x:Str} {i:Nat} {ns:List Str} {is:List Nat}:X.N[i]? = some x->scope.names.lookup x=some .free->(X.env.kindOf x=some .cell\/X.env.kindOf x=some .free)->kF X scope ns is->kF X scope (x::ns) (i::is)
theorem kF.mem{X:Cx}{scope:Scope}{ns:List Str}{is:List Nat}{x:Str}(c:kF X scope ns is)(h:x∈ns):X.env.kindOf x=some .cell\/X.env.kindOf x=some .free:=by
 induction c with
 | nil=>exact nomatch h
 | cons _ _ k _ ih=>
  rcases aZ.mp h with e | e
  ·subst e;exact k
  ·exact ih e
theorem kF.len{X:Cx}{scope:Scope}{ns:List Str}{is:List Nat}(c:kF X scope ns is):is.length=ns.length:=by
 induction c with
 | nil=>rfl
 | cons _ _ _ _ ih=>simp[ih]
theorem kF.at_{X:Cx}{scope:Scope}{ns:List Str}{is:List Nat}(c:kF X scope ns is){j:Nat}{x:Str}(h:ns[j]? = some x):
  ∃i,is[j]? = some i/\X.N[i]? = some x/\scope.names.lookup x=some .free/\(X.env.kindOf x=some .cell\/X.env.kindOf x=some .free):=by
 induction c generalizing j with
 | nil=>simp at h
 | cons a b k _ ih=>
  cases j with
  | zero=>simp at h;subst h;exact⟨_,rfl,a,b,k⟩
  | succ j=>exact ih (by simpa using h)
def wx(σ:St)(i:Nat):Option V:=(σ[i]?).join
def fu(k:Nat)(caps:List Nat)(σ:St):St:=List.replicate k none++caps.map λi=>wx σ i
section
variable {X:Cx} {pins:List (Addr×Obj)} {σ:St} {H:Hp} {s s4:Shared}
theorem pL{own ns:List Str}{caps:List Nat}{scope:Scope}{C:Addr}{fp:List Addr}(I:bE X pins σ H s)(S:kG scope ns)(cp:kF X scope ns caps)(hf:∀b∈fp,iT X pins H b)
  (hfl:∀b∈fp,b<s.heap.objs.size) (hC:s.heap.objs.size<=C) (os:s4.os=s.os) (gens:s4.gens=s.gens) (k:∀b o,s.heap.get? b=some o->s4.heap.get? b=some o) {m:Str->Option Value} (hn:s4.heap.Ns C m) :
  bE (nJ X (own++ns) scope C s H fp (X.pn++pins)) [] (fu own.length caps σ) H s4:=by
 have cells:∀x c,(jA X.env scope.names []).lookup x=some c->X.env.cells.lookup x=some c:=λx c e=>by
  rcases jM (λy hy hfr=>I.ok.has y.1 (cp.mem (S.frees y hy hfr))) e with z | z
  ·simp at z
  ·exact z
 have neL:C≠X.env.locals:=gM (aO I.lt hC);have inFs:∀b,b∈jw X.stack->b=X.env.locals\/b∈X.fs:=λb hb=>aZ.mp (I.stkSub b hb);have nst:∀b,b≠X.env.locals->b∉X.fs->b∉jw X.stack:=λb h1 h2 z=>(inFs b z).elim h1 h2;have cle:∀x c,X.env.cells.lookup x=some c->c<s.heap.objs.size:=λx c e=>by obtain⟨v,q⟩:=I.cell x c e;exact q.lt
 refine⟨⟨I.ok.mod,S.kind,I.ok.glob,I.ok.blt,hC,λx y c h1 h2=>I.ok.inj x y c (cells _ _ h1) (cells _ _ h2),λx hx=>?_,(λx c h=>nomatch h),I.ok.hd,I.ok.frames,.inl rfl,λb hb=>⟨λz=>?_,λx c e=>(hf b hb).2.2.2.2.1 x c (cells _ _ e)⟩,
   I.bs,bd I.ok.bsz I.sz,λb o e hb=>?_,λb hb=>nst b (hf b hb).2.1 (hf b hb).2.2.1,I.stack,I.stkFree⟩,
  os,by rw[gens];exact I.bare,Un.kept k,⟨m,hn,λi x v e1 e2 e3=>?_⟩,λx c e=>?_,?_,λx c e=>I.freeC x c (cells _ _ e),λp hp=>?_,I.hok.kept k,?_⟩
 ·have hx':(relabel scope X.env).names.lookup x=some .cell\/(relabel scope X.env).names.lookup x=some .free:=hx;have hfree:scope.names.lookup x=some .free:=by
   rcases hx' with z | z
   ·rcases mP z with q | q
    ·exact absurd rfl (S.nocell _ (cA q))
    ·exact q.2
   ·rcases mP z with q | q
    ·exact q
    ·exact absurd q.1 (by decide)
  exact pP (cA hfree)
 ·exact absurd (aO (hfl b hb) hC) (by rw[show b=C from z];exact c6 _)
 ·obtain⟨f0,f1,f2,f3,f4,f5⟩:=hf b hb;rcases f3 with z | z
  ·exact I.ok.noex b o e z
  ·exact absurd (aO (aM e) (bd I.ok.bsz z)) (c6 _)
 ·have e2':(List.replicate own.length none++caps.map λi=>wx σ i)[i]? = some (some v):=e2;have e1':(own++ns)[i]? = some x:=e1;by_cases hi:i<own.length
  ·rw[cV (by simpa using hi),jf,MO hi] at e2';cases e2'
  ·rw[dM (by simpa using hi),k9,bD] at e2';rw[dM (by lia)] at e1';obtain⟨i',h1,h2,h3,h4⟩:=cp.at_ e1';rw[h1] at e2';have e4:(σ[i']?).join=some v:=aq e2';have e5:σ[i']? = some (some v):=by
    cases q:σ[i']? with
    | none=>rw[q] at e4;cases e4
    | some w'=>rw[q] at e4;rw[show w'=some v from e4]
   obtain⟨m',hn',hl'⟩:=I.loc;have vis:E1 X.env.scope x:=h4.elim (λz=>.inr (.inl z)) λz=>.inr (.inr z);obtain⟨u,r,l⟩:=hl' i' x v h2 e5 vis;refine⟨u,r,.inr ⟨qq h3,?_⟩⟩;obtain⟨c,hc⟩:=pP (env:=X.env) (acc:=[]) (cA h3);rcases l with ⟨z,_⟩ | ⟨_,c',e6,z⟩
   ·rcases h4 with y | y<;>· rw[y] at z;cases z
   ·have:=cells _ _ hc;rw[e6] at this;cases this;obtain⟨o,ho,hd⟩:=z;exact⟨_,hc,o,k _ _ ho,hd⟩
 ·obtain⟨v,o,ho,hd⟩:=I.cell x c (cells _ _ e);exact⟨v,o,k _ _ ho,hd⟩
 ·exact I.hok.fresh hC
 ·have hp':p∈X.pn++pins:=by simpa [nJ] using hp
  obtain⟨a1,a2,a3,a4,a5⟩:=I.pin p hp';exact⟨k _ _ a1,a2,ac (aO (aM a1) hC),nst _ a3 a4,a5⟩
 ·show (fu own.length caps σ).length=(own++ns).length;simp[fu,cp.len]
end
def PF(X:Cx)(ifs:List Expr)(t:TT):Prop:=
 ∀(pins:List (Addr×Obj)) (s:Shared) (σ:St) (H:Hp) (Q:Bool->Hp->Prop),bE X pins σ H s->t σ H Q →
  wpAny (model X.prog X.w) X.A (forIn ifs true λc r=>if r=true then do let ok <-isTrue c X.env (eval c X.env);pure (ForInStep.yield ok) else pure (ForInStep.yield r)) (TP X pins σ Q) X.xe s
def pw:TT:=λ_ H q=>q true H
def gQ(J:It)(g:TG)(tf:TT)(te:TE)(Q:VK)(σ:St)(H1:Hp):Prop:=∃W:Nat->Nat->List V->St->Hp->Prop,(∃m,W 0 m [] σ H1)/\∀i m ys σ H,W i m ys σ H →
 (J.stop i H/\ys.length<=sizeLine/\∀p,H p=none->Q (.ref p) (bU H p (.lst ys))) ∨
 (J.go i H/\ys.length<sizeLine/\∀x H',J.yld i H x H'->g x σ H' λσ2 H2=>tf σ2 H2 λb H3=>
  if b=true then te σ2 H3 λy H4=>∃m',m'<m/\W (i+1) m' (ys++[y]) σ2 H4 else ∃m',m'<m/\W (i+1) m' ys σ2 H3)
section
variable {X:Cx} {pins:List (Addr×Obj)} {σ:St} {H:Hp} {s:Shared}
theorem l3 {prog : Program} {w : World} {A : Around} {R : Result → Shared → Prop} {s : Shared} {elt target iter : Expr} {ifs : List Expr} {scope : Scope} {pos : Pos} {it acc : Value} {env : Env} (I : Nat → Shared → Prop)
  (turn : ∀ n s, I n s → wpAny (model prog w) A (pyNext it) (fun r s₁ => match r with
   | none => R (.ok .next) s₁
   | some v => wpAny (model prog w) A (letOwnedTupleGo target it v) (fun _ s₁ => wpAny (model prog w) A (assign target env v) (fun _ s₂ =>
     wpAny (model prog w) A (forIn ifs true fun c r => if r = true then do let ok ← isTrue c env (eval c env); pure (ForInStep.yield ok) else pure (ForInStep.yield r)) (fun ok s₃ =>
      if ok = true then wpAny (model prog w) A (eval elt env) (fun x s₄ =>
       wpAny (model prog w) A (call (.builtin "list.append") [acc, x]) (fun _ s₅ => ∃ m, m < n ∧ I m s₅) (notedBy (model prog w) A env fun e s' => R (.error e) s') s₄) (notedBy (model prog w) A env fun e s' => R (.error e) s') s₃
      else ∃ m, m < n ∧ I m s₃) (notedBy (model prog w) A env fun e s' => R (.error e) s') s₂) (notedBy (model prog w) A env fun e s' => R (.error e) s') s₁) (notedBy (model prog w) A env fun e s' => R (.error e) s') s₁) (notedBy (model prog w) A env fun e s' => R (.error e) s') s)
  (n : Nat) (h : I n s) : codeAny (model prog w) A (.compLoop (.ListComp elt [⟨target, iter, ifs, 0⟩] scope pos) 0 it acc env) R s := by
 refine codeAny_loop rfl I (fun n s hI => ?_) n h
 show wpAny _ A ((compTurn (.ListComp elt [⟨target, iter, ifs, 0⟩] scope pos) 0 it acc env).onRaise (fun x => do noteFrame x env; theTreesLotGoes x)) _ _ s
 refine wpAny_noted ?_
 rw [compTurn_list]
 refine wpAny_bind (wpAny_standAt (wpAny_bind (Lo (turn n s hI) (fun r s₁ h₁ => ?_) fun _ _ h' => h')))
 cases r with
 | none => exact Lq h₁
 | some v =>
  refine wpAny_bind (Lo h₁ (fun _ s₁ h₁ => ?_) fun _ _ h' => h')
  refine wpAny_bind (Lo h₁ (fun _ s₂ h₂ => wpAny_bind (Lo h₂ (fun ok s₃ h₃ => ?_) fun _ _ h' => h')) fun _ _ h' => h')
  cases ok with
  | false => exact Lq ⟨rfl, h₃⟩
  | true =>
   exact wpAny_bind (wpAny_bind (Lo h₃ (fun x s₄ h₄ => wpAny_bind (Lo h₄ (fun _ s₅ h₅ => Lq (Lq ⟨rfl, h₅⟩)) fun _ _ h' => h')) fun _ _ h' => h'))
theorem tZ{own ns:List Str}{caps:List Nat}{elt tg iter:Expr}{ifs:List Expr}{scope:Scope}{pos:Pos}{it:Addr}{fp:List Addr}{tn:Nat->Heap->Prop}{J:It}{g:TG}{tf:TT}{te:TE}{Q:VK}{E:Value->Shared->Prop}{RR:Value->Addr->Result->Shared->Prop}
  (hc:X.calm=true) (S:kG scope ns) (cp:kF X scope ns caps)
  (hg:∀C s H fp pn,PG (nJ X (own++ns) scope C s H fp pn) tg g) (ht:∀C s H fp pn,PF (nJ X (own++ns) scope C s H fp pn) ifs tf) (he:∀C s H fp pn,PE (nJ X (own++ns) scope C s H fp pn) elt te)
  (I:bE X pins σ H s) (T:Turn X.prog X.w X.K tg J fp it tn) (st:tn 0 s.heap) (hf:∀b∈fp,iT X pins H b) (hJ:gQ J g tf te Q (fu own.length caps σ) H)
  (fin:∀D C m s' H' ys,D≠C->s'.heap.Ns C m->iT X pins (bU H' D (.lst ys)) C->bE X pins σ (bU H' D (.lst ys)) s'->Q (.ref D) (bU H' D (.lst ys))->RR (.ref D) C (.ok .next) s') :
  wpAny (model X.prog X.w) X.A (newList []) (λacc s₃=>wpAny (model X.prog X.w) X.A (newFunctionEnv scope X.env.globals (jA X.env scope.names []) [] X.env.qual none .none (some X.env)) (λcenv s₄=>
   codeAny (model X.prog X.w) X.A (.compStart (.ListComp elt [⟨tg,iter,ifs,0⟩] scope pos) 0 (.ref it) acc { cenv with scope:=relabel scope X.env }) (RR acc cenv.locals) s₄) E s₃) E s:=by
 refine Lx (wpAny_newFunctionEnv S.nocell (by intro y hy;simp at hy) (λh₁ hns₁ hsb₁=>?_) S.kind);dsimp only at hns₁ hsb₁ ⊢;generalize hH2:s.heap.push { cls:=.type "list",dict:=none,data:=.seq ([]:List Value).toArray }=H2 at hns₁ hsb₁ ⊢;have hC:H2.objs.size=s.heap.objs.size+1:=by rw[<-hH2,du]
 have hDC:s.heap.objs.size≠H2.objs.size:=by rw[hC];exact ac (dt _)
 have hCle:s.heap.objs.size<=H2.objs.size:=by rw[hC];exact df _
 have old:∀b o,s.heap.get? b=some o->h₁.get? b=some o:=λb o e=>hsb₁.extBut b o (by rw[hC];exact ac (cP (aM e))) (aD _ (hH2▸aD _ e));have hacc:h₁.PlainList s.heap.objs.size #[]:=⟨_,hsb₁.extBut _ _ hDC (aD _ (hH2▸aP _ rfl))⟩
 have hfl:∀b∈fp,b<s.heap.objs.size:=λb hb=>by obtain⟨o,e,_⟩:=T.obj _ _ st b hb;exact aM e
 generalize hD:s.heap.objs.size=D at hDC hacc ⊢;generalize hCe:H2.objs.size=C at hns₁ hsb₁ hDC hCle hC ⊢;have hDle:s.heap.objs.size<=D:=by rw[hD];exact aH _
 have hCle':s.heap.objs.size<=C:=by rw[hD];rw[hD] at hCle;exact hCle
 have I₁:bE (nJ X (own++ns) scope C s H fp (X.pn++pins)) [] (fu own.length caps σ) H { s with heap:=h₁,toks:=s.toks+([]:List (Str×Value)).length }:=
  pL I S cp hf hfl hCle' rfl rfl old hns₁
 have st₁:tn 0 h₁:=T.keep _ _ _ st λb _ o e=>old b o e;generalize hY:nJ X (own++ns) scope C s H fp (X.pn++pins)=Y at I₁;have hgY:PG Y tg g:=hY▸hg C s H fp (X.pn++pins);have htY:PF Y ifs tf:=hY▸ht C s H fp (X.pn++pins);have heY:PE Y elt te:=hY▸he C s H fp (X.pn++pins);have yP:Y.prog=X.prog:=by rw[<-hY];rfl
 have yW:Y.w=X.w:=by rw[<-hY];rfl
 have yK:Y.K=X.K:=by rw[<-hY];rfl
 have yA:Y.A=X.A:=by rw[<-hY];rfl
 have yC:Y.calm=true:=by rw[<-hY];exact hc
 have yE:Y.env=compEnvC scope (jA X.env scope.names []) C X.env:=by rw[<-hY];rfl
 have yX:Y.xe=λ_ _=>False:=by rw[<-hY];rfl
 have yF:Y.fs=jw X.stack:=by rw[<-hY];rfl
 have yQ:Y.pn=X.pn++pins:=by rw[<-hY];rfl
 have yI:Y.ex=fp:=by rw[<-hY];rfl
 have yS:Y.s₀=s:=by rw[<-hY];rfl
 have yH:Y.H₀=H:=by rw[<-hY];rfl
 have cells:∀x c,Y.env.cells.lookup x=some c->X.env.cells.lookup x=some c:=λx c e=>by
  rw[yE] at e;rcases jM (λy hy hfr=>I.ok.has y.1 (cp.mem (S.frees y hy hfr))) (show (jA X.env scope.names []).lookup x=some c from e) with z | z
  ·simp at z
  ·exact z
 have nst:∀b,b≠X.env.locals->b∉X.fs->b∉Y.fs:=λb h1 h2 z=>by
  rw[yF] at z;exact(aZ.mp (I.stkSub b z)).elim h1 h2
 have fpY:∀{H':Hp},(∀b∈fp,H' b=none)->∀b∈fp,iT Y [] H' b:=fun {H'} hn b hb=>by
  obtain⟨f0,f1,f2,f3,f4,f5⟩:=hf b hb;refine⟨hn b hb,?_,nst b f1 f2,.inl (by rw[yI];exact hb),λx c e=>f4 x c (cells x c e),λp hp=>f5 p (by simpa [yQ] using hp)⟩;rw[yE];exact ac (aO (hfl b hb) hCle')
 have fpD:∀{H':Hp},H' D=none->iT Y [] H' D:=fun {H'} hn=>by
  obtain⟨f0,f1,f2,f3,f4,f5⟩:=I.fpOk (H':=H') hDle hn;refine⟨hn,by rw[yE];exact hDC,nst D f1 f2,.inr (by rw[yS];exact hDle),λx c e=>f4 x c (cells x c e),λp hp=>f5 p (by simpa [yQ] using hp)⟩
 have hDf:D∉fp:=λz=>c6 _ (aO (hfl D z) hDle);have objD:∀{h:Heap} {us:List Value},h.PlainList D us.toArray->∃o,h.get? D=some o/\∀v,o.data≠.cell v:=fun {h us} ⟨n,e⟩=>⟨_,e,λv z=>by cases z⟩
 have noErr:∀{α:Type} {t:Sem α} {Qt:α->Shared->Prop} {sx:Shared} {E':Value->Shared->Prop},wpAny (model Y.prog Y.w) Y.A t Qt Y.xe sx->wpAny (model X.prog X.w) X.A t Qt E' sx:=fun {α t Qt sx E'} h=>by
  rw[yP,yW,yA,yX] at h;exact Lo h (λ_ _ q=>q) λ_ _ f=>f.elim
 obtain⟨W,⟨m0,w0⟩,turn⟩:=hJ;have TY:Turn Y.prog Y.w Y.K tg J fp it tn:=by rw[yP,yW,yK];exact T
 have loop:∀s₃:Shared,s₃={ s with heap:=h₁,toks:=s.toks+([]:List (Str×Value)).length } →
   codeAny (model X.prog X.w) X.A (.compLoop (.ListComp elt [⟨tg,iter,ifs,0⟩] scope pos) 0 (.ref it) (.ref D) (compEnvC scope (jA X.env scope.names []) C X.env)) (RR (.ref D) C) s₃:=by
  rintro s₃ rfl;refine l3 (λn s'=>∃i ys us σ' H',bE Y [] σ' H' s'/\tn i s'.heap/\(∀b∈fp,H' b=none)/\H' D=none/\s'.heap.PlainList D us.toArray/\bb ys us/\W i n ys σ' H') ?_ m0
   ⟨0,[],[],_,H,I₁,st₁,λb hb=>(hf b hb).1,I.hok.fresh hDle,hacc,.nil,w0⟩
  rintro n s3 ⟨i,ys,us,σ3,H3,I3,st3,fr3,hD3,BW,v3,w3⟩;have fD3:∀b∈[D],iT Y [] H3 b:=λb hb=>by
   have e:b=D:=by simpa using hb
   subst e;exact fpD hD3
  have I3':bE Y ([]++gF [D] s3.heap) σ3 H3 s3:=I3.pinned fD3 λb hb=>by
   have e:b=D:=by simpa using hb
   subst e;exact objD BW
  rw[List.nil_append] at I3';have fpY':∀{H':Hp},(∀b∈fp,H' b=none)->∀b∈fp,iT Y (gF [D] s3.heap) H' b:=fun {H'} hn b hb=>by
   obtain⟨f0,f1,f2,f3,f4,f5⟩:=fpY hn b hb;refine⟨f0,f1,f2,f3,f4,λp hp=>?_⟩;rcases aT.mp hp with z | z
   ·exact f5 p (by simpa using z)
   ·have e:p.1=D:=by simpa using (nD z).1
    exact λq=>hDf (by rw[<-e,q];exact hb)
  obtain⟨oD,eD,cD⟩:=objD BW;have keepD:∀{σ':St} {H':Hp} {s':Shared} {pl:List (Addr×Obj)},bE Y (gF [D] s3.heap++pl) σ' H' s'->s'.heap.PlainList D us.toArray/\H' D=none:=fun {σ' H' s' pl} I'=>by
   have:=I'.pin (D,oD) (aa _ (ax _ (fE (by simp) eD)));refine⟨?_,this.2.1⟩;obtain⟨k,e⟩:=BW;rw[e] at eD;cases eD;exact⟨k,this.1⟩
  rcases turn i n ys σ3 H3 w3 with ⟨stop,hlen,qn⟩ | ⟨go,hlen,step⟩
  ·refine noErr (cm (TY.done Y rfl rfl rfl yC i _ s3 σ3 H3 Y.xe I3' (fpY' fr3) st3 stop) λr s4 ⟨hr,I4⟩=>?_);subst hr;obtain⟨pl4,hD4⟩:=keepD (pl:=[]) (by rw[eM];exact I4);have hun:Un (jw X.stack) fp H H3 s.heap s4.heap:=by have:=I4.base;rw[yF,yI,yS,yH] at this;exact this
   have hok:lC X.prog X.w H3 s4.heap:=by have:=I4.hok;rw[yP,yW] at this;exact this
   obtain⟨m4,hn4,_⟩:=I4.loc;rw[yE] at hn4;have hC4:H3 C=none:=by have:=I4.free;rw[yE] at this;exact this
   have ne:∀b u,H3 b=some u->b≠D:=λb u e z=>by rw[z,hD4] at e;cases e
   refine fin D C m4 s4 H3 ys hDC hn4 (I.fpOk hCle' (by rw[aK (cU hDC)];exact hC4)) (I.call' (ch:=fp) ?_ ?_ ?_ I4.bare ?_) (qn D hD4)
   ·have:=I4.os;rw[yS] at this;exact this
   ·exact⟨hun.keep,hun.slot,λb o e n hx=>by rw[aK (λz=>by rw[z] at e;exact absurd (aM e) (Nat.not_lt.mpr hDle))];exact hun.free b o e n hx,hun.there,
     λb xs e=>by have:=hun.tups b xs e;rw[aK (ne _ _ this)];exact this,λb o u e=>by have:=hun.frzs b o u e;rw[aK (ne _ _ this)];exact this,
     λb ps e=>by obtain⟨more,q⟩:=hun.tbls b ps e;exact⟨more,by rw[aK (ne _ _ q)];exact q⟩⟩
   ·intro b u e;by_cases hb:b=D
    ·subst hb;rw[aC] at e;cases e;obtain⟨k,e4⟩:=pl4;exact⟨hlen,us,k,v3,e4⟩
    ·rw[aK hb] at e;exact(hok b u e).stay (λc v _ q=>q) (λc q=>by rw[aK (ne _ _ q)];exact q) λc xs q=>by rw[aK (ne _ _ q)];exact q
   ·intro b hb;obtain⟨f0,f1,f2,f3,f4,f5⟩:=hf b hb;exact⟨f3,f1,f4,f5⟩
  ·refine noErr (cm (TY.item Y rfl rfl rfl yC i _ s3 σ3 H3 Y.xe I3' (fpY' fr3) st3 go) λr s4 ⟨u,hr,h4⟩=>?_);subst hr;refine noErr (cm h4 λ_ s5 ⟨x,H5,I5,r5,y5,st5,fr5⟩=>?_);have I5':=I5.pinned (fpY' fr5) (T.obj _ _ st5);rw[<-yE];refine noErr (cm (hgY _ s5 σ3 H5 x u _ I5' r5 (step x H5 y5)) λ_ s6 ⟨σ6,H6,I6,q6⟩=>?_);refine noErr (cm (htY _ s6 σ6 H6 _ I6 q6) λok s7 ⟨H7,I7,q7⟩=>?_);have fpK:∀{σ':St} {H':Hp} {s':Shared},bE Y (gF [D] s3.heap++gF fp s5.heap) σ' H' s'->tn (i+1) s'.heap/\∀b∈fp,H' b=none:=fun {σ' H' s'} I'=>
    ⟨T.keep _ _ _ st5 λb hb o e=>(I'.pin (b,o) (aa _ (aa _ (fE hb e)))).1,λb hb=>by
     obtain⟨o,e,_⟩:=T.obj _ _ st5 b hb;exact(I'.pin (b,o) (aa _ (aa _ (fE hb e)))).2.1⟩
   cases ok with
   | false=>
    rw[MN aY] at q7 ⊢;obtain⟨m',hm,w7⟩:=q7;obtain⟨pl7,hD7⟩:=keepD I7;obtain⟨st7,fr7⟩:=fpK I7;exact⟨m',hm,i+1,ys,us,σ6,H7,I7.pins_of (λp hp=>nomatch hp),st7,fr7,hD7,pl7,v3,w7⟩
   | true=>
    rw[MO rfl] at q7 ⊢;refine noErr (cm (heY _ s7 σ6 H7 _ I7 q7) λy s8 ⟨yv,H8,I8,r8,m',hm,w8⟩=>?_);obtain⟨pl8,hD8⟩:=keepD I8;obtain⟨st8,fr8⟩:=fpK I8;have hul:us.length=ys.length:=v3.length.symm;refine wpAny_list_append_plain (hsz:=by rw[aQ,hul];exact aS hlen) pl8 λh9 pl9 sb9=>?_;obtain⟨d0,d1,d2,d3,d4,d5⟩:=fpD hD8;refine⟨m',hm,i+1,ys++[yv],us++[y],σ6,H8,?_,?_,fr8,hD8,by simpa using pl9,v3.append (.cons r8 .nil),w8⟩
    ·exact(I8.pins_of (pins':=[]) λp hp=>nomatch hp).turned (t':=s8.toks) (λb o hb e=>(sb9.2 b hb).trans e) hD8 d1 d3 d4 d5
    ·exact T.keep _ _ _ st8 λb hb o e=>(sb9.2 b (λz=>hDf (z▸hb))).trans e
 exact codeAny_compStart_list (loop _ rfl) (T.self _ 0 _ _ _ st₁ (loop _ rfl))
def mF(k:Nat)(caps:List Nat)(wi:TI)(g:TG)(tf:TT)(te:TE):TE:=λσ H Q=>wi σ H λJ H1=>gQ J g tf te Q (fu k caps σ) H1
theorem kF.cl{scope:Scope}{ns:List Str}{caps:List Nat}(I:bE X pins σ H s)(S:kG scope ns)(cp:kF X scope ns caps):closureFor scope X.env=pure (jA X.env scope.names []):=
 pf λy hy hfr=>I.ok.has y.1 (cp.mem (S.frees y hy hfr))
theorem AI{own ns:List Str}{caps:List Nat}{elt tg iter:Expr}{ifs:List Expr}{scope:Scope}{pos:Pos}{wi:TI}{g:TG}{tf:TT}{te:TE}(hc:X.calm=true)(S:kG scope ns)(cp:kF X scope ns caps)(hi:PI X tg iter wi)
  (hg:∀C s H fp pn,PG (nJ X (own++ns) scope C s H fp pn) tg g) (ht:∀C s H fp pn,PF (nJ X (own++ns) scope C s H fp pn) ifs tf) (he:∀C s H fp pn,PE (nJ X (own++ns) scope C s H fp pn) elt te)
  (hs:∀x,foldedSetIterable iter X.env x=pure x:=by intro _;rfl):PE X (.ListComp elt [⟨tg,iter,ifs,0⟩] scope pos) (mF own.length caps wi g tf te):=by
 intro pins s σ H Q I h;rw[eval_ListComp];refine wpAny_comprehension_free (use:=none) rfl hs (cp.cl I S) S.kind S.names (cm (hi pins s σ H _ I h) λv s1 h1=>cm h1 λitv s2 h2=>?_);obtain⟨it,fp,tn,J,H2,e,I2,T,st2,f2,hJ⟩:=h2;subst e;refine tZ hc S cp hg ht he I2 T st2 f2 hJ (RR:=λacc C=>compPost (model X.prog X.w) X.A X.xe none (EP X pins σ Q) acc C) λD C m s' H' ys hDC hn fC I' q=>?_;refine⟨m,hn,λh' hs'=>⟨.ref D,_,?_,rfl,q⟩⟩;obtain⟨f0,f1,f2,f3,f4,f5⟩:=fC;exact I'.turned (t':=s'.toks) (λb o hb e=>(hs'.2 b hb).trans e) f0 f1 f3 f4 f5
theorem AG{i:Nat}{x:Str}{own ns:List Str}{caps:List Nat}{elt tg iter:Expr}{ifs:List Expr}{scope:Scope}{pos pos' spos:Pos}{wi:TI}{g:TG}{tf:TT}{te:TE}(hN:X.N.Nodup)(hi:X.N[i]? = some x)(hx:Loc X.env.scope x)(hc:X.calm=true)(S:kG scope ns)(cp:kF X scope ns caps)(hit:PI X tg iter wi)
  (hg:∀C s H fp pn,PG (nJ X (own++ns) scope C s H fp pn) tg g) (ht:∀C s H fp pn,PF (nJ X (own++ns) scope C s H fp pn) ifs tf) (he:∀C s H fp pn,PE (nJ X (own++ns) scope C s H fp pn) elt te)
  (hs:∀x,foldedSetIterable iter X.env x=pure x:=by intro _;rfl) (hsw:swapsWith (.ListComp elt [⟨tg,iter,ifs,0⟩] scope pos) (some (.Name x pos')) spos.line X.env=pure true:=by rfl)
  (hf:X.fn x=true\/X.env.scope.names.lookup x=some .local:=by first | exact .inl rfl | exact .inr rfl | assumption) :
  PS X (.Assign [.Name x pos'] (.ListComp elt [⟨tg,iter,ifs,0⟩] scope pos) spos) (wM (mF own.length caps wi g tf te) (lZ i)):=by
 intro pins s σ H D I h;rw[exec_Assign_Name_used _ _ _ _ hsw];refine wpAny_bind (wpAny_standAt (wpAny_bind ?_));show wpAny _ X.A (do let _ <-comprehension (.ListComp elt [⟨tg,iter,ifs,0⟩] scope pos) scope X.env _ (newList []) false (eval iter X.env) (some (assign (.Name x pos') X.env))) _ _ s;refine wpAny_bind (Lo (wpAny_comprehension_free (use:=some (assign (.Name x pos') X.env)) (Q:=λ_ s'=>SP X pins D .next s') rfl hs (cp.cl I S) S.kind S.names
  (cm (hit pins s σ H _ I h) λv s1 h1=>cm h1 λitv s2 h2=>?_)) (λ_ s' hq=>Lq (Lq hq)) λ_ _ e=>e)
 obtain⟨it,fp,tn,J,H2,e,I2,T,st2,f2,hJ⟩:=h2;subst e;refine tZ hc S cp hg ht he I2 T st2 f2 hJ (RR:=λacc C=>compPost (model X.prog X.w) X.A X.xe (some (assign (.Name x pos') X.env)) (λ_ s'=>SP X pins D .next s') acc C) λL C m s' H' ys hDC hn fC I' q=>?_;show wpAny _ X.A (assign (.Name x pos') X.env (.ref L)) _ _ _;refine wpAny_assign_Name (pz I' hN hi hx (v:=.ref L) (u:=.ref L) rfl (λs'' I'' ⟨a,sb,ha⟩=>?_) hf);obtain⟨f0,f1,f2,f3,f4,f5⟩:=fC;have hCa:C≠a:=by
  rcases ha with z | z
  ·rw[z];exact f1
  ·exact λy=>f4 _ _ z y.symm
 exact⟨m,hn.sameBut sb hCa,λh' hs'=>⟨_,_,I''.turned (t':=s''.toks) (λb o hb e=>(hs'.2 b hb).trans e) f0 f1 f3 f4 f5,q⟩⟩
theorem vM{k:Nat}{caps:List Nat}{K:MU}{tl:TE}{g:TG}{tf:TT}{te:TE}{Q:VK}:mF k caps (zK K tl) g tf te σ H Q=tl σ H λx H1=>∃a,x=.ref a/\(∃xs,bp K H1 a xs)/\gQ (Ap K a) g tf te Q (fu k caps σ) H1:=rfl
theorem vL{k:Nat}{caps:List Nat}{K:MU}{tl:TE}{g:TG}{tf:TT}{te:TE}{Q:VK}:mF k caps (Cu K tl) g tf te σ H Q=tl σ H λx H1=>∃a,x=.ref a/\(∃xs,cg K H1 a xs)/\gQ (DT K a) g tf te Q (fu k caps σ) H1:=rfl
theorem vO{k:Nat}{caps:List Nat}{ta:TA}{g:TG}{tf:TT}{te:TE}{Q:VK}:mF k caps (zJ ta) g tf te σ H Q=ta σ H λvs H1=>∃j:Int,vs=[.int j]/\-(2 ^ 62)<=j/\j<2 ^ 62/\gQ (xO 0 j.toNat) g tf te Q (fu k caps σ) H1:=rfl
theorem vN{k:Nat}{caps:List Nat}{ta:TA}{g:TG}{tf:TT}{te:TE}{Q:VK}:mF k caps (B3 ta) g tf te σ H Q=ta σ H λvs H1=>∃i j:Int,vs=[.int i,.int j]/\(-(2 ^ 62)<=i/\i<2 ^ 62/\-(2 ^ 62)<=j/\j<2 ^ 62)/\gQ (xO i (j-i).toNat) g tf te Q (fu k caps σ) H1:=rfl
theorem vF{x:Str}{l:List Str}{caps:List Nat}:fu (x::l).length caps σ=none::fu l.length caps σ:=rfl
theorem vD{i:Nat}{is:List Nat}:fu ([]:List Str).length (i::is) σ=wx σ i::fu ([]:List Str).length is σ:=rfl
theorem vE:fu ([]:List Str).length [] σ=[]:=rfl
theorem xk{x:Option V}:wx (x::σ) 0=x:=rfl
theorem w_getS{x:Option V}{i:Nat}:wx (x::σ) (i+1)=wx σ i:=rfl
theorem xj{q:Bool->Hp->Prop}:pw σ H q=q true H:=rfl
end
section
variable {K:MU} {a:Addr} {xs:List V} {g:TG} {tf:TT} {te:TE} {Q:VK} {σ:St} {H:Hp}
theorem mZ{J:It}(n:Nat)(hsz:n<=sizeLine)(Pv:Nat->List V->St->Hp->Prop)(h0:Pv 0 [] σ H)(hlen:∀i ys σ H,Pv i ys σ H->ys.length<=i)(hgo:∀i ys σ H,i<n->Pv i ys σ H->J.go i H)(hstop:∀ys σ H,Pv n ys σ H->J.stop n H)
  (hs:∀i ys σ H x H' (N:List V->St->Hp->Prop),i<n->Pv i ys σ H->J.yld i H x H'->(∀ys σ H,Pv (i+1) ys σ H->N ys σ H)->g x σ H' λσ2 H2=>tf σ2 H2 λb H3=>if b=true then te σ2 H3 λy H4=>N (ys++[y]) σ2 H4 else N ys σ2 H3)
  (hd:∀ys σ H p,Pv n ys σ H->H p=none->Q (.ref p) (bU H p (.lst ys))):gQ J g tf te Q σ H:=by
 refine⟨λi m ys σ H=>m=n-i/\i<=n/\Pv i ys σ H,⟨n,by simp,bH _,h0⟩,?_⟩;rintro i m ys σ H ⟨rfl,hi,p⟩;have hy:=hlen i ys σ H p;by_cases hlt:i<n
 ·refine .inr ⟨hgo i ys σ H hlt p,by lia,λx H' y=>?_⟩;exact hs i ys σ H x H' (λys σ H=>∃m',m'<n-i/\m'=n-(i+1)/\i+1<=n/\Pv (i+1) ys σ H) hlt p y λys σ H z=>⟨n-(i+1),by lia,rfl,hlt,z⟩
 ·have e:i=n:=by lia
  subst e;exact .inl ⟨hstop ys σ H p,by lia,λp' hp=>hd ys σ H p' p hp⟩
theorem xF(Pv:Nat->List V->St->Hp->Prop)(h0:Pv 0 [] σ H)(hl:∀i ys σ H,Pv i ys σ H->bp K H a xs/\ys.length<=i)(hsz:xs.length<=sizeLine)
  (hs:∀i x ys σ H (N:List V->St->Hp->Prop),xs[i]? = some x->Pv i ys σ H->(∀ys σ H,Pv (i+1) ys σ H->N ys σ H)->g x σ H λσ2 H2=>tf σ2 H2 λb H3=>if b=true then te σ2 H3 λy H4=>N (ys++[y]) σ2 H4 else N ys σ2 H3)
  (hd:∀ys σ H p,Pv xs.length ys σ H->H p=none->Q (.ref p) (bU H p (.lst ys))):gQ (Ap K a) g tf te Q σ H:=by
 refine mZ xs.length hsz Pv h0 (λi ys σ H p=>(hl i ys σ H p).2) (λi ys σ H hi p=>⟨xs,xs[i],(hl i ys σ H p).1,by simp[hi]⟩) (λys σ H p=>⟨xs,(hl _ ys σ H p).1,aH _⟩) ?_ hd;rintro i ys σ H x H' N hi p ⟨rfl,y⟩ hN;exact hs i x ys σ H' N (y xs (hl i ys σ _ p).1) p hN
theorem zV(Pv:Nat->List V->St->Hp->Prop)(h0:Pv 0 [] σ H)(hl:∀i ys σ H,Pv i ys σ H->cg K H a xs/\ys.length<=i)(hsz:xs.length<=sizeLine)
  (hs:∀i x ys σ H (N:List V->St->Hp->Prop),xs[i]? = some x->Pv i ys σ H->(∀ys σ H,Pv (i+1) ys σ H->N ys σ H)->g x σ H λσ2 H2=>tf σ2 H2 λb H3=>if b=true then te σ2 H3 λy H4=>N (ys++[y]) σ2 H4 else N ys σ2 H3)
  (hd:∀ys σ H p,Pv xs.length ys σ H->H p=none->Q (.ref p) (bU H p (.lst ys))):gQ (DT K a) g tf te Q σ H:=by
 refine mZ xs.length hsz Pv h0 (λi ys σ H p=>(hl i ys σ H p).2) (λi ys σ H hi p=>⟨xs,xs[i],(hl i ys σ H p).1,by simp[hi]⟩) (λys σ H p=>⟨xs,(hl _ ys σ H p).1,aH _⟩) ?_ hd;rintro i ys σ H x H' N hi p ⟨rfl,y⟩ hN;exact hs i x ys σ H' N (y xs (hl i ys σ _ p).1) p hN
theorem ur{lo:Int}{n:Nat}(Pv:Nat->List V->St->Hp->Prop)(h0:Pv 0 [] σ H)(hl:∀i ys σ H,Pv i ys σ H->ys.length<=i)(hsz:n<=sizeLine)
  (hs:∀i ys σ H (N:List V->St->Hp->Prop),i<n->Pv i ys σ H->(∀ys σ H,Pv (i+1) ys σ H->N ys σ H)->g (.int (lo+i)) σ H λσ2 H2=>tf σ2 H2 λb H3=>if b=true then te σ2 H3 λy H4=>N (ys++[y]) σ2 H4 else N ys σ2 H3)
  (hd:∀ys σ H p,Pv n ys σ H->H p=none->Q (.ref p) (bU H p (.lst ys))):gQ (xO lo n) g tf te Q σ H:=by
 refine mZ n hsz Pv h0 hl (λi ys σ H hi p=>hi) (λys σ H p=>aH _) ?_ hd;rintro i ys σ H x H' N hi p ⟨rfl,rfl⟩ hN;exact hs i ys σ H' N hi p hN
theorem pN{J:It}(n:Nat)(hsz:n<=sizeLine){rest:St}(xs ys:List V)(hl:ys.length=n)(hgo:∀i,i<n->J.go i H)(hstop:J.stop n H)(hy:∀i x H',i<n->J.yld i H x H'->H'=H/\xs[i]? = some x)
  (hs:∀(i:Nat) (x y:V) (Q':VK),xs[i]? = some x->ys[i]? = some y->Q' y H->te (some x::rest) H Q')
  (q:∀p,H p=none->Q (.ref p) (bU H p (.lst ys))):gQ J (lZ 0) pw te Q (none::rest) H:=by
 refine mZ n hsz (λi zs σ H'=>H'=H/\zs=ys.take i/\∃x,σ=x::rest) ⟨rfl,by simp,_,rfl⟩ ?_ ?_ ?_ ?_ ?_
 ·rintro i zs σ H' ⟨rfl,rfl,_⟩;rw[gg];lia
 ·rintro i zs σ H' hi ⟨rfl,_,_⟩;exact hgo i hi
 ·rintro zs σ H' ⟨rfl,_,_⟩;exact hstop
 ·rintro i zs σ H1 x H' N hi ⟨rfl,rfl,z,rfl⟩ y hN;obtain⟨rfl,hx⟩:=hy i x H' hi y;show te (some x::rest) H' _;have hyi:ys[i]? = some ys[i]:=aL (by lia);refine hs i x ys[i] _ hx hyi (hN _ _ _ ⟨rfl,?_,_,rfl⟩);rw[bZ,hyi];rfl
 ·rintro zs σ H' p ⟨rfl,rfl,_⟩ hp;rw[<-hl,bv];exact q p hp
theorem lS{rest:St}(hx:bp K H a xs)(hsz:xs.length<=sizeLine)(ys:List V)(hl:ys.length=xs.length)
  (hs:∀(i:Nat) (x y:V) (Q':VK),xs[i]? = some x->ys[i]? = some y->Q' y H->te (some x::rest) H Q')
  (q:∀p,H p=none->Q (.ref p) (bU H p (.lst ys))):gQ (Ap K a) (lZ 0) pw te Q (none::rest) H:=by
 refine pN xs.length hsz xs ys hl (λi hi=>⟨xs,xs[i],hx,by simp[hi]⟩) ⟨xs,hx,aH _⟩ (λi x H' hi y=>⟨y.1,y.2 xs hx⟩) hs q
theorem xD{rest:St}(hx:cg K H a xs)(hsz:xs.length<=sizeLine)(ys:List V)(hl:ys.length=xs.length)
  (hs:∀(i:Nat) (x y:V) (Q':VK),xs[i]? = some x->ys[i]? = some y->Q' y H->te (some x::rest) H Q')
  (q:∀p,H p=none->Q (.ref p) (bU H p (.lst ys))):gQ (DT K a) (lZ 0) pw te Q (none::rest) H:=
 pN xs.length hsz xs ys hl (λi hi=>⟨xs,xs[i],hx,by simp[hi]⟩) ⟨xs,hx,aH _⟩ (λi x H' hi y=>⟨y.1,y.2 xs hx⟩) hs q
theorem xE{lo:Int}{n:Nat}{rest:St}(hsz:n<=sizeLine)(ys:List V)(hl:ys.length=n)
  (hs:∀(i:Nat) y (Q':VK),i<n->ys[i]? = some y->Q' y H->te (some (.int (lo+i))::rest) H Q')
  (q:∀p,H p=none->Q (.ref p) (bU H p (.lst ys))):gQ (xO lo n) (lZ 0) pw te Q (none::rest) H:=by
 refine pN n hsz ((List.range n).map λi:Nat=>V.int (lo+i)) ys hl (λi hi=>hi) (aH _) (λi x H' hi y=>⟨y.1,by simp[hi,y.2]⟩) (λi x y Q' hx hy hq=>?_) q;have hi:i<n:=by
  have:=(aE.mp hx).1;simpa using this
 have e:x=.int (lo+i):=by simp[hi] at hx;exact hx.symm
 subst e;exact hs i y Q' hi hy hq
end
end L2
namespace Rm
open PySem L2
def eB:PyData->Bool
 | .tuple [.int a,.int b]=>decide (a<b)
 | _=>false
def eJ:PyData->Bw
 | .tuple [.int a,.int b]=>(a,b)
 | _=>(0,0)
theorem mX:∀{d:PyData},eB d=true->d=tm (eJ d)/\(eJ d).1<(eJ d).2
 | .tuple [.int a,.int b],h=>⟨rfl,MR h⟩
def fG(ps:List Bw):List Int:=ps.map (·.1)++ps.map (·.2)
theorem wz(ps:List Bw):(fG ps).length=2*ps.length:=by simp[fG];lia
def qV(ps:List Bw):Bool:=(fG ps).isPerm (dW 0 (2*ps.length))
def mC:PyData->Bool
 | .list ds=>decide (2*ds.length<=40)&&(ds.all eB&&qV (ds.map eJ))
 | _=>false
theorem ya(n:Nat):(dW 0 n).Pairwise (·<=·):=by
 unfold dW;rw[b6,dX];intro i j hi hj hij;simp;lia
theorem sI{ms:List Int}{ps:List Bw}(hp:ms.Perm (fG ps))(hs:ms.Pairwise (·<=·)):decide (ms=dW 0 (2*ps.length))=qV ps:=by
 unfold qV;by_cases h:(fG ps).Perm (dW 0 (2*ps.length))
 ·rw[dZ.mpr h];exact decide_eq_true (PySem.W.ksm_same (hp.trans h) hs (ya _))
 ·have h2:(fG ps).isPerm (dW 0 (2*ps.length))=false:=by
   cases e:(fG ps).isPerm (dW 0 (2*ps.length)) with
   | false=>rfl
   | true=>exact absurd (dZ.mp e) h
  rw[h2];exact MQ λe=>h (e▸hp.symm)
def eW(d:PyData):Bool:=isI d&&!F3 d
def vZ:Sp:=λvs H Q _=>∃x d,vs=[x]/\Dat H x d/\Q (.bl (eB d)) H
def v4:Sp:=λvs H Q _=>∃x d,vs=[x]/\Dat H x d/\∀H',aX H H'->Q (.bl (mC d)) H'
theorem oR{K:MU}{H:Hp}{x:V}{d:PyData}{Q:VK}{E:XK}(h:Dat H x d)(q:Q (.bl (eW d)) H):oE K [x] H Q E:=
 ⟨x,_,isI d,F3 d,rfl,h.ty,by cases h<;>rfl,by cases h<;>rfl,q⟩
theorem rL{H:Hp}{xs:List V}{d e:PyData}(h:fh H xs [d,e]):∃x y,xs=[x,y]/\Dat H x d/\Dat H y e:=by
 cases h with
 | cons h1 h2=>
  cases h2 with
  | cons h3 h4=>cases h4;exact⟨_,_,rfl,h1,h3⟩
theorem DG{H:Hp}{x:V}{d:PyData}(h:Dat H x d)(hb:eB d=true):∃a,x=.ref a/\d6 H a (eJ d):=by
 obtain⟨e,_⟩:=mX hb;rw[e] at h;unfold tm at h;cases h with
 | tup h1 h2=>
  obtain⟨u,v,rfl,hu,hv⟩:=rL h2;cases hu;cases hv;exact⟨_,rfl,h1⟩
theorem zY{H:Hp}{l:Addr}{ps:List Bw}(h:cK H l ps):Dat H (.ref l) (wF ps):=by
 obtain⟨as,h1,h2⟩:=h;refine .lst h1 ?_;clear h1
 induction h2 with
 | nil=>exact .nil
 | cons r t ih=>exact .cons (.tup r (.cons (.int _) (.cons (.int _) .nil))) ih
theorem n9(ps:List Bw):mC (wF ps)=(decide (2*ps.length<=40)&&(ps.all (λp=>decide (p.1<p.2))&&qV ps)):=by
 show (decide (2*(ps.map tm).length<=40)&&((ps.map tm).all eB&&qV ((ps.map tm).map eJ)))=_;rw[aF,bx,kA];have e:(eJ∘tm)=id:=rfl;rw[e,List.map_id];rfl
end Rm
namespace Rm
structure oP (bs:List Bool) (i:Nat) (ws:List Nat) (bows:List (Nat×Nat)):Prop where
 at_:∀ (j p:Nat),ws[j]? = some p->p<i/\bs[p]? = some true/\D bs p=j/\∀ q,p<q->q<=i->D bs p<D bs q
 wlen:(ws.length:Int)=D bs i
 mate:∀ b∈bows,iq bs b.1 b.2/\b.2<i
 all:∀ p,p<i->bs[p]? = some true->p∈ws\/∃ m,(p,m)∈bows
 inc:bows.Pairwise (fun a b=>a.2<b.2)
 il:i<=bs.length
 len:ws.length+2 * bows.length=i
theorem oP.start(bs:List Bool):oP bs 0 [] []:=
 ⟨λj p h=>by simp at h,by simp[D],(λb h=>nomatch h),λp h=>by lia,.nil,bH _,rfl⟩
theorem oP.opens{bs:List Bool}{i:Nat}{ws:List Nat}{bows:List (Nat×Nat)}(S:oP bs i ws bows)(h:bs[i]? = some true):oP bs (i+1) (ws++[i]) bows:=by
 have hs:=jZ h;simp only[dl,MS] at hs;have hl:=S.wlen;refine⟨λj p hj=>?_,?_,λb hb=>⟨(S.mate b hb).1,by have:=(S.mate b hb).2;lia⟩,λp hp ho=>?_,S.inc,(aE.mp h).1,by have:=S.len;simp only[ao,bi];lia⟩
 ·by_cases e:j<ws.length
  ·rw[cV e] at hj;obtain⟨h1,h2,h3,h4⟩:=S.at_ j p hj;refine⟨by lia,h2,h3,λq a b=>?_⟩;by_cases c:q<=i
   ·exact h4 q a c
   ·have:q=i+1:=by lia
    subst this;have:=h4 i (by lia) (aH _);lia
  ·rw[dM (by lia)] at hj;have hj0:j-ws.length=0:=by
    have:=(aE.mp hj).1;simp at this;lia
   rw[hj0] at hj;have:p=i:=by simpa using hj.symm
   subst this;refine⟨by lia,h,by lia,λq a b=>?_⟩;have:q=p+1:=by lia
   subst this;lia
 ·simp only[ao,bi];lia
 ·by_cases e:p=i
  ·subst e;exact .inl (by simp)
  ·rcases S.all p (by lia) ho with z | z
   ·exact .inl (ax _ z)
   ·exact .inr z
theorem oP.has{bs:List Bool}{i:Nat}{ws:List Nat}{bows:List (Nat×Nat)}(S:oP bs i ws bows)(b:kd bs)(h:bs[i]? = some false):∃ws' p,ws=ws'++[p]:=by
 have hs:=jZ h;simp only[dl,bP,MT] at hs;have hl:=S.wlen;have hi:=(aE.mp h).1;have:=b.nn (i+1) (by lia);have hne:ws≠[]:=λe=>by rw[e] at hl;simp at hl;lia
 exact⟨ws.dropLast,ws.getLast hne,(List.dropLast_concat_getLast hne).symm⟩
theorem oP.closes{bs:List Bool}{i p:Nat}{ws:List Nat}{bows:List (Nat×Nat)}(S:oP bs i (ws++[p]) bows)(h:bs[i]? = some false):oP bs (i+1) ws (bows++[(p,i)]):=by
 have hs:=jZ h;simp only[dl,bP,MT] at hs;have hl:=S.wlen;simp only[ao,bi] at hl;obtain⟨p1,p2,p3,p4⟩:=S.at_ ws.length p (by simp);have hi:=(aE.mp h).1;have M:iq bs p i:=⟨p1,hi,p2,h,by lia,p4⟩
 refine⟨λj q hj=>?_,by lia,λb hb=>?_,λq hq ho=>?_,?_,hi,by have:=S.len;simp only[ao,bi] at this ⊢;lia⟩
 ·have hjl:=(aE.mp hj).1;obtain⟨h1,h2,h3,h4⟩:=S.at_ j q (by rw[cV hjl];exact hj);refine⟨by lia,h2,h3,λx a b=>?_⟩;by_cases c:x<=i
  ·exact h4 x a c
  ·have:x=i+1:=by lia
   subst this;lia
 ·rcases aT.mp hb with hb | hb
  ·exact⟨(S.mate b hb).1,by have:=(S.mate b hb).2;lia⟩
  ·have:b=(p,i):=by simpa using hb
   subst this;exact⟨M,dt i⟩
 ·by_cases e:q=i
  ·subst e;rw[h] at ho;simp at ho
  ·rcases S.all q (by lia) ho with z | ⟨m,z⟩
   ·rcases aT.mp z with z | z
    ·exact .inl z
    ·have:q=p:=by simpa using z
     subst this;exact .inr ⟨i,by simp⟩
   ·exact .inr ⟨m,ax _ z⟩
 ·refine hV.mpr ⟨S.inc,by simp,λa ha b hb=>?_⟩;have:b=(p,i):=by simpa using hb
  subst this;exact(S.mate a ha).2
theorem oP.mem{bs:List Bool}{ws:List Nat}{bows ms:List (Nat×Nat)}(S:oP bs bs.length ws bows)(b:kd bs)(M:hU bs bs.length ms)(x:Nat×Nat):x∈bows<->x∈ms:=by
 have hw:ws=[]:=by
  have:=S.wlen;rw[b.z] at this;exact eA (by lia)
 subst hw;refine⟨λh=>?_,λh=>?_⟩
 ·obtain⟨m,_⟩:=S.mate x h;have hx:=(aE.mp m.op).1;obtain⟨y,hy⟩:=M.all x.1 hx m.op;have:=m.uniq (M.mate _ hy).1;rw[show x=(x.1,y) from lA rfl this];exact hy
 ·obtain⟨m,hx⟩:=M.mate x h;rcases S.all x.1 hx m.op with z | ⟨y,hy⟩
  ·exact nomatch z
  ·have:=m.uniq (S.mate _ hy).1;rw[show x=(x.1,y) from lA rfl this];exact hy
theorem vt:∀(xs ys:List (Nat×Nat)),xs.Pairwise (λa b=>a.1<b.1)->ys.Pairwise (λa b=>a.1<b.1)->(∀x,x∈xs<->x∈ys)->xs=ys
 | [],[],_,_,_=>rfl
 | [],y::ys,_,_,h=>absurd ((h y).mpr aw) (by simp)
 | x::xs,[],_,_,h=>absurd ((h x).mp aw) (by simp)
 | x::xs,y::ys,hx,hy,h=>by
  obtain⟨hx1,hx2⟩:=ff.mp hx;obtain⟨hy1,hy2⟩:=ff.mp hy;have e:x=y:=by
   rcases aZ.mp ((h x).mp aw) with e | e
   ·exact e
   ·rcases aZ.mp ((h y).mpr aw) with e' | e'
    ·exact e'.symm
    ·have:=hx1 y e';have:=hy1 x e;lia
  subst e;congr 1;refine vt xs ys hx2 hy2 λz=>⟨λhz=>?_,λhz=>?_⟩
  ·rcases aZ.mp ((h z).mp (ak _ hz)) with e | e
   ·subst e;have:=hx1 z hz;lia
   ·exact e
  ·rcases aZ.mp ((h z).mpr (ak _ hz)) with e | e
   ·subst e;have:=hy1 z hz;lia
   ·exact e
theorem oP.sorted{bs:List Bool}{ws:List Nat}{bows ms out:List (Nat×Nat)}(S:oP bs bs.length ws bows)(b:kd bs)(M:hU bs bs.length ms)(hp:out.Perm bows)
  (hs:out.Pairwise (λa b=>a.1<b.1\/a.1=b.1/\a.2<=b.2)):out=ms:=by
 refine vt out ms ?_ M.inc λx=>(hp.mem_iff).trans (S.mem b M x);have nd:bows.Nodup:=S.inc.imp fun {a b} h e=>by rw[e] at h;lia
 have nd':out.Nodup:=(hp.nodup_iff).mpr nd;have key:∀l:List (Nat×Nat),(∀x∈l,iq bs x.1 x.2)->l.Nodup->l.Pairwise (λa b=>a.1<b.1\/a.1=b.1/\a.2<=b.2)->l.Pairwise (λa b=>a.1<b.1):=by
  intro l hm hn hq
  induction l with
  | nil=>exact .nil
  | cons a l ih=>
   obtain⟨h1,h2⟩:=ff.mp hq;obtain⟨n1,n2⟩:=ci.mp hn;refine ff.mpr ⟨λc hc=>?_,ih (λx hx=>hm x (ak _ hx)) n2 h2⟩;rcases h1 c hc with z | ⟨z,_⟩
   ·exact z
   ·have ma:=hm a aw;have mc:=hm c (ak _ hc);rw[<-z] at mc;have e:=ma.uniq mc;exact absurd (show c∈l from hc) (by rw[show c=a from lA z.symm e.symm];exact n1)
 exact key out (λx hx=>(S.mate x (hp.mem_iff.mp hx)).1) nd' hs
end Rm
namespace Rm
open PySem L2
theorem oP.ex{bs:List Bool}(b:kd bs):∀i,i<=bs.length->∃ws bw,oP bs i ws bw/\∀q,q<i->bs[q]? = some false->∃p,(p,q)∈bw
 | 0,_=>⟨[],[],oP.start bs,λq h=>by lia⟩
 | i+1,hi=>by
  obtain⟨ws,bw,S,c⟩:=oP.ex b i (by lia);have hb:bs[i]? = some bs[i]:=aL (by lia);cases e:bs[i] with
  | true=>
   rw[e] at hb;refine⟨_,_,S.opens hb,λq hq hf=>?_⟩;by_cases z:q=i
   ·subst z;rw[hb] at hf;cases hf
   ·exact c q (by lia) hf
  | false=>
   rw[e] at hb;obtain⟨ws',p,rfl⟩:=S.has b hb;refine⟨_,_,S.closes hb,λq hq hf=>?_⟩;by_cases z:q=i
   ·subst z;exact⟨p,by simp⟩
   ·obtain⟨p',hp⟩:=c q (by lia) hf;exact⟨p',ax _ hp⟩
theorem hU.closed{bs:List Bool}{ms:List (Nat×Nat)}(M:hU bs bs.length ms)(b:kd bs){q:Nat}(h:bs[q]? = some false):∃p,(p,q)∈ms:=by
 obtain⟨ws,bw,S,c⟩:=oP.ex b bs.length (aH _);obtain⟨p,hp⟩:=c q (aE.mp h).1 h;exact⟨p,(S.mem b M (p,q)).mp hp⟩
theorem hU.count{bs:List Bool}{ms:List (Nat×Nat)}(M:hU bs bs.length ms)(b:kd bs):2*ms.length=bs.length:=by
 obtain⟨ws,bw,S,c⟩:=oP.ex b bs.length (aH _);have hw:ws=[]:=by
  have:=S.wlen;rw[b.z] at this;exact eA (by lia)
 subst hw;have hl:=S.len;have nd1:bw.Nodup:=S.inc.imp fun {a b} h e=>by rw[e] at h;lia
 have nd2:ms.Nodup:=M.inc.imp fun {a b} h e=>by rw[e] at h;lia
 have hp:bw.Perm ms:=by
  rw[List.perm_iff_count];intro x;rw[nd1.count,nd2.count];by_cases h:x∈bw
  ·rw[MO h,MO ((S.mem b M x).mp h)]
  ·rw[MN h,MN (λz=>h ((S.mem b M x).mpr z))]
 have:=hp.length_eq;simp at hl;lia
theorem iq.noCross{bs:List Bool}{k m k' m':Nat}(a:iq bs k m)(b:iq bs k' m'):¬(k<k'/\k'<m/\m<m'):=λ⟨h1,h2,h3⟩=>by
 have e1:=a.gt k' h1 (by lia);have e2:=b.gt (m+1) (by lia) (by lia);have:=a.eq;lia
theorem sv{x:Int}{n:Nat}:x∈dW 0 n<->0<=x/\x<n:=by
 unfold dW;rw[af];constructor
 ·rintro⟨i,hi,rfl⟩;have:=aU.mp hi;lia
 ·rintro⟨h1,h2⟩;exact⟨x.toNat,aU.mpr (by lia),by lia⟩
theorem uR(n:Nat):(dW 0 n).Nodup:=by
 unfold dW List.Nodup;rw[b6];exact(cY (n:=n)).imp λh e=>h (by lia)
theorem yl{l:List Int}{n:Nat}(nd:l.Nodup)(h:∀x,x∈l<->0<=x/\x<n):l.Perm (dW 0 n):=by
 rw[List.perm_iff_count];intro x;rw[nd.count,(uR n).count];by_cases z:x∈l
 ·rw[MO z,MO (sv.mpr ((h x).mp z))]
 ·rw[MN z,MN (λy=>z ((h x).mpr (sv.mp y)))]
def dw(ps:List Bw):List Bool:=(List.range (2*ps.length)).map λe:Nat=>decide ((e:Int)∈ps.map (·.1))
def rq:Sp:=λvs H Q _=>∃l ps,vs=[.ref l]/\cK H l ps/\mC (wF ps)=true/\(∀p∈ps,∀q∈ps,bX p q=false)/\∀H',aX H H'->Q (.str (wd (dw ps))) H'
def sgn (b:Bool):Str:=if b then Str.ofString "(" else Str.ofString ")"
theorem mJ(b:Bool):(sgn b).cps=#[pX b]:=by
 unfold sgn;cases b
 ·rw[MN aY,lG];rfl
 ·rw[MO rfl,ke];rfl
theorem qQ:∀(bs:List Bool) (acc:Array Nat),(bs.map sgn).foldl (λacc p=>acc++(Str.ofString "").cps++p.cps) acc=acc++(bs.map pX).toArray
 | [],acc=>by simp
 | b::bs,acc=>by
  rw[bR,kM,qQ bs,mJ,oC];simp
theorem tK (bs:List Bool):Txt.join (Str.ofString "") (bs.map sgn)=wd bs:=by
 cases bs with
 | nil=>rfl
 | cons b bs=>
  show Str.mk (((((b::bs).map sgn).drop 1).foldl (λacc p=>acc++(Str.ofString "").cps++p.cps) (((b::bs).map sgn).headD Str.empty).cps))=_;rw[bR,List.drop_one,List.tail_cons,List.headD_cons,qQ,mJ];simp[wd]
end Rm
namespace L2
open PySem PySem.Spec PyProof.Rows
theorem nY{c:Prop} [Decidable c] {A B:Prop} (h:¬c) (b:B):if c then A else B:=by rw[MN h];exact b
theorem tO{c:Prop} [Decidable c] {A B:Prop} (h:c) (a:A):if c then A else B:=by rw[MO h];exact a
section
variable {X:Cx} {K:MU}
theorem zF(h:X.K=K):DS X (AD K):=h▸d9
theorem mV(h:X.K=K):DS X (CZ K):=h▸cw
theorem AJ(h:X.K=K)(hu:X.A.units+64<cLine):nN X (compareOp .NotEq) (uU K true):=h▸qw hu
theorem AK(h:X.K=K)(hu:X.A.units+64<cLine):nN X (compareOp .In) (C1 K false):=h▸yo hu
theorem pj (h:X.K=K):fX X (.builtin "len") (λxs H Q=>∃p ys,xs=[.ref p]/\(bp K H p ys\/cg K H p ys)/\Q (.int ys.length) H):=h▸bV
end
def uw (o:Obj) (xs:List Str):Prop:=o.cls=.type "tuple"/\∃its n,o.data=.seq its n/\its.size<=sizeLine/\bb (xs.map V.str) its.toList
theorem wN {o:Obj} {xs:List Str} {its:Array Value} {n:Nat} (h1:o.cls=.type "tuple") (h2:o.data=.seq its n) (h3:its.size<=sizeLine) (h4:bb (xs.map V.str) its.toList):uw o xs:=⟨h1,its,n,h2,h3,h4⟩
theorem zM{K:MU}{h:Heap}{mg:Str->Option Value}{x:Str}{a:Addr}{o:Obj}{xs:List Str}(X:K.In h)(G:h.Ns mainGlobals mg)(y:PySem.W.nsIn K mainGlobals x=some (some (.ref a)))(l:K.lookup a=some o)(t:uw o xs):
  ∃a,mg x=some (.ref a)/\∀H,cg K H a (xs.map V.str):=by
 obtain⟨h1,its,n,h2,h3,h4⟩:=t;exact⟨a,bM X G y,λH=>.inr ⟨o,its,n,l,h1,h2,h3,h4⟩⟩
def yO(K:MU)(xs:List V):TE:=λ_ H Q=>∀a,(∀H,cg K H a xs)->Q (.ref a) H
theorem zn{K:MU}{xs:List V}{σ:St}{H:Hp}{Q:VK}:yO K xs σ H Q=∀a,(∀H,cg K H a xs)->Q (.ref a) H:=rfl
def Dx(t u:TS):TS:=λD σ H=>∃J:St->Hp->Prop,t { D with nx:=J } σ H/\∀σ' H',J σ' H'->u D σ' H'
theorem xm{to ti:TE}{t:Aj}{v:V}{σ:St}{H:Hp}{q:St->Hp->Prop}:EU to ti t v σ H q=to σ H λo H1=>ti σ H1 λi H2=>t o i v H2 λH3=>q σ H3:=rfl
theorem cJ{t u:TS}{D:Ends}{σ:St}{H:Hp}(J:St->Hp->Prop)(h1:t { nx:=J,rt:=D.rt,bk:=D.bk,ct:=D.ct } σ H)(h2:∀σ' H',J σ' H'->u D σ' H'):Dx t u D σ H:=⟨J,h1,h2⟩
end L2
namespace Rm
open PySem PySem.W PyProof.Rows
section
variable {r:Nat->Int} {N:Nat} {cmp:Nat->Nat->(Bool->Shared->Prop)->Shared->Prop} {s:Shared}
def Told(r:Nat->Int)(N:Nat)(cmp:Nat->Nat->(Bool->Shared->Prop)->Shared->Prop)(s:Shared):Prop:=
 ∀i j,i<N->j<N->∀C:Bool->Shared->Prop,C (decide (r i<r j)) s->cmp i j C s
def In(N:Nat)(p:Array Nat):Prop:=p.size=N/\∀i,p.getD i 0<N
def Kk(r:Nat->Int)(p:Array Nat)(i:Nat):Int:=r (p.getD i 0)
def uB(r:Nat->Int)(p:Array Nat)(k:Nat):Prop:=∀i j,i<=j->j<k->Kk r p i<=Kk r p j
def Bc(r:Nat->Int)(p:Array Nat)(k:Nat):Prop:=∀i j,i<=j->j<k->Kk r p j<=Kk r p i
theorem lB{p q:Array Nat}{i j:Nat}(h:p[i]? = q[j]?):Kk r p i=Kk r q j:=by
 unfold Kk;rw[b9,b9,h]
theorem rS{p:Array Nat}{i j:Nat}(hj:j<=p.size)(k:Nat):Kk r (kas_rev p i j) k=if i<=k/\k<j then Kk r p (i+j - 1-k) else Kk r p k:=by
 have e:=getElem?_mirror_all (i:=i) hj k;unfold kas_rev;by_cases h1:i<=k/\k<j
 ·rw[MO h1] at e ⊢;exact lB e
 ·rw[MN h1] at e ⊢;exact lB e
theorem qh{p:Array Nat}{src d:Nat}(hs:src<p.size)(hd:d<=src)(k:Nat):Kk r (bubble p src d) k=if k=src-d then Kk r p src else if src-d<k/\k<=src then Kk r p (k - 1) else Kk r p k:=by
 have e:=getElem?_bubble hs d hd k;by_cases h1:k=src-d
 ·rw[MO h1] at e ⊢;exact lB e
 ·rw[MN h1] at e ⊢;by_cases h2:src-d<k/\k<=src
  ·rw[MO h2] at e ⊢;exact lB e
  ·rw[MN h2] at e ⊢;exact lB e
theorem In.of_perm{p q:Array Nat}(h:In N p)(hp:q.Perm p):In N q:=by
 refine⟨hp.size_eq.trans h.1,λi=>?_⟩;rw[b9];cases e:q[i]? with
 | none=>
  have:=h.2 N;rw[b9,kH (m8 h.1)] at this;exact this
 | some x=>
  have hx:x∈q:=kc e;have hx':x∈p:=hp.mem_iff.mp hx;obtain⟨j,hj,rfl⟩:=Array.mem_iff_getElem.mp hx';have:=h.2 j;rw[b9,dY hj] at this;exact this
theorem In.rev{p:Array Nat}(h:In N p)(i j:Nat):In N (kas_rev p i j):=h.of_perm (Ly _ _ _ _)
theorem pR(T:Told r N cmp s){G:Nat->Shared->Prop}{p:Array Nat}(hp:In N p):∀(f n:Nat),1<=n->uB r p n->(∀m,n<=m->m<=n+f->uB r p m->(m<n+f->Kk r p m<Kk r p (m - 1))->G m s)->(kas_asc p f n).kasWp cmp G s
 | 0,n,_,ha,hG=>hG n (aH _) (aH _) ha (λh=>absurd h (by lia))
 | f+1,n,h1,ha,hG=>by
  refine T _ _ (hp.2 _) (hp.2 _) _ ?_;by_cases c:Kk r p n<Kk r p (n - 1)
  ·have c':r (p.getD n 0)<r (p.getD (n - 1) 0):=c;rw[decide_eq_true c'];exact hG n (aH _) (by lia) ha λ_=>c
  ·have c':¬r (p.getD n 0)<r (p.getD (n - 1) 0):=c;rw[MQ c'];refine pR T hp f (n+1) (by lia) (λi j hij hj=>?_) λm a b c2 d=>hG m (by lia) (by lia) c2 λe=>d (by lia);by_cases e:j=n
   ·subst e;by_cases e2:i=j
    ·subst e2;exact dh _
    ·have:=ha i (j - 1) (by lia) (by lia);lia
   ·exact ha i j hij (by lia)
def DJ(r:Nat->Int)(p:Array Nat)(n q:Nat):Prop:=q<n/\∀k,n-(q+1)<=k->k<n->Kk r p k=Kk r p (n - 1)
theorem sN{p:Array Nat}{n q:Nat}(hn:n<=p.size)(h:DJ r p n q)(k:Nat):Kk r (kas_rev p (n-(q+1)) n) k=Kk r p k:=by
 rw[rS hn]
 split
 ·rw[h.2 _ (by have:=h.1;lia) (by lia),h.2 k (by lia) (by lia)]
 ·rfl
theorem Bc.same{p p':Array Nat}{n:Nat}(h:Bc r p n)(e:∀k,Kk r p' k=Kk r p k):Bc r p' n:=λi j a b=>by rw[e,e];exact h i j a b
theorem nI(T:Told r N cmp s){G:Array Nat×Nat×Nat->Shared->Prop}:∀(f:Nat) (p:Array Nat) (n q:Nat),In N p->n+f<=N->Bc r p n->DJ r p n q →
  (∀p' n' q',p'.Perm p->n<=n'->n'<=n+f->Bc r p' n'->DJ r p' n' q'->G (p',n',q') s)->(kas_desc f p n q).kasWp cmp G s
 | 0,p,n,q,_,_,hd,ht,hG=>hG p n q (.refl _) (aH _) (aH _) hd ht
 | f+1,p,n,q,hp,hN,hd,ht,hG=>by
  refine T _ _ (hp.2 _) (hp.2 _) _ ?_;by_cases c:Kk r p n<Kk r p (n - 1)
  ·have c':r (p.getD n 0)<r (p.getD (n - 1) 0):=c;rw[decide_eq_true c'];have hq:=ht.1;have grow:∀p':Array Nat,p'.Perm p->(∀k,Kk r p' k=Kk r p k)->(kas_desc f p' (n+1) 0).kasWp cmp G s:=λp' hpp e=>by
    refine nI T f p' (n+1) 0 (hp.of_perm hpp) (by lia) (λi j hij hj=>?_) ⟨by lia,λk h1 h2=>by have e9:k=n:=(by lia);rw[e9];rfl⟩ λp2 n2 q2 a b c2 d e2=>hG p2 n2 q2 (a.trans hpp) (by lia) (by lia) d e2;rw[e,e];by_cases e3:j=n
    ·subst e3;by_cases e4:i=j
     ·subst e4;exact dh _
     ·have:=hd i (j - 1) (by lia) (by lia);lia
    ·exact hd i j hij (by lia)
   show KasT.kasWp cmp (if true=true then (if q > 0 then kas_desc f (kas_rev p (n-(q+1)) n) (n+1) 0 else kas_desc f p (n+1) 0) else _) G s;rw[MO rfl]
   split
   ·exact grow _ (Ly _ _ _ _) (sN (by rw[hp.1];lia) ht)
   ·exact grow p (.refl _) λ_=>rfl
  ·have c':¬r (p.getD n 0)<r (p.getD (n - 1) 0):=c;rw[MQ c'];show KasT.kasWp cmp (if false=true then _ else KasT.ask (p.getD (n - 1) 0) (p.getD n 0) λd=>if d=true then .ret (p,n,q) else kas_desc f p (n+1) (q+1)) G s;rw[MN (by simp)];refine T _ _ (hp.2 _) (hp.2 _) _ ?_;by_cases d:Kk r p (n - 1)<Kk r p n
   ·have d':r (p.getD (n - 1) 0)<r (p.getD n 0):=d;rw[decide_eq_true d'];exact hG p n q (.refl _) (aH _) (by lia) hd ht
   ·have d':¬r (p.getD (n - 1) 0)<r (p.getD n 0):=d;rw[MQ d'];have hq:=ht.1;have eq:Kk r p n=Kk r p (n - 1):=by lia
    refine nI T f p (n+1) (q+1) hp (by lia) (λi j hij hj=>?_) ⟨by lia,λk h1 h2=>?_⟩ λp2 n2 q2 a b c2 d2 e2=>hG p2 n2 q2 a (by lia) (by lia) d2 e2
    ·by_cases e3:j=n
     ·subst e3;by_cases e4:i=j
      ·subst e4;exact dh _
      ·have:=hd i (j - 1) (by lia) (by lia);lia
     ·exact hd i j hij (by lia)
    ·show Kk r p k=Kk r p n;by_cases e3:k=n
     ·rw[e3]
     ·rw[eq];exact ht.2 k (by lia) (by lia)
def DU(r:Nat->Int)(p:Array Nat)(nrem:Nat)(G:Nat×Array Nat->Shared->Prop)(s:Shared):Prop:=∀n p',p'.Perm p->1<=n->n<=nrem->uB r p' n->G (n,p') s
theorem oW(T:Told r N cmp s){G:Nat×Array Nat->Shared->Prop}{p:Array Nat}{n:Nat}(hp:In N p)(h1:1<=n)(hn:n<=N)(hd:Bc r p n)(hG:DU r p N G s):(kas_tail3 n N p).kasWp cmp G s:=by
 unfold kas_tail3;rw[KasT.kasWp_bind];refine pR T (hp.rev 0 n) (N-n) n h1 (λi j hij hj=>?_) λm a b c _=>hG m _ (Ly _ _ _ _) (by lia) (by lia) c;rw[rS (by rw[hp.1];exact hn),rS (by rw[hp.1];exact hn),MO (by lia),MO (by lia)];exact hd _ _ (by lia) (by lia)
theorem DU.perm{p q:Array Nat}{G:Nat×Array Nat->Shared->Prop}(h:DU r p N G s)(hp:q.Perm p):DU r q N G s:=λn p' a b c d=>h n p' (a.trans hp) b c d
theorem l0(T:Told r N cmp s){G:Nat×Array Nat->Shared->Prop}{p:Array Nat}{n:Nat}(hp:In N p)(hn:n+1<=N)(h1:1<=n)(hd:Bc r p (n+1))(hG:DU r p N G s):(kas_descPart n N p).kasWp cmp G s:=by
 unfold kas_descPart;rw[KasT.kasWp_bind];refine nI T _ p (n+1) 0 hp (by lia) hd ⟨by lia,λk a b=>by have e9:k=n:=(by lia);rw[e9];rfl⟩ λp' n' q' a b c d e=>?_;dsimp only;have hp':=hp.of_perm a
 split
 ·exact oW T (hp'.rev _ _) (by lia) (by lia) (d.same (sN (by rw[hp'.1];lia) e)) (hG.perm ((Ly _ _ _ _).trans a))
 ·exact oW T hp' (by lia) (by lia) d (hG.perm a)
theorem uo(T:Told r N cmp s){G:Nat×Array Nat->Shared->Prop}{p:Array Nat}(hp:In N p)(hN:1<=N)(hG:DU r p N G s):(kas_count N p).kasWp cmp G s:=by
 unfold kas_count;rw[KasT.kasWp_bind];refine pR T hp (N - 1) 1 (aH _) (λi j a b=>by have e9:i=j:=(by lia);rw[e9];exact dh _) λn h1 h2 ha hb=>?_;by_cases e:n=N
 ·subst e;rw[MO (by simp)];exact hG n p (.refl _) h1 (aH _) ha
 ·rw[MN (by simp[e])];have hlt:=hb (by lia)
  split
  ·refine T _ _ (hp.2 _) (hp.2 _) _ ?_;by_cases c:Kk r p 0<Kk r p (n - 1)
   ·have c':r (p.getD 0 0)<r (p.getD (n - 1) 0):=c;rw[decide_eq_true c'];exact hG n p (.refl _) h1 (by lia) ha
   ·have c':¬r (p.getD 0 0)<r (p.getD (n - 1) 0):=c;rw[MQ c'];have alike:∀k,k<n->Kk r p k=Kk r p (n - 1):=λk hk=>by
     have a1:=ha 0 k (by lia) hk;have a2:=ha k (n - 1) (by lia) (by lia);lia
    have same:∀k,Kk r (kas_rev p 0 n) k=Kk r p k:=λk=>by
     rw[rS (by rw[hp.1];lia)]
     split
     ·rw[alike _ (by lia),alike k (by lia)]
     ·rfl
    refine l0 T (hp.rev 0 n) (by lia) h1 (Bc.same (p:=p) (λi j hij hj=>?_) same) (hG.perm (Ly _ _ _ _));by_cases e3:j=n
    ·subst e3;by_cases e4:i=j
     ·subst e4;exact dh _
     ·rw[alike i (by lia)];lia
    ·rw[alike i (by lia),alike j (by lia)];exact dh _
  ·have:n=1:=by lia
   subst this;refine l0 T hp (by lia) (aH _) (λi j hij hj=>?_) hG;have hj':j=0\/j=1:=by lia
   have hi':i=0\/i=1:=by lia
   rcases hj' with rfl | rfl<;>rcases hi' with rfl | rfl
   ·exact dh _
   ·lia
   ·have:Kk r p 1<Kk r p 0:=hlt;lia
   ·exact dh _
theorem place_spec(T:Told r N cmp s){G:Nat->Shared->Prop}{p:Array Nat}{k:Nat}(hp:In N p)(hs:uB r p k):∀(f l e:Nat),e<=k->e<=l+f->l<=e->(∀i,i<l->Kk r p i<=Kk r p k)->(∀i,e<=i->i<k->Kk r p k<Kk r p i) →
  (∀l,l<=k->(∀i,i<l->Kk r p i<=Kk r p k)->(∀i,l<=i->i<k->Kk r p k<Kk r p i)->G l s)->(kas_place p k f l e).kasWp cmp G s
 | 0,l,e,h1,h2,h3,h4,h5,hG=>by
  have:l=e:=by lia
  subst this;exact hG l h1 h4 h5
 | f+1,l,e,h1,h2,h3,h4,h5,hG=>by
  unfold kas_place
  split
  ·have:l=e:=by lia
   subst this;exact hG l h1 h4 h5
  ·refine T _ _ (hp.2 _) (hp.2 _) _ ?_;by_cases c:Kk r p k<Kk r p ((l+e) / 2)
   ·have c':r (p.getD k 0)<r (p.getD ((l+e) / 2) 0):=c;rw[decide_eq_true c'];refine place_spec T hp hs f l ((l+e) / 2) (by lia) (by lia) (by lia) h4 (λi a b=>?_) hG;have:=hs ((l+e) / 2) i a b;lia
   ·have c':¬r (p.getD k 0)<r (p.getD ((l+e) / 2) 0):=c;rw[MQ c'];refine place_spec T hp hs f ((l+e) / 2+1) e h1 (by lia) (by lia) (λi a=>?_) h5 hG;have:=hs i ((l+e) / 2) (by lia) (by lia);lia
theorem uv{p:Array Nat}{k l:Nat}(hk:k<p.size)(hs:uB r p k)(hl:l<=k)(h1:∀i,i<l->Kk r p i<=Kk r p k)(h2:∀i,l<=i->i<k->Kk r p k<Kk r p i):uB r (bubble p k (k-l)) (k+1):=λi j hij hj=>by
 rw[qh hk (by lia),qh hk (by lia)];have e:k-(k-l)=l:=by lia
 rw[e];by_cases i1:i=l
 ·rw[MO i1];by_cases j1:j=l
  ·rw[MO j1];exact dh _
  ·rw[MN j1,MO (by lia)];have:=h2 (j - 1) (by lia) (by lia);lia
 ·rw[MN i1];by_cases i2:l<i/\i<=k
  ·rw[MO i2,MN (by lia),MO (by lia)];exact hs _ _ (by lia) (by lia)
  ·rw[MN i2];by_cases j1:j=l
   ·rw[MO j1];exact h1 i (by lia)
   ·rw[MN j1];by_cases j2:l<j/\j<=k
    ·rw[MO j2];exact hs _ _ (by lia) (by lia)
    ·rw[MN j2];exact hs _ _ (by lia) (by lia)
theorem tq(T:Told r N cmp s){G:Array Nat->Shared->Prop}:∀(f:Nat) (p:Array Nat) (k:Nat),In N p->k+f=N->uB r p k->(∀p',p'.Perm p->uB r p' N->G p' s)->(kas_bin f p k).kasWp cmp G s
 | 0,p,k,hp,hk,hs,hG=>hG p (.refl _) (by have e9:k=N:=(by lia);rw[<-e9];exact hs)
 | f+1,p,k,hp,hk,hs,hG=>by
  unfold kas_bin;rw[KasT.kasWp_bind];refine place_spec T hp hs k 0 k (aH _) (by lia) (by lia) (λi h=>absurd h (by lia)) (λi h h'=>absurd h' (by lia)) λl h1 h2 h3=>?_;refine tq T f _ (k+1) (hp.of_perm (bubble_perm _ _ _)) (by lia) (uv (by rw[hp.1];lia) hs h1 h2 h3) λp' a b=>hG p' (a.trans (bubble_perm _ _ _)) b
theorem wO(T:Told r N cmp s){G:Array Nat->Shared->Prop}(hN:1<=N)(hG:∀p:Array Nat,p.Perm (List.toArray (List.range N))->uB r p N->G p s):(kas_sort N).kasWp cmp G s:=by
 have h0:In N (List.toArray (List.range N)):=⟨by simp,λi=>by
  rw[b9];cases e:(List.toArray (List.range N))[i]? with
  | none=>exact hN
  | some x=>
   have:=kc e;simpa using this⟩
 unfold kas_sort;rw[KasT.kasWp_bind];refine uo T h0 hN λn p a b c d=>?_;dsimp only;have hp:=h0.of_perm a
 split
 ·have e:max n 1=n:=by lia
  rw[e];exact tq T _ p n hp (by lia) d λp' x y=>hG p' (x.trans a) y
 ·have:n=N:=by lia
  subst this;exact hG p a d
end
section
variable {prog:Program} {w:World} {A:Around} {E:Value->Shared->Prop} {s:Shared}
def ie(vs:List Value)(p:Array Nat):Array Value:=List.toArray (p.toList.map λi=>vs.getD i Value.none)
theorem wQ:∀vs:List Value,vs.length<2->(vs.toArray.zip vs.toArray).map (·.2)=ie vs (List.toArray (List.range vs.length))
 | [],_=>by simp[ie]
 | [v],_=>by simp[ie]
 | _::_::_,h=>by simp at h;lia
def Kp(a:Addr)(h h':Heap):Prop:=∀b o,b≠a->h.get? b=some o->h'.get? b=some o
theorem pF {a:Addr} {vs:List Value} {n:Nat} {P:PySem.Fin->Shared->Prop} {r:Nat->Int} (κ:SortKind) (ho:s.heap.get? a=some (seqObj "list" vs.toArray n)) (h64:vs.length<64)
  (hk:2<=vs.length->∀(h':Heap) (Q:SortKind->Shared->Prop),Kp a s.heap h'->Q κ { s with heap:=h' }->wpAny (model prog w) A (keyKind' vs.toArray) Q E { s with heap:=h' })
  (hc:∀i j,i<vs.length->j<vs.length->∀(h':Heap) (C:Bool->Shared->Prop),Kp a s.heap h'->C (decide (r i<r j)) { s with heap:=h' }->wpAny (model prog w) A (keyLt' κ (vs.getD i Value.none) (vs.getD j Value.none)) C (λ_ _=>False) { s with heap:=h' })
  (h:∀p:Array Nat,p.Perm (List.toArray (List.range vs.length))->uB r p vs.length->P (.done (.ret .none)) { s with heap:=sortedHeap s.heap a vs (ie vs p) }) :
  wpAny (model prog w) A (Builtin.«list.sort» ⟨[.ref a],[]⟩) P E s:=by
 rw[list_sort_plain];have ha:a<s.heap.objs.size:=aM ho;refine wpAny_bind (listItems_at ho rfl ?_);refine wpAny_bind (listUpdate_at ho rfl ?_);obtain⟨e1,ho1⟩:∃e1,(s.heap.update a (Obj.mapSeq λ_=>#[])).get? a=some (seqObj "list" #[] e1):=⟨_,get?_update_seq ho (λ_=>#[])⟩
 refine wpAny_bind (seqEpoch_at ho1 rfl ?_);refine wpAny_bind (wpAny_newTuple ?_);refine wpAny_bind (wpAny_newList ?_);refine Lz ?_;have ho6:(((s.heap.update a (Obj.mapSeq λ_=>#[])).push (seqObj "tuple" vs.toArray 0)).push (seqObj "list" #[] 0)).get? a=some (seqObj "list" #[] e1):=by
  rw[gP _ _ _ (by rw[size_push',ji];exact ac (cP ha)),gP _ _ _ (by rw[ji];exact ac ha)];exact ho1
 have kp6:Kp a s.heap (((s.heap.update a (Obj.mapSeq λ_=>#[])).push (seqObj "tuple" vs.toArray 0)).push (seqObj "list" #[] 0)):=λb o hb e=>
  aD _ (aD _ (by rw[Heap.get?_update_ne _ _ _ _ hb];exact e))
 show wpAny (model prog w) A _ P E { s with heap:=((s.heap.update a (Obj.mapSeq λ_=>#[])).push (seqObj "tuple" vs.toArray 0)).push (seqObj "list" #[] 0) };dsimp only;have hsz:vs.toArray.size=vs.length:=by simp
 by_cases h2:vs.toArray.size<2
 ·rw[MO h2,MO h2];refine wpAny_bind (Lq ?_);rw[StateT.run_pure];refine wpAny_bind (Lq ?_);dsimp only;refine wpAny_bind (seqEpoch_at ho6 rfl ?_);refine wpAny_bind (listUpdate_at ho6 rfl ?_ (hsz2:=by rw[Array.size_map];show (pairsOf vs).size<=_;rw[pairsOf_size,Lr];lia));simp only[bne_self_eq_false,bP,MT];have e:(arrOf (SortSt.mk' general' (vs.toArray.zip vs.toArray) #[] 7 none)).map (·.2)=ie vs (List.toArray (List.range vs.length)):=by
   exact wQ vs (by lia)
  rw[e];refine Lq (h (List.toArray (List.range vs.length)) (Array.Perm.refl _) ?_);intro i j hij hj;have e9:i=j:=by lia
  rw[e9];exact dh _
 ·rw[MN h2,MN h2];refine wpAny_bind (hk (by lia) _ _ kp6 ?_);have T:Told r vs.length (kas_ask prog w A κ vs) { s with heap:=((s.heap.update a (Obj.mapSeq λ_=>#[])).push (seqObj "tuple" vs.toArray 0)).push (seqObj "list" #[] 0) }:=λi j hi hj C hC=>hc i j hi hj _ C kp6 hC;refine wpAny_bind (Lo (kat_run (ks:=vs) (vs:=vs) (Q:=λst' s'=>s'={ s with heap:=((s.heap.update a (Obj.mapSeq λ_=>#[])).push (seqObj "tuple" vs.toArray 0)).push (seqObj "list" #[] 0) }/\∃p:Array Nat,p.size=vs.length/\arrOf st'=p.map (kas_item (vs.toArray.zip vs.toArray))/\failedOf st'=none/\p.Perm (List.toArray (List.range vs.length))/\uB r p vs.length)
   (G:=λp s'=>s'={ s with heap:=((s.heap.update a (Obj.mapSeq λ_=>#[])).push (seqObj "tuple" vs.toArray 0)).push (seqObj "list" #[] 0) }/\p.Perm (List.toArray (List.range vs.length))/\uB r p vs.length)
   rfl (by lia) h64 (λp' st' s' a1 a2 a3 a4=>⟨a4.1,p',a1,a2,a3,a4.2⟩) (wO T (by lia) λp hp ha=>⟨rfl,hp,ha⟩)) ?_ λ_ _ e=>e)
  rintro⟨⟨⟩,st'⟩ s' ⟨rfl,p,hps,har,hf,hp,hs⟩;dsimp only;have hout:=kat_snds (ks:=vs) (vs:=vs) rfl har;rw[hout];refine wpAny_bind (seqEpoch_at ho6 rfl ?_);refine wpAny_bind (listUpdate_at ho6 rfl ?_ (hsz2:=by rw[aQ,aF,iQ,hps,Lr];lia));rw[hf];simp only[bne_self_eq_false,bP,MT];exact Lq (h p hp hs)
theorem kf {l:Addr} {vs:List Value} {Q:Value->Shared->Prop} {r:Nat->Int} (κ:SortKind) (hcol:∀(A:Around) (E:Value->Shared->Prop) (Q:List Value->Shared->Prop),Q vs { s with heap:=(s.heap.push (seqObj "list" #[] 0)).update s.heap.objs.size (Obj.mapSeq (·++vs.toArray)) }->wpAny (model prog w) A (collect (.ref l)) Q E s) (h64:vs.length<64)
  (hk:2<=vs.length->∀(h':Heap) (Q:SortKind->Shared->Prop),(∀b o,s.heap.get? b=some o->h'.get? b=some o)->Q κ { s with heap:=h' }->wpAny (model prog w) A.in1.in1 (keyKind' vs.toArray) Q (λ_ _=>False) { s with heap:=h' })
  (hc:∀i j,i<vs.length->j<vs.length->∀(h':Heap) (C:Bool->Shared->Prop),(∀b o,s.heap.get? b=some o->h'.get? b=some o)->C (decide (r i<r j)) { s with heap:=h' }->wpAny (model prog w) A.in1.in1 (keyLt' κ (vs.getD i Value.none) (vs.getD j Value.none)) C (λ_ _=>False) { s with heap:=h' })
  (h:∀p:Array Nat,p.Perm (List.toArray (List.range vs.length))->uB r p vs.length->Q (.ref (s.heap.objs.size+1)) { s with heap:=sortedAll s.heap vs (ie vs p) }) :
  wpAny (model prog w) A (call (.builtin "sorted") [.ref l]) Q E s:=by
 refine Calls.call_function_entry kind_sorted plain_sorted entry_sorted (args_sorted1 _) ?_;unfold Builtin.«sorted»;refine wpAny_bind (m:=checkCount "sorted" 1 1 _) (Lq ?_);refine wpAny_bind (hcol _ _ _ ?_);refine wpAny_bind (wpAny_newList ?_);have hsz:((s.heap.push (seqObj "list" #[] 0)).update s.heap.objs.size (Obj.mapSeq (·++vs.toArray))).objs.size=s.heap.objs.size+1:=by
  rw[ji,size_push']
 have hoL:(((s.heap.push (seqObj "list" #[] 0)).update s.heap.objs.size (Obj.mapSeq (·++vs.toArray))).push (seqObj "list" vs.toArray 0)).get? (s.heap.objs.size+1)=some (seqObj "list" vs.toArray 0):=by
  rw[<-hsz];exact aP _ rfl
 have keep:∀b o,s.heap.get? b=some o->(((s.heap.push (seqObj "list" #[] 0)).update s.heap.objs.size (Obj.mapSeq (·++vs.toArray))).push (seqObj "list" vs.toArray 0)).get? b=some o:=λb o q=>by
  have hlt:b<s.heap.objs.size:=aM q;rw[gP _ _ _ (by rw[hsz];exact ac (cP hlt)),Heap.get?_update_ne _ _ _ _ (ac hlt),gP _ _ _ (ac hlt)];exact q
 have keep2:∀h',Kp (s.heap.objs.size+1) (((s.heap.push (seqObj "list" #[] 0)).update s.heap.objs.size (Obj.mapSeq (·++vs.toArray))).push (seqObj "list" vs.toArray 0)) h'->∀b o,s.heap.get? b=some o->h'.get? b=some o:=λh' k b o q=>
  k b o (ac (cP (aM q))) (keep b o q)
 show wpAny _ _ _ _ _ { s with heap:=((s.heap.push (seqObj "list" #[] 0)).update s.heap.objs.size (Obj.mapSeq (·++vs.toArray))).push (seqObj "list" vs.toArray 0) };rw[hsz];refine wpAny_bind (Lz (MA slot_list_sort ⟨_,hoL,rfl⟩ entry_list_sort (pF (r:=r) κ hoL h64 (λh2 h' Q k q=>?_) (λi j hi hj h' C k q=>?_) λp hp ha=>⟨_,rfl,?_⟩) (args_list_sort _)))
 ·exact Lo (hk h2 h' Q (keep2 h' k) q) (λ_ _ z=>z) λ_ _ z=>z.elim
 ·exact hc i j hi hj h' C (keep2 h' k) q
 ·exact Lq ⟨_,rfl,h p hp ha⟩
theorem nU{l:Addr}{vs:List Value}{Q:Value->Shared->Prop}{r:Nat->Int}(κ:SortKind)(hl:s.heap.IsList l vs.toArray)(h64:vs.length<64)
  (hk:2<=vs.length->∀(h':Heap) (Q:SortKind->Shared->Prop),(∀b o,s.heap.get? b=some o->h'.get? b=some o)->Q κ { s with heap:=h' }->wpAny (model prog w) A.in1.in1 (keyKind' vs.toArray) Q (λ_ _=>False) { s with heap:=h' })
  (hc:∀i j,i<vs.length->j<vs.length->∀(h':Heap) (C:Bool->Shared->Prop),(∀b o,s.heap.get? b=some o->h'.get? b=some o)->C (decide (r i<r j)) { s with heap:=h' }->wpAny (model prog w) A.in1.in1 (keyLt' κ (vs.getD i Value.none) (vs.getD j Value.none)) C (λ_ _=>False) { s with heap:=h' })
  (h:∀p:Array Nat,p.Perm (List.toArray (List.range vs.length))->uB r p vs.length->Q (.ref (s.heap.objs.size+1)) { s with heap:=sortedAll s.heap vs (ie vs p) }) :
  wpAny (model prog w) A (call (.builtin "sorted") [.ref l]) Q E s:=
 kf κ (λA E Q q=>collect_list hl q (by rw[Lr];lia)) h64 hk hc h
theorem t7{l:Addr}{vs:List Value}{Q:List Value->Shared->Prop}(hl:IsTup s.heap l vs.toArray)
  (h:Q vs { s with heap:=(s.heap.push (seqObj "list" #[] 0)).update s.heap.objs.size (Obj.mapSeq (·++vs.toArray)) }) (hsz:vs.length<=sizeLine) :
  wpAny (model prog w) A (collect (.ref l)) Q E s:=by
 obtain⟨o,ho,hc,n,hd⟩:=id hl;unfold collect;refine wpAny_bind (wpAny_runValue (codeAny_builtin entry_proto_collect' ?_));show wpAny _ _ (do again (.builtin "list.__iadd__" ⟨[<-newList [],.ref l],[]⟩)) _ _ s;refine wpAny_bind (wpAny_newList (Lq ⟨Code.quiet_builtin _ (by decide +kernel),codeAny_builtin entry_list_iadd' ?_⟩));show wpAny _ _ (Builtin.List.listExtendWith (.ref s.heap.objs.size) (.ref l) (.ref s.heap.objs.size)) _ _ { s with heap:=s.heap.push (seqObj "list" #[] 0) };unfold Builtin.List.listExtendWith;have ho':(s.heap.push (seqObj "list" #[] 0)).get? l=some o:=aD _ ho;refine wpAny_bind (wpAny_typeOf (T:="tuple") ⟨o,ho',hc⟩ ?_);have ht:(Value.type "tuple"==Value.type "tuple")=true:=by rfl
 rw[MO (by rw[ht];simp)];refine wpAny_bind (listItems_at ho' hd ?_);refine wpAny_bind (listItems_at (xs:=#[]) (n:=0) (aP _ rfl) rfl ?_);rw[MN (by simp)];refine wpAny_bind (listUpdate_at (xs:=#[]) (n:=0) (aP _ rfl) rfl ?_ (bH _) (by show (#[]++vs.toArray).size<=sizeLine+1;simp only[jT,aQ,kL];lia));refine Lq ?_;show wpAny (model prog w) A (do
   let o <-load s.heap.objs.size
   match o.data with
   | .seq xs _=>pure xs.toList
   | _=>unsupported "internal:collect") Q E { s with heap:=(s.heap.push (seqObj "list" #[] 0)).update s.heap.objs.size (Obj.mapSeq (·++vs.toArray)) }
 refine wpAny_bind (wpAny_load (get?_update_seq (aP _ rfl) _) ?_);show wpAny _ _ (pure ((#[]:Array Value)++vs.toArray).toList) Q E _;rw[show ((#[]:Array Value)++vs.toArray).toList=vs by simp];exact Lq h
theorem qk{l:Addr}{vs:List Value}{Q:Value->Shared->Prop}{r:Nat->Int}(κ:SortKind)(hl:IsTup s.heap l vs.toArray)(h64:vs.length<64)
  (hk:2<=vs.length->∀(h':Heap) (Q:SortKind->Shared->Prop),(∀b o,s.heap.get? b=some o->h'.get? b=some o)->Q κ { s with heap:=h' }->wpAny (model prog w) A.in1.in1 (keyKind' vs.toArray) Q (λ_ _=>False) { s with heap:=h' })
  (hc:∀i j,i<vs.length->j<vs.length->∀(h':Heap) (C:Bool->Shared->Prop),(∀b o,s.heap.get? b=some o->h'.get? b=some o)->C (decide (r i<r j)) { s with heap:=h' }->wpAny (model prog w) A.in1.in1 (keyLt' κ (vs.getD i Value.none) (vs.getD j Value.none)) C (λ_ _=>False) { s with heap:=h' })
  (h:∀p:Array Nat,p.Perm (List.toArray (List.range vs.length))->uB r p vs.length->Q (.ref (s.heap.objs.size+1)) { s with heap:=sortedAll s.heap vs (ie vs p) }) :
  wpAny (model prog w) A (call (.builtin "sorted") [.ref l]) Q E s:=
 kf κ (λA E Q q=>t7 hl q (by rw[Lr];lia)) h64 hk hc h
end
end Rm
namespace Rm
open PySem PySem.W PyProof.Rows L2
theorem lE:∀{as:List Addr} {us:List Value},bb (as.map V.ref) us->us=as.map Value.ref
 | [],_,.nil=>rfl
 | a::as,u::us,.cons r t=>by
  have e:u=Value.ref a:=r;rw[e,lE t];rfl
theorem wX(as:List Addr):bb (as.map V.ref) (as.map Value.ref):=by
 induction as with
 | nil=>exact .nil
 | cons a as ih=>exact .cons rfl ih
def Ai (h:Heap) (a:Addr) (p:Bw):Prop:=∃o t u n,h.get? a=some o/\o.cls=.type "tuple"/\o.data=.seq #[.int p.1 t,.int p.2 u] n
theorem CC{X:Cx}{pins:List (Addr×Obj)}{σ:L2.St}{H:Hp}{s:Shared}(I:bE X pins σ H s){a:Addr}{p:Bw}(h:d6 H a p):Ai s.heap a p:=by
 obtain⟨_,its,v,o,e,c,n,d⟩:=I.hok a _ h;obtain⟨u,w,rfl,⟨t,rfl⟩,t',rfl⟩:=bb.two v;exact⟨o,t,t',n,e,c,by rw[d]⟩
theorem Ai.kept{h h':Heap}{a:Addr}{p:Bw}(x:Ai h a p)(k:∀b o,h.get? b=some o->h'.get? b=some o):Ai h' a p:=by
 obtain⟨o,t,u,n,e,c,d⟩:=x;exact⟨o,t,u,n,k _ _ e,c,d⟩
theorem rh{h:Heap}:∀{as:List Addr} {ps:List Bw},Paired (Ai h) as ps->∃fs,KatTups h (as.map Value.ref) fs/\fs.length=as.length/\∀v∈fs,∃n t,v=Value.int n t
 | _,_,.nil=>⟨[],KatTups.nil,rfl,(λv hv=>nomatch hv)⟩
 | _,_,.cons r t=>by
  obtain⟨o,t1,u1,n,e,c,d⟩:=r;obtain⟨fs,h1,h2,h3⟩:=rh t;exact⟨.int _ t1::fs,KatTups.cons e c d rfl h1,by simp[h2],λv hv=>by
   rcases aZ.mp hv with rfl | hv
   ·exact⟨_,_,rfl⟩
   ·exact h3 v hv⟩
def iK(p:Bw):Int:=p.1*1000+p.2
def kB:SortKind:=tuples' (Value.type "int" != Value.type "tuple")
theorem CD{prog:Program}{w:World}{A:Around}{s:Shared}{a b:Addr}{p q:Bw}{C:Bool->Shared->Prop}(ha:Ai s.heap a p)(hb:Ai s.heap b q)(hp:0<=p.2/\p.2<1000)(hq:0<=q.2/\q.2<1000)
  (h:C (decide (iK p<iK q)) s):wpAny (model prog w) A (keyLt' kB (.ref a) (.ref b)) C (λ_ _=>False) s:=by
 obtain⟨oa,t,u,n,ea,ca,da⟩:=ha;obtain⟨ob,t',u',n',eb,cb,db⟩:=hb;refine kat_lt ea da eb db ?_;show KatLex prog w A _ _ C [(Value.int p.1 t,Value.int q.1 t'),(Value.int p.2 u,Value.int q.2 u')] 0 s;refine kat_cons (wpAny_eqBool_int (kat_go (λe=>?_) (λe=>?_)))
 ·have e1:p.1=q.1:=by simpa using e
  refine kat_yes (kat_cons (wpAny_eqBool_int (kat_go (λe=>?_) (λe=>?_))))
  ·have e2:p.2=q.2:=by simpa using e
   refine kat_yes (kat_nil ?_);have z:decide (iK p<iK q)=false:=MQ (by unfold iK;lia);rw[z] at h;exact h
  ·have e2:¬p.2=q.2:=by simpa using e
   refine kat_no ?_;have z:decide (iK p<iK q)=decide (p.2<q.2):=by
    by_cases y:p.2<q.2
    ·rw[decide_eq_true y,decide_eq_true (by unfold iK;lia)]
    ·rw[MQ y,MQ (by unfold iK;lia)]
   rw[z] at h;have b0:((Value.type "int" != Value.type "tuple")&&((0+1:Nat)==0))=false:=by decide
   rw[b0];exact kat_one _ _ (lt_int h)
 ·have e1:¬p.1=q.1:=by simpa using e
  refine kat_no ?_;have z:decide (iK p<iK q)=decide (p.1<q.1):=by
   by_cases y:p.1<q.1
   ·rw[decide_eq_true y,decide_eq_true (by unfold iK;lia)]
   ·rw[MQ y,MQ (by unfold iK;lia)]
  rw[z] at h;have b0:((Value.type "int" != Value.type "tuple")&&((0:Nat)==0))=true:=by decide
  rw[b0];exact oneLt_int h
def pick{α:Type}(d:α)(xs:List α)(p:Array Nat):List α:=p.toList.map λi=>xs.getD i d
theorem lO{α:Type}(d:α)(xs:List α){p:Array Nat}(hp:p.Perm (List.toArray (List.range xs.length))):(pick d xs p).Perm xs:=by
 have h1:p.toList.Perm (List.range xs.length):=by simpa using fI.mp hp
 have h2:=h1.map λi=>xs.getD i d;have e:(List.range xs.length).map (λi=>xs.getD i d)=xs:=by
  apply jg
  ·simp
  ·intro i h1 h2;simp at h1;simp[h1]
 rw[e] at h2;exact h2
theorem sU{α β:Type}{R:α->β->Prop}(d:α)(e:β){xs:List α}{ys:List β}(h:Paired R xs ys){p:Array Nat}(hp:∀i∈p.toList,i<xs.length):Paired R (pick d xs p) (pick e ys p):=by
 unfold pick
 revert hp
 induction p.toList with
 | nil=>intro _;exact .nil
 | cons i r ih=>
  intro hp;refine .cons ?_ (ih λj hj=>hp j (ak _ hj));have hi:=hp i aw;have hx:xs[i]? = some xs[i]:=aL hi;obtain⟨y,hy,hr⟩:=fe h hx;have e1:xs.getD i d=xs[i]:=by simp[List.getD,hx]
  have e2:ys.getD i e=y:=by simp[List.getD,hy]
  show R (xs.getD i d) (ys.getD i e);rw[e1,e2];exact hr
theorem sV{r:Nat->Int}{n:Nat}{p:Array Nat}(hn:p.size=n)(ha:uB r p n){α:Type}(d:α)(xs:List α)(f:α->Int)(hf:∀i,r i=f (xs.getD i d)):(pick d xs p).Pairwise λa b=>f a<=f b:=by
 rw[dX];intro i j hi hj hij;have hi':i<p.size:=by simpa [pick] using hi
 have hj':j<p.size:=by simpa [pick] using hj
 have h1:=ha i j (aS hij) (by lia);unfold Kk at h1;rw[hf,hf] at h1;simp only[b9,dY hi',dY hj',je] at h1;simpa [pick] using h1
theorem zB{ps:List Bw}{bw:List (Nat×Nat)}(h:ps.Perm (sq bw)):∃ot,ps=sq ot/\ot.Perm bw:=by
 refine⟨ps.map λp=>(p.1.toNat,p.2.toNat),?_,?_⟩
 ·unfold sq;rw[bx];have:∀p∈ps,((λp:Nat×Nat=>((p.1:Int),(p.2:Int)))∘λp:Bw=>(p.1.toNat,p.2.toNat)) p=p:=λp hp=>by
   obtain⟨x,_,rfl⟩:=af.mp (h.mem_iff.mp hp);simp
  rw[cQ this];simp
 ·have h2:=h.map λp:Bw=>(p.1.toNat,p.2.toNat)
  unfold sq at h2;rw[bx] at h2;have:∀x∈bw,((λp:Bw=>(p.1.toNat,p.2.toNat))∘λp:Nat×Nat=>((p.1:Int),(p.2:Int))) x=x:=λx _=>by simp
  rw[cQ this] at h2;simpa using h2
def leB(p q:Bw):Prop:=p.1<q.1\/p.1=q.1/\p.2<=q.2
def CY(K:MU):List V->Hp->VK->Prop:=λxs H Q=>∃(l:Addr) (as:List Addr) (ps:List Bw),xs=[.ref l]/\bp K H l (as.map V.ref)/\Paired (d6 H) as ps/\ps.length<64/\(∀p∈ps,0<=p.2/\p.2<1000) ∧
 ∀l' as' ps',H l'=none->Paired (d6 H) as' ps'->ps'.Perm ps->ps'.Pairwise leB->Q (.ref l') (bU H l' (.lst (as'.map V.ref)))
theorem g9 {X:Cx}:fX X (.builtin "sorted") (CY X.K):=by
 intro pins s σ H xs us Q I rr h;obtain⟨l,as,ps,rfl,hq,hP,h64,hb,q⟩:=h;obtain⟨u,rfl,rx⟩:=Ls rr;cases rx;obtain⟨its,rv,pl,hz⟩:=I.list hq;have e:=lE rv;subst e;have hlen:as.length=ps.length:=cN hP;have two:Paired (Ai s.heap) as ps:=di hP λa p z=>CC I z;have at_:∀i,i<as.length->∃a p,(as.map Value.ref).getD i Value.none=.ref a/\ps.getD i (0,0)=p/\Ai s.heap a p/\0<=p.2/\p.2<1000:=λi hi=>by
  have hx:as[i]? = some as[i]:=aL hi;obtain⟨p,hp,ht⟩:=fe two hx;exact⟨as[i],p,by simp[List.getD,hi],by simp[List.getD,hp],ht,hb p (bI hp)⟩
 refine nU (r:=λi=>iK (ps.getD i (0,0))) kB pl.isList (by rw[aF];lia) (λh2 h' Q' k q'=>?_) (λi j hi hj h' C k q'=>?_) λp hp ha=>?_
 ·obtain⟨fs,k1,k2,k3⟩:=rh (di two λa p z=>z.kept k);refine kat_kind (T:=.type "int") k1 (by rw[aF] at h2;lia) (λv hv=>?_) rfl q';obtain⟨n,t,rfl⟩:=k3 v hv;exact(show Looks _ _ (pure (Value.type "int")) (Value.type "int") from .now)
 ·rw[aF] at hi hj;obtain⟨a,p,e1,e2,t1,b1⟩:=at_ i hi;obtain⟨c,p',e3,e4,t2,b2⟩:=at_ j hj;rw[e1,e3];refine CD (t1.kept k) (t2.kept k) b1 b2 ?_;rw[<-e2,<-e4];exact q'
 ·rw[aF] at hp ha;obtain⟨c,hc⟩:=sortedAll_at s.heap (as.map Value.ref) (ie (as.map Value.ref) p);have hin:∀i∈p.toList,i<as.length:=λi hi=>by
   have h1:p.toList.Perm (List.range as.length):=by simpa using fI.mp hp
   simpa using h1.mem_iff.mp hi
  have eo:ie (as.map Value.ref) p=List.toArray ((pick 0 as p).map Value.ref):=by
   unfold ie pick;rw[bx];congr 1;refine cQ λi hi=>?_;have:=hin i hi;simp[List.getD,this]
  have hps:(pick 0 as p).length<=sizeLine:=by
   have:=(lO 0 as hp).length_eq;rw[this];exact aS (ai (by lia))
  rw[eo] at hc;have hp':p.Perm (List.toArray (List.range ps.length)):=by rw[<-hlen];exact hp
  refine⟨.ref (s.heap.objs.size+1),bU H (s.heap.objs.size+1) (.lst ((pick 0 as p).map V.ref)),I.laid (t':=s.toks) (λb o e=>sortedAll_old e) (df _) ?_,rfl,?_⟩
  ·exact(show cL X.prog X.w _ _ _ (.lst _) from ⟨by rw[aF];exact hps,(pick 0 as p).map Value.ref,c,wX _,by rw[eo];exact hc⟩)
  ·have hasc:=sV (n:=as.length) (by have:=hp.size_eq;simpa using this) ha (0,0) ps iK λi=>rfl;have hmem:∀x∈pick (0,0) ps p,0<=x.2/\x.2<1000:=λx hx=>hb x ((lO (0,0) ps hp').mem_iff.mp hx);refine q _ _ (pick (0,0) ps p) (I.hok.fresh (df _)) (sU 0 (0,0) hP hin) (lO (0,0) ps hp') ?_;refine List.Pairwise.imp_of_mem (fun {a b} ma mb hab=>?_) hasc;have h1:=hmem a ma;have h2:=hmem b mb;unfold iK at hab;unfold leB;lia
end Rm
namespace L2
open PySem PySem.W PySem.Spec PyProof.Rows Rm
section
variable {X:Cx}
theorem ints_getD:∀{us:List Value} {ns:List Int},IntsAre us ns->∀i,i<us.length->∃t,us.getD i Value.none=.int (ns.getD i 0) t
 | _,_,.nil,i,h=>by simp at h
 | _,_,.cons n t r,0,_=>⟨t,rfl⟩
 | _,_,.cons n t r,i+1,h=>by
  obtain⟨t',e⟩:=ints_getD r i (by simpa using h);exact⟨t',by simpa using e⟩
theorem qT{us:List Value}{ns:List Int}(hi:IntsAre us ns):∀(p:List Nat),(∀i∈p,i<us.length)->IntsAre (p.map λi=>us.getD i Value.none) (p.map λi=>ns.getD i 0)
 | [],_=>.nil
 | i::p,h=>by
  obtain⟨t,e⟩:=ints_getD hi i (h i aw);rw[bR,bR,e];exact .cons _ t (qT hi p λj hj=>h j (ak _ hj))
theorem pH{us:List Value}{ns:List Int}(hi:IntsAre us ns):us.length=ns.length:=by
 induction hi with
 | nil=>rfl
 | cons _ _ _ ih=>simp[ih]
theorem tM:∀{us:List Value} {ns:List Int},IntsAre us ns->∀v∈us,∃n t,v=Value.int n t
 | _,_,.nil,v,h=>nomatch h
 | _,_,.cons n t r,v,h=>by
  rcases aZ.mp h with rfl | h
  ·exact⟨n,t,rfl⟩
  ·exact tM r v h
def CV(K:MU):List V->Hp->VK->Prop:=λxs H Q=>∃(p:Addr) (ns:List Int),xs=[.ref p]/\(bp K H p (ns.map V.int)\/cg K H p (ns.map V.int))/\ns.length<64 ∧
 ∀(l:Addr) (ms:List Int),H l=none->ms.Perm ns->ms.Pairwise (·<=·)->Q (.ref l) (bU H l (.lst (ms.map V.int)))
theorem jO:fX X (.builtin "sorted") (CV X.K):=by
 intro pins s σ H xs us Q I r h;obtain⟨p,ns,rfl,hq,hl,q⟩:=h;obtain⟨u,rfl,rx⟩:=Ls r;cases rx;have fin:∀its:List Value,IntsAre its ns->∀pr:Array Nat,pr.Perm (List.toArray (List.range its.length))->uB (λi=>ns.getD i 0) pr its.length →
   EP X pins σ Q (.ref (s.heap.objs.size+1)) { s with heap:=sortedAll s.heap its (ie its pr) }:=λits hi pr hp ha=>by
  obtain⟨c,hc⟩:=sortedAll_at s.heap its (ie its pr);have hil:=pH hi;have hin:∀i∈pr.toList,i<its.length:=λi him=>by
   have h1:pr.toList.Perm (List.range its.length):=by simpa using fI.mp hp
   simpa using h1.mem_iff.mp him
  have hp':pr.Perm (List.toArray (List.range ns.length)):=by rw[<-hil];exact hp
  have hpk:=lO 0 ns hp';have hlen:=hpk.length_eq;refine⟨.ref (s.heap.objs.size+1),bU H (s.heap.objs.size+1) (.lst ((pick 0 ns pr).map V.int)),I.laid (t':=s.toks) (λb o e=>sortedAll_old e) (df _)
   (show cL X.prog X.w _ _ _ (.lst _) from ⟨by rw[aF,hlen];exact aS (ai (by lia)),(ie its pr).toList,c,lF ?_,by simpa using hc⟩),rfl,q _ _ (I.hok.fresh (df _)) hpk ?_⟩
  ·have:=qT hi pr.toList hin;simpa [ie,pick] using this
  ·exact sV (n:=its.length) (by have:=hp.size_eq;simpa using this) ha 0 ns (λx=>x) λi=>rfl
 have kind:∀(A:Around) (its:List Value),IntsAre its ns->2<=its.length->∀(h':Heap) (Q:SortKind->Shared->Prop),Q oneType' { s with heap:=h' }->wpAny (model X.prog X.w) A (keyKind' its.toArray) Q (λ_ _=>False) { s with heap:=h' }:=λA its hi h2 h' Q q'=>by
  refine kas_kind (T:=.type "int") h2 (λv hv=>?_) (by decide) (by decide) q';obtain⟨n,t,rfl⟩:=tM hi v hv;exact(show Looks _ _ (pure (Value.type "int")) (Value.type "int") from .now)
 have lt:∀(A:Around) (its:List Value),IntsAre its ns->∀i j,i<its.length->j<its.length->∀(h':Heap) (C:Bool->Shared->Prop),C (decide (ns.getD i 0<ns.getD j 0)) { s with heap:=h' } →
   wpAny (model X.prog X.w) A (keyLt' oneType' (its.getD i Value.none) (its.getD j Value.none)) C (λ_ _=>False) { s with heap:=h' }:=λA its hi i j h1 h2 h' C q'=>by
  obtain⟨t,e⟩:=ints_getD hi i h1;obtain⟨t',e'⟩:=ints_getD hi j h2;rw[e,e'];exact kat_lt_int q'
 rcases hq with hq | hq
 ·obtain⟨its,rv,pl,hz⟩:=I.list hq;have hi:=mY rv;have hil:=pH hi;exact nU (r:=λi=>ns.getD i 0) oneType' pl.isList (by lia) (λh2 h' Q k q'=>kind _ its hi h2 h' Q q') (λi j h1 h2 h' C k q'=>lt _ its hi i j h1 h2 h' C q') (fin its hi)
 ·obtain⟨its,rv,pl,hz⟩:=I.tuple hq;have hi:=mY rv;have hil:=pH hi;exact qk (r:=λi=>ns.getD i 0) oneType' pl (by lia) (λh2 h' Q k q'=>kind _ its hi h2 h' Q q') (λi j h1 h2 h' C k q'=>lt _ its hi i j h1 h2 h' C q') (fin its hi)
end
end L2
namespace Rm
open PySem L2
theorem fB{α:Type} [DecidableEq α]:∀{l m:List α},l.Nodup->(∀x∈l,x∈m)->m.length<=l.length->l.Perm m
 | [],m,_,_,h=>by
  have:m=[]:=eA (by simpa using h);rw[this]
 | x::l,m,nd,hs,hl=>by
  obtain⟨n1,n2⟩:=ci.mp nd;have hx:=hs x aw;have hp:m.Perm (x::m.erase x):=List.perm_cons_erase hx;have hlen:=hp.length_eq;simp only[fN] at hlen hl;have ih:l.Perm (m.erase x):=fB n2 (λy hy=>by
   have hm:=hs y (ak _ hy);rcases aZ.mp (hp.mem_iff.mp hm) with e | e
   ·subst e;exact absurd hy n1
   ·exact e) (by lia)
  exact(ih.cons x).trans hp.symm
def intOf:PyData->Int
 | .int n=>n
 | _=>0
theorem lg:∀{d:PyData},eW d=true->d=.int (intOf d)
 | .int n,_=>rfl
def my:PyData->Bool
 | .tuple ds=>decide (ds.length<=20)&&(ds.all eW&&(ds.map intOf).isPerm (dW 1 ds.length))
 | _=>false
def nW:PyData->Bool
 | .str z=>decide (z=Str.ofString "l") || decide (z=Str.ofString "r")
 | _=>false
def tE:PyData->Bool
 | .tuple [a,b]=>nW a&&my b
 | _=>false
theorem tD{x:Int}{n:Nat}:x∈dW 1 n<->1<=x/\x<=n:=by
 unfold dW;rw[af];constructor
 ·rintro⟨i,hi,rfl⟩;have:=aU.mp hi;lia
 ·rintro⟨h1,h2⟩;exact⟨(x - 1).toNat,aU.mpr (by lia),by lia⟩
theorem yb(n:Nat):(dW 1 n).Pairwise (·<=·):=by
 unfold dW;rw[b6,dX];intro i j hi hj hij;simp;lia
theorem uS(n:Nat):(dW 1 n).Nodup:=by
 unfold dW List.Nodup;rw[b6];exact(cY (n:=n)).imp λh e=>h (by lia)
theorem mI{ms ns:List Int}(hp:ms.Perm ns)(hs:ms.Pairwise (·<=·)):decide (ms=dW 1 ns.length)=ns.isPerm (dW 1 ns.length):=by
 by_cases h:ns.Perm (dW 1 ns.length)
 ·rw[dZ.mpr h];exact decide_eq_true (PySem.W.ksm_same (hp.trans h) hs (yb _))
 ·have h2:ns.isPerm (dW 1 ns.length)=false:=by
   cases e:ns.isPerm (dW 1 ns.length) with
   | false=>rfl
   | true=>exact absurd (dZ.mp e) h
  rw[h2];exact MQ λe=>h (e▸hp.symm)
theorem BY:(Str.ofString "l")=⟨#[108]⟩:=by decide +kernel
theorem BX:(Str.ofString "r")=⟨#[114]⟩:=by decide +kernel
theorem y7 (d:PyData):([PyData.str (Str.ofString "l"),.str (Str.ofString "r")].any λe=>PyData.eqv e d)=nW d:=by
 cases d with
 | str z=>
  show (decide (Str.ofString "l"=z) || (decide (Str.ofString "r"=z) || false))=_;rw[Bool.or_false];show _=(decide (z=Str.ofString "l") || decide (z=Str.ofString "r"))
  congr 1
  ·exact decide_eq_decide.mpr ⟨Eq.symm,Eq.symm⟩
  ·exact decide_eq_decide.mpr ⟨Eq.symm,Eq.symm⟩
 | _=>rfl
structure Pl (d:PyData) (n:Nat):Prop where
 lay:d.canLay0=true
 deep:d.depth<=n
def sF:Sp:=λvs H Q _=>∃x d,vs=[x]/\Dat H x d/\Pl d 60/\Q (.bl (nW d)) H
def qB:Sp:=λvs H Q _=>∃x d,vs=[x]/\Dat H x d/\∀H',aX H H'->Q (.bl (my d)) H'
def sG:Sp:=λvs H Q _=>∃x d,vs=[x]/\Dat H x d/\Pl d 60/\∀H',aX H H'->Q (.bl (tE d)) H'
mutual
def FC:PyData->Bool
 | .list _=>false
 | .tuple ds=>AQ ds
 | .dict _=>false
 | _=>true
def AQ:List PyData->Bool
 | []=>true
 | d::ds=>FC d&&AQ ds
end
mutual
theorem Aa{H:Hp}{l:Addr}{ys:List V}{o:HO}(hl:H l=some (.lst ys)):∀{x:V} {d:PyData},Dat H x d->FC d=true->Dat (bU H l o) x d
 | _,_,.non,_=>.non
 | _,_,.bl b,_=>.bl b
 | _,_,.int i,_=>.int i
 | _,_,.str x,_=>.str x
 | _,_,.tup h r,n=>.tup (by rw[aK (vm h hl (by intro q;cases q))];exact h) (tU hl r n)
 | _,_,.lst h r,n=>nomatch n
theorem tU{H:Hp}{l:Addr}{ys:List V}{o:HO}(hl:H l=some (.lst ys)):∀{xs:List V} {ds:List PyData},fh H xs ds->AQ ds=true->fh (bU H l o) xs ds
 | _,_,.nil,_=>.nil
 | _,_,.cons h r,n=>by
  have n':(FC _&&AQ _)=true:=n;rw[bL] at n';exact .cons (Aa hl h n'.1) (tU hl r n'.2)
end
theorem kt{H:Hp}:∀ns:List Int,fh H (ns.map V.int) (ns.map PyData.int)
 | []=>.nil
 | n::ns=>.cons (.int n) (kt ns)
end Rm
namespace Rm
open PySem L2 PyProof.Rows
theorem vp{bs:List Bool}(b:kd bs){k:Nat}(h:bs[k]? = some true):∃m,iq bs k m:=by
 have go:∀(f j:Nat) (deep:Int),Walk bs k j deep->bs.length-j<f->∃m,iq bs k m:=by
  intro f
  induction f with
  | zero=>intro j deep _ hf;lia
  | succ f ih=>
   intro j deep w hf;by_cases hc:0<deep\/j=k
   ·have hj:=w.inside b hc;exact ih (j+1) _ (w.step hc (aL hj)) (by lia)
   ·obtain⟨m,_,hm⟩:=w.mate hc;exact⟨m,hm⟩
 exact go _ k 0 (Walk.start h) (dt _)
theorem ko{bs:List Bool}(b:kd bs):∀k,k<=bs.length->∃ms,hU bs k ms
 | 0,_=>⟨[],hU.nil bs⟩
 | k+1,h=>by
  obtain⟨ms,M⟩:=ko b k (by lia);by_cases ho:bs[k]? = some true
  ·obtain⟨m,hm⟩:=vp b ho;exact⟨_,M.snoc hm⟩
  ·exact⟨ms,M.skip ho⟩
def Pr(bs:List Bool)(x y:Nat):Prop:=iq bs x y\/iq bs y x
theorem Pr.symm{bs:List Bool}{x y:Nat}(h:Pr bs x y):Pr bs y x:=h.elim .inr .inl
theorem Pr.uniq{bs:List Bool}{x y z:Nat}(h:Pr bs x y)(g:Pr bs x z):y=z:=by
 rcases h with h | h<;>rcases g with g | g
 ·exact h.uniq g
 ·have:=h.op;rw[g.cl] at this;cases this
 ·have:=g.op;rw[h.cl] at this;cases this
 ·exact h.uniqL g
theorem Pr.lt{bs:List Bool}{x y:Nat}(h:Pr bs x y):y<bs.length:=by
 rcases h with h | h
 ·exact h.ml
 ·exact fM h.lt h.ml
theorem EG{bs:List Bool}(b:kd bs){x:Nat}(h:x<bs.length):∃y,Pr bs x y:=by
 cases e:bs[x] with
 | true=>
  obtain⟨m,hm⟩:=vp b (k:=x) (by rw[aL h,e]);exact⟨m,.inl hm⟩
 | false=>
  obtain⟨ms,M⟩:=ko b bs.length (aH _);obtain⟨p,hp⟩:=M.closed b (q:=x) (by rw[aL h,e]);exact⟨p,.inr (M.mate _ hp).1⟩
open Classical in
noncomputable def mtF (bs:List Bool) (x:Nat):Nat:=if h:∃y,Pr bs x y then h.choose else x
theorem jt{bs:List Bool}{x y:Nat}(h:Pr bs x y):mtF bs x=y:=by
 unfold mtF;have hx:∃y,Pr bs x y:=⟨y,h⟩
 rw[dif_pos hx];exact hx.choose_spec.uniq h
theorem jV{bs:List Bool}(b:kd bs){x:Nat}(h:x<bs.length):Pr bs x (mtF bs x):=by
 obtain⟨y,hy⟩:=EG b h;rw[jt hy];exact hy
structure iz (n:Nat) (L:Nat->Nat):Prop where
 lt:∀ x,x<n->L x<n
 inv:∀ x,x<n->L (L x)=x
theorem dj{bs:List Bool}(b:kd bs):iz bs.length (mtF bs):=
 ⟨λx h=>(jV b h).lt,λx h=>jt (jV b h).symm⟩
def gv(g:List Int)(x:Nat):Int:=g.getD x 0
def fP(g:List Int)(one two:Int):List Int:=g.map λy=>if y=two then one else y
theorem pJ{g:List Int}{x:Nat}(h:x<g.length):g[x]? = some (gv g x):=by
 unfold gv;rw[aL h,List.getD_eq_getElem?_getD,aL h];rfl
theorem pI{g:List Int}{one two:Int}{x:Nat}(h:x<g.length):gv (fP g one two) x=if gv g x=two then one else gv g x:=by
 have e:(fP g one two)[x]? = some (if gv g x=two then one else gv g x):=by
  unfold fP;rw[bD,pJ h];rfl
 have h2:x<(fP g one two).length:=by unfold fP;rw[aF];exact h
 rw[pJ h2] at e;exact aq e
theorem jG(g:List Int)(a:Int):fP g a a=g:=by
 unfold fP;have:(λy:Int=>if y=a then a else y)=id:=by funext y;by_cases h:y=a<;>simp[h]
 rw[this,List.map_id]
structure uy (n:Nat) (L:Nat->Nat) (bw:List (Nat×Nat)) (g:List Int):Prop where
 len:g.length=n
 left:∀ x,x<n->gv g (L x)=gv g x
 inn:∀ p∈bw,p.1<n/\p.2<n
 bows:∀ p∈bw,gv g p.1=gv g p.2
 conn:∀ S:Nat->Prop,(∀ x,x<n->S x->S (L x))->(∀ p∈bw,(S p.1<->S p.2))->∀ x y,x<n->y<n->S x->gv g y=gv g x->S y
def tG(n:Nat)(L:Nat->Nat):List Int:=(List.range n).map λx=>((min x (L x):Nat):Int)
theorem oM{n:Nat}{L:Nat->Nat}{x:Nat}(h:x<n):gv (tG n L) x=((min x (L x):Nat):Int):=by
 have h2:x<(tG n L).length:=by simp[tG,h]
 have e:=pJ h2;unfold tG at e;rw[bD,iN h] at e;exact(aq e).symm
theorem uy.start{n:Nat}{L:Nat->Nat}(P:iz n L):uy n L [] (tG n L):=by
 refine⟨by simp[tG],λx h=>?_,(λp h=>nomatch h),(λp h=>nomatch h),λS hS _ x y hx hy sx e=>?_⟩
 ·rw[oM h,oM (P.lt x h),P.inv x h,Nat.min_comm]
 ·rw[oM hx,oM hy] at e;have e':min y (L y)=min x (L x):=by lia
  have cases4:y=x\/y=L x\/L y=x\/L y=L x:=by lia
  rcases cases4 with h | h | h | h
  ·rw[h];exact sx
  ·rw[h];exact hS x hx sx
  ·have:y=L x:=by rw[<-h,P.inv y hy]
   rw[this];exact hS x hx sx
  ·have:y=x:=by rw[<-P.inv y hy,h,P.inv x hx]
   rw[this];exact sx
theorem uy.add{n:Nat}{L:Nat->Nat}{bw:List (Nat×Nat)}{g:List Int}{a b:Nat}(h:uy n L bw g)(P:iz n L)(ha:a<n)(hb:b<n):uy n L (bw++[(a,b)]) (fP g (gv g a) (gv g b)):=by
 have hl:=h.len;have gr:∀x,x<n->gv (fP g (gv g a) (gv g b)) x=if gv g x=gv g b then gv g a else gv g x:=λx hx=>pI (by lia)
 refine⟨by unfold fP;rw[aF];exact hl,λx hx=>?_,λp hp=>?_,λp hp=>?_,λS hS hB x y hx hy sx e=>?_⟩
 ·rw[gr x hx,gr _ (P.lt x hx),h.left x hx]
 ·rcases aT.mp hp with hp | hp
  ·exact h.inn p hp
  ·rw[ar] at hp;subst hp;exact⟨ha,hb⟩
 ·rcases aT.mp hp with hp | hp
  ·obtain⟨h1,h2⟩:=h.inn p hp;rw[gr _ h1,gr _ h2,h.bows p hp]
  ·rw[ar] at hp;subst hp;rw[gr _ ha,gr _ hb,MO rfl];by_cases e:gv g a=gv g b
   ·rw[MO e]
   ·rw[MN e]
 ·have hB':∀p∈bw,(S p.1<->S p.2):=λp hp=>hB p (ax _ hp);have hab:S a<->S b:=hB (a,b) (by simp);have cn:=λx y hx hy=>h.conn S hS hB' x y hx hy;rw[gr x hx,gr y hy] at e;by_cases e1:gv g x=gv g b
  ·have sb:S b:=cn x b hx hb sx e1.symm;have sa:S a:=hab.mpr sb;by_cases e2:gv g y=gv g b
   ·exact cn b y hb hy sb e2
   ·rw[MN e2,MO e1] at e;exact cn a y ha hy sa e
  ·rw[MN e1] at e;by_cases e2:gv g y=gv g b
   ·rw[MO e2] at e;have sa:S a:=cn x a hx ha sx e;exact cn b y hb hy (hab.mp sa) e2
   ·rw[MN e2] at e;exact cn x y hx hy sx e
def rV(g:List Int)(k:Nat):Prop:=∃ls:List Int,ls.Nodup/\(∀x,x∈ls<->x∈g)/\ls.length=k
theorem wg{α:Type} [DecidableEq α] {l m:List α} (h:l.Nodup) (k:m.Nodup) (e:∀x,x∈l<->x∈m):l.length=m.length:=by
 have a:∀{l m:List α},l.Nodup->(∀x,x∈l->x∈m)->l.length<=m.length:=by
  intro l m hl hm;refine gb λh=>?_;have:=(fB hl hm (aS h)).length_eq;lia
 exact Nat.le_antisymm (a h λx hx=>(e x).mp hx) (a k λx hx=>(e x).mpr hx)
theorem rV.uniq{g:List Int}{j k:Nat}(h:rV g j)(i:rV g k):j=k:=by
 obtain⟨l,h1,h2,rfl⟩:=h;obtain⟨m,i1,i2,rfl⟩:=i;exact wg h1 i1 λx=>(h2 x).trans (i2 x).symm
theorem rV.add{g:List Int}{k:Nat}{one two:Int}(h:rV g k)(h1:one∈g)(h2:two∈g)(ne:one≠two):1<=k/\rV (fP g one two) (k - 1):=by
 obtain⟨ls,nd,e,rfl⟩:=h;have m2:two∈ls:=(e two).mpr h2;refine⟨jy m2,ls.erase two,nd.erase two,λx=>?_,List.length_erase_of_mem m2⟩;rw[nd.mem_erase_iff,e];unfold fP;rw[af];constructor
 ·rintro⟨n,hx⟩;exact⟨x,hx,by rw[MN n]⟩
 ·rintro⟨y,hy,rfl⟩;by_cases c:y=two
  ·rw[MO c];exact⟨ne,h1⟩
  ·rw[MN c];exact⟨c,hy⟩
theorem pE{g:List Int}{x:Nat}(h:x<g.length):gv g x∈g:=bI (pJ h)
def BN(s:List Bool×List Int)(p:Nat×Nat):List Bool×List Int:=(s.1++[decide (gv s.2 p.1=gv s.2 p.2)],fP s.2 (gv s.2 p.1) (gv s.2 p.2))
def l4(g:List Int)(ms:List (Nat×Nat)):List Bool×List Int:=ms.foldl BN ([],g)
theorem uu{g:List Int}{ms:List (Nat×Nat)}{p:Nat×Nat}:l4 g (ms++[p])=BN (l4 g ms) p:=by simp[l4,List.foldl_append]
theorem xH{n:Nat}{L:Nat->Nat}{g:List Int}{k:Nat}(P:iz n L)(h0:uy n L [] g)(c0:rV g k):∀(ms:List (Nat×Nat)),(∀p∈ms,p.1<n/\p.2<n) →
  uy n L ms (l4 g ms).2/\∃j,rV (l4 g ms).2 j/\j+((l4 g ms).1.countP (! ·))=k:=by
 intro ms;have go:∀ms:List (Nat×Nat),(∀p∈ms.reverse,p.1<n/\p.2<n)->uy n L ms.reverse (l4 g ms.reverse).2/\∃j,rV (l4 g ms.reverse).2 j/\j+((l4 g ms.reverse).1.countP (! ·))=k:=by
  intro ms
  induction ms with
  | nil=>intro _;exact⟨h0,k,c0,rfl⟩
  | cons p ms ih=>
   intro hp;rw[List.reverse_cons] at hp ⊢;obtain⟨lb,j,cj,ej⟩:=ih λq hq=>hp q (ax _ hq);obtain⟨p1,p2⟩:=hp p (by simp);rw[uu];refine⟨lb.add P p1 p2,?_⟩;have hl:=lb.len;generalize l4 g ms.reverse=s at lb cj ej hl ⊢;show ∃j,rV (fP s.2 (gv s.2 p.1) (gv s.2 p.2)) j/\j+((s.1++[decide (gv s.2 p.1=gv s.2 p.2)]).countP (! ·))=k;rw[fg];by_cases e:gv s.2 p.1=gv s.2 p.2
   ·rw[e,jG];exact⟨j,cj,by simp;lia⟩
   ·obtain⟨h1,c1⟩:=cj.add (pE (by lia)) (pE (by lia)) e;refine⟨j - 1,c1,?_⟩;rw[MQ e];simp;lia
 intro h;have:=go ms.reverse;rw[List.reverse_reverse] at this;exact this h
theorem zD{bs:List Bool}(b:kd bs):∃k,2*k=bs.length/\rV (tG bs.length (mtF bs)) k:=by
 obtain⟨ms,M⟩:=ko b bs.length (aH _);refine⟨ms.length,M.count b,ms.map λp=>(p.1:Int),?_,λx=>?_,by simp⟩
 ·rw[List.Nodup,b6];exact M.inc.imp λh e=>by lia
 ·unfold tG;rw[af,af];constructor
  ·rintro⟨p,hp,rfl⟩;have hm:=(M.mate p hp).1;have hlt:=hm.lt;refine⟨p.1,aU.mpr (fM hm.lt hm.ml),?_⟩;rw[jt (.inl hm),Nat.min_eq_left (by lia)]
  ·rintro⟨y,hy,rfl⟩;have hy:=aU.mp hy;rcases jV b hy with hm | hm
   ·obtain⟨m,hmm⟩:=M.all y hy hm.op;refine⟨(y,m),hmm,?_⟩;have:=hm.lt;show (y:Int)=_;rw[Nat.min_eq_left (by lia)]
   ·have h1:=fM hm.lt hm.ml;obtain⟨m,hmm⟩:=M.all _ h1 hm.op;refine⟨(mtF bs y,m),hmm,?_⟩;have:=hm.lt;show ((mtF bs y:Nat):Int)=_;rw[Nat.min_eq_right (by lia)]
structure z8 (n:Nat) (L R:Nat->Nat) (rs:List (List Nat)):Prop where
 inn:∀ r∈rs,∀ x∈r,x<n/\L x∈r/\R x∈r
 one:∀ f:Nat->Int,(∀ x,x<n->f (L x)=f x/\f (R x)=f x)->∀ r∈rs,∀ x∈r,∀ y∈r,f x=f y
 apart:rs.Pairwise fun r s=>∀ x∈r,x∉s
 ne:∀ r∈rs,r≠[]
theorem o8{n:Nat}{L R:Nat->Nat}{rs:List (List Nat)}{ms:List (Nat×Nat)}{g:List Int}(X:z8 n L R rs)(cover:∀x,x<n->∃r∈rs,x∈r)(h:uy n L ms g)(hR:∀p∈ms,R p.1=p.2/\R p.2=p.1)(hc:∀x,x<n->∃p∈ms,x=p.1\/x=p.2):rV g rs.length:=by
 have gR:∀x,x<n->gv g (R x)=gv g x:=λx hx=>by
  obtain⟨p,hp,e⟩:=hc x hx;obtain⟨r1,r2⟩:=hR p hp;rcases e with rfl | rfl
  ·rw[r1];exact(h.bows p hp).symm
  ·rw[r2];exact h.bows p hp
 have key:∀r∈rs,∀x∈r,∀y,y<n->gv g y=gv g x->y∈r:=λr hr x hx y hy e=>
  h.conn (·∈r) (λz _ hz=>(X.inn r hr z hz).2.1) (λp hp=>⟨λhz=>by have:=(X.inn r hr _ hz).2.2;rw[(hR p hp).1] at this;exact this,λhz=>by have:=(X.inn r hr _ hz).2.2;rw[(hR p hp).2] at this;exact this⟩) x y (X.inn r hr x hx).1 hy hx e
 have one:=X.one (gv g) λx hx=>⟨h.left x hx,gR x hx⟩
 refine⟨rs.map λr=>gv g (r.headD 0),?_,λx=>?_,by simp⟩
 ·rw[List.Nodup,b6];refine(dU.mp X.apart).imp (fun {r s} h=>?_);obtain⟨hr,hs,ap⟩:=h;intro e;have h1:r.headD 0∈r:=by cases r with | nil=>exact absurd rfl (X.ne _ hr) | cons a t=>simp
  have h2:s.headD 0∈s:=by cases s with | nil=>exact absurd rfl (X.ne _ hs) | cons a t=>simp
  exact ap _ (key r hr _ h1 _ (X.inn s hs _ h2).1 e.symm) h2
 ·rw[af];constructor
  ·rintro⟨r,hr,rfl⟩;have h1:r.headD 0∈r:=by cases r with | nil=>exact absurd rfl (X.ne _ hr) | cons a t=>simp
   exact pE (by rw[h.len];exact(X.inn r hr _ h1).1)
  ·intro hx;obtain⟨i,hi,rfl⟩:=iM hx;have hin:i<n:=by rw[<-h.len];exact hi
   obtain⟨r,hr,hir⟩:=cover i hin;have h1:r.headD 0∈r:=by cases r with | nil=>exact absurd rfl (X.ne _ hr) | cons a t=>simp
   refine⟨r,hr,?_⟩;rw[one r hr _ h1 i hir];have:=pJ hi;rw[aL hi] at this;exact(aq this).symm
end Rm
namespace L2
open PySem PySem.Spec PyProof.Rows
def uC(dO:Option Addr)(e:Addr)(h:Heap):Prop:=∃o vs,h.get? e=some o/\(o.dict=dO/\o.data=.fields vs)/\vs[2]? = some .none
abbrev Fa (e:Addr) (h:Heap):Prop:=uC none e h
structure dJ {α:Type} (I:Heap->Prop) (t:Sem α):Prop where
 out:∀ (M:Model) (Γ:PySem.Ctx) (P:α->Pos->Shared->Prop) (E:Value->Pos->Shared->Prop) (p:Pos) (s:Shared),I s.heap->Sem.wp M Γ t P E p s->Sem.wp M Γ t (fun a p' s'=>P a p' s'/\I s'.heap) E p s
section
variable {α β:Type} {I:Heap->Prop}
theorem dJ.pure(a:α):dJ I (Pure.pure a:Sem α):=⟨λM Γ P E p s i h=>⟨h,i⟩⟩
theorem dJ.un(w:String):dJ I (unsupported w:Sem α):=⟨λM Γ P E p s i h=>False.elim h⟩
theorem dJ.load(a:Addr):dJ I (load a):=⟨λM Γ P E p s i ⟨o,e,h⟩=>⟨o,e,h,i⟩⟩
theorem dJ.stack:dJ I stack:=⟨λM Γ P E p s i h=>⟨h,i⟩⟩
theorem dJ.update{a:Addr}{f:Obj->Obj}(k:∀h,I h->I (h.update a f)):dJ I (update a f):=⟨λM Γ P E p s i ⟨e,h⟩=>⟨e,h,k _ i⟩⟩
theorem dJ.alloc{o:Obj}(k:∀h,I h->I (h.push o)):dJ I (alloc o):=⟨λM Γ P E p s i h=>⟨h,k _ i⟩⟩
theorem dJ.bind{m:Sem α}{f:α->Sem β}(hm:dJ I m)(hf:∀a,dJ I (f a)):dJ I (m>>=f):=⟨λM Γ P E p s i h=>by
 have h':Sem.wp M Γ (m.bind f) P E p s:=h;show Sem.wp M Γ (m.bind f) _ E p s;rw[Sem.wp_bind] at h' ⊢;exact Sem.wp_mono M Γ m (λa p' s' ⟨h1,i1⟩=>(hf a).out M Γ P E p' s' i1 h1) (λ_ _ _ z=>z) _ _ (hm.out M Γ _ E p s i h')⟩
theorem dJ.ite{c:Prop} [Decidable c] {a b:Sem α} (ha:dJ I a) (hb:dJ I b):dJ I (if c then a else b):=by split<;>assumption
theorem dJ.newObjT{T:String}{vs:List Value}(k:∀h o,I h->I (h.push o)):dJ I (newFields T vs):=by
 unfold newFields newObj;exact dJ.ite (.bind (.un _) λ_=>.bind (.alloc λh i=>k h _ i) λa=>.pure _) (.bind (.alloc λh i=>k h _ i) λa=>.pure _)
end
theorem Ae{dO:Option Addr}{e:Addr}{h:Heap}{o:Obj}(c:uC dO e h):uC dO e (h.push o):=by
 obtain⟨ob,vs,e1,e2,e3⟩:=c;exact⟨ob,vs,aD _ e1,e2,e3⟩
theorem zU{dO:Option Addr}{e a:Addr}{h:Heap}{f:Obj->Obj}(k:∀o vs,o.dict=dO/\o.data=.fields vs->vs[2]? = some Value.none->∃ws,((f o).dict=dO/\(f o).data=.fields ws)/\ws[2]? = some Value.none)(c:uC dO e h):uC dO e (h.update a f):=by
 obtain⟨ob,vs,e1,e2,e3⟩:=c;by_cases z:a=e
 ·subst z;obtain⟨ws,e4,e5⟩:=k ob vs e2 e3;exact⟨_,ws,ee f e1 (by clear e5;revert e4;generalize f ob=z;intro ⟨_,e4⟩;obtain⟨c,d,da,sl⟩:=z;cases e4;rfl),e4,e5⟩
 ·exact⟨ob,vs,Heap.get?_update_of_ne f z e1,e2,e3⟩
theorem dJ.setField{dO:Option Addr}{e:Addr}{v x:Value}{i:Nat}(hi:i≠2):dJ (uC dO e) (PySem.setField v i x):=by
 unfold PySem.setField
 split
 ·unfold updateField;refine .bind (.load _) λo=>?_
  split
  ·refine .ite (.update λh c=>zU (λo vs e1 e2=>?_) c) (.un _);obtain⟨c,d,da,sl⟩:=o;obtain⟨e0,e1⟩:=e1;cases e1;refine⟨_,⟨e0,rfl⟩,?_⟩;rw[Array.getElem?_setIfInBounds,MN hi];exact e2
  ·exact .un _
 ·exact .un _
theorem dJ.field{I:Heap->Prop}{v:Value}{i:Nat}:dJ I (PySem.field v i):=by
 unfold PySem.field fieldsOf;refine .bind ?_ λvs=>?_
 ·split
  ·refine .bind (.load _) λo=>?_
   split
   ·exact .pure _
   ·exact .un _
  ·exact .un _
 ·split
  ·exact .pure _
  ·exact .un _
theorem dJ.ready{dO:Option Addr}{e:Addr}:∀l:List Env,dJ (uC dO e) (readyFrames l)
 | []=>.pure _
 | env::outer=>by
  unfold readyFrames
  split
  ·refine .bind (.load _) λo=>.ite (.pure _) (.bind ?_ λb=>.bind ?_ λc=>.bind (.update λh c=>zU (λo vs e1 e2=>⟨vs,e1,e2⟩) c) λ_=>dJ.ready outer)
   ·unfold behindIsImport;exact .ite (.pure _) (.ite (.pure _) (.bind .field λ_=>.pure _))
   ·unfold keptBack
    split
    ·refine .ite (.pure _) (.bind ?_ λ_=>.pure _);unfold underTheClaimsCaller;exact .bind .stack λ_=>.pure _
    ·exact .pure _
  ·exact .un _
theorem dJ.note{dO:Option Addr}{e:Addr}{v:Value}{env:Env}:dJ (uC dO e) (noteFrame v env):=by
 have jp:∀(f:Addr) (head:Value),dJ (uC dO e) (do
   let a <-PySem.frameOf env
   let b <-entryPlaceOf f (head != Value.none)
   let c <-EntryCells.newEntry head a Value.none (rawInt ↑f) Value.none b
   PySem.setField v 1 c):=λf head=>by
  refine .bind ?_ λa=>.bind ?_ λb=>.bind ?_ λc=>.setField (by decide)
  ·unfold PySem.frameOf frameEnvs;refine .bind (.bind .stack λ_=>.pure _) λl=>.bind ?_ λo=>?_
   ·unfold frameObject
    split
    ·exact .pure _
    ·exact .bind (dJ.ready _) λ_=>.pure _
   ·split
    ·exact .pure _
    ·exact .un _
  ·unfold entryPlaceOf;refine .bind .stack λacts=>?_
   split
   ·exact .pure _
   ·exact .pure _
  ·unfold EntryCells.newEntry;exact .newObjT λh o c=>Ae c
 unfold noteFrame
 split
 ·refine .bind .field λhead=>?_;refine .ite (.bind .field λx=>.ite (.pure _) (.bind (.setField (by decide)) λ_=>jp _ _)) (jp _ _)
 ·exact .un _
theorem dJ.flight{dO:Option Addr}{e:Addr}{v:Value}{fr:Option Addr}:dJ (uC dO e) (setFlight v fr):=by
 unfold setFlight;exact .bind .field λtb=>.ite (.setField (by decide)) (.pure _)
theorem dJ.leave{dO:Option Addr}{e:Addr}{v:Value}{env:Env}:dJ (uC dO e) (leaving env v):=by
 unfold leaving;exact .bind .note λ_=>.flight
theorem dJ.any{α:Type}{I:Heap->Prop}{t:Sem α}(p:dJ I t){M:Model}{A:Around}{Q:α->Shared->Prop}{E:Value->Shared->Prop}{s:Shared}(i:I s.heap)(h:wpAny M A t Q E s):wpAny M A t (λa s'=>Q a s'/\I s'.heap) E s:=
 fun Γ q hΓ=>p.out M Γ _ _ q s i (h Γ q hΓ)
theorem gU{α:Type}{I:Heap->Prop}{t:Sem α}(p:dJ I t){M:Model}{A:Around}{Q:α->Shared->Prop}{E:Value->Shared->Prop}{s:Shared}(i:I s.heap)(h:wpAny M A t (λa s'=>I s'.heap->Q a s') E s):wpAny M A t Q E s:=
 Lo (p.any i h) (λ_ _ ⟨q,c⟩=>q c) λ_ _ z=>z
theorem AV{h h':Heap}{e:Addr}{cls:Value}{vs:List Value}(M:h.MadeExcOf h' e cls vs):Fa e h':=by
 obtain⟨t,e1,_⟩:=M.there;exact⟨_,_,e1,⟨rfl,rfl⟩,rfl⟩
theorem pY:entryFor table "proto.unchain"=some Builtin.«proto.unchain»:=entryFor_of_tree (Eq.refl (entriesT.find (code "proto.unchain")))
theorem cL.ex{P:Program}{w:World}{H:Hp}{h:Heap}{a:Addr}{o:HO}(x:cL P w H h a o):∃ob,h.get? a=some ob:=by
 cases o with
 | lst xs=>obtain⟨_,_,_,_,e⟩:=x;exact⟨_,e⟩
 | tup xs=>obtain⟨_,_,_,ob,e,_⟩:=x;exact⟨_,e⟩
 | dK kvs=>obtain⟨_,_,_,_,o,_,_,e,_⟩:=x;exact⟨_,e⟩
 | dT kvs=>obtain⟨_,_,_,_,o,_,_,e,_⟩:=x;exact⟨_,e⟩
 | set S n=>obtain⟨o,_,_,_,e,_⟩:=x;exact⟨_,e⟩
 | ins C dx fs=>obtain⟨_,_,_,e,_⟩:=x;exact⟨_,e⟩
 | own y=>exact x
 | xd fs=>obtain⟨_,⟨_,_,_,e,_⟩,_⟩:=x;exact⟨_,e⟩
 | rng lo hi=>obtain⟨_,_,_,e⟩:=x;exact⟨_,e⟩
 | frz ob u=>obtain⟨e,_⟩:=x;exact⟨_,e⟩
 | tbl ps=>exact⟨_,show h.get? a=some _ from x⟩
 | met f y=>exact⟨_,show h.get? a=some _ from x⟩
 | ext φ=>obtain⟨_,e,_⟩:=x;exact e
structure FS (B h:Heap) (H':Hp) (outer:List Env):Prop where
 old:∀ b o,h.get? b=some o->b∉jw outer->∃ o',B.get? b=some o'
 trk:∀ b u,H' b=some u->∃ o',B.get? b=some o'
def ny(P:Program)(w:World):xT:=λouter H s E e s'=>∃(a C t:Addr) (H':Hp) (B:Heap) (dO:Option Addr),e=.ref a/\s'.os=s.os/\AllBare s'.gens/\Un (jw outer) [] H H' s.heap s'.heap/\lC P w H' s'.heap ∧
 B.FlyingW outer a (.ref C) (.ref t) s'.heap/\FS B s.heap H' outer/\uC dO a s'.heap/\E (.ref C) dO H'
theorem EH{P:Program}{w:World}{X:Cx}:pV (ny P w) X E0:=λ_ _ _ _ _ _ _ ⟨_,_,_,_,_,_,_,_,_,_,_,_,_,_,h⟩=>h.elim
theorem n8 {h base B : Heap} : ∀ {l : List Env}, h.FunFrames base l → (∀ b ∈ jw l, B.get? b = none) → h.FunFrames B l
 | [], _, _ => trivial
 | env :: r, ⟨hk, ⟨L, o, hf, hn, ho, hd⟩, hr⟩, hb => ⟨hk, ⟨L, o, hf, hb L (by unfold jw; rw [cS, hf]; exact aw), ho, hd⟩,
   n8 hr fun b m => hb b (by unfold jw; rw [cS, hf]; exact ak _ m)⟩
def E5(X:Cx)(E:XK):Prop:=∀(pins:List (Addr×Obj)) (σ:St) (H:Hp) (s:Shared) (h':Heap) (e C:Addr) (vs:List Value),bE X pins σ H s->s.heap.MadeExcOf h' e (.ref C) vs->E (.ref C) none H->X.xe (.ref e) { s with heap:=h' }
theorem ki{P:Program}{w:World}{K:MU}{mg:Str->Option Value}{base:Heap}{N:List Str}{qual:Str}{scope:Scope}{f:Addr}{cd:Value}{A:Around}{outer:List Env}{s0:Shared}{H0:Hp}{E:XK}:
  E5 (ij (ny P w) P w K mg base N qual scope f cd A outer s0 H0 E) E:=by
 intro pins σ H s h' e C vs I M hE;generalize hX:ij (ny P w) P w K mg base N qual scope f cd A outer s0 H0 E=X at I ⊢;have hst:X.stack=X.env::X.outer:=by rw[<-hX];rfl
 have hfr:X.env.frame=some X.env.locals:=by rw[<-hX];rfl
 have hxe:X.xe=λe s'=>wpAny (model X.prog X.w) X.A (leaving X.env e) (λ_ s''=>ny X.prog X.w X.outer X.H₀ X.s₀ E e s'') (λe' s''=>ny X.prog X.w X.outer X.H₀ X.s₀ E e' s'') s':=by rw[<-hX];rfl
 have hex:X.ex=[]:=by rw[<-hX];rfl
 have hfs:jw X.stack=X.env.locals::X.fs:=by rw[hst];unfold jw;rw[cS,hfr];rfl
 clear hX;rw[hxe];have hB:∀b o,s.heap.get? b=some o->b∉jw X.stack->(PySem.W.hideAll s.heap (jw X.stack)).get? b=some o:=λb o e1 e2=>PySem.W.hideAll_get _ e1 e2;refine gU (dJ.leave (dO:=none) (e:=e)) (AV M) ?_;refine wpAny_leaves_madeW (base:=PySem.W.hideAll s.heap (jw X.stack)) (h:=s.heap) (outer:=X.outer) (L:=X.env.locals) (by rw[I.ok.frames,hst]) hfr (λb o e1=>PySem.W.of_hideAll _ e1)
  (n8 (hst▸I.stack) λb m=>PySem.W.hideAll_none _ (hst▸m)) M λh2 t fl _ _ up ct=>?_
 have lt0:∀b o,X.s₀.heap.get? b=some o->b≠X.env.locals:=λb o e1=>ac (aO (aM e1) I.ok.above);have out:∀b o,X.s₀.heap.get? b=some o->b∉X.fs->b∉jw X.stack:=λb o e1 e2 z=>by
  rw[hfs] at z;exact(aZ.mp z).elim (lt0 b o e1) e2
 have ne:∀b,b∉X.ex:=λb z=>by rw[hex] at z;cases z
 have stay:=fl.1;have slot:∀b o,s.heap.get? b=some o->b∈X.fs->∃sl,h2.get? b=some { o with slots:=sl }:=λb o e1 m=>by
  obtain⟨_,o',e2,nf⟩:=I.funs.mem m;rw[e1] at e2;cases e2;obtain⟨sl,q⟩:=up b o (M.keeps b o e1) nf;exact⟨sl,q⟩
 have u:=I.base;rw[hex] at u;refine⟨e,C,t,H,_,none,rfl,I.os,I.bare,⟨λb o e1 e2 e3 e4=>?_,λb o e1 e2 e3 e4=>?_,u.free,λb o e1 e2=>?_,u.tups,u.frzs,u.tbls⟩,λb o e1=>?_,fl,⟨λb o e1 e2=>?_,λb o e1=>?_⟩,ct,hE⟩
 ·exact stay b o (hB b o (u.keep b o e1 e2 e3 e4) (out b o e1 e3))
 ·obtain⟨sl,q⟩:=u.slot b o e1 e2 e3 e4;obtain⟨sl',q'⟩:=slot b _ q e3;exact⟨sl',q'⟩
 ·obtain⟨o',q⟩:=u.there b o e1 e2;by_cases m:b∈X.fs
  ·obtain⟨sl,q'⟩:=slot b o' q m;exact⟨_,q'⟩
  ·exact⟨o',stay b o' (hB b o' q (out b o e1 m))⟩
 ·refine(I.hok b o e1).stay (λc v hc q=>stay c v (hB c v q λz=>?_)) (λ_ q=>q) λ_ _ q=>q;have n:=I.stkFree c z;rcases hc with r | r
  ·rw[r,e1] at n;cases n
  ·rw[r] at n;cases n
 ·obtain⟨o',q⟩:=u.there b o e1 (by simp);exact⟨o',hB b o' q (out b o e1 e2)⟩
 ·obtain⟨ob,q⟩:=(I.hok b o e1).ex;refine⟨ob,hB b ob q λz=>?_⟩;have n:=I.stkFree b z;rw[e1] at n;cases n
theorem rj{h:Heap}{bmB:List Value}{v:Value}(hv:bmB.contains v=true):∀{l:List Value},OwnTail h bmB l->l.contains v=true
 | _,.base=>hv
 | _,.own _ _ _ t=>by rw[List.contains_cons,rj hv t,Bool.or_true]
theorem sh{h h':Heap}(k:∀b o,h.get? b=some o->h'.get? b=some o){N:Addr}{m:Str->Option Value}(x:h.Ns N m):h'.Ns N m:=by
 obtain⟨o,es,ep,ho,r⟩:=x;exact⟨o,es,ep,k _ _ ho,r⟩
theorem oV{h h':Heap}(k:∀b o,h.get? b=some o->h'.get? b=some o){bmB:List Value}:∀{l:List Value},OwnTail h bmB l->OwnTail h' bmB l
 | _,.base=>.base
 | _,.own a b c t=>.own (k _ _ a) (sh k b) c (oV k t)
def yM(C:Addr)(E:XK)(t:TA):TS:=λ_ σ H=>t σ H λvs H1=>vs.length<=sizeLine/\E (.ref C) none H1
def nH(dO:Option Addr)(C a:Addr):HO:=.ext λh=>(∃o,h.get? a=some o/\o.cls=.ref C)/\uC dO a h
abbrev FH (C a:Addr):HO:=nH none C a
def Cx.exc(X:Cx)(a:Addr):Cx:={ X with A:=X.A.mark (some (.ref a)),calm:=false,xe:=λ_ _=>False }
section
variable {X:Cx} {pins:List (Addr×Obj)} {σ:St} {H H':Hp} {s s':Shared}
theorem Cx.Ok.exc(ok:X.Ok)(a:Addr):(X.exc a).Ok:=
 ⟨ok.mod,ok.kind,ok.glob,ok.blt,ok.above,ok.inj,ok.has,ok.cab,(λz=>nomatch z),ok.frames,ok.stk,ok.exf,ok.bs,ok.bsz,ok.noex,ok.exfs,ok.funs,ok.frf⟩
theorem bE.exc(I:bE X pins σ H s)(a:Addr):bE (X.exc a) pins σ H s:=⟨I.ok.exc a,I.os,I.bare,I.base,I.loc,I.cell,I.free,I.freeC,I.pin,I.hok,I.len⟩
theorem bE.unexc{a:Addr}(I:bE (X.exc a) pins σ H s)(ok:X.Ok):bE X pins σ H s:=⟨ok,I.os,I.bare,I.base,I.loc,I.cell,I.free,I.freeC,I.pin,I.hok,I.len⟩
theorem UpToSlots.trans{h1 h2 h3:Heap}(a:h1.UpToSlots h2)(b:h2.UpToSlots h3):h1.UpToSlots h3:=λc o e nf=>by
 obtain⟨sl,e1⟩:=a c o e nf;obtain⟨sl',e2⟩:=b c _ e1 nf;exact⟨sl',e2⟩
theorem bE.land{dO:Option Addr}{B:Heap}{a C t:Addr}{h4:Heap}{E:XK}(I:bE X pins σ H s)(os:s'.os=s.os)(bare:AllBare s'.gens)(un:Un (jw X.stack) [] H H' s.heap s'.heap)(hok:lC X.prog X.w H' s'.heap)(f1:B.FlyingW X.stack a (.ref C) (.ref t) s'.heap)
  (cov:FS B s.heap H' X.stack) (f4:B.FlyingW X.stack a (.ref C) (.ref t) h4) (up:s'.heap.UpToSlots h4) (ct:uC dO a h4):bE X pins σ (bU H' a (nH dO C a)) { s' with heap:=h4 }:=by
 have Bn:B.get? a=none:=f1.2.1;have ntr:∀b u,H' b=some u->b≠a:=λb u e z=>by
  obtain⟨o,q⟩:=cov.trk b u e;rw[z,Bn] at q;cases q
 have na:∀b o,s.heap.get? b=some o->b≠a:=λb o e z=>by
  subst z;by_cases m:b∈jw X.stack
  ·obtain⟨_,o1,e1,nf⟩:=f4.2.2.1.mem m;obtain⟨oe,vs,_,_,_,e2,_,e3,_⟩:=f4.2.2.2;rw[e1] at e2;cases e2;exact nf vs e3
  ·obtain⟨o',q⟩:=cov.old b o e m;rw[Bn] at q;cases q
 have fr:∀b o,s'.heap.get? b=some o->b∈jw X.stack->∃sl,h4.get? b=some { o with slots:=sl }:=λb o e m=>by
  obtain⟨_,o1,e1,nf⟩:=f1.2.2.1.mem m;rw[e] at e1;cases e1;exact up b o e nf
 have same:∀b o ob,B.get? b=some ob->s'.heap.get? b=some o->h4.get? b=some o:=λb o ob e e1=>by
  have e2:=f1.1 b ob e;rw[e1] at e2;cases e2;exact f4.1 b o e
 refine I.call' (s':={ s' with heap:=h4 }) (ch:=[]) os ⟨λb o e n hb _=>?_,λb o e n hb hx=>?_,λb o e n hx=>?_,λb o e hx=>?_,λb xs e=>?_,λb o u e=>?_,λb ps e=>?_⟩ (λb o e=>?_) bare (λb z=>nomatch z)
 ·have e1:=un.keep b o e n hb (by simp);obtain⟨ob,q⟩:=cov.old b o e hb;exact same b o ob q e1
 ·obtain⟨sl,e1⟩:=un.slot b o e n hb (by simp);obtain⟨sl',e2⟩:=fr b _ e1 hb;exact⟨sl',e2⟩
 ·rw[aK (na b o e)];exact un.free b o e n (by simp)
 ·obtain⟨o',e1⟩:=un.there b o e (by simp);by_cases m:b∈jw X.stack
  ·obtain⟨sl,q⟩:=fr b o' e1 m;exact⟨_,q⟩
  ·obtain⟨ob,q⟩:=cov.old b o e m;exact⟨_,f4.1 b ob q⟩
 ·have e1:=un.tups b xs e;rw[aK (ntr b _ e1)];exact e1
 ·have e1:=un.frzs b o u e;rw[aK (ntr b _ e1)];exact e1
 ·obtain⟨more,e1⟩:=un.tbls b ps e;exact⟨more,by rw[aK (ntr b _ e1)];exact e1⟩
 ·by_cases z:b=a
  ·subst z;rw[aC] at e;cases e;obtain⟨oe,_,_,_,_,e2,⟨e3,_⟩,_⟩:=f4.2.2.2;refine⟨⟨⟨oe,e2,e3⟩,ct⟩,⟨oe,e2⟩,λh1 h2 ⟨⟨o,e5,e6⟩,⟨o',vs,e7,e8⟩⟩ k=>⟨⟨o,k o e5,e6⟩,⟨o',vs,k o' e7,e8⟩⟩⟩
  ·rw[aK z] at e;refine(hok b o e).stay (λc v hc q=>?_) (λc q=>by rw[aK (ntr c _ q)];exact q) λc xs q=>by rw[aK (ntr c _ q)];exact q
   obtain⟨ob,q'⟩:∃ob,B.get? c=some ob:=by
    rcases hc with r | r
    ·rw[r];exact cov.trk b o e
    ·exact cov.trk c _ r
   exact same c v ob q' q
end
theorem oN{X:Cx}{pins:List (Addr×Obj)}{σ:St}{H:Hp}{s:Shared}{M:Model}{A:Around}{E:Value->Shared->Prop}{i:Nat}{n:Str}{pos:Pos}{Q:Unit->Shared->Prop}(I:bE X pins σ H s)(hN:X.N.Nodup)(hi:X.N[i]? = some n)(hx:X.env.scope.names.lookup n=some .local)
  (h:∀s',bE X pins (σ.set i none) H s'->Q () s'):wpAny M A (do bindName X.env n Value.none;unbindBehindTheSuite X.env n pos) Q E s:=by
 obtain⟨m,hn,hl⟩:=id I.loc;have hcls:(X.env.scope.kind==.class || (X.env.scope.kind==.module&&X.env.locals != X.env.globals))=false:=by rw[I.ok.kind];rfl
 have cne:=I.cne;refine wpAny_nameGoes_keeps hx hn hcls λh' v hn' hs=>?_;obtain⟨oL,_,_,hoL,_⟩:=id hn;refine h _ ⟨I.ok,I.os,I.bare,⟨λb o e n hb hx=>?_,λb o e n hb hx=>?_,I.base.free,λb o e hx=>?_,I.base.tups,I.base.frzs,I.base.tbls⟩,⟨_,hn',λj y v' e1 e2 e3=>?_⟩,λy c e=>?_,I.free,I.freeC,λp hp=>?_,λb ob e=>?_,by simpa using I.len⟩
 ·exact(hs.2 b (ac (aO (aM e) I.ok.above))).trans (I.base.keep b o e n hb hx)
 ·obtain⟨sl,e1⟩:=I.base.slot b o e n hb hx;exact⟨sl,(hs.2 b (ac (aO (aM e) I.ok.above))).trans e1⟩
 ·obtain⟨o',e1⟩:=I.base.there b o e hx;exact⟨o',(hs.2 b (ac (aO (aM e) I.ok.above))).trans e1⟩
 ·have hj:j≠i:=λz=>by
   subst z;have:j<σ.length:=by rw[I.len];exact(aE.mp e1).1
   rw[gO this] at e2;cases e2
  rw[hW (cU hj)] at e2;obtain⟨u',r',q⟩:=hl j y v' e1 e2 e3;refine⟨u',r',?_⟩;rcases q with ⟨k,e⟩ | ⟨k,c,e,z⟩
  ·refine .inl ⟨k,?_⟩;have:y≠n:=λe=>hj (pB hN e1 (e▸hi));simp[this,e]
  ·exact .inr ⟨k,c,e,z.sameBut hs (cne y c e)⟩
 ·obtain⟨w',z⟩:=I.cell y c e;exact⟨w',z.sameBut hs (cne y c e)⟩
 ·obtain⟨e,n,ne,nf,d⟩:=I.pin p hp;exact⟨(hs.2 p.1 ne).trans e,n,ne,nf,d⟩
 ·refine(I.hok b ob e).stay (λc w' hc q=>(hs.2 c ?_).trans q) (λ_ q=>q) λ_ _ q=>q;rintro rfl;have hfree:=I.free;rcases hc with rfl | hc
  ·rw[hfree] at e;cases e
  ·rw[hfree] at hc;cases hc
structure kz (a:Addr) (k:Nat) (A:Around):Prop where
 hd:A.handled=some (.ref a)
 dp:A.depth+3 * k+5<recursionLimit
 un:A.units+16 * k+200<cLine
theorem kz.deeper{a:Addr}{k:Nat}{A:Around}(r:kz a (k+1) A)(env:Env):kz a k (A.deeper env):=
 ⟨r.hd,by have:=r.dp;show A.depth+1+3*k+5<_;lia,by have:=r.un;show A.units+3+16*k+200<_;lia⟩
theorem kz.of{a:Addr}{k:Nat}{A:Around}(r:gS k A):kz a k (A.mark (some (.ref a))):=⟨rfl,r.dp,r.un⟩
structure tu (P:Program) (w:World) (K:MU) (mg:Str->Option Value) (base:Heap) (a:Addr) (k:Nat) (f:Addr) (fd:FuncData) (ps:List Str) (sp:Sp):Prop where
 len:∀ vs H Q E,sp vs H Q E->vs.length=ps.length
 run:∀ (A:Around) (outer:List Env) (s:Shared) (H:Hp) (args:Args) (us:List Value) (vs:List V) (Q:VK) (E:XK),kz a k A->xP P w K mg base A outer s H->BindsTo s fd args (ps.zip us)->bb vs us->sp vs H Q E →
  codeAny (model P w) A (.call (.ref f) args) (CR xQ outer P w H s Q E) s
def Ei(P:Program)(w:World)(K:MU)(mg:Str->Option Value)(base:Heap)(N:List Str)(qual:Str)(scope:Scope)(f:Addr)(cd:Value)(A:Around)(outer:List Env)(s:Shared)(H:Hp)(E:XK):Cx:=
 { ij xQ P w K mg base N qual scope f cd A outer s H E with calm:=false,xe:=λ_ _=>False }
theorem Cy{P:Program}{w:World}{K:MU}{mg:Str->Option Value}{base:Heap}{a:Addr}{k:Nat}{f:Addr}{name qual:Str}{params:Arguments}{body:List Stmt}{scope:Scope}{dV kV doc pm cdv ct oc:Value}{an od:Option Addr}
  {osl:Array (Option Value)} {N ps:List Str} {sp:Sp} (lk:K.lookup f=some ⟨oc,od,.func (PySem.W.fnOf name qual params body scope dV kV doc pm an cdv ct),osl⟩) (hcd:PySem.W.codeIn K cdv qual=true) (S:bJ N ps scope)
  (len:∀vs H Q E,sp vs H Q E->vs.length=ps.length)
  (hbody:∀(A:Around) (outer:List Env) (s:Shared) (H:Hp) (vs:List V) (Q:VK) (E:XK),kz a k (A.deeper (envOfC qual scope s.heap.objs.size f cdv))->sp vs H Q E →
   ∃t,zh (Ei P w K mg base N qual scope f cdv A outer s H E) body t/\t { nx:=λ_ H'=>Q .non H',rt:=Q } (start N vs) H) :
  tu P w K mg base a (k+1) f (PySem.W.fnOf name qual params body scope dV kV doc pm an cdv ct) ps sp:=by
 refine⟨len,λA outer s H args us vs Q E hr e0 hb r hsp=>?_⟩;have hl:=len _ _ _ _ hsp;have KX:K.In s.heap:=e0.mod.kin.keeps λb o e=>(e0.bs b o e).1;have lim:s.heap.NoLimit:=e0.mod.nolimit.keeps λb o e=>(e0.bs b o e).1;have hkind:∀y∈ps.zip us,scope.names.lookup y.1=some .local\/(scope.names.lookup y.1=some .cell/\((cellsFrom (s.heap.objs.size+1) scope.names []).lookup y.1).isSome=true):=λ⟨n,v⟩ hy=>by
  rcases S.par n (iF hy).1 with q | q
  ·exact .inl q
  ·exact .inr ⟨q,gK _ _ _ (.inl q)⟩
 refine codeAny_call_function (by have:=hr.dp;lia) (KX _ _ lk) rfl S.co S.gen rfl (PySem.W.codeRec_of KX hcd) (hb _ _ _ _ ?_);refine wpAny_newFunctionEnv_cells S.kind hkind λenv he s1 x=>?_;subst he;refine⟨lim.keeps x.toInCall.keep,codeAny_func ?_⟩;obtain⟨t,ht,hq⟩:=hbody A outer s H vs Q E (hr.deeper _) hsp;have e1:xP P w K mg base { A with handled:=none } outer s H:=⟨e0.frames,e0.mod,e0.bs,e0.bsz,e0.funs,e0.frf,e0.hok,e0.bare⟩
 have I0:=qS (CX:=xQ) (E:=E) (f:=f) (qual:=qual) (cd:=cdv) S (A:={ A with handled:=none }) rfl e1 hl r x;have ok0:=I0.ok;have I:bE (Ei P w K mg base N qual scope f cdv A outer s H E) [] (start N vs) H s1:=
  ⟨⟨ok0.mod,ok0.kind,ok0.glob,ok0.blt,ok0.above,ok0.inj,ok0.has,ok0.cab,(λz=>nomatch z),Around.frames_deeper e0.frames,ok0.stk,ok0.exf,ok0.bs,ok0.bsz,ok0.noex,ok0.exfs,ok0.funs,ok0.frf⟩,I0.os,I0.bare,I0.base,I0.loc,I0.cell,I0.free,I0.freeC,I0.pin,I0.hok,I0.len⟩
 refine Lo (ht [] s1 (start N vs) H _ I hq) (λfl s' hs=>?_) λe s' hs=>False.elim hs;have fin:∀{σ':St} {H':Hp} {v:V} {u:Value},bE (Ei P w K mg base N qual scope f cdv A outer s H E) [] σ' H' s'->RelV v u->Q v H'->CE outer P w H s Q u s':=
  fun {σ' H' v u} J rv q=>⟨v,H',J.os,J.bare,J.base,J.hok,rv,q⟩
 cases fl with
 | ret u=>
  obtain⟨v,σ',H',J,rv,q⟩:=hs;exact fin J rv q
 | next=>
  obtain⟨σ',H',J,q⟩:=hs;exact fin (v:=V.non) (u:=Value.none) J rfl q
 | brk=>
  obtain⟨_,_,_,q⟩:=hs;exact False.elim q
 | cont=>
  obtain⟨_,_,_,q⟩:=hs;exact False.elim q
theorem ym{X:Cx}{a:Addr}{k:Nat}{f:Addr}{fd:FuncData}{ps:List Str}{sp:Sp}{x:Str}{e:Expr}{es:List Expr}{t:TA}{p pos:Pos}(F:tu X.prog X.w X.K X.mg X.base a k f fd ps sp)(hr:kz a k X.A)(hg:Gl X x)(hm:X.mg x=some (.ref f))(hk:PySem.W.keepIn X.K (.ref f)=true)(hb:Binds X.K fd ps [])
  (ha:PA X (e::es) t) (hdb:(x==("__debug__":Str))=false:=by decide) (he:starEach (e::es) X.env=(false,eval e X.env)::starEach es X.env:=by rfl) (hpl:(backTo pos (starEach es X.env)).any (·.1)=false:=by rfl) :
  PE X (.Call (.Name x p) (e::es) [] pos) (oY sp [] E0 t):=by
 intro pins s σ H Q I h;refine Lw (ju I hg hm ?_ hdb);refine io (h₀:=X.base) I.ok.mod.kin hk (cm (ha pos pins s σ H _ I h) λus s1 ⟨vs,H1,I1,r,q⟩=>⟨I1.kIn,?_⟩) he hpl;have r2:bb (vs++[]) (us++[]):=r.append .nil;have hl:(us++[]).length=ps.length:=by rw[<-r2.length];exact F.len _ _ _ _ q
 refine Lu (Lv (F.run X.A X.stack s1 H1 ⟨us,[]⟩ (us++[]) (vs++[]) Q E0 hr I1.env0 (hb s1 us I1.kIn hl) r2 q) λr s' hq=>?_);cases r with
 | error e=>exact False.elim hq
 | ok fl=>
  cases fl with
  | ret u=>exact I1.after hq
  | next=>exact False.elim hq
  | brk=>exact False.elim hq
  | cont=>exact False.elim hq
theorem wy{prog:Program}{w:World}{A:Around}{E:Value->Shared->Prop}{s:Shared}{K:MU}{a C N:Addr}{o:Obj}{bs bm bmB:List Value}{nm q:Str}{hdct:Bool}{sn:List Str}{sub:List Value}{ab:Bool}{col:Option Bool}{dd:Option Addr}{k0 k1 k2 k3 k5:Option Value}{B newId:String}{Q:Option Value->Shared->Prop}
  (X:K.In s.heap) (I:PySem.W.InstAt s.heap a o C none) (hga:PySem.W.findIn K (.ref C) "__getattribute__"=some (some (.builtin "BaseException.__getattribute__"))) (hgt:PySem.W.findIn K (.ref C) "__getattr__"=some none)
  (hf:PySem.W.findObj K C none "__class__"=some (.bind (.builtin "getset_descriptor.__get__") (.builtin "object.__class__"))) (hm:PySem.W.mroIn K C (.type "object")=some true) (FB:ExcAttrBase B bmB)
  (hC:s.heap.get? C=some (excClassObj nm q C N bs bm hdct sn sub ab col dd k0 k1 k2 k3 k5 newId)) (T:OwnTailQ s.heap bmB bm) (hq:Q (some (.ref C)) { s with toks:=s.toks+1 }):wpAny (model prog w) A (getAttr? (.ref a) "__class__") Q E s:=by
 obtain⟨h,g,d,t,os⟩:=s;unfold getAttr?;refine wpAny_bind (wpAny_mkText ?_);unfold getAttrBy?;refine wpAny_bind (MB ?_);unfold getAttrBy;refine Lz (wpAny_bind (bq (cu I) (wpAny_bind (bq (fH X hga) ?_))));refine MC (by rfl) ?_;unfold getAttrByItsOwn hookBefore;refine wpAny_bind (wpAny_ite_true (by rfl) (bq (fH X hgt) (wpAny_bind (MB (Lz ?_)))));unfold callGetattribute boundAndCalled;refine MC (by rfl) (wpAny_bind (wpAny_of_eq (FB.ga.bind (Value.ref a)) (Lu (codeAny_call_builtin FB.ga.plain F.entry_bexc_ga (wpAny_check_ga_own FB hC T I.at_ I.cls ?_)))));unfold Builtin.«object.__getattribute__»;refine wpAny_bind ?_;unfold slotArgs;refine MC (by rfl) (MC (by rfl) (Lq ?_));show wpAny _ _ (Bind.bind (Builtin.ObjectAttr.attrName (Value.str (Str.ofString "__class__") _)) _) _ _ _;refine wpAny_bind ?_;unfold Builtin.ObjectAttr.attrName;refine Lq ?_;refine wpAny_bind (bq (cu I) (wpAny_bind (bq (PySem.W.looks_find X I hf) ?_)));unfold Builtin.ObjectAttr.bindTo;refine wpAny_bind (Lz (Lu (PySem.W.class_get X I hm ?_)));refine Lq ?_;refine PySem.W.handed_on rfl ?_;exact Lq hq
structure tw (K:MU) (C:Addr):Prop where
 ga:PySem.W.findIn K (.ref C) "__getattribute__"=some (some (.builtin "BaseException.__getattribute__"))
 gt:PySem.W.findIn K (.ref C) "__getattr__"=some none
 fo:PySem.W.findObj K C none "__class__"=some (.bind (.builtin "getset_descriptor.__get__") (.builtin "object.__class__"))
 mro:PySem.W.mroIn K C (.type "object")=some true
 lk:∃ c dd cd sl,K.lookup C=some ⟨c,dd,.cls cd,sl⟩
 own:∃ B bmB,ExcAttrBase B bmB/\∀ h:Heap,K.In h->∃ nm q N bs bm hdct sn sub ab col dd k0 k1 k2 k3 k5 newId,h.get? C=some (excClassObj nm q C N bs bm hdct sn sub ab col dd k0 k1 k2 k3 k5 newId)/\OwnTailQ h bmB bm
def DM(C a:Addr)(h:Heap):Prop:=(∃o,h.get? a=some o/\o.cls=.ref C)/\Fa a h
theorem DM.inst{C a:Addr}{h:Heap}(x:DM C a h):∃o,PySem.W.InstAt h a o C none:=by
 obtain⟨⟨o,e1,e2⟩,o',vs,e3,⟨e4,e5⟩,_⟩:=x;rw[e1] at e3;cases e3;exact⟨o,e1,e2,by unfold PySem.W.notCls;rw[e5],by rw[e4];trivial⟩
theorem zE{K:MU}{C a:Addr}(k:tw K C):PySem.W.KitX K (.ref a) (.ref C) (DM C a):=by
 obtain⟨c,dd,cd,sl,lk⟩:=k.lk;refine⟨λM h _ x=>?_,λM h X _ A Q E s kp hq=>?_,λh tp dd' its n sl' X htp=>?_,fun {prog w A E Q s} X x hq=>?_⟩
 ·obtain⟨o,I⟩:=x.inst;exact cu I
 ·exact wpAny_bind (wpAny_loadPart (kp C _ (X C _ lk)) (Lq hq))
 ·refine Bool.eq_false_iff.mpr λq=>?_;have e:=Value.ref.inj (beq_iff_eq.mp q);subst e;rw[X C _ lk] at htp;cases htp
 ·obtain⟨o,I⟩:=x.inst;obtain⟨B,bmB,FB,ow⟩:=k.own;obtain⟨nm,q,N,bs,bm,hdct,sn,sub,ab,col,dd,k0,k1,k2,k3,k5,newId,hC,T⟩:=ow s.heap X;exact wy X I k.ga k.gt k.fo k.mro FB hC T hq
section
variable {K:MU} {C D R:Addr} {dd:Option Addr} {cd:ClassData} {sl:Array (Option Value)} {b:Bool}
theorem wB (lk:K.lookup D=some ⟨.type "type",dd,.cls cd,sl⟩) (m:PySem.W.mroIn K C (.ref D)=some b):PySem.W.kitCls K (.ref C) (.ref D)=some b:=by
 have e1:PySem.W.clsIn K D=some cd:=by unfold PySem.W.clsIn;rw[lk]
 have e2:PySem.W.typeIn K (.ref D)=some (.type "type"):=by show Option.map (λx=>x.cls) (List.lookup D K)=_;rw[lk];rfl
 show (if ((PySem.W.clsIn K D).isSome&&PySem.W.typeIn K (Value.ref D)==some (Value.type "type"))=true then PySem.W.subIn K (Value.ref C) (Value.ref D) else none)=some b;rw[e1,e2];rw[MO (by simp)];exact m
theorem cC (ne:(Value.ref C==Value.ref D)=false) (lk:K.lookup D=some ⟨.type "type",dd,.cls cd,sl⟩) (m:PySem.W.mroIn K C (.ref D)=some b):PySem.W.kitOne K (.ref C) (.ref D)=some b:=by
 unfold PySem.W.kitOne;rw[MN (by rw[ne];exact aY)];exact wB lk m
theorem tI:PySem.W.kitOne K (.ref C) (.ref C)=some true:=by
 unfold PySem.W.kitOne;rw[MO (beq_self_eq_true _)]
theorem tH{T:String}(mt:PySem.W.kitMeta T=true)(m:PySem.W.mroIn K C (.type T)=some b):PySem.W.kitOne K (.ref C) (.type T)=some b:=by
 unfold PySem.W.kitOne PySem.W.kitCls;rw[MN (by exact λz=>nomatch (beq_iff_eq.mp z))];simp only[mt,MS];exact m
theorem lP (lk:K.lookup R=some ⟨.type "type",dd,.cls cd,sl⟩) (m:PySem.W.mroIn K C (.ref R)=some b) (e:PySem.W.mroIn K R (.type "BaseException")=some true):PySem.W.exmOne K (.ref C) (.ref R)=some b:=by
 unfold PySem.W.exmOne;rw[MO (by show (PySem.W.mroIn K R (.type "BaseException")==some true)=true;rw[e];rfl)];exact wB lk m
theorem find_none {name:Str} {a g:Value} (lk:K.lookup C=some ⟨.type "type",dd,.cls cd,sl⟩) (h1:PySem.W.findIn K (.ref C) name=some (some a)) (h2:PySem.W.specialIn K a "__get__"=some (some g)) (h3:PySem.W.takesIn K a=some true):PySem.W.findObj K C none name=some (.bind g a):=by
 have e1:PySem.W.clsIn K C=some cd:=by unfold PySem.W.clsIn;rw[lk]
 unfold PySem.W.findObj;simp only[e1,h1,h2,h3,Option.bind_some]
end
def strKeys(es:Array DictEntry):Bool:=es.toList.all λe=>match e.key with | .str _ _=>true | _=>false
theorem jJ{K:MU}{N:Addr}{c:Value}{d:Option Addr}{es:Array DictEntry}{ep:Nat}{sl:Array (Option Value)}(lk:K.lookup N=some ⟨c,d,.dict es ep,sl⟩)(h:strKeys es=true):PySem.W.nsOkIn K N=true:=by
 unfold PySem.W.nsOkIn;rw[lk];unfold strKeys at h;rw[Array.all_toList] at h;exact h
theorem C3 {P:Str->Prop} (h1:P "__init__") (h2:P "__getattribute__") (h3:P "__getattr__") (h4:P "args"):∀n∈quietNames,P n:=λn hn=>by
 unfold quietNames at hn;simp only[aZ,cX,or_false] at hn;rcases hn with rfl | rfl | rfl | rfl<;>assumption
theorem lQ{K:MU}{C R N NR:Addr}{nm q x:Str}{bs bmB:List Value}{hdct:Bool}{sn:List Str}{sub:List Value}{ab:Bool}{col:Option Bool}{dd dR:Option Addr}{k0 k1 k2 k3 k5:Option Value}{newId B:String}{cR:Value}{cdR:ClassData}{slR:Array (Option Value)}{mg:Str->Option Value}{base:Heap}
  (KX:K.In base) (G:base.Ns mainGlobals mg) (e0:PySem.W.nsIn K mainGlobals x=some (some (.ref C))) (lkC:K.lookup C=some (excClassObj nm q C N bs (.ref R::bmB) hdct sn sub ab col dd k0 k1 k2 k3 k5 newId)) (lkR:K.lookup R=some ⟨cR,dR,.cls cdR,slR⟩)
  (nC:PySem.W.nsOkIn K N=true) (iC:PySem.W.nsIn K N "__init__"=some none) (eR:cdR.ns=NR) (nR:PySem.W.nsOkIn K NR=true) (r1:PySem.W.nsIn K NR "__init__"=some none) (r2:PySem.W.nsIn K NR "__getattribute__"=some none) (r3:PySem.W.nsIn K NR "__getattr__"=some none) (r4:PySem.W.nsIn K NR "args"=some none)
  (FB:ExcAttrBase B bmB) (ga:PySem.W.findIn K (.ref C) "__getattribute__"=some (some (.builtin "BaseException.__getattribute__"))) (gt:PySem.W.findIn K (.ref C) "__getattr__"=some none) (gc:PySem.W.findIn K (.ref C) "__class__"=some (some (.builtin "object.__class__")))
  (sp:PySem.W.specialIn K (.builtin "object.__class__") "__get__"=some (some (.builtin "getset_descriptor.__get__"))) (tk:PySem.W.takesIn K (.builtin "object.__class__")=some true) (mr:PySem.W.mroIn K C (.type "object")=some true):OwnCls x C bmB newId mg base/\tw K C:=by
 subst eR;refine⟨⟨bM KX G e0,?_⟩,⟨ga,gt,find_none lkC gc sp tk,mr,⟨_,_,_,_,lkC⟩,B,bmB,FB,λh X=>?_⟩⟩
 ·exact⟨_,N,nm,q,bs,hdct,sn,sub,ab,col,dd,k0,k1,k2,k3,k5,_,KX _ _ lkC,kO (ik KX nC),cE KX nC iC,
   .own (KX _ _ lkR) (kO (ik KX nR)) (cE KX nR r1) .base⟩
 ·exact⟨nm,q,N,bs,_,hdct,sn,sub,ab,col,dd,k0,k1,k2,k3,k5,newId,X _ _ lkC,.own (X _ _ lkR) (kO (ik X nR))
   (C3 (cE X nR r1) (cE X nR r2) (cE X nR r3) (cE X nR r4)) .base⟩
structure lV (P:Program) (w:World) (K:MU) (mg:Str->Option Value) (base:Heap) (k:Nat) (x:Str) (st:Stmt) (ps:List Str) (sp:Sp):Prop where
 ex:∃ f fd,rT K x x st f fd/\mg x=some (.ref f)/\Binds K fd ps []/\me P w K mg base (ny P w) k f fd ps sp
structure Ar (P:Program) (w:World) (K:MU) (mg:Str->Option Value) (base:Heap) (k:Nat) (x:Str) (st:Stmt) (ps:List Str) (sp:Addr->Sp):Prop where
 ex:∃ f fd,rT K x x st f fd/\mg x=some (.ref f)/\Binds K fd ps []/\∀ a,tu P w K mg base a k f fd ps (sp a)
section
variable {P:Program} {w:World} {K:MU} {mg:Str->Option Value} {base:Heap} {k:Nat} {x:Str} {st:Stmt} {ps:List Str} {sp:Sp}
theorem Fn.mkX(E:Fn K mg x st ps)(h:∀f fd,rT K x x st f fd->me P w K mg base (ny P w) k f fd ps sp):lV P w K mg base k x st ps sp:=by
 obtain⟨f,fd,F,m,b⟩:=E.ex;exact⟨f,fd,F,m,b,h f fd F⟩
theorem Fn.mkH{sp:Addr->Sp}(E:Fn K mg x st ps)(h:∀f fd,rT K x x st f fd->∀a,tu P w K mg base a k f fd ps (sp a)):Ar P w K mg base k x st ps sp:=by
 obtain⟨f,fd,F,m,b⟩:=E.ex;exact⟨f,fd,F,m,b,h f fd F⟩
theorem rT.okX{qual:Str}{f:Addr}{fd:FuncData}{N:List Str}(F:rT K x qual st f fd)(S:bJ N ps (ae st))(len:∀vs H Q E,sp vs H Q E->vs.length=ps.length)
  (hbody:∀(cdv:Value) (A:Around) (outer:List Env) (s:Shared) (H:Hp) (vs:List V) (Q:VK) (E:XK),gS k (A.deeper (envOfC qual (ae st) s.heap.objs.size f cdv))->sp vs H Q E →
   ∃(σ:St) (t:TS),start N vs=σ/\zh (ij (ny P w) P w K mg base N qual (ae st) f cdv A outer s H E) (f6 st) t/\t { nx:=λ_ H'=>Q .non H',rt:=Q } σ H):me P w K mg base (ny P w) (k+1) f fd ps sp:=by
 obtain⟨oc,od,kV,doc,pm,an,cdv,ct,osl,rfl,lk,hcd⟩:=F.ex;refine B7 lk hcd S len λA outer s H vs Q E hr hsp=>?_;obtain⟨σ,t,e,h,q⟩:=hbody cdv A outer s H vs Q E hr hsp;exact⟨t,h,by rw[e];exact q⟩
theorem rT.okH{a:Addr}{qual:Str}{f:Addr}{fd:FuncData}{N:List Str}(F:rT K x qual st f fd)(S:bJ N ps (ae st))(len:∀vs H Q E,sp vs H Q E->vs.length=ps.length)
  (hbody:∀(cdv:Value) (A:Around) (outer:List Env) (s:Shared) (H:Hp) (vs:List V) (Q:VK) (E:XK),kz a k (A.deeper (envOfC qual (ae st) s.heap.objs.size f cdv))->sp vs H Q E →
   ∃(σ:St) (t:TS),start N vs=σ/\zh (Ei P w K mg base N qual (ae st) f cdv A outer s H E) (f6 st) t/\t { nx:=λ_ H'=>Q .non H',rt:=Q } σ H):tu P w K mg base a (k+1) f fd ps sp:=by
 obtain⟨oc,od,kV,doc,pm,an,cdv,ct,osl,rfl,lk,hcd⟩:=F.ex;refine Cy lk hcd S len λA outer s H vs Q E hr hsp=>?_;obtain⟨σ,t,e,h,q⟩:=hbody cdv A outer s H vs Q E hr hsp;exact⟨t,h,by rw[e];exact q⟩
end
section
variable {σ:St} {H:Hp}
theorem vC{C:Addr}{E:XK}{t:TA}{D:Ends}:yM C E t D σ H=t σ H λvs H1=>vs.length<=sizeLine/\E (.ref C) none H1:=rfl
end
theorem nu:bootBuiltins "ValueError"=some (.type "ValueError"):=by decide +kernel
structure Ek (K:MU) (C:Addr) (ds:List Addr) (due:Nat):Prop where
 ek:tw K C
 kit:∀ j d,ds[j]? = some d->PySem.W.kitOne K (.ref C) (.ref d)=some (decide (j=due))
 val:PySem.W.kitOne K (.ref C) (.type "ValueError")=some true
end L2
namespace Rm
open PySem L2
def fv:PyData->Prop
 | .str z=>z.cps.all (·<128)=true/\z.length<=1000
 | _=>True
def jK:PyData->Bool
 | .str z=>B1 z
 | _=>false
theorem nG{K:MU}{H:Hp}{x:V}{d:PyData}{Q:VK}{E:XK}(h:Dat H x d)(t:fv d)(q:Q (.bl (jK d)) H):mH K [x] H Q E:=by
 refine⟨x,rfl,?_⟩;cases id h with
 | str z=>exact .inl ⟨z,rfl,t.1,t.2,q⟩
 | non=>exact .inr ⟨_,h.ty,rfl,q⟩
 | bl b=>exact .inr ⟨_,h.ty,rfl,q⟩
 | int i=>exact .inr ⟨_,h.ty,rfl,q⟩
 | tup h1 h2=>exact .inr ⟨_,h.ty,rfl,q⟩
 | lst h1 h2=>exact .inr ⟨_,h.ty,rfl,q⟩
def sA(C:Addr):Sp:=λvs H Q E=>∃x,vs=[x]/\((∃bs ms,x=.str (wd bs)/\kd bs/\bs.length<=40/\hU bs bs.length ms/\∀l H',H l=none->aX H H'->cK H' l (sq ms)->Q (.ref l) H') ∨
 (∃d,Dat H x d/\fv d/\jK d=false/\E (.ref C) none H))
theorem CF{H:Hp}{x:V}{d:PyData}(h:Dat H x d)(ht:Cr d=true):∃a xs ds,x=.ref a/\d=.tuple ds/\H a=some (.tup xs)/\fh H xs ds:=by
 cases h<;>first | exact⟨_,_,_,rfl,rfl,by assumption,by assumption⟩ | cases ht
theorem AW{H:Hp}{x:V}{d:PyData}(h:Dat H x d)(ht:isL d=true):∃a xs ds,x=.ref a/\d=.list ds/\H a=some (.lst xs)/\fh H xs ds:=by
 cases h<;>first | exact⟨_,_,_,rfl,rfl,by assumption,by assumption⟩ | cases ht
theorem zZ{d:PyData}(h:Cr d=false):eB d=false:=by
 cases d<;>first | rfl | cases h
theorem uk{d:PyData}(h:isL d=false):mC d=false:=by
 cases d<;>first | rfl | cases h
end Rm
namespace L2
open PySem PySem.Spec PyProof.Rows
section
variable {κ:Type} [DecidableEq κ]
def cW(kvs:List (κ×V))(k:κ):Option V:=(kvs.find? λkv=>decide (kv.1=k)).map (·.2)
def putK(kvs:List (κ×V))(k:κ)(v:V):List (κ×V):=
 if (kvs.any λkv=>decide (kv.1=k))=true then kvs.map (λkv=>if kv.1=k then (kv.1,v) else kv) else kvs++[(k,v)]
theorem eh{p:κ×V}{r:List (κ×V)}{k:κ}(e:p.1=k):cW (p::r) k=some p.2:=by simp[cW,eK,e]
theorem eu{p:κ×V}{r:List (κ×V)}{k:κ}(e:¬p.1=k):cW (p::r) k=cW r k:=by simp[cW,eK,e]
theorem mE(k:κ):∀kvs:List (κ×V),(kvs.any λkv=>decide (kv.1=k))=(cW kvs k).isSome
 | []=>rfl
 | p::r=>by
  rw[eV];by_cases e:p.1=k
  ·simp only[eh e,decide_eq_true e,Bool.true_or,Option.isSome_some]
  ·rw[eu e,MQ e,Bool.false_or];exact mE k r
theorem rg(k j:κ)(y:V):∀kvs:List (κ×V),cW (kvs.map λkv=>if kv.1=k then (kv.1,y) else kv) j=(cW kvs j).map λx=>if j=k then y else x
 | []=>rfl
 | p::r=>by
  have ih:=rg k j y r;rw[bR];by_cases h:p.1=k
  ·rw[MO h];by_cases e:p.1=j
   ·rw[eh (p:=(p.1,y)) e,eh e,iE,MO (e.symm.trans h)]
   ·rw[eu (p:=(p.1,y)) e,eu e,ih]
  ·rw[MN h];by_cases e:p.1=j
   ·rw[eh (p:=p) e,eh e,iE,MN (λz=>h (e.trans z))]
   ·rw[eu (p:=p) e,eu e,ih]
theorem pv(k j:κ)(y:V):∀kvs:List (κ×V),cW kvs k=none->cW (kvs++[(k,y)]) j=if j=k then some y else cW kvs j
 | [],_=>by
  by_cases e:k=j
  ·rw[MO e.symm];exact eh (p:=(k,y)) e
  ·rw[MN (λz=>e z.symm)];exact eu (p:=(k,y)) e
 | p::r,hn=>by
  rw[List.cons_append];have hk:¬p.1=k:=λz=>by rw[eh z] at hn;cases hn
  rw[eu hk] at hn;have ih:=pv k j y r hn;by_cases e:p.1=j
  ·rw[eh e,eh e,MN (λz=>hk (e.trans z))]
  ·rw[eu e,eu e,ih]
theorem fS(kvs:List (κ×V))(k j:κ)(y:V):cW (putK kvs k y) j=if j=k then some y else cW kvs j:=by
 unfold putK;by_cases a:(kvs.any λkv=>decide (kv.1=k))=true
 ·rw[MO a,rg];rw[mE] at a;by_cases e:j=k
  ·obtain⟨x,hx⟩:=jY.mp a;rw[MO e,e,hx,iE,MO rfl]
  ·rw[MN e];cases cW kvs j with
   | none=>rfl
   | some x=>rw[iE,MN e]
 ·rw[MN a];refine pv k j y kvs ?_;rw[mE] at a;cases q:cW kvs k with
  | none=>rfl
  | some x=>rw[q] at a;exact(a rfl).elim
theorem c9(kvs:List (κ×V))(k:κ)(v:V):(putK kvs k v).length<=kvs.length+1:=by
 unfold putK
 split
 ·rw[aF];lia
 ·rw[ao,fN,kL];lia
theorem pU.isSome_eq{o:Option V}{u:Option Value}(r:pU o u):o.isSome=u.isSome:=by
 cases o with
 | none=>cases u with
  | none=>rfl
  | some _=>exact(show False from r).elim
 | some _=>cases u with
  | none=>exact(show False from r).elim
  | some _=>rfl
theorem KV.val{kvs:List (κ×V)}{vs:List (κ×Value)}(r:KV kvs vs)(k:κ):pU (cW kvs k) (valueAt vs k):=by
 unfold KV at r
 induction r with
 | nil=>exact True.intro
 | @cons p q ps qs h t ih=>
  obtain⟨h1,h2⟩:=h;by_cases e:p.1=k
  ·have e':q.1=k:=h1.symm.trans e;have b:valueAt (q::qs) k=some q.2:=by simp[valueAt,eK,e']
   rw[eh e,b];exact h2
  ·have e':¬q.1=k:=λz=>e (h1.trans z);have b:valueAt (q::qs) k=valueAt qs k:=by simp[valueAt,eK,e']
   rw[eu e,b];exact ih
theorem KV.any{kvs:List (κ×V)}{vs:List (κ×Value)}(r:KV kvs vs)(k:κ):(kvs.any λkv=>decide (kv.1=k))=vs.any λkv=>decide (kv.1=k):=by
 unfold KV at r
 induction r with
 | nil=>rfl
 | cons h t ih=>rw[eV,eV,ih,h.1]
theorem KV.repl{kvs:List (κ×V)}{vs:List (κ×Value)}(r:KV kvs vs)(k:κ){y:V}{u:Value}(ry:RelV y u):
  KV (kvs.map λkv=>if kv.1=k then (kv.1,y) else kv) (vs.map λkv=>if kv.1=k then (kv.1,u) else kv):=by
 unfold KV at r ⊢
 induction r with
 | nil=>exact .nil
 | @cons p q ps qs h t ih=>
  rw[bR,bR];refine .cons ?_ ih;obtain⟨h1,h2⟩:=h;by_cases e:p.1=k
  ·rw[MO e,MO (h1.symm.trans e)];exact⟨h1,ry⟩
  ·rw[MN e,MN (λz=>e (h1.trans z))];exact⟨h1,h2⟩
theorem KV.put{kvs:List (κ×V)}{vs:List (κ×Value)}(r:KV kvs vs)(k:κ){y:V}{u:Value}(ry:RelV y u):KV (putK kvs k y) (stored vs k u):=by
 unfold putK stored;rw[r.any k];by_cases e:(vs.any λkv=>decide (kv.1=k))=true
 ·rw[MO e,MO e];exact r.repl k ry
 ·rw[MN e,MN e];exact Paired.snoc r ⟨rfl,ry⟩
theorem KV.length{kvs:List (κ×V)}{vs:List (κ×Value)}(r:KV kvs vs):kvs.length=vs.length:=cN r
end
theorem tJ{P:Program}{w:World}{k:Key}{u:Value}(r:RelV (kV k) u):(dk P w).is k u=true:=by
 cases k with
 | inl i=>obtain⟨t,e⟩:=(show ∃t,u=Value.int i t from r);subst e;exact su P w i t
 | inr x=>obtain⟨t,e⟩:=(show ∃t,u=Value.str x t from r);subst e;exact sr P w x t
theorem qR{P:Program}{w:World}:∀{ks:List Key} {us:List Value},bb (ks.map kV) us->ItemsAre (dk P w) ks us
 | [],_,r=>by rw[m9] at r;cases r;exact .nil
 | k::ks,_,r=>by
  rw[bR] at r;cases r with
  | cons h t=>exact .cons (tJ h) (qR t)
abbrev KT (H:Hp):List (List Key×V)->List (List Key×Addr×Value)->Prop:=Paired λp q=>p.1=q.1/\H q.2.1=some (.tup (p.1.map kV))/\RelV p.2 q.2.2
theorem KT.val{H:Hp}{kvs:List (List Key×V)}{xs:List (List Key×Addr×Value)}(r:KT H kvs xs)(k:List Key):pU (cW kvs k) ((atKey xs k).map (·.2)):=by
 induction r with
 | nil=>exact True.intro
 | @cons p q ps qs h t ih=>
  obtain⟨h1,_,h2⟩:=h;by_cases e:p.1=k
  ·have e':q.1=k:=h1.symm.trans e;have b:atKey (q::qs) k=some q.2:=by simp[atKey,eK,e']
   rw[eh e,b];exact h2
  ·have e':¬q.1=k:=λz=>e (h1.trans z);have b:atKey (q::qs) k=atKey qs k:=by simp[atKey,eK,e']
   rw[eu e,b];exact ih
theorem KT.repl{H:Hp}{kvs:List (List Key×V)}{xs:List (List Key×Addr×Value)}(r:KT H kvs xs)(k:List Key){y:V}{u:Value}(ry:RelV y u):
  KT H (kvs.map λkv=>if kv.1=k then (kv.1,y) else kv) (xs.map (putAt k u)):=by
 induction r with
 | nil=>exact .nil
 | @cons p q ps qs h t ih=>
  rw[bR,bR];refine .cons ?_ ih;obtain⟨h1,h2,h3⟩:=h;unfold putAt;by_cases e:p.1=k
  ·rw[MO e,MO (h1.symm.trans e)];exact⟨h1,h2,ry⟩
  ·rw[MN e,MN (λz=>e (h1.trans z))];exact⟨h1,h2,h3⟩
theorem KT.put{H:Hp}{kvs:List (List Key×V)}{xs:List (List Key×Addr×Value)}(r:KT H kvs xs)(k:List Key){b:Addr}{y:V}{u:Value}(hb:H b=some (.tup (k.map kV)))(ry:RelV y u):
  KT H (putK kvs k y) (storedH xs k b u):=by
 have e:(kvs.any λkv=>decide (kv.1=k))=(atKey xs k).isSome:=by
  rw[mE,(r.val k).isSome_eq,Option.isSome_map]
 unfold putK storedH;rw[e];by_cases q:(atKey xs k).isSome=true
 ·rw[MO q,MO q];exact r.repl k ry
 ·rw[MN q,MN q];exact Paired.snoc r ⟨rfl,hb,ry⟩
theorem KT.keeps{H H':Hp}{kvs:List (List Key×V)}{xs:List (List Key×Addr×Value)}(r:KT H kvs xs)(ht:∀b ys,H b=some (.tup ys)->H' b=some (.tup ys)):KT H' kvs xs:=
 Paired.mapP r λ_ _ z=>⟨z.1,ht _ _ z.2.1,z.2.2⟩
section
variable {P:Program} {w:World} {H:Hp} {h:Heap} {a:Addr}
theorem BU{u:HO}(ok:lC P w H h)(e:Rd H a u):cL P w H h a u:=e.ok ok
theorem vx{kvs:List (Key×V)}(ok:lC P w H h)(e:Rd H a (.dK kvs)):kvs.length<=sizeLine/\(a==sysModules)=false/\∃vs,KV kvs vs/\h.DictOf (dk P w) a vs:=
 show cL P w H h a (.dK kvs) from BU ok e
theorem B8{kvs:List (Key×V)}(ok:lC P w H h)(e:H a=some (.dK kvs)):kvs.length<=sizeLine/\(a==sysModules)=false/\∃vs,KV kvs vs/\h.DictOf (dk P w) a vs:=vx ok (.inl e)
theorem rF{ks:List Key}(ok:lC P w H h)(e:H a=some (.tup (ks.map kV))):(tupleKind (dk P w)).is h ks a:=by
 obtain⟨_,its,r,o,h1,h2,n,h3⟩:=(show cL P w H h a (.tup (ks.map kV)) from ok a _ e)
 exact⟨o,its.toArray,n,h1,h2,h3,by simpa using qR r⟩
theorem vw{kvs:List (List Key×V)}(ok:lC P w H h)(e:Rd H a (.dT kvs)):kvs.length<=sizeLine/\(a==sysModules)=false ∧
  ∃xs,KT H kvs xs/\h.DictOfH (tupleKind (dk P w)) a xs:=by
 obtain⟨z,y,xs,r,o,es,ep,h1,h2,h3,h4,h5⟩:=(show cL P w H h a (.dT kvs) from BU ok e)
 refine⟨z,y,xs,r,o,es,ep,h1,h2,h3,h4,λx hx=>?_,h5⟩;have all:∀{l:List (List Key×V)} {m:List (List Key×Addr×Value)},KT H l m->∀x∈m,(tupleKind (dk P w)).is h x.1 x.2.1:=by
  intro l m q
  induction q with
  | nil=>intro x hx;exact nomatch hx
  | @cons p q ps qs hq t ih=>
   intro x hx;rcases aZ.mp hx with e | hx
   ·subst e;exact rF ok (by rw[<-hq.1];exact hq.2.1)
   ·exact ih x hx
 exact all r x hx
theorem EW{kvs:List (List Key×V)}(ok:lC P w H h)(e:H a=some (.dT kvs)):kvs.length<=sizeLine/\(a==sysModules)=false ∧
  ∃xs,KT H kvs xs/\h.DictOfH (tupleKind (dk P w)) a xs:=vw ok (.inl e)
end
def fW(H:Hp)(a:Addr)(y:V)(r:Option V):Prop:=
 (∃kvs k,Rd H a (.dK kvs)/\y=kV k/\r=cW kvs k)\/∃kvs k b,Rd H a (.dT kvs)/\y=.ref b/\H b=some (.tup (k.map kV))/\r=cW kvs k
def nQ(H:Hp)(a:Addr)(y v:V)(H':Hp):Prop:=
 (∃kvs k,H a=some (.dK kvs)/\y=kV k/\kvs.length<sizeLine/\H'=bU H a (.dK (putK kvs k v))) ∨
 ∃kvs k b,H a=some (.dT kvs)/\y=.ref b/\H b=some (.tup (k.map kV))/\kvs.length<sizeLine/\H'=bU H a (.dT (putK kvs k v))
theorem fW.k{H:Hp}{a:Addr}{kvs:List (Key×V)}{k:Key}(e:H a=some (.dK kvs)):fW H a (kV k) (cW kvs k):=.inl ⟨kvs,k,.inl e,rfl,rfl⟩
theorem nQ.k{H:Hp}{a:Addr}{kvs:List (Key×V)}{k:Key}{v:V}(e:H a=some (.dK kvs))(hl:kvs.length<sizeLine):nQ H a (kV k) v (bU H a (.dK (putK kvs k v))):=.inl ⟨kvs,k,e,rfl,hl,rfl⟩
section
variable {X:Cx} {pins:List (Addr×Obj)} {σ:St} {H:Hp} {s:Shared} {a:Addr} {y v:V} {u r:Value} {o:Option V} {A:Around} {E:Value->Shared->Prop}
theorem bE.big(I:bE X pins σ H s):sysModules<s.heap.objs.size:=by
 have h:mainGlobals<s.heap.objs.size:=(I.mod.glob.keeps I.bk).lt;exact fM (by decide) h
theorem xB{Q:Value->Shared->Prop}(hu:A.units+1<cLine)(I:bE X pins σ H s)(g:fW H a y (some v))(ry:RelV y u)(h:∀w' s',bE X pins σ H s'->RelV v w'->Q w' s'):
  wpAny (model X.prog X.w) A (getItem (.ref a) u) Q E s:=by
 rcases g with ⟨kvs,k,e,ey,l⟩ | ⟨kvs,k,b,e,ey,eb,l⟩
 ·subst ey;obtain⟨z,hd,vs,rel,dd⟩:=vx I.hok e;obtain⟨w',hw,rw'⟩:=pU.some_of (v:=v) (o:=valueAt vs k) (by rw[l];exact rel.val k);exact wpAny_getItem_of (tJ ry) dd.mapOf hw (h w' _ (I.tok _) rw')
 ·subst ey;cases (show u=Value.ref b from ry);obtain⟨z,hd,xs,rel,dd⟩:=vw I.hok e;obtain⟨w',hw,rw'⟩:=pU.some_of (v:=v) (o:=(atKey xs k).map (·.2)) (by rw[l];exact rel.val k);obtain⟨p,hp,hp2⟩:=Option.map_eq_some_iff.mp hw;refine wpAny_getItem_heap (MD hu) (rF I.hok eb) dd hp ?_;rw[hp2];exact h w' _ (I.tok _) rw'
theorem Ac{Q:Value->Shared->Prop}(hu:A.units+1<cLine)(I:bE X pins σ H s)(g:fW H a y o)(ry:RelV y u)(h:∀s',bE X pins σ H s'->Q (.bool (!o.isSome)) s'):
  wpAny (model X.prog X.w) A (compareOp .NotIn u (.ref a)) Q E s:=by
 rcases g with ⟨kvs,k,e,ey,l⟩ | ⟨kvs,k,b,e,ey,eb,l⟩
 ·subst ey;obtain⟨z,hd,vs,rel,dd⟩:=vx I.hok e;refine wpAny_notIn_of (tJ ry) hd dd.mapOf ?_;rw[<-(rel.val k).isSome_eq,<-l];exact h _ (I.tok _)
 ·subst ey;cases (show u=Value.ref b from ry);obtain⟨z,hd,xs,rel,dd⟩:=vw I.hok e;refine wpAny_notIn_heap (MD hu) (rF I.hok eb) hd dd ?_;have q:=(rel.val k).isSome_eq;rw[Option.isSome_map] at q;rw[<-q,<-l];exact h _ (I.tok _)
theorem rM{h':Heap}{t':Nat}{ob:HO}(I:bE X pins σ H s)(mu:E8 (H a))(hs:Heap.SameBut a s.heap h')(he:∃q,h'.get? a=some q)(new:cL X.prog X.w (bU H a ob) h' a ob):
  bE X pins σ (bU H a ob) { s with heap:=h',toks:=t' }:=
 I.write (x:=a) (e:=a) mu (.inl rfl) (λb q hb z=>(hs.2 b hb).trans z) he new
theorem zQ{P:Program}{w:World}{H':Hp}{h':Heap}{kvs:List (Key×V)}{vs:List (Key×Value)}(z:kvs.length<=sizeLine)(hd:(a==sysModules)=false)(rel:KV kvs vs)(dd:h'.DictOf (dk P w) a vs):
  cL P w H' h' a (.dK kvs):=⟨z,hd,vs,rel,dd⟩
theorem xA{H':Hp}{Q:Unit->Shared->Prop}(hu:A.units+1<cLine)(I:bE X pins σ H s)(g:nQ H a y v H')(ry:RelV y u)(rv:RelV v r)(h:∀s',bE X pins σ H' s'->Q () s'):
  wpAny (model X.prog X.w) A (setItem (.ref a) u r) Q E s:=by
 rcases g with ⟨kvs,k,e,ey,l,eH⟩ | ⟨kvs,k,b,e,ey,eb,l,eH⟩
 ·subst ey eH;obtain⟨z,hd,vs,rel,dd⟩:=B8 I.hok e;have hz:vs.length<=sizeLine:=by rw[<-rel.length];exact z
  have hl:(putK kvs k v).length<=sizeLine:=by have:=c9 kvs k v;lia
  refine wpAny_setItem_pairs (hsz:=hz) (tJ ry) dd λh' dd' hs=>h _ ?_;have he:∃q,h'.get? a=some q:=let ⟨q,_,_,hq,_⟩:=dd';⟨q,hq⟩;exact rM I (by rw[e];exact True.intro) hs he (zQ hl hd (rel.put k rv) dd')
 ·subst ey eH;cases (show u=Value.ref b from ry);obtain⟨z,hd,xs,rel,dd⟩:=EW I.hok e;have hz:xs.length<=sizeLine:=by rw[<-cN rel];exact z
  have hl:(putK kvs k v).length<=sizeLine:=by have:=c9 kvs k v;lia
  refine wpAny_setItem_heap (hsz:=hz) (MD hu) (rF I.hok eb) dd λh' dd' hs=>h _ ?_;obtain⟨q,es,ep,hq,h2,h3,h4,_,h5⟩:=dd';refine rM I (by rw[e];exact True.intro) hs ⟨q,hq⟩ ⟨hl,hd,_,(rel.put k eb rv).keeps λc ys ec=>?_,q,es,ep,hq,h2,h3,h4,h5⟩;rw[aK (vm ec e (λz=>nomatch z))];exact ec
end
def E7(i:Expr):Prop:=∀ov iv,subscripted i false ov iv=operate [ov,iv] (getItem ov iv)
theorem zz{prog:Program}{w:World}{A:Around}{E:Value->Shared->Prop}{s:Shared}{env:Env}{value slice:Expr}{pos:Pos}{T id:String}{Q:Value->Shared->Prop}
  (hl:typeLookup (.type T) "__getitem__"=pure (some (.builtin id))) (hs:E7 slice)
  (h:wpAny (model prog w) A (eval value env) (λo s₁=>wpAny (model prog w) A (eval slice env) (λi s₂=>s₂.TypeIs o T/\wpAny (model prog w) A (getItem o i) Q E s₂) E s₁) E s) :
  wpAny (model prog w) A (eval (.Subscript value slice pos) env) Q E s:=by
 refine Subscript_ (Lo h (λo s₁ h₁=>Lo h₁ (λi s₂ h₂=>?_) λ_ _ x=>x) λ_ _ x=>x);obtain⟨hT,h₂⟩:=h₂;unfold subscriptTail;refine wpAny_bind ?_;rw[getitemInPython_of_ne hT.not_modules];refine wpAny_bind (wpAny_specialOf hT hl ?_);have fin:wpAny (model prog w) A (subscripted slice false o i) (λr s₃=>wpAny (model prog w) A (letTemporaryGo value o r>>=λ_=>pure r) Q E s₃) E s₂:=by
  rw[hs o i];exact wpAny_operating (Lo h₂ (λr s₃ h₃=>wpAny_bind (wpAny_letTemporaryGo (Lq h₃))) λ_ _ x=>x)
 first
  | exact Lq (wpAny_bind fin)
  | exact wpAny_bind (Lq (wpAny_bind fin))
  | exact wpAny_bind fin
theorem tT {X:Cx} {pins:List (Addr×Obj)} {σ:St} {H:Hp} {s:Shared} {a:Addr} {y:V} {o:Option V} (I:bE X pins σ H s) (g:fW H a y o):s.TypeIs (.ref a) "dict":=by
 rcases g with ⟨kvs,k,e,_,_⟩ | ⟨kvs,k,b,e,_,_,_⟩
 ·obtain⟨_,_,vs,_,dd⟩:=vx I.hok e;exact dd.typeIs
 ·obtain⟨_,_,xs,_,dd⟩:=vw I.hok e;exact dd.typeIs
def BL(td ty:TE):TE:=λσ H Q=>td σ H λx H1=>ty σ H1 λy H2=>∃a v,x=.ref a/\fW H2 a y (some v)/\Q v H2
def Es(ty td:TE):TE:=λσ H Q=>ty σ H λy H1=>td σ H1 λx H2=>∃a o,x=.ref a/\fW H2 a y o/\Q (.bl o.isSome) H2
def qi(ty td:TE):TE:=λσ H Q=>ty σ H λy H1=>td σ H1 λx H2=>∃a o,x=.ref a/\fW H2 a y o/\Q (.bl (!o.isSome)) H2
def BS(td ty tv:TE):TS:=λD σ H=>tv σ H λv H1=>td σ H1 λx H2=>ty σ H2 λy H3=>∃a H4,x=.ref a/\nQ H3 a y v H4/\D.nx σ H4
section
variable {X:Cx} {o i:Expr} {td ty:TE}
theorem w5(hu:X.A.units+1<cLine)(hi:PE X i ty)(ho:PE X o td):PC X .NotIn i o (qi ty td):=by
 intro pins s σ H Q I h;refine cm (hi pins s σ H _ I h) λiv s1 ⟨y,H1,I1,ry,q1⟩=>cm (ho pins s1 σ H1 _ I1 q1) λu s2 ⟨x,H2,I2,rx,a,ov,ex,g,q2⟩=>?_;subst ex;obtain rfl:u=Value.ref a:=rx;exact Ac hu I2 g ry λs3 I3=>⟨.bl (!ov.isSome),H2,I3,rfl,q2⟩
end
theorem tS {P:Program} {w:World} {H:Hp} (h:Heap) (hb:sysModules<h.objs.size):cL P w H (h.push { cls:=.type "dict",data:=.dict #[] }) h.objs.size (.dK []):=
 ⟨bH _,beq_eq_false_iff_ne.mpr (cU (ac hb)),[],.nil,Heap.DictOf.new h⟩
def yR:TE:=λ_ H Q=>∀p,H p=none->Q (.ref p) (bU H p (.dK []))
def lh:List (TE×TE)->St->Hp->(List (V×V)->Hp->Prop)->Prop
 | [],_,H,Q=>Q [] H
 | (tk,tv)::r,σ,H,Q=>tk σ H λx H1=>tv σ H1 λy H2=>lh r σ H2 λps H3=>Q ((x,y)::ps) H3
abbrev VV:List (V×V)->List (Value×Value)->Prop:=Paired λp q=>RelV p.1 q.1/\RelV p.2 q.2
def Fl(X:Cx)(pos:Pos)(keys:List (Option Expr))(values:List Expr)(trs:List (TE×TE)):Prop:=
 ∀(pins:List (Addr×Obj)) (s:Shared) (σ:St) (H:Hp) (Q:List (V×V)->Hp->Prop),bE X pins σ H s->lh trs σ H Q →
  wpAny (model X.prog X.w) X.A (evalPairs (pairTrees keys values X.env pos)) (λvs s'=>∃ps H',bE X pins σ H' s'/\VV ps vs/\Q ps H') X.xe s
def lw(kvs more:List (Key×V)):List (Key×V):=more.foldl (λacc kv=>putK acc kv.1 kv.2) kvs
theorem KV.merge:∀{more:List (Key×V)} {rs:List (Key×Value)} {kvs:List (Key×V)} {vs:List (Key×Value)},KV more rs->KV kvs vs->KV (lw kvs more) (merged vs rs):=by
 intro more rs kvs vs r;unfold KV at r
 induction r generalizing kvs vs with
 | nil=>intro q;exact q
 | @cons p q ps qs h t ih=>
  intro r0;have e:KV (putK kvs p.1 p.2) (stored vs q.1 q.2):=by
   have:=r0.put p.1 h.2;rw[<-h.1];exact this
  exact ih e
theorem lY:∀(more kvs:List (Key×V)),(lw kvs more).length<=kvs.length+more.length
 | [],kvs=>by show kvs.length<=kvs.length+0;lia
 | p::r,kvs=>by
  have h1:=lY r (putK kvs p.1 p.2);have h2:=c9 kvs p.1 p.2;show (lw (putK kvs p.1 p.2) r).length<=_;rw[fN];lia
theorem pQ{P:Program}{w:World}:∀{kvs:List (Key×V)} {ws:List (Value×Value)},VV (kvs.map λkv=>(kV kv.1,kv.2)) ws->∃rs,Carries (dk P w) ws rs/\KV kvs rs
 | [],_,r=>by rw[m9] at r;cases r;exact⟨[],True.intro,.nil⟩
 | p::kvs,_,r=>by
  rw[bR] at r;cases r with
  | @cons a b as bs h t=>
   obtain⟨rs,c,q⟩:=pQ (P:=P) (w:=w) t;obtain⟨b1,b2⟩:=b;exact⟨(p.1,b2)::rs,⟨tJ h.1,rfl,c⟩,.cons ⟨rfl,h.2⟩ q⟩
def BK(trs:List (TE×TE)):TE:=λσ H Q=>∀p,H p=none->lh trs σ (bU H p (.dK [])) λps H2=>H2 p=some (.dK [])/\∃kvs:List (Key×V),ps=kvs.map (λkv=>(kV kv.1,kv.2))/\kvs.length<=15/\Q (.ref p) (bU H2 p (.dK (lw [] kvs)))
def F9(H:Hp)(a:Addr):Prop:=(∃kvs,Rd H a (.dK kvs))\/∃kvs,Rd H a (.dT kvs)
def CN(td ty tx:TE):TE:=λσ H Q=>td σ H λx H1=>∃a,x=.ref a/\F9 H1 a/\ty σ H1 λy H2=>tx σ H2 λz H3=>∃o,fW H3 a y o/\Q (o.getD z) H3
section
variable {σ:St} {H:Hp} {a:Addr} {o:Obj}
theorem xw{td ty:TE}{Q:VK}:BL td ty σ H Q=td σ H λx H1=>ty σ H1 λy H2=>∃a v,x=.ref a/\fW H2 a y (some v)/\Q v H2:=rfl
theorem xv{td ty tv:TE}{D:Ends}:BS td ty tv D σ H=tv σ H λv H1=>td σ H1 λx H2=>ty σ H2 λy H3=>∃a H4,x=.ref a/\nQ H3 a y v H4/\D.nx σ H4:=rfl
theorem vJ{Q:VK}:yR σ H Q=∀p,H p=none->Q (.ref p) (bU H p (.dK [])):=rfl
theorem BA{ty td:TE}{Q:VK}:Es ty td σ H Q=ty σ H λy H1=>td σ H1 λx H2=>∃a o,x=.ref a/\fW H2 a y o/\Q (.bl o.isSome) H2:=rfl
theorem rd{ty td:TE}{Q:VK}:qi ty td σ H Q=ty σ H λy H1=>td σ H1 λx H2=>∃a o,x=.ref a/\fW H2 a y o/\Q (.bl (!o.isSome)) H2:=rfl
end
section
variable {σ:St} {H:Hp}
theorem Bv{trs:List (TE×TE)}{Q:VK}:BK trs σ H Q=∀p,H p=none->lh trs σ (bU H p (.dK [])) λps H2=>H2 p=some (.dK [])/\∃kvs:List (Key×V),ps=kvs.map (λkv=>(kV kv.1,kv.2))/\kvs.length<=15/\Q (.ref p) (bU H2 p (.dK (lw [] kvs))):=rfl
theorem D5{Q:List (V×V)->Hp->Prop}:lh [] σ H Q=Q [] H:=rfl
theorem D4{tk tv:TE}{r:List (TE×TE)}{Q:List (V×V)->Hp->Prop}:lh ((tk,tv)::r) σ H Q=tk σ H λx H1=>tv σ H1 λy H2=>lh r σ H2 λps H3=>Q ((x,y)::ps) H3:=rfl
theorem D3{r:V->Option Int->Option Int->Hp->VK->Prop}{te:TE}{tl th:TO}{Q:VK}:FZ r te tl th σ H Q=te σ H λx H1=>tl σ H1 λl H2=>th σ H2 λu H3=>r x l u H3 Q:=rfl
theorem xh{t:TE}{Q:Option Int->Hp->Prop}:BG t σ H Q=t σ H λx H1=>∃i,x=.int i/\Q (some i) H1:=rfl
theorem rZ{Q:Option Int->Hp->Prop}:vT σ H Q=Q none H:=rfl
end
end L2
namespace Rm
open PySem L2
def sd (b:Bool):Str:=if b then Str.ofString "r" else Str.ofString "l"
theorem Ew (b:Bool):(sd b=Str.ofString "l")=(b=false):=by cases b<;>simp[sd,BY,BX]
theorem Eu (b:Bool):(sd b=Str.ofString "r")=(b=true):=by cases b<;>simp[sd,BY,BX]
def odd(i:Nat):Bool:=i % 2==1
theorem sg(i:Nat):odd (i+1)=!odd i:=by
 unfold odd;rcases dL i with h | h<;>simp[Nat.add_mod,h]
def dG(ns:List Int):List Int:=0::(ns++[(ns.length:Int)+1])
theorem fq(ns:List Int):(dG ns).length=ns.length+2:=by simp[dG]
def bc(ns:List Int)(i:Nat):Int:=(dG ns).getD i 0
def fA(ns:List Int)(i:Nat):Bw:=(min (bc ns i) (bc ns (i+1)),max (bc ns i) (bc ns (i+1)))
def bj(b s:Bool)(i:Nat):Bool:=(b ^^ odd i)==s
def bF(b:Bool)(ns:List Int)(s:Bool)(m:Nat):List Bw:=((List.range m).filter (bj b s)).map (fA ns)
theorem fy{b:Bool}{ns:List Int}{s:Bool}{i:Nat}(h:bj b s i=true):bF b ns s (i+1)=bF b ns s i++[fA ns i]:=by
 unfold bF;rw[f7,eG,cG];simp[h]
theorem gl{b:Bool}{ns:List Int}{s:Bool}{i:Nat}(h:bj b s i=false):bF b ns s (i+1)=bF b ns s i:=by
 unfold bF;rw[f7,eG,cG];simp[h]
theorem sW(b:Bool)(i:Nat):bj b (b ^^ odd i) i=true:=by simp[bj]
theorem qy(b:Bool)(i:Nat):bj b (!(b ^^ odd i)) i=false:=by cases h:(b ^^ odd i)<;>simp[bj,h]
theorem fJ(b:Bool)(ns:List Int)(s:Bool)(m:Nat):(bF b ns s m).length<=m:=by
 unfold bF;rw[aF];exact bd (gT _ _) (by rw[jP];exact aH _)
structure l8 (ns:List Int):Prop where
 len:ns.length<=20
 perm:ns.Perm (dW 1 ns.length)
theorem l8.mem{ns:List Int}(O:l8 ns){x:Int}:x∈ns<->1<=x/\x<=ns.length:=O.perm.mem_iff.trans tD
theorem l8.rows_nodup{ns:List Int}(O:l8 ns):(dG ns).Nodup:=by
 have nd:ns.Nodup:=O.perm.nodup_iff.mpr (uS _);unfold dG;rw[ci,List.nodup_append];refine⟨λh=>?_,nd,by simp,λa ha b hb e=>?_⟩
 ·rcases aT.mp h with z | z
  ·have:=O.mem.mp z;lia
  ·have:(0:Int)=ns.length+1:=by simpa using z
   lia
 ·have:b=(ns.length:Int)+1:=by simpa using hb
  have:=O.mem.mp ha;lia
theorem l8.rows_mem{ns:List Int}(O:l8 ns){x:Int}(h:x∈dG ns):0<=x/\x<=(ns.length:Int)+1:=by
 unfold dG at h;rcases aZ.mp h with z | z
 ·lia
 ·rcases aT.mp z with z | z
  ·have:=O.mem.mp z;lia
  ·have:x=(ns.length:Int)+1:=by simpa using z
   lia
theorem fz{ns:List Int}{i:Nat}(h:i<ns.length+2):(dG ns)[i]? = some (bc ns i):=by
 unfold bc;have:i<(dG ns).length:=by rw[fq];exact h
 simp[List.getD,this]
theorem l8.row_inj{ns:List Int}(O:l8 ns){i j:Nat}(hi:i<ns.length+2)(hj:j<ns.length+2)(h:bc ns i=bc ns j):i=j:=by
 have h1:=aE.mp (fz hi);have h2:=aE.mp (fz hj);exact(List.getElem_inj O.rows_nodup (h₀:=h1.1) (h₁:=h2.1)).mp (h1.2.trans (h.trans h2.2.symm))
theorem l8.row_in{ns:List Int}(O:l8 ns){i:Nat}(hi:i<ns.length+2):0<=bc ns i/\bc ns i<=(ns.length:Int)+1:=O.rows_mem (bI (fz hi))
theorem CU(ns:List Int):bc ns 0=0:=rfl
theorem lK(ns:List Int):bc ns (ns.length+1)=(ns.length:Int)+1:=by simp[bc,dG,List.getD]
theorem y9{ns:List Int}{i:Nat}{x:Int}(h:(ns++[(ns.length:Int)+1])[i]? = some x):bc ns (i+1)=x:=by simp only[bc,dG,List.getD,List.getElem?_cons_succ,h];rfl
theorem wW{ns:List Int}{i:Nat}{x:Int}(h:ns[i]? = some x):bc ns (i+1)=x:=y9 (by rw[cV (aE.mp h).1];exact h)
theorem l8.step_lt{ns:List Int}(O:l8 ns){i:Nat}(hi:i<=ns.length):(fA ns i).1<(fA ns i).2:=by
 have:bc ns i≠bc ns (i+1):=λe=>by
  have:=O.row_inj (by lia) (by lia) e;lia
 show min (bc ns i) (bc ns (i+1))<max (bc ns i) (bc ns (i+1));lia
theorem l8.step_in{ns:List Int}(O:l8 ns){i:Nat}(hi:i<=ns.length):0<=(fA ns i).1/\(fA ns i).2<=(ns.length:Int)+1:=by
 have h1:=O.row_in (i:=i) (by lia);have h2:=O.row_in (i:=i+1) (by lia);show 0<=min (bc ns i) (bc ns (i+1))/\max (bc ns i) (bc ns (i+1))<=_;lia
theorem j5{b:Bool}{ns:List Int}{s:Bool}{m:Nat}{p:Bw}(h:p∈bF b ns s m):∃i,i<m/\bj b s i=true/\p=fA ns i:=by
 unfold bF at h;obtain⟨i,hi,rfl⟩:=af.mp h;obtain⟨h1,h2⟩:=bY.mp hi;exact⟨i,aU.mp h1,h2,rfl⟩
theorem y6{b:Bool}{ns:List Int}{s:Bool}{m i:Nat}(h:i<m)(hs:bj b s i=true):fA ns i∈bF b ns s m:=
 af.mpr ⟨i,bY.mpr ⟨aU.mpr h,hs⟩,rfl⟩
structure pT (b:Bool) (ns:List Int) (s:Bool) (L:List Bw):Prop where
 perm:L.Perm (bF b ns s (ns.length+1))
 asc:L.Pairwise leB
theorem pT.len{b:Bool}{ns:List Int}{s:Bool}{L:List Bw}(h:pT b ns s L)(O:l8 ns):L.length<=21:=by
 have h1:=h.perm.length_eq;have h2:=fJ b ns s (ns.length+1);have:=O.len;lia
theorem uG{x y:Int}{ms:List Int}(h:ms.Perm [x,y])(hs:ms.Pairwise (·<=·)):ms=[min x y,max x y]:=by
 have:(if x<=y then [x,y] else [y,x]).Perm [x,y]:=by
  by_cases e:x<=y
  ·rw[MO e]
  ·rw[MN e];exact List.Perm.swap x y []
 have e2:[min x y,max x y]=(if x<=y then [x,y] else [y,x]):=by
  by_cases e:x<=y
  ·rw[MO e];simp[Int.min_def,Int.max_def,e]
  ·rw[MN e];have:y<=x:=by lia
   simp[Int.min_def,Int.max_def,e]
 rw[e2];refine List.Perm.eq_of_pairwise (le:=(·<=·)) (λa b _ _ h h'=>by lia) hs ?_ (h.trans this.symm);by_cases e:x<=y
 ·rw[MO e];simp[e]
 ·rw[MN e];simp;lia
theorem Ad{ns:List Int}{i:Nat}(h:i<=ns.length):tX ((dG ns).map V.int) (some (0+(i:Int))) (some (0+(i:Int)+2))=[bc ns i,bc ns (i+1)].map V.int:=by
 have e1:HT.sIx ((dG ns).map V.int).length 0 (some (0+(i:Int)))=i:=by
  show (if (0+(i:Int))<0 then (0+(i:Int)+(((dG ns).map V.int).length:Int)).toNat else min (0+(i:Int)).toNat ((dG ns).map V.int).length)=i;rw[MN (by lia),aF,fq];lia
 have e2:HT.sIx ((dG ns).map V.int).length ((dG ns).map V.int).length (some (0+(i:Int)+2))=i+2:=by
  show (if (0+(i:Int)+2)<0 then (0+(i:Int)+2+(((dG ns).map V.int).length:Int)).toNat else min (0+(i:Int)+2).toNat ((dG ns).map V.int).length)=i+2;rw[MN (by lia),aF,fq];lia
 unfold tX;rw[e1,e2,show i+2-i=2 by lia,<-List.map_drop,<-List.map_take];congr 1;have h1:=aE.mp (fz (ns:=ns) (i:=i) (by lia));have h2:=aE.mp (fz (ns:=ns) (i:=i+1) (by lia));rw[fO h1.1,fO h2.1,h1.2,h2.2];rfl
def fR(H:Hp)(m o:Addr)(b:Bool)(ns:List Int):Prop:=H m=some (.tup [.str (sd b),.ref o])/\H o=some (.tup (ns.map V.int))
theorem fR.same{H H':Hp}{m o:Addr}{b:Bool}{ns:List Int}(h:fR H m o b ns)(s:aX H H'):fR H' m o b ns:=⟨s _ _ h.1,s _ _ h.2⟩
def vX:Sp:=λvs H Q _=>∃b,vs=[.str (sd b)]/\Q (.str (sd !b)) H
def rz:Sp:=λvs H Q _=>∃m o b ns,∃k:Nat,vs=[.ref m,.int k]/\fR H m o b ns/\Q (.str (sd (b ^^ odd k))) H
def yY:Sp:=λvs H Q _=>∃m o b ns,vs=[.ref m]/\fR H m o b ns/\ns.length<=40/\∀l H',H l=none->aX H H'->H' l=some (.lst ((dG ns).map V.int))->Q (.ref l) H'
structure DP (H:Hp) (t l r:Addr) (b:Bool) (ns:List Int) (L R:List Bw):Prop where
 tup:H t=some (.tup [.ref l,.ref r])
 left:cK H l L
 right:cK H r R
 isL:pT b ns false L
 isR:pT b ns true R
 ne:l≠r
def oZ:Sp:=λvs H Q _=>∃m o b ns,vs=[.ref m]/\fR H m o b ns/\l8 ns/\∀t l r L R H',H t=none->H l=none->H r=none->aX H H'->DP H' t l r b ns L R->Q (.ref t) H'
theorem nL{H:Hp}{l t:Addr}{as:List Addr}{ps:List Bw}{p:Bw}(h1:H l=some (.lst (as.map V.ref)))(h2:Paired (d6 H) as ps)(ht:d6 H t p):cK (bU H l (.lst (as.map V.ref++[.ref t]))) l (ps++[p]):=by
 have st:∀{a:Addr} {p:Bw},d6 H a p->d6 (bU H l (.lst (as.map V.ref++[.ref t]))) a p:=fun {a p} h=>by
  have:a≠l:=λe=>by subst e;unfold d6 at h;rw[h1] at h;cases h
  unfold d6;rw[aK this];exact h
 refine⟨as++[t],by rw[aC,cG];rfl,?_⟩;clear h1;generalize bU H l (.lst (as.map V.ref++[.ref t]))=H' at st ⊢
 induction h2 with
 | nil=>exact .cons (st ht) .nil
 | cons a b ih=>exact .cons (st a) ih
end Rm
namespace L2
open PySem PySem.Spec PyProof.Rows
section
variable {X:Cx} {pins:List (Addr×Obj)} {σ:St} {H:Hp} {s:Shared} {h':Heap}
theorem bE.turnNew{fp:List Addr}{p:Addr}{o:HO}{t':Nat}(I:bE X pins σ H s)(hf:∀b∈fp,iT X pins H b)(k:∀b u,b∉fp->s.heap.get? b=some u->h'.get? b=some u)(hp:s.heap.objs.size<=p)
  (new:cL X.prog X.w (bU H p o) h' p o):bE X pins σ (bU H p o) { s with heap:=h',toks:=t' }:=by
 have hn:H p=none:=I.hok.fresh hp;have nfp:∀b u,H b=some u->b∉fp:=λb u e z=>by rw[(hf b z).1] at e;cases e
 refine I.step (g':=s.gens) (d':=s.drawn) (ch:=fp) (λb hb=>?_) (λb u _ _ hc e _=>k b u hc e) (λb u _ _ hc e _=>⟨u.slots,k b u hc e⟩)
  (λb u _ e n=>by rw[aK (ac (aO (aM e) hp))];exact n) (λb u hc e=>⟨u,k b u hc e⟩) (λb xs e=>by rw[aK (av e hn)];exact e)
  (λb u xs e=>by rw[aK (av e hn)];exact e) (λb ps e=>⟨#[],by rw[aK (av e hn),e];simp⟩) (λm hm=>?_) (λb u e=>?_) I.bare
 ·obtain⟨_,f1,_,f3,f4,f5⟩:=hf b hb;exact⟨f3,f1,f4,f5⟩
 ·obtain⟨ob,es,ep,ho,r⟩:=hm;exact⟨ob,es,ep,k _ ob (λz=>(hf _ z).2.1 rfl) ho,r⟩
 ·by_cases hb:b=p
  ·subst hb;rw[aC] at e;cases e;exact new
  ·rw[aK hb] at e;refine(I.hok b u e).stay (λc v hc q=>k c v ?_ q) (λc q=>by rw[aK (av q hn)];exact q) λc xs q=>by rw[aK (av q hn)];exact q
   rcases hc with z | z
   ·rw[z];exact nfp b u e
   ·exact nfp c _ z
end
def El(x:Str):It:=⟨λi _=>i<x.cps.size,λi H v H'=>H'=H/\∃c,x.cps[i]? = some c/\v=.str ⟨#[c]⟩,λi _=>x.cps.size<=i⟩
theorem yJ {P : Program} {w : World} {K : MU} {tg : Expr} (it : Addr) (x : Str) (t : Tok) : Turn P w K tg (El x) [it] it (fun i h => h.IsStrIter it "str_ascii_iterator" x t i) where
  mem := by simp
  obj := fun i h st b hb => by
    have e : b = it := by simpa using hb
    subst e
    obtain ⟨o, e, c, d⟩ := st
    exact ⟨o, e, fun v z => by rw [d] at z; cases z⟩
  keep := fun i h h' st k => by
    obtain ⟨o, e, r⟩ := st
    exact ⟨o, k it (by simp) o e, r⟩
  item := by
    intro X hP hw hK hc i pins s σ H E I hf st hg
    subst hP hw hK
    obtain ⟨f0, f1, f2, f3, f4, f5⟩ := hf it (by simp)
    have hx : x.cps[i]? = some x.cps[i] := dY hg
    refine wpAny_pyNext_ascii_item st hx fun h' st' sb => ?_
    have I1 : bE X pins σ H { s with heap := h', toks := s.toks + 1 } := I.turned (t' := s.toks + 1) (fun b o hb e => (sb.2 b hb).trans e) f0 f1 f3 f4 f5
    obtain ⟨o, e, c, d⟩ := id st'
    exact ⟨_, rfl, tQ (s := { s with heap := h', toks := s.toks + 1 }) e c d (by decide) ⟨.str ⟨#[x.cps[i]]⟩, H, I1, ⟨_, rfl⟩, ⟨rfl, _, hx, rfl⟩, st', fun b hb => (hf b hb).1⟩⟩
  done := by
    intro X hP hw hK hc i pins s σ H E I hf st hg
    subst hP hw hK
    obtain ⟨f0, f1, f2, f3, f4, f5⟩ := hf it (by simp)
    exact wpAny_pyNext_ascii_end (I.ok.hd hc) st (kH hg) fun h' eb => ⟨rfl, I.turned (t' := s.toks) (fun b o hb e => eb b o hb e) f0 f1 f3 f4 f5⟩
  self := fun _ _ _ _ _ st h => wpAny_pyIter_striter_ascii st h
def ER(tl:TE):TI:=λσ H R=>tl σ H λx H1=>∃z,x=.str z/\z.cps.all (·<128)=true/\R (El z) H1
def Em(x:Str):It:=⟨λi _=>i<x.cps.size,λi H v H'=>∃p c,H p=none/\x.cps[i]? = some c/\v=.ref p/\H'=bU H p (.tup [.int i,.str ⟨#[c]⟩]),λi _=>i=x.cps.size⟩
theorem wL {P : Program} {w : World} {K : MU} {elts : List Expr} {x1 : Nat} {pos : Pos} (e it : Addr) (hne : e ≠ it) (x : Str) (t : Tok) :
    Turn P w K (.Tuple elts x1 pos) (Em x) [e, it] e (fun i h => (∃ old, IsEnum h e it i old) ∧ h.IsStrIter it "str_ascii_iterator" x t i) where
  mem := by simp
  obj := fun i h st b hb => by
    obtain ⟨⟨old, he⟩, o, ei, c, d⟩ := st
    rcases aZ.mp hb with z | z
    · subst z; exact ⟨_, he, fun v z => by cases z⟩
    · have z' : b = it := by simpa using z
      subst z'
      exact ⟨o, ei, fun v z => by rw [d] at z; cases z⟩
  keep := fun i h h' st k => by
    obtain ⟨⟨old, he⟩, o, ei, r⟩ := st
    exact ⟨⟨old, k e (by simp) _ he⟩, o, k it (by simp) o ei, r⟩
  item := by
    intro X hP hw hK hc i pins s σ H E I hf st hg
    subst hP hw hK
    obtain ⟨⟨old, he⟩, hst⟩ := st
    have D : Draws X.prog X.w X.A.in1 it [it] x.cps.size _ _ := Draws.strAscii (show X.A.in1.handled = none from I.ok.hd hc) it x t
    refine wpAny_pyNext_enum_itemD D he hst hg hne (by simpa using hne) fun v h' tk hv ho st' ht hsz kp => ?_
    obtain ⟨c, u, hx, rfl⟩ := hv
    refine ⟨_, rfl, wpAny_letOwnedTupleGo_enum ho fun h2 he2 hs2 => ?_⟩
    have het : s.heap.objs.size ≠ e := gM (aM he)
    have ht2 : h2.get? s.heap.objs.size = some { cls := .type "tuple", data := .seq #[.int i tk, .str ⟨#[c]⟩ u] } := (hs2.2 _ het).trans ht
    have hn : H s.heap.objs.size = none := I.hok.fresh (aH _)
    refine ⟨.ref s.heap.objs.size, bU H s.heap.objs.size (.tup [.int i, .str ⟨#[c]⟩]), I.turnNew (fp := [e, it]) hf (fun b o hb q => ?_) (aH _) (show cL X.prog X.w _ h2 _ (.tup _) from ⟨(by show 2 ≤ sizeLine; decide), [.int i tk, .str ⟨#[c]⟩ u], .cons ⟨_, rfl⟩ (.cons ⟨_, rfl⟩ .nil), _, ht2, rfl, _, rfl⟩), rfl, ⟨_, c, hn, hx, rfl, rfl⟩, ⟨⟨_, by exact_mod_cast he2⟩, ?_⟩, fun b hb => ?_⟩
    · have n1 : b ≠ e := fun z => hb (by simp [z])
      have n2 : b ≠ it := fun z => hb (by simp [z])
      exact (hs2.2 b n1).trans (kp b o n1 n2 q)
    · obtain ⟨o, ei, r⟩ := st'
      exact ⟨o, (hs2.2 it hne.symm).trans ei, r⟩
    · have hb' := (hf b hb).1
      rw [aK (fun z => ?_)]
      · exact hb'
      · obtain ⟨o, q, _⟩ := hst
        rcases aZ.mp hb with y | y
        · exact het (z.symm.trans y)
        · have y' : b = it := by simpa using y
          exact absurd (y'.symm.trans z) (ac (aM q))
  done := by
    intro X hP hw hK hc i pins s σ H E I hf st hg
    subst hP hw hK
    obtain ⟨⟨old, he⟩, hst⟩ := st
    have hg' : i = x.cps.size := hg
    subst hg'
    obtain ⟨f0, f1, f2, f3, f4, f5⟩ := hf it (by simp)
    have D : Draws X.prog X.w X.A.in1 it [it] x.cps.size _ _ := Draws.strAscii (show X.A.in1.handled = none from I.ok.hd hc) it x t
    exact wpAny_pyNext_enum_endD D he hst fun h' eb => ⟨rfl, I.turned (t' := s.toks) (fun b o hb q => eb b o hb q) f0 f1 f3 f4 f5⟩
  self := fun _ _ _ _ _ st h => by
    obtain ⟨⟨old, he⟩, _⟩ := st
    exact wpAny_pyIter_enum he h
def B4(ta:TA):TI:=λσ H R=>ta σ H λvs H1=>∃z,vs=[.str z]/\z.cps.all (·<128)=true/\R (Em z) H1
section
variable {σ:St} {H:Hp} {D:Ends}
theorem xo{tl:TE}{g:TG}{tb:TS}:oX (ER tl) g tb D σ H=tl σ H λx H1=>∃z,x=.str z/\z.cps.all (·<128)=true/\nO (El z) g tb D σ H1:=rfl
theorem xq{ta:TA}{g:TG}{tb:TS}:oX (B4 ta) g tb D σ H=ta σ H λvs H1=>∃z,vs=[.str z]/\z.cps.all (·<128)=true/\nO (Em z) g tb D σ H1:=rfl
theorem Di{a:Str}{q:Str->Prop}:(∃b,V.str a=.str b/\q b)=q a:=propext ⟨λ⟨_,e,h⟩=>by cases e;exact h,λh=>⟨a,rfl,h⟩⟩
theorem A9{x:Str}{g:TG}{tb:TS}(Pv:Nat->St->Hp->Prop)(h0:Pv 0 σ H)
  (hs:∀i c σ H,x.cps[i]? = some c->Pv i σ H->g (.str ⟨#[c]⟩) σ H λσ2 H2=>tb { D with nx:=Pv (i+1),ct:=Pv (i+1),bk:=D.nx } σ2 H2) (hd:∀σ H,Pv x.cps.size σ H->D.nx σ H):nO (El x) g tb D σ H:=by
 refine⟨λi m σ H=>m+i=x.cps.size/\Pv i σ H,⟨x.cps.size,rfl,h0⟩,?_⟩;rintro i m σ H ⟨hm,hp⟩;by_cases hi:i<x.cps.size
 ·refine .inr ⟨hi,Pv (i+1),λσ' H' h=>⟨m - 1,by lia,by lia,h⟩,?_⟩;rintro v H' ⟨rfl,c,hc,rfl⟩;exact hs i c σ H' hc hp
 ·have e:i=x.cps.size:=by lia
  subst e;exact .inl ⟨aH _,hd σ H hp⟩
theorem zO{x:Str}{g:TG}{tb:TS}(Pv:Nat->St->Hp->Prop)(h0:Pv 0 σ H)
  (hs:∀i c σ H p,x.cps[i]? = some c->Pv i σ H->H p=none->g (.ref p) σ (bU H p (.tup [.int i,.str ⟨#[c]⟩])) λσ2 H2=>tb { D with nx:=Pv (i+1),ct:=Pv (i+1),bk:=D.nx } σ2 H2) (hd:∀σ H,Pv x.cps.size σ H->D.nx σ H):nO (Em x) g tb D σ H:=by
 refine⟨λi m σ H=>m+i=x.cps.size/\Pv i σ H,⟨x.cps.size,rfl,h0⟩,?_⟩;rintro i m σ H ⟨hm,hp⟩;by_cases hi:i<x.cps.size
 ·refine .inr ⟨hi,Pv (i+1),λσ' H' h=>⟨m - 1,by lia,by lia,h⟩,?_⟩;rintro v H' ⟨p,c,hn,hc,rfl,rfl⟩;exact hs i c σ H p hc hp hn
 ·have e:i=x.cps.size:=by lia
  subst e;exact .inl ⟨rfl,hd σ H hp⟩
end
def FE(z:Nat->Int):Nat->Option Int
 | 0=>none
 | i+1=>some (match FE z i with | none=>z i | some m=>if m<z i then z i else m)
section
theorem gx{A:Around}{k:Nat}(hr:gS k A):A.units+1<cLine:=by have:=hr.units;lia
end
def Ep(te:TE):TE:=λσ H Q=>te σ H λx H1=>∃(a:Addr) (xs:List V),x=.ref a/\H1 a=some (.lst xs)/\xs.length<=1000/\∀l,H1 l=none->Q (.ref l) (bU H1 l (.lst xs.reverse))
theorem w_rev{te:TE}{σ:St}{H:Hp}{Q:VK}:Ep te σ H Q=te σ H λx H1=>∃(a:Addr) (xs:List V),x=.ref a/\H1 a=some (.lst xs)/\xs.length<=1000/\∀l,H1 l=none->Q (.ref l) (bU H1 l (.lst xs.reverse)):=rfl
theorem zw{xs:List V}{us:List Value}(hl:xs.length=us.length)(h:∀(i:Nat) x u,xs[i]? = some x->us[i]? = some u->RelV x u):bb xs us:=by
 induction xs generalizing us with
 | nil=>cases us with | nil=>exact .nil | cons a b=>simp at hl
 | cons x xs ih=>
  cases us with
  | nil=>simp at hl
  | cons u us=>exact .cons (h 0 x u rfl rfl) (ih (by simpa using hl) λi y v h1 h2=>h (i+1) y v h1 h2)
structure QE (X:Cx) (e:Expr) (t:TE):Prop where
 h:PE X e t
structure QT (X:Cx) (e:Expr) (t:TT):Prop where
 h:PT X e t
structure QA (X:Cx) (es:List Expr) (t:TA):Prop where
 h:PA X es t
structure QS (X:Cx) (st:Stmt) (t:TS):Prop where
 h:PS X st t
structure iL (X:Cx) (sts:List Stmt) (t:TS):Prop where
 h:zh X sts t
structure QG (X:Cx) (e:Expr) (t:TG):Prop where
 h:PG X e t
structure Ej (X:Cx) (es:List Expr) (t:zf):Prop where
 h:Fm X es t
structure QF (X:Cx) (es:List Expr) (t:TT):Prop where
 h:PF X es t
structure QW (X:Cx) (e:Expr) (t:TT):Prop where
 h:PW X e t
structure QO (X:Cx) (e:Option Expr) (t:TO):Prop where
 h:PO X e t
structure Ak (X:Cx) (pos:Pos) (keys:List (Option Expr)) (values:List Expr) (trs:List (TE×TE)):Prop where
 h:Fl X pos keys values trs
structure QI (X:Cx) (tg iter:Expr) (t:TI):Prop where
 h:PI X tg iter t
theorem QW.pt{X:Cx}{e:Expr}{t:TT}(h:QW X e t):QT X e t:=⟨h.h.pt⟩
section
variable {X:Cx}
theorem aJ{i j pos}:QE X (.Constant (.int i) j pos) (tC (.int i)):=⟨λ_ _ _ H _ I h=>wpAny_Constant_int ⟨.int i,H,I.tok _,⟨_,rfl⟩,h⟩⟩
end
section
variable {X:Cx}
theorem dH{b j pos}:QE X (.Constant (.bool b) j pos) (tC (.bl b)):=⟨λ_ _ _ H _ I h=>Constant_bool ⟨.bl b,H,I,rfl,h⟩⟩
end
section
variable {X:Cx}
theorem gh{j pos}:QE X (.Constant .none j pos) (tC .non):=⟨λ_ _ _ H _ I h=>Constant_none ⟨.non,H,I,rfl,h⟩⟩
end
section
variable {X:Cx}
theorem bT{x j pos}:QE X (.Constant (.str x) j pos) (tC (.str x)):=⟨λ_ _ _ H _ I h=>Calls.Constant_str ⟨.str x,H,I.tok _,⟨_,rfl⟩,h⟩⟩
end
section
variable {X:Cx}
theorem fV {x:Str} {v:V} {u:Value} {pos:Pos} (hg:Gl X x) (hm:X.mg x=none) (hv:bootBuiltins x=some u) (r:RelV v u) (hn:x≠"__name__":=by decide) (hd:(x==("__debug__":Str))=false:=by decide):QE X (.Name x pos) (tC v):=⟨λ_ _ _ H _ I h=>nF I hg hm hv ⟨v,H,I,r,h⟩ hn hd⟩
end
section
variable {X:Cx} {pos:Pos}
theorem dP{e:Expr}{t:TE}(h:QE X e t)(he:∀whole,isTrue e X.env whole=(do let v <-whole;standAt e.pos;holding [v] (truthy v)):=by intro _;rfl):QT X e (tB t):=⟨by
 have h:=h.h;intro pins s σ H Q I hw;refine isTrue_plain (cm (h pins s σ H _ I hw) λv s1 ⟨x,H1,I1,r1,q1⟩=>?_) (he _);obtain⟨d,rfl,q⟩:=q1;cases r1;exact Lp ⟨H1,I1,q⟩⟩
end
section
variable {X:Cx} {a:Expr} {pos:Pos} {tA:TT}
theorem sO(ha:QT X a tA):QW X (.BoolOp .And [a] pos) tA:=⟨by
 have ha:=ha.h;intro wh pins s σ H Q I h;refine isTrue_and (cm (ha pins s σ H Q I h) λc s1 e=>?_);cases c with
 | true=>exact isTrue_and_nil e
 | false=>exact e⟩
end
section
variable {X:Cx} {a:Expr} {pos:Pos} {tA:TT}
theorem fY(ha:QT X a tA):QW X (.BoolOp .Or [a] pos) tA:=⟨by
 have ha:=ha.h;intro wh pins s σ H Q I h;refine isTrue_or (cm (ha pins s σ H Q I h) λc s1 e=>?_);cases c with
 | false=>exact isTrue_or_nil e
 | true=>exact e⟩
end
section
variable {X:Cx} {a b:Expr} {pos:Pos} {tA tB':TT} {rest:List Expr}
theorem vc(ha:QT X a tA)(hb:QW X (.BoolOp .And (b::rest) pos) tB'):QW X (.BoolOp .And (a::b::rest) pos) (EB tA tB'):=⟨by
 have ha:=ha.h;have hb:=hb.h;intro wh pins s σ H Q I h;refine isTrue_and (cm (ha pins s σ H _ I h) λc s1 ⟨H1,I1,q1⟩=>?_);cases c with
 | true=>exact hb wh pins s1 σ H1 Q I1 q1
 | false=>exact⟨H1,I1,q1⟩⟩
end
section
variable {X:Cx} {a b:Expr} {pos:Pos} {tA tB':TT} {rest:List Expr}
theorem gE(ha:QT X a tA)(hb:QW X (.BoolOp .Or (b::rest) pos) tB'):QW X (.BoolOp .Or (a::b::rest) pos) (F0 tA tB'):=⟨by
 have ha:=ha.h;have hb:=hb.h;intro wh pins s σ H Q I h;refine isTrue_or (cm (ha pins s σ H _ I h) λc s1 ⟨H1,I1,q1⟩=>?_);cases c with
 | true=>exact⟨H1,I1,q1⟩
 | false=>exact hb wh pins s1 σ H1 Q I1 q1⟩
end
section
variable {X:Cx} {a:Expr} {pos:Pos} {tA:TT}
theorem dQ(ha:QT X a tA):QT X (.UnaryOp .Not a pos) (Dv tA):=⟨by
 have ha:=ha.h;intro pins s σ H Q I h;exact isTrue_not (ha pins s σ H (λc H1=>Q (!c) H1) I h)⟩
end
section
variable {X:Cx} {a:Expr} {pos:Pos}
theorem jq{op}{t:TE}(h:QE X a t):QE X (.BoolOp op [a] pos) t:=⟨have h:=h.h;λpins s σ H Q I hw=>BoolOp_one (h pins s σ H Q I hw)⟩
end
section
variable {X:Cx} {a b:Expr} {ta tb:TE} {pos:Pos} {rest:List Expr}
theorem jI(ha:QE X a ta)(hb:QE X (.BoolOp .And (b::rest) pos) tb):QE X (.BoolOp .And (a::b::rest) pos) (BM ta tb):=⟨by
 have ha:=ha.h;have hb:=hb.h;intro pins s σ H Q I h;refine BoolOp_and (cm (ha pins s σ H _ I h) λv s1 ⟨x,H1,I1,r1,q1⟩=>?_);obtain⟨c,rfl,q1⟩:=q1;cases r1;refine Lp ?_;cases c with
 | true=>exact hb pins s1 σ H1 Q I1 q1
 | false=>exact⟨.bl false,H1,I1,rfl,q1⟩⟩
end
section
variable {X:Cx} {a:Expr} {ta:TE} {pos:Pos}
theorem mR(ha:QE X a ta):QE X (.UnaryOp .Not a pos) (BH ta):=⟨by
 have ha:=ha.h;intro pins s σ H Q I h;refine UnaryOp_ (cm (ha pins s σ H _ I h) λv s1 ⟨x,H1,I1,r1,q1⟩=>?_);obtain⟨c,rfl,q1⟩:=q1;cases r1;exact not_of (Lp ⟨.bl (!c),H1,I1,rfl,q1⟩)⟩
end
section
variable {X:Cx} {a b:Expr} {ta tb:TE} {pos:Pos} {tA:TT}
theorem lM{c:Expr}(hc:QT X c tA)(ha:QE X a ta)(hb:QE X b tb):QE X (.IfExp c a b pos) (F1 tA ta tb):=⟨by
 have hc:=hc.h;have ha:=ha.h;have hb:=hb.h;intro pins s σ H Q I h;refine wpAny_IfExp (cm (hc pins s σ H _ I h) λd s1 ⟨H1,I1,q1⟩=>?_);cases d with
 | true=>exact ha pins s1 σ H1 Q I1 q1
 | false=>exact hb pins s1 σ H1 Q I1 q1⟩
end
section
variable {X:Cx}
theorem bQ  : iL X [] BI:=⟨λ_ _ σ H _ I h=>ME ⟨σ,H,I,h⟩⟩
end
section
variable {X:Cx} {st:Stmt} {rest:List Stmt} {t u:TS}
theorem aG(h1:QS X st t)(h2:iL X rest u):iL X (st::rest) (Ds t u):=⟨by
 have h1:=h1.h;have h2:=h2.h;intro pins s σ H D I h;refine MF (cm (h1 pins s σ H { D with nx:=u D } I h) λf s1 q=>?_);cases f with
 | next=>
  obtain⟨σ',H',I',q⟩:=q;exact h2 pins s1 σ' H' D I' q
 | ret v=>exact q
 | brk=>exact q
 | cont=>exact q⟩
end
section
variable {X:Cx} {st:Stmt} {t:TS}
theorem aI(h1:QS X st t):iL X [st] t:=⟨by
 have h1:=h1.h;intro pins s σ H D I h;refine MF (cm (h1 pins s σ H D I h) λf s1 q=>?_);cases f with
 | next=>exact ME q
 | ret v=>exact q
 | brk=>exact q
 | cont=>exact q⟩
end
section
variable {X:Cx} {e:Expr} {te:TE} {pos:Pos}
theorem eI(he:QE X e te)(hs:swapsWith e none pos.line X.env=pure false:=by rfl):QS X (.Expr e pos) (BJ te):=⟨by
 have he:=he.h;intro pins s σ H D I h;exact wpAny_Expr_any (cm (he pins s σ H _ I h) λv s1 ⟨x,H1,I1,r1,q1⟩=>⟨σ,H1,I1,q1⟩) I.quiet hs⟩
end
section
variable {X:Cx} {e:Expr} {te:TE} {pos:Pos}
theorem am(he:QE X e te):QS X (.Return (some e) pos) (Du te):=⟨by
 have he:=he.h;intro pins s σ H D I h;exact wpAny_Return_some (cm (he pins s σ H _ I h) λv s1 ⟨x,H1,I1,r1,q1⟩=>⟨x,σ,H1,I1,r1,q1⟩)⟩
end
section
variable {X:Cx} {t u:TS} {pos:Pos}
theorem be{c:Expr}{a b:List Stmt}{tc:TT}(hc:QT X c tc)(ha:iL X a t)(hb:iL X b u):QS X (.If c a b pos) (Dw tc t u):=⟨by
 have hc:=hc.h;have ha:=ha.h;have hb:=hb.h;intro pins s σ H D I h;refine wpAny_If (cm (hc pins s σ H _ I h) λd s1 ⟨H1,I1,q1⟩=>?_);cases d with
 | true=>exact ha pins s1 σ H1 D I1 q1
 | false=>exact hb pins s1 σ H1 D I1 q1⟩
end
section
variable {X:Cx} {st:Stmt}
theorem jb  : QS X st CM:=⟨λ_ _ _ _ _ _ h=>h.elim⟩
end
section
variable {X:Cx} {pos:Pos}
theorem bG{i:Nat}{x:Str}(hN:X.N.Nodup)(hi:X.N[i]? = some x)(hx:Loc X.env.scope x)(hf:X.fn x=true\/X.env.scope.names.lookup x=some .local:=by first | exact .inl rfl | exact .inr rfl | assumption):QG X (.Name x pos) (lZ i):=⟨by
 intro pins s σ H v u Q I r h;exact wpAny_assign_Name (mG I hN hi hx r (λs' I'=>⟨_,H,I',h⟩) hf)⟩
end
section
variable {X:Cx}
theorem ic  : Ej X [] EV:=⟨by
 intro pins s σ H vs us Q I r h;obtain⟨e,h⟩:=h;subst e;cases r;exact assignInOrder_nil ⟨σ,H,I,h⟩⟩
end
section
variable {X:Cx}
theorem cc{e:Expr}{es:List Expr}{t:TG}{u:zf}(h1:QG X e t)(h2:Ej X es u)(hs:(assignEach (e::es) X.env).map (·.2)=assign e X.env::(assignEach es X.env).map (·.2):=by rfl):Ej X (e::es) (B6 t u):=⟨by
 have h1:=h1.h;have h2:=h2.h;intro pins s σ H vs us Q I r h;obtain⟨v,vr,e1,h⟩:=h;subst e1;cases r with
 | cons r rr=>
  rw[hs];refine assignInOrder_cons (cm (h1 pins s σ H _ _ _ I r h) λ_ s1 ⟨σ1,H1,I1,q1⟩=>?_);exact h2 pins s1 σ1 H1 _ _ Q I1 rr q1⟩
end
section
variable {X:Cx} {pos:Pos}
theorem jo{es:List Expr}{k:Nat}{t:zf}{n:Nat}(hc:X.calm=true)(h:Ej X es t)(hn:(assignEach es X.env).length=n:=by rfl)(hst:(assignEach es X.env).findIdx? (·.1)=none:=by rfl):QG X (.Tuple es k pos) (ET X.K n t):=⟨by
 have h:=h.h;intro pins s σ H v u Q I r hw;obtain⟨a,xs,e1,hq,hl,hw⟩:=hw;subst e1;cases r;obtain⟨its,rv,ht,hz⟩:=I.tuple hq;refine assign_Tuple_tuple (I.ok.hd hc) ht (by simp[hn,<-hl,rv.length]) hst λh' hx=>?_;have I1:bE X pins σ H { s with heap:=h' }:=I.kept (t':=s.toks) λb o e=>hx b o (ac (aM e)) e;exact h pins _ σ H xs _ Q I1 (by simpa using rv) hw⟩
end
section
variable {X:Cx} {pos:Pos}
theorem oI{o i:Expr}{to ti:TE}{t:Aj}(ho:QE X o to)(hi:QE X i ti)(hs:E6 X t)(ha:∀v,assign (.Subscript o i pos) X.env v=(do
   let ov <-holding [v] (eval o X.env)
   let iv <-holding [v,ov] (eval i X.env)
   standAt pos
   holding [v,ov,iv] (setItem ov iv v)
   release [v,ov,iv] []):=by intro _;rfl):QG X (.Subscript o i pos) (EU to ti t):=⟨by
 have ho:=ho.h;have hi:=hi.h;intro pins s σ H v u Q I r h;rw[ha];refine wpAny_bind (Lz (cm (ho pins s σ H _ I h) λov s1 ⟨x,H1,I1,r1,q1⟩=>?_));refine wpAny_bind (Lz (cm (hi pins s1 σ H1 _ I1 q1) λiv s2 ⟨y,H2,I2,r2,q2⟩=>?_));refine wpAny_bind (wpAny_standAt (wpAny_bind (Lz (cm (hs pins s2 σ H2 x y v ov iv u _ I2 r1 r2 r q2) λ_ s3 ⟨H3,I3,q3⟩=>?_))));exact wpAny_release ⟨σ,H3,I3,q3⟩⟩
end
section
variable {X:Cx} {pos:Pos}
theorem oH{tg e:Expr}{te:TE}{g:TG}(he:QE X e te)(hg:QG X tg g)(hs:swapsWithSole [tg] e pos.line X.env=pure false:=by rfl)(hw:swappedStores [tg] e X.env=pure none:=by rfl)(h1:(assignEach [tg] X.env).map (·.2)=[assign tg X.env]:=by rfl):QS X (.Assign [tg] e pos) (wM te g):=⟨by
 have he:=he.h;have hg:=hg.h;intro pins s σ H D I h;refine wpAny_Assign_stores (cm (he pins s σ H _ I h) λv s1 ⟨x,H1,I1,r1,q1⟩=>?_) hs hw;rw[h1];exact cm (hg pins s1 σ H1 x v _ I1 r1 q1) λ_ s2 q=>q⟩
end
section
variable {X:Cx} {pos:Pos}
theorem aV{i:Nat}{x:Str}{e:Expr}{te:TE}{pos':Pos}(hN:X.N.Nodup)(hi:X.N[i]? = some x)(hx:Loc X.env.scope x)(he:QE X e te)(hs:swapsWith e (some (.Name x pos')) pos.line X.env=pure false:=by rfl)(hf:X.fn x=true\/X.env.scope.names.lookup x=some .local:=by first | exact .inl rfl | exact .inr rfl | assumption):QS X (.Assign [.Name x pos'] e pos) (wM te (lZ i)):=⟨by
 have he:=he.h;intro pins s σ H D I h;refine wpAny_Assign_Name (cm (he pins s σ H _ I h) λv s1 ⟨y,H1,I1,r1,q1⟩=>?_) hs;exact mG I1 hN hi hx r1 (λs2 I2=>⟨_,H1,I2,q1⟩) hf⟩
end
section
variable {X:Cx} {pos:Pos}
theorem vd{i:Nat}{x:Str}{e:Expr}{te:TE}{op:Operator}{ti:E3}{pos':Pos}(hN:X.N.Nodup)(hi:X.N[i]? = some x)(hx:Loc X.env.scope x)(he:QE X e te)(ho:FN X op ti)(hf:X.fn x=true\/X.env.scope.names.lookup x=some .local:=by first | exact .inl rfl | exact .inr rfl | assumption):QS X (.AugAssign (.Name x pos') op e pos) (EA i te ti):=⟨by
 have he:=he.h;intro pins s σ H D I h;obtain⟨v,e1,h⟩:=h;obtain⟨m,hn,hl⟩:=I.loc;have vis:E1 X.env.scope x:=by rcases hx with k | k;exact .inl k;exact .inr (.inl k)
 obtain⟨u,r,l⟩:=hl i x v hi e1 vis;refine wpAny_AugAssign_Name ?_;have go:wpAny (model X.prog X.w) X.A (eval e X.env) (λw s₂=>wpAny (model X.prog X.w) X.A (inplaceOp op u w) (λr s₃=>wpAny (model X.prog X.w) X.A (storeName X.env x r) (λ_=>SP X pins D .next) X.xe s₃) X.xe s₂) X.xe s:=by
  refine cm (he pins s σ H _ I h) λw s1 ⟨y,H1,I1,r1,q1⟩=>?_;refine cm (ho pins s1 σ H1 v y u w _ I1 r r1 q1) λz s2 ⟨zv,H2,I2,r2,q2⟩=>?_;exact mG I2 hN hi hx r2 (λs3 I3=>⟨_,H2,I3,q2⟩) hf
 rcases l with ⟨hk,hm⟩ | ⟨hk,c,hc,hcell⟩
 ·exact wpAny_loadName_local I.ok.kind hk hn hm go
 ·rcases hk with hk | hk
  ·exact wpAny_loadName_cell I.ok.kind hk hc hcell go
  ·rcases hx with k | k
   ·have:X.env.scope.names.lookup x=some .free:=hk;rw[k] at this;cases this
   ·have:X.env.scope.names.lookup x=some .free:=hk;rw[k] at this;cases this⟩
end
section
variable {X:Cx} {pos:Pos}
theorem mx{c:Expr}{body:List Stmt}{tc:TT}{tb:TS}(hp:PassesOwn (model X.prog X.w) X.A X.env X.xe)(hc:QT X c tc)(hb:iL X body tb):QS X (.While c body [] pos) (CH tc tb):=⟨by
 have hc:=hc.h;have hb:=hb.h;intro pins s σ H D I h;obtain⟨W,⟨m0,w0⟩,turn⟩:=h;refine wpAny_While (codeAny_whileLoop (λn s'=>∃σ' H',bE X pins σ' H' s'/\W n σ' H') ?_ m0 ⟨σ,H,I,w0⟩);rintro n s1 ⟨σ1,H1,I1,w1⟩;refine MG hp (cm (hc pins s1 σ1 H1 _ I1 (turn n σ1 H1 w1)) λb s2 ⟨H2,I2,q2⟩=>?_);cases b with
 | true=>
  obtain⟨N,hN,q2⟩:=q2;rw[MO rfl];refine MG hp (cm (hb pins s2 σ1 H2 _ I2 q2) λf s3 q3=>?_);cases f with
  | next=>
   obtain⟨σ3,H3,I3,n3⟩:=q3;obtain⟨m',hm,w3⟩:=hN σ3 H3 n3;exact⟨m',hm,σ3,H3,I3,w3⟩
  | cont=>
   obtain⟨σ3,H3,I3,n3⟩:=q3;obtain⟨m',hm,w3⟩:=hN σ3 H3 n3;exact⟨m',hm,σ3,H3,I3,w3⟩
  | brk=>exact q3
  | ret v=>exact q3
 | false=>
  rw[MN aY];exact ME ⟨σ1,H2,I2,q2⟩⟩
end
section
variable {X:Cx} {tg:Expr}
theorem dr{l:Expr}{tl:TE}(hl:QE X l tl):QI X tg l (zK X.K tl):=⟨by
 have hl:=hl.h;intro pins s σ H R I h;refine cm (hl pins s σ H _ I h) λv s1 ⟨x,H1,I1,r1,q1⟩=>?_;obtain⟨a,e,⟨xs,hq⟩,q⟩:=q1;subst e;cases r1;obtain⟨its,rv,p,hz⟩:=I1.list hq;refine wpAny_pyIter_list p.isList ?_;refine⟨s1.heap.objs.size,[s1.heap.objs.size],_,_,H1,rfl,I1.kept (t':=s1.toks) λb o e=>aD _ e,j4 a _,⟨_,aP _ rfl,rfl,rfl⟩,λb hb=>?_,q⟩;have e:b=s1.heap.objs.size:=by simpa using hb
 subst e;exact I1.fpOk (aH _) (I1.hok.fresh (aH _))⟩
end
section
variable {X:Cx} {tg:Expr}
theorem ve{l:Expr}{tl:TE}(hl:QE X l tl):QI X tg l (Cu X.K tl):=⟨by
 have hl:=hl.h;intro pins s σ H R I h;refine cm (hl pins s σ H _ I h) λv s1 ⟨x,H1,I1,r1,q1⟩=>?_;obtain⟨a,e,⟨xs,hq⟩,q⟩:=q1;subst e;cases r1;obtain⟨its,rv,p,hz⟩:=I1.tuple hq;refine MH (show s1.heap.IsTuple a its.toArray from p) ?_;refine⟨s1.heap.objs.size,[s1.heap.objs.size],_,_,H1,rfl,I1.kept (t':=s1.toks) λb o e=>aD _ e,uH a _,⟨_,aP _ rfl,rfl,rfl⟩,λb hb=>?_,q⟩;have e:b=s1.heap.objs.size:=by simpa using hb
 subst e;exact I1.fpOk (aH _) (I1.hok.fresh (aH _))⟩
end
section
variable {X:Cx} {tg:Expr}
theorem ce {a:Expr} {ta:TA} {p pos:Pos} (hg:Gl X "range") (hm:X.mg "range"=none) (ha:QA X [a] ta) (hs:starEach [a] X.env=[(false,eval a X.env)]:=by rfl):QI X tg (.Call (.Name "range" p) [a] [] pos) (zJ ta):=⟨by
 have ha:=ha.h;intro pins s σ H R I h;refine Call_ (nF I hg hm boot_range (dB (cm (ha pos pins s σ H _ I h) λus s1 ⟨vs,H1,I1,r1,q1⟩=>?_) hs rfl));obtain⟨j,e,q1,q2,q⟩:=q1;subst e;cases r1 with
 | cons r rr=>
  cases rr;obtain⟨t,rfl⟩:=r;exact call_range_1 (yd I1 (by lia) (by lia) q1 q2 (by simpa using q))⟩
end
section
variable {X:Cx} {tg:Expr}
theorem cZ{iter:Expr}{body:List Stmt}{wi:TI}{g:TG}{tb:TS}{pos:Pos}(hp:PassesOwn (model X.prog X.w) X.A X.env X.xe)(hc:X.calm=true)(hi:QI X tg iter wi)(hg:QG X tg g)(hb:iL X body tb)(hs:∀x,foldedSetIterable iter X.env x=pure x:=by intro _;rfl):QS X (.For tg iter body [] pos) (oX wi g tb):=⟨by
 have hi:=hi.h;have hg:=hg.h;have hb:=hb.h;intro pins s σ H D I h;refine wpAny_For (cm (hi pins s σ H _ I h) λv s1 h1=>cm h1 λitv s2 h2=>?_) hs;obtain⟨it,fp,tn,J,H2,e,I2,T,st2,f2,W,⟨m0,w0⟩,turn⟩:=h2;subst e;have stat:∀{H':Hp},(∀b∈fp,H' b=none)->∀b∈fp,iT X pins H' b:=λhn b hb=>⟨hn b hb,(f2 b hb).2⟩
 refine codeAny_forLoop_any (λn s'=>∃i σ' H',bE X pins σ' H' s'/\tn i s'.heap/\(∀b∈fp,H' b=none)/\W i n σ' H') ?_ m0 ⟨0,σ,H2,I2,st2,λb hb=>(f2 b hb).1,w0⟩;rintro n s3 ⟨i,σ3,H3,I3,st3,fr3,w3⟩;rcases turn i n σ3 H3 w3 with ⟨stop,qn⟩ | ⟨go,N,hN,step⟩
 ·refine MG hp (cm (T.done X rfl rfl rfl hc i pins s3 σ3 H3 X.xe I3 (stat fr3) st3 stop) λr s4 ⟨hr,I4⟩=>?_);subst hr;exact ME ⟨σ3,H3,I4,qn⟩
 ·refine MG hp (cm (T.item X rfl rfl rfl hc i pins s3 σ3 H3 X.xe I3 (stat fr3) st3 go) λr s4 ⟨u,hr,h4⟩=>?_);subst hr;refine MG hp (cm h4 λ_ s5 ⟨x,H5,I5,r5,y5,st5,fr5⟩=>?_);have I5':=I5.pinned (stat fr5) (T.obj _ _ st5);refine MG hp (cm (hg _ s5 σ3 H5 x u _ I5' r5 (step x H5 y5)) λ_ s6 ⟨σ6,H6,I6,q6⟩=>?_);refine MG hp (cm (hb _ s6 σ6 H6 _ I6 q6) λf s7 q7=>?_);have again:∀{σ7:St} {H7:Hp},bE X (pins++gF fp s5.heap) σ7 H7 s7->N σ7 H7->∃m,m<n/\∃i σ' H',bE X pins σ' H' s7/\tn i s7.heap/\(∀b∈fp,H' b=none)/\W i m σ' H':=fun {σ7 H7} I7 n7=>by
   obtain⟨m',hm,w7⟩:=hN σ7 H7 n7;refine⟨m',hm,i+1,σ7,H7,I7.unpinned,T.keep _ _ _ st5 λb hb o e=>(I7.pin (b,o) (aa _ (aa _ (fE hb e)))).1,λb hb=>?_,w7⟩;obtain⟨o,e,d⟩:=T.obj _ _ st5 b hb;exact(I7.pin (b,o) (aa _ (aa _ (fE hb e)))).2.1
  cases f with
  | next=>obtain⟨σ7,H7,I7,n7⟩:=q7;exact again I7 n7
  | cont=>obtain⟨σ7,H7,I7,n7⟩:=q7;exact again I7 n7
  | brk=>obtain⟨σ7,H7,I7,q7⟩:=q7;exact⟨σ7,H7,I7.unpinned,q7⟩
  | ret v=>obtain⟨x7,σ7,H7,I7,r7,q7⟩:=q7;exact⟨x7,σ7,H7,I7.unpinned,r7,q7⟩⟩
end
section
variable {X:Cx} {a b:Expr} {ta tb:TE} {pos:Pos}
theorem bB{op:Operator}{r:R2}(ho:nN X (binaryOp op) r)(ha:QE X a ta)(hb:QE X b tb):QE X (.BinOp a op b pos) (CJ r ta tb):=⟨by
 have ha:=ha.h;have hb:=hb.h;intro pins s σ H Q I h;exact wpAny_BinOp (DH ha hb I h λv u s2 x y H2 I2 rx ry q=>ho pins s2 σ H2 x y v u Q I2 rx ry q)⟩
end
section
variable {X:Cx} {a b:Expr} {ta tb:TE} {pos:Pos}
theorem fU{op:CmpOp}{r:R2}(ho:nN X (compareOp op) r)(ha:QE X a ta)(hb:QE X b tb)(hm:behindInMarks op b=false):QE X (.Compare a [op] [b] pos) (CJ r ta tb):=⟨by
 have ha:=ha.h;have hb:=hb.h;intro pins s σ H Q I h;exact wpAny_Compare1 (DH ha hb I h λv u s2 x y H2 I2 rx ry q=>ho pins s2 σ H2 x y v u Q I2 rx ry q) hm⟩
end
section
variable {X:Cx} {a b:Expr} {ta tb:TE} {pos:Pos}
theorem bC{op:CmpOp}{r:R2}(ho:nN X (compareOp op) r)(ha:QE X a ta)(hb:QE X b tb)(hm:behindInMarks op b=false):QT X (.Compare a [op] [b] pos) (yL (CJ r ta tb)):=⟨by
 have ha:=ha.h;have hb:=hb.h;intro pins s σ H Q I h;refine wpAny_isTrue_Compare1 (cm (ha pins s σ H _ I h) λv s1 ⟨x,H1,I1,r1,q1⟩=>cm (hb pins s1 σ H1 _ I1 q1) λu s2 ⟨y,H2,I2,r2,q2⟩=>
  cm (ho pins s2 σ H2 x y v u _ I2 r1 r2 q2) λc s3 ⟨z,H3,I3,r3,k,e,q3⟩=>?_) hm
 subst e;cases r3;exact Lp ⟨H3,I3,q3⟩⟩
end
section
variable {X:Cx} {a:Expr} {ta:TE} {pos:Pos}
theorem wY(ha:QE X a ta)(he:∀whole,isTrue a X.env whole=(do let v <-whole;standAt a.pos;holding [v] (truthy v))):QT X a (λσ H Q=>ta σ H λx H'=>∃k,E2 X.K x H' k/\Q k H'):=⟨by
 have ha:=ha.h;intro pins s σ H Q I h;exact isTrue_plain (cm (ha pins s σ H _ I h) λv s1 ⟨x,H1,I1,r1,q1⟩=>CG pins s1 σ H1 x v Q I1 r1 q1) (he _)⟩
end
section
variable {X:Cx}
theorem aA  : QA X [] CK:=⟨λ_ _ _ _ H Q I h=>Calls.spliced_nil ⟨[],H,I,.nil,h⟩⟩
end
section
variable {X:Cx} {e:Expr} {es:List Expr} {te:TE} {t:TA}
theorem oo(ha:QE X e te)(hr:QA X es t)(hs:starEach (e::es) X.env=(false,eval e X.env)::starEach es X.env:=by rfl):QA X (e::es) (jE te t):=⟨gG ha.h hr.h hs⟩
end
section
variable {X:Cx} {e:Expr} {es:List Expr} {t:TA} {pos:Pos}
theorem dS{x1}(h:QA X es t):QE X (.Tuple es x1 pos) (CI t):=⟨by
 have h:=h.h;intro pins s σ H Q I hq;refine wpAny_Tuple_spliced (cm (h pos pins s σ H _ I hq) λus s1 ⟨xs,H1,I1,r,z,q⟩=>⟨by rw[<-r.length];exact z,?_⟩);have hf:H1 s1.heap.objs.size=none:=I1.hok.fresh (aH _);refine⟨.ref s1.heap.objs.size,bU H1 s1.heap.objs.size (.tup xs),I1.laid (t':=s1.toks) (λb u e=>aD _ e) (aH _) ?_,rfl,q _ hf⟩;exact⟨z,us,r,⟨_,aP _ rfl,rfl,_,rfl⟩⟩⟩
end
section
variable {X:Cx} {e:Expr} {es:List Expr} {t:TA} {pos:Pos}
theorem cB(h:QA X es t):QE X (.List es pos) (yN t):=⟨by
 have h:=h.h;intro pins s σ H Q I hq;refine wpAny_List_spliced (cm (h pos pins s σ H _ I hq) λus s1 ⟨xs,H1,I1,r,z,q⟩=>⟨by rw[<-r.length];exact z,?_⟩);have hf:H1 s1.heap.objs.size=none:=I1.hok.fresh (aH _);refine⟨.ref s1.heap.objs.size,bU H1 s1.heap.objs.size (.lst xs),I1.laid (t':=s1.toks) (λb u e=>aD _ e) (aH _) ?_,rfl,q _ hf⟩;exact⟨z,us,0,r,aP _ rfl⟩⟩
end
section
variable {X:Cx} {x:Str} {p pos:Pos} {e:Expr} {es:List Expr} {t:TA} {id:String} {r:List V->Hp->VK->Prop}
theorem aR (hc:fX X (.builtin id) r) (hg:Gl X x) (hm:X.mg x=none) (hv:bootBuiltins x=some (.builtin id)) (ha:QA X (e::es) t) (hn:x≠"__name__":=by decide) (hdb:(x==("__debug__":Str))=false:=by decide) (he:starEach (e::es) X.env=(false,eval e X.env)::starEach es X.env:=by rfl) (hpl:(backTo pos (starEach es X.env)).any (·.1)=false:=by rfl):QE X (.Call (.Name x p) (e::es) [] pos) (Et r t):=⟨by
 have ha:=ha.h;intro pins s σ H Q I h;refine Lw (nF I hg hm hv ?_ hn hdb);exact PyProof.Rows.callWith_builtin1 (cm (ha pos pins s σ H _ I h) λus s1 ⟨vs,H1,I1,r1,q1⟩=>hc pins s1 σ H1 vs us Q I1 r1 q1) he hpl⟩
end
section
variable {X:Cx} {x:Str} {p pos:Pos} {e:Expr} {es:List Expr} {t:TA} {T:String} {r:List V->Hp->VK->Prop}
theorem cf (hc:fX X (.type T) r) (hg:Gl X x) (hm:X.mg x=none) (hv:bootBuiltins x=some (.type T)) (ha:QA X (e::es) t) (hn:x≠"__name__":=by decide) (hdb:(x==("__debug__":Str))=false:=by decide) (he:starEach (e::es) X.env=(false,eval e X.env)::starEach es X.env:=by rfl) (hpl:(backTo pos (starEach es X.env)).any (·.1)=false:=by rfl):QE X (.Call (.Name x p) (e::es) [] pos) (Et r t):=⟨by
 have ha:=ha.h;intro pins s σ H Q I h;refine Lw (nF I hg hm hv ?_ hn hdb);exact dB (cm (ha pos pins s σ H _ I h) λus s1 ⟨vs,H1,I1,r1,q1⟩=>hc pins s1 σ H1 vs us Q I1 r1 q1) he hpl⟩
end
section
variable {X:Cx}
theorem yg  : QO X none vT:=⟨by
 intro pins s σ H Q I h;rw[evalPart_none];exact Lq ⟨none,H,I,.none,h⟩⟩
end
section
variable {X:Cx} {e:Expr} {te:TE}
theorem oj(h:QE X e te):QO X (some e) (BG te):=⟨by
 have h:=h.h;intro pins s σ H Q I hw;rw[evalPart_some];refine cm (h pins s σ H _ I hw) λu s1 ⟨x,H1,I1,r1,q1⟩=>?_;obtain⟨i,rfl,q⟩:=q1;obtain⟨t,rfl⟩:=r1;exact⟨some i,H1,I1,.int i t,q⟩⟩
end
section
variable {X:Cx} {e:Expr} {te:TE} {lo hi:Option Expr} {tl th:TO} {pos p2:Pos}
theorem qJ{r:V->Option Int->Option Int->Hp->VK->Prop}(hr:F6 X r)(he:QE X e te)(hl:QO X lo tl)(hu:QO X hi th):QE X (.Subscript e (.Slice lo hi none p2) pos) (FZ r te tl th):=⟨by
 have he:=he.h;have hl:=hl.h;have hu:=hu.h;intro pins s σ H Q I h;refine Subscript_ (cm (he pins s σ H _ I h) λv s1 ⟨x,H1,I1,r1,q1⟩=>?_);refine wpAny_Slice (cm (hl pins s1 σ H1 _ I1 q1) λvl s2 ⟨l,H2,I2,pl,q2⟩=>cm (hu pins s2 σ H2 _ I2 q2) λvu s3 ⟨u,H3,I3,pu,q3⟩=>?_);rw[evalPart_none];refine Lq ?_;have I4:bE X pins σ H3 { s3 with heap:=s3.heap.push { cls:=.type "slice",data:=.fields #[vl,vu,.none] } }:=I3.kept (t':=s3.toks) λb ob q=>aD _ q;obtain⟨T,id,hT,ht,hg⟩:=hr pins { s3 with heap:=s3.heap.push { cls:=.type "slice",data:=.fields #[vl,vu,.none] } } σ H3 x v vl vu l u s3.heap.objs.size Q I4 r1 (Heap.IsSliceOf.new ..) pl pu q3;show wpAny (model X.prog X.w) X.A (subscriptTail e (.Slice lo hi none p2) v (.ref s3.heap.objs.size)) (EP X pins σ Q) X.xe { s3 with heap:=s3.heap.push { cls:=.type "slice",data:=.fields #[vl,vu,.none] } };exact tail_any (ops:=[.ref s3.heap.objs.size,v]) ht hT hg (by with_unfolding_all rfl)⟩
end
section
variable {X:Cx} {a b:Expr} {ta tb:TE} {pos:Pos}
theorem bW{r:R2}(hr:DS X r)(ha:QE X a ta)(hb:QE X b tb)(hs:Al b):QE X (.Subscript a b pos) (CJ r ta tb):=⟨by
 have ha:=ha.h;have hb:=hb.h;intro pins s σ H Q I h;exact Subscript_ (DH ha hb I h λv u s2 x y H2 I2 rx ry q=>hr a b pins s2 σ H2 x y v u Q I2 rx ry q (hs _ _))⟩
end
section
variable {X:Cx} {o:Expr} {to:TE} {name:Str} {apos cpos:Pos} {T id:String} {r:V->List V->Hp->VK->Prop}
theorem vg (pa:PlainAttrs T) (slot:Slot T name id) (hty:typeOf (.builtin id)=pure (.type "method_descriptor")) (hm:FO X id r) (ho:QE X o to) (hbase:attributeBase o name X.env (eval o X.env)=eval o X.env:=by rfl) (hline:(apos.endLine==cpos.line)=true:=by rfl):QE X (.Call (.Attribute o name apos) [] [] cpos) (Dz X.K T r to):=⟨by
 have ho:=ho.h;intro pins s σ H Q I h;refine wpAny_Call_method0_late hbase hline (cm (ho pins s σ H _ I h) λv s1 ⟨x,H1,I1,r1,ty,q1⟩=>?_);obtain⟨h1,h2⟩:=yG I1 r1 ty;exact⟨T,id,pa,slot,hty,h1,h2,Calls.callWith_builtin rfl (PySem.evalArgs_none (hm pins s1 σ H1 x [] v [] Q I1 r1 .nil q1))⟩⟩
end
section
variable {X:Cx} {a:Expr} {o e:Expr} {es:List Expr} {to:TE} {t:TA} {name:Str} {apos cpos:Pos} {T id:String} {r:V->List V->Hp->VK->Prop}
theorem h7 (pa:PlainAttrs T) (slot:Slot T name id) (hty:typeOf (.builtin id)=pure (.type "method_descriptor")) (hm:FO X id r) (ho:QE X o to) (ha:QA X (e::es) t) (hbase:attributeBase o name X.env (eval o X.env)=eval o X.env:=by rfl) (hfew:((backTo cpos (starEach (e::es) X.env)).all (λx=>!x.1)&&(backToKw cpos (keywordEach [] X.env)).all (λx=>x.1.isSome)
   && decide ((e::es).length+([]:List Keyword).length+(if ([]:List Keyword).isEmpty then 0 else 1)<30))=true:=by rfl) (hline:(apos.endLine==cpos.line)=true:=by rfl) (hs:starEach (e::es) X.env=(false,eval e X.env)::starEach es X.env:=by rfl) (hplain:(backTo cpos (starEach es X.env)).any (·.1)=false:=by rfl):QE X (.Call (.Attribute o name apos) (e::es) [] cpos) (F2 X.K T r to t):=⟨by
 have ho:=ho.h;have ha:=ha.h;intro pins s σ H Q I h;refine wpAny_Call_method_late hbase hfew hline rfl (cm (ho pins s σ H _ I h) λv s1 ⟨x,H1,I1,r1,ty,q1⟩=>?_);obtain⟨h1,h2⟩:=yG I1 r1 ty;refine⟨T,id,pa,slot,hty,h1,h2,?_⟩;have hA:=ha cpos pins s1 σ H1 _ I1 q1;rw[hs] at hA ⊢;refine Calls.callWith_builtin (by show (false || (backTo cpos (starEach es X.env)).any (·.1))=false;rw[hplain]<;>rfl) (Calls.evalArgs_plain ?_);exact cm hA λus s2 ⟨vs,H2,I2,r2,q2⟩=>hm pins s2 σ H2 x vs v us Q I2 r1 r2 q2
/- xs.append(e),list.index on a module's tuple .. are FO facts of 06m -/⟩
end
section
variable {X:Cx}
theorem a9 (i:Nat) {x:Str} {pos:Pos} (hN:X.N[i]? = some x:=by rfl) (hv:E1 X.env.scope x:=by first | exact Or.inl rfl | exact Or.inr (Or.inl rfl) | exact Or.inr (Or.inr rfl)) (hd:(x==("__debug__":Str))=false:=by decide) (hcd:(x==("__classdict__":Str))=false:=by decide):QE X (.Name x pos) (rm i):=⟨C7 hN hv hd hcd⟩
end
section
variable {X:Cx}
theorem oh{a b c d:Expr}{ta tb tc td:TE}{pos:Pos}{op op' op2:CmpOp}{r r' r2:R2}(ho:nN X (compareOp op) r)(ho':nN X (compareOp op') r')(ho2:nN X (compareOp op2) r2)(ha:QE X a ta)(hb:QE X b tb)(hc:QE X c tc)(hd:QE X d td)(hm:lastMarks [op,op',op2] [b,c,d]=false:=by with_unfolding_all rfl):QT X (.Compare a [op,op',op2] [b,c,d] pos) (yL (vU r r' r2 ta tb tc td)):=⟨by
 have ha:=ha.h;have hb:=hb.h;have hc:=hc.h;have hd:=hd.h;intro pins s σ H Q I h;refine isTrue_chain (cm (ha pins s σ H _ I h) λv s1 ⟨x,H1,I1,r1,q1⟩=>test_link (cm (hb pins s1 σ H1 _ I1 q1) λu s2 ⟨y,H2,I2,r2',q2⟩=>
  cm (ho pins s2 σ H2 x y v u _ I2 r1 r2' q2) λe s3 ⟨z,H3,I3,r3,k,ek,q3⟩=>?_)) hm
 subst ek;cases r3;refine Lp ?_;cases k with
 | false=>
  obtain⟨k',e',q'⟩:=q3;cases e';exact ite_ff ⟨H3,I3,q'⟩
 | true=>
  refine ite_tt (test_link (cm (hc pins s3 σ H3 _ I3 q3) λw' s4 ⟨z',H4,I4,r4,q4⟩=>cm (ho' pins s4 σ H4 y z' u w' _ I4 r2' r4 q4) λd' s5 ⟨z2,H5,I5,r5,k2,e2,q5⟩=>?_));subst e2;cases r5;refine Lp ?_;cases k2 with
  | false=>
   obtain⟨k',e',q'⟩:=q5;cases e';exact ite_ff ⟨H5,I5,q'⟩
  | true=>
   refine ite_tt (test_last (cm (hd pins s5 σ H5 _ I5 q5) λw2 s6 ⟨z6,H6,I6,r6,q6⟩=>cm (ho2 pins s6 σ H6 z' z6 w' w2 _ I6 r4 r6 q6) λd7 s7 ⟨z7,H7,I7,r7,k7,e7,q7⟩=>?_));subst e7;cases r7;exact Lp ⟨H7,I7,q7⟩⟩
end
section
theorem lN {X:Cx} {x:Str} {i:Int} {pos:Pos} (hg:Gl X x) (hm:∃t,X.mg x=some (.int i t)) (hd:(x==("__debug__":Str))=false:=by decide):QE X (.Name x pos) (tC (.int i)):=⟨let ⟨t,h⟩:=hm
 qt hg h ⟨t,rfl⟩ hd⟩
end
section
theorem aW {X:Cx} {k:Nat} {x:Str} {st:Stmt} {ps:List Str} {sp:Sp} {e:Expr} {es:List Expr} {t:TA} {p pos:Pos} (D:eO X.prog X.w X.K X.mg X.base k x st ps sp) (hr:gS k X.A) (hg:Gl X x) (ha:QA X (e::es) t) (hdb:(x==("__debug__":Str))=false:=by decide) (he:starEach (e::es) X.env=(false,eval e X.env)::starEach es X.env:=by rfl) (hpl:(backTo pos (starEach es X.env)).any (·.1)=false:=by rfl):QE X (.Call (.Name x p) (e::es) [] pos) (oY sp [] E0 t):=⟨by
 have ha:=ha.h;obtain⟨f,fd,F,m,b,G⟩:=D.ex;exact qu G hr hg m F.kp b .nil EI ha hdb he hpl⟩
end
section
theorem AE{X:Cx}{tg l:Expr}{tl:TE}(hl:QE X l tl):QI X tg l (ER tl):=⟨by
 have hl:=hl.h;intro pins s σ H R I h;refine cm (hl pins s σ H _ I h) λv s1 ⟨x,H1,I1,r1,z,e,ha,q⟩=>?_;subst e;obtain⟨t,rfl⟩:=r1;refine wpAny_pyIter_ascii ha ?_;exact⟨s1.heap.objs.size,[s1.heap.objs.size],_,_,H1,rfl,I1.kept (t':=s1.toks) λb o e=>aD _ e,yJ _ z t,⟨_,aP _ rfl,rfl,rfl⟩,
  λb hb=>by
   have e:b=s1.heap.objs.size:=by simpa using hb
   subst e;exact I1.fpOk (aH _) (I1.hok.fresh (aH _)),q⟩⟩
end
section
theorem yi {X:Cx} {a:Expr} {ta:TA} {elts:List Expr} {x1:Nat} {p pos tpos:Pos} (hg:Gl X "enumerate") (hm:X.mg "enumerate"=none) (ha:QA X [a] ta) (hs:starEach [a] X.env=[(false,eval a X.env)]:=by rfl):QI X (.Tuple elts x1 tpos) (.Call (.Name "enumerate" p) [a] [] pos) (B4 ta):=⟨by
 have ha:=ha.h;intro pins s σ H R I h;refine Call_ (nF I hg hm boot_enumerate (dB (cm (ha pos pins s σ H _ I h) λus s1 ⟨vs,H1,I1,r1,z,e,hz,q⟩=>?_) hs rfl));subst e;obtain⟨u,rfl,t,rfl⟩:=Ls r1;refine call_enumerate_str λh' he hit hsz kp=>?_;have ht:strIterType z="str_ascii_iterator":=by unfold strIterType;rw[MO hz]
 rw[ht] at hit;refine wpAny_pyIter_enum he ?_;have I2:bE X pins σ H1 { s1 with heap:=h' }:=I1.kept (t':=s1.toks) kp;exact⟨s1.heap.objs.size+1,[s1.heap.objs.size+1,s1.heap.objs.size],_,_,H1,rfl,I2,wL _ _ (Nat.succ_ne_self _) z t,⟨⟨_,he⟩,hit⟩,
  λb hb=>by
   have hle:s1.heap.objs.size<=b:=by
    rcases aZ.mp hb with y | y
    ·rw[y];exact df _
    ·have y':b=s1.heap.objs.size:=by simpa using y
     exact m8 y'.symm
   exact I1.fpOk hle (I1.hok.fresh hle),q⟩⟩
end
section
theorem jH{X:Cx}:QF X [] pw:=⟨λ_ _ _ H _ I h=>Lq ⟨H,I,h⟩⟩
end
section
theorem vf{X:Cx}{c:Expr}{t:TT}(h:QT X c t):QF X [c] t:=⟨by
 have h:=h.h;intro pins s σ H Q I hq;rw[iG];simp only[MS,bind_assoc,pure_bind];refine wpAny_bind (cm (h pins s σ H Q I hq) λb s1 q=>?_);exact Lq q⟩
end
section
variable {X:Cx} {H:Hp} {s:Shared}
theorem gw{own ns:List Str}{caps:List Nat}{elt tg iter:Expr}{ifs:List Expr}{scope:Scope}{pos:Pos}{wi:TI}{g:TG}{tf:TT}{te:TE}(hc:X.calm=true)(S:kG scope ns)(cp:kF X scope ns caps)(hi:QI X tg iter wi)(hg:∀C s H fp pn,QG (nJ X (own++ns) scope C s H fp pn) tg g)(ht:∀C s H fp pn,QF (nJ X (own++ns) scope C s H fp pn) ifs tf)(he:∀C s H fp pn,QE (nJ X (own++ns) scope C s H fp pn) elt te)(hs:∀x,foldedSetIterable iter X.env x=pure x:=by intro _;rfl):QE X (.ListComp elt [⟨tg,iter,ifs,0⟩] scope pos) (mF own.length caps wi g tf te):=⟨AI hc S cp hi.h (λC s H fp pn=>(hg C s H fp pn).h) (λC s H fp pn=>(ht C s H fp pn).h) (λC s H fp pn=>(he C s H fp pn).h) hs⟩
end
section
variable {X:Cx} {H:Hp} {s:Shared}
theorem ye{i:Nat}{x:Str}{own ns:List Str}{caps:List Nat}{elt tg iter:Expr}{ifs:List Expr}{scope:Scope}{pos pos' spos:Pos}{wi:TI}{g:TG}{tf:TT}{te:TE}(hN:X.N.Nodup)(hi:X.N[i]? = some x)(hx:Loc X.env.scope x)(hc:X.calm=true)(S:kG scope ns)(cp:kF X scope ns caps)(hit:QI X tg iter wi)(hg:∀C s H fp pn,QG (nJ X (own++ns) scope C s H fp pn) tg g)(ht:∀C s H fp pn,QF (nJ X (own++ns) scope C s H fp pn) ifs tf)(he:∀C s H fp pn,QE (nJ X (own++ns) scope C s H fp pn) elt te)(hs:∀x,foldedSetIterable iter X.env x=pure x:=by intro _;rfl)(hsw:swapsWith (.ListComp elt [⟨tg,iter,ifs,0⟩] scope pos) (some (.Name x pos')) spos.line X.env=pure true:=by rfl)(hf:X.fn x=true\/X.env.scope.names.lookup x=some .local:=by first | exact .inl rfl | exact .inr rfl | assumption):QS X (.Assign [.Name x pos'] (.ListComp elt [⟨tg,iter,ifs,0⟩] scope pos) spos) (wM (mF own.length caps wi g tf te) (lZ i)):=⟨AG hN hi hx hc S cp hit.h (λC s H fp pn=>(hg C s H fp pn).h) (λC s H fp pn=>(ht C s H fp pn).h) (λC s H fp pn=>(he C s H fp pn).h) hs hsw hf⟩
end
section
theorem qK {X:Cx} {x:Str} {K:MU} {xs:List V} {pos:Pos} (hg:Gl X x) (hm:∃a,X.mg x=some (.ref a)/\∀H,cg K H a xs) (hd:(x==("__debug__":Str))=false:=by decide):QE X (.Name x pos) (yO K xs):=⟨by
 obtain⟨a,h1,h2⟩:=hm;intro pins s σ H Q I h;exact qt (v:=.ref a) hg h1 rfl hd pins s σ H Q I (h a h2)⟩
end
section
theorem c8{X:Cx}{st:Stmt}{rest:List Stmt}{t u:TS}(h1:QS X st t)(h2:iL X rest u):iL X (st::rest) (Dx t u):=⟨by
 have h1:=h1.h;have h2:=h2.h;intro pins s σ H D I h;obtain⟨J,h,hJ⟩:=h;refine MF (cm (h1 pins s σ H { D with nx:=J } I h) λf s1 q=>?_);cases f with
 | next=>
  obtain⟨σ',H',I',q⟩:=q;exact h2 pins s1 σ' H' D I' (hJ _ _ q)
 | ret v=>exact q
 | brk=>exact q
 | cont=>exact q⟩
end
section
variable {X:Cx} {es:List Expr} {te:TE} {t:TA}
theorem dE{a0:PySem.Expr}{a1:PySem.Operator}{a2:PySem.Expr}{a3:PySem.Pos}(ha:QE X (Expr.BinOp a0 a1 a2 a3) te)(hr:QA X es t):QA X ((Expr.BinOp a0 a1 a2 a3)::es) (jE te t):=⟨have ha:=ha.h;have hr:=hr.h;gG ha hr rfl⟩
end
section
variable {X:Cx} {es:List Expr} {te:TE} {t:TA}
theorem sQ{a0:PySem.UnaryOp}{a1:PySem.Expr}{a2:PySem.Pos}(ha:QE X (Expr.UnaryOp a0 a1 a2) te)(hr:QA X es t):QA X ((Expr.UnaryOp a0 a1 a2)::es) (jE te t):=⟨have ha:=ha.h;have hr:=hr.h;gG ha hr rfl⟩
end
section
variable {X:Cx} {es:List Expr} {te:TE} {t:TA}
theorem iS{a0:PySem.Expr}{a1:List Comprehension}{a2:PySem.Scope}{a3:PySem.Pos}(ha:QE X (Expr.ListComp a0 a1 a2 a3) te)(hr:QA X es t):QA X ((Expr.ListComp a0 a1 a2 a3)::es) (jE te t):=⟨have ha:=ha.h;have hr:=hr.h;gG ha hr rfl⟩
end
section
variable {X:Cx} {es:List Expr} {te:TE} {t:TA}
theorem sR{a0:PySem.Expr}{a1:List CmpOp}{a2:List Expr}{a3:PySem.Pos}(ha:QE X (Expr.Compare a0 a1 a2 a3) te)(hr:QA X es t):QA X ((Expr.Compare a0 a1 a2 a3)::es) (jE te t):=⟨have ha:=ha.h;have hr:=hr.h;gG ha hr rfl⟩
end
section
variable {X:Cx} {es:List Expr} {te:TE} {t:TA}
theorem ba{a0:PySem.Expr}{a1:List Expr}{a2:List Keyword}{a3:PySem.Pos}(ha:QE X (Expr.Call a0 a1 a2 a3) te)(hr:QA X es t):QA X ((Expr.Call a0 a1 a2 a3)::es) (jE te t):=⟨have ha:=ha.h;have hr:=hr.h;gG ha hr rfl⟩
end
section
variable {X:Cx} {es:List Expr} {te:TE} {t:TA}
theorem au{a0:PySem.Const}{a1:Nat}{a2:PySem.Pos}(ha:QE X (Expr.Constant a0 a1 a2) te)(hr:QA X es t):QA X ((Expr.Constant a0 a1 a2)::es) (jE te t):=⟨have ha:=ha.h;have hr:=hr.h;gG ha hr rfl⟩
end
section
variable {X:Cx} {es:List Expr} {te:TE} {t:TA}
theorem ah{a0:PySem.Expr}{a1:PySem.Expr}{a2:PySem.Pos}(ha:QE X (Expr.Subscript a0 a1 a2) te)(hr:QA X es t):QA X ((Expr.Subscript a0 a1 a2)::es) (jE te t):=⟨have ha:=ha.h;have hr:=hr.h;gG ha hr rfl⟩
end
section
variable {X:Cx} {es:List Expr} {te:TE} {t:TA}
theorem aB{a0:PySem.Str}{a1:PySem.Pos}(ha:QE X (Expr.Name a0 a1) te)(hr:QA X es t):QA X ((Expr.Name a0 a1)::es) (jE te t):=⟨have ha:=ha.h;have hr:=hr.h;gG ha hr rfl⟩
end
section
variable {X:Cx} {es:List Expr} {te:TE} {t:TA}
theorem oq{a0:List Expr}{a1:PySem.Pos}(ha:QE X (Expr.List a0 a1) te)(hr:QA X es t):QA X ((Expr.List a0 a1)::es) (jE te t):=⟨have ha:=ha.h;have hr:=hr.h;gG ha hr rfl⟩
end
section
variable {X:Cx} {es:List Expr} {te:TE} {t:TA}
theorem g6{a0:List Expr}{a1:Nat}{a2:PySem.Pos}(ha:QE X (Expr.Tuple a0 a1 a2) te)(hr:QA X es t):QA X ((Expr.Tuple a0 a1 a2)::es) (jE te t):=⟨have ha:=ha.h;have hr:=hr.h;gG ha hr rfl⟩
end
section
variable {X:Cx} {o i:Expr} {pos:Pos} {td ty:TE}
theorem cq(hu:X.A.units+1<cLine)(ho:QE X o td)(hi:QE X i ty)(hs:E7 i):QE X (.Subscript o i pos) (BL td ty):=⟨by
 have ho:=ho.h;have hi:=hi.h;intro pins s σ H Q I h;refine zz PySem.F.slot_dict_getitem.lookup hs (cm (ho pins s σ H _ I h) λu s1 ⟨x,H1,I1,rx,q1⟩=>cm (hi pins s1 σ H1 _ I1 q1) λiv s2 ⟨y,H2,I2,ry,a,v,ex,g,q2⟩=>?_);subst ex;obtain rfl:u=Value.ref a:=rx;exact⟨tT I2 g,xB hu I2 g ry λw' s3 I3 rw'=>⟨v,H2,I3,rw',q2⟩⟩⟩
end
section
variable {X:Cx} {o i value:Expr} {pos pos':Pos} {td ty tv:TE}
theorem gu(hu:X.A.units+1<cLine)(ho:QE X o td)(hi:QE X i ty)(hv:QE X value tv)(hs:swapsWith value (some (.Subscript o i pos')) pos.line X.env=pure false):QS X (.Assign [.Subscript o i pos'] value pos) (BS td ty tv):=⟨by
 have ho:=ho.h;have hi:=hi.h;have hv:=hv.h;intro pins s σ H D I h;refine wpAny_Assign_Subscript (cm (hv pins s σ H _ I h) λr s1 ⟨v,H1,I1,rv,q1⟩=>cm (ho pins s1 σ H1 _ I1 q1) λu s2 ⟨x,H2,I2,rx,q2⟩=>cm (hi pins s2 σ H2 _ I2 q2) λiv s3 ⟨y,H3,I3,ry,a,H4,ex,g,q3⟩=>?_) hs;subst ex;obtain rfl:u=Value.ref a:=rx;exact xA hu I3 g ry rv λs4 I4=>⟨σ,H4,I4,q3⟩⟩
end
section
variable {X:Cx} {pos:Pos}
theorem jc  : QE X (.Dict [] [] pos) yR:=⟨λpins s σ H Q I h=>
 wpAny_Dict_empty ⟨.ref s.heap.objs.size,_,I.laid (a:=s.heap.objs.size) (o:=.dK []) (t':=s.toks) (λ_ _ q=>aD _ q) (aH _) (tS s.heap I.big),rfl,h _ (I.hok.fresh (aH _))⟩⟩
end
section
theorem yf{X:Cx}{pos:Pos}:Ak X pos [] [] []:=⟨λpins s σ H Q I h=>pairTrees_nil_walk ⟨[],H,I,.nil,h⟩⟩
end
section
theorem qI{X:Cx}{pos:Pos}{k v:Expr}{ks:List (Option Expr)}{vs:List Expr}{tk tv:TE}{trs:List (TE×TE)}(hk:QE X k tk)(hv:QE X v tv)(hr:Ak X pos ks vs trs):Ak X pos (some k::ks) (v::vs) ((tk,tv)::trs):=⟨have hk:=hk.h;have hv:=hv.h;have hr:=hr.h;λpins s σ H Q I h=>
 pairTrees_cons_walk (cm (hk pins s σ H _ I h) λu s1 ⟨x,H1,I1,rx,q1⟩=>cm (hv pins s1 σ H1 _ I1 q1) λw2 s2 ⟨y,H2,I2,ry,q2⟩=>
  cm (hr pins s2 σ H2 _ I2 q2) λws s3 ⟨ps,H3,I3,rel,q3⟩=>⟨(x,y)::ps,H3,I3,.cons ⟨rx,ry⟩ rel,q3⟩)⟩
end
section
theorem yj{X:Cx}{pos:Pos}{keys:List (Option Expr)}{values:List Expr}{trs:List (TE×TE)}(h:Ak X pos keys values trs)(hall:keys.all (·.isSome)=true)(hl:keys.length=values.length)(h0:keys≠[])(h15:keys.length<=15):QE X (.Dict keys values pos) (BK trs):=⟨by
 have h:=h.h;intro pins s σ H Q I q;have hn:=I.hok.fresh (aH s.heap.objs.size);have I1:=I.laid (a:=s.heap.objs.size) (o:=.dK []) (h':=s.heap.push { cls:=.type "dict",data:=.dict #[] }) (t':=s.toks) (λ_ _ q=>aD _ q) (aH _) (tS s.heap I.big);refine wpAny_Dict_walk (knd:=dk X.prog X.w) hall hl h0 h15 (cm (h pins _ σ _ _ I1 (q _ hn)) λws s2 ⟨ps,H2,I2,rel,e,kvs,ep,lk,q2⟩=>?_);subst ep;obtain⟨rs,c,rk⟩:=pQ (P:=X.prog) (w:=X.w) rel;obtain⟨z,hd,vs0,r0,dd⟩:=B8 I2.hok e;cases r0;refine⟨rs,c,dd,λh' dd' hs=>⟨.ref s.heap.objs.size,_,?_,rfl,q2⟩⟩;have hz:(lw [] kvs).length<=sizeLine:=by
  have h1:=lY kvs [];rw[kL] at h1;rw[Lr];lia
 have he:∃q,h'.get? s.heap.objs.size=some q:=let ⟨q,_,_,hq,_⟩:=dd';⟨q,hq⟩;exact rM I2 (by rw[e];exact True.intro) hs he (zQ hz hd (rk.merge .nil) dd')⟩
end
section
variable {X:Cx}
theorem og{k d:Expr}{ty td:TE}{pos:Pos}(hu:X.A.units+1<cLine)(hk:QE X k ty)(hd:QE X d td)(hm:behindInMarks .NotIn d=false:=by first | rfl | with_unfolding_all rfl):QT X (.Compare k [.NotIn] [d] pos) (tB (qi ty td)):=⟨have hk:=hk.h;have hd:=hd.h;C5 (w5 hu hk hd) hm⟩
end
section
variable {X:Cx}
theorem ja {x:Str} {C:Addr} {bmB:List Value} {B newId initId:String} {E:XK} {e:Expr} {es:List Expr} {t:TA} {np cpos pos:Pos} (R:E5 X E) (O:OwnCls x C bmB newId X.mg X.base) (F:ExcBaseFacts B newId initId bmB) (hc:X.calm=true) (hg:Gl X x) (ha:QA X (e::es) t) (hdb:(x==("__debug__":Str))=false:=by decide) (he:starEach (e::es) X.env=(false,eval e X.env)::starEach es X.env:=by rfl) (hpl:(backTo cpos (starEach es X.env)).any (·.1)=false:=by rfl):QS X (.Raise (some (.Call (.Name x np) (e::es) [] cpos)) none pos) (yM C E t):=⟨by
 have ha:=ha.h;intro pins s σ H D I h;obtain⟨bm,N,nm,q,bs,hdct,sn,sub,ab,col,dd,k0,k1,k2,k3,k5,mN,hC,hN,hi,ot⟩:=O.obj;have eq:backTo cpos (starEach (e::es) X.env)=(false,eval e X.env)::backTo cpos (starEach es X.env):=by rw[he];rfl
 have hb:(backTo cpos (starEach (e::es) X.env)).any (·.1)=false:=by rw[eq,eV,hpl];rfl
 refine wpAny_Raise_call_subT (nm:=nm) (q:=q) (N:=N) (bs:=bs) (hdct:=hdct) (sn:=sn) (sub:=sub) (ab:=ab) (col:=col) (dd:=dd) (k0:=k0) (k1:=k1) (k2:=k2) (k3:=k3) (k5:=k5) F (rj F.hasBase ot) (I.ok.hd hc) hb hi (ju I hg O.bound ⟨rfl,?_⟩ hdb);have pl:=ha cpos pins s σ H _ I h;rw[eq] at pl ⊢;refine Calls.evalArgs_plain (cm pl λus s1 ⟨vs,H1,I1,r,z,q1⟩=>⟨rfl,by rw[<-r.length];exact z,I1.bk _ _ hC,sh I1.bk hN,oV I1.bk ot,λh' a M=>R pins σ H1 s1 h' a C us I1 M q1⟩)⟩
end
section
variable {X:Cx}
theorem fZ{st:Stmt}{t:TS}(h:QS X.nox st t):QS X st t:=⟨have h:=h.h;λpins s σ H D I hw=>
 Lo (h pins s σ H D (I.wish _) hw) (λ_ _ q=>q.unwish) λ_ _ z=>False.elim z⟩
end
section
variable {X:Cx}
theorem mQ{e:Expr}{t:TT}(h:QT X.nox e t):QT X e t:=⟨have h:=h.h;h.nox⟩
end
section
variable {X:Cx}
theorem eS {x:Str} {C:Addr} {pos:Pos} (hg:Gl X x) (hm:X.mg x=some (.ref C)) (hd:(x==("__debug__":Str))=false:=by decide):QE X (.Name x pos) (tC (.ref C)):=⟨qt hg hm rfl hd⟩
end
section
variable {X:Cx}
theorem qL {k:Nat} {x:Str} {st:Stmt} {ps:List Str} {sp:Sp} {e:Expr} {es:List Expr} {t:TA} {p pos:Pos} (D:lV X.prog X.w X.K X.mg X.base k x st ps sp) (hr:gS k X.A) (hg:Gl X x) (ha:QA X (e::es) t) (hdb:(x==("__debug__":Str))=false:=by decide) (he:starEach (e::es) X.env=(false,eval e X.env)::starEach es X.env:=by rfl) (hpl:(backTo pos (starEach es X.env)).any (·.1)=false:=by rfl):QE X (.Call (.Name x p) (e::es) [] pos) (oY sp [] E0 t):=⟨by
 have ha:=ha.h;obtain⟨f,fd,F,m,b,G⟩:=D.ex;exact qu G hr hg m F.kp b .nil EH ha hdb he hpl⟩
end
section
variable {X:Cx}
theorem uV {a:Addr} {k:Nat} {x:Str} {st:Stmt} {ps:List Str} {sp:Addr->Sp} {e:Expr} {es:List Expr} {t:TA} {p pos:Pos} (D:Ar X.prog X.w X.K X.mg X.base k x st ps sp) (hr:kz a k X.A) (hg:Gl X x) (ha:QA X (e::es) t) (hdb:(x==("__debug__":Str))=false:=by decide) (he:starEach (e::es) X.env=(false,eval e X.env)::starEach es X.env:=by rfl) (hpl:(backTo pos (starEach es X.env)).any (·.1)=false:=by rfl):QE X (.Call (.Name x p) (e::es) [] pos) (oY (sp a) [] E0 t):=⟨by
 have ha:=ha.h;obtain⟨f,fd,F,m,b,G⟩:=D.ex;exact ym (G a) hr hg m F.kp b ha hdb he hpl⟩
end
open AutoSeq1 (wpAny_loadPart')
section
variable {prog:Program} {w:World} {A:Around} {E:Value->Shared->Prop} {s:Shared}
theorem ud{it t:Addr}{i:Nat}{items}{x:Value}{Q:Value->Shared->Prop}(hit:s.heap.IsTupleIter it t i)(ht:s.heap.IsTuple t items)(hx:items[i]? = some x)
  (hQ:∀h',h'.IsTupleIter it t (i+1)->Heap.SameBut it s.heap h'->Q x { s with heap:=h' }):wpAny (model prog w) A (Builtin.SmallTypes.nextOf (.ref it)) Q E s:=by
 obtain⟨o,ho,hc,hd⟩:=id hit;obtain⟨ol,hol,_,nl,hdl⟩:=ht;unfold Builtin.SmallTypes.nextOf;refine wpAny_bind (wpAny_callSpecial?_slot (name:=Str.ofString "__next__") hit.typeIs dN (MA dN hit.typeIs iU ?_ (iI _)));show wpAny _ _ (field (.ref it) 0>>=_) _ _ s;refine wpAny_bind (MI ho hd (x:=.ref t) rfl ?_);show wpAny _ _ (if (Value.ref t==Value.none)=true then _ else _) _ _ s;rw[MN (show ¬((Value.ref t==Value.none)=true) from aY)];show wpAny _ _ (field (.ref it) 1>>=_) _ _ s;refine wpAny_bind (MI ho hd (x:=.int i 0) rfl ?_);show wpAny _ _ (seqItems? (.ref t)>>=_) _ _ s;refine wpAny_bind (MJ hol hdl ?_);simp only[eg,hx];refine wpAny_bind (MK ho hd (by simp) (Lq ⟨x,rfl,Lq (hQ _ ?_ (iP ..))⟩));exact⟨_,ee _ ho (Obj.isFreed_of_fields (Obj.data_mapFields hd _)),(Obj.cls_mapFields ..).trans hc,by rw[Obj.data_mapFields hd];simp[rawInt]⟩
theorem wk{it t:Addr}{i:Nat}{items}{Q:Value->Shared->Prop}(hh:A.handled=none)(hit:s.heap.IsTupleIter it t i)(ht:s.heap.IsTuple t items)(hx:items[i]? = none)
  (hE:∀h' e,Heap.ExtBut it s.heap h'->(∃o,h'.get? e=some o/\o.cls=.type "StopIteration")->E (.ref e) { s with heap:=h' }):wpAny (model prog w) A (Builtin.SmallTypes.nextOf (.ref it)) Q E s:=by
 obtain⟨o,ho,hc,hd⟩:=id hit;obtain⟨ol,hol,_,nl,hdl⟩:=ht;unfold Builtin.SmallTypes.nextOf;refine wpAny_bind (wpAny_callSpecial?_slot (name:=Str.ofString "__next__") hit.typeIs dN (MA dN hit.typeIs iU ?_ (iI _)));show wpAny _ _ (field (.ref it) 0>>=_) _ _ s;refine wpAny_bind (MI ho hd (x:=.ref t) rfl ?_);show wpAny _ _ (if (Value.ref t==Value.none)=true then _ else _) _ _ s;rw[MN (show ¬((Value.ref t==Value.none)=true) from aY)];show wpAny _ _ (field (.ref it) 1>>=_) _ _ s;refine wpAny_bind (MI ho hd (x:=.int i 0) rfl ?_);show wpAny _ _ (seqItems? (.ref t)>>=_) _ _ s;refine wpAny_bind (MJ hol hdl ?_);simp only[eg,hx];refine wpAny_bind (wpAny_rule (wpAny_bind (MK ho hd (by simp) ?_)));show wpAny _ _ (newExc (.type "StopIteration") []>>=_) _ _ _;refine wpAny_bind ?_;simp only[newExc,newTuple];refine wpAny_bind (Lx ?_ (by size_fits));refine wpAny_bind (m:=firstArgMember _ _) (wpAny_of_eq (a:=Value.none) (by first | rfl | (simp only[firstArgMember];rfl)) ?_);refine Lx ?_ (by size_fits);simp only[raiseNew];refine wpAny_bind (wpAny_handled ?_);first | rw[show A.in1.handled=none from hh] | rw[hh]
 refine wpAny_bind (Lq (wpAny_throw ?_));exact hE _ _ (((iP ..).extBut.push _).push _) ⟨_,aP _ rfl,rfl⟩
theorem Draws.tup(hh:A.handled=none)(it t:Addr)(hne:t≠it)(items:Array Value):Draws prog w A it [it,t] items.size (λi v=>items[i]? = some v) (λi h=>h.IsTupleIter it t i/\h.IsTuple t items) where
 live:=λ_ _ st=>let ⟨o,ho,_⟩:=st.1;⟨o,ho⟩
 frame:=λ_ _ _ st hk=>by
  obtain⟨st1,o,ho,r⟩:=st;exact⟨st1.at λo e=>hk it (by simp) o e,o,hk t (by simp) o ho,r⟩
 item:=λi s Q E hi st hQ=>ud st.1 st.2 (x:=items[i]) (by simp[hi]) λh' hit' hs'=>hQ _ h' s.toks (by simp[hi]) ⟨hit',st.2.extBut hs'.extBut hne⟩ hs'
 done:=λs Q E st hE=>wk hh st.1 st.2 (by simp) hE
end
section
variable {X:Cx} {pins:List (Addr×Obj)} {σ:St} {H:Hp} {s:Shared} {h':Heap}
theorem bE.turnAll{fp:List Addr}{t':Nat}(I:bE X pins σ H s)(hf:∀b∈fp,iT X pins H b)(k:∀b u,b∉fp->s.heap.get? b=some u->h'.get? b=some u):bE X pins σ H { s with heap:=h',toks:=t' }:=by
 have nfp:∀b u,H b=some u->b∉fp:=λb u e z=>by rw[(hf b z).1] at e;cases e
 refine I.step (g':=s.gens) (d':=s.drawn) (ch:=fp) (λb hb=>?_) (λb o _ _ hc e _=>k b o hc e) (λb o _ _ hc e _=>⟨o.slots,k b o hc e⟩) (λ_ _ _ _ n=>n)
  (λb o hc e=>⟨o,k b o hc e⟩) (λ_ _ e=>e) (λ_ _ _ e=>e) (λb ps e=>⟨#[],by rw[e];simp⟩) (λm hm=>?_) (λb u e=>?_) I.bare
 ·obtain⟨_,f1,_,f3,f4,f5⟩:=hf b hb;exact⟨f3,f1,f4,f5⟩
 ·obtain⟨ob,es,ep,ho,r⟩:=hm;exact⟨ob,es,ep,k _ ob (λz=>(hf _ z).2.1 rfl) ho,r⟩
 ·refine(I.hok b u e).stay (λc v hc q=>k c v ?_ q) (λ_ q=>q) λ_ _ q=>q;rcases hc with z | z
  ·rw[z];exact nfp b u e
  ·exact nfp c _ z
end
def Ea(K:MU)(a:Addr):It:=
 ⟨λi H=>∃xs x,cg K H a xs/\xs[i]? = some x,λi H v H'=>∃p x,H p=none/\(∀xs,cg K H a xs->xs[i]? = some x)/\v=.ref p/\H'=bU H p (.tup [.int i,x]),λi H=>∃xs,cg K H a xs/\xs.length=i⟩
def Cv(K:MU)(ta:TA):TI:=λσ H R=>ta σ H λvs H1=>∃a,vs=[.ref a]/\(∃xs,cg K H1 a xs)/\R (Ea K a) H1
def FQ(K:MU)(a b:Addr):It:=
  ⟨λi H=>∃xs ys x y,bp K H a xs/\bp K H b ys/\xs[i]? = some x/\ys[i]? = some y,
   λi H v H'=>∃p x y,H p=none/\(∀xs,bp K H a xs->xs[i]? = some x)/\(∀ys,bp K H b ys->ys[i]? = some y)/\v=.ref p/\H'=bU H p (.tup [x,y]),
   λi H=>∃xs ys,bp K H a xs/\bp K H b ys/\(xs.length<=i\/ys.length<=i)⟩
def EQ(K:MU)(ta:TA):TI:=λσ H R=>ta σ H λvs H1=>∃a b,vs=[.ref a,.ref b]/\(∃xs,bp K H1 a xs)/\(∃ys,bp K H1 b ys)/\R (FQ K a b) H1
end L2
namespace L2
open PySem PySem.Spec PyProof.Rows HT
section
variable {σ:St} {H:Hp} {D:Ends} {K:MU}
theorem vI{ta:TA}{g:TG}{tb:TS}:oX (Cv K ta) g tb D σ H=ta σ H λvs H1=>∃a,vs=[.ref a]/\(∃xs,cg K H1 a xs)/\nO (Ea K a) g tb D σ H1:=rfl
theorem vK{k:Nat}{caps:List Nat}{ta:TA}{g:TG}{tf:TT}{te:TE}{Q:VK}:mF k caps (EQ K ta) g tf te σ H Q=ta σ H λvs H1=>∃a b,vs=[.ref a,.ref b]/\(∃xs,bp K H1 a xs)/\(∃ys,bp K H1 b ys)/\gQ (FQ K a b) g tf te Q (fu k caps σ) H1:=rfl
end
end L2
namespace Rm
open PySem L2 PyProof.Rows
def FE(ns:List Int):Int:=ns.foldl max 0
def EN(ns:List Int)(k:Nat):Bool:=decide (FE (ns.take k)=k)
def EX(ns:List Int)(m:Nat):List Nat:=((List.range m).filter λi=>EN ns (i+1)).map (·+1)
def Fg(ns:List Int)(s c:Nat):List Int:=((ns.take c).drop s).map (· - (s:Int))
theorem di{α β:Type}{R T:α->β->Prop}(f:∀a b,R a b->T a b):∀{xs:List α} {ys:List β},Paired R xs ys->Paired T xs ys
 | _,_,.nil=>.nil
 | _,_,.cons r t=>.cons (f _ _ r) (di f t)
theorem ox{α β:Type}{R:α->β->Prop}:∀{xs:List α} {ys:List β},Paired R xs ys->xs.length=ys.length
 | _,_,.nil=>rfl
 | _,_,.cons _ t=>congrArg (·+1) (ox t)
theorem fe{α β:Type}{R:α->β->Prop}:∀{xs:List α} {ys:List β},Paired R xs ys->∀{i:Nat} {x:α},xs[i]? = some x->∃y,ys[i]? = some y/\R x y
 | _,_,.nil,i,x,h=>by simp at h
 | _,_,.cons r t,0,x,h=>by simp at h;subst h;exact⟨_,rfl,r⟩
 | _,_,.cons r t,i+1,x,h=>fe t (by simpa using h)
def v5(K:MU):Sp:=λvs H Q _=>∃(a:Addr) (ns:List Int) (k:Nat),vs=[.ref a,.int k]/\bp K H a (ns.map V.int)/\∀v:Int,Q (.int v) H
def y1:Sp:=λvs H Q _=>∃(c:Int) (n:Nat),vs=[.int c,.int n]/\n<=60/\∀(l:Addr) (ds:List Int) (H':Hp),H l=none->aX H H'->H' l=some (.lst (ds.map V.int))->ds.length=n->Q (.ref l) H'
end Rm
namespace L2
open PySem PySem.Spec PyProof.Rows
theorem yn{P:Program}{w:World}{K:MU}{mg:Str->Option Value}{base:Heap}{N:List Str}{qual:Str}{scope:Scope}{f:Addr}{cd:Value}{A:Around}{outer:List Env}{s0:Shared}{H0:Hp}{E:XK}:
  pV (ny P w) (ij (ny P w) P w K mg base N qual scope f cd A outer s0 H0 E) E:=by
 intro pins σ H s e s' I hc;generalize hX:ij (ny P w) P w K mg base N qual scope f cd A outer s0 H0 E=X at I hc ⊢;have hst:X.stack=X.env::X.outer:=by rw[<-hX];rfl
 have hfr:X.env.frame=some X.env.locals:=by rw[<-hX];rfl
 have hxe:X.xe=λe s'=>wpAny (model X.prog X.w) X.A (leaving X.env e) (λ_ s''=>ny X.prog X.w X.outer X.H₀ X.s₀ E e s'') (λe' s''=>ny X.prog X.w X.outer X.H₀ X.s₀ E e' s'') s':=by rw[<-hX];rfl
 have hex:X.ex=[]:=by rw[<-hX];rfl
 have hP:X.prog=P:=by rw[<-hX];rfl
 have hw:X.w=w:=by rw[<-hX];rfl
 have hfs:jw X.stack=X.env.locals::X.fs:=by rw[hst];unfold jw;rw[cS,hfr];rfl
 clear hX;subst hP hw;rw[hxe];obtain⟨a,C,t,H',B,dO,rfl,os,bare,un,hok,f1,cov,ct,hE⟩:=hc;refine gU (dJ.leave (e:=a)) ct ?_;refine wpAny_leaves_onW (base:=B) (outer:=X.outer) (L:=X.env.locals) (by rw[I.ok.frames,hst]) hfr (hst▸f1) λh2 f4 up ct2=>?_;have lt0:∀b o,X.s₀.heap.get? b=some o->b≠X.env.locals:=λb o e1=>ac (aO (aM e1) I.ok.above);have out:∀b o,X.s₀.heap.get? b=some o->b∉X.fs->b∉jw X.stack:=λb o e1 e2 z=>by
  rw[hfs] at z;exact(aZ.mp z).elim (lt0 b o e1) e2
 have mem:∀b,b∈X.fs->b∈jw X.stack:=λb m=>by rw[hfs];exact ak _ m
 have same:∀b o ob,B.get? b=some ob->s'.heap.get? b=some o->h2.get? b=some o:=λb o ob e e1=>by
  have e2:=f1.1 b ob e;rw[e1] at e2;cases e2;exact f4.1 b o e
 have fr:∀b o,s'.heap.get? b=some o->b∈jw X.stack->∃sl,h2.get? b=some { o with slots:=sl }:=λb o e m=>by
  obtain⟨_,o1,e1,nf⟩:=f1.2.2.1.mem m;rw[e] at e1;cases e1;exact up b o e nf
 have u:=I.base;rw[hex] at u;refine⟨a,C,t,H',B,dO,rfl,os.trans I.os,bare,⟨λb o e1 e2 e3 e4=>?_,λb o e1 e2 e3 e4=>?_,λb o e1 e2 e4=>?_,λb o e1 e2=>?_,λb xs e1=>?_,λb o v e1=>?_,λb ps e1=>?_⟩,λb o e1=>?_,f4,⟨λb o e1 e2=>?_,cov.trk⟩,ct2,hE⟩
 ·have k1:=u.keep b o e1 e2 e3 e4;have n1:=out b o e1 e3;have k2:=un.keep b o k1 (u.free b o e1 e2 e4) n1 (by simp);obtain⟨ob,q⟩:=cov.old b o k1 n1;exact same b o ob q k2
 ·obtain⟨sl,q⟩:=u.slot b o e1 e2 e3 e4;obtain⟨sl1,q1⟩:=un.slot b _ q (u.free b o e1 e2 e4) (mem b e3) (by simp);obtain⟨sl2,q2⟩:=fr b _ q1 (mem b e3);exact⟨sl2,q2⟩
 ·obtain⟨o',q⟩:=u.there b o e1 e4;exact un.free b o' q (u.free b o e1 e2 e4) (by simp)
 ·obtain⟨o',q⟩:=u.there b o e1 e2;obtain⟨o2,q2⟩:=un.there b o' q (by simp);by_cases m:b∈jw X.stack
  ·obtain⟨sl,q'⟩:=fr b o2 q2 m;exact⟨_,q'⟩
  ·obtain⟨ob,q'⟩:=cov.old b o' q m;exact⟨_,f4.1 b ob q'⟩
 ·exact un.tups b xs (u.tups b xs e1)
 ·exact un.frzs b o v (u.frzs b o v e1)
 ·obtain⟨m1,q1⟩:=u.tbls b ps e1;obtain⟨m2,q2⟩:=un.tbls b _ q1;exact⟨m1++m2,by rw[q2,Array.append_assoc]⟩
 ·refine(hok b o e1).stay (λc v hc q=>?_) (λ_ q=>q) λ_ _ q=>q;obtain⟨ob,q'⟩:∃ob,B.get? c=some ob:=by
   rcases hc with r | r
   ·rw[r];exact cov.trk b o e1
   ·exact cov.trk c _ r
  exact same c v ob q' q
 ·obtain⟨o',q⟩:=u.there b o e1 (by simp);exact cov.old b o' q (out b o e1 e2)
section
variable {P:Program} {w:World} {K:MU} {mg:Str->Option Value} {base:Heap} {N:List Str} {qual:Str} {scope:Scope} {f:Addr} {cd:Value} {A:Around} {outer:List Env} {s0:Shared} {H0:Hp} {E:XK}
theorem om{k:Nat}{x:Str}{st:Stmt}{ps:List Str}{sp:Sp}{e:Expr}{es:List Expr}{t:TA}{p pos:Pos}(D:lV P w K mg base k x st ps sp)(hr:gS k (ij (ny P w) P w K mg base N qual scope f cd A outer s0 H0 E).A)(hg:Gl (ij (ny P w) P w K mg base N qual scope f cd A outer s0 H0 E) x)
  (ha:QA (ij (ny P w) P w K mg base N qual scope f cd A outer s0 H0 E) (e::es) t) (hdb:(x==("__debug__":Str))=false:=by decide)
  (he:starEach (e::es) (ij (ny P w) P w K mg base N qual scope f cd A outer s0 H0 E).env=(false,eval e (ij (ny P w) P w K mg base N qual scope f cd A outer s0 H0 E).env)::starEach es (ij (ny P w) P w K mg base N qual scope f cd A outer s0 H0 E).env:=by rfl)
  (hpl:(backTo pos (starEach es (ij (ny P w) P w K mg base N qual scope f cd A outer s0 H0 E).env)).any (·.1)=false:=by rfl) :
  QE (ij (ny P w) P w K mg base N qual scope f cd A outer s0 H0 E) (.Call (.Name x p) (e::es) [] pos) (oY sp [] E t):=by
 obtain⟨g,fd,F,m,b,G⟩:=D.ex;exact⟨qu (X:=ij (ny P w) P w K mg base N qual scope f cd A outer s0 H0 E) G hr hg m F.kp b .nil yn ha.h hdb he hpl⟩
end
end L2
namespace L2
open PySem
theorem zr{td ty tx:TE}{σ:St}{H:Hp}{Q:VK}:CN td ty tx σ H Q=td σ H λx H1=>∃a,x=.ref a/\F9 H1 a/\ty σ H1 λy H2=>tx σ H2 λz H3=>∃o,fW H3 a y o/\Q (o.getD z) H3:=rfl
end L2
namespace Rm
open PySem L2 PyProof.Rows
abbrev xS:=List (Key×V)
def FR(kvs:xS)(n:Nat)(L:Nat->Nat):Prop:=∀x:Nat,x<n->cW kvs (.inl (x:Int))=some (.int (L x:Nat))
def AY:PyData->Nat
 | .str z=>z.length
 | _=>0
def jj(d e:PyData):Bool:=jK d&&(jK e&&decide (AY d=AY e))
def rY(bs:List Bool):PyData:=.str (wd bs)
theorem mj{bs:List Bool}(h:bs.length<=40):fv (rY bs):=⟨i5 bs,by rw[bK];lia⟩
theorem xX{bs:List Bool}(b:kd bs)(h:bs.length<=40):jK (rY bs)=true:=zH b h
theorem CB{bs cs:List Bool}(b:kd bs)(c:kd cs)(h:bs.length<=40)(e:cs.length=bs.length):jj (rY bs) (rY cs)=true:=by
 unfold jj;rw[xX b h,xX c (by lia)];show (true&&(true&&decide ((wd bs).length=(wd cs).length)))=true;rw[bK,bK,e];simp
def yU(C:Addr):Sp:=λvs H Q E=>∃x y d e,vs=[x,y]/\Dat H x d/\fv d/\Dat H y e/\fv e/\((jj d e=true/\Q (.bl true) H)\/(jj d e=false/\E (.ref C) none H))
def gV:Sp:=λvs H Q _=>∃bs,vs=[.str (wd bs)]/\kd bs/\bs.length<=40/\∀d kvs H',H d=none->aX H H'->H' d=some (.dK kvs)->FR kvs bs.length (mtF bs)->Q (.ref d) H'
theorem nV{n:Nat}{l:List Nat}(h:l.Nodup)(k:∀x∈l,x<n):l.length<=n:=by
 refine gb λhlt=>?_;have:=(fB h (m:=List.range n) (λx hx=>aU.mpr (k x hx)) (by simp;lia)).length_eq;simp at this;lia
def cM(L R:Nat->Nat)(e:Nat):Nat->Nat
 | 0=>e
 | i+1=>R (L (cM L R e i))
def kR(L R:Nat->Nat)(e:Nat):Nat->List Nat
 | 0=>[]
 | i+1=>kR L R e i++[cM L R e i]++[L (cM L R e i)]
theorem hZ{L R:Nat->Nat}{e x:Nat}:∀{i:Nat},x∈kR L R e i<->∃j,j<i/\(x=cM L R e j\/x=L (cM L R e j))
 | 0=>by simp[kR]
 | i+1=>by
  rw[kR,aT,aT,hZ,ar,ar];constructor
  ·rintro ((⟨j,hj,h⟩ | h) | h)
   ·exact⟨j,by lia,h⟩
   ·exact⟨i,by lia,.inl h⟩
   ·exact⟨i,by lia,.inr h⟩
  ·rintro⟨j,hj,h⟩;by_cases e:j=i
   ·subst e;exact h.elim (λh=>.inl (.inr h)) .inr
   ·exact .inl (.inl ⟨j,by lia,h⟩)
theorem qr{L R:Nat->Nat}{e:Nat}:∀i,(kR L R e i).length=2*i
 | 0=>rfl
 | i+1=>by rw[kR,ao,ao,qr i];simp;lia
theorem kq{n:Nat}{L R:Nat->Nat}{e:Nat}(PL:iz n L)(PR:iz n R)(h:e<n):∀i,cM L R e i<n
 | 0=>h
 | i+1=>PR.lt _ (PL.lt _ (kq PL PR h i))
def Inj(L R:Nat->Nat)(e i:Nat):Prop:=∀j k,j<i->k<i->cM L R e j=cM L R e k->j=k
theorem Inj.next{n:Nat}{L R:Nat->Nat}{e i:Nat}(PL:iz n L)(PR:iz n R)(h:e<n)(J:Inj L R e i)(hc:i=0\/cM L R e i≠e):Inj L R e (i+1):=by
 have back:∀j,0<j->j<i->cM L R e i=cM L R e j->False:=λj h0 hj q=>by
  obtain⟨j',rfl⟩:∃j',j=j'+1:=⟨j - 1,by lia⟩
  obtain⟨i',rfl⟩:∃i',i=i'+1:=⟨i - 1,by lia⟩
  have l1:=kq (R:=R) PL PR h i';have l2:=kq (R:=R) PL PR h j';have q':R (L (cM L R e i'))=R (L (cM L R e j')):=q;have q2:=congrArg R q';rw[PR.inv _ (PL.lt _ l1),PR.inv _ (PL.lt _ l2)] at q2;have q3:=congrArg L q2;rw[PL.inv _ l1,PL.inv _ l2] at q3;have:=J i' j' (by lia) (by lia) q3;lia
 have top:∀j,j<i->cM L R e i=cM L R e j->False:=λj hj q=>by
  by_cases z:j=0
  ·subst z;rcases hc with c | c
   ·lia
   ·exact c q
  ·exact back j (by lia) hj q
 intro j k hj hk q;by_cases ej:j=i<;>by_cases ek:k=i
 ·lia
 ·subst ej;exact(top k (by lia) q).elim
 ·subst ek;exact(top j (by lia) q.symm).elim
 ·exact J j k (by lia) (by lia) q
theorem Inj.le{n:Nat}{L R:Nat->Nat}{e i:Nat}(PL:iz n L)(PR:iz n R)(h:e<n)(J:Inj L R e i):i<=n:=by
 have nd:((List.range i).map (cM L R e)).Nodup:=by
  rw[List.Nodup,b6];refine(dU.mp (cY (n:=i))).imp fun {a b} hab q=>?_;exact hab.2.2 (J a b (aU.mp hab.1) (aU.mp hab.2.1) q)
 have:=nV nd λx hx=>by
  obtain⟨j,_,rfl⟩:=af.mp hx;exact kq PL PR h j
 simpa using this
structure E4 (n:Nat) (L R:Nat->Nat) (e:Nat) (r:List Nat):Prop where
 head:e∈r
 inn:∀ x∈r,x<n/\L x∈r/\R x∈r
 one:∀ f:Nat->Int,(∀ x,x<n->f (L x)=f x/\f (R x)=f x)->∀ x∈r,f x=f e
 len:r.length<=80
 per:∃ i,r=kR L R e i/\0<i/\Inj L R e i/\cM L R e i=e
theorem uT{n:Nat}{L R:Nat->Nat}{e i:Nat}(PL:iz n L)(PR:iz n R)(h:e<n)(J:Inj L R e i)(n40:n<=40)(h0:0<i)(hc:cM L R e i=e):E4 n L R e (kR L R e i):=by
 have lt:=λj=>kq (R:=R) PL PR h j;refine⟨hZ.mpr ⟨0,h0,.inl rfl⟩,λx hx=>?_,λf hf x hx=>?_,by rw[qr];have:=J.le PL PR h;lia,i,rfl,h0,J,hc⟩
 ·obtain⟨j,hj,e1⟩:=hZ.mp hx;have nxt:R (L (cM L R e j))∈kR L R e i:=by
   by_cases c:j+1<i
   ·exact hZ.mpr ⟨j+1,c,.inl rfl⟩
   ·have:j+1=i:=by lia
    have q:cM L R e (j+1)=e:=by rw[this];exact hc
    exact hZ.mpr ⟨0,h0,.inl q⟩
  rcases e1 with rfl | rfl
  ·refine⟨lt j,hZ.mpr ⟨j,hj,.inr rfl⟩,?_⟩;by_cases z:j=0
   ·subst z;obtain⟨i',rfl⟩:∃i',i=i'+1:=⟨i - 1,by lia⟩
    have q:R (L (cM L R e i'))=e:=hc;refine hZ.mpr ⟨i',by lia,.inr ?_⟩;show R e=_;have q2:=congrArg R q;rw[PR.inv _ (PL.lt _ (lt i'))] at q2;exact q2.symm
   ·obtain⟨j',rfl⟩:∃j',j=j'+1:=⟨j - 1,by lia⟩
    refine hZ.mpr ⟨j',by lia,.inr ?_⟩;show R (R (L (cM L R e j')))=_;rw[PR.inv _ (PL.lt _ (lt j'))]
  ·refine⟨PL.lt _ (lt j),hZ.mpr ⟨j,hj,.inl (PL.inv _ (lt j))⟩,nxt⟩
 ·have base:∀j,f (cM L R e j)=f e:=by
   intro j
   induction j with
   | zero=>rfl
   | succ j ih=>
    show f (R (L (cM L R e j)))=f e;rw[(hf _ (PL.lt _ (lt j))).2,(hf _ (lt j)).1,ih]
  obtain⟨j,hj,rfl | rfl⟩:=hZ.mp hx
  ·exact base j
  ·rw[(hf _ (lt j)).1];exact base j
def eY(r:List Nat):List V:=r.map λx:Nat=>V.int x
def vW:Sp:=λvs H Q _=>∃(e:Nat) (d1 d2:Addr) (k1 k2:xS) (n:Nat) (L R:Nat->Nat),vs=[.int e,.ref d1,.ref d2]/\H d1=some (.dK k1)/\H d2=some (.dK k2)/\FR k1 n L/\FR k2 n R/\iz n L/\iz n R/\n<=40/\e<n ∧
 ∀l r H',H l=none->aX H H'->H' l=some (.lst (eY r))->E4 n L R e r->Q (.ref l) H'
structure ux (n:Nat) (L R:Nat->Nat) (i:Nat) (rs:List (List Nat)) (met:Nat->Prop):Prop where
 rn:z8 n L R rs
 mt:∀ x,met x<->∃ r∈rs,x∈r
 upto:∀ x,x<i->met x
 len:rs.length<=i
theorem ux.start{n:Nat}{L R:Nat->Nat}:ux n L R 0 [] (λ_=>False):=⟨⟨(λr h=>nomatch h),(λf _ r h=>nomatch h),.nil,(λr h=>nomatch h)⟩,λx=>by simp,λx h=>by lia,aH _⟩
theorem ux.skip{n:Nat}{L R:Nat->Nat}{i:Nat}{rs:List (List Nat)}{met:Nat->Prop}(h:ux n L R i rs met)(hm:met i):ux n L R (i+1) rs met:=
 ⟨h.rn,h.mt,λx hx=>by
  by_cases e:x=i
  ·rw[e];exact hm
  ·exact h.upto x (by lia),by have:=h.len;lia⟩
theorem ux.add{n:Nat}{L R:Nat->Nat}{i:Nat}{rs:List (List Nat)}{met:Nat->Prop}{r:List Nat}(h:ux n L R i rs met)(PL:iz n L)(PR:iz n R)(hm:¬met i)(X:E4 n L R i r):ux n L R (i+1) (rs++[r]) (λx=>met x\/x∈r):=by
 have ap:∀s∈rs,∀x∈s,x∉r:=λs hs x hx hr=>by
  have open_:∀y,y<n->(y∈s<->L y∈s)/\(y∈s<->R y∈s):=λy hy=>by
   refine⟨⟨λz=>(h.rn.inn s hs y z).2.1,λz=>?_⟩,⟨λz=>(h.rn.inn s hs y z).2.2,λz=>?_⟩⟩
   ·have:=(h.rn.inn s hs _ z).2.1;rwa [PL.inv y hy] at this
   ·have:=(h.rn.inn s hs _ z).2.2;rwa [PR.inv y hy] at this
  have q:=X.one (λy=>if y∈s then 1 else 0) (λy hy=>by
   obtain⟨a,b⟩:=open_ y hy;constructor
   ·by_cases c:y∈s
    ·simp[c,a.mp c]
    ·have:L y∉s:=λz=>c (a.mpr z);simp[c,this]
   ·by_cases c:y∈s
    ·simp[c,b.mp c]
    ·have:R y∉s:=λz=>c (b.mpr z);simp[c,this]) x hr
  have:i∈s:=by
   by_cases c:i∈s
   ·exact c
   ·simp[hx,c] at q
  exact hm ((h.mt i).mpr ⟨s,hs,this⟩)
 refine⟨⟨λs hs=>?_,λf hf s hs x hx y hy=>?_,?_,λs hs=>?_⟩,λx=>?_,λx hx=>?_,by rw[ao];have:=h.len;simp;lia⟩
 ·rcases aT.mp hs with hs | hs
  ·exact h.rn.inn s hs
  ·rw[ar] at hs;subst hs;exact X.inn
 ·rcases aT.mp hs with hs | hs
  ·exact h.rn.one f hf s hs x hx y hy
  ·rw[ar] at hs;subst hs;rw[X.one f hf x hx,X.one f hf y hy]
 ·rw[hV];refine⟨h.rn.apart,List.pairwise_singleton _ _,λs hs t ht=>?_⟩;rw[ar] at ht;subst ht;exact ap s hs
 ·rcases aT.mp hs with hs | hs
  ·exact h.rn.ne s hs
  ·rw[ar] at hs;subst hs;intro e;have:=X.head;rw[e] at this;cases this
 ·constructor
  ·rintro (z | z)
   ·obtain⟨s,hs,hx⟩:=(h.mt x).mp z;exact⟨s,ax _ hs,hx⟩
   ·exact⟨r,by simp,z⟩
  ·rintro⟨s,hs,hx⟩;rcases aT.mp hs with hs | hs
   ·exact .inl ((h.mt x).mpr ⟨s,hs,hx⟩)
   ·rw[ar] at hs;subst hs;exact .inr hx
 ·by_cases e:x=i
  ·rw[e];exact .inr X.head
  ·exact .inl (h.upto x (by lia))
structure jX (bs cs:List Bool):Prop where
 bal:kd bs
 balR:kd cs
 len:bs.length<=40
 eq:cs.length=bs.length
def vV:Sp:=λvs H Q _=>∃(c:Int) (m:Nat),vs=[.int c,.int ((2*m:Nat):Int)]/\m<=20/\∀bs H',kd bs->bs.length=2*m->aX H H'->Q (.str (wd bs)) H'
end Rm
namespace L2
open PySem PySem.Spec PyProof.Rows
def Ex:V->Option Int->Option Int->Hp->VK->Prop:=λx lo hi H Q=>∃z,x=.str z/\z.length<=sizeLine/\Q (.str (Txt.slice z lo hi)) H
section
theorem D0{z:Str}{lo hi:Option Int}{H:Hp}{Q:VK}:Ex (.str z) lo hi H Q=(z.length<=sizeLine/\Q (.str (Txt.slice z lo hi)) H):=
 propext ⟨λ⟨_,e,h⟩=>by cases e;exact h,λh=>⟨z,rfl,h⟩⟩
end
end L2
namespace Rm
open PySem L2
def wo(H:Hp)(m:Addr):Hp:=λb=>if b=m then none else H b
theorem zk(H:Hp)(m:Addr):aX (wo H m) H:=λb o e=>by
 unfold wo at e;by_cases h:b=m
 ·rw[MO h] at e;cases e
 ·rw[MN h] at e;exact e
theorem Bd{H:Hp}{m t:Addr}{o:HO}(h:H t=none):aX (wo H m) (wo (bU H t o) m):=λb u e=>by
 have e':=zk H m b u e;unfold wo at e ⊢;by_cases hb:b=m
 ·rw[MO hb] at e;cases e
 ·rw[MN hb,aK (av e' h)];exact e'
theorem DV{H:Hp}{m t:Addr}{u:HO}(h:t≠m)(e:H t=some u):wo H m t=some u:=by unfold wo;rw[MN h];exact e
structure View where
 φ:Hp->Hp
 ok:Hp->Prop
 new:∀ {H t o},ok H->H t=none->ok (bU H t o)/\aX (φ H) (φ (bU H t o))/\φ (bU H t o) t=some o
def View.all:View:=⟨id,λ_=>True,λ_ h=>⟨trivial,(aX.refl _).new h,aC⟩⟩
def View.but(m:Addr):View:=⟨λH=>wo H m,λH=>∃o,H m=some o,fun {H t o} ⟨u,hu⟩ h=>⟨⟨u,by rw[aK (av hu h)];exact hu⟩,Bd h,DV (av hu h).symm aC⟩⟩
structure DE (w:View) (σ:St) (H0:Hp) (te:TE) (d:PyData):Prop where
 run:∀ (H:Hp) (Q:VK),w.ok H->aX H0 H->aX (w.φ H0) (w.φ H)->(∀ x H',w.ok H'->aX H H'->aX (w.φ H) (w.φ H')->Dat (w.φ H') x d->Q x H')->te σ H Q
structure DA (w:View) (σ:St) (H0:Hp) (ta:TA) (ds:List PyData):Prop where
 run:∀ (H:Hp) (Q:List V->Hp->Prop),w.ok H->aX H0 H->aX (w.φ H0) (w.φ H)->(∀ xs H',w.ok H'->aX H H'->aX (w.φ H) (w.φ H')->fh (w.φ H') xs ds->Q xs H')->ta σ H Q
section
variable {w:View} {σ:St} {H0:Hp}
theorem DE.int(n:Int):DE w σ H0 (tC (.int n)) (.int n):=⟨λH Q o _ _ q=>q _ H o (aX.refl _) (aX.refl _) (.int n)⟩
theorem DE.str(z:Str):DE w σ H0 (tC (.str z)) (.str z):=⟨λH Q o _ _ q=>q _ H o (aX.refl _) (aX.refl _) (.str z)⟩
theorem DE.non:DE w σ H0 (tC .non) .none:=⟨λH Q o _ _ q=>q _ H o (aX.refl _) (aX.refl _) .non⟩
theorem DA.nil:DA w σ H0 CK []:=⟨λH Q o _ _ q=>q _ H o (aX.refl _) (aX.refl _) .nil⟩
theorem DA.cons{te:TE}{ta:TA}{d:PyData}{ds:List PyData}(h:DE w σ H0 te d)(t:DA w σ H0 ta ds):DA w σ H0 (jE te ta) (d::ds):=⟨λH Q o s s' q=>
 h.run H _ o s s' λx H1 o1 u1 v1 d1=>t.run H1 _ o1 (s.trans u1) (s'.trans v1) λxs H2 o2 u2 v2 d2=>q _ H2 o2 (u1.trans u2) (v1.trans v2) (.cons (d1.same v2) d2)⟩
theorem DE.tup{ta:TA}{ds:List PyData}(h:DA w σ H0 ta ds)(hl:ds.length<=1000):DE w σ H0 (CI ta) (.tuple ds):=⟨λH Q o s s' q=>
 h.run H _ o s s' λxs H1 o1 u1 v1 d1=>⟨aS (ai (by rw[d1.len];exact hl)),λp np=>by
  obtain⟨a,b,c⟩:=w.new (o:=.tup xs) o1 np;exact q _ _ a (u1.new (u1.free np)) (v1.trans b) (.tup c (d1.same b))⟩⟩
theorem DE.lst{ta:TA}{ds:List PyData}(h:DA w σ H0 ta ds)(hl:ds.length<=1000):DE w σ H0 (yN ta) (.list ds):=⟨λH Q o s s' q=>
 h.run H _ o s s' λxs H1 o1 u1 v1 d1=>⟨aS (ai (by rw[d1.len];exact hl)),λp np=>by
  obtain⟨a,b,c⟩:=w.new (o:=.lst xs) o1 np;exact q _ _ a (u1.new (u1.free np)) (v1.trans b) (.lst c (d1.same b))⟩⟩
end
theorem Ab{H:Hp}{xs:List V}{ds:List PyData}{i:Int}(h:fh H xs ds)(h0:0<=i)(h1:i<ds.length):∃v d,xM xs i=some v/\d∈ds/\Dat H v d:=by
 have hi:i.toNat<xs.length:=by rw[h.len];lia
 obtain⟨d,hd,hv⟩:=h.get (aL hi);refine⟨_,d,?_,bI hd,hv⟩;have:=gJ (xs:=xs) (j:=i.toNat) (aL hi)
 rwa [iO h0] at this
theorem DI{te:TE}{g:TG}{D:Ends}{σ:St}{H:Hp}(h:te σ H λx H1=>g x σ H1 λσ2 H2=>D.nx σ2 H2):wM te g D σ H:=h
theorem Ci{w:View}{σ:St}{H:Hp}{ta:TA}{Q:VK}{ds:List PyData}(de:DA w σ H ta ds)(hl:ds.length<=1000)(ok:w.ok H)(k:∀p xs H',w.ok H'->aX H H'->aX (w.φ H) (w.φ H')->w.φ H' p=some (.lst xs)->fh (w.φ H') xs ds->Q (.ref p) H'):yN ta σ H Q:=
 (DE.lst de hl).run H Q ok (aX.refl _) (aX.refl _) λx H' o s s' hd=>by
  cases hd with
  | lst g hL=>exact k _ _ H' o s s' g hL
theorem EJ{r:R2}{ta tb:TE}{σ:St}{H:Hp}{Q:VK}(h:ta σ H λx H1=>tb σ H1 λy H2=>r x y H2 Q):CJ r ta tb σ H Q:=h
end Rm
namespace Rm
open PySem L2 PyProof.Rows
section
variable {σ:L2.St} {H0:Hp}
abbrev D1 (σ:L2.St) (H0:Hp) (te:TE) (d:PyData):Prop:=DE View.all σ H0 te d
abbrev D2 (σ:L2.St) (H0:Hp) (ta:TA) (ds:List PyData):Prop:=DA View.all σ H0 ta ds
end
def xN(d:PyData)(cs:List Bool):Prop:=fv d/\jj d (rY cs)=false/\jj (rY cs) d=false
theorem rC{d:PyData}{cs:List Bool}(t:fv d)(h:jK d=false):xN d cs:=⟨t,by unfold jj;rw[h];rfl,by unfold jj;rw[h];simp⟩
theorem rD{d:PyData}{cs:List Bool}(t:fv d)(h:AY d≠cs.length):xN d cs:=by
 have e:AY (rY cs)=cs.length:=bK cs;refine⟨t,?_,?_⟩
 ·unfold jj;rw[e,MQ h];simp
 ·unfold jj;rw[e,MQ (λz=>h z.symm)];simp
theorem DW (bs:List Bool):wd bs++Str.ofString "()"=wd (bs++[true,false]):=by
 have e:Str.ofString "()"=⟨#[40,41]⟩:=by decide +kernel
 rw[e];show (⟨(bs.map pX).toArray++#[40,41]⟩:Str)=⟨((bs++[true,false]).map pX).toArray⟩
 congr 1;simp[pX]
theorem Cc {bs cs:List Bool} (h:bs.length<=40) (e:cs.length=bs.length):xN (.str (wd bs++Str.ofString "()")) cs:=by
 rw[DW];refine rD ⟨i5 _,by rw[bK];simp;lia⟩ ?_;show (wd (bs++[true,false])).length≠_;rw[bK];simp;lia
theorem zR{K:MU}{σ:L2.St}{H:Hp}{ta:TA}{ti:TE}{Q:VK}{ds:List PyData}(de:D2 σ H ta ds)(hl:ds.length<=1000)(hi:∀H' (Q':VK),aX H H'->(∀j:Int,0<=j->j<ds.length->Q' (.int j) H')->ti σ H' Q')
  (q:∀v d H',aX H H'->d∈ds->Dat H' v d->Q v H'):CJ (AD K) (yN ta) ti σ H Q:=by
 refine EJ (Ci de hl trivial λp xs H' _ s _ g hL=>hi _ _ s λj h0 h1=>?_);obtain⟨v,d,hv,hm,hd⟩:=Ab hL h0 h1;exact⟨p,xs,j,v,rfl,rfl,bp.of g,hv,q v d H' s hm hd⟩
theorem D1.txt{σ:L2.St}{H0:Hp}{te:TE}{z:Str}(h:∀H (Q:VK),aX H0 H->Q (.str z) H->te σ H Q):D1 σ H0 te (.str z):=⟨λH Q o s _ q=>h H Q s (q _ H o (aX.refl _) (aX.refl _) (.str z))⟩
end Rm
namespace L2
open PySem PySem.Spec PyProof.Rows
theorem pC{prog:Program}{w:World}{A:Around}{E:Value->Shared->Prop}{s:Shared}{it l hx:Addr}{i:Nat}{items:Array Value}{Q:Option Value->Shared->Prop}{dO:Option Addr}(hh:A.handled=some (.ref hx))(hc:uC dO hx s.heap)
  (hit:s.heap.IsListIter it l i) (hl:s.heap.IsList l items) (hx0:items[i]? = none) (hne:hx≠it) (hQ:∀h',Heap.ExtBut it s.heap h'->Q none { s with heap:=h' }):wpAny (model prog w) A (pyNext (.ref it)) Q E s:=by
 obtain⟨oi,hoi,hci,hdi⟩:=id hit;obtain⟨ol,hol,_,nl,hdl⟩:=hl;unfold pyNext;refine wpAny_bind (MB (wpAny_callSpecial?_slot (name:=Str.ofString "__next__") hit.typeIs slot_listiter_next (MA slot_listiter_next hit.typeIs entry_listiter_next ?_ (args_listiter_next _))));show wpAny _ _ (field (.ref it) 0>>=_) _ _ s;refine wpAny_bind (MI hoi hdi (x:=.ref l) rfl ?_);show wpAny _ _ (if (Value.ref l==Value.none)=true then _ else _) _ _ s;rw[MN (show ¬((Value.ref l==Value.none)=true) from aY)];show wpAny _ _ (field (.ref it) 1>>=_) _ _ s;refine wpAny_bind (MI hoi hdi (x:=.int i 0) rfl ?_);show wpAny _ _ (seqItems? (.ref l)>>=_) _ _ s;refine wpAny_bind (MJ hol hdl ?_);simp only[eg,hx0];refine wpAny_bind (wpAny_rule (wpAny_bind (MK hoi hdi (by simp) ?_)));generalize hg:s.heap.update it _=g;have sb:Heap.SameBut it s.heap g:=by rw[<-hg];exact iP ..
 show wpAny (model prog w) A.in1 (Bind.bind (newExc (Value.type "StopIteration") []) raiseNew) _ _ _;refine wpAny_bind ?_;show wpAny (model prog w) A.in1 (Bind.bind (newTuple []) _) _ _ _;refine wpAny_bind (Lx (wpAny_bind (wpAny_of_eq (Eq.refl (firstArgMember (Value.type "StopIteration") [])) (Lx ?_))));dsimp only;generalize hh1:(g.push _).push _=h1;unfold raiseNew;refine wpAny_bind (wpAny_handled ?_);rw[show A.in1.handled=some (.ref hx) from hh];dsimp only;obtain⟨o,vs,e1,⟨_,e2⟩,e3⟩:=hc;have e1g:g.get? hx=some o:=(sb.2 hx hne).trans e1;have lt:=aM e1g;have sz:(g.push { cls:=Value.type "tuple",data:=Data.seq #[] }).objs.size=g.objs.size+1:=du _ _;rw[sz];have nx:hx≠g.objs.size+1:=ac (cP lt);have k1:∀b u,g.get? b=some u->h1.get? b=some u:=λb u q=>by
  rw[<-hh1];exact aD _ (aD _ q)
 have new1:∃ob ws,h1.get? (g.objs.size+1)=some ob/\ob.data=.fields ws/\2<ws.size/\ob.cls=.type "StopIteration":=by
  rw[<-hh1,<-sz];exact⟨_,_,aP _ rfl,rfl,by rw[jT];exact aO (show 2<6 by decide) (Nat.le_add_right _ _),rfl⟩
 obtain⟨ob,ws,n1,n2,n3,n4⟩:=new1;rw[MO (by simp[nx])];refine wpAny_bind (Lz (runValue_entry pY ?_));show wpAny _ _ (Bind.bind (field (Value.ref hx) 2) _) _ _ _;refine wpAny_bind (MI (k1 _ _ e1g) e2 e3 ?_);rw[MO (show (Value.none==Value.none)=true from rfl)];refine Lq ⟨_,rfl,?_⟩;show wpAny _ _ (Bind.bind (setField (Value.ref (g.objs.size+1)) 2 (Value.ref hx)) _) _ _ _;refine wpAny_bind (MK n1 n2 n3 (wpAny_throw ?_));have up:=ee (Obj.mapFields λz=>z.setIfInBounds 2 (Value.ref hx)) n1 (by obtain⟨c,d,da,sl⟩:=ob;cases n2;rfl);refine wpAny_bind (wpAny_isInstance (T:="StopIteration") ⟨_,up,by obtain⟨c,d,da,sl⟩:=ob;cases n2;exact n4⟩ isSubtype_stop (Lq (hQ _ λb o hb q=>?_)));have qg:g.get? b=some o:=(sb.2 b hb).trans q;have ne:b≠g.objs.size+1:=ac (cP (aM qg));exact Heap.get?_update_of_ne _ (cU ne) (k1 b o qg)
structure z0 (P : Program) (w : World) (K : MU) (hx : Addr) (tg : Expr) (J : It) (fp : List Addr) (it : Addr) (tn : Nat → Heap → Prop) : Prop where
  mem : it ∈ fp
  obj : ∀ i h, tn i h → ∀ b ∈ fp, ∃ o, h.get? b = some o ∧ ∀ v, o.data ≠ .cell v
  keep : ∀ i h h', tn i h → (∀ b ∈ fp, ∀ o, h.get? b = some o → h'.get? b = some o) → tn i h'
  item : ∀ (X : Cx), X.prog = P → X.w = w → X.K = K → X.A.handled = some (.ref hx) → ∀ (i : Nat) (pins : List (Addr × Obj)) (s : Shared) (σ : St) (H : Hp) (E : Value → Shared → Prop), bE X pins σ H s → (∀ b ∈ fp, iT X pins H b) → tn i s.heap → J.go i H →
    wpAny (model P w) X.A (pyNext (.ref it)) (fun r s1 => ∃ u, r = some u ∧ wpAny (model P w) X.A (letOwnedTupleGo tg (.ref it) u) (fun _ s2 => ∃ x H', bE X pins σ H' s2 ∧ RelV x u ∧ J.yld i H x H' ∧ tn (i + 1) s2.heap ∧ ∀ b ∈ fp, H' b = none) E s1) E s
  done : ∀ (X : Cx), X.prog = P → X.w = w → X.K = K → X.A.handled = some (.ref hx) → ∀ (i : Nat) (pins : List (Addr × Obj)) (s : Shared) (σ : St) (H : Hp) (E : Value → Shared → Prop), bE X pins σ H s → (∀ b ∈ fp, iT X pins H b) → tn i s.heap → J.stop i H →
    wpAny (model P w) X.A (pyNext (.ref it)) (fun r s1 => r = none ∧ bE X pins σ H s1) E s
  self : ∀ (A : Around) (i : Nat) (s : Shared) (Q : Value → Shared → Prop) (E : Value → Shared → Prop), tn i s.heap → Q (.ref it) s → wpAny (model P w) A (pyIter (.ref it)) Q E s
def Ao(K:MU)(a hx:Addr):It:=
 ⟨λi H=>∃xs x,bp K H a xs/\xs[i]? = some x,λi H x H'=>H'=H/\∀xs,bp K H a xs->xs[i]? = some x,λi H=>(∃xs,bp K H a xs/\xs.length<=i)/\∃C dO,H hx=some (nH dO C hx)⟩
theorem uJ {P : Program} {w : World} {K : MU} {tg : Expr} (a it hx : Addr) : z0 P w K hx tg (Ao K a hx) [it] it (fun i h => h.IsListIter it a i) where
  mem := (j4 (P := P) (w := w) (K := K) (tg := tg) a it).mem
  obj := (j4 (P := P) (w := w) (K := K) (tg := tg) a it).obj
  keep := (j4 (P := P) (w := w) (K := K) (tg := tg) a it).keep
  item := by
    intro X hP hw hK hc i pins s σ H E I hf st hg
    subst hP hw hK
    obtain ⟨xs, x, hq, hx⟩ := hg
    obtain ⟨its, rv, p, hz⟩ := I.list hq
    obtain ⟨u, hu, ru⟩ := rv.get hx
    obtain ⟨f0, f1, f2, f3, f4, f5⟩ := hf it (by simp)
    refine wpAny_pyNext_list_item st p.isList (x := u) (by simpa using hu) fun h' st' sb => ?_
    have I1 : bE X pins σ H { s with heap := h' } := I.turned (t' := s.toks) (fun b o hb e => (sb.2 b hb).trans e) f0 f1 f3 f4 f5
    obtain ⟨o, e, c, d⟩ := id st'
    exact ⟨u, rfl, tQ (s := { s with heap := h' }) e c d (by decide) ⟨x, H, I1, ru, ⟨rfl, fun ys hy => by rw [I.list_inj hy hq]; exact hx⟩, st', fun b hb => (hf b hb).1⟩⟩
  done := by
    intro X hP hw hK hc i pins s σ H E I hf st hg
    subst hP hw hK
    obtain ⟨⟨xs, hq, hx0⟩, C, dO, hC⟩ := hg
    obtain ⟨its, rv, p, hz⟩ := I.list hq
    obtain ⟨f0, f1, f2, f3, f4, f5⟩ := hf it (by simp)
    have hl := rv.length
    have ex := I.hok hx _ hC
    exact pC hc ex.1.2 st p.isList (by simp; lia) (fun z => by subst z; rw [f0] at hC; cases hC) fun h' eb => ⟨rfl, I.turned (t' := s.toks) (fun b o hb e => eb b o hb e) f0 f1 f3 f4 f5⟩
  self := (j4 (P := P) (w := w) (K := K) (tg := tg) a it).self
section
variable {X:Cx} {pins:List (Addr×Obj)} {σ:St} {H:Hp} {s:Shared}
theorem xC{hx:Addr}{own ns:List Str}{caps:List Nat}{elt tg iter:Expr}{ifs:List Expr}{scope:Scope}{pos:Pos}{it:Addr}{fp:List Addr}{tn:Nat->Heap->Prop}{J:It}{g:TG}{tf:TT}{te:TE}{Q:VK}{E:Value->Shared->Prop}{RR:Value->Addr->Result->Shared->Prop}
  (hc:X.A.handled=some (.ref hx)) (S:kG scope ns) (cp:kF X scope ns caps)
  (hg:∀C s H fp pn,PG (nJ X (own++ns) scope C s H fp pn) tg g) (ht:∀C s H fp pn,PF (nJ X (own++ns) scope C s H fp pn) ifs tf) (he:∀C s H fp pn,PE (nJ X (own++ns) scope C s H fp pn) elt te)
  (I:bE X pins σ H s) (T:z0 X.prog X.w X.K hx tg J fp it tn) (st:tn 0 s.heap) (hf:∀b∈fp,iT X pins H b) (hJ:gQ J g tf te Q (fu own.length caps σ) H)
  (fin:∀D C m s' H' ys,D≠C->s'.heap.Ns C m->iT X pins (bU H' D (.lst ys)) C->bE X pins σ (bU H' D (.lst ys)) s'->Q (.ref D) (bU H' D (.lst ys))->RR (.ref D) C (.ok .next) s') :
  wpAny (model X.prog X.w) X.A (newList []) (λacc s₃=>wpAny (model X.prog X.w) X.A (newFunctionEnv scope X.env.globals (jA X.env scope.names []) [] X.env.qual none .none (some X.env)) (λcenv s₄=>
   codeAny (model X.prog X.w) X.A (.compStart (.ListComp elt [⟨tg,iter,ifs,0⟩] scope pos) 0 (.ref it) acc { cenv with scope:=relabel scope X.env }) (RR acc cenv.locals) s₄) E s₃) E s:=by
 refine Lx (wpAny_newFunctionEnv S.nocell (by intro y hy;simp at hy) (λh₁ hns₁ hsb₁=>?_) S.kind);dsimp only at hns₁ hsb₁ ⊢;generalize hH2:s.heap.push { cls:=.type "list",dict:=none,data:=.seq ([]:List Value).toArray }=H2 at hns₁ hsb₁ ⊢;have hC:H2.objs.size=s.heap.objs.size+1:=by rw[<-hH2,du]
 have hDC:s.heap.objs.size≠H2.objs.size:=by rw[hC];exact ac (dt _)
 have hCle:s.heap.objs.size<=H2.objs.size:=by rw[hC];exact df _
 have old:∀b o,s.heap.get? b=some o->h₁.get? b=some o:=λb o e=>hsb₁.extBut b o (by rw[hC];exact ac (cP (aM e))) (aD _ (hH2▸aD _ e));have hacc:h₁.PlainList s.heap.objs.size #[]:=⟨_,hsb₁.extBut _ _ hDC (aD _ (hH2▸aP _ rfl))⟩
 have hfl:∀b∈fp,b<s.heap.objs.size:=λb hb=>by obtain⟨o,e,_⟩:=T.obj _ _ st b hb;exact aM e
 generalize hD:s.heap.objs.size=D at hDC hacc ⊢;generalize hCe:H2.objs.size=C at hns₁ hsb₁ hDC hCle hC ⊢;have hDle:s.heap.objs.size<=D:=by rw[hD];exact aH _
 have hCle':s.heap.objs.size<=C:=by rw[hD];rw[hD] at hCle;exact hCle
 have I₁:bE (nJ X (own++ns) scope C s H fp (X.pn++pins)) [] (fu own.length caps σ) H { s with heap:=h₁,toks:=s.toks+([]:List (Str×Value)).length }:=
  pL I S cp hf hfl hCle' rfl rfl old hns₁
 have st₁:tn 0 h₁:=T.keep _ _ _ st λb _ o e=>old b o e;generalize hY:nJ X (own++ns) scope C s H fp (X.pn++pins)=Y at I₁;have hgY:PG Y tg g:=hY▸hg C s H fp (X.pn++pins);have htY:PF Y ifs tf:=hY▸ht C s H fp (X.pn++pins);have heY:PE Y elt te:=hY▸he C s H fp (X.pn++pins);have yP:Y.prog=X.prog:=by rw[<-hY];rfl
 have yW:Y.w=X.w:=by rw[<-hY];rfl
 have yK:Y.K=X.K:=by rw[<-hY];rfl
 have yA:Y.A=X.A:=by rw[<-hY];rfl
 have yC:Y.A.handled=some (.ref hx):=by rw[<-hY];exact hc
 have yE:Y.env=compEnvC scope (jA X.env scope.names []) C X.env:=by rw[<-hY];rfl
 have yX:Y.xe=λ_ _=>False:=by rw[<-hY];rfl
 have yF:Y.fs=jw X.stack:=by rw[<-hY];rfl
 have yQ:Y.pn=X.pn++pins:=by rw[<-hY];rfl
 have yI:Y.ex=fp:=by rw[<-hY];rfl
 have yS:Y.s₀=s:=by rw[<-hY];rfl
 have yH:Y.H₀=H:=by rw[<-hY];rfl
 have cells:∀x c,Y.env.cells.lookup x=some c->X.env.cells.lookup x=some c:=λx c e=>by
  rw[yE] at e;rcases jM (λy hy hfr=>I.ok.has y.1 (cp.mem (S.frees y hy hfr))) (show (jA X.env scope.names []).lookup x=some c from e) with z | z
  ·simp at z
  ·exact z
 have nst:∀b,b≠X.env.locals->b∉X.fs->b∉Y.fs:=λb h1 h2 z=>by
  rw[yF] at z;exact(aZ.mp (I.stkSub b z)).elim h1 h2
 have fpY:∀{H':Hp},(∀b∈fp,H' b=none)->∀b∈fp,iT Y [] H' b:=fun {H'} hn b hb=>by
  obtain⟨f0,f1,f2,f3,f4,f5⟩:=hf b hb;refine⟨hn b hb,?_,nst b f1 f2,.inl (by rw[yI];exact hb),λx c e=>f4 x c (cells x c e),λp hp=>f5 p (by simpa [yQ] using hp)⟩;rw[yE];exact ac (aO (hfl b hb) hCle')
 have fpD:∀{H':Hp},H' D=none->iT Y [] H' D:=fun {H'} hn=>by
  obtain⟨f0,f1,f2,f3,f4,f5⟩:=I.fpOk (H':=H') hDle hn;refine⟨hn,by rw[yE];exact hDC,nst D f1 f2,.inr (by rw[yS];exact hDle),λx c e=>f4 x c (cells x c e),λp hp=>f5 p (by simpa [yQ] using hp)⟩
 have hDf:D∉fp:=λz=>c6 _ (aO (hfl D z) hDle);have objD:∀{h:Heap} {us:List Value},h.PlainList D us.toArray->∃o,h.get? D=some o/\∀v,o.data≠.cell v:=fun {h us} ⟨n,e⟩=>⟨_,e,λv z=>by cases z⟩
 have noErr:∀{α:Type} {t:Sem α} {Qt:α->Shared->Prop} {sx:Shared} {E':Value->Shared->Prop},wpAny (model Y.prog Y.w) Y.A t Qt Y.xe sx->wpAny (model X.prog X.w) X.A t Qt E' sx:=fun {α t Qt sx E'} h=>by
  rw[yP,yW,yA,yX] at h;exact Lo h (λ_ _ q=>q) λ_ _ f=>f.elim
 obtain⟨W,⟨m0,w0⟩,turn⟩:=hJ;have TY:z0 Y.prog Y.w Y.K hx tg J fp it tn:=by rw[yP,yW,yK];exact T
 have loop:∀s₃:Shared,s₃={ s with heap:=h₁,toks:=s.toks+([]:List (Str×Value)).length } →
   codeAny (model X.prog X.w) X.A (.compLoop (.ListComp elt [⟨tg,iter,ifs,0⟩] scope pos) 0 (.ref it) (.ref D) (compEnvC scope (jA X.env scope.names []) C X.env)) (RR (.ref D) C) s₃:=by
  rintro s₃ rfl;refine l3 (λn s'=>∃i ys us σ' H',bE Y [] σ' H' s'/\tn i s'.heap/\(∀b∈fp,H' b=none)/\H' D=none/\s'.heap.PlainList D us.toArray/\bb ys us/\W i n ys σ' H') ?_ m0
   ⟨0,[],[],_,H,I₁,st₁,λb hb=>(hf b hb).1,I.hok.fresh hDle,hacc,.nil,w0⟩
  rintro n s3 ⟨i,ys,us,σ3,H3,I3,st3,fr3,hD3,BW,v3,w3⟩;have fD3:∀b∈[D],iT Y [] H3 b:=λb hb=>by
   have e:b=D:=by simpa using hb
   subst e;exact fpD hD3
  have I3':bE Y ([]++gF [D] s3.heap) σ3 H3 s3:=I3.pinned fD3 λb hb=>by
   have e:b=D:=by simpa using hb
   subst e;exact objD BW
  rw[List.nil_append] at I3';have fpY':∀{H':Hp},(∀b∈fp,H' b=none)->∀b∈fp,iT Y (gF [D] s3.heap) H' b:=fun {H'} hn b hb=>by
   obtain⟨f0,f1,f2,f3,f4,f5⟩:=fpY hn b hb;refine⟨f0,f1,f2,f3,f4,λp hp=>?_⟩;rcases aT.mp hp with z | z
   ·exact f5 p (by simpa using z)
   ·have e:p.1=D:=by simpa using (nD z).1
    exact λq=>hDf (by rw[<-e,q];exact hb)
  obtain⟨oD,eD,cD⟩:=objD BW;have keepD:∀{σ':St} {H':Hp} {s':Shared} {pl:List (Addr×Obj)},bE Y (gF [D] s3.heap++pl) σ' H' s'->s'.heap.PlainList D us.toArray/\H' D=none:=fun {σ' H' s' pl} I'=>by
   have:=I'.pin (D,oD) (aa _ (ax _ (fE (by simp) eD)));refine⟨?_,this.2.1⟩;obtain⟨k,e⟩:=BW;rw[e] at eD;cases eD;exact⟨k,this.1⟩
  rcases turn i n ys σ3 H3 w3 with ⟨stop,hlen,qn⟩ | ⟨go,hlen,step⟩
  ·refine noErr (cm (TY.done Y rfl rfl rfl yC i _ s3 σ3 H3 Y.xe I3' (fpY' fr3) st3 stop) λr s4 ⟨hr,I4⟩=>?_);subst hr;obtain⟨pl4,hD4⟩:=keepD (pl:=[]) (by rw[eM];exact I4);have hun:Un (jw X.stack) fp H H3 s.heap s4.heap:=by have:=I4.base;rw[yF,yI,yS,yH] at this;exact this
   have hok:lC X.prog X.w H3 s4.heap:=by have:=I4.hok;rw[yP,yW] at this;exact this
   obtain⟨m4,hn4,_⟩:=I4.loc;rw[yE] at hn4;have hC4:H3 C=none:=by have:=I4.free;rw[yE] at this;exact this
   have ne:∀b u,H3 b=some u->b≠D:=λb u e z=>by rw[z,hD4] at e;cases e
   refine fin D C m4 s4 H3 ys hDC hn4 (I.fpOk hCle' (by rw[aK (cU hDC)];exact hC4)) (I.call' (ch:=fp) ?_ ?_ ?_ I4.bare ?_) (qn D hD4)
   ·have:=I4.os;rw[yS] at this;exact this
   ·exact⟨hun.keep,hun.slot,λb o e n hx=>by rw[aK (λz=>by rw[z] at e;exact absurd (aM e) (Nat.not_lt.mpr hDle))];exact hun.free b o e n hx,hun.there,
     λb xs e=>by have:=hun.tups b xs e;rw[aK (ne _ _ this)];exact this,λb o u e=>by have:=hun.frzs b o u e;rw[aK (ne _ _ this)];exact this,
     λb ps e=>by obtain⟨more,q⟩:=hun.tbls b ps e;exact⟨more,by rw[aK (ne _ _ q)];exact q⟩⟩
   ·intro b u e;by_cases hb:b=D
    ·subst hb;rw[aC] at e;cases e;obtain⟨k,e4⟩:=pl4;exact⟨hlen,us,k,v3,e4⟩
    ·rw[aK hb] at e;exact(hok b u e).stay (λc v _ q=>q) (λc q=>by rw[aK (ne _ _ q)];exact q) λc xs q=>by rw[aK (ne _ _ q)];exact q
   ·intro b hb;obtain⟨f0,f1,f2,f3,f4,f5⟩:=hf b hb;exact⟨f3,f1,f4,f5⟩
  ·refine noErr (cm (TY.item Y rfl rfl rfl yC i _ s3 σ3 H3 Y.xe I3' (fpY' fr3) st3 go) λr s4 ⟨u,hr,h4⟩=>?_);subst hr;refine noErr (cm h4 λ_ s5 ⟨x,H5,I5,r5,y5,st5,fr5⟩=>?_);have I5':=I5.pinned (fpY' fr5) (T.obj _ _ st5);rw[<-yE];refine noErr (cm (hgY _ s5 σ3 H5 x u _ I5' r5 (step x H5 y5)) λ_ s6 ⟨σ6,H6,I6,q6⟩=>?_);refine noErr (cm (htY _ s6 σ6 H6 _ I6 q6) λok s7 ⟨H7,I7,q7⟩=>?_);have fpK:∀{σ':St} {H':Hp} {s':Shared},bE Y (gF [D] s3.heap++gF fp s5.heap) σ' H' s'->tn (i+1) s'.heap/\∀b∈fp,H' b=none:=fun {σ' H' s'} I'=>
    ⟨T.keep _ _ _ st5 λb hb o e=>(I'.pin (b,o) (aa _ (aa _ (fE hb e)))).1,λb hb=>by
     obtain⟨o,e,_⟩:=T.obj _ _ st5 b hb;exact(I'.pin (b,o) (aa _ (aa _ (fE hb e)))).2.1⟩
   cases ok with
   | false=>
    rw[MN aY] at q7 ⊢;obtain⟨m',hm,w7⟩:=q7;obtain⟨pl7,hD7⟩:=keepD I7;obtain⟨st7,fr7⟩:=fpK I7;exact⟨m',hm,i+1,ys,us,σ6,H7,I7.pins_of (λp hp=>nomatch hp),st7,fr7,hD7,pl7,v3,w7⟩
   | true=>
    rw[MO rfl] at q7 ⊢;refine noErr (cm (heY _ s7 σ6 H7 _ I7 q7) λy s8 ⟨yv,H8,I8,r8,m',hm,w8⟩=>?_);obtain⟨pl8,hD8⟩:=keepD I8;obtain⟨st8,fr8⟩:=fpK I8;have hul:us.length=ys.length:=v3.length.symm;refine wpAny_list_append_plain (hsz:=by rw[aQ,hul];exact aS hlen) pl8 λh9 pl9 sb9=>?_;obtain⟨d0,d1,d2,d3,d4,d5⟩:=fpD hD8;refine⟨m',hm,i+1,ys++[yv],us++[y],σ6,H8,?_,?_,fr8,hD8,by simpa using pl9,v3.append (.cons r8 .nil),w8⟩
    ·exact(I8.pins_of (pins':=[]) λp hp=>nomatch hp).turned (t':=s8.toks) (λb o hb e=>(sb9.2 b hb).trans e) hD8 d1 d3 d4 d5
    ·exact T.keep _ _ _ st8 λb hb o e=>(sb9.2 b (λz=>hDf (z▸hb))).trans e
 exact codeAny_compStart_list (loop _ rfl) (T.self _ 0 _ _ _ st₁ (loop _ rfl))
def yT(hx:Addr)(K:MU)(k:Nat)(caps:List Nat)(tl:TE)(g:TG)(tf:TT)(te:TE):TE:=λσ H Q=>tl σ H λx H1=>∃a,x=.ref a/\(∃xs,bp K H1 a xs)/\gQ (Ao K a hx) g tf te Q (fu k caps σ) H1
theorem zt{hx:Addr}{K:MU}{k:Nat}{caps:List Nat}{tl:TE}{g:TG}{tf:TT}{te:TE}{σ:St}{H:Hp}{Q:VK}:yT hx K k caps tl g tf te σ H Q=tl σ H λx H1=>∃a,x=.ref a/\(∃xs,bp K H1 a xs)/\gQ (Ao K a hx) g tf te Q (fu k caps σ) H1:=rfl
theorem wZ{hx:Addr}{own ns:List Str}{caps:List Nat}{elt tg iter:Expr}{ifs:List Expr}{scope:Scope}{pos:Pos}{tl:TE}{g:TG}{tf:TT}{te:TE}(hc:X.A.handled=some (.ref hx))(S:kG scope ns)(cp:kF X scope ns caps)(hi:QE X iter tl)
  (hg:∀C s H fp pn,QG (nJ X (own++ns) scope C s H fp pn) tg g) (ht:∀C s H fp pn,QF (nJ X (own++ns) scope C s H fp pn) ifs tf) (he:∀C s H fp pn,QE (nJ X (own++ns) scope C s H fp pn) elt te)
  (hs:∀x,foldedSetIterable iter X.env x=pure x:=by intro _;rfl):QE X (.ListComp elt [⟨tg,iter,ifs,0⟩] scope pos) (yT hx X.K own.length caps tl g tf te):=⟨by
 intro pins s σ H Q I h;rw[eval_ListComp];refine wpAny_comprehension_free (use:=none) rfl hs (cp.cl I S) S.kind S.names (cm (hi.h pins s σ H _ I h) λv s1 ⟨x,H1,I1,r1,a,e,⟨xs,hq⟩,hJ⟩=>?_);subst e;cases r1;obtain⟨its,rv,p,hz⟩:=I1.list hq;refine wpAny_pyIter_list p.isList ?_;have I2:bE X pins σ H1 { s1 with heap:=s1.heap.push { cls:=.type "list_iterator",data:=.fields #[.ref a,.int 0 0] } }:=I1.kept (t':=s1.toks) λb o e=>aD _ e;have f2:∀b∈[s1.heap.objs.size],iT X pins H1 b:=λb hb=>by
  have e:b=s1.heap.objs.size:=by simpa using hb
  subst e;exact I1.fpOk (aH _) (I1.hok.fresh (aH _))
 refine xC hc S cp (λC s H fp pn=>(hg C s H fp pn).h) (λC s H fp pn=>(ht C s H fp pn).h) (λC s H fp pn=>(he C s H fp pn).h) I2 (uJ a s1.heap.objs.size hx) ⟨_,aP _ rfl,rfl,rfl⟩ f2 hJ (RR:=λacc C=>compPost (model X.prog X.w) X.A X.xe none (EP X pins σ Q) acc C) λD C m s' H' ys hDC hn fC I' q=>?_;refine⟨m,hn,λh' hs'=>⟨.ref D,_,?_,rfl,q⟩⟩;obtain⟨f0,f1,f2,f3,f4,f5⟩:=fC;exact I'.turned (t':=s'.toks) (λb o hb e=>(hs'.2 b hb).trans e) f0 f1 f3 f4 f5⟩
end
theorem uq{K:MU}{a hx:Addr}{H:Hp}{Q:VK}{ts:List Bool}{C:Addr}{dO:Option Addr}(ha:bp K H a (ts.map V.bl))(hC:H hx=some (nH dO C hx))(hsz:ts.length<=1000)(q:∀p,H p=none->Q (.ref p) (bU H p (.lst ((ts.filter (·=true)).map V.bl)))):
  gQ (Ao K a hx) (lZ 0) (tB (rm 0)) (rm 0) Q [none] H:=by
 have eL:(ts.map V.bl).length=ts.length:=aF ..;refine mZ ts.length (aS (ai hsz)) (λi ys σ H'=>H'=H/\ys=((ts.take i).filter (·=true)).map V.bl/\∃x,σ=[x]) ⟨rfl,by simp,_,rfl⟩ ?_ ?_ ?_ ?_ ?_
 ·rintro i ys σ H' ⟨rfl,rfl,_⟩;rw[aF];exact bd (gT _ _) (by rw[gg];lia)
 ·rintro i ys σ H' hi ⟨rfl,_,_⟩;exact⟨_,(ts.map V.bl)[i]'(by rw[eL];exact hi),ha,aL _⟩
 ·rintro ys σ H' ⟨rfl,_,_⟩;exact⟨⟨_,ha,by rw[eL];exact aH _⟩,C,dO,hC⟩
 ·rintro i ys σ H' x H2 N hi ⟨rfl,rfl,x0,rfl⟩ ⟨rfl,hy⟩ hN;obtain⟨b,hb,rfl⟩:=vv (hy _ ha);have et:ts.take (i+1)=ts.take i++[b]:=by rw[bZ,hb];rfl
  show ∃v,[some (V.bl b)][0]? = some (some v)/\_;refine⟨_,rfl,b,rfl,?_⟩;cases b with
  | true=>
   rw[MO rfl];exact⟨_,rfl,hN _ _ _ ⟨rfl,by rw[et,eG];simp,_,rfl⟩⟩
  | false=>
   rw[MN (λz=>nomatch z)];exact hN _ _ _ ⟨rfl,by rw[et,eG];simp,_,rfl⟩
 ·rintro ys σ H' p ⟨rfl,rfl,_⟩ hp;rw[bv];exact q p hp
end L2
namespace Rm
open PySem L2 PyProof.Rows
structure zg (L R:Nat->Nat) (e i:Nat):Prop where
 pos:0<i
 inj:Inj L R e i
 back:cM L R e i=e
theorem zg.uniq{L R:Nat->Nat}{e i j:Nat}(h:zg L R e i)(k:zg L R e j):i=j:=by
 have a:∀{i j},zg L R e i->zg L R e j->¬i<j:=fun {i j} h k hlt=>by
  have:=k.inj i 0 hlt k.pos h.back;have:=h.pos;lia
 have:=a h k;have:=a k h;lia
theorem ou{n:Nat}{L R:Nat->Nat}{e:Nat}(PL:iz n L)(PR:iz n R)(h:e<n):∃i,zg L R e i:=by
 have go:∀f i,Inj L R e i->n-i<f->∃i,zg L R e i:=by
  intro f
  induction f with
  | zero=>intro i _ hf;lia
  | succ f ih=>
   intro i J hf;by_cases hc:i=0\/cM L R e i≠e
   ·have J2:=J.next PL PR h hc;have:=J2.le PL PR h;exact ih (i+1) J2 (by lia)
   ·have h1:i≠0:=λz=>hc (.inl z);have h2:cM L R e i=e:=jS.mp λz=>hc (.inr z);exact⟨i,by lia,J,h2⟩
 exact go _ 0 (λj k hj=>by lia) (dt _)
open Classical in
noncomputable def perF (L R:Nat->Nat) (e:Nat):Nat:=if h:∃i,zg L R e i then h.choose else 0
theorem vj{L R:Nat->Nat}{e i:Nat}(h:zg L R e i):perF L R e=i:=by
 unfold perF;have hx:∃i,zg L R e i:=⟨i,h⟩
 rw[dif_pos hx];exact hx.choose_spec.uniq h
noncomputable def rdF (L R:Nat->Nat) (e:Nat):List Nat:=kR L R e (perF L R e)
theorem E4.is{n:Nat}{L R:Nat->Nat}{e:Nat}{r:List Nat}(X:E4 n L R e r):r=rdF L R e:=by
 obtain⟨i,hr,h0,J,hc⟩:=X.per;rw[hr,rdF,vj ⟨h0,J,hc⟩]
open Classical in
noncomputable def rsF (L R:Nat->Nat):Nat->List (List Nat)
 | 0=>[]
 | i+1=>if ∃r∈rsF L R i,i∈r then rsF L R i else rsF L R i++[rdF L R i]
theorem mM{L R:Nat->Nat}{i:Nat}(h:∃r∈rsF L R i,i∈r):rsF L R (i+1)=rsF L R i:=by rw[rsF,MO h]
theorem mO{L R:Nat->Nat}{i:Nat}(h:¬∃r∈rsF L R i,i∈r):rsF L R (i+1)=rsF L R i++[rdF L R i]:=by rw[rsF,MN h]
def ip(n:Nat)(L:Nat->Nat):Prop:=∀x,x<n->L x≠x
theorem pD{bs:List Bool}(b:kd bs):ip bs.length (mtF bs):=λx hx e=>by
 rcases jV b hx with h | h
 ·have:=h.lt;lia
 ·have:=h.lt;lia
theorem rG{n:Nat}{L R:Nat->Nat}{e:Nat}(PL:iz n L)(PR:iz n R)(NL:ip n L)(NR:ip n R)(h:e<n):∀(d i j:Nat),i-j<=d->j<=i->cM L R e i≠L (cM L R e j):=by
 have lt:=λk=>kq (R:=R) PL PR h k;intro d
 induction d using Nat.strongRecOn with
 | ind d ih=>
  intro i j hd hji q;by_cases z:i=j
  ·subst z;exact NL _ (lt i) q.symm
  ·obtain⟨i',rfl⟩:∃i',i=i'+1:=⟨i - 1,by lia⟩
   have q':R (L (cM L R e i'))=L (cM L R e j):=q;have q2:=congrArg R q';rw[PR.inv _ (PL.lt _ (lt i'))] at q2;by_cases z2:i'=j
   ·subst z2;rw[q'] at q2;exact NR _ (PL.lt _ (lt i')) (by rw[q'])
   ·have q3:L (cM L R e i')=cM L R e (j+1):=q2;have q4:=congrArg L q3;rw[PL.inv _ (lt i')] at q4;exact ih (i' - (j+1)) (by lia) i' (j+1) (aH _) (by lia) q4
theorem B0{n:Nat}{L R:Nat->Nat}{e i:Nat}(PL:iz n L)(PR:iz n R)(NL:ip n L)(NR:ip n R)(h:e<n)(J:Inj L R e i):cM L R e i∈kR L R e i<->(0<i/\cM L R e i=e):=by
 constructor
 ·intro hm;obtain⟨j,hj,q | q⟩:=hZ.mp hm
  ·refine⟨by lia,?_⟩;by_cases z:cM L R e i=e
   ·exact z
   ·have:=(J.next PL PR h (.inr z)) i j (by lia) (by lia) q;lia
  ·exact absurd q (rG PL PR NL NR h _ i j (aH _) (by lia))
 ·rintro⟨h0,hc⟩;exact hZ.mpr ⟨0,h0,.inl hc⟩
theorem Cq{n:Nat}{L R:Nat->Nat}{e:Nat}{rs:List (List Nat)}(PL:iz n L)(PR:iz n R)(X:z8 n L R rs)(h:e<n)(hm:¬∃r∈rs,e∈r):∀i,(¬∃r∈rs,cM L R e i∈r)/\¬∃r∈rs,L (cM L R e i)∈r:=by
 have lt:=λk=>kq (R:=R) PL PR h k;have stepL:∀x,x<n->(¬∃r∈rs,x∈r)->¬∃r∈rs,L x∈r:=λx hx hn ⟨r,hr,hy⟩=>hn ⟨r,hr,by have:=(X.inn r hr _ hy).2.1;rwa [PL.inv x hx] at this⟩;have stepR:∀x,x<n->(¬∃r∈rs,x∈r)->¬∃r∈rs,R x∈r:=λx hx hn ⟨r,hr,hy⟩=>hn ⟨r,hr,by have:=(X.inn r hr _ hy).2.2;rwa [PR.inv x hx] at this⟩;intro i
 induction i with
 | zero=>exact⟨hm,stepL _ h hm⟩
 | succ i ih=>
  have a:¬∃r∈rs,cM L R e (i+1)∈r:=stepR _ (PL.lt _ (lt i)) ih.2;exact⟨a,stepL _ (lt (i+1)) a⟩
def m7(H:Hp)(P:Addr->Prop)(ws:List V)(rs:List (List Nat)):Prop:=Paired (λv r=>∃a,v=.ref a/\H a=some (.lst (eY r))/\P a) ws rs
theorem m7.imp{H H':Hp}{P P':Addr->Prop}{ws:List V}{rs:List (List Nat)}(h:m7 H P ws rs)(f:∀a o,P a->H a=some o->H' a=some o/\P' a):m7 H' P' ws rs:=di (λv r ⟨a,e,ha,p⟩=>⟨a,e,(f a _ p ha).1,(f a _ p ha).2⟩) h
theorem m7.len{H:Hp}{P:Addr->Prop}{ws:List V}{rs:List (List Nat)}(h:m7 H P ws rs):ws.length=rs.length:=ox h
theorem so{K:MU}{H:Hp}:∀r:List Nat,m6 K H (eY r) (r.map λx:Nat=>PyData.int x)
 | []=>.nil
 | x::r=>.cons (.int x) (so r)
theorem yw(r:List Nat):(r.map λx:Nat=>PyData.int (x:Int))=(r.map λx:Nat=>(x:Int)).map PyData.int:=by rw[bx];rfl
def qA(C:Addr):Sp:=λvs H Q E=>∃x y d e,vs=[x,y]/\Dat H x d/\fv d/\Dat H y e/\fv e ∧
 ((∃bs cs,d=rY bs/\e=rY cs/\jX bs cs/\∀l ws H',H l=none->aX H H'->H' l=some (.lst ws)->m7 H' (λa=>H a=none/\a≠l) ws (rsF (mtF bs) (mtF cs) bs.length)->(rsF (mtF bs) (mtF cs) bs.length).length<=40->(∀r∈rsF (mtF bs) (mtF cs) bs.length,r.length<=80)->Q (.ref l) H')\/(jj d e=false/\E (.ref C) none H))
def mm:Sp:=λvs H Q _=>∃bs cs,vs=[.str (wd bs),.str (wd cs)]/\jX bs cs/\∀l ws H',H l=none->aX H H'->H' l=some (.lst ws)->m7 H' (λa=>H a=none) ws (rsF (mtF bs) (mtF cs) bs.length)->Q (.ref l) H'
theorem AR{K:MU}{H:Hp}{a b:Addr}{r:List Nat}{Q:VK}(ha:H a=some (.lst (eY r)))(hb:H b=some (.lst []))(q:Q (.bl (!r.isEmpty)) H):uU K true (.ref a) (.ref b) H Q:=by
 refine⟨.list (r.map λx:Nat=>.int x),.list [],.lst (bp.of ha) (so r),.lst (bp.of hb) .nil,by rw[yw];exact fF _,rfl,?_,?_⟩
 ·refine bd (Nat.min_le_right _ _) ?_;decide
 ·show Q (.bl (!PyData.eqvAll (r.map λx:Nat=>PyData.int (x:Int)) [])) H;cases r with
  | nil=>exact q
  | cons x r=>exact q
theorem wG(a b:Str):(a++b).length=a.length+b.length:=by
 show (a.cps++b.cps).size=a.cps.size+b.cps.size;exact jT
theorem wH{a b:Str}(ha:a.cps.all (·<128)=true)(hb:b.cps.all (·<128)=true):(a++b).cps.all (·<128)=true:=by
 show (a.cps++b.cps).all (·<128)=true;rw[Array.all_append,ha,hb];rfl
theorem vk{bs cs:List Bool}{z:Str}(hl:bs.length<=40)(e:cs.length=bs.length)(hz:z.length=1)(za:z.cps.all (·<128)=true):xN (.str (wd bs++z)) cs/\xN (.str (z++wd bs)) cs:=by
 have l1:(wd bs++z).length=bs.length+1:=by rw[wG,bK,hz]
 have l2:(z++wd bs).length=bs.length+1:=by rw[wG,bK,hz];lia
 exact⟨rD ⟨wH (i5 bs) za,by lia⟩ (by show (wd bs++z).length≠_;lia),rD ⟨wH za (i5 bs),by lia⟩ (by show (z++wd bs).length≠_;lia)⟩
def rk(G:Nat->Bool):Nat->Nat
 | 0=>0
 | k+1=>if G k then rk G k else rk G k+1
def dK(G:Nat->Bool)(bs:List Bool):Nat->Int
 | 0=>0
 | k+1=>if G k then dK G bs k else dK G bs k+((bs[k]?).toList.map dl).sum
noncomputable def rsW (bs cs:List Bool):List (List Nat):=rsF (mtF bs) (mtF cs) bs.length
theorem CQ(b:Bool):sgn b=⟨#[pX b]⟩:=by
 have:=mJ b;cases h:sgn b;rw[h] at this;exact congrArg Str.mk this
theorem oG{n:Nat}{L R:Nat->Nat}(PL:iz n L)(PR:iz n R)(n40:n<=40):∀k,k<=n->ux n L R k (rsF L R k) (λx=>∃r∈rsF L R k,x∈r)/\∀r∈rsF L R k,r.length<=80
 | 0,_=>by
  have h:=ux.start (n:=n) (L:=L) (R:=R);refine⟨⟨h.rn,λx=>Iff.rfl,λx h=>by lia,h.len⟩,λr hr=>by cases hr⟩
 | k+1,h=>by
  obtain⟨I,h80⟩:=oG PL PR n40 k (by lia);by_cases c:∃r∈rsF L R k,k∈r
  ·rw[mM c];exact⟨I.skip c,h80⟩
  ·obtain⟨i,p⟩:=ou (R:=R) PL PR (show k<n by lia);have X:=uT PL PR (show k<n by lia) p.inj n40 p.pos p.back;rw[X.is] at X;have A:=I.add PL PR c X;rw[mO c];refine⟨⟨A.rn,λx=>Iff.rfl,λx hx=>(A.mt x).mp (A.upto x hx),A.len⟩,λr hr=>?_⟩;rcases aT.mp hr with hr | hr
   ·exact h80 r hr
   ·rw[ar] at hr;subst hr;exact X.len
theorem xW(bs:List Bool):PyData.canLay0 (.str (wd bs))=true:=by
 have a:=i5 bs;show PyData.strOk (wd bs)=true;unfold PyData.strOk;rw[Array.all_eq_true] at a ⊢;intro i hi;have:=MR (a i hi);exact decide_eq_true (by lia)
end Rm
namespace Rm
open PySem L2
structure mf (ps:List Bw):Prop where
 lt:∀ p∈ps,p.1<p.2
 perm:(fG ps).Perm (dW 0 (2 * ps.length))
theorem mU{x:Int}{n:Nat}:x∈dW 0 n<->0<=x/\x<n:=by
 unfold dW;rw[af];constructor
 ·rintro⟨i,hi,rfl⟩;have:=aU.mp hi;lia
 ·rintro⟨h1,h2⟩;exact⟨x.toNat,aU.mpr (by lia),by lia⟩
theorem o9(n:Nat):(dW 0 n).Nodup:=by
 unfold dW List.Nodup;rw[b6];exact(cY (n:=n)).imp λh e=>h (by lia)
theorem mf.mem{ps:List Bw}(F:mf ps){p:Bw}(h:p∈ps):0<=p.1/\p.1<p.2/\p.2<2*ps.length:=by
 have h1:p.1∈fG ps:=ax _ (af.mpr ⟨p,h,rfl⟩);have h2:p.2∈fG ps:=aa _ (af.mpr ⟨p,h,rfl⟩);have h1:=mU.mp (F.perm.mem_iff.mp h1);have h2:=mU.mp (F.perm.mem_iff.mp h2);have:=F.lt p h;lia
def at1(i:Nat)(p:Bw):Bool:=decide (p.1=(i:Int))
def at2(i:Nat)(p:Bw):Bool:=decide (p.2=(i:Int))
def kT(i:Nat)(p:Bw):Bool:=decide (p.1<(i:Int))&&decide ((i:Int)<=p.2)
theorem qW{a:Int}:∀{l:List Int},l.Nodup->a∈l->l.count a=1
 | b::l,nd,h=>by
  obtain⟨n1,n2⟩:=ci.mp nd;rw[List.count_cons];by_cases e:b=a
  ·subst e;rw[List.count_eq_zero.mpr n1];simp
  ·have hm:a∈l:=by
    rcases aZ.mp h with z | z
    ·exact absurd z.symm e
    ·exact z
   rw[qW n2 hm];simp[e]
theorem mf.one{ps:List Bw}(F:mf ps){i:Nat}(h:i<2*ps.length):ps.countP (at1 i)+ps.countP (at2 i)=1:=by
 have h1:(fG ps).count (i:Int)=1:=by
  rw[F.perm.count_eq];exact qW (o9 _) (mU.mpr (by lia))
 unfold fG at h1;simp only[List.count_eq_countP,fg,List.countP_map] at h1;have e1:ps.countP ((λx=>x==(i:Int))∘λp:Bw=>p.1)=ps.countP (at1 i):=jQ λp _=>by simp[at1]
 have e2:ps.countP ((λx=>x==(i:Int))∘λp:Bw=>p.2)=ps.countP (at2 i):=jQ λp _=>by simp[at2]
 rw[e1,e2] at h1;exact h1
theorem Ag{a b k:Int}(h:a<b):(if a<k+1/\k+1<=b then 1 else 0)+(if b=k then 1 else 0)=(if a<k/\k<=b then 1 else 0)+(if a=k then (1:Nat) else 0):=by
 by_cases h1:a=k
 ·rw[MO (show a<k+1/\k+1<=b by lia),MN (show ¬b=k by lia),MN (show ¬(a<k/\k<=b) by lia),MO h1]
 ·by_cases h2:b=k
  ·rw[MN (show ¬(a<k+1/\k+1<=b) by lia),MO h2,MO (show a<k/\k<=b by lia),MN h1]
  ·rw[MN h1,MN h2];by_cases h3:a<k/\k<=b
   ·rw[MO h3,MO (show a<k+1/\k+1<=b by lia)]
   ·rw[MN h3,MN (show ¬(a<k+1/\k+1<=b) by lia)]
theorem tY(i:Nat):∀{ps:List Bw},(∀p∈ps,p.1<p.2)->ps.countP (kT (i+1))+ps.countP (at2 i)=ps.countP (kT i)+ps.countP (at1 i)
 | [],_=>rfl
 | p::ps,h=>by
  have ih:=tY i (ps:=ps) λq hq=>h q (ak _ hq);have e:=Ag (k:=(i:Int)) (h p aw);have e':(if kT (i+1) p=true then 1 else 0)+(if at2 i p=true then 1 else 0)=(if kT i p=true then 1 else 0)+(if at1 i p=true then 1 else 0):=by
   simp only[kT,at1,at2,bL,MP,Int.natCast_add,Int.natCast_one];exact e
  simp only[jh];generalize (if kT (i+1) p=true then 1 else 0)=x1 at e' ⊢;generalize (if at2 i p=true then 1 else 0)=x2 at e' ⊢;generalize (if kT i p=true then 1 else 0)=x3 at e' ⊢;generalize (if at1 i p=true then 1 else 0)=x4 at e' ⊢;clear e h;lia
theorem oQ{ps:List Bw}{i:Nat}(h:i<2*ps.length):(dw ps)[i]? = some (decide ((i:Int)∈ps.map (·.1))):=by simp[dw,h]
theorem lD(ps:List Bw):(dw ps).length=2*ps.length:=by simp[dw]
theorem qU{ps:List Bw}{i:Nat}:(i:Int)∈ps.map (·.1)<->0<ps.countP (at1 i):=by
 rw[dm,af];constructor
 ·rintro⟨p,hp,e⟩;exact⟨p,hp,decide_eq_true e⟩
 ·rintro⟨p,hp,e⟩;exact⟨p,hp,MR e⟩
theorem mf.D{ps:List Bw}(F:mf ps):∀i,i<=2*ps.length->D (dw ps) i=ps.countP (kT i)
 | 0,_=>by
  rw[zb];have:ps.countP (kT 0)=0:=List.countP_eq_zero.mpr λp hp=>by
   have:=(F.mem hp).1;simp only[kT,bL,MP];lia
  rw[this];rfl
 | i+1,h=>by
  have ih:=F.D i (by lia);have st:=tY i F.lt;have one:=F.one (i:=i) (by lia);rw[jZ (oQ (by lia)),ih];by_cases e:(i:Int)∈ps.map (·.1)
  ·rw[decide_eq_true e];have:=qU.mp e;simp only[dl,MS];lia
  ·rw[MQ e];have:¬0<ps.countP (at1 i):=λz=>e (qU.mpr z);simp only[dl,bP,MT];lia
theorem mf.bal{ps:List Bw}(F:mf ps):kd (dw ps):=by
 refine⟨λi hi=>?_,?_⟩
 ·rw[lD] at hi;rw[F.D i hi];lia
 ·rw[lD,F.D _ (aH _)];have:ps.countP (kT (2*ps.length))=0:=List.countP_eq_zero.mpr λp hp=>by
   have:=(F.mem hp).2.2;simp only[kT,bL,MP];lia
  rw[this];rfl
theorem nK{α:Type}{P Q:α->Bool}{l:List α}(h:∀x∈l,P x=true->Q x=true){a:α}(ha:a∈l)(hq:Q a=true)(hp:P a=false):l.countP P<l.countP Q:=by
 obtain⟨l1,l2,rfl⟩:=List.append_of_mem ha;rw[fg,fg,jh,jh,MO hq,MN (by rw[hp];exact aY)];have h1:=ka (l:=l1) λx hx=>h x (ax _ hx);have h2:=ka (l:=l2) λx hx=>h x (aa _ (ak _ hx));lia
theorem mf.ends{ps:List Bw}(F:mf ps){p q:Bw}(hp:p∈ps)(hq:q∈ps):(p.1=q.1->p.2=q.2)/\p.1≠q.2/\(p.2=q.2->p.1=q.1):=by
 have hm:=F.mem hp;have hm':=F.mem hq;have two:∀i:Nat,i<2*ps.length->∀a∈ps,∀b∈ps,at1 i a=true->at1 i b=true->a=b:=λi hi a ha b hb e1 e2=>by
  have:=F.one hi;by_cases z:a=b
  ·exact z
  ·have h2:1<ps.countP (at1 i):=by
    have:=nK (l:=ps) (P:=λx=>decide (x=a)) (Q:=at1 i) (λx _ hx=>by rw[MR hx];exact e1) hb e2 (MQ λe=>z e.symm);have h1:0<ps.countP (λx=>decide (x=a)):=dm.mpr ⟨a,ha,decide_eq_true rfl⟩;lia
   lia
 have two2:∀i:Nat,i<2*ps.length->∀a∈ps,∀b∈ps,at2 i a=true->at2 i b=true->a=b:=λi hi a ha b hb e1 e2=>by
  have:=F.one hi;by_cases z:a=b
  ·exact z
  ·have h2:1<ps.countP (at2 i):=by
    have:=nK (l:=ps) (P:=λx=>decide (x=a)) (Q:=at2 i) (λx _ hx=>by rw[MR hx];exact e1) hb e2 (MQ λe=>z e.symm);have h1:0<ps.countP (λx=>decide (x=a)):=dm.mpr ⟨a,ha,decide_eq_true rfl⟩;lia
   lia
 refine⟨λe=>?_,λe=>?_,λe=>?_⟩
 ·rw[two p.1.toNat (by lia) p hp q hq (decide_eq_true (by lia)) (decide_eq_true (by lia))]
 ·have:=F.one (i:=p.1.toNat) (by lia);have h1:0<ps.countP (at1 p.1.toNat):=dm.mpr ⟨p,hp,decide_eq_true (by lia)⟩;have h2:0<ps.countP (at2 p.1.toNat):=dm.mpr ⟨q,hq,decide_eq_true (by lia)⟩;lia
 ·rw[two2 p.2.toNat (by lia) p hp q hq (decide_eq_true (by lia)) (decide_eq_true (by lia))]
theorem Cd{a b c d:Int}(hab:a<b)(n2:¬(c<a/\a<d/\d<b))(e1:a≠d)(e2:d=b->c=a)(h1:c<a)(h2:a<=d):b<d:=by
 apply jC;intro h;have h3:¬d<b:=λz=>n2 ⟨h1,by lia,z⟩;have h4:d=b:=by lia
 have:=e2 h4;lia
theorem AS{a b c d:Int}(n1:¬(a<c/\c<b/\b<d))(e1:c=a->d=b)(e2:c≠b)(h1:c<b+1)(h2:b+1<=d):c<a:=by
 apply jC;intro h;have h3:¬a<c:=λz=>n1 ⟨z,by lia,by lia⟩;have h4:c=a:=by lia
 have:=e1 h4;lia
theorem mf.mate{ps:List Bw}(F:mf ps)(nc:∀p∈ps,∀q∈ps,bX p q=false){p:Bw}(hp:p∈ps):iq (dw ps) p.1.toNat p.2.toNat:=by
 obtain⟨m1,m2,m3⟩:=F.mem hp;have c1:((p.1.toNat:Nat):Int)=p.1:=iO m1;have c2:((p.2.toNat:Nat):Int)=p.2:=iO (kD (Int.lt_of_le_of_lt m1 m2));have lt:p.1.toNat<p.2.toNat:=kC.mp (by rw[c1,c2];exact m2);have lb:p.2.toNat<2*ps.length:=kC.mp (by rw[c2];exact m3);have la:p.1.toNat<2*ps.length:=fM lt lb;have n1:∀q∈ps,¬(p.1<q.1/\q.1<p.2/\p.2<q.2):=λq hq ⟨a,b,c⟩=>by
  have:=nc p hp q hq;unfold bX at this;rw[decide_eq_true a,decide_eq_true b,decide_eq_true c] at this;cases this
 have n2:∀q∈ps,¬(q.1<p.1/\p.1<q.2/\q.2<p.2):=λq hq ⟨a,b,c⟩=>by
  have:=nc q hq p hp;unfold bX at this;rw[decide_eq_true a,decide_eq_true b,decide_eq_true c] at this;cases this
 have over:∀q∈ps,q.1<p.1->p.1<=q.2->p.2<q.2:=λq hq=>Cd m2 (n2 q hq) (F.ends hp hq).2.1 (F.ends hq hp).2.2;refine⟨lt,by rw[lD];exact lb,?_,?_,?_,λi h1 h2=>?_⟩
 ·rw[oQ la,decide_eq_true];exact af.mpr ⟨p,hp,c1.symm⟩
 ·rw[oQ lb,MQ];intro z;obtain⟨q,hq,e⟩:=af.mp z;exact(F.ends hq hp).2.1 (e.trans c2)
 ·rw[F.D (p.2.toNat+1) lb,F.D _ (aS la)];congr 1;refine jQ λq hq=>?_;simp only[kT,bL,MP,Int.natCast_add,Int.natCast_one];rw[c1,c2];refine⟨λ⟨b1,b2⟩=>⟨AS (n1 q hq) (F.ends hq hp).1 (F.ends hq hp).2.1 b1 b2,?_⟩,λ⟨b1,b2⟩=>⟨?_,over q hq b1 b2⟩⟩
  ·exact Int.le_trans (kD m2) (kD b2)
  ·exact md (md b1 m2) (Int.lt_succ p.2)
 ·have i1:p.1<(i:Int):=by rw[<-c1];exact kC.mpr h1
  have i2:(i:Int)<=p.2:=by rw[<-c2];exact Int.ofNat_le.mpr h2
  rw[F.D _ (aS la),F.D _ (aS (eF h2 lb))];refine kC.mpr (nK (l:=ps) (P:=kT p.1.toNat) (Q:=kT i) (λq hq hc=>?_) hp ?_ ?_)
  ·simp only[kT,bL,MP] at hc ⊢;rw[c1] at hc;exact⟨md hc.1 i1,Int.le_trans i2 (kD (over q hq hc.1 hc.2))⟩
  ·simp only[kT,bL,MP];exact⟨i1,i2⟩
  ·simp only[kT,Bool.and_eq_false_iff,decide_eq_false_iff_not];exact .inl (by rw[c1];exact Int.lt_irrefl _)
theorem uj{es:List PyData}(h:es.length≠2):eB (.tuple es)=false:=by
 cases e:eB (.tuple es) with
 | false=>rfl
 | true=>
  have:=(mX e).1;unfold tm at this;injection this with this
  rw[this] at h;exact absurd rfl h
theorem DF{d e:PyData}(h:eW d=false):eB (.tuple [d,e])=false:=by cases d<;>first | rfl | cases h
theorem DD{d e:PyData}(h:eW e=false):eB (.tuple [d,e])=false:=by cases d<;>cases e<;>first | rfl | cases h
theorem zx{α:Type}:∀{l:List α},l.length=2->∃a b,l=[a,b]
 | [a,b],_=>⟨a,b,rfl⟩
def Fj(p q:Bw):Bool:=decide (q.1<p.1)&&decide (p.2<q.2)
def EC(p:Bw):Int:=p.2-p.1
abbrev Oe:=Int×Int
def chain:Bool->List Int->Bool->List Bw
 | s,a::b::rest,t=>(if (!s)=t then [(min a b,max a b)] else [])++chain (!s) (b::rest) t
 | _,_,_=>[]
def BZ(s:Bool)(R:List Int):Bool:=s ^^ odd R.length
def Fk(R:List Int):Int:=R.head?.getD 0
def ltZ(R:List Int):Int:=R.getLast?.getD 0
structure Pc where
 lab:Int
 rows:List Int
 s:Bool
 main:Bool
def Pc.fst(p:Pc):Oe×Bool:=((Fk p.rows,p.lab),p.s)
def Pc.lst(p:Pc):Oe×Bool:=((ltZ p.rows,p.lab),BZ p.s p.rows)
def Pc.more(p:Pc):List (Oe×Bool):=if p.main then [] else [p.fst]
def Pc.ends(p:Pc):List (Oe×Bool):=p.lst::p.more
def Pc.rev(p:Pc):Pc:={ p with rows:=p.rows.reverse,s:=BZ p.s p.rows }
def Pc.bows(t:Bool)(p:Pc):List Bw:=chain p.s p.rows t
theorem rK{K:MU}{H:Hp}{m n:Int}{neg:Bool}{Q:VK}(q:Q (.bl (if neg then !decide (m=n) else decide (m=n))) H):uU K neg (.int m) (.int n) H Q:=
 ⟨.int m,.int n,.int _,.int _,rfl,rfl,bH _,by
  have e:PyData.eqv (.int m) (.int n)=decide (m=n):=rfl;rw[e];exact q⟩
theorem AZ{n i:Nat}(h:i<n):A2 n (i:Int)=some i:=by
 unfold A2;rw[MO (by lia),MO (by lia)];simp
def NC(b:Bool)(ns:List Int):Prop:=∀u,∀p∈bF b ns u (ns.length+1),∀q∈bF b ns u (ns.length+1),bX p q=false
def v7:Sp:=λvs H Q _=>∃m o b ns,vs=[.ref m]/\fR H m o b ns/\ns.length<=40/\∀fd (g:Bool->Addr) H',H fd=none->(∀u,H (g u)=none)->aX H H'->H' fd=some (.lst [.ref (g false),.ref (g true)])->(∀u,cK H' (g u) (bF b ns u (ns.length+1)))->g false≠g true->Q (.ref fd) H'
def gH(ps:List Bw):Bool:=ps.any λp=>ps.any λq=>bX p q
def nT:Sp:=λvs H Q _=>∃l ps,vs=[.ref l]/\cK H l ps/\Q (.bl (gH ps)) H
theorem ku{ps:List Bw}(h:∀p∈ps,∀q∈ps,bX p q=false):gH ps=false:=by
 unfold gH;rw[jR];intro p hp;rw[Bool.not_eq_true,jR];intro q hq;rw[h p hp q hq];decide
theorem rP{ps:List Bw}{p q:Bw}(hp:p∈ps)(hq:q∈ps)(h:bX p q=true):gH ps=true:=List.any_eq_true.mpr ⟨p,hp,List.any_eq_true.mpr ⟨q,hq,h⟩⟩
end Rm
namespace L2
open PySem PySem.Spec PyProof.Rows
structure pS (z TI TO i1 i2:Addr) (f1 f2:List Addr):Prop where
 tz:TI≠z
 oz:TO≠z
 az:i1≠z
 bz:i2≠z
 to:TI≠TO
 ta:TI≠i1
 tb:TI≠i2
 oa:TO≠i1
 ob:TO≠i2
 ab:i1≠i2
 z1:z∉f1
 o1:TO∉f1
 b1:i2∉f1
 z2:z∉f2
 o2:TO∉f2
 a2:i1∉f2
section
variable {prog:Program} {w:World} {A:Around} {E:Value->Shared->Prop} {s:Shared} {z TI TO i1 i2:Addr} {f1 f2:List Addr} {n1 n2 k:Nat} {P1 P2:Nat->Value->Prop} {S1 S2:Nat->Heap->Prop} {a b:Value}
theorem eE{it:Addr}{fp:List Addr}{n i:Nat}{P:Nat->Value->Prop}{S:Nat->Heap->Prop}{h h':Heap}{c:Addr}(D:Draws prog w A it fp n P S)(st:S i h)(sb:Heap.SameBut c h h')(hc:c∉fp):S i h':=
 D.frame i h h' st λb hb o e=>(sb.2 b (λq=>hc (q▸hb))).trans e
theorem wJ{Q:Value->Shared->Prop}(D1:Draws prog w A i1 f1 n1 P1 S1)(D2:Draws prog w A i2 f2 n2 P2 S2)(ap:pS z TI TO i1 i2 f1 f2)(hz:IsZip s.heap z TI TO .none)(hTI:IsPair s.heap TI (.ref i1) (.ref i2))(hTO:IsPair s.heap TO a b)(h1:S1 k s.heap)(h2:S2 k s.heap)(k1:k<n1)(k2:k<n2)
  (hQ:∀(h':Heap) (x y:Value) (tk:Nat),P1 k x->P2 k y->IsZip h' z TI TO (rawInt s.heap.objs.size)->IsPair h' TO x y->S1 (k+1) h'->S2 (k+1) h'->IsPair h' s.heap.objs.size x y->(∀c o,c≠z->c≠TO->c≠i1->c≠i2->s.heap.get? c=some o->h'.get? c=some o)->Q (.ref s.heap.objs.size) { s with heap:=h',toks:=tk }) :
  wpAny (model prog w) A (Builtin.«zip.__next__» ⟨[.ref z],[]⟩) (λfin s'=>∃v,fin=.done (.ret v)/\Q v s') E s:=by
 show wpAny _ _ (field (.ref z) 2>>=_) _ _ _;refine wpAny_bind (MI hz rfl (x:=.bool false) rfl ?_);show wpAny _ _ (field (.ref z) 3>>=_) _ _ _;refine wpAny_bind (MI hz rfl (x:=.ref TI) rfl ?_);refine wpAny_bind (MJ hTI rfl ?_);show wpAny _ _ (Builtin.SmallTypes.ownedTupleIsFree (.ref z)>>=_) _ _ _;refine wpAny_bind ?_;unfold Builtin.SmallTypes.ownedTupleIsFree;refine wpAny_bind (MI hz rfl (x:=.none) rfl (Lq ?_));simp only[MS];refine wpAny_bind (wpAny_rule ?_);refine wpAny_bind (MI hz rfl (x:=.ref TO) rfl ?_);refine wpAny_bind (ML hz (by simp) λg1 hz1 b1=>?_)
 replace hz1:IsZip g1 z TI TO .ellipsis:=hz1
 refine wpAny_bind ?_;simp only[List.zipIdx_cons,List.zipIdx_nil,iG,List.forIn_nil];refine wpAny_bind (wpAny_bind (wpAny_onRaise ?_));show wpAny _ _ (Builtin.SmallTypes.nextOf (.ref i1)>>=_) _ _ _;refine wpAny_bind (D1.item k { s with heap:=g1 } _ _ k1 (eE D1 h1 b1 ap.z1) λx g2 t2 px s2 b2=>Lq ?_);have hT2:IsPair g2 TO a b:=b2.extBut _ _ ap.oa (b1.extBut _ _ ap.oz hTO);refine wpAny_bind (MJ hT2 rfl ?_);refine wpAny_bind (wpAny_updateSeq_pair hT2 λg3 hT3 b3=>?_)
 replace hT3:IsPair g3 TO x b:=hT3
 refine wpAny_bind (wpAny_letGo (Lq ?_));refine wpAny_bind (wpAny_bind (wpAny_onRaise ?_));show wpAny _ _ (Builtin.SmallTypes.nextOf (.ref i2)>>=_) _ _ _;refine wpAny_bind (D2.item k { s with heap:=g3,toks:=t2 } _ _ k2 (eE D2 (eE D2 (eE D2 h2 b1 ap.z2) b2 ap.a2) b3 ap.o2) λy g4 t4 py s4 b4=>Lq ?_);have hT4:IsPair g4 TO x b:=b4.extBut _ _ ap.ob hT3;refine wpAny_bind (MJ hT4 rfl ?_);refine wpAny_bind (wpAny_updateSeq_pair hT4 λg5 hT5 b5=>?_)
 replace hT5:IsPair g5 TO x y:=hT5
 refine wpAny_bind (wpAny_letGo (Lq (Lq ?_)));refine wpAny_bind (MJ hT5 rfl ?_);refine wpAny_bind (wpAny_newTuple ?_);have hsz:g5.objs.size=s.heap.objs.size:=by rw[b5.1,b4.1,b3.1,b2.1,b1.1]
 have hz5:IsZip g5 z TI TO .ellipsis:=b5.extBut _ _ ap.oz.symm (b4.extBut _ _ ap.bz.symm (b3.extBut _ _ ap.oz.symm (b2.extBut _ _ ap.az.symm hz1)));have kp5:∀c o,c≠z->c≠TO->c≠i1->c≠i2->s.heap.get? c=some o->g5.get? c=some o:=λc o c1 c2 c3 c4 e=>b5.extBut _ _ c2 (b4.extBut _ _ c4 (b3.extBut _ _ c2 (b2.extBut _ _ c3 (b1.extBut _ _ c1 e))));have w1:S1 (k+1) g5:=eE D1 (eE D1 (eE D1 s2 b3 ap.o1) b4 ap.b1) b5 ap.o1;have w2:S2 (k+1) g5:=eE D2 s4 b5 ap.o2;have zlt:z<g5.objs.size:=aM hz5;show wpAny _ _ (Builtin.SmallTypes.ownedTupleHandOut (.ref z) (.ref g5.objs.size)>>=_) _ _ _;refine wpAny_bind ?_;unfold Builtin.SmallTypes.ownedTupleHandOut;have hz6:IsZip (g5.push { cls:=.type "tuple",data:=.seq #[x,y] }) z TI TO .ellipsis:=aD _ hz5;refine wpAny_bind (ML hz6 (by simp) λg7 hz7 b7=>?_)
 replace hz7:IsZip g7 z TI TO (rawInt g5.objs.size):=hz7
 refine ML hz7 (by simp) λg8 hz8 b8=>?_
 replace hz8:IsZip g8 z TI TO (rawInt g5.objs.size):=hz8
 have up:∀c o,c≠z->g5.get? c=some o->g8.get? c=some o:=λc o c1 e=>b8.extBut _ _ c1 (b7.extBut _ _ c1 (aD _ e));have hP:IsPair g8 g5.objs.size x y:=b8.extBut _ _ (gM zlt) (b7.extBut _ _ (gM zlt) (aP _ rfl));rw[hsz] at hz8 hP;refine Lq ⟨_,rfl,?_⟩;show Q (.ref g5.objs.size) _;rw[hsz];exact hQ g8 x y t4 px py hz8 (up _ _ ap.oz hT5) (D1.frame _ _ _ w1 λc hc o e=>up c o (λq=>ap.z1 (q▸hc)) e) (D2.frame _ _ _ w2 λc hc o e=>up c o (λq=>ap.z2 (q▸hc)) e) hP λc o c1 c2 c3 c4 e=>up c o c1 (kp5 c o c1 c2 c3 c4 e)
theorem xV{Q:Fin->Shared->Prop}(D1:Draws prog w A i1 f1 n1 P1 S1)(ap:pS z TI TO i1 i2 f1 f2)(hz:IsZip s.heap z TI TO .none)(hTI:IsPair s.heap TI (.ref i1) (.ref i2))(h1:S1 n1 s.heap)
  (hE:∀h' e,(∀c o,c≠z->c≠i1->s.heap.get? c=some o->h'.get? c=some o)->(∃o,h'.get? e=some o/\o.cls=.type "StopIteration")->E (.ref e) { s with heap:=h' }):wpAny (model prog w) A (Builtin.«zip.__next__» ⟨[.ref z],[]⟩) Q E s:=by
 show wpAny _ _ (field (.ref z) 2>>=_) _ _ _;refine wpAny_bind (MI hz rfl (x:=.bool false) rfl ?_);show wpAny _ _ (field (.ref z) 3>>=_) _ _ _;refine wpAny_bind (MI hz rfl (x:=.ref TI) rfl ?_);refine wpAny_bind (MJ hTI rfl ?_);show wpAny _ _ (Builtin.SmallTypes.ownedTupleIsFree (.ref z)>>=_) _ _ _;refine wpAny_bind ?_;unfold Builtin.SmallTypes.ownedTupleIsFree;refine wpAny_bind (MI hz rfl (x:=.none) rfl (Lq ?_));simp only[MS];refine wpAny_bind (wpAny_rule ?_);refine wpAny_bind (MI hz rfl (x:=.ref TO) rfl ?_);refine wpAny_bind (ML hz (by simp) λg1 hz1 b1=>?_)
 replace hz1:IsZip g1 z TI TO .ellipsis:=hz1
 refine wpAny_bind ?_;simp only[List.zipIdx_cons,List.zipIdx_nil,iG,List.forIn_nil];refine wpAny_bind (wpAny_bind (wpAny_onRaise ?_));show wpAny _ _ (Builtin.SmallTypes.nextOf (.ref i1)>>=_) _ _ _;refine wpAny_bind (D1.done { s with heap:=g1 } _ _ (eE D1 h1 b1 ap.z1) λg2 e b2 he=>?_);obtain⟨oe,hoe,hce⟩:=he;have hz2:IsZip g2 z TI TO .ellipsis:=b2 _ _ ap.az.symm hz1;have hez:e≠z:=λx=>by subst x;rw[hz2] at hoe;cases hoe;simp at hce
 exact ML hz2 (by simp) λg3 _ b3=>hE g3 e (λc o c1 c3 x=>b3.extBut _ _ c1 (b2 _ _ c3 (b1.extBut _ _ c1 x))) ⟨oe,b3.extBut _ _ hez hoe,hce⟩
theorem uc{Q:Option Value->Shared->Prop}(D1:Draws prog w A.in1 i1 f1 n1 P1 S1)(D2:Draws prog w A.in1 i2 f2 n2 P2 S2)(ap:pS z TI TO i1 i2 f1 f2)(hz:IsZip s.heap z TI TO .none)(hTI:IsPair s.heap TI (.ref i1) (.ref i2))(hTO:IsPair s.heap TO a b)(h1:S1 k s.heap)(h2:S2 k s.heap)(k1:k<n1)(k2:k<n2)
  (hQ:∀(h':Heap) (x y:Value) (tk:Nat),P1 k x->P2 k y->IsZip h' z TI TO (rawInt s.heap.objs.size)->IsPair h' TO x y->S1 (k+1) h'->S2 (k+1) h'->IsPair h' s.heap.objs.size x y->(∀c o,c≠z->c≠TO->c≠i1->c≠i2->s.heap.get? c=some o->h'.get? c=some o)->Q (some (.ref s.heap.objs.size)) { s with heap:=h',toks:=tk }) :
  wpAny (model prog w) A (pyNext (.ref z)) Q E s:=by
 have hT:s.TypeIs (.ref z) "zip":=⟨_,hz,rfl⟩
 unfold pyNext;exact wpAny_bind (MB (wpAny_callSpecial?_slot (name:=Str.ofString "__next__") hT iH (MA iH hT F.entry_zip_next (wJ D1 D2 ap hz hTI hTO h1 h2 k1 k2 λh' x y tk q1 q2 q3 q4 q5 q6 q7 q8=>Lq (hQ h' x y tk q1 q2 q3 q4 q5 q6 q7 q8)) (F.args_zip_next_1 _))))
theorem wj{Q:Option Value->Shared->Prop}(D1:Draws prog w A.in1 i1 f1 n1 P1 S1)(ap:pS z TI TO i1 i2 f1 f2)(hz:IsZip s.heap z TI TO .none)(hTI:IsPair s.heap TI (.ref i1) (.ref i2))(h1:S1 n1 s.heap)
  (hQ:∀h',(∀c o,c≠z->c≠i1->s.heap.get? c=some o->h'.get? c=some o)->Q none { s with heap:=h' }):wpAny (model prog w) A (pyNext (.ref z)) Q E s:=by
 have hT:s.TypeIs (.ref z) "zip":=⟨_,hz,rfl⟩
 unfold pyNext;refine wpAny_bind (MB (wpAny_callSpecial?_slot (name:=Str.ofString "__next__") hT iH (MA iH hT F.entry_zip_next (xV D1 ap hz hTI h1 λh' e hk he=>?_) (F.args_zip_next_1 _))));obtain⟨o,ho,hc⟩:=he;exact wpAny_bind (wpAny_isInstance (T:="StopIteration") (b:=true) ⟨o,ho,hc⟩ isSubtype_stop (Lq (hQ _ hk)))
end
abbrev xU (h:Heap) (l:Addr):Heap:=h.push { cls:=.type "tuple_iterator",data:=.fields #[.ref l,.int 0 0] }
abbrev Ed (h:Heap) (l1 l2:Addr):Heap:=(xU (xU h l1) l2).push { cls:=.type "tuple",data:=.seq #[.ref h.objs.size,.ref (xU h l1).objs.size] }
abbrev Ec (h:Heap) (l1 l2:Addr):Heap:=(Ed h l1 l2).push { cls:=.type "tuple",data:=.seq #[.none,.none] }
abbrev DQ (h:Heap) (l1 l2:Addr):Heap:=(Ec h l1 l2).push { cls:=.type "zip",data:=.fields #[.none,.bool false,.bool false,.ref (xU (xU h l1) l2).objs.size,.ref (Ed h l1 l2).objs.size] }
theorem AU (l1 l2:Addr) (xs ys:Array Value):Meets (Builtin.«zip.__new__» ⟨[.type "zip",.ref l1,.ref l2],[]⟩) (λ_ R s=>s.heap.IsTuple l1 xs/\s.heap.IsTuple l2 ys/\R (.ok (.ret (.ref (Ec s.heap l1 l2).objs.size))) { s with heap:=DQ s.heap l1 l2 }):=.of_wp λprog w A R s h=>by
  obtain⟨hp,g,d,tk,os⟩:=s;obtain⟨hl1,hl2,h⟩:=h;have hsub:=sub_zip;have hL1:Heap.IsTuple (Shared.heap ⟨hp,g,d,tk,os⟩) l1 xs:=hl1;have hL2:Heap.IsTuple (Shared.heap ⟨hp.push { cls:=.type "tuple_iterator",data:=.fields #[.ref l1,.int 0 0] },g,d,tk,os⟩) l2 ys:=Heap.IsTuple.push hl2 _
  wp_walk using MH hL1,MH hL2;exact⟨_,rfl,h⟩
theorem DC{prog:Program}{w:World}{A:Around}{E:Value->Shared->Prop}{s:Shared}{l1 l2:Addr}{xs ys:Array Value}{Q:Value->Shared->Prop}(hl1:s.heap.IsTuple l1 xs)(hl2:s.heap.IsTuple l2 ys)
  (h:∀h' n,n=s.heap.objs.size->IsZip h' (n+4) (n+2) (n+3) .none->IsPair h' (n+2) (.ref n) (.ref (n+1))->IsPair h' (n+3) .none .none->h'.IsTupleIter n l1 0->h'.IsTupleIter (n+1) l2 0->(∀c o,s.heap.get? c=some o->h'.get? c=some o)->Q (.ref (n+4)) { s with heap:=h' }):wpAny (model prog w) A (call (.type "zip") [.ref l1,.ref l2]) Q E s:=by
 refine callType_new F.called_zip (by decide) (F.typeCall_zip_2 _ _) (F.newCall_zip_2 _ _) (λobj=>F.args_object_init_3 obj _ _) F.entry_zip_new (AU l1 l2 xs ys) ⟨hl1,hl2,?_⟩;have z1:(xU s.heap l1).objs.size=s.heap.objs.size+1:=du ..;have z2:(xU (xU s.heap l1) l2).objs.size=s.heap.objs.size+2:=by rw[du,z1]
 have z3:(Ed s.heap l1 l2).objs.size=s.heap.objs.size+3:=by rw[du,z2]
 have z4:(Ec s.heap l1 l2).objs.size=s.heap.objs.size+4:=by rw[du,z3]
 have g5:(DQ s.heap l1 l2).get? (Ec s.heap l1 l2).objs.size=some _:=aP _ rfl;have g4:(DQ s.heap l1 l2).get? (Ed s.heap l1 l2).objs.size=some _:=aD _ (aP _ rfl);have g3:(DQ s.heap l1 l2).get? (xU (xU s.heap l1) l2).objs.size=some _:=aD _ (aD _ (aP _ rfl));have g2:(DQ s.heap l1 l2).get? (xU s.heap l1).objs.size=some _:=aD _ (aD _ (aD _ (aP _ rfl)));have g1:(DQ s.heap l1 l2).get? s.heap.objs.size=some _:=aD _ (aD _ (aD _ (aD _ (aP _ rfl))));show _/\_;rw[z2,z3,z4] at g5;rw[z1,z2] at g3;rw[z3] at g4;rw[z1] at g2;rw[z4];exact⟨⟨_,g5,rfl⟩,h _ _ rfl g5 g3 g4 ⟨_,g1,rfl,rfl⟩ ⟨_,g2,rfl,rfl⟩ λc o x=>aD _ (aD _ (aD _ (aD _ (aD _ x))))⟩
def Aq(K:MU)(a b:Addr):It:=
  ⟨λi H=>∃xs ys x y,cg K H a xs/\cg K H b ys/\xs[i]? = some x/\ys[i]? = some y,
   λi H v H'=>∃p x y,H p=none/\(∀xs,cg K H a xs->xs[i]? = some x)/\(∀ys,cg K H b ys->ys[i]? = some y)/\v=.ref p/\H'=bU H p (.tup [x,y]),
   λi H=>∃xs,cg K H a xs/\xs.length=i⟩
theorem wK {P : Program} {w : World} {K : MU} {elts : List Expr} {x1 : Nat} {pos : Pos} (n a b : Addr) (ha : a < n) (hb : b < n) :
    Turn P w K (.Tuple elts x1 pos) (Aq K a b) [n + 4, n + 2, n + 3, n, n + 1] (n + 4) (fun i h => IsZip h (n + 4) (n + 2) (n + 3) .none ∧ IsPair h (n + 2) (.ref n) (.ref (n + 1)) ∧ (∃ u v, IsPair h (n + 3) u v) ∧ h.IsTupleIter n a i ∧ h.IsTupleIter (n + 1) b i) := by
  have hap : pS (n + 4) (n + 2) (n + 3) n (n + 1) [n, a] [n + 1, b] := by
    have h1 : @LT.lt Nat _ a n := ha
    have h2 : @LT.lt Nat _ b n := hb
    constructor <;> first
      | (intro h; simp only [aZ, cX, or_false] at h; rcases h with h | h <;> (have h' : @Eq Nat _ _ := h; lia))
      | (intro h; have h' : @Eq Nat _ _ := h; lia)
  exact {
    mem := by simp
    obj := fun i h st c hb => by
      obtain ⟨h1, h2, ⟨u, v, h3⟩, ⟨o4, e4, c4, d4⟩, ⟨o5, e5, c5, d5⟩⟩ := st
      simp only [aZ, cX, or_false] at hb
      rcases hb with rfl | rfl | rfl | rfl | rfl
      · exact ⟨_, h1, fun v z => by cases z⟩
      · exact ⟨_, h2, fun v z => by cases z⟩
      · exact ⟨_, h3, fun v z => by cases z⟩
      · exact ⟨o4, e4, fun v z => by rw [d4] at z; cases z⟩
      · exact ⟨o5, e5, fun v z => by rw [d5] at z; cases z⟩
    keep := fun i h h' st k => by
      obtain ⟨h1, h2, ⟨u, v, h3⟩, h4, h5⟩ := st
      exact ⟨k _ (by simp) _ h1, k _ (by simp) _ h2, ⟨u, v, k _ (by simp) _ h3⟩, h4.at fun o e => k _ (by simp) o e, h5.at fun o e => k _ (by simp) o e⟩
    item := by
      intro X hP hw hK hc i pins s σ H E I hf st hg
      subst hP hw hK
      obtain ⟨h1, h2, ⟨u0, v0, h3⟩, h4, h5⟩ := st
      obtain ⟨xs, ys, x, y, hqa, hqb, hx, hy⟩ := hg
      obtain ⟨ia, ra, pa, _⟩ := I.tuple hqa
      obtain ⟨ib, rb, pb, _⟩ := I.tuple hqb
      obtain ⟨ua, hua, rua⟩ := ra.get hx
      obtain ⟨ub, hub, rub⟩ := rb.get hy
      have hA : X.A.in1.handled = none := I.ok.hd hc
      have la : i < ia.toArray.size := by rw [aQ]; exact (aE.mp hua).1
      have lb : i < ib.toArray.size := by rw [aQ]; exact (aE.mp hub).1
      refine uc (Draws.tup hA n a (ac ha) ia.toArray) (Draws.tup hA (n + 1) b (ac (cP hb)) ib.toArray) hap h1 h2 h3 ⟨h4, pa⟩ ⟨h5, pb⟩ la lb fun h' x' y' tk e1 e2 hz ho hi1 hi2 hp kp => ?_
      have e1' : x' = ua := by have : ia[i]? = some x' := by simpa using e1
                               rw [hua] at this; cases this; rfl
      have e2' : y' = ub := by have : ib[i]? = some y' := by simpa using e2
                               rw [hub] at this; cases this; rfl
      subst e1' e2'
      refine ⟨_, rfl, wpAny_letOwnedTupleGo_zip hz fun hh hz2 hs2 => ?_⟩
      have hn : H s.heap.objs.size = none := I.hok.fresh (aH _)
      have lz : s.heap.objs.size ≠ n + 4 := gM (aM h1)
      have ht2 : hh.get? s.heap.objs.size = some { cls := .type "tuple", data := .seq #[x', y'] } := (hs2.2 _ lz).trans hp
      refine ⟨.ref s.heap.objs.size, bU H s.heap.objs.size (.tup [x, y]), I.turnNew (fp := [n + 4, n + 2, n + 3, n, n + 1]) hf (fun c o hb q => ?_) (aH _) (show cL X.prog X.w _ hh _ (.tup _) from ⟨(by show 2 ≤ sizeLine; decide), [x', y'], .cons rua (.cons rub .nil), _, ht2, rfl, _, rfl⟩), rfl, ⟨_, x, y, hn, fun zs hz => by rw [I.tuple_inj hz hqa]; exact hx, fun zs hz => by rw [I.tuple_inj hz hqb]; exact hy, rfl, rfl⟩, ?_, fun c hb => ?_⟩
      · simp only [aZ, cX, or_false, not_or] at hb
        exact (hs2.2 c hb.1).trans (kp c o hb.1 hb.2.2.1 hb.2.2.2.1 hb.2.2.2.2 q)
      · exact ⟨hz2, (hs2.2 _ hap.tz).trans (kp _ _ hap.tz hap.to hap.ta hap.tb h2), ⟨_, _, (hs2.2 _ hap.oz).trans ho⟩, hi1.1.at fun o e => (hs2.2 _ hap.az).trans e, hi2.1.at fun o e => (hs2.2 _ hap.bz).trans e⟩
      · have hb' := (hf c hb).1
        rw [aK (fun z => ?_)]
        · exact hb'
        · have hz4 : @LT.lt Nat _ (n + 4) s.heap.objs.size := aM h1
          have z' : @Eq Nat c s.heap.objs.size := z
          simp only [aZ, cX, or_false] at hb
          rcases hb with h | h | h | h | h <;> (have h' : @Eq Nat _ _ := h; lia)
    done := by
      intro X hP hw hK hc i pins s σ H E I hf st hg
      subst hP hw hK
      obtain ⟨h1, h2, ⟨u0, v0, h3⟩, h4, h5⟩ := st
      obtain ⟨xs, hqa, hx⟩ := hg
      obtain ⟨ia, ra, pa, _⟩ := I.tuple hqa
      have la := ra.length
      have hA : X.A.in1.handled = none := I.ok.hd hc
      have ei : ia.toArray.size = i := by rw [aQ]; lia
      refine wj (Draws.tup hA n a (ac ha) ia.toArray) hap h1 h2 ⟨by rw [ei]; exact h4, pa⟩ fun h' kp => ⟨rfl, I.turnAll (t' := s.toks) hf fun c o hb q => ?_⟩
      simp only [aZ, cX, or_false, not_or] at hb
      exact kp c o hb.1 hb.2.2.2.1 q
    self := fun _ _ _ _ _ st h => wpAny_pyIter_zip st.1 h }
def B2(K:MU)(ta:TA):TI:=λσ H R=>ta σ H λvs H1=>∃a b,vs=[.ref a,.ref b]/\(∃xs,cg K H1 a xs)/\(∃ys,cg K H1 b ys)/\R (Aq K a b) H1
theorem yh {X:Cx} {a b:Expr} {ta:TA} {elts:List Expr} {x1:Nat} {p pos tpos:Pos} (hg:Gl X "zip") (hm:X.mg "zip"=none) (ha:QA X [a,b] ta) (hs:starEach [a,b] X.env=(false,eval a X.env)::starEach [b] X.env:=by rfl) (hpl:(backTo pos (starEach [b] X.env)).any (·.1)=false:=by rfl) :
  QI X (.Tuple elts x1 tpos) (.Call (.Name "zip" p) [a,b] [] pos) (B2 X.K ta):=⟨by
 intro pins s σ H R I h;refine Call_ (nF I hg hm boot_zip (dB (cm (ha.h pos pins s σ H _ I h) λus s1 ⟨vs,H1,I1,r1,z1,z2,e,⟨xs,hx⟩,⟨ys,hy⟩,q⟩=>?_) hs hpl));subst e;obtain⟨u,u',rfl,r2,r3⟩:=vals2 r1;cases r2;cases r3;obtain⟨ia,ra,pa,_⟩:=I1.tuple hx;obtain⟨ib,rb,pb,_⟩:=I1.tuple hy;have ha':s1.heap.IsTuple z1 ia.toArray:=pa;have hb':s1.heap.IsTuple z2 ib.toArray:=pb;obtain⟨oa,hoa,_⟩:=id ha';obtain⟨ob,hob,_⟩:=id hb';refine DC ha' hb' λh' n en hz hti hto hi1 hi2 kp=>?_;refine wpAny_pyIter_zip hz ?_;have I2:bE X pins σ H1 { s1 with heap:=h' }:=I1.kept (t':=s1.toks) kp;refine⟨_,_,_,_,H1,rfl,I2,wK n z1 z2 (by rw[en];exact aM hoa) (by rw[en];exact aM hob),⟨hz,hti,⟨_,_,hto⟩,hi1,hi2⟩,λb hb=>?_,q⟩;have hle:s1.heap.objs.size<=b:=by
  simp only[aZ,cX,or_false] at hb;have en':@Eq Nat n s1.heap.objs.size:=en;show @LE.le Nat _ _ _;rcases hb with h | h | h | h | h<;>(have h':@Eq Nat _ _:=h;lia)
 exact I1.fpOk hle (I1.hok.fresh hle)⟩
theorem vH{K:MU}{σ:St}{H:Hp}{D:Ends}{ta:TA}{g:TG}{tb:TS}:oX (B2 K ta) g tb D σ H=ta σ H λvs H1=>∃a b,vs=[.ref a,.ref b]/\(∃xs,cg K H1 a xs)/\(∃ys,cg K H1 b ys)/\nO (Aq K a b) g tb D σ H1:=rfl
theorem zN{K:MU}{σ:St}{H:Hp}{D:Ends}{a b:Addr}{xs ys:List V}{g:TG}{tb:TS}(hle:xs.length<=ys.length)(Pv:Nat->St->Hp->Prop)(h0:Pv 0 σ H)(hl:∀i σ H,Pv i σ H->cg K H a xs/\cg K H b ys)
  (hs:∀i x y σ H p,xs[i]? = some x->ys[i]? = some y->Pv i σ H->H p=none->g (.ref p) σ (bU H p (.tup [x,y])) λσ2 H2=>tb { D with nx:=Pv (i+1),ct:=Pv (i+1),bk:=D.nx } σ2 H2) (hd:∀σ H,Pv xs.length σ H->D.nx σ H):nO (Aq K a b) g tb D σ H:=by
 refine⟨λi m σ H=>m+i=xs.length/\Pv i σ H,⟨xs.length,rfl,h0⟩,?_⟩;rintro i m σ H ⟨hm,hp⟩;obtain⟨q1,q2⟩:=hl i σ H hp;by_cases hi:i<xs.length
 ·refine .inr ⟨⟨xs,ys,xs[i],ys[i],q1,q2,by simp[hi],by simp[aO hi hle]⟩,Pv (i+1),λσ' H' h=>⟨m - 1,by lia,by lia,h⟩,?_⟩;rintro v H' ⟨p,x,y,hn,hx,hy,rfl,rfl⟩;exact hs i x y σ H p (hx xs q1) (hy ys q2) hp hn
 ·have e:i=xs.length:=by lia
  subst e;exact .inl ⟨⟨xs,q1,rfl⟩,hd σ H hp⟩
end L2
namespace Rm
open PySem L2 PyProof.Rows
def DN(H:Hp)(t:Addr)(u:Bool)(p q:Bw):Prop:=∃a c,H t=some (.tup [.str (sd u),.ref a,.ref c])/\d6 H a p/\d6 H c q
def qC:Sp:=λvs H Q _=>∃m o b ns,vs=[.ref m]/\fR H m o b ns/\l8 ns/\(NC b ns->∀H',aX H H'->Q .non H') ∧
 ∀u,∀p∈bF b ns u (ns.length+1),∀q∈bF b ns u (ns.length+1),bX p q=true->∀t H',aX H H'->DN H' t u p q->Q (.ref t) H'
def FD(b:Bool)(ns:List Int):PyData:=.tuple [.str (sd b),.tuple (ns.map PyData.int)]
theorem fR.dat{H:Hp}{m o:Addr}{b:Bool}{ns:List Int}(h:fR H m o b ns):Dat H (.ref m) (FD b ns):=.tup h.1 (.cons (.str _) (.cons (.tup h.2 (kt ns)) .nil))
theorem Cg{b:Bool}{ns:List Int}(O:l8 ns):tE (FD b ns)=true:=by
 show (nW (.str (sd b))&&my (.tuple (ns.map PyData.int)))=true;have e1:nW (.str (sd b))=true:=by cases b<;>decide +kernel
 have e2:(ns.map PyData.int).map intOf=ns:=by rw[bx];show ns.map id=ns;exact List.map_id _
 have e3:(ns.map PyData.int).all eW=true:=by rw[kA,dF];intro _ _;rfl
 rw[e1,gk];show (decide ((ns.map PyData.int).length<=20)&&((ns.map PyData.int).all eW&&((ns.map PyData.int).map intOf).isPerm (dW 1 (ns.map PyData.int).length)))=true;rw[e2,e3,aF,decide_eq_true O.len,dZ.mpr O.perm];rfl
theorem Cf{b:Bool}{ns:List Int}:Pl (FD b ns) 60:=by
 refine⟨?_,?_⟩
 ·show (PyData.canLay0 (.str (sd b))&&(PyData.canLayAll0 (ns.map PyData.int)&&true))=true;rw[fF];cases b<;>decide +kernel
 ·show max 0 (max (PyData.depthAll (ns.map PyData.int)+1) 0)+1<=60;rw[jv];decide
theorem Fi{d:PyData}{k:Nat}(h:Pl d k):∀e∈[d],Pl e k:=λe he=>by rw[ar] at he;subst he;exact h
theorem Fh{d e:PyData}{k:Nat}(h:Pl d k)(g:Pl e k):∀f∈[d,e],Pl f k:=λf hf=>by
 rcases aZ.mp hf with rfl | hf
 ·exact h
 ·exact Fi g f hf
theorem BW{d e f:PyData}{k:Nat}(h:Pl d k)(g:Pl e k)(i:Pl f k):∀x∈[d,e,f],Pl x k:=λx hx=>by
 rcases aZ.mp hx with rfl | hx
 ·exact h
 ·exact Fh g i x hx
def CS:PyData->Bool
 | .none | .bool _ | .int _ | .str _=>true
 | _=>false
end Rm
namespace L2
open PySem PySem.Spec PyProof.Rows
theorem lE:∀{cs:List Addr} {us:List Value},bb (cs.map V.ref) us->us=cs.map Value.ref
 | [],_,.nil=>rfl
 | c::cs,_,.cons r t=>by
  rw[lE t];cases r;rfl
theorem ul{prog:Program}{w:World}{A:Around}{E:Value->Shared->Prop}{s:Shared}{K:MU}{a C N:Addr}{o:Obj}{od:Option Obj}{bs bm bmB:List Value}{nm q:Str}{hdct:Bool}{sn:List Str}{sub:List Value}{ab:Bool}{col:Option Bool}{dd:Option Addr}{k0 k1 k2 k3 k5:Option Value}{B newId:String}{Q:Option Value->Shared->Prop}
  (X:K.In s.heap) (I:PySem.W.InstAt s.heap a o C od) (hga:PySem.W.findIn K (.ref C) "__getattribute__"=some (some (.builtin "BaseException.__getattribute__"))) (hgt:PySem.W.findIn K (.ref C) "__getattr__"=some none)
  (hf:PySem.W.findObj K C od "__class__"=some (.bind (.builtin "getset_descriptor.__get__") (.builtin "object.__class__"))) (hm:PySem.W.mroIn K C (.type "object")=some true) (FB:ExcAttrBase B bmB)
  (hC:s.heap.get? C=some (excClassObj nm q C N bs bm hdct sn sub ab col dd k0 k1 k2 k3 k5 newId)) (T:OwnTailQ s.heap bmB bm) (hq:Q (some (.ref C)) { s with toks:=s.toks+1 }):wpAny (model prog w) A (getAttr? (.ref a) "__class__") Q E s:=by
 obtain⟨h,g,d,t,os⟩:=s;unfold getAttr?;refine wpAny_bind (wpAny_mkText ?_);unfold getAttrBy?;refine wpAny_bind (MB ?_);unfold getAttrBy;refine Lz (wpAny_bind (bq (cu I) (wpAny_bind (bq (fH X hga) ?_))));refine MC (by rfl) ?_;unfold getAttrByItsOwn hookBefore;refine wpAny_bind (wpAny_ite_true (by rfl) (bq (fH X hgt) (wpAny_bind (MB (Lz ?_)))));unfold callGetattribute boundAndCalled;refine MC (by rfl) (wpAny_bind (wpAny_of_eq (FB.ga.bind (Value.ref a)) (Lu (codeAny_call_builtin FB.ga.plain F.entry_bexc_ga (wpAny_check_ga_own FB hC T I.at_ I.cls ?_)))));unfold Builtin.«object.__getattribute__»;refine wpAny_bind ?_;unfold slotArgs;refine MC (by rfl) (MC (by rfl) (Lq ?_));show wpAny _ _ (Bind.bind (Builtin.ObjectAttr.attrName (Value.str (Str.ofString "__class__") _)) _) _ _ _;refine wpAny_bind ?_;unfold Builtin.ObjectAttr.attrName;refine Lq ?_;refine wpAny_bind (bq (cu I) (wpAny_bind (bq (PySem.W.looks_find X I hf) ?_)));unfold Builtin.ObjectAttr.bindTo;refine wpAny_bind (Lz (Lu (PySem.W.class_get X I hm ?_)));refine Lq ?_;refine PySem.W.handed_on rfl ?_;exact Lq hq
structure Bb (K:MU) (C:Addr):Prop where
 ga:PySem.W.findIn K (.ref C) "__getattribute__"=some (some (.builtin "BaseException.__getattribute__"))
 gt:PySem.W.findIn K (.ref C) "__getattr__"=some none
 fo:∀ od:Obj,PySem.W.findObj K C (some od) "__class__"=some (.bind (.builtin "getset_descriptor.__get__") (.builtin "object.__class__"))
 mro:PySem.W.mroIn K C (.type "object")=some true
 lk:∃ c dd cd sl,K.lookup C=some ⟨c,dd,.cls cd,sl⟩
 own:∃ B bmB,ExcAttrBase B bmB/\∀ h:Heap,K.In h->∃ nm q N bs bm hdct sn sub ab col dd k0 k1 k2 k3 k5 newId,h.get? C=some (excClassObj nm q C N bs bm hdct sn sub ab col dd k0 k1 k2 k3 k5 newId)/\OwnTailQ h bmB bm
def Eb(C a:Addr)(h:Heap):Prop:=∃o od,PySem.W.InstAt h a o C (some od)
theorem wq{K:MU}{C a:Addr}(k:Bb K C):PySem.W.KitX K (.ref a) (.ref C) (Eb C a):=by
 obtain⟨c,dd,cd,sl,lk⟩:=k.lk;refine⟨λM h _ x=>?_,λM h X _ A Q E s kp hq=>?_,λh tp dd' its n sl' X htp=>?_,fun {prog w A E Q s} X x hq=>?_⟩
 ·obtain⟨o,od,I⟩:=x;exact cu I
 ·exact wpAny_bind (wpAny_loadPart (kp C _ (X C _ lk)) (Lq hq))
 ·refine Bool.eq_false_iff.mpr λq=>?_;have e:=Value.ref.inj (beq_iff_eq.mp q);subst e;rw[X C _ lk] at htp;cases htp
 ·obtain⟨o,od,I⟩:=x;obtain⟨B,bmB,FB,ow⟩:=k.own;obtain⟨nm,q,N,bs,bm,hdct,sn,sub,ab,col,dd,k0,k1,k2,k3,k5,newId,hC,T⟩:=ow s.heap X;exact ul X I k.ga k.gt (k.fo od) k.mro FB hC T hq
inductive ExcAt (K:MU) (H:Hp) (a C:Addr):Prop
 | bare:H a=some (FH C a)->tw K C->ExcAt K H a C
 | dict {dx:Addr} {f:Str} {v:V}:H a=some (nH (some dx) C a)->H dx=some (.xd [(f,v)])->Bb K C->ExcAt K H a C
theorem ExcAt.same{K:MU}{H H':Hp}{a C:Addr}(h:ExcAt K H a C)(s:aX H H'):ExcAt K H' a C:=by
 cases h with
 | bare h k=>exact .bare (s _ _ h) k
 | dict h h2 k=>exact .dict (s _ _ h) (s _ _ h2) k
theorem ExcAt.kit{X:Cx}{pins:List (Addr×Obj)}{σ:St}{H:Hp}{s:Shared}{a C:Addr}(I:bE X pins σ H s)(h:ExcAt X.K H a C):∃R:Heap->Prop,PySem.W.KitX X.K (.ref a) (.ref C) R/\R s.heap:=by
 cases h with
 | bare h k=>exact⟨_,zE k,(I.hok a _ h).1⟩
 | dict h h2 k=>
  refine⟨_,wq k,?_⟩;obtain⟨⟨⟨o,o1,o2⟩,o',vs,o3,⟨o4,o5⟩,o6⟩,_⟩:=I.hok a _ h;rw[o1] at o3;cases o3;obtain⟨mA,n1,rl⟩:=I.hok _ _ h2;obtain⟨od,d1,d2⟩:=qN n1;exact⟨o,od,o1,o2,by unfold PySem.W.notCls;rw[o5],by rw[o4];exact d1⟩
def va(K:MU):List V->Hp->VK->Prop:=λxs H Q=>∃a C c cv b,xs=[.ref a,c]/\ExcAt K H a C/\((∃T,c=.ty T/\cv=Value.type T)\/∃D,c=.ref D/\cv=Value.ref D)/\PySem.W.kitOne K (.ref C) cv=some b/\Q (.bl b) H
theorem xJ {X:Cx}:fX X (.builtin "isinstance") (va X.K):=by
 intro pins s σ H xs us Q I r h;obtain⟨a,C,c,cv,b,rfl,hC,hc,e,q⟩:=h;obtain⟨u,w,rfl,rx,rw'⟩:=bb.two r;cases (show u=Value.ref a from rx);have ew:w=cv:=by
  rcases hc with ⟨T,rfl,rfl⟩ | ⟨D,rfl,rfl⟩
  ·exact rw'
  ·exact rw'
 subst ew;obtain⟨R,kx,hx⟩:=hC.kit I;exact bf kx I.kIn hx e (λz=>nomatch z) λtk=>⟨.bl b,H,I.tok tk,rfl,q⟩
theorem dI {X:Cx} {K:MU} (h:X.K=K):fX X (.builtin "isinstance") (va K):=h▸xJ
theorem pd{K:MU}{a C D:Addr}{H:Hp}{b:Bool}{Q:VK}(hC:ExcAt K H a C)(e:PySem.W.kitOne K (.ref C) (.ref D)=some b)(q:Q (.bl b) H):va K [.ref a,.ref D] H Q:=⟨a,C,_,_,b,rfl,hC,.inr ⟨D,rfl,rfl⟩,e,q⟩
theorem EM{K:MU}{a C:Addr}{T:String}{H:Hp}{b:Bool}{Q:VK}(hC:ExcAt K H a C)(e:PySem.W.kitOne K (.ref C) (.type T)=some b)(q:Q (.bl b) H):va K [.ref a,.ty T] H Q:=⟨a,C,_,_,b,rfl,hC,.inl ⟨T,rfl,rfl⟩,e,q⟩
structure An (K:MU) (C:Addr) (ds:List Addr) (due:Nat):Prop where
 kit:∀ j d,ds[j]? = some d->PySem.W.kitOne K (.ref C) (.ref d)=some (decide (j=due))
 val:PySem.W.kitOne K (.ref C) (.type "ValueError")=some true
theorem Ek.d{K:MU}{C:Addr}{ds:List Addr}{due:Nat}(h:Ek K C ds due):An K C ds due:=⟨h.kit,h.val⟩
end L2
namespace Rm
open PySem L2 PyProof.Rows
theorem yu{p q:Bw}(h:bX p q=false):¬(p.1<q.1/\q.1<p.2/\p.2<q.2):=λ⟨a,b,c⟩=>by
 unfold bX at h;rw[decide_eq_true a,decide_eq_true b,decide_eq_true c] at h;cases h
theorem i4{p q:Bw}(h:bX p q=true):p.1<q.1/\q.1<p.2/\p.2<q.2:=by
 unfold bX at h;rw[bL,bL,MP,MP,MP] at h;exact h
end Rm
namespace L2
open PySem PySem.Spec PyProof.Rows
structure QB (X:Cx) (body:List Stmt) (tb:XK->TS):Prop where
 h:∀ (pins:List (Addr×Obj)) (s:Shared) (σ:St) (H:Hp) (D:Ends) (E:XK),bE X pins σ H s->tb E D σ H->wpAny (model X.prog X.w) X.A (execs body X.env) (SP X pins D) (fun ev s'=>∃ H1 s1,bE X pins σ H1 s1/\ny X.prog X.w X.stack H1 s1 E ev s') s
structure z9 (X:Cx) (pins:List (Addr×Obj)) (σ:St) (a C t0:Addr) (dO:Option Addr) (H2:Hp) (s':Shared) (h3:Heap):Prop where
 ex:∃ (B:Heap) (H1:Hp) (s1:Shared),bE X pins σ H1 s1/\s'.os=s1.os/\AllBare s'.gens/\Un (jw X.stack) [] H1 H2 s1.heap s'.heap/\lC X.prog X.w H2 s'.heap/\B.FlyingW X.stack a (.ref C) (.ref t0) s'.heap/\FS B s1.heap H2 X.stack/\B.FlyingW (X.env::X.outer) a (.ref C) (.ref t0) h3/\s'.heap.UpToSlots h3/\uC dO a h3
abbrev TH:=Ends->St->Addr->Option Addr->Hp->Prop
structure QH (X:Cx) (hs:List ExceptHandler) (th:TH):Prop where
 h:∀ (pins:List (Addr×Obj)) (σ:St) (D:Ends) (a C t0:Addr) (dO:Option Addr) (H2:Hp) (s':Shared) (h3:Heap),z9 X pins σ a C t0 dO H2 s' h3->H2 a=none->th D σ C dO H2->wpAny (model X.prog X.w) X.A (handleBy (.ref a) X.env hs) (SP X pins D) X.xe { s' with heap:=h3 }
def ES:TH:=λ_ _ _ _ _=>False
def B5(K:MU)(c:Value)(ts:Addr->TS)(th:TH):TH:=λD σ C dO H2=>(PySem.W.exmOne K (.ref C) c=some true/\∀a,H2 a=none->ts a D σ (bU H2 a (nH dO C a)))\/(PySem.W.exmOne K (.ref C) c=some false/\th D σ C dO H2)
def F4(K:MU)(c:Value)(i:Nat)(ts:Addr->TS)(th:TH):TH:=λD σ C dO H2=>(PySem.W.exmOne K (.ref C) c=some true/\∀a,H2 a=none->ts a { nx:=λσ' H'=>D.nx (σ'.set i none) H',rt:=D.rt,bk:=λσ' H'=>D.bk (σ'.set i none) H',ct:=λσ' H'=>D.ct (σ'.set i none) H' } (σ.set i (some (.ref a))) (bU H2 a (nH dO C a)))\/(PySem.W.exmOne K (.ref C) c=some false/\th D σ C dO H2)
section
variable {X:Cx}
theorem yk:QH X [] ES:=⟨λ_ _ _ _ _ _ _ _ _ _ _ _ h=>h.elim⟩
theorem z9.inv{pins:List (Addr×Obj)}{σ:St}{a C t0:Addr}{dO:Option Addr}{H2:Hp}{s':Shared}{h3:Heap}(hst:X.stack=X.env::X.outer)(L:z9 X pins σ a C t0 dO H2 s' h3):bE X pins σ (bU H2 a (nH dO C a)) { s' with heap:=h3 }/\∃oe,h3.get? a=some oe/\oe.cls=.ref C:=by
 obtain⟨B,H1,s1,I1,os,bare,un,hok,fl,cov,fl3,up3,ct3⟩:=L.ex;have fl3':=fl3;rw[<-hst] at fl3';exact⟨I1.land (E:=E0) os bare un hok fl cov fl3' up3 ct3,Heap.FlyingW.there fl3⟩
theorem vh {cx:Str} {c:Value} {b₀:Stmt} {suite:List Stmt} {ts:Addr->TS} {th:TH} {hs:List ExceptHandler} {np hpos:Pos} (hst:X.stack=X.env::X.outer) (hgc:Gl X cx) (hmc:X.mg cx=some c) (hsu:∀a,iL (X.exc a) (b₀::suite) (ts a)) (hh:QH X hs th) (hdc:(cx==("__debug__":Str))=false:=by decide) :
  QH X (.ExceptHandler (some (.Name cx np)) none (b₀::suite) hpos::hs) (B5 X.K c ts th):=⟨by
 intro pins σ D a C t0 dO H2 s' h3 L Hn hq;obtain⟨I3,oe,e1,e2⟩:=L.inv hst;refine wpAny_handleBy_cons (codeAny_handlers_test (ju (X:=X.exc a) (I3.exc a) hgc hmc ?_ hdc)) (λz=>nomatch z);rcases hq with ⟨hx,q⟩ | ⟨hx,q⟩
 ·refine iD (K:=X.K) (h:=h3) (cls:=.ref C) I3.kIn (λA Q E s k hq=>MM (k _ _ e1) (by rw[e2];exact hq)) hx _ _ _ _ (λb o e=>e) ?_;obtain⟨B,H1,s1,I1,os,bare,un,hok,fl,cov,fl3,up3,ct3⟩:=L.ex;refine codeAny_handlers_suite (gU (dJ.flight (e:=a)) ct3 (lands_againW fl3 λh4 fl4 up4 ct4=>?_));have fl4':=fl4;rw[<-hst] at fl4';have I4:bE X pins σ (bU H2 a (nH dO C a)) { s' with heap:=h4 }:=I1.land (E:=E0) os bare un hok fl cov fl4' (UpToSlots.trans up3 up4) ct4;refine Lo ((hsu a).h pins _ _ _ _ (I4.exc a) (q a Hn)) (λfw s6 h6=>?_) (λ_ _ z=>False.elim z);obtain⟨B',H1',s1',I1',_⟩:=L.ex;cases fw with
  | next=>obtain⟨σ6,H6,I6,q6⟩:=h6;exact⟨_,_,I6.unexc I1.ok,q6⟩
  | brk=>obtain⟨σ6,H6,I6,q6⟩:=h6;exact⟨_,_,I6.unexc I1.ok,q6⟩
  | cont=>obtain⟨σ6,H6,I6,q6⟩:=h6;exact⟨_,_,I6.unexc I1.ok,q6⟩
  | ret u=>obtain⟨v6,σ6,H6,I6,r6,q6⟩:=h6;exact⟨v6,_,_,I6.unexc I1.ok,r6,q6⟩
 ·refine iD (K:=X.K) (h:=h3) (cls:=.ref C) I3.kIn (λA Q E s k hq=>MM (k _ _ e1) (by rw[e2];exact hq)) hx _ _ _ _ (λb o e=>e) ?_;exact hh.h pins σ D a C t0 dO H2 s' h3 L Hn q⟩
theorem EF {cx n:Str} {c:Value} {i:Nat} {b₀:Stmt} {suite:List Stmt} {ts:Addr->TS} {th:TH} {hs:List ExceptHandler} {np hpos:Pos} (hst:X.stack=X.env::X.outer) (hgc:Gl X cx) (hmc:X.mg cx=some c) (hN:X.N.Nodup) (hi:X.N[i]? = some n) (hl:X.env.scope.names.lookup n=some .local) (hsu:∀a,iL (X.exc a) (b₀::suite) (ts a)) (hh:QH X hs th) (hdc:(cx==("__debug__":Str))=false:=by decide) :
  QH X (.ExceptHandler (some (.Name cx np)) (some n) (b₀::suite) hpos::hs) (F4 X.K c i ts th):=⟨by
 intro pins σ D a C t0 dO H2 s' h3 L Hn hq;obtain⟨I3,oe,e1,e2⟩:=L.inv hst;refine wpAny_handleBy_cons (codeAny_handlers_test (ju (X:=X.exc a) (I3.exc a) hgc hmc ?_ hdc)) (λz=>nomatch z);rcases hq with ⟨hx,q⟩ | ⟨hx,q⟩
 ·refine iD (K:=X.K) (h:=h3) (cls:=.ref C) I3.kIn (λA Q E s k hq=>MM (k _ _ e1) (by rw[e2];exact hq)) hx _ _ _ _ (λb o e=>e) ?_;obtain⟨B,H1,s1,I1,os,bare,un,hok,fl,cov,fl3,up3,ct3⟩:=L.ex;refine codeAny_handlers_suite_as (gU (dJ.flight (e:=a)) ct3 (lands_againW fl3 λh4 fl4 up4 ct4=>?_));have fl4':=fl4;rw[<-hst] at fl4';have I4:bE X pins σ (bU H2 a (nH dO C a)) { s' with heap:=h4 }:=I1.land (E:=E0) os bare un hok fl cov fl4' (UpToSlots.trans up3 up4) ct4;refine mG I4 hN hi (.inl hl) (show RelV (.ref a) (.ref a) from rfl) (λs5 I5=>?_) (.inr hl);refine Lo ((hsu a).h pins s5 _ _ _ (I5.exc a) (q a Hn)) (λfw s6 h6=>?_) (λ_ _ z=>False.elim z);cases fw with
  | next=>obtain⟨σ6,H6,I6,q6⟩:=h6;exact oN (I6.unexc I1.ok) hN hi hl λs7 I7=>⟨_,_,I7,q6⟩
  | brk=>obtain⟨σ6,H6,I6,q6⟩:=h6;exact oN (I6.unexc I1.ok) hN hi hl λs7 I7=>⟨_,_,I7,q6⟩
  | cont=>obtain⟨σ6,H6,I6,q6⟩:=h6;exact oN (I6.unexc I1.ok) hN hi hl λs7 I7=>⟨_,_,I7,q6⟩
  | ret u=>obtain⟨v6,σ6,H6,I6,r6,q6⟩:=h6;exact oN (I6.unexc I1.ok) hN hi hl λs7 I7=>⟨v6,_,_,I7,r6,q6⟩
 ·refine iD (K:=X.K) (h:=h3) (cls:=.ref C) I3.kIn (λA Q E s k hq=>MM (k _ _ e1) (by rw[e2];exact hq)) hx _ _ _ _ (λb o e=>e) ?_;exact hh.h pins σ D a C t0 dO H2 s' h3 L Hn q⟩
def BF(tb:XK->TS)(th:TH):TS:=λD σ H=>tb (λcls dO H2=>∃C,cls=Value.ref C/\th D σ C dO H2) D σ H
theorem sP{body:List Stmt}{h₀:ExceptHandler}{hs:List ExceptHandler}{tb:XK->TS}{th:TH}{pos:Pos}(hst:X.stack=X.env::X.outer)(hfr:X.env.frame=some X.env.locals)(hb:QB X body tb)(hh:QH X (h₀::hs) th):QS X (.Try body (h₀::hs) [] [] pos) (BF tb th):=⟨by
 intro pins s σ H D I h;refine wpAny_Try_except (Lo (hb.h pins s σ H D _ I h) (λf s1 h1=>?_) λev s' ⟨H1,s1,I1,hx⟩=>?_)
 ·cases f with
  | next=>exact ME h1
  | brk=>exact h1
  | cont=>exact h1
  | ret u=>exact h1
 ·obtain⟨a,C,t0,H2,B,dO,rfl,os,bare,un,hok,fl,cov,ct,C',eC,q⟩:=hx;cases eC;have Hn:H2 a=none:=by
   cases z:H2 a with
   | none=>rfl
   | some u=>
    obtain⟨o,e'⟩:=cov.trk a u z;rw[fl.2.1] at e';cases e'
  have fl':=fl;rw[hst] at fl';refine gU (dJ.note (e:=a)) ct ?_;refine wpAny_looks_onW (base:=B) (env:=X.env) (outer:=X.outer) (by rw[I.ok.frames,hst]) hfr fl' λh2 held up2 ct2=>?_;refine gU (dJ.flight (e:=a)) ct2 ?_;refine wpAny_landsW held λh3 fl3 up3 ct3=>?_;exact hh.h pins σ D a C t0 dO H2 s' h3 ⟨B,H1,s1,I1,os,bare,un,hok,fl,cov,fl3,UpToSlots.trans up2 up3,ct3⟩ Hn q⟩
theorem tj{k:Nat}{st:Stmt}{ps:List Str}{sp:Sp}{x:Str}{e:Expr}{es:List Expr}{t:TA}{p cpos:Pos}{pins:List (Addr×Obj)}{s:Shared}{σ:St}{H:Hp}{Q:VK}{E:XK}(Df:lV X.prog X.w X.K X.mg X.base k x st ps sp)(hr:gS k X.A)(hg:Gl X x)(ha:QA X.nox (e::es) t)(I:bE X pins σ H s)(h:t σ H λvs H1=>sp vs H1 Q E)
  (hdb:(x==("__debug__":Str))=false) (he:starEach (e::es) X.env=(false,eval e X.env)::starEach es X.env) (hpl:(backTo cpos (starEach es X.env)).any (·.1)=false) :
  wpAny (model X.prog X.w) X.A (eval (.Call (.Name x p) (e::es) [] cpos) X.env) (EP X pins σ Q) (λev s'=>∃H1 s1,bE X pins σ H1 s1/\ny X.prog X.w X.stack H1 s1 E ev s') s:=by
 obtain⟨f,fd,Fu,hm,hb,F⟩:=Df.ex;have hk:=Fu.kp;refine Lw (ju I hg hm ?_ hdb);refine io (h₀:=X.base) I.ok.mod.kin hk (Lo (ha.h cpos pins s σ H _ (I.wish _) h) (λus s1 ⟨vs,H1,I1,r,q⟩=>⟨I1.kIn,?_⟩) λ_ _ z=>False.elim z) he hpl;have I1:=I1.unwish;have r2:bb (vs++[]) (us++[]):=r.append .nil;have q2:sp (vs++[]) H1 Q E:=by rw[eM];exact q
 have hlen:(us++[]).length=ps.length:=by rw[<-r2.length];exact F.len _ _ _ _ q2
 refine Lu (Lv (F.run X.A X.stack s1 H1 ⟨us,[]⟩ (us++[]) (vs++[]) _ E hr I1.env0 (hb s1 us I1.kIn hlen) r2 q2) λr s' hq=>?_);cases r with
 | error ev=>exact⟨H1,s1,I1,hq⟩
 | ok fl=>
  cases fl with
  | ret u=>exact I1.after hq
  | next=>exact False.elim hq
  | brk=>exact False.elim hq
  | cont=>exact False.elim hq
section
variable {k:Nat} {st:Stmt} {ps:List Str} {sp:Sp} {x:Str} {e:Expr} {es:List Expr} {t:TA} {p cpos:Pos}
def Ba(sp:Sp)(t:TA):XK->TS:=λE D σ H=>t σ H λvs H1=>sp vs H1 (λ_ H2=>D.nx σ H2) E
def FJ(sp:Sp)(j:Nat)(t:TA):XK->TS:=λE D σ H=>t σ H λvs H1=>sp vs H1 (λv H2=>D.nx (σ.set j (some v)) H2) E
def EY(sp:Sp)(z:Str)(t:TA):XK->TS:=λE D σ H=>t σ H λvs H1=>sp vs H1 (λv H2=>∀q,H2 q=none->D.rt (.ref q) (bU H2 q (.tup [.str z,v]))) E
def FI(sp:Sp)(z:Str)(t:TA):XK->TS:=λE D σ H=>t σ H λvs H1=>sp vs H1 (λv H2=>∀q,H2 q=none->D.rt (.ref q) (bU H2 q (.lst [.str z,v]))) E
theorem AF{epos:Pos}(Df:lV X.prog X.w X.K X.mg X.base k x st ps sp)(hr:gS k X.A)(hg:Gl X x)(ha:QA X.nox (e::es) t)
  (hdb:(x==("__debug__":Str))=false:=by decide) (he:starEach (e::es) X.env=(false,eval e X.env)::starEach es X.env:=by rfl) (hpl:(backTo cpos (starEach es X.env)).any (·.1)=false:=by rfl):QB X [.Expr (.Call (.Name x p) (e::es) [] cpos) epos] (Ba sp t):=⟨λpins s σ H D E I h=>
 MF (wpAny_Expr_any (Lo (tj Df hr hg ha I h hdb he hpl) (λv s1 ⟨_,H1,I1,_,q⟩=>ME ⟨_,H1,I1,q⟩) λ_ _ z=>z) I.quiet (by rfl))⟩
theorem C4{z:Str}{zj}{zp tp rp:Pos}{xx}(Df:lV X.prog X.w X.K X.mg X.base k x st ps sp)(hr:gS k X.A)(hg:Gl X x)(ha:QA X.nox (e::es) t)
  (hdb:(x==("__debug__":Str))=false:=by decide) (he:starEach (e::es) X.env=(false,eval e X.env)::starEach es X.env:=by rfl) (hpl:(backTo cpos (starEach es X.env)).any (·.1)=false:=by rfl):QB X [.Return (some (.Tuple [.Constant (.str z) zj zp,.Call (.Name x p) (e::es) [] cpos] xx tp)) rp] (EY sp z t):=⟨by
 intro pins s σ H D E I h;refine MF (wpAny_Return_some (wpAny_Tuple_spliced ?_));show wpAny _ _ (spliced ((false,eval (.Constant (.str z) zj zp) X.env)::(false,eval (.Call (.Name x p) (e::es) [] cpos) X.env)::_)) _ _ s;refine iu (Calls.Constant_str (iu (Lo (tj Df hr hg ha (I.tok _) h hdb he hpl) (λv s1 ⟨y,H1,I1,ry,q⟩=>Calls.spliced_nil ?_) λ_ _ z=>z)));have hf:H1 s1.heap.objs.size=none:=I1.hok.fresh (aH _);refine⟨by show 2<=sizeLine;rw[Lr];lia,.ref s1.heap.objs.size,σ,bU H1 s1.heap.objs.size (.tup [.str z,y]),I1.laid (t':=s1.toks) (λb u e=>aD _ e) (aH _) ?_,rfl,q _ hf⟩;exact⟨by show 2<=sizeLine;rw[Lr];lia,_,.cons ⟨_,rfl⟩ (.cons ry .nil),⟨_,aP _ rfl,rfl,_,rfl⟩⟩⟩
end
end
section
variable {σ:St} {H H2:Hp} {D:Ends} {E:XK} {C:Addr} {dO:Option Addr} {K:MU} {c:Value} {sp:Sp} {t:TA} {ts:Addr->TS} {th:TH} {tb:XK->TS} {z:Str} {i j:Nat}
theorem Bi:BF tb th D σ H=tb (λcls dO H2=>∃C,cls=Value.ref C/\th D σ C dO H2) D σ H:=rfl
theorem Bk:ES D σ C dO H2=False:=rfl
theorem zm:B5 K c ts th D σ C dO H2=((PySem.W.exmOne K (.ref C) c=some true/\∀a,H2 a=none->ts a D σ (bU H2 a (nH dO C a)))\/(PySem.W.exmOne K (.ref C) c=some false/\th D σ C dO H2)):=rfl
theorem Dh:F4 K c i ts th D σ C dO H2=((PySem.W.exmOne K (.ref C) c=some true/\∀a,H2 a=none->ts a { nx:=λσ' H'=>D.nx (σ'.set i none) H',rt:=D.rt,bk:=λσ' H'=>D.bk (σ'.set i none) H',ct:=λσ' H'=>D.ct (σ'.set i none) H' } (σ.set i (some (.ref a))) (bU H2 a (nH dO C a)))\/(PySem.W.exmOne K (.ref C) c=some false/\th D σ C dO H2)):=rfl
theorem zu:Ba sp t E D σ H=t σ H λvs H1=>sp vs H1 (λ_ H2=>D.nx σ H2) E:=rfl
theorem Bz:FJ sp j t E D σ H=t σ H λvs H1=>sp vs H1 (λv H2=>D.nx (σ.set j (some v)) H2) E:=rfl
theorem Bx:EY sp z t E D σ H=t σ H λvs H1=>sp vs H1 (λv H2=>∀q,H2 q=none->D.rt (.ref q) (bU H2 q (.tup [.str z,v]))) E:=rfl
theorem By:FI sp z t E D σ H=t σ H λvs H1=>sp vs H1 (λv H2=>∀q,H2 q=none->D.rt (.ref q) (bU H2 q (.lst [.str z,v]))) E:=rfl
end
end L2
namespace Rm
open PySem L2 PyProof.Rows
def sH(K:MU)(ds:List Addr)(a:Addr):Sp:=λvs H Q _=>∃(C:Addr) (due:Nat),vs=[.ref a]/\ExcAt K H a C/\(∃D,H a=some (nH D C a))/\An K C ds due/\due<10/\∀H',aX H H'->Q (.bl true) H'
def FM(H:Hp)(p:Addr)(z:String)(v:V):Prop:=H p=some (.tup [.str (Str.ofString z),v])
theorem uM {bs:List Bool} (hl:bs.length<=900):JoinOk (Str.ofString "") (bs.map sgn)=true:=by
 unfold JoinOk;have e:Builtin.Str.tooLong ((bs.map sgn).toArray.foldl (λa t=>a+t.length+(Str.ofString "").length) 0)=false:=by
  have h0:∀(bs:List Bool) (a:Nat),(bs.map sgn).foldl (λa t=>a+t.length+(Str.ofString "").length) a=a+bs.length:=by
   intro bs
   induction bs with
   | nil=>intro a;rfl
   | cons b bs ih=>
    intro a;rw[bR,kM,ih];have:(sgn b).length=1:=by show (sgn b).cps.size=1;rw[mJ];rfl
    have h2:(Str.ofString "").length=0:=by rw[oC];rfl
    rw[this,h2,fN];lia
  rw[List.foldl_toArray',h0];unfold Builtin.Str.tooLong;exact MQ (by have:=ai (n:=0+bs.length) (by lia);lia);simp
 rw[e];rfl
theorem zd{bs:List Bool}:∀i,i<=bs.length->(D bs i-i) % 2=0
 | 0,_=>by rw[zb];rfl
 | i+1,h=>by
  have ih:=zd (bs:=bs) i (by lia);rw[jZ (aL (show i<bs.length by lia))];cases bs[i] with
  | true=>show (D bs i+1-((i+1:Nat):Int)) % 2=0;lia
  | false=>show (D bs i+-1-((i+1:Nat):Int)) % 2=0;lia
theorem iq.par{bs:List Bool}{x y:Nat}(h:iq bs x y):(x+y) % 2=1:=by
 have h1:=zd (bs:=bs) (y+1) h.ml;have h2:=zd (bs:=bs) x (by have:=h.lt;have:=h.ml;lia);rw[h.eq] at h1;lia
theorem vo{bs:List Bool}(b:kd bs){x:Nat}(h:x<bs.length):(x+mtF bs x) % 2=1:=by
 rcases jV b h with m | m
 ·exact m.par
 ·have:=m.par;lia
theorem mW(L R:Nat->Nat)(e i:Nat):∀k,cM L R e (i+k)=cM L R (cM L R e i) k
 | 0=>rfl
 | k+1=>by
  show R (L (cM L R e (i+k)))=R (L (cM L R (cM L R e i) k));rw[mW L R e i k]
structure qf (n:Nat) (W M:Nat->Nat) (ms0:List (Nat×Nat)) (p q r s:Nat):Prop where
 pW:iz n W
 pM:iz n M
 parW:∀ x,x<n->(x+W x) % 2=1
 parM:∀ x,x<n->(x+M x) % 2=1
 lp:p<n
 lr:r<n
 ne:p≠r
 par:p % 2=r % 2
 ep:M p=q
 er:M r=s
 in0:∀ x,x<n->x % 2=p % 2->x≠p->x≠r->(x,M x)∈ms0\/(M x,x)∈ms0
 of0:∀ e∈ms0,M e.1=e.2/\M e.2=e.1/\e.1<n/\e.2<n/\e.1≠p/\e.1≠q/\e.1≠r/\e.1≠s/\e.2≠p/\e.2≠q/\e.2≠r/\e.2≠s
section
variable {n:Nat} {W M:Nat->Nat} {ms0:List (Nat×Nat)} {p q r s:Nat} {g:List Int}
theorem qf.lt(T:qf n W M ms0 p q r s){e:Nat}(h:e<n)(i:Nat):cM M W e i<n:=kq T.pM T.pW h i
theorem qf.pit(T:qf n W M ms0 p q r s){e:Nat}(h:e<n):∀i,cM M W e i % 2=e % 2
 | 0=>rfl
 | i+1=>by
  have ih:=T.pit h i;have h1:=T.parM _ (T.lt h i);have h2:=T.parW _ (T.pM.lt _ (T.lt h i));show W (M (cM M W e i)) % 2=e % 2;lia
theorem qf.step(T:qf n W M ms0 p q r s)(h:uy n W ms0 g){x:Nat}(hx:x<n)(px:x % 2=p % 2)(h1:x≠p)(h2:x≠r):gv g (W (M x))=gv g x:=by
 rw[h.left _ (T.pM.lt x hx)];rcases T.in0 x hx px h1 h2 with e | e
 ·exact(h.bows _ e).symm
 ·exact h.bows _ e
theorem qf.chain(T:qf n W M ms0 p q r s)(h:uy n W ms0 g){e a:Nat}(he:e<n)(pe:e % 2=p % 2):∀k,(∀i,a<=i->i<a+k->cM M W e i≠p/\cM M W e i≠r)->gv g (cM M W e (a+k))=gv g (cM M W e a)
 | 0,_=>rfl
 | k+1,hi=>by
  have ih:=T.chain h he pe k λi h1 h2=>hi i h1 (by lia);have:=hi (a+k) (by lia) (by lia);show gv g (W (M (cM M W e (a+k))))=_;rw[T.step h (T.lt he _) ((T.pit he _).trans pe) this.1 this.2,ih]
theorem qf.mul{e N:Nat}(h:cM M W e N=e):∀m,cM M W e (m*N)=e
 | 0=>by rw[Nat.zero_mul];rfl
 | m+1=>by rw[Nat.succ_mul,mW,qf.mul h m];exact h
theorem qf.far(T:qf n W M ms0 p q r s)(h:uy n W ms0 g)(hr:∀i,cM M W p i≠r):gv g p=gv g q:=by
 obtain⟨N,hN⟩:=ou T.pM T.pW T.lp;have h0:=hN.pos;have c:=T.chain h (a:=1) T.lp rfl (N - 1) λi h1 h2=>⟨λe=>by have:=hN.inj i 0 (by lia) h0 e;lia,hr i⟩
 rw[show 1+(N - 1)=N by lia,hN.back] at c;rw[c];show gv g (W (M p))=_;rw[h.left _ (T.pM.lt p T.lp),T.ep]
theorem qf.swap(T:qf n W M ms0 p q r s):qf n W M ms0 r s p q:=
 ⟨T.pW,T.pM,T.parW,T.parM,T.lr,T.lp,T.ne.symm,T.par.symm,T.er,T.ep,λx hx px h1 h2=>T.in0 x hx (px.trans T.par.symm) h2 h1,λe he=>by obtain⟨a,b,c,d,e1,e2,e3,e4,e5,e6,e7,e8⟩:=T.of0 e he;exact⟨a,b,c,d,e3,e4,e1,e2,e7,e8,e5,e6⟩⟩
theorem qf.two(T:qf n W M ms0 p q r s)(h:uy n W ms0 g):(gv g p=gv g q/\gv g r=gv g s/\gv g p≠gv g r)\/(gv g p=gv g s/\gv g r=gv g q/\gv g p≠gv g r):=by
 obtain⟨N,hN⟩:=ou T.pM T.pW T.lp;have h0:=hN.pos;have qn:q<n:=by rw[<-T.ep];exact T.pM.lt p T.lp
 have sn:s<n:=by rw[<-T.er];exact T.pM.lt r T.lr
 by_cases hr:∃i,cM M W p i=r
 ·right;obtain⟨j,hj,jm⟩:∃j,cM M W p j=r/\∀i,i<j->cM M W p i≠r:=by
   obtain⟨i,hi⟩:=hr
   induction i using Nat.strongRecOn with
   | _ i ih=>
    by_cases z:∃k,k<i/\cM M W p k=r
    ·obtain⟨k,hk,e⟩:=z;exact ih k hk e
    ·exact⟨i,hi,λk hk e=>z ⟨k,hk,e⟩⟩
  have jp:0<j:=Nat.pos_of_ne_zero λe=>T.ne (by rw[e] at hj;exact hj);have jN:j<N:=by
   rcases gN j N with z | z
   ·exact z
   ·exfalso;have:=mW M W p N (j-N);rw[show N+(j-N)=j by lia,hN.back,hj] at this;exact jm (j-N) (by lia) this.symm
  have nP:∀i,0<i->i<N->cM M W p i≠p:=λi h1 h2 e=>by have:=hN.inj i 0 h2 h0 e;lia
  have nR:∀i,i<N->i≠j->cM M W p i≠r:=λi h1 h2 e=>h2 (hN.inj i j h1 jN (e.trans hj.symm));have c1:=T.chain h (a:=1) T.lp rfl (j - 1) λi h1 h2=>⟨nP i (by lia) (by lia),nR i (by lia) (by lia)⟩
  rw[show 1+(j - 1)=j by lia,hj] at c1;have e1:gv g (cM M W p 1)=gv g q:=by
   show gv g (W (M p))=_;rw[h.left _ (T.pM.lt p T.lp),T.ep]
  have c2:=T.chain h (a:=j+1) T.lp rfl (N-(j+1)) λi h1 h2=>⟨nP i (by lia) (by lia),nR i (by lia) (by lia)⟩
  rw[show j+1+(N-(j+1))=N by lia,hN.back] at c2;have e2:gv g (cM M W p (j+1))=gv g s:=by
   show gv g (W (M (cM M W p j)))=_;rw[hj,h.left _ (T.pM.lt r T.lr),T.er]
  refine⟨c2.trans e2,c1.trans e1,λe=>?_⟩;have S:=h.conn (λx=>(∃i,1<=i/\i<=j/\x=cM M W p i)\/∃i,i<j/\x=M (cM M W p i)) (λx hx hS=>?_) (λe' he'=>?_) r p T.lr T.lp (.inl ⟨j,jp,aH _,hj.symm⟩) e
  ·rcases S with ⟨i,h1,h2,h3⟩ | ⟨i,h1,h2⟩
   ·exact nP i (by lia) (by lia) h3.symm
   ·have:=T.parM _ (T.lt T.lp i);have:=T.pit T.lp i;rw[<-h2] at *;lia
  ·rcases hS with ⟨i,h1,h2,rfl⟩ | ⟨i,h1,rfl⟩
   ·refine .inr ⟨i - 1,by lia,?_⟩;obtain⟨k,rfl⟩:∃k,i=k+1:=⟨i - 1,by lia⟩
    show W (W (M (cM M W p k)))=M (cM M W p k);exact T.pW.inv _ (T.pM.lt _ (T.lt T.lp k))
   ·exact .inl ⟨i+1,by lia,by lia,rfl⟩
  ·obtain⟨m1,m2,l1,l2,a1,a2,a3,a4,a5,a6,a7,a8⟩:=T.of0 e' he';have go:∀x y,M x=y->x≠q->x≠r->((∃i,1<=i/\i<=j/\x=cM M W p i)\/∃i,i<j/\x=M (cM M W p i))->((∃i,1<=i/\i<=j/\y=cM M W p i)\/∃i,i<j/\y=M (cM M W p i)):=λx y hy hq hr hS=>by
    rcases hS with ⟨i,h1,h2,rfl⟩ | ⟨i,h1,rfl⟩
    ·exact .inr ⟨i,by rcases gN i j with z | z;exact z;exact absurd (by rw[show i=j by lia];exact hj) hr,hy.symm⟩
    ·refine .inl ⟨i,Nat.pos_of_ne_zero λz=>hq (by rw[z];exact T.ep),by lia,?_⟩;rw[<-hy];exact T.pM.inv _ (T.lt T.lp i)
   exact⟨go _ _ m1 a2 a3,go _ _ m2 a6 a7⟩
 ·left;have hr':∀i,cM M W p i≠r:=λi e=>hr ⟨i,e⟩;have hp':∀i,cM M W r i≠p:=λi e=>by
   obtain⟨N',hN'⟩:=ou T.pM T.pW T.lr;have h1:=qf.mul hN'.back (i+1);have h2:i<=(i+1)*N':=bd (df i) (Nat.le_mul_of_pos_right _ hN'.pos);have h3:=mW M W r i ((i+1)*N' - i);rw[show i+((i+1)*N' - i)=(i+1)*N' by lia,h1,e] at h3;exact hr' _ h3.symm
  refine⟨T.far h hr',T.swap.far h hp',λe=>?_⟩;have S:=h.conn (λx=>∃i,x=cM M W p i\/x=M (cM M W p i)) (λx hx hS=>?_) (λe' he'=>?_) p r T.lp T.lr ⟨0,.inl rfl⟩ e.symm
  ·obtain⟨i,h1 | h1⟩:=S
   ·exact hr' i h1.symm
   ·have:=T.parM _ (T.lt T.lp i);have:=T.pit T.lp i;have:=T.par;rw[<-h1] at *;lia
  ·obtain⟨i,rfl | rfl⟩:=hS
   ·have back:∀i,∃k,cM M W p i=cM M W p (k+1):=λi=>by
     cases i with
     | zero=>exact⟨N - 1,by rw[show N - 1+1=N by lia,hN.back];rfl⟩
     | succ i=>exact⟨i,rfl⟩
    obtain⟨k,hk⟩:=back i;refine⟨k,.inr ?_⟩;rw[hk];show W (W (M (cM M W p k)))=M (cM M W p k);exact T.pW.inv _ (T.pM.lt _ (T.lt T.lp k))
   ·exact⟨i+1,.inl rfl⟩
  ·obtain⟨m1,m2,_⟩:=T.of0 e' he';have go:∀x y,M x=y->(∃i,x=cM M W p i\/x=M (cM M W p i))->∃i,y=cM M W p i\/y=M (cM M W p i):=λx y hy hS=>by
    obtain⟨i,rfl | rfl⟩:=hS
    ·exact⟨i,.inr hy.symm⟩
    ·exact⟨i,.inl (by rw[<-hy];exact T.pM.inv _ (T.lt T.lp i))⟩
   exact⟨go _ _ m1,go _ _ m2⟩
def jB(g:List Int)(a b:Nat):List Int:=fP g (gv g a) (gv g b)
theorem uK{k K K':Nat}(hl:p<g.length/\q<g.length/\r<g.length/\s<g.length)(c:rV g k)(h:(gv g p=gv g q/\gv g r=gv g s/\gv g p≠gv g r)\/(gv g p=gv g s/\gv g r=gv g q/\gv g p≠gv g r))(c1:rV (jB (jB g p q) r s) K)(c2:rV (jB (jB g p s) r q) K'):(K'=K+1/\gv g p=gv g s)\/K=K'+1:=by
 obtain⟨lp,lq,lr,ls⟩:=hl;have both:∀{a b c' d:Nat},a<g.length->b<g.length->c'<g.length->d<g.length->gv g a=gv g d->gv g c'=gv g b->gv g a≠gv g c'->∀{J},rV (jB (jB g a b) c' d) J->J+1=k:=fun {a b c' d} la lb lc ld e1 e2 ne J cj=>by
  have nb:gv g a≠gv g b:=λe=>ne (e.trans e2.symm);obtain⟨h1,h2⟩:=c.add (pE la) (pE lb) nb;have e3:gv (jB g a b) c'=gv (jB g a b) d:=by
   unfold jB;rw[pI lc,pI ld,MO e2,MN (by rw[<-e1];exact nb),e1]
  have e4:jB (jB g a b) c' d=jB g a b:=by
   show fP (jB g a b) (gv (jB g a b) c') (gv (jB g a b) d)=_;rw[e3,jG]
  rw[e4] at cj;have:=cj.uniq h2;lia
 have none:∀{a b c' d:Nat},gv g a=gv g b->gv g c'=gv g d->∀{J},rV (jB (jB g a b) c' d) J->J=k:=fun {a b c' d} e1 e2 J cj=>by
  have e3:jB g a b=g:=by unfold jB;rw[e1,jG]
  have e4:jB (jB g a b) c' d=g:=by rw[e3];unfold jB;rw[e2,jG]
  rw[e4] at cj;exact cj.uniq c
 rcases h with ⟨h1,h2,h3⟩ | ⟨h1,h2,h3⟩
 ·have a1:=none h1 h2 c1;have a2:=both lp ls lr lq h1 h2 h3 c2;lia
 ·have a1:=both lp lq lr ls h1 h2 h3 c1;have a2:=none h1 h2 c2;exact .inl ⟨by lia,h1⟩
theorem sM{M':Nat->Nat}{k:Nat}{rs rs':List (List Nat)}(T:qf n W M ms0 p q r s)(h:uy n W ms0 g)(c:rV g k)(X:z8 n W M rs)(cov:∀x,x<n->∃r∈rs,x∈r)(X':z8 n W M' rs')(cov':∀x,x<n->∃r∈rs',x∈r)
  (h0:∀e∈ms0,M' e.1=e.2/\M' e.2=e.1) (h1:M' p=s/\M' s=p) (h2:M' r=q/\M' q=r):(rs'.length=rs.length+1/\gv g p=gv g s)\/rs.length=rs'.length+1:=by
 have qn:q<n:=by rw[<-T.ep];exact T.pM.lt p T.lp
 have sn:s<n:=by rw[<-T.er];exact T.pM.lt r T.lr
 have all:∀x,x<n->(∃e∈ms0,x=e.1\/x=e.2)\/x=p\/x=q\/x=r\/x=s:=λx hx=>by
  have ev:∀y,y<n->y % 2=p % 2->(∃e∈ms0,(y=e.1\/y=e.2)/\(M y=e.1\/M y=e.2))\/y=p\/y=r:=λy hy py=>by
   by_cases e1:y=p
   ·exact .inr (.inl e1)
   ·by_cases e2:y=r
    ·exact .inr (.inr e2)
    ·rcases T.in0 y hy py e1 e2 with e | e
     ·exact .inl ⟨_,e,.inl rfl,.inr rfl⟩
     ·exact .inl ⟨_,e,.inr rfl,.inl rfl⟩
  by_cases px:x % 2=p % 2
  ·rcases ev x hx px with ⟨e,he,h1,_⟩ | h | h
   ·exact .inl ⟨e,he,h1⟩
   ·exact .inr (.inl h)
   ·exact .inr (.inr (.inr (.inl h)))
  ·have h1:=T.parM x hx;rcases ev (M x) (T.pM.lt x hx) (by lia) with ⟨e,he,_,h2⟩ | h | h
   ·rw[T.pM.inv x hx] at h2;exact .inl ⟨e,he,h2⟩
   ·exact .inr (.inr (.inl (by rw[<-T.ep,<-h,T.pM.inv x hx])))
   ·exact .inr (.inr (.inr (.inr (by rw[<-T.er,<-h,T.pM.inv x hx]))))
 have L1:=(h.add T.pW T.lp qn).add T.pW T.lr sn;have L2:=(h.add T.pW T.lp sn).add T.pW T.lr qn;have c1:=o8 X cov L1 (λe he=>by
  simp only[aT,ar] at he;rcases he with (he | he) | he
  ·exact⟨(T.of0 e he).1,(T.of0 e he).2.1⟩
  ·subst he;exact⟨T.ep,by rw[<-T.ep];exact T.pM.inv p T.lp⟩
  ·subst he;exact⟨T.er,by rw[<-T.er];exact T.pM.inv r T.lr⟩) (λx hx=>by
  rcases all x hx with ⟨e,he,h1⟩ | h | h | h | h
  ·exact⟨e,by simp[he],h1⟩
  ·exact⟨(p,q),by simp,.inl h⟩
  ·exact⟨(p,q),by simp,.inr h⟩
  ·exact⟨(r,s),by simp,.inl h⟩
  ·exact⟨(r,s),by simp,.inr h⟩)
 have c2:=o8 X' cov' L2 (λe he=>by
  simp only[aT,ar] at he;rcases he with (he | he) | he
  ·exact h0 e he
  ·subst he;exact h1
  ·subst he;exact h2) (λx hx=>by
  rcases all x hx with ⟨e,he,h1⟩ | h | h | h | h
  ·exact⟨e,by simp[he],h1⟩
  ·exact⟨(p,s),by simp,.inl h⟩
  ·exact⟨(r,q),by simp,.inr h⟩
  ·exact⟨(r,q),by simp,.inl h⟩
  ·exact⟨(p,s),by simp,.inr h⟩)
 refine uK (g:=g) ?_ c (T.two h) c1 c2;rw[h.len];exact⟨T.lp,qn,T.lr,sn⟩
end
theorem zG{L R c:Nat->Nat}{m:Nat}(c0:c 0=0)(hL:∀i,i<m->L (c (2*i))=c (2*i+1))(hR:∀i,i<m->R (c (2*i+1))=c (2*i+2)):∀i,i<=m->cM L R 0 i=c (2*i)
 | 0,_=>c0.symm
 | i+1,h=>by
  show R (L (cM L R 0 i))=_;rw[zG c0 hL hR i (by lia),hL i (by lia),hR i (by lia)];rfl
theorem yc{L R c:Nat->Nat}{m:Nat}(c0:c 0=0)(hL:∀i,i<m->L (c (2*i))=c (2*i+1))(hR:∀i,i<m->R (c (2*i+1))=c (2*i+2)):∀i,i<=m->kR L R 0 i=(List.range (2*i)).map c
 | 0,_=>rfl
 | i+1,h=>by
  rw[kR,yc c0 hL hR i (by lia),zG c0 hL hR i (by lia),hL i (by lia),show 2*(i+1)=2*i+1+1 by lia,f7,f7];simp
def nq(n:Int)(p:Bw):Bw:=if p.2=n then (0,p.1) else p
def mi(ns:List Int)(j:Nat):Int:=bc ns (j % (ns.length+1))
theorem mD{ns:List Int}{j:Nat}(h:j<ns.length+1):mi ns j=bc ns j:=by unfold mi;rw[Nat.mod_eq_of_lt h]
theorem oO(ns:List Int):mi ns (ns.length+1)=0:=by unfold mi;rw[Nat.mod_self];rfl
theorem B9(ns:List Int):mi ns 0=0:=by unfold mi;rw[Nat.zero_mod];rfl
theorem l8.row_le{ns:List Int}(O:l8 ns){j:Nat}(h:j<ns.length+1):0<=bc ns j/\bc ns j<=ns.length:=by
 have h1:=O.row_in (i:=j) (by lia);have:bc ns j≠(ns.length:Int)+1:=λe=>by
  rw[<-lK ns] at e;have:=O.row_inj (by lia) (by lia) e;lia
 lia
theorem l8.cy_inj{ns:List Int}(O:l8 ns){i j:Nat}(hi:i<ns.length+1)(hj:j<ns.length+1)(h:mi ns i=mi ns j):i=j:=by
 rw[mD hi,mD hj] at h;exact O.row_inj (by lia) (by lia) h
def zT(ns:List Int)(i:Nat):Bw:=(min (mi ns i) (mi ns (i+1)),max (mi ns i) (mi ns (i+1)))
theorem t8{ns:List Int}(O:l8 ns){i:Nat}(hi:i<ns.length+1):nq ((ns.length:Int)+1) (fA ns i)=zT ns i:=by
 by_cases e:i=ns.length
 ·subst e;have h1:=O.row_le (j:=ns.length) (by lia);unfold nq fA zT;rw[oO,mD (by lia),lK];rw[MO (by show max _ _=_;lia)];refine lA ?_ ?_
  ·show (0:Int)=min _ 0;lia
  ·show min (bc ns ns.length) ((ns.length:Int)+1)=max _ 0;lia
 ·have h1:=O.row_le (j:=i) (by lia);have h2:=O.row_le (j:=i+1) (by lia);unfold nq fA zT;rw[mD (by lia),mD (by lia),MN (by show ¬max _ _=_;lia)]
theorem js(b u:Bool)(i:Nat):bj b u (i+1)=!bj b u i:=by
 unfold bj;rw[sg];cases b<;>cases u<;>cases odd i<;>rfl
theorem mn(b:Bool)(ns:List Int)(u:Bool):∀k,(bF b ns u (2*k)).length=k
 | 0=>rfl
 | k+1=>by
  rw[show 2*(k+1)=2*k+1+1 by lia];cases h:bj b u (2*k) with
  | true=>
   rw[gl (by rw[js,h];rfl),fy h,ao,mn b ns u k];rfl
  | false=>
   rw[fy (by rw[js,h];rfl),gl h,ao,mn b ns u k];rfl
structure wI (b:Bool) (ns:List Int) (u:Bool) (ps:List Bw):Prop where
 perm:ps.Perm ((bF b ns u (ns.length+1)).map (nq ((ns.length:Int)+1)))
theorem wI.of{b:Bool}{ns:List Int}{u:Bool}{L:List Bw}(h:L.Perm (bF b ns u (ns.length+1))):wI b ns u (L.map (nq ((ns.length:Int)+1))):=⟨h.map _⟩
section
variable {b u:Bool} {ns:List Int} {ps:List Bw}
theorem wI.mem(S:wI b ns u ps)(O:l8 ns){p:Bw}:p∈ps<->∃i,i<ns.length+1/\bj b u i=true/\p=zT ns i:=by
 rw[S.perm.mem_iff,af];constructor
 ·rintro⟨q,hq,rfl⟩;obtain⟨i,hi,s,rfl⟩:=j5 hq;exact⟨i,hi,s,t8 O hi⟩
 ·rintro⟨i,hi,s,rfl⟩;exact⟨_,y6 hi s,t8 O hi⟩
theorem wI.len(S:wI b ns u ps){k:Nat}(hk:ns.length+1=2*k):ps.length=k:=by
 rw[S.perm.length_eq,aF,hk,mn]
theorem wI.fill(S:wI b ns u ps)(O:l8 ns){k:Nat}(hk:ns.length+1=2*k):mf ps:=by
 have hl:=S.len hk;refine⟨λp hp=>?_,?_⟩
 ·obtain⟨i,hi,s,rfl⟩:=(S.mem O).mp hp;have:mi ns i≠mi ns (i+1):=λe=>by
   by_cases z:i=ns.length
   ·subst z;rw[oO,<-B9 ns] at e;have:=O.cy_inj (by lia) (by lia) e;lia
   ·have:=O.cy_inj (by lia) (by lia) e;lia
  show min _ _<max _ _;lia
 ·refine(fB (o9 _) (λx hx=>?_) ?_).symm
  ·rw[hl] at hx;have hx:=mU.mp hx;have hx2:x∈dG ns:=by
    unfold dG;by_cases z:x=0
    ·rw[z];exact aw
    ·exact ak _ (ax _ (O.mem.mpr (by lia)))
   obtain⟨j,hj,e⟩:=iM hx2;have hj2:j<ns.length+1:=by
    have h1:j<ns.length+2:=by rw[fq] at hj;exact hj
    have:j≠ns.length+1:=λz=>by
     have h2:=(aE.mp (fz h1)).2;rw[e] at h2;rw[z,lK] at h2;lia
    lia
   have ex:x=mi ns j:=by
    rw[mD hj2,<-e];exact(aE.mp (fz (ns:=ns) (i:=j) (by lia))).2
   have two:∃i,i<ns.length+1/\bj b u i=true/\(mi ns i=x\/mi ns (i+1)=x):=by
    cases h:bj b u j with
    | true=>exact⟨j,hj2,h,.inl ex.symm⟩
    | false=>
     by_cases z:j=0
     ·subst z;refine⟨ns.length,by lia,?_,.inr ?_⟩
      ·unfold bj at h ⊢;have:odd ns.length=true:=by unfold odd;rw[show ns.length % 2=1 by lia];rfl
       rw[this];cases b<;>cases u<;>first | rfl | cases h
      ·rw[oO,ex,B9]
     ·obtain⟨i,rfl⟩:∃i,j=i+1:=⟨j - 1,by lia⟩
      rw[js] at h;exact⟨i,by lia,by simpa using h,.inr ex.symm⟩
   obtain⟨i,hi,s,e2⟩:=two;have hp:zT ns i∈ps:=(S.mem O).mpr ⟨i,hi,s,rfl⟩;have e3:x=(zT ns i).1\/x=(zT ns i).2:=by
    show x=min _ _\/x=max _ _;lia
   unfold fG;rcases e3 with e3 | e3
   ·exact ax _ (af.mpr ⟨_,hp,e3.symm⟩)
   ·exact aa _ (af.mpr ⟨_,hp,e3.symm⟩)
  ·unfold fG dW;simp;lia
theorem DB{n:Int}{p q:Bw}(hp:0<=p.1/\p.2<=n)(hq:0<=q.1/\q.2<=n)(h1:bX p q=false)(h2:bX q p=false):bX (nq n p) (nq n q)=false:=by
 have n1:=yu h1;have n2:=yu h2;cases e:bX (nq n p) (nq n q) with
 | false=>rfl
 | true=>
  exfalso;have z:=i4 e;unfold nq at z
  split at z<;>split at z<;>(try simp only at z)<;>lia
theorem wI.nc(S:wI b ns u ps)(O:l8 ns)(nc:NC b ns):∀p∈ps,∀q∈ps,bX p q=false:=by
 intro p hp q hq;obtain⟨p',hp',rfl⟩:=af.mp (S.perm.mem_iff.mp hp);obtain⟨q',hq',rfl⟩:=af.mp (S.perm.mem_iff.mp hq);obtain⟨i,hi,_,e1⟩:=j5 hp';obtain⟨j,hj,_,e2⟩:=j5 hq';refine DB (by rw[e1];exact O.step_in (by lia)) (by rw[e2];exact O.step_in (by lia)) (nc u _ hp' _ hq') (nc u _ hq' _ hp')
theorem wI.mt(S:wI b ns u ps)(O:l8 ns)(nc:NC b ns){k:Nat}(hk:ns.length+1=2*k){i:Nat}(hi:i<ns.length+1)(s:bj b u i=true):mtF (dw ps) (mi ns i).toNat=(mi ns (i+1)).toNat/\mtF (dw ps) (mi ns (i+1)).toNat=(mi ns i).toNat:=by
 have m:=(S.fill O hk).mate (S.nc O nc) ((S.mem O).mpr ⟨i,hi,s,rfl⟩);by_cases h:mi ns i<=mi ns (i+1)
 ·have e1:(zT ns i).1=mi ns i:=by show min _ _=_;lia
  have e2:(zT ns i).2=mi ns (i+1):=by show max _ _=_;lia
  rw[e1,e2] at m;exact⟨jt (.inl m),jt (.inr m)⟩
 ·have e1:(zT ns i).1=mi ns (i+1):=by show min _ _=_;lia
  have e2:(zT ns i).2=mi ns i:=by show max _ _=_;lia
  rw[e1,e2] at m;exact⟨jt (.inr m),jt (.inl m)⟩
end
theorem uD{ps qs:List Bw}(h:ps.Perm qs):dw ps=dw qs:=by
 unfold dw;rw[h.length_eq];refine cQ λe _=>decide_eq_decide.mpr (h.map _).mem_iff
end Rm
namespace Rm
def rn(lo hi v:Int):Int:=if v=hi then lo else v
def vl(c:Nat):Int:=if c=40 then 1 else if c=41 then -1 else 0
def ps(cs:List Nat):Int:=(cs.map vl).sum
section
variable {x y:Int}
theorem off{l:List Int}(h1:x∉l)(h2:y∉l):∀v∈l,v≠x/\v≠y:=λv hv=>⟨λe=>h1 (e▸hv),λe=>h2 (e▸hv)⟩
end
end Rm
namespace L2
open PySem PySem.Spec PyProof.Rows PySem.Builtin PySem.Builtin.Str
section
variable {X:Cx}
theorem ph (hc:X.calm=true):fX X (.type "list") (λxs H Q=>∃z,xs=[.str z]/\z.cps.size<=1000/\∀l,H l=none->Q (.ref l) (bU H l (.lst (z.cps.toList.map λc=>V.str ⟨#[c]⟩)))):=by
 intro pins s σ H xs us Q I r h;obtain⟨z,rfl,hz,q⟩:=h;obtain⟨u,rfl,t,rfl⟩:=Ls r;have hz2:z.cps.size<=sizeLine:=aS (ai hz);refine call_list_str (I.ok.hd hc) z t (λh' tk acc' c' kp e' hit=>?_) hz2;have hv:bb (z.cps.toList.map λc=>V.str ⟨#[c]⟩) acc'.toList:=by
  refine zw (by simp[hit.1]) λi x u h1 h2=>?_;obtain⟨c,t',hc',rfl⟩:=hit.2 i u (by simpa using h2);have:x=V.str ⟨#[c]⟩:=by
   rw[bD] at h1;have:z.cps.toList[i]? = some c:=by simpa using hc'
   rw[this] at h1;exact(aq h1).symm
  subst this;exact⟨t',rfl⟩
 have hl:(z.cps.toList.map λc=>V.str ⟨#[c]⟩).length<=sizeLine:=by simpa using hz2
 exact⟨.ref s.heap.objs.size,_,I.laid kp (aH _) (show cL X.prog X.w _ h' _ (.lst _) from ⟨hl,acc'.toList,c',hv,by simpa using e'⟩),rfl,q _ (I.hok.fresh (aH _))⟩
end
def E9(K:MU)(a:Addr)(z:Str):It:=
  ⟨λi H=>∃xs x,bp K H a xs/\xs[i]? = some x/\i<z.cps.size,
   λi H v H'=>∃p x c,H p=none/\(∀xs,bp K H a xs->xs[i]? = some x)/\z.cps[i]? = some c/\v=.ref p/\H'=bU H p (.tup [.str ⟨#[c]⟩,x]),
   λi H=>i=z.cps.size⟩
def EO(K:MU)(ta:TA):TI:=λσ H R=>ta σ H λvs H1=>∃z a,vs=[.str z,.ref a]/\(∃xs,bp K H1 a xs)/\z.cps.all (·<128)=true/\R (E9 K a z) H1
theorem zq{K:MU}{σ:St}{H:Hp}{D:Ends}{ta:TA}{g:TG}{tb:TS}:oX (EO K ta) g tb D σ H=ta σ H λvs H1=>∃z a,vs=[.str z,.ref a]/\(∃xs,bp K H1 a xs)/\z.cps.all (·<128)=true/\nO (E9 K a z) g tb D σ H1:=rfl
end L2
namespace Rm
open PySem L2 PyProof.Rows
def BR(ns:List Int):List Nat->Nat->List (List Int)
 | [],_=>[]
 | c::cs,s=>Fg ns s c::BR ns cs c
def prt(ns:List Int):List (List Int):=BR ns (EX ns ns.length) 0
end Rm
namespace Rm
open PySem L2
section
def F5(L:List Int)(p:Nat):Prop:=1<=p/\p<L.length/\L[p-1]?≠L[p]?
instance (L:List Int) (p:Nat):Decidable (F5 L p):=by unfold F5;infer_instance
end
theorem four{k:Nat}(h:k<4):k=0\/k=1\/k=2\/k=3:=by lia
end Rm
namespace Rm
open PySem L2 PyProof.Rows
def Eh(b:Bool)(ns:List Int):Bool:=!gH (bF b ns false (ns.length+1))&&!gH (bF b ns true (ns.length+1))
def BQ:Sp:=λvs H Q _=>∃m o b ns,vs=[.ref m]/\fR H m o b ns/\ns.length<=40/\∀H',aX H H'->Q (.bl (Eh b ns)) H'
theorem Ce{b:Bool}{ns:List Int}(h:NC b ns):Eh b ns=true:=by
 unfold Eh;rw[ku (h false),ku (h true)];rfl
end Rm
namespace Rm
open PySem L2
def tx(cs:List Nat):Str:=⟨cs.toArray⟩
end Rm
namespace L2
open PySem PySem.Spec PyProof.Rows
theorem Bm{K:MU}{σ:St}{H:Hp}{D:Ends}{ta:TA}{g:TG}{tb:TS}:oX (EQ K ta) g tb D σ H=ta σ H λvs H1=>∃a b,vs=[.ref a,.ref b]/\(∃xs,bp K H1 a xs)/\(∃ys,bp K H1 b ys)/\nO (FQ K a b) g tb D σ H1:=rfl
end L2
namespace Rm
open PySem L2 PyProof.Rows
def hN(S:List Bw):Nat->Bw->Nat
 | 0,_=>1
 | k+1,p=>1+((S.filter λq=>Fj q p).map (hN S k)).foldl max 0
def hF(S:List Bw)(p:Bw):Nat:=hN S (EC p).toNat p
def yV:Sp:=λvs H Q _=>∃m o b ns,vs=[.ref m]/\fR H m o b ns/\l8 ns/\NC b ns/\∀H',aX H H'->Q (.bl true) H'
def zX(b:Bool)(ns:List Int)(u:Bool):List Bool:=dw ((bF b ns u (ns.length+1)).map (nq ((ns.length:Int)+1)))
theorem pO(b:Bool)(ns:List Int)(u:Bool):wI b ns u ((bF b ns u (ns.length+1)).map (nq ((ns.length:Int)+1))):=⟨.refl _⟩
theorem zW{b:Bool}{ns:List Int}{u:Bool}{L:List Bw}(h:L.Perm (bF b ns u (ns.length+1))):dw (L.map (nq ((ns.length:Int)+1)))=zX b ns u:=uD (h.map _)
section
variable {b:Bool} {ns:List Int} {k:Nat}
theorem wC(u:Bool)(hk:ns.length+1=2*k):(zX b ns u).length=2*k:=by
 unfold zX;rw[lD,(pO b ns u).len hk]
theorem wD(u:Bool)(O:l8 ns)(hk:ns.length+1=2*k):kd (zX b ns u):=((pO b ns u).fill O hk).bal
end
def BP:Sp:=λvs H Q _=>∃l ps,∃n:Int,vs=[.ref l,.int n]/\cK H l ps/\ps.length<=40/\∀l' H',H l'=none->aX H H'->cK H' l' (ps.map (nq n))->Q (.ref l') H'
def EZ(H:Hp)(t:Addr)(b:Bool)(ns:List Int):Prop:=H t=some (.tup [.str (wd (zX b ns false)),.str (wd (zX b ns true))])
def yx(r:List Nat):List Int:=r.map λx:Nat=>(x:Int)
def oF (W R : Addr) : Sp := fun vs H Q E => ∃ x y d e, vs = [x, y] ∧ Dat H x d ∧ fv d ∧ Dat H y e ∧ fv e ∧
  ((∃ bs cs, d = rY bs ∧ e = rY cs ∧ jX bs cs ∧ ((rsF (mtF bs) (mtF cs) bs.length).length ≠ 1 → ∀ H', aX H H' → E (.ref R) none H') ∧ (20 < bs.length → ∀ H', aX H H' → E (.ref R) none H') ∧
    (∀ r, rsF (mtF bs) (mtF cs) bs.length = [r] → bs.length ≤ 20 → ∀ m o H', aX H H' → fR H' m o false (yx (r.drop 1)) → Q (.ref m) H')) ∨ (jj d e = false ∧ E (.ref W) none H))
theorem tV(xs:List V):tX xs (some 1) none=xs.drop 1:=by
 have e1:HT.sIx xs.length 0 (some (1:Int))=min 1 xs.length:=by
  show (if (1:Int)<0 then ((1:Int)+(xs.length:Int)).toNat else min (1:Int).toNat xs.length)=_;rw[MN (by decide)];rfl
 have e2:HT.sIx xs.length xs.length none=xs.length:=rfl;unfold tX;rw[e1,e2];cases xs with
 | nil=>rfl
 | cons x xs=>simp
theorem rJ{K:MU}{H:Hp}{x y:V}{d:PyData}{neg:Bool}{Q:VK}(hx:Dat H x d)(hy:Dat H y d)(lay:d.canLay0=true)(dp:d.depth<=60)(q:Q (.bl (!neg)) H):uU K neg x y H Q:=by
 refine⟨_,_,hx.rep,hy.rep,lay,lay,by rw[Nat.min_self];exact dp,?_⟩;rw[PySem.SeqAt.eqv_refl _ lay];cases neg
 ·exact q
 ·exact q
def mh(M:Nat->Nat)(x y:Nat):Prop:=(x<y/\y<M x)\/(M x<y/\y<x)
def zi(n:Nat)(M:Nat->Nat):Prop:=∀x y,x<n->y<n->y≠x->y≠M x->mh M x y->mh M x (M y)
theorem ue{bs:List Bool}(b:kd bs):zi bs.length (mtF bs):=by
 intro x y hx hy n1 n2 h;have px:=jV b hx;have py:=jV b hy;have iy:mtF bs (mtF bs y)=y:=(dj b).inv y hy;have ix:mtF bs (mtF bs x)=x:=(dj b).inv x hx;have n3:mtF bs y≠x:=λe=>n2 (by rw[<-e,iy]);have n4:mtF bs y≠mtF bs x:=λe=>n1 (by rw[<-iy,e,ix]);unfold mh at h ⊢;rcases px with px | px<;>rcases py with py | py
 ·have:=px.noCross py;have:=px.lt;have:=py.lt;lia
 ·have:=py.noCross px;have:=px.lt;have:=py.lt;lia
 ·have:=px.noCross py;have:=px.lt;have:=py.lt;lia
 ·have:=py.noCross px;have:=px.lt;have:=py.lt;lia
def AH(n:Nat)(M:Nat->Nat):List Bw:=((List.range n).filter λx=>decide (x<M x)).map λx:Nat=>((x:Int),((M x:Nat):Int))
section
variable {n:Nat} {M:Nat->Nat}
theorem gj{p:Bw}:p∈AH n M<->∃x:Nat,x<n/\x<M x/\p=((x:Int),((M x:Nat):Int)):=by
 unfold AH;rw[af];constructor
 ·rintro⟨x,hx,rfl⟩;obtain⟨h1,h2⟩:=bY.mp hx;exact⟨x,aU.mp h1,MR h2,rfl⟩
 ·rintro⟨x,h1,h2,rfl⟩;exact⟨x,bY.mpr ⟨aU.mpr h1,decide_eq_true h2⟩,rfl⟩
theorem sT(P:iz n M)(NF:ip n M):(fG (AH n M)).Perm (dW 0 n):=by
 refine yl ?_ λx=>?_
 ·have nr:=(cY (n:=n)).filter λx=>decide (x<M x);have nr2:=dU.mp nr;unfold fG AH;rw[bx,bx];refine List.nodup_append.mpr ⟨?_,?_,?_⟩
  ·rw[List.Nodup,b6];refine nr.imp fun {a b} h e=>h ?_;have e:(a:Int)=(b:Int):=e;lia
  ·rw[List.Nodup,b6];refine nr2.imp fun {a b} h e=>h.2.2 ?_;have e:((M a:Nat):Int)=((M b:Nat):Int):=e;have ha:=aU.mp (bY.mp h.1).1;have hb:=aU.mp (bY.mp h.2.1).1;rw[<-P.inv a ha,<-P.inv b hb,show M a=M b by lia]
  ·intro a h1 b h2 e;subst e;obtain⟨x,hx,e1⟩:=af.mp h1;obtain⟨y,hy,e2⟩:=af.mp h2;obtain⟨hx1,hx2⟩:=bY.mp hx;obtain⟨hy1,hy2⟩:=bY.mp hy;have e1:(x:Int)=a:=e1;have e2:((M y:Nat):Int)=a:=e2;have hx2:=MR hx2;have hy2:=MR hy2;have e:x=M y:=by lia
   have:=P.inv y (aU.mp hy1);rw[<-e] at this;lia
 ·unfold fG;rw[aT,af,af];constructor
  ·rintro (⟨p,hp,rfl⟩ | ⟨p,hp,rfl⟩)
   ·obtain⟨x,h1,h2,rfl⟩:=gj.mp hp;show (0:Int)<=(x:Int)/\(x:Int)<n;lia
   ·obtain⟨x,h1,h2,rfl⟩:=gj.mp hp;have:=P.lt x h1;show (0:Int)<=((M x:Nat):Int)/\((M x:Nat):Int)<n;lia
  ·rintro⟨h1,h2⟩;obtain⟨y,rfl⟩:∃y:Nat,x=y:=⟨x.toNat,by lia⟩
   have hy:y<n:=by lia
   have nf:=NF y hy;rcases gN y (M y) with h | h
   ·exact .inl ⟨_,gj.mpr ⟨y,hy,h,rfl⟩,rfl⟩
   ·refine .inr ⟨_,gj.mpr ⟨M y,P.lt y hy,by rw[P.inv y hy];lia,rfl⟩,?_⟩;show ((M (M y):Nat):Int)=y;rw[P.inv y hy]
theorem vi(P:iz n M)(NF:ip n M):2*(AH n M).length=n:=by
 have:=(sT P NF).length_eq;unfold fG dW at this;simp only[ao,aF,jP] at this;lia
def uE(n:Nat)(M:Nat->Nat):List Bool:=(List.range n).map λx=>decide (x<M x)
theorem nz:(uE n M).length=n:=by simp[uE]
theorem rX(P:iz n M)(NF:ip n M):dw (AH n M)=uE n M:=by
 unfold dw uE;rw[vi P NF];refine cQ λx hx=>decide_eq_decide.mpr ?_;rw[af];constructor
 ·rintro⟨p,hp,e⟩;obtain⟨y,h1,h2,rfl⟩:=gj.mp hp;have e:(y:Int)=x:=e;rw[show x=y by lia];exact h2
 ·intro h;exact⟨_,gj.mpr ⟨x,aU.mp hx,h,rfl⟩,rfl⟩
theorem sS(P:iz n M)(NF:ip n M):mf (AH n M):=by
 refine⟨λp hp=>?_,by rw[vi P NF];exact sT P NF⟩;obtain⟨x,h1,h2,rfl⟩:=gj.mp hp;show (x:Int)<((M x:Nat):Int);lia
theorem C6(P:iz n M)(C:zi n M):∀p∈AH n M,∀q∈AH n M,bX p q=false:=by
 intro p hp q hq;obtain⟨x,h1,h2,rfl⟩:=gj.mp hp;obtain⟨y,h3,h4,rfl⟩:=gj.mp hq;cases e:bX ((x:Int),((M x:Nat):Int)) ((y:Int),((M y:Nat):Int)) with
 | false=>rfl
 | true=>
  exfalso;have z:=i4 e;have:=C x y h1 h3 (by simp only at z;lia) (by simp only at z;lia) (.inl (by simp only at z;lia));unfold mh at this;simp only at z;lia
theorem zl(P:iz n M)(NF:ip n M):kd (uE n M):=by
 rw[<-rX P NF];exact(sS P NF).bal
theorem Bg(P:iz n M)(NF:ip n M)(C:zi n M){x:Nat}(hx:x<n):mtF (uE n M) x=M x:=by
 have nf:=NF x hx;have m:∀y,y<n->y<M y->iq (uE n M) y (M y):=λy hy h=>by
  have:=(sS P NF).mate (C6 P C) (gj.mpr ⟨y,hy,h,rfl⟩);rw[rX P NF] at this;simpa using this
 rcases gN x (M x) with h | h
 ·exact jt (.inl (m x hx h))
 ·have:=m (M x) (P.lt x hx) (by rw[P.inv x hx];lia);rw[P.inv x hx] at this;exact jt (.inr this)
end
theorem oT{bs:List Bool}(b:kd bs):uE bs.length (mtF bs)=bs:=by
 unfold uE;apply jg
 ·simp
 ·intro i h1 h2;rw[List.getElem_map,List.getElem_range];rcases jV b h2 with m | m
  ·have:=m.op;rw[aL h2] at this;rw[aq this];exact decide_eq_true m.lt
  ·have:=m.cl;rw[aL h2] at this;rw[aq this];have:=m.lt;exact MQ (by lia)
theorem xY{bs cs:List Bool}(b:kd bs)(c:kd cs)(el:cs.length=bs.length)(h:∀x,x<bs.length->mtF cs x=mtF bs x):cs=bs:=by
 rw[<-oT b,<-oT c,el];unfold uE;exact cQ λx hx=>by rw[h x (aU.mp hx)]
def pZ(M:Nat->Nat)(p x:Nat):Nat:=if x=p then p+1 else if x=p+1 then p else if x=M p then M (p+1) else if x=M (p+1) then M p else M x
section
variable {n:Nat} {M:Nat->Nat} {p:Nat}
structure nv (n:Nat) (M:Nat->Nat) (p:Nat):Prop where
 P:iz n M
 NF:ip n M
 C:zi n M
 lt:p+1<n
 ne:M p≠p+1
theorem nv.facts(T:nv n M p):M p≠p/\M (p+1)≠p+1/\M (p+1)≠p/\M p≠M (p+1)/\M (M p)=p/\M (M (p+1))=p+1/\M p<n/\M (p+1)<n:=by
 have l:=T.lt;have i1:=T.P.inv p (by lia);have i2:=T.P.inv (p+1) l;refine⟨T.NF p (by lia),T.NF _ l,λe=>T.ne (by rw[<-i2,e]),λe=>?_,i1,i2,T.P.lt p (by lia),T.P.lt _ l⟩;rw[<-e,i1] at i2;lia
theorem nv.at0(T:nv n M p):pZ M p p=p+1:=by unfold pZ;rw[MO rfl]
theorem nv.at1(T:nv n M p):pZ M p (p+1)=p:=by unfold pZ;rw[MN (by lia),MO rfl]
theorem nv.at2(T:nv n M p):pZ M p (M p)=M (p+1):=by
 have f:=T.facts;have:=T.ne;unfold pZ;rw[MN f.1,MN this,MO rfl]
theorem nv.at3(T:nv n M p):pZ M p (M (p+1))=M p:=by
 have f:=T.facts;unfold pZ;rw[MN f.2.2.1,MN f.2.1,MN (cU f.2.2.2.1),MO rfl]
theorem nv.els(T:nv n M p){x:Nat}(h:x≠p/\x≠p+1/\x≠M p/\x≠M (p+1)):pZ M p x=M x:=by
 unfold pZ;rw[MN h.1,MN h.2.1,MN h.2.2.1,MN h.2.2.2]
theorem nv.els2(T:nv n M p){x:Nat}(hx:x<n)(h:x≠p/\x≠p+1/\x≠M p/\x≠M (p+1)):M x≠p/\M x≠p+1/\M x≠M p/\M x≠M (p+1):=by
 have i:=T.P.inv x hx;have f:=T.facts;refine⟨λe=>h.2.2.1 (by rw[<-e,i]),λe=>h.2.2.2 (by rw[<-e,i]),λe=>h.1 ?_,λe=>h.2.1 ?_⟩
 ·rw[e,f.2.2.2.2.1] at i;exact i.symm
 ·rw[e,f.2.2.2.2.2.1] at i;exact i.symm
theorem nv.cases(T:nv n M p)(x:Nat):x=p\/x=p+1\/x=M p\/x=M (p+1)\/(x≠p/\x≠p+1/\x≠M p/\x≠M (p+1)):=by lia
theorem nv.prt(T:nv n M p):iz n (pZ M p):=by
 have l:=T.lt;have f:=T.facts;refine⟨λx hx=>?_,λx hx=>?_⟩
 ·rcases T.cases x with rfl | rfl | rfl | rfl | h
  ·rw[T.at0];exact l
  ·rw[T.at1];lia
  ·rw[T.at2];exact f.2.2.2.2.2.2.2
  ·rw[T.at3];exact f.2.2.2.2.2.2.1
  ·rw[T.els h];exact T.P.lt x hx
 ·rcases T.cases x with rfl | rfl | rfl | rfl | h
  ·rw[T.at0,T.at1]
  ·rw[T.at1,T.at0]
  ·rw[T.at2,T.at3]
  ·rw[T.at3,T.at2]
  ·rw[T.els h,T.els (T.els2 hx h)];exact T.P.inv x hx
theorem nv.nf(T:nv n M p):ip n (pZ M p):=by
 have f:=T.facts;intro x hx;rcases T.cases x with rfl | rfl | rfl | rfl | h
 ·rw[T.at0];lia
 ·rw[T.at1];lia
 ·rw[T.at2];exact cU f.2.2.2.1
 ·rw[T.at3];exact f.2.2.2.1
 ·rw[T.els h];exact T.NF x hx
theorem nv.nc(T:nv n M p):zi n (pZ M p):=by
 have l:=T.lt;have f:=T.facts;have stay:∀x,x<n->(x≠p/\x≠p+1/\x≠M p/\x≠M (p+1))->(mh M x p<->mh M x (M p))/\(mh M x (p+1)<->mh M x (M (p+1)))/\(mh M x p<->mh M x (p+1)):=λx hx h=>by
  have e:=T.els2 hx h;have a1:=T.C x p hx (by lia) (cU h.1) (cU e.1);have a2:=T.C x (M p) hx f.2.2.2.2.2.2.1 (cU h.2.2.1) (cU e.2.2.1);have a3:=T.C x (p+1) hx l (cU h.2.1) (cU e.2.1);have a4:=T.C x (M (p+1)) hx f.2.2.2.2.2.2.2 (cU h.2.2.2) (cU e.2.2.2);rw[f.2.2.2.2.1] at a2;rw[f.2.2.2.2.2.1] at a4;refine⟨⟨a1,a2⟩,⟨a3,a4⟩,?_⟩;unfold mh;lia
 have outer:∀x y,x<n->y<n->(y≠p/\y≠p+1/\y≠M p/\y≠M (p+1))->(x=M p\/x=M (p+1))->mh (pZ M p) x y->mh (pZ M p) x (M y):=λx y hx hy h hx2 hb=>by
  have s:=stay y hy h;have e:=T.els2 hy h;have s3:mh M y (M p)<->mh M y (M (p+1)):=s.1.symm.trans (s.2.2.trans s.2.1);unfold mh at s3;rcases hx2 with rfl | rfl
  ·unfold mh at hb ⊢;rw[T.at2] at hb ⊢;lia
  ·unfold mh at hb ⊢;rw[T.at3] at hb ⊢;lia
 intro x y hx hy n1 n2 hb;rcases T.cases x with rfl | rfl | hx2 | hx2 | h
 ·unfold mh at hb;rw[T.at0] at hb;lia
 ·unfold mh at hb;rw[T.at1] at hb;lia
 ·rcases T.cases y with rfl | rfl | rfl | rfl | h'
  ·rw[T.at0];subst hx2;have:=f.1;have:=T.ne;have:=f.2.1;have:=f.2.2.1;unfold mh at hb ⊢;rw[T.at2] at hb ⊢;lia
  ·rw[T.at1];subst hx2;have:=f.1;have:=T.ne;have:=f.2.1;have:=f.2.2.1;unfold mh at hb ⊢;rw[T.at2] at hb ⊢;lia
  ·exact absurd hx2.symm n1
  ·rw[hx2,T.at2] at n2;exact absurd rfl n2
  ·rw[T.els h'];exact outer x y hx hy h' (.inl hx2) hb
 ·rcases T.cases y with rfl | rfl | rfl | rfl | h'
  ·rw[T.at0];subst hx2;have:=f.1;have:=T.ne;have:=f.2.1;have:=f.2.2.1;unfold mh at hb ⊢;rw[T.at3] at hb ⊢;lia
  ·rw[T.at1];subst hx2;have:=f.1;have:=T.ne;have:=f.2.1;have:=f.2.2.1;unfold mh at hb ⊢;rw[T.at3] at hb ⊢;lia
  ·rw[hx2,T.at3] at n2;exact absurd rfl n2
  ·exact absurd hx2.symm n1
  ·rw[T.els h'];exact outer x y hx hy h' (.inr hx2) hb
 ·have s:=stay x hx h;have e:∀z,mh (pZ M p) x z<->mh M x z:=λz=>by unfold mh;rw[T.els h]
  rw[e] at hb ⊢;rcases T.cases y with rfl | rfl | rfl | rfl | h'
  ·rw[T.at0];exact s.2.2.mp hb
  ·rw[T.at1];exact s.2.2.mpr hb
  ·rw[T.at2];exact s.2.1.mp (s.2.2.mp (s.1.mpr hb))
  ·rw[T.at3];exact s.1.mp (s.2.2.mpr (s.2.1.mpr hb))
  ·rw[T.els h'] at *;rw[T.els h] at n2;exact T.C x y hx hy n1 n2 hb
end
noncomputable def tnW (bs:List Bool) (p:Nat):List Bool:=uE bs.length (pZ (mtF bs) p)
section
variable {bs cs:List Bool} {p:Nat}
theorem zA(b:kd bs)(hp:p+1<bs.length)(ne:mtF bs p≠p+1):nv bs.length (mtF bs) p:=⟨dj b,pD b,ue b,hp,ne⟩
theorem vR(T:jX bs cs)(t:nv bs.length (mtF bs) p):jX (tnW bs p) cs:=⟨zl t.prt t.nf,T.balR,by unfold tnW;rw[nz];exact T.len,by unfold tnW;rw[nz];exact T.eq⟩
theorem vS:(tnW bs p).length=bs.length:=nz
theorem jX.rin(T:jX bs cs):ux bs.length (mtF bs) (mtF cs) bs.length (rsF (mtF bs) (mtF cs) bs.length) (λx=>∃r∈rsF (mtF bs) (mtF cs) bs.length,x∈r):=
 (oG (dj T.bal) (by have:=dj T.balR;rwa [T.eq] at this) T.len _ (aH _)).1
theorem yp(T:jX bs cs)(hp:p+1<bs.length)(hr:∀r∈rsF (mtF bs) (mtF cs) bs.length,p∈r->p+1∉r):mtF bs p≠p+1/\(rsF (mtF (tnW bs p)) (mtF cs) (tnW bs p).length).length+1=(rsF (mtF bs) (mtF cs) bs.length).length:=by
 have X:=T.rin;obtain⟨r0,hr0,hp0⟩:=X.upto p (by lia);have n0:=hr r0 hr0 hp0;have ne:mtF bs p≠p+1:=λe=>n0 (by rw[<-e];exact(X.rn.inn r0 hr0 p hp0).2.1);refine⟨ne,?_⟩;have t:=zA T.bal hp ne;have f:=t.facts;have T':=vR T t;have X':=T'.rin;have mt:∀x,x<bs.length->mtF (tnW bs p) x=pZ (mtF bs) p x:=λx hx=>Bg t.prt t.nf t.nc hx;rw[vS] at X' ⊢;have pW:iz bs.length (mtF cs):=by rw[<-T.eq];exact dj T.balR
 have parW:∀x,x<bs.length->(x+mtF cs x) % 2=1:=λx hx=>vo T.balR (by rw[T.eq];exact hx);have parM:∀x,x<bs.length->(x+mtF bs x) % 2=1:=λx hx=>vo T.bal hx;have q0:=parM p (by lia);have q1:=parM (p+1) hp;generalize em:((List.range bs.length).filter λx=>decide (x≠p/\x≠p+1/\x≠mtF bs p/\x≠mtF bs (p+1))).map (λx=>(x,mtF bs x))=ms0;have mem:∀e,e∈ms0<->∃x,x<bs.length/\(x≠p/\x≠p+1/\x≠mtF bs p/\x≠mtF bs (p+1))/\e=(x,mtF bs x):=λe=>by
  rw[<-em,af];constructor
  ·rintro⟨x,hx,rfl⟩;obtain⟨h1,h2⟩:=bY.mp hx;exact⟨x,aU.mp h1,MR h2,rfl⟩
  ·rintro⟨x,h1,h2,rfl⟩;exact⟨x,bY.mpr ⟨aU.mpr h1,decide_eq_true h2⟩,rfl⟩
 have R:qf bs.length (mtF cs) (mtF bs) ms0 p (mtF bs p) (mtF bs (p+1)) (p+1):=⟨pW,t.P,parW,parM,by lia,f.2.2.2.2.2.2.2,cU f.2.2.1,by lia,rfl,f.2.2.2.2.2.1,λx hx px h1 h2=>.inl ((mem _).mpr ⟨x,hx,⟨h1,by lia,by lia,h2⟩,rfl⟩),λe he=>by
  obtain⟨x,hx,h,rfl⟩:=(mem e).mp he;have e2:=t.els2 hx h;exact⟨rfl,t.P.inv x hx,hx,t.P.lt x hx,h.1,h.2.2.1,h.2.2.2,h.2.1,e2.1,e2.2.2.1,e2.2.2.2,e2.2.1⟩⟩
 obtain⟨k0,hk0,ck0⟩:=zD T.balR;rw[T.eq] at ck0;obtain⟨lb,k,ck,_⟩:=xH pW (uy.start pW) ck0 ms0 λe he=>by obtain⟨x,hx,h,rfl⟩:=(mem e).mp he;exact⟨hx,t.P.lt x hx⟩
 have h0:∀e∈ms0,mtF (tnW bs p) e.1=e.2/\mtF (tnW bs p) e.2=e.1:=λe he=>by
  obtain⟨x,hx,h,rfl⟩:=(mem e).mp he;refine⟨by show mtF (tnW bs p) x=_;rw[mt x hx,t.els h],?_⟩;show mtF (tnW bs p) (mtF bs x)=x;rw[mt _ (t.P.lt x hx),t.els (t.els2 hx h),t.P.inv x hx]
 rcases sM (M':=mtF (tnW bs p)) R lb ck ⟨λr hr x hx=>let ⟨a,b,c⟩:=X.rn.inn r hr x hx;⟨a,c,b⟩,λf hf=>X.rn.one f λx hx=>⟨(hf x hx).2,(hf x hx).1⟩,X.rn.apart,X.rn.ne⟩ X.upto ⟨λr hr x hx=>let ⟨a,b,c⟩:=X'.rn.inn r hr x hx;⟨a,c,b⟩,λf hf=>X'.rn.one f λx hx=>⟨(hf x hx).2,(hf x hx).1⟩,X'.rn.apart,X'.rn.ne⟩ X'.upto h0 ⟨by rw[mt p (by lia),t.at0],by rw[mt _ hp,t.at1]⟩ ⟨by rw[mt _ f.2.2.2.2.2.2.2,t.at3],by rw[mt _ f.2.2.2.2.2.2.1,t.at2]⟩ with ⟨_,h⟩ | h
 ·exfalso;refine n0 (lb.conn (·∈r0) (λx _ hx=>(X.rn.inn r0 hr0 x hx).2.2) (λe he=>?_) p (p+1) (by lia) hp hp0 h.symm);obtain⟨x,hx,_,rfl⟩:=(mem e).mp he;refine⟨λz=>(X.rn.inn r0 hr0 _ z).2.1,λz=>?_⟩;have:=(X.rn.inn r0 hr0 _ z).2.1
  rwa [show mtF bs (mtF bs x)=x from t.P.inv x hx] at this
 ·exact h.symm
end
def rO(L R:Nat->Nat)(j:Nat):Nat:=if j % 2=0 then cM L R 0 (j / 2) else L (cM L R 0 (j / 2))
theorem pK(L R:Nat->Nat)(i:Nat):rO L R (2*i)=cM L R 0 i:=by
 unfold rO;rw[MO (by lia),show 2*i / 2=i by lia]
theorem rN(L R:Nat->Nat)(i:Nat):rO L R (2*i+1)=L (cM L R 0 i):=by
 unfold rO;rw[MN (by lia),show (2*i+1) / 2=i by lia]
theorem v9(L R:Nat->Nat):∀k,∃t,rsF L R (k+1)=rdF L R 0::t
 | 0=>⟨[],by rw[mO (by rintro⟨r,hr,_⟩;cases hr)];rfl⟩
 | k+1=>by
  obtain⟨t,e⟩:=v9 L R k;by_cases c:∃r∈rsF L R (k+1),k+1∈r
  ·exact⟨t,by rw[mM c,e]⟩
  ·exact⟨t++[rdF L R (k+1)],by rw[mO c,e];rfl⟩
def wR(L R:Nat->Nat)(u:Bool):Nat->Nat:=if u then R else L
structure ze (n:Nat) (L R c:Nat->Nat):Prop where
 c0:c 0=0
 cn:c n=0
 lt:∀ i,i<n->c i<n
 inj:∀ i j,i<n->j<n->c i=c j->i=j
 all:∀ x,x<n->∃ i,i<n/\x=c i
 mt:∀ u i,i<n->bj false u i=true->wR L R u (c i)=c (i+1)
 ev:n % 2=0
 pos:0<n
theorem Cz{n:Nat}{L R:Nat->Nat}{r:List Nat}(PL:iz n L)(PR:iz n R)(NL:ip n L)(NR:ip n R)(n40:n<=40)(pos:0<n)(h:rsF L R n=[r]):ze n L R (rO L R)/\r=(List.range n).map (rO L R):=by
 obtain⟨m,hm⟩:=ou PL PR pos;obtain⟨t,ht⟩:=v9 L R (n - 1);rw[show n - 1+1=n by lia,h] at ht;have er:r=kR L R 0 m:=by rw[(List.cons.inj ht).1,rdF,vj hm]
 have er2:r=(List.range (2*m)).map (rO L R):=by
  rw[er];exact yc (c:=rO L R) rfl (λi _=>by rw[pK,rN]) (λi _=>by rw[rN,show 2*i+2=2*(i+1) by lia,pK];rfl) m (aH _)
 have lt:=λk=>kq (R:=R) PL PR pos k;have ltc:∀i,rO L R i<n:=λi=>by
  unfold rO;split
  ·exact lt _
  ·exact PL.lt _ (lt _)
 have nLR:∀i j,cM L R 0 i≠L (cM L R 0 j):=λi j e=>by
  rcases Nat.le_total j i with z | z
  ·exact rG PL PR NL NR pos _ i j (aH _) z e
  ·refine rG PL PR NL NR pos _ j i (aH _) z ?_;rw[e,PL.inv _ (lt j)]
 have inj:∀i j,i<2*m->j<2*m->rO L R i=rO L R j->i=j:=λi j hi hj e=>by
  unfold rO at e
  split at e<;>split at e
  ·have:=hm.inj (i / 2) (j / 2) (by lia) (by lia) e;lia
  ·exact absurd e (nLR _ _)
  ·exact absurd e.symm (nLR _ _)
  ·have e2:=congrArg L e;rw[PL.inv _ (lt _),PL.inv _ (lt _)] at e2;have:=hm.inj (i / 2) (j / 2) (by lia) (by lia) e2;lia
 have nd:((List.range (2*m)).map (rO L R)).Nodup:=by
  rw[List.Nodup,b6];exact(dU.mp (cY (n:=2*m))).imp fun {a b} h e=>h.2.2 (inj a b (aU.mp h.1) (aU.mp h.2.1) e)
 have le1:2*m<=n:=by
  have:=nV nd (n:=n) (λx hx=>by obtain⟨i,_,rfl⟩:=af.mp hx;exact ltc i);simpa using this
 have X:=(oG PL PR n40 n (aH _)).1;have cov:∀x,x<n->∃i,i<2*m/\x=rO L R i:=λx hx=>by
  obtain⟨r',hr',hx'⟩:=X.upto x hx;rw[h,ar] at hr';rw[hr',er2] at hx';obtain⟨i,hi,e⟩:=af.mp hx';exact⟨i,aU.mp hi,e.symm⟩
 have le2:n<=2*m:=by
  refine gb λz=>?_;have p:=fB nd (m:=List.range n) (λx hx=>by obtain⟨i,_,rfl⟩:=af.mp hx;exact aU.mpr (ltc i));have q:=(fB (cY (n:=n)) (m:=(List.range (2*m)).map (rO L R)) (λx hx=>by obtain⟨i,hi,e⟩:=cov x (aU.mp hx);exact af.mpr ⟨i,aU.mpr hi,e.symm⟩) (by simp;lia)).length_eq;simp at q;lia
 have en:n=2*m:=Nat.le_antisymm le2 le1;refine⟨⟨rfl,?_,λi _=>ltc i,λi j hi hj=>inj i j (by lia) (by lia),λx hx=>?_,λu i hi hs=>?_,by lia,pos⟩,by rw[er2,en]⟩
 ·rw[en,pK];exact hm.back
 ·obtain⟨i,h1,h2⟩:=cov x hx;exact⟨i,by lia,h2⟩
 ·unfold bj odd at hs;rcases dL i with z | z
  ·obtain⟨j,rfl⟩:∃j,i=2*j:=⟨i / 2,by lia⟩
   rw[z] at hs;have:u=false:=by cases u;rfl;cases hs
   subst this;rw[pK,rN];rfl
  ·obtain⟨j,rfl⟩:∃j,i=2*j+1:=⟨i / 2,by lia⟩
   rw[z] at hs;have:u=true:=by cases u;cases hs;rfl
   subst this;rw[rN,show 2*j+1+1=2*(j+1) by lia,pK];rfl
def lX(c:Nat->Nat)(n:Nat):List Int:=(List.range (n - 1)).map λi=>((c (i+1):Nat):Int)
theorem C9{c:Nat->Nat}{n:Nat}(h:0<n):yx (((List.range n).map c).drop 1)=lX c n:=by
 unfold yx lX;obtain⟨k,rfl⟩:∃k,n=k+1:=⟨n - 1,by lia⟩
 rw[List.range_succ_eq_map,bR,List.drop_one,List.tail_cons,bx,bx];rfl
section
variable {n:Nat} {L R c:Nat->Nat}
theorem mT(h:0<n):(lX c n).length+1=n:=by unfold lX;simp;lia
theorem ze.row(Y:ze n L R c){j:Nat}(h:j<n):bc (lX c n) j=c j:=by
 cases j with
 | zero=>rw[CU,Y.c0];rfl
 | succ j=>
  refine wW ?_;unfold lX;rw[bD,iN (by lia)];rfl
theorem ze.ord(Y:ze n L R c)(h20:n<=21):l8 (lX c n):=by
 have hl:=mT (c:=c) Y.pos;have nd:(lX c n).Nodup:=by
  unfold lX;rw[List.Nodup,b6];refine(dU.mp (cY (n:=n - 1))).imp fun {a b} h e=>h.2.2 ?_;have ha:=aU.mp h.1;have hb:=aU.mp h.2.1;have:=Y.inj (a+1) (b+1) (by lia) (by lia) (by lia);lia
 have sub:∀x∈lX c n,x∈dW 1 (lX c n).length:=λx hx=>by
  unfold lX at hx;obtain⟨i,hi,rfl⟩:=af.mp hx;have hi:=aU.mp hi;have l:=Y.lt (i+1) (by lia);have:c (i+1)≠0:=λe=>by
   have:=Y.inj (i+1) 0 (by lia) Y.pos (e.trans Y.c0.symm);lia
  rw[tD];lia
 exact⟨by lia,fB nd sub (by unfold dW;simp)⟩
theorem ze.cy(Y:ze n L R c){j:Nat}(h:j<=n):mi (lX c n) j=c j:=by
 have hl:=mT (c:=c) Y.pos;rcases gN j n with z | z
 ·rw[mD (by lia),Y.row z]
 ·have e:j=(lX c n).length+1:=by lia
  rw[e,oO,<-e,show j=n by lia,Y.cn];rfl
theorem Af{M:Nat->Nat}(P:iz n M)(C:zi n M){x y:Nat}(hx:x<n)(hy:y<n):bX (min (x:Int) (M x:Nat),max (x:Int) (M x:Nat)) (min (y:Int) (M y:Nat),max (y:Int) (M y:Nat))=false:=by
 cases e:bX (min (x:Int) (M x:Nat),max (x:Int) (M x:Nat)) (min (y:Int) (M y:Nat),max (y:Int) (M y:Nat)) with
 | false=>rfl
 | true=>
  exfalso;have z:=i4 e;simp only at z;have c1:=C x y hx hy;have c2:=C x (M y) hx (P.lt y hy);rw[P.inv y hy] at c2;unfold mh at c1 c2;lia
theorem ze.nc(Y:ze n L R c)(PL:iz n L)(PR:iz n R)(CL:zi n L)(CR:zi n R):NC false (lX c n):=by
 have hl:=mT (c:=c) Y.pos;have ev:=Y.ev;have prt:∀u,iz n (wR L R u):=λu=>by cases u;exact PL;exact PR
 have ncr:∀u,zi n (wR L R u):=λu=>by cases u;exact CL;exact CR
 have st:∀u i,i<n->bj false u i=true->i+1<n->fA (lX c n) i=(min (c i:Int) (wR L R u (c i):Nat),max (c i:Int) (wR L R u (c i):Nat)):=λu i hi hs h=>by
  unfold fA;rw[Y.row hi,Y.row h,Y.mt u i hi hs]
 intro u p hp q hq;obtain⟨i,hi,si,rfl⟩:=j5 hp;obtain⟨j,hj,sj,rfl⟩:=j5 hq;rw[hl] at hi hj;have last:∀i,i<n->¬i+1<n->fA (lX c n) i=((c i:Int),(n:Int)):=λi hi h=>by
  have e:i=(lX c n).length:=by lia
  have:=Y.lt i hi;unfold fA;rw[Y.row hi,e,lK,<-e];refine lA ?_ ?_
  ·show min _ _=_;lia
  ·show max _ _=_;lia
 have li:=Y.lt i hi;have lj:=Y.lt j hj;by_cases h1:i+1<n
 ·by_cases h2:j+1<n
  ·rw[st u i hi si h1,st u j hj sj h2];exact Af (prt u) (ncr u) li lj
  ·rw[st u i hi si h1,last j hj h2];cases e:bX (min (c i:Int) (wR L R u (c i):Nat),max (c i:Int) (wR L R u (c i):Nat)) ((c j:Int),(n:Int)) with
   | false=>rfl
   | true=>
    exfalso;have z:=i4 e;simp only at z;have m:=Y.mt u j hj sj;rw[show j+1=n by lia,Y.cn] at m;have:=ncr u (c i) (c j) li lj (by lia) (by lia);rw[m] at this;unfold mh at this;lia
 ·rw[last i hi h1];by_cases h2:j+1<n
  ·rw[st u j hj sj h2];have:=(prt u).lt _ lj;cases e:bX ((c i:Int),(n:Int)) (min (c j:Int) (wR L R u (c j):Nat),max (c j:Int) (wR L R u (c j):Nat)) with
   | false=>rfl
   | true=>have z:=i4 e;simp only at z;lia
  ·rw[last j hj h2];cases e:bX ((c i:Int),(n:Int)) ((c j:Int),(n:Int)) with
   | false=>rfl
   | true=>have z:=i4 e;simp only at z;lia
end
theorem ze.words{bs cs:List Bool}{c:Nat->Nat}(T:jX bs cs)(h20:bs.length<=20)(Y:ze bs.length (mtF bs) (mtF cs) c):NC false (lX c bs.length)/\l8 (lX c bs.length)/\zX false (lX c bs.length) false=bs/\zX false (lX c bs.length) true=cs:=by
 have PL:=dj T.bal;have PR:iz bs.length (mtF cs):=by have:=dj T.balR;rwa [T.eq] at this
 have CL:=ue T.bal;have CR:zi bs.length (mtF cs):=by have:=ue T.balR;rwa [T.eq] at this
 have nc:=Y.nc PL PR CL CR;have O:=Y.ord (by lia);have hl:=mT (c:=c) Y.pos;have ev:=Y.ev;obtain⟨k,hk⟩:∃k,(lX c bs.length).length+1=2*k:=⟨bs.length / 2,by lia⟩
 have prt:∀u,iz bs.length (wR (mtF bs) (mtF cs) u):=λu=>by cases u;exact PL;exact PR
 have key:∀u x,x<bs.length->mtF (zX false (lX c bs.length) u) x=wR (mtF bs) (mtF cs) u x:=λu x hx=>by
  have two:∀i,i<bs.length->bj false u i=true->mtF (zX false (lX c bs.length) u) (c i)=wR (mtF bs) (mtF cs) u (c i)/\mtF (zX false (lX c bs.length) u) (c (i+1))=wR (mtF bs) (mtF cs) u (c (i+1)):=λi hi hs=>by
   have m:=(pO false (lX c bs.length) u).mt O nc hk (i:=i) (by lia) hs;rw[Y.cy (by lia),Y.cy (by lia),eg,eg] at m;have e:=Y.mt u i hi hs;have e2:=(prt u).inv (c i) (Y.lt i hi);rw[e] at e2;refine⟨?_,?_⟩
   ·rw[e];exact m.1
   ·rw[e2];exact m.2
  obtain⟨j,hj,rfl⟩:=Y.all x hx;cases h:bj false u j with
  | true=>exact(two j hj h).1
  | false=>
   by_cases z:j=0
   ·subst z;have t:=(two (bs.length - 1) (by lia) (by
     unfold bj odd at h ⊢;rw[show (bs.length - 1) % 2=1 by lia];cases u<;>first | rfl | cases h)).2
    rw[show bs.length - 1+1=bs.length by lia,Y.cn] at t;rw[Y.c0];exact t
   ·obtain⟨i,rfl⟩:∃i,j=i+1:=⟨j - 1,by lia⟩
    rw[js] at h;exact(two i (by lia) (by simpa using h)).2
 refine⟨nc,O,xY T.bal (wD false O hk) (by rw[wC false hk];lia) (key false),xY T.balR (wD true O hk) (by rw[wC true hk,T.eq];lia) λx hx=>key true x (by rw[<-T.eq];exact hx)⟩
def qD:Sp:=λvs H Q _=>∃m o b ns,∃k:Nat,vs=[.ref m]/\fR H m o b ns/\l8 ns/\NC b ns/\ns.length+1=2*k/\∀t H',aX H H'->EZ H' t b ns->Q (.ref t) H'
def Am (d e:PyData) (z:String):Prop:=(jj d e=false/\z="word")\/∃bs cs,d=rY bs/\e=rY cs/\jX bs cs/\((rsF (mtF bs) (mtF cs) bs.length).length≠1\/20<bs.length)/\z="round"
def qj:Sp:=λvs H Q _=>∃x y d e z,vs=[x,y]/\Dat H x d/\fv d/\Dat H y e/\fv e/\Am d e z/\∀p H',aX H H'->FM H' p z .non->Q (.ref p) H'
def uL:Sp:=λvs H Q _=>∃x y d e z,vs=[x,y]/\Dat H x d/\fv d/\Dat H y e/\fv e/\Am d e z/\∀H',aX H H'->Q (.bl true) H'
def yZ:Sp:=λvs H Q _=>∃bs cs,vs=[.str (wd bs),.str (wd cs)]/\jX bs cs/\((rsF (mtF bs) (mtF cs) bs.length).length≠1\/20<bs.length)/\∀H',aX H H'->Q (.bl true) H'
def y0:Sp:=λvs H Q _=>∃bs cs,vs=[.str (wd bs),.str (wd cs)]/\jX bs cs/\0<bs.length/\∀bs' r H',jX bs' cs->bs'.length=bs.length->rsF (mtF bs') (mtF cs) bs'.length=[r]->aX H H'->Q (.str (wd bs')) H'
def vY:Sp:=λvs H Q _=>∃bs cs r,vs=[.str (wd bs),.str (wd cs)]/\jX bs cs/\0<bs.length/\bs.length<=20/\rsF (mtF bs) (mtF cs) bs.length=[r]/\∀H',aX H H'->Q (.bl true) H'
def nZ(rs:List (List Nat))(x:Nat):Nat:=rs.findIdx λr=>decide (x∈r)
def l9(kvs:xS)(rs:List (List Nat))(i:Nat):Prop:=∀j r,j<i->rs[j]? = some r->∀x∈r,cW kvs (.inl (x:Int))=some (.int (j:Nat))
theorem lT{rs:List (List Nat)}(h:rs.Pairwise λr s=>∀x∈r,x∉s){i j x:Nat}{r s:List Nat}(hr:rs[i]? = some r)(hs:rs[j]? = some s)(h1:x∈r)(h2:x∈s):i=j:=by
 obtain⟨hi,ei⟩:=aE.mp hr;obtain⟨hj,ej⟩:=aE.mp hs;have P:=dX.mp h;rcases Nat.lt_trichotomy i j with q | q | q
 ·have:=P i j hi hj q x (by rw[ei];exact h1);rw[ej] at this;exact absurd h2 this
 ·exact q
 ·have:=P j i hj hi q x (by rw[ej];exact h2);rw[ei] at this;exact absurd h1 this
theorem l9.put{kvs:xS}{rs:List (List Nat)}{i t x:Nat}{r:List Nat}(h:l9 kvs rs i)(ht:∀y∈r.take t,cW kvs (.inl (y:Int))=some (.int (i:Nat)))(ap:rs.Pairwise λr s=>∀x∈r,x∉s)(hr:rs[i]? = some r)(hx:r[t]? = some x):
  l9 (putK kvs (.inl (x:Int)) (.int (i:Nat))) rs i/\∀y∈r.take (t+1),cW (putK kvs (.inl (x:Int)) (.int (i:Nat))) (.inl (y:Int))=some (.int (i:Nat)):=by
 refine⟨λj r' hj hr' y hy=>?_,λy hy=>?_⟩
 ·rw[fS,MN λe=>?_]
  ·exact h j r' hj hr' y hy
  ·cases e;have:=lT ap hr' hr hy (bI hx);lia
 ·rw[fS];by_cases e:(Sum.inl (y:Int):Key)=.inl (x:Int)
  ·rw[MO e]
  ·rw[MN e];rw[bZ,hx] at hy;rcases aT.mp hy with z | z
   ·exact ht y z
   ·rw[show y=x by simpa using z] at e;exact absurd rfl e
theorem l9.up{kvs:xS}{rs:List (List Nat)}{i:Nat}{r:List Nat}(h:l9 kvs rs i)(hr:rs[i]? = some r)(ht:∀y∈r,cW kvs (.inl (y:Int))=some (.int (i:Nat))):l9 kvs rs (i+1):=λj r' hj hr' y hy=>by
 by_cases e:j=i
 ·subst e;rw[hr] at hr';cases hr';exact ht y hy
 ·exact h j r' (by lia) hr' y hy
section
variable {bs cs:List Bool} {kvs:xS}
theorem oK(T:jX bs cs){x:Nat}(hx:x<bs.length):∃r,(rsF (mtF bs) (mtF cs) bs.length)[nZ (rsF (mtF bs) (mtF cs) bs.length) x]? = some r/\x∈r:=by
 obtain⟨r,hr,hm⟩:=T.rin.upto x hx;have lt:nZ (rsF (mtF bs) (mtF cs) bs.length) x<(rsF (mtF bs) (mtF cs) bs.length).length:=List.findIdx_lt_length_of_exists ⟨r,hr,decide_eq_true hm⟩;exact⟨_,aL lt,MR (List.findIdx_getElem (w:=lt))⟩
theorem tP(T:jX bs cs)(h:l9 kvs (rsF (mtF bs) (mtF cs) bs.length) (rsF (mtF bs) (mtF cs) bs.length).length){x:Nat}(hx:x<bs.length):cW kvs (.inl (x:Int))=some (.int (nZ (rsF (mtF bs) (mtF cs) bs.length) x:Nat)):=by
 obtain⟨r,hr,hm⟩:=oK T hx;exact h _ r (aE.mp hr).1 hr x hm
theorem A7(T:jX bs cs){p:Nat}(hp:p+1<bs.length)(ne:nZ (rsF (mtF bs) (mtF cs) bs.length) p≠nZ (rsF (mtF bs) (mtF cs) bs.length) (p+1)):∀r∈rsF (mtF bs) (mtF cs) bs.length,p∈r->p+1∉r:=λr hr h1 h2=>by
 obtain⟨j,hj,e⟩:=iM hr;have hj:(rsF (mtF bs) (mtF cs) bs.length)[j]? = some r:=by rw[aL hj,e]
 obtain⟨r1,e1,m1⟩:=oK T (x:=p) (by lia);obtain⟨r2,e2,m2⟩:=oK T hp;have a1:=lT T.rin.rn.apart e1 hj m1 h1;have a2:=lT T.rin.rn.apart e2 hj m2 h2;exact ne (a1.trans a2.symm)
theorem A8(T:jX bs cs)(h:1<(rsF (mtF bs) (mtF cs) bs.length).length):∃p,p<bs.length - 1/\nZ (rsF (mtF bs) (mtF cs) bs.length) p≠nZ (rsF (mtF bs) (mtF cs) bs.length) (p+1):=by
 refine jD λno=>?_;have all:∀x,x<bs.length->nZ (rsF (mtF bs) (mtF cs) bs.length) x=nZ (rsF (mtF bs) (mtF cs) bs.length) 0:=by
  intro x
  induction x with
  | zero=>intro _;rfl
  | succ x ih=>
   intro hx;rw[<-ih (by lia)];exact jD λz=>no ⟨x,by lia,cU z⟩
 have at_:∀j,j<(rsF (mtF bs) (mtF cs) bs.length).length->nZ (rsF (mtF bs) (mtF cs) bs.length) 0=j:=λj hj=>by
  have hm:=List.getElem_mem hj;have hne:=T.rin.rn.ne _ hm;obtain⟨x,hx⟩:=List.exists_mem_of_ne_nil _ hne;have lt:=(T.rin.rn.inn _ hm x hx).1;obtain⟨r,hr,mr⟩:=oK T lt;rw[<-all x lt];exact lT T.rin.rn.apart hr (aL hj) mr hx
 have h0:=at_ 0 (by lia);have h1:=at_ 1 h;lia
theorem zy(T:kd bs){p:Nat}(t:nv bs.length (mtF bs) p){lo hi:Nat}(hlo:lo=min (mtF bs p) (mtF bs (p+1)))(hhi:hi=max (mtF bs p) (mtF bs (p+1))):(((bs.set p true).set (p+1) false).set lo true).set hi false=tnW bs p:=by
 have f:=t.facts;have n1:=t.ne;apply jg
 ·simp[tnW,uE]
 ·intro i h1 h2;have hi':i<bs.length:=by simpa using h1
  have e:(tnW bs p)[i]=decide (i<pZ (mtF bs) p i):=by simp[tnW,uE]
  rw[e];simp only[List.getElem_set];rcases t.cases i with rfl | rfl | e1 | e1 | h
  ·rw[t.at0,MN (by lia),MN (by lia),MN (by lia),MO rfl,decide_eq_true (by lia)]
  ·rw[t.at1,MN (by lia),MN (by lia),MO rfl,MQ (by lia)]
  ·rw[show pZ (mtF bs) p i=mtF bs (p+1) by rw[e1,t.at2]];by_cases z:i<mtF bs (p+1)
   ·rw[MN (by lia),MO (by lia),decide_eq_true z]
   ·rw[MO (by lia),MQ z]
  ·rw[show pZ (mtF bs) p i=mtF bs p by rw[e1,t.at3]];by_cases z:i<mtF bs p
   ·rw[MN (by lia),MO (by lia),decide_eq_true z]
   ·rw[MO (by lia),MQ z]
  ·rw[t.els h,MN (by lia),MN (by lia),MN (by lia),MN (by lia)];have:=oT T;have e2:bs[i]=(uE bs.length (mtF bs))[i]'(by rw[nz];exact hi'):=by simp only[this]
   rw[e2];simp[uE]
theorem AX(bs:List Bool):List.map (λc=>V.str { cps:=#[c] }) (wd bs).cps.toList=(bs.map sgn).map V.str:=by
 show List.map _ (bs.map pX)=_;rw[bx,bx];refine cQ λb _=>?_;show V.str ⟨#[pX b]⟩=V.str (sgn b);rw[CQ]
theorem AA(bs:List Bool)(i:Nat)(b:Bool):((bs.map sgn).map V.str).set i (.str (sgn b))=((bs.set i b).map sgn).map V.str:=by rw[List.map_set,List.map_set]
theorem qm{H:Hp}{a:Addr}{bs:List Bool}{i:Nat}{k:Int}{b:Bool}{Q:Hp->Prop}(ha:H a=some (.lst ((bs.map sgn).map V.str)))(hk:k=(i:Int))(hi:i<bs.length)(q:Q (bU H a (.lst (((bs.set i b).map sgn).map V.str)))):BV (.ref a) (.int k) (.str (sgn b)) H Q:=by
 subst hk;refine⟨a,_,_,i,rfl,rfl,ha,AZ (by simpa using hi),?_⟩;rw[AA];exact q
end
def top(i:Nat):Stmt:=PySem.Challenge.pw_ringmaze_k28_whole_one_round_just_for_ma.main.body.getD i (.Pass ⟨0,0,0,0⟩)
abbrev fc:Stmt:=top 1
theorem gm:bJ ["bows","a","b","c","d"] ["bows"] (ae fc):=⟨rfl,rfl,rfl,by decide +kernel,rfl,by decide +kernel,by decide +kernel⟩
abbrev fb:Stmt:=top 17
theorem sK:bJ ["thing"] ["thing"] (ae fb):=⟨rfl,rfl,rfl,by decide +kernel,rfl,by decide +kernel,by decide +kernel⟩
abbrev iX:Stmt:=top 18
theorem uO:bJ ["thing"] ["thing"] (ae iX):=⟨rfl,rfl,rfl,by decide +kernel,rfl,by decide +kernel,by decide +kernel⟩
abbrev gY:Stmt:=top 19
theorem sL:bJ ["thing"] ["thing"] (ae gY):=⟨rfl,rfl,rfl,by decide +kernel,rfl,by decide +kernel,by decide +kernel⟩
abbrev iY:Stmt:=top 20
theorem uP:bJ ["thing"] ["thing"] (ae iY):=⟨rfl,rfl,rfl,by decide +kernel,rfl,by decide +kernel,by decide +kernel⟩
abbrev gX:Stmt:=top 23
theorem i6:bJ ["thing","waiting","sign"] ["thing"] (ae gX):=⟨rfl,rfl,rfl,by decide +kernel,rfl,by decide +kernel,by decide +kernel⟩
abbrev lI:Stmt:=top 24
theorem kh:bJ ["word","waiting","bows","end","sign"] ["word"] (ae lI):=⟨rfl,rfl,rfl,by decide +kernel,rfl,by decide +kernel,by decide +kernel⟩
abbrev j7:Stmt:=top 25
theorem wV:bJ ["thing"] ["thing"] (ae j7):=⟨rfl,rfl,rfl,by decide +kernel,rfl,by decide +kernel,by decide +kernel⟩
abbrev dq:Stmt:=top 26
theorem kJ:bJ ["thing","ends"] ["thing"] (ae dq):=⟨rfl,rfl,rfl,by decide +kernel,rfl,by decide +kernel,by decide +kernel⟩
abbrev iV:Stmt:=top 27
theorem o7:bJ ["bows","firsts"] ["bows"] (ae iV):=⟨rfl,rfl,rfl,by decide +kernel,rfl,by decide +kernel,by decide +kernel⟩
abbrev fL:Stmt:=top 29
theorem p8:bJ ["side"] ["side"] (ae fL):=⟨rfl,rfl,rfl,by decide +kernel,rfl,by decide +kernel,by decide +kernel⟩
abbrev dn:Stmt:=top 30
theorem kI:bJ ["maze","step","side"] ["maze","step"] (ae dn):=⟨rfl,rfl,rfl,by decide +kernel,rfl,by decide +kernel,by decide +kernel⟩
abbrev eP:Stmt:=top 31
theorem kg:bJ ["maze","order"] ["maze"] (ae eP):=⟨rfl,rfl,rfl,by decide +kernel,rfl,by decide +kernel,by decide +kernel⟩
abbrev g0:Stmt:=top 32
theorem i8:bJ ["maze","rows","told","step","bow"] ["maze"] (ae g0):=⟨rfl,rfl,rfl,by decide +kernel,rfl,by decide +kernel,by decide +kernel⟩
abbrev i0:Stmt:=top 33
theorem jk:bJ ["maze","side","bows","found"] ["maze"] (ae i0):=⟨rfl,rfl,rfl,by decide +kernel,rfl,by decide +kernel,by decide +kernel⟩
abbrev qH:Stmt:=top 34
theorem y8:bJ ["maze","found"] ["maze"] (ae qH):=⟨rfl,rfl,rfl,by decide +kernel,rfl,by decide +kernel,by decide +kernel⟩
abbrev fk:Stmt:=top 36
theorem qp:bJ ["left","right"] ["left","right"] (ae fk):=⟨rfl,rfl,rfl,by decide +kernel,rfl,by decide +kernel,by decide +kernel⟩
abbrev gW:Stmt:=top 37
theorem jF:bJ ["word","told","a","b"] ["word"] (ae gW):=⟨rfl,rfl,rfl,by decide +kernel,rfl,by decide +kernel,by decide +kernel⟩
abbrev fK:Stmt:=top 38
theorem fT:bJ ["end","lefts","rights","told","here","across"] ["end","lefts","rights"] (ae fK):=⟨rfl,rfl,rfl,by decide +kernel,rfl,by decide +kernel,by decide +kernel⟩
abbrev j6:Stmt:=top 39
theorem fi:bJ ["left","right","lefts","rights","told","met","end","ends","one"] ["left","right"] (ae j6):=⟨rfl,rfl,rfl,by decide +kernel,rfl,by decide +kernel,by decide +kernel⟩
abbrev cI:Stmt:=top 42
theorem kP:bJ ["bows","middle"] ["bows","middle"] (ae cI):=⟨rfl,rfl,rfl,by decide +kernel,rfl,by decide +kernel,by decide +kernel⟩
abbrev j9:Stmt:=top 43
theorem mo:bJ ["maze","rings","bows"] ["maze"] (ae j9):=⟨rfl,rfl,rfl,by decide +kernel,rfl,by decide +kernel,by decide +kernel⟩
abbrev gn:Stmt:=top 44
theorem qF:bJ ["left","right","found"] ["left","right"] (ae gn):=⟨rfl,rfl,rfl,by decide +kernel,rfl,by decide +kernel,by decide +kernel⟩
abbrev lJ:Stmt:=top 46
theorem mK:bJ ["_law_e","_law_kinds"] ["_law_e"] (ae lJ):=⟨rfl,rfl,rfl,by decide +kernel,rfl,by decide +kernel,by decide +kernel⟩
abbrev i3:Stmt:=top 47
theorem uQ:bJ ["_law_script","_law_k"] ["_law_script","_law_k"] (ae i3):=⟨rfl,rfl,rfl,by decide +kernel,rfl,by decide +kernel,by decide +kernel⟩
abbrev j8:Stmt:=top 48
theorem fj:bJ ["_law_cell","_law_many","_law_rest","_law_k","_law_found"] ["_law_cell","_law_many"] (ae j8):=⟨rfl,rfl,rfl,by decide +kernel,rfl,by decide +kernel,by decide +kernel⟩
abbrev mq:Stmt:=top 49
theorem iR:bJ ["_law_cell","_law_ends","_law_digits_here","_law_word_here","_law_deep","_law_k"] ["_law_cell","_law_ends"] (ae mq):=⟨rfl,rfl,rfl,by decide +kernel,rfl,by decide +kernel,by decide +kernel⟩
abbrev mw:Stmt:=top 50
theorem jn:bJ ["_law_maze","_law_n","_law_rows","_law_found","_law_hand","_law_k"] ["_law_maze"] (ae mw):=⟨rfl,rfl,rfl,by decide +kernel,rfl,by decide +kernel,by decide +kernel⟩
abbrev iZ:Stmt:=top 51
theorem i7:bJ ["_law_bows_here","_law_a","_law_b","_law_c","_law_d"] ["_law_bows_here"] (ae iZ):=⟨rfl,rfl,rfl,by decide +kernel,rfl,by decide +kernel,by decide +kernel⟩
abbrev gZ:Stmt:=top 52
theorem nX:bJ ["_law_maze","_law_bows_here"] ["_law_maze"] (ae gZ):=⟨rfl,rfl,rfl,by decide +kernel,rfl,by decide +kernel,by decide +kernel⟩
abbrev gq:Stmt:=top 53
theorem lH:bJ ["_law_word_here","_law_found","_law_waiting","_law_k"] ["_law_word_here"] (ae gq):=⟨rfl,rfl,rfl,by decide +kernel,rfl,by decide +kernel,by decide +kernel⟩
abbrev f9:Stmt:=top 54
theorem dD:bJ ["_law_left","_law_right","_law_by_left","_law_by_right","_law_gone","_law_found","_law_end","_law_one","_law_here"] ["_law_left","_law_right"] (ae f9):=⟨rfl,rfl,rfl,by decide +kernel,rfl,by decide +kernel,by decide +kernel⟩
abbrev lm:Stmt:=top 55
theorem AB:bJ ["_law_left","_law_right"] ["_law_left","_law_right"] (ae lm):=⟨rfl,rfl,rfl,by decide +kernel,rfl,by decide +kernel,by decide +kernel⟩
abbrev i9:Stmt:=top 56
theorem qG:bJ ["_law_left","_law_right","_law_e"] ["_law_left","_law_right"] (ae i9):=⟨rfl,rfl,rfl,by decide +kernel,rfl,by decide +kernel,by decide +kernel⟩
abbrev iW:Stmt:=top 57
theorem uN:bJ ["_law_left","_law_right"] ["_law_left","_law_right"] (ae iW):=⟨rfl,rfl,rfl,by decide +kernel,rfl,by decide +kernel,by decide +kernel⟩
abbrev fm:Stmt:=top 58
theorem cF:bJ ["_law_left","_law_right","_law_every","_law_home","_law_k","_law_end","_law_at","_law_across_here","_law_one","_law_other","_law_signs"] ["_law_left","_law_right"] (ae fm):=⟨rfl,rfl,rfl,by decide +kernel,rfl,by decide +kernel,by decide +kernel⟩
abbrev eQ:Stmt:=top 59
theorem c7:bJ ["_law_left","_law_right","_law_found","_law_ends","_law_by_left","_law_by_right","_law_row","_law_k"] ["_law_left","_law_right"] (ae eQ):=⟨rfl,rfl,rfl,by decide +kernel,rfl,by decide +kernel,by decide +kernel⟩
abbrev mL:Stmt:=top 60
theorem jU:bJ ["_law_script","_law_seed","_law_ends","_law_left","_law_right","_law_cell","_law_odd","_law_pair"] ["_law_script"] (ae mL):=⟨rfl,rfl,rfl,by decide +kernel,rfl,by decide +kernel,by decide +kernel⟩
structure nS (mg:Str->Option Value):Prop where
 len:mg "len"=none
 range:mg "range"=none
 int:mg "int"=none
 list:mg "list"=none
 tuple:mg "tuple"=none
 isinstance:mg "isinstance"=none
 str:mg "str"=none
 bool:mg "bool"=none
 sorted:mg "sorted"=none
 all:mg "all"=none
 zip:mg "zip"=none
 max:mg "max"=none
 min:mg "min"=none
 reversed:mg "reversed"=none
 enumerate:mg "enumerate"=none
 ValueError:mg "ValueError"=none
 MOST_RINGS:∃ t,mg "MOST_RINGS"=some (.int 20 t)
 MOST_SIGNS:∃ t,mg "MOST_SIGNS"=some (.int 40 t)
 MOST_ENDS:∃ t,mg "MOST_ENDS"=some (.int 20 t)
local macro_rules | `(tactic| nofun) => `(tactic| (try dsimp (maxSteps := 3000000) only [L2.xZ, L2.FW, L2.D7, L2.DY, L2.BD, L2.FX, L2.xb, L2.DZ, L2.w_and, L2.w_or, L2.w_not, L2.yD, L2.Aw, L2.xi, L2.Dg, L2.Au, L2.w_next, L2.BB, L2.xy, L2.xu, L2.Av, L2.xg, L2.Az, L2.BE, L2.vG, L2.xf, L2.xc, L2.Ax, L2.yB, L2.Dp, L2.As, L2.Ay, L2.w_call, L2.Dq, L2.BC, L2.vP, L2.re, L2.xt, L2.xr, L2.xp, L2.xn, L2.xl, L2.xo, L2.xq, L2.vM, L2.vL, L2.vO, L2.vN, L2.vK, L2.vI, L2.vH, L2.xj, L2.vF, L2.vD, L2.vE, L2.xk, L2.w_getS, L2.xm, L2.vC, L2.D3, L2.xh, L2.rZ, L2.xw, L2.xv, L2.vJ, L2.BA, L2.rd]); (try simp (maxSteps := 3000000) only [L2.Bh, L2.xZ, L2.FW, L2.D7, L2.DY, L2.Eo, L2.Fc, L2.Fb, L2.Dn, L2.D9, L2.Dm, L2.D8, L2.Do, L2.Da, L2.Dl, L2.Dk, L2.Bp, L2.CA, L2.BD, L2.En, MS, MT, bP, L2.FX, L2.Dj, L2.Bo, L2.Bu, L2.Bs, L2.Bt, L2.Bq, L2.Br, L2.Bj, L2.Dd, L2.De, L2.Dc, L2.Dr, L2.D6, L2.xb, L2.DZ, L2.w_and, L2.w_or, L2.w_not, L2.yD, L2.Aw, L2.xi, L2.Dg, L2.Au, L2.w_next, L2.BB, L2.xy, L2.xu, L2.Av, L2.xg, L2.Az, L2.BE, L2.vG, L2.xf, L2.xc, L2.Ax, L2.yB, L2.Dp, L2.As, L2.Ay, L2.w_call, L2.Dq, L2.BC, L2.vP, L2.re, L2.xt, L2.xr, L2.xp, L2.xn, L2.xl, L2.Bl, L2.zo, eM, MP, Bool.not_eq_true', decide_eq_false_iff_not, L2.xo, L2.xq, L2.vM, L2.vL, L2.vO, L2.vN, L2.zt, L2.vK, L2.vI, L2.vH, L2.zq, L2.Bm, L2.xj, L2.Di, L2.vF, L2.vD, L2.vE, L2.xk, L2.w_getS, L2.zn, L2.xm, L2.vC, L2.D3, L2.xh, L2.rZ, L2.D0, L2.xw, L2.zr, L2.xv, L2.vJ, L2.BA, L2.rd, L2.Bv, L2.D5, L2.D4, L2.w_rev, L2.Bi, L2.Bk, L2.zm, L2.Dh, L2.zu, L2.Bz, L2.Bx, L2.By]))
section
variable {P:Program} {w:World} {K:MU} {mg:Str->Option Value} {base:Heap}
theorem sf (E:Fn K mg "crossing" fc ["bows"]):eO P w K mg base 1 "crossing" fc ["bows"] ll:=E.mk' λf fd F=>by
 refine F.okS gm (λvs H Q E h=>?_) (λcdv A outer s H vs Q E hr h=>?_)
 ·obtain⟨l,ps,rfl,_⟩:=h;rfl
 ·obtain⟨l,ps,rfl,bo,qn,qs⟩:=h;obtain⟨as,b1,bl,bg⟩:=bo.get;refine⟨[some (.ref l),none,none,none,none],_,rfl,(L2.iL.h (aG (cZ al rfl (dr (a9 0)) (jo (n:=2) rfl (cc (bG (i:=1) gm.nd rfl (Or.inl rfl)) (cc (bG (i:=2) gm.nd rfl (Or.inl rfl)) ic)))
   (aI (cZ al rfl (dr (a9 0)) (jo (n:=2) rfl (cc (bG (i:=3) gm.nd rfl (Or.inl rfl)) (cc (bG (i:=4) gm.nd rfl (Or.inl rfl)) ic)))
    (aI (be (oh km km km (a9 1) (a9 3) (a9 2) (a9 4))
     (aI (am (dS (g6 (dS (aB (a9 1) (aB (a9 2) aA))) (g6 (dS (aB (a9 3) (aB (a9 4) aA))) aA)))))
     bQ)))))
   (aI (am gh)))),?_⟩
  nofun;refine⟨⟨_,bp.of b1⟩,gz (xs:=as.map V.ref) (λi σ H2=>∃x1 x2 x3 x4:Option V,σ=[some (.ref l),x1,x2,x3,x4]/\H2=H/\∀p∈ps.take i,∀q∈ps,bX p q=false) ⟨none,none,none,none,rfl,rfl,λp hp=>by simp at hp⟩ (λi σ H2 _ ⟨_,_,_,_,_,e,_⟩=>by rw[e];exact bp.of b1) ?_ ?_⟩
  ·rintro i x σ H2 hx ⟨x1,x2,x3,x4,rfl,rfl,hn⟩;obtain⟨a,p,rfl,hp,ta⟩:=bg i x hx;nofun;refine⟨_,cg.of ta,rfl,?_⟩;nofun;refine⟨⟨_,bp.of b1⟩,gz (xs:=as.map V.ref) (λj σ H3=>∃x3 x4:Option V,σ=[some (.ref l),some (.int p.1),some (.int p.2),x3,x4]/\H3=H2/\∀q∈ps.take j,bX p q=false) ⟨x3,x4,rfl,rfl,λp hp=>by simp at hp⟩ (λi σ H2 _ ⟨_,_,_,e,_⟩=>by rw[e];exact bp.of b1) ?_ ?_⟩
   ·rintro j y σ H3 hy ⟨y3,y4,rfl,rfl,hm⟩;obtain⟨c,q,rfl,hq,tc⟩:=bg j y hy;nofun;refine⟨_,cg.of tc,rfl,?_⟩;nofun;have nx:bX p q=false->∃x3 x4:Option V,[some (V.ref l),some (V.int p.1),some (V.int p.2),some (V.int q.1),some (V.int q.2)]=[some (V.ref l),some (V.int p.1),some (V.int p.2),x3,x4]/\True/\∀q∈ps.take (j+1),bX p q=false:=λe=>by
     refine⟨_,_,rfl,trivial,λq' hq'=>?_⟩;rw[bZ,hq] at hq';rcases aT.mp hq' with z | z
     ·exact hm q' z
     ·have e':q'=q:=by simpa using z
      rw[e'];exact e
    refine eZ (λh1=>eZ (λh2=>eZ (λh3=>?_) (λh3=>nx (by simp[bX,h3]))) (λh2=>nx (by simp[bX,h2]))) (λh1=>nx (by simp[bX,h1]));refine⟨(by show 2<=sizeLine;decide),λt1 n1=>⟨(by show 2<=sizeLine;decide),λt2 n2=>⟨(by show 2<=sizeLine;decide),λt3 n3=>?_⟩⟩⟩;have s1:aX H3 (bU H3 t1 (.tup [.int p.1,.int p.2])):=(aX.refl _).new n1;have s2:=s1.new (o:=.tup [.int q.1,.int q.2]) (s1.free n2);have s3:=s2.new (o:=.tup [.ref t1,.ref t2]) (s2.free n3);have e12:t1≠t2:=λe=>by subst e;rw[aC] at n2;cases n2
    have e23:t2≠t3:=λe=>by subst e;rw[aC] at n3;cases n3
    have e13:t1≠t3:=λe=>by subst e;rw[aK e12,aC] at n3;cases n3
    refine qs p (bI hp) q (bI hq) (by simp[bX,h1,h2,h3]) t3 t1 t2 _ (s2.free n3) s3 aC ?_ ?_
    ·show bU _ _ _ t1=_;rw[aK e13,aK e12,aC]
    ·show bU _ _ _ t2=_;rw[aK e23,aC]
   ·rintro σ H3 ⟨y3,y4,rfl,rfl,hm⟩;refine⟨_,_,y3,y4,rfl,rfl,λp' hp'=>?_⟩;rw[bZ,hp] at hp';rcases aT.mp hp' with z | z
    ·exact hn p' z
    ·have e:p'=p:=by simpa using z
     subst e;intro q hq;refine hm q ?_;rw[aF,bl,bv];exact hq
  ·rintro σ H2 ⟨x1,x2,x3,x4,rfl,rfl,hn⟩;nofun;refine qn λp hp=>hn p ?_;rw[aF,bl,bv];exact hp
theorem sZ (B:nS mg) (E:Fn K mg "is_whole" fb ["thing"]):eO P w K mg base 1 "is_whole" fb ["thing"] (oE K):=E.mk' λf fd F=>by
 refine F.okS sK (λvs H Q E h=>?_) (λcdv A outer s H vs Q E hr h=>?_)
 ·obtain⟨x,t,b,c,rfl,_⟩:=h;rfl
 ·obtain⟨x,t,b,c,rfl,ty,e1,e2,q⟩:=h;refine⟨[some x],_,rfl,(L2.iL.h (aI (am (jI (aR gI (by rfl) B.isinstance aN (aB (a9 0) (aB (fV (v:=.ty "int") (by rfl) B.int k6 rfl) aA))) (jq (mR (aR gI (by rfl) B.isinstance aN (aB (a9 0) (aB (fV (v:=.ty "bool") (by rfl) B.bool PyProof.Rows.boot_bool rfl) aA))))))))),?_⟩;nofun;refine⟨_,_,_,b,rfl,ty,e1,?_⟩;nofun;cases b with
  | false=>exact A4 q
  | true=>exact A3 ⟨_,_,_,c,rfl,ty,e2,_,rfl,q⟩
theorem uZ (IA:∃a,mg "SIDES"=some (.ref a)/\∀H,cg K H a (([("l":Str),"r"]:List Str).map V.str)) (E:Fn K mg "is_side" iX ["thing"]):eO P w K mg base 1 "is_side" iX ["thing"] sF:=E.mk' λf fd F=>by
 refine F.okS uO (λvs H Q E h=>?_) (λcdv A outer s H vs Q E hr h=>?_)
 ·obtain⟨x,d,rfl,_⟩:=h;rfl
 ·obtain⟨x,d,rfl,hd,pl,q⟩:=h;refine⟨[some x],_,rfl,(L2.iL.h (aI (am (fU (yo (kK hr)) (a9 0) (qK (by rfl) IA) (by with_unfolding_all rfl))))),?_⟩;nofun;intro a ha;refine⟨d,[.str (Str.ofString "l"),.str (Str.ofString "r")],a,_,hd.rep,rfl,.inr (ha H),.cons (.str _) (.cons (.str _) .nil),pl.lay,by decide +kernel,pl.deep,?_⟩;rw[y7];exact q
theorem s9 (B:nS mg) (E:Fn K mg "is_order" gY ["thing"]) (G1:eO P w K mg base 1 "is_whole" fb ["thing"] (oE K)):eO P w K mg base 2 "is_order" gY ["thing"] qB:=E.mk' λf fd F=>by
 refine F.okS sL (λvs H Q E h=>?_) (λcdv A outer s H vs Q E hr h=>?_)
 ·obtain⟨x,d,rfl,_⟩:=h;rfl
 ·obtain⟨x,d,rfl,hd,q⟩:=h;refine⟨[some x],_,rfl,(L2.iL.h (aG (be (QW.pt (gE (dQ (dP (aR gI (by rfl) B.isinstance aN (aB (a9 0) (aB (fV (v:=.ty "tuple") (by rfl) B.tuple bn rfl) aA))))) (fY (bC qM (aR bV (by rfl) B.len aj (aB (a9 0) aA)) (lN (by rfl) B.MOST_RINGS) (bS _)))))
   (aI (am dH))
   bQ)
   (aG (be (dQ (dP (aR (nh rfl) (by rfl) B.all k8 (iS (gw (own:=["ring"]) (ns:=[]) (caps:=[]) rfl ⟨rfl,by decide +kernel,by decide +kernel,by decide +kernel⟩ .nil (ve (a9 0)) (λC s H fp pn=>(bG (i:=0) (show List.Nodup ((["ring"]:List Str)++([]:List Str)) by decide +kernel) rfl (Or.inl rfl))) (λC s H fp pn=>jH) (λC s H fp pn=>(aW G1 (hr.mono (by decide)) (by rfl) (aB (a9 0) aA)))) aA))))
   (aI (am dH))
   bQ)
   (aI (am (fU (nB (kK hr)) (aR jO (by rfl) B.sorted bh (aB (a9 0) aA)) (cf (jW rfl) (by rfl) B.list bu (oo (cf qY (by rfl) B.range fx (au aJ (dE (bB fQ (aR bV (by rfl) B.len aj (aB (a9 0) aA)) aJ) aA))) aA)) (bS _))))))),?_⟩
  cases id hd with
  | tup h1 h2=>
   rename_i a xs ds;nofun;refine ft hd ?_;nofun;refine nY (by simp[Cr]) ⟨_,.inr (cg.of h1),?_⟩;have hl:=h2.len;refine eZ (λhn=>?_) (λhn=>?_)
   ·have e:my (.tuple ds)=false:=by
     show (decide (ds.length<=20)&&_)=false;rw[MQ (by lia)];rfl
    rw[e] at q;exact q H (aX.refl _)
   ·have hn':xs.length<=20:=by lia
    have hz:xs.length<=sizeLine:=aS (ai (by lia));have hds:ds.length=xs.length:=hl.symm;have e0:my (.tuple ds)=(ds.all eW&&(ds.map intOf).isPerm (dW 1 ds.length)):=by
     show (decide (ds.length<=20)&&_)=_;rw[decide_eq_true (by lia)];rfl
    rw[e0] at q;refine⟨⟨_,cg.of h1⟩,xD (cg.of h1) hz ((ds.map eW).map V.bl) (by simp[hds]) (λi x y Q' hx hy hq=>?_) λp1 n1=>?_⟩
    ·obtain⟨d,hd1,hd2⟩:=h2.get hx;nofun;refine oR hd2 ?_;have ey:y=V.bl (eW d):=by simp[hd1] at hy;exact hy.symm
     rw[ey] at hq;exact hq
    ·have s1:aX H (bU H p1 (.lst ((ds.map eW).map V.bl))):=(aX.refl _).new n1;refine⟨p1,_,rfl,bp.of aC,_,rfl,?_⟩;have ea:(ds.map eW).all id=ds.all eW:=by rw[kA];rfl
     cases hb:ds.all eW with
     | false=>
      rw[hb] at q;exact tO (show (ds.map eW).all id=false by rw[ea,hb]) (q _ s1)
     | true=>
      rw[hb,gk] at q;rw[dF] at hb;have hq1:=s1 _ _ h1;have ex:xs=(ds.map intOf).map V.int:=by
       apply List.ext_getElem?;intro i;cases e:xs[i]? with
       | none=>
        have:xs.length<=i:=by rw[<-List.getElem?_eq_none_iff];exact e
        rw[List.getElem?_eq_none (by simp;lia)]
       | some x=>
        obtain⟨d,hd1,hd2⟩:=h2.get e;have hw:=lg (hb d (bI hd1));rw[hw] at hd2;cases hd2;simp[hd1]
      refine nY (show ¬(ds.map eW).all id=false by rw[ea,dF.mpr hb];decide) ⟨a,ds.map intOf,rfl,.inr (by rw[<-ex];exact cg.of hq1),by rw[aF];lia,λl5 ms n5 hp hs=>?_⟩;have s5:=s1.new (o:=.lst (ms.map V.int)) (s1.free n5);nofun;refine⟨_,.inr (cg.of (s5 _ _ h1)),λp6 n6=>⟨1,_,aC,⟨by decide,by decide,by lia,by lia,by lia⟩,λl7 n7=>?_⟩⟩;have s6:=s5.new (o:=.rng 1 ((xs.length:Int)+1)) (s5.free n6);have n56:l5≠p6:=λe=>by subst e;rw[aC] at n6;cases n6
      have n57:l5≠l7:=λe=>by subst e;rw[aK n56,aC] at n7;cases n7
      have eN:((xs.length:Int)+1 - 1).toNat=(ds.map intOf).length:=by rw[aF];lia
      refine tR (bp.of (by rw[aK n57,aK n56,aC])) (bp.of aC) ?_;rw[eN,mI hp hs];rw[aF];exact q _ (s6.new (s6.free n7))
  | _=>
   nofun;refine ft hd ?_;nofun;exact tO (by rfl) (q H (aX.refl _))
theorem u4 (B:nS mg) (E:Fn K mg "is_maze" iY ["thing"]) (IU:eO P w K mg base 1 "is_side" iX ["thing"] sF) (IF:eO P w K mg base 2 "is_order" gY ["thing"] qB):eO P w K mg base 3 "is_maze" iY ["thing"] sG:=E.mk' λf fd F=>by
 refine F.okS uP (λvs H Q E h=>?_) (λcdv A outer s H vs Q E hr h=>?_)
 ·obtain⟨x,d,rfl,_⟩:=h;rfl
 ·obtain⟨x,d,rfl,hd,pl,q⟩:=h;refine⟨[some x],_,rfl,(L2.iL.h (aG (be (QW.pt (gE (dQ (dP (aR gI (by rfl) B.isinstance aN (aB (a9 0) (aB (fV (v:=.ty "tuple") (by rfl) B.tuple bn rfl) aA))))) (fY (bC mS (aR bV (by rfl) B.len aj (aB (a9 0) aA)) aJ (bS _)))))
   (aI (am dH))
   bQ)
   (aI (am (jI (aW IU (hr.mono (by decide)) (by rfl) (ah (bW cw (a9 0) aJ (λ_ _=>rfl)) aA)) (jq (aW IF (hr.mono (by decide)) (by rfl) (ah (bW cw (a9 0) aJ (λ_ _=>rfl)) aA)))))))),?_⟩
  cases id hd with
  | tup h1 h2=>
   rename_i a xs ds;nofun;refine ft hd ?_;nofun;refine nY (by simp[Cr]) ⟨_,.inr (cg.of h1),?_⟩;have hl:=h2.len;refine eZ (λhn=>?_) (λhn=>?_)
   ·have e:tE (.tuple ds)=false:=by
     match ds,hl with
     | [],_=>rfl
     | [u],_=>rfl
     | [u,v],hl=>exact absurd (by rw[hl];rfl) hn
     | u::v::w::r,_=>rfl
    rw[e] at q;exact q H (aX.refl _)
   ·have hn':xs.length=2:=by
     have:(xs.length:Int)=2:=jS.mp hn;lia
    obtain⟨d,e,rfl⟩:∃d e,ds=[d,e]:=match ds,hl.symm.trans hn' with
     | [u,v],_=>⟨u,v,rfl⟩
    obtain⟨x,y,rfl,hx,hy⟩:=rL h2;have hlay:d.canLay0=true:=by
     have:(PyData.canLay0 d&&(PyData.canLay0 e&&true))=true:=pl.lay;rw[bL] at this;exact this.1
    have hdp:d.depth<=60:=by
     have:max d.depth (max e.depth 0)+1<=60:=pl.deep;lia
    refine⟨_,x,cg.of h1,rfl,x,d,rfl,hx,⟨hlay,hdp⟩,?_⟩;nofun;cases es:nW d with
    | false=>
     refine A4 ?_;have e:tE (.tuple [d,e])=false:=by show (nW d&&_)=false;rw[es];rfl
     rw[e] at q;exact q H (aX.refl _)
    | true=>
     have e:tE (.tuple [d,e])=my e:=by show (nW d&&_)=_;rw[es];rfl
     rw[e] at q;exact A3 ⟨_,y,cg.of h1,rfl,y,_,rfl,hy,q⟩
  | _=>
   nofun;refine ft hd ?_;nofun;exact tO (by rfl) (q H (aX.refl _))
theorem uY (B:nS mg) (E:Fn K mg "is_word" gX ["thing"]):eO P w K mg base 1 "is_word" gX ["thing"] (mH K):=E.mk' λf fd F=>by
 refine F.okS i6 (λvs H Q E h=>?_) (λcdv A outer s H vs Q E hr h=>?_)
 ·obtain⟨x,rfl,_⟩:=h;rfl
 ·obtain⟨x,rfl,h⟩:=h;refine⟨[some x,none,none],_,rfl,(L2.iL.h (aG (be (QW.pt (gE (dQ (dP (aR gI (by rfl) B.isinstance aN (aB (a9 0) (aB (fV (v:=.ty "str") (by rfl) B.str PyProof.Rows.boot_str rfl) aA))))) (fY (bC qM (aR dA (by rfl) B.len aj (aB (a9 0) aA)) (lN (by rfl) B.MOST_SIGNS) (bS _)))))
   (aI (am dH))
   bQ)
   (aG (aV (i:=1) i6.nd rfl (Or.inl rfl) aJ)
   (aG (cZ al rfl (AE (a9 0)) (bG (i:=2) i6.nd rfl (Or.inl rfl))
   (aG (be (bC ig (a9 2) bT (bS _))
    (aI (vd (i:=1) i6.nd rfl (Or.inl rfl) aJ Ct))
    (aI (be (bC ig (a9 2) bT (bS _))
     (aI (vd (i:=1) i6.nd rfl (Or.inl rfl) aJ Cs))
     (aI (am dH)))))
    (aI (be (bC km (a9 1) aJ (bS _))
    (aI (am dH))
    bQ))))
   (aI (am (fU ig (a9 1) aJ (bS _)))))))),?_⟩
  nofun;rcases h with ⟨z,rfl,ha,hz,q⟩ | ⟨t,ty,e,q⟩
  rotate_left
  ·exact⟨x,"str",t,false,rfl,ty,e,by simpa using q⟩
  refine⟨_,_,_,true,rfl,.str z,rfl,?_⟩;nofun;refine⟨aS (ai hz),eZ (λh1=>?_) (λh1=>?_)⟩
  ·have e:B1 z=false:=by unfold B1;rw[MQ (by lia)];rfl
   rw[e] at q;exact q
  have e40:B1 z=scan z.cps.toList 0:=by unfold B1;rw[decide_eq_true (by lia)];rfl
  rw[e40] at q;refine⟨ha,A9 (x:=z) (λi σ H2=>∃(wt:Int) (x2:Option V),σ=[some (.str z),some (.int wt),x2]/\H2=H/\0<=wt/\scan (z.cps.toList.drop i) wt=scan z.cps.toList 0) ⟨0,none,rfl,rfl,by decide,rfl⟩ ?_ ?_⟩
  ·rintro i c σ H2 hc ⟨wt,x2,rfl,rfl,h0,hs⟩;have hc':z.cps.toList[i]? = some c:=by simpa using hc
   obtain⟨hi,_⟩:=aE.mp hc';have hd:z.cps.toList.drop i=c::z.cps.toList.drop (i+1):=by
    rw[fO hi];congr 1
   rw[hd] at hs;nofun;simp only[xG,ut];refine eZ (λh1=>?_) (λh1=>eZ (λh2=>?_) (λh2=>?_))
   ·rw[scan,MO h1] at hs;exact eZ (λh3=>absurd h3 (by lia)) (λh3=>⟨_,_,rfl,by trivial,by lia,hs⟩)
   ·rw[scan,MN h1,MO h2] at hs;refine eZ (λh3=>?_) (λh3=>?_)
    ·rw[MO h3] at hs;rw[<-hs] at q;exact q
    ·rw[MN h3] at hs;exact⟨_,_,rfl,by trivial,by lia,hs⟩
   ·rw[scan,MN h1,MN h2] at hs;rw[<-hs] at q;exact q
  ·rintro σ H2 ⟨wt,x2,rfl,rfl,h0,hs⟩;nofun;rw[List.drop_of_length_le (by simp)] at hs;rw[<-hs] at q;exact q
theorem yq {t6:Addr} (Gz:OwnCls "NoWord" t6 [.type "ValueError",.type "Exception",.type "BaseException",.type "object"] "ValueError.__new__" mg base) (B:nS mg) (E:Fn K mg "pairs" lI ["word"]) (Gi:eO P w K mg base 1 "is_word" gX ["thing"] (mH K)):lV P w K mg base 2 "pairs" lI ["word"] (sA t6):=E.mkX λf fd F=>by
 refine F.okX kh (λvs H Q E h=>?_) (λcdv A outer s H vs Q E hr h=>?_)
 ·obtain⟨x,rfl,_⟩:=h;rfl
 ·obtain⟨x,rfl,h⟩:=h;refine⟨[some x,none,none,none,none],_,rfl,(L2.iL.h (aG (be (mQ (dQ (dP (aW Gi (hr.mono (by decide)) (by rfl) (aB (a9 0) aA)))))
   (aI (ja ki Gz cO rfl (by rfl) (au bT aA)))
   bQ)
   (aG (fZ (aV (i:=1) kh.nd rfl (Or.inl rfl) (cB aA)))
   (aG (fZ (aV (i:=2) kh.nd rfl (Or.inl rfl) (cB aA)))
   (aG (fZ (cZ al rfl (yi (by rfl) B.enumerate (aB (a9 0) aA)) (jo (n:=2) rfl (cc (bG (i:=3) kh.nd rfl (Or.inl rfl)) (cc (bG (i:=4) kh.nd rfl (Or.inl rfl)) ic)))
   (aI (be (bC ig (a9 4) bT (bS _))
    (aI (eI (h7 bA bO bN eT (a9 1) (aB (a9 3) aA))))
    (aI (eI (h7 bA bO bN eT (a9 2) (g6 (dS (ba (vg bA kY kW yz (a9 1)) (aB (a9 3) aA))) aA))))))))
   (aI (fZ (am (aR g9 (by rfl) B.sorted bh (aB (a9 2) aA)))))))))),?_⟩
  rcases h with ⟨bs,ms,rfl,bal,hl,M,q⟩ | ⟨d,hd,ht,hw,qx⟩
  rotate_left
  ·nofun;refine nG hd ht ?_;rw[hw];nofun;exact⟨(by show 1<=sizeLine;decide),qx⟩
  nofun;refine⟨_,rfl,.inl ⟨_,rfl,i5 bs,by rw[bK];lia,?_⟩⟩;rw[zH bal hl];nofun;refine⟨bH _,λwl hwl=>⟨bH _,λbl hbl=>⟨i5 bs,?_⟩⟩⟩;have s1:aX H (bU H wl (.lst [])):=(aX.refl _).new hwl;have nbl:H bl=none:=s1.free hbl;have nwb:wl≠bl:=λe=>by subst e;rw[aC] at hbl;cases hbl
  refine zO (x:=wd bs) (λi σ H2=>∃(ws:List Nat) (bw:List (Nat×Nat)) (x3 x4:Option V),σ=[some (.str (wd bs)),some (.ref wl),some (.ref bl),x3,x4]/\aX H H2/\H2 wl=some (.lst (iB ws))/\cK H2 bl (sq bw)/\oP bs i ws bw)
   ⟨[],[],none,none,rfl,s1.new nbl,by rw[aK nwb,aC];rfl,⟨[],aC,.nil⟩,oP.start bs⟩ ?_ ?_
  ·rintro i c σ H2 p hc ⟨ws,bw,x3,x4,rfl,sm,hw,bo,S⟩ np;obtain⟨b,hb,rfl⟩:=Bf hc;have hi:=(aE.mp hb).1;have hlen:=S.len;have nwp:wl≠p:=av hw np;have nHp:H p=none:=sm.free np;have hw2:∀o,(bU H2 p o) wl=some (.lst (iB ws)):=λo=>by rw[aK nwp];exact hw
   have sp:=(aX.refl H2).new (o:=.tup [.int i,.str ⟨#[pX b]⟩]) np;have bo2:=bo.same sp;nofun;refine⟨_,cg.of aC,rfl,?_⟩;nofun;simp only[qE];refine eZ (λh1=>?_) (λh1=>?_)
   ·subst h1;refine⟨j3 (hw2 _),_,hw2 _,by rw[yy];exact ai (by lia),ws++[i],bw,_,_,rfl,(sm.new nHp).new hwl,?_,ky bo2 (hw2 _) nwb.symm,S.opens hb⟩;rw[aC,nE]
   ·have hbf:b=false:=by cases b;rfl;exact absurd rfl h1
    subst hbf;obtain⟨ws',k,rfl⟩:=S.has bal hb;obtain⟨as,b1,b2⟩:=bo2;have hal:as.length=(sq bw).length:=cN b2;rw[sq,aF] at hal;have hlen':=S.len;simp only[ao,bi] at hlen';refine⟨j3 b1,j3 (hw2 _),_,.int k,hw2 _,wm ws' k,(by show 2<=sizeLine;decide),λt nt=>?_⟩;rw[wn] at nt ⊢;have bo3:=ky (l:=wl) (ys:=iB ws') (show cK _ bl (sq bw) from ⟨as,b1,b2⟩) (hw2 _) nwb.symm;obtain⟨as3,c1,c2⟩:=id bo3;have hal3:as3.length=(sq bw).length:=cN c2;rw[sq,aF] at hal3;have ntb:bl≠t:=av c1 nt;have ntw:wl≠t:=λe=>by subst e;rw[aC] at nt;cases nt
    have nHt:H t=none:=by
     have z:=((sm.new (o:=.tup [.int i,.str ⟨#[pX false]⟩]) nHp).new (o:=.lst (iB ws')) hwl).free nt;exact z
    refine⟨as3.map V.ref,by rw[aK ntb];exact c1,by rw[aF];exact ai (by lia),ws',bw++[(k,i)],_,_,rfl,(((sm.new nHp).new hwl).new nHt).new nbl,by rw[aK nwb,aK ntw,aC],?_,S.closes hb⟩;rw[sq,cG];exact xL c1 c2 nt
  ·rintro σ H2 ⟨ws,bw,x3,x4,rfl,sm,hw,bo,S⟩;rw[uz] at S;nofun;obtain⟨as,b1,b2⟩:=id bo;have hlen:=S.len;have hbm:∀p∈sq bw,0<=p.2/\p.2<1000:=λp hp=>by
    obtain⟨x,hx,rfl⟩:=af.mp hp;have:=(S.mate x hx).2;exact⟨by simp,by simp only;lia⟩
   refine⟨bl,as,sq bw,rfl,bp.of b1,b2,by rw[sq,aF];lia,hbm,λl' as' ps' nl' hP' hperm hsort=>?_⟩;obtain⟨ot,rfl,ho⟩:=zB hperm;have e:ot=ms:=S.sorted bal M ho (hsort.of_map _ λa b z=>by
    unfold leB at z;simp only at z;lia)
   subst e;exact q l' _ (sm.free nl') (sm.new (sm.free nl')) (nM (l:=l') hP' nl')
theorem wa (B:nS mg) (E:Fn K mg "is_bow" j7 ["thing"]) (G1:eO P w K mg base 1 "is_whole" fb ["thing"] (oE K)):eO P w K mg base 2 "is_bow" j7 ["thing"] vZ:=E.mk' λf fd F=>by
 refine F.okS wV (λvs H Q E h=>?_) (λcdv A outer s H vs Q E hr h=>?_)
 ·obtain⟨x,d,rfl,_⟩:=h;rfl
 ·obtain⟨x,d,rfl,hd,q⟩:=h;refine⟨[some x],_,rfl,(L2.iL.h (aG (be (QW.pt (gE (dQ (dP (aR gI (by rfl) B.isinstance aN (aB (a9 0) (aB (fV (v:=.ty "tuple") (by rfl) B.tuple bn rfl) aA))))) (fY (bC mS (aR bV (by rfl) B.len aj (aB (a9 0) aA)) aJ (bS _)))))
   (aI (am dH))
   bQ)
   (aI (am (jI (aW G1 (hr.mono (by decide)) (by rfl) (ah (bW cw (a9 0) aJ (λ_ _=>rfl)) aA)) (jI (aW G1 (hr.mono (by decide)) (by rfl) (ah (bW cw (a9 0) aJ (λ_ _=>rfl)) aA)) (jq (fU km (bW cw (a9 0) aJ (λ_ _=>rfl)) (bW cw (a9 0) aJ (λ_ _=>rfl)) (bS _))))))))),?_⟩
  cases hT:Cr d with
  | false=>
   nofun;refine ft hd ?_;nofun;rw[zZ hT] at q;exact tO hT q
  | true=>
   obtain⟨a,xs,ds,rfl,rfl,h1,h2⟩:=CF hd hT;nofun;refine ft hd ?_;nofun;refine nY (λz=>nomatch z) ⟨_,.inr (cg.of h1),?_⟩;have hl:=h2.len;refine eZ (λhn=>?_) (λhn=>?_)
   ·rw[uj (λz=>hn (by rw[hl,z];rfl))] at q;exact q
   ·have hn':xs.length=2:=Int.ofNat.inj (jS.mp hn);obtain⟨d,e,rfl⟩:=zx (hl.symm.trans hn');obtain⟨x,y,rfl,hx,hy⟩:=rL h2;refine⟨_,x,cg.of h1,rfl,oR hx ?_⟩;nofun;cases ew:eW d with
    | false=>
     rw[DF ew] at q;exact A4 q
    | true=>
     refine A3 ⟨_,y,cg.of h1,rfl,oR hy ?_⟩;nofun;cases ev:eW e with
     | false=>
      rw[DD ev] at q;exact A4 q
     | true=>
      obtain⟨n1,rfl⟩:∃n,d=.int n:=⟨_,lg ew⟩
      obtain⟨n2,rfl⟩:∃n,e=.int n:=⟨_,lg ev⟩
      cases hx;cases hy;refine A3 ⟨_,_,cg.of h1,rfl,_,_,cg.of h1,rfl,?_⟩;nofun;exact q
theorem nj (B:nS mg) (E:Fn K mg "fills_a_word" dq ["thing"]) (Im:eO P w K mg base 2 "is_bow" j7 ["thing"] vZ):eO P w K mg base 3 "fills_a_word" dq ["thing"] v4:=E.mk' λf fd F=>by
 refine F.okS kJ (λvs H Q E h=>?_) (λcdv A outer s H vs Q E hr h=>?_)
 ·obtain⟨x,d,rfl,_⟩:=h;rfl
 ·obtain⟨x,d,rfl,hd,q⟩:=h;refine⟨[some x,none],_,rfl,(L2.iL.h (aG (be (QW.pt (gE (dQ (dP (aR gI (by rfl) B.isinstance aN (aB (a9 0) (aB (fV (v:=.ty "list") (by rfl) B.list bu rfl) aA))))) (fY (bC qM (bB jr aJ (aR bV (by rfl) B.len aj (aB (a9 0) aA))) (lN (by rfl) B.MOST_SIGNS) (bS _)))))
   (aI (am dH))
   bQ)
   (aG (be (dQ (dP (aR (nh rfl) (by rfl) B.all k8 (iS (gw (own:=["bow"]) (ns:=[]) (caps:=[]) rfl ⟨rfl,by decide +kernel,by decide +kernel,by decide +kernel⟩ .nil (dr (a9 0)) (λC s H fp pn=>(bG (i:=0) (show List.Nodup ((["bow"]:List Str)++([]:List Str)) by decide +kernel) rfl (Or.inl rfl))) (λC s H fp pn=>jH) (λC s H fp pn=>(aW Im (hr.mono (by decide)) (by rfl) (aB (a9 0) aA)))) aA))))
   (aI (am dH))
   bQ)
   (aG (aV (i:=1) kJ.nd rfl (Or.inl rfl) (bB kn (gw (own:=["bow"]) (ns:=[]) (caps:=[]) rfl ⟨rfl,by decide +kernel,by decide +kernel,by decide +kernel⟩ .nil (dr (a9 0)) (λC s H fp pn=>(bG (i:=0) (show List.Nodup ((["bow"]:List Str)++([]:List Str)) by decide +kernel) rfl (Or.inl rfl))) (λC s H fp pn=>jH) (λC s H fp pn=>(bW (mV (K:=K) rfl) (a9 0) aJ (λ_ _=>rfl)))) (gw (own:=["bow"]) (ns:=[]) (caps:=[]) rfl ⟨rfl,by decide +kernel,by decide +kernel,by decide +kernel⟩ .nil (dr (a9 0)) (λC s H fp pn=>(bG (i:=0) (show List.Nodup ((["bow"]:List Str)++([]:List Str)) by decide +kernel) rfl (Or.inl rfl))) (λC s H fp pn=>jH) (λC s H fp pn=>(bW (mV (K:=K) rfl) (a9 0) aJ (λ_ _=>rfl))))))
   (aI (am (fU (nB (kK hr)) (aR jd (by rfl) B.sorted bh (aB (a9 1) aA)) (cf (jW rfl) (by rfl) B.list bu (oo (cf xI (by rfl) B.range fx (ba (aR bV (by rfl) B.len aj (aB (a9 1) aA)) aA)) aA)) (bS _)))))))),?_⟩
  cases hL:isL d with
  | false=>
   nofun;refine tL hd ?_;nofun;rw[uk hL] at q;exact tO hL (q H (aX.refl _))
  | true=>
   obtain⟨a,xs,ds,rfl,rfl,h1,h2⟩:=AW hd hL;nofun;refine tL hd ?_;nofun;refine nY (by simp[isL]) ⟨_,.inl (bp.of h1),.inl ⟨by decide,by decide⟩,?_⟩;have hl:=h2.len;refine eZ (λhn=>?_) (λhn=>?_)
   ·have e:mC (.list ds)=false:=by
     show (decide (2*ds.length<=40)&&_)=false;rw[MQ (by lia)];rfl
    rw[e] at q;exact q H (aX.refl _)
   ·have hn':xs.length<=20:=by lia
    have hz:xs.length<=sizeLine:=aS (ai (by lia));have hds:ds.length=xs.length:=hl.symm;have e0:mC (.list ds)=(ds.all eB&&qV (ds.map eJ)):=by
     show (decide (2*ds.length<=40)&&_)=_;rw[decide_eq_true (by lia)];rfl
    rw[e0] at q;refine⟨⟨_,bp.of h1⟩,lS (bp.of h1) hz ((ds.map eB).map V.bl) (by simp[hds]) (λi x y Q' hx hy hq=>?_) λp1 n1=>?_⟩
    ·obtain⟨d,hd1,hd2⟩:=h2.get hx;nofun;refine⟨x,d,rfl,hd2,?_⟩;have ey:y=V.bl (eB d):=by simp[hd1] at hy;exact hy.symm
     rw[ey] at hq;exact hq
    ·have s1:aX H (bU H p1 (.lst ((ds.map eB).map V.bl))):=(aX.refl _).new n1;refine⟨p1,_,rfl,bp.of aC,_,rfl,?_⟩;have ea:(ds.map eB).all id=ds.all eB:=by rw[kA];rfl
     cases hb:ds.all eB with
     | false=>
      rw[hb] at q;exact tO (show (ds.map eB).all id=false by rw[ea,hb]) (q _ s1)
     | true=>
      rw[hb,gk] at q;rw[dF] at hb;have hq1:=s1 _ _ h1;have two:∀{H':Hp},aX H H'->∀(i:Nat) x,xs[i]? = some x->∃t d,x=.ref t/\ds[i]? = some d/\d6 H' t (eJ d):=fun {H'} sm i x hx=>by
       obtain⟨d,hd1,hd2⟩:=h2.get hx;obtain⟨t,rfl,ht⟩:=DG hd2 (hb d (bI hd1));exact⟨t,d,rfl,hd1,ht.same sm⟩
      refine nY (show ¬(ds.map eB).all id=false by rw[ea,dF.mpr hb];decide) ⟨⟨_,bp.of hq1⟩,lS (bp.of hq1) hz (((ds.map eJ).map (·.1)).map V.int) (by simp[hds]) (λi x y Q' hx hy hq=>?_) λp2 n2=>?_⟩
      ·obtain⟨t,d,rfl,hd1,ht⟩:=two s1 i x hx;nofun;refine⟨_,_,cg.of ht,rfl,?_⟩;have ey:y=V.int (eJ d).1:=by simp[hd1] at hy;exact hy.symm
       rw[ey] at hq;exact hq
      ·have s2:=s1.new (o:=.lst (((ds.map eJ).map (·.1)).map V.int)) (s1.free n2);have hq2:=s2 _ _ h1;refine⟨⟨_,bp.of hq2⟩,lS (bp.of hq2) hz (((ds.map eJ).map (·.2)).map V.int) (by simp[hds]) (λi x y Q' hx hy hq=>?_) λp3 n3=>?_⟩
       ·obtain⟨t,d,rfl,hd1,ht⟩:=two s2 i x hx;nofun;refine⟨_,_,cg.of ht,rfl,?_⟩;have ey:y=V.int (eJ d).2:=by simp[hd1] at hy;exact hy.symm
        rw[ey] at hq;exact hq
       ·have s3:=s2.new (o:=.lst (((ds.map eJ).map (·.2)).map V.int)) (s2.free n3);have n23:p2≠p3:=λe=>by subst e;rw[aC] at n3;cases n3
        refine⟨p2,p3,_,_,rfl,rfl,by rw[aK n23,aC],aC,by simp only[aF];exact aS (ai (by lia)),λp4 n4=>?_⟩;have ez:((ds.map eJ).map (·.1)).map V.int++((ds.map eJ).map (·.2)).map V.int=(fG (ds.map eJ)).map V.int:=by rw[<-cG];rfl
        rw[ez];have s4:=s3.new (o:=.lst ((fG (ds.map eJ)).map V.int)) (s3.free n4);have el:(fG (ds.map eJ)).length=2*(ds.map eJ).length:=wz _;have ed:(ds.map eJ).length=ds.length:=aF ..;refine⟨p4,_,rfl,bp.of aC,by lia,λl5 ms n5 hp hs=>?_⟩;have s5:=s4.new (o:=.lst (ms.map V.int)) (s4.free n5);have n45:p4≠l5:=λe=>by subst e;rw[aC] at n5;cases n5
        nofun;refine⟨_,.inl (bp.of (by rw[aK n45,aC])),λp6 n6=>⟨0,_,aC,⟨by decide,by decide,by lia,by rw[aF];lia,by rw[aF];lia⟩,λl7 n7=>?_⟩⟩;have s6:=s5.new (o:=.rng 0 (((fG (ds.map eJ)).map V.int).length:Int)) (s5.free n6);have n56:l5≠p6:=λe=>by subst e;rw[aC] at n6;cases n6
        have n57:l5≠l7:=λe=>by subst e;rw[aK n56,aC] at n7;cases n7
        have eN:(((fG (ds.map eJ)).map V.int).length - 0:Int).toNat=2*(ds.map eJ).length:=by rw[aF];lia
        refine tR (bp.of (by rw[aK n57,aK n56,aC])) (bp.of aC) ?_;rw[eN,sI hp hs];exact q _ (s6.new (s6.free n7))
theorem uW (B:nS mg) (E:Fn K mg "word_of" iV ["bows"]) (HA:eO P w K mg base 3 "fills_a_word" dq ["thing"] v4) (Gj:eO P w K mg base 1 "crossing" fc ["bows"] ll):eO P w K mg base 4 "word_of" iV ["bows"] rq:=E.mk' λf fd F=>by
 refine F.okS o7 (λvs H Q E h=>?_) (λcdv A outer s H vs Q E hr h=>?_)
 ·obtain⟨l,ps,rfl,_⟩:=h;rfl
 ·obtain⟨l,ps,rfl,bo,hf,hc,q⟩:=h;refine⟨[some (.ref l),none],_,rfl,(L2.iL.h (aG (be (dQ (dP (aW HA (hr.mono (by decide)) (by rfl) (aB (a9 0) aA))))
   (aI jb)
   bQ)
   (aG (be (bC qv (aW Gj (hr.mono (by decide)) (by rfl) (aB (a9 0) aA)) gh (bS _))
   (aI jb)
   bQ)
   (aG (aV (i:=1) o7.nd rfl (Or.inr rfl) (gw (own:=["bow"]) (ns:=[]) (caps:=[]) rfl ⟨rfl,by decide +kernel,by decide +kernel,by decide +kernel⟩ .nil (dr (a9 0)) (λC s H fp pn=>(bG (i:=0) (show List.Nodup ((["bow"]:List Str)++([]:List Str)) by decide +kernel) rfl (Or.inl rfl))) (λC s H fp pn=>jH) (λC s H fp pn=>(bW (mV (K:=K) rfl) (a9 0) aJ (λ_ _=>rfl)))))
   (aI (am (h7 jx kX kU vn bT (iS (gw (own:=["end"]) (ns:=["firsts"]) (caps:=[1]) rfl ⟨rfl,by decide +kernel,by decide +kernel,by decide +kernel⟩ (.cons rfl rfl (.inl rfl) .nil) (ce (by rfl) B.range (dE (bB jr aJ (aR bV (by rfl) B.len aj (aB (a9 0) aA))) aA)) (λC s H fp pn=>(bG (i:=0) (show List.Nodup ((["end"]:List Str)++(["firsts"]:List Str)) by decide +kernel) rfl (Or.inl rfl))) (λC s H fp pn=>jH) (λC s H fp pn=>(lM (bC (AK (K:=K) rfl (kK hr)) (a9 0) (a9 1) (by with_unfolding_all rfl)) bT bT))) aA)))))))),?_⟩
  nofun;refine⟨_,_,rfl,zY bo,λH1 s1=>?_⟩;rw[hf];nofun;have bo1:=bo.same s1;have hlen:2*ps.length<=40:=by
   rw[n9,bL] at hf;exact MR hf.1
  refine⟨l,ps,rfl,bo1,λ_=>⟨trivial,?_⟩,λp hp q hq z=>by rw[hc p hp q hq] at z;cases z⟩;nofun;obtain⟨as,b1,bl,bg⟩:=bo1.get;have hz:(as.map V.ref).length<=sizeLine:=by rw[aF];exact aS (ai (by lia))
  refine⟨⟨_,bp.of b1⟩,lS (bp.of b1) hz ((ps.map (·.1)).map V.int) (by simp[bl]) (λi x y Q' hx hy hq=>?_) λp2 n2=>?_⟩
  ·obtain⟨t,p,rfl,hp,ht⟩:=bg i x hx;nofun;refine⟨_,_,cg.of ht,rfl,?_⟩;have ey:y=V.int p.1:=by simp[hp] at hy;exact hy.symm
   rw[ey] at hq;exact hq
  ·have s2:=s1.new (o:=.lst ((ps.map (·.1)).map V.int)) (s1.free n2);have n12:l≠p2:=av b1 n2;have hj:JoinOk (Str.ofString "") ((dw ps).map sgn)=true:=by
    unfold JoinOk;have e:Builtin.Str.tooLong (((dw ps).map sgn).toArray.foldl (λa t=>a+t.length+(Str.ofString "").length) 0)=false:=by
     have h0:∀(bs:List Bool) (a:Nat),(bs.map sgn).foldl (λa t=>a+t.length+(Str.ofString "").length) a=a+bs.length:=by
      intro bs
      induction bs with
      | nil=>intro a;rfl
      | cons b bs ih=>
       intro a;rw[bR,kM,ih];have:(sgn b).length=1:=by show (sgn b).cps.size=1;rw[mJ];rfl
       have h2:(Str.ofString "").length=0:=by rw[oC];rfl
       rw[this,h2,fN];lia
     rw[List.foldl_toArray',h0];have:(dw ps).length<=40:=by simp[dw];lia
     unfold Builtin.Str.tooLong;exact MQ (by have:=ai (n:=0+(dw ps).length) (by lia);lia);simp
    rw[e];rfl
   refine⟨rfl,_,.inl (bp.of (by rw[aK n12];exact b1)),.inl ⟨by decide,by decide⟩,by rw[aF];lia,by rw[aF];lia,?_⟩;have en:(2*(as.map V.ref).length:Int).toNat=2*ps.length:=by rw[aF,bl];lia
   rw[en];refine xE (aS (ai (by lia))) (((dw ps).map sgn).map V.str) (by simp[dw]) (λi y Q' hi hy hq=>?_) λp3 n3=>?_
   ·nofun;refine A6 (ns:=ps.map (·.1)) (.inl (bp.of aC)) ?_;have ey:y=V.str (sgn (decide (((i:Nat):Int)∈ps.map (·.1)))):=by
     have e2:(((dw ps).map sgn).map V.str)[i]? = some (V.str (sgn (decide (((i:Nat):Int)∈ps.map (·.1))))):=by simp[dw,hi]
     rw[e2] at hy;exact(aq hy).symm
    rw[ey] at hq;nofun;simp only[dC] at hq ⊢;refine eZ (λz=>?_) (λz=>?_)
    ·rw[decide_eq_true (by simpa using z)] at hq;exact hq
    ·rw[MQ (by simpa using z)] at hq;exact hq
   ·refine⟨_,p3,_,rfl,rfl,bp.of aC,hj,?_⟩;rw[tK];exact q _ (s2.new (s2.free n3))
theorem pc (E:Fn K mg "other_side" fL ["side"]):eO P w K mg base 1 "other_side" fL ["side"] vX:=E.mk' λf fd F=>by
 refine F.okS p8 (λvs H Q E h=>?_) (λcdv A outer s H vs Q E hr h=>?_)
 ·obtain⟨b,rfl,_⟩:=h;rfl
 ·obtain⟨b,rfl,q⟩:=h;refine⟨[some (.str (sd b))],_,rfl,(L2.iL.h (aI (am (lM (bC ig (a9 0) bT (bS _)) bT bT)))),?_⟩;nofun;simp only[Ew];refine eZ (λh=>?_) (λh=>?_)
  ·subst h;exact q
  ·have e:b=true:=by cases b;exact absurd rfl h;rfl
   subst e;exact q
theorem ni (E:Fn K mg "side_of_step" dn ["maze","step"]) (HX:eO P w K mg base 1 "other_side" fL ["side"] vX):eO P w K mg base 2 "side_of_step" dn ["maze","step"] rz:=E.mk' λf fd F=>by
 refine F.okS kI (λvs H Q E h=>?_) (λcdv A outer s H vs Q E hr h=>?_)
 ·obtain⟨m,o,b,ns,k,rfl,_⟩:=h;rfl
 ·obtain⟨m,o,b,ns,k,rfl,hm,q⟩:=h;refine⟨[some (.ref m),some (.int k),none],_,rfl,(L2.iL.h (aG (aV (i:=2) kI.nd rfl (Or.inl rfl) (bW cw (a9 0) aJ (λ_ _=>rfl)))
   (aI (am (lM (bC ig (bB iA (a9 1) aJ) aJ (bS _)) (a9 2) (aW HX (hr.mono (by decide)) (by rfl) (aB (a9 2) aA))))))),?_⟩
  nofun;refine⟨_,_,cg.of hm.1,rfl,?_⟩;refine⟨by decide,eZ (λh=>?_) (λh=>?_)⟩
  ·have e:odd k=false:=by simp[odd];lia
   rw[e,Bool.xor_false] at q;exact q
  ·have e:odd k=true:=by simp[odd];lia
   rw[e,Bool.xor_true] at q;exact⟨b,rfl,q⟩
theorem oy (B:nS mg) (E:Fn K mg "rows_of_way" eP ["maze"]):eO P w K mg base 1 "rows_of_way" eP ["maze"] yY:=E.mk' λf fd F=>by
 refine F.okS kg (λvs H Q E h=>?_) (λcdv A outer s H vs Q E hr h=>?_)
 ·obtain⟨m,o,b,ns,rfl,_⟩:=h;rfl
 ·obtain⟨m,o,b,ns,rfl,hm,hl,q⟩:=h;refine⟨[some (.ref m),none],_,rfl,(L2.iL.h (aG (aV (i:=1) kg.nd rfl (Or.inl rfl) (bW cw (a9 0) aJ (λ_ _=>rfl)))
   (aI (am (bB kn (bB kn (cB (au aJ aA)) (cf m5 (by rfl) B.list bu (aB (a9 1) aA))) (cB (dE (bB fQ (aR bV (by rfl) B.len aj (aB (a9 1) aA)) aJ) aA))))))),?_⟩
  nofun;refine⟨_,_,cg.of hm.1,rfl,(by show 1<=sizeLine;decide),λp1 n1=>?_⟩;have s1:=(aX.refl H).new (o:=.lst [.int 0]) n1;refine⟨o,_,rfl,.inr (cg.of (s1 _ _ hm.2)),λp2 n2=>?_⟩;have s2:=s1.new (o:=.lst (ns.map V.int)) (s1.free n2);have e12:p1≠p2:=λe=>by subst e;rw[aC] at n2;cases n2
  refine⟨p1,p2,_,_,rfl,rfl,by rw[aK e12,aC],aC,aS (ai (by simp;lia)),λp3 n3=>?_⟩;have s3:=s2.new (o:=.lst ([.int 0]++ns.map V.int)) (s2.free n3);refine⟨o,_,rfl,.inr (cg.of (s3 _ _ hm.2)),(by show 1<=sizeLine;decide),λp4 n4=>?_⟩;have s4:=s3.new (o:=.lst [.int (((ns.map V.int).length:Int)+1)]) (s3.free n4);have e34:p3≠p4:=λe=>by subst e;rw[aC] at n4;cases n4
  refine⟨p3,p4,_,_,rfl,rfl,by rw[aK e34,aC],aC,aS (ai (by simp;lia)),λp5 n5=>?_⟩;have s5:=s4.new (o:=.lst ([.int 0]++ns.map V.int++[.int (((ns.map V.int).length:Int)+1)])) (s4.free n5);refine q p5 _ (s4.free n5) s5 ?_;rw[aC];simp[dG]
theorem u9 (B:nS mg) (E:Fn K mg "bows_of" g0 ["maze"]) (HE:eO P w K mg base 2 "side_of_step" dn ["maze","step"] rz) (HP:eO P w K mg base 1 "rows_of_way" eP ["maze"] yY):eO P w K mg base 3 "bows_of" g0 ["maze"] oZ:=E.mk' λf fd F=>by
 refine F.okS i8 (λvs H Q E h=>?_) (λcdv A outer s H vs Q E hr h=>?_)
 ·obtain⟨m,o,b,ns,rfl,_⟩:=h;rfl
 ·obtain⟨m,o,b,ns,rfl,hm,O,q⟩:=h;have hlen:=O.len;refine⟨[some (.ref m),none,none,none,none],_,rfl,(L2.iL.h (aG (aV (i:=1) i8.nd rfl (Or.inl rfl) (aW HP (hr.mono (by decide)) (by rfl) (aB (a9 0) aA)))
   (aG (aV (i:=2) i8.nd rfl (Or.inl rfl) (yj (qI bT (cB aA) (qI bT (cB aA) yf)) rfl rfl (λz=>nomatch z) (by decide)))
   (aG (cZ al rfl (ce (by rfl) B.range (dE (bB mz (aR bV (by rfl) B.len aj (aB (a9 1) aA)) aJ) aA)) (bG (i:=3) i8.nd rfl (Or.inl rfl))
   (aG (aV (i:=4) i8.nd rfl (Or.inl rfl) (cf l6 (by rfl) B.tuple bn (ba (aR jd (by rfl) B.sorted bh (ah (qJ v8 (a9 1) (oj (a9 3)) (oj (bB fQ (a9 3) aJ))) aA)) aA)))
    (aI (eI (h7 bA bO bN eT (cq (gx hr) (a9 2) (aW HE (hr.mono (by decide)) (by rfl) (aB (a9 0) (aB (a9 3) aA))) (λ_ _=>rfl)) (aB (a9 4) aA))))))
   (aI (am (dS (ba (aR g9 (by rfl) B.sorted bh (ah (cq (gx hr) (a9 2) bT (λ_ _=>rfl)) aA)) (ba (aR g9 (by rfl) B.sorted bh (ah (cq (gx hr) (a9 2) bT (λ_ _=>rfl)) aA)) aA))))))))),?_⟩
  nofun;refine⟨m,o,b,ns,rfl,hm,by lia,λrl H1 nrl s1 hrl=>?_⟩;nofun;intro d nd;have sd1:=s1.new (o:=.dK []) (s1.free nd);refine⟨bH _,λl1 nl1=>?_⟩;have edl:d≠l1:=λe=>by subst e;rw[aC] at nl1;cases nl1
  have sl1:=sd1.new (o:=.lst []) (sd1.free nl1);refine⟨bH _,λr1 nr1=>?_⟩;have edr:d≠r1:=λe=>by subst e;rw[aK edl,aC] at nr1;cases nr1
  have elr:l1≠r1:=λe=>by subst e;rw[aC] at nr1;cases nr1
  have sr1:=sl1.new (o:=.lst []) (sl1.free nr1);refine⟨by rw[aK edr,aK edl,aC],[(.inr (Str.ofString "l"),.ref l1),(.inr (Str.ofString "r"),.ref r1)],rfl,(by show 2<=15;decide),?_⟩;have fd0:H d=none:=s1.free nd;have fl0:H l1=none:=sd1.free nl1;have fr0:H r1=none:=sl1.free nr1;have erl:rl≠d:=av hrl nd;have erl1:rl≠l1:=av (((aX.refl H1).new (o:=.dK []) nd) _ _ hrl) nl1;have erl2:rl≠r1:=av ((((aX.refl H1).new (o:=.dK []) nd).new (o:=.lst []) (((aX.refl H1).new (o:=.dK []) nd).free nl1)) _ _ hrl) nr1;generalize hkv:lw [] [((.inr (Str.ofString "l"):Key),V.ref l1),(.inr (Str.ofString "r"),.ref r1)]=kvs;have kl:cW kvs (.inr (Str.ofString "l"))=some (.ref l1):=by subst hkv;rfl
  have kr:cW kvs (.inr (Str.ofString "r"))=some (.ref r1):=by subst hkv;rfl
  have ks:∀s:Bool,cW kvs (.inr (sd s))=some (.ref (if s then r1 else l1)):=λs=>by cases s;exact kl;exact kr
  refine⟨_,.inl (bp.of (by rw[aK erl,aK erl2,aK erl1,aK erl];exact hrl)),by rw[aF,fq];lia,by rw[aF,fq];lia,?_⟩;have eN:(((dG ns).map V.int).length - 1:Int).toNat=ns.length+1:=by rw[aF,fq];lia
  rw[eN];refine eU (n:=ns.length+1) (λi σ H2=>∃(x3 x4:Option V),σ=[some (.ref m),some (.ref rl),some (.ref d),x3,x4]/\aX H H2/\H2 rl=some (.lst ((dG ns).map V.int))/\H2 d=some (.dK kvs)/\cK H2 l1 (bF b ns false i)/\cK H2 r1 (bF b ns true i))
   ⟨none,none,rfl,sr1.new fd0,by rw[aK erl,aK erl2,aK erl1,aK erl];exact hrl,aC,⟨[],by rw[aK edl.symm,aK elr,aC];rfl,.nil⟩,⟨[],by rw[aK edr.symm,aC];rfl,.nil⟩⟩ ?_ ?_
  ·rintro i σ H2 hi ⟨x3,x4,rfl,sm,hrl2,hd2,bl,br⟩;nofun;refine⟨rl,_,rfl,bp.of hrl2,λp1 n1=>?_⟩;rw[Ad (by lia)];have t1:=(aX.refl H2).new (o:=.lst ([bc ns i,bc ns (i+1)].map V.int)) n1;refine⟨p1,_,rfl,bp.of aC,(by show 2<64;decide),λp2 ms n2 hp hs=>?_⟩;rw[uG hp hs];have t2:=t1.new (o:=.lst ([min (bc ns i) (bc ns (i+1)),max (bc ns i) (bc ns (i+1))].map V.int)) (t1.free n2);refine⟨p2,_,rfl,.inl ⟨bp.of aC,λt n3=>?_⟩⟩;have t3:=t2.new (o:=.tup ([min (bc ns i) (bc ns (i+1)),max (bc ns i) (bc ns (i+1))].map V.int)) (t2.free n3);have sm3:=sm.trans t3;refine⟨m,o,b,ns,i,by simp,hm.same sm3,?_⟩;have bl3:=bl.same t3;have br3:=br.same t3;refine⟨_,.inl ⟨kvs,.inr (sd (b ^^ odd i)),.inl (t3 _ _ hd2),rfl,(ks _).symm⟩,?_⟩;have tt:d6 (bU (bU (bU H2 p1 (.lst ([bc ns i,bc ns (i+1)].map V.int))) p2 (.lst ([min (bc ns i) (bc ns (i+1)),max (bc ns i) (bc ns (i+1))].map V.int))) t (.tup ([min (bc ns i) (bc ns (i+1)),max (bc ns i) (bc ns (i+1))].map V.int))) t (fA ns i):=aC;generalize bU (bU (bU H2 p1 (.lst ([bc ns i,bc ns (i+1)].map V.int))) p2 (.lst ([min (bc ns i) (bc ns (i+1)),max (bc ns i) (bc ns (i+1))].map V.int))) t (.tup ([min (bc ns i) (bc ns (i+1)),max (bc ns i) (bc ns (i+1))].map V.int))=H3 at *;cases hs:(b ^^ odd i) with
   | false=>
    have h1:bj b false i=true:=by simp[bj,hs]
    have h2:bj b true i=false:=by simp[bj,hs]
    rw[fy h1,gl h2];obtain⟨as,b1,b2⟩:=bl3;have ha:as.length=(bF b ns false i).length:=cN b2;have:=fJ b ns false i;refine⟨j3 b1,l1,as.map V.ref,_,rfl,rfl,b1,by rw[aF];exact ai (by lia),_,_,rfl,sm3.new fl0,by rw[aK erl1];exact t3 _ _ hrl2,by rw[aK edl];exact t3 _ _ hd2,nL b1 b2 tt,ky br3 b1 elr.symm⟩
   | true=>
    have h1:bj b true i=true:=by simp[bj,hs]
    have h2:bj b false i=false:=by simp[bj,hs]
    rw[fy h1,gl h2];obtain⟨as,b1,b2⟩:=br3;have ha:as.length=(bF b ns true i).length:=cN b2;have:=fJ b ns true i;refine⟨j3 b1,r1,as.map V.ref,_,rfl,rfl,b1,by rw[aF];exact ai (by lia),_,_,rfl,sm3.new fr0,by rw[aK erl2];exact t3 _ _ hrl2,by rw[aK edr];exact t3 _ _ hd2,ky bl3 b1 elr,nL b1 b2 tt⟩
  ·rintro σ H2 ⟨x3,x4,rfl,sm,hrl2,hd2,bl,br⟩;nofun;have bnd:∀s,∀p∈bF b ns s (ns.length+1),0<=p.2/\p.2<1000:=λs p hp=>by
    obtain⟨i,hi,_,rfl⟩:=j5 hp;have:=O.step_in (i:=i) (by lia);have:=O.step_lt (i:=i) (by lia);lia
   obtain⟨as,b1,b2⟩:=bl;have:=fJ b ns false (ns.length+1);refine⟨_,.inl ⟨kvs,.inr (Str.ofString "l"),.inl hd2,rfl,kl.symm⟩,l1,as,_,rfl,bp.of b1,b2,by lia,bnd false,λl as' L nl hP hp hs=>?_⟩;have t1:=(aX.refl H2).new (o:=.lst (as'.map V.ref)) nl;obtain⟨bs,c1,c2⟩:=br.same t1;have:=fJ b ns true (ns.length+1);refine⟨_,.inl ⟨kvs,.inr (Str.ofString "r"),.inl (t1 _ _ hd2),rfl,kr.symm⟩,r1,bs,_,rfl,bp.of c1,c2,by lia,bnd true,λr bs' R nr hP2 hp2 hs2=>?_⟩;have t2:=(aX.refl (bU H2 l (.lst (as'.map V.ref)))).new (o:=.lst (bs'.map V.ref)) nr;refine⟨(by show 2<=sizeLine;decide),λt nt=>?_⟩;have t3:=(aX.refl (bU (bU H2 l (.lst (as'.map V.ref))) r (.lst (bs'.map V.ref)))).new (o:=.tup [.ref l,.ref r]) nt;have elr2:l≠r:=λe=>by subst e;rw[aC] at nr;cases nr
   refine q t l r L R _ (sm.free (t1.free (t2.free nt))) (sm.free nl) (sm.free (t1.free nr)) (((sm.trans t1).trans t2).trans t3) ⟨aC,?_,?_,⟨hp,hs⟩,⟨hp2,hs2⟩,elr2⟩
   ·exact((nM (l:=l) hP nl).same t2).same t3
   ·exact(nM (l:=r) hP2 nr).same t3
theorem u6 (B:nS mg) (IA:∃a,mg "SIDES"=some (.ref a)/\∀H,cg K H a (([("l":Str),"r"]:List Str).map V.str)) (E:Fn K mg "crossed" i0 ["maze"]) (Gw:eO P w K mg base 3 "bows_of" g0 ["maze"] oZ) (Gj:eO P w K mg base 1 "crossing" fc ["bows"] ll):eO P w K mg base 4 "crossed" i0 ["maze"] qC:=E.mk' λf fd F=>by
 refine F.okS jk (λvs H Q E h=>?_) (λcdv A outer s H vs Q E hr h=>?_)
 ·obtain⟨m,o,b,ns,rfl,_⟩:=h;rfl
 ·obtain⟨m,o,b,ns,rfl,hm,O,qn,qc⟩:=h;refine⟨[some (.ref m),none,none,none],_,rfl,(L2.iL.h (aG (cZ al rfl (yh (by rfl) B.zip (aB (qK (by rfl) IA) (ba (aW Gw (hr.mono (by decide)) (by rfl) (aB (a9 0) aA)) aA))) (jo (n:=2) rfl (cc (bG (i:=1) jk.nd rfl (Or.inl rfl)) (cc (bG (i:=2) jk.nd rfl (Or.inl rfl)) ic)))
   (aG (aV (i:=3) jk.nd rfl (Or.inl rfl) (aW Gj (hr.mono (by decide)) (by rfl) (aB (a9 2) aA)))
    (aI (be (bC qv (a9 3) gh (bS _))
    (aI (am (dS (aB (a9 1) (ah (bW cw (a9 3) aJ (λ_ _=>rfl)) (ah (bW cw (a9 3) aJ (λ_ _=>rfl)) aA))))))
    bQ))))
   (aI (am gh)))),?_⟩
  nofun;intro a ha;refine⟨m,o,b,ns,rfl,hm,O,λt l r L R H1 nt nl nr s1 BO=>⟨a,t,rfl,⟨_,ha _⟩,⟨_,cg.of BO.tup⟩,?_⟩⟩;refine zN (xs:=[V.str (sd false),.str (sd true)]) (ys:=[.ref l,.ref r]) (aH _) (λi σ H'=>∃x1 x2 x3:Option V,σ=[some (.ref m),x1,x2,x3]/\aX H1 H'/\∀u:Bool,(if u then 2 else 1)<=i->∀p∈bF b ns u (ns.length+1),∀q∈bF b ns u (ns.length+1),bX p q=false)
   ⟨_,_,_,rfl,aX.refl _,λu hu=>by cases u<;>simp at hu⟩ (λi σ H' ⟨_,_,_,_,s2,_⟩=>⟨ha _,cg.of (s2 _ _ BO.tup)⟩) ?_ ?_
  ·rintro i x y σ H2 p hx hy ⟨x1,x2,x3,rfl,s2,hn⟩ np;obtain⟨u,lu,S,rfl,rfl,hBS,hS,hi⟩:∃(u:Bool) (lu:Addr) (S:List Bw),x=.str (sd u)/\y=.ref lu/\cK H2 lu S/\pT b ns u S/\i+1=(if u then 2 else 1):=by
    match i,hx,hy with
    | 0,hx,hy=>cases hx;cases hy;exact⟨false,l,L,rfl,rfl,BO.left.same s2,BO.isL,rfl⟩
    | 1,hx,hy=>cases hx;cases hy;exact⟨true,r,R,rfl,rfl,BO.right.same s2,BO.isR,rfl⟩
    | j+2,hx,hy=>simp at hx
   nofun;refine⟨_,cg.of aC,rfl,?_⟩;have s3:=(aX.refl H2).new (o:=.tup [.str (sd u),.ref lu]) np;nofun;refine⟨lu,S,rfl,hBS.same s3,λhc=>⟨trivial,?_⟩,λe1 h1 e2 h2 z t2 a2 b2 H3 nt2 s4 ht2 ta tb=>⟨trivial,?_⟩⟩
   ·nofun;refine nY (λz=>z trivial) ⟨_,_,_,rfl,s2.trans s3,λv hv=>?_⟩;by_cases e:v=u
    ·subst e;exact λp hp q hq=>hc p (hS.perm.mem_iff.mpr hp) q (hS.perm.mem_iff.mpr hq)
    ·refine hn v ?_;cases u<;>cases v<;>simp_all
   ·nofun;refine tO (λz=>nomatch z) ⟨_,_,cg.of ht2,rfl,_,_,cg.of ht2,rfl,(by show 3<=sizeLine;decide),λt3 nt3=>?_⟩;have s5:=(aX.refl H3).new (o:=.tup [.str (sd u),.ref a2,.ref b2]) nt3;exact qc u e1 (hS.perm.mem_iff.mp h1) e2 (hS.perm.mem_iff.mp h2) z t3 _ ((((s1.trans s2).trans s3).trans s4).trans s5) ⟨a2,b2,aC,s5 _ _ ta,s5 _ _ tb⟩
  ·rintro σ H2 ⟨x1,x2,x3,rfl,s2,hn⟩;nofun;exact qn (λu=>hn u (by cases u<;>decide)) _ (s1.trans s2)
theorem Ca (E:Fn K mg "vet" qH ["maze"]) (IV:eO P w K mg base 3 "is_maze" iY ["thing"] sG) (IW:eO P w K mg base 4 "crossed" i0 ["maze"] qC):eO P w K mg base 5 "vet" qH ["maze"] yV:=E.mk' λf fd F=>by
 refine F.okS y8 (λvs H Q E h=>?_) (λcdv A outer s H vs Q E hr h=>?_)
 ·obtain⟨m,o,b,ns,rfl,_⟩:=h;rfl
 ·obtain⟨m,o,b,ns,rfl,hm,O,nc,q⟩:=h;refine⟨[some (.ref m),none],_,rfl,(L2.iL.h (aG (be (dQ (dP (aW IV (hr.mono (by decide)) (by rfl) (aB (a9 0) aA))))
   (aI jb)
   bQ)
   (aG (aV (i:=1) y8.nd rfl (Or.inl rfl) (aW IW (hr.mono (by decide)) (by rfl) (aB (a9 0) aA)))
   (aG (be (bC qv (a9 1) gh (bS _))
   (aI jb)
   bQ)
   (aI (am dH)))))),?_⟩
  nofun;refine⟨_,_,rfl,hm.dat,Cf,λH1 s1=>?_⟩;rw[Cg O];nofun;refine⟨m,o,b,ns,rfl,hm.same s1,O,λnc H2 s2=>⟨trivial,?_⟩,λu p hp q' hq z=>by rw[nc u p hp q' hq] at z;cases z⟩;nofun;exact nY (λz=>z trivial) (q _ (s1.trans s2))
theorem qz {t6:Addr} (Gz:OwnCls "NoWord" t6 [.type "ValueError",.type "Exception",.type "BaseException",.type "object"] "ValueError.__new__" mg base) (B:nS mg) (E:Fn K mg "vet_words" fk ["left","right"]) (Gi:eO P w K mg base 1 "is_word" gX ["thing"] (mH K)):lV P w K mg base 2 "vet_words" fk ["left","right"] (yU t6):=E.mkX λf fd F=>by
 refine F.okX qp (λvs H Q E h=>?_) (λcdv A outer s H vs Q E hr h=>?_)
 ·obtain⟨x,y,d,e,rfl,_⟩:=h;rfl
 ·obtain⟨x,y,d,e,rfl,hd,td,he,te,h⟩:=h;refine⟨[some x,some y],_,rfl,(L2.iL.h (aG (be (mQ (QW.pt (gE (dQ (dP (aW Gi (hr.mono (by decide)) (by rfl) (aB (a9 0) aA)))) (fY (dQ (dP (aW Gi (hr.mono (by decide)) (by rfl) (aB (a9 1) aA))))))))
   (aI (ja ki Gz cO rfl (by rfl) (au bT aA)))
   bQ)
   (aG (be (mQ (bC mS (aR dA (by rfl) B.len aj (aB (a9 0) aA)) (aR dA (by rfl) B.len aj (aB (a9 1) aA)) (bS _)))
   (aI (ja ki Gz cO rfl (by rfl) (au bT aA)))
   bQ)
   (aI (fZ (am dH)))))),?_⟩
  nofun;refine nG hd td ?_;nofun;cases h1:jK d with
  | false=>
   have e1:jj d e=false:=by unfold jj;rw[h1];rfl
   rcases h with ⟨z,_⟩ | ⟨_,q⟩
   ·rw[e1] at z;cases z
   ·exact tO rfl ⟨(by show 1<=sizeLine;decide),q⟩
  | true=>
  refine nY (λz=>nomatch z) (nG he te ?_);nofun;cases h2:jK e with
  | false=>
   have e1:jj d e=false:=by unfold jj;rw[h1,h2];rfl
   rcases h with ⟨z,_⟩ | ⟨_,q⟩
   ·rw[e1] at z;cases z
   ·exact tO rfl ⟨(by show 1<=sizeLine;decide),q⟩
  | true=>
  refine nY (λz=>nomatch z) ?_;obtain⟨z1,rfl⟩:∃z,d=.str z:=by cases d<;>first | exact⟨_,rfl⟩ | exact nomatch h1
  obtain⟨z2,rfl⟩:∃z,e=.str z:=by cases e<;>first | exact⟨_,rfl⟩ | exact nomatch h2
  cases hd;cases he;have l1:z1.length<=sizeLine:=aS (ai td.2);have l2:z2.length<=sizeLine:=aS (ai te.2);have et:jj (.str z1) (.str z2)=decide (z1.length=z2.length):=by unfold jj;rw[h1,h2];rfl
  rw[et] at h;nofun;refine⟨l1,l2,eZ (λhn=>?_) (λhn=>?_)⟩
  ·rcases h with ⟨z,_⟩ | ⟨_,q⟩
   ·exact absurd (MR z) (by lia)
   ·exact⟨(by show 1<=sizeLine;decide),q⟩
  ·rcases h with ⟨_,q⟩ | ⟨z,_⟩
   ·exact q
   ·exact absurd (of_decide_eq_false z) (by lia)
theorem sY {t6:Addr} (E:Fn K mg "partners" gW ["word"]) (JQ:lV P w K mg base 2 "pairs" lI ["word"] (sA t6)):eO P w K mg base 3 "partners" gW ["word"] gV:=E.mk' λf fd F=>by
 refine F.okS jF (λvs H Q E h=>?_) (λcdv A outer s H vs Q E hr h=>?_)
 ·obtain⟨bs,rfl,_⟩:=h;rfl
 ·obtain⟨bs,rfl,bal,hl,q⟩:=h;refine⟨[some (.str (wd bs)),none,none,none],_,rfl,(L2.iL.h (aG (aV (i:=1) jF.nd rfl (Or.inl rfl) jc)
   (aG (cZ al rfl (dr (qL JQ (hr.mono (by decide)) (by rfl) (aB (a9 0) aA))) (jo (n:=2) rfl (cc (bG (i:=2) jF.nd rfl (Or.inl rfl)) (cc (bG (i:=3) jF.nd rfl (Or.inl rfl)) ic)))
   (aG (gu (gx hr) (a9 1) (a9 2) (a9 3) rfl)
    (aI (gu (gx hr) (a9 1) (a9 3) (a9 2) rfl))))
   (aI (am (a9 1)))))),?_⟩
  obtain⟨ms,M⟩:=ko bal bs.length (aH _);have hml:=M.count bal;nofun;intro d nd;have s0:=(aX.refl H).new (o:=.dK []) nd;refine⟨_,rfl,.inl ⟨bs,ms,rfl,bal,hl,M,λl H1 nl s1 bo=>?_⟩⟩;have ndl:d≠l:=λe=>by subst e;rw[aC] at nl;cases nl
  obtain⟨as,b1,bl,bg⟩:=bo.get;refine⟨l,rfl,⟨_,bp.of b1⟩,?_⟩;refine gz (xs:=as.map V.ref) (λi σ H2=>∃(kvs:xS) (x2 x3:Option V),σ=[some (.str (wd bs)),some (.ref d),x2,x3]/\aX H H2/\H2 d=some (.dK kvs)/\(∀b o,H1 b=some o->b≠d->H2 b=some o)/\kvs.length<=2*i/\∀p∈ms.take i,cW kvs (.inl (p.1:Int))=some (.int (p.2:Nat))/\cW kvs (.inl (p.2:Int))=some (.int (p.1:Nat)))
   ⟨[],_,_,rfl,s0.trans s1,s1 _ _ aC,λb o h _=>h,bH _,λp hp=>by simp at hp⟩ (λi σ H2 _ ⟨_,_,_,_,_,_,kp,_⟩=>bp.of (kp _ _ b1 ndl.symm)) ?_ ?_
  ·rintro i x σ H2 hx ⟨kvs,x2,x3,rfl,sm,hd,kp,hk,hv⟩;obtain⟨t,p,rfl,hp,ht⟩:=bg i x hx;obtain⟨⟨a,b⟩,hm,rfl⟩:∃q:Nat×Nat,ms[i]? = some q/\p=((q.1:Int),(q.2:Int)):=by
    unfold sq at hp;rw[bD] at hp;cases e:ms[i]? with
    | none=>rw[e] at hp;cases hp
    | some q=>rw[e] at hp;exact⟨q,rfl,(aq hp).symm⟩
   have hi:i<ms.length:=(aE.mp hm).1;have ntd:t≠d:=λz=>by
    subst z;have:=s1 _ _ (L2.aC (H:=H) (a:=t) (o:=.dK []));rw[ht] at this;cases this
   have l1:kvs.length<sizeLine:=ai (by lia);have hS2:=c9 kvs (.inl (a:Int):Key) (.int (b:Nat));have hS3:=c9 (putK kvs (.inl (a:Int):Key) (.int (b:Nat))) (.inl (b:Int):Key) (.int (a:Nat));have l2:(putK kvs (.inl (a:Int):Key) (.int (b:Nat))).length<sizeLine:=ai (by lia);have ht2:=kp _ _ ht ntd;refine⟨t,_,rfl,cg.of ht2,rfl,?_⟩;nofun;refine⟨_,nQ.k (k:=.inl (a:Int)) hd l1,_,nQ.k (k:=.inl (b:Int)) aC l2,_,_,_,rfl,(sm.new nd).new nd,aC,λc o h hc=>by rw[aK hc,aK hc];exact kp c o h hc,by lia,λp hp=>?_⟩;have hab:=(M.mate _ (bI hm)).1;have val:∀x y,Pr bs x y->(x=a\/x=b\/cW kvs (.inl (x:Int))=some (.int (y:Nat)))->cW (putK (putK kvs (.inl (a:Int):Key) (.int (b:Nat))) (.inl (b:Int):Key) (.int (a:Nat))) (.inl (x:Int))=some (.int (y:Nat)):=λx y hxy hx=>by
    rw[fS,fS];by_cases c1:x=b
    ·subst c1;have e:a=y:=(Pr.symm (.inl hab)).uniq hxy;rw[MO rfl,e]
    ·rw[MN (λz=>c1 (by cases z;rfl))];by_cases c2:x=a
     ·subst c2;have e:b=y:=Pr.uniq (.inl hab) hxy;rw[MO rfl,e]
     ·rw[MN (λz=>c2 (by cases z;rfl))];rcases hx with h | h | h
      ·exact absurd h c2
      ·exact absurd h c1
      ·exact h
   rw[bZ,hm] at hp;rcases aT.mp hp with hp | hp
   ·have hmp:=(M.mate _ (List.mem_of_mem_take hp)).1;exact⟨val _ _ (.inl hmp) (.inr (.inr (hv p hp).1)),val _ _ (.inr hmp) (.inr (.inr (hv p hp).2))⟩
   ·have e:p=(a,b):=by simpa using hp
    subst e;exact⟨val _ _ (.inl hab) (.inl rfl),val _ _ (.inr hab) (.inr (.inl rfl))⟩
  ·rintro σ H2 ⟨kvs,x2,x3,rfl,sm,hd,kp,hk,hv⟩;rw[aF,bl,sq,aF,bv] at hv;nofun;refine q d kvs H2 nd sm hd λx hx=>?_;rcases jV bal hx with hm | hm
   ·obtain⟨m,hmm⟩:=M.all x hx hm.op;have e:=(M.mate _ hmm).1.uniq hm;have:=(hv _ hmm).1;rw[e] at this;exact this
   ·have h1:=fM hm.lt hm.ml;obtain⟨m,hmm⟩:=M.all _ h1 hm.op;have e:m=x:=(M.mate _ hmm).1.uniq hm;have:=(hv _ hmm).2;rw[e] at this;exact this
theorem p9 (E:Fn K mg "round_from" fK ["end","lefts","rights"]):eO P w K mg base 1 "round_from" fK ["end","lefts","rights"] vW:=E.mk' λf fd F=>by
 refine F.okS fT (λvs H Q E h=>?_) (λcdv A outer s H vs Q E hr h=>?_)
 ·obtain⟨e,d1,d2,k1,k2,n,L,R,rfl,_⟩:=h;rfl
 ·obtain⟨e,d1,d2,k1,k2,n,L,R,rfl,hd1,hd2,hL,hR,PL,PR,n40,he,q⟩:=h;refine⟨[some (.int e),some (.ref d1),some (.ref d2),none,none,none],_,rfl,(L2.iL.h (aG (aV (i:=3) fT.nd rfl (Or.inl rfl) (cB aA))
   (aG (aV (i:=4) fT.nd rfl (Or.inl rfl) (a9 0))
   (aG (mx al (QW.pt (gE (dQ (wY (a9 3) (λ_=>rfl))) (fY (bC mS (a9 4) (a9 0) (bS _)))))
   (aG (aV (i:=5) fT.nd rfl (Or.inl rfl) (cq (gx hr) (a9 1) (a9 4) (λ_ _=>rfl)))
    (aG (eI (h7 bA bO bN eT (a9 3) (aB (a9 4) aA)))
    (aG (eI (h7 bA bO bN eT (a9 3) (aB (a9 5) aA)))
    (aI (aV (i:=4) fT.nd rfl (Or.inl rfl) (cq (gx hr) (a9 2) (a9 5) (λ_ _=>rfl))))))))
   (aI (am (a9 3))))))),?_⟩
  nofun;refine⟨bH _,λl nl=>?_⟩;have nl1:l≠d1:=(av hd1 nl).symm;have nl2:l≠d2:=(av hd2 nl).symm;refine⟨λm σ H2=>∃(i:Nat) (x5:Option V),σ=[some (.int e),some (.ref d1),some (.ref d2),some (.ref l),some (.int (cM L R e i:Nat)),x5]/\aX H H2/\H2 l=some (.lst (eY (kR L R e i)))/\Inj L R e i/\m=n-i,⟨_,0,_,rfl,(aX.refl H).new nl,aC,λj k hj=>by lia,rfl⟩,?_⟩;rintro m σ H2 ⟨i,x5,rfl,sm,hl,J,rfl⟩;nofun;have hle:=J.le PL PR he;have lt:=kq (R:=R) PL PR he i;have hrl:(kR L R e i).length=2*i:=qr i;refine⟨!(eY (kR L R e i)).isEmpty,.inl ⟨_,bp.of hl,rfl⟩,eZ (λh0=>?_) (λh0=>eZ (λhne=>?_) (λhne=>?_))⟩
  rotate_left 2
  ·have hi:0<i:=by
    cases i with
    | zero=>exact absurd rfl h0
    | succ i=>lia
   have hc:cM L R e i=e:=by lia
   exact q l _ H2 nl sm hl (uT PL PR he J n40 hi hc)
  case' refine_1=>have hc:i=0\/cM L R e i≠e:=.inl (by
   cases i with
   | zero=>rfl
   | succ i=>rw[kR] at h0;simp[eY] at h0)
  case' refine_2=>have hc:i=0\/cM L R e i≠e:=.inr (by lia)
  all_goals
   have J2:=J.next PL PR he hc;have hle2:=J2.le PL PR he;have g1:=fW.k (k:=.inl ((cM L R e i:Nat):Int)) (sm _ _ hd1);rw[hL _ lt] at g1;have g2:∀o,fW (bU (bU H2 l (.lst (eY (kR L R e i)++[V.int (cM L R e i:Nat)]))) l o) d2 (.int (L (cM L R e i):Nat)) (some (.int (R (L (cM L R e i)):Nat))):=λo=>by
    have:=fW.k (k:=.inl ((L (cM L R e i):Nat):Int)) (show (bU (bU H2 l (.lst (eY (kR L R e i)++[V.int (cM L R e i:Nat)]))) l o) d2=some (.dK k2) by rw[aK nl2.symm,aK nl2.symm];exact sm _ _ hd2);rw[hR _ (PL.lt _ lt)] at this;exact this
   refine⟨_,λ_ _ z=>z,_,g1,j3 hl,_,hl,ai (by simp[eY];lia),j3 aC,_,aC,ai (by simp[eY];lia),_,g2 _,n-(i+1),by lia,i+1,_,rfl,(sm.new nl).new nl,?_,J2,rfl⟩;rw[aC,kR];simp[eY]
theorem w6 {t6:Addr} (B:nS mg) (E:Fn K mg "rounds" j6 ["left","right"]) (Hi:lV P w K mg base 2 "vet_words" fk ["left","right"] (yU t6)) (HY:eO P w K mg base 3 "partners" gW ["word"] gV) (HZ:eO P w K mg base 1 "round_from" fK ["end","lefts","rights"] vW):lV P w K mg base 4 "rounds" j6 ["left","right"] (qA t6):=E.mkX λf fd F=>by
 refine F.okX fi (λvs H Q E h=>?_) (λcdv A outer s H vs Q E hr h=>?_)
 ·obtain⟨x,y,d,e,rfl,_⟩:=h;rfl
 ·obtain⟨x,y,d,e,rfl,hd,td,he,te,h⟩:=h;refine⟨[some x,some y,none,none,none,none,none,none,none],_,rfl,(L2.iL.h (aG (eI (om Hi (hr.mono (by decide)) (by rfl) (aB (a9 0) (aB (a9 1) aA))))
   (aG (fZ (aV (i:=2) fi.nd rfl (Or.inl rfl) (aW HY (hr.mono (by decide)) (by rfl) (aB (a9 0) aA))))
   (aG (fZ (aV (i:=3) fi.nd rfl (Or.inl rfl) (aW HY (hr.mono (by decide)) (by rfl) (aB (a9 1) aA))))
   (aG (fZ (aV (i:=4) fi.nd rfl (Or.inl rfl) (cB aA)))
   (aG (fZ (aV (i:=5) fi.nd rfl (Or.inl rfl) jc))
   (aG (fZ (cZ al rfl (ce (by rfl) B.range (ba (aR dA (by rfl) B.len aj (aB (a9 0) aA)) aA)) (bG (i:=6) fi.nd rfl (Or.inl rfl))
   (aI (be (og (gx hr) (a9 6) (a9 5))
    (aG (aV (i:=7) fi.nd rfl (Or.inl rfl) (aW HZ (hr.mono (by decide)) (by rfl) (aB (a9 6) (aB (a9 2) (aB (a9 3) aA)))))
     (aG (eI (h7 bA bO bN eT (a9 4) (aB (a9 7) aA)))
     (aI (cZ al rfl (dr (a9 7)) (bG (i:=8) fi.nd rfl (Or.inl rfl))
     (aI (gu (gx hr) (a9 5) (a9 8) dH rfl))))))
    bQ))))
   (aI (fZ (am (a9 4))))))))))),?_⟩
  nofun;refine⟨x,y,d,e,rfl,hd,td,he,te,?_⟩;rcases h with ⟨bs,cs,rfl,rfl,T,q⟩ | h
  rotate_left
  ·exact .inr h
  refine .inl ⟨CB T.bal T.balR T.len T.eq,?_⟩;cases hd;cases he;have hz:(wd bs).length<=sizeLine:=by rw[bK];exact aS (ai (by have:=T.len;lia))
  have hlen:=T.len;nofun;refine⟨bs,rfl,T.bal,T.len,λd1 k1 H1 n1 s1 h1 dc1=>?_⟩;refine⟨cs,rfl,T.balR,by rw[T.eq];exact T.len,λd2 k2 H2 n2 s2 h2 dc2=>?_⟩;nofun;refine⟨bH _,λl nl m nm=>?_⟩;have nlm:l≠m:=λz=>by subst z;rw[aC] at nm;cases nm
  have PL:=dj T.bal;have PR:=dj T.balR;rw[T.eq] at dc2 PR;have sHb:aX H H2:=s1.trans s2;have nlb:H2 l=none:=nl;have nmb:H2 m=none:=by rw[aK nlm.symm] at nm;exact nm
  have sz:∀k:Nat,k<=4000->k<sizeLine:=λk hk=>eF hk (by decide);have en:((wd bs).length:Int).toNat=bs.length:=by rw[bK];lia
  have hd1:=s2 _ _ h1;refine⟨hz,by lia,by rw[bK];lia,?_⟩;rw[en];refine eU (n:=bs.length) (λi σ H'=>∃(ws:List V) (kvs:xS) (x6 x7 x8:Option V),σ=[some (.str (wd bs)),some (.str (wd cs)),some (.ref d1),some (.ref d2),some (.ref l),some (.ref m),x6,x7,x8]/\aX H2 H'/\H' l=some (.lst ws)/\H' m=some (.dK kvs)/\m7 H' (λa=>H2 a=none/\a≠l/\a≠m) ws (rsF (mtF bs) (mtF cs) i)/\kvs.length<=80*i/\ux bs.length (mtF bs) (mtF cs) i (rsF (mtF bs) (mtF cs) i) (λx=>(cW kvs (.inl (x:Int))).isSome=true)/\∀r∈rsF (mtF bs) (mtF cs) i,r.length<=80)
   ⟨[],[],_,_,_,rfl,((aX.refl H2).new nlb).new nmb,by rw[aK nlm,aC],aC,.nil,bH _,?_,λr hr=>by cases hr⟩ ?_ ?_
  ·have:=ux.start (n:=bs.length) (L:=mtF bs) (R:=mtF cs);refine⟨this.rn,λx=>Iff.intro (λh=>nomatch h) (λh=>?_),λx h=>by lia,this.len⟩;obtain⟨r,hr,_⟩:=h;cases hr
  ·rintro i σ H' hi ⟨ws,kvs,x6,x7,x8,rfl,sm,hl,hm,rf,hk,RI,h80⟩;have hrl:=RI.len;have hwl:=rf.len;nofun;rw[dC];refine⟨_,fW.k (k:=.inl (i:Int)) hm,?_⟩;nofun;by_cases hmi:(cW kvs (.inl (i:Int))).isSome=true
   ·rw[hmi];have sk:=mM ((RI.mt i).mp hmi);rw[sk];exact nY (λz=>nomatch z) ⟨ws,kvs,_,_,_,rfl,sm,hl,hm,rf,by lia,RI.skip hmi,h80⟩
   ·have hmf:(cW kvs (.inl (i:Int))).isSome=false:=by cases e:(cW kvs (.inl (i:Int))).isSome<;>first | rfl | exact absurd e hmi
    rw[hmf];refine tO rfl ⟨i,d1,d2,k1,k2,bs.length,mtF bs,mtF cs,rfl,sm _ _ hd1,sm _ _ h2,dc1,dc2,PL,PR,hlen,hi,λr rl H3 nr s3 hr3 X=>?_⟩;nofun;have nrl:r≠l:=av hl nr |>.symm
    have nrm:r≠m:=av hm nr |>.symm
    have RI2:=RI.add PL PR hmi X;have ad:=mO (L:=mtF bs) (R:=mtF cs) (i:=i) (λz=>hmi ((RI.mt i).mpr z));have eX:=X.is;rw[ad];have rf3:m7 (bU H3 l (.lst (ws++[.ref r]))) (λa=>H2 a=none/\a≠l/\a≠m) (ws++[.ref r]) (rsF (mtF bs) (mtF cs) i++[rl]):=fD (rf.imp λa o ⟨p1,p2,p3⟩ ha=>⟨by rw[aK p2];exact s3 _ _ ha,p1,p2,p3⟩) ⟨r,rfl,by rw[aK nrl];exact hr3,sm.free nr,nrl,nrm⟩;refine⟨j3 (s3 _ _ hl),_,s3 _ _ hl,sz _ (by lia),⟨_,bp.of (show bU H3 l (.lst (ws++[.ref r])) r=some (.lst (eY rl)) by rw[aK nrl];exact hr3)⟩,?_⟩;have hXl:=X.len;refine gz (xs:=eY rl) (λj σ H4=>∃(kv4:xS) (x8:Option V),σ=[some (.str (wd bs)),some (.str (wd cs)),some (.ref d1),some (.ref d2),some (.ref l),some (.ref m),some (.int i),some (.ref r),x8]/\aX H2 H4/\H4 l=some (.lst (ws++[.ref r]))/\H4 r=some (.lst (eY rl))/\m7 H4 (λa=>H2 a=none/\a≠l/\a≠m) (ws++[.ref r]) (rsF (mtF bs) (mtF cs) i++[rl])/\H4 m=some (.dK kv4)/\kv4.length<=kvs.length+j/\∀x:Nat,((cW kv4 (.inl (x:Int))).isSome=true<->((cW kvs (.inl (x:Int))).isSome=true\/x∈rl.take j)))
     ⟨kvs,_,rfl,(sm.trans s3).new nlb,aC,by rw[aK nrl];exact hr3,rf3,by rw[aK nlm.symm];exact s3 _ _ hm,by lia,λx=>by simp⟩ (λj σ H4 _ ⟨_,_,_,_,_,h,_⟩=>bp.of h) ?_ ?_
    ·rintro j x σ H4 hx ⟨kv4,x8,rfl,s4,hl4,hr4,rf4,hm4,hk4,hv4⟩;unfold eY at hx;obtain⟨y,hy,rfl⟩:=vv hx;have hj:j<rl.length:=(aE.mp hy).1;have hS:=c9 kv4 (.inl (y:Int):Key) (.bl true);nofun;refine⟨_,nQ.k (k:=.inl (y:Int)) hm4 (sz _ (by lia)),_,_,rfl,s4.new nmb,by rw[aK nlm];exact hl4,by rw[aK nrm];exact hr4,rf4.imp (λa o ⟨p1,p2,p3⟩ ha=>⟨by rw[aK p3];exact ha,p1,p2,p3⟩),aC,by lia,λx=>?_⟩;rw[fS,bZ,hy,aT];by_cases c:x=y
     ·subst c;rw[MO rfl];simp
     ·rw[MN (λz=>c (by cases z;rfl)),hv4 x];simp[c]
    ·rintro σ H4 ⟨kv4,x8,rfl,s4,hl4,hr4,rf4,hm4,hk4,hv4⟩;have enl:(eY rl).length=rl.length:=by simp[eY]
     rw[enl] at hk4 hv4;rw[bv] at hv4;rw[<-eX];refine⟨_,kv4,_,_,_,rfl,s4,hl4,hm4,rf4,by lia,⟨RI2.rn,λx=>?_,λx hx=>?_,RI2.len⟩,λq hq=>?_⟩
     ·rw[hv4 x];exact RI2.mt x
     ·rw[hv4 x];exact RI2.upto x hx
     ·rcases aT.mp hq with z | z
      ·exact h80 q z
      ·rw[ar] at z;subst z;exact hXl
  ·rintro σ H' ⟨ws,kvs,x6,x7,x8,rfl,sm,hl,hm,rf,hk,RI,h80⟩;nofun;exact q l ws H' (sHb.free nlb) (sHb.trans sm) hl (rf.imp λa o ⟨p1,p2,p3⟩ ha=>⟨ha,sHb.free p1,p2⟩) (bd RI.len hlen) h80
theorem kS (B:nS mg) (E:Fn K mg "middle_put_outside" cI ["bows","middle"]):eO P w K mg base 1 "middle_put_outside" cI ["bows","middle"] BP:=E.mk' λf fd F=>by
 refine F.okS kP (λvs H Q E h=>?_) (λcdv A outer s H vs Q E hr h=>?_)
 ·obtain⟨l,ps,n,rfl,_⟩:=h;rfl
 ·obtain⟨l,ps,n,rfl,hb,hl,q⟩:=h;have two:(2:Nat)<=sizeLine:=by decide
  refine⟨[some (.ref l),some (.int n)],_,rfl,(L2.iL.h (aI (am (gw (own:=["bow"]) (ns:=["middle"]) (caps:=[1]) rfl ⟨rfl,by decide +kernel,by decide +kernel,by decide +kernel⟩ (.cons rfl rfl (.inl rfl) .nil) (dr (a9 0)) (λC s H fp pn=>(bG (i:=0) (show List.Nodup ((["bow"]:List Str)++(["middle"]:List Str)) by decide +kernel) rfl (Or.inl rfl))) (λC s H fp pn=>jH) (λC s H fp pn=>(lM (bC ig (bW (mV (K:=K) rfl) (a9 0) aJ (λ_ _=>rfl)) (a9 1) (bS _)) (dS (au aJ (ah (bW (mV (K:=K) rfl) (a9 0) aJ (λ_ _=>rfl)) aA))) (a9 0))))))),?_⟩;obtain⟨as,b1,bl,bg⟩:=hb.get;nofun;refine⟨⟨_,bp.of b1⟩,xF (xs:=as.map V.ref) (λi ys σ H3=>aX H H3/\(∃ts,ys=ts.map V.ref/\Paired (d6 H3) ts ((ps.take i).map (nq n)))/\ys.length=i/\∃xa:Option V,σ=[xa,some (.int n)]) ⟨aX.refl _,⟨[],rfl,.nil⟩,rfl,_,rfl⟩ ?_ (by rw[aF];exact aS (ai (by lia))) ?_ ?_⟩
  ·rintro i ys σ H3 ⟨sm3,_,e,_⟩;exact⟨bp.of (sm3 _ _ b1),by lia⟩
  ·rintro i x ys σ H3 N hx ⟨sm3,⟨ts,rfl,pr3⟩,el,xa,rfl⟩ hN;obtain⟨t,y,rfl,hy,ht⟩:=bg i x hx;have ht':=ht.same sm3;nofun;have tk:ps.take (i+1)=ps.take i++[y]:=by rw[bZ,hy];rfl
   refine⟨_,_,cg.of ht',rfl,?_⟩;nofun;refine eZ (λe=>?_) (λe=>?_)
   ·refine⟨_,_,cg.of ht',rfl,two,λt2 nt2=>hN _ _ _ ⟨sm3.new (sm3.free nt2),⟨ts++[t2],by simp,?_⟩,by simp at el ⊢;lia,_,rfl⟩⟩;rw[tk,cG];refine fD (Paired.mapP pr3 λa p z=>d6.same ((aX.refl _).new nt2) z) ?_;show d6 _ _ (nq n y);unfold nq;rw[MO (by simpa using e)];exact aC
   ·refine hN _ _ _ ⟨sm3,⟨ts++[t],by simp,?_⟩,by simp at el ⊢;lia,_,rfl⟩;rw[tk,cG];refine fD pr3 ?_;show d6 _ _ (nq n y);unfold nq;rw[MN (by simpa using e)];exact ht'
  ·rintro ys σ H3 pn ⟨sm3,⟨ts,rfl,pr3⟩,el,xa,rfl⟩ npn;rw[aF,bl,bv] at pr3;have sn:=(aX.refl H3).new (o:=.lst (ts.map V.ref)) npn;exact q pn _ (sm3.free npn) (sm3.trans sn) ⟨ts,aC,Paired.mapP pr3 λa p z=>d6.same sn z⟩
theorem wc (B:nS mg) (E:Fn K mg "closed" j9 ["maze"]) (LH:eO P w K mg base 5 "vet" qH ["maze"] yV) (Gw:eO P w K mg base 3 "bows_of" g0 ["maze"] oZ) (GI:eO P w K mg base 1 "middle_put_outside" cI ["bows","middle"] BP) (IB:eO P w K mg base 4 "word_of" iV ["bows"] rq):eO P w K mg base 6 "closed" j9 ["maze"] qD:=E.mk' λf fd F=>by
 refine F.okS mo (λvs H Q E h=>?_) (λcdv A outer s H vs Q E hr h=>?_)
 ·obtain⟨m,o,b,ns,k,rfl,_⟩:=h;rfl
 ·obtain⟨m,o,b,ns,k,rfl,hm,O,nc,hk,qo⟩:=h;have two:(2:Nat)<=sizeLine:=by decide
  refine⟨[some (.ref m),none,none],_,rfl,(L2.iL.h (aG (eI (aW LH (hr.mono (by decide)) (by rfl) (aB (a9 0) aA)))
   (aG (aV (i:=1) mo.nd rfl (Or.inr rfl) (aR bV (by rfl) B.len aj (ah (bW cw (a9 0) aJ (λ_ _=>rfl)) aA)))
   (aG (be (bC ig (bB iA (a9 1) aJ) aJ (bS _))
   (aI jb)
   bQ)
   (aG (ye (i:=2) mo.nd rfl (Or.inl rfl) (own:=["side_bows"]) (ns:=["rings"]) (caps:=[1]) rfl ⟨rfl,by decide +kernel,by decide +kernel,by decide +kernel⟩ (.cons rfl rfl (.inl rfl) .nil) (ve (aW Gw (hr.mono (by decide)) (by rfl) (aB (a9 0) aA))) (λC s H fp pn=>(bG (i:=0) (show List.Nodup ((["side_bows"]:List Str)++(["rings"]:List Str)) by decide +kernel) rfl (Or.inl rfl))) (λC s H fp pn=>jH) (λC s H fp pn=>(aW GI (hr.mono (by decide)) (by rfl) (aB (a9 0) (dE (bB fQ (a9 1) aJ) aA)))))
   (aI (am (dS (ba (aW IB (hr.mono (by decide)) (by rfl) (ah (bW d9 (a9 2) aJ (λ_ _=>rfl)) aA)) (ba (aW IB (hr.mono (by decide)) (by rfl) (ah (bW d9 (a9 2) aJ (λ_ _=>rfl)) aA)) aA)))))))))),?_⟩
  nofun;refine⟨m,o,b,ns,rfl,hm,O,nc,λH1 s1=>?_⟩;have hm1:=hm.same s1;nofun;refine⟨_,_,cg.of hm1.1,rfl,o,_,rfl,.inr (cg.of hm1.2),by decide,?_⟩;rw[aF];have nlen:=O.len;refine nY (by lia) ?_;refine⟨m,o,b,ns,rfl,hm1,O,λt l r L R H2 nt nl nr s2 BO=>⟨t,rfl,⟨_,cg.of BO.tup⟩,?_⟩⟩;have lL:=BO.isL.len O;have lR:=BO.isR.len O;refine zV (xs:=[V.ref l,.ref r]) (λi ys σ H3=>aX H2 H3/\(∃as,ys=as.map V.ref/\Paired (λa T=>cK H3 a (T.map (nq ((ns.length:Int)+1)))) as ([L,R].take i))/\ys.length=i/\∃xa:Option V,σ=[xa,some (.int ns.length)]) ⟨aX.refl _,⟨[],rfl,.nil⟩,rfl,_,rfl⟩ ?_ two ?_ ?_
  ·rintro i ys σ H3 ⟨sm3,_,e,_⟩;exact⟨cg.of (sm3 _ _ BO.tup),by lia⟩
  ·rintro i x ys σ H3 N hx ⟨sm3,⟨ts,rfl,pr3⟩,el,xa,rfl⟩ hN;obtain⟨a,T,rfl,hT,hB,tl⟩:∃a T,x=.ref a/\[L,R][i]? = some T/\cK H3 a T/\T.length<=21:=by
    match i,hx with
    | 0,hx=>cases hx;exact⟨_,_,rfl,rfl,BO.left.same sm3,lL⟩
    | 1,hx=>cases hx;exact⟨_,_,rfl,rfl,BO.right.same sm3,lR⟩
    | j+2,hx=>simp at hx
   nofun;refine⟨a,T,_,rfl,hB,by lia,λl' H4 nl' s4 hB'=>hN _ _ _ ⟨sm3.trans s4,⟨ts++[l'],by simp,?_⟩,by simp at el ⊢;lia,_,rfl⟩⟩;rw[bZ,hT];exact fD (Paired.mapP pr3 λa p z=>z.same s4) hB'
  ·rintro ys σ H3 pn ⟨sm3,⟨ts,rfl,pr3⟩,el,xa,rfl⟩ npn;have sn:=(aX.refl H3).new (o:=.lst (ts.map V.ref)) npn;obtain⟨a1,a2,rfl,h1,h2⟩:∃a1 a2,ts=[a1,a2]/\cK H3 a1 (L.map (nq ((ns.length:Int)+1)))/\cK H3 a2 (R.map (nq ((ns.length:Int)+1))):=by
    cases pr3 with
    | cons x1 t1=>cases t1 with
     | cons x2 t2=>cases t2;exact⟨_,_,rfl,x1,x2⟩
   have hp:bU H3 pn (.lst ([a1,a2].map V.ref)) pn=some (.lst [.ref a1,.ref a2]):=aC;generalize bU H3 pn (.lst ([a1,a2].map V.ref))=H4 at sn hp ⊢;have h1:=h1.same sn;have h2:=h2.same sn;have s14:=s1.trans (s2.trans (sm3.trans sn));have fl:∀(u:Bool) (T:List Bw),T.Perm (bF b ns u (ns.length+1))->mC (wF (T.map (nq ((ns.length:Int)+1))))=true/\∀p∈T.map (nq ((ns.length:Int)+1)),∀q∈T.map (nq ((ns.length:Int)+1)),bX p q=false:=λu T hT=>by
    have S:=wI.of hT;have F:=S.fill O hk;have l:=S.len hk;refine⟨?_,S.nc O nc⟩;rw[n9,decide_eq_true (by lia),gk,bL];exact⟨dF.mpr λp hp=>decide_eq_true (F.lt p hp),dZ.mpr F.perm⟩
   refine⟨pn,_,0,_,rfl,rfl,bp.of hp,rfl,_,_,rfl,h1,(fl false L BO.isL.perm).1,(fl false L BO.isL.perm).2,λH5 s5=>?_⟩;refine⟨pn,_,1,_,rfl,rfl,bp.of (s5 _ _ hp),rfl,_,_,rfl,h2.same s5,(fl true R BO.isR.perm).1,(fl true R BO.isR.perm).2,λH6 s6=>?_⟩;refine⟨two,λt6 n6=>?_⟩;rw[zW BO.isL.perm,zW BO.isR.perm];exact qo _ _ ((s14.trans (s5.trans s6)).trans ((aX.refl _).new n6)) aC
theorem w9 {t6 d7:Addr} (IC:OwnCls "NoRound" d7 [.type "ValueError",.type "Exception",.type "BaseException",.type "object"] "ValueError.__new__" mg base) (B:nS mg) (E:Fn K mg "opened" gn ["left","right"]) (Io:lV P w K mg base 4 "rounds" j6 ["left","right"] (qA t6)):lV P w K mg base 5 "opened" gn ["left","right"] (oF t6 d7):=E.mkX λf fd F=>by
 refine F.okX qF (λvs H Q E h=>?_) (λcdv A outer s H vs Q E hr h=>?_)
 ·obtain⟨x,y,d,e,rfl,_⟩:=h;rfl
 ·obtain⟨x,y,d,e,rfl,hd,td,he,te,h⟩:=h;have two:(2:Nat)<=sizeLine:=by decide
  refine⟨[some x,some y,none],_,rfl,(L2.iL.h (aG (aV (i:=2) qF.nd rfl (Or.inl rfl) (om Io (hr.mono (by decide)) (by rfl) (aB (a9 0) (aB (a9 1) aA))))
   (aG (be (mQ (bC mS (aR bV (by rfl) B.len aj (aB (a9 2) aA)) aJ (bS _)))
   (aI (ja ki IC cO rfl (by rfl) (au bT aA)))
   bQ)
   (aG (be (mQ (bC qM (aR dA (by rfl) B.len aj (aB (a9 0) aA)) (lN (by rfl) B.MOST_ENDS) (bS _)))
   (aI (ja ki IC cO rfl (by rfl) (au bT aA)))
   bQ)
   (aI (fZ (am (dS (au bT (ba (cf l6 (by rfl) B.tuple bn (ah (qJ v8 (bW d9 (a9 2) aJ (λ_ _=>rfl)) (oj aJ) yg) aA)) aA)))))))))),?_⟩
  nofun;refine⟨x,y,d,e,rfl,hd,td,he,te,?_⟩;rcases h with ⟨bs,cs,rfl,rfl,T,q1,q2,q3⟩ | h
  rotate_left
  ·exact .inr h
  refine .inl ⟨bs,cs,rfl,rfl,T,λl ws H1 nl s1 hl rf h40 h80=>?_⟩;nofun;refine⟨_,.inl (bp.of hl),?_⟩;have wl:=rf.len;have bl:=T.len;rw[wl];refine eZ (λe=>⟨(by show 1<=sizeLine;decide),q1 (by lia) _ s1⟩) (λe=>?_);have e1:(rsF (mtF bs) (mtF cs) bs.length).length=1:=by lia
  cases hd;refine⟨_,rfl,by rw[bK];exact aS (ai (by lia)),?_⟩;rw[bK];refine eZ (λe=>⟨(by show 1<=sizeLine;decide),q2 (by lia) _ s1⟩) (λe2=>?_);obtain⟨r,hr⟩:=jz.mp e1;rw[hr] at rf;have q3:=q3 r hr (by lia);obtain⟨a,rfl,ha⟩:∃a,ws=[.ref a]/\H1 a=some (.lst (eY r)):=by
   cases rf with
   | cons x t=>cases t;obtain⟨a,rfl,h,_⟩:=x;exact⟨a,rfl,h⟩
  refine⟨_,_,bp.of hl,rfl,?_⟩;refine⟨a,_,rfl,bp.of ha,λp np=>⟨p,_,rfl,.inl ⟨bp.of aC,λo no=>⟨two,λm nm=>?_⟩⟩⟩⟩;rw[tV];rw[tV] at no nm;have t1:=(aX.refl H1).new (o:=.lst ((eY r).drop 1)) np;have t2:=(aX.refl _).new (o:=.tup ((eY r).drop 1)) no;have t3:=(aX.refl _).new (o:=.tup [V.str (Str.ofString "l"),.ref o]) nm;refine q3 m o _ (s1.trans (t1.trans (t2.trans t3))) ⟨aC,t3 _ _ ?_⟩;rw[aC];congr 2;unfold eY yx;rw[<-List.map_drop,bx];rfl
theorem yr {GA Fs t6 Fp GZ d7 GC Fq GD G0:Addr} (B:nS mg) (Ip:mg "NoMaze"=some (.ref GA)) (IX:mg "Crossed"=some (.ref Fs)) (HU:mg "NoWord"=some (.ref t6)) (Hj:mg "NoDrawing"=some (.ref Fp)) (JS:mg "NoBow"=some (.ref GZ))
  (Gx:mg "NoRound"=some (.ref d7)) (Iq:mg "NoCode"=some (.ref GC)) (IG:mg "NoNumber"=some (.ref Fq)) (Ir:mg "NoName"=some (.ref GD)) (JT:mg "NoRow"=some (.ref G0))
  (E:Fn K mg "_law_alone" lJ ["_law_e"]):Ar P w K mg base 1 "_law_alone" lJ ["_law_e"] (sH K [GA,Fs,t6,Fp,GZ,d7,GC,Fq,GD,G0]):=E.mkH λf fd F a=>by
 refine F.okH mK (λvs H Q E h=>?_) (λcdv A outer s H vs Q E hr h=>?_)
 ·obtain⟨C,due,rfl,_⟩:=h;rfl
 ·obtain⟨C,due,rfl,hx,⟨D,hD⟩,J,hdue,q⟩:=h;refine⟨[some (.ref a),none],_,rfl,(L2.iL.h (aG (aV (i:=1) mK.nd rfl (Or.inl rfl) (cB (ba (aR (dI (K:=K) rfl) (by rfl) B.isinstance aN (aB (a9 0) (aB (eS (by rfl) Ip) aA))) (ba (aR (dI (K:=K) rfl) (by rfl) B.isinstance aN (aB (a9 0) (aB (eS (by rfl) IX) aA))) (ba (aR (dI (K:=K) rfl) (by rfl) B.isinstance aN (aB (a9 0) (aB (eS (by rfl) HU) aA))) (ba (aR (dI (K:=K) rfl) (by rfl) B.isinstance aN (aB (a9 0) (aB (eS (by rfl) Hj) aA))) aA))))))
   (aG (aV (i:=1) mK.nd rfl (Or.inl rfl) (bB kn (a9 1) (cB (ba (aR (dI (K:=K) rfl) (by rfl) B.isinstance aN (aB (a9 0) (aB (eS (by rfl) JS) aA))) (ba (aR (dI (K:=K) rfl) (by rfl) B.isinstance aN (aB (a9 0) (aB (eS (by rfl) Gx) aA))) (ba (aR (dI (K:=K) rfl) (by rfl) B.isinstance aN (aB (a9 0) (aB (eS (by rfl) Iq) aA))) (ba (aR (dI (K:=K) rfl) (by rfl) B.isinstance aN (aB (a9 0) (aB (eS (by rfl) IG) aA))) aA)))))))
   (aG (aV (i:=1) mK.nd rfl (Or.inl rfl) (bB kn (a9 1) (cB (ba (aR (dI (K:=K) rfl) (by rfl) B.isinstance aN (aB (a9 0) (aB (eS (by rfl) Ir) aA))) (ba (aR (dI (K:=K) rfl) (by rfl) B.isinstance aN (aB (a9 0) (aB (eS (by rfl) JT) aA))) (sQ (mR (aR (dI (K:=K) rfl) (by rfl) B.isinstance aN (aB (a9 0) (aB (fV (v:=.ty "ValueError") (by rfl) B.ValueError L2.nu rfl) aA)))) aA))))))
   (aI (am (jI (fU ig (aR (pj (K:=K) rfl) (by rfl) B.len aj (iS (wZ (hx:=a) (own:=["_law_kind"]) (ns:=[]) (caps:=[]) hr.hd ⟨rfl,by decide +kernel,by decide +kernel,by decide +kernel⟩ .nil (a9 1) (λC s H fp pn=>(bG (i:=0) (show List.Nodup ((["_law_kind"]:List Str)++([]:List Str)) by decide +kernel) rfl (Or.inl rfl))) (λC s H fp pn=>(vf (dP (a9 0)))) (λC s H fp pn=>(a9 0))) aA)) aJ (bS _)) (jq (mR (bW (zF (K:=K) rfl) (a9 1) aJ (λ_ _=>rfl))))))))))),?_⟩
  nofun;refine pd hx (J.kit 0 _ rfl) (pd hx (J.kit 1 _ rfl) (pd hx (J.kit 2 _ rfl) (pd hx (J.kit 3 _ rfl) ⟨(by show 4<=sizeLine;decide),λp1 n1=>?_⟩)));have s1:=(aX.refl H).new (o:=.lst [.bl (decide (0=due)),.bl (decide (1=due)),.bl (decide (2=due)),.bl (decide (3=due))]) n1;have hx1:=hx.same s1;refine pd hx1 (J.kit 4 _ rfl) (pd hx1 (J.kit 5 _ rfl) (pd hx1 (J.kit 6 _ rfl) (pd hx1 (J.kit 7 _ rfl) ⟨(by show 4<=sizeLine;decide),λp2 n2=>?_⟩)));have n12:p1≠p2:=λe=>by subst e;rw[aC] at n2;cases n2
  have s2:=s1.new (o:=.lst [.bl (decide (4=due)),.bl (decide (5=due)),.bl (decide (6=due)),.bl (decide (7=due))]) (s1.free n2);refine⟨p1,p2,_,_,rfl,rfl,by rw[aK n12,aC],aC,(by show 8<=sizeLine;decide),λp3 n3=>?_⟩;have s3:=s2.new (o:=.lst ([.bl (decide (0=due)),.bl (decide (1=due)),.bl (decide (2=due)),.bl (decide (3=due))]++[.bl (decide (4=due)),.bl (decide (5=due)),.bl (decide (6=due)),.bl (decide (7=due))])) (s2.free n3);have hx3:=hx.same s3;refine pd hx3 (J.kit 8 _ rfl) (pd hx3 (J.kit 9 _ rfl) (EM hx3 J.val ?_));nofun;refine⟨(by show 3<=sizeLine;decide),λp4 n4=>?_⟩;have n34:p3≠p4:=λe=>by subst e;rw[aC] at n4;cases n4
  have s4:=s3.new (o:=.lst [.bl (decide (8=due)),.bl (decide (9=due)),.bl !true]) (s3.free n4);refine⟨p3,p4,_,_,rfl,rfl,by rw[aK n34,aC],aC,(by show 11<=sizeLine;decide),λp5 n5=>?_⟩;have e11:[V.bl (decide (0=due)),.bl (decide (1=due)),.bl (decide (2=due)),.bl (decide (3=due))]++[.bl (decide (4=due)),.bl (decide (5=due)),.bl (decide (6=due)),.bl (decide (7=due))]++[.bl (decide (8=due)),.bl (decide (9=due)),.bl !true]=((List.range 10).map (λj=>decide (j=due))++[false]).map V.bl:=rfl;rw[e11];have s5:=s4.new (o:=.lst (((List.range 10).map (λj=>decide (j=due))++[false]).map V.bl)) (s4.free n5);have h5:=s5 _ _ hD;have g5:bU (bU (bU (bU (bU H p1 (.lst [.bl (decide (0=due)),.bl (decide (1=due)),.bl (decide (2=due)),.bl (decide (3=due))])) p2 (.lst [.bl (decide (4=due)),.bl (decide (5=due)),.bl (decide (6=due)),.bl (decide (7=due))])) p3 (.lst ([.bl (decide (0=due)),.bl (decide (1=due)),.bl (decide (2=due)),.bl (decide (3=due))]++[.bl (decide (4=due)),.bl (decide (5=due)),.bl (decide (6=due)),.bl (decide (7=due))]))) p4 (.lst [.bl (decide (8=due)),.bl (decide (9=due)),.bl !true])) p5 (.lst (((List.range 10).map (λj=>decide (j=due))++[false]).map V.bl)) p5=_:=aC;generalize bU (bU (bU (bU (bU H p1 (.lst [.bl (decide (0=due)),.bl (decide (1=due)),.bl (decide (2=due)),.bl (decide (3=due))])) p2 (.lst [.bl (decide (4=due)),.bl (decide (5=due)),.bl (decide (6=due)),.bl (decide (7=due))])) p3 (.lst ([.bl (decide (0=due)),.bl (decide (1=due)),.bl (decide (2=due)),.bl (decide (3=due))]++[.bl (decide (4=due)),.bl (decide (5=due)),.bl (decide (6=due)),.bl (decide (7=due))]))) p4 (.lst [.bl (decide (8=due)),.bl (decide (9=due)),.bl !true])) p5 (.lst (((List.range 10).map (λj=>decide (j=due))++[false]).map V.bl))=H5 at s5 h5 g5 ⊢;refine⟨p5,rfl,⟨_,bp.of g5⟩,uq (bp.of g5) h5 (by simp) λp6 n6=>?_⟩;have s6:=(aX.refl H5).new (o:=.lst ((((List.range 10).map (λj=>decide (j=due))++[false]).filter (·=true)).map V.bl)) n6;refine⟨p6,_,rfl,.inl (bp.of aC),tO ?_ ⟨p5,_,10,.bl false,rfl,rfl,bp.of (s6 _ _ g5),?_,_,rfl,q _ (s5.trans s6)⟩⟩
  ·have hd:due=0\/due=1\/due=2\/due=3\/due=4\/due=5\/due=6\/due=7\/due=8\/due=9:=by lia
   rcases hd with rfl | rfl | rfl | rfl | rfl | rfl | rfl | rfl | rfl | rfl<;>rfl
  ·exact gJ (j:=10) (by simp)
theorem u7 (B:nS mg) (E:Fn K mg "_law_cell_at" i3 ["_law_script","_law_k"]):eO P w K mg base 1 "_law_cell_at" i3 ["_law_script","_law_k"] (v5 K):=E.mk' λf fd F=>by
 refine F.okS uQ (λvs H Q E h=>?_) (λcdv A outer s H vs Q E hr h=>?_)
 ·obtain⟨a,ns,k,rfl,_⟩:=h;rfl
 ·obtain⟨a,ns,k,rfl,hS,q⟩:=h;refine⟨[some (.ref a),some (.int k)],_,rfl,(L2.iL.h (aG (be (bC km (a9 1) (aR bV (by rfl) B.len aj (aB (a9 0) aA)) (bS _))
   (aI (am (bW d9 (a9 0) (a9 1) (λ_ _=>rfl))))
   bQ)
   (aI (am (bB fQ (bB jr aJ (a9 1)) aJ))))),?_⟩
  nofun;refine⟨_,.inl hS,?_⟩;rw[aF];refine eZ (λh=>?_) (λh=>?_)
  ·have hk:k<ns.length:=by lia
   refine⟨_,.int (ns.getD k 0),hS,gJ ?_,q _⟩;simp[bD,hk]
  ·exact⟨.inl ⟨by decide,by decide⟩,q _⟩
theorem wb (B:nS mg) (E:Fn K mg "_law_digits" j8 ["_law_cell","_law_many"]):eO P w K mg base 1 "_law_digits" j8 ["_law_cell","_law_many"] y1:=E.mk' λf fd F=>by
 refine F.okS fj (λvs H Q E h=>?_) (λcdv A outer s H vs Q E hr h=>?_)
 ·obtain⟨c,n,rfl,_⟩:=h;rfl
 ·obtain⟨c,n,rfl,n60,q⟩:=h;refine⟨[some (.int c),some (.int n),none,none,none],_,rfl,(L2.iL.h (aG (aV (i:=2) fj.nd rfl (Or.inl rfl) (bB oJ (a9 0) aJ))
   (c8 (be (QW.pt (gE (bC ig (bB iA (a9 0) aJ) aJ (bS _)) (fY (bC km (a9 0) (bB C8 aJ aJ) (bS _)))))
   (aG (aV (i:=2) fj.nd rfl (Or.inl rfl) aJ)
    (aI (cZ al rfl (ce (by rfl) B.range (au aJ aA)) (bG (i:=3) fj.nd rfl (Or.inl rfl))
    (aI (aV (i:=2) fj.nd rfl (Or.inl rfl) (bB fQ (bB jr (a9 2) aJ) (bB iA (bB jr (bB iA (bB jr (bB fQ (a9 0) (bB jr (a9 3) (a9 3))) aJ) aJ) aJ) aJ)))))))
   bQ)
   (aG (aV (i:=4) fj.nd rfl (Or.inl rfl) (cB aA))
   (aG (cZ al rfl (ce (by rfl) B.range (aB (a9 1) aA)) (bG (i:=3) fj.nd rfl (Or.inl rfl))
   (aG (eI (h7 bA bO bN eT (a9 4) (dE (bB iA (a9 2) aJ) aA)))
    (aI (aV (i:=2) fj.nd rfl (Or.inl rfl) (bB oJ (a9 2) aJ)))))
   (aI (am (a9 4)))))))),?_⟩
  nofun;refine⟨⟨by decide,by decide⟩,?_⟩;refine cJ (λσ H'=>∃(rest:Int) (x3:Option V),σ=[some (.int c),some (.int n),some (.int rest),x3,none]/\H'=H) ?_ ?_
  ·nofun;refine⟨by decide,eZ (λ_=>⟨by decide,by decide,?_⟩) λ_=>⟨⟨by decide,by decide,by decide⟩,eZ (λ_=>⟨by decide,by decide,?_⟩) λ_=>⟨_,_,rfl,trivial⟩⟩⟩
   all_goals
    refine eU (n:=Int.toNat 9) (λi σ H2=>∃(rest:Int) (x3:Option V),σ=[some (.int c),some (.int n),some (.int rest),x3,none]/\H2=H) ⟨_,_,rfl,rfl⟩ ?_ ?_
    ·rintro i σ H2 hi ⟨rest,x3,rfl,rfl⟩;have hi':i<9:=hi;nofun;refine⟨.inr ⟨by decide,by decide⟩,.inl ⟨by lia,by lia⟩,.inr ⟨by decide,by decide⟩,by decide,.inr ⟨by decide,by decide⟩,by decide,?_⟩;exact⟨_,_,rfl,by first | rfl | trivial⟩
    ·rintro σ H2 h;exact h
  ·rintro σ H' ⟨rest,x3,rfl,rfl⟩;nofun;refine⟨bH _,λl nl=>⟨by lia,by lia,?_⟩⟩;refine eU (n:=n) (λi σ H2=>∃(rest:Int) (ds:List Int) (x3:Option V),σ=[some (.int c),some (.int n),some (.int rest),x3,some (.ref l)]/\aX H' H2/\H2 l=some (.lst (ds.map V.int))/\ds.length=i)
    ⟨_,[],_,rfl,(aX.refl H').new nl,aC,rfl⟩ ?_ ?_
   ·rintro i σ H2 hi ⟨rest,ds,x3,rfl,sm,hl,hlen⟩;nofun;exact⟨j3 hl,by decide,_,hl,by rw[aF];exact ai (by lia),⟨by decide,by decide⟩,_,ds++[_],_,rfl,sm.new nl,by rw[aC,cG];rfl,by simp[hlen]⟩
   ·rintro σ H2 ⟨rest,ds,x3,rfl,sm,hl,hlen⟩;nofun;exact q l ds H2 nl sm hl hlen
theorem AL (B:nS mg) (E:Fn K mg "_law_word" mq ["_law_cell","_law_ends"]) (Iu:eO P w K mg base 1 "_law_digits" j8 ["_law_cell","_law_many"] y1):eO P w K mg base 2 "_law_word" mq ["_law_cell","_law_ends"] vV:=E.mk' λf fd F=>by
 refine F.okS iR (λvs H Q E h=>?_) (λcdv A outer s H vs Q E hr h=>?_)
 ·obtain⟨c,m,rfl,_⟩:=h;rfl
 ·obtain⟨c,m,rfl,m20,q⟩:=h;refine⟨[some (.int c),some (.int ((2*m:Nat):Int)),none,none,none,none],_,rfl,(L2.iL.h (aG (aV (i:=2) iR.nd rfl (Or.inl rfl) (aW Iu (hr.mono (by decide)) (by rfl) (aB (a9 0) (aB (a9 1) aA))))
   (aG (aV (i:=3) iR.nd rfl (Or.inl rfl) bT)
   (aG (aV (i:=4) iR.nd rfl (Or.inl rfl) aJ)
   (aG (cZ al rfl (ce (by rfl) B.range (aB (a9 1) aA)) (bG (i:=5) iR.nd rfl (Or.inl rfl))
   (aI (be (QW.pt (gE (bC ig (a9 4) aJ (bS _)) (fY (QW.pt (vc (bC km (a9 4) (bB mz (a9 1) (a9 5)) (bS _)) (sO (bC ig (bB iA (bW d9 (a9 2) (a9 5) (λ_ _=>rfl)) aJ) aJ (bS _))))))))
    (aG (aV (i:=3) iR.nd rfl (Or.inl rfl) (bB ii (a9 3) bT))
     (aI (aV (i:=4) iR.nd rfl (Or.inl rfl) (bB fQ (a9 4) aJ))))
    (aG (aV (i:=3) iR.nd rfl (Or.inl rfl) (bB ii (a9 3) bT))
     (aI (aV (i:=4) iR.nd rfl (Or.inl rfl) (bB mz (a9 4) aJ)))))))
   (aI (am (a9 3)))))))),?_⟩
  nofun;refine⟨c,2*m,rfl,by lia,λdl ds H1 nd s1 hdl hdn=>?_⟩;nofun;refine⟨by lia,by lia,?_⟩;refine eU (n:=2*m) (λi σ H2=>∃(deep:Int) (bs:List Bool) (x5:Option V),σ=[some (.int c),some (.int ((2*m:Nat):Int)),some (.ref dl),some (.str (wd bs)),some (.int deep),x5]/\H2=H1/\kE bs deep ((2*m:Nat)-i:Int)/\bs.length=i)
   ⟨0,[],none,by rw[Be],rfl,by have:=kE.start m (by lia);simpa using this,rfl⟩ ?_ ?_
  ·rintro i σ H2 hi ⟨deep,bs,x5,rfl,rfl,g,hl⟩;have hz:∀x:Str,x.length=1->(wd bs).length+x.length<=sizeLine:=λx hx=>by rw[bK,hx];exact aS (ai (by lia))
   have er:((2*m:Nat):Int)-((i+1:Nat):Int)=((2*m:Nat):Int)-i - 1:=by lia
   have ro:(0:Int)<((2*m:Nat):Int)-i:=by lia
   have op:(deep=0\/deep<((2*m:Nat):Int)-i)->kE (bs++[true]) (deep+1) (((2*m:Nat):Int)-((i+1:Nat):Int)):=λhd=>by rw[er];exact g.opens ro hd
   have cl:deep≠0->kE (bs++[false]) (deep - 1) (((2*m:Nat):Int)-((i+1:Nat):Int)):=λhd=>by rw[er];exact g.closes hd
   have ln:∀b:Bool,(bs++[b]).length=i+1:=λb=>by rw[ao,hl];rfl
   have hx:ds[i]? = some ds[i]:=aL (by lia);generalize ds[i]=dg at hx;nofun;have e0:(0:Int)+i=i:=dC _;rw[e0];refine eZ (λh=>⟨hz _ tF,_,bs++[true],_,by rw[vA],trivial,op (.inl h),ln _⟩) (λh=>eZ (λh2=>⟨_,.int dg,bp.of hdl,gJ (by rw[bD,hx];rfl),?_⟩) (λ_=>⟨hz _ qO,_,bs++[false],_,by rw[rW],trivial,cl h,ln _⟩));nofun;exact⟨by decide,eZ (λ_=>⟨hz _ tF,_,bs++[true],_,by rw[vA],trivial,op (.inr h2),ln _⟩) (λ_=>⟨hz _ qO,_,bs++[false],_,by rw[rW],trivial,cl h,ln _⟩)⟩
  ·rintro σ H2 ⟨deep,bs,x5,rfl,rfl,g,hl⟩;nofun;exact q bs H2 (g.bal (by lia)) hl s1
theorem AN (B:nS mg) (E:Fn K mg "_law_bows" mw ["_law_maze"]):eO P w K mg base 1 "_law_bows" mw ["_law_maze"] v7:=E.mk' λf fd F=>by
 refine F.okS jn (λvs H Q E h=>?_) (λcdv A outer s H vs Q E hr h=>?_)
 ·obtain⟨m,o,b,ns,rfl,_⟩:=h;rfl
 ·obtain⟨m,o,b,ns,rfl,hm,hl,q⟩:=h;refine⟨[some (.ref m),none,none,none,none,none],_,rfl,(L2.iL.h (aG (aV (i:=1) jn.nd rfl (Or.inl rfl) (aR bV (by rfl) B.len aj (ah (bW cw (a9 0) aJ (λ_ _=>rfl)) aA)))
   (c8 (aV (i:=2) jn.nd rfl (Or.inl rfl) (bB kn (bB kn (cB (au aJ aA)) (cf m5 (by rfl) B.list bu (ah (bW cw (a9 0) aJ (λ_ _=>rfl)) aA))) (cB (dE (bB fQ (a9 1) aJ) aA))))
   (aG (aV (i:=3) jn.nd rfl (Or.inl rfl) (cB (oq (cB aA) (oq (cB aA) aA))))
   (c8 (aV (i:=4) jn.nd rfl (Or.inl rfl) (cf xK (by rfl) B.int k6 (sR (fU ig (bW cw (a9 0) aJ (λ_ _=>rfl)) bT (bS _)) aA)))
   (aG (cZ al rfl (ce (by rfl) B.range (dE (bB fQ (a9 1) aJ) aA)) (bG (i:=5) jn.nd rfl (Or.inl rfl))
   (aG (eI (h7 bA bO bN eT (bW d9 (a9 3) (a9 4) (λ_ _=>rfl)) (g6 (dS (ba (aR (qZ rfl) (by rfl) B.min kZ (ah (bW d9 (a9 2) (a9 5) (λ_ _=>rfl)) (ah (bW d9 (a9 2) (bB fQ (a9 5) aJ) (λ_ _=>rfl)) aA))) (ba (aR (q9 rfl) (by rfl) B.max k4 (ah (bW d9 (a9 2) (a9 5) (λ_ _=>rfl)) (ah (bW d9 (a9 2) (bB fQ (a9 5) aJ) (λ_ _=>rfl)) aA))) aA))) aA)))
    (aI (aV (i:=4) jn.nd rfl (Or.inl rfl) (bB mz aJ (a9 4))))))
   (aI (am (a9 3))))))))),?_⟩
  nofun;refine⟨_,_,cg.of hm.1,rfl,_,_,rfl,.inr (cg.of hm.2),?_⟩;rw[aF];refine cJ (λσ H'=>∃rl,σ=[some (.ref m),some (.int ns.length),some (.ref rl),none,none,none]/\aX H H'/\H rl=none/\H' rl=some (.lst ((dG ns).map V.int))) ?_ ?_
  ·nofun;refine⟨(by show 1<=sizeLine;decide),λp1 n1=>?_⟩;have s1:=(aX.refl H).new (o:=.lst [.int 0]) n1;refine⟨_,_,cg.of (s1 _ _ hm.1),rfl,o,_,rfl,.inr (cg.of (s1 _ _ hm.2)),λp2 n2=>?_⟩;have s2:=s1.new (o:=.lst (ns.map V.int)) (s1.free n2);have e12:p1≠p2:=λe=>by subst e;rw[aC] at n2;cases n2
   refine⟨p1,p2,_,_,rfl,rfl,by rw[aK e12,aC],aC,aS (ai (by simp;lia)),λp3 n3=>?_⟩;have s3:=s2.new (o:=.lst ([.int 0]++ns.map V.int)) (s2.free n3);refine⟨(by show 1<=sizeLine;decide),λp4 n4=>?_⟩;have s4:=s3.new (o:=.lst [.int ((ns.length:Int)+1)]) (s3.free n4);have e34:p3≠p4:=λe=>by subst e;rw[aC] at n4;cases n4
   refine⟨p3,p4,_,_,rfl,rfl,by rw[aK e34,aC],aC,aS (ai (by simp;lia)),λp5 n5=>?_⟩;have s5:=s4.new (o:=.lst ([.int 0]++ns.map V.int++[.int ((ns.length:Int)+1)])) (s4.free n5);exact⟨p5,rfl,s5,s4.free n5,by rw[aC];simp[dG]⟩
  rintro σ' H1 ⟨rl,rfl,s1,nrl,hrl⟩;nofun;refine⟨bH _,λp np=>⟨bH _,λp1 np1=>⟨(by show 2<=sizeLine;decide),λoe noe=>?_⟩⟩⟩;have u1:=(aX.refl H1).new (o:=.lst []) np;have u2:=u1.new (o:=.lst []) (u1.free np1);have u3:=u2.new (o:=.lst [.ref p,.ref p1]) (u2.free noe);have e1:p≠p1:=λe=>by subst e;rw[aC] at np1;cases np1
  have e2:p≠oe:=λe=>by subst e;rw[aK e1,aC] at noe;cases noe
  have e3:p1≠oe:=λe=>by subst e;rw[aC] at noe;cases noe
  have g1:bU (bU (bU H1 p (.lst [])) p1 (.lst [])) oe (.lst [.ref p,.ref p1]) p=some (.lst []):=by rw[aK e2,aK e1,aC]
  have g2:bU (bU (bU H1 p (.lst [])) p1 (.lst [])) oe (.lst [.ref p,.ref p1]) p1=some (.lst []):=by rw[aK e3,aC]
  have g3:bU (bU (bU H1 p (.lst [])) p1 (.lst [])) oe (.lst [.ref p,.ref p1]) oe=some (.lst [.ref p,.ref p1]):=aC;have np1':=u1.free np1;have noe':=u2.free noe;generalize bU (bU (bU H1 p (.lst [])) p1 (.lst [])) oe (.lst [.ref p,.ref p1])=H3 at u3 g1 g2 g3 ⊢;clear np1 noe u1 u2;generalize hA:(λu:Bool=>if u then p1 else p)=g;have A0:g false=p:=by rw[<-hA];rfl
  have A1:g true=p1:=by rw[<-hA];rfl
  have gA:∀u,H3 (g u)=some (.lst []):=λu=>by cases u;rw[A0];exact g1;rw[A1];exact g2
  have nA:∀u,H1 (g u)=none:=λu=>by cases u;rw[A0];exact np;rw[A1];exact np1'
  have oA:∀u,oe≠g u:=λu=>by cases u;rw[A0];exact e2.symm;rw[A1];exact e3.symm
  have rA:∀u,rl≠g u:=λu=>av hrl (nA u);rw[<-A0,<-A1] at g3 e1;have hrl3:=u3 _ _ hrl;have hm3:fR H3 m o b ns:=(hm.same s1).same u3;have nfd:=s1.free noe';have nfA:∀u,H (g u)=none:=λu=>s1.free (nA u);have s13:=s1.trans u3;refine cJ (λσ H'=>σ=[some (.ref m),some (.int ns.length),some (.ref rl),some (.ref oe),some (.int (if b then 1 else 0)),none]/\H3=H') ?_ ?_
  ·nofun;refine⟨_,_,cg.of hm3.1,rfl,?_⟩;nofun;simp only[Eu];exact⟨by first | rfl | trivial,by first | rfl | trivial⟩
  rintro σ' H' ⟨rfl,rfl⟩;nofun;have hlr:((dG ns).map V.int).length=ns.length+2:=by rw[aF,fq]
  refine⟨by lia,by lia,?_⟩;have en:((ns.length:Int)+1).toNat=ns.length+1:=by lia
  rw[en];refine eU (n:=ns.length+1) (λi σ H'=>∃x4:Option V,σ=[some (.ref m),some (.int ns.length),some (.ref rl),some (.ref oe),some (.int (if (b ^^ odd i) then 1 else 0)),x4]/\aX H H'/\H' rl=some (.lst ((dG ns).map V.int))/\H' oe=some (.lst [.ref (g false),.ref (g true)])/\∀u,cK H' (g u) (bF b ns u i))
   ⟨none,by rw[show odd 0=false from rfl,Bool.xor_false],s13,hrl3,g3,λu=>⟨[],gA u,.nil⟩⟩ ?_ ?_
  ·rintro i σ H4 hi ⟨x4,rfl,sm,hr4,ho4,hb4⟩;have ek:(1:Int)-(if (b ^^ odd i) then 1 else 0)=if (b ^^ odd (i+1)) then 1 else 0:=by
    rw[sg];cases b<;>cases odd i<;>rfl
   have at1:xM ((dG ns).map V.int) (0+(i:Int))=some (.int (bc ns i)):=by
    rw[dC];exact gJ (by rw[bD,fz (by lia)];rfl)
   have at2:xM ((dG ns).map V.int) (0+(i:Int)+1)=some (.int (bc ns (i+1))):=by
    rw[show (0:Int)+i+1=((i+1:Nat):Int) by lia];exact gJ (by rw[bD,fz (by lia)];rfl)
   nofun;obtain⟨as,a1,a2⟩:=id (hb4 (b ^^ odd i));have la:as.length=(bF b ns (b ^^ odd i) i).length:=cN a2;have hlb:=fJ b ns (b ^^ odd i) i;refine⟨_,.ref (g (b ^^ odd i)),bp.of ho4,by cases (b ^^ odd i)<;>rfl,j3 a1,_,_,bp.of hr4,at1,_,_,bp.of hr4,at2,_,_,rfl,_,_,bp.of hr4,at1,_,_,bp.of hr4,at2,_,_,rfl,(by show 2<=sizeLine;decide),λt nt=>?_⟩;have emin:(if bc ns (i+1)<bc ns i then bc ns (i+1) else bc ns i)=(fA ns i).1:=by
    show _=min (bc ns i) (bc ns (i+1));rw[Int.min_def];split<;>split<;>lia
   have emax:(if bc ns (i+1) > bc ns i then bc ns (i+1) else bc ns i)=(fA ns i).2:=by
    show _=max (bc ns i) (bc ns (i+1));rw[Int.max_def];split<;>split<;>lia
   rw[emin,emax];have s5:=(aX.refl H4).new (o:=.tup [.int (fA ns i).1,.int (fA ns i).2]) nt;have t5:d6 (bU H4 t (.tup [.int (fA ns i).1,.int (fA ns i).2])) t (fA ns i):=aC;have a15:=s5 _ _ a1;refine⟨g (b ^^ odd i),_,_,rfl,rfl,a15,by rw[aF];exact ai (by lia),_,by rw[ek],(sm.trans s5).new (nfA _),by rw[aK (rA _)];exact s5 _ _ hr4,by rw[aK (oA _)];exact s5 _ _ ho4,λu=>?_⟩;by_cases z:u=(b ^^ odd i)
   ·subst z;rw[fy (sW b i)];exact nL a15 (Paired.mapP a2 λa q w=>w.same s5) t5
   ·have z':u=!(b ^^ odd i):=by revert z;cases u<;>cases (b ^^ odd i)<;>decide
    have gne:g u≠g (b ^^ odd i):=by
     cases u<;>cases hq:(b ^^ odd i)<;>first | exact absurd hq.symm z | exact e1 | exact e1.symm
    rw[z',gl (qy b i),<-z'];exact ky ((hb4 u).same s5) a15 gne
  ·rintro σ H4 ⟨x4,rfl,sm,hr4,ho4,hb4⟩;nofun;exact q oe g H4 nfd nfA sm ho4 hb4 e1
theorem u5 (E:Fn K mg "_law_crosses" iZ ["_law_bows_here"]):eO P w K mg base 1 "_law_crosses" iZ ["_law_bows_here"] nT:=E.mk' λf fd F=>by
 refine F.okS i7 (λvs H Q E h=>?_) (λcdv A outer s H vs Q E hr h=>?_)
 ·obtain⟨l,ps,rfl,_⟩:=h;rfl
 ·obtain⟨l,ps,rfl,hb,q⟩:=h;refine⟨[some (.ref l),none,none,none,none],_,rfl,(L2.iL.h (aG (cZ al rfl (dr (a9 0)) (jo (n:=2) rfl (cc (bG (i:=1) i7.nd rfl (Or.inl rfl)) (cc (bG (i:=2) i7.nd rfl (Or.inl rfl)) ic)))
   (aI (cZ al rfl (dr (a9 0)) (jo (n:=2) rfl (cc (bG (i:=3) i7.nd rfl (Or.inl rfl)) (cc (bG (i:=4) i7.nd rfl (Or.inl rfl)) ic)))
    (aI (be (oh km km km (a9 1) (a9 3) (a9 2) (a9 4))
     (aI (am dH))
     bQ)))))
   (aI (am dH)))),?_⟩
  obtain⟨as,b1,bl,bg⟩:=hb.get;nofun;refine⟨⟨_,bp.of b1⟩,gz (xs:=as.map V.ref) (λi σ H2=>∃x1 x2 x3 x4:Option V,σ=[some (.ref l),x1,x2,x3,x4]/\H=H2/\∀p∈ps.take i,∀q∈ps,bX p q=false) ⟨_,_,_,_,rfl,rfl,λp hp=>by simp at hp⟩ (λi σ H2 _ ⟨_,_,_,_,_,e,_⟩=>by rw[<-e];exact bp.of b1) ?_ ?_⟩
  ·rintro i x σ H2 hx ⟨x1,x2,x3,x4,rfl,rfl,hn⟩;obtain⟨a,p,rfl,hp,ta⟩:=bg i x hx;nofun;refine⟨_,cg.of ta,rfl,?_⟩;nofun;refine⟨⟨_,bp.of b1⟩,gz (xs:=as.map V.ref) (λj σ H3=>∃x3 x4:Option V,σ=[some (.ref l),some (.int p.1),some (.int p.2),x3,x4]/\H=H3/\∀q∈ps.take j,bX p q=false) ⟨_,_,rfl,rfl,λp hp=>by simp at hp⟩ (λi σ H2 _ ⟨_,_,_,e,_⟩=>by rw[<-e];exact bp.of b1) ?_ ?_⟩
   ·rintro j y σ H3 hy ⟨y3,y4,rfl,rfl,hm⟩;obtain⟨c,q',rfl,hq,tc⟩:=bg j y hy;nofun;refine⟨_,cg.of tc,rfl,?_⟩;nofun;have nx:bX p q'=false->∃x3 x4:Option V,[some (V.ref l),some (V.int p.1),some (V.int p.2),some (V.int q'.1),some (V.int q'.2)]=[some (V.ref l),some (V.int p.1),some (V.int p.2),x3,x4]/\H=H/\∀q∈ps.take (j+1),bX p q=false:=λe=>by
     refine⟨_,_,rfl,rfl,λq2 hq2=>?_⟩;rw[bZ,hq] at hq2;rcases aT.mp hq2 with z | z
     ·exact hm q2 z
     ·have e':q2=q':=by simpa using z
      rw[e'];exact e
    refine eZ (λh1=>?_) (λh1=>by simpa using nx (by simp[bX,h1]));refine eZ (λh2=>?_) (λh2=>by simpa using nx (by simp[bX,h2]));refine eZ (λh3=>?_) (λh3=>by simpa using nx (by simp[bX,h3]));rw[rP (bI hp) (bI hq) (by simp[bX,h1,h2,h3])] at q;exact q
   ·rintro σ H3 ⟨y3,y4,rfl,rfl,hm⟩;refine⟨_,_,_,_,rfl,rfl,λp' hp'=>?_⟩;rw[bZ,hp] at hp';rcases aT.mp hp' with z | z
    ·exact hn p' z
    ·have e:p'=p:=by simpa using z
     subst e;intro q2 hq2;refine hm q2 ?_;rw[aF,bl,bv];exact hq2
  ·rintro σ H2 ⟨x1,x2,x3,x4,rfl,rfl,hn⟩;nofun;rw[ku (λp hp=>hn p (by rw[aF,bl,bv];exact hp))] at q;exact q
theorem se (E:Fn K mg "_law_drawable" gZ ["_law_maze"]) (Jm:eO P w K mg base 1 "_law_bows" mw ["_law_maze"] v7) (ID:eO P w K mg base 1 "_law_crosses" iZ ["_law_bows_here"] nT):eO P w K mg base 2 "_law_drawable" gZ ["_law_maze"] BQ:=E.mk' λf fd F=>by
 refine F.okS nX (λvs H Q E h=>?_) (λcdv A outer s H vs Q E hr h=>?_)
 ·obtain⟨m,o,b,ns,rfl,_⟩:=h;rfl
 ·obtain⟨m,o,b,ns,rfl,hm,hl,q⟩:=h;refine⟨[some (.ref m),none],_,rfl,(L2.iL.h (aG (aV (i:=1) nX.nd rfl (Or.inl rfl) (aW Jm (hr.mono (by decide)) (by rfl) (aB (a9 0) aA)))
   (aI (am (jI (mR (aW ID (hr.mono (by decide)) (by rfl) (ah (bW d9 (a9 1) aJ (λ_ _=>rfl)) aA))) (jq (mR (aW ID (hr.mono (by decide)) (by rfl) (ah (bW d9 (a9 1) aJ (λ_ _=>rfl)) aA))))))))),?_⟩
  nofun;refine⟨m,o,b,ns,rfl,hm,hl,λfd g H1 nf ng s1 hf hb ne=>?_⟩;refine⟨fd,_,_,_,rfl,rfl,bp.of hf,rfl,_,_,rfl,hb false,_,rfl,?_⟩;have:=q _ s1;unfold Eh at this;cases e:gH (bF b ns false (ns.length+1)) with
  | true=>
   rw[e] at this;exact nY (λz=>nomatch z) this
  | false=>
   rw[e] at this;refine tO rfl ⟨fd,_,_,_,rfl,rfl,bp.of hf,rfl,_,_,rfl,hb true,_,rfl,?_⟩;rw[show (!false&&!gH (bF b ns true (ns.length+1)))=!gH (bF b ns true (ns.length+1)) from gk _] at this;exact this
theorem wf (B:nS mg) (E:Fn K mg "_law_across" gq ["_law_word_here"]):eO P w K mg base 1 "_law_across" gq ["_law_word_here"] gV:=E.mk' λf fd F=>by
 refine F.okS lH (λvs H Q E h=>?_) (λcdv A outer s H vs Q E hr h=>?_)
 ·obtain⟨bs,rfl,_⟩:=h;rfl
 ·obtain⟨bs,rfl,bal,hl,q⟩:=h;refine⟨[some (.str (wd bs)),none,none,none],_,rfl,(L2.iL.h (aG (aV (i:=1) lH.nd rfl (Or.inl rfl) jc)
   (aG (aV (i:=2) lH.nd rfl (Or.inl rfl) (cB aA))
   (aG (cZ al rfl (ce (by rfl) B.range (ba (aR dA (by rfl) B.len aj (aB (a9 0) aA)) aA)) (bG (i:=3) lH.nd rfl (Or.inl rfl))
   (aI (be (bC ig (bW Cp (a9 0) (a9 3) (λ_ _=>rfl)) bT (bS _))
    (aI (eI (h7 bA bO bN eT (a9 2) (aB (a9 3) aA))))
    (aG (gu (gx hr) (a9 1) (a9 3) (vg bA kY kW yz (a9 2)) rfl)
     (aI (gu (gx hr) (a9 1) (cq (gx hr) (a9 1) (a9 3) (λ_ _=>rfl)) (a9 3) rfl))))))
   (aI (am (a9 1))))))),?_⟩
  have hz:(wd bs).length<=sizeLine:=by rw[bK];exact aS (ai (by lia))
  nofun;intro d nd;refine⟨bH _,λwl nw=>⟨hz,by lia,by rw[bK];lia,?_⟩⟩;have nwd:wl≠d:=λe=>by subst e;rw[aC] at nw;cases nw
  have s0:=(aX.refl H).new (o:=.dK []) nd;have nw0:H wl=none:=s0.free nw;refine eU (n:=((wd bs).length:Int).toNat) (λi σ H2=>∃(ws:List Nat) (bw:List (Nat×Nat)) (kvs:xS) (x3:Option V),σ=[some (.str (wd bs)),some (.ref d),some (.ref wl),x3]/\aX H H2/\H2 wl=some (.lst (iB ws))/\H2 d=some (.dK kvs)/\oP bs i ws bw/\kvs.length<=2*bw.length/\∀p∈bw,cW kvs (.inl (p.1:Int))=some (.int (p.2:Nat))/\cW kvs (.inl (p.2:Int))=some (.int (p.1:Nat)))
   ⟨[],[],[],none,rfl,s0.new nw0,aC,by rw[aK nwd.symm,aC],oP.start bs,bH _,(λp h=>nomatch h)⟩ ?_ ?_
  ·rintro i σ H2 hi ⟨ws,bw,kvs,x3,rfl,sm,hw,hd,S,hk,hv⟩;have hi':i<bs.length:=by rw[bK] at hi;lia
   obtain⟨b,hb⟩:∃b,bs[i]? = some b:=⟨bs[i],aL hi'⟩
   nofun;refine⟨hz,pX b,by rw[dC];exact gJ (DX hb),?_⟩;simp only[qE];rw[dC];have hSl:=S.len;have hwl:=S.il;refine eZ (λhb1=>?_) (λhb1=>?_)
   ·subst hb1;refine⟨j3 hw,_,hw,ai (by simp[iB];lia),ws++[i],bw,kvs,_,rfl,sm.new nw0,by rw[aC];simp[iB],by rw[aK nwd.symm];exact hd,S.opens hb,hk,hv⟩
   ·have hb2:b=false:=by cases b;rfl;exact absurd rfl hb1
    subst hb2;obtain⟨ws',p,rfl⟩:=S.has bal hb;have S2:=S.closes hb;have hpi:=(S2.mate (p,i) (by simp)).1;have ed:(iB (ws'++[p])).dropLast=iB ws':=by simp[iB]
    have el:(iB (ws'++[p]))[(iB (ws'++[p])).length - 1]? = some (.int (p:Nat)):=by simp[iB]
    refine⟨j3 hw,_,.int (p:Nat),hw,el,?_⟩;rw[ed];have hS2:=c9 kvs (.inl (i:Int):Key) (.int (p:Nat));have hS3:=c9 (putK kvs (.inl (i:Int):Key) (.int (p:Nat))) (.inl (p:Int):Key) (.int (i:Nat));have l1:kvs.length<sizeLine:=ai (by lia);have l2:(putK kvs (.inl (i:Int):Key) (.int (p:Nat))).length<sizeLine:=ai (by lia);have hd2:bU H2 wl (.lst (iB ws')) d=some (.dK kvs):=by rw[aK nwd.symm];exact hd
    have gi:fW (bU (bU H2 wl (.lst (iB ws'))) d (.dK (putK kvs (.inl (i:Int):Key) (.int (p:Nat))))) d (.int (i:Nat)) (some (.int (p:Nat))):=by
     have:=fW.k (k:=.inl (i:Int)) (L2.aC (H:=bU H2 wl (.lst (iB ws'))) (a:=d) (o:=.dK (putK kvs (.inl (i:Int):Key) (.int (p:Nat)))));rw[fS,MO rfl] at this;exact this
    refine⟨_,nQ.k (k:=.inl (i:Int)) hd2 l1,_,gi,_,nQ.k (k:=.inl (p:Int)) aC l2,ws',bw++[(p,i)],_,_,rfl,((sm.new nw0).new nd).new nd,by rw[aK nwd,aK nwd,aC],aC,S2,by simp;lia,λq hq=>?_⟩;have val:∀x y,Pr bs x y->(x=i\/x=p\/cW kvs (.inl (x:Int))=some (.int (y:Nat)))->cW (putK (putK kvs (.inl (i:Int):Key) (.int (p:Nat))) (.inl (p:Int):Key) (.int (i:Nat))) (.inl (x:Int))=some (.int (y:Nat)):=λx y hxy hx=>by
     rw[fS,fS];by_cases c1:x=p
     ·subst c1;have e:i=y:=Pr.uniq (.inl hpi) hxy;rw[MO rfl,e]
     ·rw[MN (λz=>c1 (by cases z;rfl))];by_cases c2:x=i
      ·subst c2;have e:p=y:=(Pr.symm (.inl hpi)).uniq hxy;rw[MO rfl,e]
      ·rw[MN (λz=>c2 (by cases z;rfl))];rcases hx with h | h | h
       ·exact absurd h c2
       ·exact absurd h c1
       ·exact h
    rcases aT.mp hq with hq | hq
    ·have hmp:=(S.mate q hq).1;exact⟨val _ _ (.inl hmp) (.inr (.inr (hv q hq).1)),val _ _ (.inr hmp) (.inr (.inr (hv q hq).2))⟩
    ·have e:q=(p,i):=by simpa using hq
     subst e;exact⟨val _ _ (.inl hpi) (.inr (.inl rfl)),val _ _ (.inr hpi) (.inl rfl)⟩
  ·rintro σ H2 ⟨ws,bw,kvs,x3,rfl,sm,hw,hd,S,hk,hv⟩;have en:((wd bs).length:Int).toNat=bs.length:=by rw[bK];lia
   rw[en] at S;nofun;obtain⟨ms,M⟩:=ko bal bs.length (aH _);refine q d kvs H2 nd sm hd λx hx=>?_;rcases jV bal hx with hm | hm
   ·obtain⟨m,hmm⟩:=M.all x hx hm.op;have e:=(M.mate _ hmm).1.uniq hm;have:=(hv _ ((S.mem bal M _).mpr hmm)).1;rw[e] at this;exact this
   ·have h1:=fM hm.lt hm.ml;obtain⟨m,hmm⟩:=M.all _ h1 hm.op;have e:m=x:=(M.mate _ hmm).1.uniq hm;have:=(hv _ ((S.mem bal M _).mpr hmm)).2;rw[e] at this;exact this
theorem sX (B:nS mg) (E:Fn K mg "_law_rounds" f9 ["_law_left","_law_right"]) (GJ:eO P w K mg base 1 "_law_across" gq ["_law_word_here"] gV):eO P w K mg base 2 "_law_rounds" f9 ["_law_left","_law_right"] mm:=E.mk' λf fd F=>by
 refine F.okS dD (λvs H Q E h=>?_) (λcdv A outer s H vs Q E hr h=>?_)
 ·obtain⟨bs,cs,rfl,_⟩:=h;rfl
 ·obtain⟨bs,cs,rfl,T,q⟩:=h;refine⟨[some (.str (wd bs)),some (.str (wd cs)),none,none,none,none,none,none,none],_,rfl,(L2.iL.h (aG (aV (i:=2) dD.nd rfl (Or.inl rfl) (aW GJ (hr.mono (by decide)) (by rfl) (aB (a9 0) aA)))
   (aG (aV (i:=3) dD.nd rfl (Or.inl rfl) (aW GJ (hr.mono (by decide)) (by rfl) (aB (a9 1) aA)))
   (aG (aV (i:=4) dD.nd rfl (Or.inl rfl) jc)
   (aG (aV (i:=5) dD.nd rfl (Or.inl rfl) (cB aA))
   (aG (cZ al rfl (ce (by rfl) B.range (ba (aR dA (by rfl) B.len aj (aB (a9 0) aA)) aA)) (bG (i:=6) dD.nd rfl (Or.inl rfl))
   (aG (aV (i:=7) dD.nd rfl (Or.inl rfl) (cB aA))
    (aG (aV (i:=8) dD.nd rfl (Or.inl rfl) (a9 6))
    (aG (mx al (og (gx hr) (a9 8) (a9 4))
    (aG (gu (gx hr) (a9 4) (a9 8) dH rfl)
     (aG (gu (gx hr) (a9 4) (cq (gx hr) (a9 2) (a9 8) (λ_ _=>rfl)) dH rfl)
     (aG (aV (i:=7) dD.nd rfl (Or.inl rfl) (bB kn (a9 7) (cB (aB (a9 8) (ah (cq (gx hr) (a9 2) (a9 8) (λ_ _=>rfl)) aA)))))
     (aI (aV (i:=8) dD.nd rfl (Or.inl rfl) (cq (gx hr) (a9 3) (cq (gx hr) (a9 2) (a9 8) (λ_ _=>rfl)) (λ_ _=>rfl))))))))
    (aI (be (bC (qw (kK hr)) (a9 7) (cB aA) (bS _))
    (aI (eI (h7 bA bO bN eT (a9 5) (aB (a9 7) aA))))
    bQ))))))
   (aI (am (a9 5))))))))),?_⟩
  have hz:(wd bs).length<=sizeLine:=by rw[bK];exact aS (ai (by have:=T.len;lia))
  have hlen:=T.len;nofun;refine⟨bs,rfl,T.bal,T.len,λd1 k1 H1 n1 s1 h1 dc1=>⟨cs,rfl,T.balR,by rw[T.eq];exact T.len,λd2 k2 H2 n2 s2 h2 dc2=>?_⟩⟩;nofun;intro g ng;refine⟨bH _,λfl nfl=>?_⟩;have ngf:g≠fl:=λz=>by subst z;rw[aC] at nfl;cases nfl
  have nfl2:H2 fl=none:=by rw[aK ngf.symm] at nfl;exact nfl
  have PL:=dj T.bal;have PR:=dj T.balR;have NL:=pD T.bal;have NR:=pD T.balR;rw[T.eq] at dc2 PR NR;have sHb:aX H H2:=s1.trans s2;have sz:∀k:Nat,k<=9000->k<sizeLine:=λk hk=>eF hk (by decide);have en:((wd bs).length:Int).toNat=bs.length:=by rw[bK];lia
  have hd1:=s2 _ _ h1;refine⟨hz,by lia,by rw[bK];lia,?_⟩;rw[en];refine eU (n:=bs.length) (λi σ H'=>∃(ws:List V) (kvs:xS) (x6 x7 x8:Option V),σ=[some (.str (wd bs)),some (.str (wd cs)),some (.ref d1),some (.ref d2),some (.ref g),some (.ref fl),x6,x7,x8]/\aX H2 H'/\H' fl=some (.lst ws)/\H' g=some (.dK kvs)/\m7 H' (λa=>H2 a=none/\a≠fl/\a≠g) ws (rsF (mtF bs) (mtF cs) i)/\kvs.length<=82*i/\ux bs.length (mtF bs) (mtF cs) i (rsF (mtF bs) (mtF cs) i) (λx=>(cW kvs (.inl (x:Int))).isSome=true))
   ⟨[],[],_,_,_,rfl,((aX.refl H2).new ng).new nfl2,aC,by rw[aK ngf,aC],.nil,bH _,?_⟩ ?_ ?_
  ·have:=ux.start (n:=bs.length) (L:=mtF bs) (R:=mtF cs);refine⟨this.rn,λx=>Iff.intro (λh=>nomatch h) (λh=>?_),λx h=>by lia,this.len⟩;obtain⟨r,hr,_⟩:=h;cases hr
  ·rintro i σ H' hi ⟨ws,kvs,x6,x7,x8,rfl,sm,hfl,hg,rf,hk,RI⟩;have hrl:=RI.len;have hwl:=rf.len;have met:∀x:Nat,(cW kvs (.inl (x:Int))).isSome=true<->∃r∈rsF (mtF bs) (mtF cs) i,x∈r:=RI.mt;nofun;rw[dC];refine⟨bH _,λo0 no0=>?_⟩;have nf0:fl≠o0:=av hfl no0;have ng0:g≠o0:=av hg no0;refine⟨λm σ H3=>∃(j:Nat) (o:Addr) (kv:xS),σ=[some (.str (wd bs)),some (.str (wd cs)),some (.ref d1),some (.ref d2),some (.ref g),some (.ref fl),some (.int i),some (.ref o),some (.int (cM (mtF bs) (mtF cs) i j:Nat))]/\aX H2 H3/\H3 fl=some (.lst ws)/\H3 g=some (.dK kv)/\H3 o=some (.lst (eY (kR (mtF bs) (mtF cs) i j)))/\(H2 o=none/\o≠fl/\o≠g)/\m7 H3 (λa=>H2 a=none/\a≠fl/\a≠g) ws (rsF (mtF bs) (mtF cs) i)/\kv.length<=kvs.length+2*j/\(∀x:Nat,(cW kv (.inl (x:Int))).isSome=true<->((cW kvs (.inl (x:Int))).isSome=true\/x∈kR (mtF bs) (mtF cs) i j))/\Inj (mtF bs) (mtF cs) i j/\(j=0\/¬(cW kvs (.inl (i:Int))).isSome=true)/\m=41-j,
    ⟨_,0,o0,kvs,rfl,sm.new (sm.free no0),by rw[aK nf0];exact hfl,by rw[aK ng0];exact hg,aC,⟨sm.free no0,nf0.symm,ng0.symm⟩,rf.imp (λa o ⟨p1,p2,p3⟩ ha=>⟨by rw[aK (av ha no0)];exact ha,p1,p2,p3⟩),by lia,λx=>by simp[kR],λj k hj=>by lia,.inl rfl,rfl⟩,?_⟩
   rintro m σ H3 ⟨j,o,kv,rfl,s3,hfl3,hg3,ho3,⟨no2,nof,nog⟩,rf3,hkv,hv,J,hj0,rfl⟩;have hle:=J.le PL PR hi;have lt:=kq (R:=mtF cs) PL PR hi j;have hout:(¬(cW kvs (.inl (i:Int))).isSome=true)->∀k,¬(cW kvs (.inl (cM (mtF bs) (mtF cs) i k:Int))).isSome=true:=λhm k z=>(Cq PL PR RI.rn hi (λz=>hm ((met i).mpr z)) k).1 ((met _).mp z);nofun;refine⟨_,fW.k (k:=.inl ((cM (mtF bs) (mtF cs) i j:Nat):Int)) hg3,?_⟩;nofun;by_cases hin:(cW kv (.inl ((cM (mtF bs) (mtF cs) i j:Nat):Int))).isSome=true
   ·rw[hin];refine nY (λz=>nomatch z) ⟨bH _,λe ne=>AR (by rw[aK (av ho3 ne)];exact ho3) aC ?_⟩;have s4:=(aX.refl H3).new (o:=.lst []) ne;generalize bU H3 e (.lst [])=H4 at s4 ⊢;nofun;have rf4:=rf3.imp (H':=H4) (P':=λa=>H2 a=none/\a≠fl/\a≠g) λa o p ha=>⟨s4 _ _ ha,p⟩
    by_cases hmi:(cW kvs (.inl (i:Int))).isSome=true
    ·have j0:j=0:=hj0.elim id λz=>absurd hmi z;subst j0;have sk:=mM ((met i).mp hmi);rw[sk];refine nY (λz=>nomatch z) ⟨ws,kv,_,_,_,rfl,s3.trans s4,s4 _ _ hfl3,s4 _ _ hg3,rf4,by lia,?_⟩;have RI2:=RI.skip hmi;exact⟨RI2.rn,λx=>by rw[hv x];simp[kR];exact RI2.mt x,λx hx=>(hv x).mpr (.inl (RI2.upto x hx)),RI2.len⟩
    ·have hin2:cM (mtF bs) (mtF cs) i j∈kR (mtF bs) (mtF cs) i j:=((hv _).mp hin).elim (λz=>absurd z (hout hmi j)) id;obtain⟨jp,hc⟩:=(B0 PL PR NL NR hi J).mp hin2;have X:=uT PL PR hi J hlen jp hc;have ad:=mO (L:=mtF bs) (R:=mtF cs) (i:=i) (λz=>hmi ((met i).mpr z));have RI2:=RI.add PL PR hmi X;rw[ad,<-X.is];have hne:(kR (mtF bs) (mtF cs) i j).isEmpty=false:=by
      obtain⟨j',rfl⟩:∃j',j=j'+1:=⟨j - 1,by lia⟩
      rw[kR];simp
     refine tO hne ⟨j3 (s4 _ _ hfl3),_,s4 _ _ hfl3,sz _ (by lia),_,kv,_,_,_,rfl,(s3.trans s4).new nfl2,aC,by rw[aK ngf];exact s4 _ _ hg3,?_,by lia,⟨RI2.rn,λx=>by rw[hv x];exact RI2.mt x,λx hx=>(hv x).mpr (RI2.upto x hx),RI2.len⟩⟩;exact fD (rf4.imp λa o ⟨p1,p2,p3⟩ ha=>⟨by rw[aK p2];exact ha,p1,p2,p3⟩) ⟨o,rfl,by rw[aK nof];exact s4 _ _ ho3,no2,nof,nog⟩
   ·have hif:(cW kv (.inl ((cM (mtF bs) (mtF cs) i j:Nat):Int))).isSome=false:=by cases e:(cW kv (.inl ((cM (mtF bs) (mtF cs) i j:Nat):Int))).isSome<;>first | rfl | exact absurd e hin
    rw[hif];have hmi:¬(cW kvs (.inl (i:Int))).isSome=true:=hj0.elim (λz=>by subst z;exact λw=>hin ((hv _).mpr (.inl w))) id;have hc:j=0\/cM (mtF bs) (mtF cs) i j≠i:=by
     by_cases z:j=0
     ·exact .inl z
     ·exact .inr λw=>hin ((hv _).mpr (.inr ((B0 PL PR NL NR hi J).mpr ⟨by lia,w⟩)))
    have J2:=J.next PL PR hi hc;have hle2:=J2.le PL PR hi;have k1l:=c9 kv (.inl ((cM (mtF bs) (mtF cs) i j:Nat):Int):Key) (.bl true);have k2l:=c9 (putK kv (.inl ((cM (mtF bs) (mtF cs) i j:Nat):Int):Key) (.bl true)) (.inl ((mtF bs (cM (mtF bs) (mtF cs) i j):Nat):Int):Key) (.bl true);have nd1:d1≠g:=λz=>by subst z;rw[hd1] at ng;cases ng
    have nd2:d2≠g:=λz=>by subst z;rw[h2] at ng;cases ng
    have gL:∀Hx:Hp,Hx d1=some (.dK k1)->fW Hx d1 (.int (cM (mtF bs) (mtF cs) i j:Nat)) (some (.int (mtF bs (cM (mtF bs) (mtF cs) i j):Nat))):=λHx hx=>by
     have:=fW.k (k:=.inl ((cM (mtF bs) (mtF cs) i j:Nat):Int)) hx;rw[dc1 _ lt] at this;exact this
    have gR:∀Hx:Hp,Hx d2=some (.dK k2)->fW Hx d2 (.int (mtF bs (cM (mtF bs) (mtF cs) i j):Nat)) (some (.int (cM (mtF bs) (mtF cs) i (j+1):Nat))):=λHx hx=>by
     have:=fW.k (k:=.inl ((mtF bs (cM (mtF bs) (mtF cs) i j):Nat):Int)) hx;rw[dc2 _ (PL.lt _ lt)] at this;exact this
    generalize hx0:cM (mtF bs) (mtF cs) i j=x at *;have hd1a:bU H3 g (.dK (putK kv (.inl (x:Int):Key) (.bl true))) d1=some (.dK k1):=by rw[aK nd1];exact s3 _ _ hd1
    refine tO rfl ⟨_,λ_ _ z=>z,_,nQ.k (k:=.inl (x:Int)) hg3 (sz _ (by lia)),_,gL _ hd1a,_,nQ.k (k:=.inl ((mtF bs x:Nat):Int)) aC (sz _ (by lia)),_,gL _ (by rw[aK nd1];exact hd1a),(by show 2<=sizeLine;decide),λp np=>?_⟩;have sB:aX H2 (bU (bU H3 g (.dK (putK kv (.inl (x:Int):Key) (.bl true)))) g (.dK (putK (putK kv (.inl (x:Int):Key) (.bl true)) (.inl ((mtF bs x:Nat):Int):Key) (.bl true)))):=(s3.new ng).new ng;have kpB:∀b o,b≠g->H3 b=some o->(bU (bU H3 g (.dK (putK kv (.inl (x:Int):Key) (.bl true)))) g (.dK (putK (putK kv (.inl (x:Int):Key) (.bl true)) (.inl ((mtF bs x:Nat):Int):Key) (.bl true)))) b=some o:=λb o hb h=>by rw[aK hb,aK hb];exact h
    have gB:(bU (bU H3 g (.dK (putK kv (.inl (x:Int):Key) (.bl true)))) g (.dK (putK (putK kv (.inl (x:Int):Key) (.bl true)) (.inl ((mtF bs x:Nat):Int):Key) (.bl true)))) g=some (.dK (putK (putK kv (.inl (x:Int):Key) (.bl true)) (.inl ((mtF bs x:Nat):Int):Key) (.bl true))):=aC;generalize bU (bU H3 g (.dK (putK kv (.inl (x:Int):Key) (.bl true)))) g (.dK (putK (putK kv (.inl (x:Int):Key) (.bl true)) (.inl ((mtF bs x:Nat):Int):Key) (.bl true)))=HB at sB kpB gB np ⊢;have sC:=(aX.refl HB).new (o:=.lst [V.int (x:Nat),V.int (mtF bs x:Nat)]) np;have gC:bU HB p (.lst [V.int (x:Nat),V.int (mtF bs x:Nat)]) p=some (.lst [V.int (x:Nat),V.int (mtF bs x:Nat)]):=aC;generalize bU HB p (.lst [V.int (x:Nat),V.int (mtF bs x:Nat)])=HC at sC gC ⊢;have hrl2:(eY (kR (mtF bs) (mtF cs) i j)).length=2*j:=by unfold eY;rw[aF,qr]
    refine⟨o,p,_,_,rfl,rfl,sC _ _ (kpB _ _ nog ho3),gC,aS (sz _ (by rw[hrl2];simp;lia)),λp2 np2=>?_⟩;have sD:=(aX.refl HC).new (o:=.lst (eY (kR (mtF bs) (mtF cs) i j)++[V.int (x:Nat),V.int (mtF bs x:Nat)])) np2;have gD:bU HC p2 (.lst (eY (kR (mtF bs) (mtF cs) i j)++[V.int (x:Nat),V.int (mtF bs x:Nat)])) p2=some (.lst (eY (kR (mtF bs) (mtF cs) i j)++[V.int (x:Nat),V.int (mtF bs x:Nat)])):=aC;generalize bU HC p2 (.lst (eY (kR (mtF bs) (mtF cs) i j)++[V.int (x:Nat),V.int (mtF bs x:Nat)]))=HD at sD gD ⊢;have sCD:=sC.trans sD;have kpD:∀b o,b≠g->H3 b=some o->HD b=some o:=λb o hb h=>sCD _ _ (kpB b o hb h);have np2g:p2≠g:=(av (sC _ _ gB) np2).symm;have np2f:p2≠fl:=(av (sC _ _ (kpB _ _ ngf.symm hfl3)) np2).symm;have er:eY (kR (mtF bs) (mtF cs) i j)++[V.int (x:Nat),V.int (mtF bs x:Nat)]=eY (kR (mtF bs) (mtF cs) i (j+1)):=by
     rw[kR,hx0];simp[eY]
    rw[er] at gD;refine⟨_,gL _ (kpD _ _ nd1 (s3 _ _ hd1)),_,gR _ (kpD _ _ nd2 (s3 _ _ h2)),41-(j+1),by lia,j+1,p2,_,rfl,sB.trans sCD,kpD _ _ ngf.symm hfl3,sCD _ _ gB,gD,⟨sB.free (sC.free np2),np2f,np2g⟩,rf3.imp (λa o ⟨q1,q2,q3⟩ ha=>⟨kpD _ _ q3 ha,q1,q2,q3⟩),by lia,λz=>?_,J2,.inr hmi,rfl⟩;rw[fS,fS,kR,hx0,aT,aT,ar,ar];by_cases c1:z=mtF bs x
    ·subst c1;rw[MO rfl];simp
    ·rw[MN (λw=>c1 (by cases w;rfl))];by_cases c2:z=x
     ·subst c2;rw[MO rfl];simp
     ·rw[MN (λw=>c2 (by cases w;rfl)),hv z];simp[c1,c2]
  ·rintro σ H' ⟨ws,kvs,x6,x7,x8,rfl,sm,hfl,hg,rf,hk,RI⟩;nofun;exact q fl ws H' (sHb.free nfl2) (sHb.trans sm) hfl (rf.imp λa o ⟨p1,p2,p3⟩ ha=>⟨ha,sHb.free p1⟩)
theorem AM {t6 d7:Addr} (HU:mg "NoWord"=some (.ref t6)) (Gx:mg "NoRound"=some (.ref d7)) (XSW:PySem.W.exmOne K (.ref t6) (.ref t6)=some true) (XSR:PySem.W.exmOne K (.ref d7) (.ref d7)=some true) (XRW:PySem.W.exmOne K (.ref d7) (.ref t6)=some false) (E:Fn K mg "_law_said" lm ["_law_left","_law_right"])
  (Gd:lV P w K mg base 5 "opened" gn ["left","right"] (oF t6 d7)):eO P w K mg base 6 "_law_said" lm ["_law_left","_law_right"] qj:=E.mk' λf fd F=>by
 refine F.okS AB (λvs H Q E h=>?_) (λcdv A outer s H vs Q E hr h=>?_)
 ·obtain⟨x,y,d,e,z,rfl,_⟩:=h;rfl
 ·obtain⟨x,y,d,e,z,rfl,hd,td,he,te,h,q⟩:=h;have two:(2:Nat)<=sizeLine:=by decide
  refine⟨[some x,some y],_,rfl,(L2.iL.h (aI (sP rfl rfl (C4 Gd (hr.mono (by decide)) (by rfl) (aB (a9 0) (aB (a9 1) aA))) (vh rfl (by rfl) HU (λa=>(aI (am (dS (au bT (au gh aA)))))) (vh rfl (by rfl) Gx (λa=>(aI (am (dS (au bT (au gh aA)))))) yk))))),?_⟩;nofun;refine⟨x,y,d,e,rfl,hd,td,he,te,?_⟩;rcases h with ⟨bad,rfl⟩ | ⟨bs,cs,rfl,rfl,T,h,rfl⟩
  ·refine .inr ⟨bad,t6,rfl,.inl ⟨XSW,λa na=>?_⟩⟩;exact⟨two,λp np=>q p _ (((aX.refl H).new na).trans ((aX.refl _).new np)) aC⟩
  ·refine .inl ⟨bs,cs,rfl,rfl,T,λ_ H1 s1=>⟨d7,rfl,.inr ⟨XRW,.inl ⟨XSR,λa na=>?_⟩⟩⟩,λ_ H1 s1=>⟨d7,rfl,.inr ⟨XRW,.inl ⟨XSR,λa na=>?_⟩⟩⟩,λr hr l20=>?_⟩
   ·exact⟨two,λp np=>q p _ (s1.trans (((aX.refl H1).new na).trans ((aX.refl _).new np))) aC⟩
   ·exact⟨two,λp np=>q p _ (s1.trans (((aX.refl H1).new na).trans ((aX.refl _).new np))) aC⟩
   exfalso;rcases h with h | h
   ·exact h (by rw[hr];rfl)
   ·lia
theorem we {t6 d7 Fo:Addr} {ds:List Addr} (Hk:mg "RingError"=some (.ref Fo)) (XMW:PySem.W.exmOne K (.ref t6) (.ref Fo)=some true) (XMR:PySem.W.exmOne K (.ref d7) (.ref Fo)=some true) (KW:tw K t6) (KR:tw K d7) (JW:An K t6 ds 2) (JR:An K d7 ds 5) (E:Fn K mg "_law_by_any" i9 ["_law_left","_law_right"])
  (Gd:lV P w K mg base 5 "opened" gn ["left","right"] (oF t6 d7)) (JU:Ar P w K mg base 1 "_law_alone" lJ ["_law_e"] (sH K ds)):eO P w K mg base 6 "_law_by_any" i9 ["_law_left","_law_right"] uL:=E.mk' λf fd F=>by
 refine F.okS qG (λvs H Q E h=>?_) (λcdv A outer s H vs Q E hr h=>?_)
 ·obtain⟨x,y,d,e,z,rfl,_⟩:=h;rfl
 ·obtain⟨x,y,d,e,z,rfl,hd,td,he,te,h,q⟩:=h;refine⟨[some x,some y,none],_,rfl,(L2.iL.h (aG (sP rfl rfl (AF Gd (hr.mono (by decide)) (by rfl) (aB (a9 0) (aB (a9 1) aA))) (EF (i:=2) rfl (by rfl) Hk qG.nd rfl rfl (λa=>(aI (am (uV (a:=a) JU (kz.of (hr.mono (by decide))) (by rfl) (aB (a9 2) aA))))) yk))
   (aI (am dH)))),?_⟩
  nofun;refine⟨x,y,d,e,rfl,hd,td,he,te,?_⟩;rcases h with ⟨bad,rfl⟩ | ⟨bs,cs,rfl,rfl,T,h,rfl⟩
  ·refine .inr ⟨bad,t6,rfl,.inl ⟨XMW,λa na=>?_⟩⟩;exact⟨t6,2,rfl,.bare aC KW,⟨_,aC⟩,JW,by decide,λH' s2=>q _ (((aX.refl _).new na).trans s2)⟩
  ·refine .inl ⟨bs,cs,rfl,rfl,T,λ_ H1 s1=>⟨d7,rfl,.inl ⟨XMR,λa na=>?_⟩⟩,λ_ H1 s1=>⟨d7,rfl,.inl ⟨XMR,λa na=>?_⟩⟩,λr hr l20=>?_⟩
   ·exact⟨d7,5,rfl,.bare aC KR,⟨_,aC⟩,JR,by decide,λH' s2=>q _ (s1.trans (((aX.refl _).new na).trans s2))⟩
   ·exact⟨d7,5,rfl,.bare aC KR,⟨_,aC⟩,JR,by decide,λH' s2=>q _ (s1.trans (((aX.refl _).new na).trans s2))⟩
   ·exfalso;rcases h with h | h
    ·exact h (by rw[hr];rfl)
    ·lia
theorem uX (E:Fn K mg "_law_refused" iW ["_law_left","_law_right"]) (IY:eO P w K mg base 6 "_law_said" lm ["_law_left","_law_right"] qj) (HV:eO P w K mg base 6 "_law_by_any" i9 ["_law_left","_law_right"] uL):eO P w K mg base 7 "_law_refused" iW ["_law_left","_law_right"] yZ:=E.mk' λf fd F=>by
 refine F.okS uN (λvs H Q E h=>?_) (λcdv A outer s H vs Q E hr h=>?_)
 ·obtain⟨bs,cs,rfl,_⟩:=h;rfl
 ·obtain⟨bs,cs,rfl,T,h,q⟩:=h;have two:(2:Nat)<=sizeLine:=by decide
  refine⟨[some (.str (wd bs)),some (.str (wd cs))],_,rfl,(L2.iL.h (aI (am (jI (fU (nB (kK hr)) (aW IY (hr.mono (by decide)) (by rfl) (aB (a9 0) (aB (a9 1) aA))) (dS (au bT (au gh aA))) (bS _)) (jq (aW HV (hr.mono (by decide)) (by rfl) (aB (a9 0) (aB (a9 1) aA)))))))),?_⟩;nofun;have no:Am (rY bs) (rY cs) "round":=.inr ⟨bs,cs,rfl,rfl,T,h,rfl⟩;have tb:=mj T.len;have tc:fv (rY cs):=mj (by rw[T.eq];exact T.len);refine⟨_,_,_,_,_,rfl,.str _,tb,.str _,tc,no,λp H1 s1 sy=>⟨two,λp2 n2=>?_⟩⟩;have s2:=(aX.refl H1).new (o:=.tup [V.str (Str.ofString "round"),V.non]) n2;refine rJ (d:=.tuple [.str (Str.ofString "round"),.none]) (.tup (s2 _ _ sy) (.cons (.str _) (.cons .non .nil))) (.tup aC (.cons (.str _) (.cons .non .nil))) (by decide +kernel) (by decide +kernel) ⟨_,rfl,tO rfl ?_⟩;exact⟨_,_,_,_,_,rfl,.str _,tb,.str _,tc,no,λH4 s4=>q _ (s1.trans (s2.trans s4))⟩
theorem rB (B:nS mg) (E:Fn K mg "_law_one_round" fm ["_law_left","_law_right"]) (G2:eO P w K mg base 2 "_law_rounds" f9 ["_law_left","_law_right"] mm) (GJ:eO P w K mg base 1 "_law_across" gq ["_law_word_here"] gV):eO P w K mg base 3 "_law_one_round" fm ["_law_left","_law_right"] y0:=E.mk' λf fd F=>by
 refine F.okS cF (λvs H Q E h=>?_) (λcdv A outer s H vs Q E hr h=>?_)
 ·obtain⟨bs,cs,rfl,_⟩:=h;rfl
 ·obtain⟨bs,cs,rfl,T,pos,q⟩:=h;refine⟨[some (.str (wd bs)),some (.str (wd cs)),none,none,none,none,none,none,none,none,none],_,rfl,(L2.iL.h (c8 (aV (i:=2) cF.nd rfl (Or.inl rfl) (aW G2 (hr.mono (by decide)) (by rfl) (aB (a9 0) (aB (a9 1) aA))))
   (aG (mx al (bC qM (aR bV (by rfl) B.len aj (aB (a9 2) aA)) aJ (bS _))
   (aG (aV (i:=3) cF.nd rfl (Or.inr rfl) jc)
    (c8 (cZ al rfl (ce (by rfl) B.range (ba (aR bV (by rfl) B.len aj (aB (a9 2) aA)) aA)) (bG (i:=4) cF.nd rfl (Or.inl rfl))
    (aI (cZ al rfl (dr (bW d9 (a9 2) (a9 4) (λ_ _=>rfl))) (bG (i:=5) cF.nd rfl (Or.inl rfl))
     (aI (gu (gx hr) (a9 3) (a9 5) (a9 4) rfl)))))
    (c8 (aV (i:=6) cF.nd rfl (Or.inl rfl) (bW d9 (gw (own:=["_law_end"]) (ns:=["_law_home"]) (caps:=[3]) rfl ⟨rfl,by decide +kernel,by decide +kernel,by decide +kernel⟩ (.cons rfl rfl (.inl rfl) .nil) (ce (by rfl) B.range (dE (bB mz (aR dA (by rfl) B.len aj (aB (a9 0) aA)) aJ) aA)) (λC s H fp pn=>(bG (i:=0) (show List.Nodup ((["_law_end"]:List Str)++(["_law_home"]:List Str)) by decide +kernel) rfl (Or.inl rfl))) (λC s H fp pn=>(vf (bC (AJ (K:=K) rfl (kK hr)) (cq (gx hr) (a9 1) (a9 0) (λ_ _=>rfl)) (cq (gx hr) (a9 1) (bB fQ (a9 0) aJ) (λ_ _=>rfl)) (bS _)))) (λC s H fp pn=>(a9 0))) aJ (λ_ _=>rfl)))
    (aG (aV (i:=7) cF.nd rfl (Or.inl rfl) (aW GJ (hr.mono (by decide)) (by rfl) (aB (a9 0) aA)))
    (aG (aV (i:=8) cF.nd rfl (Or.inl rfl) (cq (gx hr) (a9 7) (a9 6) (λ_ _=>rfl)))
    (aG (aV (i:=9) cF.nd rfl (Or.inl rfl) (cq (gx hr) (a9 7) (bB fQ (a9 6) aJ) (λ_ _=>rfl)))
    (aG (aV (i:=10) cF.nd rfl (Or.inl rfl) (cf (ph rfl) (by rfl) B.list bu (aB (a9 0) aA)))
    (aG (oH bT (oI (a9 10) (a9 6) set_list))
    (aG (oH bT (oI (a9 10) (bB fQ (a9 6) aJ) set_list))
    (aG (oH bT (oI (a9 10) (aR (qZ rfl) (by rfl) B.min kZ (aB (a9 8) (aB (a9 9) aA))) set_list))
    (aG (oH bT (oI (a9 10) (aR (q9 rfl) (by rfl) B.max k4 (aB (a9 8) (aB (a9 9) aA))) set_list))
    (aG (aV (i:=0) cF.nd rfl (Or.inl rfl) (h7 jx kX kU vn bT (aB (a9 10) aA)))
    (aI (aV (i:=2) cF.nd rfl (Or.inl rfl) (aW G2 (hr.mono (by decide)) (by rfl) (aB (a9 0) (aB (a9 1) aA))))))))))))))))))
   (aI (am (a9 0)))))),?_⟩
  refine cJ (λσ H'=>∃l ws,σ=[some (.str (wd bs)),some (.str (wd cs)),some (.ref l),none,none,none,none,none,none,none,none]/\aX H H'/\H' l=some (.lst ws)/\m7 H' (λa=>True) ws (rsF (mtF bs) (mtF cs) bs.length)) ?_ ?_
  ·nofun;exact⟨bs,cs,rfl,T,λl ws H1 nl s1 hl rf=>⟨l,ws,rfl,s1,hl,rf.imp λa o _ ha=>⟨ha,trivial⟩⟩⟩
  rintro σ H1 ⟨l,ws,rfl,s1,hl,rf⟩;nofun;refine⟨λm σ H'=>∃bs' l ws x3 x4 x5 x6 x7 x8 x9 x10,σ=[some (.str (wd bs')),some (.str (wd cs)),some (.ref l),x3,x4,x5,x6,x7,x8,x9,x10]/\aX H H'/\H' l=some (.lst ws)/\m7 H' (λa=>True) ws (rsF (mtF bs') (mtF cs) bs'.length)/\jX bs' cs/\bs'.length=bs.length/\m=(rsF (mtF bs') (mtF cs) bs'.length).length,⟨_,bs,l,ws,_,_,_,_,_,_,_,_,rfl,s1,hl,rf,T,rfl,rfl⟩,?_⟩;clear hl rf s1;rintro m σ H1 ⟨bs',l,ws,x3,x4,x5,x6,x7,x8,x9,x10,rfl,s1,hl,rf,T',el,rfl⟩;have hlen:=T'.len;have wl:=rf.len;have RI:=T'.rin;have rl:=RI.len;have r80:=(oG (dj T'.bal) (by have:=dj T'.balR;rwa [T'.eq] at this) T'.len _ (aH _)).2;nofun;refine⟨_,.inl (bp.of hl),eZ (λgt=>?_) (λle=>?_)⟩
  rotate_left
  ·have h1:(rsF (mtF bs') (mtF cs) bs'.length).length=1:=by
    obtain⟨r,hr,_⟩:=RI.upto 0 (by lia);have:=jy hr;lia
   obtain⟨r,hr⟩:=jz.mp h1;exact q bs' r _ T' el hr s1
  have many:1<(rsF (mtF bs') (mtF cs) bs'.length).length:=by lia
  refine⟨_,λσ' H' h=>h,?_⟩;generalize hrs:rsF (mtF bs') (mtF cs) bs'.length=rs at *;intro d nd;refine cJ (λσ H'=>∃kvs x4 x5,σ=[some (.str (wd bs')),some (.str (wd cs)),some (.ref l),some (.ref d),x4,x5,x6,x7,x8,x9,x10]/\aX H1 H'/\H' d=some (.dK kvs)/\l9 kvs rs rs.length) ?_ ?_
  ·have s2:=(aX.refl H1).new (o:=.dK []) nd;have sz:∀k:Nat,k<=9000->k<sizeLine:=λk hk=>eF hk (by decide);nofun;refine⟨_,.inl (bp.of (s2 _ _ hl)),by lia,by lia,?_⟩;rw[show (ws.length:Int).toNat=rs.length by lia];refine eU (n:=rs.length) (λi σ H'=>∃kvs x4 x5,σ=[some (.str (wd bs')),some (.str (wd cs)),some (.ref l),some (.ref d),x4,x5,x6,x7,x8,x9,x10]/\aX H1 H'/\H' d=some (.dK kvs)/\l9 kvs rs i/\kvs.length<=80*i) ⟨[],_,_,rfl,s2,aC,λj r hj=>by lia,bH _⟩ ?_ ?_
   ·rintro i σ H2 hi ⟨kvs,y4,y5,rfl,s2,hd,hh,hk⟩;obtain⟨a,hw,ha⟩:∃a,ws[i]? = some (.ref a)/\H1 a=some (.lst (eY rs[i])):=by
     have h1:ws[i]? = some ws[i]:=aL (by lia);obtain⟨r,h2,a,e,h3,_⟩:=L2.fe rf h1;rw[aL hi] at h2;cases h2;exact⟨a,by rw[h1,e],h3⟩
    have hr:rs[i]? = some rs[i]:=aL hi;have r8:=r80 rs[i] (List.getElem_mem hi);generalize rs[i]=r at ha hr r8;nofun;rw[dC];refine⟨_,_,bp.of (s2 _ _ hl),gJ hw,a,rfl,⟨_,bp.of (s2 _ _ ha)⟩,gz (xs:=eY r) (λt σ H'=>∃kvs x5,σ=[some (.str (wd bs')),some (.str (wd cs)),some (.ref l),some (.ref d),some (.int i),x5,x6,x7,x8,x9,x10]/\aX H1 H'/\H' d=some (.dK kvs)/\l9 kvs rs i/\(∀y∈r.take t,cW kvs (.inl (y:Int))=some (.int (i:Nat)))/\kvs.length<=80*i+t) ⟨kvs,_,rfl,s2,hd,hh,λy hy=>by simp at hy,hk⟩ (λt σ H' _ ⟨_,_,_,s',_⟩=>bp.of (s' _ _ ha)) ?_ ?_⟩
    ·rintro t x σ H3 hx ⟨kvs,z5,rfl,s3,hd3,hh3,ht3,hk3⟩;obtain⟨y,hy,rfl⟩:∃y,r[t]? = some y/\x=.int (y:Nat):=by
      unfold eY at hx;rw[bD] at hx;cases e:r[t]? with
      | none=>rw[e] at hx;cases hx
      | some y=>rw[e] at hx;cases hx;exact⟨y,rfl,rfl⟩
     have tl:=(aE.mp hy).1;have pl:=c9 kvs (.inl (y:Int):Key) (.int (i:Nat));have pp:=hh3.put ht3 RI.rn.apart hr hy;nofun;exact⟨_,nQ.k (k:=.inl (y:Int)) hd3 (sz _ (by lia)),_,_,rfl,s3.new nd,aC,pp.1,pp.2,by lia⟩
    ·rintro σ H3 ⟨kvs,z5,rfl,s3,hd3,hh3,ht3,hk3⟩;have e:(eY r).length=r.length:=by unfold eY;rw[aF]
     rw[e] at ht3 hk3;rw[bv] at ht3;exact⟨kvs,_,_,rfl,s3,hd3,hh3.up hr ht3,by lia⟩
   ·rintro σ H2 ⟨kvs,y4,y5,rfl,s2,hd,hh,hk⟩;exact⟨kvs,_,_,rfl,s2,hd,hh⟩
  rintro σ H2 ⟨kvs,y4,y5,rfl,s2,hd,hh⟩;subst hrs;refine cJ (λσ H'=>∃p:Nat,σ=[some (.str (wd bs')),some (.str (wd cs)),some (.ref l),some (.ref d),y4,y5,some (.int p),x7,x8,x9,x10]/\aX H1 H'/\p+1<bs'.length/\nZ (rsF (mtF bs') (mtF cs) bs'.length) p≠nZ (rsF (mtF bs') (mtF cs) bs'.length) (p+1)) ?_ ?_
  ·nofun;refine⟨by rw[bK];exact aS (ai (by lia)),by rw[bK];lia,by rw[bK];lia,?_⟩;rw[bK,show (((bs'.length:Nat):Int) - 1).toNat=bs'.length - 1 by lia];refine ur (n:=bs'.length - 1) (λi ys σ H'=>ys=((List.range i).filter λx=>decide (nZ (rsF (mtF bs') (mtF cs) bs'.length) x≠nZ (rsF (mtF bs') (mtF cs) bs'.length) (x+1))).map (λx:Nat=>V.int x)/\H'=H2/\∃xa:Option V,σ=[xa,some (.ref d)]) ⟨rfl,rfl,_,rfl⟩ ?_ (aS (ai (by lia))) ?_ ?_
   ·rintro i ys σ H' ⟨rfl,_⟩;rw[aF];exact bd (gT _ _) (by simp)
   ·rintro i ys σ H' N hi ⟨rfl,rfl,xa,rfl⟩ hN;have v1:=tP T' hh (x:=i) (by lia);have v2:=tP T' hh (x:=i+1) (by lia);rw[dC];have g1:=fW.k (k:=.inl (i:Int)) hd;rw[v1] at g1;have g2:=fW.k (k:=.inl ((i+1:Nat):Int)) hd;rw[v2] at g2;nofun;refine⟨_,g1,_,g2,?_⟩;nofun;have nx:∀ys',ys'=((List.range (i+1)).filter λx=>decide (nZ (rsF (mtF bs') (mtF cs) bs'.length) x≠nZ (rsF (mtF bs') (mtF cs) bs'.length) (x+1))).map (λx:Nat=>V.int x)->N ys' [some (.int i),some (.ref d)] H':=λys' e=>hN _ _ _ ⟨e,rfl,_,rfl⟩;rw[f7,eG,cG] at nx;refine rK ⟨_,rfl,?_⟩;by_cases e:nZ (rsF (mtF bs') (mtF cs) bs'.length) i=nZ (rsF (mtF bs') (mtF cs) bs'.length) (i+1)
    rotate_left
    ·refine tO (by simp;lia) (nx _ ?_);rw[List.filter_cons,MO (decide_eq_true (p:=nZ (rsF (mtF bs') (mtF cs) bs'.length) i≠nZ (rsF (mtF bs') (mtF cs) bs'.length) (i+1)) (by lia))];rfl
    ·refine nY (by simp;lia) (nx _ ?_);rw[List.filter_cons,MN (by simp;lia)];simp
   ·rintro ys σ H' pn ⟨rfl,rfl,xa,rfl⟩ npn;obtain⟨p0,hp0,un0⟩:=A8 T' many;have m0:p0∈(List.range (bs'.length - 1)).filter (λx=>decide (nZ (rsF (mtF bs') (mtF cs) bs'.length) x≠nZ (rsF (mtF bs') (mtF cs) bs'.length) (x+1))):=bY.mpr ⟨aU.mpr hp0,decide_eq_true un0⟩;generalize hf:(List.range (bs'.length - 1)).filter (λx=>decide (nZ (rsF (mtF bs') (mtF cs) bs'.length) x≠nZ (rsF (mtF bs') (mtF cs) bs'.length) (x+1)))=fs at m0 ⊢;cases fs with
    | nil=>cases m0
    | cons p fs=>
     have mp:p∈(List.range (bs'.length - 1)).filter (λx=>decide (nZ (rsF (mtF bs') (mtF cs) bs'.length) x≠nZ (rsF (mtF bs') (mtF cs) bs'.length) (x+1))):=by rw[hf];exact aw
     obtain⟨m1,m2⟩:=bY.mp mp;have m1:=aU.mp m1;exact⟨pn,_,0,_,rfl,rfl,bp.of aC,gJ (j:=0) rfl,p,rfl,s2.new (s2.free npn),by lia,MR m2⟩
  rintro σ H3 ⟨p,rfl,s3,hp,un⟩;have ot:=yp T' hp (A7 T' hp un);have t:=zA T'.bal hp ot.1;nofun;refine⟨bs',rfl,T'.bal,T'.len,λd2 k2 H4 n2 s4 h2 dc=>?_⟩;have g1:=fW.k (k:=.inl (p:Int)) h2;rw[dc p (by lia)] at g1;have g2:=fW.k (k:=.inl ((p+1:Nat):Int)) h2;rw[dc (p+1) hp] at g2;nofun;refine⟨_,g1,_,g2,?_⟩;nofun;have l1:=t.P.lt p (by lia);have l2:=t.P.lt (p+1) hp;refine⟨by rw[uz];lia,λg ng=>?_⟩;rw[AX];have s5:=(aX.refl H4).new (o:=.lst ((bs'.map sgn).map V.str)) ng;refine qm (b:=true) (i:=p) aC rfl (by lia) ?_;refine qm (b:=false) (i:=p+1) aC rfl (by simpa using hp) ?_;refine qm (b:=true) (i:=min (mtF bs' p) (mtF bs' (p+1))) aC (by split<;>lia) (by simp;lia) ?_;refine qm (b:=false) (i:=max (mtF bs' p) (mtF bs' (p+1))) aC (by split<;>lia) (by simp;lia) ?_;rw[zy T'.bal t rfl rfl];have T2:=vR T' t;refine⟨rfl,_,g,_,rfl,rfl,bp.of aC,uM (by have:=T2.len;lia),?_⟩;rw[tK];refine⟨_,cs,rfl,T2,λl' ws' H6 nl' s6 hl' rf'=>⟨_,?_,tnW bs' p,l',ws',_,_,_,_,_,_,_,_,rfl,?_,hl',rf'.imp λa o _ ha=>⟨ha,trivial⟩,T2,by rw[vS];exact el,rfl⟩⟩
  ·have:=ot.2;lia
  ·exact s1.trans (s3.trans (s4.trans ((((((aX.refl H4).new ng).new ng).new ng).new ng).new ng |>.trans s6)))
theorem pA {t6 d7:Addr} (B:nS mg) (E:Fn K mg "_law_opened_good" eQ ["_law_left","_law_right"]) (Gd:lV P w K mg base 5 "opened" gn ["left","right"] (oF t6 d7)) (IH:eO P w K mg base 2 "_law_drawable" gZ ["_law_maze"] BQ) (GJ:eO P w K mg base 1 "_law_across" gq ["_law_word_here"] gV) (Iv:eO P w K mg base 6 "closed" j9 ["maze"] qD):eO P w K mg base 7 "_law_opened_good" eQ ["_law_left","_law_right"] vY:=E.mk' λf fd F=>by
 refine F.okS c7 (λvs H Q E h=>?_) (λcdv A outer s H vs Q E hr h=>?_)
 ·obtain⟨bs,cs,r,rfl,_⟩:=h;rfl
 ·obtain⟨bs,cs,r,rfl,T,pos,l20,hrs,q⟩:=h;have two:(2:Nat)<=sizeLine:=by decide
  obtain⟨Y,er⟩:=Cz (dj T.bal) (by have:=dj T.balR;rwa [T.eq] at this) (pD T.bal) (by have:=pD T.balR;rwa [T.eq] at this) T.len pos hrs;obtain⟨nc,O,w1,w2⟩:=Y.words T l20;have eo:yx (r.drop 1)=lX (rO (mtF bs) (mtF cs)) bs.length:=by rw[er,C9 pos]
  have hl:=mT (c:=rO (mtF bs) (mtF cs)) pos;generalize rO (mtF bs) (mtF cs)=c at *;refine⟨[some (.str (wd bs)),some (.str (wd cs)),none,none,none,none,none,none],_,rfl,(L2.iL.h (c8 (aV (i:=2) c7.nd rfl (Or.inl rfl) (qL Gd (hr.mono (by decide)) (by rfl) (aB (a9 0) (aB (a9 1) aA))))
   (aG (aV (i:=3) c7.nd rfl (Or.inl rfl) (aR dA (by rfl) B.len aj (aB (a9 0) aA)))
   (c8 (be (QW.pt (gE (dQ (dP (aR gI (by rfl) B.isinstance aN (aB (a9 2) (aB (fV (v:=.ty "tuple") (by rfl) B.tuple bn rfl) aA))))) (gE (bC mS (aR bV (by rfl) B.len aj (aB (a9 2) aA)) aJ (bS _)) (gE (bC mS (bW cw (a9 2) aJ (λ_ _=>rfl)) bT (bS _)) (fY (dQ (dP (aR gI (by rfl) B.isinstance aN (ah (bW cw (a9 2) aJ (λ_ _=>rfl)) (aB (fV (v:=.ty "tuple") (by rfl) B.tuple bn rfl) aA))))))))))
   (aI (am dH))
   bQ)
   (c8 (be (QW.pt (gE (bC (qw (kK hr)) (aR jO (by rfl) B.sorted bh (ah (bW cw (a9 2) aJ (λ_ _=>rfl)) aA)) (cf (jW rfl) (by rfl) B.list bu (oo (cf qY (by rfl) B.range fx (au aJ (aB (a9 3) aA))) aA)) (bS _)) (fY (dQ (dP (aW IH (hr.mono (by decide)) (by rfl) (aB (a9 2) aA)))))))
   (aI (am dH))
   bQ)
   (aG (aV (i:=4) c7.nd rfl (Or.inl rfl) (aW GJ (hr.mono (by decide)) (by rfl) (aB (a9 0) aA)))
   (aG (aV (i:=5) c7.nd rfl (Or.inl rfl) (aW GJ (hr.mono (by decide)) (by rfl) (aB (a9 1) aA)))
   (aG (aV (i:=6) c7.nd rfl (Or.inl rfl) aJ)
   (aG (cZ al rfl (ce (by rfl) B.range (dE (bB mz (a9 3) aJ) aA)) (bG (i:=7) c7.nd rfl (Or.inl rfl))
   (aG (aV (i:=6) c7.nd rfl (Or.inl rfl) (cq (gx hr) (bW d9 (cB (aB (a9 4) (aB (a9 5) aA))) (bB iA (a9 7) aJ) (λ_ _=>rfl)) (a9 6) (λ_ _=>rfl)))
    (aI (be (bC mS (bW cw (bW cw (a9 2) aJ (λ_ _=>rfl)) (a9 7) (λ_ _=>rfl)) (a9 6) (bS _))
    (aI (am dH))
    bQ))))
   (aI (am (jI (fU (nB (kK hr)) (cq (gx hr) (a9 5) (a9 6) (λ_ _=>rfl)) aJ (bS _)) (jq (fU (nB (kK hr)) (aW Iv (hr.mono (by decide)) (by rfl) (aB (a9 2) aA)) (dS (aB (a9 0) (aB (a9 1) aA))) (bS _))))))))))))))),?_⟩
  refine cJ (λσ H'=>∃m o,σ=[some (.str (wd bs)),some (.str (wd cs)),some (.ref m),none,none,none,none,none]/\aX H H'/\fR H' m o false (lX c bs.length)) ?_ ?_
  ·nofun;exact⟨_,_,_,_,rfl,.str _,mj T.len,.str _,mj (by rw[T.eq];exact T.len),.inl ⟨bs,cs,rfl,rfl,T,λz=>absurd (by rw[hrs];rfl) z,λz=>by lia,λr' hr' _ m o H1 s1 hm=>by rw[hrs] at hr';cases hr';rw[eo] at hm;exact⟨m,o,rfl,s1,hm⟩⟩⟩
  rintro σ H1 ⟨m,o,rfl,s1,hm⟩;nofun;have ev:=Y.ev;have lr:∀z:Str,z=wd bs->z.length=bs.length:=λz e=>by rw[e,bK]
  refine⟨by rw[bK];exact aS (ai (by lia)),?_⟩;rw[bK];refine cJ (λσ H'=>σ=[some (.str (wd bs)),some (.str (wd cs)),some (.ref m),some (.int bs.length),none,none,none,none]/\H1=H') ?_ ?_
  ·nofun;refine ft hm.dat ⟨true,rfl,nY (by decide) ⟨_,.inr (cg.of hm.1),nY (λz=>z rfl) ⟨_,_,cg.of hm.1,rfl,?_⟩⟩⟩;nofun;refine nY (λz=>z rfl) ⟨_,_,cg.of hm.1,rfl,ft (.tup hm.2 (kt _)) ⟨true,rfl,nY (by decide) ⟨trivial,rfl⟩⟩⟩
  rintro σ H' ⟨rfl,rfl⟩;refine cJ (λσ H'=>σ=[some (.str (wd bs)),some (.str (wd cs)),some (.ref m),some (.int bs.length),none,none,none,none]/\aX H1 H') ?_ ?_
  ·nofun;refine⟨_,_,cg.of hm.1,rfl,o,_,rfl,.inr (cg.of hm.2),by lia,λl5 ms n5 hp hs=>?_⟩;nofun;have s5:=(aX.refl H1).new (o:=.lst (ms.map V.int)) n5;refine λp6 n6=>⟨_,_,aC,⟨by decide,by decide,by lia,by lia,by lia⟩,λl7 n7=>?_⟩
   have s6:=s5.new (o:=.rng 1 (bs.length:Int)) (s5.free n6);have n56:l5≠p6:=λe=>by subst e;rw[aC] at n6;cases n6
   have n57:l5≠l7:=λe=>by subst e;rw[aK n56,aC] at n7;cases n7
   have e1:=mI hp hs;rw[dZ.mpr O.perm] at e1;have e1:=MR e1;have e2:((bs.length:Int) - 1).toNat=(lX c bs.length).length:=by lia
   refine rJ (d:=.list (ms.map PyData.int)) (.lst (by rw[aK n57,aK n56,aC]) (kt _)) (.lst (by rw[aC,e2,<-e1]) (kt _)) (fF _) (by show PyData.depthAll (ms.map PyData.int)+1<=60;rw[jv];decide) ⟨_,rfl,nY (by decide) ?_⟩;have s7:=s6.new (o:=.lst ((dW 1 ((bs.length:Int) - 1).toNat).map V.int)) (s6.free n7);refine⟨m,o,false,_,rfl,hm.same s7,by lia,λH8 s8=>⟨_,rfl,?_⟩⟩;rw[Ce nc];exact nY (by decide) ⟨trivial,s7.trans s8⟩
  rintro σ H2 ⟨rfl,s2⟩;nofun;refine⟨bs,rfl,T.bal,T.len,λd1 k1 H3 n3 s3 h3 dc1=>⟨cs,rfl,T.balR,by rw[T.eq];exact T.len,λd2 k2 H4 n4 s4 h2 dc2=>?_⟩⟩;rw[T.eq] at dc2;have s14:=s2.trans (s3.trans s4);have h1:=s4 _ _ h3;clear s2 s3 s4 h3;nofun;refine⟨by lia,by lia,?_⟩;rw[show ((bs.length:Int) - 1).toNat=bs.length - 1 by lia];refine eU (n:=bs.length - 1) (λi σ H'=>∃x7,σ=[some (.str (wd bs)),some (.str (wd cs)),some (.ref m),some (.int bs.length),some (.ref d1),some (.ref d2),some (.int (c i:Nat)),x7]/\aX H4 H') ⟨_,by rw[Y.c0];rfl,aX.refl _⟩ ?_ ?_
  ·rintro i σ H5 hi ⟨x7,rfl,s5⟩;have hc:=Y.lt i (by lia);nofun;rw[dC];refine⟨two,λp np=>⟨by decide,?_⟩⟩;have s6:=s5.trans ((aX.refl H5).new (o:=.lst [.ref d1,.ref d2]) np);have gp:bU H5 p (.lst [.ref d1,.ref d2]) p=some (.lst [.ref d1,.ref d2]):=aC;generalize bU H5 p (.lst [.ref d1,.ref d2])=H6 at s6 gp ⊢;have hg:∀u,bj false u i=true->∃d,[V.ref d1,.ref d2][i % 2]? = some (.ref d)/\fW H6 d (.int (c i:Nat)) (some (.int (c (i+1):Nat))):=λu hu=>by
    have mt:=Y.mt u i (by lia) hu;unfold bj odd at hu;cases u with
    | false=>
     have g:=fW.k (k:=.inl ((c i:Nat):Int)) (s6 _ _ h1);rw[dc1 _ hc,show mtF bs (c i)=c (i+1) from mt] at g;refine⟨d1,?_,g⟩;rcases dL i with z | z<;>rw[z] at hu ⊢<;>first | rfl | cases hu
    | true=>
     have g:=fW.k (k:=.inl ((c i:Nat):Int)) (s6 _ _ h2);rw[dc2 _ hc,show mtF cs (c i)=c (i+1) from mt] at g;refine⟨d2,?_,g⟩;rcases dL i with z | z<;>rw[z] at hu ⊢<;>first | rfl | cases hu
   obtain⟨dd,e1,g⟩:=hg (odd i) (by unfold bj;simp);have hm6:=hm.same (s14.trans s6);have er2:((lX c bs.length).map V.int)[i]? = some (.int (c (i+1):Nat)):=by
    unfold lX;rw[bx,bD,iN hi];rfl
   refine⟨_,_,bp.of gp,by rw[show (i:Int) % 2=((i % 2:Nat):Int) by lia];exact gJ e1,dd,_,rfl,g,_,_,cg.of hm6.1,rfl,o,_,_,_,rfl,rfl,cg.of hm6.2,gJ er2,?_⟩;nofun;exact nY (λz=>z trivial) ⟨_,rfl,s6⟩
  ·rintro σ H5 ⟨x7,rfl,s5⟩;nofun;have g:=fW.k (k:=.inl ((c (bs.length - 1):Nat):Int)) (s5 _ _ h2);have mt:=Y.mt true (bs.length - 1) (by lia) (by unfold bj odd;rw[show (bs.length - 1) % 2=1 by lia];rfl);rw[dc2 _ (Y.lt _ (by lia)),show mtF cs (c (bs.length - 1))=c (bs.length - 1+1) from mt,show bs.length - 1+1=bs.length by lia,Y.cn] at g;refine⟨_,g,rK ⟨_,rfl,tO rfl ?_⟩⟩;refine⟨m,o,false,_,bs.length / 2,rfl,hm.same (s14.trans s5),O,nc,by lia,λt H6 s6 wt=>⟨two,λp np=>?_⟩⟩;unfold EZ at wt;rw[w1,w2] at wt;have s7:=(aX.refl H6).new (o:=.tup [.str (wd bs),.str (wd cs)]) np;have ly:(PyData.tuple [.str (wd bs),.str (wd cs)]).canLay0=true:=by
    show (PyData.strOk (wd bs)&&(PyData.strOk (wd cs)&&true))=true;rw[show PyData.strOk (wd bs)=true from xW _,show PyData.strOk (wd cs)=true from xW _];rfl
   exact rJ (d:=.tuple [.str (wd bs),.str (wd cs)]) (.tup (s7 _ _ wt) (.cons (.str _) (.cons (.str _) .nil))) (.tup aC (.cons (.str _) (.cons (.str _) .nil))) ly (by show 1+max 0 (max 0 0)<=60;decide) (q _ (s1.trans (s14.trans (s5.trans (s6.trans s7)))))
theorem Cb (B:nS mg) (E:Fn K mg "law" mL ["_law_script"]) (Gy:eO P w K mg base 1 "_law_cell_at" i3 ["_law_script","_law_k"] (v5 K)) (JV:eO P w K mg base 2 "_law_word" mq ["_law_cell","_law_ends"] vV) (G2:eO P w K mg base 2 "_law_rounds" f9 ["_law_left","_law_right"] mm) (IY:eO P w K mg base 6 "_law_said" lm ["_law_left","_law_right"] qj) (HV:eO P w K mg base 6 "_law_by_any" i9 ["_law_left","_law_right"] uL) (IE:eO P w K mg base 7 "_law_refused" iW ["_law_left","_law_right"] yZ) (Hl:eO P w K mg base 3 "_law_one_round" fm ["_law_left","_law_right"] y0) (HQ:eO P w K mg base 7 "_law_opened_good" eQ ["_law_left","_law_right"] vY):eO P w K mg base 8 "law" mL ["_law_script"] (sE K):=E.mk' λf fd F=>by
 refine F.okS jU (λvs H Q E h=>?_) (λcdv A outer s H vs Q E hr h=>?_)
 ·obtain⟨a,ns,rfl,_⟩:=h;rfl
 ·obtain⟨a,cz,rfl,hS,hlen,kQ⟩:=h;have two:(2:Nat)<=sizeLine:=by decide
  refine⟨[some (.ref a),none,none,none,none,none,none,none],_,rfl,(L2.iL.h (aG (aV (i:=1) jU.nd rfl (Or.inl rfl) (aW Gy (hr.mono (by decide)) (by rfl) (aB (a9 0) (au aJ aA))))
   (aG (aV (i:=2) jU.nd rfl (Or.inl rfl) (bB jr aJ (bB iA (a9 1) aJ)))
   (c8 (be (bC ig (bB iA (bB oJ (a9 1) aJ) aJ) aJ (bS _))
   (aI (aV (i:=2) jU.nd rfl (Or.inl rfl) (bB fQ aJ (bB jr aJ (bB iA (bB oJ (a9 1) aJ) aJ)))))
   bQ)
   (c8 (aV (i:=3) jU.nd rfl (Or.inl rfl) (aW JV (hr.mono (by decide)) (by rfl) (ba (aW Gy (hr.mono (by decide)) (by rfl) (aB (a9 0) (au aJ aA))) (aB (a9 2) aA))))
   (c8 (aV (i:=4) jU.nd rfl (Or.inl rfl) (aW JV (hr.mono (by decide)) (by rfl) (ba (aW Gy (hr.mono (by decide)) (by rfl) (aB (a9 0) (au aJ aA))) (aB (a9 2) aA))))
   (aG (aV (i:=5) jU.nd rfl (Or.inl rfl) (aW Gy (hr.mono (by decide)) (by rfl) (aB (a9 0) (au aJ aA))))
   (c8 (aV (i:=6) jU.nd rfl (Or.inl rfl) (bW d9 (cB (dE (bB ii (a9 3) bT) (au gh (au aJ (dE (bB ii bT (a9 3)) (oq (cB (aB (a9 3) aA)) (dE (bB ii (a9 3) bT) (g6 (dS (au bT aA)) aA)))))))) (bB iA (a9 5) aJ) (λ_ _=>rfl)))
   (c8 (cZ al rfl (dr (cB (g6 (dS (aB (a9 6) (aB (a9 4) aA))) (g6 (dS (aB (a9 4) (aB (a9 6) aA))) aA)))) (bG (i:=7) jU.nd rfl (Or.inl rfl))
   (aI (be (QW.pt (gE (bC (qw (kK hr)) (aW IY (hr.mono (by decide)) (by rfl) (ah (bW cw (a9 7) aJ (λ_ _=>rfl)) (ah (bW cw (a9 7) aJ (λ_ _=>rfl)) aA))) (dS (au bT (au gh aA))) (bS _)) (fY (dQ (dP (aW HV (hr.mono (by decide)) (by rfl) (ah (bW cw (a9 7) aJ (λ_ _=>rfl)) (ah (bW cw (a9 7) aJ (λ_ _=>rfl)) aA))))))))
    (aI (am dH))
    bQ)))
   (c8 (be (QW.pt (vc (bC mS (aR bV (by rfl) B.len aj (ba (aW G2 (hr.mono (by decide)) (by rfl) (aB (a9 3) (aB (a9 4) aA))) aA)) aJ (bS _)) (sO (dQ (dP (aW IE (hr.mono (by decide)) (by rfl) (aB (a9 3) (aB (a9 4) aA))))))))
   (aI (am dH))
   bQ)
   (c8 (be (bC (nB (kK hr)) (a9 2) aJ (bS _))
   (aI (am dH))
   bQ)
   (c8 (aV (i:=3) jU.nd rfl (Or.inl rfl) (aW Hl (hr.mono (by decide)) (by rfl) (aB (a9 3) (aB (a9 4) aA))))
   (aG (be (bC qM (a9 2) aJ (bS _))
   (aI (am (aW IE (hr.mono (by decide)) (by rfl) (aB (a9 3) (aB (a9 4) aA)))))
   bQ)
   (aI (am (aW HQ (hr.mono (by decide)) (by rfl) (aB (a9 3) (aB (a9 4) aA)))))))))))))))))),?_⟩
  nofun;refine⟨a,cz,0,rfl,hS,λsd=>?_⟩;nofun;refine⟨by decide,.inl ⟨by decide,by decide⟩,?_⟩;refine cJ (λσ H'=>∃m:Nat,σ=[some (.ref a),some (.int sd),some (.int ((2*m:Nat):Int)),none,none,none,none,none]/\H=H'/\m<=20) ?_ ?_
  ·have r0:0<=sd % 11:=kN _ (by decide);have r1:sd % 11<11:=ir _ (by decide);have r2:0<=sd / 88 % 10:=kN _ (by decide);have r3:sd / 88 % 10<10:=ir _ (by decide);nofun;refine⟨⟨by decide,by decide⟩,by decide,eZ (λ_=>⟨⟨by decide,by decide⟩,by decide,.inl ⟨by decide,by decide⟩,?_⟩) (λ_=>?_)⟩
   ·generalize sd / 88 % 10=k at r2 r3;exact⟨11+k.toNat,by rw[show ((2*(11+k.toNat):Nat):Int)=22+2*k by lia],trivial,by lia⟩
   ·generalize sd % 11=k at r0 r1;exact⟨k.toNat,by rw[show ((2*k.toNat:Nat):Int)=2*k by lia],trivial,by lia⟩
  rintro σ H' ⟨m,rfl,rfl,m20⟩;refine cJ (λσ H'=>∃bs,σ=[some (.ref a),some (.int sd),some (.int ((2*m:Nat):Int)),some (.str (wd bs)),none,none,none,none]/\aX H H'/\kd bs/\bs.length=2*m) ?_ ?_
  ·nofun;exact⟨a,cz,1,rfl,hS,λc1=>⟨_,m,rfl,m20,λbs H1 bal bl s1=>⟨bs,rfl,s1,bal,bl⟩⟩⟩
  rintro σ H1 ⟨bs,rfl,s1,bal,bl⟩;refine cJ (λσ H'=>∃cs,σ=[some (.ref a),some (.int sd),some (.int ((2*m:Nat):Int)),some (.str (wd bs)),some (.str (wd cs)),none,none,none]/\aX H H'/\jX bs cs) ?_ ?_
  ·nofun;exact⟨a,cz,2,rfl,s1.seq hS,λc2=>⟨_,m,rfl,m20,λcs H2 balR cl s2=>⟨cs,rfl,s1.trans s2,bal,balR,by lia,by lia⟩⟩⟩
  clear s1;rintro σ H1 ⟨cs,rfl,s1,T⟩;have hl:=T.len;have tb:=mj T.len;have tc:fv (rY cs):=mj (by rw[T.eq];exact T.len);nofun;refine⟨a,cz,3,rfl,s1.seq hS,λc3=>?_⟩;refine cJ (λσ H'=>∃v d,σ=[some (.ref a),some (.int sd),some (.int ((2*m:Nat):Int)),some (.str (wd bs)),some (.str (wd cs)),some (.int c3),some v,none]/\aX H1 H'/\Dat H' v d/\xN d cs) ?_ ?_
  ·have hlw:(wd bs).length<=40:=by rw[bK];exact hl
   have sz1:∀z:Str,z.length<=10->(wd bs).length+z.length<=sizeLine/\z.length+(wd bs).length<=sizeLine:=λz hz=>⟨aS (ai (by lia)),aS (ai (by lia))⟩
   refine DI (zR (ds:=[.str (wd bs++Str.ofString "("),.none,.int 7,.str (Str.ofString ")"++wd bs),.list [.str (wd bs)],.str (wd bs++Str.ofString "()"),.tuple [.str (Str.ofString "()")]]) ?_ (by show 7<=1000;decide) (λH' Q' s' hj=>?_) λv d H' s' hm hd=>?_)
   ·refine(.cons (D1.txt λH Q s h=>?_) (.cons .non (.cons (.int 7) (.cons (D1.txt λH Q s h=>?_) (.cons (DE.lst (.cons (D1.txt λH Q s h=>?_) .nil) (by show 1<=1000;decide)) (.cons (D1.txt λH Q s h=>?_) (.cons (DE.tup (.cons (.str _) .nil) (by decide)) .nil)))))))
    ·nofun;exact⟨(sz1 _ (by decide +kernel)).1,h⟩
    ·nofun;exact⟨(sz1 _ (by decide +kernel)).2,h⟩
    ·nofun;exact h
    ·nofun;exact⟨(sz1 _ (by decide +kernel)).1,h⟩
   ·nofun;exact⟨by decide,hj _ (kN _ (by decide)) (ir _ (by decide))⟩
   ·refine⟨v,d,rfl,s',hd,?_⟩;have e:=T.eq;simp only[aZ,cX,or_false] at hm;rcases hm with rfl | rfl | rfl | rfl | rfl | rfl | rfl
    ·exact(vk hl e (by decide +kernel) (by decide +kernel)).1
    ·exact rC trivial rfl
    ·exact rC trivial rfl
    ·exact(vk hl e (by decide +kernel) (by decide +kernel)).2
    ·exact rC trivial rfl
    ·exact Cc hl e
    ·exact rC trivial rfl
  rintro σ H2 ⟨v,d,rfl,s2,hd,ow⟩;refine cJ (λσ H'=>∃x7,σ=[some (.ref a),some (.int sd),some (.int ((2*m:Nat):Int)),some (.str (wd bs)),some (.str (wd cs)),some (.int c3),some v,x7]/\aX H2 H') ?_ ?_
  ·nofun;refine⟨two,λp1 n1=>⟨two,λp2 n2=>⟨two,λp3 n3=>?_⟩⟩⟩;have u1:=(aX.refl H2).new (o:=.tup [v,.str (wd cs)]) n1;have u2:=(aX.refl _).new (o:=.tup [.str (wd cs),v]) n2;have u3:=(aX.refl _).new (o:=.lst [.ref p1,.ref p2]) n3;have g1:=(u2.trans u3) _ _ (aC (H:=H2));have g2:=u3 _ _ aC;have g3:bU (bU (bU H2 p1 (.tup [v,.str (wd cs)])) p2 (.tup [.str (wd cs),v])) p3 (.lst [.ref p1,.ref p2]) p3=some (.lst [.ref p1,.ref p2]):=aC;have s3:=u1.trans (u2.trans u3);generalize bU (bU (bU H2 p1 (.tup [v,.str (wd cs)])) p2 (.tup [.str (wd cs),v])) p3 (.lst [.ref p1,.ref p2])=H3 at s3 g1 g2 g3 ⊢;clear u1 u2 u3 n1 n2 n3;refine⟨⟨_,bp.of g3⟩,gz (xs:=[.ref p1,.ref p2]) (λi σ H'=>∃x7,σ=[some (.ref a),some (.int sd),some (.int ((2*m:Nat):Int)),some (.str (wd bs)),some (.str (wd cs)),some (.int c3),some v,x7]/\aX H3 H') ⟨_,rfl,aX.refl _⟩ (λi σ H' _ ⟨_,_,s'⟩=>bp.of (s' _ _ g3)) ?_ ?_⟩
   ·rintro i x σ H4 hx ⟨x7,rfl,s4⟩;obtain⟨p,y,z,dy,dz,rfl,g,hy,ty,hz,tz,no⟩:∃p y z dy dz,x=.ref p/\H4 p=some (.tup [y,z])/\Dat H4 y dy/\fv dy/\Dat H4 z dz/\fv dz/\Am dy dz "word":=by
     have hd4:=hd.same (s3.trans s4)
     match i,hx with
     | 0,hx=>cases hx;exact⟨p1,_,_,_,_,rfl,s4 _ _ g1,hd4,ow.1,.str _,tc,.inl ⟨ow.2.1,rfl⟩⟩
     | 1,hx=>cases hx;exact⟨p2,_,_,_,_,rfl,s4 _ _ g2,.str _,tc,hd4,ow.1,.inl ⟨ow.2.2,rfl⟩⟩
     | j+2,hx=>simp at hx
    nofun;refine⟨_,_,cg.of g,rfl,_,_,cg.of g,rfl,y,z,dy,dz,_,rfl,hy,ty,hz,tz,no,λp5 H5 s5 sy=>⟨two,λp6 n6=>?_⟩⟩;have s6:=(aX.refl H5).new (o:=.tup [V.str (Str.ofString "word"),V.non]) n6;refine rJ (d:=.tuple [.str (Str.ofString "word"),.none]) (.tup (s6 _ _ sy) (.cons (.str _) (.cons .non .nil))) (.tup aC (.cons (.str _) (.cons .non .nil))) (by decide +kernel) (by decide +kernel) ⟨_,rfl,nY (by decide) ?_⟩;have s56:=s5.trans s6;refine⟨_,_,cg.of (s56 _ _ g),rfl,_,_,cg.of (s56 _ _ g),rfl,y,z,dy,dz,_,rfl,hy.same s56,ty,hz.same s56,tz,no,λH7 s7=>⟨_,rfl,nY (by decide) ⟨_,rfl,s4.trans (s56.trans s7)⟩⟩⟩
   ·rintro σ H4 ⟨x7,rfl,s4⟩;exact⟨_,rfl,s3.trans s4⟩
  rintro σ H3 ⟨x7,rfl,s3⟩;refine cJ (λσ H'=>σ=[some (.ref a),some (.int sd),some (.int ((2*m:Nat):Int)),some (.str (wd bs)),some (.str (wd cs)),some (.int c3),some v,x7]) ?_ ?_
  ·nofun;refine⟨bs,cs,rfl,T,λl ws H4 nl s4 hl4 rf=>⟨l,_,rfl,.inl (bp.of hl4),?_⟩⟩;rw[rf.len];refine eZ (λe=>⟨bs,cs,rfl,T,.inl (by lia),λH5 s5=>⟨_,rfl,nY (by decide) trivial⟩⟩) (λ_=>trivial)
  rintro σ H4 rfl;refine cJ (λσ H'=>σ=[some (.ref a),some (.int sd),some (.int ((2*m:Nat):Int)),some (.str (wd bs)),some (.str (wd cs)),some (.int c3),some v,x7]/\0<bs.length) ?_ ?_
  ·nofun;refine rK ⟨_,rfl,eZ (λ_=>kQ _) (λe=>⟨trivial,?_⟩)⟩;simp at e;lia
  rintro σ H5 ⟨rfl,pos⟩;refine cJ (λσ H'=>∃bs' r,σ=[some (.ref a),some (.int sd),some (.int ((2*m:Nat):Int)),some (.str (wd bs')),some (.str (wd cs)),some (.int c3),some v,x7]/\jX bs' cs/\bs'.length=bs.length/\rsF (mtF bs') (mtF cs) bs'.length=[r]) ?_ ?_
  ·nofun;exact⟨bs,cs,rfl,T,pos,λbs' r H6 T' el hr _=>⟨bs',r,rfl,T',el,hr⟩⟩
  rintro σ H6 ⟨bs',r,rfl,T',el,hr⟩;nofun;refine eZ (λgt=>⟨bs',cs,rfl,T',.inr (by lia),λ_ _=>kQ _⟩) (λle=>⟨bs',cs,r,rfl,T',by lia,by lia,hr,λ_ _=>kQ _⟩)
end
def dv(K:MU)(x:Str)(st:Stmt):Prop:=∃(f:Addr) (oc:Value) (od an:Option Addr) (osl:Array (Option Value)) (kV doc pm cdv ct:Value),PySem.W.nsIn K mainGlobals x=some (some (.ref f))/\K.lookup f=some ⟨oc,od,.func (PySem.W.fnOf x x (jL st) (f6 st) (ae st) .none kV doc pm an cdv ct),osl⟩/\PySem.W.codeIn K cdv x=true/\PySem.W.keepIn K (.ref f)=true
theorem fnIn{K:MU}{x:Str}{st:Stmt}{f:Addr}{oc:Value}{od an:Option Addr}{osl:Array (Option Value)}{kV doc pm cdv ct:Value}(a:PySem.W.nsIn K mainGlobals x=some (some (.ref f)))(l:K.lookup f=some ⟨oc,od,.func (PySem.W.fnOf x x (jL st) (f6 st) (ae st) .none kV doc pm an cdv ct),osl⟩)(c:PySem.W.codeIn K cdv x=true)(k:PySem.W.keepIn K (.ref f)=true):dv K x st:=⟨_,_,_,_,_,_,_,_,_,_,a,l,c,k⟩
theorem cT{K:MU}{h:Heap}{mg:Str->Option Value}(X:K.In h)(G:h.Ns mainGlobals mg){x:Str}{st:Stmt}{ps:List Str}(a:dv K x st)
  (hb:∀(kV doc pm:Value) (an:Option Addr) (cdv ct:Value) (us:List Value),us.length=ps.length->bindArgs (PySem.W.fnOf x x (jL st) (f6 st) (ae st) .none kV doc pm an cdv ct) ⟨us,[]⟩=pure (ps.zip us)):Fn K mg x st ps:=
 let ⟨f,_,_,_,_,_,_,_,_,_,a,l,c,k⟩:=a
 have F:=Cw (st:=st) l c k
 ⟨f,_,F,bM X G a,F.binds hb⟩
theorem all_mk {l:PySem.W.OpenLaw} {w:World} {K:MU} {h:Heap} {mg:Str->Option Value} {fa:Addr} (X:K.In h) (G:h.Ns mainGlobals mg) (hfa:mg "law"=some (.ref fa))
  (II:dv K "crossing" fc)
  (IJ:dv K "is_whole" fb)
  (IZ:dv K "is_side" iX)
  (IK:dv K "is_order" gY)
  (I9:dv K "is_maze" iY)
  (Ia:dv K "is_word" gX)
  (JX:dv K "pairs" lI)
  (Iw:dv K "is_bow" j7)
  (HF:dv K "fills_a_word" dq)
  (Ib:dv K "word_of" iV)
  (H9:dv K "other_side" fL)
  (HG:dv K "side_of_step" dn)
  (HR:dv K "rows_of_way" eP)
  (Ic:dv K "bows_of" g0)
  (Ie:dv K "crossed" i0)
  (LI:dv K "vet" qH)
  (Hm:dv K "vet_words" fk)
  (IL:dv K "partners" gW)
  (Ha:dv K "round_from" fK)
  (Iy:dv K "rounds" j6)
  (GK:dv K "middle_put_outside" cI)
  (Iz:dv K "closed" j9)
  (JA:dv K "opened" gn)
  (JY:dv K "_law_alone" lJ)
  (Ig:dv K "_law_cell_at" i3)
  (JB:dv K "_law_digits" j8)
  (Jn:dv K "_law_word" mq)
  (Jo:dv K "_law_bows" mw)
  (Ih:dv K "_law_crosses" iZ)
  (IM:dv K "_law_drawable" gZ)
  (JC:dv K "_law_across" gq)
  (IP:dv K "_law_rounds" f9)
  (Jp:dv K "_law_said" lm)
  (JD:dv K "_law_by_any" i9)
  (Ii:dv K "_law_refused" iW)
  (Ho:dv K "_law_one_round" fm)
  (HS:dv K "_law_opened_good" eQ)
  (JE:dv K "law" mL)
  {JZ:Tok} (Hb:PySem.W.nsIn K mainGlobals "MOST_RINGS"=some (some (.int 20 JZ)))
  {J0:Tok} (Hc:PySem.W.nsIn K mainGlobals "MOST_SIGNS"=some (some (.int 40 J0)))
  {Jd:Tok} (Hq:PySem.W.nsIn K mainGlobals "MOST_ENDS"=some (some (.int 20 Jd)))
  {Fo:Addr} (Hr:PySem.W.nsIn K mainGlobals "RingError"=some (some (.ref Fo)))
  {GA:Addr} (JF:PySem.W.nsIn K mainGlobals "NoMaze"=some (some (.ref GA)))
  {Fs:Addr} (Ij:PySem.W.nsIn K mainGlobals "Crossed"=some (some (.ref Fs)))
  {t6:Addr} (Hs:PySem.W.nsIn K mainGlobals "NoWord"=some (some (.ref t6)))
  {Fp:Addr} (Ht:PySem.W.nsIn K mainGlobals "NoDrawing"=some (some (.ref Fp)))
  {GZ:Addr} (J1:PySem.W.nsIn K mainGlobals "NoBow"=some (some (.ref GZ)))
  {d7:Addr} (HW:PySem.W.nsIn K mainGlobals "NoRound"=some (some (.ref d7)))
  {GC:Addr} (JG:PySem.W.nsIn K mainGlobals "NoCode"=some (some (.ref GC)))
  {Fq:Addr} (IQ:PySem.W.nsIn K mainGlobals "NoNumber"=some (some (.ref Fq)))
  {GD:Addr} (JH:PySem.W.nsIn K mainGlobals "NoName"=some (some (.ref GD)))
  {G0:Addr} (J3:PySem.W.nsIn K mainGlobals "NoRow"=some (some (.ref G0)))
  {NR:Addr} {dR_x dM_x:Option Addr} {cdR_x:ClassData} {slR_x slM_x:Array (Option Value)} {cM_x:Value} {es2_x:Array DictEntry} {ep2_x:Nat}
  (x_lkR:K.lookup Fo=some ⟨.type "type",dR_x,.cls cdR_x,slR_x⟩) (x_eR:cdR_x.ns=NR) (x_lkM:K.lookup NR=some ⟨cM_x,dM_x,.dict es2_x ep2_x,slM_x⟩) (x_nR:L2.strKeys es2_x=true)
  (x_r1:PySem.W.nsIn K NR "__init__"=some none)
  (x_r2:PySem.W.nsIn K NR "__getattribute__"=some none)
  (x_r3:PySem.W.nsIn K NR "__getattr__"=some none)
  (x_r4:PySem.W.nsIn K NR "args"=some none)
  (x_sp:PySem.W.specialIn K (.builtin "object.__class__") "__get__"=some (some (.builtin "getset_descriptor.__get__"))) (x_tk:PySem.W.takesIn K (.builtin "object.__class__")=some true) (x_rb:PySem.W.mroIn K Fo (.type "BaseException")=some true)
  {LJ:Option Addr} {K6:ClassData} {K7:Array (Option Value)} (x_lk_NoMaze:K.lookup GA=some ⟨.type "type",LJ,.cls K6,K7⟩)
  {K8:Option Addr} {Jq:ClassData} {Jr:Array (Option Value)} (x_lk_Crossed:K.lookup Fs=some ⟨.type "type",K8,.cls Jq,Jr⟩)
  {Je:Option Addr} {J4:ClassData} {J5:Array (Option Value)} (x_lk_NoDrawing:K.lookup Fp=some ⟨.type "type",Je,.cls J4,J5⟩)
  {L8:Option Addr} {LK:ClassData} {LL:Array (Option Value)} (x_lk_NoBow:K.lookup GZ=some ⟨.type "type",L8,.cls LK,LL⟩)
  {LM:Option Addr} {K9:ClassData} {Ka:Array (Option Value)} (x_lk_NoCode:K.lookup GC=some ⟨.type "type",LM,.cls K9,Ka⟩)
  {Js:Option Addr} {Jf:ClassData} {Jg:Array (Option Value)} (x_lk_NoNumber:K.lookup Fq=some ⟨.type "type",Js,.cls Jf,Jg⟩)
  {LN:Option Addr} {Kb:ClassData} {Kc:Array (Option Value)} (x_lk_NoName:K.lookup GD=some ⟨.type "type",LN,.cls Kb,Kc⟩)
  {L9:Option Addr} {LO:ClassData} {LP:Array (Option Value)} (x_lk_NoRow:K.lookup G0=some ⟨.type "type",L9,.cls LO,LP⟩)
  {JI:Addr} {Kd LQ:Str} {Ke:List Value} {Kf:Bool} {Kg:List Str} {Jt:List Value} {Kh:Bool} {Ju:Option Bool} {Ki Kj:Option Addr} {Kl Km Kn Ko Kq:Option Value} {Jv:Array (Option Value)} {Kr:Value} {JP:Array DictEntry} {Ks:Nat}
  (Fx:K.lookup t6=some (excClassObj Kd LQ t6 JI Ke (.ref Fo::[.type "ValueError",.type "Exception",.type "BaseException",.type "object"]) Kf Kg Jt Kh Ju Ki Kl Km Kn Ko Kq "ValueError.__new__")) (Gm:K.lookup JI=some ⟨Kr,Kj,.dict JP Ks,Jv⟩) (HH:L2.strKeys JP=true)
  (HI:PySem.W.nsIn K JI "__init__"=some none)
  (HJ:PySem.W.findIn K (.ref t6) "__getattribute__"=some (some (.builtin "BaseException.__getattribute__"))) (HK:PySem.W.findIn K (.ref t6) "__getattr__"=some none) (HL:PySem.W.findIn K (.ref t6) "__class__"=some (some (.builtin "object.__class__"))) (HM:PySem.W.mroIn K t6 (.type "object")=some true)
  (Hu:PySem.W.mroIn K t6 (.ref Fo)=some true) (Hv:PySem.W.mroIn K t6 (.type "ValueError")=some true) (Hw:PySem.W.mroIn K t6 (.ref t6)=some true) (HN:PySem.W.mroIn K t6 (.type "BaseException")=some true)
  (G3:PySem.W.mroIn K t6 (.ref GA)=some false) (G4:(Value.ref t6==Value.ref GA)=false)
  (GP:PySem.W.mroIn K t6 (.ref Fs)=some false) (GQ:(Value.ref t6==Value.ref Fs)=false)
  (GE:PySem.W.mroIn K t6 (.ref Fp)=some false) (GF:(Value.ref t6==Value.ref Fp)=false)
  (Ge:PySem.W.mroIn K t6 (.ref GZ)=some false) (Gf:(Value.ref t6==Value.ref GZ)=false)
  (Fv:PySem.W.mroIn K t6 (.ref d7)=some false) (GR:(Value.ref t6==Value.ref d7)=false)
  (G5:PySem.W.mroIn K t6 (.ref GC)=some false) (G6:(Value.ref t6==Value.ref GC)=false)
  (GL:PySem.W.mroIn K t6 (.ref Fq)=some false) (GM:(Value.ref t6==Value.ref Fq)=false)
  (G7:PySem.W.mroIn K t6 (.ref GD)=some false) (G8:(Value.ref t6==Value.ref GD)=false)
  (Gg:PySem.W.mroIn K t6 (.ref G0)=some false) (Gh:(Value.ref t6==Value.ref G0)=false)
  {Ik:Addr} {Jw Kt:Str} {Jx:List Value} {Jy:Bool} {Jz:List Str} {Jh:List Value} {KA:Bool} {Ji:Option Bool} {KC KD:Option Addr} {KF KG KH KI KJ:Option Value} {Jj:Array (Option Value)} {KL:Value} {JJ:Array DictEntry} {KM:Nat}
  (Ft:K.lookup d7=some (excClassObj Jw Kt d7 Ik Jx (.ref Fo::[.type "ValueError",.type "Exception",.type "BaseException",.type "object"]) Jy Jz Jh KA Ji KC KF KG KH KI KJ "ValueError.__new__")) (Gk:K.lookup Ik=some ⟨KL,KD,.dict JJ KM,Jj⟩) (Gn:L2.strKeys JJ=true)
  (Gp:PySem.W.nsIn K Ik "__init__"=some none)
  (Gq:PySem.W.findIn K (.ref d7) "__getattribute__"=some (some (.builtin "BaseException.__getattribute__"))) (Gr:PySem.W.findIn K (.ref d7) "__getattr__"=some none) (Gs:PySem.W.findIn K (.ref d7) "__class__"=some (some (.builtin "object.__class__"))) (Gu:PySem.W.mroIn K d7 (.type "object")=some true)
  (Hd:PySem.W.mroIn K d7 (.ref Fo)=some true) (He:PySem.W.mroIn K d7 (.type "ValueError")=some true) (Hf:PySem.W.mroIn K d7 (.ref d7)=some true) (Gv:PySem.W.mroIn K d7 (.type "BaseException")=some true)
  (GS:PySem.W.mroIn K d7 (.ref GA)=some false) (GT:(Value.ref d7==Value.ref GA)=false)
  (GN:PySem.W.mroIn K d7 (.ref Fs)=some false) (GO:(Value.ref d7==Value.ref Fs)=false)
  (Fw:PySem.W.mroIn K d7 (.ref t6)=some false) (GU:(Value.ref d7==Value.ref t6)=false)
  (Fy:PySem.W.mroIn K d7 (.ref Fp)=some false) (Fz:(Value.ref d7==Value.ref Fp)=false)
  (G9:PySem.W.mroIn K d7 (.ref GZ)=some false) (Ga:(Value.ref d7==Value.ref GZ)=false)
  (GV:PySem.W.mroIn K d7 (.ref GC)=some false) (GW:(Value.ref d7==Value.ref GC)=false)
  (GG:PySem.W.mroIn K d7 (.ref Fq)=some false) (GH:(Value.ref d7==Value.ref Fq)=false)
  (GX:PySem.W.mroIn K d7 (.ref GD)=some false) (GY:(Value.ref d7==Value.ref GD)=false)
  (Gb:PySem.W.mroIn K d7 (.ref G0)=some false) (Gc:(Value.ref d7==Value.ref G0)=false)
  {K3:Addr} {K4:Obj} (J6:PySem.W.nsIn K mainGlobals "SIDES"=some (some (.ref K3))) (J7:K.lookup K3=some K4) (J8:L2.uw K4 ["l","r"])
  (LR:PySem.W.nsIn K mainGlobals "len"=some none) (J9:PySem.W.nsIn K mainGlobals "range"=some none) (LS:PySem.W.nsIn K mainGlobals "int"=some none) (KN:PySem.W.nsIn K mainGlobals "list"=some none) (Ja:PySem.W.nsIn K mainGlobals "tuple"=some none) (Hg:PySem.W.nsIn K mainGlobals "isinstance"=some none) (LU:PySem.W.nsIn K mainGlobals "str"=some none) (KO:PySem.W.nsIn K mainGlobals "bool"=some none) (JK:PySem.W.nsIn K mainGlobals "sorted"=some none) (LV:PySem.W.nsIn K mainGlobals "all"=some none) (LW:PySem.W.nsIn K mainGlobals "zip"=some none) (LX:PySem.W.nsIn K mainGlobals "max"=some none) (LY:PySem.W.nsIn K mainGlobals "min"=some none) (IR:PySem.W.nsIn K mainGlobals "reversed"=some none) (Hy:PySem.W.nsIn K mainGlobals "enumerate"=some none) (Hh:PySem.W.nsIn K mainGlobals "ValueError"=some none) :
  ∃fd:FuncData,(∀(s:Shared) (v:Value),BindsTo s fd ⟨[v],[]⟩ [("_law_script",v)])/\∀base:Heap,K.In base->base.Ns mainGlobals mg->me l.prog w K mg base xQ 8 fa fd ["_law_script"] (sE K):=by
 have B:nS mg:=⟨ay X G LR,ay X G J9,ay X G LS,ay X G KN,ay X G Ja,ay X G Hg,ay X G LU,ay X G KO,ay X G JK,ay X G LV,ay X G LW,ay X G LX,ay X G LY,ay X G IR,ay X G Hy,ay X G Hh,⟨_,bM X G Hb⟩,⟨_,bM X G Hc⟩,⟨_,bM X G Hq⟩⟩
 have Hk:mg "RingError"=some (.ref Fo):=bM X G Hr;have Ip:mg "NoMaze"=some (.ref GA):=bM X G JF;have IX:mg "Crossed"=some (.ref Fs):=bM X G Ij;have HU:mg "NoWord"=some (.ref t6):=bM X G Hs;have Hj:mg "NoDrawing"=some (.ref Fp):=bM X G Ht;have JS:mg "NoBow"=some (.ref GZ):=bM X G J1;have Gx:mg "NoRound"=some (.ref d7):=bM X G HW;have Iq:mg "NoCode"=some (.ref GC):=bM X G JG;have IG:mg "NoNumber"=some (.ref Fq):=bM X G IQ;have Ir:mg "NoName"=some (.ref GD):=bM X G JH;have JT:mg "NoRow"=some (.ref G0):=bM X G J3;have Il:L2.tw K t6/\∀base:Heap,K.In base->base.Ns mainGlobals mg->OwnCls "NoWord" t6 [.type "ValueError",.type "Exception",.type "BaseException",.type "object"] "ValueError.__new__" mg base:=⟨(L2.lQ X G Hs Fx x_lkR (L2.jJ Gm HH) HI x_eR (L2.jJ x_lkM x_nR) x_r1 x_r2 x_r3 x_r4 ef HJ HK HL x_sp x_tk HM).2,λbase KB GB=>(L2.lQ KB GB Hs Fx x_lkR (L2.jJ Gm HH) HI x_eR (L2.jJ x_lkM x_nR) x_r1 x_r2 x_r3 x_r4 ef HJ HK HL x_sp x_tk HM).1⟩
 have Ku:L2.Ek K t6 [GA,Fs,t6,Fp,GZ,d7,GC,Fq,GD,G0] 2:=⟨Il.1,λj d h=>match j,h with | 0,h=>by cases h;exact L2.cC G4 x_lk_NoMaze G3 | 1,h=>by cases h;exact L2.cC GQ x_lk_Crossed GP | 2,h=>by cases h;exact L2.tI | 3,h=>by cases h;exact L2.cC GF x_lk_NoDrawing GE | 4,h=>by cases h;exact L2.cC Gf x_lk_NoBow Ge | 5,h=>by cases h;exact L2.cC GR Ft Fv | 6,h=>by cases h;exact L2.cC G6 x_lk_NoCode G5 | 7,h=>by cases h;exact L2.cC GM x_lk_NoNumber GL | 8,h=>by cases h;exact L2.cC G8 x_lk_NoName G7 | 9,h=>by cases h;exact L2.cC Gh x_lk_NoRow Gg | j+10,h=>by simp at h,L2.tH (by decide) Hv⟩
 have Kv:PySem.W.exmOne K (.ref t6) (.ref Fo)=some true:=L2.lP x_lkR Hu x_rb;have Kw:PySem.W.exmOne K (.ref t6) (.ref t6)=some true:=L2.lP Fx Hw HN;have K5:PySem.W.exmOne K (.ref t6) (.ref d7)=some false:=L2.lP Ft Fv Gv;have IS:L2.tw K d7/\∀base:Heap,K.In base->base.Ns mainGlobals mg->OwnCls "NoRound" d7 [.type "ValueError",.type "Exception",.type "BaseException",.type "object"] "ValueError.__new__" mg base:=⟨(L2.lQ X G HW Ft x_lkR (L2.jJ Gk Gn) Gp x_eR (L2.jJ x_lkM x_nR) x_r1 x_r2 x_r3 x_r4 ef Gq Gr Gs x_sp x_tk Gu).2,λbase KB GB=>(L2.lQ KB GB HW Ft x_lkR (L2.jJ Gk Gn) Gp x_eR (L2.jJ x_lkM x_nR) x_r1 x_r2 x_r3 x_r4 ef Gq Gr Gs x_sp x_tk Gu).1⟩
 have KP:L2.Ek K d7 [GA,Fs,t6,Fp,GZ,d7,GC,Fq,GD,G0] 5:=⟨IS.1,λj d h=>match j,h with | 0,h=>by cases h;exact L2.cC GT x_lk_NoMaze GS | 1,h=>by cases h;exact L2.cC GO x_lk_Crossed GN | 2,h=>by cases h;exact L2.cC GU Fx Fw | 3,h=>by cases h;exact L2.cC Fz x_lk_NoDrawing Fy | 4,h=>by cases h;exact L2.cC Ga x_lk_NoBow G9 | 5,h=>by cases h;exact L2.tI | 6,h=>by cases h;exact L2.cC GW x_lk_NoCode GV | 7,h=>by cases h;exact L2.cC GH x_lk_NoNumber GG | 8,h=>by cases h;exact L2.cC GY x_lk_NoName GX | 9,h=>by cases h;exact L2.cC Gc x_lk_NoRow Gb | j+10,h=>by simp at h,L2.tH (by decide) He⟩
 have KQ:PySem.W.exmOne K (.ref d7) (.ref Fo)=some true:=L2.lP x_lkR Hd x_rb;have KS:PySem.W.exmOne K (.ref d7) (.ref d7)=some true:=L2.lP Ft Hf Gv;have IT:PySem.W.exmOne K (.ref d7) (.ref t6)=some false:=L2.lP Fx Fw HN;have IA:=L2.zM X G J6 J7 J8;have KU:Fn K mg "crossing" fc ["bows"]:=cT X G II λ_ _ _ _ _ _=>L2.oB λ_=>rfl;have KY:Fn K mg "is_whole" fb ["thing"]:=cT X G IJ λ_ _ _ _ _ _=>L2.oB λ_=>rfl;have Kx:Fn K mg "is_side" iX ["thing"]:=cT X G IZ λ_ _ _ _ _ _=>L2.oB λ_=>rfl;have KZ:Fn K mg "is_order" gY ["thing"]:=cT X G IK λ_ _ _ _ _ _=>L2.oB λ_=>rfl;have Ky:Fn K mg "is_maze" iY ["thing"]:=cT X G I9 λ_ _ _ _ _ _=>L2.oB λ_=>rfl;have Kz:Fn K mg "is_word" gX ["thing"]:=cT X G Ia λ_ _ _ _ _ _=>L2.oB λ_=>rfl;have La:Fn K mg "pairs" lI ["word"]:=cT X G JX λ_ _ _ _ _ _=>L2.oB λ_=>rfl;have LZ:Fn K mg "is_bow" j7 ["thing"]:=cT X G Iw λ_ _ _ _ _ _=>L2.oB λ_=>rfl;have JL:Fn K mg "fills_a_word" dq ["thing"]:=cT X G HF λ_ _ _ _ _ _=>L2.oB λ_=>rfl;have LA:Fn K mg "word_of" iV ["bows"]:=cT X G Ib λ_ _ _ _ _ _=>L2.oB λ_=>rfl;have Jb:Fn K mg "other_side" fL ["side"]:=cT X G H9 λ_ _ _ _ _ _=>L2.oB λ_=>rfl;have JM:Fn K mg "side_of_step" dn ["maze","step"]:=cT X G HG λ_ _ _ _ _ _=>L2.uF λ_ _=>rfl;have JN:Fn K mg "rows_of_way" eP ["maze"]:=cT X G HR λ_ _ _ _ _ _=>L2.oB λ_=>rfl;have LB:Fn K mg "bows_of" g0 ["maze"]:=cT X G Ic λ_ _ _ _ _ _=>L2.oB λ_=>rfl;have LC:Fn K mg "crossed" i0 ["maze"]:=cT X G Ie λ_ _ _ _ _ _=>L2.oB λ_=>rfl;have Ll:Fn K mg "vet" qH ["maze"]:=cT X G LI λ_ _ _ _ _ _=>L2.oB λ_=>rfl;have Jk:Fn K mg "vet_words" fk ["left","right"]:=cT X G Hm λ_ _ _ _ _ _=>L2.uF λ_ _=>rfl;have K0:Fn K mg "partners" gW ["word"]:=cT X G IL λ_ _ _ _ _ _=>L2.oB λ_=>rfl;have Jc:Fn K mg "round_from" fK ["end","lefts","rights"]:=cT X G Ha λ_ _ _ _ _ _=>L2.Fd λ_ _ _=>rfl;have L0:Fn K mg "rounds" j6 ["left","right"]:=cT X G Iy λ_ _ _ _ _ _=>L2.uF λ_ _=>rfl;have Hz:Fn K mg "middle_put_outside" cI ["bows","middle"]:=cT X G GK λ_ _ _ _ _ _=>L2.uF λ_ _=>rfl;have L3:Fn K mg "closed" j9 ["maze"]:=cT X G Iz λ_ _ _ _ _ _=>L2.oB λ_=>rfl;have L4:Fn K mg "opened" gn ["left","right"]:=cT X G JA λ_ _ _ _ _ _=>L2.uF λ_ _=>rfl;have Lb:Fn K mg "_law_alone" lJ ["_law_e"]:=cT X G JY λ_ _ _ _ _ _=>L2.oB λ_=>rfl;have LD:Fn K mg "_law_cell_at" i3 ["_law_script","_law_k"]:=cT X G Ig λ_ _ _ _ _ _=>L2.uF λ_ _=>rfl;have L5:Fn K mg "_law_digits" j8 ["_law_cell","_law_many"]:=cT X G JB λ_ _ _ _ _ _=>L2.uF λ_ _=>rfl;have Lc:Fn K mg "_law_word" mq ["_law_cell","_law_ends"]:=cT X G Jn λ_ _ _ _ _ _=>L2.uF λ_ _=>rfl;have Ld:Fn K mg "_law_bows" mw ["_law_maze"]:=cT X G Jo λ_ _ _ _ _ _=>L2.oB λ_=>rfl;have LF:Fn K mg "_law_crosses" iZ ["_law_bows_here"]:=cT X G Ih λ_ _ _ _ _ _=>L2.oB λ_=>rfl;have K1:Fn K mg "_law_drawable" gZ ["_law_maze"]:=cT X G IM λ_ _ _ _ _ _=>L2.oB λ_=>rfl;have L6:Fn K mg "_law_across" gq ["_law_word_here"]:=cT X G JC λ_ _ _ _ _ _=>L2.oB λ_=>rfl;have K2:Fn K mg "_law_rounds" f9 ["_law_left","_law_right"]:=cT X G IP λ_ _ _ _ _ _=>L2.uF λ_ _=>rfl;have Le:Fn K mg "_law_said" lm ["_law_left","_law_right"]:=cT X G Jp λ_ _ _ _ _ _=>L2.uF λ_ _=>rfl;have L7:Fn K mg "_law_by_any" i9 ["_law_left","_law_right"]:=cT X G JD λ_ _ _ _ _ _=>L2.uF λ_ _=>rfl;have LG:Fn K mg "_law_refused" iW ["_law_left","_law_right"]:=cT X G Ii λ_ _ _ _ _ _=>L2.uF λ_ _=>rfl;have Jl:Fn K mg "_law_one_round" fm ["_law_left","_law_right"]:=cT X G Ho λ_ _ _ _ _ _=>L2.uF λ_ _=>rfl;have JO:Fn K mg "_law_opened_good" eQ ["_law_left","_law_right"]:=cT X G HS λ_ _ _ _ _ _=>L2.uF λ_ _=>rfl;have Lm:Fn K mg "law" mL ["_law_script"]:=cT X G JE λ_ _ _ _ _ _=>L2.oB λ_=>rfl;have key:∀base:Heap,K.In base->base.Ns mainGlobals mg->eO l.prog w K mg base 8 "law" mL ["_law_script"] (sE K):=λbase KB GB=>by
  have Gz:=Il.2 base KB GB;have IC:=IS.2 base KB GB;have Gj:=sf (P:=l.prog) (w:=w) (base:=base) KU;have G1:=sZ (P:=l.prog) (w:=w) (base:=base) B KY;have IU:=uZ (P:=l.prog) (w:=w) (base:=base) IA Kx;have IF:=s9 B KZ G1;have IV:=u4 B Ky IU IF;have Gi:=uY (P:=l.prog) (w:=w) (base:=base) B Kz;have JQ:=yq Gz B La Gi;have Im:=wa B LZ G1;have HA:=nj B JL Im;have IB:=uW B LA HA Gj;have HX:=pc (P:=l.prog) (w:=w) (base:=base) Jb;have HE:=ni JM HX;have HP:=oy (P:=l.prog) (w:=w) (base:=base) B JN;have Gw:=u9 B LB HE HP;have IW:=u6 B IA LC Gw Gj;have LH:=Ca Ll IV IW;have Hi:=qz Gz B Jk Gi;have HY:=sY K0 JQ;have HZ:=p9 (P:=l.prog) (w:=w) (base:=base) Jc;have Io:=w6 B L0 Hi HY HZ;have GI:=kS (P:=l.prog) (w:=w) (base:=base) B Hz;have Iv:=wc B L3 LH Gw GI IB;have Gd:=w9 IC B L4 Io;have JU:=yr (P:=l.prog) (w:=w) (base:=base) B Ip IX HU Hj JS Gx Iq IG Ir JT Lb;have Gy:=u7 (P:=l.prog) (w:=w) (base:=base) B LD;have Iu:=wb (P:=l.prog) (w:=w) (base:=base) B L5;have JV:=AL B Lc Iu;have Jm:=AN (P:=l.prog) (w:=w) (base:=base) B Ld;have ID:=u5 (P:=l.prog) (w:=w) (base:=base) LF;have IH:=se K1 Jm ID;have GJ:=wf (P:=l.prog) (w:=w) (base:=base) B L6;have G2:=sX B K2 GJ;have IY:=AM HU Gx Kw KS IT Le Gd;have HV:=we Hk Kv KQ Il.1 IS.1 Ku.d KP.d L7 Gd JU;have IE:=uX LG IY HV;have Hl:=rB B Jl G2 GJ;have HQ:=pA B JO Gd IH GJ Iv;exact Cb B Lm Gy JV G2 IY HV IE Hl HQ
 obtain⟨f0,oc0,od0,Lf,sl0,Lg,Lh,Li,Lj,Lk,JE,Ln,_,_⟩:=JE;have e:=hfa.symm.trans (bM X G JE);cases e;refine⟨PySem.W.fnOf "law" "law" (jL mL) (f6 mL) (ae mL) .none Lg Lh Li Lf Lj Lk,λs v=>.of_eq rfl,λbase KB GB=>?_⟩;obtain⟨f,fd,F,m,b,ok⟩:=(key base KB GB).ex;rw[bM X G JE] at m;cases m;obtain⟨_,_,_,_,_,_,_,_,_,rfl,lk,_⟩:=F.ex;rw[Ln] at lk;cases lk;exact ok
theorem walk{l:PySem.W.OpenLaw}{q:Program}{loose:List Str}{XP:(Str->Option Value)->Heap->Prop}{YP:World->Heap->Prop}{d:DefRec}{K:Params->MU}(hn:l.most=some 63)(hdf:d.params.defaults=[])
  (hY:∀(w:World) (h:Heap),YP w h->(K w.params).In h)
  (F:∀(w:World) (mg:Str->Option Value) (fa:Addr) (h:Heap),(K w.params).In h->h.Ns mainGlobals mg->mg d.name=some (.ref fa) →
   ∃fd:FuncData,(∀(s:Shared) (u:Value),BindsTo s fd ⟨[u],[]⟩ [("_law_script",u)])/\∀base:Heap,(K w.params).In base->base.Ns mainGlobals mg->me l.prog w (K w.params) mg base xQ 8 fa fd ["_law_script"] (sE (K w.params))) :
  PySem.W.WalkO q loose XP YP l.row.toRowW d [] (λf vs=>PySem.call f vs):=
 L2.vB (n:=63) (k:=8) (x:="_law_script") (CX:=λ_=>xQ) (sp:=λw=>sE (K w.params)) hn (by decide) hdf ⟨rfl,by decide,by decide,rfl⟩ hY F (λ_ _ a ns hl _ hS=>⟨a,ns,rfl,hS,hl,λ_=>rfl⟩) λ_ _ _ _ _ z=>z
end Rm
open PySem PySem.W PyProof.Rows
local macro_rules | `(tactic| walk_at "kf") => `(tactic| exact Rm.fnIn (by k_is) (by k_is) (by k_is) (by k_is))
set_option maxRecDepth 100000 in
set_option maxHeartbeats 0 in
theorem PySem.Challenge.cw_ringmaze_k28_whole_one_round_just_for_ma_holds : PySem.Challenge.rw_ringmaze_k28_whole_one_round_just_for_ma.Holds := by
 w_on; o_law; k_head; (case hw => w_witness2)
 k_fill
 refine Rm.walk (l := PySem.Challenge.rw_ringmaze_k28_whole_one_round_just_for_ma) rfl rfl (λw h Y => PySem.W.kIn_of Y) ?F
 case F =>
  intro w mg fa h KX G hmg;refine' Rm.all_mk KX G hmg ?II ?IJ ?IZ ?IK ?I9 ?Ia ?JX ?Iw ?HF ?Ib ?H9 ?HG ?HR ?Ic ?Ie ?LI ?Hm ?IL ?Ha ?Iy ?GK ?Iz ?JA ?JY ?Ig ?JB ?Jn ?Jo ?Ih ?IM ?JC ?IP ?Jp ?JD ?Ii ?Ho ?HS ?JE ?Hb ?Hc ?Hq ?Hr ?JF ?Ij ?Hs ?Ht ?J1 ?HW ?JG ?IQ ?JH ?J3 ?x_lkR ?x_eR ?x_lkM ?x_nR ?x_r1 ?x_r2 ?x_r3 ?x_r4 ?x_sp ?x_tk ?x_rb ?x_lk_NoMaze ?x_lk_Crossed ?x_lk_NoDrawing ?x_lk_NoBow ?x_lk_NoCode ?x_lk_NoNumber ?x_lk_NoName ?x_lk_NoRow ?Fx ?Gm ?HH ?HI ?HJ ?HK ?HL ?HM ?Hu ?Hv ?Hw ?HN ?G3 ?G4 ?GP ?GQ ?GE ?GF ?Ge ?Gf ?Fv ?GR ?G5 ?G6 ?GL ?GM ?G7 ?G8 ?Gg ?Gh ?Ft ?Gk ?Gn ?Gp ?Gq ?Gr ?Gs ?Gu ?Hd ?He ?Hf ?Gv ?GS ?GT ?GN ?GO ?Fw ?GU ?Fy ?Fz ?G9 ?Ga ?GV ?GW ?GG ?GH ?GX ?GY ?Gb ?Gc ?J6 ?J7 ?J8 ?LR ?J9 ?LS ?KN ?Ja ?Hg ?LU ?KO ?JK ?LV ?LW ?LX ?LY ?IR ?Hy ?Hh
  (case II => walk_at "kf")
  (case IJ => walk_at "kf")
  (case IZ => walk_at "kf")
  (case IK => walk_at "kf")
  (case I9 => walk_at "kf")
  (case Ia => walk_at "kf")
  (case JX => walk_at "kf")
  (case Iw => walk_at "kf")
  (case HF => walk_at "kf")
  (case Ib => walk_at "kf")
  (case H9 => walk_at "kf")
  (case HG => walk_at "kf")
  (case HR => walk_at "kf")
  (case Ic => walk_at "kf")
  (case Ie => walk_at "kf")
  (case LI => walk_at "kf")
  (case Hm => walk_at "kf")
  (case IL => walk_at "kf")
  (case Ha => walk_at "kf")
  (case Iy => walk_at "kf")
  (case GK => walk_at "kf")
  (case Iz => walk_at "kf")
  (case JA => walk_at "kf")
  (case JY => walk_at "kf")
  (case Ig => walk_at "kf")
  (case JB => walk_at "kf")
  (case Jn => walk_at "kf")
  (case Jo => walk_at "kf")
  (case Ih => walk_at "kf")
  (case IM => walk_at "kf")
  (case JC => walk_at "kf")
  (case IP => walk_at "kf")
  (case Jp => walk_at "kf")
  (case JD => walk_at "kf")
  (case Ii => walk_at "kf")
  (case Ho => walk_at "kf")
  (case HS => walk_at "kf")
  (case JE => walk_at "kf")
  (case Hb => k_is)
  (case Hc => k_is)
  (case Hq => k_is)
  (case Hr => k_is)
  (case JF => k_is)
  (case Ij => k_is)
  (case Hs => k_is)
  (case Ht => k_is)
  (case J1 => k_is)
  (case HW => k_is)
  (case JG => k_is)
  (case IQ => k_is)
  (case JH => k_is)
  (case J3 => k_is)
  (case x_lkR => k_is)
  (case x_eR => first | rfl | k_is)
  (case x_lkM => k_is)
  (case x_nR => first | rfl | k_is)
  (case x_r1 => k_is)
  (case x_r2 => k_is)
  (case x_r3 => k_is)
  (case x_r4 => k_is)
  (case x_sp => k_is)
  (case x_tk => k_is)
  (case x_rb => k_is)
  (case x_lk_NoMaze => k_is)
  (case x_lk_Crossed => k_is)
  (case x_lk_NoDrawing => k_is)
  (case x_lk_NoBow => k_is)
  (case x_lk_NoCode => k_is)
  (case x_lk_NoNumber => k_is)
  (case x_lk_NoName => k_is)
  (case x_lk_NoRow => k_is)
  (case Fx => k_is)
  (case Gm => k_is)
  (case HH => first | rfl | k_is)
  (case HI => k_is)
  (case HJ => k_is)
  (case HK => k_is)
  (case HL => k_is)
  (case HM => k_is)
  (case Hu => k_is)
  (case Hv => k_is)
  (case Hw => k_is)
  (case HN => k_is)
  (case G3 => k_is)
  (case G4 => first | rfl | k_is)
  (case GP => k_is)
  (case GQ => first | rfl | k_is)
  (case GE => k_is)
  (case GF => first | rfl | k_is)
  (case Ge => k_is)
  (case Gf => first | rfl | k_is)
  (case Fv => k_is)
  (case GR => first | rfl | k_is)
  (case G5 => k_is)
  (case G6 => first | rfl | k_is)
  (case GL => k_is)
  (case GM => first | rfl | k_is)
  (case G7 => k_is)
  (case G8 => first | rfl | k_is)
  (case Gg => k_is)
  (case Gh => first | rfl | k_is)
  (case Ft => k_is)
  (case Gk => k_is)
  (case Gn => first | rfl | k_is)
  (case Gp => k_is)
  (case Gq => k_is)
  (case Gr => k_is)
  (case Gs => k_is)
  (case Gu => k_is)
  (case Hd => k_is)
  (case He => k_is)
  (case Hf => k_is)
  (case Gv => k_is)
  (case GS => k_is)
  (case GT => first | rfl | k_is)
  (case GN => k_is)
  (case GO => first | rfl | k_is)
  (case Fw => k_is)
  (case GU => first | rfl | k_is)
  (case Fy => k_is)
  (case Fz => first | rfl | k_is)
  (case G9 => k_is)
  (case Ga => first | rfl | k_is)
  (case GV => k_is)
  (case GW => first | rfl | k_is)
  (case GG => k_is)
  (case GH => first | rfl | k_is)
  (case GX => k_is)
  (case GY => first | rfl | k_is)
  (case Gb => k_is)
  (case Gc => first | rfl | k_is)
  (case J6 => k_is)
  (case J7 => k_is)
  (case J8 => exact L2.wN rfl rfl (by decide) (.cons ⟨_, rfl⟩ (.cons ⟨_, rfl⟩ .nil)))
  (case LR => k_is)
  (case J9 => k_is)
  (case LS => k_is)
  (case KN => k_is)
  (case Ja => k_is)
  (case Hg => k_is)
  (case LU => k_is)
  (case KO => k_is)
  (case JK => k_is)
  (case LV => k_is)
  (case LW => k_is)
  (case LX => k_is)
  (case LY => k_is)
  (case IR => k_is)
  (case Hy => k_is)
  (case Hh => k_is)
#print axioms PySem.Challenge.cw_ringmaze_k28_whole_one_round_just_for_ma_holds
