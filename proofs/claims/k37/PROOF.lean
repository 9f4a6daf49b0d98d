import PyProof.Rows.All
import Wide.All
import OpenK.AllK
import Wide.FinOn
import Lean
import PyProof.EqAt
import PyProof.EqKinds
import PyProof.TupleCall
import KE.LcSums
import PyProof.StrLawsJoin
import KE.KSortTup
import KE.KSortKey
import PyProof.WalkInts
import PyProof.MinMaxWalk
import KE.KRevIter
import KE.KSortedM
import PyProof.ReprLen
import PyProof.P3Eq
import PySem.Challenge.RW_ringmaze_k37_whole_numbers_and_lists
abbrev Ml:=@PySem.wpAny_mono
abbrev Mm:=@PySem.wpAny_truthy_bool
abbrev Mn:=@PySem.wpAny_execs_nil
abbrev Mo:=@PySem.wpAny_holding
abbrev Mp:=@PySem.wpAny_passesOwn
abbrev Mq:=@PySem.wpAny_pure
abbrev Mr:=@PySem.wpAny_pyIter_tuple
abbrev Ms:=@PySem.sizeLine_eq
abbrev Mt:=@PyProof.Rows.vals1
abbrev Mu:=@PySem.wpAny_Call_Name_kw
abbrev Mv:=@PySem.typeIs_str
abbrev Mw:=@PySem.call_meets
abbrev Mx:=@PySem.tupleKind_room_in1
abbrev Mz:=@PyProof.Rows.mirror_perm
abbrev NA:=@PySem.wpAny_call_entry
abbrev NB:=@PySem.wpAny_seqItems
abbrev ND:=@PySem.wpAny_field
abbrev NE:=@PySem.wpAny_setField_rec
abbrev NF:=@PySem.wpAny_pyIter_zip
abbrev NG:=@PySem.post_val_or_str
abbrev NH:=@PyProof.Rows.ints_snoc
abbrev NI:=@if_neg
abbrev NJ:=@if_pos
abbrev NK:=@decide_eq_true_eq
abbrev NL:=@decide_eq_false
abbrev NM:=@decide_eq_true
abbrev NN:=@of_decide_eq_true
abbrev NO:=@if_true
abbrev NP:=@if_false
abbrev NQ:=PySem.W.Frag
abbrev aB:=@PySem.Heap.get?_push_of_some
abbrev aE:=@List.length_map
abbrev aH:=@Nat.le_refl
abbrev aI:=@List.mem_cons
abbrev aJ:=@List.getElem?_eq_some_iff
abbrev aM:=@List.mem_cons_of_mem
abbrev aN:=@List.getElem?_eq_getElem
abbrev aO:=@List.map_append
abbrev aP:=@PySem.Heap.get?_push_size
abbrev aQ:=@List.mem_append
abbrev aT:=@PySem.Heap.lt_size
abbrev aU:=@List.size_toArray
abbrev aY:=@List.map_cons
abbrev aZ:=@PySem.boot_len
abbrev a6:=@List.flatMap_cons
abbrev a7:=@Nat.lt_of_lt_of_le
abbrev a9:=@List.getElem?_map
abbrev ac:=@List.getElem?_append_right
abbrev af:=@List.length_append
abbrev ah:=@List.drop_eq_getElem_cons
abbrev ai:=@List.append_assoc
abbrev aj:=@Nat.ne_of_lt
abbrev ao:=@List.nil_sublist
abbrev aq:=@List.mem_cons_self
abbrev au:=@List.mem_append_right
abbrev ax:=@List.exists_cons_of_length_eq_add_one
abbrev ay:=@PySem.PassesOwn.never
abbrev bB:=@List.mem_of_getElem?
abbrev bC:=@Bool.false_ne_true
abbrev bD:=@List.eq_nil_of_length_eq_zero
abbrev bE:=@PySem.W.mg_none_of
abbrev bF:=@Nat.zero_le
abbrev bG:=@List.mem_append_left
abbrev bH:=@Option.some.inj
abbrev bJ:=@Nat.le_trans
abbrev bM:=@List.nil_append
abbrev bN:=@List.mem_singleton
abbrev bP:=@List.getElem?_append_left
abbrev bT:=@List.count_eq_zero
abbrev bV:=@PyProof.Rows.callWith_type1
abbrev bW:=@List.take_add_one
abbrev b6:=@PySem.F.plainAttrs_list
abbrev b9:=@List.not_mem_nil
abbrev ba:=@List.mem_map
abbrev bb:=@List.append_nil
abbrev bi:=@List.singleton_sublist
abbrev bj:=@List.map_map
abbrev bp:=@List.length_take
abbrev bw:=@List.getD_eq_getElem?_getD
abbrev bx:=@Nat.le_of_lt
abbrev cC:=@Ne.symm
abbrev cE:=@Array.getD_eq_getD_getElem?
abbrev cK:=@List.count_cons
abbrev cM:=@List.length_cons
abbrev cN:=@List.countP_cons
abbrev cO:=@PySem.F.type_list_append
abbrev cP:=@PySem.F.slot_list_append
abbrev cQ:=@List.map_congr_left
abbrev cR:=@List.count_append
abbrev cU:=@List.length_eq_zero_iff
abbrev cV:=@PySem.W.kia_one
abbrev cX:=@List.take_length
abbrev cZ:=@PySem.mem_of_lookup
abbrev c6:=@List.length_pos_iff
abbrev c9:=@List.perm_append_comm
abbrev ce:=@Nat.lt_irrefl
abbrev cf:=@PyProof.Rows.boot_isinstance
abbrev ci:=@List.nodup_cons
abbrev cu:=@List.perm_middle
abbrev cv:=@PySem.Paired.length
abbrev cz:=@Nat.mod_two_eq_zero_or_one
abbrev dA:=@List.take_of_length_le
abbrev dB:=@PySem.Heap.size_push
abbrev dC:=@Array.length_toList
abbrev dF:=@PyProof.Rows.boot_int
abbrev dH:=@Bool.false_eq_true
abbrev dI:=@Bool.and_eq_true
abbrev dL:=@PyProof.Rows.boot_sorted
abbrev dU:=@PyProof.Rows.boot_tuple
abbrev dY:=@List.dropLast_concat_getLast
abbrev d9:=@PySem.F.plainAttrs_str
abbrev de:=@PySem.W.mg_of
abbrev df:=@Int.le_refl
abbrev dq:=@List.append_of_mem
abbrev dr:=@PySem.F.slot_tuple_iterator_next
abbrev dw:=@Decidable.byContradiction
abbrev dy:=@Array.getElem?_eq_getElem
abbrev eI:=@Nat.pow_le_pow_right
abbrev eJ:=@Nat.mul_le_mul_right
abbrev eK:=@Nat.le_succ
abbrev eX:=@List.length_reverse
abbrev eh:=@List.length_drop
abbrev eu:=@List.cons_append
abbrev fG:=@List.length_set
abbrev fH:=@List.find?_cons
abbrev fO:=@PyProof.Rows.cnt_cons
abbrev fP:=@List.singleton_append
abbrev fQ:=@List.length_singleton
abbrev fT:=@Nat.lt_succ_of_lt
abbrev fU:=@Int.toNat_natCast
abbrev fc:=@List.getElem?_of_mem
abbrev fe:=@List.drop_zero
abbrev ff:=@Array.perm_iff_toList_perm
abbrev fi:=@Nat.ne_of_gt
abbrev fj:=@List.mem_flatMap
abbrev fk:=@List.map_nil
abbrev fm:=@List.getElem_mem
abbrev fo:=@List.pairwise_iff_getElem
abbrev fz:=@List.any_cons
abbrev gC:=@Option.map_some
abbrev gD:=@List.range_succ
abbrev gE:=@List.cons.injEq
abbrev gI:=@Nat.add_sub_cancel
abbrev gJ:=@Int.emod_lt_of_pos
abbrev gU:=@Nat.add_sub_cancel_left
abbrev gV:=@List.getElem?_cons_succ
abbrev gW:=@Int.eq_ofNat_of_zero_le
abbrev gb:=@PyProof.Rows.boot_list
abbrev gc:=@Nat.lt_or_ge
abbrev gf:=@List.mem_range
abbrev gg:=@List.length_eq_one_iff
abbrev gh:=@PySem.Heap.get?_update_other
abbrev gi:=@PySem.Heap.get?_push_ne
abbrev gn:=@PySem.F.type_str_join
abbrev gp:=@PySem.F.slot_str_join
abbrev gq:=@List.take_append_drop
abbrev gu:=@List.filterMap_append
abbrev gw:=@PySem.Heap.get?_update_self
abbrev iQ:=@List.lookup_cons
abbrev iR:=@List.drop_length
abbrev iS:=@List.append_inj'
abbrev iT:=@List.all_eq_true
abbrev iY:=@List.cons.inj
abbrev i8:=@List.take_append_of_le_length
abbrev i9:=@List.pairwise_append
abbrev ic:=@List.count_cons_self
abbrev ig:=@Nat.min_eq_left
abbrev ii:=@List.mem_filter
abbrev ij:=@List.forIn_cons
abbrev io:=@Int.emod_nonneg
abbrev ip:=@PySem.F.slot_zip_next
abbrev iq:=@PySem.F.args_tuple_iterator_next_1
abbrev ir:=@Bool.eq_iff_iff
abbrev iw:=@List.flatMap_append
abbrev iy:=@List.filterMap_cons
abbrev jE:=@Nat.succ_mul
abbrev jF:=@PySem.F.entry_tuple_iterator_next
abbrev jG:=@Eq.symm
abbrev j0:=@List.mem_filterMap
abbrev j3:=@List.filter_append
abbrev j4:=@List.count_pos_iff
abbrev j5:=@List.Sublist.trans
abbrev j6:=@PySem.F.args_str_split_2
abbrev j7:=@PySem.Calls.spliced_cons
abbrev j8:=@PySem.Calls.Name_function_global
abbrev ja:=@Classical.byContradiction
abbrev ji:=@List.pairwise_map
abbrev jj:=@List.nodup_append
abbrev jm:=@List.length_range
abbrev jo:=@PySem.F.entry_str_split
abbrev jp:=@Classical.not_not
abbrev jq:=@PySem.Calls.spliced_nil
abbrev jx:=@Option.isSome_iff_exists
abbrev jy:=@List.length_filterMap_le
abbrev jz:=@Bool.or_false
abbrev kP:=@Option.getD_some
abbrev kS:=@Nat.max_eq_right
abbrev kT:=@List.sublist_append_iff
abbrev kU:=@List.reverse_eq_nil_iff
abbrev kW:=@List.getElem?_replicate
abbrev kX:=@List.flatMap_nil
abbrev kY:=@List.filter_cons
abbrev kZ:=@List.ext_getElem
abbrev k0:=@PySem.Heap.size_update
abbrev k5:=@PySem.F.slot_str_split
abbrev ko:=@PySem.Txt.slice_le
abbrev kq:=@PySem.W.cellsFrom_some
abbrev kt:=@Nat.zero_add
abbrev ku:=@Nat.sub_self
abbrev kx:=@List.range_succ_eq_map
abbrev ky:=@List.getElem?_set_self
abbrev kz:=@List.drop_of_length_le
abbrev lE:=@Array.getElem?_eq_none
abbrev lI:=@List.of_mem_zip
abbrev lJ:=@List.length_nil
abbrev lK:=@List.isPerm_iff
abbrev lN:=@PySem.F.type_list_pop
abbrev lO:=@PySem.F.slot_list_pop
abbrev lP:=@PyProof.Rows.boot_max
abbrev lQ:=@PyProof.Rows.boot_abs
abbrev lS:=@List.length_replicate
abbrev lT:=@List.Perm.append_left
abbrev lW:=@Array.mem_of_getElem?
abbrev mF:=@PySem.Draws.strAscii
abbrev m5:=@Bool.true_and
abbrev nv:=@Prod.ext
abbrev oA:=@Nat.sub_zero
abbrev oB:=@Nat.le_of_eq
set_option Elab.async false
set_option linter.all false
set_option maxRecDepth 100000
set_option maxHeartbeats 4000000
def PySem.W.Fast.tw18266031706227118986:Nat:=0
def PySem.W.Fast.tw7910148482286579862:Nat:=0
def PySem.W.Fast.tw10187865070716066107:Nat:=0
def PySem.W.Fast.tw17232664340217993931:Nat:=0
def PySem.W.Fast.tw7231103816067754275:Nat:=0
def PySem.W.Fast.tw16220617756050115147:Nat:=0
def PySem.W.Fast.tw7385507335059608441:Nat:=0
def PySem.W.Fast.tw15526359370645169499:Nat:=0
def PySem.W.Fast.tw6380629244251174677:Nat:=0
def PySem.W.Fast.tw15713684042704497787:Nat:=0
def PySem.W.Fast.tw13489391972105631897:Nat:=0
def PySem.W.Fast.tw4065889041423944817:Nat:=0
def PySem.W.Fast.tw4485547179835367576:Nat:=0
def PySem.W.Fast.tw1937234660204028832:Nat:=0
def PySem.W.Fast.tw15845214643712428842:Nat:=0
def PySem.W.Fast.tw8742093480663431034:Nat:=0
def PySem.W.Fast.tw11485083178445725875:Nat:=0
def PySem.W.Fast.tw16466562311804934673:Nat:=0
def PySem.W.Fast.tw10763405679349666033:Nat:=0
def PySem.W.Fast.tw17150666431651762844:Nat:=0
def PySem.W.Fast.tw9720591105912446115:Nat:=0
def PySem.W.Fast.tw5889002017859492723:Nat:=0
def PySem.W.Fast.tw394533419427236853:Nat:=0
def PySem.W.Fast.tw403196230056945087:Nat:=0
def PySem.W.Fast.tw951624368351643451:Nat:=0
def PySem.W.Fast.tw11374977473300886384:Nat:=0
def PySem.W.Fast.tw2710129972639236953:Nat:=0
def PySem.W.Fast.tw15617482281509632896:Nat:=0
def PySem.W.Fast.tw16602030177205659539:Nat:=0
def PySem.W.Fast.tw8277645994058915893:Nat:=0
def PySem.W.Fast.tw18132516591143433003:Nat:=0
def PySem.W.Fast.tw9595047199387879058:Nat:=0
def PySem.W.Fast.tw15623026929935897512:Nat:=0
def PySem.W.Fast.tw16719201635869690409:Nat:=0
def PySem.W.Fast.tw11742248901928301161:Nat:=0
def PySem.W.Fast.tw11463646591326285473:Nat:=0
def PySem.W.Fast.tw14260307962044817244:Nat:=0
def PySem.W.Fast.tw18331731336266892773:Nat:=0
def PySem.W.Fast.tw3899454702264499163:Nat:=0
def PySem.W.Fast.tw16058170080338164598:Nat:=0
def PySem.W.Fast.tw12357595639381804852:Nat:=0
def PySem.W.Fast.tw6256243236268502521:Nat:=0
def PySem.W.Fast.tw10785798178439361122:Nat:=0
def PySem.W.Fast.tw9190498271597138954:Nat:=0
def PySem.W.Fast.tw4979472496573446949:Nat:=0
def PySem.W.Fast.tw15902250053535888381:Nat:=0
def PySem.W.Fast.tw7764521456565610980:Nat:=0
def PySem.W.Fast.tw12456904930015072304:Nat:=0
def PySem.W.Fast.tw7603476667423749709:Nat:=0
namespace PySem.W.Fast
def tw9136560298945948205:=0
def tw10330250348860421725:=0
def tw521936912898065707:=0
def tw6721259601969131575:=0
def tw17812515269991435401:=0
def tw16551268064238872874:=0
def tw4887171060516938674:=0
def tw14978697828512867545:=0
def tw2378374806283402647:=0
def tw4891246362467479338:=0
def tw6345770305691292660:=0
def tw13118937414282404176:=0
def tw16905403309395060503:=0
def tw10169982626692581808:=0
def tw437527271679879865:=0
def tw11407038931455397797:=0
def tw12249630497390509725:=0
def tw241236785974128020:=0
def tw16616740395662348390:=0
def tw16989947756458456227:=0
def tw14911680406297894423:=0
def tw8251855329809986985:=0
def tw14580257829481819933:=0
def tw18209859519910516265:=0
def tw3732708744303435467:=0
def tw1546927386601020309:=0
def tw10346351432193066825:=0
def tw16093754613839771506:=0
def tw12884347636679417186:=0
def tw8062915546659349458:=0
def tw6894156316256112528:=0
def tw18162234374585800541:=0
def tw12572267246046864110:=0
def tw287742034674961584:=0
def tw14207771518674966579:=0
def tw10697632124166588258:=0
def tw10146994568664524828:=0
def tw6227434978658028179:=0
def tw5403280960435486405:=0
def tw16015487238738420982:=0
def tw6661764161480567189:=0
def tw17497361500942389342:=0
def tw14963257629048387522:=0
def tw3166152877230941734:=0
def tw14757986411146776290:=0
def tw7102682348614475612:=0
def tw11763040388055958135:=0
def tw7373057741677673938:=0
def tw1198388217513112915:=0
def tw2990106640103852430:=0
def tw356398442727111509:=0
def tw15538369686863388632:=0
def tw9606262624831988161:=0
def tw7917022826599062150:=0
def tw7738951102827418631:=0
def tw12150434309562135960:=0
def tw14966940982234141387:=0
def tw16863845578607508536:=0
def tw6274128529414871238:=0
def tw6274625691891056663:=0
def tw7458834734055714246:=0
def tw4223008633343499182:=0
def tw12108076729703702202:=0
def tw10107566841180060886:=0
def tw10789654371596959056:=0
def tw2459268229934305684:=0
def tw10366871463261320239:=0
def tw2616795547448486168:=0
def tw4334864344162523971:=0
def tw6274885226382181058:=0
def tw10421701739663442171:=0
def tw17670668516089274225:=0
def tw4121218719504032739:=0
def tw1279588655271293811:=0
def tw8238098401475994724:=0
def tw16259505179713316704:=0
def tw8048629096625602495:=0
def tw6381896833771987882:=0
def tw3690054258271731101:=0
def tw16015768422796172442:=0
def tw14249557610048415747:=0
def tw17489511309393783570:=0
def tw8158963800172765822:=0
def tw6362192470525490357:=0
def tw1419487952880218655:=0
def tw313926979585321382:=0
def tw14703543269231726811:=0
def tw13941747212106201058:=0
def tw9095015378132792711:=0
def tw10057207790039675117:=0
def tw11514734096105530458:=0
def tw3423560064522053648:=0
def tw7088248413666969154:=0
def tw14967220822959661039:=0
def tw12055654659574990863:=0
def tw16151139462064319491:=0
def tw5803230297725623511:=0
def tw4730186494744542249:=0
def tw11184677282127567349:=0
def tw11080785271140967627:=0
def tw5686545163550257547:=0
def tw10886341641379877465:=0
def tw3558094684280979145:=0
def tw15897536489246483947:=0
def tw18056013455775818807:=0
def tw7619847362780660191:=0
def tw4217259461562953004:=0
def tw12945657093475192215:=0
def tw10501764483550080837:=0
def tw9734869615395204765:=0
def tw3583451769536296905:=0
def tw3503638274111237549:=0
def tw15271296517491055786:=0
def tw5939162383712798967:=0
def tw7830060781760509137:=0
def tw13281305751002429513:=0
def tw18347576723422003027:=0
def tw14832392372031199652:=0
def tw4362813268157320952:=0
def tw3335045954435530043:=0
def tw9548408852479797163:=0
def tw2113501696232998819:=0
def tw10139603231085826632:=0
def tw9464753575020007051:=0
def tw7090730279191033845:=0
def tw10392412575742369233:=0
def tw9160802787355758386:=0
def tw6121740853202434381:=0
def tw511658202288847932:=0
def tw13290096764899461571:=0
def tw3903988979024402999:=0
def tw15285005943562090775:=0
def tw12217462696021045420:=0
def tw12248860646574434947:=0
def tw14280870692469341140:=0
def tw16672921820604670676:=0
def tw11292807747568820092:=0
def tw14217416782303421599:=0
def tw11287180654200108873:=0
def tw8228740677052072001:=0
def tw13204530123521944619:=0
def tw8423759432597336572:=0
def tw13488416368538221046:=0
def tw17294653473167532824:=0
def tw5399125867668923369:=0
def tw15910563140829039414:=0
def tw13461645496919146274:=0
def tw10497096929115291155:=0
def tw4809338876310403049:=0
def tw14025306685576168441:=0
def tw4286942958279780473:=0
def tw13113851374642850825:=0
def tw9708664346194910977:=0
def tw1110981723248209374:=0
def tw8929278098708940902:=0
def tw1713230116336789184:=0
def tw4724821987284534624:=0
def tw8104768156674153645:=0
def tw11811039005353519395:=0
def tw9812620033458067864:=0
def tw9371525279942771195:=0
def tw5248930313189559878:=0
def tw4273753992199361284:=0
def tw17799373614925825779:=0
def tw14933901394170187371:=0
def tw13774236052456563850:=0
def tw18288376683078239518:=0
def tw11158198396223367553:=0
def tw3542998996681225091:=0
def tw15723549878727990358:=0
def tw4574869632218458714:=0
def tw10863847798818621506:=0
def tw13537010162739099174:=0
def tw8404312305827581590:=0
def tw2287919344349372812:=0
def tw11958611745240349755:=0
def tw2942140894091100429:=0
def tw12099137750078441159:=0
def tw11513925483512917578:=0
def tw2304738790678064498:=0
def tw4679341138599212108:=0
def tw2692560149317898415:=0
def tw10909768343722444263:=0
def tw11825964862163466286:=0
def tw4487197913476377258:=0
def tw13691469545931511504:=0
def tw8903125379324187880:=0
def tw8592067520815399920:=0
def tw7730035028316769219:=0
def tw15338940764550616667:=0
def tw13060698317500522461:=0
def tw4549471940414223699:=0
def tw4532247334168598263:=0
def tw13038473287136518166:=0
def tw1279160165680406616:=0
def tw12061411300934419676:=0
def tw33072181110860622:=0
def tw357689144736171277:=0
def tw17409423896257466525:=0
def tw12707189051216146388:=0
def tw11800183284624291682:=0
def tw411477123031601547:=0
def tw2856923692497453032:=0
def tw14758577941078590308:=0
def tw13891013319230039782:=0
def tw11743732252927738827:=0
def tw9797312906158353522:=0
def tw9607172984802791517:=0
def tw9512731533485264157:=0
def tw9309402717113287025:=0
def tw9302045053056833375:=0
def tw9162033519061216242:=0
def tw9015292175220793224:=0
def tw8894671699062627504:=0
def tw8865243082088176972:=0
def tw8482303371090360465:=0
def tw8166560442702853512:=0
def tw7910389142581610205:=0
def tw7457588588099445143:=0
def tw7413199002001807126:=0
def tw7238558830701578780:=0
def tw7061964833025646390:=0
def tw7004390062223638197:=0
def tw6981721895860723630:=0
def tw6876626343734430551:=0
def tw6874845732837969878:=0
def tw6866252059503004502:=0
def tw6834840500011214225:=0
def tw6615545712138157624:=0
def tw6537845221868244682:=0
def tw6298199685207985234:=0
def tw5943105453528646611:=0
def tw5690337671896520738:=0
def tw5480496888806537259:=0
def tw5197197135927842776:=0
def tw5113648995142563160:=0
def tw5095000492915488837:=0
def tw4906595798322291196:=0
def tw4748496941182717134:=0
def tw473776997186769430:=0
def tw4639108820875864241:=0
def tw4588696475162446094:=0
def tw4104170392602944572:=0
def tw4070890649476717869:=0
def tw3982679391457611005:=0
def tw3922198358700407770:=0
def tw3720234580796662634:=0
def tw3703913414577723527:=0
def tw3118559504954382827:=0
def tw2589407165074917938:=0
def tw1956182400779084279:=0
def tw1931322682189176085:=0
def tw1877121897202076254:=0
def tw18368109281070726823:=0
def tw18142335121606566002:=0
def tw18112730333378432023:=0
def tw17964744648981472377:=0
def tw1795448077818469274:=0
def tw17206193175446138172:=0
def tw17145290897045885268:=0
def tw16792943738966126508:=0
def tw16584880505611605403:=0
def tw16574303124118698205:=0
def tw16404535608650106040:=0
def tw16304565561048626776:=0
def tw16279732138189120846:=0
def tw16044739060772992556:=0
def tw16043205850501158804:=0
def tw16019654491050060026:=0
def tw15976461786920782180:=0
def tw15725243056399323993:=0
def tw15590085993660075376:=0
def tw14534838642756746422:=0
def tw14422825070657738018:=0
def tw13844966962439932376:=0
def tw13539932243497425331:=0
def tw13400894703230470547:=0
def tw13040306612228412439:=0
def tw12733084485095526868:=0
def tw12676359312253742621:=0
def tw12519929643161996099:=0
def tw12434929834725564551:=0
def tw12377550761855394170:=0
def tw12054429426123319816:=0
def tw12030902684144851906:=0
def tw12009411287955382570:=0
def tw11423329592272286065:=0
def tw11149841398488511401:=0
def tw11145514175915961725:=0
def tw10955015448665272981:=0
def tw10948508658566967846:=0
def tw10566124974441217016:=0
def tw1034012761713159206:=0
def tw10300983753342640693:=0
end PySem.W.Fast
local macro_rules | `(tactic| lia) => `(tactic| first | lia -verbose | omega)
namespace Rm
structure EW (R:List Int):Prop where
 nn:∀ x∈R,0<=x
 z1:R.count 0=1
 two:∀ x∈R,0<x->R.count x=2
 nc:∀ u v,[u,v,u,v].Sublist R->u=v
 top:∀ u,¬ [u,0,u].Sublist R
section
variable {U W:List Int} {x y:Int}
def gk{s1 s2:List Int}{a:Int}(h1:s1.Sublist U)(h2:s2.Sublist W)(ha:a=x\/a=y):(s1++a::s2).Sublist (U++x::y::W):=by
 refine h1.append ?_;rcases ha with rfl | rfl
 ·exact(h2.cons y).cons_cons a
 ·exact(h2.cons_cons a).cons x
def sub_0{s:List Int}(h:s.Sublist (U++W)):s.Sublist (U++x::y::W):=
 h.trans ((List.Sublist.refl U).append (((List.Sublist.refl W).cons y).cons x))
def Ad{a b c d:Int}(h:[a,b,c,d].Sublist (U++W)):
  [a,b,c,d].Sublist W\/([a].Sublist U/\[b,c,d].Sublist W)\/([a,b].Sublist U/\[c,d].Sublist W)\/([a,b,c].Sublist U/\[d].Sublist W)\/[a,b,c,d].Sublist U:=by
 obtain⟨s1,s2,e,h1,h2⟩:=kT.mp h
 match s1,e with
 | [],e=>simp at e;subst e;exact .inl h2
 | [_],e=>simp at e;obtain⟨rfl,rfl⟩:=e;exact .inr (.inl ⟨h1,h2⟩)
 | [_,_],e=>simp at e;obtain⟨rfl,rfl,rfl⟩:=e;exact .inr (.inr (.inl ⟨h1,h2⟩))
 | [_,_,_],e=>simp at e;obtain⟨rfl,rfl,rfl,rfl⟩:=e;exact .inr (.inr (.inr (.inl ⟨h1,h2⟩)))
 | _::_::_::_::r,e=>simp at e;obtain⟨rfl,rfl,rfl,rfl,rfl,rfl⟩:=e;exact .inr (.inr (.inr (.inr h1)))
def vT{a b c:Int}(h:[a,b,c].Sublist (U++W)):
  [a,b,c].Sublist W\/([a].Sublist U/\[b,c].Sublist W)\/([a,b].Sublist U/\[c].Sublist W)\/[a,b,c].Sublist U:=by
 obtain⟨s1,s2,e,h1,h2⟩:=kT.mp h
 match s1,e with
 | [],e=>simp at e;subst e;exact .inl h2
 | [_],e=>simp at e;obtain⟨rfl,rfl⟩:=e;exact .inr (.inl ⟨h1,h2⟩)
 | [_,_],e=>simp at e;obtain⟨rfl,rfl,rfl⟩:=e;exact .inr (.inr (.inl ⟨h1,h2⟩))
 | _::_::_::r,e=>simp at e;obtain⟨rfl,rfl,rfl,rfl,rfl⟩:=e;exact .inr (.inr (.inr h1))
def FR{a:Int}{s l:List Int}(h:(a::s).Sublist l):s.Sublist l:=(List.sublist_cons_self a s).trans h
def G4{a b c d:Int}{l:List Int}(h:[a,b,c,d].Sublist l):[a,b,c].Sublist l:=j5 (by simp:[a,b,c].Sublist [a,b,c,d]) h
def IX{a b c:Int}{l:List Int}(h:[a,b,c].Sublist l):[a,b].Sublist l:=j5 (by simp) h
def IY{a b:Int}{l:List Int}(h:[a,b].Sublist l):[a].Sublist l:=j5 (by simp) h
def EW.k1(E:EW (U++x::y::W)){a c v:Int}(ha:a=x\/a=y)(hc:c=x\/c=y)(h:[a,v,c,v].Sublist (U++W)):v=a\/v=c:=by
 rcases Ad h with h | ⟨h1,h2⟩ | ⟨h1,h2⟩ | ⟨h1,h2⟩ | h
 ·exact .inr (E.nc _ _ (gk (ao U) (FR h) hc)).symm
 ·exact .inr (E.nc _ _ (gk (ao U) h2 hc)).symm
 ·exact .inl (E.nc _ _ (gk h1 (FR h2) ha)).symm
 ·exact .inl (E.nc _ _ (gk (IX h1) h2 ha)).symm
 ·exact .inr (E.nc _ _ (gk (FR h) (ao W) hc))
def EW.k2(E:EW (U++x::y::W)){a c u:Int}(ha:a=x\/a=y)(hc:c=x\/c=y)(h:[u,a,u,c].Sublist (U++W)):u=a\/u=c:=by
 rcases Ad h with h | ⟨h1,h2⟩ | ⟨h1,h2⟩ | ⟨h1,h2⟩ | h
 ·exact .inl (E.nc _ _ (gk (ao U) (G4 h) ha)).symm
 ·exact .inr (E.nc _ _ (gk h1 (FR h2) hc))
 ·exact .inr (E.nc _ _ (gk (IY h1) h2 hc))
 ·exact .inl (E.nc _ _ (gk h1 (ao W) ha))
 ·exact .inl (E.nc _ _ (gk (G4 h) (ao W) ha))
def EW.k3(E:EW (U++x::y::W)){a c:Int}(ha:a=x\/a=y)(hc:c=x\/c=y)(h:[a,0,c].Sublist (U++W)):False:=by
 rcases vT h with h | ⟨h1,h2⟩ | ⟨h1,h2⟩ | h
 ·exact E.top _ (gk (ao U) (FR h) hc)
 ·exact E.top _ (gk (ao U) h2 hc)
 ·exact E.top _ (gk h1 (ao W) ha)
 ·exact E.top _ (gk (IX h) (ao W) ha)
def EW.k4(E:EW (U++x::y::W)){u v:Int}(h0:x=0\/y=0)(hv:v=x\/v=y)(h:[u,v,u].Sublist (U++W)):u=v:=by
 have hz:(0:Int)=x\/(0:Int)=y:=h0.imp jG jG;rcases vT h with h | ⟨h1,h2⟩ | ⟨h1,h2⟩ | h
 ·exact(E.nc _ _ (gk (ao U) h hv)).symm
 ·exact(E.top _ (gk h1 (FR h2) hz)).elim
 ·exact(E.top _ (gk (IY h1) h2 hz)).elim
 ·exact E.nc _ _ (gk h (ao W) hv)
end
def rn(lo hi v:Int):Int:=if v=hi then lo else v
def qN{lo hi v:Int}(hne:lo≠hi):∀l:List Int,(l.map (rn lo hi)).count v=if v=hi then 0 else if v=lo then l.count lo+l.count hi else l.count v
 | []=>by simp
 | a::l=>by
  have ih:=qN (v:=v) hne l;simp only[aY,cK,ih,rn,beq_iff_eq];by_cases h1:v=hi
  ·subst h1;by_cases h2:a=v
   ·simp[h2,hne]
   ·simp[h2]
  ·by_cases h3:v=lo
   ·subst h3;by_cases h2:a=hi
    ·subst h2;simp[h1,cC h1];lia
    ·simp[h1,h2];lia
   ·by_cases h2:a=hi
    ·subst h2;simp[h1,h3,cC h3,cC h1]
    ·simp[h1,h2,h3]
def nC{U W:List Int}{x y v:Int}:(U++x::y::W).count v=(U++W).count v+(if x=v then 1 else 0)+(if y=v then 1 else 0):=by
 simp only[cR,cK,beq_iff_eq];lia
def lg{lo hi a:Int}:(a=hi/\rn lo hi a=lo)\/(a≠hi/\rn lo hi a=a):=by
 by_cases h:a=hi
 ·exact .inl ⟨h,by simp[rn,h]⟩
 ·exact .inr ⟨h,by simp[rn,h]⟩
def JZ{f:Int->Int}{l:List Int}{u v p q:Int}(h:[u,v,p,q].Sublist (l.map f)):∃a b c d,[a,b,c,d].Sublist l/\u=f a/\v=f b/\p=f c/\q=f d:=by
 obtain⟨l',hl,e⟩:=List.sublist_map_iff.mp h;have hn:l'.length=4:=by have:=congrArg List.length e;simp at this;lia
 obtain⟨a,r,rfl⟩:=ax hn;obtain⟨b,r,rfl⟩:=ax (l:=r) (n:=2) (by simpa using hn);obtain⟨c,r,rfl⟩:=ax (l:=r) (n:=1) (by simpa using hn);obtain⟨d,r,rfl⟩:=ax (l:=r) (n:=0) (by simpa using hn);have:r=[]:=bD (by simpa using hn);subst this;simp only[aY,fk,gE,and_true] at e;exact⟨a,b,c,d,hl,e⟩
def J0{f:Int->Int}{l:List Int}{u v p:Int}(h:[u,v,p].Sublist (l.map f)):∃a b c,[a,b,c].Sublist l/\u=f a/\v=f b/\p=f c:=by
 obtain⟨l',hl,e⟩:=List.sublist_map_iff.mp h;have hn:l'.length=3:=by have:=congrArg List.length e;simp at this;lia
 obtain⟨a,r,rfl⟩:=ax hn;obtain⟨b,r,rfl⟩:=ax (l:=r) (n:=1) (by simpa using hn);obtain⟨c,r,rfl⟩:=ax (l:=r) (n:=0) (by simpa using hn);have:r=[]:=bD (by simpa using hn);subst this;simp only[aY,fk,gE,and_true] at e;exact⟨a,b,c,hl,e⟩
def EW.join{U W:List Int}{x y lo hi:Int}(E:EW (U++x::y::W))(hlh:lo<hi)(hp:(lo=x/\hi=y)\/(lo=y/\hi=x)):EW ((U++W).map (rn lo hi)):=by
 have hne:lo≠hi:=by lia
 have hlo:lo=x\/lo=y:=hp.elim (λh=>.inl h.1) (λh=>.inr h.1);have hhi:hi=x\/hi=y:=hp.elim (λh=>.inr h.2) (λh=>.inl h.2);have mlo:lo∈U++x::y::W:=by rcases hlo with rfl | rfl<;>simp
 have mhi:hi∈U++x::y::W:=by rcases hhi with rfl | rfl<;>simp
 have n0:=E.nn _ mlo;have chi:(U++W).count hi=1:=by
  have:=E.two hi mhi (by lia);rw[nC] at this;rcases hp with ⟨rfl,rfl⟩ | ⟨rfl,rfl⟩
  ·rw[NI hne,NJ rfl] at this;lia
  ·rw[NJ rfl,NI hne] at this;lia
 have clo:(U++W).count lo=if lo=0 then 0 else 1:=by
  have e:(U++x::y::W).count lo=(U++W).count lo+1:=by
   rw[nC];rcases hp with ⟨rfl,rfl⟩ | ⟨rfl,rfl⟩
   ·rw[NJ rfl,NI (cC hne)]
   ·rw[NJ rfl,NI (cC hne)]
  by_cases h:lo=0
  ·rw[NJ h];have:=E.z1;rw[<-h,e] at this;lia
  ·rw[NI h];have:=E.two lo mlo (by lia);lia
 have oth:∀v,v≠lo->v≠hi->(U++W).count v=(U++x::y::W).count v:=λv h1 h2=>by
  rw[nC];rcases hp with ⟨rfl,rfl⟩ | ⟨rfl,rfl⟩
  ·rw[NI (cC h1),NI (cC h2)];rfl
  ·rw[NI (cC h2),NI (cC h1)];rfl
 have mem0:∀v,v∈(U++W).map (rn lo hi)->v≠hi/\(v=lo\/v∈U++W):=λv hv=>by
  obtain⟨a,ha,rfl⟩:=ba.mp hv;rcases lg (lo:=lo) (hi:=hi) (a:=a) with ⟨h1,h2⟩ | ⟨h1,h2⟩
  ·rw[h2];exact⟨hne,.inl rfl⟩
  ·rw[h2];exact⟨h1,.inr ha⟩
 have inR:∀v,v∈U++W->v∈U++x::y::W:=λv hv=>by
  rcases aQ.mp hv with h | h
  ·exact bG _ h
  ·exact au _ (aM _ (aM _ h))
 have pick:∀a c u,rn lo hi a=u->rn lo hi c=u->a=c\/(u=lo/\(a=x\/a=y)/\(c=x\/c=y)):=λa c u h1 h2=>by
  rcases lg (lo:=lo) (hi:=hi) (a:=a) with ⟨h3,h4⟩ | ⟨h3,h4⟩<;>rcases lg (lo:=lo) (hi:=hi) (a:=c) with ⟨h5,h6⟩ | ⟨h5,h6⟩
  ·exact .inl (h3.trans h5.symm)
  ·have e1:u=lo:=by rw[<-h1,h4]
   have e2:c=lo:=by rw[<-h6,h2,e1]
   exact .inr ⟨e1,h3▸hhi,e2▸hlo⟩
  ·have e1:u=lo:=by rw[<-h2,h6]
   have e2:a=lo:=by rw[<-h4,h1,e1]
   exact .inr ⟨e1,e2▸hlo,h5▸hhi⟩
  ·exact .inl (by rw[<-h4,<-h6,h1,h2])
 have xy:∀a:Int,a=x\/a=y->rn lo hi a=lo:=λa h=>by
  have:a=lo\/a=hi:=by
   rcases hp with ⟨rfl,rfl⟩ | ⟨rfl,rfl⟩
   ·exact h
   ·exact h.symm
  rcases this with rfl | rfl
  ·simp[rn,hne]
  ·simp[rn]
 refine⟨λv hv=>?_,?_,λv hv h0=>?_,λu v h=>?_,λu h=>?_⟩
 ·rcases(mem0 v hv).2 with rfl | h
  ·exact n0
  ·exact E.nn v (inR v h)
 ·rw[qN hne,NI (by lia)];by_cases h:(0:Int)=lo
  ·rw[NJ h,clo,NJ h.symm,chi]
  ·rw[NI h,oth 0 h (by lia),E.z1]
 ·obtain⟨h1,h2⟩:=mem0 v hv;rw[qN hne,NI h1];by_cases h:v=lo
  ·rw[NJ h,clo,NI (by lia),chi]
  ·rw[NI h,oth v h h1];exact E.two v (inR v (h2.resolve_left h)) h0
 ·obtain⟨a,b,c,d,hl,e1,e2,e3,e4⟩:=JZ h
  ·skip
   rcases pick a c u e1.symm e3.symm with rfl | ⟨hu,ha,hc⟩
   ·rcases pick b d v e2.symm e4.symm with rfl | ⟨hv,hb,hd⟩
    ·have:=E.nc _ _ (sub_0 hl);subst this;rw[e1,e2]
    ·rcases E.k2 hb hd hl with z | z
     ·rw[e1,z,hv];exact xy b hb
     ·rw[e1,z,hv];exact xy d hd
   ·rcases pick b d v e2.symm e4.symm with rfl | ⟨hv,hb,hd⟩
    ·rcases E.k1 ha hc hl with z | z
     ·rw[e2,z,hu];exact(xy a ha).symm
     ·rw[e2,z,hu];exact(xy c hc).symm
    ·rw[hu,hv]
 ·obtain⟨a,b,c,hl,e1,e2,e3⟩:=J0 h
  ·skip
   by_cases hl0:lo=0
   ·have h0n:(0:Int)∉U++W:=by rw[<-bT,<-hl0,clo,NJ hl0]
    have hb:b∈U++W:=hl.subset (by simp);have ha:a∈U++W:=hl.subset (by simp);have bh:b=hi:=by
     rcases lg (lo:=lo) (hi:=hi) (a:=b) with ⟨h3,h4⟩ | ⟨h3,h4⟩
     ·exact h3
     ·rw[h4] at e2;exact(h0n (e2▸hb)).elim
    have hz:x=0\/y=0:=hlo.elim (λz=>.inl (z▸hl0)) (λz=>.inr (z▸hl0));rcases pick a c u e1.symm e3.symm with rfl | ⟨hu,ha',hc'⟩
    ·have eab:a=b:=E.k4 hz (bh▸hhi) hl;have:=hl.count_le hi;rw[chi,eab,bh] at this;simp at this
    ·have:a=hi:=by
      have:a=lo\/a=hi:=by
       rcases hp with ⟨rfl,rfl⟩ | ⟨rfl,rfl⟩
       ·exact ha'
       ·exact ha'.symm
      rcases this with z | z
      ·exact(h0n (by rw[<-hl0,<-z];exact ha)).elim
      ·exact z
     have cc:=hl.count_le hi;rw[chi,this,bh] at cc;simp at cc
   ·have b0:b=0:=by
     rcases lg (lo:=lo) (hi:=hi) (a:=b) with ⟨h3,h4⟩ | ⟨h3,h4⟩
     ·rw[h4] at e2;exact(hl0 e2.symm).elim
     ·rw[h4] at e2;exact e2.symm
    subst b0;rcases pick a c u e1.symm e3.symm with rfl | ⟨hu,ha',hc'⟩
    ·exact E.top _ (sub_0 hl)
    ·exact E.k3 ha' hc' hl
def JL{U W:List Int}{z v:Int}(hU:z∉U)(hW:z∉W)(hv:v≠z):¬[z,v,z].Sublist (U++z::z::W):=λh=>by
 have hw:∀{r:List Int},¬(v::z::r).Sublist W:=λh=>hW (h.subset (by simp));rcases vT h with h | ⟨h1,h2⟩ | ⟨h1,h2⟩ | h
 ·have h':[v,z].Sublist (z::W):=(List.cons_sublist_cons.mp h)
  cases h' with
  | cons _ h''=>exact hw h''
  | cons_cons _ _=>exact hv rfl
 ·exact hU (h1.subset (by simp))
 ·exact hU (h1.subset (by simp))
 ·exact hU (h.subset (by simp))
def CI{l:List Int}{z:Int}(h:z∉l):l.filter (λa=>!decide (a=z))=l:=
 List.filter_eq_self.mpr λa ha=>by simp only[Bool.not_eq_true',decide_eq_false_iff_not];exact λe=>h (e▸ha)
def EW.ins{U W:List Int}{z:Int}(E:EW (U++W))(hz:0<z)(hU:z∉U)(hW:z∉W):EW (U++z::z::W):=by
 have c0:(U++W).count z=0:=bT.mpr λh=>(aQ.mp h).elim hU hW;have inn:∀v,v∈U++z::z::W->v=z\/v∈U++W:=λv h=>by
  simp only[aQ,aI] at h ⊢;rcases h with h | h | h | h<;>simp[h]
 have fl:∀s:List Int,z∉s->s.Sublist (U++z::z::W)->s.Sublist (U++W):=λs hs h=>by
  have h2:=h.filter (λa=>!decide (a=z));have e1:=CI hs;have e2:(U++z::z::W).filter (λa=>!decide (a=z))=U++W:=by
   rw[j3,kY,kY];simp only[decide_true,Bool.not_true,dH,NP];rw[CI hU,CI hW]
  rw[e1,e2] at h2;exact h2
 refine⟨λv hv=>?_,?_,λv hv h0=>?_,λu v h=>?_,λu h=>?_⟩
 ·rcases inn v hv with rfl | h
  ·lia
  ·exact E.nn v h
 ·rw[nC,NI (by lia),E.z1]
 ·rcases inn v hv with rfl | h
  ·rw[nC,c0,NJ rfl]
  ·by_cases hvz:z=v
   ·subst hvz;rw[nC,c0,NJ rfl]
   ·rw[nC,NI hvz];exact E.two v h h0
 ·by_cases huv:u=v
  ·exact huv
  by_cases hu:u=z
  ·subst hu;exact(JL hU hW (cC huv) (G4 h)).elim
  by_cases hv:v=z
  ·subst hv;exact(JL hU hW huv (FR h)).elim
  exact E.nc _ _ (fl _ (by simp[cC hu,cC hv]) h)
 ·by_cases hu:u=z
  ·subst hu;exact JL hU hW (by lia) h
  exact E.top _ (fl _ (by simp[cC hu];lia) h)
def l4(pre:List Int)(x:Int):Nat:=if 0<x then (if x∈pre then 41 else 40) else 42
def bu:List Int->List Int->List Nat
 | _,[]=>[]
 | pre,x::r=>l4 pre x::bu (pre++[x]) r
def cw:∀(A pre B:List Int),bu pre (A++B)=bu pre A++bu (pre++A) B
 | [],pre,B=>by simp[bu]
 | x::A,pre,B=>by simp[bu,cw A]
def cG:∀(A pre:List Int),(bu pre A).length=A.length
 | [],_=>rfl
 | x::A,pre=>by simp[bu,cG A]
def c7{A pre B:List Int}{x:Int}:bu pre (A++x::B)=bu pre A++l4 (pre++A) x::bu (pre++A++[x]) B:=by rw[cw];rfl
def vV(pre:List Int)(x:Int):l4 pre x=40\/l4 pre x=41\/l4 pre x=42:=by unfold l4;split<;>(try split)<;>simp
def vW:∀(A pre:List Int),∀c∈bu pre A,c=40\/c=41\/c=42
 | [],_,c,h=>by simp[bu] at h
 | x::A,pre,c,h=>by
  rcases aI.mp h with rfl | h
  ·exact vV pre x
  ·exact vW A _ c h
def i0{pre:List Int}{x:Int}(h0:0<x)(h:x∉pre):l4 pre x=40:=by simp[l4,h0,h]
def iZ{pre:List Int}{x:Int}(h0:0<x)(h:x∈pre):l4 pre x=41:=by simp[l4,h0,h]
def xT{pre:List Int}:l4 pre 0=42:=by simp[l4]
def dh{x y:Int}:∀(V pre pre':List Int),(∀v∈V,v≠x/\v≠y)->(∀v,v≠x->v≠y->(v∈pre<->v∈pre'))->bu pre V=bu pre' V
 | [],_,_,_,_=>rfl
 | v::V,pre,pre',hV,hp=>by
  have h1:=hV v (by simp);have e:l4 pre v=l4 pre' v:=by simp only[l4,hp v h1.1 h1.2]
  simp only[bu,e];rw[dh V (pre++[v]) (pre'++[v]) (λw hw=>hV w (aM _ hw)) λw a b=>by simp[hp w a b]]
def Ai(V pre:List Int)(j:Nat):(bu pre V).take j=bu pre (V.take j):=by
 by_cases h:j<=V.length
 ·have e:bu pre V=bu pre (V.take j)++bu (pre++V.take j) (V.drop j):=by rw[<-cw,gq]
  rw[e,i8 (by rw[cG,bp];lia),dA (by rw[cG,bp];lia)]
 ·rw[dA (by rw[cG];lia),dA (by lia)]
def vl(c:Nat):Int:=if c=40 then 1 else if c=41 then -1 else 0
def ps(cs:List Nat):Int:=(cs.map vl).sum
def mh:ps []=0:=rfl
def mO(c:Nat)(cs:List Nat):ps (c::cs)=vl c+ps cs:=by simp[ps]
def oJ(a b:List Nat):ps (a++b)=ps a+ps b:=by simp[ps]
structure Cl (V:List Nat):Prop where
 z:ps V=0
 nn:∀ j,0<=ps (V.take j)
def pC{pre:List Int}:∀(V D o:List Int),o.Nodup->(∀v,v∈o<->D.count v=1)->(∀v∈D++V,0<v/\v∉pre/\(D++V).count v<=2) →
  ∃o':List Int,o'.Nodup/\(o'.length:Int)=o.length+ps (bu (pre++D) V)/\∀v,v∈o'<->(D++V).count v=1
 | [],D,o,nd,ho,h=>⟨o,nd,by simp[bu,mh],by simpa using ho⟩
 | v::V,D,o,nd,ho,h=>by
  have e:D++v::V=(D++[v])++V:=by simp
  obtain⟨h0,hp,h2⟩:=h v (by simp);have hc:(D++v::V).count v=D.count v+1+V.count v:=by simp[cR,cK];lia
  have hw:∀w,(D++[v]).count w=D.count w+if v=w then 1 else 0:=λw=>by simp[cR,cK]
  rw[e] at h ⊢;by_cases hv:v∈D
  ·have c1:D.count v=1:=by have:=j4.mpr hv;lia
   have vo:=(ho v).mpr c1;obtain⟨o',n',l',m'⟩:=pC (pre:=pre) V (D++[v]) (o.erase v) (nd.erase v) (λw=>by
    rw[nd.mem_erase_iff,ho w,hw w];by_cases e:v=w
    ·subst e;simp[c1]
    ·simp[e,cC e]) h
   refine⟨o',n',?_,m'⟩;have hl:=List.length_erase_of_mem vo;have hpos:=List.length_pos_of_mem vo;rw[l',bu,mO,iZ h0 (au _ hv),hl,ai];have:vl 41=-1:=by decide
   lia
  ·have c0:D.count v=0:=bT.mpr hv;obtain⟨o',n',l',m'⟩:=pC (pre:=pre) V (D++[v]) (v::o) (ci.mpr ⟨λz=>(by rw[ho v,c0] at z;cases z),nd⟩) (λw=>by
    rw[aI,ho w,hw w];by_cases e:v=w
    ·subst e;simp[c0]
    ·simp[e,cC e]) h
   refine⟨o',n',?_,m'⟩;rw[l',bu,mO,i0 h0 (λz=>(aQ.mp z).elim hp hv),cM,ai];have:vl 40=1:=by decide
   lia
def Ic{pre V:List Int}(h:∀v∈V,0<v/\v∉pre/\V.count v=2):Cl (bu pre V):=by
 refine⟨?_,λj=>?_⟩
 ·obtain⟨o,_,l,m⟩:=pC (pre:=pre) V [] [] .nil (by simp) (λv hv=>⟨(h v (by simpa using hv)).1,(h v (by simpa using hv)).2.1,by have:=(h v (by simpa using hv)).2.2;simp only[bM];lia⟩);have:o=[]:=by
   rcases o with _ | ⟨v,o⟩
   ·rfl
   ·have c:=(m v).mp (by simp);simp only[bM] at c;have hv:v∈V:=j4.mp (by lia);have:=(h v hv).2.2;lia
  subst this;simpa using l.symm
 ·rw[Ai];obtain⟨o,_,l,m⟩:=pC (pre:=pre) (V.take j) [] [] .nil (by simp) (λv hv=>by
   have hv':v∈V:=List.mem_of_mem_take (by simpa using hv);have:=(h v hv').2.2;have c:=(List.take_sublist j V).count_le v;exact⟨(h v hv').1,(h v hv').2.1,by simp only[bM];lia⟩)
  simp at l;lia
def yT{A V B:List Int}{x v:Int}:(A++x::(V++x::B)).count v=A.count v+V.count v+B.count v+(if x=v then 2 else 0):=by
 simp only[cR,cK,beq_iff_eq];split<;>lia
def EW.seg{A V B:List Int}{x:Int}(E:EW (A++x::(V++x::B)))(hx:0<x):Cl (bu (A++[x]) V)/\x∉A/\x∉V/\x∉B:=by
 have c:=E.two x (by simp) hx;rw[yT,NJ rfl] at c;have nA:x∉A:=bT.mp (by lia);have nV:x∉V:=bT.mp (by lia);have nB:x∉B:=bT.mp (by lia);refine⟨Ic λv hv=>?_,nA,nV,nB⟩;have vx:x≠v:=λe=>nV (e▸hv);have hs:[v].Sublist V:=bi.mpr hv;have v0:v≠0:=λe=>by
  subst e;exact E.top x ((ao A).append ((hs.append (((ao B).cons_cons x):[x].Sublist (x::B))).cons_cons x))
 have hA:v∉A:=λh=>vx.symm (E.nc v x ((bi.mpr h).append ((hs.append ((ao B).cons_cons x)).cons_cons x)));have hB:v∉B:=λh=>vx (E.nc x v ((ao A).append ((hs.append ((bi.mpr h).cons_cons x)).cons_cons x)));have hn:=E.nn v (by simp[hv]);have c2:=E.two v (by simp[hv]) (by lia);rw[yT,NI vx,bT.mpr hA,bT.mpr hB] at c2;exact⟨by lia,by simp[hA,cC vx],by lia⟩
inductive vG (cs:List Nat):Nat->Nat->Prop
 | star {P S:List Nat} {p:Nat} (h:cs=P++42::S) (hp:p=P.length):vG cs p p
 | right {P V S:List Nat} {p q:Nat} (h:cs=P++40::(V++41::S)) (c:Cl V) (hp:p=P.length) (hq:q=P.length+V.length+1):vG cs p q
 | left {P V S:List Nat} {p q:Nat} (h:cs=P++40::(V++41::S)) (c:Cl V) (hp:p=P.length+V.length+1) (hq:q=P.length):vG cs p q
def iU{P S:List Nat}{c d k:Nat}(h:k=P.length):(P++c::S).set k d=P++d::S:=by
 subst h;rw[List.set_append_right _ _ (aH _)];simp
def pM{P Q:List Nat}{a b k:Nat}(h:k=P.length):(P++a::b::Q).take k++(P++a::b::Q).drop (k+2)=P++Q/\(P++a::b::Q).length=P.length+Q.length+2:=by
 subst h;refine⟨?_,by simp;lia⟩;rw[List.take_left,List.drop_append];simp
def jn(cs:List Nat)(p a b m0 m1:Nat):List Nat:=((cs.set a m0).set b m1).take p++((cs.set a m0).set b m1).drop (p+2)
def GY{A V C F:List Nat}{a x y b p i j m0 m1:Nat}(hi:i=A.length)(hj:j=A.length+V.length+C.length+3)(hp:p=A.length+V.length+1):
  jn (A++a::(V++x::y::(C++b::F))) p i j m0 m1=A++m0::(V++(C++m1::F)):=by
 unfold jn;rw[iU hi,show A++m0::(V++x::y::(C++b::F))=(A++m0::(V++x::y::C))++b::F by simp,iU (by simp;lia),
  show (A++m0::(V++x::y::C))++m1::F=(A++m0::V)++x::y::(C++m1::F) by simp,(pM (by simp;lia)).1]
 simp
def Bt{P C D F:List Nat}{x y b d p i j m0 m1:Nat}(hi:i=P.length+C.length+2)(hj:j=P.length+C.length+D.length+3)(hp:p=P.length):
  jn (P++x::y::(C++b::(D++d::F))) p i j m0 m1=P++(C++m0::(D++m1::F)):=by
 unfold jn;rw[show P++x::y::(C++b::(D++d::F))=(P++x::y::C)++b::(D++d::F) by simp,iU (by simp;lia),
  show (P++x::y::C)++m0::(D++d::F)=(P++x::y::(C++m0::D))++d::F by simp,iU (by simp;lia),
  show (P++x::y::(C++m0::D))++m1::F=P++x::y::(C++m0::(D++m1::F)) by simp,(pM hp).1]
def Du{A B C S:List Nat}{a b x y p i j m0 m1:Nat}(hi:i=A.length)(hj:j=A.length+B.length+1)(hp:p=A.length+B.length+C.length+2):
  jn (A++a::(B++b::(C++x::y::S))) p i j m0 m1=A++m0::(B++m1::(C++S)):=by
 unfold jn;rw[iU hi,show A++m0::(B++b::(C++x::y::S))=(A++m0::B)++b::(C++x::y::S) by simp,iU (by simp;lia),
  show (A++m0::B)++m1::(C++x::y::S)=(A++m0::(B++m1::C))++x::y::S by simp,(pM (by simp;lia)).1]
 simp
def IV{P C F:List Nat}{x y b p i j m0 m1:Nat}(hi:i=P.length)(hj:j=P.length+C.length+2)(hp:p=P.length):
  jn (P++x::y::(C++b::F)) p i j m0 m1=P++(C++m1::F):=by
 unfold jn;rw[iU hi,show P++m0::y::(C++b::F)=(P++m0::y::C)++b::F by simp,iU (by simp;lia),
  show (P++m0::y::C)++m1::F=P++m0::y::(C++m1::F) by simp,(pM hp).1]
def IW{A V S:List Nat}{a x y p i j m0 m1:Nat}(hi:i=A.length)(hj:j=A.length+V.length+2)(hp:p=A.length+V.length+1):
  jn (A++a::(V++x::y::S)) p i j m0 m1=A++m0::(V++S):=by
 unfold jn;rw[iU hi,show A++m0::(V++x::y::S)=(A++m0::(V++[x]))++y::S by simp,iU (by simp;lia),
  show (A++m0::(V++[x]))++m1::S=(A++m0::V)++x::m1::S by simp,(pM (by simp;lia)).1]
 simp
def Bm{lo hi:Int}:∀{l:List Int},hi∉l->l.map (rn lo hi)=l
 | [],_=>rfl
 | a::l,h=>by
  simp only[aI,not_or] at h;rw[aY,Bm h.2];simp[rn,cC h.1]
def El{lo hi:Int}:rn lo hi lo=lo:=by unfold rn;split<;>rfl
def Em{lo hi:Int}:rn lo hi hi=lo:=by simp[rn]
structure Il (cs:List Nat) (p:Nat) (st:Prop) (out:List Nat):Prop where
 ex:∃ q0 q1,vG cs p q0/\vG cs (p+1) q1/\q0≠p+1/\q0≠q1/\q0<cs.length/\q1<cs.length ∧
  ((st/\jn cs p (min q0 q1) (max q0 q1) 42 42=out)\/(¬ st/\jn cs p (min q0 q1) (max q0 q1) 40 41=out))
def EW.two_in{R:List Int}(E:EW R){A B:List Int}{x:Int}(e:R=A++x::B)(hx:0<x):(∃C D,A=C++x::D)\/(∃C D,B=C++x::D):=by
 have c:=E.two x (by rw[e];simp) hx;rw[e] at c;simp only[cR,cK,beq_self_eq_true,NO] at c;by_cases h:x∈A
 ·exact .inl (dq h)
 ·have:=bT.mpr h;exact .inr (dq (j4.mp (by lia)))
section
variable {x y:Int}
def off{l:List Int}(h1:x∉l)(h2:y∉l):∀v∈l,v≠x/\v≠y:=λv hv=>⟨λe=>h1 (e▸hv),λe=>h2 (e▸hv)⟩
end
def EW.d{U W:List Int}{x y lo hi:Int}(E:EW (U++x::y::W))(hlh:lo<hi)(hp:(lo=x/\hi=y)\/(lo=y/\hi=x)):
  Il (bu [] (U++x::y::W)) U.length (x=0\/y=0) (bu [] ((U++W).map (rn lo hi))):=by
 have hxy:x≠y:=by lia
 have x0:=E.nn x (by simp);have y0:=E.nn y (by simp);have rx:rn lo hi x=lo:=by rcases hp with ⟨rfl,rfl⟩ | ⟨rfl,rfl⟩;exact El;exact Em
 have ry:rn lo hi y=lo:=by rcases hp with ⟨rfl,rfl⟩ | ⟨rfl,rfl⟩;exact Em;exact El
 have hh:hi=x\/hi=y:=hp.elim (λh=>.inr h.2) (λh=>.inl h.2);have hl:lo=x\/lo=y:=hp.elim (λh=>.inl h.1) (λh=>.inr h.1);have mp:∀l:List Int,x∉l->y∉l->l.map (rn lo hi)=l:=λl h1 h2=>Bm (by rcases hh with rfl | rfl<;>assumption);have ll:∀l:List Int,x∉l->y∉l->lo∉l:=λl h1 h2=>by rcases hl with rfl | rfl<;>assumption
 by_cases hx:x=0
 ·-- the mouth's piece on the left
  subst hx;have hy:0<y:=by lia
  have el:lo=0:=by lia
  rcases E.two_in (A:=U++[0]) (B:=W) (x:=y) (by simp) hy with ⟨C,D,e⟩ | ⟨C,D,e⟩
  ·exfalso;have:y∈U:=by
    have:y∈U++[0]:=by rw[e];simp
    simpa [cC hxy] using this
   exact E.top y ((bi.mpr this).append (((ao W).cons_cons y).cons_cons 0))
  ·subst e;obtain⟨cl,n1,n2,n3⟩:=EW.seg (A:=U++[0]) (V:=C) (B:=D) (x:=y) (by simpa using E) hy;have c0:=E.z1;simp only[cR,cK,beq_self_eq_true,NO] at c0;have z1:(0:Int)∉U:=bT.mp (by lia);have z2:(0:Int)∉C:=bT.mp (by lia);have z3:(0:Int)∉D:=bT.mp (by lia);have n1':y∉U:=λh=>n1 (by simp[h]);have ec:bu [] (U++0::y::(C++y::D))=bu [] U++42::40::(bu (U++[0]++[y]) C++41::bu (U++[0]++[y]++C++[y]) D):=by
    rw[c7,bu,c7];simp only[bM];rw[xT,i0 hy n1,iZ hy (by simp)]
   have eo:bu [] ((U++(C++y::D)).map (rn lo hi))=bu [] U++(bu (U++[0]++[y]) C++42::bu (U++[0]++[y]++C++[y]) D):=by
    rw[aO,aO,aY,ry,mp U z1 n1',mp C z2 n2,mp D z3 n3,cw,c7,el,xT];rw[dh (x:=0) (y:=y) C _ (U++[0]++[y]) (off z2 n2) (λv a b=>by simp[a,b]),dh (x:=0) (y:=y) D _ (U++[0]++[y]++C++[y]) (off z3 n3) (λv a b=>by simp[a,b])]
   rw[ec,eo];have lU:=cG U [];have lC:=cG C (U++[0]++[y]);clear ec eo E c0;generalize bu [] U=u at *;generalize bu (U++[0]++[y]) C=c at *;generalize bu (U++[0]++[y]++C++[y]) D=d at *;refine⟨U.length,U.length+C.length+2,.star rfl (by lia),.right (P:=u++[42]) (V:=c) (S:=d) (by simp) cl (by simp;lia) (by simp;lia),by lia,by lia,by simp;lia,by simp;lia,.inl ⟨.inl rfl,?_⟩⟩;rw[ig (by lia),kS (by lia)];exact IV (by lia) (by lia) (by lia)
 ·have hx':0<x:=by lia
  by_cases hy:y=0
  ·subst hy;have el:lo=0:=by lia
   rcases E.two_in (A:=U) (B:=0::W) (x:=x) rfl hx' with ⟨A,V,e⟩ | ⟨C,D,e⟩
   ·subst e;have E':EW (A++x::(V++x::(0::W))):=by simpa using E
    obtain⟨cl,n1,n2,n3⟩:=E'.seg hx';have c0:=E.z1;simp only[cR,cK,beq_self_eq_true,NO] at c0;have z1:(0:Int)∉A:=bT.mp (by lia);have z2:(0:Int)∉V:=bT.mp (by lia);have z3:(0:Int)∉W:=bT.mp (by lia);have n3':x∉W:=λh=>n3 (by simp[h]);have ec:bu [] (A++x::V++x::0::W)=bu [] A++40::(bu (A++[x]) V++41::42::bu (A++[x]++V++[x]++[0]) W):=by
     rw[show A++x::V++x::0::W=A++x::(V++x::0::W) by simp,c7,c7,bu];simp only[bM];rw[xT,i0 hx' n1,iZ hx' (by simp)]
    have eo:bu [] ((A++x::V++W).map (rn lo hi))=bu [] A++42::(bu (A++[x]) V++bu (A++[x]++V++[x]++[0]) W):=by
     rw[show A++x::V++W=A++x::(V++W) by simp,aO,aY,aO,rx,mp A n1 z1,mp V n2 z2,mp W n3' z3,c7,cw,el,xT];simp only[bM];rw[dh (x:=x) (y:=0) V _ (A++[x]) (off n2 z2) (λv a b=>by simp[a,b]),dh (x:=x) (y:=0) W _ (A++[x]++V++[x]++[0]) (off n3' z3) (λv a b=>by simp[a,b])]
    rw[ec,eo];have lA:=cG A [];have lV:=cG V (A++[x]);clear ec eo E E' c0;have lU:(A++x::V).length=A.length+V.length+1:=by simp;lia
    rw[lU];generalize bu [] A=a at *;generalize bu (A++[x]) V=v at *;generalize bu (A++[x]++V++[x]++[0]) W=w at *;refine⟨A.length,A.length+V.length+2,.left rfl cl (by lia) (by lia),.star (P:=a++40::(v++[41])) (S:=w) (by simp) (by simp;lia),by lia,by lia,by simp;lia,by simp;lia,.inl ⟨.inr rfl,?_⟩⟩;rw[ig (by lia),kS (by lia)];exact IW (by lia) (by lia) (by lia)
   ·exfalso;have:x∈W:=by
     have:x∈(0:Int)::W:=by rw[e];simp
     simpa [hxy] using this
    exact E.top x ((ao U).append (((bi.mpr this).cons_cons 0).cons_cons x))
  ·have hy':0<y:=by lia
   have hst:¬(x=0\/y=0):=by lia
   have hl0:0<lo:=by rcases hl with rfl | rfl<;>assumption
   rcases E.two_in (A:=U) (B:=y::W) (x:=x) rfl hx' with ⟨A,V,e⟩ | ⟨C,D,e⟩
   ·subst e;have E':EW (A++x::(V++x::(y::W))):=by simpa using E
    obtain⟨cl,n1,n2,n3⟩:=E'.seg hx';have n3':x∉W:=λh=>n3 (by simp[h]);rcases E.two_in (A:=A++x::V++[x]) (B:=W) (x:=y) (by simp) hy' with ⟨C,D,e⟩ | ⟨C,F,e⟩
    ·-- )):y begins ahead of x
     have yA:y∈A:=by
      have:y∈A++x::V++[x]:=by rw[e];simp
      simp only[aQ,aI,bN,b9,or_false] at this;rcases this with (h | h | h) | h
      ·exact h
      ·exact absurd h.symm hxy
      ·exact absurd (E'.nc x y ((ao A).append ((((bi.mpr h).append (((ao W).cons_cons y).cons_cons x))).cons_cons x))) hxy
      ·exact absurd h.symm hxy
     obtain⟨A,B,rfl⟩:=dq yA;have E2:EW (A++y::((B++x::(V++[x]))++y::W)):=by simpa using E
     obtain⟨cl2,m1,m2,m3⟩:=E2.seg hy';have xA:x∉A:=λh=>n1 (by simp[h]);have xB:x∉B:=λh=>n1 (by simp[h]);have yB:y∉B:=λh=>m2 (by simp[h]);have yV:y∉V:=λh=>m2 (by simp[h]);have ec:bu [] (A++y::B++x::V++x::y::W)=bu [] A++40::(bu (A++[y]) B++40::(bu (A++y::B++[x]) V++41::41::bu (A++[y]++B++[x]++V++[x]++[y]) W)):=by
      rw[show A++y::B++x::V++x::y::W=A++y::(B++x::(V++x::y::W)) by simp,c7,c7,c7,bu];simp only[bM];rw[i0 hy' m1,i0 hx' (by simp[xA,xB,hxy]),iZ hx' (by simp),iZ hy' (by simp)];simp
     have cl2':bu (A++[y]) (B++x::(V++[x]))=bu (A++[y]) B++40::(bu (A++y::B++[x]) V++[41]):=by
      rw[c7,cw,bu,bu];rw[i0 hx' (by simp[xA,xB,hxy]),iZ hx' (by simp)];simp
     rw[cl2'] at cl2;have eo:bu [] ((A++y::B++x::V++W).map (rn lo hi))=bu [] A++40::(bu (A++[y]) B++41::(bu (A++y::B++[x]) V++bu (A++[y]++B++[x]++V++[x]++[y]) W)):=by
      rw[show A++y::B++x::V++W=A++y::(B++x::(V++W)) by simp,aO,aY,aO,aY,aO,rx,ry,mp A xA m1,mp B xB yB,mp V n2 yV,mp W n3' m3,c7,c7,cw];simp only[bM];rw[i0 hl0 (ll A xA m1),iZ hl0 (by simp)];rw[dh (x:=x) (y:=y) B _ (A++[y]) (off xB yB) (λv a b=>by rcases hl with rfl | rfl<;>simp[a,b]),dh (x:=x) (y:=y) V _ (A++y::B++[x]) (off n2 yV) (λv a b=>by rcases hl with rfl | rfl<;>simp[a,b]),dh (x:=x) (y:=y) W _ (A++[y]++B++[x]++V++[x]++[y]) (off n3' m3) (λv a b=>by rcases hl with rfl | rfl<;>simp[a,b])]
     rw[ec,eo];have lA:=cG A [];have lB:=cG B (A++[y]);have lV:=cG V (A++y::B++[x]);clear ec eo E E' E2 cl2' e;have lU:(A++y::B++x::V).length=A.length+B.length+V.length+2:=by simp;lia
     rw[lU];generalize bu [] A=a at *;generalize bu (A++[y]) B=b at *;generalize bu (A++y::B++[x]) V=v at *;generalize bu (A++[y]++B++[x]++V++[x]++[y]) W=w at *;refine⟨A.length+B.length+1,A.length,.left (P:=a++40::b) (V:=v) (S:=41::w) (by simp) cl (by simp;lia) (by simp;lia),.left (P:=a) (V:=b++40::(v++[41])) (S:=w) (by simp) cl2 (by simp;lia) (by lia),by lia,by lia,by simp;lia,by simp;lia,.inr ⟨hst,?_⟩⟩;rw[Nat.min_eq_right (by lia),Nat.max_eq_left (by lia)];exact Du (by lia) (by lia) (by lia)
    ·-- )(
     subst e;have E2:EW ((A++x::V++[x])++y::(C++y::F)):=by simpa using E
     obtain⟨cl2,m1,m2,m3⟩:=E2.seg hy';have yA:y∉A:=λh=>m1 (by simp[h]);have yV:y∉V:=λh=>m1 (by simp[h]);have xC:x∉C:=λh=>n3' (by simp[h]);have xF:x∉F:=λh=>n3' (by simp[h]);have ec:bu [] (A++x::V++x::y::(C++y::F))=bu [] A++40::(bu (A++[x]) V++41::40::(bu (A++x::V++[x]++[y]) C++41::bu (A++[x]++V++[x]++[y]++C++[y]) F)):=by
      rw[show A++x::V++x::y::(C++y::F)=A++x::(V++x::y::(C++y::F)) by simp,c7,c7,bu,c7];simp only[bM];rw[i0 hx' n1,iZ hx' (by simp),i0 hy' (by simp[yA,yV,cC hxy]),iZ hy' (by simp)];simp
     have eo:bu [] ((A++x::V++(C++y::F)).map (rn lo hi))=bu [] A++40::(bu (A++[x]) V++(bu (A++x::V++[x]++[y]) C++41::bu (A++[x]++V++[x]++[y]++C++[y]) F)):=by
      rw[show A++x::V++(C++y::F)=A++x::(V++(C++y::F)) by simp,aO,aY,aO,aO,aY,rx,ry,mp A n1 yA,mp V n2 yV,mp C xC m2,mp F xF m3,c7,cw,c7];simp only[bM];rw[i0 hl0 (ll A n1 yA),iZ hl0 (by simp)];rw[dh (x:=x) (y:=y) V _ (A++[x]) (off n2 yV) (λv a b=>by rcases hl with rfl | rfl<;>simp[a,b]),dh (x:=x) (y:=y) C _ (A++x::V++[x]++[y]) (off xC m2) (λv a b=>by rcases hl with rfl | rfl<;>simp[a,b]),dh (x:=x) (y:=y) F _ (A++[x]++V++[x]++[y]++C++[y]) (off xF m3) (λv a b=>by rcases hl with rfl | rfl<;>simp[a,b])]
     rw[ec,eo];have lA:=cG A [];have lV:=cG V (A++[x]);have lC:=cG C (A++x::V++[x]++[y]);clear ec eo E E' E2;have lU:(A++x::V).length=A.length+V.length+1:=by simp;lia
     rw[lU];generalize bu [] A=a at *;generalize bu (A++[x]) V=v at *;generalize bu (A++x::V++[x]++[y]) C=c at *;generalize bu (A++[x]++V++[x]++[y]++C++[y]) F=f at *;refine⟨A.length,A.length+V.length+C.length+3,.left (P:=a) (V:=v) rfl cl (by lia) (by lia),.right (P:=a++40::(v++[41])) (V:=c) (S:=f) (by simp) cl2 (by simp;lia) (by simp;lia),by lia,by lia,by simp;lia,by simp;lia,.inr ⟨hst,?_⟩⟩;rw[ig (by lia),kS (by lia)];exact GY (by lia) (by lia) (by lia)
   ·-- ((
    have xW:x∈W:=by
     have:x∈y::W:=by rw[e];simp
     simpa [hxy] using this
    rcases E.two_in (A:=U++[x]) (B:=W) (x:=y) (by simp) hy' with ⟨C',D',e'⟩ | ⟨C',D',e'⟩
    ·exfalso;have yU:y∈U:=by
      have:y∈U++[x]:=by rw[e'];simp
      simpa [cC hxy] using this
     exact hxy (E.nc y x ((bi.mpr yU).append ((((bi.mpr xW).cons_cons y)).cons_cons x))).symm
    ·subst e';have E1:EW ((U++[x])++y::(C'++y::D')):=by simpa using E
     obtain⟨cl2,m1,m2,m3⟩:=E1.seg hy';have yU:y∉U:=λh=>m1 (by simp[h]);have xD:x∈D':=by
      simp only[aQ,aI] at xW;rcases xW with h | h | h
      ·exact absurd (E.nc x y ((ao U).append (((ao [y]).append ((bi.mpr h).append ((ao D').cons_cons y)) |> λz=>((bi.mpr h).append ((ao D').cons_cons y)).cons_cons y).cons_cons x))) hxy
      ·exact absurd h hxy
      ·exact h
     obtain⟨D,F,rfl⟩:=dq xD;have E2:EW (U++x::((y::(C'++y::D))++x::F)):=by simpa using E
     obtain⟨cl,n1,n2,n3⟩:=E2.seg hx';have xC:x∉C':=λh=>n2 (by simp[h]);have xD':x∉D:=λh=>n2 (by simp[h]);have yD:y∉D:=λh=>m3 (by simp[h]);have yF:y∉F:=λh=>m3 (by simp[h]);have ec:bu [] (U++x::y::(C'++y::(D++x::F)))=bu [] U++40::40::(bu (U++[x]++[y]) C'++41::(bu (U++[x]++[y]++C'++[y]) D++41::bu (U++[x]++[y]++C'++[y]++D++[x]) F)):=by
      rw[c7,bu,c7,c7];simp only[bM];rw[i0 hx' n1,i0 hy' m1,iZ hy' (by simp),iZ hx' (by simp)]
     have cl':bu (U++[x]) (y::(C'++y::D))=40::(bu (U++[x]++[y]) C'++41::bu (U++[x]++[y]++C'++[y]) D):=by
      rw[bu,c7];rw[i0 hy' m1,iZ hy' (by simp)]
     rw[cl'] at cl;have eo:bu [] ((U++(C'++y::(D++x::F))).map (rn lo hi))=bu [] U++(bu (U++[x]++[y]) C'++40::(bu (U++[x]++[y]++C'++[y]) D++41::bu (U++[x]++[y]++C'++[y]++D++[x]) F)):=by
      rw[aO,aO,aY,aO,aY,rx,ry,mp U n1 yU,mp C' xC m2,mp D xD' yD,mp F n3 yF,cw,c7,c7];simp only[bM];rw[i0 hl0 (λh=>(aQ.mp h).elim (ll U n1 yU) (ll C' xC m2)),iZ hl0 (by simp)];rw[dh (x:=x) (y:=y) C' _ (U++[x]++[y]) (off xC m2) (λv a b=>by rcases hl with rfl | rfl<;>simp[a,b]),dh (x:=x) (y:=y) D _ (U++[x]++[y]++C'++[y]) (off xD' yD) (λv a b=>by rcases hl with rfl | rfl<;>simp[a,b]),dh (x:=x) (y:=y) F _ (U++[x]++[y]++C'++[y]++D++[x]) (off n3 yF) (λv a b=>by rcases hl with rfl | rfl<;>simp[a,b])]
     rw[ec,eo];have lU:=cG U [];have lC:=cG C' (U++[x]++[y]);have lD:=cG D (U++[x]++[y]++C'++[y]);clear ec eo E E1 E2 e cl';generalize bu [] U=u at *;generalize bu (U++[x]++[y]) C'=c at *;generalize bu (U++[x]++[y]++C'++[y]) D=d at *;generalize bu (U++[x]++[y]++C'++[y]++D++[x]) F=f at *;refine⟨U.length+C'.length+D.length+3,U.length+C'.length+2,.right (P:=u) (V:=40::(c++41::d)) (S:=f) (by simp) cl (by lia) (by simp;lia),.right (P:=u++[40]) (V:=c) (S:=d++41::f) (by simp) cl2 (by simp;lia) (by simp;lia),by lia,by lia,by simp;lia,by simp;lia,.inr ⟨hst,?_⟩⟩;rw[Nat.min_eq_right (by lia),Nat.max_eq_left (by lia)];exact Bt (by lia) (by lia) (by lia)
def EW.same{U W:List Int}{x:Int}(E:EW (U++x::x::W)):vG (bu [] (U++x::x::W)) U.length (U.length+1):=by
 have x0:=E.nn x (by simp);have hx:0<x:=by
  rcases Int.lt_or_eq_of_le x0 with h | h
  ·exact h
  ·subst h;have:=E.z1;simp only[cR,cK,beq_self_eq_true,NO] at this;lia
 obtain⟨_,n1,_,_⟩:=EW.seg (A:=U) (V:=[]) (B:=W) (x:=x) E hx;refine .right (P:=bu [] U) (V:=[]) (S:=bu (U++[x]++[x]) W) ?_ ⟨rfl,λj=>by simp[mh]⟩ (cG U []).symm (by simp[cG]);rw[c7,bu];simp only[bM];rw[i0 hx n1,iZ hx (by simp)]
def fV(L R:List Int):List Nat:=bu [] L++124::bu L R.reverse
def mx:List Int->Int
 | []=>0
 | x::l=>max x (mx l)
def xl:∀{l:List Int} {x:Int},x∈l->x<=mx l
 | a::l,x,h=>by
  simp only[mx];rcases aI.mp h with rfl | h
  ·lia
  ·have:=xl h;lia
def Ep:∀{l:List Int} {m:Int},0<=m->(∀x∈l,x<=m)->mx l<=m
 | [],m,h0,_=>h0
 | a::l,m,h0,h=>by
  have h1:=h a (by simp);have h2:=Ep h0 (λx hx=>h x (aM _ hx));simp only[mx];lia
def Eo:∀(l:List Int),0<=mx l
 | []=>df 0
 | a::l=>by have:=Eo l;simp only[mx];lia
def IR{l:List Int}{m:Int}(h:m∈l)(h0:0<=m)(hm:∀x∈l,x<=m):m=mx l:=by
 have h1:=xl h;have h2:=Ep h0 hm;lia
def cS(L R:List Int)(c:Nat):Option (List Int×List Int):=
 if c=97 then some (L++[1+mx (L++R)],R++[1+mx (L++R)])
 else if c=98 then (match R.getLast? with | some v=>some (L++[v],R.dropLast) | none=>none)
 else if c=99 then (match L.getLast? with | some v=>some (L.dropLast,R++[v]) | none=>none)
 else match L.getLast?,R.getLast? with
  | some x,some y=>if x=y then none else some (L.dropLast.map (rn (min x y) (max x y)),R.dropLast.map (rn (min x y) (max x y)))
  | _,_=>none
def EE(L R:List Int):Prop:=EW (L++R.reverse)
def cH{l:List Int}(h:l≠[]):∃P x,l=P++[x]:=⟨l.dropLast,l.getLast h,(dY h).symm⟩
def o9{L Q:List Int}{v:Int}:cS L (Q++[v]) 98=some (L++[v],Q):=by simp[cS]
def mz{L:List Int}:cS L [] 98=none:=by simp[cS]
def o8{P R:List Int}{v:Int}:cS (P++[v]) R 99=some (P,R++[v]):=by simp[cS]
def my{R:List Int}:cS [] R 99=none:=by simp[cS]
def o7{P Q:List Int}{x y:Int}:cS (P++[x]) (Q++[y]) 100=if x=y then none else some (P.map (rn (min x y) (max x y)),Q.map (rn (min x y) (max x y))):=by simp[cS]
def mw{R:List Int}:cS [] R 100=none:=by simp[cS]
def mt{L:List Int}:cS L [] 100=none:=by
 unfold cS;simp only[List.getLast?_nil];cases L.getLast?<;>simp
def wD{L R:List Int}(E:EE L R):0<1+mx (L++R)/\1+mx (L++R)∉L/\1+mx (L++R)∉R.reverse:=by
 have:=Eo (L++R);refine⟨by lia,λh=>?_,λh=>?_⟩
 ·have:=xl (l:=L++R) (bG _ h);lia
 ·have:=xl (l:=L++R) (au _ (List.mem_reverse.mp h));lia
def Ab{L R:List Int}(E:EE L R):bu [] L++[40,124,41]++bu L R.reverse=fV (L++[1+mx (L++R)]) (R++[1+mx (L++R)]):=by
 obtain⟨h0,h1,h2⟩:=wD E;generalize 1+mx (L++R)=z at *;unfold fV;rw[cw,bu,bu,bM,i0 h0 h1,List.reverse_append,List.reverse_singleton,fP,bu,iZ h0 (by simp)];simp;exact dh (x:=z) (y:=z) R.reverse L _ (off h2 h2) λv a b=>by simp[a]
def EE.a{L R:List Int}(E:EE L R):EE (L++[1+mx (L++R)]) (R++[1+mx (L++R)]):=by
 obtain⟨h0,h1,h2⟩:=wD E;unfold EE;have:=EW.ins E h0 h1 h2;simpa using this
def EE.b{L Q:List Int}{v:Int}(E:EE L (Q++[v])):EE (L++[v]) Q:=by unfold EE at *;simpa using E
def EE.c{P R:List Int}{v:Int}(E:EE (P++[v]) R):EE P (R++[v]):=by unfold EE at *;simpa using E
def EE.d{P Q:List Int}{x y:Int}(E:EE (P++[x]) (Q++[y]))(h:x≠y):EE (P.map (rn (min x y) (max x y))) (Q.map (rn (min x y) (max x y))):=by
 unfold EE at *;have:=EW.join (U:=P) (W:=Q.reverse) (x:=x) (y:=y) (lo:=min x y) (hi:=max x y) (by simpa using E) (by lia) (by lia);simpa using this
def EE.go{L R L' R':List Int}{c:Nat}(E:EE L R)(hc:c=97\/c=98\/c=99\/c=100)(h:cS L R c=some (L',R')):EE L' R':=by
 rcases hc with rfl | rfl | rfl | rfl
 ·simp only[cS,NO,Option.some.injEq,Prod.mk.injEq] at h;obtain⟨rfl,rfl⟩:=h;exact E.a
 ·by_cases hR:R=[]
  ·subst hR;rw[mz] at h;cases h
  ·obtain⟨Q,v,rfl⟩:=cH hR;rw[o9] at h;cases h;exact E.b
 ·by_cases hL:L=[]
  ·subst hL;rw[my] at h;cases h
  ·obtain⟨P,v,rfl⟩:=cH hL;rw[o8] at h;cases h;exact E.c
 ·by_cases hL:L=[]
  ·subst hL;rw[mw] at h;cases h
  ·by_cases hR:R=[]
   ·subst hR;rw[mt] at h;cases h
   ·obtain⟨P,x,rfl⟩:=cH hL;obtain⟨Q,y,rfl⟩:=cH hR;rw[o7] at h;by_cases e:x=y
    ·rw[NJ e] at h;cases h
    ·rw[NI e] at h;cases h;exact E.d e
def EE.one:EE [0] []:=by
 refine⟨by simp,by decide,by simp,λu v h=>?_,λu h=>?_⟩
 ·have:=h.length_le;simp at this
 ·have:=h.length_le;simp at this
def EE.two:EE [] [0]:=EE.one
def Aa{L Q:List Int}{v:Int}:bu [] L++[l4 L v]++124::bu (L++[v]) Q.reverse=fV (L++[v]) Q:=by
 unfold fV;rw[cw];rfl
def m8{L Q:List Int}{v:Int}:bu L (Q++[v]).reverse=l4 L v::bu (L++[v]) Q.reverse:=by simp[bu]
def m9{P:List Int}{v:Int}:bu [] (P++[v])=bu [] P++[l4 P v]:=by rw[cw];rfl
def A9{P R:List Int}{v:Int}:bu [] P++124::(l4 P v::bu (P++[v]) R.reverse)=fV P (R++[v]):=by
 unfold fV;rw[m8]
def tW{P Q:List Int}{x y:Int}(E:EE (P++[x]) (Q++[y]))(h:x≠y):∃q0 q1,vG (bu [] (P++x::y::Q.reverse)) P.length q0/\vG (bu [] (P++x::y::Q.reverse)) (P.length+1) q1/\q0≠P.length+1/\q0≠q1 ∧
  q0<(bu [] (P++x::y::Q.reverse)).length/\q1<(bu [] (P++x::y::Q.reverse)).length/\∃m0 m1,((x=0\/y=0)/\m0=42/\m1=42\/¬(x=0\/y=0)/\m0=40/\m1=41) ∧
  (((bu [] (P++x::y::Q.reverse)).set (min q0 q1) m0).set (max q0 q1) m1).take P.length++124::(((bu [] (P++x::y::Q.reverse)).set (min q0 q1) m0).set (max q0 q1) m1).drop (P.length+2)=fV (P.map (rn (min x y) (max x y))) (Q.map (rn (min x y) (max x y))):=by
 have E':EW (P++x::y::Q.reverse):=by unfold EE at E;simpa using E
 obtain⟨q0,q1,f0,f1,n1,n2,l0,l1,r⟩:=(E'.d (lo:=min x y) (hi:=max x y) (by lia) (by lia)).ex;have hl:(bu [] (P++x::y::Q.reverse)).length=P.length+Q.length+2:=by rw[cG];simp;lia
 have fin:∀m0 m1,jn (bu [] (P++x::y::Q.reverse)) P.length (min q0 q1) (max q0 q1) m0 m1=bu [] ((P++Q.reverse).map (rn (min x y) (max x y))) →
   (((bu [] (P++x::y::Q.reverse)).set (min q0 q1) m0).set (max q0 q1) m1).take P.length++124::(((bu [] (P++x::y::Q.reverse)).set (min q0 q1) m0).set (max q0 q1) m1).drop (P.length+2)=fV (P.map (rn (min x y) (max x y))) (Q.map (rn (min x y) (max x y))):=λm0 m1 hj=>by
  unfold jn at hj;unfold fV;rw[aO,cw (P.map (rn (min x y) (max x y))) [],bM,List.map_reverse] at hj;obtain⟨e1,e2⟩:=List.append_inj hj (by rw[cG,aE,bp,fG,fG,hl];lia);rw[e1,e2]
 refine⟨q0,q1,f0,f1,n1,n2,l0,l1,?_⟩;rcases r with ⟨h1,h2⟩ | ⟨h1,h2⟩
 ·exact⟨42,42,.inl ⟨h1,rfl,rfl⟩,fin _ _ h2⟩
 ·exact⟨40,41,.inr ⟨h1,rfl,rfl⟩,fin _ _ h2⟩
def qL{P Q:List Int}{x:Int}(E:EE (P++[x]) (Q++[x])):vG (bu [] (P++x::x::Q.reverse)) P.length (P.length+1):=by
 have E':EW (P++x::x::Q.reverse):=by unfold EE at E;simpa using E
 exact E'.same
def sG{P Q:List Int}{x y:Int}:bu [] (P++[x])++bu (P++[x]) (Q++[y]).reverse=bu [] (P++x::y::Q.reverse):=by
 rw[show P++x::y::Q.reverse=(P++[x])++(Q++[y]).reverse by simp,cw (P++[x]) []];rfl
def vG.walk{cs:List Nat}{p q:Nat}(h:vG cs p q):(cs[p]? = some 42/\q=p)\/∃(st:Int) (n:Nat) (d:Nat->Int),((st=1/\cs[p]? = some 40)\/(st=-1/\cs[p]? = some 41))/\d 0=st/\(∀j,j<n->d j≠0)/\d n=0/\(p:Int)+st*n=q ∧
  ∀j,j<n->∃i c:Nat,(p:Int)+st*j+st=i/\cs[i]? = some c/\d (j+1)=d j+vl c:=by
 cases h with
 | @star P S _ h hp=>exact .inl ⟨by rw[h,hp];simp,rfl⟩
 | @right P V S _ _ h c hp hq=>
  refine .inr ⟨1,V.length+1,λj=>1+ps ((V++[41]).take j),.inl ⟨rfl,by rw[h,hp];simp⟩,by simp[mh],λj hj=>?_,?_,by lia,λj hj=>?_⟩
  ·have:=c.nn j;simp only;rw[i8 (by lia)];lia
  ·have:=c.z;simp only;rw[dA (by simp),oJ,mO,mh,this];decide
  ·have hl:j<(V++[41]).length:=by simp;lia
   refine⟨p+j+1,(V++[41])[j],by lia,?_,?_⟩
   ·rw[h,hp,show P.length+j+1=P.length+(j+1) by lia,ac (by lia)];rw[show P.length+(j+1)-P.length=j+1 by lia,gV,show V++41::S=(V++[41])++S by simp,bP hl,aN hl]
   ·simp only;rw[bW,aN hl,oJ];simp[mO,mh];lia
 | @left P V S _ _ h c hp hq=>
  have hd:∀k,k<=V.length->ps (V.drop k)=- ps (V.take k):=λk hk=>by
   have:=oJ (V.take k) (V.drop k);rw[gq,c.z] at this;lia
  refine .inr ⟨-1,V.length+1,λj=>-1+ps ((40::V).drop (V.length+1-j)),.inr ⟨rfl,?_⟩,?_,λj hj=>?_,?_,by lia,λj hj=>?_⟩
  ·rw[h,hp,show P.length+V.length+1=P.length+(V.length+1) by lia,ac (by lia)];rw[show P.length+(V.length+1)-P.length=V.length+1 by lia,gV,ac (aH _)];simp
  ·simp only;rw[kz (by simp)];simp[mh]
  ·have hk:V.length+1-j=(V.length-j)+1:=by lia
   simp only;rw[hk,List.drop_succ_cons,hd _ (by lia)];have:=c.nn (V.length-j);lia
  ·simp only;rw[ku,fe,mO,c.z];decide
  ·have hl:V.length-j<(40::V).length:=by simp;lia
   refine⟨P.length+(V.length-j),(40::V)[V.length-j],by lia,?_,?_⟩
   ·rw[h,ac (by lia)];rw[show P.length+(V.length-j)-P.length=V.length-j by lia,show 40::(V++41::S)=(40::V)++41::S by simp,bP hl,aN hl]
   ·simp only;have e1:V.length+1-(j+1)=V.length-j:=by lia
    have e2:V.length+1-j=(V.length-j)+1:=by lia
    rw[e1,e2,ah hl,mO];lia
def Hl:fV [0] []=[42,124]:=by decide
def Hk:fV [] [0]=[124,42]:=by decide
def zV{P Q:List Int}{x:Int}(E:EE (P++[x]) (Q++[x])):vG (bu [] (P++x::x::Q.reverse)) (P.length+1) P.length:=by
 have E':EW (P++x::x::Q.reverse):=by unfold EE at E;simpa using E
 have x0:=E'.nn x (by simp);have hx:0<x:=by
  rcases Int.lt_or_eq_of_le x0 with h | h
  ·exact h
  ·subst h;have:=E'.z1;simp only[cR,cK,beq_self_eq_true,NO] at this;lia
 obtain⟨_,n1,_,_⟩:=EW.seg (A:=P) (V:=[]) (B:=Q.reverse) (x:=x) E' hx;refine .left (P:=bu [] P) (V:=[]) (S:=bu (P++[x]++[x]) Q.reverse) ?_ ⟨rfl,λj=>by simp[mh]⟩ (by simp[cG]) (cG P []).symm;rw[c7,bu];simp only[bM];rw[i0 hx n1,iZ hx (by simp)]
def Hn{P Q:List Int}{x y:Int}:(bu [] (P++x::y::Q))[P.length]? = some (l4 P x)/\(bu [] (P++x::y::Q))[P.length+1]? = some (l4 (P++[x]) y):=by
 rw[c7,bu];simp only[bM];have h:=cG P [];constructor
 ·rw[ac (by lia),h];simp
 ·rw[ac (by lia),h];simp
def tu{pre:List Int}{x:Int}(h:0<=x):l4 pre x=42<->x=0:=by
 unfold l4;by_cases h0:0<x
 ·rw[NJ h0];split<;>(constructor<;>intro z<;>lia)
 ·rw[NI h0];exact⟨λ_=>by lia,λ_=>rfl⟩
def vG.one{cs:List Nat}{p q q':Nat}(h:vG cs p q)(h':vG cs p q'):q=q':=by
 rcases h.walk with ⟨a,rfl⟩ | ⟨st,n,d,hs,d0,dn,dz,e,ot⟩
 ·rcases h'.walk with ⟨_,rfl⟩ | ⟨st,n,d,hs,_⟩
  ·rfl
  ·rcases hs with ⟨_,b⟩ | ⟨_,b⟩<;>(rw[a] at b;cases b)
 ·rcases h'.walk with ⟨a,rfl⟩ | ⟨st',n',d',hs',d0',dn',dz',e',stp'⟩
  ·rcases hs with ⟨_,b⟩ | ⟨_,b⟩<;>(rw[a] at b;cases b)
  ·have est:st=st':=by
    rcases hs with ⟨rfl,b⟩ | ⟨rfl,b⟩<;>rcases hs' with ⟨rfl,b'⟩ | ⟨rfl,b'⟩
    ·rfl
    ·rw[b] at b';cases b'
    ·rw[b] at b';cases b'
    ·rfl
   subst est;have hd:∀j,j<=n->j<=n'->d j=d' j:=by
    intro j
    induction j with
    | zero=>intro _ _;rw[d0,d0']
    | succ j ih=>
     intro h1 h2;obtain⟨i,c,e1,e2,e3⟩:=ot j (by lia);obtain⟨i',c',e1',e2',e3'⟩:=stp' j (by lia);have:i=i':=by lia
     subst this;rw[e2] at e2';cases e2';rw[e3,e3',ih (by lia) (by lia)]
   have:n=n':=by
    rcases Nat.lt_trichotomy n n' with h | h | h
    ·have:=hd n (aH _) (by lia);rw[dz] at this;exact absurd this.symm (dn' n h)
    ·exact h
    ·have:=hd n' (by lia) (aH _);rw[dz'] at this;exact absurd this (dn n' h)
   subst this;lia
def Je:Option (List Int×List Int)->Option (List Nat)
 | none=>none
 | some (L,R)=>some (fV L R)
def xS{pre:List Int}{x:Int}(h:0<=x):l4 pre x=42<->x=0:=by
 unfold l4;by_cases h0:0<x
 ·rw[NJ h0];split<;>(constructor<;>intro z<;>lia)
 ·rw[NI h0];exact⟨λ_=>by lia,λ_=>rfl⟩
def CW{A B:List Nat}(hA:124∉A):∀(X Y:List Nat),124∉X->X++124::Y=A++124::B->X=A/\Y=B:=by
 induction A with
 | nil=>
  intro X Y hX e;cases X with
  | nil=>simpa using e
  | cons x X=>simp at e hX;exact absurd e.1.symm hX.1
 | cons a A ih=>
  intro X Y hX e;simp only[aI,not_or] at hA;cases X with
  | nil=>simp at e;exact absurd e.1 hA.1
  | cons x X=>
   simp only[eu,gE] at e;simp only[aI,not_or] at hX;obtain⟨h1,h2⟩:=ih hA.2 X Y hX.2 e.2;exact⟨by rw[e.1,h1],h2⟩
def xj(pre A:List Int):124∉bu pre A:=λh=>by have:=vW A pre 124 h;lia
def pP{L R L' R':List Int}(h:fV L R=fV L' R'):bu [] L=bu [] L'/\bu L R.reverse=bu L' R'.reverse/\L.length=L'.length/\R.length=R'.length:=by
 obtain⟨h1,h2⟩:=CW (xj [] L') _ _ (xj [] L) h;refine⟨h1,h2,?_,?_⟩
 ·rw[<-cG L [],h1,cG]
 ·have:=congrArg List.length h2;simpa [cG] using this
def G9{L R L' R':List Int}{c:Nat}(E:EE L R)(E':EE L' R')(h:fV L R=fV L' R')(hc:c=97\/c=98\/c=99\/c=100):Je (cS L R c)=Je (cS L' R' c):=by
 obtain⟨h1,h2,l1,l2⟩:=pP h;rcases hc with rfl | rfl | rfl | rfl
 ·show some (fV _ _)=some (fV _ _);rw[<-Ab E,<-Ab E',h1,h2]
 ·by_cases hR:R=[]
  ·have hR':R'=[]:=by subst hR;exact bD l2.symm
   subst hR hR';rw[mz,mz]
  ·have hR':R'≠[]:=λe=>hR (by subst e;exact bD l2);obtain⟨Q,v,rfl⟩:=cH hR;obtain⟨Q',v',rfl⟩:=cH hR';rw[o9,o9];show some (fV _ _)=some (fV _ _);rw[m8,m8] at h2;have h2a:=(iY h2).1;have h2b:=(iY h2).2;rw[<-Aa,<-Aa,h1,h2a,h2b]
 ·by_cases hL:L=[]
  ·have hL':L'=[]:=by subst hL;exact bD l1.symm
   subst hL hL';rw[my,my]
  ·have hL':L'≠[]:=λe=>hL (by subst e;exact bD l1);obtain⟨P,v,rfl⟩:=cH hL;obtain⟨P',v',rfl⟩:=cH hL';rw[o8,o8];show some (fV _ _)=some (fV _ _);rw[m9,m9] at h1;obtain⟨h1a,h1b⟩:=iS h1 rfl;rw[<-A9,<-A9,h1a,(iY h1b).1,h2]
 ·by_cases hL:L=[]
  ·have hL':L'=[]:=by subst hL;exact bD l1.symm
   subst hL hL';rw[mw,mw]
  ·have hL':L'≠[]:=λe=>hL (by subst e;exact bD l1);by_cases hR:R=[]
   ·have hR':R'=[]:=by subst hR;exact bD l2.symm
    subst hR hR';rw[mt,mt]
   ·have hR':R'≠[]:=λe=>hR (by subst e;exact bD l2);obtain⟨P,x,rfl⟩:=cH hL;obtain⟨P',x',rfl⟩:=cH hL';obtain⟨Q,y,rfl⟩:=cH hR;obtain⟨Q',y',rfl⟩:=cH hR';have ecs:bu [] (P++x::y::Q.reverse)=bu [] (P'++x'::y'::Q'.reverse):=by rw[<-sG,<-sG,h1,h2]
    have ep:P.length=P'.length:=by simpa using l1
    have nx:=E.nn x (by simp);have ny:=E.nn y (by simp);have nx':=E'.nn x' (by simp);have ny':=E'.nn y' (by simp);rw[m9,m9] at h1;obtain⟨_,h1b⟩:=iS h1 rfl;rw[m8,m8] at h2;have sx:x=0<->x'=0:=by rw[<-xS (pre:=P) nx,(iY h1b).1,xS nx']
    have sy:y=0<->y'=0:=by rw[<-xS (pre:=P++[x]) ny,(iY h2).1,xS ny']
    rw[o7,o7];by_cases e:x=y
    ·by_cases e':x'=y'
     ·rw[NJ e,NJ e']
     ·exfalso;subst e;obtain⟨q0,q1,f0,f1,n1,_⟩:=tW E' e';have:=qL E;rw[ecs,ep] at this;exact n1 (f0.one this)
    ·by_cases e':x'=y'
     ·exfalso;subst e';obtain⟨q0,q1,f0,f1,n1,_⟩:=tW E e;have:=qL E';rw[<-ecs,<-ep] at this;exact n1 (f0.one this)
     ·rw[NI e,NI e'];show some (fV _ _)=some (fV _ _);obtain⟨q0,q1,f0,f1,n1,_,_,_,m0,m1,hm,ht⟩:=tW E e;obtain⟨q0',q1',f0',f1',n1',_,_,_,m0',m1',hm',ht'⟩:=tW E' e';rw[<-ecs,<-ep] at f0' f1' ht';have e0:=f0.one f0';have e1:=f1.one f1';subst e0 e1;have em:m0=m0'/\m1=m1':=by
       rcases hm with ⟨a,b,c⟩ | ⟨a,b,c⟩<;>rcases hm' with ⟨a',b',c'⟩ | ⟨a',b',c'⟩
       ·exact⟨by rw[b,b'],by rw[c,c']⟩
       ·exact absurd (by rw[<-sx,<-sy];exact a) a'
       ·exact absurd (by rw[sx,sy];exact a') a
       ·exact⟨by rw[b,b'],by rw[c,c']⟩
      rw[<-ht,<-ht',em.1,em.2]
def eR:Nat->List Int->List Int->Nat
 | 0,L,R=>if L.length+R.length=1 then 1 else 0
 | n+1,L,R=>(match cS L R 97 with | none=>0 | some (a,b)=>eR n a b)+(match cS L R 98 with | none=>0 | some (a,b)=>eR n a b)+(match cS L R 99 with | none=>0 | some (a,b)=>eR n a b)+(match cS L R 100 with | none=>0 | some (a,b)=>eR n a b)
def dj(n:Nat):Option (List Int×List Int)->Nat
 | none=>0
 | some (L,R)=>eR n L R
def iO(n:Nat)(L R:List Int):eR (n+1) L R=dj n (cS L R 97)+dj n (cS L R 98)+dj n (cS L R 99)+dj n (cS L R 100):=by
 rw[eR];rcases cS L R 97 with _ | ⟨a,b⟩<;>rcases cS L R 98 with _ | ⟨a,b⟩<;>rcases cS L R 99 with _ | ⟨a,b⟩<;>rcases cS L R 100 with _ | ⟨a,b⟩<;>rfl
def yZ:∀(n:Nat) {L R L' R':List Int},EE L R->EE L' R'->fV L R=fV L' R'->eR n L R=eR n L' R'
 | 0,L,R,L',R',E,E',h=>by
  obtain⟨_,_,l1,l2⟩:=pP h;simp only[eR,l1,l2]
 | n+1,L,R,L',R',E,E',h=>by
  have key:∀c,(c=97\/c=98\/c=99\/c=100)->dj n (cS L R c)=dj n (cS L' R' c):=λc hc=>by
   have hd:=G9 E E' h hc;cases e1:cS L R c with
   | none=>
    cases e2:cS L' R' c with
    | none=>rfl
    | some p=>rw[e1,e2] at hd;cases hd
   | some p=>
    cases e2:cS L' R' c with
    | none=>rw[e1,e2] at hd;cases hd
    | some q=>
     rw[e1,e2] at hd;obtain⟨a,b⟩:=p;obtain⟨a',b'⟩:=q;exact yZ n (E.go hc e1) (E'.go hc e2) (bH hd)
  rw[iO,iO,key 97 (by lia),key 98 (by lia),key 99 (by lia),key 100 (by lia)]
def I0{L R L' R':List Int}{c:Nat}(h:cS L R c=some (L',R')):L.length+R.length<=L'.length+R'.length+2:=by
 unfold cS at h
 split at h
 ·cases h;simp;lia
 ·split at h
  ·split at h
   ·cases h;simp;lia
   ·cases h
  ·split at h
   ·split at h
    ·cases h;simp;lia
    ·cases h
   ·split at h
    ·split at h
     ·cases h
     ·cases h;simp;lia
    ·cases h
def qP:∀(n:Nat) {L R:List Int},2*n+1<L.length+R.length->eR n L R=0
 | 0,L,R,h=>by simp only[eR];rw[NI (by lia)]
 | n+1,L,R,h=>by
  have key:∀c,dj n (cS L R c)=0:=λc=>by
   cases e1:cS L R c with
   | none=>rfl
   | some p=>
    obtain⟨a,b⟩:=p;have:=I0 e1;exact qP n (by lia)
  rw[iO,key,key,key,key]
def EE.pos{L R:List Int}(E:EE L R):1<=L.length+R.length:=by
 have:=E.z1;have h:=List.count_le_length (l:=L++R.reverse) (a:=(0:Int));simp at h;simp at this;lia
end Rm
namespace L2
open PySem PySem.Spec PyProof.Rows
abbrev Key:=Sum Int Str
def rJ:Key->Value->Bool
 | .inl k,v=>Value.isInt k v
 | .inr x,v=>Value.isStrOf x v
def J2(w:World):Key->Int
 | .inl k=>hashInt k
 | .inr x=>hashStr w x
def eG:∀{k:Key} {v:Value},rJ k v=true->(∃i t,k=Sum.inl i/\v=Value.int i t)\/(∃x t,k=Sum.inr x/\v=Value.str x t)
 | .inl i,v,h=>by
  obtain⟨t,e⟩:=Value.isInt_shape (k:=i) (v:=v) h;exact .inl ⟨i,t,rfl,e⟩
 | .inr x,v,h=>by
  obtain⟨t,e⟩:=Value.isStrOf_shape (x:=x) (v:=v) h;exact .inr ⟨x,t,rfl,e⟩
def zO(i:Int)(t:Tok):rJ (.inl i) (.int i t)=true:=by simp[rJ,Value.isInt]
def zN(x:Str)(t:Tok):rJ (.inr x) (.str x t)=true:=by simp[rJ,Value.isStrOf]
def GX(a b:Int):decide ((Sum.inl a:Key)=Sum.inl b)=(a==b):=by
 by_cases e:a=b
 ·subst e;simp
 ·have h:¬(Sum.inl a:Key)=Sum.inl b:=λq=>e (Sum.inl.inj q);rw[NL h];exact(beq_eq_false_iff_ne.mpr e).symm
def GU(a b:Str):decide ((Sum.inr a:Key)=Sum.inr b)=decide (a=b):=by
 by_cases e:a=b
 ·subst e;simp
 ·have h:¬(Sum.inr a:Key)=Sum.inr b:=λq=>e (Sum.inr.inj q);rw[NL h,NL e]
def GW(a:Int)(b:Str):decide ((Sum.inl a:Key)=Sum.inr b)=false:=NL (λq=>nomatch q)
def GV(a:Str)(b:Int):decide ((Sum.inr a:Key)=Sum.inl b)=false:=NL (λq=>nomatch q)
def eW (prog : Program) (w : World) : PySem.KeyKind prog w Key where
  is := rJ
  hash := J2 w
  inj := fun v a b ha hb => by
    rcases eG ha with ⟨i, t, rfl, rfl⟩ | ⟨x, t, rfl, rfl⟩
    · rcases eG hb with ⟨j, u, rfl, e⟩ | ⟨y, u, rfl, e⟩
      · injection e with e1 _; rw [e1]
      · exact nomatch e
    · rcases eG hb with ⟨j, u, rfl, e⟩ | ⟨y, u, rfl, e⟩
      · exact nomatch e
      · injection e with e1 _; rw [e1]
  byValue := fun k v h => by
    rcases eG h with ⟨i, t, rfl, rfl⟩ | ⟨x, t, rfl, rfl⟩ <;> rfl
  pyHash := fun hv h => by
    rcases eG hv with ⟨i, t, rfl, rfl⟩ | ⟨x, t, rfl, rfl⟩
    · exact wpAny_pyHash_int h
    · exact wpAny_pyHash_str h
  eqBool := fun hu hv h => by
    rcases eG hu with ⟨i, t, rfl, rfl⟩ | ⟨x, t, rfl, rfl⟩
    · rcases eG hv with ⟨j, u, rfl, rfl⟩ | ⟨y, u, rfl, rfl⟩
      · rw [GX] at h; exact wpAny_eqBool_int h
      · rw [GW] at h; exact SeqAt.EqAt.int_str i t y u _ _ _ _ h
    · rcases eG hv with ⟨j, u, rfl, rfl⟩ | ⟨y, u, rfl, rfl⟩
      · rw [GV] at h; exact SeqAt.EqAt.str_int x t j u _ _ _ _ h
      · rw [GU] at h; exact wpAny_eqBool_str h
  «strs» := fun k x t v h => by
    rcases eG h with ⟨i, u, rfl, e⟩ | ⟨y, u, rfl, e⟩
    · exact nomatch e
    · injection e with e1 _
      subst e1
      cases v <;> rfl
def uc(prog:Program)(w:World)(i:Int)(t:Tok):(eW prog w).is (.inl i) (.int i t)=true:=zO i t
def u9(prog:Program)(w:World)(x:Str)(t:Tok):(eW prog w).is (.inr x) (.str x t)=true:=zN x t
inductive V where
 | non | bl (b:Bool) | int (i:Int) | str (x:Str) | byt (b:Array UInt8) | flt (b:UInt64) | ref (a:Addr) | ty (n:String)
 deriving DecidableEq
def RelV:V->Value->Prop
 | .non,u=>u=Value.none
 | .bl b,u=>u=Value.bool b
 | .int i,u=>∃t,u=Value.int i t
 | .str x,u=>∃t,u=Value.str x t
 | .byt b,u=>∃t,u=Value.bytes b t
 | .flt b,u=>∃t,u=Value.float b t
 | .ref a,u=>u=Value.ref a
 | .ty n,u=>u=Value.type n
abbrev cJ:List V->List Value->Prop:=Paired RelV
def cJ.length{xs:List V}{us:List Value}(r:cJ xs us):xs.length=us.length:=cv r
def cJ.get:∀{xs:List V} {us:List Value} {i:Nat} {x:V},cJ xs us->xs[i]? = some x->∃u,us[i]? = some u/\RelV x u
 | _,_,_,_,.nil,e=>by simp at e
 | _,_,0,_,.cons r _,e=>by simp at e;subst e;exact⟨_,rfl,r⟩
 | _,_,i+1,x,.cons _ t,e=>by
  obtain⟨u,h1,h2⟩:=cJ.get (i:=i) (x:=x) t (by simpa using e);exact⟨u,by simpa using h1,h2⟩
def cJ.set{x:V}{u:Value}(r:RelV x u):∀{xs:List V} {us:List Value} (i:Nat),cJ xs us->cJ (xs.set i x) (us.set i u)
 | _,_,_,.nil=>.nil
 | _,_,0,.cons _ t=>.cons r t
 | _,_,i+1,.cons q t=>.cons q (cJ.set r i t)
def cJ.append:∀{xs ys:List V} {us ws:List Value},cJ xs us->cJ ys ws->cJ (xs++ys) (us++ws)
 | _,_,_,_,.nil,s=>s
 | _,_,_,_,.cons r t,s=>.cons r (cJ.append t s)
def cJ.take:∀{xs:List V} {us:List Value} (n:Nat),cJ xs us->cJ (xs.take n) (us.take n)
 | _,_,0,_=>.nil
 | _,_,_+1,.nil=>.nil
 | _,_,n+1,.cons r t=>.cons r (cJ.take n t)
def cJ.drop:∀{xs:List V} {us:List Value} (n:Nat),cJ xs us->cJ (xs.drop n) (us.drop n)
 | _,_,0,r=>r
 | _,_,_+1,.nil=>.nil
 | _,_,n+1,.cons _ t=>cJ.drop n t
def qV:Option V->Option Value->Prop
 | some v,some u=>RelV v u
 | none,none=>True
 | _,_=>False
def KV{κ:Type}:List (κ×V)->List (κ×Value)->Prop:=Paired λ(p:κ×V) (q:κ×Value)=>p.1=q.1/\RelV p.2 q.2
def kV:Key->V
 | .inl i=>.int i
 | .inr x=>.str x
inductive HO where
  | lst (xs:List V)
  | tup (xs:List V)
  | dK (kvs:List (Key×V)) | dT (kvs:List (List Key×V))
  | set (S:Int->Bool) (n:Nat)
  | ins (C dx:Addr) (fs:List (Str×V))
  | own (x:Addr)
  | xd (fs:List (Str×V))
  | met (f x:Addr)
  | rng (lo hi:Int)
  | frz (o:Obj) (u:HO)
  | tbl (ps:Array Value)
  | ext (φ:Heap->Prop)
abbrev Hp:=Addr->Option HO
def upd(H:Hp)(a:Addr)(o:HO):Hp:=λb=>if b=a then some o else H b
def aG{H:Hp}{a:Addr}{o:HO}:upd H a o a=some o:=by unfold upd;rw[NJ rfl]
def aR{H:Hp}{a b:Addr}{o:HO}(h:b≠a):upd H a o b=H b:=by unfold upd;rw[NI h]
def Bf{H:Hp}{a b:Addr}{o u:HO}(h:H a=some o)(h':H b=some u)(d:o≠u):a≠b:=by
 intro e;subst e;rw[h] at h';exact d (bH h')
def ak{H:Hp}{a b:Addr}{o:HO}(h:H a=some o)(h':H b=none):a≠b:=by
 intro e;subst e;rw[h] at h';cases h'
section
variable (P:Program) (w:World)
def cn (H : Hp) (h : Heap) (a : Addr) : HO → Prop
 | .lst xs => xs.length ≤ sizeLine ∧ ∃ (its : List Value) (n : Nat), cJ xs its ∧ h.get? a = some { cls := .type "list", data := .seq its.toArray n }
 | .tup xs => xs.length ≤ sizeLine ∧ ∃ its : List Value, cJ xs its ∧ IsTup h a its.toArray
 | .dK kvs => kvs.length ≤ sizeLine ∧ (a == sysModules) = false ∧ ∃ vs, KV kvs vs ∧ h.DictOf (eW P w) a vs
 | .dT kvs => kvs.length ≤ sizeLine ∧ (a == sysModules) = false ∧ ∃ xs : List (List Key × Addr × Value),
   Paired (fun (p : List Key × V) (q : List Key × Addr × Value) => p.1 = q.1 ∧ H q.2.1 = some (.tup (p.1.map kV)) ∧ RelV p.2 q.2.2) kvs xs ∧
   ∃ o es ep, h.get? a = some o ∧ o.ExactDict ∧ o.data = .dict es ep ∧ es.toList = xs.map (entryOfKey (tupleKind (eW P w))) ∧ (xs.map (·.1)).Nodup
 | .set S n => h.SetOf (intKind P w) a S n
 | .ins C dx fs => H dx = some (.own a) ∧ fs.length ≤ 1000 ∧ dx ≠ a ∧ h.get? a = some (PySem.W.instObj C dx) ∧
   ∃ mA, h.Ns1 dx mA ∧ (∀ f, qV (fs.lookup f) (mA f)) ∧ PySem.Within mA (fs.map (·.1))
 | .own _ => ∃ o, h.get? a = some o
 | .xd fs => ∃ mA, h.Ns1 a mA ∧ ∀ f, qV (fs.lookup f) (mA f)
 | .rng lo hi => ∃ t u v, h.get? a = some { cls := .type "range", data := .fields #[.int lo t, .int hi u, .int 1 v] }
 | .frz o u => h.get? a = some o ∧ cn H h a u
 | .tbl ps => h.get? a = some { cls := .none, data := .fields ps }
 | .met f x => h.get? a = some (PySem.W.methodObj (.ref f) (.ref x))
 | .ext φ => φ h ∧ (∃ o, h.get? a = some o) ∧ ∀ h1 h2 : Heap, φ h1 → (∀ o, h1.get? a = some o → h2.get? a = some o) → φ h2
def nI(H:Hp)(h:Heap):Prop:=∀a o,H a=some o->cn P w H h a o
end
section
variable {P:Program} {w:World} {H H':Hp} {h h':Heap} {a:Addr} {o:HO}
def cn.lt(x:cn P w H h a o):a<h.objs.size:=by
 cases o with
 | lst xs=>obtain⟨_,_,_,_,e⟩:=x;exact aT e
 | tup xs=>obtain⟨_,_,_,p⟩:=x;exact p.lt
 | dK kvs=>obtain⟨_,_,_,_,o,_,_,e,_⟩:=x;exact aT e
 | dT kvs=>obtain⟨_,_,_,_,o,_,_,e,_⟩:=x;exact aT e
 | set S n=>obtain⟨o,_,_,_,e,_⟩:=x;exact aT e
 | ins C dx fs=>obtain⟨_,_,_,e,_⟩:=x;exact aT e
 | own y=>obtain⟨_,e⟩:=x;exact aT e
 | xd fs=>obtain⟨_,⟨_,_,_,e,_⟩,_⟩:=x;exact aT e
 | rng lo hi=>obtain⟨_,_,_,e⟩:=x;exact aT e
 | frz ob u=>obtain⟨e,_⟩:=x;exact aT e
 | tbl ps=>exact aT (show h.get? a=some _ from x)
 | met f y=>exact aT (show h.get? a=some _ from x)
 | ext φ=>obtain⟨_,⟨_,e⟩,_⟩:=x;exact aT e
def Paired.mapP{α β:Type}{F G:α->β->Prop}:∀{l₁:List α} {l₂:List β},Paired F l₁ l₂->(∀a b,F a b->G a b)->Paired G l₁ l₂
 | _,_,.nil,_=>.nil
 | _,_,.cons r t,f=>.cons (f _ _ r) (Paired.mapP t f)
def cn.stay(x:cn P w H h a o)(k:∀b u,(b=a\/H b=some (.own a))->h.get? b=some u->h'.get? b=some u)
  (ho:∀b,H b=some (.own a)->H' b=some (.own a)) (ht:∀b xs,H b=some (.tup xs)->H' b=some (.tup xs)):cn P w H' h' a o:=by
 induction o with
 | lst xs=>obtain⟨z,its,n,r,e⟩:=x;exact⟨z,its,n,r,k _ _ (.inl rfl) e⟩
 | tup xs=>obtain⟨z,its,r,ob,e,c⟩:=x;exact⟨z,its,r,ob,k _ _ (.inl rfl) e,c⟩
 | dK kvs=>obtain⟨z,y,vs,r,ob,es,ep,e,c⟩:=x;exact⟨z,y,vs,r,ob,es,ep,k _ _ (.inl rfl) e,c⟩
 | dT kvs=>
  obtain⟨z,y,xs,r,ob,es,ep,e,c⟩:=x;exact⟨z,y,xs,Paired.mapP r λp q z=>⟨z.1,ht _ _ z.2.1,z.2.2⟩,ob,es,ep,k _ _ (.inl rfl) e,c⟩
 | set S n=>obtain⟨ob,es,ep,t,e,c⟩:=x;exact⟨ob,es,ep,t,k _ _ (.inl rfl) e,c⟩
 | ins C dx fs=>
  obtain⟨d,z,ne,e,mA,⟨od,es,ep,e2,c⟩,r⟩:=x;exact⟨ho _ d,z,ne,k _ _ (.inl rfl) e,mA,⟨od,es,ep,k _ _ (.inr d) e2,c⟩,r⟩
 | own y=>obtain⟨ob,e⟩:=x;exact⟨ob,k _ _ (.inl rfl) e⟩
 | xd fs=>obtain⟨mA,⟨od,es,ep,e,c⟩,r⟩:=x;exact⟨mA,⟨od,es,ep,k _ _ (.inl rfl) e,c⟩,r⟩
 | rng lo hi=>obtain⟨t,u,v,e⟩:=x;exact⟨t,u,v,k _ _ (.inl rfl) e⟩
 | frz ob u ih=>obtain⟨e,q⟩:=x;exact⟨k _ _ (.inl rfl) e,ih q⟩
 | tbl ps=>
  have e:h.get? a=some { cls:=.none,data:=.fields ps }:=x;show h'.get? a=some { cls:=.none,data:=.fields ps };exact k a _ (.inl rfl) e
 | met f y=>
  have e:h.get? a=some (PySem.W.methodObj (.ref f) (.ref y)):=x;show h'.get? a=some (PySem.W.methodObj (.ref f) (.ref y));exact k a _ (.inl rfl) e
 | ext φ=>obtain⟨p,⟨o,e⟩,st⟩:=x;exact⟨st _ _ p λo q=>k _ _ (.inl rfl) q,⟨o,k _ _ (.inl rfl) e⟩,st⟩
def nI.lt(x:nI P w H h)(e:H a=some o):a<h.objs.size:=(x a o e).lt
def nI.fresh(x:nI P w H h)(e:h.objs.size<=a):H a=none:=by
 cases q:H a with
 | none=>rfl
 | some u=>exact absurd (a7 (x.lt q) e) (ce _)
def nI.kept(x:nI P w H h)(k:∀b u,h.get? b=some u->h'.get? b=some u):nI P w H h':=λa o e=>
 (x a o e).stay (λb u _ q=>k b u q) (λ_ q=>q) λ_ _ q=>q
def nI.laid(x:nI P w H h)(k:∀b u,h.get? b=some u->h'.get? b=some u)(hp:h.objs.size<=a)(new:cn P w (upd H a o) h' a o):nI P w (upd H a o) h':=λb u e=>by
 have hn:=x.fresh hp;by_cases hb:b=a
 ·subst hb;rw[aG] at e;cases e;exact new
 ·rw[aR hb] at e;exact(x b u e).stay (λc v _ q=>k c v q) (λc q=>by rw[aR (ak q hn)];exact q) λc xs q=>by rw[aR (ak q hn)];exact q
end
def Rd(H:Hp)(a:Addr)(u:HO):Prop:=H a=some u\/∃o,H a=some (.frz o u)
def Rd.ok{P:Program}{w:World}{H:Hp}{h:Heap}{a:Addr}{u:HO}(r:Rd H a u)(x:nI P w H h):cn P w H h a u:=by
 rcases r with r | ⟨o,r⟩
 ·exact x a u r
 ·obtain⟨_,q⟩:=x a _ r;exact q
def Ii:Option HO->Prop
 | some (.lst _)=>True
 | some (.dK _)=>True
 | some (.dT _)=>True
 | some (.set _ _)=>True
 | some (.ins _ _ _)=>True
 | some (.ext _)=>True
 | _=>False
section
variable {P:Program} {w:World} {H:Hp} {h h':Heap} {x e:Addr} {o':HO}
def nI.write(ok:nI P w H h)(mu:Ii (H x))(he:e=x\/H e=some (.own x))(k:∀b u,b≠e->h.get? b=some u->h'.get? b=some u)(heo:∃u,h'.get? e=some u)
  (new:cn P w (upd H x o') h' x o'):nI P w (upd H x o') h':=λb u q=>by
 have nown:∀c y,H c=some (.own y)->c≠x:=λc y r z=>by subst z;rw[r] at mu;exact mu
 have ntup:∀c xs,H c=some (.tup xs)->c≠x:=λc xs r z=>by subst z;rw[r] at mu;exact mu
 by_cases hb:b=x
 ·subst hb;rw[aG] at q;cases q;exact new
 ·rw[aR hb] at q;by_cases hbe:b=e
  ·have q':H b=some (.own x):=by
    rcases he with z | z
    ·exact absurd (hbe.trans z) hb
    ·rw[hbe];exact z
   rw[q] at q';cases q';obtain⟨v,hv⟩:=heo;exact⟨v,by rw[hbe];exact hv⟩
  ·refine(ok b u q).stay (λc v hc r=>k c v ?_ r) (λc r=>by rw[aR (nown c b r)];exact r) λc xs r=>by rw[aR (ntup c xs r)];exact r
   rcases hc with rfl | hc
   ·exact hbe
   ·rintro rfl;rcases he with z | z
    ·exact nown c b hc z
    ·rw[hc] at z;cases z;exact hb rfl
end
structure Un (fs ex:List Addr) (H H':Hp) (h h':Heap):Prop where
 keep:∀ b o,h.get? b=some o->H b=none->b∉fs->b∉ex->h'.get? b=some o
 slot:∀ b o,h.get? b=some o->H b=none->b∈fs->b∉ex->∃ sl,h'.get? b=some { o with slots:=sl }
 free:∀ b o,h.get? b=some o->H b=none->b∉ex->H' b=none
 there:∀ b o,h.get? b=some o->b∉ex->∃ o',h'.get? b=some o'
 tups:∀ b xs,H b=some (.tup xs)->H' b=some (.tup xs)
 frzs:∀ b o u,H b=some (.frz o u)->H' b=some (.frz o u)
 tbls:∀ b ps,H b=some (.tbl ps)->∃ more,H' b=some (.tbl (ps++more))
section
variable {fs ex:List Addr} {H H1:Hp} {h h1 h':Heap} {a x e:Addr} {o:HO}
def Un.any(u:Un fs ex H H1 h h1){b:Addr}{ob:Obj}(q:h.get? b=some ob)(n:H b=none)(hx:b∉ex):∃sl,h1.get? b=some { ob with slots:=sl }:=by
 by_cases hb:b∈fs
 ·exact u.slot b ob q n hb hx
 ·exact⟨ob.slots,u.keep b ob q n hb hx⟩
def Un.kept(k:∀b u,h.get? b=some u->h'.get? b=some u):Un fs ex H H h h':=
 ⟨λb ob q _ _ _=>k b ob q,λb ob q _ _ _=>⟨ob.slots,k b ob q⟩,λ_ _ _ n _=>n,λb ob q _=>⟨ob,k b ob q⟩,λ_ _ q=>q,λ_ _ _ q=>q,λ_ ps q=>⟨#[],by rw[q];simp⟩⟩
def Un.refl:Un fs ex H H h h:=Un.kept λ_ _ q=>q
def Un.laid(k:∀b u,h.get? b=some u->h'.get? b=some u)(hp:h.objs.size<=a)(hn:H a=none):Un fs ex H (upd H a o) h h' where
 keep:=λb u q _ _ _=>k b u q
 slot:=λb u q _ _ _=>⟨u.slots,k b u q⟩
 free:=λb u q n _=>by rw[aR (aj (a7 (aT q) hp))];exact n
 there:=λb u q _=>⟨u,k b u q⟩
 tups:=λb xs q=>by rw[aR (ak q hn)];exact q
 frzs:=λb u xs q=>by rw[aR (ak q hn)];exact q
 tbls:=λb ps q=>⟨#[],by rw[aR (ak q hn),q];simp⟩
def Un.write(mu:Ii (H x))(he:e=x\/H e=some (.own x))(k:∀b u,b≠e->h.get? b=some u->h'.get? b=some u)(heo:∃u,h'.get? e=some u):Un fs ex H (upd H x o) h h':=by
 have hx:∀b,H b=none->b≠x:=λb n z=>by subst z;rw[n] at mu;exact mu
 have hb:∀b,H b=none->b≠e:=λb n z=>by
  subst z;rcases he with r | r
  ·exact hx b n r
  ·rw[n] at r;cases r
 have hm:∀b u,H b=some u->¬Ii (some u)->b≠x:=λb u q nm z=>by subst z;rw[q] at mu;exact nm mu
 refine⟨λb u q n _ _=>k b u (hb b n) q,λb u q n _ _=>⟨u.slots,k b u (hb b n) q⟩,λb u q n _=>by rw[aR (hx b n)];exact n,λb u q _=>?_,
  λb xs q=>by rw[aR (hm b _ q λz=>z)];exact q,λb u xs q=>by rw[aR (hm b _ q λz=>z)];exact q,λb ps q=>⟨#[],by rw[aR (hm b _ q λz=>z),q];simp⟩⟩
 by_cases hbe:b=e
 ·subst hbe;exact heo
 ·exact⟨u,k b u hbe q⟩
end
def JB(h:Heap)(H:Hp):List Addr:=(List.range h.objs.size).filter λa=>(H a).isSome
def sn(h:Heap)(H:Hp):Heap:=PySem.W.hideAll h (JB h H)
def zR(h:Heap)(H:Hp):(sn h H).objs.size=h.objs.size:=PySem.W.hideAll_size _ _
def CB{h:Heap}{H:Hp}{b:Addr}{o:Obj}(e:h.get? b=some o)(n:H b=none):(sn h H).get? b=some o:=
 PySem.W.hideAll_get _ e λhm=>by
  have q:(H b).isSome=true:=(ii.mp hm).2;rw[n] at q;simp at q
def Df{h:Heap}{H:Hp}{b:Addr}{o:Obj}(e:(sn h H).get? b=some o):h.get? b=some o/\H b=none:=by
 have e':h.get? b=some o:=PySem.W.of_hideAll (JB h H) e;refine⟨e',?_⟩;cases q:H b with
 | none=>rfl
 | some x=>
  have hm:b∈JB h H:=ii.mpr ⟨gf.mpr (aT e'),by simp[q]⟩;have z:(sn h H).get? b=none:=PySem.W.hideAll_none (JB h H) hm;rw[z] at e;cases e
def EQ(g h:Heap)(L:Addr):List (Addr×Obj):=(List.range h.objs.size).filterMap λa=>if a=L\/(g.get? a).isSome=true then none else (h.get? a).map λo=>(a,o)
def rest(g h:Heap)(L d:Addr):List (Addr×Obj):=(EQ g h L).filter λp=>decide (p.1≠d)
structure Mod (K:NQ) (mg:Str->Option Value) (base:Heap):Prop where
 kin:K.In base
 glob:base.Ns mainGlobals mg
 blt:∃ mb,base.Ns builtinsNs mb/\∀ x:Str,x≠"__name__"->mb x=bootBuiltins x
 nolimit:base.NoLimit
structure Cx where
 prog:Program
 w:World
 K:NQ
 mg:Str->Option Value
 base:Heap
 A:Around
 N:List Str
 s₀:Shared
 H₀:Hp
 env:Env
 outer:List Env
 stack:List Env
 ex:List Addr
 fn:Str->Bool
 calm:Bool
 pn:List (Addr×Obj)
 xe:Value->Shared->Prop
def wC(l:List Env):List Addr:=l.filterMap (·.frame)
abbrev Cx.fs (X:Cx):List Addr:=wC X.outer
def HA(sc:Scope)(x:Str):Prop:=sc.names.lookup x=some .local\/sc.names.lookup x=some .cell\/sc.names.lookup x=some .free
def Loc(sc:Scope)(x:Str):Prop:=sc.names.lookup x=some .local\/sc.names.lookup x=some .cell
def Look(env:Env)(h:Heap)(m:Str->Option Value)(x:Str)(u:Value):Prop:=
 (env.kindOf x=some .local/\m x=some u)\/((env.kindOf x=some .cell\/env.kindOf x=some .free)/\∃c,env.cells.lookup x=some c/\h.IsCell c (some u))
structure Cx.Ok (X:Cx):Prop where
 mod:Mod X.K X.mg X.base
 kind:X.env.scope.kind=.function
 glob:X.env.globals=mainGlobals
 blt:X.env.builtins=builtinsNs
 above:X.s₀.heap.objs.size<=X.env.locals
 inj:∀ x y c,X.env.cells.lookup x=some c->X.env.cells.lookup y=some c->x=y
 has:∀ x,(X.env.kindOf x=some .cell\/X.env.kindOf x=some .free)->∃ c,X.env.cells.lookup x=some c
 cab:∀ x c,X.fn x=true->X.env.cells.lookup x=some c->X.s₀.heap.objs.size<=c
 hd:X.calm=true->X.A.handled=none
 frames:X.A.frames=some X.stack
 stk:X.stack=X.outer\/(X.stack=X.env::X.outer/\X.env.frame=some X.env.locals)
 exf:∀ b∈X.ex,b≠X.env.locals/\∀ x c,X.env.cells.lookup x=some c->c≠b
 bs:∀ b o,X.base.get? b=some o->X.s₀.heap.get? b=some o/\X.H₀ b=none
 bsz:X.base.objs.size<=X.s₀.heap.objs.size
 noex:∀ b o,X.base.get? b=some o->b∉X.ex
 exfs:∀ b∈X.ex,b∉X.fs
 funs:X.s₀.heap.FunFrames X.base X.outer
 frf:∀ b∈X.fs,X.H₀ b=none
structure bc (X:Cx) (pins:List (Addr×Obj)) (σ:List (Option V)) (H:Hp) (s:Shared):Prop where
 ok:X.Ok
 os:s.os=X.s₀.os
 bare:AllBare s.gens
 base:Un X.fs X.ex X.H₀ H X.s₀.heap s.heap
 loc:∃ m,s.heap.Ns X.env.locals m/\∀ (i:Nat) (x:Str) (v:V),X.N[i]? = some x->σ[i]? = some (some v)->HA X.env.scope x->∃ u,RelV v u/\Look X.env s.heap m x u
 cell:∀ x c,X.env.cells.lookup x=some c->∃ v,s.heap.IsCell c v
 free:H X.env.locals=none
 freeC:∀ x c,X.env.cells.lookup x=some c->H c=none
 pin:∀ p∈X.pn++pins,s.heap.get? p.1=some p.2/\H p.1=none/\p.1≠X.env.locals/\p.1∉X.fs/\∀ v,p.2.data≠.cell v
 hok:nI X.prog X.w H s.heap
 len:σ.length=X.N.length
section
variable {X:Cx} {pins:List (Addr×Obj)} {σ:List (Option V)} {H H':Hp} {s:Shared} {h':Heap}
def Cx.Ok.nofr(ok:X.Ok){b:Addr}{o:Obj}(e:X.base.get? b=some o):b∉X.fs:=λhb=>by
 have:=(ok.funs.mem hb).1;rw[e] at this;cases this
def bc.bs(I:bc X pins σ H s):∀b o,X.base.get? b=some o->s.heap.get? b=some o/\H b=none:=λb o e=>
 ⟨I.base.keep b o (I.ok.bs b o e).1 (I.ok.bs b o e).2 (I.ok.nofr e) (I.ok.noex b o e),I.base.free b o (I.ok.bs b o e).1 (I.ok.bs b o e).2 (I.ok.noex b o e)⟩
def bc.bk(I:bc X pins σ H s):∀b o,X.base.get? b=some o->s.heap.get? b=some o:=λb o e=>(I.bs b o e).1
def bc.mod(I:bc X pins σ H s):Mod X.K X.mg X.base:=I.ok.mod
def bc.kIn(I:bc X pins σ H s):X.K.In s.heap:=I.ok.mod.kin.keeps I.bk
def bc.lt(I:bc X pins σ H s):X.env.locals<s.heap.objs.size:=let ⟨_,hn,_⟩:=I.loc;hn.lt
def bc.sz(I:bc X pins σ H s):X.s₀.heap.objs.size<=s.heap.objs.size:=bJ I.ok.above (bx I.lt)
def bc.nofs(I:bc X pins σ H s){a:Addr}(h:s.heap.objs.size<=a):a∉X.fs:=λhb=>by
 obtain⟨_,o,ho,_⟩:=I.ok.funs.mem hb;exact absurd (a7 (aT ho) (bJ I.sz h)) (ce _)
def bc.cne(I:bc X pins σ H s):∀x c,X.env.cells.lookup x=some c->c≠X.env.locals:=λx c e z=>by
 obtain⟨v,o,ho,hd⟩:=I.cell x c e;obtain⟨m,⟨o',es,ep,ho',hd',_⟩,_⟩:=I.loc;rw[z,ho'] at ho;cases ho;rw[hd'] at hd;cases hd
def bc.funs(I:bc X pins σ H s):s.heap.FunFrames X.base X.outer:=by
 have all:∀(l:List Env),(∀b∈wC l,b∈X.fs)->X.s₀.heap.FunFrames X.base l->s.heap.FunFrames X.base l:=by
  intro l
  induction l with
  | nil=>intro _ _;trivial
  | cons env r ih=>
   intro hs hl;obtain⟨hk,⟨L,o,hf,hn,ho,hd⟩,hr⟩:=hl;have hL:L∈X.fs:=hs L (by unfold wC;rw[iy,hf];exact aq);obtain⟨sl,e⟩:=I.base.slot L o ho (I.ok.frf L hL) hL λz=>I.ok.exfs L z hL;exact⟨hk,⟨L,_,hf,hn,e,hd⟩,ih (λb hb=>hs b (by unfold wC;rw[iy,hf];exact aM _ hb)) hr⟩
 exact all X.outer (λ_ hb=>hb) I.ok.funs
def bc.stack(I:bc X pins σ H s):s.heap.FunFrames X.base X.stack:=by
 rcases I.ok.stk with e | ⟨e,hf⟩
 ·rw[e];exact I.funs
 ·rw[e];obtain⟨m,hn,_⟩:=I.loc;refine .cons (by rw[I.ok.kind];decide) hf hn ?_ I.funs;exact Heap.get?_none_of_le (bJ I.ok.bsz I.ok.above)
def bc.stkSub(I:bc X pins σ H s):∀b∈wC X.stack,b∈X.env.locals::X.fs:=λb hb=>by
 rcases I.ok.stk with e | ⟨e,hf⟩
 ·rw[e] at hb;exact aM _ hb
 ·rw[e] at hb;unfold wC at hb;rw[iy,hf] at hb;exact hb
def bc.stkFree(I:bc X pins σ H s):∀b∈wC X.stack,H b=none:=λb hb=>by
 rcases aI.mp (I.stkSub b hb) with e | hb
 ·rw[e];exact I.free
 ·obtain⟨_,o,ho,_⟩:=I.ok.funs.mem hb;exact I.base.free b o ho (I.ok.frf b hb) λz=>I.ok.exfs b z hb
def bc.step{g':Array GenState}{t':Nat}{d':Drawn}{ch:List Addr}(I:bc X pins σ H s)
  (hch:∀b∈ch,(b∈X.ex\/X.s₀.heap.objs.size<=b)/\b≠X.env.locals/\(∀x c,X.env.cells.lookup x=some c->c≠b)/\∀p∈X.pn++pins,p.1≠b)
  (keep:∀b o,b≠X.env.locals->b∉X.fs->b∉ch->s.heap.get? b=some o->H b=none->h'.get? b=some o)
  (slot:∀b o,b≠X.env.locals->b∈X.fs->b∉ch->s.heap.get? b=some o->H b=none->∃sl,h'.get? b=some { o with slots:=sl }) (free:∀b o,b∉ch->s.heap.get? b=some o->H b=none->H' b=none)
  (there:∀b o,b∉ch->s.heap.get? b=some o->∃o',h'.get? b=some o')
  (tups:∀b xs,H b=some (.tup xs)->H' b=some (.tup xs)) (frzs:∀b o u,H b=some (.frz o u)->H' b=some (.frz o u)) (tbls:∀b ps,H b=some (.tbl ps)->∃more,H' b=some (.tbl (ps++more)))
  (ns:∀m,s.heap.Ns X.env.locals m->h'.Ns X.env.locals m) (hok:nI X.prog X.w H' h') (hg:AllBare g') :
  bc X pins σ H' { s with heap:=h',gens:=g',drawn:=d',toks:=t' }:=by
 have neL:∀b o,X.s₀.heap.get? b=some o->b≠X.env.locals:=λb o e=>aj (a7 (aT e) I.ok.above);have neC:∀b o,X.s₀.heap.get? b=some o->b∉X.ex->b∉ch:=λb o e hx hb=>by
  rcases(hch b hb).1 with z | z
  ·exact hx z
  ·exact absurd (a7 (aT e) z) (ce _)
 have cellK:∀x c,X.env.cells.lookup x=some c->∀v,s.heap.IsCell c v->h'.IsCell c v:=λx c e v ⟨o,ho,hd⟩=>by
  have nch:c∉ch:=λz=>(hch c z).2.2.1 x c e rfl;by_cases hc:c∈X.fs
  ·obtain⟨sl,q⟩:=slot c o (I.cne x c e) hc nch ho (I.freeC x c e);exact⟨_,q,hd⟩
  ·exact⟨o,keep c o (I.cne x c e) hc nch ho (I.freeC x c e),hd⟩
 refine⟨I.ok,I.os,hg,⟨λb o e n hb hx=>?_,λb o e n hb hx=>?_,λb o e n hx=>?_,λb o e hx=>?_,λb xs e=>tups b xs (I.base.tups b xs e),λb o xs e=>frzs b o xs (I.base.frzs b o xs e),λb ps e=>?_⟩,?_,λx c e=>?_,?_,λx c e=>?_,λp hp=>?_,hok,I.len⟩
 ·exact keep b o (neL b o e) hb (neC b o e hx) (I.base.keep b o e n hb hx) (I.base.free b o e n hx)
 ·obtain⟨sl,e1⟩:=I.base.slot b o e n hb hx;obtain⟨sl',e2⟩:=slot b _ (neL b o e) hb (neC b o e hx) e1 (I.base.free b o e n hx);exact⟨sl',e2⟩
 ·obtain⟨o',e1⟩:=I.base.there b o e hx;exact free b o' (neC b o e hx) e1 (I.base.free b o e n hx)
 ·obtain⟨o',e1⟩:=I.base.there b o e hx;exact there b o' (neC b o e hx) e1
 ·obtain⟨m1,e1⟩:=I.base.tbls b ps e;obtain⟨m2,e2⟩:=tbls b _ e1;exact⟨m1++m2,by rw[e2,Array.append_assoc]⟩
 ·obtain⟨m,hn,hl⟩:=I.loc;refine⟨m,ns m hn,λi x v e1 e2 e3=>?_⟩;obtain⟨u,r,l⟩:=hl i x v e1 e2 e3;refine⟨u,r,?_⟩;rcases l with l | ⟨k,c,e,z⟩
  ·exact .inl l
  ·exact .inr ⟨k,c,e,cellK x c e _ z⟩
 ·obtain⟨v,z⟩:=I.cell x c e;exact⟨v,cellK x c e v z⟩
 ·obtain⟨m,⟨o,_,_,ho,_⟩,_⟩:=I.loc;exact free _ o (λz=>(hch _ z).2.1 rfl) ho I.free
 ·obtain⟨v,o,ho,hd⟩:=I.cell x c e;exact free c o (λz=>(hch c z).2.2.1 x c e rfl) ho (I.freeC x c e)
 ·obtain⟨e,n,ne,nf,d⟩:=I.pin p hp;have nch:p.1∉ch:=λz=>(hch p.1 z).2.2.2 p hp rfl;exact⟨keep p.1 p.2 ne nf nch e n,free p.1 p.2 nch e n,ne,nf,d⟩
def bc.un{t':Nat}(I:bc X pins σ H s)(u:Un X.fs [] H H' s.heap h')(hok:nI X.prog X.w H' h'):bc X pins σ H' { s with heap:=h',toks:=t' }:=by
 obtain⟨m,⟨o,es,ep,ho,r⟩,_⟩:=id I.loc;obtain⟨sl,hL⟩:=u.any ho I.free (by simp);exact I.step (g':=s.gens) (d':=s.drawn) (ch:=[]) (λ_ z=>nomatch z) (λb o _ hb _ e n=>u.keep b o e n hb (by simp)) (λb o _ hb _ e n=>u.slot b o e n hb (by simp)) (λb o _ e n=>u.free b o e n (by simp)) (λb o _ e=>u.there b o e (by simp)) u.tups u.frzs u.tbls (λm' hm=>by
  obtain⟨o',es',ep',ho',r'⟩:=hm;rw[ho] at ho';cases ho';exact⟨_,es',ep',hL,r'⟩) hok I.bare
def bc.call{g':Array GenState}{t':Nat}{d':Drawn}{ch:List Addr}(I:bc X pins σ H s)(u:Un (wC X.stack) ch H H' s.heap h')(hok:nI X.prog X.w H' h')(hg:AllBare g')
  (hch:∀b∈ch,(b∈X.ex\/X.s₀.heap.objs.size<=b)/\b≠X.env.locals/\(∀x c,X.env.cells.lookup x=some c->c≠b)/\∀p∈X.pn++pins,p.1≠b) :
  bc X pins σ H' { s with heap:=h',gens:=g',drawn:=d',toks:=t' }:=by
 obtain⟨m,⟨o,es,ep,ho,r⟩,_⟩:=id I.loc;obtain⟨sl,hL⟩:=u.any ho I.free λz=>(hch _ z).2.1 rfl;exact I.step (ch:=ch) hch (λb o hL hb hc e n=>u.keep b o e n (λz=>(aI.mp (I.stkSub b z)).elim hL hb) hc) (λb o _ _ hc e n=>u.any e n hc) (λb o hc e n=>u.free b o e n hc) (λb o hc e=>u.there b o e hc) u.tups u.frzs u.tbls (λm' hm=>by
  obtain⟨o',es',ep',ho',r'⟩:=hm;rw[ho] at ho';cases ho';exact⟨_,es',ep',hL,r'⟩) hok hg
def bc.turned{t':Nat}{it:Addr}(I:bc X pins σ H s)(k:∀b o,b≠it->s.heap.get? b=some o->h'.get? b=some o)(hn:H it=none)(hL:it≠X.env.locals)
  (h1:it∈X.ex\/X.s₀.heap.objs.size<=it) (h2:∀x c,X.env.cells.lookup x=some c->c≠it) (h3:∀p∈X.pn++pins,p.1≠it):bc X pins σ H { s with heap:=h',toks:=t' }:=by
 have nit:∀b u,H b=some u->b≠it:=λb u e z=>by rw[z,hn] at e;cases e
 refine I.step (g':=s.gens) (d':=s.drawn) (ch:=[it]) (λb hb=>?_) (λb o _ _ hc e _=>k b o (λz=>hc (by simp[z])) e) (λb o _ _ hc e _=>⟨o.slots,k b o (λz=>hc (by simp[z])) e⟩) (λ_ _ _ _ n=>n)
  (λb o hc e=>⟨o,k b o (λz=>hc (by simp[z])) e⟩) (λ_ _ e=>e) (λ_ _ _ e=>e) (λb ps e=>⟨#[],by rw[e];simp⟩) (λm hm=>?_) (λb u e=>?_) I.bare
 ·have e:b=it:=by simpa using hb
  subst e;exact⟨h1,hL,h2,h3⟩
 ·obtain⟨o,es,ep,ho,r⟩:=hm;exact⟨o,es,ep,k _ o (cC hL) ho,r⟩
 ·refine(I.hok b u e).stay (λc v hc q=>k c v ?_ q) (λ_ q=>q) λ_ _ q=>q;rcases hc with z | z
  ·rw[z];exact nit b u e
  ·exact nit c _ z
def bc.tok(I:bc X pins σ H s)(t:Nat):bc X pins σ H { s with toks:=t }:=I.un (h':=s.heap) (t':=t) Un.refl I.hok
def bc.kept{t':Nat}(I:bc X pins σ H s)(k:∀b u,s.heap.get? b=some u->h'.get? b=some u):bc X pins σ H { s with heap:=h',toks:=t' }:=I.un (Un.kept k) (I.hok.kept k)
def bc.laid{a:Addr}{o:HO}{t':Nat}(I:bc X pins σ H s)(k:∀b u,s.heap.get? b=some u->h'.get? b=some u)(hp:s.heap.objs.size<=a)(new:cn X.prog X.w (upd H a o) h' a o):
  bc X pins σ (upd H a o) { s with heap:=h',toks:=t' }:=I.un (Un.laid k hp (I.hok.fresh hp)) (I.hok.laid k hp new)
def bc.write{x e:Addr}{o:HO}{t':Nat}(I:bc X pins σ H s)(mu:Ii (H x))(he:e=x\/H e=some (.own x))(k:∀b u,b≠e->s.heap.get? b=some u->h'.get? b=some u)(heo:∃u,h'.get? e=some u)
  (new:cn X.prog X.w (upd H x o) h' x o):bc X pins σ (upd H x o) { s with heap:=h',toks:=t' }:=I.un (Un.write mu he k heo) (I.hok.write mu he k heo new)
def bc.pins_of{pins':List (Addr×Obj)}(I:bc X pins σ H s)(h:∀p∈pins',s.heap.get? p.1=some p.2/\H p.1=none/\p.1≠X.env.locals/\p.1∉X.fs/\∀v,p.2.data≠.cell v):bc X pins' σ H s:=
 ⟨I.ok,I.os,I.bare,I.base,I.loc,I.cell,I.free,I.freeC,λp hp=>(aQ.mp hp).elim (λz=>I.pin p (bG _ z)) (h p),I.hok,I.len⟩
def u7{N:List Str}(hN:N.Nodup){i j:Nat}{x:Str}(a:N[i]? = some x)(b:N[j]? = some x):i=j:=by
 obtain⟨h1,e1⟩:=aJ.mp a;obtain⟨h2,e2⟩:=aJ.mp b;exact(List.getElem_inj hN).mp (e1.trans e2.symm)
def qu{M:Model}{A:Around}{E:Value->Shared->Prop}{i:Nat}{x:Str}{v:V}{u:Value}{Q:Unit->Shared->Prop}(I:bc X pins σ H s)(hN:X.N.Nodup)(hi:X.N[i]? = some x)(hx:Loc X.env.scope x)(r:RelV v u)
  (h:∀s',bc X pins (σ.set i (some v)) H s'->(∃a,Heap.SameBut a s.heap s'.heap/\(a=X.env.locals\/X.env.cells.lookup x=some a))->Q () s') (hf:X.fn x=true\/X.env.scope.names.lookup x=some .local:=by first | exact .inl rfl | exact .inr rfl | assumption):wpAny M A (storeName X.env x u) Q E s:=by
 obtain⟨m,hn,hl⟩:=id I.loc;have hcls:(X.env.scope.kind==.class || (X.env.scope.kind==.module&&X.env.locals != X.env.globals))=false:=by rw[I.ok.kind];rfl
 have hiσ:i<σ.length:=by rw[I.len];exact(aJ.mp hi).1
 have cne:=I.cne;have tracked:∀{a:Addr} {h':Heap},(∃o,s.heap.get? a=some o/\H a=none)->Heap.SameBut a s.heap h'->nI X.prog X.w H h':=fun {a h'} ha hs b ob e=>by
  obtain⟨_,_,hfree⟩:=ha;refine(I.hok b ob e).stay (λc w' hc q=>(hs.2 c ?_).trans q) (λ_ q=>q) λ_ _ q=>q;rintro rfl;rcases hc with rfl | hc
  ·rw[hfree] at e;cases e
  ·rw[hfree] at hc;cases hc
 rcases hx with hk | hk
 ·refine wpAny_storeName_local hk hn (λh' hn' hs=>?_) hcls;obtain⟨oL,_,_,hoL,_⟩:=id hn;refine h _ ⟨I.ok,I.os,I.bare,⟨λb o e n hb hx=>?_,λb o e n hb hx=>?_,I.base.free,λb o e hx=>?_,I.base.tups,I.base.frzs,I.base.tbls⟩,⟨_,hn',λj y v' e1 e2 e3=>?_⟩,λy c e=>?_,I.free,I.freeC,λp hp=>?_,tracked ⟨oL,hoL,I.free⟩ hs,by simpa using I.len⟩ ⟨_,hs,.inl rfl⟩
  ·exact(hs.2 b (aj (a7 (aT e) I.ok.above))).trans (I.base.keep b o e n hb hx)
  ·obtain⟨sl,e1⟩:=I.base.slot b o e n hb hx;exact⟨sl,(hs.2 b (aj (a7 (aT e) I.ok.above))).trans e1⟩
  ·obtain⟨o',e1⟩:=I.base.there b o e hx;exact⟨o',(hs.2 b (aj (a7 (aT e) I.ok.above))).trans e1⟩
  ·by_cases hj:j=i
   ·subst hj;rw[hi] at e1;cases e1;rw[ky hiσ] at e2;cases e2;exact⟨u,r,.inl ⟨hk,by simp⟩⟩
   ·rw[List.getElem?_set_ne (cC hj)] at e2;obtain⟨u',r',q⟩:=hl j y v' e1 e2 e3;refine⟨u',r',?_⟩;rcases q with ⟨k,e⟩ | ⟨k,c,e,z⟩
    ·refine .inl ⟨k,?_⟩;have:y≠x:=λe=>hj (u7 hN e1 (e▸hi));simp[this,e]
    ·exact .inr ⟨k,c,e,z.sameBut hs (cne y c e)⟩
  ·obtain⟨w',z⟩:=I.cell y c e;exact⟨w',z.sameBut hs (cne y c e)⟩
  ·obtain⟨e,n,ne,nf,d⟩:=I.pin p hp;exact⟨(hs.2 p.1 ne).trans e,n,ne,nf,d⟩
 ·have hfn:X.fn x=true:=by
   rcases hf with z | z
   ·exact z
   ·rw[z] at hk;cases hk
  obtain⟨c,hc⟩:=I.ok.has x (.inl hk);obtain⟨w',z⟩:=I.cell x c hc;refine wpAny_storeName_cell I.ok.kind hk hc z (λh' hc' hs=>?_);obtain⟨oc,hoc,hocd⟩:=id z;refine h { s with heap:=h' } ⟨I.ok,I.os,I.bare,⟨λb o e n hb hx=>?_,λb o e n hb hx=>?_,I.base.free,λb o e hx=>?_,I.base.tups,I.base.frzs,I.base.tbls⟩,⟨m,hn.sameBut hs (cC (cne x c hc)),λj y v' e1 e2 e3=>?_⟩,λy c' e=>?_,I.free,I.freeC,λp hp=>?_,tracked ⟨oc,hoc,I.freeC x c hc⟩ hs,by simpa using I.len⟩ ⟨c,hs,.inr hc⟩
  ·exact(hs.2 b (aj (a7 (aT e) (I.ok.cab x c hfn hc)))).trans (I.base.keep b o e n hb hx)
  ·obtain⟨sl,e1⟩:=I.base.slot b o e n hb hx;exact⟨sl,(hs.2 b (aj (a7 (aT e) (I.ok.cab x c hfn hc)))).trans e1⟩
  ·obtain⟨o',e1⟩:=I.base.there b o e hx;exact⟨o',(hs.2 b (aj (a7 (aT e) (I.ok.cab x c hfn hc)))).trans e1⟩
  ·by_cases hj:j=i
   ·subst hj;rw[hi] at e1;cases e1;rw[ky hiσ] at e2;cases e2;exact⟨u,r,.inr ⟨.inl hk,c,hc,hc'⟩⟩
   ·rw[List.getElem?_set_ne (cC hj)] at e2;obtain⟨u',r',q⟩:=hl j y v' e1 e2 e3;refine⟨u',r',?_⟩;rcases q with q | ⟨k,c',e,z'⟩
    ·exact .inl q
    ·refine .inr ⟨k,c',e,z'.sameBut hs ?_⟩;rintro rfl;exact hj (u7 hN e1 (I.ok.inj _ _ _ e hc▸hi))
  ·by_cases hcc:c'=c
   ·subst hcc;exact⟨_,hc'⟩
   ·obtain⟨w2,z2⟩:=I.cell y c' e;exact⟨w2,z2.sameBut hs hcc⟩
  ·obtain⟨e,n,ne,nf,d⟩:=I.pin p hp;refine⟨(hs.2 p.1 ?_).trans e,n,ne,nf,d⟩;intro q;rw[q,hoc] at e;have q':oc=p.2:=bH e;exact d w' (by rw[<-q'];exact hocd)
def pQ{M:Model}{A:Around}{E:Value->Shared->Prop}{i:Nat}{x:Str}{v:V}{u:Value}{Q:Unit->Shared->Prop}(I:bc X pins σ H s)(hN:X.N.Nodup)(hi:X.N[i]? = some x)(hx:Loc X.env.scope x)(r:RelV v u)
  (h:∀s',bc X pins (σ.set i (some v)) H s'->Q () s') (hf:X.fn x=true\/X.env.scope.names.lookup x=some .local:=by first | exact .inl rfl | exact .inr rfl | assumption):wpAny M A (storeName X.env x u) Q E s:=
 qu I hN hi hx r (λs' I' _=>h s' I') hf
def bc.call'{s':Shared}{ch:List Addr}(I:bc X pins σ H s)(ho:s'.os=s.os)(u:Un (wC X.stack) ch H H' s.heap s'.heap)(hok:nI X.prog X.w H' s'.heap)(hg:AllBare s'.gens)
  (hch:∀b∈ch,(b∈X.ex\/X.s₀.heap.objs.size<=b)/\b≠X.env.locals/\(∀x c,X.env.cells.lookup x=some c->c≠b)/\∀p∈X.pn++pins,p.1≠b):bc X pins σ H' s':=by
 obtain⟨h',g',d',t',o'⟩:=s';have e:o'=s.os:=ho;subst e;exact I.call (g':=g') (t':=t') (d':=d') u hok hg hch
end
abbrev XK:=Value->Option Addr->Hp->Prop
abbrev St:=List (Option V)
abbrev VK:=V->Hp->Prop
abbrev TE:=St->Hp->VK->Prop
abbrev TT:=St->Hp->(Bool->Hp->Prop)->Prop
abbrev TA:=St->Hp->(List V->Hp->Prop)->Prop
structure Ends where
 nx:St->Hp->Prop
 rt:VK
 bk:St->Hp->Prop:=fun _ _=>False
 ct:St->Hp->Prop:=fun _ _=>False
abbrev TS:=Ends->St->Hp->Prop
def EP(X:Cx)(pins:List (Addr×Obj))(σ:St)(Q:VK)(u:Value)(s':Shared):Prop:=∃v H',bc X pins σ H' s'/\RelV v u/\Q v H'
def TP(X:Cx)(pins:List (Addr×Obj))(σ:St)(Q:Bool->Hp->Prop)(b:Bool)(s':Shared):Prop:=∃H',bc X pins σ H' s'/\Q b H'
def AP(X:Cx)(pins:List (Addr×Obj))(σ:St)(Q:List V->Hp->Prop)(us:List Value)(s':Shared):Prop:=∃vs H',bc X pins σ H' s'/\cJ vs us/\Q vs H'
def SP(X:Cx)(pins:List (Addr×Obj))(D:Ends)(f:Flow)(s':Shared):Prop:=
 match f with
 | .next=>∃σ' H',bc X pins σ' H' s'/\D.nx σ' H'
 | .brk=>∃σ' H',bc X pins σ' H' s'/\D.bk σ' H'
 | .cont=>∃σ' H',bc X pins σ' H' s'/\D.ct σ' H'
 | .ret u=>∃v σ' H',bc X pins σ' H' s'/\RelV v u/\D.rt v H'
def PE(X:Cx)(e:Expr)(t:TE):Prop:=
 ∀(pins:List (Addr×Obj)) (s:Shared) (σ:St) (H:Hp) (Q:VK),bc X pins σ H s->t σ H Q->wpAny (model X.prog X.w) X.A (eval e X.env) (EP X pins σ Q) X.xe s
def PT(X:Cx)(e:Expr)(t:TT):Prop:=
 ∀(pins:List (Addr×Obj)) (s:Shared) (σ:St) (H:Hp) (Q:Bool->Hp->Prop),bc X pins σ H s->t σ H Q->wpAny (model X.prog X.w) X.A (isTrue e X.env (eval e X.env)) (TP X pins σ Q) X.xe s
def PW(X:Cx)(e:Expr)(t:TT):Prop:=
 ∀(whole:Sem Value) (pins:List (Addr×Obj)) (s:Shared) (σ:St) (H:Hp) (Q:Bool->Hp->Prop),bc X pins σ H s->t σ H Q->wpAny (model X.prog X.w) X.A (isTrue e X.env whole) (TP X pins σ Q) X.xe s
def PW.pt{X:Cx}{e:Expr}{t:TT}(h:PW X e t):PT X e t:=h _
def PA(X:Cx)(es:List Expr)(t:TA):Prop:=
 ∀(pos:Pos) (pins:List (Addr×Obj)) (s:Shared) (σ:St) (H:Hp) (Q:List V->Hp->Prop),bc X pins σ H s->t σ H Q->wpAny (model X.prog X.w) X.A (spliced (backTo pos (starEach es X.env))) (AP X pins σ Q) X.xe s
def PS(X:Cx)(st:Stmt)(t:TS):Prop:=
 ∀(pins:List (Addr×Obj)) (s:Shared) (σ:St) (H:Hp) (D:Ends),bc X pins σ H s->t D σ H->wpAny (model X.prog X.w) X.A (exec st X.env) (SP X pins D) X.xe s
def vC(X:Cx)(st:List Stmt)(t:TS):Prop:=
 ∀(pins:List (Addr×Obj)) (s:Shared) (σ:St) (H:Hp) (D:Ends),bc X pins σ H s->t D σ H->wpAny (model X.prog X.w) X.A (execs st X.env) (SP X pins D) X.xe s
def dZ{α:Type}{t:Sem α}{Q Q':α->Shared->Prop}{M:Model}{A:Around}{E:Value->Shared->Prop}{s:Shared}(h:wpAny M A t Q E s)(hQ:∀a s,Q a s->Q' a s):wpAny M A t Q' E s:=Ml h hQ λ_ _ x=>x
section
variable {X:Cx}
def bin{a b:Expr}{ta tb:TE}(ha:PE X a ta)(hb:PE X b tb){pins:List (Addr×Obj)}{s:Shared}{σ:St}{H:Hp}{R:V->V->Hp->Prop}(I:bc X pins σ H s)(h:ta σ H λx H1=>tb σ H1 λy H2=>R x y H2)
  {α:Type} {Q:α->Shared->Prop} {f:Value->Value->Sem α}
  (hf:∀v u s2 x y H2,bc X pins σ H2 s2->RelV x v->RelV y u->R x y H2->wpAny (model X.prog X.w) X.A (f v u) Q X.xe s2) :
  wpAny (model X.prog X.w) X.A (eval a X.env) (λv s₁=>wpAny (model X.prog X.w) X.A (eval b X.env) (λu s₂=>wpAny (model X.prog X.w) X.A (f v u) Q X.xe s₂) X.xe s₁) X.xe s:=by
 refine dZ (ha pins s σ H _ I h) λv s1 ⟨x,H1,I1,r1,q1⟩=>?_;refine dZ (hb pins s1 σ H1 _ I1 q1) λu s2 ⟨y,H2,I2,r2,q2⟩=>?_;exact hf v u s2 x y H2 I2 r1 r2 q2
def pO(i:Nat):TE:=λσ H Q=>∃v,σ[i]? = some (some v)/\Q v H
def tC(v:V):TE:=λ_ H Q=>Q v H
def Fz {i:Nat} {x:Str} {pos:Pos} (hN:X.N[i]? = some x) (hv:HA X.env.scope x) (hd:(x==("__debug__":Str))=false:=by decide) (hcd:(x==("__classdict__":Str))=false:=by decide):PE X (.Name x pos) (pO i):=by
 intro pins s σ H Q I h;obtain⟨v,e,h⟩:=h;obtain⟨m,hn,hl⟩:=I.loc;obtain⟨u,r,l⟩:=hl i x v hN e hv;have fin:EP X pins σ Q u s:=⟨v,H,I,r,h⟩
 rcases l with ⟨hk,hm⟩ | ⟨hk,c,hc,hcell⟩
 ·exact wpAny_Name (wpAny_loadName_local I.ok.kind hk hn hm fin) hd
 ·rcases hk with hk | hk
  ·exact wpAny_Name (wpAny_loadName_cell I.ok.kind hk hc hcell fin) hd
  ·exact wpAny_Name (wpAny_loadName_free I.ok.kind hk hc hcell fin hcd) hd
def GH{i j pos}:PE X (.Constant (.int i) j pos) (tC (.int i)):=λ_ _ _ H _ I h=>wpAny_Constant_int ⟨.int i,H,I.tok _,⟨_,rfl⟩,h⟩
def IK{b j pos}:PE X (.Constant (.bool b) j pos) (tC (.bl b)):=λ_ _ _ H _ I h=>Constant_bool ⟨.bl b,H,I,rfl,h⟩
def GF{j pos}:PE X (.Constant .none j pos) (tC .non):=λ_ _ _ H _ I h=>Constant_none ⟨.non,H,I,rfl,h⟩
def GC{x j pos}:PE X (.Constant (.str x) j pos) (tC (.str x)):=λ_ _ _ H _ I h=>Calls.Constant_str ⟨.str x,H,I.tok _,⟨_,rfl⟩,h⟩
def Gl(X:Cx)(x:Str):Prop:=X.env.kindOf x=some .globalImplicit
def xn{E:Value->Shared->Prop}{pins:List (Addr×Obj)}{s:Shared}{σ:St}{H:Hp}{x:Str}{u:Value}{pos:Pos}{Q:Value->Shared->Prop}(I:bc X pins σ H s)(hg:Gl X x)(hm:X.mg x=some u)(h:Q u s)
  (hd:(x==("__debug__":Str))=false:=by decide):wpAny (model X.prog X.w) X.A (eval (.Name x pos) X.env) Q E s:=
 j8 I.ok.kind hg (Calls.loadGlobal_global (by rw[I.ok.glob];exact I.mod.glob.keeps I.bk) hm h) hd
def jZ{E:Value->Shared->Prop}{pins:List (Addr×Obj)}{s:Shared}{σ:St}{H:Hp}{x:Str}{u:Value}{pos:Pos}{Q:Value->Shared->Prop}(I:bc X pins σ H s)(hg:Gl X x)(hm:X.mg x=none)(hv:bootBuiltins x=some u)(h:Q u s)
  (hn:x≠"__name__":=by decide) (hd:(x==("__debug__":Str))=false:=by decide):wpAny (model X.prog X.w) X.A (eval (.Name x pos) X.env) Q E s:=by
 obtain⟨mb,h1,h2⟩:=I.mod.blt;exact j8 I.ok.kind hg (Calls.loadGlobal_builtin (by rw[I.ok.glob];exact I.mod.glob.keeps I.bk) hm (by rw[I.ok.blt];exact h1.keeps I.bk) ((h2 x hn).trans hv) h) hd
def sP {x:Str} {v:V} {u:Value} {pos:Pos} (hg:Gl X x) (hm:X.mg x=some u) (r:RelV v u) (hd:(x==("__debug__":Str))=false:=by decide):PE X (.Name x pos) (tC v):=
 λ_ _ _ H _ I h=>xn I hg hm ⟨v,H,I,r,h⟩ hd
def D7 {x:Str} {v:V} {u:Value} {pos:Pos} (hg:Gl X x) (hm:X.mg x=none) (hv:bootBuiltins x=some u) (r:RelV v u) (hn:x≠"__name__":=by decide) (hd:(x==("__debug__":Str))=false:=by decide):PE X (.Name x pos) (tC v):=
 λ_ _ _ H _ I h=>jZ I hg hm hv ⟨v,H,I,r,h⟩ hn hd
variable {a b:Expr} {ta tb:TE} {pos:Pos}
def PC(X:Cx)(op:CmpOp)(a b:Expr)(t:TE):Prop:=
 ∀(pins:List (Addr×Obj)) (s:Shared) (σ:St) (H:Hp) (Q:VK),bc X pins σ H s->t σ H Q →
  wpAny (model X.prog X.w) X.A (eval a X.env) (λv s₁=>wpAny (model X.prog X.w) X.A (eval b X.env) (λu s₂=>wpAny (model X.prog X.w) X.A (compareOp op v u) (EP X pins σ Q) X.xe s₂) X.xe s₁) X.xe s
def Bb(b:Expr){op:CmpOp}(h:op≠.In)(h2:op≠.NotIn):behindInMarks op b=false:=by
 have e1:(op==CmpOp.In)=false:=by cases op<;>first | rfl | exact absurd rfl h
 have e2:(op==CmpOp.NotIn)=false:=by cases op<;>first | rfl | exact absurd rfl h2
 cases b<;>simp[behindInMarks,e1,e2]
def tB(t:TE):TT:=λσ H Q=>t σ H λx H1=>∃c,x=.bl c/\Q c H1
def Fm{op:CmpOp}{t:TE}(h:PC X op a b t)(h1:behindInMarks op b=false:=by first | exact Bb _ (by decide) (by decide) | rfl):PT X (.Compare a [op] [b] pos) (tB t):=by
 intro pins s σ H Q I hw;refine wpAny_isTrue_Compare1 (dZ (h pins s σ H _ I hw) λv s1 h1=>dZ h1 λu s2 h2=>dZ h2 λc s3 ⟨x,H1,I1,r1,q1⟩=>?_) h1;obtain⟨d,rfl,q⟩:=q1;cases r1;exact Mm ⟨H1,I1,q⟩
def Fk{e:Expr}{t:TE}(h:PE X e t)(he:∀whole,isTrue e X.env whole=(do let v <-whole;standAt e.pos;holding [v] (truthy v)):=by intro _;rfl):PT X e (tB t):=by
 intro pins s σ H Q I hw;refine isTrue_plain (dZ (h pins s σ H _ I hw) λv s1 ⟨x,H1,I1,r1,q1⟩=>?_) (he _);obtain⟨d,rfl,q⟩:=q1;cases r1;exact Mm ⟨H1,I1,q⟩
variable {tA tB':TT} {rest:List Expr}
def F2(t u:TT):TT:=λσ H Q=>t σ H λc H1=>if c=true then u σ H1 Q else Q false H1
def JR(t u:TT):TT:=λσ H Q=>t σ H λc H1=>if c=true then Q true H1 else u σ H1 Q
def FX(t:TT):TT:=λσ H Q=>t σ H λc H1=>Q (!c) H1
def DK(ha:PT X a tA):PW X (.BoolOp .And [a] pos) tA:=by
 intro wh pins s σ H Q I h;refine isTrue_and (dZ (ha pins s σ H Q I h) λc s1 e=>?_);cases c with
 | true=>exact isTrue_and_nil e
 | false=>exact e
def Fi(ha:PT X a tA):PW X (.BoolOp .Or [a] pos) tA:=by
 intro wh pins s σ H Q I h;refine isTrue_or (dZ (ha pins s σ H Q I h) λc s1 e=>?_);cases c with
 | false=>exact isTrue_or_nil e
 | true=>exact e
def Fj(ha:PT X a tA)(hb:PW X (.BoolOp .And (b::rest) pos) tB'):PW X (.BoolOp .And (a::b::rest) pos) (F2 tA tB'):=by
 intro wh pins s σ H Q I h;refine isTrue_and (dZ (ha pins s σ H _ I h) λc s1 ⟨H1,I1,q1⟩=>?_);cases c with
 | true=>exact hb wh pins s1 σ H1 Q I1 q1
 | false=>exact⟨H1,I1,q1⟩
def ID(ha:PT X a tA)(hb:PW X (.BoolOp .Or (b::rest) pos) tB'):PW X (.BoolOp .Or (a::b::rest) pos) (JR tA tB'):=by
 intro wh pins s σ H Q I h;refine isTrue_or (dZ (ha pins s σ H _ I h) λc s1 ⟨H1,I1,q1⟩=>?_);cases c with
 | true=>exact⟨H1,I1,q1⟩
 | false=>exact hb wh pins s1 σ H1 Q I1 q1
def Fl(ha:PT X a tA):PT X (.UnaryOp .Not a pos) (FX tA):=by
 intro pins s σ H Q I h;exact isTrue_not (ha pins s σ H (λc H1=>Q (!c) H1) I h)
def A8(ta tb:TE):TE:=λσ H Q=>ta σ H λx H1=>∃c,x=.bl c/\if c=true then tb σ H1 Q else Q (.bl false) H1
def FW(ta tb:TE):TE:=λσ H Q=>ta σ H λx H1=>∃c,x=.bl c/\if c=true then Q (.bl true) H1 else tb σ H1 Q
def AZ(ta:TE):TE:=λσ H Q=>ta σ H λx H1=>∃c,x=.bl c/\Q (.bl (!c)) H1
def GD{op}{t:TE}(h:PE X a t):PE X (.BoolOp op [a] pos) t:=λpins s σ H Q I hw=>BoolOp_one (h pins s σ H Q I hw)
def GJ(ha:PE X a ta)(hb:PE X (.BoolOp .And (b::rest) pos) tb):PE X (.BoolOp .And (a::b::rest) pos) (A8 ta tb):=by
 intro pins s σ H Q I h;refine BoolOp_and (dZ (ha pins s σ H _ I h) λv s1 ⟨x,H1,I1,r1,q1⟩=>?_);obtain⟨c,rfl,q1⟩:=q1;cases r1;refine Mm ?_;cases c with
 | true=>exact hb pins s1 σ H1 Q I1 q1
 | false=>exact⟨.bl false,H1,I1,rfl,q1⟩
def IG(ha:PE X a ta)(hb:PE X (.BoolOp .Or (b::rest) pos) tb):PE X (.BoolOp .Or (a::b::rest) pos) (FW ta tb):=by
 intro pins s σ H Q I h;refine BoolOp_or (dZ (ha pins s σ H _ I h) λv s1 ⟨x,H1,I1,r1,q1⟩=>?_);obtain⟨c,rfl,q1⟩:=q1;cases r1;refine Mm ?_;cases c with
 | false=>exact hb pins s1 σ H1 Q I1 q1
 | true=>exact⟨.bl true,H1,I1,rfl,q1⟩
def GE(ha:PE X a ta):PE X (.UnaryOp .Not a pos) (AZ ta):=by
 intro pins s σ H Q I h;refine UnaryOp_ (dZ (ha pins s σ H _ I h) λv s1 ⟨x,H1,I1,r1,q1⟩=>?_);obtain⟨c,rfl,q1⟩:=q1;cases r1;exact not_of (Mm ⟨.bl (!c),H1,I1,rfl,q1⟩)
def JS(t:TT)(ta tb:TE):TE:=λσ H Q=>t σ H λc H1=>if c=true then ta σ H1 Q else tb σ H1 Q
def BL{c:Expr}(hc:PT X c tA)(ha:PE X a ta)(hb:PE X b tb):PE X (.IfExp c a b pos) (JS tA ta tb):=by
 intro pins s σ H Q I h;refine wpAny_IfExp (dZ (hc pins s σ H _ I h) λd s1 ⟨H1,I1,q1⟩=>?_);cases d with
 | true=>exact ha pins s1 σ H1 Q I1 q1
 | false=>exact hb pins s1 σ H1 Q I1 q1
end
def cF(K:NQ)(H:Hp)(a:Addr)(xs:List V):Prop:=
 Rd H a (.lst xs) ∨
  ∃(o:Obj) (its:Array Value) (n:Nat),K.lookup a=some o/\o.cls=.type "list"/\o.dict=none/\o.data=.seq its n/\its.size<=sizeLine/\cJ xs its.toList
def dm(K:NQ)(H:Hp)(a:Addr)(xs:List V):Prop:=
 Rd H a (.tup xs) ∨
  ∃(o:Obj) (its:Array Value) (n:Nat),K.lookup a=some o/\o.cls=.type "tuple"/\o.data=.seq its n/\its.size<=sizeLine/\cJ xs its.toList
def J5:Value->Option V
 | .none=>some .non
 | .bool b=>some (.bl b)
 | .int i _=>some (.int i)
 | .str x _=>some (.str x)
 | .bytes b _=>some (.byt b)
 | .float b _=>some (.flt b)
 | .ref a=>some (.ref a)
 | .type n=>some (.ty n)
 | _=>none
def RelV.abs{x:V}{u:Value}(r:RelV x u):J5 u=some x:=by
 cases x with
 | non=>cases r;rfl
 | bl _=>cases r;rfl
 | int _=>obtain⟨t,rfl⟩:=r;rfl
 | str _=>obtain⟨t,rfl⟩:=r;rfl
 | byt _=>obtain⟨t,rfl⟩:=r;rfl
 | flt _=>obtain⟨t,rfl⟩:=r;rfl
 | ref _=>cases r;rfl
 | ty _=>cases r;rfl
def RelV.inj{x y:V}{u:Value}(r:RelV x u)(q:RelV y u):x=y:=bH (r.abs.symm.trans q.abs)
def cJ.inj:∀{xs ys:List V} {us:List Value},cJ xs us->cJ ys us->xs=ys
 | _,_,_,.nil,.nil=>rfl
 | _,_,_,.cons r t,.cons r' t'=>by rw[r.inj r',cJ.inj t t']
section
variable {X:Cx} {pins:List (Addr×Obj)} {σ:St} {H:Hp} {s:Shared} {a:Addr} {xs ys:List V}
def cF.of{K:NQ}(h:H a=some (.lst xs)):cF K H a xs:=.inl (.inl h)
def dm.of{K:NQ}(h:H a=some (.tup xs)):dm K H a xs:=.inl (.inl h)
def bc.list(I:bc X pins σ H s)(h:cF X.K H a xs):∃its:List Value,cJ xs its/\PlainL s.heap a its.toArray/\xs.length<=sizeLine:=by
 rcases h with h | ⟨o,its,n,hk,hc,hd,hs,hz,r⟩
 ·obtain⟨z,its,n,r,e⟩:=h.ok I.hok;exact⟨its,r,⟨_,n,e,rfl,rfl,rfl⟩,z⟩
 ·refine⟨its.toList,r,⟨o,n,I.kIn a o hk,hc,hd,by simpa using hs⟩,?_⟩;have e:=r.length;simp only[dC] at e;lia
def bc.tuple(I:bc X pins σ H s)(h:dm X.K H a xs):∃its:List Value,cJ xs its/\IsTup s.heap a its.toArray/\xs.length<=sizeLine:=by
 rcases h with h | ⟨o,its,n,hk,hc,hs,hz,r⟩
 ·obtain⟨z,its,r,p⟩:=h.ok I.hok;exact⟨its,r,p,z⟩
 ·refine⟨its.toList,r,⟨o,I.kIn a o hk,hc,n,by simpa using hs⟩,?_⟩;have e:=r.length;simp only[dC] at e;lia
def bc.list_inj(I:bc X pins σ H s)(h:cF X.K H a xs)(h':cF X.K H a ys):xs=ys:=by
 obtain⟨its,r,⟨o,n,e,_,_,d⟩,_⟩:=I.list h;obtain⟨its',r',⟨o',n',e',_,_,d'⟩,_⟩:=I.list h';rw[e] at e';cases e';rw[d] at d';injection d' with d1 _
 have:its=its':=by simpa using congrArg Array.toList d1
 subst this;exact r.inj r'
def bc.tuple_inj(I:bc X pins σ H s)(h:dm X.K H a xs)(h':dm X.K H a ys):xs=ys:=by
 obtain⟨its,r,⟨o,e,_,n,d⟩,_⟩:=I.tuple h;obtain⟨its',r',⟨o',e',_,n',d'⟩,_⟩:=I.tuple h';rw[e] at e';cases e';rw[d] at d';injection d' with d1 _
 have:its=its':=by simpa using congrArg Array.toList d1
 subst this;exact r.inj r'
end
abbrev Cx.wish (X:Cx) (E:Value->Shared->Prop):Cx:={ X with xe:=E }
abbrev Cx.nox (X:Cx):Cx:=X.wish λ_ _=>False
def Cx.Ok.wish{X:Cx}(ok:X.Ok)(E:Value->Shared->Prop):(X.wish E).Ok:=
 ⟨ok.mod,ok.kind,ok.glob,ok.blt,ok.above,ok.inj,ok.has,ok.cab,ok.hd,ok.frames,ok.stk,ok.exf,ok.bs,ok.bsz,ok.noex,ok.exfs,ok.funs,ok.frf⟩
def Cx.Ok.unwish{X:Cx}{E:Value->Shared->Prop}(ok:(X.wish E).Ok):X.Ok:=
 ⟨ok.mod,ok.kind,ok.glob,ok.blt,ok.above,ok.inj,ok.has,ok.cab,ok.hd,ok.frames,ok.stk,ok.exf,ok.bs,ok.bsz,ok.noex,ok.exfs,ok.funs,ok.frf⟩
section
variable {X:Cx} {pins:List (Addr×Obj)} {σ:St} {H:Hp} {s:Shared} {E:Value->Shared->Prop}
def bc.wish(I:bc X pins σ H s)(E:Value->Shared->Prop):bc (X.wish E) pins σ H s:=⟨I.ok.wish E,I.os,I.bare,I.base,I.loc,I.cell,I.free,I.freeC,I.pin,I.hok,I.len⟩
def bc.unwish(I:bc (X.wish E) pins σ H s):bc X pins σ H s:=⟨I.ok.unwish,I.os,I.bare,I.base,I.loc,I.cell,I.free,I.freeC,I.pin,I.hok,I.len⟩
def SP.unwish{D:Ends}{f:Flow}{s':Shared}(h:SP (X.wish E) pins D f s'):SP X pins D f s':=by
 cases f with
 | next=>obtain⟨σ',H',I,q⟩:=h;exact⟨σ',H',I.unwish,q⟩
 | brk=>obtain⟨σ',H',I,q⟩:=h;exact⟨σ',H',I.unwish,q⟩
 | cont=>obtain⟨σ',H',I,q⟩:=h;exact⟨σ',H',I.unwish,q⟩
 | ret u=>obtain⟨v,σ',H',I,r,q⟩:=h;exact⟨v,σ',H',I.unwish,r,q⟩
def vC.nox{st:List Stmt}{t:TS}(h:vC X.nox st t):vC X st t:=λpins s σ H D I hw=>
 Ml (h pins s σ H D (I.wish _) hw) (λ_ _ q=>q.unwish) λ_ _ z=>False.elim z
end
section
variable {X:Cx} {st:Stmt} {rest:List Stmt} {t u:TS} {e:Expr} {te:TE} {pos:Pos}
def A3:TS:=λD σ H=>D.nx σ H
def FT(t u:TS):TS:=λD σ H=>t { D with nx:=u D } σ H
def DN:vC X [] A3:=λ_ _ σ H _ I h=>Mn ⟨σ,H,I,h⟩
def BD(h1:PS X st t)(h2:vC X rest u):vC X (st::rest) (FT t u):=by
 intro pins s σ H D I h;refine wpAny_execs_cons (dZ (h1 pins s σ H { D with nx:=u D } I h) λf s1 q=>?_);cases f with
 | next=>
  obtain⟨σ',H',I',q⟩:=q;exact h2 pins s1 σ' H' D I' q
 | ret v=>exact q
 | brk=>exact q
 | cont=>exact q
def DM(h1:PS X st t):vC X [st] t:=by
 intro pins s σ H D I h;refine wpAny_execs_cons (dZ (h1 pins s σ H D I h) λf s1 q=>?_);cases f with
 | next=>exact Mn q
 | ret v=>exact q
 | brk=>exact q
 | cont=>exact q
def FZ:TS:=λD σ H=>D.bk σ H
def Hj:TS:=λD σ H=>D.ct σ H
def bc.quiet{pins:List (Addr×Obj)}{σ:St}{H:Hp}{s:Shared}(I:bc X pins σ H s):interactive X.env=false:=by simp[interactive,I.ok.kind]
def A5(te:TE):TS:=λD σ H=>te σ H λ_ H1=>D.nx σ H1
def DQ(he:PE X e te)(hs:swapsWith e none pos.line X.env=pure false:=by rfl):PS X (.Expr e pos) (A5 te):=by
 intro pins s σ H D I h;exact wpAny_Expr_any (dZ (he pins s σ H _ I h) λv s1 ⟨x,H1,I1,r1,q1⟩=>⟨σ,H1,I1,q1⟩) I.quiet hs
def FV(te:TE):TS:=λD σ H=>te σ H D.rt
def Fp(he:PE X e te):PS X (.Return (some e) pos) (FV te):=by
 intro pins s σ H D I h;exact wpAny_Return_some (dZ (he pins s σ H _ I h) λv s1 ⟨x,H1,I1,r1,q1⟩=>⟨x,σ,H1,I1,r1,q1⟩)
def Hh:TS:=λD _ H=>D.rt .non H
def FY(c:TT)(t u:TS):TS:=λD σ H=>c σ H λb H1=>if b=true then t D σ H1 else u D σ H1
def IE{c:Expr}{a b:List Stmt}{tc:TT}(hc:PT X c tc)(ha:vC X a t)(hb:vC X b u):PS X (.If c a b pos) (FY tc t u):=by
 intro pins s σ H D I h;refine wpAny_If (dZ (hc pins s σ H _ I h) λd s1 ⟨H1,I1,q1⟩=>?_);cases d with
 | true=>exact ha pins s1 σ H1 D I1 q1
 | false=>exact hb pins s1 σ H1 D I1 q1
def A4:TS:=λ_ _ _=>False
def BF:PS X st A4:=λ_ _ _ _ _ _ h=>h.elim
end
abbrev TG:=V->St->Hp->(St->Hp->Prop)->Prop
abbrev ya:=List V->St->Hp->(St->Hp->Prop)->Prop
def PG(X:Cx)(target:Expr)(t:TG):Prop:=
 ∀(pins:List (Addr×Obj)) (s:Shared) (σ:St) (H:Hp) (v:V) (u:Value) (Q:St->Hp->Prop),bc X pins σ H s->RelV v u->t v σ H Q →
  wpAny (model X.prog X.w) X.A (assign target X.env u) (λ_ s'=>∃σ' H',bc X pins σ' H' s'/\Q σ' H') X.xe s
def HC(X:Cx)(ts:List Expr)(t:ya):Prop:=
 ∀(pins:List (Addr×Obj)) (s:Shared) (σ:St) (H:Hp) (vs:List V) (us:List Value) (Q:St->Hp->Prop),bc X pins σ H s->cJ vs us->t vs σ H Q →
  wpAny (model X.prog X.w) X.A (assignInOrder ((assignEach ts X.env).map (·.2)) us) (λ_ s'=>∃σ' H',bc X pins σ' H' s'/\Q σ' H') X.xe s
abbrev C2:=V->V->V->Hp->(Hp->Prop)->Prop
def Gj(X:Cx)(t:C2):Prop:=
 ∀(pins:List (Addr×Obj)) (s:Shared) (σ:St) (H:Hp) (o i v:V) (ov iv u:Value) (Q:Hp->Prop),bc X pins σ H s->RelV o ov->RelV i iv->RelV v u->t o i v H Q →
  wpAny (model X.prog X.w) X.A (setItem ov iv u) (λ_ s'=>∃H',bc X pins σ H' s'/\Q H') X.xe s
abbrev HB:=V->V->Hp->VK->Prop
def JJ(X:Cx)(op:Operator)(t:HB):Prop:=
 ∀(pins:List (Addr×Obj)) (s:Shared) (σ:St) (H:Hp) (x y:V) (v u:Value) (Q:VK),bc X pins σ H s->RelV x v->RelV y u->t x y H Q →
  wpAny (model X.prog X.w) X.A (inplaceOp op v u) (EP X pins σ Q) X.xe s
section
variable {X:Cx} {pos:Pos}
def lH(i:Nat):TG:=λv σ H Q=>Q (σ.set i (some v)) H
def DZ{i:Nat}{x:Str}(hN:X.N.Nodup)(hi:X.N[i]? = some x)(hx:Loc X.env.scope x)(hf:X.fn x=true\/X.env.scope.names.lookup x=some .local:=by first | exact .inl rfl | exact .inr rfl | assumption):PG X (.Name x pos) (lH i):=by
 intro pins s σ H v u Q I r h;exact wpAny_assign_Name (pQ I hN hi hx r (λs' I'=>⟨_,H,I',h⟩) hf)
def Gb:ya:=λvs σ H Q=>vs=[]/\Q σ H
def CF(t:TG)(u:ya):ya:=λvs σ H Q=>∃v r,vs=v::r/\t v σ H λσ' H'=>u r σ' H' Q
def DX:HC X [] Gb:=by
 intro pins s σ H vs us Q I r h;obtain⟨e,h⟩:=h;subst e;cases r;exact assignInOrder_nil ⟨σ,H,I,h⟩
def BH{e:Expr}{es:List Expr}{t:TG}{u:ya}(h1:PG X e t)(h2:HC X es u)
  (hs:(assignEach (e::es) X.env).map (·.2)=assign e X.env::(assignEach es X.env).map (·.2):=by rfl):HC X (e::es) (CF t u):=by
 intro pins s σ H vs us Q I r h;obtain⟨v,vr,e1,h⟩:=h;subst e1;cases r with
 | cons r rr=>
  rw[hs];refine assignInOrder_cons (dZ (h1 pins s σ H _ _ _ I r h) λ_ s1 ⟨σ1,H1,I1,q1⟩=>?_);exact h2 pins s1 σ1 H1 _ _ Q I1 rr q1
def CD(K:NQ)(n:Nat)(t:ya):TG:=λv σ H Q=>∃a xs,v=.ref a/\dm K H a xs/\xs.length=n/\t xs σ H Q
def BI{es:List Expr}{k:Nat}{t:ya}{n:Nat}(hc:X.calm=true)(h:HC X es t)
  (hn:(assignEach es X.env).length=n:=by rfl) (hst:(assignEach es X.env).findIdx? (·.1)=none:=by rfl):PG X (.Tuple es k pos) (CD X.K n t):=by
 intro pins s σ H v u Q I r hw;obtain⟨a,xs,e1,hq,hl,hw⟩:=hw;subst e1;cases r;obtain⟨its,rv,ht,hz⟩:=I.tuple hq;refine assign_Tuple_tuple (I.ok.hd hc) ht (by simp[hn,<-hl,rv.length]) hst λh' hx=>?_;have I1:bc X pins σ H { s with heap:=h' }:=I.kept (t':=s.toks) λb o e=>hx b o (aj (aT e)) e;exact h pins _ σ H xs _ Q I1 (by simpa using rv) hw
def Ga(to ti:TE)(t:C2):TG:=λv σ H Q=>to σ H λo H1=>ti σ H1 λi H2=>t o i v H2 λH3=>Q σ H3
def Fw{o i:Expr}{to ti:TE}{t:C2}(ho:PE X o to)(hi:PE X i ti)(hs:Gj X t)
  (ha:∀v,assign (.Subscript o i pos) X.env v=(do
   let ov <-holding [v] (eval o X.env)
   let iv <-holding [v,ov] (eval i X.env)
   standAt pos
   holding [v,ov,iv] (setItem ov iv v)
   release [v,ov,iv] []):=by intro _;rfl):PG X (.Subscript o i pos) (Ga to ti t):=by
 intro pins s σ H v u Q I r h;rw[ha];refine wpAny_bind (Mo (dZ (ho pins s σ H _ I h) λov s1 ⟨x,H1,I1,r1,q1⟩=>?_));refine wpAny_bind (Mo (dZ (hi pins s1 σ H1 _ I1 q1) λiv s2 ⟨y,H2,I2,r2,q2⟩=>?_));refine wpAny_bind (wpAny_standAt (wpAny_bind (Mo (dZ (hs pins s2 σ H2 x y v ov iv u _ I2 r1 r2 r q2) λ_ s3 ⟨H3,I3,q3⟩=>?_))));exact wpAny_release ⟨σ,H3,I3,q3⟩
def vR(te:TE)(g:TG):TS:=λD σ H=>te σ H λx H1=>g x σ H1 D.nx
def Ft{tg e:Expr}{te:TE}{g:TG}(he:PE X e te)(hg:PG X tg g)(hs:swapsWithSole [tg] e pos.line X.env=pure false:=by rfl)(hw:swappedStores [tg] e X.env=pure none:=by rfl)
  (h1:(assignEach [tg] X.env).map (·.2)=[assign tg X.env]:=by rfl):PS X (.Assign [tg] e pos) (vR te g):=by
 intro pins s σ H D I h;refine wpAny_Assign_stores (dZ (he pins s σ H _ I h) λv s1 ⟨x,H1,I1,r1,q1⟩=>?_) hs hw;rw[h1];exact dZ (hg pins s1 σ H1 x v _ I1 r1 q1) λ_ s2 q=>q
def Fo{i:Nat}{x:Str}{e:Expr}{te:TE}{pos':Pos}(hN:X.N.Nodup)(hi:X.N[i]? = some x)(hx:Loc X.env.scope x)(he:PE X e te)(hs:swapsWith e (some (.Name x pos')) pos.line X.env=pure false:=by rfl)(hf:X.fn x=true\/X.env.scope.names.lookup x=some .local:=by first | exact .inl rfl | exact .inr rfl | assumption):
  PS X (.Assign [.Name x pos'] e pos) (vR te (lH i)):=by
 intro pins s σ H D I h;refine wpAny_Assign_Name (dZ (he pins s σ H _ I h) λv s1 ⟨y,H1,I1,r1,q1⟩=>?_) hs;exact pQ I1 hN hi hx r1 (λs2 I2=>⟨_,H1,I2,q1⟩) hf
def F1(i:Nat)(te:TE)(ti:HB):TS:=λD σ H=>∃x,σ[i]? = some (some x)/\te σ H λy H1=>ti x y H1 λz H2=>D.nx (σ.set i (some z)) H2
def Fs{i:Nat}{x:Str}{e:Expr}{te:TE}{op:Operator}{ti:HB}{pos':Pos}(hN:X.N.Nodup)(hi:X.N[i]? = some x)(hx:Loc X.env.scope x)(he:PE X e te)(ho:JJ X op ti)(hf:X.fn x=true\/X.env.scope.names.lookup x=some .local:=by first | exact .inl rfl | exact .inr rfl | assumption):
  PS X (.AugAssign (.Name x pos') op e pos) (F1 i te ti):=by
 intro pins s σ H D I h;obtain⟨v,e1,h⟩:=h;obtain⟨m,hn,hl⟩:=I.loc;have vis:HA X.env.scope x:=by rcases hx with k | k;exact .inl k;exact .inr (.inl k)
 obtain⟨u,r,l⟩:=hl i x v hi e1 vis;refine wpAny_AugAssign_Name ?_;have go:wpAny (model X.prog X.w) X.A (eval e X.env) (λw s₂=>wpAny (model X.prog X.w) X.A (inplaceOp op u w) (λr s₃=>wpAny (model X.prog X.w) X.A (storeName X.env x r) (λ_=>SP X pins D .next) X.xe s₃) X.xe s₂) X.xe s:=by
  refine dZ (he pins s σ H _ I h) λw s1 ⟨y,H1,I1,r1,q1⟩=>?_;refine dZ (ho pins s1 σ H1 v y u w _ I1 r r1 q1) λz s2 ⟨zv,H2,I2,r2,q2⟩=>?_;exact pQ I2 hN hi hx r2 (λs3 I3=>⟨_,H2,I3,q2⟩) hf
 rcases l with ⟨hk,hm⟩ | ⟨hk,c,hc,hcell⟩
 ·exact wpAny_loadName_local I.ok.kind hk hn hm go
 ·rcases hk with hk | hk
  ·exact wpAny_loadName_cell I.ok.kind hk hc hcell go
  ·rcases hx with k | k
   ·have:X.env.scope.names.lookup x=some .free:=hk;rw[k] at this;cases this
   ·have:X.env.scope.names.lookup x=some .free:=hk;rw[k] at this;cases this
def J3(f:Int->Int->Int):HB:=λx y H Q=>∃i j,x=.int i/\y=.int j/\Q (.int (f i j)) H
def wA:JJ X .Add (J3 λi j=>i+j):=by
 intro pins s σ H x y v u Q I r1 r2 h;obtain⟨i,j,e1,e2,q⟩:=h;subst e1;subst e2;obtain⟨t,rfl⟩:=r1;obtain⟨t',rfl⟩:=r2;exact iadd_int ⟨.int _,H,I.tok _,⟨_,rfl⟩,q⟩
def Bu:JJ X .Sub (J3 λi j=>i-j):=by
 intro pins s σ H x y v u Q I r1 r2 h;obtain⟨i,j,e1,e2,q⟩:=h;subst e1;subst e2;obtain⟨t,rfl⟩:=r1;obtain⟨t',rfl⟩:=r2;exact isub_int ⟨.int _,H,I.tok _,⟨_,rfl⟩,q⟩
end
section
variable {X:Cx} {pos:Pos}
def AW(c:TT)(tb:TS):TS:=λD σ H=>∃W:Nat->St->Hp->Prop,(∃m,W m σ H)/\∀m σ H,W m σ H →
 c σ H λb H1=>if b=true then ∃N:St->Hp->Prop,(∀σ' H',N σ' H'->∃m',m'<m/\W m' σ' H')/\tb { D with nx:=N,ct:=N,bk:=D.nx } σ H1 else D.nx σ H1
def BE{c:Expr}{body:List Stmt}{tc:TT}{tb:TS}(hp:PassesOwn (model X.prog X.w) X.A X.env X.xe)(hc:PT X c tc)(hb:vC X body tb):PS X (.While c body [] pos) (AW tc tb):=by
 intro pins s σ H D I h;obtain⟨W,⟨m0,w0⟩,turn⟩:=h;refine wpAny_While (codeAny_whileLoop (λn s'=>∃σ' H',bc X pins σ' H' s'/\W n σ' H') ?_ m0 ⟨σ,H,I,w0⟩);rintro n s1 ⟨σ1,H1,I1,w1⟩;refine Mp hp (dZ (hc pins s1 σ1 H1 _ I1 (turn n σ1 H1 w1)) λb s2 ⟨H2,I2,q2⟩=>?_);cases b with
 | true=>
  obtain⟨N,hN,q2⟩:=q2;rw[NJ rfl];refine Mp hp (dZ (hb pins s2 σ1 H2 _ I2 q2) λf s3 q3=>?_);cases f with
  | next=>
   obtain⟨σ3,H3,I3,n3⟩:=q3;obtain⟨m',hm,w3⟩:=hN σ3 H3 n3;exact⟨m',hm,σ3,H3,I3,w3⟩
  | cont=>
   obtain⟨σ3,H3,I3,n3⟩:=q3;obtain⟨m',hm,w3⟩:=hN σ3 H3 n3;exact⟨m',hm,σ3,H3,I3,w3⟩
  | brk=>exact q3
  | ret v=>exact q3
 | false=>
  rw[NI bC];exact Mn ⟨σ1,H2,I2,q2⟩
end
structure It where
 go:Nat->Hp->Prop
 yld:Nat->Hp->V->Hp->Prop
 stop:Nat->Hp->Prop
def nJ(X:Cx)(pins:List (Addr×Obj))(H:Hp)(b:Addr):Prop:=
 H b=none/\b≠X.env.locals/\b∉X.fs/\(b∈X.ex\/X.s₀.heap.objs.size<=b)/\(∀x c,X.env.cells.lookup x=some c->c≠b)/\∀p∈X.pn++pins,p.1≠b
def bc.fpOk{X:Cx}{pins:List (Addr×Obj)}{σ:St}{H H':Hp}{s:Shared}{b:Addr}(I:bc X pins σ H s)(hb:s.heap.objs.size<=b)(hn:H' b=none):nJ X pins H' b:=by
 refine⟨hn,fi (a7 I.lt hb),I.nofs hb,.inr (bJ I.sz hb),λx c e z=>?_,λp hp z=>?_⟩
 ·obtain⟨v,q⟩:=I.cell x c e;exact absurd (a7 q.lt (by rw[z];exact hb)) (ce _)
 ·exact absurd (a7 (aT (I.pin p hp).1) (by rw[z];exact hb)) (ce _)
structure Turn (P : Program) (w : World) (K : NQ) (tg : Expr) (J : It) (fp : List Addr) (it : Addr) (tn : Nat → Heap → Prop) : Prop where
  mem : it ∈ fp
  obj : ∀ i h, tn i h → ∀ b ∈ fp, ∃ o, h.get? b = some o ∧ ∀ v, o.data ≠ .cell v
  keep : ∀ i h h', tn i h → (∀ b ∈ fp, ∀ o, h.get? b = some o → h'.get? b = some o) → tn i h'
  item : ∀ (X : Cx), X.prog = P → X.w = w → X.K = K → X.calm = true → ∀ (i : Nat) (pins : List (Addr × Obj)) (s : Shared) (σ : St) (H : Hp) (E : Value → Shared → Prop), bc X pins σ H s → (∀ b ∈ fp, nJ X pins H b) → tn i s.heap → J.go i H →
    wpAny (model P w) X.A (pyNext (.ref it)) (fun r s1 => ∃ u, r = some u ∧
      wpAny (model P w) X.A (letOwnedTupleGo tg (.ref it) u) (fun _ s2 => ∃ x H', bc X pins σ H' s2 ∧ RelV x u ∧ J.yld i H x H' ∧ tn (i + 1) s2.heap ∧ ∀ b ∈ fp, H' b = none) E s1) E s
  done : ∀ (X : Cx), X.prog = P → X.w = w → X.K = K → X.calm = true → ∀ (i : Nat) (pins : List (Addr × Obj)) (s : Shared) (σ : St) (H : Hp) (E : Value → Shared → Prop), bc X pins σ H s → (∀ b ∈ fp, nJ X pins H b) → tn i s.heap → J.stop i H →
    wpAny (model P w) X.A (pyNext (.ref it)) (fun r s1 => r = none ∧ bc X pins σ H s1) E s
  self : ∀ (A : Around) (i : Nat) (s : Shared) (Q : Value → Shared → Prop) (E : Value → Shared → Prop), tn i s.heap → Q (.ref it) s → wpAny (model P w) A (pyIter (.ref it)) Q E s
abbrev TI:=St->Hp->(It->Hp->Prop)->Prop
def J7(X:Cx)(pins:List (Addr×Obj))(σ:St)(tg:Expr)(R:It->Hp->Prop)(itv:Value)(s2:Shared):Prop:=
 ∃(it:Addr) (fp:List Addr) (tn:Nat->Heap->Prop) (J:It) (H':Hp),itv=.ref it/\bc X pins σ H' s2/\Turn X.prog X.w X.K tg J fp it tn/\tn 0 s2.heap/\(∀b∈fp,nJ X pins H' b)/\R J H'
def PI(X:Cx)(tg iter:Expr)(wi:TI):Prop:=
 ∀(pins:List (Addr×Obj)) (s:Shared) (σ:St) (H:Hp) (R:It->Hp->Prop),bc X pins σ H s->wi σ H R →
  wpAny (model X.prog X.w) X.A (eval iter X.env) (λv s1=>wpAny (model X.prog X.w) X.A (pyIter v) (J7 X pins σ tg R) X.xe s1) X.xe s
def uk {M : Model} {A : Around} {E : Value → Shared → Prop} {s : Shared} {tg : Expr} {it : Addr} {u : Value} {o : Obj} {n : String} {vs : Array Value} {Q : Unit → Shared → Prop} (ho : s.heap.get? it = some o) (hc : o.cls = .type n) (hd : o.data = .fields vs)
    (hn : ["enumerate", "zip", "dict_itemiterator", "dict_reverseitemiterator", "odict_iterator", "itertools.zip_longest", "itertools.pairwise"].contains n = false) (hQ : Q () s) : wpAny M A (letOwnedTupleGo tg (.ref it) u) Q E s := by
  unfold letOwnedTupleGo
  cases tg <;> first
    | exact Mq hQ
    | (cases u <;> first
        | exact Mq hQ
        | (refine wpAny_bind (wpAny_load ho ?_)
           rw [hc, hd]
           show wpAny M A (if (["enumerate", "zip", "dict_itemiterator", "dict_reverseitemiterator", "odict_iterator", "itertools.zip_longest", "itertools.pairwise"].contains n && vs[0]? == some (rawInt _)) = true then _ else _) Q E s
           rw [NI (by intro h; rw [hn, Bool.false_and] at h; cases h)]
           exact Mq hQ))
def C9(K:NQ)(a:Addr):It:=
 ⟨λi H=>∃xs x,cF K H a xs/\xs[i]? = some x,λi H x H'=>H'=H/\∀xs,cF K H a xs->xs[i]? = some x,λi H=>∃xs,cF K H a xs/\xs.length<=i⟩
def Im(K:NQ)(a:Addr):It:=
 ⟨λi H=>∃xs x,dm K H a xs/\xs[i]? = some x,λi H x H'=>H'=H/\∀xs,dm K H a xs->xs[i]? = some x,λi H=>∃xs,dm K H a xs/\xs.length<=i⟩
def zj(lo:Int)(n:Nat):It:=⟨λi _=>i<n,λi H x H'=>H'=H/\x=.int (lo+i),λi _=>n<=i⟩
def yg {P : Program} {w : World} {K : NQ} {tg : Expr} (a it : Addr) : Turn P w K tg (C9 K a) [it] it (fun i h => h.IsListIter it a i) where
  mem := by simp
  obj := fun i h st b hb => by
    have e : b = it := by simpa using hb
    subst e
    obtain ⟨o, e, c, d⟩ := st
    exact ⟨o, e, fun v z => by rw [d] at z; cases z⟩
  keep := fun i h h' st k => st.at fun o e => k it (by simp) o e
  item := by
    intro X hP hw hK hc i pins s σ H E I hf st hg
    subst hP hw hK
    obtain ⟨xs, x, hq, hx⟩ := hg
    obtain ⟨its, rv, p, hz⟩ := I.list hq
    obtain ⟨u, hu, ru⟩ := rv.get hx
    obtain ⟨f0, f1, f2, f3, f4, f5⟩ := hf it (by simp)
    refine wpAny_pyNext_list_item st p.isList (x := u) (by simpa using hu) fun h' st' sb => ?_
    have I1 : bc X pins σ H { s with heap := h' } := I.turned (t' := s.toks) (fun b o hb e => (sb.2 b hb).trans e) f0 f1 f3 f4 f5
    obtain ⟨o, e, c, d⟩ := id st'
    exact ⟨u, rfl, uk (s := { s with heap := h' }) e c d (by decide) ⟨x, H, I1, ru, ⟨rfl, fun ys hy => by rw [I.list_inj hy hq]; exact hx⟩, st', fun b hb => (hf b hb).1⟩⟩
  done := by
    intro X hP hw hK hc i pins s σ H E I hf st hg
    subst hP hw hK
    obtain ⟨xs, hq, hx⟩ := hg
    obtain ⟨its, rv, p, hz⟩ := I.list hq
    obtain ⟨f0, f1, f2, f3, f4, f5⟩ := hf it (by simp)
    have hl := rv.length
    exact wpAny_pyNext_list_end (I.ok.hd hc) st p.isList (by simp; lia) fun h' eb => ⟨rfl, I.turned (t' := s.toks) (fun b o hb e => eb b o hb e) f0 f1 f3 f4 f5⟩
  self := fun _ _ _ _ _ st h => wpAny_pyIter_listiter st h
def vL {P : Program} {w : World} {K : NQ} {tg : Expr} (a it : Addr) : Turn P w K tg (Im K a) [it] it (fun i h => h.IsTupleIter it a i) where
  mem := by simp
  obj := fun i h st b hb => by
    have e : b = it := by simpa using hb
    subst e
    obtain ⟨o, e, c, d⟩ := st
    exact ⟨o, e, fun v z => by rw [d] at z; cases z⟩
  keep := fun i h h' st k => st.at fun o e => k it (by simp) o e
  item := by
    intro X hP hw hK hc i pins s σ H E I hf st hg
    subst hP hw hK
    obtain ⟨xs, x, hq, hx⟩ := hg
    obtain ⟨its, rv, p, hz⟩ := I.tuple hq
    obtain ⟨u, hu, ru⟩ := rv.get hx
    obtain ⟨f0, f1, f2, f3, f4, f5⟩ := hf it (by simp)
    refine wpAny_pyNext_tuple_item st (show s.heap.IsTuple a its.toArray from p) (x := u) (by simpa using hu) fun h' st' sb => ?_
    have I1 : bc X pins σ H { s with heap := h' } := I.turned (t' := s.toks) (fun b o hb e => (sb.2 b hb).trans e) f0 f1 f3 f4 f5
    obtain ⟨o, e, c, d⟩ := id st'
    exact ⟨u, rfl, uk (s := { s with heap := h' }) e c d (by decide) ⟨x, H, I1, ru, ⟨rfl, fun ys hy => by rw [I.tuple_inj hy hq]; exact hx⟩, st', fun b hb => (hf b hb).1⟩⟩
  done := by
    intro X hP hw hK hc i pins s σ H E I hf st hg
    subst hP hw hK
    obtain ⟨xs, hq, hx⟩ := hg
    obtain ⟨its, rv, p, hz⟩ := I.tuple hq
    obtain ⟨f0, f1, f2, f3, f4, f5⟩ := hf it (by simp)
    have hl := rv.length
    exact wpAny_pyNext_tuple_end (I.ok.hd hc) st (show s.heap.IsTuple a its.toArray from p) (by simp; lia) fun h' eb => ⟨rfl, I.turned (t' := s.toks) (fun b o hb e => eb b o hb e) f0 f1 f3 f4 f5⟩
  self := fun _ _ _ _ _ st h => wpAny_pyIter_tupleiter st h
def vM {P : Program} {w : World} {K : NQ} {tg : Expr} (it : Addr) (lo : Int) (n : Nat) : Turn P w K tg (zj lo n) [it] it (fun i h => IsRangeIter h it (lo + (i : Nat) * 1) ((n : Int) - (i : Nat)) 1) where
  mem := by simp
  obj := fun i h st b hb => by
    have e : b = it := by simpa using hb
    subst e
    exact ⟨_, st, fun v z => by
      have z' : Data.fields _ = Data.cell v := z
      cases z'⟩
  keep := fun i h h' st k => k it (by simp) _ st
  item := by
    intro X hP hw hK hc i pins s σ H E I hf st hg
    subst hP hw hK
    obtain ⟨f0, f1, f2, f3, f4, f5⟩ := hf it (by simp)
    have W := Walks.range (prog := X.prog) (w := X.w) (I.ok.hd hc) it lo 1 n
    refine W.item i s _ _ hg st fun v h' tk hv st' kk => ?_
    obtain ⟨t, rfl⟩ := hv
    have I1 : bc X pins σ H { s with heap := h', toks := tk } := I.turned (fun b o hb e => kk b o (by simpa using hb) e) f0 f1 f3 f4 f5
    refine ⟨_, rfl, uk (s := { s with heap := h', toks := tk }) (n := "range_iterator") st' rfl rfl (by decide) ⟨.int (lo + i), H, I1, ⟨t, ?_⟩, ⟨rfl, rfl⟩, st', fun b hb => (hf b hb).1⟩⟩
    rw [Int.mul_one]
  done := by
    intro X hP hw hK hc i pins s σ H E I hf st hg
    subst hP hw hK
    obtain ⟨f0, f1, f2, f3, f4, f5⟩ := hf it (by simp)
    exact wpAny_pyNext_range_end (I.ok.hd hc) st (by have : n ≤ i := hg; lia) fun h' eb => ⟨rfl, I.turned (t' := s.toks) (fun b o hb e => eb b o hb e) f0 f1 f3 f4 f5⟩
  self := fun _ _ _ _ _ st h => wpAny_pyIter_rangeiter st h
section
variable {X:Cx} {tg:Expr}
def xu(K:NQ)(tl:TE):TI:=λσ H R=>tl σ H λx H1=>∃a,x=.ref a/\(∃xs,cF K H1 a xs)/\R (C9 K a) H1
def Dy(K:NQ)(tl:TE):TI:=λσ H R=>tl σ H λx H1=>∃a,x=.ref a/\(∃xs,dm K H1 a xs)/\R (Im K a) H1
def DV{l:Expr}{tl:TE}(hl:PE X l tl):PI X tg l (xu X.K tl):=by
 intro pins s σ H R I h;refine dZ (hl pins s σ H _ I h) λv s1 ⟨x,H1,I1,r1,q1⟩=>?_;obtain⟨a,e,⟨xs,hq⟩,q⟩:=q1;subst e;cases r1;obtain⟨its,rv,p,hz⟩:=I1.list hq;refine wpAny_pyIter_list p.isList ?_;refine⟨s1.heap.objs.size,[s1.heap.objs.size],_,_,H1,rfl,I1.kept (t':=s1.toks) λb o e=>aB _ e,yg a _,⟨_,aP _ rfl,rfl,rfl⟩,λb hb=>?_,q⟩;have e:b=s1.heap.objs.size:=by simpa using hb
 subst e;exact I1.fpOk (aH _) (I1.hok.fresh (aH _))
def Fu{l:Expr}{tl:TE}(hl:PE X l tl):PI X tg l (Dy X.K tl):=by
 intro pins s σ H R I h;refine dZ (hl pins s σ H _ I h) λv s1 ⟨x,H1,I1,r1,q1⟩=>?_;obtain⟨a,e,⟨xs,hq⟩,q⟩:=q1;subst e;cases r1;obtain⟨its,rv,p,hz⟩:=I1.tuple hq;refine Mr (show s1.heap.IsTuple a its.toArray from p) ?_;refine⟨s1.heap.objs.size,[s1.heap.objs.size],_,_,H1,rfl,I1.kept (t':=s1.toks) λb o e=>aB _ e,vL a _,⟨_,aP _ rfl,rfl,rfl⟩,λb hb=>?_,q⟩;have e:b=s1.heap.objs.size:=by simpa using hb
 subst e;exact I1.fpOk (aH _) (I1.hok.fresh (aH _))
def uG{pins:List (Addr×Obj)}{σ:St}{H:Hp}{s:Shared}{R:It->Hp->Prop}{E:Value->Shared->Prop}{lo hi:Int}{t u v:Tok}{tk:Nat}(I:bc X pins σ H s)(h1:-(2 ^ 62)<=lo)(h2:lo<2 ^ 62)(h3:-(2 ^ 62)<=hi)(h4:hi<2 ^ 62)
  (q:R (zj lo (hi-lo).toNat) H):wpAny (model X.prog X.w) X.A (pyIter (.ref s.heap.objs.size)) (J7 X pins σ tg R) E { s with heap:=s.heap.push { cls:=.type "range",data:=.fields #[.int lo t,.int hi u,.int 1 v] },toks:=tk }:=by
 refine wpAny_pyIter_range (IsRange.new ..) (small_one h1 h2 h3 h4) ?_;have I1:bc X pins σ H { s with heap:=s.heap.push { cls:=.type "range",data:=.fields #[.int lo t,.int hi u,.int 1 v] },toks:=tk }:=I.kept λb o e=>aB _ e;refine⟨(s.heap.push { cls:=.type "range",data:=.fields #[.int lo t,.int hi u,.int 1 v] }).objs.size,[(s.heap.push { cls:=.type "range",data:=.fields #[.int lo t,.int hi u,.int 1 v] }).objs.size],_,_,H,rfl,
  I1.kept (t':=tk) λb o e=>aB _ e,vM _ lo (hi-lo).toNat,?_,λb hb=>?_,q⟩
 ·have e1:lo+((0:Nat):Int)*1=lo:=by simp
  have e2:(((hi-lo).toNat:Nat):Int)-((0:Nat):Int)=Builtin.Range.rangeSize lo hi 1:=by rw[rangeSize_one];split<;>lia
  show IsRangeIter _ _ (lo+((0:Nat):Int)*1) ((((hi-lo).toNat:Nat):Int)-((0:Nat):Int)) 1;rw[e1,e2];exact aP _ rfl
 ·have e:b=(s.heap.push { cls:=.type "range",data:=.fields #[.int lo t,.int hi u,.int 1 v] }).objs.size:=by simpa using hb
  subst e;exact I1.fpOk (aH _) (I1.hok.fresh (aH _))
def xt(ta:TA):TI:=λσ H R=>ta σ H λvs H1=>∃j:Int,vs=[.int j]/\-(2 ^ 62)<=j/\j<2 ^ 62/\R (zj 0 j.toNat) H1
def xr(ta:TA):TI:=λσ H R=>ta σ H λvs H1=>∃i j:Int,vs=[.int i,.int j]/\(-(2 ^ 62)<=i/\i<2 ^ 62/\-(2 ^ 62)<=j/\j<2 ^ 62)/\R (zj i (j-i).toNat) H1
def zC {a:Expr} {ta:TA} {p pos:Pos} (hg:Gl X "range") (hm:X.mg "range"=none) (ha:PA X [a] ta) (hs:starEach [a] X.env=[(false,eval a X.env)]:=by rfl):PI X tg (.Call (.Name "range" p) [a] [] pos) (xt ta):=by
 intro pins s σ H R I h;refine Call_ (jZ I hg hm boot_range (bV (dZ (ha pos pins s σ H _ I h) λus s1 ⟨vs,H1,I1,r1,q1⟩=>?_) hs rfl));obtain⟨j,e,q1,q2,q⟩:=q1;subst e;cases r1 with
 | cons r rr=>
  cases rr;obtain⟨t,rfl⟩:=r;exact call_range_1 (uG I1 (by lia) (by lia) q1 q2 (by simpa using q))
def zB {a b:Expr} {ta:TA} {p pos:Pos} (hg:Gl X "range") (hm:X.mg "range"=none) (ha:PA X [a,b] ta) (hs:starEach [a,b] X.env=[(false,eval a X.env),(false,eval b X.env)]:=by rfl) (hs2:starEach [b] X.env=[(false,eval b X.env)]:=by rfl) :
  PI X tg (.Call (.Name "range" p) [a,b] [] pos) (xr ta):=by
 intro pins s σ H R I h;refine Call_ (jZ I hg hm boot_range (bV (dZ (ha pos pins s σ H _ I h) λus s1 ⟨vs,H1,I1,r1,q1⟩=>?_) (by rw[hs,hs2]) (by rw[hs2];rfl)));obtain⟨i,j,e,⟨q1,q2,q3,q4⟩,q⟩:=q1;subst e;cases r1 with
 | cons r rr=>
  cases rr with
  | cons r' rr=>
   cases rr;obtain⟨t,rfl⟩:=r;obtain⟨t',rfl⟩:=r';exact call_range_2 (uG I1 q1 q2 q3 q4 q)
def oF(wi:TI)(g:TG)(tb:TS):TS:=λD σ H=>wi σ H λJ H1=>∃W:Nat->Nat->St->Hp->Prop,(∃m,W 0 m σ H1)/\∀i m σ H,W i m σ H →
 (J.stop i H/\D.nx σ H)\/(J.go i H/\∃N:St->Hp->Prop,(∀σ' H',N σ' H'->∃m',m'<m/\W (i+1) m' σ' H')/\∀x H',J.yld i H x H'->g x σ H' λσ2 H2=>tb { D with nx:=N,ct:=N,bk:=D.nx } σ2 H2)
def kg(fp:List Addr)(h:Heap):List (Addr×Obj):=fp.filterMap λb=>(h.get? b).map λo=>(b,o)
def jY{fp:List Addr}{h:Heap}{b:Addr}{o:Obj}(hb:b∈fp)(e:h.get? b=some o):(b,o)∈kg fp h:=j0.mpr ⟨b,hb,by rw[e];rfl⟩
def rG{fp:List Addr}{h:Heap}{p:Addr×Obj}(hp:p∈kg fp h):p.1∈fp/\h.get? p.1=some p.2:=by
 obtain⟨b,hb,e⟩:=j0.mp hp;cases q:h.get? b with
 | none=>rw[q] at e;cases e
 | some o=>
  rw[q] at e;have e':(b,o)=p:=bH e;subst e';exact⟨hb,q⟩
def bc.pinned{pins:List (Addr×Obj)}{σ:St}{H:Hp}{s:Shared}{fp:List Addr}(I:bc X pins σ H s)(hf:∀b∈fp,nJ X pins H b)(ho:∀b∈fp,∃o,s.heap.get? b=some o/\∀v,o.data≠.cell v):bc X (pins++kg fp s.heap) σ H s:=
 I.pins_of λp hp=>(aQ.mp hp).elim (λz=>I.pin p (au _ z)) λz=>by
  obtain⟨hb,e⟩:=rG z;obtain⟨f0,f1,f2,_⟩:=hf p.1 hb;obtain⟨o,e',d⟩:=ho p.1 hb;rw[e] at e';cases e';exact⟨e,f0,f1,f2,d⟩
def bc.unpinned{pins pl:List (Addr×Obj)}{σ:St}{H:Hp}{s:Shared}(I:bc X (pins++pl) σ H s):bc X pins σ H s:=I.pins_of λp hp=>I.pin p (au _ (bG _ hp))
def Fq{iter:Expr}{body:List Stmt}{wi:TI}{g:TG}{tb:TS}{pos:Pos}(hp:PassesOwn (model X.prog X.w) X.A X.env X.xe)(hc:X.calm=true)(hi:PI X tg iter wi)(hg:PG X tg g)(hb:vC X body tb)
  (hs:∀x,foldedSetIterable iter X.env x=pure x:=by intro _;rfl):PS X (.For tg iter body [] pos) (oF wi g tb):=by
 intro pins s σ H D I h;refine wpAny_For (dZ (hi pins s σ H _ I h) λv s1 h1=>dZ h1 λitv s2 h2=>?_) hs;obtain⟨it,fp,tn,J,H2,e,I2,T,st2,f2,W,⟨m0,w0⟩,turn⟩:=h2;subst e;have stat:∀{H':Hp},(∀b∈fp,H' b=none)->∀b∈fp,nJ X pins H' b:=λhn b hb=>⟨hn b hb,(f2 b hb).2⟩
 refine codeAny_forLoop_any (λn s'=>∃i σ' H',bc X pins σ' H' s'/\tn i s'.heap/\(∀b∈fp,H' b=none)/\W i n σ' H') ?_ m0 ⟨0,σ,H2,I2,st2,λb hb=>(f2 b hb).1,w0⟩;rintro n s3 ⟨i,σ3,H3,I3,st3,fr3,w3⟩;rcases turn i n σ3 H3 w3 with ⟨stop,qn⟩ | ⟨go,N,hN,step⟩
 ·refine Mp hp (dZ (T.done X rfl rfl rfl hc i pins s3 σ3 H3 X.xe I3 (stat fr3) st3 stop) λr s4 ⟨hr,I4⟩=>?_);subst hr;exact Mn ⟨σ3,H3,I4,qn⟩
 ·refine Mp hp (dZ (T.item X rfl rfl rfl hc i pins s3 σ3 H3 X.xe I3 (stat fr3) st3 go) λr s4 ⟨u,hr,h4⟩=>?_);subst hr;refine Mp hp (dZ h4 λ_ s5 ⟨x,H5,I5,r5,y5,st5,fr5⟩=>?_);have I5':=I5.pinned (stat fr5) (T.obj _ _ st5);refine Mp hp (dZ (hg _ s5 σ3 H5 x u _ I5' r5 (step x H5 y5)) λ_ s6 ⟨σ6,H6,I6,q6⟩=>?_);refine Mp hp (dZ (hb _ s6 σ6 H6 _ I6 q6) λf s7 q7=>?_);have again:∀{σ7:St} {H7:Hp},bc X (pins++kg fp s5.heap) σ7 H7 s7->N σ7 H7->∃m,m<n/\∃i σ' H',bc X pins σ' H' s7/\tn i s7.heap/\(∀b∈fp,H' b=none)/\W i m σ' H':=fun {σ7 H7} I7 n7=>by
   obtain⟨m',hm,w7⟩:=hN σ7 H7 n7;refine⟨m',hm,i+1,σ7,H7,I7.unpinned,T.keep _ _ _ st5 λb hb o e=>(I7.pin (b,o) (au _ (au _ (jY hb e)))).1,λb hb=>?_,w7⟩;obtain⟨o,e,d⟩:=T.obj _ _ st5 b hb;exact(I7.pin (b,o) (au _ (au _ (jY hb e)))).2.1
  cases f with
  | next=>obtain⟨σ7,H7,I7,n7⟩:=q7;exact again I7 n7
  | cont=>obtain⟨σ7,H7,I7,n7⟩:=q7;exact again I7 n7
  | brk=>obtain⟨σ7,H7,I7,q7⟩:=q7;exact⟨σ7,H7,I7.unpinned,q7⟩
  | ret v=>obtain⟨x7,σ7,H7,I7,r7,q7⟩:=q7;exact⟨x7,σ7,H7,I7.unpinned,r7,q7⟩
end
def lx{K:NQ}{a:Addr}{xs:List V}{g:TG}{tb:TS}{D:Ends}{σ:St}{H:Hp}(Pv:Nat->St->Hp->Prop)(h0:Pv 0 σ H)(hl:∀i σ H,i<=xs.length->Pv i σ H->cF K H a xs)
  (hs:∀i x σ H,xs[i]? = some x->Pv i σ H->g x σ H λσ2 H2=>tb { D with nx:=Pv (i+1),ct:=Pv (i+1),bk:=D.nx } σ2 H2) (hd:∀σ H,Pv xs.length σ H->D.nx σ H) :
  ∃W:Nat->Nat->St->Hp->Prop,(∃m,W 0 m σ H)/\∀i m σ H,W i m σ H →
   ((C9 K a).stop i H/\D.nx σ H)\/((C9 K a).go i H/\∃N:St->Hp->Prop,(∀σ' H',N σ' H'->∃m',m'<m/\W (i+1) m' σ' H')/\∀x H',(C9 K a).yld i H x H'->g x σ H' λσ2 H2=>tb { D with nx:=N,ct:=N,bk:=D.nx } σ2 H2):=by
 refine⟨λi m σ H=>m=xs.length-i/\i<=xs.length/\Pv i σ H,⟨xs.length,by simp,bF _,h0⟩,?_⟩;rintro i m σ H ⟨rfl,hi,p⟩;have q:=hl i σ H hi p;by_cases hlt:i<xs.length
 ·refine .inr ⟨⟨xs,xs[i],q,by simp[hlt]⟩,Pv (i+1),λσ' H' p'=>⟨xs.length-(i+1),by lia,rfl,hlt,p'⟩,λx H' y=>?_⟩;obtain⟨e,y⟩:=y;subst e;exact hs i x σ _ (y xs q) p
 ·have e:i=xs.length:=by lia
  subst e;exact .inl ⟨⟨xs,q,aH _⟩,hd σ H p⟩
def mS{lo:Int}{n:Nat}{g:TG}{tb:TS}{D:Ends}{σ:St}{H:Hp}(Pv:Nat->St->Hp->Prop)(h0:Pv 0 σ H)
  (hs:∀i σ H,i<n->Pv i σ H->g (.int (lo+i)) σ H λσ2 H2=>tb { D with nx:=Pv (i+1),ct:=Pv (i+1),bk:=D.nx } σ2 H2) (hd:∀σ H,Pv n σ H->D.nx σ H) :
  ∃W:Nat->Nat->St->Hp->Prop,(∃m,W 0 m σ H)/\∀i m σ H,W i m σ H →
   ((zj lo n).stop i H/\D.nx σ H)\/((zj lo n).go i H/\∃N:St->Hp->Prop,(∀σ' H',N σ' H'->∃m',m'<m/\W (i+1) m' σ' H')/\∀x H',(zj lo n).yld i H x H'->g x σ H' λσ2 H2=>tb { D with nx:=N,ct:=N,bk:=D.nx } σ2 H2):=by
 refine⟨λi m σ H=>m=n-i/\i<=n/\Pv i σ H,⟨n,by simp,bF _,h0⟩,?_⟩;rintro i m σ H ⟨rfl,hi,p⟩;by_cases hlt:i<n
 ·refine .inr ⟨hlt,Pv (i+1),λσ' H' p'=>⟨n-(i+1),by lia,rfl,hlt,p'⟩,λx H' y=>?_⟩;obtain⟨e,y⟩:=y;subst e y;exact hs i σ _ hlt p
 ·have e:i=n:=by lia
  subst e;exact .inl ⟨aH _,hd σ H p⟩
abbrev R2:=V->V->Hp->VK->Prop
def kR(X:Cx)(f:Value->Value->Sem Value)(r:R2):Prop:=
 ∀(pins:List (Addr×Obj)) (s:Shared) (σ:St) (H:Hp) (x y:V) (v u:Value) (Q:VK),bc X pins σ H s->RelV x v->RelV y u->r x y H Q →
  wpAny (model X.prog X.w) X.A (f v u) (EP X pins σ Q) X.xe s
def JH(X:Cx)(f:Value->Sem Value)(r:V->Hp->VK->Prop):Prop:=
 ∀(pins:List (Addr×Obj)) (s:Shared) (σ:St) (H:Hp) (x:V) (v:Value) (Q:VK),bc X pins σ H s->RelV x v->r x H Q →
  wpAny (model X.prog X.w) X.A (f v) (EP X pins σ Q) X.xe s
def fq(X:Cx)(f:Value)(r:List V->Hp->VK->Prop):Prop:=
 ∀(pins:List (Addr×Obj)) (s:Shared) (σ:St) (H:Hp) (xs:List V) (us:List Value) (Q:VK),bc X pins σ H s->cJ xs us->r xs H Q →
  wpAny (model X.prog X.w) X.A (call f us) (EP X pins σ Q) X.xe s
def J6(X:Cx)(r:V->Hp->(Bool->Hp->Prop)->Prop):Prop:=
 ∀(pins:List (Addr×Obj)) (s:Shared) (σ:St) (H:Hp) (x:V) (v:Value) (Q:Bool->Hp->Prop),bc X pins σ H s->RelV x v->r x H Q →
  wpAny (model X.prog X.w) X.A (truthy v) (TP X pins σ Q) X.xe s
def AY(r:R2)(ta tb:TE):TE:=λσ H Q=>ta σ H λx H1=>tb σ H1 λy H2=>r x y H2 Q
def JP(r:V->Hp->VK->Prop)(ta:TE):TE:=λσ H Q=>ta σ H λx H1=>r x H1 Q
def rI(C:Int->Int->Prop)(g:Int->Int->V):R2:=λx y H Q=>∃i j,x=.int i/\y=.int j/\C i j/\Q (g i j) H
def DF(g:Int->Int->V):R2:=λx y H Q=>∃i j,x=.int i/\y=.int j/\Q (g i j) H
def rU(g:Int->V):V->Hp->VK->Prop:=λx H Q=>∃i,x=.int i/\Q (g i) H
section
variable {X:Cx} {a b:Expr} {ta tb:TE} {pos:Pos}
def Gg(ha:PE X a ta)(hb:PE X b tb){pins:List (Addr×Obj)}{s:Shared}{σ:St}{H:Hp}{R:V->V->Hp->Prop}(I:bc X pins σ H s)
  (h:ta σ H λx H1=>tb σ H1 λy H2=>R x y H2) {Q:Value->Shared->Prop} {f:Value->Value->Sem Value}
  (hf:∀v u s2 x y H2,bc X pins σ H2 s2->RelV x v->RelV y u->R x y H2->wpAny (model X.prog X.w) X.A (f v u) Q X.xe s2) :
  wpAny (model X.prog X.w) X.A (eval a X.env) (λv s₁=>wpAny (model X.prog X.w) X.A (eval b X.env) (λu s₂=>wpAny (model X.prog X.w) X.A (f v u) Q X.xe s₂) X.xe s₁) X.xe s:=by
 refine dZ (ha pins s σ H _ I h) λv s1 ⟨x,H1,I1,r1,q1⟩=>?_;refine dZ (hb pins s1 σ H1 _ I1 q1) λu s2 ⟨y,H2,I2,r2,q2⟩=>?_;exact hf v u s2 x y H2 I2 r1 r2 q2
def IH{op:Operator}{r:R2}(ho:kR X (binaryOp op) r)(ha:PE X a ta)(hb:PE X b tb):PE X (.BinOp a op b pos) (AY r ta tb):=by
 intro pins s σ H Q I h;exact wpAny_BinOp (Gg ha hb I h λv u s2 x y H2 I2 rx ry q=>ho pins s2 σ H2 x y v u Q I2 rx ry q)
def IF{op:UnaryOp}{r:V->Hp->VK->Prop}(ho:JH X (unaryOp op) r)(ha:PE X a ta):PE X (.UnaryOp op a pos) (JP r ta):=by
 intro pins s σ H Q I h;exact UnaryOp_ (dZ (ha pins s σ H _ I h) λv s1 ⟨x,H1,I1,r1,q1⟩=>ho pins s1 σ H1 x v Q I1 r1 q1)
def JF{f:Value->Value->Sem Value}{C:Int->Int->Prop}{g:Int->Int->Int}
  (rule:∀(i j:Int) (t u:Tok) (s:Shared) (Q:Value->Shared->Prop) (E:Value->Shared->Prop),C i j->Q (.int (g i j) s.toks) { s with toks:=s.toks+1 }->wpAny (model X.prog X.w) X.A (f (.int i t) (.int j u)) Q E s) :
  kR X f (rI C λi j=>.int (g i j)):=by
 intro pins s σ H x y v u Q I rx ry h;obtain⟨i,j,rfl,rfl,hc,q⟩:=h;obtain⟨t,rfl⟩:=rx;obtain⟨t',rfl⟩:=ry;exact rule i j t t' s _ _ hc ⟨.int (g i j),H,I.tok _,⟨_,rfl⟩,q⟩
def IP{f:Value->Value->Sem Value}{g:Int->Int->Int}
  (rule:∀(i j:Int) (t u:Tok) (s:Shared) (Q:Value->Shared->Prop) (E:Value->Shared->Prop),Q (.int (g i j) s.toks) { s with toks:=s.toks+1 }->wpAny (model X.prog X.w) X.A (f (.int i t) (.int j u)) Q E s) :
  kR X f (DF λi j=>.int (g i j)):=by
 intro pins s σ H x y v u Q I rx ry h;obtain⟨i,j,rfl,rfl,q⟩:=h;obtain⟨t,rfl⟩:=rx;obtain⟨t',rfl⟩:=ry;exact rule i j t t' s _ _ ⟨.int (g i j),H,I.tok _,⟨_,rfl⟩,q⟩
def Dd{f:Value->Value->Sem Value}{g:Int->Int->Bool}
  (rule:∀(i j:Int) (t u:Tok) (s:Shared) (Q:Value->Shared->Prop) (E:Value->Shared->Prop),Q (.bool (g i j)) s->wpAny (model X.prog X.w) X.A (f (.int i t) (.int j u)) Q E s) :
  kR X f (DF λi j=>.bl (g i j)):=by
 intro pins s σ H x y v u Q I rx ry h;obtain⟨i,j,rfl,rfl,q⟩:=h;obtain⟨t,rfl⟩:=rx;obtain⟨t',rfl⟩:=ry;exact rule i j t t' s _ _ ⟨.bl (g i j),H,I,rfl,q⟩
def Iq(i j:Int):Prop:=0<j/\j<1073741824
def Ja(i j:Int):Prop:=0<=j/\j<=1000000/\i.natAbs<2 ^ 64
def Gs(i j:Int):Prop:=(-(2 ^ 64)<i/\i<2 ^ 64)\/(-(2 ^ 64)<j/\j<2 ^ 64)
def Gs.ok{i j:Int}(h:Gs i j):IntMulOk i j:=by
 rcases h with ⟨h1,h2⟩ | ⟨h1,h2⟩
 ·exact .of_left (intBits_le_64 h1 h2)
 ·exact .of_right (intBits_le_64 h1 h2)
def f9:kR X (binaryOp .Add) (DF λi j=>.int (i+j)):=IP λ_ _ _ _ _ _ _ q=>add_int q
def g6:kR X (binaryOp .Sub) (DF λi j=>.int (i-j)):=IP λ_ _ _ _ _ _ _ q=>sub_int q
def oM:kR X (binaryOp .Mult) (rI Gs λi j=>.int (i*j)):=JF λ_ _ _ _ _ _ _ hc q=>mul_int q hc.ok
def kh:kR X (binaryOp .FloorDiv) (rI Iq λi j=>.int (i / j)):=JF λi j _ _ _ _ _ hc q=>by
 have h1:(0:Int)<j:=hc.1;have h2:j<1073741824:=hc.2;exact floordiv_int (by lia) (by rw[Int.fdiv_eq_ediv_of_nonneg i (by lia)];exact q) (.inl (PyProof.noPylong_small (by lia)))
def jt:kR X (binaryOp .Mod) (rI (λ_ j=>0<j) λi j=>.int (i % j)):=JF λi j _ _ _ _ _ hc q=>by
 have h1:(0:Int)<j:=hc;exact mod_int' (by lia) (by rw[Int.fmod_eq_emod_of_nonneg i (by lia)];exact q)
def vb:kR X (binaryOp .Pow) (rI Ja λi j=>.int (i ^ j.toNat)):=JF λ_ _ _ _ _ _ _ hc q=>pow_int_small hc.1 hc.2.1 hc.2.2 q
def Jq{f:Value->Sem Value}{g:Int->Int}
  (rule:∀(i:Int) (t:Tok) (s:Shared) (Q:Value->Shared->Prop) (E:Value->Shared->Prop),Q (.int (g i) s.toks) { s with toks:=s.toks+1 }->wpAny (model X.prog X.w) X.A (f (.int i t)) Q E s) :
  JH X f (rU λi=>.int (g i)):=by
 intro pins s σ H x v Q I rx h;obtain⟨i,rfl,q⟩:=h;obtain⟨t,rfl⟩:=rx;exact rule i t s _ _ ⟨.int (g i),H,I.tok _,⟨_,rfl⟩,q⟩
def eO:JH X (unaryOp .USub) (rU λi=>.int (-i)):=Jq λ_ _ _ _ _ q=>neg_int q
end
def F7:V->V->Bool
 | .non,.non=>true | .non,.int _=>true | .int _,.non=>true | .non,.bl _=>true | .bl _,.non=>true | .non,.str _=>true | .str _,.non=>true
 | .int _,.int _=>true | .bl _,.bl _=>true | .str _,.str _=>true | .byt _,.byt _=>true
 | .int _,.str _=>true | .str _,.int _=>true | .bl _,.str _=>true | .str _,.bl _=>true
 | _,_=>false
def IB:R2:=λx y H Q=>F7 x y=true/\Q (.bl (decide (x=y))) H
def JD:R2:=λx y H Q=>F7 x y=true/\Q (.bl (!decide (x=y))) H
def yN{i j:Int}:decide (V.int i=V.int j)=(i==j):=by
 rw[ir];simp
def CN{i j:Bool}:decide (V.bl i=V.bl j)=(i==j):=by
 rw[ir];simp
def yM{i j:Str}:decide (V.str i=V.str j)=(i==j):=by
 rw[ir];simp
def yO{i j:Array UInt8}:decide (V.byt i=V.byt j)=(i.toList==j.toList):=by
 rw[ir];cases i;cases j;simp
section
variable {X:Cx} {a b c:Expr} {ta tb tc:TE} {pos:Pos}
def cY{pins:List (Addr×Obj)}{σ:St}{H:Hp}{s:Shared}{Q:VK}{k k':Bool}(I:bc X pins σ H s)(q:Q (.bl k) H)(e:k=k'):EP X pins σ Q (.bool k') s:=by
 subst e;exact⟨.bl k,H,I,rfl,q⟩
def eV:kR X (compareOp .Eq) IB:=by
 intro pins s σ H x y v u Q I rx ry h;obtain⟨hs,q⟩:=h;cases x with
 | non=>
  cases rx;cases y with
  | non=>cases ry;exact PySem.EqNone.eq_none_none (cY I q (by simp))
  | bl j=>cases ry;exact PySem.EqNone.eq_none_bool (cY I q (by simp))
  | int j=>obtain⟨t',rfl⟩:=ry;exact PySem.EqNone.eq_none_int (cY I q (by simp))
  | str j=>obtain⟨t',rfl⟩:=ry;exact PySem.EqNone.eq_none_str (cY I q (by simp))
  | _=>exact absurd (show false=true from hs) bC
 | bl i=>
  cases rx;cases y with
  | non=>cases ry;exact PySem.EqNone.eq_bool_none (cY I q (by simp))
  | bl j=>cases ry;exact eq_bool (cY I q CN)
  | str j=>obtain⟨t',rfl⟩:=ry;exact PySem.EqMixed.eq_bool_str (cY I q (by simp))
  | _=>exact absurd (show false=true from hs) bC
 | int i=>
  obtain⟨t,rfl⟩:=rx;cases y with
  | non=>cases ry;exact PySem.EqNone.eq_int_none (cY I q (by simp))
  | int j=>obtain⟨t',rfl⟩:=ry;exact eq_int (cY I q yN)
  | str j=>obtain⟨t',rfl⟩:=ry;exact PySem.EqMixed.eq_int_str (cY I q (by simp))
  | _=>exact absurd (show false=true from hs) bC
 | str i=>
  obtain⟨t,rfl⟩:=rx;cases y with
  | non=>cases ry;exact PySem.EqNone.eq_str_none (cY I q (by simp))
  | bl j=>cases ry;exact PySem.EqMixed.eq_str_bool (cY I q (by simp))
  | int j=>obtain⟨t',rfl⟩:=ry;exact PySem.EqMixed.eq_str_int (cY I q (by simp))
  | str j=>obtain⟨t',rfl⟩:=ry;exact eq_str (cY I q yM)
  | _=>exact absurd (show false=true from hs) bC
 | byt i=>
  obtain⟨t,rfl⟩:=rx;cases y with
  | byt j=>obtain⟨t',rfl⟩:=ry;exact PySem.W.eq_bytes (cY I q yO)
  | _=>exact absurd (show false=true from hs) bC
 | _=>cases y<;>exact absurd (show false=true from hs) bC
def o6:kR X (compareOp .NotEq) JD:=by
 intro pins s σ H x y v u Q I rx ry h;obtain⟨hs,q⟩:=h;cases x with
 | non=>
  cases rx;cases y with
  | non=>cases ry;exact PySem.EqNone.ne_none_none (cY I q (by simp))
  | bl j=>cases ry;exact PySem.EqNone.ne_none_bool (cY I q (by simp))
  | int j=>obtain⟨t',rfl⟩:=ry;exact PySem.EqNone.ne_none_int (cY I q (by simp))
  | str j=>obtain⟨t',rfl⟩:=ry;exact PySem.EqNone.ne_none_str (cY I q (by simp))
  | _=>exact absurd (show false=true from hs) bC
 | bl i=>
  cases rx;cases y with
  | non=>cases ry;exact PySem.EqNone.ne_bool_none (cY I q (by simp))
  | bl j=>cases ry;exact ne_bool (cY I q (congrArg not CN))
  | str j=>obtain⟨t',rfl⟩:=ry;exact PySem.EqMixed.ne_bool_str (cY I q (by simp))
  | _=>exact absurd (show false=true from hs) bC
 | int i=>
  obtain⟨t,rfl⟩:=rx;cases y with
  | non=>cases ry;exact PySem.EqNone.ne_int_none (cY I q (by simp))
  | int j=>obtain⟨t',rfl⟩:=ry;exact ne_int (cY I q (congrArg not yN))
  | str j=>obtain⟨t',rfl⟩:=ry;exact PySem.EqMixed.ne_int_str (cY I q (by simp))
  | _=>exact absurd (show false=true from hs) bC
 | str i=>
  obtain⟨t,rfl⟩:=rx;cases y with
  | non=>cases ry;exact PySem.EqNone.ne_str_none (cY I q (by simp))
  | bl j=>cases ry;exact PySem.EqMixed.ne_str_bool (cY I q (by simp))
  | int j=>obtain⟨t',rfl⟩:=ry;exact PySem.EqMixed.ne_str_int (cY I q (by simp))
  | str j=>obtain⟨t',rfl⟩:=ry;exact ne_str (cY I q (congrArg not yM))
  | _=>exact absurd (show false=true from hs) bC
 | byt i=>
  obtain⟨t,rfl⟩:=rx;cases y with
  | byt j=>obtain⟨t',rfl⟩:=ry;exact PySem.W.ne_bytes (cY I q (congrArg not yO))
  | _=>exact absurd (show false=true from hs) bC
 | _=>cases y<;>exact absurd (show false=true from hs) bC
def lG:kR X (compareOp .Lt) (DF λi j=>.bl (decide (i<j))):=Dd λ_ _ _ _ _ _ _ q=>lt_int q
def uS:kR X (compareOp .LtE) (DF λi j=>.bl (decide (i<=j))):=Dd λ_ _ _ _ _ _ _ q=>le_int q
def ph:kR X (compareOp .Gt) (DF λi j=>.bl (decide (j<i))):=Dd λ_ _ _ _ _ _ _ q=>gt_int q
def IM:kR X (compareOp .GtE) (DF λi j=>.bl (decide (j<=i))):=Dd λ_ _ _ _ _ _ _ q=>ge_int q
def oN:kR X (compareOp .In) (λx y H Q=>∃i j,x=.str i/\y=.str j/\Q (.bl (!(Builtin.Str.occurrences j i 0 j.length 1).isEmpty)) H):=by
 intro pins s σ H x y v u Q I rx ry h;obtain⟨i,j,rfl,rfl,q⟩:=h;obtain⟨t,rfl⟩:=rx;obtain⟨t',rfl⟩:=ry;exact in_str (cY I q rfl)
def sS:kR X (compareOp .Is) (λx y H Q=>y=.non/\Q (.bl (decide (x=.non))) H):=by
 intro pins s σ H x y v u Q I rx ry h;obtain⟨rfl,q⟩:=h;cases ry;refine is_none_gen (cY I q ?_);cases x<;>first
  | (cases rx;rfl)
  | (obtain⟨t,rfl⟩:=rx;rfl)
def pF:kR X (compareOp .IsNot) (λx y H Q=>y=.non/\Q (.bl (!decide (x=.non))) H):=by
 intro pins s σ H x y v u Q I rx ry h;obtain⟨rfl,q⟩:=h;cases ry;refine isnot_none_gen (cY I q ?_);cases x<;>first
  | (cases rx;rfl)
  | (obtain⟨t,rfl⟩:=rx;rfl)
def bI(b:Expr){op:CmpOp}(h:op≠.In:=by decide)(h2:op≠.NotIn:=by decide):behindInMarks op b=false:=by
 have e1:(op==CmpOp.In)=false:=by cases op<;>first | rfl | exact absurd rfl h
 have e2:(op==CmpOp.NotIn)=false:=by cases op<;>first | rfl | exact absurd rfl h2
 cases b<;>simp[behindInMarks,e1,e2]
def D5{op:CmpOp}{r:R2}(ho:kR X (compareOp op) r)(ha:PE X a ta)(hb:PE X b tb)(hm:behindInMarks op b=false):PE X (.Compare a [op] [b] pos) (AY r ta tb):=by
 intro pins s σ H Q I h;exact wpAny_Compare1 (Gg ha hb I h λv u s2 x y H2 I2 rx ry q=>ho pins s2 σ H2 x y v u Q I2 rx ry q) hm
def tU(t:TE):TT:=λσ H Q=>t σ H λx H'=>∃k,x=.bl k/\Q k H'
def DL{op:CmpOp}{r:R2}(ho:kR X (compareOp op) r)(ha:PE X a ta)(hb:PE X b tb)(hm:behindInMarks op b=false):PT X (.Compare a [op] [b] pos) (tU (AY r ta tb)):=by
 intro pins s σ H Q I h;refine wpAny_isTrue_Compare1 (dZ (ha pins s σ H _ I h) λv s1 ⟨x,H1,I1,r1,q1⟩=>dZ (hb pins s1 σ H1 _ I1 q1) λu s2 ⟨y,H2,I2,r2,q2⟩=>
  dZ (ho pins s2 σ H2 x y v u _ I2 r1 r2 q2) λc s3 ⟨z,H3,I3,r3,k,e,q3⟩=>?_) hm
 subst e;cases r3;exact Mm ⟨H3,I3,q3⟩
def vQ(r r':R2)(ta tb tc:TE):TE:=λσ H Q=>ta σ H λx H1=>tb σ H1 λy H2=>r x y H2 λz H3=>∃k,z=.bl k ∧
 (if k=true then tc σ H3 λw' H4=>r' y w' H4 Q else Q (.bl false) H3)
def BR{op op':CmpOp}{r r':R2}(ho:kR X (compareOp op) r)(ho':kR X (compareOp op') r')(ha:PE X a ta)(hb:PE X b tb)(hc:PE X c tc)
  (hm:lastMarks [op,op'] [b,c]=false:=by with_unfolding_all rfl):PE X (.Compare a [op,op'] [b,c] pos) (vQ r r' ta tb tc):=by
 intro pins s σ H Q I h;refine Compare_chain (dZ (ha pins s σ H _ I h) λv s1 ⟨x,H1,I1,r1,q1⟩=>chain_link (dZ (hb pins s1 σ H1 _ I1 q1) λu s2 ⟨y,H2,I2,r2,q2⟩=>
  dZ (ho pins s2 σ H2 x y v u _ I2 r1 r2 q2) λd s3 ⟨z,H3,I3,r3,k,e,q3⟩=>?_)) hm
 subst e;cases r3;refine Mm ?_;cases k with
 | false=>exact ite_ff ⟨.bl false,H3,I3,rfl,q3⟩
 | true=>exact ite_tt (chain_last (dZ (hc pins s3 σ H3 _ I3 q3) λw' s4 ⟨z',H4,I4,r4,q4⟩=>ho' pins s4 σ H4 y z' u w' Q I4 r2 r4 q4))
def ET(K:NQ)(x:V)(H:Hp)(k:Bool):Prop:=
 match x with
 | .non=>k=false
 | .bl b=>k=b
 | .int i=>k=(i != 0)
 | .str y=>y.length<=sizeLine/\k=((y.length:Int) != 0)
 | .byt y=>y.size<=sizeLine/\k=((y.size:Int) != 0)
 | .ref p=>(∃xs,cF K H p xs/\k=!xs.isEmpty)\/(∃xs,dm K H p xs/\k=!xs.isEmpty)\/∃kvs,H p=some (.dK kvs)/\k=!kvs.isEmpty
 | _=>False
def vz{κ:Type}{kvs:List (κ×V)}{vs:List (κ×Value)}(r:KV kvs vs):(!vs.isEmpty)=!kvs.isEmpty:=by
 cases r<;>rfl
def qF{xs:List V}{its:List Value}(r:cJ xs its):(!its.toArray.isEmpty)=!xs.isEmpty:=by
 cases r<;>simp
def mr:(sizeLine:Nat)<2 ^ 63:=by rw[Ms];decide
def FQ:J6 X (λx H Q=>∃k,ET X.K x H k/\Q k H):=by
 intro pins s σ H x v Q I rx h;obtain⟨k,e,q⟩:=h;have hl:=mr;have hs:sizeLine=16777216:=Ms;cases x with
 | non=>
  cases rx;have e':k=false:=e;subst e';exact truthy_none ⟨H,I,q⟩
 | bl b=>
  cases rx;have e':k=b:=e;subst e';exact Mm ⟨H,I,q⟩
 | int i=>
  obtain⟨t,rfl⟩:=rx;have e':k=(i != 0):=e;subst e';exact PySem.P.truthy_int ⟨H,I,q⟩
 | str y=>
  obtain⟨t,rfl⟩:=rx;obtain⟨hy,e'⟩:y.length<=sizeLine/\k=((y.length:Int) != 0):=e;subst e';exact PySem.P.truthy_str (by lia) ⟨H,I.tok _,q⟩
 | byt y=>
  obtain⟨t,rfl⟩:=rx;obtain⟨hy,e'⟩:y.size<=sizeLine/\k=((y.size:Int) != 0):=e;subst e';exact PySem.W.truthy_bytes (by lia) ⟨H,I.tok _,q⟩
 | ref p=>
  cases rx;have e':(∃xs,cF X.K H p xs/\k=!xs.isEmpty)\/(∃xs,dm X.K H p xs/\k=!xs.isEmpty)\/∃kvs,H p=some (.dK kvs)/\k=!kvs.isEmpty:=e;rcases e' with ⟨xs,hx,e'⟩ | ⟨xs,hx,e'⟩ | ⟨kvs,hx,e'⟩
  ·subst e';obtain⟨its,r,pl,hz⟩:=I.list hx;have hlen:=r.length;exact wpAny_truthy_list pl.isList (by simp only[aU];lia) ⟨H,I.tok _,by rw[qF r];exact q⟩
  ·subst e';obtain⟨its,r,pl,hz⟩:=I.tuple hx;have hlen:=r.length;exact truthy_tuple pl (by simp only[aU];lia) ⟨H,I.tok _,by rw[qF r];exact q⟩
  ·subst e';obtain⟨hz,hS,vs,r,m⟩:kvs.length<=sizeLine/\(p==sysModules)=false/\∃vs,KV kvs vs/\s.heap.DictOf (eW X.prog X.w) p vs:=I.hok p _ hx;have hlen:kvs.length=vs.length:=cv r;exact wpAny_truthy_dict hS m (by lia) ⟨H,I.tok _,by rw[vz r];exact q⟩
 | _=>exact(show False from e).elim
def BC(ha:PE X a ta)(he:∀whole,isTrue a X.env whole=(do let v <-whole;standAt a.pos;holding [v] (truthy v))):
  PT X a (λσ H Q=>ta σ H λx H'=>∃k,ET X.K x H' k/\Q k H'):=by
 intro pins s σ H Q I h;exact isTrue_plain (dZ (ha pins s σ H _ I h) λv s1 ⟨x,H1,I1,r1,q1⟩=>FQ pins s1 σ H1 x v Q I1 r1 q1) (he _)
def dG:kR X (binaryOp .Add) (λx y H Q=>∃i j,x=.str i/\y=.str j/\i.length+j.length<=sizeLine/\Q (.str (i++j)) H):=by
 intro pins s σ H x y v u Q I rx ry h;obtain⟨i,j,rfl,rfl,hz,q⟩:=h;obtain⟨t,rfl⟩:=rx;obtain⟨t',rfl⟩:=ry;exact add_str (λt' tk=>⟨.str (i++j),H,I.tok _,⟨_,rfl⟩,q⟩) hz
def uh:kR X (inplaceOp .Add) (λx y H Q=>∃i j,x=.str i/\y=.str j/\i.length+j.length<=sizeLine/\Q (.str (i++j)) H):=by
 intro pins s σ H x y v u Q I rx ry h;obtain⟨i,j,rfl,rfl,hz,q⟩:=h;obtain⟨t,rfl⟩:=rx;obtain⟨t',rfl⟩:=ry;exact iadd_str (λt' tk=>⟨.str (i++j),H,I.tok _,⟨_,rfl⟩,q⟩) hz
def Mt{x:V}{us:List Value}(r:cJ [x] us):∃u,us=[u]/\RelV x u:=by
 cases r with
 | cons r1 r2=>cases r2;exact⟨_,rfl,r1⟩
def vals2{x y:V}{us:List Value}(r:cJ [x,y] us):∃u w',us=[u,w']/\RelV x u/\RelV y w':=by
 cases r with
 | cons r1 r2=>
  cases r2 with
  | cons r3 r4=>cases r4;exact⟨_,_,rfl,r1,r3⟩
def uy:fq X (.builtin "abs") (λxs H Q=>∃i,xs=[.int i]/\Q (.int (if i<0 then -i else i)) H):=by
 intro pins s σ H xs us Q I r h;obtain⟨i,rfl,q⟩:=h;obtain⟨u,rfl,t,rfl⟩:=Mt r;exact call_abs_int λu tk=>⟨.int (if i<0 then -i else i),H,I.tok _,⟨_,rfl⟩,q⟩
def ze (hc:X.calm=true):fq X (.builtin "max") (λxs H Q=>∃i j,xs=[.int i,.int j]/\Q (.int (if j > i then j else i)) H):=by
 intro pins s σ H xs us Q I r h;obtain⟨i,j,rfl,q⟩:=h;obtain⟨u,w',rfl,⟨t,rfl⟩,⟨t',rfl⟩⟩:=vals2 r;refine max_two_ints (I.ok.hd hc) λh' tk k=>⟨_,H,I.kept k,?_,q⟩
 by_cases hj:j > i
 ·rw[NJ hj,NJ hj];exact⟨_,rfl⟩
 ·rw[NI hj,NI hj];exact⟨_,rfl⟩
def zd (hc:X.calm=true):fq X (.builtin "min") (λxs H Q=>∃i j,xs=[.int i,.int j]/\Q (.int (if j<i then j else i)) H):=by
 intro pins s σ H xs us Q I r h;obtain⟨i,j,rfl,q⟩:=h;obtain⟨u,w',rfl,⟨t,rfl⟩,⟨t',rfl⟩⟩:=vals2 r;refine min_two_ints (I.ok.hd hc) λh' tk k=>⟨_,H,I.kept k,?_,q⟩
 by_cases hj:j<i
 ·rw[NJ hj,NJ hj];exact⟨_,rfl⟩
 ·rw[NI hj,NI hj];exact⟨_,rfl⟩
def kO:fq X (.type "int") (λxs H Q=>(∃i,xs=[.int i]/\Q (.int i) H)\/∃k,xs=[.bl k]/\Q (.int (if k then 1 else 0)) H):=by
 intro pins s σ H xs us Q I r h;rcases h with ⟨i,rfl,q⟩ | ⟨k,rfl,q⟩
 ·obtain⟨u,rfl,t,rfl⟩:=Mt r;exact call_int_int ⟨.int i,H,I,⟨_,rfl⟩,q⟩
 ·obtain⟨u,rfl,r1⟩:=Mt r;cases r1;exact call_int_bool ⟨.int (if k then 1 else 0),H,I.tok _,⟨_,rfl⟩,q⟩
end
structure Gm (h:Heap) (x dx C:Addr) (mA:Str->Option Value):Prop where
 obj:h.get? x=some (PySem.W.instObj C dx)
 ns:h.Ns1 dx mA
 ne:dx≠x
def zM{h:Heap}{dx:Addr}{mA:Str->Option Value}(n:h.Ns1 dx mA):∃od,h.get? dx=some od/\∀name,PySem.W.lookIn name od=some (mA name):=by
 obtain⟨o,es,ep,ho,hd,hk,_,hm⟩:=n;refine⟨o,ho,λname=>?_⟩;have e:=hm name;unfold nsFind findBy at e;rw[<-Array.find?_toList] at e;unfold PySem.W.lookIn;rw[hd];dsimp only
 split
 ·rename_i y q;rw[q] at e;exact congrArg some e
 ·rename_i q;rw[q] at e;have a:es.toList.any (·.refKey)=false:=by
   rw[List.any_eq_false];intro y hy;obtain⟨z,t,hkey⟩:=hk y (Array.mem_toList_iff.mp hy);simp[DictEntry.refKey,hkey]
  have a':¬es.toList.any (·.refKey)=true:=by rw[a];exact bC
  rw[NI a'];exact congrArg some e
def Gm.look{h:Heap}{x dx C:Addr}{mA:Str->Option Value}(I:Gm h x dx C mA):∃od,PySem.W.InstAt h x (PySem.W.instObj C dx) C (some od)/\∀name,PySem.W.lookIn name od=some (mA name):=
 let ⟨od,ho,hl⟩:=zM I.ns
 ⟨od,⟨I.obj,rfl,rfl,ho⟩,hl⟩
def qV.some_of{v:V}{o:Option Value}(r:qV (some v) o):∃u,o=some u/\RelV v u:=by
 cases o with
 | none=>exact(show False from r).elim
 | some u=>exact⟨u,rfl,r⟩
section
variable {P:Program} {w:World} {H:Hp} {h:Heap} {a C dx:Addr} {fs:List (Str×V)}
def Dw(hok:nI P w H h)(e:H a=some (.ins C dx fs)):∃mA,Gm h a dx C mA/\(∀f,qV (fs.lookup f) (mA f))/\PySem.Within mA (fs.map (·.1))/\fs.length<=1000/\H dx=some (.own a):=by
 obtain⟨d,z,ne,ob,mA,n,r,q⟩:=(show cn P w H h a (.ins C dx fs) from hok a _ e)
 exact⟨mA,⟨ob,n,ne⟩,r,q,z,d⟩
end
structure J9 (K:NQ) (C:Addr):Prop where
 pg:PySem.W.plainGet K C Str.empty=true
 hd:PySem.W.hasDictIn K C=true
 po:PySem.W.plainOver K C=true
 sa:PySem.W.findIn K (.ref C) "__setattr__"=some (some (.builtin "object.__setattr__"))
def J9.get{K:NQ}{C:Addr}(c:J9 K C)(f:Str):PySem.W.plainGet K C f=true:=c.pg
section
variable {X:Cx} {pins:List (Addr×Obj)} {σ:St} {H:Hp} {s:Shared} {A:Around} {E:Value->Shared->Prop} {Q:Value->Shared->Prop} {c:Value} {b:Bool}
inductive nF (K : NQ) (H : Hp) : V → Value → Prop where
 | non : nF K H .non (.type "NoneType")
 | bl (x : Bool) : nF K H (.bl x) (.type "bool")
 | int (i : Int) : nF K H (.int i) (.type "int")
 | str (x : Str) : nF K H (.str x) (.type "str")
 | flt (x : UInt64) : nF K H (.flt x) (.type "float")
 | lst {a : Addr} {xs : List V} (e : H a = some (.lst xs)) : nF K H (.ref a) (.type "list")
 | frz {a : Addr} {o : Obj} {xs : List V} (e : H a = some (.frz o (.lst xs))) : nF K H (.ref a) (.type "list")
 | tup {a : Addr} {xs : List V} (e : H a = some (.tup xs)) : nF K H (.ref a) (.type "tuple")
 | dK {a : Addr} {kvs : List (Key × V)} (e : H a = some (.dK kvs)) : nF K H (.ref a) (.type "dict")
 | dT {a : Addr} {kvs : List (List Key × V)} (e : H a = some (.dT kvs)) : nF K H (.ref a) (.type "dict")
 | ins {a C dx : Addr} {fs : List (Str × V)} (e : H a = some (.ins C dx fs)) (cl : J9 K C) (ha : PySem.W.findIn K (.ref C) "__class__" = some (some (.builtin "object.__class__")))
   (hn : PySem.W.specialIn K (.builtin "object.__class__") "__get__" = some (some (.builtin "getset_descriptor.__get__"))) (htk : PySem.W.takesIn K (.builtin "object.__class__") = some true)
   (hm : PySem.W.mroIn K C (.type "object") = some true) : nF K H (.ref a) (.ref C)
def zP{x:V}{u t:Value}(I:bc X pins σ H s)(rx:RelV x u)(ty:nF X.K H x t)(e:PySem.W.kitOne X.K t c=some b)(h:∀tk,Q (.bool b) { s with toks:=tk }):
  wpAny (model X.prog X.w) A (call (.builtin "isinstance") [u,c]) Q E s:=by
 cases ty with
 | non=>cases (show u=Value.none from rx);exact cV PySem.W.kitx_none I.kIn True.intro e (λz=>nomatch z) h
 | bl y=>cases (show u=Value.bool y from rx);exact cV PySem.W.kitx_bool I.kIn True.intro e (λz=>nomatch z) h
 | int i=>obtain⟨t,q⟩:=(show ∃t,u=Value.int i t from rx);cases q;exact cV PySem.W.kitx_int I.kIn True.intro e (λz=>nomatch z) h
 | str y=>obtain⟨t,q⟩:=(show ∃t,u=Value.str y t from rx);cases q;exact cV PySem.W.kitx_str I.kIn True.intro e (λz=>nomatch z) h
 | flt y=>obtain⟨t,q⟩:=(show ∃t,u=Value.float y t from rx);cases q;exact cV PySem.W.kitx_float I.kIn True.intro e (λz=>nomatch z) h
 | @lst a xs ea=>
  cases (show u=Value.ref a from rx);obtain⟨_,_,n,_,h1⟩:=(show cn X.prog X.w H s.heap a (.lst xs) from I.hok a _ ea)
  exact cV PySem.W.kitx_list I.kIn ⟨_,h1,rfl⟩ e (λz=>nomatch z) h
 | @frz a ob xs ea=>
  cases (show u=Value.ref a from rx);obtain⟨_,_,_,n,_,h1⟩:=(show cn X.prog X.w H s.heap a (.frz ob (.lst xs)) from I.hok a _ ea)
  exact cV PySem.W.kitx_list I.kIn ⟨_,h1,rfl⟩ e (λz=>nomatch z) h
 | @tup a xs ea=>
  cases (show u=Value.ref a from rx);obtain⟨_,_,_,p⟩:=(show cn X.prog X.w H s.heap a (.tup xs) from I.hok a _ ea)
  obtain⟨o,h1,h2,_⟩:=p;exact cV PySem.W.kitx_tuple I.kIn ⟨o,h1,h2⟩ e (λz=>nomatch z) h
 | @dK a kvs ea=>
  cases (show u=Value.ref a from rx);obtain⟨_,_,vs,_,p⟩:=(show cn X.prog X.w H s.heap a (.dK kvs) from I.hok a _ ea)
  obtain⟨o,es,ep,h1,h2,_⟩:=p;exact cV PySem.W.kitx_dict I.kIn ⟨o,h1,h2.1⟩ e (λz=>nomatch z) h
 | @dT a kvs ea=>
  cases (show u=Value.ref a from rx);obtain⟨_,_,xs,_,o,es,ep,h1,h2,_⟩:=(show cn X.prog X.w H s.heap a (.dT kvs) from I.hok a _ ea)
  exact cV PySem.W.kitx_dict I.kIn ⟨o,h1,h2.1⟩ e (λz=>nomatch z) h
 | @ins a C dx fs ea cl ha hn htk hm=>
  cases (show u=Value.ref a from rx);obtain⟨mA,O,_⟩:=Dw I.hok ea;obtain⟨od,J,_⟩:=O.look;exact cV (PySem.W.kitx_own (cl.get _) cl.hd ha hn htk hm) I.kIn J e (λz=>nomatch z) h
end
structure j9 (k:Nat) (A:Around):Prop where
 hd:A.handled=none
 dp:A.depth+3 * k+5<recursionLimit
 un:A.units+16 * k+200<cLine
 gd:A.guards=some []
def j9.mono{j k:Nat}{A:Around}(r:j9 k A)(h:j<=k):j9 j A:=⟨r.hd,by have:=r.dp;lia,by have:=r.un;lia,r.gd⟩
def j9.deeper{k:Nat}{A:Around}(r:j9 (k+1) A)(env:Env):j9 k (A.deeper env):=
 ⟨r.hd,by have:=r.dp;show A.depth+1+3*k+5<_;lia,by have:=r.un;show A.units+3+16*k+200<_;lia,r.gd⟩
def j9.depth{k:Nat}{A:Around}(r:j9 k A):A.depth<recursionLimit:=by have:=r.dp;lia
def j9.units{k:Nat}{A:Around}(r:j9 k A):A.units+64<cLine:=by have:=r.un;lia
def A2:TA:=λ_ H Q=>Q [] H
def eU(ta:TE)(tr:TA):TA:=λσ H Q=>ta σ H λx H1=>tr σ H1 λxs H2=>Q (x::xs) H2
section
variable {X:Cx} {e:Expr} {es:List Expr} {te:TE} {t:TA} {pos:Pos}
def GK:PA X [] A2:=λ_ _ _ _ H Q I h=>jq ⟨[],H,I,.nil,h⟩
def gA(ha:PE X e te)(hr:PA X es t)(hs:starEach (e::es) X.env=(false,eval e X.env)::starEach es X.env:=by rfl):PA X (e::es) (eU te t):=by
 intro pos pins s σ H Q I h;rw[hs];show wpAny _ _ (spliced ((false,eval e X.env)::backTo pos (starEach es X.env))) _ _ s;refine j7 (dZ (ha pins s σ H _ I h) λu s1 ⟨x,H1,I1,r1,q1⟩=>?_);exact dZ (hr pos pins s1 σ H1 _ I1 q1) λus s2 ⟨xs,H2,I2,r2,q2⟩=>⟨x::xs,H2,I2,.cons r1 r2,q2⟩
def FS(t:TA):TE:=λσ H Q=>t σ H λxs H1=>xs.length<=sizeLine/\∀p,H1 p=none->Q (.ref p) (upd H1 p (.tup xs))
def Cs(t:TA):TE:=λσ H Q=>t σ H λxs H1=>xs.length<=sizeLine/\∀p,H1 p=none->Q (.ref p) (upd H1 p (.lst xs))
def GA{x1}(h:PA X es t):PE X (.Tuple es x1 pos) (FS t):=by
 intro pins s σ H Q I hq;refine wpAny_Tuple_spliced (dZ (h pos pins s σ H _ I hq) λus s1 ⟨xs,H1,I1,r,z,q⟩=>⟨by rw[<-r.length];exact z,?_⟩);have hf:H1 s1.heap.objs.size=none:=I1.hok.fresh (aH _);refine⟨.ref s1.heap.objs.size,upd H1 s1.heap.objs.size (.tup xs),I1.laid (t':=s1.toks) (λb u e=>aB _ e) (aH _) ?_,rfl,q _ hf⟩;exact⟨z,us,r,⟨_,aP _ rfl,rfl,_,rfl⟩⟩
def GG(h:PA X es t):PE X (.List es pos) (Cs t):=by
 intro pins s σ H Q I hq;refine wpAny_List_spliced (dZ (h pos pins s σ H _ I hq) λus s1 ⟨xs,H1,I1,r,z,q⟩=>⟨by rw[<-r.length];exact z,?_⟩);have hf:H1 s1.heap.objs.size=none:=I1.hok.fresh (aH _);refine⟨.ref s1.heap.objs.size,upd H1 s1.heap.objs.size (.lst xs),I1.laid (t':=s1.toks) (λb u e=>aB _ e) (aH _) ?_,rfl,q _ hf⟩;exact⟨z,us,0,r,aP _ rfl⟩
end
abbrev Sp:=List V->Hp->VK->XK->Prop
abbrev C6:=List Env->Hp->Shared->XK->Value->Shared->Prop
structure E5 (P:Program) (w:World) (K:NQ) (mg:Str->Option Value) (base:Heap) (A:Around) (outer:List Env) (s:Shared) (H:Hp):Prop where
 frames:A.frames=some outer
 mod:Mod K mg base
 bs:∀ b o,base.get? b=some o->s.heap.get? b=some o/\H b=none
 bsz:base.objs.size<=s.heap.objs.size
 funs:s.heap.FunFrames base outer
 frf:∀ b∈wC outer,H b=none
 hok:nI P w H s.heap
 bare:AllBare s.gens
def CE(outer:List Env)(P:Program)(w:World)(H:Hp)(s:Shared)(Q:VK)(u:Value)(s':Shared):Prop:=
 ∃v H',s'.os=s.os/\AllBare s'.gens/\Un (wC outer) [] H H' s.heap s'.heap/\nI P w H' s'.heap/\RelV v u/\Q v H'
def CR(CX:C6)(outer:List Env)(P:Program)(w:World)(H:Hp)(s:Shared)(Q:VK)(E:XK)(r:Result)(s':Shared):Prop:=
 match r with
 | .ok (.ret u)=>CE outer P w H s Q u s'
 | .ok _=>False
 | .error e=>CX outer H s E e s'
structure qW (P:Program) (w:World) (K:NQ) (mg:Str->Option Value) (base:Heap) (CX:C6) (k:Nat) (f:Addr) (fd:FuncData) (ps:List Str) (sp:Sp):Prop where
 len:∀ vs H Q E,sp vs H Q E->vs.length=ps.length
 run:∀ (A:Around) (outer:List Env) (s:Shared) (H:Hp) (args:Args) (us:List Value) (vs:List V) (Q:VK) (E:XK),j9 k A->E5 P w K mg base A outer s H->BindsTo s fd args (ps.zip us)->cJ vs us->sp vs H Q E →
  codeAny (model P w) A (.call (.ref f) args) (CR CX outer P w H s Q E) s
section
variable {X:Cx} {pins:List (Addr×Obj)} {σ:St} {H:Hp} {s s':Shared}
def bc.env0(I:bc X pins σ H s):E5 X.prog X.w X.K X.mg X.base X.A X.stack s H:=
 ⟨I.ok.frames,I.ok.mod,I.bs,bJ I.ok.bsz I.sz,I.stack,I.stkFree,I.hok,I.bare⟩
def bc.after{Q:VK}{u:Value}(I:bc X pins σ H s)(h:CE X.stack X.prog X.w H s Q u s'):EP X pins σ Q u s':=by
 obtain⟨v,H',os,bare,un,hok,r,q⟩:=h;obtain⟨hh,g,d,t,os'⟩:=s';obtain rfl:os'=s.os:=os;exact⟨v,H',I.call (h':=hh) (g':=g) (d':=d) (t':=t) (ch:=[]) un hok bare (λb z=>absurd z (by simp)),r,q⟩
end
def ww(sp:Sp)(dvs:List V)(E:XK)(t:TA):TE:=λσ H Q=>t σ H λvs H1=>sp (vs++dvs) H1 Q E
def Binds(K:NQ)(fd:FuncData)(ps:List Str)(ds:List Value):Prop:=
 ∀(s:Shared) (us:List Value),K.In s.heap->(us++ds).length=ps.length->BindsTo s fd ⟨us,[]⟩ (ps.zip (us++ds))
def Binds.all{K:NQ}{fd:FuncData}{ps:List Str}(h:∀us:List Value,us.length=ps.length->bindArgs fd ⟨us,[]⟩=pure (ps.zip us)):Binds K fd ps []:=λs us _ hl=>by
 rw[bb] at hl ⊢;exact .of_eq (h us hl)
def wU(CX:C6)(X:Cx)(E:XK):Prop:=∀(pins:List (Addr×Obj)) (σ:St) (H:Hp) (s:Shared) (e:Value) (s':Shared),bc X pins σ H s->CX X.stack H s E e s'->X.xe e s'
section
variable {X:Cx} {CX:C6} {k:Nat} {f:Addr} {fd:FuncData} {ps:List Str} {sp:Sp} {dvs:List V} {ds:List Value} {E:XK} {x:Str} {p pos:Pos} {e:Expr} {es:List Expr} {t:TA}
def F8{pins:List (Addr×Obj)}{σ:St}{H:Hp}{s:Shared}{Q:VK}{us:List Value}{vs:List V}(F:qW X.prog X.w X.K X.mg X.base CX k f fd ps sp)(hr:j9 k X.A)(hb:Binds X.K fd ps ds)(hd:cJ dvs ds)(hx:wU CX X E)
  (I:bc X pins σ H s) (r:cJ vs us) (h:sp (vs++dvs) H Q E):wpAny (model X.prog X.w) X.A (call (.ref f) us) (EP X pins σ Q) X.xe s:=by
 have r2:cJ (vs++dvs) (us++ds):=r.append hd;have hl:(us++ds).length=ps.length:=by rw[<-r2.length];exact F.len _ _ _ _ h
 refine wpAny_call (codeAny_mono (F.run X.A X.stack s H ⟨us,[]⟩ (us++ds) (vs++dvs) Q E hr I.env0 (hb s us I.kIn hl) r2 h) λr s' hq=>?_);cases r with
 | error e=>exact hx pins σ H s e s' I hq
 | ok fl=>
  cases fl with
  | ret u=>exact I.after hq
  | next=>exact False.elim hq
  | brk=>exact False.elim hq
  | cont=>exact False.elim hq
def D6(F:qW X.prog X.w X.K X.mg X.base CX k f fd ps sp)(hr:j9 k X.A)(hg:Gl X x)(hm:X.mg x=some (.ref f))(hk:PySem.W.keepIn X.K (.ref f)=true)(hb:Binds X.K fd ps ds)(hd:cJ dvs ds)(hx:wU CX X E)
  (ha:PA X (e::es) t) (hdb:(x==("__debug__":Str))=false:=by decide) (he:starEach (e::es) X.env=(false,eval e X.env)::starEach es X.env:=by rfl) (hpl:(backTo pos (starEach es X.env)).any (·.1)=false:=by rfl) :
  PE X (.Call (.Name x p) (e::es) [] pos) (ww sp dvs E t):=by
 intro pins s σ H Q I h;refine Mu (xn I hg hm ?_ hdb);refine PySem.W.callWith_K (h₀:=X.base) I.ok.mod.kin hk (dZ (ha pos pins s σ H _ I h) λus s1 ⟨vs,H1,I1,r,q⟩=>⟨I1.kIn,?_⟩) he hpl;exact F8 F hr hb hd hx I1 r q
end
structure bU (N P:List Str) (sc:Scope):Prop where
 kind:sc.kind=.function
 co:sc.isCoroutine=false
 gen:sc.isGenerator=false
 nd:N.Nodup
 pre:N.take P.length=P
 par:∀ x∈P,sc.names.lookup x=some .local\/sc.names.lookup x=some .cell
 nofree:∀ y∈sc.names,y.2≠.free
def rR{kindOf:Str->Option NameKind}{x:Str}:∀{binds:List (Str×Value)} {m:Str->Option Value},(∀v,(x,v)∉binds)->bindL kindOf binds m x=m x
 | [],_,_=>rfl
 | (n,v)::r,m,h=>by
  unfold bindL;rw[rR λw hw=>h w (aM _ hw)]
  split
  ·have:x≠n:=by rintro rfl;exact h v aq
   simp[this]
  ·rfl
def rT{kindOf:Str->Option NameKind}{x:Str}:∀{binds:List (Str×Value)} {m:Str->Option Value},(∀v,(x,v)∉binds)->bindC kindOf binds m x=m x
 | [],_,_=>rfl
 | (n,v)::r,m,h=>by
  unfold bindC;rw[rT λw hw=>h w (aM _ hw)]
  split
  ·rfl
  ·have:x≠n:=by rintro rfl;exact h v aq
   simp[this]
def rS{kindOf:Str->Option NameKind}{x:Str}{v:Value}:∀{P:List Str} {vs:List Value} {i:Nat} {m:Str->Option Value},P.Nodup->P[i]? = some x->vs[i]? = some v->kindOf x=some .local →
  bindL kindOf (P.zip vs) m x=some v
 | [],_,_,_,_,h,_,_=>by simp at h
 | _::_,[],_,_,_,_,h,_=>by simp at h
 | p::P,w::vs,0,m,nd,h1,h2,hk=>by
  simp at h1 h2;subst h1;subst h2;show bindL kindOf ((p,w)::P.zip vs) m p=_;unfold bindL;rw[rR λv hv=>(ci.mp nd).1 (lI hv).1,NJ hk];simp
 | p::P,w::vs,i+1,m,nd,h1,h2,hk=>by
  show bindL kindOf ((p,w)::P.zip vs) m x=_;unfold bindL;exact rS (i:=i) (ci.mp nd).2 (by simpa using h1) (by simpa using h2) hk
def rV{kindOf:Str->Option NameKind}{x:Str}{v:Value}:∀{P:List Str} {vs:List Value} {i:Nat} {m:Str->Option Value},P.Nodup->P[i]? = some x->vs[i]? = some v->kindOf x≠some .local →
  bindC kindOf (P.zip vs) m x=some v
 | [],_,_,_,_,h,_,_=>by simp at h
 | _::_,[],_,_,_,_,h,_=>by simp at h
 | p::P,w::vs,0,m,nd,h1,h2,hk=>by
  simp at h1 h2;subst h1;subst h2;show bindC kindOf ((p,w)::P.zip vs) m p=_;unfold bindC;rw[rT λv hv=>(ci.mp nd).1 (lI hv).1,NI hk];simp
 | p::P,w::vs,i+1,m,nd,h1,h2,hk=>by
  show bindC kindOf ((p,w)::P.zip vs) m x=_;unfold bindC;exact rV (i:=i) (ci.mp nd).2 (by simpa using h1) (by simpa using h2) hk
def start(N:List Str)(vs:List V):St:=vs.map some++List.replicate (N.length-vs.length) none
def uq(CX:C6)(P:Program)(w:World)(K:NQ)(mg:Str->Option Value)(base:Heap)(N:List Str)(qual:Str)(scope:Scope)(f:Addr)(cd:Value)(A:Around)(outer:List Env)(s:Shared)(H:Hp)(E:XK):Cx where
 prog:=P
 w:=w
 K:=K
 mg:=mg
 base:=base
 A:=A.deeper (envOfC qual scope s.heap.objs.size f cd)
 N:=N
 s₀:=s
 H₀:=H
 env:=envOfC qual scope s.heap.objs.size f cd
 outer:=outer
 stack:=envOfC qual scope s.heap.objs.size f cd::outer
 ex:=[]
 calm:=true
 fn:=λ_=>true
 pn:=[]
 xe:=λe s'=>wpAny (model P w) (A.deeper (envOfC qual scope s.heap.objs.size f cd)) (leaving (envOfC qual scope s.heap.objs.size f cd) e) (λ_ s''=>CX outer H s E e s'') (λe' s''=>CX outer H s E e' s'') s'
def uw{sc:Scope}{n:Nat}{x:Str}(h:sc.names.lookup x=some .cell):∃c,(cellsFrom n sc.names []).lookup x=some c:=by
 have q:=kq sc.names n [] (.inl h);exact jx.mp q
def zQ{CX:C6}{P:Program}{w:World}{K:NQ}{mg:Str->Option Value}{base:Heap}{N ps:List Str}{qual:Str}{scope:Scope}{f:Addr}{cd:Value}{A:Around}{outer:List Env}{s s1:Shared}{H:Hp}{E:XK}{us:List Value}{vs:List V}
  (S:bU N ps scope) (hd:A.handled=none) (e0:E5 P w K mg base A outer s H) (hl:vs.length=ps.length) (r:cJ vs us)
  (x:InCallC s s.heap.objs.size (bindL (envOfC qual scope s.heap.objs.size f cd).kindOf (ps.zip us) λ_=>none) (cellsFrom (s.heap.objs.size+1) scope.names []) (bindC (envOfC qual scope s.heap.objs.size f cd).kindOf (ps.zip us) λ_=>none) s1) :
  bc (uq CX P w K mg base N qual scope f cd A outer s H E) [] (start N vs) H s1:=by
 have hpl:ps.length<=N.length:=by have:=congrArg List.length S.pre;rw[bp] at this;lia
 obtain⟨h1,tk,rfl,hk⟩:=x.done;have noA:∀b:Addr,b∉(uq CX P w K mg base N qual scope f cd A outer s H E).ex:=λb z=>absurd (show b∈([]:List Addr) from z) (by simp);refine⟨⟨e0.mod,S.kind,rfl,rfl,aH _,λy z c h1 h2=>?_,λy hy=>?_,λy c _ h=>?_,λ_=>hd,Around.frames_deeper e0.frames,.inr ⟨rfl,rfl⟩,λb z=>absurd z (noA b),e0.bs,e0.bsz,λb _ _=>noA b,λb z=>absurd z (noA b),e0.funs,e0.frf⟩,
  rfl,e0.bare,Un.kept hk,⟨_,x.toInCall.ns,λi y v h1 h2 h3=>?_⟩,λy c h=>⟨_,x.cell y c h⟩,e0.hok.fresh (aH _),λy c h=>?_,λp hp=>absurd (show p∈([]:List (Addr×Obj)) from hp) (by simp),e0.hok.kept hk,?_⟩
 ·exact name_of_addr x.apart (cZ h1) (cZ h2)
 ·have hy:scope.names.lookup y=some .cell\/scope.names.lookup y=some .free:=hy;rcases hy with hy | hy
  ·exact uw hy
  ·exact absurd rfl (S.nofree _ (cZ hy))
 ·exact bx (x.above y c (cZ h))
 ·have hi:i<vs.length:=by
   unfold start at h2;by_cases hi:i<vs.length
   ·exact hi
   ·rw[ac (by simpa using hi)] at h2;rw[kW] at h2
    split at h2<;>cases h2
  have ha:vs[i]? = some v:=by
   unfold start at h2;rw[bP (by simpa using hi),a9] at h2;cases e:vs[i]? with
   | none=>rw[e] at h2;cases h2
   | some a=>rw[e] at h2;cases h2;rfl
  obtain⟨u,hu,rv⟩:=r.get ha;have hp:ps[i]? = some y:=by
   rw[<-S.pre,List.getElem?_take_of_lt (by lia)];exact h1
  have ndP:ps.Nodup:=by rw[<-S.pre];exact S.nd.sublist (List.take_sublist _ _)
  refine⟨u,rv,?_⟩;rcases S.par y (bB hp) with k | k
  ·exact .inl ⟨k,rS ndP hp hu k⟩
  ·obtain⟨c,e⟩:=uw (n:=s.heap.objs.size+1) k;refine .inr ⟨.inl k,c,e,?_⟩;have q:=x.cell y c e;rw[rV ndP hp hu (by show scope.names.lookup y≠_;rw[k];decide)] at q;exact q
 ·exact e0.hok.fresh (bx (x.above y c (cZ h)))
 ·unfold start;show _=N.length;rw[af,aE,lS];lia
def Ia{CX:C6}{P:Program}{w:World}{K:NQ}{mg:Str->Option Value}{base:Heap}{k:Nat}{f:Addr}{name qual:Str}{params:Arguments}{body:List Stmt}{scope:Scope}{dV kV doc pm cdv ct oc:Value}{an od:Option Addr}
  {osl:Array (Option Value)} {N ps:List Str} {sp:Sp} (lk:K.lookup f=some ⟨oc,od,.func (PySem.W.fnOf name qual params body scope dV kV doc pm an cdv ct),osl⟩) (hcd:PySem.W.codeIn K cdv qual=true) (S:bU N ps scope)
  (len:∀vs H Q E,sp vs H Q E->vs.length=ps.length)
  (hbody:∀(A:Around) (outer:List Env) (s:Shared) (H:Hp) (vs:List V) (Q:VK) (E:XK),j9 k (A.deeper (envOfC qual scope s.heap.objs.size f cdv))->sp vs H Q E →
   ∃t,vC (uq CX P w K mg base N qual scope f cdv A outer s H E) body t/\t { nx:=λ_ H'=>Q .non H',rt:=Q } (start N vs) H) :
  qW P w K mg base CX (k+1) f (PySem.W.fnOf name qual params body scope dV kV doc pm an cdv ct) ps sp:=by
 refine⟨len,λA outer s H args us vs Q E hr e0 hb r hsp=>?_⟩;have hl:=len _ _ _ _ hsp;have KX:K.In s.heap:=e0.mod.kin.keeps λb o e=>(e0.bs b o e).1;have lim:s.heap.NoLimit:=e0.mod.nolimit.keeps λb o e=>(e0.bs b o e).1;have hkind:∀y∈ps.zip us,scope.names.lookup y.1=some .local\/(scope.names.lookup y.1=some .cell/\((cellsFrom (s.heap.objs.size+1) scope.names []).lookup y.1).isSome=true):=λ⟨n,v⟩ hy=>by
  rcases S.par n (lI hy).1 with q | q
  ·exact .inl q
  ·exact .inr ⟨q,kq _ _ _ (.inl q)⟩
 refine codeAny_call_function hr.depth (KX _ _ lk) rfl S.co S.gen rfl (PySem.W.codeRec_of KX hcd) (hb _ _ _ _ ?_);refine wpAny_newFunctionEnv_cells S.kind hkind λenv he s1 x=>?_;subst he;refine⟨lim.keeps x.toInCall.keep,codeAny_func ?_⟩;obtain⟨t,ht,hq⟩:=hbody A outer s H vs Q E (hr.deeper _) hsp;have I:bc (uq CX P w K mg base N qual scope f cdv A outer s H E) [] (start N vs) H s1:=zQ S hr.hd e0 hl r x;refine Ml (ht [] s1 (start N vs) H _ I hq) (λfl s' hs=>?_) λe s' hs=>hs;have fin:∀{σ':St} {H':Hp} {v:V} {u:Value},bc (uq CX P w K mg base N qual scope f cdv A outer s H E) [] σ' H' s'->RelV v u->Q v H'->CE outer P w H s Q u s':=
  fun {σ' H' v u} J rv q=>⟨v,H',J.os,J.bare,J.base,J.hok,rv,q⟩
 cases fl with
 | ret u=>
  obtain⟨v,σ',H',J,rv,q⟩:=hs;exact fin J rv q
 | next=>
  obtain⟨σ',H',J,q⟩:=hs;exact fin (v:=V.non) (u:=Value.none) J rfl q
 | brk=>
  obtain⟨_,_,_,q⟩:=hs;exact False.elim q
 | cont=>
  obtain⟨_,_,_,q⟩:=hs;exact False.elim q
section
variable {X:Cx} {x:Str} {p pos:Pos} {e:Expr} {es:List Expr} {t:TA} {id T:String} {r:List V->Hp->VK->Prop}
def Gy(r:List V->Hp->VK->Prop)(t:TA):TE:=λσ H Q=>t σ H λvs H1=>r vs H1 Q
def BU (hc:fq X (.builtin id) r) (hg:Gl X x) (hm:X.mg x=none) (hv:bootBuiltins x=some (.builtin id)) (ha:PA X (e::es) t) (hn:x≠"__name__":=by decide) (hdb:(x==("__debug__":Str))=false:=by decide)
  (he:starEach (e::es) X.env=(false,eval e X.env)::starEach es X.env:=by rfl) (hpl:(backTo pos (starEach es X.env)).any (·.1)=false:=by rfl):PE X (.Call (.Name x p) (e::es) [] pos) (Gy r t):=by
 intro pins s σ H Q I h;refine Mu (jZ I hg hm hv ?_ hn hdb);exact PyProof.Rows.callWith_builtin1 (dZ (ha pos pins s σ H _ I h) λus s1 ⟨vs,H1,I1,r1,q1⟩=>hc pins s1 σ H1 vs us Q I1 r1 q1) he hpl
def zD (hc:fq X (.type T) r) (hg:Gl X x) (hm:X.mg x=none) (hv:bootBuiltins x=some (.type T)) (ha:PA X (e::es) t) (hn:x≠"__name__":=by decide) (hdb:(x==("__debug__":Str))=false:=by decide)
  (he:starEach (e::es) X.env=(false,eval e X.env)::starEach es X.env:=by rfl) (hpl:(backTo pos (starEach es X.env)).any (·.1)=false:=by rfl):PE X (.Call (.Name x p) (e::es) [] pos) (Gy r t):=by
 intro pins s σ H Q I h;refine Mu (jZ I hg hm hv ?_ hn hdb);exact bV (dZ (ha pos pins s σ H _ I h) λus s1 ⟨vs,H1,I1,r1,q1⟩=>hc pins s1 σ H1 vs us Q I1 r1 q1) he hpl
end
end L2
namespace HT
open PySem PyProof.Rows
section
def sIx(n d:Nat):Option Int->Nat
 | none=>d
 | some v=>if v<0 then (v+(n:Int)).toNat else min v.toNat n
def sIx_none(n d:Nat):sIx n d none=d:=rfl
def sIx_nat(n d k:Nat):sIx n d (some (k:Int))=min k n:=by
 show (if (k:Int)<0 then ((k:Int)+(n:Int)).toNat else min (k:Int).toNat n)=min k n;rw[NI (by lia),fU]
end
end HT
namespace L2
open PySem PySem.Spec PyProof.Rows
abbrev TO:=St->Hp->(Option Int->Hp->Prop)->Prop
def PO(X:Cx)(e:Option Expr)(t:TO):Prop:=
 ∀(pins:List (Addr×Obj)) (s:Shared) (σ:St) (H:Hp) (Q:Option Int->Hp->Prop),bc X pins σ H s->t σ H Q →
  wpAny (model X.prog X.w) X.A (evalPart e X.env) (λu s'=>∃o H',bc X pins σ H' s'/\IsPart u o/\Q o H') X.xe s
def rf:TO:=λ_ H Q=>Q none H
def AX(t:TE):TO:=λσ H Q=>t σ H λx H1=>∃i,x=.int i/\Q (some i) H1
section
variable {X:Cx} {e:Expr} {te:TE} {lo hi:Option Expr} {tl th:TO} {pos p2:Pos}
def DU:PO X none rf:=by
 intro pins s σ H Q I h;rw[evalPart_none];exact Mq ⟨none,H,I,.none,h⟩
def DT(h:PE X e te):PO X (some e) (AX te):=by
 intro pins s σ H Q I hw;rw[evalPart_some];refine dZ (h pins s σ H _ I hw) λu s1 ⟨x,H1,I1,r1,q1⟩=>?_;obtain⟨i,rfl,q⟩:=q1;obtain⟨t,rfl⟩:=r1;exact⟨some i,H1,I1,.int i t,q⟩
def JI(X:Cx)(r:V->Option Int->Option Int->Hp->VK->Prop):Prop:=
 ∀(pins:List (Addr×Obj)) (s:Shared) (σ:St) (H:Hp) (x:V) (v vl vu:Value) (lo hi:Option Int) (sl:Addr) (Q:VK),bc X pins σ H s->RelV x v->s.heap.IsSliceOf sl vl vu .none->IsPart vl lo->IsPart vu hi->r x lo hi H Q →
  ∃T id,typeLookup (.type T) "__getitem__"=pure (some (.builtin id))/\s.TypeIs v T/\wpAny (model X.prog X.w) X.A (getItem v (.ref sl)) (EP X pins σ Q) X.xe s
def JQ(r:V->Option Int->Option Int->Hp->VK->Prop)(te:TE)(tl th:TO):TE:=λσ H Q=>te σ H λx H1=>tl σ H1 λl H2=>th σ H2 λu H3=>r x l u H3 Q
def BK{r:V->Option Int->Option Int->Hp->VK->Prop}(hr:JI X r)(he:PE X e te)(hl:PO X lo tl)(hu:PO X hi th):PE X (.Subscript e (.Slice lo hi none p2) pos) (JQ r te tl th):=by
 intro pins s σ H Q I h;refine Subscript_ (dZ (he pins s σ H _ I h) λv s1 ⟨x,H1,I1,r1,q1⟩=>?_);refine wpAny_Slice (dZ (hl pins s1 σ H1 _ I1 q1) λvl s2 ⟨l,H2,I2,pl,q2⟩=>dZ (hu pins s2 σ H2 _ I2 q2) λvu s3 ⟨u,H3,I3,pu,q3⟩=>?_);rw[evalPart_none];refine Mq ?_;have I4:bc X pins σ H3 { s3 with heap:=s3.heap.push { cls:=.type "slice",data:=.fields #[vl,vu,.none] } }:=I3.kept (t':=s3.toks) λb ob q=>aB _ q;obtain⟨T,id,hT,ht,hg⟩:=hr pins { s3 with heap:=s3.heap.push { cls:=.type "slice",data:=.fields #[vl,vu,.none] } } σ H3 x v vl vu l u s3.heap.objs.size Q I4 r1 (Heap.IsSliceOf.new ..) pl pu q3;show wpAny (model X.prog X.w) X.A (subscriptTail e (.Slice lo hi none p2) v (.ref s3.heap.objs.size)) (EP X pins σ Q) X.xe { s3 with heap:=s3.heap.push { cls:=.type "slice",data:=.fields #[vl,vu,.none] } };exact tail_any (ops:=[.ref s3.heap.objs.size,v]) ht hT hg (by with_unfolding_all rfl)
def nj(xs:List V)(lo hi:Option Int):List V:=(xs.drop (HT.sIx xs.length 0 lo)).take (HT.sIx xs.length xs.length hi-HT.sIx xs.length 0 lo)
def ur(xs:List V)(lo hi:Option Int):(nj xs lo hi).length<=xs.length:=by
 unfold nj;rw[bp,eh];lia
end
def C8(n:Nat)(i:Int):Option Nat:=if 0<=i then (if i<n then some i.toNat else none) else if -(n:Int)<=i then some (i+n).toNat else none
def oj{α:Type}(xs:List α)(i:Int):Option α:=(C8 xs.length i).bind λj=>xs[j]?
def xp{n:Nat}{i:Int}{j:Nat}(h:C8 n i=some j):seqIndex? i n=some j/\j<n/\-(n:Int)<=i/\i<n:=by
 unfold C8 at h;by_cases h0:0<=i
 ·rw[NJ h0] at h;by_cases h1:i<n
  ·rw[NJ h1] at h;have e:i.toNat=j:=bH h;exact⟨by rw[seqIndex_of h0 h1,e],by lia,by lia,h1⟩
  ·rw[NI h1] at h;cases h
 ·rw[NI h0] at h;by_cases h1:-(n:Int)<=i
  ·rw[NJ h1] at h;have e:(i+n).toNat=j:=bH h;exact⟨by rw[seqIndex_neg (by lia) h1,e],by lia,h1,by lia⟩
  ·rw[NI h1] at h;cases h
def tG{α:Type}{xs:List α}{i:Int}{v:α}(h:oj xs i=some v):∃j,seqIndex? i xs.length=some j/\xs[j]? = some v/\j<xs.length/\-(xs.length:Int)<=i/\i<xs.length:=by
 unfold oj at h;cases e:C8 xs.length i with
 | none=>rw[e] at h;cases h
 | some j=>
  rw[e] at h;obtain⟨h1,h2,h3,h4⟩:=xp e;exact⟨j,h1,h,h2,h3,h4⟩
def gB{α:Type}{xs:List α}{j:Nat}{v:α}(h:xs[j]? = some v):oj xs (j:Int)=some v:=by
 have hj:j<xs.length:=(aJ.mp h).1;have e:C8 xs.length (j:Int)=some j:=by
  unfold C8;rw[NJ (by lia),NJ (by lia)];simp
 unfold oj;rw[e];exact h
def yb(b:Expr):Prop:=∀o i,subscripted b false o i=operate [o,i] (getItem o i)
def Gp(X:Cx)(r:R2):Prop:=
 ∀(value slice:Expr) (pins:List (Addr×Obj)) (s:Shared) (σ:St) (H:Hp) (x y:V) (v u:Value) (Q:VK),bc X pins σ H s->RelV x v->RelV y u->r x y H Q →
  subscripted slice false v u=operate [v,u] (getItem v u)->wpAny (model X.prog X.w) X.A (subscriptTail value slice v u) (EP X pins σ Q) X.xe s
def Ij(X:Cx)(id:String)(r:V->List V->Hp->VK->Prop):Prop:=
 ∀(pins:List (Addr×Obj)) (s:Shared) (σ:St) (H:Hp) (x:V) (xs:List V) (v:Value) (us:List Value) (Q:VK),bc X pins σ H s->RelV x v->cJ xs us->r x xs H Q →
  wpAny (model X.prog X.w) X.A (call (.builtin id) (v::us)) (EP X pins σ Q) X.xe s
section
variable {X:Cx} {a b:Expr} {ta tb:TE} {pos:Pos}
def II{r:R2}(hr:Gp X r)(ha:PE X a ta)(hb:PE X b tb)(hs:yb b):PE X (.Subscript a b pos) (AY r ta tb):=by
 intro pins s σ H Q I h;exact Subscript_ (Gg ha hb I h λv u s2 x y H2 I2 rx ry q=>hr a b pins s2 σ H2 x y v u Q I2 rx ry q (hs _ _))
def DC(K:NQ):R2:=λx y H Q=>∃p xs i v,x=.ref p/\y=.int i/\cF K H p xs/\oj xs i=some v/\Q v H
def Fe(K:NQ):R2:=λx y H Q=>∃p xs i v,x=.ref p/\y=.int i/\dm K H p xs/\oj xs i=some v/\Q v H
def IA:R2:=λx y H Q=>∃z i c,x=.str z/\y=.int i/\z.length<=sizeLine/\oj z.cps.toList i=some c/\Q (.str ⟨#[c]⟩) H
def bq:Gp X (DC X.K):=by
 intro value slice pins s σ H x y v u Q I rx ry h hs;obtain⟨p,xs,i,z,rfl,rfl,hq,he,q⟩:=h;cases rx;obtain⟨t,rfl⟩:=ry;obtain⟨its,r,pl,hz⟩:=I.list hq;obtain⟨j,h1,h2,h3,h4,h5⟩:=tG he;obtain⟨w,ew,rw'⟩:=r.get h2;have hl:=r.length;have hn:=mr;have fin:EP X pins σ Q w s:=⟨z,H,I,rw',q⟩
 by_cases h0:0<=i
 ·have hj:i.toNat=j:=by
   rw[seqIndex_of h0 h5] at h1;exact bH h1
  exact item_listR pl.isList h0 (by lia) (by rw[hj];simpa using ew) fin hs
 ·have hj:(i+(its.toArray.size:Int)).toNat=j:=by
   rw[seqIndex_neg (by lia) h4] at h1;rw[aU,<-hl];exact bH h1
  exact subscriptTail_builtinR (x:=w) pl.isList.typeIs slot_list_getitem.lookup
   (wpAny_getItem_list_neg (Q:=λr s'=>r=w/\EP X pins σ Q r s') pl.isList (by lia) (by rw[aU]<;>lia) (by lia) (by rw[hj];simpa using ew) ⟨rfl,fin⟩) hs
def fD:Gp X (Fe X.K):=by
 intro value slice pins s σ H x y v u Q I rx ry h hs;obtain⟨p,xs,i,z,rfl,rfl,hq,he,q⟩:=h;cases rx;obtain⟨t,rfl⟩:=ry;obtain⟨its,r,pl,hz⟩:=I.tuple hq;obtain⟨j,h1,h2,h3,h4,h5⟩:=tG he;obtain⟨w,ew,rw'⟩:=r.get h2;have hl:=r.length;have hn:=mr;have fin:EP X pins σ Q w s:=⟨z,H,I,rw',q⟩
 exact subscriptTail_builtinR (x:=w) pl.typeIs slot_tuple_getitem.lookup
  (getItem_tuple (j:=j) (Q:=λr s'=>r=w/\EP X pins σ Q r s') pl (by lia) (by lia) (by rw[aU,<-hl];exact h1) (by simpa using ew) ⟨rfl,fin⟩) hs
def oS:Gp X IA:=by
 intro value slice pins s σ H x y v u Q I rx ry h hs;obtain⟨z,i,c,rfl,rfl,hz,he,q⟩:=h;obtain⟨t,rfl⟩:=rx;obtain⟨t',rfl⟩:=ry;obtain⟨j,h1,h2,h3,h4,h5⟩:=tG he;have hl:z.cps.toList.length=z.length:=by simp[Str.length]
 rw[hl] at h1 h4 h5;have hn:=mr;exact tail_any (Mv s z t) slot_str_getitem.lookup (getItem_str (c:=c) (by
  have e1:decide (i < -(2 ^ 63:Int))=false:=NL (by lia);have e2:decide (i>=2 ^ 63)=false:=NL (by lia);rw[e1,e2,jz]) (by rw[h1];simpa using h2) ⟨.str ⟨#[c]⟩,H,I.tok _,⟨_,rfl⟩,q⟩) hs
def vt (its:List Value) (n j:Nat) (u:Value):Obj.mapSeq (·.setIfInBounds j u) { cls:=.type "list",data:=.seq its.toArray n }={ cls:=.type "list",data:=.seq (its.set j u).toArray n }:=by
 simp[Obj.mapSeq]
def bc.lst{pins:List (Addr×Obj)}{σ:St}{H:Hp}{s:Shared}{p:Addr}{xs:List V}(I:bc X pins σ H s)(h:H p=some (.lst xs)):
  ∃(its:List Value) (n:Nat),cJ xs its/\s.heap.get? p=some { cls:=.type "list",data:=.seq its.toArray n }/\xs.length<=sizeLine:=by
 obtain⟨z,its,n,r,e⟩:=I.hok p _ h;exact⟨its,n,r,e,z⟩
def bc.lstUpd{pins:List (Addr×Obj)}{σ:St}{H:Hp}{s:Shared}{p:Addr}{xs ys:List V}{its its':List Value}{n n':Nat}{f:Obj->Obj}(I:bc X pins σ H s)(h:H p=some (.lst xs))
  (ho:s.heap.get? p=some { cls:=.type "list",data:=.seq its.toArray n }) (hf:f { cls:=.type "list",data:=.seq its.toArray n }={ cls:=.type "list",data:=.seq its'.toArray n' }) (r:cJ ys its') (hz:ys.length<=sizeLine) (t:Nat) :
  bc X pins σ (upd H p (.lst ys)) { s with heap:=s.heap.update p f,toks:=t }:=by
 have e:(s.heap.update p f).get? p=some { cls:=.type "list",data:=.seq its'.toArray n' }:=by
  rw[gw f ho (by rw[hf]<;>rfl),hf]
 refine I.write (x:=p) (e:=p) (by rw[h];trivial) (.inl rfl) (λb u hb q=>(gh _ _ (cC hb)).trans q) ⟨_,e⟩ ?_;exact⟨hz,its',n',r,e⟩
def Hx:V->V->V->Hp->(Hp->Prop)->Prop:=λo i v H Q=>∃p xs k j,o=.ref p/\i=.int k/\H p=some (.lst xs)/\C8 xs.length k=some j/\Q (upd H p (.lst (xs.set j v)))
def set_list:Gj X Hx:=by
 intro pins s σ H o i v ov iv u Q I ro ri rv h;obtain⟨p,xs,k,j,rfl,rfl,hp,hj,q⟩:=h;cases ro;obtain⟨t,rfl⟩:=ri;obtain⟨its,n,r,ho,hz⟩:=I.lst hp;obtain⟨h1,h2,h3,h4⟩:=xp hj;have hl:=r.length;have hn:=mr;have I':bc X pins σ (upd H p (.lst (xs.set j v))) { s with heap:=s.heap.update p (Obj.mapSeq (·.setIfInBounds j u)) }:=
  I.lstUpd hp ho (vt its n j u) (r.set rv j) (by rw[fG];exact hz) s.toks
 by_cases h0:0<=k
 ·have hk:k.toNat=j:=by
   rw[seqIndex_of h0 h4] at h1;exact bH h1
  exact PySem.W.ki_setAt ho h0 (by lia) (by rw[aU,<-hl];exact h4) (by rw[hk];exact⟨_,I',q⟩)
 ·have hk:(k+(its.toArray.size:Int)).toNat=j:=by
   rw[seqIndex_neg (by lia) h3] at h1;rw[aU,<-hl];exact bH h1
  exact PySem.W.ki_setBack ho (by lia) (by rw[aU,<-hl];exact h3) (by lia) (by rw[hk];exact⟨_,I',q⟩)
def sE(lo hi:Option Int)(n:Nat):(sliceBounds lo hi none n).1=((HT.sIx n 0 lo:Nat):Int)/\(sliceBounds lo hi none n).2.1=((HT.sIx n n hi:Nat):Int)/\(sliceBounds lo hi none n).2.2=1:=by
 refine⟨?_,?_,rfl⟩
 ·cases lo with
  | none=>simp[sliceBounds,HT.sIx]
  | some i=>
   simp only[sliceBounds,HT.sIx,Option.getD_none,show (1:Int) > 0 by decide,NO];by_cases h:i<0
   ·simp only[h,NO]<;>lia
   ·simp only[h,NP]<;>lia
 ·cases hi with
  | none=>simp[sliceBounds,HT.sIx]
  | some i=>
   simp only[sliceBounds,HT.sIx,Option.getD_none,show (1:Int) > 0 by decide,NO];by_cases h:i<0
   ·simp only[h,NO]<;>lia
   ·simp only[h,NP]<;>lia
def qY(its:List Value)(lo hi:Option Int):slicePick its.toArray lo hi none=((its.drop (HT.sIx its.length 0 lo)).take (HT.sIx its.length its.length hi-HT.sIx its.length 0 lo)).toArray:=by
 obtain⟨h1,h2,h3⟩:=sE lo hi its.toArray.size;unfold slicePick;rw[h1,h2,h3];simp only[sliceRange_one,pick_run,aU]<;>rfl
def Aw(K:NQ):V->Option Int->Option Int->Hp->VK->Prop:=λx lo hi H Q=>∃a xs,x=.ref a/\cF K H a xs/\∀p,H p=none->Q (.ref p) (upd H p (.lst (nj xs lo hi)))
def jA:JI X (Aw X.K):=by
 intro pins s σ H x v vl vu lo hi sl Q I rx hs pl pu h;obtain⟨a,xs,rfl,hx,q⟩:=h;cases rx;obtain⟨its,r,ht,hz⟩:=I.list hx;have hlen:=r.length;refine⟨"list",_,slot_list_getitem.lookup,ht.isList.typeIs,?_⟩;refine wpAny_getItem_list_slice ht.isList hs pl pu .none (by simp) ?_ (by rw[aU]<;>lia);rw[qY,<-hlen];refine⟨.ref s.heap.objs.size,_,I.laid (t':=s.toks) (o:=.lst (nj xs lo hi)) (λb ob q=>aB _ q) (aH _) ?_,rfl,q _ (I.hok.fresh (aH _))⟩;exact⟨bJ (ur xs lo hi) hz,_,0,(r.drop (HT.sIx xs.length 0 lo)).take (HT.sIx xs.length xs.length hi-HT.sIx xs.length 0 lo),aP _ rfl⟩
def cB:fq X (.builtin "len") (λxs H Q=>∃p ys,xs=[.ref p]/\(cF X.K H p ys\/dm X.K H p ys)/\Q (.int ys.length) H):=by
 intro pins s σ H xs us Q I r h;obtain⟨p,ys,rfl,hq,q⟩:=h;obtain⟨u,rfl,rx⟩:=Mt r;cases rx;have hn:=mr;rcases hq with hq | hq
 ·obtain⟨its,r',pl,hz⟩:=I.list hq;have hlen:=r'.length;exact Calls.call_len_list pl.isList (by simp only[aU]<;>lia) ⟨.int ys.length,H,I.tok _,⟨s.toks+1,by rw[aU,hlen]⟩,q⟩
 ·obtain⟨its,r',pl,hz⟩:=I.tuple hq;have hlen:=r'.length;exact len_tuple pl (by simp only[aU]<;>lia) ⟨.int ys.length,H,I.tok _,⟨s.toks+1,by rw[aU,hlen]⟩,q⟩
def cI:fq X (.builtin "len") (λxs H Q=>∃z,xs=[.str z]/\z.length<=sizeLine/\Q (.int z.length) H):=by
 intro pins s σ H xs us Q I r h;obtain⟨z,rfl,hz,q⟩:=h;obtain⟨u,rfl,t,rfl⟩:=Mt r;have hn:=mr;exact len_str (by lia) ⟨.int z.length,H,I.tok _,⟨_,rfl⟩,q⟩
def tF:fq X (.type "list") (λxs H Q=>∃p ys,xs=[.ref p]/\(cF X.K H p ys\/dm X.K H p ys)/\∀l,H l=none->Q (.ref l) (upd H l (.lst ys))):=by
 intro pins s σ H xs us Q I r h;obtain⟨p,ys,rfl,hq,q⟩:=h;obtain⟨u,rfl,rx⟩:=Mt r;cases rx;have fin:∀(its:List Value),cJ ys its->ys.length<=sizeLine->∀(h':Heap) (c':Nat),(∀b o',s.heap.get? b=some o'->h'.get? b=some o') →
   h'.get? s.heap.objs.size=some { cls:=.type "list",dict:=none,data:=.seq its.toArray c',slots:=#[] }->EP X pins σ Q (.ref s.heap.objs.size) { s with heap:=h' }:=λits r' hz h' c' kp e=>
  ⟨.ref s.heap.objs.size,_,I.laid (t':=s.toks) kp (aH _) (show cn X.prog X.w _ h' _ (.lst ys) from ⟨hz,its,c',r',e⟩),rfl,q _ (I.hok.fresh (aH _))⟩
 rcases hq with hq | hq
 ·obtain⟨its,r',pl,hz⟩:=I.list hq;have hlen:=r'.length;obtain⟨o,ho,hc,n,hd⟩:=pl.isList;exact call_list_seq p (.inl rfl) ho hc hd (λh' c' kp e=>fin its r' hz h' c' kp e) (by simp only[aU]<;>lia)
 ·obtain⟨its,r',pl,hz⟩:=I.tuple hq;have hlen:=r'.length;obtain⟨o,ho,hc,n,hd⟩:=pl;exact call_list_seq p (.inr rfl) ho hc hd (λh' c' kp e=>fin its r' hz h' c' kp e) (by simp only[aU]<;>lia)
def jw:fq X (.type "tuple") (λxs H Q=>∃p ys,xs=[.ref p]/\((cF X.K H p ys/\∀l,H l=none->Q (.ref l) (upd H l (.tup ys)))\/(dm X.K H p ys/\Q (.ref p) H))):=by
 intro pins s σ H xs us Q I r h;obtain⟨p,ys,rfl,h⟩:=h;obtain⟨u,rfl,rx⟩:=Mt r;cases rx;rcases h with ⟨hq,q⟩ | ⟨hq,q⟩
 ·obtain⟨its,r',pl,hz⟩:=I.list hq;have hlen:=r'.length;refine call_tuple_list pl.isList (λh' kp=>?_) (by simp only[aU]<;>lia);have I1:bc X pins σ H { s with heap:=h' }:=I.kept (t':=s.toks) kp;have I2:bc X pins σ (upd H h'.objs.size (.tup ys)) { s with heap:=h'.push { cls:=.type "tuple",data:=.seq its.toArray } }:=
   I1.laid (t':=s.toks) (λb o e=>aB _ e) (aH _) (show cn X.prog X.w _ _ _ (.tup ys) from ⟨hz,its,r',IsTup.new _ _⟩)
  exact⟨.ref h'.objs.size,_,I2,rfl,q _ (I1.hok.fresh (aH _))⟩
 ·obtain⟨its,r',pl,hz⟩:=I.tuple hq;exact call_tuple_same pl ⟨.ref p,H,I,rfl,q⟩
def Gx (K : NQ) (T : String) (x : V) (H : Hp) : Prop := match x with
 | .str _ => T = "str"
 | .int _ => T = "int"
 | .ref p => (T = "list" ∧ ∃ xs, cF K H p xs) ∨ (T = "tuple" ∧ ∃ o, K.lookup p = some o ∧ o.cls = .type "tuple" ∧ o.dict = none) ∨
   (T = "dict" ∧ ((∃ kvs, H p = some (.dK kvs)) ∨ ∃ kvs, H p = some (.dT kvs))) ∨ (T = "set" ∧ ∃ S n, H p = some (.set S n))
 | _ => False
def AR{pins:List (Addr×Obj)}{σ:St}{H:Hp}{s:Shared}{T:String}{x:V}{v:Value}(I:bc X pins σ H s)(r:RelV x v)(ty:Gx X.K T x H):
  s.TypeIs v T/\∀a,v=.ref a->∃ob,s.heap.get? a=some ob/\ob.dict=none:=by
 cases x with
 | str z=>
  obtain⟨t,rfl⟩:=r;cases (show T="str" from ty);exact⟨Mv s z t,λ_ e=>nomatch e⟩
 | int i=>
  obtain⟨t,rfl⟩:=r;cases (show T="int" from ty);exact⟨typeIs_int s i t,λ_ e=>nomatch e⟩
 | ref p=>
  cases r;rcases ty with ⟨rfl,xs,hq⟩ | ⟨rfl,o,hk,hc,hd⟩ | ⟨rfl,hk⟩ | ⟨rfl,S,n,hk⟩
  ·obtain⟨its,_,pl,_⟩:=I.list hq;refine⟨pl.isList.typeIs,λa e=>?_⟩;cases e;obtain⟨o,n,e,c,hd,_⟩:=pl;exact⟨o,e,hd⟩
  ·refine⟨⟨o,I.kIn p o hk,hc⟩,λa e=>?_⟩;cases e;exact⟨o,I.kIn _ o hk,hd⟩
  ·have z:∃o,s.heap.get? p=some o/\o.ExactDict:=by
    rcases hk with ⟨kvs,hk⟩ | ⟨kvs,hk⟩
    ·obtain⟨_,_,_,_,o,_,_,e,ex,_⟩:=I.hok p _ hk;exact⟨o,e,ex⟩
    ·obtain⟨_,_,_,_,o,_,_,e,ex,_⟩:=I.hok p _ hk;exact⟨o,e,ex⟩
   obtain⟨o,e,ex⟩:=z;refine⟨⟨o,e,ex.1⟩,λa e2=>?_⟩;cases e2;exact⟨o,e,ex.2.1⟩
  ·obtain⟨o,_,_,_,e,ex,_⟩:=I.hok p _ hk;refine⟨⟨o,e,ex.1⟩,λa e2=>?_⟩;cases e2;exact⟨o,e,ex.2.1⟩
 | _=>exact False.elim ty
def F0(K:NQ)(T:String)(r:V->List V->Hp->VK->Prop)(to:TE):TE:=λσ H Q=>to σ H λx H1=>Gx K T x H1/\r x [] H1 Q
def JT(K:NQ)(T:String)(r:V->List V->Hp->VK->Prop)(to:TE)(t:TA):TE:=λσ H Q=>to σ H λx H1=>Gx K T x H1/\t σ H1 λxs H2=>r x xs H2 Q
variable {o e:Expr} {es:List Expr} {to:TE} {t:TA} {name:Str} {apos cpos:Pos} {T id:String} {r:V->List V->Hp->VK->Prop}
def GI (pa:PlainAttrs T) (slot:Slot T name id) (hty:typeOf (.builtin id)=pure (.type "method_descriptor")) (hm:Ij X id r) (ho:PE X o to)
  (hbase:attributeBase o name X.env (eval o X.env)=eval o X.env:=by rfl) (hline:(apos.endLine==cpos.line)=true:=by rfl):PE X (.Call (.Attribute o name apos) [] [] cpos) (F0 X.K T r to):=by
 intro pins s σ H Q I h;refine wpAny_Call_method0_late hbase hline (dZ (ho pins s σ H _ I h) λv s1 ⟨x,H1,I1,r1,ty,q1⟩=>?_);obtain⟨h1,h2⟩:=AR I1 r1 ty;exact⟨T,id,pa,slot,hty,h1,h2,Calls.callWith_builtin rfl (PySem.evalArgs_none (hm pins s1 σ H1 x [] v [] Q I1 r1 .nil q1))⟩
def IJ (pa:PlainAttrs T) (slot:Slot T name id) (hty:typeOf (.builtin id)=pure (.type "method_descriptor")) (hm:Ij X id r) (ho:PE X o to) (ha:PA X (e::es) t)
  (hbase:attributeBase o name X.env (eval o X.env)=eval o X.env:=by rfl)
  (hfew:((backTo cpos (starEach (e::es) X.env)).all (λx=>!x.1)&&(backToKw cpos (keywordEach [] X.env)).all (λx=>x.1.isSome)
   && decide ((e::es).length+([]:List Keyword).length+(if ([]:List Keyword).isEmpty then 0 else 1)<30))=true:=by rfl)
  (hline:(apos.endLine==cpos.line)=true:=by rfl) (hs:starEach (e::es) X.env=(false,eval e X.env)::starEach es X.env:=by rfl) (hplain:(backTo cpos (starEach es X.env)).any (·.1)=false:=by rfl) :
  PE X (.Call (.Attribute o name apos) (e::es) [] cpos) (JT X.K T r to t):=by
 intro pins s σ H Q I h;refine wpAny_Call_method_late hbase hfew hline rfl (dZ (ho pins s σ H _ I h) λv s1 ⟨x,H1,I1,r1,ty,q1⟩=>?_);obtain⟨h1,h2⟩:=AR I1 r1 ty;refine⟨T,id,pa,slot,hty,h1,h2,?_⟩;have hA:=ha cpos pins s1 σ H1 _ I1 q1;rw[hs] at hA ⊢;refine Calls.callWith_builtin (by show (false || (backTo cpos (starEach es X.env)).any (·.1))=false;rw[hplain]<;>rfl) (Calls.evalArgs_plain ?_);exact dZ hA λus s2 ⟨vs,H2,I2,r2,q2⟩=>hm pins s2 σ H2 x vs v us Q I2 r1 r2 q2
/- xs.append(e),list.index on a module's tuple .. are Ij facts of 06m -/
end
def HD(X:Cx)(id:String)(r:V->List V->Hp->VK->Prop):Prop:=
 ∀(pins:List (Addr×Obj)) (s:Shared) (σ:St) (H:Hp) (x:V) (xs:List V) (v:Value) (us:List Value) (Q:VK),bc X pins σ H s->RelV x v->cJ xs us->r x xs H Q →
  wpAny (model X.prog X.w) X.A (call (.builtin id) (v::us)) (EP X pins σ Q) X.xe s
def cJ.one:∀{x:V} {us:List Value},cJ [x] us->∃u,us=[u]/\RelV x u
 | _,_,.cons r .nil=>⟨_,rfl,r⟩
def cJ.two:∀{x y:V} {us:List Value},cJ [x,y] us->∃u v,us=[u,v]/\RelV x u/\RelV y v
 | _,_,_,.cons r (.cons q .nil)=>⟨_,_,rfl,r,q⟩
def cJ.zero:∀{us:List Value},cJ [] us->us=[]
 | _,.nil=>rfl
def cJ.dropLast{xs:List V}{us:List Value}(h:cJ xs us):cJ xs.dropLast us.dropLast:=by
 induction h with
 | nil=>exact .nil
 | cons r t ih=>
  cases t with
  | nil=>exact .nil
  | cons q t'=>exact .cons r ih
def wG{α:Type}(l:List α):l.eraseIdx (l.length - 1)=l.dropLast:=by
 induction l with
 | nil=>rfl
 | cons a r ih=>
  cases r with
  | nil=>rfl
  | cons b r=>
   have e:(a::b::r).length - 1=((b::r).length - 1)+1:=by
    have h1:(a::b::r).length=r.length+2:=rfl;have h2:(b::r).length=r.length+1:=rfl;lia
   rw[e,List.eraseIdx_cons_succ,ih]
   all_goals rfl
section
variable {X:Cx} {pins:List (Addr×Obj)} {σ:St} {H:Hp} {s:Shared} {l:Addr} {xs ys:List V}
def bc.lset{its its':List Value}{n:Nat}{f:Array Value->Array Value}{t':Nat}(I:bc X pins σ H s)(hH:H l=some (.lst xs))
  (e:s.heap.get? l=some { cls:=.type "list",data:=.seq its.toArray n }) (hf:f its.toArray=its'.toArray) (hv:cJ ys its') (hz:ys.length<=sizeLine) :
  bc X pins σ (upd H l (.lst ys)) { s with heap:=s.heap.update l (Obj.mapSeq f),toks:=t' }:=by
 have q:=PySem.IsL.update e f;rw[hf] at q;refine I.write (x:=l) (e:=l) (by rw[hH];exact trivial) (.inl rfl) (λb' u hb hu=>(gh s.heap (Obj.mapSeq f) (cC hb)).trans hu) ⟨_,q⟩ ?_;exact⟨hz,its',_,hv,q⟩
def bc.lnew{its:List Value}{t':Nat}(I:bc X pins σ H s)(hv:cJ ys its)(hz:ys.length<=sizeLine):
  bc X pins σ (upd H s.heap.objs.size (.lst ys)) { s with heap:=s.heap.push { cls:=.type "list",data:=.seq its.toArray },toks:=t' }:=
 I.laid (λ_ _ q=>aB _ q) (aH _) ⟨hz,its,0,hv,aP _ rfl⟩
def bc.fresh(I:bc X pins σ H s):H s.heap.objs.size=none:=I.hok.fresh (aH _)
def bc.lstM (I:bc X pins σ H s) (hH:H l=some (.lst xs)):xs.length<=sizeLine/\∃(its:List Value) (n:Nat),cJ xs its/\xs.length=its.length/\s.heap.get? l=some { cls:=.type "list",data:=.seq its.toArray n }:=by
 obtain⟨z,its,n,r,e⟩:=I.hok l _ hH;exact⟨z,its,n,r,r.length,e⟩
end
section
variable {X:Cx}
def xc:V->List V->Hp->VK->Prop:=λx vs H Q=>∃l xs y,x=.ref l/\vs=[y]/\H l=some (.lst xs)/\xs.length<sizeLine/\Q .non (upd H l (.lst (xs++[y])))
def iL:HD X "list.append" xc:=by
 intro pins s σ H x vs v us Q I rx rv h;obtain⟨l,xs,y,rfl,rfl,hH,hz,q⟩:=h;cases rx;obtain⟨u,rfl,ru⟩:=rv.one;obtain⟨z,its,n,r,hl,e⟩:=I.lstM hH;refine Mw F.slot_list_append ⟨_,e,rfl⟩ F.entry_list_append (F.args_list_append_2 _ _) (PySem.list_append l its.toArray n u (by rw[aU];lia)) ⟨e,?_⟩;refine⟨.non,_,I.lset (its':=its++[u]) hH e (by simp) (r.append (.cons ru .nil)) ?_,rfl,q⟩;rw[af,fQ];lia
def Hy:V->List V->Hp->VK->Prop:=λx vs H Q=>∃l xs y,x=.ref l/\vs=[]/\H l=some (.lst xs)/\xs[xs.length - 1]? = some y/\Q y (upd H l (.lst xs.dropLast))
def Bj:HD X "list.pop" Hy:=by
 intro pins s σ H x vs v us Q I rx rv h;obtain⟨l,xs,y,rfl,rfl,hH,hy,q⟩:=h;cases rx;have hus:=rv.zero;subst hus;obtain⟨z,its,n,r,hl,e⟩:=I.lstM hH;obtain⟨u,hu,ru⟩:=r.get hy;have hy':its.toArray[its.toArray.size - 1]? = some u:=by
  show its.toArray[its.length - 1]? = some u;rw[<-Array.getElem?_toList,<-hl];exact hu
 refine Mw F.slot_list_pop ⟨_,e,rfl⟩ F.entry_list_pop (F.args_list_pop_1 _) (MeetsSeq.list_pop_last l its.toArray n u hy' (by rw[aU];lia)) ⟨e,?_⟩;refine⟨y,_,I.lset (its':=its.dropLast) hH e ?_ r.dropLast ?_,ru,q⟩
 ·show its.toArray.eraseIdxIfInBounds (its.toArray.size - 1)=its.dropLast.toArray;rw[aU,List.eraseIdxIfInBounds_toArray,wG]
 ·rw[List.length_dropLast];lia
def IC:R2:=λx y H Q=>∃l b xs zs,x=.ref l/\y=.ref b/\H l=some (.lst xs)/\H b=some (.lst zs)/\xs.length+zs.length<=sizeLine/\∀p,H p=none->Q (.ref p) (upd H p (.lst (xs++zs)))
def ki:kR X (binaryOp .Add) IC:=by
 intro pins s σ H x y v u Q I rx ry h;obtain⟨l,b,xs,zs,rfl,rfl,hH,hB,hz,q⟩:=h;cases rx;cases ry;obtain⟨z,its,n,r,hl,e⟩:=I.lstM hH;obtain⟨z2,its2,n2,r2,hl2,e2⟩:=I.lstM hB;refine PySem.P.add_list e e2 ?_ (by rw[aU,aU];lia);have ea:its.toArray++its2.toArray=(its++its2).toArray:=by simp
 rw[ea];exact⟨.ref _,_,I.lnew (t':=s.toks) (r.append r2) (by rw[af];lia),rfl,q _ I.fresh⟩
end
section
set_option maxRecDepth 100000 in
end
end L2
namespace Att
open PySem PySem.W PySem.Calls PyProof.Rows
def oi{P:Params}{h:Heap}:∀(ns:List Int) (vs:List Value),WellAll P h vs (ns.map WData.int)->IntsAre vs ns:=by
 intro ns
 induction ns with
 | nil=>
  intro vs w;rw[fk] at w;cases w;exact .nil
 | cons n ns ih=>
  intro vs w;rw[aY] at w;cases w with
  | cons a b=>
   cases a;exact .cons _ _ (ih _ b)
def yp{l:OpenLaw}{n:Nat}(hn:l.most=some n){P:Params}{h:Heap}{args:List WData}{vals:List Value}
  (hpre:l.row.toRowW.claim.pre args=true) (hwl:WellAll P h vals args) :
  ∃a vs ns,vals=[Value.ref a]/\args=[WData.list (ns.map WData.int)]/\h.get? a=some { cls:=.type "list",data:=.seq vs.toArray }/\IntsAre vs ns/\ns.length<=n:=by
 have hsh:WShape.hasAll [] args [.list .int]=true:=(pre_splitW hpre).1;have hc:l.pre.holds [] { args:=args }=true:=(pre_splitW hpre).2;obtain⟨d,r,rfl,h1,h2⟩:=hasAllW_cons hsh;obtain rfl:=hasAllW_nil h2;obtain⟨xs,rfl,h3⟩:=hasW_list h1;obtain⟨ns,rfl⟩:=items_int h3;have hlen:ns.length<=n:=by
  unfold OpenLaw.pre at hc;have h4:(WTm.not (.lt (.lit (.int (n:Int))) (.len (.arg 0)))).holds [] { args:=[.list (ns.map .int)] }=true:=by
   have h4:=(holds_andW hc).1;rw[hn] at h4;exact h4
  have h5:=condW_of h4 (w_not (w_lt w_lit (w_len_list (w_arg rfl))));rw[aE] at h5;refine Nat.le_of_not_lt λq=>?_;have q':(n:Int)<((ns.length:Nat):Int):=by lia
  first
   | (rw[NM q'] at h5;exact absurd h5 (by decide))
   | (simp at h5;lia)
 cases hwl with
 | cons w1 w2=>
  cases w2;cases w1 with
  | list ho hall=>exact⟨_,_,ns,rfl,rfl,ho,oi ns _ hall,hlen⟩
def zA(l:OpenLaw)(args:List WData):l.row.toRowW.claim.post args (.bool true) args=true:=
 postW_of (r:=l.row.toRowW) (X:=(true==true))
  (show WShape.has [] (.bool true) .bool=true by first | rfl | decide | simp[WShape.has,WShape.arms,WShape.armsAll])
  (show (WTm.eq .res (.lit (.bool true))).value [] { args:=args,res:=some (.bool true),after:=args }=some (.bool (true==true)) from w_eq_bool (w_res rfl) w_lit) rfl
def attach_call{l:OpenLaw}{n:Nat}{q:Program}{loose:List Str}{XP:(Str->Option Value)->Heap->Prop}{YP:World->Heap->Prop}{d:DefRec}
  (hn:l.most=some n) (hdf:d.params.defaults=[])
  (call:∀(w:World) (s₀ s₁:Shared) (mg mb:Str->Option Value) (fa:Addr) (o:Obj) (pm cd doc:Value) (a:Addr) (vs:List Value) (ns:List Int),
   Ground q loose [] XP w s₀ mg mb s₁.heap->YP w s₁.heap →
   s₁.heap.get? fa=some o->o.data=.func (docDef d.name d.params d.body d.scope pm cd doc)->s₁.heap.CodeRec cd d.name->mg d.name=some (.ref fa) →
   s₁.heap.get? a=some { cls:=.type "list",data:=.seq vs.toArray }->IntsAre vs ns->ns.length<=n->s₁.gens=#[] →
   codeAny (model l.prog w) callerA (.call (.ref fa) ⟨[.ref a],[]⟩) (λr s'=>r=.ok (.ret (.bool true))/\OldK s₁.heap s'.heap/\s'.os=s₁.os/\AllBare s'.gens) s₁) :
  WalkO q loose XP YP l.row.toRowW d [] (λf vs=>PySem.call f vs):=by
 intro w s₀ s₁ mg mb G Y fa o pm cd doc dV kV ho hd hcd hD hmg hg args vals as hpre hlay hrd hwl hlo;obtain rfl:dV=.none:=Dflts.none hD hdf;obtain rfl:kV=.none:=Dflts.noKw hD;obtain⟨a,vs,ns,rfl,rfl,hobj,hints,hlen⟩:=yp hn hpre hwl;refine enter_call (codeAny_mono (call w s₀ s₁ mg mb fa o pm cd doc a vs ns G Y ho (fd_plain hd) hcd hmg hobj hints hlen hg) λr s' hq=>?_);obtain⟨rfl,h2,h3,h4⟩:=hq;exact⟨.inl ⟨.bool true,.bool true,[],rfl,λ_=>rfl,.bool true,zA l _,λ_=>⟨List.Pairwise.nil,λ_ hm=>(nomatch hm)⟩⟩,h2,h3,h4⟩
end Att
namespace L2
open PySem PySem.Spec PyProof.Rows
def mI:∀{vs:List Value} {ns:List Int},IntsAre vs ns->cJ (ns.map V.int) vs
 | _,_,.nil=>.nil
 | _,_,.cons n t h=>.cons ⟨t,rfl⟩ (mI h)
def Gk(H:Hp):Prop:=∀b,H b=none\/∃o xs,H b=some (.frz o (.lst xs))
def Bs{P:Program}{w:World}{K:NQ}{mg mb:Str->Option Value}{CX:C6}{k:Nat}{fa a:Addr}{fd:FuncData}{x:Str}{sp:Sp}{s₁:Shared}{vs:List Value}{ns:List Int}
  (KX:K.In s₁.heap) (hns:s₁.heap.Ns mainGlobals mg) (hb:s₁.heap.Ns builtinsNs mb) (hbb:∀x:Str,x≠"__name__"->mb x=bootBuiltins x) (hlim:s₁.heap.NoLimit) (hg:s₁.gens=#[])
  (ha:s₁.heap.get? a=some { cls:=.type "list",data:=.seq vs.toArray }) (hi:IntsAre vs ns) (hl:ns.length<=sizeLine) (hr:j9 k callerA)
  (F:∀base:Heap,K.In base->base.Ns mainGlobals mg->qW P w K mg base CX k fa fd [x] sp) (hbind:∀(s:Shared) (u:Value),BindsTo s fd ⟨[u],[]⟩ [(x,u)])
  (hsp:∀H:Hp,Gk H->cF K H a (ns.map V.int)->sp [.ref a] H (λv _=>v=.bl true) λ_ _ _=>False)
  (hCX:∀H e s',CX [] H s₁ (λ_ _ _=>False) e s'->False) :
  codeAny (model P w) callerA (.call (.ref fa) ⟨[.ref a],[]⟩) (λr s'=>r=.ok (.ret (.bool true))/\OldK s₁.heap s'.heap/\s'.os=s₁.os/\AllBare s'.gens) s₁:=by
 have rv:=mI hi;have lenV:=hi.length;have core:∀H:Hp,Gk H->cF K H a (ns.map V.int)->nI P w H s₁.heap->(∀b,H b≠none->b=a)->(H a≠none->K.lookup a=none) →
   codeAny (model P w) callerA (.call (.ref fa) ⟨[.ref a],[]⟩) (λr s'=>r=.ok (.ret (.bool true))/\OldK s₁.heap s'.heap/\s'.os=s₁.os/\AllBare s'.gens) s₁:=by
  intro H hO hS hok hA hK;have base_of:∀{b:Addr} {o:Obj},s₁.heap.get? b=some o->H b=none->(sn s₁.heap H).get? b=some o:=λe n=>CB e n;have noA:∀{b:Addr} {o:Obj} {es:Array DictEntry} {ep:Nat},s₁.heap.get? b=some o->o.data=.dict es ep->H b=none:=fun {b o es ep} e d=>by
   cases q:H b with
   | none=>rfl
   | some u=>
    have e':b=a:=hA b (by rw[q];simp);subst e';rw[ha] at e;cases e;have d':Data.seq vs.toArray _=Data.dict es ep:=d;cases d'
  have nsK:∀{b:Addr} {m:Str->Option Value},s₁.heap.Ns b m->(sn s₁.heap H).Ns b m:=fun {b m} ⟨o,es,ep,e,d,r⟩=>⟨o,es,ep,base_of e (noA e d),d,r⟩
  have hKb:K.In (sn s₁.heap H):=λb o e=>base_of (KX b o e) (by
   cases q:H b with
   | none=>rfl
   | some u=>
    have e':b=a:=hA b (by rw[q];simp);subst e';rw[hK (by rw[q];simp)] at e;cases e)
  have hM:Mod K mg (sn s₁.heap H):=⟨hKb,nsK hns,⟨mb,nsK hb,hbb⟩,let ⟨mc,h1,h2⟩:=hlim;⟨mc,nsK h1,h2⟩⟩
  have e0:E5 P w K mg (sn s₁.heap H) callerA [] s₁ H:=⟨rfl,hM,λb o e=>Df e,oB (zR _ _),trivial,λb hb=>absurd (show b∈([]:List Addr) from hb) (by simp),hok,.of_eq hg⟩
  refine codeAny_mono ((F _ hKb (nsK hns)).run callerA [] s₁ H ⟨[.ref a],[]⟩ [.ref a] [.ref a] _ _ hr e0 (hbind s₁ (.ref a)) (.cons rfl .nil) (hsp H hO hS)) λr s' h=>?_;cases r with
  | error e=>exact(hCX H e s' h).elim
  | ok fl=>
   cases fl with
   | next=>exact False.elim h
   | brk=>exact False.elim h
   | cont=>exact False.elim h
   | ret u=>
    obtain⟨v,H',os,bare,un,hok',r',q⟩:=h;have q':v=.bl true:=q;subst q';obtain rfl:u=Value.bool true:=r';refine⟨rfl,OldK.of_keep λb o e=>?_,os,bare⟩;cases q:H b with
    | none=>exact un.keep b o e q (by intro z;exact absurd (show b∈([]:List Addr) from z) (by simp)) (by simp)
    | some u=>
     rcases hO b with z | ⟨ob,xs,z⟩
     ·rw[q] at z;cases z
     ·have z2:=un.frzs b ob _ z;obtain⟨e1,_⟩:=hok b _ z;obtain⟨e2,_⟩:=hok' b _ z2;rw[e] at e1;cases e1;exact e2
 cases hk:K.lookup a with
 | some o=>
  have e:=KX a o hk;rw[ha] at e;cases e;refine core (λ_=>none) (λ_=>.inl rfl) (.inr ⟨_,vs.toArray,_,hk,rfl,rfl,rfl,by rw[aU,lenV];exact hl,by simpa using rv⟩) (λb u z=>by have z':(none:Option HO)=some u:=z;cases z') (λb z=>absurd rfl z) λz=>absurd rfl z
 | none=>
  refine core (λb=>if b=a then some (.frz { cls:=.type "list",data:=.seq vs.toArray } (.lst (ns.map V.int))) else none) (λb=>?_) (.inl (.inr ⟨{ cls:=.type "list",data:=.seq vs.toArray },NJ rfl⟩)) (λb u z=>?_) (λb z=>?_) λ_=>hk
  ·by_cases hb:b=a
   ·exact .inr ⟨_,_,NJ hb⟩
   ·exact .inl (NI hb)
  ·by_cases hb:b=a
   ·have z':=(NJ hb).symm.trans z;cases z';subst hb;exact⟨ha,by rw[aE];exact hl,vs,_,rv,ha⟩
   ·have z':=(NI hb).symm.trans z;cases z'
  ·by_cases hb:b=a
   ·exact hb
   ·exact absurd (NI hb) z
abbrev Jl {K:NQ} {h:Heap} (_:K.In h):NQ:=K
def wX{l:PySem.W.OpenLaw}{n k:Nat}{q:Program}{loose:List Str}{XP:(Str->Option Value)->Heap->Prop}{YP:World->Heap->Prop}{d:DefRec}{K:Params->NQ}{CX:World->C6}{sp:World->Sp}{x:Str}
  (hn:l.most=some n) (hn2:n<=sizeLine) (hdf:d.params.defaults=[]) (hr:j9 k callerA)
  (hY:∀(w:World) (h:Heap),YP w h->(K w.params).In h)
  (F:∀(w:World) (mg:Str->Option Value) (fa:Addr) (h:Heap),(K w.params).In h->h.Ns mainGlobals mg->mg d.name=some (.ref fa) →
   ∃fd:FuncData,(∀(s:Shared) (u:Value),BindsTo s fd ⟨[u],[]⟩ [(x,u)]) ∧
    ∀base:Heap,(K w.params).In base->base.Ns mainGlobals mg->qW l.prog w (K w.params) mg base (CX w) k fa fd [x] (sp w))
  (hsp:∀(w:World) (H:Hp) (a:Addr) (ns:List Int),ns.length<=n->Gk H->cF (K w.params) H a (ns.map V.int)->sp w [.ref a] H (λv _=>v=.bl true) λ_ _ _=>False)
  (hCX:∀(w:World) (H:Hp) (s:Shared) (e:Value) (s':Shared),CX w [] H s (λ_ _ _=>False) e s'->False) :
  PySem.W.WalkO q loose XP YP l.row.toRowW d [] (λf vs=>PySem.call f vs):=by
 refine Att.attach_call hn hdf λw s₀ s₁ mg mb fa o pm cd doc a vs ns G Y ho hd hcd hmg hobj hints hlen hg=>?_;have KX:=hY w _ Y;obtain⟨fd,hb,hF⟩:=F w mg fa _ KX G.T.g hmg;exact Bs KX G.T.g G.T.b G.T.builtins G.T.nolimit hg hobj hints (bJ hlen hn2) hr hF hb (λH hO hS=>hsp w H a ns hlen hO hS) λH e s'=>hCX w H s₁ e s'
end L2
/- THE LAST THEOREM (shape;LID,My.* are yours):
   My.Adr: a structure of the addresses that your layer names (classes,functions);My.Txt K t: a structure (Prop) of the equations over K;
   My.txt_mk:{K} {implicit addresses ..} (e1:nsIn K mainGlobals "law"=some (some (.ref f))) (e2:K.lookup f=some ⟨oc,od,.func (fnOf "law" "law" params body scope dV kV doc pm an cdv ct),sl⟩) (e3:codeIn K cdv "law"=true) ..:∃t,My.Txt K t
set_option maxRecDepth 100000 in
set_option maxHeartbeats 0 in
theorem PySem.Challenge.cw_LID_holds : PySem.Challenge.rw_LID.Holds := by
 w_on; o_law; k_head; (case hw => w_witness2)
 k_fill
 refine L2.wX (l := PySem.Challenge.rw_LID) (n := 63) (k := 40) (x := "script") (CX := λw => ..) (sp := λ_ => My.sp_law) rfl (by decide) rfl ⟨rfl, by decide, by decide⟩ (λw h Y => PySem.W.kIn_of Y) ?F ?S ?C
 case F =>
  intro w mg fa h KX G hmg;have T : ∃t, My.Txt (L2.Jl KX) t := by
   dsimp only [L2.Jl]                          -- K must stand as «<heap const> w.params» for k_is;refine' My.txt_mk ?e1 ?e2 ?e3 ..
   (case e1 => PySem.W.k_is)                    -- in the order: a name -> its address -> its object -> its parts
   (case e2 => PySem.W.k_is)
   ..
  obtain ⟨t, T⟩ := T;have e0 := hmg.symm.trans (de KX G T.law);cases e0                                       -- fa is the law's own address;exact ⟨_, λs u => .of_eq rfl, λbase kb nb => My.law_fn T kb nb⟩     -- if «.of_eq rfl» comes too early: refine' ⟨_, ?b, λbase kb nb => My.law_fn T kb nb⟩; exact λs u => .of_eq rfl
 case S => exact λw H a ns hl hO hS => ..
 case C => exact ..
(the tactic k_is has no namespace: write k_is) -/
namespace L2
open PySem PySem.Spec PyProof.Rows
def jh(s:Stmt):Arguments:=match s with
 | .FunctionDef _ a _ _ _ _ _ _ _ _=>a
 | _=>{ posonlyargs:=[],args:=[],vararg:=none,kwonlyargs:=[],kw_defaults:=[],kwarg:=none,defaults:=[] }
def iX(s:Stmt):List Stmt:=match s with
 | .FunctionDef _ _ b _ _ _ _ _ _ _=>b
 | _=>[]
def am(s:Stmt):Scope:=match s with
 | .FunctionDef _ _ _ _ _ _ sc _ _ _=>sc
 | _=>{ kind:=.function,names:=[],isGenerator:=false,isCoroutine:=false }
abbrev Cb:C6:=λ_ _ _ _ _ _=>False
abbrev E0:XK:=λ_ _ _=>False
def IL{X:Cx}:wU Cb X E0:=λ_ _ _ _ _ _ _ h=>h.elim
structure Ca (K:NQ) (x qual:Str) (st:Stmt) (f:Addr) (fd:FuncData):Prop where
 ex:∃ (oc:Value) (od:Option Addr) (kV doc pm:Value) (an:Option Addr) (cdv ct:Value) (osl:Array (Option Value)),
  fd=PySem.W.fnOf x qual (jh st) (iX st) (am st) .none kV doc pm an cdv ct/\K.lookup f=some ⟨oc,od,.func fd,osl⟩/\PySem.W.codeIn K cdv qual=true
 kp:PySem.W.keepIn K (.ref f)=true
section
variable {P:Program} {w:World} {K:NQ} {mg:Str->Option Value} {base:Heap}
def Ca.ok{x qual:Str}{st:Stmt}{f:Addr}{fd:FuncData}{N ps:List Str}{k:Nat}{sp:Sp}(F:Ca K x qual st f fd)(S:bU N ps (am st))(len:∀vs H Q E,sp vs H Q E->vs.length=ps.length)
  (hbody:∀(cdv:Value) (A:Around) (outer:List Env) (s:Shared) (H:Hp) (vs:List V) (Q:VK) (E:XK),j9 k (A.deeper (envOfC qual (am st) s.heap.objs.size f cdv))->sp vs H Q E →
   ∃t,vC (uq Cb P w K mg base N qual (am st) f cdv A outer s H E).nox (iX st) t/\t { nx:=λ_ H'=>Q .non H',rt:=Q } (start N vs) H):qW P w K mg base Cb (k+1) f fd ps sp:=by
 obtain⟨oc,od,kV,doc,pm,an,cdv,ct,osl,rfl,lk,hcd⟩:=F.ex;refine Ia lk hcd S len λA outer s H vs Q E hr hsp=>?_;obtain⟨t,h,q⟩:=hbody cdv A outer s H vs Q E hr hsp;exact⟨t,h.nox,q⟩
def Ca.binds{x qual:Str}{st:Stmt}{f:Addr}{fd:FuncData}{ps:List Str}(F:Ca K x qual st f fd)
  (h:∀(kV doc pm:Value) (an:Option Addr) (cdv ct:Value) (us:List Value),us.length=ps.length->bindArgs (PySem.W.fnOf x qual (jh st) (iX st) (am st) .none kV doc pm an cdv ct) ⟨us,[]⟩=pure (ps.zip us)):Binds K fd ps []:=by
 obtain⟨oc,od,kV,doc,pm,an,cdv,ct,osl,rfl,lk,hcd⟩:=F.ex;exact .all (h kV doc pm an cdv ct)
def Gc{x qual:Str}{st:Stmt}{f:Addr}{oc:Value}{od an:Option Addr}{osl:Array (Option Value)}{kV doc pm cdv ct:Value}(l:K.lookup f=some ⟨oc,od,.func (PySem.W.fnOf x qual (jh st) (iX st) (am st) .none kV doc pm an cdv ct),osl⟩)
  (c:PySem.W.codeIn K cdv qual=true) (k:PySem.W.keepIn K (.ref f)=true):Ca K x qual st f (PySem.W.fnOf x qual (jh st) (iX st) (am st) .none kV doc pm an cdv ct):=⟨⟨oc,od,kV,doc,pm,an,cdv,ct,osl,rfl,l,c⟩,k⟩
end
def be{n:Nat}(h:n<=1000):n<sizeLine:=Nat.lt_of_le_of_lt h (by decide)
section
variable {X:Cx}
def pv (i:Nat) {x:Str} {pos:Pos} (hN:X.N[i]? = some x:=by rfl) (hv:HA X.env.scope x:=by first | exact Or.inl rfl | exact Or.inr (Or.inl rfl) | exact Or.inr (Or.inr rfl)) (hd:(x==("__debug__":Str))=false:=by decide)
  (hcd:(x==("__classdict__":Str))=false:=by decide):PE X (.Name x pos) (pO i):=Fz hN hv hd hcd
end
def G0{A B:Prop}(h:B):if false=true then A else B:=by
 rw[NI bC];exact h
def GZ{A B:Prop}(h:A):if true=true then A else B:=by
 rw[NJ rfl];exact h
def gX{c A B:Prop} [Decidable c] (h1:c->A) (h2:¬c->B):if c then A else B:=by
 by_cases h:c
 ·rw[NJ h];exact h1 h
 ·rw[NI h];exact h2 h
def aV(H H':Hp):Prop:=∀b o,H b=some o->H' b=some o
def aV.refl(H:Hp):aV H H:=λ_ _ h=>h
def aV.trans{H H1 H2:Hp}(a:aV H H1)(b:aV H1 H2):aV H H2:=λc o h=>b c o (a c o h)
def aV.free{H H':Hp}(e:aV H H'){l:Addr}(h:H' l=Option.none):H l=Option.none:=by
 cases q:H l with
 | none=>rfl
 | some o=>
  rw[e l o q] at h;cases h
def aV.seq{K:NQ}{H H':Hp}{a:Addr}{xs:List V}(e:aV H H')(h:cF K H a xs):cF K H' a xs:=by
 rcases h with (h | ⟨o,h⟩) | h
 ·exact .inl (.inl (e _ _ h))
 ·exact .inl (.inr ⟨o,e _ _ h⟩)
 ·exact .inr h
section
variable {κ:Type} [DecidableEq κ]
def gY(kvs:List (κ×V))(k:κ):Option V:=(kvs.find? λkv=>decide (kv.1=k)).map (·.2)
def putK(kvs:List (κ×V))(k:κ)(v:V):List (κ×V):=
 if (kvs.any λkv=>decide (kv.1=k))=true then kvs.map (λkv=>if kv.1=k then (kv.1,v) else kv) else kvs++[(k,v)]
def fW{p:κ×V}{r:List (κ×V)}{k:κ}(e:p.1=k):gY (p::r) k=some p.2:=by simp[gY,fH,e]
def fX{p:κ×V}{r:List (κ×V)}{k:κ}(e:¬p.1=k):gY (p::r) k=gY r k:=by simp[gY,fH,e]
def nO(k:κ):∀kvs:List (κ×V),(kvs.any λkv=>decide (kv.1=k))=(gY kvs k).isSome
 | []=>rfl
 | p::r=>by
  rw[fz];by_cases e:p.1=k
  ·simp only[fW e,NM e,Bool.true_or,Option.isSome_some]
  ·rw[fX e,NL e,Bool.false_or];exact nO k r
def tR(k j:κ)(y:V):∀kvs:List (κ×V),gY (kvs.map λkv=>if kv.1=k then (kv.1,y) else kv) j=(gY kvs j).map λx=>if j=k then y else x
 | []=>rfl
 | p::r=>by
  have ih:=tR k j y r;rw[aY];by_cases h:p.1=k
  ·rw[NJ h];by_cases e:p.1=j
   ·rw[fW (p:=(p.1,y)) e,fW e,gC,NJ (e.symm.trans h)]
   ·rw[fX (p:=(p.1,y)) e,fX e,ih]
  ·rw[NI h];by_cases e:p.1=j
   ·rw[fW (p:=p) e,fW e,gC,NI (λz=>h (e.trans z))]
   ·rw[fX (p:=p) e,fX e,ih]
def qt(k j:κ)(y:V):∀kvs:List (κ×V),gY kvs k=none->gY (kvs++[(k,y)]) j=if j=k then some y else gY kvs j
 | [],_=>by
  by_cases e:k=j
  ·rw[NJ e.symm];exact fW (p:=(k,y)) e
  ·rw[NI (λz=>e z.symm)];exact fX (p:=(k,y)) e
 | p::r,hn=>by
  rw[eu];have hk:¬p.1=k:=λz=>by rw[fW z] at hn;cases hn
  rw[fX hk] at hn;have ih:=qt k j y r hn;by_cases e:p.1=j
  ·rw[fW e,fW e,NI (λz=>hk (e.trans z))]
  ·rw[fX e,fX e,ih]
def pK(kvs:List (κ×V))(k j:κ)(y:V):gY (putK kvs k y) j=if j=k then some y else gY kvs j:=by
 unfold putK;by_cases a:(kvs.any λkv=>decide (kv.1=k))=true
 ·rw[NJ a,tR];rw[nO] at a;by_cases e:j=k
  ·obtain⟨x,hx⟩:=jx.mp a;rw[NJ e,e,hx,gC,NJ rfl]
  ·rw[NI e];cases gY kvs j with
   | none=>rfl
   | some x=>rw[gC,NI e]
 ·rw[NI a];refine qt k j y kvs ?_;rw[nO] at a;cases q:gY kvs k with
  | none=>rfl
  | some x=>rw[q] at a;exact(a rfl).elim
def cj(kvs:List (κ×V))(k:κ)(v:V):(putK kvs k v).length<=kvs.length+1:=by
 unfold putK
 split
 ·rw[aE];lia
 ·rw[af,cM,lJ];lia
def qV.isSome_eq{o:Option V}{u:Option Value}(r:qV o u):o.isSome=u.isSome:=by
 cases o with
 | none=>cases u with
  | none=>rfl
  | some _=>exact(show False from r).elim
 | some _=>cases u with
  | none=>exact(show False from r).elim
  | some _=>rfl
def KV.val{kvs:List (κ×V)}{vs:List (κ×Value)}(r:KV kvs vs)(k:κ):qV (gY kvs k) (valueAt vs k):=by
 unfold KV at r
 induction r with
 | nil=>exact True.intro
 | @cons p q ps qs h t ih=>
  obtain⟨h1,h2⟩:=h;by_cases e:p.1=k
  ·have e':q.1=k:=h1.symm.trans e;have b:valueAt (q::qs) k=some q.2:=by simp[valueAt,fH,e']
   rw[fW e,b];exact h2
  ·have e':¬q.1=k:=λz=>e (h1.trans z);have b:valueAt (q::qs) k=valueAt qs k:=by simp[valueAt,fH,e']
   rw[fX e,b];exact ih
def KV.any{kvs:List (κ×V)}{vs:List (κ×Value)}(r:KV kvs vs)(k:κ):(kvs.any λkv=>decide (kv.1=k))=vs.any λkv=>decide (kv.1=k):=by
 unfold KV at r
 induction r with
 | nil=>rfl
 | cons h t ih=>rw[fz,fz,ih,h.1]
def KV.repl{kvs:List (κ×V)}{vs:List (κ×Value)}(r:KV kvs vs)(k:κ){y:V}{u:Value}(ry:RelV y u):
  KV (kvs.map λkv=>if kv.1=k then (kv.1,y) else kv) (vs.map λkv=>if kv.1=k then (kv.1,u) else kv):=by
 unfold KV at r ⊢
 induction r with
 | nil=>exact .nil
 | @cons p q ps qs h t ih=>
  rw[aY,aY];refine .cons ?_ ih;obtain⟨h1,h2⟩:=h;by_cases e:p.1=k
  ·rw[NJ e,NJ (h1.symm.trans e)];exact⟨h1,ry⟩
  ·rw[NI e,NI (λz=>e (h1.trans z))];exact⟨h1,h2⟩
def KV.put{kvs:List (κ×V)}{vs:List (κ×Value)}(r:KV kvs vs)(k:κ){y:V}{u:Value}(ry:RelV y u):KV (putK kvs k y) (stored vs k u):=by
 unfold putK stored;rw[r.any k];by_cases e:(vs.any λkv=>decide (kv.1=k))=true
 ·rw[NJ e,NJ e];exact r.repl k ry
 ·rw[NI e,NI e];exact Paired.snoc r ⟨rfl,ry⟩
def KV.length{kvs:List (κ×V)}{vs:List (κ×Value)}(r:KV kvs vs):kvs.length=vs.length:=cv r
end
def uf{P:Program}{w:World}{k:Key}{u:Value}(r:RelV (kV k) u):(eW P w).is k u=true:=by
 cases k with
 | inl i=>obtain⟨t,e⟩:=(show ∃t,u=Value.int i t from r);subst e;exact uc P w i t
 | inr x=>obtain⟨t,e⟩:=(show ∃t,u=Value.str x t from r);subst e;exact u9 P w x t
def rK{P:Program}{w:World}:∀{ks:List Key} {us:List Value},cJ (ks.map kV) us->ItemsAre (eW P w) ks us
 | [],_,r=>by rw[fk] at r;cases r;exact .nil
 | k::ks,_,r=>by
  rw[aY] at r;cases r with
  | cons h t=>exact .cons (uf h) (rK t)
abbrev KT (H:Hp):List (List Key×V)->List (List Key×Addr×Value)->Prop:=Paired λp q=>p.1=q.1/\H q.2.1=some (.tup (p.1.map kV))/\RelV p.2 q.2.2
def KT.val{H:Hp}{kvs:List (List Key×V)}{xs:List (List Key×Addr×Value)}(r:KT H kvs xs)(k:List Key):qV (gY kvs k) ((atKey xs k).map (·.2)):=by
 induction r with
 | nil=>exact True.intro
 | @cons p q ps qs h t ih=>
  obtain⟨h1,_,h2⟩:=h;by_cases e:p.1=k
  ·have e':q.1=k:=h1.symm.trans e;have b:atKey (q::qs) k=some q.2:=by simp[atKey,fH,e']
   rw[fW e,b];exact h2
  ·have e':¬q.1=k:=λz=>e (h1.trans z);have b:atKey (q::qs) k=atKey qs k:=by simp[atKey,fH,e']
   rw[fX e,b];exact ih
def KT.repl{H:Hp}{kvs:List (List Key×V)}{xs:List (List Key×Addr×Value)}(r:KT H kvs xs)(k:List Key){y:V}{u:Value}(ry:RelV y u):
  KT H (kvs.map λkv=>if kv.1=k then (kv.1,y) else kv) (xs.map (putAt k u)):=by
 induction r with
 | nil=>exact .nil
 | @cons p q ps qs h t ih=>
  rw[aY,aY];refine .cons ?_ ih;obtain⟨h1,h2,h3⟩:=h;unfold putAt;by_cases e:p.1=k
  ·rw[NJ e,NJ (h1.symm.trans e)];exact⟨h1,h2,ry⟩
  ·rw[NI e,NI (λz=>e (h1.trans z))];exact⟨h1,h2,h3⟩
def KT.put{H:Hp}{kvs:List (List Key×V)}{xs:List (List Key×Addr×Value)}(r:KT H kvs xs)(k:List Key){b:Addr}{y:V}{u:Value}(hb:H b=some (.tup (k.map kV)))(ry:RelV y u):
  KT H (putK kvs k y) (storedH xs k b u):=by
 have e:(kvs.any λkv=>decide (kv.1=k))=(atKey xs k).isSome:=by
  rw[nO,(r.val k).isSome_eq,Option.isSome_map]
 unfold putK storedH;rw[e];by_cases q:(atKey xs k).isSome=true
 ·rw[NJ q,NJ q];exact r.repl k ry
 ·rw[NI q,NI q];exact Paired.snoc r ⟨rfl,hb,ry⟩
def KT.keeps{H H':Hp}{kvs:List (List Key×V)}{xs:List (List Key×Addr×Value)}(r:KT H kvs xs)(ht:∀b ys,H b=some (.tup ys)->H' b=some (.tup ys)):KT H' kvs xs:=
 Paired.mapP r λ_ _ z=>⟨z.1,ht _ _ z.2.1,z.2.2⟩
section
variable {P:Program} {w:World} {H:Hp} {h:Heap} {a:Addr}
def En{u:HO}(ok:nI P w H h)(e:Rd H a u):cn P w H h a u:=e.ok ok
def yL{kvs:List (Key×V)}(ok:nI P w H h)(e:Rd H a (.dK kvs)):kvs.length<=sizeLine/\(a==sysModules)=false/\∃vs,KV kvs vs/\h.DictOf (eW P w) a vs:=
 show cn P w H h a (.dK kvs) from En ok e
def Eu{kvs:List (Key×V)}(ok:nI P w H h)(e:H a=some (.dK kvs)):kvs.length<=sizeLine/\(a==sysModules)=false/\∃vs,KV kvs vs/\h.DictOf (eW P w) a vs:=yL ok (.inl e)
def sh{ks:List Key}(ok:nI P w H h)(e:H a=some (.tup (ks.map kV))):(tupleKind (eW P w)).is h ks a:=by
 obtain⟨_,its,r,o,h1,h2,n,h3⟩:=(show cn P w H h a (.tup (ks.map kV)) from ok a _ e)
 exact⟨o,its.toArray,n,h1,h2,h3,by simpa using rK r⟩
def yJ{kvs:List (List Key×V)}(ok:nI P w H h)(e:Rd H a (.dT kvs)):kvs.length<=sizeLine/\(a==sysModules)=false ∧
  ∃xs,KT H kvs xs/\h.DictOfH (tupleKind (eW P w)) a xs:=by
 obtain⟨z,y,xs,r,o,es,ep,h1,h2,h3,h4,h5⟩:=(show cn P w H h a (.dT kvs) from En ok e)
 refine⟨z,y,xs,r,o,es,ep,h1,h2,h3,h4,λx hx=>?_,h5⟩;have all:∀{l:List (List Key×V)} {m:List (List Key×Addr×Value)},KT H l m->∀x∈m,(tupleKind (eW P w)).is h x.1 x.2.1:=by
  intro l m q
  induction q with
  | nil=>intro x hx;exact nomatch hx
  | @cons p q ps qs hq t ih=>
   intro x hx;rcases aI.mp hx with e | hx
   ·subst e;exact sh ok (by rw[<-hq.1];exact hq.2.1)
   ·exact ih x hx
 exact all r x hx
def Ib{kvs:List (List Key×V)}(ok:nI P w H h)(e:H a=some (.dT kvs)):kvs.length<=sizeLine/\(a==sysModules)=false ∧
  ∃xs,KT H kvs xs/\h.DictOfH (tupleKind (eW P w)) a xs:=yJ ok (.inl e)
end
def k6(H:Hp)(a:Addr)(y:V)(r:Option V):Prop:=
 (∃kvs k,Rd H a (.dK kvs)/\y=kV k/\r=gY kvs k)\/∃kvs k b,Rd H a (.dT kvs)/\y=.ref b/\H b=some (.tup (k.map kV))/\r=gY kvs k
def nK(H:Hp)(a:Addr)(y v:V)(H':Hp):Prop:=
 (∃kvs k,H a=some (.dK kvs)/\y=kV k/\kvs.length<sizeLine/\H'=upd H a (.dK (putK kvs k v))) ∨
 ∃kvs k b,H a=some (.dT kvs)/\y=.ref b/\H b=some (.tup (k.map kV))/\kvs.length<sizeLine/\H'=upd H a (.dT (putK kvs k v))
def k6.k{H:Hp}{a:Addr}{kvs:List (Key×V)}{k:Key}(e:H a=some (.dK kvs)):k6 H a (kV k) (gY kvs k):=.inl ⟨kvs,k,.inl e,rfl,rfl⟩
def k6.t{H:Hp}{a b:Addr}{kvs:List (List Key×V)}{k:List Key}(e:H a=some (.dT kvs))(eb:H b=some (.tup (k.map kV))):k6 H a (.ref b) (gY kvs k):=.inr ⟨kvs,k,b,.inl e,rfl,eb,rfl⟩
def nK.k{H:Hp}{a:Addr}{kvs:List (Key×V)}{k:Key}{v:V}(e:H a=some (.dK kvs))(hl:kvs.length<sizeLine):nK H a (kV k) v (upd H a (.dK (putK kvs k v))):=.inl ⟨kvs,k,e,rfl,hl,rfl⟩
def nK.t{H:Hp}{a b:Addr}{kvs:List (List Key×V)}{k:List Key}{v:V}(e:H a=some (.dT kvs))(eb:H b=some (.tup (k.map kV)))(hl:kvs.length<sizeLine):
  nK H a (.ref b) v (upd H a (.dT (putK kvs k v))):=.inr ⟨kvs,k,b,e,rfl,eb,hl,rfl⟩
section
variable {X:Cx} {pins:List (Addr×Obj)} {σ:St} {H:Hp} {s:Shared} {a:Addr} {y v:V} {u r:Value} {o:Option V} {A:Around} {E:Value->Shared->Prop}
def bc.big(I:bc X pins σ H s):sysModules<s.heap.objs.size:=by
 have h:mainGlobals<s.heap.objs.size:=(I.mod.glob.keeps I.bk).lt;exact Nat.lt_trans (by decide) h
def zX{Q:Value->Shared->Prop}(hu:A.units+1<cLine)(I:bc X pins σ H s)(g:k6 H a y (some v))(ry:RelV y u)(h:∀w' s',bc X pins σ H s'->RelV v w'->Q w' s'):
  wpAny (model X.prog X.w) A (getItem (.ref a) u) Q E s:=by
 rcases g with ⟨kvs,k,e,ey,l⟩ | ⟨kvs,k,b,e,ey,eb,l⟩
 ·subst ey;obtain⟨z,hd,vs,rel,dd⟩:=yL I.hok e;obtain⟨w',hw,rw'⟩:=qV.some_of (v:=v) (o:=valueAt vs k) (by rw[l];exact rel.val k);exact wpAny_getItem_of (uf ry) dd.mapOf hw (h w' _ (I.tok _) rw')
 ·subst ey;cases (show u=Value.ref b from ry);obtain⟨z,hd,xs,rel,dd⟩:=yJ I.hok e;obtain⟨w',hw,rw'⟩:=qV.some_of (v:=v) (o:=(atKey xs k).map (·.2)) (by rw[l];exact rel.val k);obtain⟨p,hp,hp2⟩:=Option.map_eq_some_iff.mp hw;refine wpAny_getItem_heap (Mx hu) (sh I.hok eb) dd hp ?_;rw[hp2];exact h w' _ (I.tok _) rw'
def EJ{Q:Value->Shared->Prop}(hu:A.units+1<cLine)(I:bc X pins σ H s)(g:k6 H a y o)(ry:RelV y u)(h:∀s',bc X pins σ H s'->Q (.bool (!o.isSome)) s'):
  wpAny (model X.prog X.w) A (compareOp .NotIn u (.ref a)) Q E s:=by
 rcases g with ⟨kvs,k,e,ey,l⟩ | ⟨kvs,k,b,e,ey,eb,l⟩
 ·subst ey;obtain⟨z,hd,vs,rel,dd⟩:=yL I.hok e;refine wpAny_notIn_of (uf ry) hd dd.mapOf ?_;rw[<-(rel.val k).isSome_eq,<-l];exact h _ (I.tok _)
 ·subst ey;cases (show u=Value.ref b from ry);obtain⟨z,hd,xs,rel,dd⟩:=yJ I.hok e;refine wpAny_notIn_heap (Mx hu) (sh I.hok eb) hd dd ?_;have q:=(rel.val k).isSome_eq;rw[Option.isSome_map] at q;rw[<-q,<-l];exact h _ (I.tok _)
def sr{h':Heap}{t':Nat}{ob:HO}(I:bc X pins σ H s)(mu:Ii (H a))(hs:Heap.SameBut a s.heap h')(he:∃q,h'.get? a=some q)(new:cn X.prog X.w (upd H a ob) h' a ob):
  bc X pins σ (upd H a ob) { s with heap:=h',toks:=t' }:=
 I.write (x:=a) (e:=a) mu (.inl rfl) (λb q hb z=>(hs.2 b hb).trans z) he new
def CM{P:Program}{w:World}{H':Hp}{h':Heap}{kvs:List (Key×V)}{vs:List (Key×Value)}(z:kvs.length<=sizeLine)(hd:(a==sysModules)=false)(rel:KV kvs vs)(dd:h'.DictOf (eW P w) a vs):
  cn P w H' h' a (.dK kvs):=⟨z,hd,vs,rel,dd⟩
def zW{H':Hp}{Q:Unit->Shared->Prop}(hu:A.units+1<cLine)(I:bc X pins σ H s)(g:nK H a y v H')(ry:RelV y u)(rv:RelV v r)(h:∀s',bc X pins σ H' s'->Q () s'):
  wpAny (model X.prog X.w) A (setItem (.ref a) u r) Q E s:=by
 rcases g with ⟨kvs,k,e,ey,l,eH⟩ | ⟨kvs,k,b,e,ey,eb,l,eH⟩
 ·subst ey eH;obtain⟨z,hd,vs,rel,dd⟩:=Eu I.hok e;have hz:vs.length<=sizeLine:=by rw[<-rel.length];exact z
  have hl:(putK kvs k v).length<=sizeLine:=by have:=cj kvs k v;lia
  refine wpAny_setItem_pairs (hsz:=hz) (uf ry) dd λh' dd' hs=>h _ ?_;have he:∃q,h'.get? a=some q:=let ⟨q,_,_,hq,_⟩:=dd';⟨q,hq⟩;exact sr I (by rw[e];exact True.intro) hs he (CM hl hd (rel.put k rv) dd')
 ·subst ey eH;cases (show u=Value.ref b from ry);obtain⟨z,hd,xs,rel,dd⟩:=Ib I.hok e;have hz:xs.length<=sizeLine:=by rw[<-cv rel];exact z
  have hl:(putK kvs k v).length<=sizeLine:=by have:=cj kvs k v;lia
  refine wpAny_setItem_heap (hsz:=hz) (Mx hu) (sh I.hok eb) dd λh' dd' hs=>h _ ?_;obtain⟨q,es,ep,hq,h2,h3,h4,_,h5⟩:=dd';refine sr I (by rw[e];exact True.intro) hs ⟨q,hq⟩ ⟨hl,hd,_,(rel.put k eb rv).keeps λc ys ec=>?_,q,es,ep,hq,h2,h3,h4,h5⟩;rw[aR (Bf ec e (λz=>nomatch z))];exact ec
end
def Gn(i:Expr):Prop:=∀ov iv,subscripted i false ov iv=operate [ov,iv] (getItem ov iv)
def Cu{prog:Program}{w:World}{A:Around}{E:Value->Shared->Prop}{s:Shared}{env:Env}{value slice:Expr}{pos:Pos}{T id:String}{Q:Value->Shared->Prop}
  (hl:typeLookup (.type T) "__getitem__"=pure (some (.builtin id))) (hs:Gn slice)
  (h:wpAny (model prog w) A (eval value env) (λo s₁=>wpAny (model prog w) A (eval slice env) (λi s₂=>s₂.TypeIs o T/\wpAny (model prog w) A (getItem o i) Q E s₂) E s₁) E s) :
  wpAny (model prog w) A (eval (.Subscript value slice pos) env) Q E s:=by
 refine Subscript_ (Ml h (λo s₁ h₁=>Ml h₁ (λi s₂ h₂=>?_) λ_ _ x=>x) λ_ _ x=>x);obtain⟨hT,h₂⟩:=h₂;unfold subscriptTail;refine wpAny_bind ?_;rw[getitemInPython_of_ne hT.not_modules];refine wpAny_bind (wpAny_specialOf hT hl ?_);have fin:wpAny (model prog w) A (subscripted slice false o i) (λr s₃=>wpAny (model prog w) A (letTemporaryGo value o r>>=λ_=>pure r) Q E s₃) E s₂:=by
  rw[hs o i];exact wpAny_operating (Ml h₂ (λr s₃ h₃=>wpAny_bind (wpAny_letTemporaryGo (Mq h₃))) λ_ _ x=>x)
 first
  | exact Mq (wpAny_bind fin)
  | exact wpAny_bind (Mq (wpAny_bind fin))
  | exact wpAny_bind fin
def um {X:Cx} {pins:List (Addr×Obj)} {σ:St} {H:Hp} {s:Shared} {a:Addr} {y:V} {o:Option V} (I:bc X pins σ H s) (g:k6 H a y o):s.TypeIs (.ref a) "dict":=by
 rcases g with ⟨kvs,k,e,_,_⟩ | ⟨kvs,k,b,e,_,_,_⟩
 ·obtain⟨_,_,vs,_,dd⟩:=yL I.hok e;exact dd.typeIs
 ·obtain⟨_,_,xs,_,dd⟩:=yJ I.hok e;exact dd.typeIs
def A7(td ty:TE):TE:=λσ H Q=>td σ H λx H1=>ty σ H1 λy H2=>∃a v,x=.ref a/\k6 H2 a y (some v)/\Q v H2
def oo(ty td:TE):TE:=λσ H Q=>ty σ H λy H1=>td σ H1 λx H2=>∃a o,x=.ref a/\k6 H2 a y o/\Q (.bl (!o.isSome)) H2
def Aq(td ty tv:TE):TS:=λD σ H=>tv σ H λv H1=>td σ H1 λx H2=>ty σ H2 λy H3=>∃a H4,x=.ref a/\nK H3 a y v H4/\D.nx σ H4
section
variable {X:Cx} {o i value:Expr} {pos pos':Pos} {td ty tv:TE}
def D3(hu:X.A.units+1<cLine)(ho:PE X o td)(hi:PE X i ty)(hs:Gn i):PE X (.Subscript o i pos) (A7 td ty):=by
 intro pins s σ H Q I h;refine Cu PySem.F.slot_dict_getitem.lookup hs (dZ (ho pins s σ H _ I h) λu s1 ⟨x,H1,I1,rx,q1⟩=>dZ (hi pins s1 σ H1 _ I1 q1) λiv s2 ⟨y,H2,I2,ry,a,v,ex,g,q2⟩=>?_);subst ex;obtain rfl:u=Value.ref a:=rx;exact⟨um I2 g,zX hu I2 g ry λw' s3 I3 rw'=>⟨v,H2,I3,rw',q2⟩⟩
def zE(hu:X.A.units+1<cLine)(hi:PE X i ty)(ho:PE X o td):PC X .NotIn i o (oo ty td):=by
 intro pins s σ H Q I h;refine dZ (hi pins s σ H _ I h) λiv s1 ⟨y,H1,I1,ry,q1⟩=>dZ (ho pins s1 σ H1 _ I1 q1) λu s2 ⟨x,H2,I2,rx,a,ov,ex,g,q2⟩=>?_;subst ex;obtain rfl:u=Value.ref a:=rx;exact EJ hu I2 g ry λs3 I3=>⟨.bl (!ov.isSome),H2,I3,rfl,q2⟩
def DR(hu:X.A.units+1<cLine)(ho:PE X o td)(hi:PE X i ty)(hv:PE X value tv)(hs:swapsWith value (some (.Subscript o i pos')) pos.line X.env=pure false):
  PS X (.Assign [.Subscript o i pos'] value pos) (Aq td ty tv):=by
 intro pins s σ H D I h;refine wpAny_Assign_Subscript (dZ (hv pins s σ H _ I h) λr s1 ⟨v,H1,I1,rv,q1⟩=>dZ (ho pins s1 σ H1 _ I1 q1) λu s2 ⟨x,H2,I2,rx,q2⟩=>dZ (hi pins s2 σ H2 _ I2 q2) λiv s3 ⟨y,H3,I3,ry,a,H4,ex,g,q3⟩=>?_) hs;subst ex;obtain rfl:u=Value.ref a:=rx;exact zW hu I3 g ry rv λs4 I4=>⟨σ,H4,I4,q3⟩
end
def ul {P:Program} {w:World} {H:Hp} (h:Heap) (hb:sysModules<h.objs.size):cn P w H (h.push { cls:=.type "dict",data:=.dict #[] }) h.objs.size (.dK []):=
 ⟨bF _,beq_eq_false_iff_ne.mpr (cC (aj hb)),[],.nil,Heap.DictOf.new h⟩
def CL {P:Program} {w:World} {H:Hp} (h:Heap) (hb:sysModules<h.objs.size):cn P w H (h.push { cls:=.type "dict",data:=.dict #[] }) h.objs.size (.dT []):=
 ⟨bF _,beq_eq_false_iff_ne.mpr (cC (aj hb)),[],.nil,_,#[],0,aP _ rfl,⟨rfl,rfl,rfl⟩,rfl,rfl,List.nodup_nil⟩
def vP:TE:=λ_ H Q=>∀p,H p=none->Q (.ref p) (upd H p (.dK []))
def vO:TE:=λ_ H Q=>∀p,H p=none->Q (.ref p) (upd H p (.dT []))
section
variable {X:Cx} {pos:Pos}
def BQ:PE X (.Dict [] [] pos) vP:=λpins s σ H Q I h=>
 wpAny_Dict_empty ⟨.ref s.heap.objs.size,_,I.laid (a:=s.heap.objs.size) (o:=.dK []) (t':=s.toks) (λ_ _ q=>aB _ q) (aH _) (ul s.heap I.big),rfl,h _ (I.hok.fresh (aH _))⟩
def BP:PE X (.Dict [] [] pos) vO:=λpins s σ H Q I h=>
 wpAny_Dict_empty ⟨.ref s.heap.objs.size,_,I.laid (a:=s.heap.objs.size) (o:=.dT []) (t':=s.toks) (λ_ _ q=>aB _ q) (aH _) (CL s.heap I.big),rfl,h _ (I.hok.fresh (aH _))⟩
end
def m6:List (TE×TE)->St->Hp->(List (V×V)->Hp->Prop)->Prop
 | [],_,H,Q=>Q [] H
 | (tk,tv)::r,σ,H,Q=>tk σ H λx H1=>tv σ H1 λy H2=>m6 r σ H2 λps H3=>Q ((x,y)::ps) H3
abbrev VV:List (V×V)->List (Value×Value)->Prop:=Paired λp q=>RelV p.1 q.1/\RelV p.2 q.2
def Ih(X:Cx)(pos:Pos)(keys:List (Option Expr))(values:List Expr)(trs:List (TE×TE)):Prop:=
 ∀(pins:List (Addr×Obj)) (s:Shared) (σ:St) (H:Hp) (Q:List (V×V)->Hp->Prop),bc X pins σ H s->m6 trs σ H Q →
  wpAny (model X.prog X.w) X.A (evalPairs (pairTrees keys values X.env pos)) (λvs s'=>∃ps H',bc X pins σ H' s'/\VV ps vs/\Q ps H') X.xe s
def DS{X:Cx}{pos:Pos}:Ih X pos [] [] []:=λpins s σ H Q I h=>pairTrees_nil_walk ⟨[],H,I,.nil,h⟩
def BG{X:Cx}{pos:Pos}{k v:Expr}{ks:List (Option Expr)}{vs:List Expr}{tk tv:TE}{trs:List (TE×TE)}(hk:PE X k tk)(hv:PE X v tv)(hr:Ih X pos ks vs trs):
  Ih X pos (some k::ks) (v::vs) ((tk,tv)::trs):=λpins s σ H Q I h=>
 pairTrees_cons_walk (dZ (hk pins s σ H _ I h) λu s1 ⟨x,H1,I1,rx,q1⟩=>dZ (hv pins s1 σ H1 _ I1 q1) λw2 s2 ⟨y,H2,I2,ry,q2⟩=>
  dZ (hr pins s2 σ H2 _ I2 q2) λws s3 ⟨ps,H3,I3,rel,q3⟩=>⟨(x,y)::ps,H3,I3,.cons ⟨rx,ry⟩ rel,q3⟩)
def mn(kvs more:List (Key×V)):List (Key×V):=more.foldl (λacc kv=>putK acc kv.1 kv.2) kvs
def KV.merge:∀{more:List (Key×V)} {rs:List (Key×Value)} {kvs:List (Key×V)} {vs:List (Key×Value)},KV more rs->KV kvs vs->KV (mn kvs more) (merged vs rs):=by
 intro more rs kvs vs r;unfold KV at r
 induction r generalizing kvs vs with
 | nil=>intro q;exact q
 | @cons p q ps qs h t ih=>
  intro r0;have e:KV (putK kvs p.1 p.2) (stored vs q.1 q.2):=by
   have:=r0.put p.1 h.2;rw[<-h.1];exact this
  exact ih e
def mY:∀(more kvs:List (Key×V)),(mn kvs more).length<=kvs.length+more.length
 | [],kvs=>by show kvs.length<=kvs.length+0;lia
 | p::r,kvs=>by
  have h1:=mY r (putK kvs p.1 p.2);have h2:=cj kvs p.1 p.2;show (mn (putK kvs p.1 p.2) r).length<=_;rw[cM];lia
def qR{P:Program}{w:World}:∀{kvs:List (Key×V)} {ws:List (Value×Value)},VV (kvs.map λkv=>(kV kv.1,kv.2)) ws->∃rs,Carries (eW P w) ws rs/\KV kvs rs
 | [],_,r=>by rw[fk] at r;cases r;exact⟨[],True.intro,.nil⟩
 | p::kvs,_,r=>by
  rw[aY] at r;cases r with
  | @cons a b as bs h t=>
   obtain⟨rs,c,q⟩:=qR (P:=P) (w:=w) t;obtain⟨b1,b2⟩:=b;exact⟨(p.1,b2)::rs,⟨uf h.1,rfl,c⟩,.cons ⟨rfl,h.2⟩ q⟩
def A6(trs:List (TE×TE)):TE:=λσ H Q=>∀p,H p=none->m6 trs σ (upd H p (.dK [])) λps H2=>H2 p=some (.dK [])/\∃kvs:List (Key×V),ps=kvs.map (λkv=>(kV kv.1,kv.2))/\kvs.length<=15/\Q (.ref p) (upd H2 p (.dK (mn [] kvs)))
def D0{X:Cx}{pos:Pos}{keys:List (Option Expr)}{values:List Expr}{trs:List (TE×TE)}(h:Ih X pos keys values trs)(hall:keys.all (·.isSome)=true)(hl:keys.length=values.length)(h0:keys≠[])
  (h15:keys.length<=15):PE X (.Dict keys values pos) (A6 trs):=by
 intro pins s σ H Q I q;have hn:=I.hok.fresh (aH s.heap.objs.size);have I1:=I.laid (a:=s.heap.objs.size) (o:=.dK []) (h':=s.heap.push { cls:=.type "dict",data:=.dict #[] }) (t':=s.toks) (λ_ _ q=>aB _ q) (aH _) (ul s.heap I.big);refine wpAny_Dict_walk (knd:=eW X.prog X.w) hall hl h0 h15 (dZ (h pins _ σ _ _ I1 (q _ hn)) λws s2 ⟨ps,H2,I2,rel,e,kvs,ep,lk,q2⟩=>?_);subst ep;obtain⟨rs,c,rk⟩:=qR (P:=X.prog) (w:=X.w) rel;obtain⟨z,hd,vs0,r0,dd⟩:=Eu I2.hok e;cases r0;refine⟨rs,c,dd,λh' dd' hs=>⟨.ref s.heap.objs.size,_,?_,rfl,q2⟩⟩;have hz:(mn [] kvs).length<=sizeLine:=by
  have h1:=mY kvs [];rw[lJ] at h1;rw[Ms];lia
 have he:∃q,h'.get? s.heap.objs.size=some q:=let ⟨q,_,_,hq,_⟩:=dd';⟨q,hq⟩;exact sr I2 (by rw[e];exact True.intro) hs he (CM hz hd (rk.merge .nil) dd')
mutual
inductive Rep (K:NQ) (H:Hp):V->PyData->Prop
 | non:Rep K H .non .none
 | bl (b:Bool):Rep K H (.bl b) (.bool b)
 | int (i:Int):Rep K H (.int i) (.int i)
 | str (x:Str):Rep K H (.str x) (.str x)
 | tup {a:Addr} {xs:List V} {ds:List PyData}:dm K H a xs->nG K H xs ds->Rep K H (.ref a) (.tuple ds)
 | lst {a:Addr} {xs:List V} {ds:List PyData}:cF K H a xs->nG K H xs ds->Rep K H (.ref a) (.list ds)
inductive nG (K:NQ) (H:Hp):List V->List PyData->Prop
 | nil:nG K H [] []
 | cons {x:V} {xs:List V} {d:PyData} {ds:List PyData}:Rep K H x d->nG K H xs ds->nG K H (x::xs) (d::ds)
end
section
variable {X:Cx} {pins:List (Addr×Obj)} {σ:St} {H:Hp} {s:Shared}
mutual
def Rep.reads(I:bc X pins σ H s):∀{x:V} {d:PyData} {u:Value},Rep X.K H x d->RelV x u->∃as,Reads s.heap u d as
 | _,_,_,.non,r=>by cases r;exact⟨_,.none⟩
 | _,_,_,.bl b,r=>by cases r;exact⟨_,.bool b⟩
 | _,_,_,.int i,r=>by obtain⟨t,rfl⟩:=r;exact⟨_,.int i t⟩
 | _,_,_,.str x,r=>by obtain⟨t,rfl⟩:=r;exact⟨_,.str x t⟩
 | _,_,_,.tup h hl,r=>by
  cases r;obtain⟨its,vs,⟨o,e,c,n,dd⟩,_⟩:=I.tuple h;obtain⟨as,ra⟩:=nG.reads I hl vs;exact⟨_,.tuple e c dd (by simpa using ra)⟩
 | _,_,_,.lst h hl,r=>by
  cases r;obtain⟨its,vs,pl,_⟩:=I.list h;obtain⟨o,e,c,n,dd⟩:=pl.isList;obtain⟨as,ra⟩:=nG.reads I hl vs;exact⟨_,.list e c dd (by simpa using ra)⟩
def nG.reads(I:bc X pins σ H s):∀{xs:List V} {ds:List PyData} {us:List Value},nG X.K H xs ds->cJ xs us->∃as,ReadsAll s.heap us ds as
 | _,_,_,.nil,.nil=>⟨_,.nil⟩
 | _,_,_,.cons h hl,.cons r rs=>by
  obtain⟨as,ra⟩:=Rep.reads I h r;obtain⟨bs,rb⟩:=nG.reads I hl rs;exact⟨_,.cons ra rb⟩
end
end
def yw(K:NQ)(neg:Bool):R2:=λx y H Q=>∃d e,Rep K H x d/\Rep K H y e/\d.canLay0=true/\e.canLay0=true/\min d.depth e.depth<=60 ∧
 Q (.bl (if neg then !PyData.eqv d e else PyData.eqv d e)) H
section
variable {X:Cx}
def BX(hu:X.A.units+64<cLine):kR X (compareOp .Eq) (yw X.K false):=by
 intro pins s σ H x y v u Q I rx ry h;obtain⟨d,e,h1,h2,h3,h4,h5,q⟩:=h;obtain⟨as,ra⟩:=h1.reads I rx;obtain⟨bs,rb⟩:=h2.reads I ry;exact SeqAt.compareEq_reads ra rb h3 h4 (by lia) ⟨.bl _,H,I,rfl,q⟩
def sR(hu:X.A.units+64<cLine):kR X (compareOp .NotEq) (yw X.K true):=by
 intro pins s σ H x y v u Q I rx ry h;obtain⟨d,e,h1,h2,h3,h4,h5,q⟩:=h;obtain⟨as,ra⟩:=h1.reads I rx;obtain⟨bs,rb⟩:=h2.reads I ry;exact SeqAt.compareNe_reads ra rb h3 h4 (by lia) ⟨.bl _,H,I,rfl,q⟩
open Classical in
noncomputable def eqR (h:Heap) (d:PyData) (u:Value):Bool:=if z:∃e as,Reads h u e as/\e.canLay0=true then PyData.eqv z.choose d else false
def wH{h:Heap}{d e:PyData}{u:Value}{as:List Addr}(r:Reads h u e as)(c:e.canLay0=true):eqR h d u=PyData.eqv e d:=by
 have z:∃e as,Reads h u e as/\e.canLay0=true:=⟨e,as,r,c⟩
 unfold eqR;rw[dif_pos z];obtain⟨as',r',c'⟩:=z.choose_spec;rw[SeqAt.Reads.unique _ _ _ _ _ c' r' r]
def tH{h:Heap}{d:PyData}:∀{us:List Value} {es:List PyData} {as:List Addr},ReadsAll h us es as->PyData.canLayAll0 es=true->us.any (eqR h d)=es.any λe=>PyData.eqv e d
 | _,_,_,.nil,_=>rfl
 | _,_,_,.cons r rs,c=>by
  have c':(PyData.canLay0 _&&PyData.canLayAll0 _)=true:=c;rw[dI] at c';rw[fz,fz,wH r c'.1,tH rs c'.2]
def pH{A:Around}{s:Shared}{d:PyData}{x:Value}{bs:List Addr}(rx:Reads s.heap x d bs)(cx:d.canLay0=true)(hu:A.units+d.depth<cLine):
  ∀{us:List Value} {es:List PyData} {as:List Addr},ReadsAll s.heap us es as->PyData.canLayAll0 es=true->∀u∈us,SeqAt.EqAt A s u x (eqR s.heap d u)
 | _,_,_,.nil,_=>λu hu=>nomatch hu
 | _,_,_,.cons r rs,c=>λu hm=>by
  have c':(PyData.canLay0 _&&PyData.canLayAll0 _)=true:=c;rw[dI] at c';rcases aI.mp hm with rfl | hm
  ·rw[wH r c'.1];exact SeqAt.eqAt_reads _ _ A s _ _ _ _ r rx c'.1 cx (by lia)
  ·exact pH rx cx hu rs c'.2 u hm
def DD(K:NQ)(neg:Bool):R2:=λx y H Q=>∃d es p xs,Rep K H x d/\y=.ref p/\(cF K H p xs\/dm K H p xs)/\nG K H xs es/\d.canLay0=true/\PyData.canLayAll0 es=true/\d.depth<=60 ∧
 Q (.bl (if neg then !(es.any λe=>PyData.eqv e d) else es.any λe=>PyData.eqv e d)) H
def vc(hu:X.A.units+64<cLine):kR X (compareOp .In) (DD X.K false):=by
 intro pins s σ H x y v u Q I rx ry h;obtain⟨d,es,p,xs,h1,rfl,hq,h2,h3,h4,h5,q⟩:=h;cases ry;obtain⟨as,ra⟩:=h1.reads I rx;rcases hq with hq | hq
 ·obtain⟨its,r,pl,hz⟩:=I.list hq;obtain⟨bs,rb⟩:=h2.reads I r;refine SeqAt.in_listAt (eqR s.heap d) pl.isList (λz hz=>pH (A:=X.A.in1) ra h3 (by show X.A.units+1+d.depth<cLine;lia) rb h4 z (by simpa using hz)) ⟨.bl _,H,I,rfl,?_⟩;rw[show its.toArray.any (eqR s.heap d)=its.any (eqR s.heap d) by simp,tH rb h4];exact q
 ·obtain⟨its,r,pl,hz⟩:=I.tuple hq;obtain⟨bs,rb⟩:=h2.reads I r;refine SeqAt.in_tupleAt (eqR s.heap d) pl (λz hz=>pH (A:=X.A.in1) ra h3 (by show X.A.units+1+d.depth<cLine;lia) rb h4 z (by simpa using hz)) ⟨.bl _,H,I,rfl,?_⟩;rw[show its.toArray.any (eqR s.heap d)=its.any (eqR s.heap d) by simp,tH rb h4];exact q
def Ff(K:NQ):List V->Hp->VK->Prop:=λxs H Q=>∃x T t b,xs=[x,.ty T]/\nF K H x t/\PySem.W.kitOne K t (.type T)=some b/\Q (.bl b) H
def mC:fq X (.builtin "isinstance") (Ff X.K):=by
 intro pins s σ H xs us Q I r h;obtain⟨x,T,t,b,rfl,ty,e,q⟩:=h;obtain⟨u,w,rfl,rx,rw'⟩:=cJ.two r;cases (show w=Value.type T from rw');exact zP I rx ty e λtk=>⟨.bl b,H,I.tok tk,rfl,q⟩
def rg(r r' r2:R2)(ta tb tc td:TE):TE:=λσ H Q=>ta σ H λx H1=>tb σ H1 λy H2=>r x y H2 λz H3=>∃k,z=.bl k ∧
 (if k=true then tc σ H3 λw' H4=>r' y w' H4 λz2 H5=>∃k2,z2=.bl k2/\(if k2=true then td σ H5 λe H6=>r2 w' e H6 Q else Q (.bl false) H5) else Q (.bl false) H3)
def yz{a b c d:Expr}{ta tb tc td:TE}{pos:Pos}{op op' op2:CmpOp}{r r' r2:R2}(ho:kR X (compareOp op) r)(ho':kR X (compareOp op') r')(ho2:kR X (compareOp op2) r2)(ha:PE X a ta)(hb:PE X b tb)(hc:PE X c tc)(hd:PE X d td)
  (hm:lastMarks [op,op',op2] [b,c,d]=false:=by with_unfolding_all rfl):PT X (.Compare a [op,op',op2] [b,c,d] pos) (tU (rg r r' r2 ta tb tc td)):=by
 intro pins s σ H Q I h;refine isTrue_chain (dZ (ha pins s σ H _ I h) λv s1 ⟨x,H1,I1,r1,q1⟩=>test_link (dZ (hb pins s1 σ H1 _ I1 q1) λu s2 ⟨y,H2,I2,r2',q2⟩=>
  dZ (ho pins s2 σ H2 x y v u _ I2 r1 r2' q2) λe s3 ⟨z,H3,I3,r3,k,ek,q3⟩=>?_)) hm
 subst ek;cases r3;refine Mm ?_;cases k with
 | false=>
  obtain⟨k',e',q'⟩:=q3;cases e';exact ite_ff ⟨H3,I3,q'⟩
 | true=>
  refine ite_tt (test_link (dZ (hc pins s3 σ H3 _ I3 q3) λw' s4 ⟨z',H4,I4,r4,q4⟩=>dZ (ho' pins s4 σ H4 y z' u w' _ I4 r2' r4 q4) λd' s5 ⟨z2,H5,I5,r5,k2,e2,q5⟩=>?_));subst e2;cases r5;refine Mm ?_;cases k2 with
  | false=>
   obtain⟨k',e',q'⟩:=q5;cases e';exact ite_ff ⟨H5,I5,q'⟩
  | true=>
   refine ite_tt (test_last (dZ (hd pins s5 σ H5 _ I5 q5) λw2 s6 ⟨z6,H6,I6,r6,q6⟩=>dZ (ho2 pins s6 σ H6 z' z6 w' w2 _ I6 r4 r6 q6) λd7 s7 ⟨z7,H7,I7,r7,k7,e7,q7⟩=>?_));subst e7;cases r7;exact Mm ⟨H7,I7,q7⟩
def f6(lo:Int)(n:Nat):List Int:=(List.range n).map λ(i:Nat)=>lo+(i:Int)
def wu:∀{xs:List V} {us:List Value},xs.length=us.length->(∀(j:Nat) x u,xs[j]? = some x->us[j]? = some u->RelV x u)->cJ xs us
 | [],[],_,_=>.nil
 | [],_::_,h,_=>by simp at h
 | _::_,[],h,_=>by simp at h
 | x::xs,u::us,h,f=>.cons (f 0 x u rfl rfl) (wu (by simpa using h) λj a b ha hb=>f (j+1) a b (by simpa using ha) (by simpa using hb))
def vy{lo:Int}{n:Nat}{acc:Array Value}(h:ItemsOf (λi v=>∃t,v=.int (lo+i*1) t) acc n):cJ ((f6 lo n).map V.int) acc.toList:=by
 refine wu (by simp[f6,h.1]) λj x u hx hu=>?_;obtain⟨t,rfl⟩:=h.2 j u (by simpa using hu);have hj:j<n:=by
  have:=(aJ.mp hx).1;simpa [f6] using this
 have e:((f6 lo n).map V.int)[j]? = some (.int (lo+(j:Int))):=by simp[f6,hj]
 rw[e] at hx;cases hx;exact⟨t,by simp⟩
def zc:fq X (.type "range") (λxs H Q=>∃i j:Int,xs=[.int i,.int j]/\∀p,H p=none->Q (.ref p) (upd H p (.rng i j))):=by
 intro pins s σ H xs us Q I r h;obtain⟨i,j,rfl,q⟩:=h;obtain⟨u,u',rfl,⟨t,rfl⟩,t',rfl⟩:=cJ.two r;exact call_range_2 ⟨.ref s.heap.objs.size,_,I.laid (λb o e=>aB _ e) (aH _) (show cn X.prog X.w _ _ _ (.rng i j) from ⟨_,_,_,aP _ rfl⟩),rfl,q _ (I.hok.fresh (aH _))⟩
def qm (hc:X.calm=true):fq X (.type "list") (λxs H Q=>∃p lo hi,xs=[.ref p]/\H p=some (.rng lo hi)/\(-(2 ^ 30)<=lo/\lo<2 ^ 30/\-(2 ^ 30)<=hi/\hi<2 ^ 30/\(hi-lo).toNat<=1000) ∧
  ∀l,H l=none->Q (.ref l) (upd H l (.lst ((f6 lo (hi-lo).toNat).map V.int)))):=by
 intro pins s σ H xs us Q I r h;obtain⟨p,lo,hi,rfl,hp,⟨b1,b2,b3,b4,b5⟩,q⟩:=h;obtain⟨u,rfl,rx⟩:=Mt r;cases rx;obtain⟨t,u,v,e⟩:=(show cn X.prog X.w H s.heap p (.rng lo hi) from I.hok p _ hp)
 have hn:Builtin.Range.rangeSize lo hi 1=(((hi-lo).toNat:Nat):Int):=by rw[rangeSize_one];split<;>lia
 refine call_list_range (n:=(hi-lo).toNat) (I.ok.hd hc) (show IsRange s.heap p lo hi 1 t u v from e) (small_one (by lia) (by lia) (by lia) (by lia)) hn (by lia) λh' tk acc' c' kp e' hit=>?_;have hv:=vy hit;have hz:((f6 lo (hi-lo).toNat).map V.int).length<=sizeLine:=by
  rw[aE,f6,aE,jm];exact bx (be b5)
 exact⟨.ref s.heap.objs.size,_,I.laid kp (aH _) (show cn X.prog X.w _ h' _ (.lst _) from ⟨hz,acc'.toList,c',hv,by simpa using e'⟩),rfl,q _ (I.hok.fresh (aH _))⟩
end
structure Fn (K:NQ) (mg:Str->Option Value) (x:Str) (st:Stmt) (ps:List Str):Prop where
 ex:∃ f fd,Ca K x x st f fd/\mg x=some (.ref f)/\Binds K fd ps []
structure dM (P:Program) (w:World) (K:NQ) (mg:Str->Option Value) (base:Heap) (k:Nat) (x:Str) (st:Stmt) (ps:List Str) (sp:Sp):Prop where
 ex:∃ f fd,Ca K x x st f fd/\mg x=some (.ref f)/\Binds K fd ps []/\qW P w K mg base Cb k f fd ps sp
def Fn.mk'{P:Program}{w:World}{K:NQ}{mg:Str->Option Value}{base:Heap}{k:Nat}{x:Str}{st:Stmt}{ps:List Str}{sp:Sp}(E:Fn K mg x st ps)
  (h:∀f fd,Ca K x x st f fd->qW P w K mg base Cb k f fd ps sp):dM P w K mg base k x st ps sp:=by
 obtain⟨f,fd,F,m,b⟩:=E.ex;exact⟨f,fd,F,m,b,h f fd F⟩
def aV.new{H H2:Hp}{l:Addr}{o:HO}(s:aV H H2)(h:H l=none):aV H (upd H2 l o):=λb u e=>by rw[aR (ak e h)];exact s b u e
def lj{α β:Type}{R:α->β->Prop}:∀{xs:List α} {ys:List β} {x:α} {y:β},Paired R xs ys->R x y->Paired R (xs++[x]) (ys++[y])
 | _,_,_,_,.nil,h=>.cons h .nil
 | _,_,_,_,.cons r t,h=>.cons r (lj t h)
def f7{α β:Type}{R S:α->β->Prop}:∀{xs:List α} {ys:List β},Paired R xs ys->(∀a b,R a b->S a b)->Paired S xs ys
 | _,_,.nil,_=>.nil
 | _,_,.cons r t,f=>.cons (f _ _ r) (f7 t f)
def iJ{α β:Type}{R:α->β->Prop}:∀{xs:List α} {ys:List β} {i:Nat} {x:α},Paired R xs ys->xs[i]? = some x->∃y,ys[i]? = some y/\R x y
 | _,_,_,_,.nil,e=>by simp at e
 | _,_,0,_,.cons r _,e=>by simp at e;subst e;exact⟨_,rfl,r⟩
 | _,_,i+1,x,.cons _ t,e=>by
  obtain⟨y,h1,h2⟩:=iJ (i:=i) (x:=x) t (by simpa using e);exact⟨y,by simpa using h1,h2⟩
def BN {X:Cx} {x:Str} {i:Int} {pos:Pos} (hg:Gl X x) (hm:∃t,X.mg x=some (.int i t)) (hd:(x==("__debug__":Str))=false:=by decide):PE X (.Name x pos) (tC (.int i)):=
 let ⟨t,h⟩:=hm
 sP hg h ⟨t,rfl⟩ hd
def BS{X:Cx}{k:Nat}{x:Str}{st:Stmt}{ps:List Str}{sp:Sp}{e:Expr}{es:List Expr}{t:TA}{p pos:Pos}(D:dM X.prog X.w X.K X.mg X.base k x st ps sp)(hr:j9 k X.A)(hg:Gl X x)(ha:PA X (e::es) t)
  (hdb:(x==("__debug__":Str))=false:=by decide) (he:starEach (e::es) X.env=(false,eval e X.env)::starEach es X.env:=by rfl) (hpl:(backTo pos (starEach es X.env)).any (·.1)=false:=by rfl) :
  PE X (.Call (.Name x p) (e::es) [] pos) (ww sp [] E0 t):=by
 obtain⟨f,fd,F,m,b,G⟩:=D.ex;exact D6 G hr hg m F.kp b .nil IL ha hdb he hpl
section
variable {σ:St} {H:Hp} {Q:VK} {D:Ends}
def Ez{v:V}:pO 0 (some v::σ) H Q=Q v H:=propext ⟨λ⟨_,e,h⟩=>by cases e;exact h,λh=>⟨v,rfl,h⟩⟩
def zo{i:Nat}{x:Option V}:pO (i+1) (x::σ) H Q=pO i σ H Q:=rfl
def Jb{v:V}:tC v σ H Q=Q v H:=rfl
def HN{r:R2}{ta tb:TE}:AY r ta tb σ H Q=ta σ H λx H1=>tb σ H1 λy H2=>r x y H2 Q:=rfl
def HG{r:V->Hp->VK->Prop}{ta:TE}:JP r ta σ H Q=ta σ H λx H1=>r x H1 Q:=rfl
def JN{g:Int->Int->V}{i j:Int}:DF g (.int i) (.int j) H Q=Q (g i j) H:=propext ⟨λ⟨_,_,e,e',h⟩=>by cases e;cases e';exact h,λh=>⟨i,j,rfl,rfl,h⟩⟩
def Jp{C:Int->Int->Prop}{g:Int->Int->V}{i j:Int}:rI C g (.int i) (.int j) H Q=(C i j/\Q (g i j) H):=propext ⟨λ⟨_,_,e,e',h⟩=>by cases e;cases e';exact h,λh=>⟨i,j,rfl,rfl,h⟩⟩
def Jo{g:Int->V}{i:Int}:rU g (.int i) H Q=Q (g i) H:=propext ⟨λ⟨_,e,h⟩=>by cases e;exact h,λh=>⟨i,rfl,h⟩⟩
def Ha{i j:Int}:IB (.int i) (.int j) H Q=Q (.bl (decide (i=j))) H:=propext ⟨λ⟨_,h⟩=>by simpa using h,λh=>⟨rfl,by simpa using h⟩⟩
def HP{i j:Int}:JD (.int i) (.int j) H Q=Q (.bl (!decide (i=j))) H:=propext ⟨λ⟨_,h⟩=>by simpa using h,λh=>⟨rfl,by simpa using h⟩⟩
def HZ{i j:Str}:IB (.str i) (.str j) H Q=Q (.bl (decide (i=j))) H:=propext ⟨λ⟨_,h⟩=>by simpa using h,λh=>⟨rfl,by simpa using h⟩⟩
def Ec{i j:Str}:JD (.str i) (.str j) H Q=Q (.bl (!decide (i=j))) H:=propext ⟨λ⟨_,h⟩=>by simpa using h,λh=>⟨rfl,by simpa using h⟩⟩
def Hb{i j:Bool}:IB (.bl i) (.bl j) H Q=Q (.bl (decide (i=j))) H:=propext ⟨λ⟨_,h⟩=>by simpa using h,λh=>⟨rfl,by simpa using h⟩⟩
def HQ{i j:Bool}:JD (.bl i) (.bl j) H Q=Q (.bl (!decide (i=j))) H:=propext ⟨λ⟨_,h⟩=>by simpa using h,λh=>⟨rfl,by simpa using h⟩⟩
def HY{b:Bool}{q:Bool->Prop}:(∃k,V.bl b=.bl k/\q k)=q b:=propext ⟨λ⟨_,e,h⟩=>by cases e;exact h,λh=>⟨b,rfl,h⟩⟩
def HX{b:Int}{q:Int->Prop}:(∃k,V.int b=.int k/\q k)=q b:=propext ⟨λ⟨_,e,h⟩=>by cases e;exact h,λh=>⟨b,rfl,h⟩⟩
def FM{i j:Str}{q:Str->Str->Prop}:(∃a b,V.str i=.str a/\V.str j=.str b/\q a b)=q i j:=
 propext ⟨λ⟨_,_,e,e',h⟩=>by cases e;cases e';exact h,λh=>⟨i,j,rfl,rfl,h⟩⟩
def Jc{CX:C6}{P:Program}{w:World}{K:NQ}{mg:Str->Option Value}{base:Heap}{N:List Str}{qual:Str}{scope:Scope}{f:Addr}{cd:Value}{A:Around}{outer:List Env}{s:Shared}{H:Hp}{E:XK}:(uq CX P w K mg base N qual scope f cd A outer s H E).K=K:=rfl
def Ei{i:Nat}{te:TE}{ti:HB}:F1 i te ti D σ H=pO i σ H λx _=>te σ H λy H1=>ti x y H1 λz H2=>D.nx (σ.set i (some z)) H2:=rfl
def JM{f:Int->Int->Int}{i j:Int}:J3 f (.int i) (.int j) H Q=Q (.int (f i j)) H:=propext ⟨λ⟨_,_,e,e',h⟩=>by cases e;cases e';exact h,λh=>⟨i,j,rfl,rfl,h⟩⟩
def FF{a b:Bool}{q:Bool->Bool->Prop}:(∃c d,V.bl a=.bl c/\V.bl b=.bl d/\q c d)=q a b:=propext ⟨λ⟨_,_,e,e',h⟩=>by cases e;cases e';exact h,λh=>⟨a,b,rfl,rfl,h⟩⟩
def HW{a:Addr}{q:Addr->Prop}:(∃b,V.ref a=.ref b/\q b)=q a:=propext ⟨λ⟨_,e,h⟩=>by cases e;exact h,λh=>⟨a,rfl,h⟩⟩
def FE{α:Type}{a:Addr}{q:Addr->α->Prop}:(∃b y,V.ref a=.ref b/\q b y)=∃y,q a y:=propext ⟨λ⟨_,y,e,h⟩=>by cases e;exact⟨y,h⟩,λ⟨y,h⟩=>⟨a,y,rfl,h⟩⟩
def FK{i:Int}{q:Int->Prop}:(∃j,[V.int i]=[.int j]/\q j)=q i:=propext ⟨λ⟨_,e,h⟩=>by cases e;exact h,λh=>⟨i,rfl,h⟩⟩
def FI{i:Str}{q:Str->Prop}:(∃j,[V.str i]=[.str j]/\q j)=q i:=propext ⟨λ⟨_,e,h⟩=>by cases e;exact h,λh=>⟨i,rfl,h⟩⟩
def FJ{α:Type}{i:Addr}{q:Addr->α->Prop}:(∃j y,[V.ref i]=[.ref j]/\q j y)=∃y,q i y:=propext ⟨λ⟨_,y,e,h⟩=>by cases e;exact⟨y,h⟩,λ⟨y,h⟩=>⟨i,y,rfl,h⟩⟩
def FG{α β:Type}{i:Addr}{q:Addr->α->β->Prop}:(∃j y z,[V.ref i]=[.ref j]/\q j y z)=∃y z,q i y z:=propext ⟨λ⟨_,y,z,e,h⟩=>by cases e;exact⟨y,z,h⟩,λ⟨y,z,h⟩=>⟨i,y,z,rfl,h⟩⟩
def FH{i j:Int}{q:Int->Int->Prop}:(∃a b,[V.int i,V.int j]=[.int a,.int b]/\q a b)=q i j:=propext ⟨λ⟨_,_,e,h⟩=>by cases e;exact h,λh=>⟨i,j,rfl,h⟩⟩
def FA{b:Bool}{q:Int->Prop}{r:Bool->Prop}:((∃i,[V.bl b]=[.int i]/\q i)\/∃k,[V.bl b]=[.bl k]/\r k)=r b:=
 propext ⟨λh=>by rcases h with ⟨_,e,_⟩ | ⟨_,e,h⟩<;>cases e;exact h,λh=>.inr ⟨b,rfl,h⟩⟩
def HS{z:Str}{i:Int}:IA (.str z) (.int i) H Q=(z.length<=sizeLine/\∃c,oj z.cps.toList i=some c/\Q (.str ⟨#[c]⟩) H):=
 propext ⟨λ⟨_,_,c,e,e',h1,h2,h3⟩=>by cases e;cases e';exact⟨h1,c,h2,h3⟩,λ⟨h1,c,h2,h3⟩=>⟨z,i,c,rfl,rfl,h1,h2,h3⟩⟩
def Ee{K:NQ}{p:Addr}{i:Int}:DC K (.ref p) (.int i) H Q=∃xs v,cF K H p xs/\oj xs i=some v/\Q v H:=
 propext ⟨λ⟨_,xs,_,v,e,e',h⟩=>by cases e;cases e';exact⟨xs,v,h⟩,λ⟨xs,v,h⟩=>⟨p,xs,i,v,rfl,rfl,h⟩⟩
def HR{K:NQ}{p:Addr}{i:Int}:Fe K (.ref p) (.int i) H Q=∃xs v,dm K H p xs/\oj xs i=some v/\Q v H:=
 propext ⟨λ⟨_,xs,_,v,e,e',h⟩=>by cases e;cases e';exact⟨xs,v,h⟩,λ⟨xs,v,h⟩=>⟨p,xs,i,v,rfl,rfl,h⟩⟩
def He{l:Addr}{y:V}:xc (.ref l) [y] H Q=∃xs,H l=some (.lst xs)/\xs.length<sizeLine/\Q .non (upd H l (.lst (xs++[y]))):=
 propext ⟨λ⟨_,xs,_,e,e',h⟩=>by cases e;cases e';exact⟨xs,h⟩,λ⟨xs,h⟩=>⟨l,xs,y,rfl,rfl,h⟩⟩
def HM{l:Addr}:Hy (.ref l) [] H Q=∃xs y,H l=some (.lst xs)/\xs[xs.length - 1]? = some y/\Q y (upd H l (.lst xs.dropLast)):=
 propext ⟨λ⟨_,xs,y,e,_,h⟩=>by cases e;exact⟨xs,y,h⟩,λ⟨xs,y,h⟩=>⟨l,xs,y,rfl,rfl,h⟩⟩
def jg{α:Type}{f:α->V}{l:List α}{k:Nat}{y:V}(h:(l.map f)[k]? = some y):∃x,l[k]? = some x/\y=f x:=by
 rw[a9] at h;cases e:l[k]? with
 | none=>rw[e] at h;cases h
 | some x=>rw[e] at h;exact⟨x,rfl,(bH h).symm⟩
def lX {K:NQ} {l:Addr} {xs:List V} (h:H l=some (.lst xs)):Gx K "list" (.ref l) H:=.inl ⟨rfl,xs,cF.of h⟩
def zp{t:TE}{q:Bool->Hp->Prop}:tU t σ H q=t σ H λx H'=>∃k,x=.bl k/\q k H':=rfl
def HH{t:TE}{q:Bool->Hp->Prop}:tB t σ H q=t σ H λx H'=>∃k,x=.bl k/\q k H':=rfl
def w_and{t u:TT}{q:Bool->Hp->Prop}:F2 t u σ H q=t σ H λc H1=>if c=true then u σ H1 q else q false H1:=rfl
def w_or{t u:TT}{q:Bool->Hp->Prop}:JR t u σ H q=t σ H λc H1=>if c=true then q true H1 else u σ H1 q:=rfl
def w_not{t:TT}{q:Bool->Hp->Prop}:FX t σ H q=t σ H λc H1=>q (!c) H1:=rfl
def AO{ta tb:TE}:A8 ta tb σ H Q=ta σ H λx H1=>∃c,x=.bl c/\if c=true then tb σ H1 Q else Q (.bl false) H1:=rfl
def Ea{ta tb:TE}:FW ta tb σ H Q=ta σ H λx H1=>∃c,x=.bl c/\if c=true then Q (.bl true) H1 else tb σ H1 Q:=rfl
def zx{ta:TE}:AZ ta σ H Q=ta σ H λx H1=>∃c,x=.bl c/\Q (.bl (!c)) H1:=rfl
def HU{t:TT}{ta tb:TE}:JS t ta tb σ H Q=t σ H λc H1=>if c=true then ta σ H1 Q else tb σ H1 Q:=rfl
def E8{t u:TS}:FT t u D σ H=t { nx:=u D,rt:=D.rt,bk:=D.bk,ct:=D.ct } σ H:=rfl
def w_next:A3 D σ H=D.nx σ H:=rfl
def Eg:FZ D σ H=D.bk σ H:=rfl
def AM:Hj D σ H=D.ct σ H:=rfl
def AI{te:TE}:A5 te D σ H=te σ H λ_ H1=>D.nx σ H1:=rfl
def E9{te:TE}:FV te D σ H=te σ H D.rt:=rfl
def zu:Hh D σ H=D.rt .non H:=rfl
def Ef{c:TT}{t u:TS}:FY c t u D σ H=c σ H λb H1=>if b=true then t D σ H1 else u D σ H1:=rfl
def Ej{te:TE}{g:TG}:vR te g D σ H=te σ H λx H1=>g x σ H1 D.nx:=rfl
def wa{i:Nat}{v:V}{q:St->Hp->Prop}:lH i v σ H q=q (σ.set i (some v)) H:=rfl
def zt{v:V}{x:Option V}:List.set (x::σ) 0 (some v)=some v::σ:=rfl
def zr{i:Nat}{v:V}{x:Option V}:List.set (x::σ) (i+1) (some v)=x::List.set σ i (some v):=rfl
def Eb{q:List V->Hp->Prop}:A2 σ H q=q [] H:=rfl
def AN{ta:TE}{tr:TA}{q:List V->Hp->Prop}:eU ta tr σ H q=ta σ H λx H1=>tr σ H1 λxs H2=>q (x::xs) H2:=rfl
def Hc{r:List V->Hp->VK->Prop}{t:TA}:Gy r t σ H Q=t σ H λvs H1=>r vs H1 Q:=rfl
def E7{t:TA}:FS t σ H Q=t σ H λxs H1=>xs.length<=sizeLine/\∀p,H1 p=none->Q (.ref p) (upd H1 p (.tup xs)):=rfl
def Ed{t:TA}:Cs t σ H Q=t σ H λxs H1=>xs.length<=sizeLine/\∀p,H1 p=none->Q (.ref p) (upd H1 p (.lst xs)):=rfl
def w_call{sp:Sp}{dvs:List V}{E:XK}{t:TA}:ww sp dvs E t σ H Q=t σ H λvs H1=>sp (vs++dvs) H1 Q E:=rfl
def Hd{K:NQ}{T:String}{r:V->List V->Hp->VK->Prop}{to:TE}{t:TA}:JT K T r to t σ H Q=to σ H λx H1=>Gx K T x H1/\t σ H1 λxs H2=>r x xs H2 Q:=rfl
def Eh{K:NQ}{T:String}{r:V->List V->Hp->VK->Prop}{to:TE}:F0 K T r to σ H Q=to σ H λx H1=>Gx K T x H1/\r x [] H1 Q:=rfl
def mT(J:It)(g:TG)(tb:TS)(D:Ends)(σ:St)(H1:Hp):Prop:=∃W:Nat->Nat->St->Hp->Prop,(∃m,W 0 m σ H1)/\∀i m σ H,W i m σ H →
 (J.stop i H/\D.nx σ H)\/(J.go i H/\∃N:St->Hp->Prop,(∀σ' H',N σ' H'->∃m',m'<m/\W (i+1) m' σ' H')/\∀x H',J.yld i H x H'->g x σ H' λσ2 H2=>tb { D with nx:=N,ct:=N,bk:=D.nx } σ2 H2)
def AH{ta:TA}{g:TG}{tb:TS}:oF (xt ta) g tb D σ H=ta σ H λvs H1=>∃j:Int,vs=[.int j]/\-(2 ^ 62)<=j/\j<2 ^ 62/\mT (zj 0 j.toNat) g tb D σ H1:=rfl
def AG{ta:TA}{g:TG}{tb:TS}:oF (xr ta) g tb D σ H=ta σ H λvs H1=>∃i j:Int,vs=[.int i,.int j]/\(-(2 ^ 62)<=i/\i<2 ^ 62/\-(2 ^ 62)<=j/\j<2 ^ 62)/\mT (zj i (j-i).toNat) g tb D σ H1:=rfl
def AE{K:NQ}{tl:TE}{g:TG}{tb:TS}:oF (xu K tl) g tb D σ H=tl σ H λx H1=>∃a,x=.ref a/\(∃xs,cF K H1 a xs)/\mT (C9 K a) g tb D σ H1:=rfl
def AC{K:NQ}{tl:TE}{g:TG}{tb:TS}:oF (Dy K tl) g tb D σ H=tl σ H λx H1=>∃a,x=.ref a/\(∃xs,dm K H1 a xs)/\mT (Im K a) g tb D σ H1:=rfl
def AA{K:NQ}{n:Nat}{t:ya}{v:V}{q:St->Hp->Prop}:CD K n t v σ H q=∃a xs,v=.ref a/\dm K H a xs/\xs.length=n/\t xs σ H q:=rfl
def FB{q:St->Hp->Prop}:Gb [] σ H q=q σ H:=propext ⟨λh=>h.2,λh=>⟨rfl,h⟩⟩
def Cj{t:TG}{u:ya}{v:V}{r:List V}{q:St->Hp->Prop}:CF t u (v::r) σ H q=t v σ H λσ' H'=>u r σ' H' q:=propext ⟨λ⟨_,_,e,h⟩=>by cases e;exact h,λh=>⟨v,r,rfl,h⟩⟩
def tQ{r r' r2:R2}{ta tb tc td:TE}:rg r r' r2 ta tb tc td σ H Q=ta σ H λx H1=>tb σ H1 λy H2=>r x y H2 λz H3=>∃k,z=.bl k ∧
 (if k=true then tc σ H3 λw' H4=>r' y w' H4 λz2 H5=>∃k2,z2=.bl k2/\(if k2=true then td σ H5 λe H6=>r2 w' e H6 Q else Q (.bl false) H5) else Q (.bl false) H3):=rfl
def wr{r r':R2}{ta tb tc:TE}:vQ r r' ta tb tc σ H Q=ta σ H λx H1=>tb σ H1 λy H2=>r x y H2 λz H3=>∃k,z=.bl k ∧
 (if k=true then tc σ H3 λw' H4=>r' y w' H4 Q else Q (.bl false) H3):=rfl
end
def qX{P:List Value->Prop}(h:∀a:Value,P [a]):∀us:List Value,us.length=1->P us
 | [a],_=>h a
def JO{P:List Value->Prop}{n:Nat}(h:∀(a:Value) (r:List Value),r.length=n->P (a::r)):∀us:List Value,us.length=n+1->P us
 | a::r,e=>h a r (Nat.succ.inj e)
def vI{P:List Value->Prop}(h:∀a b:Value,P [a,b]):∀us:List Value,us.length=2->P us:=JO λa=>qX λb=>h a b
def Hf{P:List Value->Prop}(h:∀a b c:Value,P [a,b,c]):∀us:List Value,us.length=3->P us:=JO λa=>vI λb c=>h a b c
def Jd{P:List Value->Prop}(h:∀a b c d:Value,P [a,b,c,d]):∀us:List Value,us.length=4->P us:=JO λa=>Hf λb c d=>h a b c d
section
variable {X:Cx} {pins:List (Addr×Obj)} {σ:St} {H:Hp} {s:Shared} {h':Heap}
def bc.turnNew{fp:List Addr}{p:Addr}{o:HO}{t':Nat}(I:bc X pins σ H s)(hf:∀b∈fp,nJ X pins H b)(k:∀b u,b∉fp->s.heap.get? b=some u->h'.get? b=some u)(hp:s.heap.objs.size<=p)
  (new:cn X.prog X.w (upd H p o) h' p o):bc X pins σ (upd H p o) { s with heap:=h',toks:=t' }:=by
 have hn:H p=none:=I.hok.fresh hp;have nfp:∀b u,H b=some u->b∉fp:=λb u e z=>by rw[(hf b z).1] at e;cases e
 refine I.step (g':=s.gens) (d':=s.drawn) (ch:=fp) (λb hb=>?_) (λb u _ _ hc e _=>k b u hc e) (λb u _ _ hc e _=>⟨u.slots,k b u hc e⟩)
  (λb u _ e n=>by rw[aR (aj (a7 (aT e) hp))];exact n) (λb u hc e=>⟨u,k b u hc e⟩) (λb xs e=>by rw[aR (ak e hn)];exact e)
  (λb u xs e=>by rw[aR (ak e hn)];exact e) (λb ps e=>⟨#[],by rw[aR (ak e hn),e];simp⟩) (λm hm=>?_) (λb u e=>?_) I.bare
 ·obtain⟨_,f1,_,f3,f4,f5⟩:=hf b hb;exact⟨f3,f1,f4,f5⟩
 ·obtain⟨ob,es,ep,ho,r⟩:=hm;exact⟨ob,es,ep,k _ ob (λz=>(hf _ z).2.1 rfl) ho,r⟩
 ·by_cases hb:b=p
  ·subst hb;rw[aG] at e;cases e;exact new
  ·rw[aR hb] at e;refine(I.hok b u e).stay (λc v hc q=>k c v ?_ q) (λc q=>by rw[aR (ak q hn)];exact q) λc xs q=>by rw[aR (ak q hn)];exact q
   rcases hc with z | z
   ·rw[z];exact nfp b u e
   ·exact nfp c _ z
end
def HE(x:Str):It:=⟨λi _=>i<x.cps.size,λi H v H'=>H'=H/\∃c,x.cps[i]? = some c/\v=.str ⟨#[c]⟩,λi _=>x.cps.size<=i⟩
def AV {P : Program} {w : World} {K : NQ} {tg : Expr} (it : Addr) (x : Str) (t : Tok) : Turn P w K tg (HE x) [it] it (fun i h => h.IsStrIter it "str_ascii_iterator" x t i) where
  mem := by simp
  obj := fun i h st b hb => by
    have e : b = it := by simpa using hb
    subst e
    obtain ⟨o, e, c, d⟩ := st
    exact ⟨o, e, fun v z => by rw [d] at z; cases z⟩
  keep := fun i h h' st k => by
    obtain ⟨o, e, r⟩ := st
    exact ⟨o, k it (by simp) o e, r⟩
  item := by
    intro X hP hw hK hc i pins s σ H E I hf st hg
    subst hP hw hK
    obtain ⟨f0, f1, f2, f3, f4, f5⟩ := hf it (by simp)
    have hx : x.cps[i]? = some x.cps[i] := dy hg
    refine wpAny_pyNext_ascii_item st hx fun h' st' sb => ?_
    have I1 : bc X pins σ H { s with heap := h', toks := s.toks + 1 } := I.turned (t' := s.toks + 1) (fun b o hb e => (sb.2 b hb).trans e) f0 f1 f3 f4 f5
    obtain ⟨o, e, c, d⟩ := id st'
    exact ⟨_, rfl, uk (s := { s with heap := h', toks := s.toks + 1 }) e c d (by decide) ⟨.str ⟨#[x.cps[i]]⟩, H, I1, ⟨_, rfl⟩, ⟨rfl, _, hx, rfl⟩, st', fun b hb => (hf b hb).1⟩⟩
  done := by
    intro X hP hw hK hc i pins s σ H E I hf st hg
    subst hP hw hK
    obtain ⟨f0, f1, f2, f3, f4, f5⟩ := hf it (by simp)
    exact wpAny_pyNext_ascii_end (I.ok.hd hc) st (lE hg) fun h' eb => ⟨rfl, I.turned (t' := s.toks) (fun b o hb e => eb b o hb e) f0 f1 f3 f4 f5⟩
  self := fun _ _ _ _ _ st h => wpAny_pyIter_striter_ascii st h
def Dz(tl:TE):TI:=λσ H R=>tl σ H λx H1=>∃z,x=.str z/\z.cps.all (·<128)=true/\R (HE z) H1
def Fv{X:Cx}{tg l:Expr}{tl:TE}(hl:PE X l tl):PI X tg l (Dz tl):=by
 intro pins s σ H R I h;refine dZ (hl pins s σ H _ I h) λv s1 ⟨x,H1,I1,r1,z,e,ha,q⟩=>?_;subst e;obtain⟨t,rfl⟩:=r1;refine wpAny_pyIter_ascii ha ?_;exact⟨s1.heap.objs.size,[s1.heap.objs.size],_,_,H1,rfl,I1.kept (t':=s1.toks) λb o e=>aB _ e,AV _ z t,⟨_,aP _ rfl,rfl,rfl⟩,
  λb hb=>by
   have e:b=s1.heap.objs.size:=by simpa using hb
   subst e;exact I1.fpOk (aH _) (I1.hok.fresh (aH _)),q⟩
def JK(x:Str):It:=⟨λi _=>i<x.cps.size,λi H v H'=>∃p c,H p=none/\x.cps[i]? = some c/\v=.ref p/\H'=upd H p (.tup [.int i,.str ⟨#[c]⟩]),λi _=>i=x.cps.size⟩
def yh {P : Program} {w : World} {K : NQ} {elts : List Expr} {x1 : Nat} {pos : Pos} (e it : Addr) (hne : e ≠ it) (x : Str) (t : Tok) :
    Turn P w K (.Tuple elts x1 pos) (JK x) [e, it] e (fun i h => (∃ old, IsEnum h e it i old) ∧ h.IsStrIter it "str_ascii_iterator" x t i) where
  mem := by simp
  obj := fun i h st b hb => by
    obtain ⟨⟨old, he⟩, o, ei, c, d⟩ := st
    rcases aI.mp hb with z | z
    · subst z; exact ⟨_, he, fun v z => by cases z⟩
    · have z' : b = it := by simpa using z
      subst z'
      exact ⟨o, ei, fun v z => by rw [d] at z; cases z⟩
  keep := fun i h h' st k => by
    obtain ⟨⟨old, he⟩, o, ei, r⟩ := st
    exact ⟨⟨old, k e (by simp) _ he⟩, o, k it (by simp) o ei, r⟩
  item := by
    intro X hP hw hK hc i pins s σ H E I hf st hg
    subst hP hw hK
    obtain ⟨⟨old, he⟩, hst⟩ := st
    have D : Draws X.prog X.w X.A.in1 it [it] x.cps.size _ _ := mF (show X.A.in1.handled = none from I.ok.hd hc) it x t
    refine wpAny_pyNext_enum_itemD D he hst hg hne (by simpa using hne) fun v h' tk hv ho st' ht hsz kp => ?_
    obtain ⟨c, u, hx, rfl⟩ := hv
    refine ⟨_, rfl, wpAny_letOwnedTupleGo_enum ho fun h2 he2 hs2 => ?_⟩
    have het : s.heap.objs.size ≠ e := fi (aT he)
    have ht2 : h2.get? s.heap.objs.size = some { cls := .type "tuple", data := .seq #[.int i tk, .str ⟨#[c]⟩ u] } := (hs2.2 _ het).trans ht
    have hn : H s.heap.objs.size = none := I.hok.fresh (aH _)
    refine ⟨.ref s.heap.objs.size, upd H s.heap.objs.size (.tup [.int i, .str ⟨#[c]⟩]), I.turnNew (fp := [e, it]) hf (fun b o hb q => ?_) (aH _) (show cn X.prog X.w _ h2 _ (.tup _) from ⟨(by show 2 ≤ sizeLine; decide), [.int i tk, .str ⟨#[c]⟩ u], .cons ⟨_, rfl⟩ (.cons ⟨_, rfl⟩ .nil), _, ht2, rfl, _, rfl⟩), rfl, ⟨_, c, hn, hx, rfl, rfl⟩, ⟨⟨_, by exact_mod_cast he2⟩, ?_⟩, fun b hb => ?_⟩
    · have n1 : b ≠ e := fun z => hb (by simp [z])
      have n2 : b ≠ it := fun z => hb (by simp [z])
      exact (hs2.2 b n1).trans (kp b o n1 n2 q)
    · obtain ⟨o, ei, r⟩ := st'
      exact ⟨o, (hs2.2 it hne.symm).trans ei, r⟩
    · have hb' := (hf b hb).1
      rw [aR (fun z => ?_)]
      · exact hb'
      · obtain ⟨o, q, _⟩ := hst
        rcases aI.mp hb with y | y
        · exact het (z.symm.trans y)
        · have y' : b = it := by simpa using y
          exact absurd (y'.symm.trans z) (aj (aT q))
  done := by
    intro X hP hw hK hc i pins s σ H E I hf st hg
    subst hP hw hK
    obtain ⟨⟨old, he⟩, hst⟩ := st
    have hg' : i = x.cps.size := hg
    subst hg'
    obtain ⟨f0, f1, f2, f3, f4, f5⟩ := hf it (by simp)
    have D : Draws X.prog X.w X.A.in1 it [it] x.cps.size _ _ := mF (show X.A.in1.handled = none from I.ok.hd hc) it x t
    exact wpAny_pyNext_enum_endD D he hst fun h' eb => ⟨rfl, I.turned (t' := s.toks) (fun b o hb q => eb b o hb q) f0 f1 f3 f4 f5⟩
  self := fun _ _ _ _ _ st h => by
    obtain ⟨⟨old, he⟩, _⟩ := st
    exact wpAny_pyIter_enum he h
def Bz(ta:TA):TI:=λσ H R=>ta σ H λvs H1=>∃z,vs=[.str z]/\z.cps.all (·<128)=true/\R (JK z) H1
def DW {X:Cx} {a:Expr} {ta:TA} {elts:List Expr} {x1:Nat} {p pos tpos:Pos} (hg:Gl X "enumerate") (hm:X.mg "enumerate"=none) (ha:PA X [a] ta) (hs:starEach [a] X.env=[(false,eval a X.env)]:=by rfl) :
  PI X (.Tuple elts x1 tpos) (.Call (.Name "enumerate" p) [a] [] pos) (Bz ta):=by
 intro pins s σ H R I h;refine Call_ (jZ I hg hm boot_enumerate (bV (dZ (ha pos pins s σ H _ I h) λus s1 ⟨vs,H1,I1,r1,z,e,hz,q⟩=>?_) hs rfl));subst e;obtain⟨u,rfl,t,rfl⟩:=Mt r1;refine call_enumerate_str λh' he hit hsz kp=>?_;have ht:strIterType z="str_ascii_iterator":=by unfold strIterType;rw[NJ hz]
 rw[ht] at hit;refine wpAny_pyIter_enum he ?_;have I2:bc X pins σ H1 { s1 with heap:=h' }:=I1.kept (t':=s1.toks) kp;exact⟨s1.heap.objs.size+1,[s1.heap.objs.size+1,s1.heap.objs.size],_,_,H1,rfl,I2,yh _ _ (Nat.succ_ne_self _) z t,⟨⟨_,he⟩,hit⟩,
  λb hb=>by
   have hle:s1.heap.objs.size<=b:=by
    rcases aI.mp hb with y | y
    ·rw[y];exact eK _
    ·have y':b=s1.heap.objs.size:=by simpa using y
     exact oB y'.symm
   exact I1.fpOk hle (I1.hok.fresh hle),q⟩
section
variable {σ:St} {H:Hp} {D:Ends}
def AD{tl:TE}{g:TG}{tb:TS}:oF (Dz tl) g tb D σ H=tl σ H λx H1=>∃z,x=.str z/\z.cps.all (·<128)=true/\mT (HE z) g tb D σ H1:=rfl
def AF{ta:TA}{g:TG}{tb:TS}:oF (Bz ta) g tb D σ H=ta σ H λvs H1=>∃z,vs=[.str z]/\z.cps.all (·<128)=true/\mT (JK z) g tb D σ H1:=rfl
def HV{a:Str}{q:Str->Prop}:(∃b,V.str a=.str b/\q b)=q a:=propext ⟨λ⟨_,e,h⟩=>by cases e;exact h,λh=>⟨a,rfl,h⟩⟩
def so{x:Str}{g:TG}{tb:TS}(Pv:Nat->St->Hp->Prop)(h0:Pv 0 σ H)
  (hs:∀i c σ H,x.cps[i]? = some c->Pv i σ H->g (.str ⟨#[c]⟩) σ H λσ2 H2=>tb { D with nx:=Pv (i+1),ct:=Pv (i+1),bk:=D.nx } σ2 H2) (hd:∀σ H,Pv x.cps.size σ H->D.nx σ H):mT (HE x) g tb D σ H:=by
 refine⟨λi m σ H=>m+i=x.cps.size/\Pv i σ H,⟨x.cps.size,rfl,h0⟩,?_⟩;rintro i m σ H ⟨hm,hp⟩;by_cases hi:i<x.cps.size
 ·refine .inr ⟨hi,Pv (i+1),λσ' H' h=>⟨m - 1,by lia,by lia,h⟩,?_⟩;rintro v H' ⟨rfl,c,hc,rfl⟩;exact hs i c σ H' hc hp
 ·have e:i=x.cps.size:=by lia
  subst e;exact .inl ⟨aH _,hd σ H hp⟩
def qJ{x:Str}{g:TG}{tb:TS}(Pv:Nat->St->Hp->Prop)(h0:Pv 0 σ H)
  (hs:∀i c σ H p,x.cps[i]? = some c->Pv i σ H->H p=none->g (.ref p) σ (upd H p (.tup [.int i,.str ⟨#[c]⟩])) λσ2 H2=>tb { D with nx:=Pv (i+1),ct:=Pv (i+1),bk:=D.nx } σ2 H2) (hd:∀σ H,Pv x.cps.size σ H->D.nx σ H):mT (JK x) g tb D σ H:=by
 refine⟨λi m σ H=>m+i=x.cps.size/\Pv i σ H,⟨x.cps.size,rfl,h0⟩,?_⟩;rintro i m σ H ⟨hm,hp⟩;by_cases hi:i<x.cps.size
 ·refine .inr ⟨hi,Pv (i+1),λσ' H' h=>⟨m - 1,by lia,by lia,h⟩,?_⟩;rintro v H' ⟨p,c,hn,hc,rfl,rfl⟩;exact hs i c σ H p hc hp hn
 ·have e:i=x.cps.size:=by lia
  subst e;exact .inl ⟨rfl,hd σ H hp⟩
end
def kJ:∀{ns:List Int} {us:List Value},cJ (ns.map V.int) us->IntsAre us ns
 | [],_,.nil=>.nil
 | n::ns,_,.cons ⟨t,e⟩ r=>by subst e;exact .cons n t (kJ r)
def pJ:∀{bs:List Bool} {us:List Value},cJ (bs.map V.bl) us->LSm.BoolsAre us bs
 | [],_,.nil=>.nil
 | b::bs,_,.cons r t=>by
  have e:_=Value.bool b:=r;subst e;exact .cons b (pJ t)
def qr:∀{ts:List Str} {us:List Value},cJ (ts.map V.str) us->∃l:List (Str×Tok),us=strValues l/\l.map (·.1)=ts
 | [],_,.nil=>⟨[],rfl,rfl⟩
 | t::ts,_,.cons ⟨k,e⟩ r=>by
  subst e;obtain⟨l,e1,e2⟩:=qr r;exact⟨(t,k)::l,by rw[e1];rfl,by rw[aY,e2]⟩
section
variable {X:Cx}
def Fc(K:NQ):List V->Hp->VK->Prop:=λxs H Q=>∃(p:Addr) (ns:List Int),xs=[.ref p]/\cF K H p (ns.map V.int)/\ns.length<64 ∧
 ∀(l:Addr) (ms:List Int),H l=none->ms.Perm ns->ms.Pairwise (·<=·)->Q (.ref l) (upd H l (.lst (ms.map V.int)))
def kM:fq X (.builtin "sorted") (Fc X.K):=by
 intro pins s σ H xs us Q I r h;obtain⟨p,ns,rfl,hq,hl,q⟩:=h;obtain⟨u,rfl,rx⟩:=Mt r;cases rx;obtain⟨its,rv,pl,hz⟩:=I.list hq;have hi:=kJ rv;have hlen:its.length=ns.length:=by have:=rv.length;simpa using this.symm
 refine sorted_ints pl.isList hi (by lia) λout ms hm hp hs=>?_;obtain⟨c,hc⟩:=sortedAll_at s.heap its out;have hml:ms.length=ns.length:=hp.length_eq;exact⟨.ref (s.heap.objs.size+1),upd H (s.heap.objs.size+1) (.lst (ms.map V.int)),I.laid (t':=s.toks) (λb o e=>sortedAll_old e) (eK _)
  (show cn X.prog X.w _ _ _ (.lst _) from ⟨by rw[aE,hml];exact bx (be (by lia)),out.toList,c,mI hm,by simpa using hc⟩),rfl,q _ ms (I.hok.fresh (eK _)) hp hs⟩
def JY(K:NQ)(f:List Bool->Bool):List V->Hp->VK->Prop:=λxs H Q=>∃(p:Addr) (bs:List Bool),xs=[.ref p]/\cF K H p (bs.map V.bl)/\Q (.bl (f bs)) H
def vw{s:Shared}{h':Heap}{o:Obj}(hk:∀b x,b∉[s.heap.objs.size]->(s.heap.push o).get? b=some x->h'.get? b=some x):∀b x,s.heap.get? b=some x->h'.get? b=some x:=
 λb x e=>hk b x (λhm=>by rw[bN.mp hm] at e;exact ce _ (aT e)) (aB _ e)
def ux (hc:X.calm=true):fq X (.builtin "all") (JY X.K λbs=>bs.all id):=by
 intro pins s σ H xs us Q I r h;obtain⟨p,bs,rfl,hq,q⟩:=h;obtain⟨u,rfl,rx⟩:=Mt r;cases rx;obtain⟨its,rv,pl,hz⟩:=I.list hq;have hb:=pJ rv;have hl:=pl.isList;have hlt:p<s.heap.objs.size:=by obtain⟨_,e,_⟩:=hl;exact aT e
 refine call_all_walk (wpAny_pyIter_list hl ?_);refine⟨s.heap.objs.size,[s.heap.objs.size,p],[s.heap.objs.size],its.toArray.size,_,_,λi=>(bs[i]?).getD true,rfl,Walks.list (A:=X.A.in1) (I.ok.hd hc) _ p (aj hlt) its.toArray,
  ⟨⟨_,aP _ rfl,rfl,rfl⟩,hl.push _⟩,λi v s' Q' E' hP hQ=>?_,λh' tk hk=>?_⟩
 ·obtain⟨b,e,rfl⟩:=hb.get i v (by simpa using hP);simp only[e,kP] at hQ;exact Mm hQ
 ·have e1:its.toArray.size=bs.length:=by have:=rv.length;simp at this;simp[this]
  rw[e1,LSm.range_all];exact⟨.bl _,H,I.kept (vw hk),rfl,q⟩
def rJoin(K:NQ):V->List V->Hp->VK->Prop:=λx vs H Q=>∃(z:Str) (p:Addr) (ts:List Str),x=.str z/\vs=[.ref p]/\cF K H p (ts.map V.str)/\JoinOk z ts=true/\Q (.str (Txt.join z ts)) H
def sf:HD X "str.join" (rJoin X.K):=by
 intro pins s σ H x xs v us Q I r rv h;obtain⟨z,p,ts,rfl,rfl,hq,ok,q⟩:=h;obtain⟨t,rfl⟩:=r;obtain⟨u,rfl,rx⟩:=Mt rv;cases rx;obtain⟨its,rv',pl,hz⟩:=I.list hq;obtain⟨l,rfl,e⟩:=qr rv';exact SC.join pl.isList e ok λt' k=>⟨.str _,H,I.tok k,⟨t',rfl⟩,q⟩
end
mutual
inductive Dat (H:Hp):V->PyData->Prop
 | non:Dat H .non .none
 | bl (b:Bool):Dat H (.bl b) (.bool b)
 | int (i:Int):Dat H (.int i) (.int i)
 | str (x:Str):Dat H (.str x) (.str x)
 | tup {a:Addr} {xs:List V} {ds:List PyData}:H a=some (.tup xs)->gj H xs ds->Dat H (.ref a) (.tuple ds)
 | lst {a:Addr} {xs:List V} {ds:List PyData}:H a=some (.lst xs)->gj H xs ds->Dat H (.ref a) (.list ds)
inductive gj (H:Hp):List V->List PyData->Prop
 | nil:gj H [] []
 | cons {x:V} {xs:List V} {d:PyData} {ds:List PyData}:Dat H x d->gj H xs ds->gj H (x::xs) (d::ds)
end
mutual
def Dat.rep{K:NQ}{H:Hp}:∀{x:V} {d:PyData},Dat H x d->Rep K H x d
 | _,_,.non=>.non
 | _,_,.bl b=>.bl b
 | _,_,.int i=>.int i
 | _,_,.str x=>.str x
 | _,_,.tup h r=>.tup (dm.of h) (gj.rep r)
 | _,_,.lst h r=>.lst (cF.of h) (gj.rep r)
def gj.rep{K:NQ}{H:Hp}:∀{xs:List V} {ds:List PyData},gj H xs ds->nG K H xs ds
 | _,_,.nil=>.nil
 | _,_,.cons h r=>.cons (Dat.rep h) (gj.rep r)
end
mutual
def Dat.same{H H':Hp}(s:aV H H'):∀{x:V} {d:PyData},Dat H x d->Dat H' x d
 | _,_,.non=>.non
 | _,_,.bl b=>.bl b
 | _,_,.int i=>.int i
 | _,_,.str x=>.str x
 | _,_,.tup h r=>.tup (s _ _ h) (gj.same s r)
 | _,_,.lst h r=>.lst (s _ _ h) (gj.same s r)
def gj.same{H H':Hp}(s:aV H H'):∀{xs:List V} {ds:List PyData},gj H xs ds->gj H' xs ds
 | _,_,.nil=>.nil
 | _,_,.cons h r=>.cons (Dat.same s h) (gj.same s r)
end
def gj.len{H:Hp}:∀{xs:List V} {ds:List PyData},gj H xs ds->xs.length=ds.length
 | _,_,.nil=>rfl
 | _,_,.cons _ r=>by simp[gj.len r]
def gj.get{H:Hp}:∀{xs:List V} {ds:List PyData} {i:Nat} {x:V},gj H xs ds->xs[i]? = some x->∃d,ds[i]? = some d/\Dat H x d
 | _,_,_,_,.nil,e=>by simp at e
 | _,_,0,_,.cons h _,e=>by simp at e;subst e;exact⟨_,rfl,h⟩
 | _,_,i+1,x,.cons _ r,e=>by
  obtain⟨d,h1,h2⟩:=gj.get (i:=i) (x:=x) r (by simpa using e);exact⟨d,by simpa using h1,h2⟩
def Jr:PyData->Value
 | .none=>.type "NoneType"
 | .bool _=>.type "bool"
 | .int _=>.type "int"
 | .str _=>.type "str"
 | .list _=>.type "list"
 | .tuple _=>.type "tuple"
 | .dict _=>.type "dict"
def Dat.ty{K:NQ}{H:Hp}{x:V}{d:PyData}(h:Dat H x d):nF K H x (Jr d):=by
 cases h with
 | non=>exact .non
 | bl b=>exact .bl b
 | int i=>exact .int i
 | str x=>exact .str x
 | tup h _=>exact .tup h
 | lst h _=>exact .lst h
def isI:PyData->Bool | .int _=>true | .bool _=>true | _=>false
def Jj:PyData->Bool | .bool _=>true | _=>false
def Ji:PyData->Bool | .str _=>true | _=>false
def JG:PyData->Bool | .tuple _=>true | _=>false
def isL:PyData->Bool | .list _=>true | _=>false
section
variable {K:NQ} {H:Hp} {x:V} {d:PyData} {Q:VK}
def Dv (h:Dat H x d) (q:Q (.bl (Ji d)) H):Ff K [x,.ty "str"] H Q:=⟨x,"str",_,Ji d,rfl,h.ty,by cases h<;>rfl,q⟩
def mR (h:Dat H x d) (q:Q (.bl (JG d)) H):Ff K [x,.ty "tuple"] H Q:=⟨x,"tuple",_,JG d,rfl,h.ty,by cases h<;>rfl,q⟩
end
def ints_rep{K:NQ}{H:Hp}:∀(ns:List Int),nG K H (ns.map V.int) (ns.map PyData.int)
 | []=>.nil
 | n::ns=>.cons (.int n) (ints_rep ns)
def ni:∀ms ns:List Int,PyData.eqvAll (ms.map PyData.int) (ns.map PyData.int)=decide (ms=ns)
 | [],[]=>rfl
 | [],_::_=>by simp[PyData.eqvAll]
 | _::_,[]=>by simp[PyData.eqvAll]
 | p::ps,q::qs=>by
  show (PyData.eqv (.int p) (.int q)&&PyData.eqvAll (ps.map PyData.int) (qs.map PyData.int))=_;rw[ni ps qs];by_cases h1:p=q<;>by_cases h2:ps=qs<;>simp[PyData.eqv,h1,h2]
def fb:∀ns:List Int,PyData.canLayAll0 (ns.map PyData.int)=true
 | []=>rfl
 | n::ns=>by
  show (PyData.canLay0 (.int n)&&PyData.canLayAll0 (ns.map PyData.int))=true;rw[fb ns];rfl
def kj:∀ns:List Int,PyData.depthAll (ns.map PyData.int)=0
 | []=>rfl
 | n::ns=>by
  show max (PyData.depth (.int n)) (PyData.depthAll (ns.map PyData.int))=0;rw[kj ns];rfl
def CK{K:NQ}{H:Hp}{a b:Addr}{ms ns:List Int}{Q:VK}(ha:cF K H a (ms.map V.int))(hb:cF K H b (ns.map V.int))(q:Q (.bl (decide (ms=ns))) H):yw K false (.ref a) (.ref b) H Q:=by
 refine⟨.list (ms.map PyData.int),.list (ns.map PyData.int),.lst ha (ints_rep ms),.lst hb (ints_rep ns),fb ms,fb ns,?_,?_⟩
 ·refine bJ (Nat.min_le_left _ _) ?_;show PyData.depthAll (ms.map PyData.int)+1<=60;rw[kj];decide
 ·show Q (.bl (PyData.eqvAll (ms.map PyData.int) (ns.map PyData.int))) H;rw[ni];exact q
def Bv(n:Int)(ns:List Int):((ns.map PyData.int).any λe=>PyData.eqv e (.int n))=decide (n∈ns):=by
 induction ns with
 | nil=>simp
 | cons m ns ih=>
  rw[aY,fz,ih];by_cases h1:n=m
  ·subst h1;simp[PyData.eqv]
  ·have h2:¬m=n:=λe=>h1 e.symm;by_cases h3:n∈ns<;>simp[PyData.eqv,h1,h2,h3]
def xq{K:NQ}{H:Hp}{b:Addr}{n:Int}{ns:List Int}{neg:Bool}{Q:VK}(hb:cF K H b (ns.map V.int)\/dm K H b (ns.map V.int))(q:Q (.bl (if neg then !decide (n∈ns) else decide (n∈ns))) H):DD K neg (.int n) (.ref b) H Q:=by
 refine⟨.int n,ns.map PyData.int,b,_,.int n,rfl,hb,ints_rep ns,rfl,fb ns,bF _,?_⟩;rw[Bv];exact q
def lM(env:Env):List (Str×NameKind)->List (Str×Addr)->List (Str×Addr)
 | [],acc=>acc
 | (n,k)::r,acc=>lM env r (if (k==NameKind.free)=true then (n,(env.cells.lookup n).getD 0)::acc else acc)
def qj{scope:Scope}{env:Env}(h:∀x∈scope.names,x.2=.free->∃c,env.cells.lookup x.1=some c):closureFor scope env=pure (lM env scope.names []):=by
 simp only[closureFor];generalize ([]:List (Str×Addr))=acc
 revert h
 generalize scope.names=l;intro h
 induction l generalizing acc with
 | nil=>rfl
 | cons x l ih=>
  obtain⟨n,k⟩:=x;have ih':=λacc=>ih acc λy hy=>h y (aM _ hy);rw[ij];cases hk:(k==NameKind.free) with
  | false=>
   simp only[dH,NP,pure_bind];rw[show lM env ((n,k)::l) acc=lM env l acc by simp[lM,hk]];exact ih' acc
  | true=>
   obtain⟨c,hc⟩:=h (n,k) aq (by simpa using hk);have e:cellOf env n=pure c:=by unfold cellOf;rw[hc]
   simp only[NO,e,pure_bind];rw[show lM env ((n,k)::l) acc=lM env l ((n,c)::acc) by simp[lM,hk,hc]];exact ih' ((n,c)::acc)
def mB{env:Env}{x:Str}{c:Addr}:∀{l:List (Str×NameKind)} {acc:List (Str×Addr)},(∀y∈l,y.2=.free->∃c,env.cells.lookup y.1=some c)->(lM env l acc).lookup x=some c->acc.lookup x=some c\/env.cells.lookup x=some c
 | [],acc,_,h=>.inl h
 | (n,k)::l,acc,hf,h=>by
  have ih:=mB (l:=l) (acc:=if (k==NameKind.free)=true then (n,(env.cells.lookup n).getD 0)::acc else acc) (λy hy=>hf y (aM _ hy)) h;rcases ih with e | e
  ·cases hk:(k==NameKind.free) with
   | false=>rw[hk] at e;exact .inl (by simpa using e)
   | true=>
    rw[hk] at e;simp only[NO,iQ] at e;cases hx:x==n with
    | false=>rw[hx] at e;exact .inl e
    | true=>
     rw[hx] at e;obtain⟨c',hc⟩:=hf (n,k) aq (by simpa using hk);have hxn:x=n:=by simpa using hx
     subst hxn;rw[hc] at e;simp only[kP] at e;exact .inr (hc.trans e)
  ·exact .inr e
def rO{env:Env}{x:Str}:∀{l:List (Str×NameKind)} {acc:List (Str×Addr)},(∃c,acc.lookup x=some c)->∃c,(lM env l acc).lookup x=some c
 | [],acc,h=>h
 | (n,k)::l,acc,h=>by
  refine rO (l:=l) ?_;cases hk:(k==NameKind.free) with
  | false=>simpa using h
  | true=>
   simp only[NO,iQ];cases hx:x==n with
   | false=>exact h
   | true=>exact⟨_,rfl⟩
def qQ{env:Env}{x:Str}:∀{l:List (Str×NameKind)} {acc:List (Str×Addr)},(x,NameKind.free)∈l->∃c,(lM env l acc).lookup x=some c
 | [],_,h=>nomatch h
 | (n,k)::l,acc,h=>by
  rcases aI.mp h with e | e
  ·cases e;refine rO (l:=l) ?_;simp
  ·exact qQ (l:=l) e
def zi(env:Env)(p:Str×NameKind):Str×NameKind:=if (p.2==NameKind.free&&env.scope.kind==.function&&env.kindOf p.1==some .cell) then (p.1,NameKind.cell) else p
def mW(scope:Scope)(env:Env):(relabel scope env).names=scope.names.map (zi env):=by
 show scope.names.map _=_;congr 1
def Cy(env:Env)(p:Str×NameKind):(zi env p).1=p.1:=by unfold zi;split<;>rfl
def mq{env:Env}{x:Str}:∀{names:List (Str×NameKind)},(names.map (zi env)).lookup x=(names.lookup x).map λk=>(zi env (x,k)).2
 | []=>rfl
 | (n,q)::r=>by
  rw[aY];have e:zi env (n,q)=(n,(zi env (n,q)).2):=nv (Cy env _) rfl;rw[e,iQ,iQ];cases hx:x==n with
  | true=>
   have hxn:x=n:=by simpa using hx
   subst hxn;rfl
  | false=>exact mq (names:=r)
def nW{scope:Scope}{env:Env}{x:Str}{k:NameKind}(h:(relabel scope env).names.lookup x=some k):scope.names.lookup x=some k\/(k=.cell/\scope.names.lookup x=some .free):=by
 rw[mW,mq] at h;cases e:scope.names.lookup x with
 | none=>rw[e] at h;cases h
 | some q=>
  rw[e] at h;have h':(zi env (x,q)).2=k:=bH h;unfold zi at h'
  split at h'
  ·rename_i hc;have hq:q=.free:=by
    have:=(dI _ _).mp ((dI _ _).mp hc).1;simpa using this.1
   exact .inr ⟨h'.symm,by rw[hq]⟩
  ·exact .inl (by rw[<-h'])
def sN{scope:Scope}{env:Env}{x:Str}(h:scope.names.lookup x=some .free):(relabel scope env).names.lookup x=some .cell\/(relabel scope env).names.lookup x=some .free:=by
 rw[mW,mq,h];show some (zi env (x,.free)).2=_\/some (zi env (x,.free)).2=_;unfold zi
 split
 ·exact .inl rfl
 ·exact .inr rfl
def su(X:Cx)(N:List Str)(scope:Scope)(C:Addr)(s:Shared)(H:Hp)(fp:List Addr)(pn:List (Addr×Obj)):Cx:=
 { X with N:=N,s₀:=s,H₀:=H,env:=compEnvC scope (lM X.env scope.names []) C X.env,outer:=X.stack,ex:=fp,fn:=λ_=>false,pn:=pn,xe:=λ_ _=>False }
structure nL (scope:Scope) (ns:List Str):Prop where
 kind:scope.kind=.function
 nocell:∀ y∈scope.names,y.2≠.cell
 names:∀ y∈scope.names,y.2=.local->scope.names.lookup y.1=some .local
 frees:∀ y∈scope.names,y.2=.free->y.1∈ns
inductive mG (X:Cx) (scope:Scope):List Str->List Nat->Prop
 | nil:mG X scope [] []
 | cons {x:Str} {i:Nat} {ns:List Str} {is:List Nat}:X.N[i]? = some x->scope.names.lookup x=some .free->(X.env.kindOf x=some .cell\/X.env.kindOf x=some .free)->mG X scope ns is->mG X scope (x::ns) (i::is)
def mG.mem{X:Cx}{scope:Scope}{ns:List Str}{is:List Nat}{x:Str}(c:mG X scope ns is)(h:x∈ns):X.env.kindOf x=some .cell\/X.env.kindOf x=some .free:=by
 induction c with
 | nil=>exact nomatch h
 | cons _ _ k _ ih=>
  rcases aI.mp h with e | e
  ·subst e;exact k
  ·exact ih e
def mG.len{X:Cx}{scope:Scope}{ns:List Str}{is:List Nat}(c:mG X scope ns is):is.length=ns.length:=by
 induction c with
 | nil=>rfl
 | cons _ _ _ _ ih=>simp[ih]
def mG.at_{X:Cx}{scope:Scope}{ns:List Str}{is:List Nat}(c:mG X scope ns is){j:Nat}{x:Str}(h:ns[j]? = some x):
  ∃i,is[j]? = some i/\X.N[i]? = some x/\scope.names.lookup x=some .free/\(X.env.kindOf x=some .cell\/X.env.kindOf x=some .free):=by
 induction c generalizing j with
 | nil=>simp at h
 | cons a b k _ ih=>
  cases j with
  | zero=>simp at h;subst h;exact⟨_,rfl,a,b,k⟩
  | succ j=>exact ih (by simpa using h)
def zS(σ:St)(i:Nat):Option V:=(σ[i]?).join
def i6(k:Nat)(caps:List Nat)(σ:St):St:=List.replicate k none++caps.map λi=>zS σ i
section
variable {X:Cx} {pins:List (Addr×Obj)} {σ:St} {H:Hp} {s s4:Shared}
def wK{own ns:List Str}{caps:List Nat}{scope:Scope}{C:Addr}{fp:List Addr}(I:bc X pins σ H s)(S:nL scope ns)(cp:mG X scope ns caps)(hf:∀b∈fp,nJ X pins H b)
  (hfl:∀b∈fp,b<s.heap.objs.size) (hC:s.heap.objs.size<=C) (os:s4.os=s.os) (gens:s4.gens=s.gens) (k:∀b o,s.heap.get? b=some o->s4.heap.get? b=some o) {m:Str->Option Value} (hn:s4.heap.Ns C m) :
  bc (su X (own++ns) scope C s H fp (X.pn++pins)) [] (i6 own.length caps σ) H s4:=by
 have cells:∀x c,(lM X.env scope.names []).lookup x=some c->X.env.cells.lookup x=some c:=λx c e=>by
  rcases mB (λy hy hfr=>I.ok.has y.1 (cp.mem (S.frees y hy hfr))) e with z | z
  ·simp at z
  ·exact z
 have neL:C≠X.env.locals:=fi (a7 I.lt hC);have inFs:∀b,b∈wC X.stack->b=X.env.locals\/b∈X.fs:=λb hb=>aI.mp (I.stkSub b hb);have nst:∀b,b≠X.env.locals->b∉X.fs->b∉wC X.stack:=λb h1 h2 z=>(inFs b z).elim h1 h2;have cle:∀x c,X.env.cells.lookup x=some c->c<s.heap.objs.size:=λx c e=>by obtain⟨v,q⟩:=I.cell x c e;exact q.lt
 refine⟨⟨I.ok.mod,S.kind,I.ok.glob,I.ok.blt,hC,λx y c h1 h2=>I.ok.inj x y c (cells _ _ h1) (cells _ _ h2),λx hx=>?_,(λx c h=>nomatch h),I.ok.hd,I.ok.frames,.inl rfl,λb hb=>⟨λz=>?_,λx c e=>(hf b hb).2.2.2.2.1 x c (cells _ _ e)⟩,
   I.bs,bJ I.ok.bsz I.sz,λb o e hb=>?_,λb hb=>nst b (hf b hb).2.1 (hf b hb).2.2.1,I.stack,I.stkFree⟩,
  os,by rw[gens];exact I.bare,Un.kept k,⟨m,hn,λi x v e1 e2 e3=>?_⟩,λx c e=>?_,?_,λx c e=>I.freeC x c (cells _ _ e),λp hp=>?_,I.hok.kept k,?_⟩
 ·have hx':(relabel scope X.env).names.lookup x=some .cell\/(relabel scope X.env).names.lookup x=some .free:=hx;have hfree:scope.names.lookup x=some .free:=by
   rcases hx' with z | z
   ·rcases nW z with q | q
    ·exact absurd rfl (S.nocell _ (cZ q))
    ·exact q.2
   ·rcases nW z with q | q
    ·exact q
    ·exact absurd q.1 (by decide)
  exact qQ (cZ hfree)
 ·exact absurd (a7 (hfl b hb) hC) (by rw[show b=C from z];exact ce _)
 ·obtain⟨f0,f1,f2,f3,f4,f5⟩:=hf b hb;rcases f3 with z | z
  ·exact I.ok.noex b o e z
  ·exact absurd (a7 (aT e) (bJ I.ok.bsz z)) (ce _)
 ·have e2':(List.replicate own.length none++caps.map λi=>zS σ i)[i]? = some (some v):=e2;have e1':(own++ns)[i]? = some x:=e1;by_cases hi:i<own.length
  ·rw[bP (by simpa using hi),kW,NJ hi] at e2';cases e2'
  ·rw[ac (by simpa using hi),lS,a9] at e2';rw[ac (by lia)] at e1';obtain⟨i',h1,h2,h3,h4⟩:=cp.at_ e1';rw[h1] at e2';have e4:(σ[i']?).join=some v:=bH e2';have e5:σ[i']? = some (some v):=by
    cases q:σ[i']? with
    | none=>rw[q] at e4;cases e4
    | some w'=>rw[q] at e4;rw[show w'=some v from e4]
   obtain⟨m',hn',hl'⟩:=I.loc;have vis:HA X.env.scope x:=h4.elim (λz=>.inr (.inl z)) λz=>.inr (.inr z);obtain⟨u,r,l⟩:=hl' i' x v h2 e5 vis;refine⟨u,r,.inr ⟨sN h3,?_⟩⟩;obtain⟨c,hc⟩:=qQ (env:=X.env) (acc:=[]) (cZ h3);rcases l with ⟨z,_⟩ | ⟨_,c',e6,z⟩
   ·rcases h4 with y | y<;>· rw[y] at z;cases z
   ·have:=cells _ _ hc;rw[e6] at this;cases this;obtain⟨o,ho,hd⟩:=z;exact⟨_,hc,o,k _ _ ho,hd⟩
 ·obtain⟨v,o,ho,hd⟩:=I.cell x c (cells _ _ e);exact⟨v,o,k _ _ ho,hd⟩
 ·exact I.hok.fresh hC
 ·have hp':p∈X.pn++pins:=by simpa [su] using hp
  obtain⟨a1,a2,a3,a4,a5⟩:=I.pin p hp';exact⟨k _ _ a1,a2,aj (a7 (aT a1) hC),nst _ a3 a4,a5⟩
 ·show (i6 own.length caps σ).length=(own++ns).length;simp[i6,cp.len]
end
def PF(X:Cx)(ifs:List Expr)(t:TT):Prop:=
 ∀(pins:List (Addr×Obj)) (s:Shared) (σ:St) (H:Hp) (Q:Bool->Hp->Prop),bc X pins σ H s->t σ H Q →
  wpAny (model X.prog X.w) X.A (forIn ifs true λc r=>if r=true then do let ok <-isTrue c X.env (eval c X.env);pure (ForInStep.yield ok) else pure (ForInStep.yield r)) (TP X pins σ Q) X.xe s
def oY:TT:=λ_ H q=>q true H
def Fy{X:Cx}:PF X [] oY:=λ_ _ _ H _ I h=>Mq ⟨H,I,h⟩
def Fx{X:Cx}{c:Expr}{t:TT}(h:PT X c t):PF X [c] t:=by
 intro pins s σ H Q I hq;rw[ij];simp only[NO,bind_assoc,pure_bind];refine wpAny_bind (dZ (h pins s σ H Q I hq) λb s1 q=>?_);exact Mq q
def iz(J:It)(g:TG)(tf:TT)(te:TE)(Q:VK)(σ:St)(H1:Hp):Prop:=∃W:Nat->Nat->List V->St->Hp->Prop,(∃m,W 0 m [] σ H1)/\∀i m ys σ H,W i m ys σ H →
 (J.stop i H/\ys.length<=sizeLine/\∀p,H p=none->Q (.ref p) (upd H p (.lst ys))) ∨
 (J.go i H/\ys.length<sizeLine/\∀x H',J.yld i H x H'->g x σ H' λσ2 H2=>tf σ2 H2 λb H3=>
  if b=true then te σ2 H3 λy H4=>∃m',m'<m/\W (i+1) m' (ys++[y]) σ2 H4 else ∃m',m'<m/\W (i+1) m' ys σ2 H3)
section
variable {X:Cx} {pins:List (Addr×Obj)} {σ:St} {H:Hp} {s:Shared}
def qh {prog : Program} {w : World} {A : Around} {R : Result → Shared → Prop} {s : Shared} {elt target iter : Expr} {ifs : List Expr} {scope : Scope} {pos : Pos} {it acc : Value} {env : Env} (I : Nat → Shared → Prop)
  (turn : ∀ n s, I n s → wpAny (model prog w) A (pyNext it) (fun r s₁ => match r with
   | none => R (.ok .next) s₁
   | some v => wpAny (model prog w) A (letOwnedTupleGo target it v) (fun _ s₁ => wpAny (model prog w) A (assign target env v) (fun _ s₂ =>
     wpAny (model prog w) A (forIn ifs true fun c r => if r = true then do let ok ← isTrue c env (eval c env); pure (ForInStep.yield ok) else pure (ForInStep.yield r)) (fun ok s₃ =>
      if ok = true then wpAny (model prog w) A (eval elt env) (fun x s₄ =>
       wpAny (model prog w) A (call (.builtin "list.append") [acc, x]) (fun _ s₅ => ∃ m, m < n ∧ I m s₅) (notedBy (model prog w) A env fun e s' => R (.error e) s') s₄) (notedBy (model prog w) A env fun e s' => R (.error e) s') s₃
      else ∃ m, m < n ∧ I m s₃) (notedBy (model prog w) A env fun e s' => R (.error e) s') s₂) (notedBy (model prog w) A env fun e s' => R (.error e) s') s₁) (notedBy (model prog w) A env fun e s' => R (.error e) s') s₁) (notedBy (model prog w) A env fun e s' => R (.error e) s') s)
  (n : Nat) (h : I n s) : codeAny (model prog w) A (.compLoop (.ListComp elt [⟨target, iter, ifs, 0⟩] scope pos) 0 it acc env) R s := by
 refine codeAny_loop rfl I (fun n s hI => ?_) n h
 show wpAny _ A ((compTurn (.ListComp elt [⟨target, iter, ifs, 0⟩] scope pos) 0 it acc env).onRaise (fun x => do noteFrame x env; theTreesLotGoes x)) _ _ s
 refine wpAny_noted ?_
 rw [compTurn_list]
 refine wpAny_bind (wpAny_standAt (wpAny_bind (Ml (turn n s hI) (fun r s₁ h₁ => ?_) fun _ _ h' => h')))
 cases r with
 | none => exact Mq h₁
 | some v =>
  refine wpAny_bind (Ml h₁ (fun _ s₁ h₁ => ?_) fun _ _ h' => h')
  refine wpAny_bind (Ml h₁ (fun _ s₂ h₂ => wpAny_bind (Ml h₂ (fun ok s₃ h₃ => ?_) fun _ _ h' => h')) fun _ _ h' => h')
  cases ok with
  | false => exact Mq ⟨rfl, h₃⟩
  | true =>
   exact wpAny_bind (wpAny_bind (Ml h₃ (fun x s₄ h₄ => wpAny_bind (Ml h₄ (fun _ s₅ h₅ => Mq (Mq ⟨rfl, h₅⟩)) fun _ _ h' => h')) fun _ _ h' => h'))
def uu{own ns:List Str}{caps:List Nat}{elt tg iter:Expr}{ifs:List Expr}{scope:Scope}{pos:Pos}{it:Addr}{fp:List Addr}{tn:Nat->Heap->Prop}{J:It}{g:TG}{tf:TT}{te:TE}{Q:VK}{E:Value->Shared->Prop}{RR:Value->Addr->Result->Shared->Prop}
  (hc:X.calm=true) (S:nL scope ns) (cp:mG X scope ns caps)
  (hg:∀C s H fp pn,PG (su X (own++ns) scope C s H fp pn) tg g) (ht:∀C s H fp pn,PF (su X (own++ns) scope C s H fp pn) ifs tf) (he:∀C s H fp pn,PE (su X (own++ns) scope C s H fp pn) elt te)
  (I:bc X pins σ H s) (T:Turn X.prog X.w X.K tg J fp it tn) (st:tn 0 s.heap) (hf:∀b∈fp,nJ X pins H b) (hJ:iz J g tf te Q (i6 own.length caps σ) H)
  (fin:∀D C m s' H' ys,D≠C->s'.heap.Ns C m->nJ X pins (upd H' D (.lst ys)) C->bc X pins σ (upd H' D (.lst ys)) s'->Q (.ref D) (upd H' D (.lst ys))->RR (.ref D) C (.ok .next) s') :
  wpAny (model X.prog X.w) X.A (newList []) (λacc s₃=>wpAny (model X.prog X.w) X.A (newFunctionEnv scope X.env.globals (lM X.env scope.names []) [] X.env.qual none .none (some X.env)) (λcenv s₄=>
   codeAny (model X.prog X.w) X.A (.compStart (.ListComp elt [⟨tg,iter,ifs,0⟩] scope pos) 0 (.ref it) acc { cenv with scope:=relabel scope X.env }) (RR acc cenv.locals) s₄) E s₃) E s:=by
 refine wpAny_newObj_type (wpAny_newFunctionEnv S.nocell (by intro y hy;simp at hy) (λh₁ hns₁ hsb₁=>?_) S.kind);dsimp only at hns₁ hsb₁ ⊢;generalize hH2:s.heap.push { cls:=.type "list",dict:=none,data:=.seq ([]:List Value).toArray }=H2 at hns₁ hsb₁ ⊢;have hC:H2.objs.size=s.heap.objs.size+1:=by rw[<-hH2,dB]
 have hDC:s.heap.objs.size≠H2.objs.size:=by rw[hC];exact aj (Nat.lt_succ_self _)
 have hCle:s.heap.objs.size<=H2.objs.size:=by rw[hC];exact eK _
 have old:∀b o,s.heap.get? b=some o->h₁.get? b=some o:=λb o e=>hsb₁.extBut b o (by rw[hC];exact aj (fT (aT e))) (aB _ (hH2▸aB _ e));have hacc:h₁.PlainList s.heap.objs.size #[]:=⟨_,hsb₁.extBut _ _ hDC (aB _ (hH2▸aP _ rfl))⟩
 have hfl:∀b∈fp,b<s.heap.objs.size:=λb hb=>by obtain⟨o,e,_⟩:=T.obj _ _ st b hb;exact aT e
 generalize hD:s.heap.objs.size=D at hDC hacc ⊢;generalize hCe:H2.objs.size=C at hns₁ hsb₁ hDC hCle hC ⊢;have hDle:s.heap.objs.size<=D:=by rw[hD];exact aH _
 have hCle':s.heap.objs.size<=C:=by rw[hD];rw[hD] at hCle;exact hCle
 have I₁:bc (su X (own++ns) scope C s H fp (X.pn++pins)) [] (i6 own.length caps σ) H { s with heap:=h₁,toks:=s.toks+([]:List (Str×Value)).length }:=
  wK I S cp hf hfl hCle' rfl rfl old hns₁
 have st₁:tn 0 h₁:=T.keep _ _ _ st λb _ o e=>old b o e;generalize hY:su X (own++ns) scope C s H fp (X.pn++pins)=Y at I₁;have hgY:PG Y tg g:=hY▸hg C s H fp (X.pn++pins);have htY:PF Y ifs tf:=hY▸ht C s H fp (X.pn++pins);have heY:PE Y elt te:=hY▸he C s H fp (X.pn++pins);have yP:Y.prog=X.prog:=by rw[<-hY];rfl
 have yW:Y.w=X.w:=by rw[<-hY];rfl
 have yK:Y.K=X.K:=by rw[<-hY];rfl
 have yA:Y.A=X.A:=by rw[<-hY];rfl
 have yC:Y.calm=true:=by rw[<-hY];exact hc
 have yE:Y.env=compEnvC scope (lM X.env scope.names []) C X.env:=by rw[<-hY];rfl
 have yX:Y.xe=λ_ _=>False:=by rw[<-hY];rfl
 have yF:Y.fs=wC X.stack:=by rw[<-hY];rfl
 have yQ:Y.pn=X.pn++pins:=by rw[<-hY];rfl
 have yI:Y.ex=fp:=by rw[<-hY];rfl
 have yS:Y.s₀=s:=by rw[<-hY];rfl
 have yH:Y.H₀=H:=by rw[<-hY];rfl
 have cells:∀x c,Y.env.cells.lookup x=some c->X.env.cells.lookup x=some c:=λx c e=>by
  rw[yE] at e;rcases mB (λy hy hfr=>I.ok.has y.1 (cp.mem (S.frees y hy hfr))) (show (lM X.env scope.names []).lookup x=some c from e) with z | z
  ·simp at z
  ·exact z
 have nst:∀b,b≠X.env.locals->b∉X.fs->b∉Y.fs:=λb h1 h2 z=>by
  rw[yF] at z;exact(aI.mp (I.stkSub b z)).elim h1 h2
 have fpY:∀{H':Hp},(∀b∈fp,H' b=none)->∀b∈fp,nJ Y [] H' b:=fun {H'} hn b hb=>by
  obtain⟨f0,f1,f2,f3,f4,f5⟩:=hf b hb;refine⟨hn b hb,?_,nst b f1 f2,.inl (by rw[yI];exact hb),λx c e=>f4 x c (cells x c e),λp hp=>f5 p (by simpa [yQ] using hp)⟩;rw[yE];exact aj (a7 (hfl b hb) hCle')
 have fpD:∀{H':Hp},H' D=none->nJ Y [] H' D:=fun {H'} hn=>by
  obtain⟨f0,f1,f2,f3,f4,f5⟩:=I.fpOk (H':=H') hDle hn;refine⟨hn,by rw[yE];exact hDC,nst D f1 f2,.inr (by rw[yS];exact hDle),λx c e=>f4 x c (cells x c e),λp hp=>f5 p (by simpa [yQ] using hp)⟩
 have hDf:D∉fp:=λz=>ce _ (a7 (hfl D z) hDle);have objD:∀{h:Heap} {us:List Value},h.PlainList D us.toArray->∃o,h.get? D=some o/\∀v,o.data≠.cell v:=fun {h us} ⟨n,e⟩=>⟨_,e,λv z=>by cases z⟩
 have noErr:∀{α:Type} {t:Sem α} {Qt:α->Shared->Prop} {sx:Shared} {E':Value->Shared->Prop},wpAny (model Y.prog Y.w) Y.A t Qt Y.xe sx->wpAny (model X.prog X.w) X.A t Qt E' sx:=fun {α t Qt sx E'} h=>by
  rw[yP,yW,yA,yX] at h;exact Ml h (λ_ _ q=>q) λ_ _ f=>f.elim
 obtain⟨W,⟨m0,w0⟩,turn⟩:=hJ;have TY:Turn Y.prog Y.w Y.K tg J fp it tn:=by rw[yP,yW,yK];exact T
 have loop:∀s₃:Shared,s₃={ s with heap:=h₁,toks:=s.toks+([]:List (Str×Value)).length } →
   codeAny (model X.prog X.w) X.A (.compLoop (.ListComp elt [⟨tg,iter,ifs,0⟩] scope pos) 0 (.ref it) (.ref D) (compEnvC scope (lM X.env scope.names []) C X.env)) (RR (.ref D) C) s₃:=by
  rintro s₃ rfl;refine qh (λn s'=>∃i ys us σ' H',bc Y [] σ' H' s'/\tn i s'.heap/\(∀b∈fp,H' b=none)/\H' D=none/\s'.heap.PlainList D us.toArray/\cJ ys us/\W i n ys σ' H') ?_ m0
   ⟨0,[],[],_,H,I₁,st₁,λb hb=>(hf b hb).1,I.hok.fresh hDle,hacc,.nil,w0⟩
  rintro n s3 ⟨i,ys,us,σ3,H3,I3,st3,fr3,hD3,JE,v3,w3⟩;have fD3:∀b∈[D],nJ Y [] H3 b:=λb hb=>by
   have e:b=D:=by simpa using hb
   subst e;exact fpD hD3
  have I3':bc Y ([]++kg [D] s3.heap) σ3 H3 s3:=I3.pinned fD3 λb hb=>by
   have e:b=D:=by simpa using hb
   subst e;exact objD JE
  rw[bM] at I3';have fpY':∀{H':Hp},(∀b∈fp,H' b=none)->∀b∈fp,nJ Y (kg [D] s3.heap) H' b:=fun {H'} hn b hb=>by
   obtain⟨f0,f1,f2,f3,f4,f5⟩:=fpY hn b hb;refine⟨f0,f1,f2,f3,f4,λp hp=>?_⟩;rcases aQ.mp hp with z | z
   ·exact f5 p (by simpa using z)
   ·have e:p.1=D:=by simpa using (rG z).1
    exact λq=>hDf (by rw[<-e,q];exact hb)
  obtain⟨oD,eD,cD⟩:=objD JE;have keepD:∀{σ':St} {H':Hp} {s':Shared} {pl:List (Addr×Obj)},bc Y (kg [D] s3.heap++pl) σ' H' s'->s'.heap.PlainList D us.toArray/\H' D=none:=fun {σ' H' s' pl} I'=>by
   have:=I'.pin (D,oD) (au _ (bG _ (jY (by simp) eD)));refine⟨?_,this.2.1⟩;obtain⟨k,e⟩:=JE;rw[e] at eD;cases eD;exact⟨k,this.1⟩
  rcases turn i n ys σ3 H3 w3 with ⟨stop,hlen,qn⟩ | ⟨go,hlen,step⟩
  ·refine noErr (dZ (TY.done Y rfl rfl rfl yC i _ s3 σ3 H3 Y.xe I3' (fpY' fr3) st3 stop) λr s4 ⟨hr,I4⟩=>?_);subst hr;obtain⟨pl4,hD4⟩:=keepD (pl:=[]) (by rw[bb];exact I4);have hun:Un (wC X.stack) fp H H3 s.heap s4.heap:=by have:=I4.base;rw[yF,yI,yS,yH] at this;exact this
   have hok:nI X.prog X.w H3 s4.heap:=by have:=I4.hok;rw[yP,yW] at this;exact this
   obtain⟨m4,hn4,_⟩:=I4.loc;rw[yE] at hn4;have hC4:H3 C=none:=by have:=I4.free;rw[yE] at this;exact this
   have ne:∀b u,H3 b=some u->b≠D:=λb u e z=>by rw[z,hD4] at e;cases e
   refine fin D C m4 s4 H3 ys hDC hn4 (I.fpOk hCle' (by rw[aR (cC hDC)];exact hC4)) (I.call' (ch:=fp) ?_ ?_ ?_ I4.bare ?_) (qn D hD4)
   ·have:=I4.os;rw[yS] at this;exact this
   ·exact⟨hun.keep,hun.slot,λb o e n hx=>by rw[aR (λz=>by rw[z] at e;exact absurd (aT e) (Nat.not_lt.mpr hDle))];exact hun.free b o e n hx,hun.there,
     λb xs e=>by have:=hun.tups b xs e;rw[aR (ne _ _ this)];exact this,λb o u e=>by have:=hun.frzs b o u e;rw[aR (ne _ _ this)];exact this,
     λb ps e=>by obtain⟨more,q⟩:=hun.tbls b ps e;exact⟨more,by rw[aR (ne _ _ q)];exact q⟩⟩
   ·intro b u e;by_cases hb:b=D
    ·subst hb;rw[aG] at e;cases e;obtain⟨k,e4⟩:=pl4;exact⟨hlen,us,k,v3,e4⟩
    ·rw[aR hb] at e;exact(hok b u e).stay (λc v _ q=>q) (λc q=>by rw[aR (ne _ _ q)];exact q) λc xs q=>by rw[aR (ne _ _ q)];exact q
   ·intro b hb;obtain⟨f0,f1,f2,f3,f4,f5⟩:=hf b hb;exact⟨f3,f1,f4,f5⟩
  ·refine noErr (dZ (TY.item Y rfl rfl rfl yC i _ s3 σ3 H3 Y.xe I3' (fpY' fr3) st3 go) λr s4 ⟨u,hr,h4⟩=>?_);subst hr;refine noErr (dZ h4 λ_ s5 ⟨x,H5,I5,r5,y5,st5,fr5⟩=>?_);have I5':=I5.pinned (fpY' fr5) (T.obj _ _ st5);rw[<-yE];refine noErr (dZ (hgY _ s5 σ3 H5 x u _ I5' r5 (step x H5 y5)) λ_ s6 ⟨σ6,H6,I6,q6⟩=>?_);refine noErr (dZ (htY _ s6 σ6 H6 _ I6 q6) λok s7 ⟨H7,I7,q7⟩=>?_);have fpK:∀{σ':St} {H':Hp} {s':Shared},bc Y (kg [D] s3.heap++kg fp s5.heap) σ' H' s'->tn (i+1) s'.heap/\∀b∈fp,H' b=none:=fun {σ' H' s'} I'=>
    ⟨T.keep _ _ _ st5 λb hb o e=>(I'.pin (b,o) (au _ (au _ (jY hb e)))).1,λb hb=>by
     obtain⟨o,e,_⟩:=T.obj _ _ st5 b hb;exact(I'.pin (b,o) (au _ (au _ (jY hb e)))).2.1⟩
   cases ok with
   | false=>
    rw[NI bC] at q7 ⊢;obtain⟨m',hm,w7⟩:=q7;obtain⟨pl7,hD7⟩:=keepD I7;obtain⟨st7,fr7⟩:=fpK I7;exact⟨m',hm,i+1,ys,us,σ6,H7,I7.pins_of (λp hp=>nomatch hp),st7,fr7,hD7,pl7,v3,w7⟩
   | true=>
    rw[NJ rfl] at q7 ⊢;refine noErr (dZ (heY _ s7 σ6 H7 _ I7 q7) λy s8 ⟨yv,H8,I8,r8,m',hm,w8⟩=>?_);obtain⟨pl8,hD8⟩:=keepD I8;obtain⟨st8,fr8⟩:=fpK I8;have hul:us.length=ys.length:=v3.length.symm;refine wpAny_list_append_plain (hsz:=by rw[aU,hul];exact bx hlen) pl8 λh9 pl9 sb9=>?_;obtain⟨d0,d1,d2,d3,d4,d5⟩:=fpD hD8;refine⟨m',hm,i+1,ys++[yv],us++[y],σ6,H8,?_,?_,fr8,hD8,by simpa using pl9,v3.append (.cons r8 .nil),w8⟩
    ·exact(I8.pins_of (pins':=[]) λp hp=>nomatch hp).turned (t':=s8.toks) (λb o hb e=>(sb9.2 b hb).trans e) hD8 d1 d3 d4 d5
    ·exact T.keep _ _ _ st8 λb hb o e=>(sb9.2 b (λz=>hDf (z▸hb))).trans e
 exact codeAny_compStart_list (loop _ rfl) (T.self _ 0 _ _ _ st₁ (loop _ rfl))
def mU(k:Nat)(caps:List Nat)(wi:TI)(g:TG)(tf:TT)(te:TE):TE:=λσ H Q=>wi σ H λJ H1=>iz J g tf te Q (i6 k caps σ) H1
def mG.cl{scope:Scope}{ns:List Str}{caps:List Nat}(I:bc X pins σ H s)(S:nL scope ns)(cp:mG X scope ns caps):closureFor scope X.env=pure (lM X.env scope.names []):=
 qj λy hy hfr=>I.ok.has y.1 (cp.mem (S.frees y hy hfr))
def D4{own ns:List Str}{caps:List Nat}{elt tg iter:Expr}{ifs:List Expr}{scope:Scope}{pos:Pos}{wi:TI}{g:TG}{tf:TT}{te:TE}(hc:X.calm=true)(S:nL scope ns)(cp:mG X scope ns caps)(hi:PI X tg iter wi)
  (hg:∀C s H fp pn,PG (su X (own++ns) scope C s H fp pn) tg g) (ht:∀C s H fp pn,PF (su X (own++ns) scope C s H fp pn) ifs tf) (he:∀C s H fp pn,PE (su X (own++ns) scope C s H fp pn) elt te)
  (hs:∀x,foldedSetIterable iter X.env x=pure x:=by intro _;rfl):PE X (.ListComp elt [⟨tg,iter,ifs,0⟩] scope pos) (mU own.length caps wi g tf te):=by
 intro pins s σ H Q I h;rw[eval_ListComp];refine wpAny_comprehension_free (use:=none) rfl hs (cp.cl I S) S.kind S.names (dZ (hi pins s σ H _ I h) λv s1 h1=>dZ h1 λitv s2 h2=>?_);obtain⟨it,fp,tn,J,H2,e,I2,T,st2,f2,hJ⟩:=h2;subst e;refine uu hc S cp hg ht he I2 T st2 f2 hJ (RR:=λacc C=>compPost (model X.prog X.w) X.A X.xe none (EP X pins σ Q) acc C) λD C m s' H' ys hDC hn fC I' q=>?_;refine⟨m,hn,λh' hs'=>⟨.ref D,_,?_,rfl,q⟩⟩;obtain⟨f0,f1,f2,f3,f4,f5⟩:=fC;exact I'.turned (t':=s'.toks) (λb o hb e=>(hs'.2 b hb).trans e) f0 f1 f3 f4 f5
def DP{i:Nat}{x:Str}{own ns:List Str}{caps:List Nat}{elt tg iter:Expr}{ifs:List Expr}{scope:Scope}{pos pos' spos:Pos}{wi:TI}{g:TG}{tf:TT}{te:TE}(hN:X.N.Nodup)(hi:X.N[i]? = some x)(hx:Loc X.env.scope x)(hc:X.calm=true)(S:nL scope ns)(cp:mG X scope ns caps)(hit:PI X tg iter wi)
  (hg:∀C s H fp pn,PG (su X (own++ns) scope C s H fp pn) tg g) (ht:∀C s H fp pn,PF (su X (own++ns) scope C s H fp pn) ifs tf) (he:∀C s H fp pn,PE (su X (own++ns) scope C s H fp pn) elt te)
  (hs:∀x,foldedSetIterable iter X.env x=pure x:=by intro _;rfl) (hsw:swapsWith (.ListComp elt [⟨tg,iter,ifs,0⟩] scope pos) (some (.Name x pos')) spos.line X.env=pure true:=by rfl)
  (hf:X.fn x=true\/X.env.scope.names.lookup x=some .local:=by first | exact .inl rfl | exact .inr rfl | assumption) :
  PS X (.Assign [.Name x pos'] (.ListComp elt [⟨tg,iter,ifs,0⟩] scope pos) spos) (vR (mU own.length caps wi g tf te) (lH i)):=by
 intro pins s σ H D I h;rw[exec_Assign_Name_used _ _ _ _ hsw];refine wpAny_bind (wpAny_standAt (wpAny_bind ?_));show wpAny _ X.A (do let _ <-comprehension (.ListComp elt [⟨tg,iter,ifs,0⟩] scope pos) scope X.env _ (newList []) false (eval iter X.env) (some (assign (.Name x pos') X.env))) _ _ s;refine wpAny_bind (Ml (wpAny_comprehension_free (use:=some (assign (.Name x pos') X.env)) (Q:=λ_ s'=>SP X pins D .next s') rfl hs (cp.cl I S) S.kind S.names
  (dZ (hit pins s σ H _ I h) λv s1 h1=>dZ h1 λitv s2 h2=>?_)) (λ_ s' hq=>Mq (Mq hq)) λ_ _ e=>e)
 obtain⟨it,fp,tn,J,H2,e,I2,T,st2,f2,hJ⟩:=h2;subst e;refine uu hc S cp hg ht he I2 T st2 f2 hJ (RR:=λacc C=>compPost (model X.prog X.w) X.A X.xe (some (assign (.Name x pos') X.env)) (λ_ s'=>SP X pins D .next s') acc C) λL C m s' H' ys hDC hn fC I' q=>?_;show wpAny _ X.A (assign (.Name x pos') X.env (.ref L)) _ _ _;refine wpAny_assign_Name (qu I' hN hi hx (v:=.ref L) (u:=.ref L) rfl (λs'' I'' ⟨a,sb,ha⟩=>?_) hf);obtain⟨f0,f1,f2,f3,f4,f5⟩:=fC;have hCa:C≠a:=by
  rcases ha with z | z
  ·rw[z];exact f1
  ·exact λy=>f4 _ _ z y.symm
 exact⟨m,hn.sameBut sb hCa,λh' hs'=>⟨_,_,I''.turned (t':=s''.toks) (λb o hb e=>(hs'.2 b hb).trans e) f0 f1 f3 f4 f5,q⟩⟩
def wj{k:Nat}{caps:List Nat}{K:NQ}{tl:TE}{g:TG}{tf:TT}{te:TE}{Q:VK}:mU k caps (xu K tl) g tf te σ H Q=tl σ H λx H1=>∃a,x=.ref a/\(∃xs,cF K H1 a xs)/\iz (C9 K a) g tf te Q (i6 k caps σ) H1:=rfl
def wg{k:Nat}{caps:List Nat}{K:NQ}{tl:TE}{g:TG}{tf:TT}{te:TE}{Q:VK}:mU k caps (Dy K tl) g tf te σ H Q=tl σ H λx H1=>∃a,x=.ref a/\(∃xs,dm K H1 a xs)/\iz (Im K a) g tf te Q (i6 k caps σ) H1:=rfl
def wq{k:Nat}{caps:List Nat}{ta:TA}{g:TG}{tf:TT}{te:TE}{Q:VK}:mU k caps (xt ta) g tf te σ H Q=ta σ H λvs H1=>∃j:Int,vs=[.int j]/\-(2 ^ 62)<=j/\j<2 ^ 62/\iz (zj 0 j.toNat) g tf te Q (i6 k caps σ) H1:=rfl
def wn{k:Nat}{caps:List Nat}{ta:TA}{g:TG}{tf:TT}{te:TE}{Q:VK}:mU k caps (xr ta) g tf te σ H Q=ta σ H λvs H1=>∃i j:Int,vs=[.int i,.int j]/\(-(2 ^ 62)<=i/\i<2 ^ 62/\-(2 ^ 62)<=j/\j<2 ^ 62)/\iz (zj i (j-i).toNat) g tf te Q (i6 k caps σ) H1:=rfl
def w9{x:Str}{l:List Str}{caps:List Nat}:i6 (x::l).length caps σ=none::i6 l.length caps σ:=rfl
def wY{i:Nat}{is:List Nat}:i6 ([]:List Str).length (i::is) σ=zS σ i::i6 ([]:List Str).length is σ:=rfl
def wZ:i6 ([]:List Str).length [] σ=[]:=rfl
def zz{x:Option V}:zS (x::σ) 0=x:=rfl
def w_getS{x:Option V}{i:Nat}:zS (x::σ) (i+1)=zS σ i:=rfl
def zy{q:Bool->Hp->Prop}:oY σ H q=q true H:=rfl
end
section
variable {K:NQ} {a:Addr} {xs:List V} {g:TG} {tf:TT} {te:TE} {Q:VK} {σ:St} {H:Hp}
def sv{J:It}(n:Nat)(hsz:n<=sizeLine)(Pv:Nat->List V->St->Hp->Prop)(h0:Pv 0 [] σ H)(hlen:∀i ys σ H,Pv i ys σ H->ys.length<=i)(hgo:∀i ys σ H,i<n->Pv i ys σ H->J.go i H)(hstop:∀ys σ H,Pv n ys σ H->J.stop n H)
  (hs:∀i ys σ H x H' (N:List V->St->Hp->Prop),i<n->Pv i ys σ H->J.yld i H x H'->(∀ys σ H,Pv (i+1) ys σ H->N ys σ H)->g x σ H' λσ2 H2=>tf σ2 H2 λb H3=>if b=true then te σ2 H3 λy H4=>N (ys++[y]) σ2 H4 else N ys σ2 H3)
  (hd:∀ys σ H p,Pv n ys σ H->H p=none->Q (.ref p) (upd H p (.lst ys))):iz J g tf te Q σ H:=by
 refine⟨λi m ys σ H=>m=n-i/\i<=n/\Pv i ys σ H,⟨n,by simp,bF _,h0⟩,?_⟩;rintro i m ys σ H ⟨rfl,hi,p⟩;have hy:=hlen i ys σ H p;by_cases hlt:i<n
 ·refine .inr ⟨hgo i ys σ H hlt p,by lia,λx H' y=>?_⟩;exact hs i ys σ H x H' (λys σ H=>∃m',m'<n-i/\m'=n-(i+1)/\i+1<=n/\Pv (i+1) ys σ H) hlt p y λys σ H z=>⟨n-(i+1),by lia,rfl,hlt,z⟩
 ·have e:i=n:=by lia
  subst e;exact .inl ⟨hstop ys σ H p,by lia,λp' hp=>hd ys σ H p' p hp⟩
def kL(Pv:Nat->List V->St->Hp->Prop)(h0:Pv 0 [] σ H)(hl:∀i ys σ H,Pv i ys σ H->cF K H a xs/\ys.length<=i)(hsz:xs.length<=sizeLine)
  (hs:∀i x ys σ H (N:List V->St->Hp->Prop),xs[i]? = some x->Pv i ys σ H->(∀ys σ H,Pv (i+1) ys σ H->N ys σ H)->g x σ H λσ2 H2=>tf σ2 H2 λb H3=>if b=true then te σ2 H3 λy H4=>N (ys++[y]) σ2 H4 else N ys σ2 H3)
  (hd:∀ys σ H p,Pv xs.length ys σ H->H p=none->Q (.ref p) (upd H p (.lst ys))):iz (C9 K a) g tf te Q σ H:=by
 refine sv xs.length hsz Pv h0 (λi ys σ H p=>(hl i ys σ H p).2) (λi ys σ H hi p=>⟨xs,xs[i],(hl i ys σ H p).1,by simp[hi]⟩) (λys σ H p=>⟨xs,(hl _ ys σ H p).1,aH _⟩) ?_ hd;rintro i ys σ H x H' N hi p ⟨rfl,y⟩ hN;exact hs i x ys σ H' N (y xs (hl i ys σ _ p).1) p hN
def qO{J:It}(n:Nat)(hsz:n<=sizeLine){rest:St}(xs ys:List V)(hl:ys.length=n)(hgo:∀i,i<n->J.go i H)(hstop:J.stop n H)(hy:∀i x H',i<n->J.yld i H x H'->H'=H/\xs[i]? = some x)
  (hs:∀(i:Nat) (x y:V) (Q':VK),xs[i]? = some x->ys[i]? = some y->Q' y H->te (some x::rest) H Q')
  (q:∀p,H p=none->Q (.ref p) (upd H p (.lst ys))):iz J (lH 0) oY te Q (none::rest) H:=by
 refine sv n hsz (λi zs σ H'=>H'=H/\zs=ys.take i/\∃x,σ=x::rest) ⟨rfl,by simp,_,rfl⟩ ?_ ?_ ?_ ?_ ?_
 ·rintro i zs σ H' ⟨rfl,rfl,_⟩;rw[bp];lia
 ·rintro i zs σ H' hi ⟨rfl,_,_⟩;exact hgo i hi
 ·rintro zs σ H' ⟨rfl,_,_⟩;exact hstop
 ·rintro i zs σ H1 x H' N hi ⟨rfl,rfl,z,rfl⟩ y hN;obtain⟨rfl,hx⟩:=hy i x H' hi y;show te (some x::rest) H' _;have hyi:ys[i]? = some ys[i]:=aN (by lia);refine hs i x ys[i] _ hx hyi (hN _ _ _ ⟨rfl,?_,_,rfl⟩);rw[bW,hyi];rfl
 ·rintro zs σ H' p ⟨rfl,rfl,_⟩ hp;rw[<-hl,cX];exact q p hp
def rN{rest:St}(hx:cF K H a xs)(hsz:xs.length<=sizeLine)(ys:List V)(hl:ys.length=xs.length)
  (hs:∀(i:Nat) (x y:V) (Q':VK),xs[i]? = some x->ys[i]? = some y->Q' y H->te (some x::rest) H Q')
  (q:∀p,H p=none->Q (.ref p) (upd H p (.lst ys))):iz (C9 K a) (lH 0) oY te Q (none::rest) H:=by
 refine qO xs.length hsz xs ys hl (λi hi=>⟨xs,xs[i],hx,by simp[hi]⟩) ⟨xs,hx,aH _⟩ (λi x H' hi y=>⟨y.1,y.2 xs hx⟩) hs q
def zY{rest:St}(hx:dm K H a xs)(hsz:xs.length<=sizeLine)(ys:List V)(hl:ys.length=xs.length)
  (hs:∀(i:Nat) (x y:V) (Q':VK),xs[i]? = some x->ys[i]? = some y->Q' y H->te (some x::rest) H Q')
  (q:∀p,H p=none->Q (.ref p) (upd H p (.lst ys))):iz (Im K a) (lH 0) oY te Q (none::rest) H:=
 qO xs.length hsz xs ys hl (λi hi=>⟨xs,xs[i],hx,by simp[hi]⟩) ⟨xs,hx,aH _⟩ (λi x H' hi y=>⟨y.1,y.2 xs hx⟩) hs q
def zZ{lo:Int}{n:Nat}{rest:St}(hsz:n<=sizeLine)(ys:List V)(hl:ys.length=n)
  (hs:∀(i:Nat) y (Q':VK),i<n->ys[i]? = some y->Q' y H->te (some (.int (lo+i))::rest) H Q')
  (q:∀p,H p=none->Q (.ref p) (upd H p (.lst ys))):iz (zj lo n) (lH 0) oY te Q (none::rest) H:=by
 refine qO n hsz ((List.range n).map λi:Nat=>V.int (lo+i)) ys hl (λi hi=>hi) (aH _) (λi x H' hi y=>⟨y.1,by simp[hi,y.2]⟩) (λi x y Q' hx hy hq=>?_) q;have hi:i<n:=by
  have:=(aJ.mp hx).1;simpa using this
 have e:x=.int (lo+i):=by simp[hi] at hx;exact hx.symm
 subst e;exact hs i y Q' hi hy hq
end
def gT{c:Prop} [Decidable c] {A B:Prop} (h:¬c) (b:B):if c then A else B:=by rw[NI h];exact b
def kK{c:Prop} [Decidable c] {A B:Prop} (h:c) (a:A):if c then A else B:=by rw[NJ h];exact a
section
variable {X:Cx} {K:NQ}
def ug(h:X.K=K):Gp X (DC K):=h▸bq
def xo(h:X.K=K):Gp X (Fe K):=h▸fD
def xi(h:X.K=K)(hu:X.A.units+64<cLine):kR X (compareOp .In) (DD K false):=h▸vc hu
def DY{es:List Expr}{k:Nat}{t:ya}{n:Nat}{pos:Pos}(hK:X.K=K)(hc:X.calm=true)(h:HC X es t)
  (hn:(assignEach es X.env).length=n:=by rfl) (hst:(assignEach es X.env).findIdx? (·.1)=none:=by rfl):PG X (.Tuple es k pos) (CD K n t):=hK▸BI hc h hn hst
end
def wQ (o:Obj) (xs:List Str):Prop:=o.cls=.type "tuple"/\∃its n,o.data=.seq its n/\its.size<=sizeLine/\cJ (xs.map V.str) its.toList
def yi {o:Obj} {xs:List Str} {its:Array Value} {n:Nat} (h1:o.cls=.type "tuple") (h2:o.data=.seq its n) (h3:its.size<=sizeLine) (h4:cJ (xs.map V.str) its.toList):wQ o xs:=⟨h1,its,n,h2,h3,h4⟩
def CC{K:NQ}{h:Heap}{mg:Str->Option Value}{x:Str}{a:Addr}{o:Obj}{xs:List Str}(X:K.In h)(G:h.Ns mainGlobals mg)(y:PySem.W.nsIn K mainGlobals x=some (some (.ref a)))(l:K.lookup a=some o)(t:wQ o xs):
  ∃a,mg x=some (.ref a)/\∀H,dm K H a (xs.map V.str):=by
 obtain⟨h1,its,n,h2,h3,h4⟩:=t;exact⟨a,de X G y,λH=>.inr ⟨o,its,n,l,h1,h2,h3,h4⟩⟩
def vN(K:NQ)(xs:List V):TE:=λ_ H Q=>∀a,(∀H,dm K H a xs)->Q (.ref a) H
def BM {X:Cx} {x:Str} {K:NQ} {xs:List V} {pos:Pos} (hg:Gl X x) (hm:∃a,X.mg x=some (.ref a)/\∀H,dm K H a xs) (hd:(x==("__debug__":Str))=false:=by decide):PE X (.Name x pos) (vN K xs):=by
 obtain⟨a,h1,h2⟩:=hm;intro pins s σ H Q I h;exact sP (v:=.ref a) hg h1 rfl hd pins s σ H Q I (h a h2)
def Ci{K:NQ}{xs:List V}{σ:St}{H:Hp}{Q:VK}:vN K xs σ H Q=∀a,(∀H,dm K H a xs)->Q (.ref a) H:=rfl
def Ct(t u:TS):TS:=λD σ H=>∃J:St->Hp->Prop,t { D with nx:=J } σ H/\∀σ' H',J σ' H'->u D σ' H'
def DO{X:Cx}{st:Stmt}{rest:List Stmt}{t u:TS}(h1:PS X st t)(h2:vC X rest u):vC X (st::rest) (Ct t u):=by
 intro pins s σ H D I h;obtain⟨J,h,hJ⟩:=h;refine wpAny_execs_cons (dZ (h1 pins s σ H { D with nx:=J } I h) λf s1 q=>?_);cases f with
 | next=>
  obtain⟨σ',H',I',q⟩:=q;exact h2 pins s1 σ' H' D I' (hJ _ _ q)
 | ret v=>exact q
 | brk=>exact q
 | cont=>exact q
section
variable {X:Cx} {es:List Expr} {te:TE} {t:TA}
def BW{a0:PySem.Expr}{a1:PySem.Operator}{a2:PySem.Expr}{a3:PySem.Pos}(ha:PE X (Expr.BinOp a0 a1 a2 a3) te)(hr:PA X es t):PA X ((Expr.BinOp a0 a1 a2 a3)::es) (eU te t):=gA ha hr rfl
def v9{a0:PySem.UnaryOp}{a1:PySem.Expr}{a2:PySem.Pos}(ha:PE X (Expr.UnaryOp a0 a1 a2) te)(hr:PA X es t):PA X ((Expr.UnaryOp a0 a1 a2)::es) (eU te t):=gA ha hr rfl
def uP{a0:PySem.Expr}{a1:List Comprehension}{a2:PySem.Scope}{a3:PySem.Pos}(ha:PE X (Expr.ListComp a0 a1 a2 a3) te)(hr:PA X es t):PA X ((Expr.ListComp a0 a1 a2 a3)::es) (eU te t):=gA ha hr rfl
def va{a0:PySem.Expr}{a1:List CmpOp}{a2:List Expr}{a3:PySem.Pos}(ha:PE X (Expr.Compare a0 a1 a2 a3) te)(hr:PA X es t):PA X ((Expr.Compare a0 a1 a2 a3)::es) (eU te t):=gA ha hr rfl
def Dc{a0:PySem.Expr}{a1:List Expr}{a2:List Keyword}{a3:PySem.Pos}(ha:PE X (Expr.Call a0 a1 a2 a3) te)(hr:PA X es t):PA X ((Expr.Call a0 a1 a2 a3)::es) (eU te t):=gA ha hr rfl
def uQ{a0:PySem.Const}{a1:Nat}{a2:PySem.Pos}(ha:PE X (Expr.Constant a0 a1 a2) te)(hr:PA X es t):PA X ((Expr.Constant a0 a1 a2)::es) (eU te t):=gA ha hr rfl
def sQ{a0:PySem.Expr}{a1:PySem.Expr}{a2:PySem.Pos}(ha:PE X (Expr.Subscript a0 a1 a2) te)(hr:PA X es t):PA X ((Expr.Subscript a0 a1 a2)::es) (eU te t):=gA ha hr rfl
def D8{a0:PySem.Str}{a1:PySem.Pos}(ha:PE X (Expr.Name a0 a1) te)(hr:PA X es t):PA X ((Expr.Name a0 a1)::es) (eU te t):=gA ha hr rfl
def D9{a0:List Expr}{a1:PySem.Pos}(ha:PE X (Expr.List a0 a1) te)(hr:PA X es t):PA X ((Expr.List a0 a1)::es) (eU te t):=gA ha hr rfl
def BV{a0:List Expr}{a1:Nat}{a2:PySem.Pos}(ha:PE X (Expr.Tuple a0 a1 a2) te)(hr:PA X es t):PA X ((Expr.Tuple a0 a1 a2)::es) (eU te t):=gA ha hr rfl
def Da{a0:List (Option Expr)}{a1:List Expr}{a2:PySem.Pos}(ha:PE X (Expr.Dict a0 a1 a2) te)(hr:PA X es t):PA X ((Expr.Dict a0 a1 a2)::es) (eU te t):=gA ha hr rfl
end
def AB{to ti:TE}{t:C2}{v:V}{σ:St}{H:Hp}{q:St->Hp->Prop}:Ga to ti t v σ H q=to σ H λo H1=>ti σ H1 λi H2=>t o i v H2 λH3=>q σ H3:=rfl
def cm{t u:TS}{D:Ends}{σ:St}{H:Hp}(J:St->Hp->Prop)(h1:t { nx:=J,rt:=D.rt,bk:=D.bk,ct:=D.ct } σ H)(h2:∀σ' H',J σ' H'->u D σ' H'):Ct t u D σ H:=⟨J,h1,h2⟩
end L2
namespace Rm
def dl(b:Bool):Int:=if b then 1 else -1
def D(bs:List Bool)(i:Nat):Int:=((bs.take i).map dl).sum
structure Ik (bs:List Bool) (k m:Nat):Prop where
 lt:k<m
 ml:m<bs.length
 op:bs[k]? = some true
 cl:bs[m]? = some false
 eq:D bs (m+1)=D bs k
 gt:∀ i,k<i->i<=m->D bs k<D bs i
end Rm
namespace L2
open PySem PySem.Spec PyProof.Rows
def Ca.okS{P:Program}{w:World}{K:NQ}{mg:Str->Option Value}{base:Heap}{x qual:Str}{st:Stmt}{f:Addr}{fd:FuncData}{N ps:List Str}{k:Nat}{sp:Sp}(F:Ca K x qual st f fd)(S:bU N ps (am st))(len:∀vs H Q E,sp vs H Q E->vs.length=ps.length)
  (hbody:∀(cdv:Value) (A:Around) (outer:List Env) (s:Shared) (H:Hp) (vs:List V) (Q:VK) (E:XK),j9 k (A.deeper (envOfC qual (am st) s.heap.objs.size f cdv))->sp vs H Q E →
   ∃(σ:St) (t:TS),start N vs=σ/\vC (uq Cb P w K mg base N qual (am st) f cdv A outer s H E).nox (iX st) t/\t { nx:=λ_ H'=>Q .non H',rt:=Q } σ H):qW P w K mg base Cb (k+1) f fd ps sp:=
 F.ok S len λcdv A outer s H vs Q E hr h=>by
  obtain⟨σ,t,e,h1,h2⟩:=hbody cdv A outer s H vs Q E hr h;exact⟨t,h1,by rw[e];exact h2⟩
def lq{A:Around}{k:Nat}(hr:j9 k A):A.units+64<cLine:=hr.units
end L2
namespace Rm
open PySem L2
def Jv(b:Bool):Nat:=if b then 40 else 41
def wd(bs:List Bool):Str:=⟨(bs.map Jv).toArray⟩
abbrev Bw:=Int×Int
def gL(H:Hp)(a:Addr)(p:Bw):Prop:=H a=some (.tup [.int p.1,.int p.2])
def gK(H:Hp)(l:Addr)(ps:List Bw):Prop:=∃as:List Addr,H l=some (.lst (as.map V.ref))/\Paired (gL H) as ps
def gL.same{H H':Hp}(s:aV H H'){a:Addr}{p:Bw}(h:gL H a p):gL H' a p:=s _ _ h
def gK.same{H H':Hp}(s:aV H H'){l:Addr}{ps:List Bw}(h:gK H l ps):gK H' l ps:=
 let ⟨as,h1,h2⟩:=h
 ⟨as,s _ _ h1,f7 h2 λ_ _ z=>z.same s⟩
def uz{H:Hp}{l f:Addr}{ps:List Bw}{xs ys:List V}(h:gK H f ps)(hl:H l=some (.lst xs))(ne:f≠l):gK (upd H l (.lst ys)) f ps:=by
 obtain⟨as,h1,h2⟩:=h;refine⟨as,by rw[aR ne];exact h1,f7 h2 λa p z=>?_⟩;have z':H a=some (.tup [.int p.1,.int p.2]):=z;show upd _ _ _ a=_;rw[aR (Bf z' hl (by intro q;cases q))];exact z'
def rQ{H:Hp}{l hd:Addr}{as:List Addr}{ps:List Bw}(h2:Paired (gL H) as ps)(hn:H hd=none):gK (upd H hd (.lst (as.map V.ref))) hd ps:=
 ⟨as,aG,f7 h2 λa p z=>by
  have z':H a=some (.tup [.int p.1,.int p.2]):=z;show upd _ _ _ a=_;rw[aR (ak z' hn)];exact z'⟩
def gK.get{H:Hp}{l:Addr}{ps:List Bw}(h:gK H l ps):∃as:List Addr,H l=some (.lst (as.map V.ref))/\as.length=ps.length/\∀(i:Nat) x,(as.map V.ref)[i]? = some x->∃a p,x=.ref a/\ps[i]? = some p/\gL H a p:=by
 obtain⟨as,h1,h2⟩:=h;refine⟨as,h1,cv h2,λi x hx=>?_⟩;rw[a9] at hx;cases e:as[i]? with
 | none=>rw[e] at hx;cases hx
 | some a=>
  rw[e] at hx;obtain⟨p,hp,ht⟩:=iJ h2 e;exact⟨a,p,(bH hx).symm,hp,ht⟩
def fN(p q:Bw):Bool:=decide (p.1<q.1)&&(decide (q.1<p.2)&&decide (p.2<q.2))
def iK(ws:List Nat):List V:=ws.map λ(n:Nat)=>V.int (n:Int)
def nZ(ws:List Nat):(iK ws).length=ws.length:=by simp[iK]
def mQ(ws:List Nat)(k:Nat):iK (ws++[k])=iK ws++[.int k]:=by simp[iK]
def oR(ws:List Nat)(k:Nat):(iK (ws++[k])).dropLast=iK ws:=by rw[mQ];simp
def oQ(ws:List Nat)(k:Nat):(iK (ws++[k]))[(iK (ws++[k])).length - 1]? = some (.int k):=by rw[mQ];simp
def pS:Sp:=λvs H Q _=>∃l ps,vs=[.ref l]/\gK H l ps/\((∀p∈ps,∀q∈ps,fN p q=false)->Q .non H) ∧
 ∀p∈ps,∀q∈ps,fN p q=true->∀t a b H',H t=none->aV H H'->H' t=some (.tup [.ref a,.ref b])->gL H' a p->gL H' b q->Q (.ref t) H'
def ox (K:NQ):Sp:=λvs H Q _=>∃(x:V) (t:Value) (b c:Bool),vs=[x]/\nF K H x t/\PySem.W.kitOne K t (.type "int")=some b/\PySem.W.kitOne K t (.type "bool")=some c/\Q (.bl (b&&!c)) H
def tm(K:NQ):Sp:=λvs H Q _=>∃(a:Addr) (ns:List Int),vs=[.ref a]/\cF K H a (ns.map V.int)/\ns.length<=63/\∀H',Q (.bl true) H'
end Rm
namespace Rm
open PySem PySem.W PyProof.Rows
section
variable {r:Nat->Int} {N:Nat} {cmp:Nat->Nat->(Bool->Shared->Prop)->Shared->Prop} {s:Shared}
def Told(r:Nat->Int)(N:Nat)(cmp:Nat->Nat->(Bool->Shared->Prop)->Shared->Prop)(s:Shared):Prop:=
 ∀i j,i<N->j<N->∀C:Bool->Shared->Prop,C (decide (r i<r j)) s->cmp i j C s
def In(N:Nat)(p:Array Nat):Prop:=p.size=N/\∀i,p.getD i 0<N
def Kk(r:Nat->Int)(p:Array Nat)(i:Nat):Int:=r (p.getD i 0)
def vE(r:Nat->Int)(p:Array Nat)(k:Nat):Prop:=∀i j,i<=j->j<k->Kk r p i<=Kk r p j
def Ey(r:Nat->Int)(p:Array Nat)(k:Nat):Prop:=∀i j,i<=j->j<k->Kk r p j<=Kk r p i
def mE{p q:Array Nat}{i j:Nat}(h:p[i]? = q[j]?):Kk r p i=Kk r q j:=by
 unfold Kk;rw[cE,cE,h]
def tL{p:Array Nat}{i j:Nat}(hj:j<=p.size)(k:Nat):Kk r (kas_rev p i j) k=if i<=k/\k<j then Kk r p (i+j - 1-k) else Kk r p k:=by
 have e:=getElem?_mirror_all (i:=i) hj k;unfold kas_rev;by_cases h1:i<=k/\k<j
 ·rw[NJ h1] at e ⊢;exact mE e
 ·rw[NI h1] at e ⊢;exact mE e
def rW{p:Array Nat}{src d:Nat}(hs:src<p.size)(hd:d<=src)(k:Nat):Kk r (bubble p src d) k=if k=src-d then Kk r p src else if src-d<k/\k<=src then Kk r p (k - 1) else Kk r p k:=by
 have e:=getElem?_bubble hs d hd k;by_cases h1:k=src-d
 ·rw[NJ h1] at e ⊢;exact mE e
 ·rw[NI h1] at e ⊢;by_cases h2:src-d<k/\k<=src
  ·rw[NJ h2] at e ⊢;exact mE e
  ·rw[NI h2] at e ⊢;exact mE e
def In.of_perm{p q:Array Nat}(h:In N p)(hp:q.Perm p):In N q:=by
 refine⟨hp.size_eq.trans h.1,λi=>?_⟩;rw[cE];cases e:q[i]? with
 | none=>
  have:=h.2 N;rw[cE,lE (oB h.1)] at this;exact this
 | some x=>
  have hx:x∈q:=lW e;have hx':x∈p:=hp.mem_iff.mp hx;obtain⟨j,hj,rfl⟩:=Array.mem_iff_getElem.mp hx';have:=h.2 j;rw[cE,dy hj] at this;exact this
def In.rev{p:Array Nat}(h:In N p)(i j:Nat):In N (kas_rev p i j):=h.of_perm (Mz _ _ _ _)
def qT(T:Told r N cmp s){G:Nat->Shared->Prop}{p:Array Nat}(hp:In N p):∀(f n:Nat),1<=n->vE r p n->(∀m,n<=m->m<=n+f->vE r p m->(m<n+f->Kk r p m<Kk r p (m - 1))->G m s)->(kas_asc p f n).kasWp cmp G s
 | 0,n,_,ha,hG=>hG n (aH _) (aH _) ha (λh=>absurd h (by lia))
 | f+1,n,h1,ha,hG=>by
  refine T _ _ (hp.2 _) (hp.2 _) _ ?_;by_cases c:Kk r p n<Kk r p (n - 1)
  ·have c':r (p.getD n 0)<r (p.getD (n - 1) 0):=c;rw[NM c'];exact hG n (aH _) (by lia) ha λ_=>c
  ·have c':¬r (p.getD n 0)<r (p.getD (n - 1) 0):=c;rw[NL c'];refine qT T hp f (n+1) (by lia) (λi j hij hj=>?_) λm a b c2 d=>hG m (by lia) (by lia) c2 λe=>d (by lia);by_cases e:j=n
   ·subst e;by_cases e2:i=j
    ·subst e2;exact df _
    ·have:=ha i (j - 1) (by lia) (by lia);lia
   ·exact ha i j hij (by lia)
def Gi(r:Nat->Int)(p:Array Nat)(n q:Nat):Prop:=q<n/\∀k,n-(q+1)<=k->k<n->Kk r p k=Kk r p (n - 1)
def uF{p:Array Nat}{n q:Nat}(hn:n<=p.size)(h:Gi r p n q)(k:Nat):Kk r (kas_rev p (n-(q+1)) n) k=Kk r p k:=by
 rw[tL hn]
 split
 ·rw[h.2 _ (by have:=h.1;lia) (by lia),h.2 k (by lia) (by lia)]
 ·rfl
def Ey.same{p p':Array Nat}{n:Nat}(h:Ey r p n)(e:∀k,Kk r p' k=Kk r p k):Ey r p' n:=λi j a b=>by rw[e,e];exact h i j a b
def oT(T:Told r N cmp s){G:Array Nat×Nat×Nat->Shared->Prop}:∀(f:Nat) (p:Array Nat) (n q:Nat),In N p->n+f<=N->Ey r p n->Gi r p n q →
  (∀p' n' q',p'.Perm p->n<=n'->n'<=n+f->Ey r p' n'->Gi r p' n' q'->G (p',n',q') s)->(kas_desc f p n q).kasWp cmp G s
 | 0,p,n,q,_,_,hd,ht,hG=>hG p n q (.refl _) (aH _) (aH _) hd ht
 | f+1,p,n,q,hp,hN,hd,ht,hG=>by
  refine T _ _ (hp.2 _) (hp.2 _) _ ?_;by_cases c:Kk r p n<Kk r p (n - 1)
  ·have c':r (p.getD n 0)<r (p.getD (n - 1) 0):=c;rw[NM c'];have hq:=ht.1;have grow:∀p':Array Nat,p'.Perm p->(∀k,Kk r p' k=Kk r p k)->(kas_desc f p' (n+1) 0).kasWp cmp G s:=λp' hpp e=>by
    refine oT T f p' (n+1) 0 (hp.of_perm hpp) (by lia) (λi j hij hj=>?_) ⟨by lia,λk h1 h2=>by have e9:k=n:=(by lia);rw[e9];rfl⟩ λp2 n2 q2 a b c2 d e2=>hG p2 n2 q2 (a.trans hpp) (by lia) (by lia) d e2;rw[e,e];by_cases e3:j=n
    ·subst e3;by_cases e4:i=j
     ·subst e4;exact df _
     ·have:=hd i (j - 1) (by lia) (by lia);lia
    ·exact hd i j hij (by lia)
   show KasT.kasWp cmp (if true=true then (if q > 0 then kas_desc f (kas_rev p (n-(q+1)) n) (n+1) 0 else kas_desc f p (n+1) 0) else _) G s;rw[NJ rfl]
   split
   ·exact grow _ (Mz _ _ _ _) (uF (by rw[hp.1];lia) ht)
   ·exact grow p (.refl _) λ_=>rfl
  ·have c':¬r (p.getD n 0)<r (p.getD (n - 1) 0):=c;rw[NL c'];show KasT.kasWp cmp (if false=true then _ else KasT.ask (p.getD (n - 1) 0) (p.getD n 0) λd=>if d=true then .ret (p,n,q) else kas_desc f p (n+1) (q+1)) G s;rw[NI (by simp)];refine T _ _ (hp.2 _) (hp.2 _) _ ?_;by_cases d:Kk r p (n - 1)<Kk r p n
   ·have d':r (p.getD (n - 1) 0)<r (p.getD n 0):=d;rw[NM d'];exact hG p n q (.refl _) (aH _) (by lia) hd ht
   ·have d':¬r (p.getD (n - 1) 0)<r (p.getD n 0):=d;rw[NL d'];have hq:=ht.1;have eq:Kk r p n=Kk r p (n - 1):=by lia
    refine oT T f p (n+1) (q+1) hp (by lia) (λi j hij hj=>?_) ⟨by lia,λk h1 h2=>?_⟩ λp2 n2 q2 a b c2 d2 e2=>hG p2 n2 q2 a (by lia) (by lia) d2 e2
    ·by_cases e3:j=n
     ·subst e3;by_cases e4:i=j
      ·subst e4;exact df _
      ·have:=hd i (j - 1) (by lia) (by lia);lia
     ·exact hd i j hij (by lia)
    ·show Kk r p k=Kk r p n;by_cases e3:k=n
     ·rw[e3]
     ·rw[eq];exact ht.2 k (by lia) (by lia)
def HF(r:Nat->Int)(p:Array Nat)(nrem:Nat)(G:Nat×Array Nat->Shared->Prop)(s:Shared):Prop:=∀n p',p'.Perm p->1<=n->n<=nrem->vE r p' n->G (n,p') s
def pN(T:Told r N cmp s){G:Nat×Array Nat->Shared->Prop}{p:Array Nat}{n:Nat}(hp:In N p)(h1:1<=n)(hn:n<=N)(hd:Ey r p n)(hG:HF r p N G s):(kas_tail3 n N p).kasWp cmp G s:=by
 unfold kas_tail3;rw[KasT.kasWp_bind];refine qT T (hp.rev 0 n) (N-n) n h1 (λi j hij hj=>?_) λm a b c _=>hG m _ (Mz _ _ _ _) (by lia) (by lia) c;rw[tL (by rw[hp.1];exact hn),tL (by rw[hp.1];exact hn),NJ (by lia),NJ (by lia)];exact hd _ _ (by lia) (by lia)
def HF.perm{p q:Array Nat}{G:Nat×Array Nat->Shared->Prop}(h:HF r p N G s)(hp:q.Perm p):HF r q N G s:=λn p' a b c d=>h n p' (a.trans hp) b c d
def mZ(T:Told r N cmp s){G:Nat×Array Nat->Shared->Prop}{p:Array Nat}{n:Nat}(hp:In N p)(hn:n+1<=N)(h1:1<=n)(hd:Ey r p (n+1))(hG:HF r p N G s):(kas_descPart n N p).kasWp cmp G s:=by
 unfold kas_descPart;rw[KasT.kasWp_bind];refine oT T _ p (n+1) 0 hp (by lia) hd ⟨by lia,λk a b=>by have e9:k=n:=(by lia);rw[e9];rfl⟩ λp' n' q' a b c d e=>?_;dsimp only;have hp':=hp.of_perm a
 split
 ·exact pN T (hp'.rev _ _) (by lia) (by lia) (d.same (uF (by rw[hp'.1];lia) e)) (hG.perm ((Mz _ _ _ _).trans a))
 ·exact pN T hp' (by lia) (by lia) d (hG.perm a)
def wJ(T:Told r N cmp s){G:Nat×Array Nat->Shared->Prop}{p:Array Nat}(hp:In N p)(hN:1<=N)(hG:HF r p N G s):(kas_count N p).kasWp cmp G s:=by
 unfold kas_count;rw[KasT.kasWp_bind];refine qT T hp (N - 1) 1 (aH _) (λi j a b=>by have e9:i=j:=(by lia);rw[e9];exact df _) λn h1 h2 ha hb=>?_;by_cases e:n=N
 ·subst e;rw[NJ (by simp)];exact hG n p (.refl _) h1 (aH _) ha
 ·rw[NI (by simp[e])];have hlt:=hb (by lia)
  split
  ·refine T _ _ (hp.2 _) (hp.2 _) _ ?_;by_cases c:Kk r p 0<Kk r p (n - 1)
   ·have c':r (p.getD 0 0)<r (p.getD (n - 1) 0):=c;rw[NM c'];exact hG n p (.refl _) h1 (by lia) ha
   ·have c':¬r (p.getD 0 0)<r (p.getD (n - 1) 0):=c;rw[NL c'];have alike:∀k,k<n->Kk r p k=Kk r p (n - 1):=λk hk=>by
     have a1:=ha 0 k (by lia) hk;have a2:=ha k (n - 1) (by lia) (by lia);lia
    have same:∀k,Kk r (kas_rev p 0 n) k=Kk r p k:=λk=>by
     rw[tL (by rw[hp.1];lia)]
     split
     ·rw[alike _ (by lia),alike k (by lia)]
     ·rfl
    refine mZ T (hp.rev 0 n) (by lia) h1 (Ey.same (p:=p) (λi j hij hj=>?_) same) (hG.perm (Mz _ _ _ _));by_cases e3:j=n
    ·subst e3;by_cases e4:i=j
     ·subst e4;exact df _
     ·rw[alike i (by lia)];lia
    ·rw[alike i (by lia),alike j (by lia)];exact df _
  ·have:n=1:=by lia
   subst this;refine mZ T hp (by lia) (aH _) (λi j hij hj=>?_) hG;have hj':j=0\/j=1:=by lia
   have hi':i=0\/i=1:=by lia
   rcases hj' with rfl | rfl<;>rcases hi' with rfl | rfl
   ·exact df _
   ·lia
   ·have:Kk r p 1<Kk r p 0:=hlt;lia
   ·exact df _
def place_spec(T:Told r N cmp s){G:Nat->Shared->Prop}{p:Array Nat}{k:Nat}(hp:In N p)(hs:vE r p k):∀(f l e:Nat),e<=k->e<=l+f->l<=e->(∀i,i<l->Kk r p i<=Kk r p k)->(∀i,e<=i->i<k->Kk r p k<Kk r p i) →
  (∀l,l<=k->(∀i,i<l->Kk r p i<=Kk r p k)->(∀i,l<=i->i<k->Kk r p k<Kk r p i)->G l s)->(kas_place p k f l e).kasWp cmp G s
 | 0,l,e,h1,h2,h3,h4,h5,hG=>by
  have:l=e:=by lia
  subst this;exact hG l h1 h4 h5
 | f+1,l,e,h1,h2,h3,h4,h5,hG=>by
  unfold kas_place
  split
  ·have:l=e:=by lia
   subst this;exact hG l h1 h4 h5
  ·refine T _ _ (hp.2 _) (hp.2 _) _ ?_;by_cases c:Kk r p k<Kk r p ((l+e) / 2)
   ·have c':r (p.getD k 0)<r (p.getD ((l+e) / 2) 0):=c;rw[NM c'];refine place_spec T hp hs f l ((l+e) / 2) (by lia) (by lia) (by lia) h4 (λi a b=>?_) hG;have:=hs ((l+e) / 2) i a b;lia
   ·have c':¬r (p.getD k 0)<r (p.getD ((l+e) / 2) 0):=c;rw[NL c'];refine place_spec T hp hs f ((l+e) / 2+1) e h1 (by lia) (by lia) (λi a=>?_) h5 hG;have:=hs i ((l+e) / 2) (by lia) (by lia);lia
def wO{p:Array Nat}{k l:Nat}(hk:k<p.size)(hs:vE r p k)(hl:l<=k)(h1:∀i,i<l->Kk r p i<=Kk r p k)(h2:∀i,l<=i->i<k->Kk r p k<Kk r p i):vE r (bubble p k (k-l)) (k+1):=λi j hij hj=>by
 rw[rW hk (by lia),rW hk (by lia)];have e:k-(k-l)=l:=by lia
 rw[e];by_cases i1:i=l
 ·rw[NJ i1];by_cases j1:j=l
  ·rw[NJ j1];exact df _
  ·rw[NI j1,NJ (by lia)];have:=h2 (j - 1) (by lia) (by lia);lia
 ·rw[NI i1];by_cases i2:l<i/\i<=k
  ·rw[NJ i2,NI (by lia),NJ (by lia)];exact hs _ _ (by lia) (by lia)
  ·rw[NI i2];by_cases j1:j=l
   ·rw[NJ j1];exact h1 i (by lia)
   ·rw[NI j1];by_cases j2:l<j/\j<=k
    ·rw[NJ j2];exact hs _ _ (by lia) (by lia)
    ·rw[NI j2];exact hs _ _ (by lia) (by lia)
def vA(T:Told r N cmp s){G:Array Nat->Shared->Prop}:∀(f:Nat) (p:Array Nat) (k:Nat),In N p->k+f=N->vE r p k->(∀p',p'.Perm p->vE r p' N->G p' s)->(kas_bin f p k).kasWp cmp G s
 | 0,p,k,hp,hk,hs,hG=>hG p (.refl _) (by have e9:k=N:=(by lia);rw[<-e9];exact hs)
 | f+1,p,k,hp,hk,hs,hG=>by
  unfold kas_bin;rw[KasT.kasWp_bind];refine place_spec T hp hs k 0 k (aH _) (by lia) (by lia) (λi h=>absurd h (by lia)) (λi h h'=>absurd h' (by lia)) λl h1 h2 h3=>?_;refine vA T f _ (k+1) (hp.of_perm (bubble_perm _ _ _)) (by lia) (wO (by rw[hp.1];lia) hs h1 h2 h3) λp' a b=>hG p' (a.trans (bubble_perm _ _ _)) b
def yl(T:Told r N cmp s){G:Array Nat->Shared->Prop}(hN:1<=N)(hG:∀p:Array Nat,p.Perm (List.toArray (List.range N))->vE r p N->G p s):(kas_sort N).kasWp cmp G s:=by
 have h0:In N (List.toArray (List.range N)):=⟨by simp,λi=>by
  rw[cE];cases e:(List.toArray (List.range N))[i]? with
  | none=>exact hN
  | some x=>
   have:=lW e;simpa using this⟩
 unfold kas_sort;rw[KasT.kasWp_bind];refine wJ T h0 hN λn p a b c d=>?_;dsimp only;have hp:=h0.of_perm a
 split
 ·have e:max n 1=n:=by lia
  rw[e];exact vA T _ p n hp (by lia) d λp' x y=>hG p' (x.trans a) y
 ·have:n=N:=by lia
  subst this;exact hG p a d
end
section
variable {prog:Program} {w:World} {A:Around} {E:Value->Shared->Prop} {s:Shared}
def jW(vs:List Value)(p:Array Nat):Array Value:=List.toArray (p.toList.map λi=>vs.getD i Value.none)
def ym:∀vs:List Value,vs.length<2->(vs.toArray.zip vs.toArray).map (·.2)=jW vs (List.toArray (List.range vs.length))
 | [],_=>by simp[jW]
 | [v],_=>by simp[jW]
 | _::_::_,h=>by simp at h;lia
def Kp(a:Addr)(h h':Heap):Prop:=∀b o,b≠a->h.get? b=some o->h'.get? b=some o
def qD {a:Addr} {vs:List Value} {n:Nat} {P:PySem.Fin->Shared->Prop} {r:Nat->Int} (κ:SortKind) (ho:s.heap.get? a=some (seqObj "list" vs.toArray n)) (h64:vs.length<64)
  (hk:2<=vs.length->∀(h':Heap) (Q:SortKind->Shared->Prop),Kp a s.heap h'->Q κ { s with heap:=h' }->wpAny (model prog w) A (keyKind' vs.toArray) Q E { s with heap:=h' })
  (hc:∀i j,i<vs.length->j<vs.length->∀(h':Heap) (C:Bool->Shared->Prop),Kp a s.heap h'->C (decide (r i<r j)) { s with heap:=h' }->wpAny (model prog w) A (keyLt' κ (vs.getD i Value.none) (vs.getD j Value.none)) C (λ_ _=>False) { s with heap:=h' })
  (h:∀p:Array Nat,p.Perm (List.toArray (List.range vs.length))->vE r p vs.length->P (.done (.ret .none)) { s with heap:=sortedHeap s.heap a vs (jW vs p) }) :
  wpAny (model prog w) A (Builtin.«list.sort» ⟨[.ref a],[]⟩) P E s:=by
 rw[list_sort_plain];have ha:a<s.heap.objs.size:=aT ho;refine wpAny_bind (listItems_at ho rfl ?_);refine wpAny_bind (listUpdate_at ho rfl ?_);obtain⟨e1,ho1⟩:∃e1,(s.heap.update a (Obj.mapSeq λ_=>#[])).get? a=some (seqObj "list" #[] e1):=⟨_,get?_update_seq ho (λ_=>#[])⟩
 refine wpAny_bind (seqEpoch_at ho1 rfl ?_);refine wpAny_bind (wpAny_newTuple ?_);refine wpAny_bind (wpAny_newList ?_);refine Mo ?_;have ho6:(((s.heap.update a (Obj.mapSeq λ_=>#[])).push (seqObj "tuple" vs.toArray 0)).push (seqObj "list" #[] 0)).get? a=some (seqObj "list" #[] e1):=by
  rw[gi _ _ _ (by rw[size_push',k0];exact aj (fT ha)),gi _ _ _ (by rw[k0];exact aj ha)];exact ho1
 have kp6:Kp a s.heap (((s.heap.update a (Obj.mapSeq λ_=>#[])).push (seqObj "tuple" vs.toArray 0)).push (seqObj "list" #[] 0)):=λb o hb e=>
  aB _ (aB _ (by rw[Heap.get?_update_ne _ _ _ _ hb];exact e))
 show wpAny (model prog w) A _ P E { s with heap:=((s.heap.update a (Obj.mapSeq λ_=>#[])).push (seqObj "tuple" vs.toArray 0)).push (seqObj "list" #[] 0) };dsimp only;have hsz:vs.toArray.size=vs.length:=by simp
 by_cases h2:vs.toArray.size<2
 ·rw[NJ h2,NJ h2];refine wpAny_bind (Mq ?_);rw[StateT.run_pure];refine wpAny_bind (Mq ?_);dsimp only;refine wpAny_bind (seqEpoch_at ho6 rfl ?_);refine wpAny_bind (listUpdate_at ho6 rfl ?_ (hsz2:=by rw[Array.size_map];show (pairsOf vs).size<=_;rw[pairsOf_size,Ms];lia));simp only[bne_self_eq_false,dH,NP];have e:(arrOf (SortSt.mk' general' (vs.toArray.zip vs.toArray) #[] 7 none)).map (·.2)=jW vs (List.toArray (List.range vs.length)):=by
   exact ym vs (by lia)
  rw[e];refine Mq (h (List.toArray (List.range vs.length)) (Array.Perm.refl _) ?_);intro i j hij hj;have e9:i=j:=by lia
  rw[e9];exact df _
 ·rw[NI h2,NI h2];refine wpAny_bind (hk (by lia) _ _ kp6 ?_);have T:Told r vs.length (kas_ask prog w A κ vs) { s with heap:=((s.heap.update a (Obj.mapSeq λ_=>#[])).push (seqObj "tuple" vs.toArray 0)).push (seqObj "list" #[] 0) }:=λi j hi hj C hC=>hc i j hi hj _ C kp6 hC;refine wpAny_bind (Ml (kat_run (ks:=vs) (vs:=vs) (Q:=λst' s'=>s'={ s with heap:=((s.heap.update a (Obj.mapSeq λ_=>#[])).push (seqObj "tuple" vs.toArray 0)).push (seqObj "list" #[] 0) }/\∃p:Array Nat,p.size=vs.length/\arrOf st'=p.map (kas_item (vs.toArray.zip vs.toArray))/\failedOf st'=none/\p.Perm (List.toArray (List.range vs.length))/\vE r p vs.length)
   (G:=λp s'=>s'={ s with heap:=((s.heap.update a (Obj.mapSeq λ_=>#[])).push (seqObj "tuple" vs.toArray 0)).push (seqObj "list" #[] 0) }/\p.Perm (List.toArray (List.range vs.length))/\vE r p vs.length)
   rfl (by lia) h64 (λp' st' s' a1 a2 a3 a4=>⟨a4.1,p',a1,a2,a3,a4.2⟩) (yl T (by lia) λp hp ha=>⟨rfl,hp,ha⟩)) ?_ λ_ _ e=>e)
  rintro⟨⟨⟩,st'⟩ s' ⟨rfl,p,hps,har,hf,hp,hs⟩;dsimp only;have hout:=kat_snds (ks:=vs) (vs:=vs) rfl har;rw[hout];refine wpAny_bind (seqEpoch_at ho6 rfl ?_);refine wpAny_bind (listUpdate_at ho6 rfl ?_ (hsz2:=by rw[aU,aE,dC,hps,Ms];lia));rw[hf];simp only[bne_self_eq_false,dH,NP];exact Mq (h p hp hs)
def lZ {l:Addr} {vs:List Value} {Q:Value->Shared->Prop} {r:Nat->Int} (κ:SortKind) (hcol:∀(A:Around) (E:Value->Shared->Prop) (Q:List Value->Shared->Prop),Q vs { s with heap:=(s.heap.push (seqObj "list" #[] 0)).update s.heap.objs.size (Obj.mapSeq (·++vs.toArray)) }->wpAny (model prog w) A (collect (.ref l)) Q E s) (h64:vs.length<64)
  (hk:2<=vs.length->∀(h':Heap) (Q:SortKind->Shared->Prop),(∀b o,s.heap.get? b=some o->h'.get? b=some o)->Q κ { s with heap:=h' }->wpAny (model prog w) A.in1.in1 (keyKind' vs.toArray) Q (λ_ _=>False) { s with heap:=h' })
  (hc:∀i j,i<vs.length->j<vs.length->∀(h':Heap) (C:Bool->Shared->Prop),(∀b o,s.heap.get? b=some o->h'.get? b=some o)->C (decide (r i<r j)) { s with heap:=h' }->wpAny (model prog w) A.in1.in1 (keyLt' κ (vs.getD i Value.none) (vs.getD j Value.none)) C (λ_ _=>False) { s with heap:=h' })
  (h:∀p:Array Nat,p.Perm (List.toArray (List.range vs.length))->vE r p vs.length->Q (.ref (s.heap.objs.size+1)) { s with heap:=sortedAll s.heap vs (jW vs p) }) :
  wpAny (model prog w) A (call (.builtin "sorted") [.ref l]) Q E s:=by
 refine Calls.call_function_entry kind_sorted plain_sorted entry_sorted (args_sorted1 _) ?_;unfold Builtin.«sorted»;refine wpAny_bind (m:=checkCount "sorted" 1 1 _) (Mq ?_);refine wpAny_bind (hcol _ _ _ ?_);refine wpAny_bind (wpAny_newList ?_);have hsz:((s.heap.push (seqObj "list" #[] 0)).update s.heap.objs.size (Obj.mapSeq (·++vs.toArray))).objs.size=s.heap.objs.size+1:=by
  rw[k0,size_push']
 have hoL:(((s.heap.push (seqObj "list" #[] 0)).update s.heap.objs.size (Obj.mapSeq (·++vs.toArray))).push (seqObj "list" vs.toArray 0)).get? (s.heap.objs.size+1)=some (seqObj "list" vs.toArray 0):=by
  rw[<-hsz];exact aP _ rfl
 have keep:∀b o,s.heap.get? b=some o->(((s.heap.push (seqObj "list" #[] 0)).update s.heap.objs.size (Obj.mapSeq (·++vs.toArray))).push (seqObj "list" vs.toArray 0)).get? b=some o:=λb o q=>by
  have hlt:b<s.heap.objs.size:=aT q;rw[gi _ _ _ (by rw[hsz];exact aj (fT hlt)),Heap.get?_update_ne _ _ _ _ (aj hlt),gi _ _ _ (aj hlt)];exact q
 have keep2:∀h',Kp (s.heap.objs.size+1) (((s.heap.push (seqObj "list" #[] 0)).update s.heap.objs.size (Obj.mapSeq (·++vs.toArray))).push (seqObj "list" vs.toArray 0)) h'->∀b o,s.heap.get? b=some o->h'.get? b=some o:=λh' k b o q=>
  k b o (aj (fT (aT q))) (keep b o q)
 show wpAny _ _ _ _ _ { s with heap:=((s.heap.push (seqObj "list" #[] 0)).update s.heap.objs.size (Obj.mapSeq (·++vs.toArray))).push (seqObj "list" vs.toArray 0) };rw[hsz];refine wpAny_bind (Mo (NA slot_list_sort ⟨_,hoL,rfl⟩ entry_list_sort (qD (r:=r) κ hoL h64 (λh2 h' Q k q=>?_) (λi j hi hj h' C k q=>?_) λp hp ha=>⟨_,rfl,?_⟩) (args_list_sort _)))
 ·exact Ml (hk h2 h' Q (keep2 h' k) q) (λ_ _ z=>z) λ_ _ z=>z.elim
 ·exact hc i j hi hj h' C (keep2 h' k) q
 ·exact Mq ⟨_,rfl,h p hp ha⟩
def oZ{l:Addr}{vs:List Value}{Q:Value->Shared->Prop}{r:Nat->Int}(κ:SortKind)(hl:s.heap.IsList l vs.toArray)(h64:vs.length<64)
  (hk:2<=vs.length->∀(h':Heap) (Q:SortKind->Shared->Prop),(∀b o,s.heap.get? b=some o->h'.get? b=some o)->Q κ { s with heap:=h' }->wpAny (model prog w) A.in1.in1 (keyKind' vs.toArray) Q (λ_ _=>False) { s with heap:=h' })
  (hc:∀i j,i<vs.length->j<vs.length->∀(h':Heap) (C:Bool->Shared->Prop),(∀b o,s.heap.get? b=some o->h'.get? b=some o)->C (decide (r i<r j)) { s with heap:=h' }->wpAny (model prog w) A.in1.in1 (keyLt' κ (vs.getD i Value.none) (vs.getD j Value.none)) C (λ_ _=>False) { s with heap:=h' })
  (h:∀p:Array Nat,p.Perm (List.toArray (List.range vs.length))->vE r p vs.length->Q (.ref (s.heap.objs.size+1)) { s with heap:=sortedAll s.heap vs (jW vs p) }) :
  wpAny (model prog w) A (call (.builtin "sorted") [.ref l]) Q E s:=
 lZ κ (λA E Q q=>collect_list hl q (by rw[Ms];lia)) h64 hk hc h
def uv{l:Addr}{vs:List Value}{Q:List Value->Shared->Prop}(hl:IsTup s.heap l vs.toArray)
  (h:Q vs { s with heap:=(s.heap.push (seqObj "list" #[] 0)).update s.heap.objs.size (Obj.mapSeq (·++vs.toArray)) }) (hsz:vs.length<=sizeLine) :
  wpAny (model prog w) A (collect (.ref l)) Q E s:=by
 obtain⟨o,ho,hc,n,hd⟩:=id hl;unfold collect;refine wpAny_bind (wpAny_runValue (codeAny_builtin entry_proto_collect' ?_));show wpAny _ _ (do again (.builtin "list.__iadd__" ⟨[<-newList [],.ref l],[]⟩)) _ _ s;refine wpAny_bind (wpAny_newList (Mq ⟨Code.quiet_builtin _ (by decide +kernel),codeAny_builtin entry_list_iadd' ?_⟩));show wpAny _ _ (Builtin.List.listExtendWith (.ref s.heap.objs.size) (.ref l) (.ref s.heap.objs.size)) _ _ { s with heap:=s.heap.push (seqObj "list" #[] 0) };unfold Builtin.List.listExtendWith;have ho':(s.heap.push (seqObj "list" #[] 0)).get? l=some o:=aB _ ho;refine wpAny_bind (wpAny_typeOf (T:="tuple") ⟨o,ho',hc⟩ ?_);have ht:(Value.type "tuple"==Value.type "tuple")=true:=by rfl
 rw[NJ (by rw[ht];simp)];refine wpAny_bind (listItems_at ho' hd ?_);refine wpAny_bind (listItems_at (xs:=#[]) (n:=0) (aP _ rfl) rfl ?_);rw[NI (by simp)];refine wpAny_bind (listUpdate_at (xs:=#[]) (n:=0) (aP _ rfl) rfl ?_ (bF _) (by show (#[]++vs.toArray).size<=sizeLine+1;simp only[Array.size_append,aU,lJ];lia));refine Mq ?_;show wpAny (model prog w) A (do
   let o <-load s.heap.objs.size
   match o.data with
   | .seq xs _=>pure xs.toList
   | _=>unsupported "internal:collect") Q E { s with heap:=(s.heap.push (seqObj "list" #[] 0)).update s.heap.objs.size (Obj.mapSeq (·++vs.toArray)) }
 refine wpAny_bind (wpAny_load (get?_update_seq (aP _ rfl) _) ?_);show wpAny _ _ (pure ((#[]:Array Value)++vs.toArray).toList) Q E _;rw[show ((#[]:Array Value)++vs.toArray).toList=vs by simp];exact Mq h
def sB{l:Addr}{vs:List Value}{Q:Value->Shared->Prop}{r:Nat->Int}(κ:SortKind)(hl:IsTup s.heap l vs.toArray)(h64:vs.length<64)
  (hk:2<=vs.length->∀(h':Heap) (Q:SortKind->Shared->Prop),(∀b o,s.heap.get? b=some o->h'.get? b=some o)->Q κ { s with heap:=h' }->wpAny (model prog w) A.in1.in1 (keyKind' vs.toArray) Q (λ_ _=>False) { s with heap:=h' })
  (hc:∀i j,i<vs.length->j<vs.length->∀(h':Heap) (C:Bool->Shared->Prop),(∀b o,s.heap.get? b=some o->h'.get? b=some o)->C (decide (r i<r j)) { s with heap:=h' }->wpAny (model prog w) A.in1.in1 (keyLt' κ (vs.getD i Value.none) (vs.getD j Value.none)) C (λ_ _=>False) { s with heap:=h' })
  (h:∀p:Array Nat,p.Perm (List.toArray (List.range vs.length))->vE r p vs.length->Q (.ref (s.heap.objs.size+1)) { s with heap:=sortedAll s.heap vs (jW vs p) }) :
  wpAny (model prog w) A (call (.builtin "sorted") [.ref l]) Q E s:=
 lZ κ (λA E Q q=>uv hl q (by rw[Ms];lia)) h64 hk hc h
end
end Rm
namespace Rm
open PySem PySem.W PyProof.Rows L2
def mH:∀{as:List Addr} {us:List Value},cJ (as.map V.ref) us->us=as.map Value.ref
 | [],_,.nil=>rfl
 | a::as,u::us,.cons r t=>by
  have e:u=Value.ref a:=r;rw[e,mH t];rfl
def yt(as:List Addr):cJ (as.map V.ref) (as.map Value.ref):=by
 induction as with
 | nil=>exact .nil
 | cons a as ih=>exact .cons rfl ih
def ES (h:Heap) (a:Addr) (p:Bw):Prop:=∃o t u n,h.get? a=some o/\o.cls=.type "tuple"/\o.data=.seq #[.int p.1 t,.int p.2 u] n
def FO{X:Cx}{pins:List (Addr×Obj)}{σ:L2.St}{H:Hp}{s:Shared}(I:bc X pins σ H s){a:Addr}{p:Bw}(h:gL H a p):ES s.heap a p:=by
 obtain⟨_,its,v,o,e,c,n,d⟩:=I.hok a _ h;obtain⟨u,w,rfl,⟨t,rfl⟩,t',rfl⟩:=cJ.two v;exact⟨o,t,t',n,e,c,by rw[d]⟩
def ES.kept{h h':Heap}{a:Addr}{p:Bw}(x:ES h a p)(k:∀b o,h.get? b=some o->h'.get? b=some o):ES h' a p:=by
 obtain⟨o,t,u,n,e,c,d⟩:=x;exact⟨o,t,u,n,k _ _ e,c,d⟩
def tS{h:Heap}:∀{as:List Addr} {ps:List Bw},Paired (ES h) as ps->∃fs,KatTups h (as.map Value.ref) fs/\fs.length=as.length/\∀v∈fs,∃n t,v=Value.int n t
 | _,_,.nil=>⟨[],KatTups.nil,rfl,(λv hv=>nomatch hv)⟩
 | _,_,.cons r t=>by
  obtain⟨o,t1,u1,n,e,c,d⟩:=r;obtain⟨fs,h1,h2,h3⟩:=tS t;exact⟨.int _ t1::fs,KatTups.cons e c d rfl h1,by simp[h2],λv hv=>by
   rcases aI.mp hv with rfl | hv
   ·exact⟨_,_,rfl⟩
   ·exact h3 v hv⟩
def iu(p:Bw):Int:=p.1*1000+p.2
def kB:SortKind:=tuples' (Value.type "int" != Value.type "tuple")
def FP{prog:Program}{w:World}{A:Around}{s:Shared}{a b:Addr}{p q:Bw}{C:Bool->Shared->Prop}(ha:ES s.heap a p)(hb:ES s.heap b q)(hp:0<=p.2/\p.2<1000)(hq:0<=q.2/\q.2<1000)
  (h:C (decide (iu p<iu q)) s):wpAny (model prog w) A (keyLt' kB (.ref a) (.ref b)) C (λ_ _=>False) s:=by
 obtain⟨oa,t,u,n,ea,ca,da⟩:=ha;obtain⟨ob,t',u',n',eb,cb,db⟩:=hb;refine kat_lt ea da eb db ?_;show KatLex prog w A _ _ C [(Value.int p.1 t,Value.int q.1 t'),(Value.int p.2 u,Value.int q.2 u')] 0 s;refine kat_cons (wpAny_eqBool_int (kat_go (λe=>?_) (λe=>?_)))
 ·have e1:p.1=q.1:=by simpa using e
  refine kat_yes (kat_cons (wpAny_eqBool_int (kat_go (λe=>?_) (λe=>?_))))
  ·have e2:p.2=q.2:=by simpa using e
   refine kat_yes (kat_nil ?_);have z:decide (iu p<iu q)=false:=NL (by unfold iu;lia);rw[z] at h;exact h
  ·have e2:¬p.2=q.2:=by simpa using e
   refine kat_no ?_;have z:decide (iu p<iu q)=decide (p.2<q.2):=by
    by_cases y:p.2<q.2
    ·rw[NM y,NM (by unfold iu;lia)]
    ·rw[NL y,NL (by unfold iu;lia)]
   rw[z] at h;have b0:((Value.type "int" != Value.type "tuple")&&((0+1:Nat)==0))=false:=by decide
   rw[b0];exact kat_one _ _ (lt_int h)
 ·have e1:¬p.1=q.1:=by simpa using e
  refine kat_no ?_;have z:decide (iu p<iu q)=decide (p.1<q.1):=by
   by_cases y:p.1<q.1
   ·rw[NM y,NM (by unfold iu;lia)]
   ·rw[NL y,NL (by unfold iu;lia)]
  rw[z] at h;have b0:((Value.type "int" != Value.type "tuple")&&((0:Nat)==0))=true:=by decide
  rw[b0];exact oneLt_int h
def pick{α:Type}(d:α)(xs:List α)(p:Array Nat):List α:=p.toList.map λi=>xs.getD i d
def mP{α:Type}(d:α)(xs:List α){p:Array Nat}(hp:p.Perm (List.toArray (List.range xs.length))):(pick d xs p).Perm xs:=by
 have h1:p.toList.Perm (List.range xs.length):=by simpa using ff.mp hp
 have h2:=h1.map λi=>xs.getD i d;have e:(List.range xs.length).map (λi=>xs.getD i d)=xs:=by
  apply kZ
  ·simp
  ·intro i h1 h2;simp at h1;simp[h1]
 rw[e] at h2;exact h2
def uM{α β:Type}{R:α->β->Prop}(d:α)(e:β){xs:List α}{ys:List β}(h:Paired R xs ys){p:Array Nat}(hp:∀i∈p.toList,i<xs.length):Paired R (pick d xs p) (pick e ys p):=by
 unfold pick
 revert hp
 induction p.toList with
 | nil=>intro _;exact .nil
 | cons i r ih=>
  intro hp;refine .cons ?_ (ih λj hj=>hp j (aM _ hj));have hi:=hp i aq;have hx:xs[i]? = some xs[i]:=aN hi;obtain⟨y,hy,hr⟩:=iJ h hx;have e1:xs.getD i d=xs[i]:=by simp[List.getD,hx]
  have e2:ys.getD i e=y:=by simp[List.getD,hy]
  show R (xs.getD i d) (ys.getD i e);rw[e1,e2];exact hr
def uN{r:Nat->Int}{n:Nat}{p:Array Nat}(hn:p.size=n)(ha:vE r p n){α:Type}(d:α)(xs:List α)(f:α->Int)(hf:∀i,r i=f (xs.getD i d)):(pick d xs p).Pairwise λa b=>f a<=f b:=by
 rw[fo];intro i j hi hj hij;have hi':i<p.size:=by simpa [pick] using hi
 have hj':j<p.size:=by simpa [pick] using hj
 have h1:=ha i j (bx hij) (by lia);unfold Kk at h1;rw[hf,hf] at h1;simp only[cE,dy hi',dy hj',kP] at h1;simpa [pick] using h1
def leB(p q:Bw):Prop:=p.1<q.1\/p.1=q.1/\p.2<=q.2
def Fd(K:NQ):List V->Hp->VK->Prop:=λxs H Q=>∃(l:Addr) (as:List Addr) (ps:List Bw),xs=[.ref l]/\cF K H l (as.map V.ref)/\Paired (gL H) as ps/\ps.length<64/\(∀p∈ps,0<=p.2/\p.2<1000) ∧
 ∀l' as' ps',H l'=none->Paired (gL H) as' ps'->ps'.Perm ps->ps'.Pairwise leB->Q (.ref l') (upd H l' (.lst (as'.map V.ref)))
def kN {X:Cx}:fq X (.builtin "sorted") (Fd X.K):=by
 intro pins s σ H xs us Q I rr h;obtain⟨l,as,ps,rfl,hq,hP,h64,hb,q⟩:=h;obtain⟨u,rfl,rx⟩:=Mt rr;cases rx;obtain⟨its,rv,pl,hz⟩:=I.list hq;have e:=mH rv;subst e;have hlen:as.length=ps.length:=cv hP;have two:Paired (ES s.heap) as ps:=f7 hP λa p z=>FO I z;have at_:∀i,i<as.length->∃a p,(as.map Value.ref).getD i Value.none=.ref a/\ps.getD i (0,0)=p/\ES s.heap a p/\0<=p.2/\p.2<1000:=λi hi=>by
  have hx:as[i]? = some as[i]:=aN hi;obtain⟨p,hp,ht⟩:=iJ two hx;exact⟨as[i],p,by simp[List.getD,hi],by simp[List.getD,hp],ht,hb p (bB hp)⟩
 refine oZ (r:=λi=>iu (ps.getD i (0,0))) kB pl.isList (by rw[aE];lia) (λh2 h' Q' k q'=>?_) (λi j hi hj h' C k q'=>?_) λp hp ha=>?_
 ·obtain⟨fs,k1,k2,k3⟩:=tS (f7 two λa p z=>z.kept k);refine kat_kind (T:=.type "int") k1 (by rw[aE] at h2;lia) (λv hv=>?_) rfl q';obtain⟨n,t,rfl⟩:=k3 v hv;exact(show Looks _ _ (pure (Value.type "int")) (Value.type "int") from .now)
 ·rw[aE] at hi hj;obtain⟨a,p,e1,e2,t1,b1⟩:=at_ i hi;obtain⟨c,p',e3,e4,t2,b2⟩:=at_ j hj;rw[e1,e3];refine FP (t1.kept k) (t2.kept k) b1 b2 ?_;rw[<-e2,<-e4];exact q'
 ·rw[aE] at hp ha;obtain⟨c,hc⟩:=sortedAll_at s.heap (as.map Value.ref) (jW (as.map Value.ref) p);have hin:∀i∈p.toList,i<as.length:=λi hi=>by
   have h1:p.toList.Perm (List.range as.length):=by simpa using ff.mp hp
   simpa using h1.mem_iff.mp hi
  have eo:jW (as.map Value.ref) p=List.toArray ((pick 0 as p).map Value.ref):=by
   unfold jW pick;rw[bj];congr 1;refine cQ λi hi=>?_;have:=hin i hi;simp[List.getD,this]
  have hps:(pick 0 as p).length<=sizeLine:=by
   have:=(mP 0 as hp).length_eq;rw[this];exact bx (be (by lia))
  rw[eo] at hc;have hp':p.Perm (List.toArray (List.range ps.length)):=by rw[<-hlen];exact hp
  refine⟨.ref (s.heap.objs.size+1),upd H (s.heap.objs.size+1) (.lst ((pick 0 as p).map V.ref)),I.laid (t':=s.toks) (λb o e=>sortedAll_old e) (eK _) ?_,rfl,?_⟩
  ·exact(show cn X.prog X.w _ _ _ (.lst _) from ⟨by rw[aE];exact hps,(pick 0 as p).map Value.ref,c,yt _,by rw[eo];exact hc⟩)
  ·have hasc:=uN (n:=as.length) (by have:=hp.size_eq;simpa using this) ha (0,0) ps iu λi=>rfl;have hmem:∀x∈pick (0,0) ps p,0<=x.2/\x.2<1000:=λx hx=>hb x ((mP (0,0) ps hp').mem_iff.mp hx);refine q _ _ (pick (0,0) ps p) (I.hok.fresh (eK _)) (uM 0 (0,0) hP hin) (mP (0,0) ps hp') ?_;refine List.Pairwise.imp_of_mem (fun {a b} ma mb hab=>?_) hasc;have h1:=hmem a ma;have h2:=hmem b mb;unfold iu at hab;unfold leB;lia
end Rm
namespace L2
open PySem PySem.W PySem.Spec PyProof.Rows Rm
section
variable {X:Cx}
def ints_getD:∀{us:List Value} {ns:List Int},IntsAre us ns->∀i,i<us.length->∃t,us.getD i Value.none=.int (ns.getD i 0) t
 | _,_,.nil,i,h=>by simp at h
 | _,_,.cons n t r,0,_=>⟨t,rfl⟩
 | _,_,.cons n t r,i+1,h=>by
  obtain⟨t',e⟩:=ints_getD r i (by simpa using h);exact⟨t',by simpa using e⟩
def rL{us:List Value}{ns:List Int}(hi:IntsAre us ns):∀(p:List Nat),(∀i∈p,i<us.length)->IntsAre (p.map λi=>us.getD i Value.none) (p.map λi=>ns.getD i 0)
 | [],_=>.nil
 | i::p,h=>by
  obtain⟨t,e⟩:=ints_getD hi i (h i aq);rw[aY,aY,e];exact .cons _ t (rL hi p λj hj=>h j (aM _ hj))
def qG{us:List Value}{ns:List Int}(hi:IntsAre us ns):us.length=ns.length:=by
 induction hi with
 | nil=>rfl
 | cons _ _ _ ih=>simp[ih]
def ui:∀{us:List Value} {ns:List Int},IntsAre us ns->∀v∈us,∃n t,v=Value.int n t
 | _,_,.nil,v,h=>nomatch h
 | _,_,.cons n t r,v,h=>by
  rcases aI.mp h with rfl | h
  ·exact⟨n,t,rfl⟩
  ·exact ui r v h
def Fb(K:NQ):List V->Hp->VK->Prop:=λxs H Q=>∃(p:Addr) (ns:List Int),xs=[.ref p]/\(cF K H p (ns.map V.int)\/dm K H p (ns.map V.int))/\ns.length<64 ∧
 ∀(l:Addr) (ms:List Int),H l=none->ms.Perm ns->ms.Pairwise (·<=·)->Q (.ref l) (upd H l (.lst (ms.map V.int)))
def nu:fq X (.builtin "sorted") (Fb X.K):=by
 intro pins s σ H xs us Q I r h;obtain⟨p,ns,rfl,hq,hl,q⟩:=h;obtain⟨u,rfl,rx⟩:=Mt r;cases rx;have fin:∀its:List Value,IntsAre its ns->∀pr:Array Nat,pr.Perm (List.toArray (List.range its.length))->vE (λi=>ns.getD i 0) pr its.length →
   EP X pins σ Q (.ref (s.heap.objs.size+1)) { s with heap:=sortedAll s.heap its (jW its pr) }:=λits hi pr hp ha=>by
  obtain⟨c,hc⟩:=sortedAll_at s.heap its (jW its pr);have hil:=qG hi;have hin:∀i∈pr.toList,i<its.length:=λi him=>by
   have h1:pr.toList.Perm (List.range its.length):=by simpa using ff.mp hp
   simpa using h1.mem_iff.mp him
  have hp':pr.Perm (List.toArray (List.range ns.length)):=by rw[<-hil];exact hp
  have hpk:=mP 0 ns hp';have hlen:=hpk.length_eq;refine⟨.ref (s.heap.objs.size+1),upd H (s.heap.objs.size+1) (.lst ((pick 0 ns pr).map V.int)),I.laid (t':=s.toks) (λb o e=>sortedAll_old e) (eK _)
   (show cn X.prog X.w _ _ _ (.lst _) from ⟨by rw[aE,hlen];exact bx (be (by lia)),(jW its pr).toList,c,mI ?_,by simpa using hc⟩),rfl,q _ _ (I.hok.fresh (eK _)) hpk ?_⟩
  ·have:=rL hi pr.toList hin;simpa [jW,pick] using this
  ·exact uN (n:=its.length) (by have:=hp.size_eq;simpa using this) ha 0 ns (λx=>x) λi=>rfl
 have kind:∀(A:Around) (its:List Value),IntsAre its ns->2<=its.length->∀(h':Heap) (Q:SortKind->Shared->Prop),Q oneType' { s with heap:=h' }->wpAny (model X.prog X.w) A (keyKind' its.toArray) Q (λ_ _=>False) { s with heap:=h' }:=λA its hi h2 h' Q q'=>by
  refine kas_kind (T:=.type "int") h2 (λv hv=>?_) (by decide) (by decide) q';obtain⟨n,t,rfl⟩:=ui hi v hv;exact(show Looks _ _ (pure (Value.type "int")) (Value.type "int") from .now)
 have lt:∀(A:Around) (its:List Value),IntsAre its ns->∀i j,i<its.length->j<its.length->∀(h':Heap) (C:Bool->Shared->Prop),C (decide (ns.getD i 0<ns.getD j 0)) { s with heap:=h' } →
   wpAny (model X.prog X.w) A (keyLt' oneType' (its.getD i Value.none) (its.getD j Value.none)) C (λ_ _=>False) { s with heap:=h' }:=λA its hi i j h1 h2 h' C q'=>by
  obtain⟨t,e⟩:=ints_getD hi i h1;obtain⟨t',e'⟩:=ints_getD hi j h2;rw[e,e'];exact kat_lt_int q'
 rcases hq with hq | hq
 ·obtain⟨its,rv,pl,hz⟩:=I.list hq;have hi:=kJ rv;have hil:=qG hi;exact oZ (r:=λi=>ns.getD i 0) oneType' pl.isList (by lia) (λh2 h' Q k q'=>kind _ its hi h2 h' Q q') (λi j h1 h2 h' C k q'=>lt _ its hi i j h1 h2 h' C q') (fin its hi)
 ·obtain⟨its,rv,pl,hz⟩:=I.tuple hq;have hi:=kJ rv;have hil:=qG hi;exact sB (r:=λi=>ns.getD i 0) oneType' pl (by lia) (λh2 h' Q k q'=>kind _ its hi h2 h' Q q') (λi j h1 h2 h' C k q'=>lt _ its hi i j h1 h2 h' C q') (fin its hi)
end
end L2
namespace L2
open PySem PySem.Spec PyProof.Rows
section
variable {X:Cx} {σ:St} {H:Hp} {a:Addr} {o:Obj}
def AK{td ty:TE}{Q:VK}:A7 td ty σ H Q=td σ H λx H1=>ty σ H1 λy H2=>∃a v,x=.ref a/\k6 H2 a y (some v)/\Q v H2:=rfl
def AJ{td ty tv:TE}{D:Ends}:Aq td ty tv D σ H=tv σ H λv H1=>td σ H1 λx H2=>ty σ H2 λy H3=>∃a H4,x=.ref a/\nK H3 a y v H4/\D.nx σ H4:=rfl
def Cm{Q:VK}:vO σ H Q=∀p,H p=none->Q (.ref p) (upd H p (.dT [])):=rfl
def we{Q:VK}:vP σ H Q=∀p,H p=none->Q (.ref p) (upd H p (.dK [])):=rfl
def tP{ty td:TE}{Q:VK}:oo ty td σ H Q=ty σ H λy H1=>td σ H1 λx H2=>∃a o,x=.ref a/\k6 H2 a y o/\Q (.bl (!o.isSome)) H2:=rfl
def yy{k d:Expr}{ty td:TE}{pos:Pos}(hu:X.A.units+1<cLine)(hk:PE X k ty)(hd:PE X d td)(hm:behindInMarks .NotIn d=false:=by first | rfl | with_unfolding_all rfl):PT X (.Compare k [.NotIn] [d] pos) (tB (oo ty td)):=Fm (zE hu hk hd) hm
end
section
def lw{A:Around}{k:Nat}(hr:j9 k A):A.units+1<cLine:=by have:=hr.units;lia
end
def Ba:typeLookup (.type "list_reverseiterator") "__len__"=pure none:=by rw[typeLookup_type,builtinLookup_eq_fast];kernel_rfl
def EA:typeLookup (.type "list_reverseiterator") "__length_hint__"=pure (some (.builtin "list_reverseiterator.__length_hint__")):=by rw[typeLookup_type,builtinLookup_eq_fast];kernel_rfl
section
variable {prog:Program} {w:World} {A:Around} {E:Value->Shared->Prop} {s:Shared}
def CA{I l:Addr}{i:Int}{Q:Bool->Shared->Prop}(hit:s.heap.IsRevIter I l i)(h:Q false s):wpAny (model prog w) A (Builtin.List.listLengthHint (.ref I)) Q E s:=by
 unfold Builtin.List.listLengthHint;refine wpAny_bind (wpAny_specialOf hit.typeIs Ba ?_);show wpAny _ A (specialOf (Value.ref I) (Str.ofString "__length_hint__")>>=_) _ _ _;refine wpAny_bind (wpAny_specialOf hit.typeIs EA ?_);generalize hid:("list_reverseiterator.__length_hint__":String)=id0
 wp_delta
 rw[show splitId id0=some ("list_reverseiterator","__length_hint__") from by subst hid;decide +kernel];subst hid;refine wpAny_bind (wpAny_isInstance (b:=true) hit.typeIs (by rw[isSubtype_type];kernel_rfl) ?_);refine Mq ?_;exact h
def wF{R:Result->Shared->Prop}{l I:Addr}{items:Array Value}(hh:A.handled=none)(hit:s.heap.IsRevIter I l ((items.size:Int) - 1))(hl:s.heap.IsList l items)(hne:l≠I)(hlen:items.size<=1000)(S:Addr)(res:Value)(c₀:Nat)
  (hS:s.heap.get? S=some { cls:=.type "list",data:=.seq #[] c₀ }) (hSI:S≠I) (hSl:S≠l)
  (hR:∀h' tk acc' c',(∀b o,b≠S->b≠I->s.heap.get? b=some o->h'.get? b=some o)->h'.get? S=some { cls:=.type "list",dict:=none,data:=.seq acc' c',slots:=#[] } →
   ItemsOf (λi v=>items[items.size - 1-i]? = some v) acc' items.size->R (.ok (.ret res)) { s with heap:=h',toks:=tk }) :
  wpAny (model prog w) A.in1 (Builtin.List.listExtendWith (.ref S) (.ref I) res)
   (λfin s'=>match fin with | .done f=>R (.ok f) s' | .again c'=>c'.quiet=true/\codeAny (model prog w) A c' R s') (λe s'=>R (.error e) s') s:=by
 have hSf:S∉[I,l]:=λhm=>by
  rcases aI.mp hm with e | e
  ·exact hSI e
  ·exact hSl (bN.mp e)
 have W:=(Walks.listRev (prog:=prog) (w:=w) (A:=A.in1) hh I l hne items).toS;have h1:Builtin.List.listSameRef (.ref S) (.ref I)=false:=by simp[Builtin.List.listSameRef,hSI]
 have h2:(Value.type "list_reverseiterator"==Value.type "list")=false:=by decide
 have h3:(Value.type "list_reverseiterator"==Value.type "tuple")=false:=by decide
 have hz:((items.size:Int) - 1-((0:Nat):Int))=(items.size:Int) - 1:=by simp
 unfold Builtin.List.listExtendWith;refine wpAny_bind (wpAny_typeOf hit.typeIs ?_);simp only[h1,h2,h3,jz,dH,NP];refine wpAny_bind (wpAny_pyIter_revIter hit ?_);refine wpAny_bind (Mo (CA hit ?_));refine Mq ⟨plainId_quiet F.plain_extend_loop _,?_⟩;refine codeAny_extend_loopS W (bx (be hlen)) S hSf res items.size 0 _ #[] c₀ rfl (bF _) ⟨bF _,by rw[hz];exact hit,hl⟩ hS (ItemsOf.nil _) λs' acc' c' hm hS' hacc=>?_;rw[Moved.eq_with hm];refine hR s'.heap s'.toks acc' c' (λb o hb hb2 e=>hm.heap b o (λhmem=>?_) e) hS' hacc;rcases aI.mp hmem with e' | hmem
 ·exact hb e'
 ·exact hb2 (bN.mp hmem)
def Bx{R:Result->Shared->Prop}{l I:Addr}{items:Array Value}(hh:A.handled=none)(hit:s.heap.IsRevIter I l ((items.size:Int) - 1))(hl:s.heap.IsList l items)(hne:l≠I)(hlen:items.size<=1000)(S:Addr)
  (hS:s.heap.get? S=some { cls:=.type "list",data:=.seq #[] }) (hSI:S≠I) (hSl:S≠l)
  (hR:∀h' tk acc' c',(∀b o,b≠S->b≠I->s.heap.get? b=some o->h'.get? b=some o)->h'.get? S=some { cls:=.type "list",dict:=none,data:=.seq acc' c',slots:=#[] } →
   ItemsOf (λi v=>items[items.size - 1-i]? = some v) acc' items.size->R (.ok (.ret .none)) { s with heap:=h',toks:=tk }) :
  wpAny (model prog w) A.in1 (Builtin.«list.__init__» ⟨[.ref S,.ref I],[]⟩)
   (λfin s'=>match fin with | .done f=>R (.ok f) s' | .again c'=>c'.quiet=true/\codeAny (model prog w) A c' R s') (λe s'=>R (.error e) s') s:=by
 show wpAny _ _ (do let old <-Builtin.List.listItems (.ref S);Builtin.List.listUpdate (.ref S) (λ_=>#[]);letGo old.toList.reverse;Builtin.List.listExtendWith (.ref S) (.ref I) .none) _ _ s;refine wpAny_bind ?_;unfold Builtin.List.listItems;refine wpAny_bind (NB hS rfl (Mq ?_));show wpAny _ _ (updateSeq S (λ_=>#[])>>=λ_=>letGo (#[]:Array Value).toList.reverse>>=λ_=>Builtin.List.listExtendWith (.ref S) (.ref I) .none) _ _ s;refine wpAny_bind (wpAny_updateSeq hS rfl ?_);have hS₂:=gw (Obj.mapSeq (λ_=>(#[]:Array Value))) hS rfl;have oth:∀b o,b≠S->s.heap.get? b=some o->(s.heap.update S (Obj.mapSeq (λ_=>(#[]:Array Value)))).get? b=some o:=
  λb o hb e=>(gh _ _ (cC hb)).trans e
 refine wpAny_bind (wpAny_letGo ?_);refine wF hh (hit.at λo e=>oth I o hSI.symm e) (hl.at λo e=>oth l o hSl.symm e) hne hlen S .none _ hS₂ hSI hSl λh' tk acc' c' hk hS' hacc=>?_;exact hR h' tk acc' c' (λb o hb hb2 e=>hk b o hb hb2 (oth b o hb e)) hS' hacc
def qo{Q:Value->Shared->Prop}{l I:Addr}{items:Array Value}(hh:A.handled=none)(hit:s.heap.IsRevIter I l ((items.size:Int) - 1))(hl:s.heap.IsList l items)(hne:l≠I)(hlen:items.size<=1000)
  (hQ:∀h' tk acc' c',(∀b o,b≠I->s.heap.get? b=some o->h'.get? b=some o) →
   h'.get? s.heap.objs.size=some { cls:=.type "list",dict:=none,data:=.seq acc' c',slots:=#[] }->ItemsOf (λi v=>items[items.size - 1-i]? = some v) acc' items.size->Q (.ref s.heap.objs.size) { s with heap:=h',toks:=tk }) :
  wpAny (model prog w) A (call (.type "list") [.ref I]) Q E s:=by
 refine callType_codes (Q₁:=λobj s₁=>obj=.ref s.heap.objs.size/\s₁={ s with heap:=s.heap.push { cls:=.type "list",data:=.seq #[] } }) F.called_list (F.typeCall_list_1 _) F.entry_list_init
  (code_list_new _ ⟨rfl,rfl⟩) λobj s₁ h₁=>?_
 obtain⟨rfl,rfl⟩:=h₁;have hS:(s.heap.push { cls:=.type "list",data:=.seq #[] }).get? s.heap.objs.size=some { cls:=.type "list",data:=.seq #[] }:=aP _ rfl;obtain⟨o1,e1,_⟩:=id hit;obtain⟨o2,e2,_⟩:=id hl;have n1:s.heap.objs.size≠I:=(aj (aT e1)).symm;have n2:s.heap.objs.size≠l:=(aj (aT e2)).symm;refine⟨⟨_,hS,rfl⟩,F.args_list_init_2 _ _,Bx (A:=A.in1) hh (hit.at λo e=>aB _ e) (hl.at λo e=>aB _ e) hne hlen _ hS n1 n2 λh' tk acc' c' hk hS' hacc=>?_⟩;exact⟨rfl,hQ h' tk acc' c' (λb o hb e=>hk b o (aj (aT e)) hb (aB _ e)) hS' hacc⟩
end
def FU(te:TE):TE:=λσ H Q=>te σ H λx H1=>∃(a:Addr) (xs:List V),x=.ref a/\H1 a=some (.lst xs)/\xs.length<=1000/\∀l,H1 l=none->Q (.ref l) (upd H1 l (.lst xs.reverse))
def w_rev{te:TE}{σ:St}{H:Hp}{Q:VK}:FU te σ H Q=te σ H λx H1=>∃(a:Addr) (xs:List V),x=.ref a/\H1 a=some (.lst xs)/\xs.length<=1000/\∀l,H1 l=none->Q (.ref l) (upd H1 l (.lst xs.reverse)):=rfl
def AQ{xs:List V}{us:List Value}(r:cJ xs us):∀{i:Nat} {x:V} {u:Value},xs[i]? = some x->us[i]? = some u->RelV x u:=by
 induction r with
 | nil=>intro i x u h;simp at h
 | cons a b ih=>
  intro i x u h h';cases i with
  | zero=>cases h;cases h';exact a
  | succ i=>exact ih h h'
def wt{xs:List V}{us:List Value}(hl:xs.length=us.length)(h:∀(i:Nat) x u,xs[i]? = some x->us[i]? = some u->RelV x u):cJ xs us:=by
 induction xs generalizing us with
 | nil=>cases us with | nil=>exact .nil | cons a b=>simp at hl
 | cons x xs ih=>
  cases us with
  | nil=>simp at hl
  | cons u us=>exact .cons (h 0 x u rfl rfl) (ih (by simpa using hl) λi y v h1 h2=>h (i+1) y v h1 h2)
def v8 {X:Cx} {e:Expr} {te:TE} {p p2 pos2 pos:Pos} (hc:X.calm=true) (hgl:Gl X "list") (hml:X.mg "list"=none) (hgr:Gl X "reversed") (hmr:X.mg "reversed"=none) (he:PE X e te)
  (hs:starEach [.Call (.Name "reversed" p2) [e] [] pos2] X.env=[(false,eval (.Call (.Name "reversed" p2) [e] [] pos2) X.env)]:=by rfl) (hs2:starEach [e] X.env=[(false,eval e X.env)]:=by rfl) :
  PE X (.Call (.Name "list" p) [.Call (.Name "reversed" p2) [e] [] pos2] [] pos) (FU te):=by
 intro pins s σ H Q I h;refine Mu (jZ I hgl hml boot_list ?_);refine bV ?_ hs rfl;rw[hs];show wpAny _ _ (spliced ((false,eval (.Call (.Name "reversed" p2) [e] [] pos2) X.env)::[])) _ _ s;refine j7 (Mu (jZ I hgr hmr boot_reversed (bV ?_ hs2 rfl)));rw[hs2];show wpAny _ _ (spliced ((false,eval e X.env)::[])) _ _ s;refine j7 (dZ (he pins s σ H _ I h) λu s1 ⟨x,H1,I1,r1,a,xs,ex,hx,hle,q⟩=>?_);subst ex;cases r1;obtain⟨hz,its,n,rv,hlen,ho⟩:=I1.lstM hx;have hL:s1.heap.IsList a its.toArray:=⟨_,ho,rfl,n,rfl⟩
 have hsz:its.toArray.size=its.length:=by simp
 have hal:=aT ho;refine jq (call_reversed_list hL (jq ?_));refine qo (I:=s1.heap.objs.size) (l:=a) (items:=its.toArray) (I1.ok.hd hc) ⟨_,aP _ rfl,rfl,rfl⟩ (hL.at λo e=>aB _ e) (aj hal) (by rw[hsz];lia) λh' tk acc' c' kp e' hit=>?_;have sz:(s1.heap.push (revObj a ((its.toArray.size:Int) - 1))).objs.size=s1.heap.objs.size+1:=dB _ _;have hv:cJ xs.reverse acc'.toList:=by
  obtain⟨a1,a2⟩:=hit;rw[hsz] at a1 a2;have al:acc'.toList.length=its.length:=by rw[<-a1];simp
  refine wt (by rw[eX,hlen,al]) λi x u h1 h2=>?_;have hu:acc'[i]? = some u:=by simpa using h2
  have h3:=a2 i u hu;have hi:i<its.length:=by rw[<-a1];exact(Array.getElem?_eq_some_iff.mp hu).1
  rw[List.getElem?_reverse (by rw[hlen];exact hi),hlen] at h1;have h4:its[its.length - 1-i]? = some u:=by simpa using h3
  exact AQ rv h1 h4
 refine⟨.ref _,_,I1.laid (h':=h') (t':=tk) (λb o e=>kp b o (aj (aT e)) (aB _ e)) (by rw[sz];exact eK _) (show cn X.prog X.w _ h' _ (.lst _) from ⟨by rw[eX];exact hz,acc'.toList,c',hv,by simpa using e'⟩),rfl,q _ (I1.hok.fresh (by rw[sz];exact eK _))⟩
structure QE (X:Cx) (e:Expr) (t:TE):Prop where
 h:PE X e t
structure QT (X:Cx) (e:Expr) (t:TT):Prop where
 h:PT X e t
structure QA (X:Cx) (es:List Expr) (t:TA):Prop where
 h:PA X es t
structure QS (X:Cx) (st:Stmt) (t:TS):Prop where
 h:PS X st t
structure ie (X:Cx) (sts:List Stmt) (t:TS):Prop where
 h:vC X sts t
structure QG (X:Cx) (e:Expr) (t:TG):Prop where
 h:PG X e t
structure Ie (X:Cx) (es:List Expr) (t:ya):Prop where
 h:HC X es t
structure QF (X:Cx) (es:List Expr) (t:TT):Prop where
 h:PF X es t
structure QW (X:Cx) (e:Expr) (t:TT):Prop where
 h:PW X e t
structure QO (X:Cx) (e:Option Expr) (t:TO):Prop where
 h:PO X e t
structure EX (X:Cx) (pos:Pos) (keys:List (Option Expr)) (values:List Expr) (trs:List (TE×TE)):Prop where
 h:Ih X pos keys values trs
structure QI (X:Cx) (tg iter:Expr) (t:TI):Prop where
 h:PI X tg iter t
def QW.pt{X:Cx}{e:Expr}{t:TT}(h:QW X e t):QT X e t:=⟨h.h.pt⟩
section
variable {X:Cx}
def aK{i j pos}:QE X (.Constant (.int i) j pos) (tC (.int i)):=⟨GH ⟩
end
section
variable {X:Cx}
def kf{b j pos}:QE X (.Constant (.bool b) j pos) (tC (.bl b)):=⟨IK ⟩
end
section
variable {X:Cx}
def eE{j pos}:QE X (.Constant .none j pos) (tC .non):=⟨GF ⟩
end
section
variable {X:Cx}
def bK{x j pos}:QE X (.Constant (.str x) j pos) (tC (.str x)):=⟨GC ⟩
end
section
variable {X:Cx}
def lh {x:Str} {v:V} {u:Value} {pos:Pos} (hg:Gl X x) (hm:X.mg x=none) (hv:bootBuiltins x=some u) (r:RelV v u) (hn:x≠"__name__":=by decide) (hd:(x==("__debug__":Str))=false:=by decide):QE X (.Name x pos) (tC v):=⟨D7 hg hm hv r hn hd⟩
end
section
variable {X:Cx} {pos:Pos}
def fS{e:Expr}{t:TE}(h:QE X e t)(he:∀whole,isTrue e X.env whole=(do let v <-whole;standAt e.pos;holding [v] (truthy v)):=by intro _;rfl):QT X e (tB t):=⟨Fk h.h he⟩
end
section
variable {X:Cx} {a:Expr} {pos:Pos} {tA:TT}
def jV(ha:QT X a tA):QW X (.BoolOp .And [a] pos) tA:=⟨DK ha.h⟩
end
section
variable {X:Cx} {a:Expr} {pos:Pos} {tA:TT}
def jC(ha:QT X a tA):QW X (.BoolOp .Or [a] pos) tA:=⟨Fi ha.h⟩
end
section
variable {X:Cx} {a b:Expr} {pos:Pos} {tA tB':TT} {rest:List Expr}
def ke(ha:QT X a tA)(hb:QW X (.BoolOp .And (b::rest) pos) tB'):QW X (.BoolOp .And (a::b::rest) pos) (F2 tA tB'):=⟨Fj ha.h hb.h⟩
end
section
variable {X:Cx} {a b:Expr} {pos:Pos} {tA tB':TT} {rest:List Expr}
def jU(ha:QT X a tA)(hb:QW X (.BoolOp .Or (b::rest) pos) tB'):QW X (.BoolOp .Or (a::b::rest) pos) (JR tA tB'):=⟨ID ha.h hb.h⟩
end
section
variable {X:Cx} {a:Expr} {pos:Pos} {tA:TT}
def iV(ha:QT X a tA):QT X (.UnaryOp .Not a pos) (FX tA):=⟨Fl ha.h⟩
end
section
variable {X:Cx} {a:Expr} {pos:Pos}
def mN{op}{t:TE}(h:QE X a t):QE X (.BoolOp op [a] pos) t:=⟨GD h.h⟩
end
section
variable {X:Cx} {a b:Expr} {ta tb:TE} {pos:Pos} {rest:List Expr}
def nX(ha:QE X a ta)(hb:QE X (.BoolOp .And (b::rest) pos) tb):QE X (.BoolOp .And (a::b::rest) pos) (A8 ta tb):=⟨GJ ha.h hb.h⟩
end
section
variable {X:Cx} {a b:Expr} {ta tb:TE} {pos:Pos} {rest:List Expr}
def Fh(ha:QE X a ta)(hb:QE X (.BoolOp .Or (b::rest) pos) tb):QE X (.BoolOp .Or (a::b::rest) pos) (FW ta tb):=⟨IG ha.h hb.h⟩
end
section
variable {X:Cx} {a:Expr} {ta:TE} {pos:Pos}
def DJ(ha:QE X a ta):QE X (.UnaryOp .Not a pos) (AZ ta):=⟨GE ha.h⟩
end
section
variable {X:Cx} {a b:Expr} {ta tb:TE} {pos:Pos} {tA:TT}
def dS{c:Expr}(hc:QT X c tA)(ha:QE X a ta)(hb:QE X b tb):QE X (.IfExp c a b pos) (JS tA ta tb):=⟨BL hc.h ha.h hb.h⟩
end
section
variable {X:Cx}
def bQ  : ie X [] A3:=⟨DN ⟩
end
section
variable {X:Cx} {st:Stmt} {rest:List Stmt} {t u:TS}
def aF(h1:QS X st t)(h2:ie X rest u):ie X (st::rest) (FT t u):=⟨BD h1.h h2.h⟩
end
section
variable {X:Cx} {st:Stmt} {t:TS}
def aL(h1:QS X st t):ie X [st] t:=⟨DM h1.h⟩
end
section
variable {X:Cx} {e:Expr} {te:TE} {pos:Pos}
def fv(he:QE X e te)(hs:swapsWith e none pos.line X.env=pure false:=by rfl):QS X (.Expr e pos) (A5 te):=⟨DQ he.h hs⟩
end
section
variable {X:Cx} {e:Expr} {te:TE} {pos:Pos}
def ar(he:QE X e te):QS X (.Return (some e) pos) (FV te):=⟨Fp he.h⟩
end
section
variable {X:Cx} {t u:TS} {pos:Pos}
def cA{c:Expr}{a b:List Stmt}{tc:TT}(hc:QT X c tc)(ha:ie X a t)(hb:ie X b u):QS X (.If c a b pos) (FY tc t u):=⟨IE hc.h ha.h hb.h⟩
end
section
variable {X:Cx} {st:Stmt}
def fg  : QS X st A4:=⟨BF ⟩
end
section
variable {X:Cx} {pos:Pos}
def bS{i:Nat}{x:Str}(hN:X.N.Nodup)(hi:X.N[i]? = some x)(hx:Loc X.env.scope x)(hf:X.fn x=true\/X.env.scope.names.lookup x=some .local:=by first | exact .inl rfl | exact .inr rfl | assumption):QG X (.Name x pos) (lH i):=⟨DZ hN hi hx hf⟩
end
section
variable {X:Cx}
def fw  : Ie X [] Gb:=⟨DX ⟩
end
section
variable {X:Cx}
def cT{e:Expr}{es:List Expr}{t:TG}{u:ya}(h1:QG X e t)(h2:Ie X es u)(hs:(assignEach (e::es) X.env).map (·.2)=assign e X.env::(assignEach es X.env).map (·.2):=by rfl):Ie X (e::es) (CF t u):=⟨BH h1.h h2.h hs⟩
end
section
variable {X:Cx} {pos:Pos}
def jD{es:List Expr}{k:Nat}{t:ya}{n:Nat}(hc:X.calm=true)(h:Ie X es t)(hn:(assignEach es X.env).length=n:=by rfl)(hst:(assignEach es X.env).findIdx? (·.1)=none:=by rfl):QG X (.Tuple es k pos) (CD X.K n t):=⟨BI hc h.h hn hst⟩
end
section
variable {X:Cx} {pos:Pos}
def DH{o i:Expr}{to ti:TE}{t:C2}(ho:QE X o to)(hi:QE X i ti)(hs:Gj X t)(ha:∀v,assign (.Subscript o i pos) X.env v=(do
   let ov <-holding [v] (eval o X.env)
   let iv <-holding [v,ov] (eval i X.env)
   standAt pos
   holding [v,ov,iv] (setItem ov iv v)
   release [v,ov,iv] []):=by intro _;rfl):QG X (.Subscript o i pos) (Ga to ti t):=⟨Fw ho.h hi.h hs ha⟩
end
section
variable {X:Cx} {pos:Pos}
def xf{tg e:Expr}{te:TE}{g:TG}(he:QE X e te)(hg:QG X tg g)(hs:swapsWithSole [tg] e pos.line X.env=pure false:=by rfl)(hw:swappedStores [tg] e X.env=pure none:=by rfl)(h1:(assignEach [tg] X.env).map (·.2)=[assign tg X.env]:=by rfl):QS X (.Assign [tg] e pos) (vR te g):=⟨Ft he.h hg.h hs hw h1⟩
end
section
variable {X:Cx} {pos:Pos}
def aW{i:Nat}{x:Str}{e:Expr}{te:TE}{pos':Pos}(hN:X.N.Nodup)(hi:X.N[i]? = some x)(hx:Loc X.env.scope x)(he:QE X e te)(hs:swapsWith e (some (.Name x pos')) pos.line X.env=pure false:=by rfl)(hf:X.fn x=true\/X.env.scope.names.lookup x=some .local:=by first | exact .inl rfl | exact .inr rfl | assumption):QS X (.Assign [.Name x pos'] e pos) (vR te (lH i)):=⟨Fo hN hi hx he.h hs hf⟩
end
section
variable {X:Cx} {pos:Pos}
def mL{i:Nat}{x:Str}{e:Expr}{te:TE}{op:Operator}{ti:HB}{pos':Pos}(hN:X.N.Nodup)(hi:X.N[i]? = some x)(hx:Loc X.env.scope x)(he:QE X e te)(ho:JJ X op ti)(hf:X.fn x=true\/X.env.scope.names.lookup x=some .local:=by first | exact .inl rfl | exact .inr rfl | assumption):QS X (.AugAssign (.Name x pos') op e pos) (F1 i te ti):=⟨Fs hN hi hx he.h ho hf⟩
end
section
variable {X:Cx} {pos:Pos}
def kE{c:Expr}{body:List Stmt}{tc:TT}{tb:TS}(hp:PassesOwn (model X.prog X.w) X.A X.env X.xe)(hc:QT X c tc)(hb:ie X body tb):QS X (.While c body [] pos) (AW tc tb):=⟨BE hp hc.h hb.h⟩
end
section
variable {X:Cx} {tg:Expr}
def eZ{l:Expr}{tl:TE}(hl:QE X l tl):QI X tg l (xu X.K tl):=⟨DV hl.h⟩
end
section
variable {X:Cx} {tg:Expr}
def DG{l:Expr}{tl:TE}(hl:QE X l tl):QI X tg l (Dy X.K tl):=⟨Fu hl.h⟩
end
section
variable {X:Cx} {tg:Expr}
def mf {a:Expr} {ta:TA} {p pos:Pos} (hg:Gl X "range") (hm:X.mg "range"=none) (ha:QA X [a] ta) (hs:starEach [a] X.env=[(false,eval a X.env)]:=by rfl):QI X tg (.Call (.Name "range" p) [a] [] pos) (xt ta):=⟨zC hg hm ha.h hs⟩
end
section
variable {X:Cx} {tg:Expr}
def p9 {a b:Expr} {ta:TA} {p pos:Pos} (hg:Gl X "range") (hm:X.mg "range"=none) (ha:QA X [a,b] ta) (hs:starEach [a,b] X.env=[(false,eval a X.env),(false,eval b X.env)]:=by rfl) (hs2:starEach [b] X.env=[(false,eval b X.env)]:=by rfl):QI X tg (.Call (.Name "range" p) [a,b] [] pos) (xr ta):=⟨zB hg hm ha.h hs hs2⟩
end
section
variable {X:Cx} {tg:Expr}
def d8{iter:Expr}{body:List Stmt}{wi:TI}{g:TG}{tb:TS}{pos:Pos}(hp:PassesOwn (model X.prog X.w) X.A X.env X.xe)(hc:X.calm=true)(hi:QI X tg iter wi)(hg:QG X tg g)(hb:ie X body tb)(hs:∀x,foldedSetIterable iter X.env x=pure x:=by intro _;rfl):QS X (.For tg iter body [] pos) (oF wi g tb):=⟨Fq hp hc hi.h hg.h hb.h hs⟩
end
section
variable {X:Cx} {a b:Expr} {ta tb:TE} {pos:Pos}
def aw{op:Operator}{r:R2}(ho:kR X (binaryOp op) r)(ha:QE X a ta)(hb:QE X b tb):QE X (.BinOp a op b pos) (AY r ta tb):=⟨IH ho ha.h hb.h⟩
end
section
variable {X:Cx} {a:Expr} {ta:TE} {pos:Pos}
def eQ{op:UnaryOp}{r:V->Hp->VK->Prop}(ho:JH X (unaryOp op) r)(ha:QE X a ta):QE X (.UnaryOp op a pos) (JP r ta):=⟨IF ho ha.h⟩
end
section
variable {X:Cx} {a b:Expr} {ta tb:TE} {pos:Pos}
def dQ{op:CmpOp}{r:R2}(ho:kR X (compareOp op) r)(ha:QE X a ta)(hb:QE X b tb)(hm:behindInMarks op b=false):QE X (.Compare a [op] [b] pos) (AY r ta tb):=⟨D5 ho ha.h hb.h hm⟩
end
section
variable {X:Cx} {a b:Expr} {ta tb:TE} {pos:Pos}
def a8{op:CmpOp}{r:R2}(ho:kR X (compareOp op) r)(ha:QE X a ta)(hb:QE X b tb)(hm:behindInMarks op b=false):QT X (.Compare a [op] [b] pos) (tU (AY r ta tb)):=⟨DL ho ha.h hb.h hm⟩
end
section
variable {X:Cx} {a b c:Expr} {ta tb tc:TE} {pos:Pos}
def yx{op op':CmpOp}{r r':R2}(ho:kR X (compareOp op) r)(ho':kR X (compareOp op') r')(ha:QE X a ta)(hb:QE X b tb)(hc:QE X c tc)(hm:lastMarks [op,op'] [b,c]=false:=by with_unfolding_all rfl):QE X (.Compare a [op,op'] [b,c] pos) (vQ r r' ta tb tc):=⟨BR ho ho' ha.h hb.h hc.h hm⟩
end
section
variable {X:Cx} {a:Expr} {ta:TE} {pos:Pos}
def jN(ha:QE X a ta)(he:∀whole,isTrue a X.env whole=(do let v <-whole;standAt a.pos;holding [v] (truthy v))):QT X a (λσ H Q=>ta σ H λx H'=>∃k,ET X.K x H' k/\Q k H'):=⟨BC ha.h he⟩
end
section
variable {X:Cx}
def aD  : QA X [] A2:=⟨GK ⟩
end
section
variable {X:Cx} {e:Expr} {es:List Expr} {te:TE} {t:TA}
def BB(ha:QE X e te)(hr:QA X es t)(hs:starEach (e::es) X.env=(false,eval e X.env)::starEach es X.env:=by rfl):QA X (e::es) (eU te t):=⟨gA ha.h hr.h hs⟩
end
section
variable {X:Cx} {es:List Expr} {t:TA} {pos:Pos}
def dJ{x1}(h:QA X es t):QE X (.Tuple es x1 pos) (FS t):=⟨GA h.h⟩
end
section
variable {X:Cx} {es:List Expr} {t:TA} {pos:Pos}
def c8(h:QA X es t):QE X (.List es pos) (Cs t):=⟨GG h.h⟩
end
section
variable {X:Cx} {x:Str} {p pos:Pos} {e:Expr} {es:List Expr} {t:TA} {id:String} {r:List V->Hp->VK->Prop}
def ae (hc:fq X (.builtin id) r) (hg:Gl X x) (hm:X.mg x=none) (hv:bootBuiltins x=some (.builtin id)) (ha:QA X (e::es) t) (hn:x≠"__name__":=by decide) (hdb:(x==("__debug__":Str))=false:=by decide) (he:starEach (e::es) X.env=(false,eval e X.env)::starEach es X.env:=by rfl) (hpl:(backTo pos (starEach es X.env)).any (·.1)=false:=by rfl):QE X (.Call (.Name x p) (e::es) [] pos) (Gy r t):=⟨BU hc hg hm hv ha.h hn hdb he hpl⟩
end
section
variable {X:Cx} {x:Str} {p pos:Pos} {e:Expr} {es:List Expr} {t:TA} {T:String} {r:List V->Hp->VK->Prop}
def dW (hc:fq X (.type T) r) (hg:Gl X x) (hm:X.mg x=none) (hv:bootBuiltins x=some (.type T)) (ha:QA X (e::es) t) (hn:x≠"__name__":=by decide) (hdb:(x==("__debug__":Str))=false:=by decide) (he:starEach (e::es) X.env=(false,eval e X.env)::starEach es X.env:=by rfl) (hpl:(backTo pos (starEach es X.env)).any (·.1)=false:=by rfl):QE X (.Call (.Name x p) (e::es) [] pos) (Gy r t):=⟨zD hc hg hm hv ha.h hn hdb he hpl⟩
end
section
variable {X:Cx}
def fF  : QO X none rf:=⟨DU ⟩
end
section
variable {X:Cx} {e:Expr} {te:TE}
def eC(h:QE X e te):QO X (some e) (AX te):=⟨DT h.h⟩
end
section
variable {X:Cx} {e:Expr} {te:TE} {lo hi:Option Expr} {tl th:TO} {pos p2:Pos}
def dg{r:V->Option Int->Option Int->Hp->VK->Prop}(hr:JI X r)(he:QE X e te)(hl:QO X lo tl)(hu:QO X hi th):QE X (.Subscript e (.Slice lo hi none p2) pos) (JQ r te tl th):=⟨BK hr he.h hl.h hu.h⟩
end
section
variable {X:Cx} {a b:Expr} {ta tb:TE} {pos:Pos}
def bO{r:R2}(hr:Gp X r)(ha:QE X a ta)(hb:QE X b tb)(hs:yb b):QE X (.Subscript a b pos) (AY r ta tb):=⟨II hr ha.h hb.h hs⟩
end
section
variable {X:Cx} {o:Expr} {to:TE} {name:Str} {apos cpos:Pos} {T id:String} {r:V->List V->Hp->VK->Prop}
def xg (pa:PlainAttrs T) (slot:Slot T name id) (hty:typeOf (.builtin id)=pure (.type "method_descriptor")) (hm:Ij X id r) (ho:QE X o to) (hbase:attributeBase o name X.env (eval o X.env)=eval o X.env:=by rfl) (hline:(apos.endLine==cpos.line)=true:=by rfl):QE X (.Call (.Attribute o name apos) [] [] cpos) (F0 X.K T r to):=⟨GI pa slot hty hm ho.h hbase hline⟩
end
section
variable {X:Cx} {o e:Expr} {es:List Expr} {to:TE} {t:TA} {name:Str} {apos cpos:Pos} {T id:String} {r:V->List V->Hp->VK->Prop}
def iI (pa:PlainAttrs T) (slot:Slot T name id) (hty:typeOf (.builtin id)=pure (.type "method_descriptor")) (hm:Ij X id r) (ho:QE X o to) (ha:QA X (e::es) t) (hbase:attributeBase o name X.env (eval o X.env)=eval o X.env:=by rfl) (hfew:((backTo cpos (starEach (e::es) X.env)).all (λx=>!x.1)&&(backToKw cpos (keywordEach [] X.env)).all (λx=>x.1.isSome)
   && decide ((e::es).length+([]:List Keyword).length+(if ([]:List Keyword).isEmpty then 0 else 1)<30))=true:=by rfl) (hline:(apos.endLine==cpos.line)=true:=by rfl) (hs:starEach (e::es) X.env=(false,eval e X.env)::starEach es X.env:=by rfl) (hplain:(backTo cpos (starEach es X.env)).any (·.1)=false:=by rfl):QE X (.Call (.Attribute o name apos) (e::es) [] cpos) (JT X.K T r to t):=⟨IJ pa slot hty hm ho.h ha.h hbase hfew hline hs hplain⟩
end
section
variable {X:Cx}
def aX (i:Nat) {x:Str} {pos:Pos} (hN:X.N[i]? = some x:=by rfl) (hv:HA X.env.scope x:=by first | exact Or.inl rfl | exact Or.inr (Or.inl rfl) | exact Or.inr (Or.inr rfl)) (hd:(x==("__debug__":Str))=false:=by decide) (hcd:(x==("__classdict__":Str))=false:=by decide):QE X (.Name x pos) (pO i):=⟨pv i hN hv hd hcd⟩
end
section
variable {X:Cx}
def v7{a b c d:Expr}{ta tb tc td:TE}{pos:Pos}{op op' op2:CmpOp}{r r' r2:R2}(ho:kR X (compareOp op) r)(ho':kR X (compareOp op') r')(ho2:kR X (compareOp op2) r2)(ha:QE X a ta)(hb:QE X b tb)(hc:QE X c tc)(hd:QE X d td)(hm:lastMarks [op,op',op2] [b,c,d]=false:=by with_unfolding_all rfl):QT X (.Compare a [op,op',op2] [b,c,d] pos) (tU (rg r r' r2 ta tb tc td)):=⟨yz ho ho' ho2 ha.h hb.h hc.h hd.h hm⟩
end
section
def oH {X:Cx} {x:Str} {i:Int} {pos:Pos} (hg:Gl X x) (hm:∃t,X.mg x=some (.int i t)) (hd:(x==("__debug__":Str))=false:=by decide):QE X (.Name x pos) (tC (.int i)):=⟨BN hg hm hd⟩
end
section
def aS {X:Cx} {k:Nat} {x:Str} {st:Stmt} {ps:List Str} {sp:Sp} {e:Expr} {es:List Expr} {t:TA} {p pos:Pos} (D:dM X.prog X.w X.K X.mg X.base k x st ps sp) (hr:j9 k X.A) (hg:Gl X x) (ha:QA X (e::es) t) (hdb:(x==("__debug__":Str))=false:=by decide) (he:starEach (e::es) X.env=(false,eval e X.env)::starEach es X.env:=by rfl) (hpl:(backTo pos (starEach es X.env)).any (·.1)=false:=by rfl):QE X (.Call (.Name x p) (e::es) [] pos) (ww sp [] E0 t):=⟨BS D hr hg ha.h hdb he hpl⟩
end
section
def pB{X:Cx}{tg l:Expr}{tl:TE}(hl:QE X l tl):QI X tg l (Dz tl):=⟨Fv hl.h⟩
end
section
def pf {X:Cx} {a:Expr} {ta:TA} {elts:List Expr} {x1:Nat} {p pos tpos:Pos} (hg:Gl X "enumerate") (hm:X.mg "enumerate"=none) (ha:QA X [a] ta) (hs:starEach [a] X.env=[(false,eval a X.env)]:=by rfl):QI X (.Tuple elts x1 tpos) (.Call (.Name "enumerate" p) [a] [] pos) (Bz ta):=⟨DW hg hm ha.h hs⟩
end
section
def iW{X:Cx}:QF X [] oY:=⟨Fy ⟩
end
section
def DI{X:Cx}{c:Expr}{t:TT}(h:QT X c t):QF X [c] t:=⟨Fx h.h⟩
end
section
variable {X:Cx} {H:Hp} {s:Shared}
def fy{own ns:List Str}{caps:List Nat}{elt tg iter:Expr}{ifs:List Expr}{scope:Scope}{pos:Pos}{wi:TI}{g:TG}{tf:TT}{te:TE}(hc:X.calm=true)(S:nL scope ns)(cp:mG X scope ns caps)(hi:QI X tg iter wi)(hg:∀C s H fp pn,QG (su X (own++ns) scope C s H fp pn) tg g)(ht:∀C s H fp pn,QF (su X (own++ns) scope C s H fp pn) ifs tf)(he:∀C s H fp pn,QE (su X (own++ns) scope C s H fp pn) elt te)(hs:∀x,foldedSetIterable iter X.env x=pure x:=by intro _;rfl):QE X (.ListComp elt [⟨tg,iter,ifs,0⟩] scope pos) (mU own.length caps wi g tf te):=⟨D4 hc S cp hi.h (λC s H fp pn=>(hg C s H fp pn).h) (λC s H fp pn=>(ht C s H fp pn).h) (λC s H fp pn=>(he C s H fp pn).h) hs⟩
end
section
variable {X:Cx} {H:Hp} {s:Shared}
def Ax{i:Nat}{x:Str}{own ns:List Str}{caps:List Nat}{elt tg iter:Expr}{ifs:List Expr}{scope:Scope}{pos pos' spos:Pos}{wi:TI}{g:TG}{tf:TT}{te:TE}(hN:X.N.Nodup)(hi:X.N[i]? = some x)(hx:Loc X.env.scope x)(hc:X.calm=true)(S:nL scope ns)(cp:mG X scope ns caps)(hit:QI X tg iter wi)(hg:∀C s H fp pn,QG (su X (own++ns) scope C s H fp pn) tg g)(ht:∀C s H fp pn,QF (su X (own++ns) scope C s H fp pn) ifs tf)(he:∀C s H fp pn,QE (su X (own++ns) scope C s H fp pn) elt te)(hs:∀x,foldedSetIterable iter X.env x=pure x:=by intro _;rfl)(hsw:swapsWith (.ListComp elt [⟨tg,iter,ifs,0⟩] scope pos) (some (.Name x pos')) spos.line X.env=pure true:=by rfl)(hf:X.fn x=true\/X.env.scope.names.lookup x=some .local:=by first | exact .inl rfl | exact .inr rfl | assumption):QS X (.Assign [.Name x pos'] (.ListComp elt [⟨tg,iter,ifs,0⟩] scope pos) spos) (vR (mU own.length caps wi g tf te) (lH i)):=⟨DP hN hi hx hc S cp hit.h (λC s H fp pn=>(hg C s H fp pn).h) (λC s H fp pn=>(ht C s H fp pn).h) (λC s H fp pn=>(he C s H fp pn).h) hs hsw hf⟩
end
section
variable {X:Cx} {K:NQ}
def BA{es:List Expr}{k:Nat}{t:ya}{n:Nat}{pos:Pos}(hK:X.K=K)(hc:X.calm=true)(h:Ie X es t)(hn:(assignEach es X.env).length=n:=by rfl)(hst:(assignEach es X.env).findIdx? (·.1)=none:=by rfl):QG X (.Tuple es k pos) (CD K n t):=⟨DY hK hc h.h hn hst⟩
end
section
def rD {X:Cx} {x:Str} {K:NQ} {xs:List V} {pos:Pos} (hg:Gl X x) (hm:∃a,X.mg x=some (.ref a)/\∀H,dm K H a xs) (hd:(x==("__debug__":Str))=false:=by decide):QE X (.Name x pos) (vN K xs):=⟨BM hg hm hd⟩
end
section
def dP{X:Cx}{st:Stmt}{rest:List Stmt}{t u:TS}(h1:QS X st t)(h2:ie X rest u):ie X (st::rest) (Ct t u):=⟨DO h1.h h2.h⟩
end
section
variable {X:Cx} {es:List Expr} {te:TE} {t:TA}
def cL{a0:PySem.Expr}{a1:PySem.Operator}{a2:PySem.Expr}{a3:PySem.Pos}(ha:QE X (Expr.BinOp a0 a1 a2 a3) te)(hr:QA X es t):QA X ((Expr.BinOp a0 a1 a2 a3)::es) (eU te t):=⟨BW ha.h hr.h⟩
end
section
variable {X:Cx} {es:List Expr} {te:TE} {t:TA}
def jf{a0:PySem.UnaryOp}{a1:PySem.Expr}{a2:PySem.Pos}(ha:QE X (Expr.UnaryOp a0 a1 a2) te)(hr:QA X es t):QA X ((Expr.UnaryOp a0 a1 a2)::es) (eU te t):=⟨v9 ha.h hr.h⟩
end
section
variable {X:Cx} {es:List Expr} {te:TE} {t:TA}
def g0{a0:PySem.Expr}{a1:List Comprehension}{a2:PySem.Scope}{a3:PySem.Pos}(ha:QE X (Expr.ListComp a0 a1 a2 a3) te)(hr:QA X es t):QA X ((Expr.ListComp a0 a1 a2 a3)::es) (eU te t):=⟨uP ha.h hr.h⟩
end
section
variable {X:Cx} {es:List Expr} {te:TE} {t:TA}
def eF{a0:PySem.Expr}{a1:List CmpOp}{a2:List Expr}{a3:PySem.Pos}(ha:QE X (Expr.Compare a0 a1 a2 a3) te)(hr:QA X es t):QA X ((Expr.Compare a0 a1 a2 a3)::es) (eU te t):=⟨va ha.h hr.h⟩
end
section
variable {X:Cx} {es:List Expr} {te:TE} {t:TA}
def d6{a0:PySem.Expr}{a1:List Expr}{a2:List Keyword}{a3:PySem.Pos}(ha:QE X (Expr.Call a0 a1 a2 a3) te)(hr:QA X es t):QA X ((Expr.Call a0 a1 a2 a3)::es) (eU te t):=⟨Dc ha.h hr.h⟩
end
section
variable {X:Cx} {es:List Expr} {te:TE} {t:TA}
def bY{a0:PySem.Const}{a1:Nat}{a2:PySem.Pos}(ha:QE X (Expr.Constant a0 a1 a2) te)(hr:QA X es t):QA X ((Expr.Constant a0 a1 a2)::es) (eU te t):=⟨uQ ha.h hr.h⟩
end
section
variable {X:Cx} {es:List Expr} {te:TE} {t:TA}
def bA{a0:PySem.Expr}{a1:PySem.Expr}{a2:PySem.Pos}(ha:QE X (Expr.Subscript a0 a1 a2) te)(hr:QA X es t):QA X ((Expr.Subscript a0 a1 a2)::es) (eU te t):=⟨sQ ha.h hr.h⟩
end
section
variable {X:Cx} {es:List Expr} {te:TE} {t:TA}
def aC{a0:PySem.Str}{a1:PySem.Pos}(ha:QE X (Expr.Name a0 a1) te)(hr:QA X es t):QA X ((Expr.Name a0 a1)::es) (eU te t):=⟨D8 ha.h hr.h⟩
end
section
variable {X:Cx} {es:List Expr} {te:TE} {t:TA}
def kG{a0:List Expr}{a1:PySem.Pos}(ha:QE X (Expr.List a0 a1) te)(hr:QA X es t):QA X ((Expr.List a0 a1)::es) (eU te t):=⟨D9 ha.h hr.h⟩
end
section
variable {X:Cx} {es:List Expr} {te:TE} {t:TA}
def jO{a0:List Expr}{a1:Nat}{a2:PySem.Pos}(ha:QE X (Expr.Tuple a0 a1 a2) te)(hr:QA X es t):QA X ((Expr.Tuple a0 a1 a2)::es) (eU te t):=⟨BV ha.h hr.h⟩
end
section
variable {X:Cx} {es:List Expr} {te:TE} {t:TA}
def uK{a0:List (Option Expr)}{a1:List Expr}{a2:PySem.Pos}(ha:QE X (Expr.Dict a0 a1 a2) te)(hr:QA X es t):QA X ((Expr.Dict a0 a1 a2)::es) (eU te t):=⟨Da ha.h hr.h⟩
end
section
variable {X:Cx} {o i:Expr} {pos:Pos} {td ty:TE}
def fx(hu:X.A.units+1<cLine)(ho:QE X o td)(hi:QE X i ty)(hs:Gn i):QE X (.Subscript o i pos) (A7 td ty):=⟨D3 hu ho.h hi.h hs⟩
end
section
variable {X:Cx} {o i value:Expr} {pos pos':Pos} {td ty tv:TE}
def kF(hu:X.A.units+1<cLine)(ho:QE X o td)(hi:QE X i ty)(hv:QE X value tv)(hs:swapsWith value (some (.Subscript o i pos')) pos.line X.env=pure false):QS X (.Assign [.Subscript o i pos'] value pos) (Aq td ty tv):=⟨DR hu ho.h hi.h hv.h hs⟩
end
section
variable {X:Cx} {pos:Pos}
def oI  : QE X (.Dict [] [] pos) vP:=⟨BQ ⟩
end
section
variable {X:Cx} {pos:Pos}
def rE  : QE X (.Dict [] [] pos) vO:=⟨BP ⟩
end
section
def uH{X:Cx}{pos:Pos}:EX X pos [] [] []:=⟨DS ⟩
end
section
def mM{X:Cx}{pos:Pos}{k v:Expr}{ks:List (Option Expr)}{vs:List Expr}{tk tv:TE}{trs:List (TE×TE)}(hk:QE X k tk)(hv:QE X v tv)(hr:EX X pos ks vs trs):EX X pos (some k::ks) (v::vs) ((tk,tv)::trs):=⟨BG hk.h hv.h hr.h⟩
end
section
def uJ{X:Cx}{pos:Pos}{keys:List (Option Expr)}{values:List Expr}{trs:List (TE×TE)}(h:EX X pos keys values trs)(hall:keys.all (·.isSome)=true)(hl:keys.length=values.length)(h0:keys≠[])(h15:keys.length<=15):QE X (.Dict keys values pos) (A6 trs):=⟨D0 h.h hall hl h0 h15⟩
end
section
variable {X:Cx}
def v6{k d:Expr}{ty td:TE}{pos:Pos}(hu:X.A.units+1<cLine)(hk:QE X k ty)(hd:QE X d td)(hm:behindInMarks .NotIn d=false:=by first | rfl | with_unfolding_all rfl):QT X (.Compare k [.NotIn] [d] pos) (tB (oo ty td)):=⟨yy hu hk.h hd.h hm⟩
end
section
def uI {X:Cx} {e:Expr} {te:TE} {p p2 pos2 pos:Pos} (hc:X.calm=true) (hgl:Gl X "list") (hml:X.mg "list"=none) (hgr:Gl X "reversed") (hmr:X.mg "reversed"=none) (he:QE X e te) (hs:starEach [.Call (.Name "reversed" p2) [e] [] pos2] X.env=[(false,eval (.Call (.Name "reversed" p2) [e] [] pos2) X.env)]:=by rfl) (hs2:starEach [e] X.env=[(false,eval e X.env)]:=by rfl):QE X (.Call (.Name "list" p) [.Call (.Name "reversed" p2) [e] [] pos2] [] pos) (FU te):=⟨v8 hc hgl hml hgr hmr he.h hs hs2⟩
end
open AutoSeq1 (wpAny_loadPart')
section
variable {prog:Program} {w:World} {A:Around} {E:Value->Shared->Prop} {s:Shared}
def vq{it t:Addr}{i:Nat}{items}{x:Value}{Q:Value->Shared->Prop}(hit:s.heap.IsTupleIter it t i)(ht:s.heap.IsTuple t items)(hx:items[i]? = some x)
  (hQ:∀h',h'.IsTupleIter it t (i+1)->Heap.SameBut it s.heap h'->Q x { s with heap:=h' }):wpAny (model prog w) A (Builtin.SmallTypes.nextOf (.ref it)) Q E s:=by
 obtain⟨o,ho,hc,hd⟩:=id hit;obtain⟨ol,hol,_,nl,hdl⟩:=ht;unfold Builtin.SmallTypes.nextOf;refine wpAny_bind (wpAny_callSpecial?_slot (name:=Str.ofString "__next__") hit.typeIs dr (NA dr hit.typeIs jF ?_ (iq _)));show wpAny _ _ (field (.ref it) 0>>=_) _ _ s;refine wpAny_bind (ND ho hd (x:=.ref t) rfl ?_);show wpAny _ _ (if (Value.ref t==Value.none)=true then _ else _) _ _ s;rw[NI (show ¬((Value.ref t==Value.none)=true) from bC)];show wpAny _ _ (field (.ref it) 1>>=_) _ _ s;refine wpAny_bind (ND ho hd (x:=.int i 0) rfl ?_);show wpAny _ _ (seqItems? (.ref t)>>=_) _ _ s;refine wpAny_bind (NB hol hdl ?_);simp only[fU,hx];refine wpAny_bind (wpAny_setField ho hd (by simp) (Mq ⟨x,rfl,Mq (hQ _ ?_ (Heap.SameBut.update ..))⟩));exact⟨_,gw _ ho (Obj.isFreed_of_fields (Obj.data_mapFields hd _)),(Obj.cls_mapFields ..).trans hc,by rw[Obj.data_mapFields hd];simp[rawInt]⟩
def zI{it t:Addr}{i:Nat}{items}{Q:Value->Shared->Prop}(hh:A.handled=none)(hit:s.heap.IsTupleIter it t i)(ht:s.heap.IsTuple t items)(hx:items[i]? = none)
  (hE:∀h' e,Heap.ExtBut it s.heap h'->(∃o,h'.get? e=some o/\o.cls=.type "StopIteration")->E (.ref e) { s with heap:=h' }):wpAny (model prog w) A (Builtin.SmallTypes.nextOf (.ref it)) Q E s:=by
 obtain⟨o,ho,hc,hd⟩:=id hit;obtain⟨ol,hol,_,nl,hdl⟩:=ht;unfold Builtin.SmallTypes.nextOf;refine wpAny_bind (wpAny_callSpecial?_slot (name:=Str.ofString "__next__") hit.typeIs dr (NA dr hit.typeIs jF ?_ (iq _)));show wpAny _ _ (field (.ref it) 0>>=_) _ _ s;refine wpAny_bind (ND ho hd (x:=.ref t) rfl ?_);show wpAny _ _ (if (Value.ref t==Value.none)=true then _ else _) _ _ s;rw[NI (show ¬((Value.ref t==Value.none)=true) from bC)];show wpAny _ _ (field (.ref it) 1>>=_) _ _ s;refine wpAny_bind (ND ho hd (x:=.int i 0) rfl ?_);show wpAny _ _ (seqItems? (.ref t)>>=_) _ _ s;refine wpAny_bind (NB hol hdl ?_);simp only[fU,hx];refine wpAny_bind (wpAny_rule (wpAny_bind (wpAny_setField ho hd (by simp) ?_)));show wpAny _ _ (newExc (.type "StopIteration") []>>=_) _ _ _;refine wpAny_bind ?_;simp only[newExc,newTuple];refine wpAny_bind (wpAny_newObj_type ?_ (by size_fits));refine wpAny_bind (m:=firstArgMember _ _) (wpAny_of_eq (a:=Value.none) (by first | rfl | (simp only[firstArgMember];rfl)) ?_);refine wpAny_newObj_type ?_ (by size_fits);simp only[raiseNew];refine wpAny_bind (wpAny_handled ?_);first | rw[show A.in1.handled=none from hh] | rw[hh]
 refine wpAny_bind (Mq (wpAny_throw ?_));exact hE _ _ (((Heap.SameBut.update ..).extBut.push _).push _) ⟨_,aP _ rfl,rfl⟩
def Draws.tup(hh:A.handled=none)(it t:Addr)(hne:t≠it)(items:Array Value):Draws prog w A it [it,t] items.size (λi v=>items[i]? = some v) (λi h=>h.IsTupleIter it t i/\h.IsTuple t items) where
 live:=λ_ _ st=>let ⟨o,ho,_⟩:=st.1;⟨o,ho⟩
 frame:=λ_ _ _ st hk=>by
  obtain⟨st1,o,ho,r⟩:=st;exact⟨st1.at λo e=>hk it (by simp) o e,o,hk t (by simp) o ho,r⟩
 item:=λi s Q E hi st hQ=>vq st.1 st.2 (x:=items[i]) (by simp[hi]) λh' hit' hs'=>hQ _ h' s.toks (by simp[hi]) ⟨hit',st.2.extBut hs'.extBut hne⟩ hs'
 done:=λs Q E st hE=>zI hh st.1 st.2 (by simp) hE
end
section
variable {X:Cx} {pins:List (Addr×Obj)} {σ:St} {H:Hp} {s:Shared} {h':Heap}
def bc.turnAll{fp:List Addr}{t':Nat}(I:bc X pins σ H s)(hf:∀b∈fp,nJ X pins H b)(k:∀b u,b∉fp->s.heap.get? b=some u->h'.get? b=some u):bc X pins σ H { s with heap:=h',toks:=t' }:=by
 have nfp:∀b u,H b=some u->b∉fp:=λb u e z=>by rw[(hf b z).1] at e;cases e
 refine I.step (g':=s.gens) (d':=s.drawn) (ch:=fp) (λb hb=>?_) (λb o _ _ hc e _=>k b o hc e) (λb o _ _ hc e _=>⟨o.slots,k b o hc e⟩) (λ_ _ _ _ n=>n)
  (λb o hc e=>⟨o,k b o hc e⟩) (λ_ _ e=>e) (λ_ _ _ e=>e) (λb ps e=>⟨#[],by rw[e];simp⟩) (λm hm=>?_) (λb u e=>?_) I.bare
 ·obtain⟨_,f1,_,f3,f4,f5⟩:=hf b hb;exact⟨f3,f1,f4,f5⟩
 ·obtain⟨ob,es,ep,ho,r⟩:=hm;exact⟨ob,es,ep,k _ ob (λz=>(hf _ z).2.1 rfl) ho,r⟩
 ·refine(I.hok b u e).stay (λc v hc q=>k c v ?_ q) (λ_ q=>q) λ_ _ q=>q;rcases hc with z | z
  ·rw[z];exact nfp b u e
  ·exact nfp c _ z
end
def Ip(K:NQ)(a:Addr):It:=
 ⟨λi H=>∃xs x,dm K H a xs/\xs[i]? = some x,λi H v H'=>∃p x,H p=none/\(∀xs,dm K H a xs->xs[i]? = some x)/\v=.ref p/\H'=upd H p (.tup [.int i,x]),λi H=>∃xs,dm K H a xs/\xs.length=i⟩
def G7(K:NQ)(ta:TA):TI:=λσ H R=>ta σ H λvs H1=>∃a,vs=[.ref a]/\(∃xs,dm K H1 a xs)/\R (Ip K a) H1
def Jm(K:NQ)(a b:Addr):It:=
  ⟨λi H=>∃xs ys x y,cF K H a xs/\cF K H b ys/\xs[i]? = some x/\ys[i]? = some y,
   λi H v H'=>∃p x y,H p=none/\(∀xs,cF K H a xs->xs[i]? = some x)/\(∀ys,cF K H b ys->ys[i]? = some y)/\v=.ref p/\H'=upd H p (.tup [x,y]),
   λi H=>∃xs ys,cF K H a xs/\cF K H b ys/\(xs.length<=i\/ys.length<=i)⟩
def J4(K:NQ)(ta:TA):TI:=λσ H R=>ta σ H λvs H1=>∃a b,vs=[.ref a,.ref b]/\(∃xs,cF K H1 a xs)/\(∃ys,cF K H1 b ys)/\R (Jm K a b) H1
end L2
namespace L2
open PySem PySem.Spec PyProof.Rows HT
section
variable {σ:St} {H:Hp} {D:Ends} {K:NQ}
def wc{ta:TA}{g:TG}{tb:TS}:oF (G7 K ta) g tb D σ H=ta σ H λvs H1=>∃a,vs=[.ref a]/\(∃xs,dm K H1 a xs)/\mT (Ip K a) g tb D σ H1:=rfl
def wf{k:Nat}{caps:List Nat}{ta:TA}{g:TG}{tf:TT}{te:TE}{Q:VK}:mU k caps (J4 K ta) g tf te σ H Q=ta σ H λvs H1=>∃a b,vs=[.ref a,.ref b]/\(∃xs,cF K H1 a xs)/\(∃ys,cF K H1 b ys)/\iz (Jm K a b) g tf te Q (i6 k caps σ) H1:=rfl
end
end L2
namespace L2
open PySem PySem.Spec PyProof.Rows
structure oW (z TI TO i1 i2:Addr) (f1 f2:List Addr):Prop where
 tz:TI≠z
 oz:TO≠z
 az:i1≠z
 bz:i2≠z
 to:TI≠TO
 ta:TI≠i1
 tb:TI≠i2
 oa:TO≠i1
 ob:TO≠i2
 ab:i1≠i2
 z1:z∉f1
 o1:TO∉f1
 b1:i2∉f1
 z2:z∉f2
 o2:TO∉f2
 a2:i1∉f2
section
variable {prog:Program} {w:World} {A:Around} {E:Value->Shared->Prop} {s:Shared} {z TI TO i1 i2:Addr} {f1 f2:List Addr} {n1 n2 k:Nat} {P1 P2:Nat->Value->Prop} {S1 S2:Nat->Heap->Prop} {a b:Value}
def fE{it:Addr}{fp:List Addr}{n i:Nat}{P:Nat->Value->Prop}{S:Nat->Heap->Prop}{h h':Heap}{c:Addr}(D:Draws prog w A it fp n P S)(st:S i h)(sb:Heap.SameBut c h h')(hc:c∉fp):S i h':=
 D.frame i h h' st λb hb o e=>(sb.2 b (λq=>hc (q▸hb))).trans e
def yd{Q:Value->Shared->Prop}(D1:Draws prog w A i1 f1 n1 P1 S1)(D2:Draws prog w A i2 f2 n2 P2 S2)(ap:oW z TI TO i1 i2 f1 f2)(hz:IsZip s.heap z TI TO .none)(hTI:IsPair s.heap TI (.ref i1) (.ref i2))(hTO:IsPair s.heap TO a b)(h1:S1 k s.heap)(h2:S2 k s.heap)(k1:k<n1)(k2:k<n2)
  (hQ:∀(h':Heap) (x y:Value) (tk:Nat),P1 k x->P2 k y->IsZip h' z TI TO (rawInt s.heap.objs.size)->IsPair h' TO x y->S1 (k+1) h'->S2 (k+1) h'->IsPair h' s.heap.objs.size x y->(∀c o,c≠z->c≠TO->c≠i1->c≠i2->s.heap.get? c=some o->h'.get? c=some o)->Q (.ref s.heap.objs.size) { s with heap:=h',toks:=tk }) :
  wpAny (model prog w) A (Builtin.«zip.__next__» ⟨[.ref z],[]⟩) (λfin s'=>∃v,fin=.done (.ret v)/\Q v s') E s:=by
 show wpAny _ _ (field (.ref z) 2>>=_) _ _ _;refine wpAny_bind (ND hz rfl (x:=.bool false) rfl ?_);show wpAny _ _ (field (.ref z) 3>>=_) _ _ _;refine wpAny_bind (ND hz rfl (x:=.ref TI) rfl ?_);refine wpAny_bind (NB hTI rfl ?_);show wpAny _ _ (Builtin.SmallTypes.ownedTupleIsFree (.ref z)>>=_) _ _ _;refine wpAny_bind ?_;unfold Builtin.SmallTypes.ownedTupleIsFree;refine wpAny_bind (ND hz rfl (x:=.none) rfl (Mq ?_));simp only[NO];refine wpAny_bind (wpAny_rule ?_);refine wpAny_bind (ND hz rfl (x:=.ref TO) rfl ?_);refine wpAny_bind (NE hz (by simp) λg1 hz1 b1=>?_)
 replace hz1:IsZip g1 z TI TO .ellipsis:=hz1
 refine wpAny_bind ?_;simp only[List.zipIdx_cons,List.zipIdx_nil,ij,List.forIn_nil];refine wpAny_bind (wpAny_bind (wpAny_onRaise ?_));show wpAny _ _ (Builtin.SmallTypes.nextOf (.ref i1)>>=_) _ _ _;refine wpAny_bind (D1.item k { s with heap:=g1 } _ _ k1 (fE D1 h1 b1 ap.z1) λx g2 t2 px s2 b2=>Mq ?_);have hT2:IsPair g2 TO a b:=b2.extBut _ _ ap.oa (b1.extBut _ _ ap.oz hTO);refine wpAny_bind (NB hT2 rfl ?_);refine wpAny_bind (wpAny_updateSeq_pair hT2 λg3 hT3 b3=>?_)
 replace hT3:IsPair g3 TO x b:=hT3
 refine wpAny_bind (wpAny_letGo (Mq ?_));refine wpAny_bind (wpAny_bind (wpAny_onRaise ?_));show wpAny _ _ (Builtin.SmallTypes.nextOf (.ref i2)>>=_) _ _ _;refine wpAny_bind (D2.item k { s with heap:=g3,toks:=t2 } _ _ k2 (fE D2 (fE D2 (fE D2 h2 b1 ap.z2) b2 ap.a2) b3 ap.o2) λy g4 t4 py s4 b4=>Mq ?_);have hT4:IsPair g4 TO x b:=b4.extBut _ _ ap.ob hT3;refine wpAny_bind (NB hT4 rfl ?_);refine wpAny_bind (wpAny_updateSeq_pair hT4 λg5 hT5 b5=>?_)
 replace hT5:IsPair g5 TO x y:=hT5
 refine wpAny_bind (wpAny_letGo (Mq (Mq ?_)));refine wpAny_bind (NB hT5 rfl ?_);refine wpAny_bind (wpAny_newTuple ?_);have hsz:g5.objs.size=s.heap.objs.size:=by rw[b5.1,b4.1,b3.1,b2.1,b1.1]
 have hz5:IsZip g5 z TI TO .ellipsis:=b5.extBut _ _ ap.oz.symm (b4.extBut _ _ ap.bz.symm (b3.extBut _ _ ap.oz.symm (b2.extBut _ _ ap.az.symm hz1)));have kp5:∀c o,c≠z->c≠TO->c≠i1->c≠i2->s.heap.get? c=some o->g5.get? c=some o:=λc o c1 c2 c3 c4 e=>b5.extBut _ _ c2 (b4.extBut _ _ c4 (b3.extBut _ _ c2 (b2.extBut _ _ c3 (b1.extBut _ _ c1 e))));have w1:S1 (k+1) g5:=fE D1 (fE D1 (fE D1 s2 b3 ap.o1) b4 ap.b1) b5 ap.o1;have w2:S2 (k+1) g5:=fE D2 s4 b5 ap.o2;have zlt:z<g5.objs.size:=aT hz5;show wpAny _ _ (Builtin.SmallTypes.ownedTupleHandOut (.ref z) (.ref g5.objs.size)>>=_) _ _ _;refine wpAny_bind ?_;unfold Builtin.SmallTypes.ownedTupleHandOut;have hz6:IsZip (g5.push { cls:=.type "tuple",data:=.seq #[x,y] }) z TI TO .ellipsis:=aB _ hz5;refine wpAny_bind (NE hz6 (by simp) λg7 hz7 b7=>?_)
 replace hz7:IsZip g7 z TI TO (rawInt g5.objs.size):=hz7
 refine NE hz7 (by simp) λg8 hz8 b8=>?_
 replace hz8:IsZip g8 z TI TO (rawInt g5.objs.size):=hz8
 have up:∀c o,c≠z->g5.get? c=some o->g8.get? c=some o:=λc o c1 e=>b8.extBut _ _ c1 (b7.extBut _ _ c1 (aB _ e));have hP:IsPair g8 g5.objs.size x y:=b8.extBut _ _ (fi zlt) (b7.extBut _ _ (fi zlt) (aP _ rfl));rw[hsz] at hz8 hP;refine Mq ⟨_,rfl,?_⟩;show Q (.ref g5.objs.size) _;rw[hsz];exact hQ g8 x y t4 px py hz8 (up _ _ ap.oz hT5) (D1.frame _ _ _ w1 λc hc o e=>up c o (λq=>ap.z1 (q▸hc)) e) (D2.frame _ _ _ w2 λc hc o e=>up c o (λq=>ap.z2 (q▸hc)) e) hP λc o c1 c2 c3 c4 e=>up c o c1 (kp5 c o c1 c2 c3 c4 e)
def zm{Q:Fin->Shared->Prop}(D1:Draws prog w A i1 f1 n1 P1 S1)(ap:oW z TI TO i1 i2 f1 f2)(hz:IsZip s.heap z TI TO .none)(hTI:IsPair s.heap TI (.ref i1) (.ref i2))(h1:S1 n1 s.heap)
  (hE:∀h' e,(∀c o,c≠z->c≠i1->s.heap.get? c=some o->h'.get? c=some o)->(∃o,h'.get? e=some o/\o.cls=.type "StopIteration")->E (.ref e) { s with heap:=h' }):wpAny (model prog w) A (Builtin.«zip.__next__» ⟨[.ref z],[]⟩) Q E s:=by
 show wpAny _ _ (field (.ref z) 2>>=_) _ _ _;refine wpAny_bind (ND hz rfl (x:=.bool false) rfl ?_);show wpAny _ _ (field (.ref z) 3>>=_) _ _ _;refine wpAny_bind (ND hz rfl (x:=.ref TI) rfl ?_);refine wpAny_bind (NB hTI rfl ?_);show wpAny _ _ (Builtin.SmallTypes.ownedTupleIsFree (.ref z)>>=_) _ _ _;refine wpAny_bind ?_;unfold Builtin.SmallTypes.ownedTupleIsFree;refine wpAny_bind (ND hz rfl (x:=.none) rfl (Mq ?_));simp only[NO];refine wpAny_bind (wpAny_rule ?_);refine wpAny_bind (ND hz rfl (x:=.ref TO) rfl ?_);refine wpAny_bind (NE hz (by simp) λg1 hz1 b1=>?_)
 replace hz1:IsZip g1 z TI TO .ellipsis:=hz1
 refine wpAny_bind ?_;simp only[List.zipIdx_cons,List.zipIdx_nil,ij,List.forIn_nil];refine wpAny_bind (wpAny_bind (wpAny_onRaise ?_));show wpAny _ _ (Builtin.SmallTypes.nextOf (.ref i1)>>=_) _ _ _;refine wpAny_bind (D1.done { s with heap:=g1 } _ _ (fE D1 h1 b1 ap.z1) λg2 e b2 he=>?_);obtain⟨oe,hoe,hce⟩:=he;have hz2:IsZip g2 z TI TO .ellipsis:=b2 _ _ ap.az.symm hz1;have hez:e≠z:=λx=>by subst x;rw[hz2] at hoe;cases hoe;simp at hce
 exact NE hz2 (by simp) λg3 _ b3=>hE g3 e (λc o c1 c3 x=>b3.extBut _ _ c1 (b2 _ _ c3 (b1.extBut _ _ c1 x))) ⟨oe,b3.extBut _ _ hez hoe,hce⟩
def qA{Q:Option Value->Shared->Prop}(D1:Draws prog w A.in1 i1 f1 n1 P1 S1)(D2:Draws prog w A.in1 i2 f2 n2 P2 S2)(ap:oW z TI TO i1 i2 f1 f2)(hz:IsZip s.heap z TI TO .none)(hTI:IsPair s.heap TI (.ref i1) (.ref i2))(hTO:IsPair s.heap TO a b)(h1:S1 k s.heap)(h2:S2 k s.heap)(k1:k<n1)(k2:k<n2)
  (hQ:∀(h':Heap) (x y:Value) (tk:Nat),P1 k x->P2 k y->IsZip h' z TI TO (rawInt s.heap.objs.size)->IsPair h' TO x y->S1 (k+1) h'->S2 (k+1) h'->IsPair h' s.heap.objs.size x y->(∀c o,c≠z->c≠TO->c≠i1->c≠i2->s.heap.get? c=some o->h'.get? c=some o)->Q (some (.ref s.heap.objs.size)) { s with heap:=h',toks:=tk }) :
  wpAny (model prog w) A (pyNext (.ref z)) Q E s:=by
 have hT:s.TypeIs (.ref z) "zip":=⟨_,hz,rfl⟩
 unfold pyNext;exact wpAny_bind (wpAny_attempt (wpAny_callSpecial?_slot (name:=Str.ofString "__next__") hT ip (NA ip hT F.entry_zip_next (yd D1 D2 ap hz hTI hTO h1 h2 k1 k2 λh' x y tk q1 q2 q3 q4 q5 q6 q7 q8=>Mq (hQ h' x y tk q1 q2 q3 q4 q5 q6 q7 q8)) (F.args_zip_next_1 _))))
def rH{Q:Option Value->Shared->Prop}(D1:Draws prog w A.in1 i1 f1 n1 P1 S1)(ap:oW z TI TO i1 i2 f1 f2)(hz:IsZip s.heap z TI TO .none)(hTI:IsPair s.heap TI (.ref i1) (.ref i2))(h1:S1 n1 s.heap)
  (hQ:∀h',(∀c o,c≠z->c≠i1->s.heap.get? c=some o->h'.get? c=some o)->Q none { s with heap:=h' }):wpAny (model prog w) A (pyNext (.ref z)) Q E s:=by
 have hT:s.TypeIs (.ref z) "zip":=⟨_,hz,rfl⟩
 unfold pyNext;refine wpAny_bind (wpAny_attempt (wpAny_callSpecial?_slot (name:=Str.ofString "__next__") hT ip (NA ip hT F.entry_zip_next (zm D1 ap hz hTI h1 λh' e hk he=>?_) (F.args_zip_next_1 _))));obtain⟨o,ho,hc⟩:=he;exact wpAny_bind (wpAny_isInstance (T:="StopIteration") (b:=true) ⟨o,ho,hc⟩ isSubtype_stop (Mq (hQ _ hk)))
end
abbrev zk (h:Heap) (l:Addr):Heap:=h.push { cls:=.type "tuple_iterator",data:=.fields #[.ref l,.int 0 0] }
abbrev Iu (h:Heap) (l1 l2:Addr):Heap:=(zk (zk h l1) l2).push { cls:=.type "tuple",data:=.seq #[.ref h.objs.size,.ref (zk h l1).objs.size] }
abbrev Ir (h:Heap) (l1 l2:Addr):Heap:=(Iu h l1 l2).push { cls:=.type "tuple",data:=.seq #[.none,.none] }
abbrev Gv (h:Heap) (l1 l2:Addr):Heap:=(Ir h l1 l2).push { cls:=.type "zip",data:=.fields #[.none,.bool false,.bool false,.ref (zk (zk h l1) l2).objs.size,.ref (Iu h l1 l2).objs.size] }
def Dp (l1 l2:Addr) (xs ys:Array Value):Meets (Builtin.«zip.__new__» ⟨[.type "zip",.ref l1,.ref l2],[]⟩) (λ_ R s=>s.heap.IsTuple l1 xs/\s.heap.IsTuple l2 ys/\R (.ok (.ret (.ref (Ir s.heap l1 l2).objs.size))) { s with heap:=Gv s.heap l1 l2 }):=.of_wp λprog w A R s h=>by
  obtain⟨hp,g,d,tk,os⟩:=s;obtain⟨hl1,hl2,h⟩:=h;have hsub:=sub_zip;have hL1:Heap.IsTuple (Shared.heap ⟨hp,g,d,tk,os⟩) l1 xs:=hl1;have hL2:Heap.IsTuple (Shared.heap ⟨hp.push { cls:=.type "tuple_iterator",data:=.fields #[.ref l1,.int 0 0] },g,d,tk,os⟩) l2 ys:=Heap.IsTuple.push hl2 _
  wp_walk using Mr hL1,Mr hL2;exact⟨_,rfl,h⟩
def Gd{prog:Program}{w:World}{A:Around}{E:Value->Shared->Prop}{s:Shared}{l1 l2:Addr}{xs ys:Array Value}{Q:Value->Shared->Prop}(hl1:s.heap.IsTuple l1 xs)(hl2:s.heap.IsTuple l2 ys)
  (h:∀h' n,n=s.heap.objs.size->IsZip h' (n+4) (n+2) (n+3) .none->IsPair h' (n+2) (.ref n) (.ref (n+1))->IsPair h' (n+3) .none .none->h'.IsTupleIter n l1 0->h'.IsTupleIter (n+1) l2 0->(∀c o,s.heap.get? c=some o->h'.get? c=some o)->Q (.ref (n+4)) { s with heap:=h' }):wpAny (model prog w) A (call (.type "zip") [.ref l1,.ref l2]) Q E s:=by
 refine callType_new F.called_zip (by decide) (F.typeCall_zip_2 _ _) (F.newCall_zip_2 _ _) (λobj=>F.args_object_init_3 obj _ _) F.entry_zip_new (Dp l1 l2 xs ys) ⟨hl1,hl2,?_⟩;have z1:(zk s.heap l1).objs.size=s.heap.objs.size+1:=dB ..;have z2:(zk (zk s.heap l1) l2).objs.size=s.heap.objs.size+2:=by rw[dB,z1]
 have z3:(Iu s.heap l1 l2).objs.size=s.heap.objs.size+3:=by rw[dB,z2]
 have z4:(Ir s.heap l1 l2).objs.size=s.heap.objs.size+4:=by rw[dB,z3]
 have g5:(Gv s.heap l1 l2).get? (Ir s.heap l1 l2).objs.size=some _:=aP _ rfl;have g4:(Gv s.heap l1 l2).get? (Iu s.heap l1 l2).objs.size=some _:=aB _ (aP _ rfl);have g3:(Gv s.heap l1 l2).get? (zk (zk s.heap l1) l2).objs.size=some _:=aB _ (aB _ (aP _ rfl));have g2:(Gv s.heap l1 l2).get? (zk s.heap l1).objs.size=some _:=aB _ (aB _ (aB _ (aP _ rfl)));have g1:(Gv s.heap l1 l2).get? s.heap.objs.size=some _:=aB _ (aB _ (aB _ (aB _ (aP _ rfl))));show _/\_;rw[z2,z3,z4] at g5;rw[z1,z2] at g3;rw[z3] at g4;rw[z1] at g2;rw[z4];exact⟨⟨_,g5,rfl⟩,h _ _ rfl g5 g3 g4 ⟨_,g1,rfl,rfl⟩ ⟨_,g2,rfl,rfl⟩ λc o x=>aB _ (aB _ (aB _ (aB _ (aB _ x))))⟩
def E3(K:NQ)(a b:Addr):It:=
  ⟨λi H=>∃xs ys x y,dm K H a xs/\dm K H b ys/\xs[i]? = some x/\ys[i]? = some y,
   λi H v H'=>∃p x y,H p=none/\(∀xs,dm K H a xs->xs[i]? = some x)/\(∀ys,dm K H b ys->ys[i]? = some y)/\v=.ref p/\H'=upd H p (.tup [x,y]),
   λi H=>∃xs,dm K H a xs/\xs.length=i⟩
def ye {P : Program} {w : World} {K : NQ} {elts : List Expr} {x1 : Nat} {pos : Pos} (n a b : Addr) (ha : a < n) (hb : b < n) :
    Turn P w K (.Tuple elts x1 pos) (E3 K a b) [n + 4, n + 2, n + 3, n, n + 1] (n + 4) (fun i h => IsZip h (n + 4) (n + 2) (n + 3) .none ∧ IsPair h (n + 2) (.ref n) (.ref (n + 1)) ∧ (∃ u v, IsPair h (n + 3) u v) ∧ h.IsTupleIter n a i ∧ h.IsTupleIter (n + 1) b i) := by
  have hap : oW (n + 4) (n + 2) (n + 3) n (n + 1) [n, a] [n + 1, b] := by
    have h1 : @LT.lt Nat _ a n := ha
    have h2 : @LT.lt Nat _ b n := hb
    constructor <;> first
      | (intro h; simp only [aI, b9, or_false] at h; rcases h with h | h <;> (have h' : @Eq Nat _ _ := h; lia))
      | (intro h; have h' : @Eq Nat _ _ := h; lia)
  exact {
    mem := by simp
    obj := fun i h st c hb => by
      obtain ⟨h1, h2, ⟨u, v, h3⟩, ⟨o4, e4, c4, d4⟩, ⟨o5, e5, c5, d5⟩⟩ := st
      simp only [aI, b9, or_false] at hb
      rcases hb with rfl | rfl | rfl | rfl | rfl
      · exact ⟨_, h1, fun v z => by cases z⟩
      · exact ⟨_, h2, fun v z => by cases z⟩
      · exact ⟨_, h3, fun v z => by cases z⟩
      · exact ⟨o4, e4, fun v z => by rw [d4] at z; cases z⟩
      · exact ⟨o5, e5, fun v z => by rw [d5] at z; cases z⟩
    keep := fun i h h' st k => by
      obtain ⟨h1, h2, ⟨u, v, h3⟩, h4, h5⟩ := st
      exact ⟨k _ (by simp) _ h1, k _ (by simp) _ h2, ⟨u, v, k _ (by simp) _ h3⟩, h4.at fun o e => k _ (by simp) o e, h5.at fun o e => k _ (by simp) o e⟩
    item := by
      intro X hP hw hK hc i pins s σ H E I hf st hg
      subst hP hw hK
      obtain ⟨h1, h2, ⟨u0, v0, h3⟩, h4, h5⟩ := st
      obtain ⟨xs, ys, x, y, hqa, hqb, hx, hy⟩ := hg
      obtain ⟨ia, ra, pa, _⟩ := I.tuple hqa
      obtain ⟨ib, rb, pb, _⟩ := I.tuple hqb
      obtain ⟨ua, hua, rua⟩ := ra.get hx
      obtain ⟨ub, hub, rub⟩ := rb.get hy
      have hA : X.A.in1.handled = none := I.ok.hd hc
      have la : i < ia.toArray.size := by rw [aU]; exact (aJ.mp hua).1
      have lb : i < ib.toArray.size := by rw [aU]; exact (aJ.mp hub).1
      refine qA (Draws.tup hA n a (aj ha) ia.toArray) (Draws.tup hA (n + 1) b (aj (fT hb)) ib.toArray) hap h1 h2 h3 ⟨h4, pa⟩ ⟨h5, pb⟩ la lb fun h' x' y' tk e1 e2 hz ho hi1 hi2 hp kp => ?_
      have e1' : x' = ua := by have : ia[i]? = some x' := by simpa using e1
                               rw [hua] at this; cases this; rfl
      have e2' : y' = ub := by have : ib[i]? = some y' := by simpa using e2
                               rw [hub] at this; cases this; rfl
      subst e1' e2'
      refine ⟨_, rfl, wpAny_letOwnedTupleGo_zip hz fun hh hz2 hs2 => ?_⟩
      have hn : H s.heap.objs.size = none := I.hok.fresh (aH _)
      have lz : s.heap.objs.size ≠ n + 4 := fi (aT h1)
      have ht2 : hh.get? s.heap.objs.size = some { cls := .type "tuple", data := .seq #[x', y'] } := (hs2.2 _ lz).trans hp
      refine ⟨.ref s.heap.objs.size, upd H s.heap.objs.size (.tup [x, y]), I.turnNew (fp := [n + 4, n + 2, n + 3, n, n + 1]) hf (fun c o hb q => ?_) (aH _) (show cn X.prog X.w _ hh _ (.tup _) from ⟨(by show 2 ≤ sizeLine; decide), [x', y'], .cons rua (.cons rub .nil), _, ht2, rfl, _, rfl⟩), rfl, ⟨_, x, y, hn, fun zs hz => by rw [I.tuple_inj hz hqa]; exact hx, fun zs hz => by rw [I.tuple_inj hz hqb]; exact hy, rfl, rfl⟩, ?_, fun c hb => ?_⟩
      · simp only [aI, b9, or_false, not_or] at hb
        exact (hs2.2 c hb.1).trans (kp c o hb.1 hb.2.2.1 hb.2.2.2.1 hb.2.2.2.2 q)
      · exact ⟨hz2, (hs2.2 _ hap.tz).trans (kp _ _ hap.tz hap.to hap.ta hap.tb h2), ⟨_, _, (hs2.2 _ hap.oz).trans ho⟩, hi1.1.at fun o e => (hs2.2 _ hap.az).trans e, hi2.1.at fun o e => (hs2.2 _ hap.bz).trans e⟩
      · have hb' := (hf c hb).1
        rw [aR (fun z => ?_)]
        · exact hb'
        · have hz4 : @LT.lt Nat _ (n + 4) s.heap.objs.size := aT h1
          have z' : @Eq Nat c s.heap.objs.size := z
          simp only [aI, b9, or_false] at hb
          rcases hb with h | h | h | h | h <;> (have h' : @Eq Nat _ _ := h; lia)
    done := by
      intro X hP hw hK hc i pins s σ H E I hf st hg
      subst hP hw hK
      obtain ⟨h1, h2, ⟨u0, v0, h3⟩, h4, h5⟩ := st
      obtain ⟨xs, hqa, hx⟩ := hg
      obtain ⟨ia, ra, pa, _⟩ := I.tuple hqa
      have la := ra.length
      have hA : X.A.in1.handled = none := I.ok.hd hc
      have ei : ia.toArray.size = i := by rw [aU]; lia
      refine rH (Draws.tup hA n a (aj ha) ia.toArray) hap h1 h2 ⟨by rw [ei]; exact h4, pa⟩ fun h' kp => ⟨rfl, I.turnAll (t' := s.toks) hf fun c o hb q => ?_⟩
      simp only [aI, b9, or_false, not_or] at hb
      exact kp c o hb.1 hb.2.2.2.1 q
    self := fun _ _ _ _ _ st h => NF st.1 h }
def Er(K:NQ)(ta:TA):TI:=λσ H R=>ta σ H λvs H1=>∃a b,vs=[.ref a,.ref b]/\(∃xs,dm K H1 a xs)/\(∃ys,dm K H1 b ys)/\R (E3 K a b) H1
def Ay {X:Cx} {a b:Expr} {ta:TA} {elts:List Expr} {x1:Nat} {p pos tpos:Pos} (hg:Gl X "zip") (hm:X.mg "zip"=none) (ha:QA X [a,b] ta) (hs:starEach [a,b] X.env=(false,eval a X.env)::starEach [b] X.env:=by rfl) (hpl:(backTo pos (starEach [b] X.env)).any (·.1)=false:=by rfl) :
  QI X (.Tuple elts x1 tpos) (.Call (.Name "zip" p) [a,b] [] pos) (Er X.K ta):=⟨by
 intro pins s σ H R I h;refine Call_ (jZ I hg hm boot_zip (bV (dZ (ha.h pos pins s σ H _ I h) λus s1 ⟨vs,H1,I1,r1,z1,z2,e,⟨xs,hx⟩,⟨ys,hy⟩,q⟩=>?_) hs hpl));subst e;obtain⟨u,u',rfl,r2,r3⟩:=vals2 r1;cases r2;cases r3;obtain⟨ia,ra,pa,_⟩:=I1.tuple hx;obtain⟨ib,rb,pb,_⟩:=I1.tuple hy;have ha':s1.heap.IsTuple z1 ia.toArray:=pa;have hb':s1.heap.IsTuple z2 ib.toArray:=pb;obtain⟨oa,hoa,_⟩:=id ha';obtain⟨ob,hob,_⟩:=id hb';refine Gd ha' hb' λh' n en hz hti hto hi1 hi2 kp=>?_;refine NF hz ?_;have I2:bc X pins σ H1 { s1 with heap:=h' }:=I1.kept (t':=s1.toks) kp;refine⟨_,_,_,_,H1,rfl,I2,ye n z1 z2 (by rw[en];exact aT hoa) (by rw[en];exact aT hob),⟨hz,hti,⟨_,_,hto⟩,hi1,hi2⟩,λb hb=>?_,q⟩;have hle:s1.heap.objs.size<=b:=by
  simp only[aI,b9,or_false] at hb;have en':@Eq Nat n s1.heap.objs.size:=en;show @LE.le Nat _ _ _;rcases hb with h | h | h | h | h<;>(have h':@Eq Nat _ _:=h;lia)
 exact I1.fpOk hle (I1.hok.fresh hle)⟩
def wb{K:NQ}{σ:St}{H:Hp}{D:Ends}{ta:TA}{g:TG}{tb:TS}:oF (Er K ta) g tb D σ H=ta σ H λvs H1=>∃a b,vs=[.ref a,.ref b]/\(∃xs,dm K H1 a xs)/\(∃ys,dm K H1 b ys)/\mT (E3 K a b) g tb D σ H1:=rfl
def CG{K:NQ}{σ:St}{H:Hp}{D:Ends}{a b:Addr}{xs ys:List V}{g:TG}{tb:TS}(hle:xs.length<=ys.length)(Pv:Nat->St->Hp->Prop)(h0:Pv 0 σ H)(hl:∀i σ H,Pv i σ H->dm K H a xs/\dm K H b ys)
  (hs:∀i x y σ H p,xs[i]? = some x->ys[i]? = some y->Pv i σ H->H p=none->g (.ref p) σ (upd H p (.tup [x,y])) λσ2 H2=>tb { D with nx:=Pv (i+1),ct:=Pv (i+1),bk:=D.nx } σ2 H2) (hd:∀σ H,Pv xs.length σ H->D.nx σ H):mT (E3 K a b) g tb D σ H:=by
 refine⟨λi m σ H=>m+i=xs.length/\Pv i σ H,⟨xs.length,rfl,h0⟩,?_⟩;rintro i m σ H ⟨hm,hp⟩;obtain⟨q1,q2⟩:=hl i σ H hp;by_cases hi:i<xs.length
 ·refine .inr ⟨⟨xs,ys,xs[i],ys[i],q1,q2,by simp[hi],by simp[a7 hi hle]⟩,Pv (i+1),λσ' H' h=>⟨m - 1,by lia,by lia,h⟩,?_⟩;rintro v H' ⟨p,x,y,hn,hx,hy,rfl,rfl⟩;exact hs i x y σ H p (hx xs q1) (hy ys q2) hp hn
 ·have e:i=xs.length:=by lia
  subst e;exact .inl ⟨⟨xs,q1,rfl⟩,hd σ H hp⟩
end L2
namespace Rm
open PySem L2
def As(lo:Int)(n:Nat):(f6 lo n).length=n:=by simp[f6]
def ft(d:PyData):Bool:=isI d&&!Jj d
def tN{K:NQ}{H:Hp}{x:V}{d:PyData}{Q:VK}{E:XK}(h:Dat H x d)(q:Q (.bl (ft d)) H):ox K [x] H Q E:=
 ⟨x,_,isI d,Jj d,rfl,h.ty,by cases h<;>rfl,by cases h<;>rfl,q⟩
def EI{H:Hp}{xs:List V}{d e:PyData}(h:gj H xs [d,e]):∃x y,xs=[x,y]/\Dat H x d/\Dat H y e:=by
 cases h with
 | cons h1 h2=>
  cases h2 with
  | cons h3 h4=>cases h4;exact⟨_,_,rfl,h1,h3⟩
def intOf:PyData->Int
 | .int n=>n
 | _=>0
def pI:∀{d:PyData},ft d=true->d=.int (intOf d)
 | .int n,_=>rfl
def oK:PyData->Bool
 | .tuple ds=>decide (ds.length<=20)&&(ds.all ft&&(ds.map intOf).isPerm (f6 1 ds.length))
 | _=>false
def mV:PyData->Bool
 | .str z=>decide (z=Str.ofString "l") || decide (z=Str.ofString "r")
 | _=>false
def ud:PyData->Bool
 | .tuple [a,b]=>mV a&&oK b
 | _=>false
def Bl{x:Int}{n:Nat}:x∈f6 1 n<->1<=x/\x<=n:=by
 unfold f6;rw[ba];constructor
 ·rintro⟨i,hi,rfl⟩;have:=gf.mp hi;lia
 ·rintro⟨h1,h2⟩;exact⟨(x - 1).toNat,gf.mpr (by lia),by lia⟩
def Au(n:Nat):(f6 1 n).Pairwise (·<=·):=by
 unfold f6;rw[ji,fo];intro i j hi hj hij;simp;lia
def v5(n:Nat):(f6 1 n).Nodup:=by
 unfold f6 List.Nodup;rw[ji];exact(List.nodup_range (n:=n)).imp λh e=>h (by lia)
def sC{ms ns:List Int}(hp:ms.Perm ns)(hs:ms.Pairwise (·<=·)):decide (ms=f6 1 ns.length)=ns.isPerm (f6 1 ns.length):=by
 by_cases h:ns.Perm (f6 1 ns.length)
 ·rw[lK.mpr h];exact NM (PySem.W.ksm_same (hp.trans h) hs (Au _))
 ·have h2:ns.isPerm (f6 1 ns.length)=false:=by
   cases e:ns.isPerm (f6 1 ns.length) with
   | false=>rfl
   | true=>exact absurd (lK.mp e) h
  rw[h2];exact NL λe=>h (e▸hp.symm)
def Br:(Str.ofString "l")=⟨#[108]⟩:=by decide +kernel
def Bq:(Str.ofString "r")=⟨#[114]⟩:=by decide +kernel
def Ah (d:PyData):([PyData.str (Str.ofString "l"),.str (Str.ofString "r")].any λe=>PyData.eqv e d)=mV d:=by
 cases d with
 | str z=>
  show (decide (Str.ofString "l"=z) || (decide (Str.ofString "r"=z) || false))=_;rw[jz];show _=(decide (z=Str.ofString "l") || decide (z=Str.ofString "r"))
  congr 1
  ·exact decide_eq_decide.mpr ⟨jG,jG⟩
  ·exact decide_eq_decide.mpr ⟨jG,jG⟩
 | _=>rfl
structure Pl (d:PyData) (n:Nat):Prop where
 lay:d.canLay0=true
 deep:d.depth<=n
def nP:Sp:=λvs H Q _=>∃x d,vs=[x]/\Dat H x d/\Pl d 60/\Q (.bl (mV d)) H
def qv:Sp:=λvs H Q _=>∃x d,vs=[x]/\Dat H x d/\∀H',aV H H'->Q (.bl (oK d)) H'
def tq:Sp:=λvs H Q _=>∃x d,vs=[x]/\Dat H x d/\Pl d 60/\∀H',aV H H'->Q (.bl (ud d)) H'
mutual
def J1:PyData->Bool
 | .list _=>false
 | .tuple ds=>Dk ds
 | .dict _=>false
 | _=>true
def Dk:List PyData->Bool
 | []=>true
 | d::ds=>J1 d&&Dk ds
end
mutual
def EH{H:Hp}{l:Addr}{ys:List V}{o:HO}(hl:H l=some (.lst ys)):∀{x:V} {d:PyData},Dat H x d->J1 d=true->Dat (upd H l o) x d
 | _,_,.non,_=>.non
 | _,_,.bl b,_=>.bl b
 | _,_,.int i,_=>.int i
 | _,_,.str x,_=>.str x
 | _,_,.tup h r,n=>.tup (by rw[aR (Bf h hl (by intro q;cases q))];exact h) (uo hl r n)
 | _,_,.lst h r,n=>nomatch n
def uo{H:Hp}{l:Addr}{ys:List V}{o:HO}(hl:H l=some (.lst ys)):∀{xs:List V} {ds:List PyData},gj H xs ds->Dk ds=true->gj (upd H l o) xs ds
 | _,_,.nil,_=>.nil
 | _,_,.cons h r,n=>by
  have n':(J1 _&&Dk _)=true:=n;rw[dI] at n';exact .cons (EH hl h n'.1) (uo hl r n'.2)
end
def uj{H:Hp}:∀ns:List Int,gj H (ns.map V.int) (ns.map PyData.int)
 | []=>.nil
 | n::ns=>.cons (.int n) (uj ns)
end Rm
namespace L2
open PySem PySem.Spec PyProof.Rows
section
variable {σ:St} {H:Hp}
def FL{trs:List (TE×TE)}{Q:VK}:A6 trs σ H Q=∀p,H p=none->m6 trs σ (upd H p (.dK [])) λps H2=>H2 p=some (.dK [])/\∃kvs:List (Key×V),ps=kvs.map (λkv=>(kV kv.1,kv.2))/\kvs.length<=15/\Q (.ref p) (upd H2 p (.dK (mn [] kvs))):=rfl
def HL{Q:List (V×V)->Hp->Prop}:m6 [] σ H Q=Q [] H:=rfl
def HK{tk tv:TE}{r:List (TE×TE)}{Q:List (V×V)->Hp->Prop}:m6 ((tk,tv)::r) σ H Q=tk σ H λx H1=>tv σ H1 λy H2=>m6 r σ H2 λps H3=>Q ((x,y)::ps) H3:=rfl
def HJ{r:V->Option Int->Option Int->Hp->VK->Prop}{te:TE}{tl th:TO}{Q:VK}:JQ r te tl th σ H Q=te σ H λx H1=>tl σ H1 λl H2=>th σ H2 λu H3=>r x l u H3 Q:=rfl
def zw{t:TE}{Q:Option Int->Hp->Prop}:AX t σ H Q=t σ H λx H1=>∃i,x=.int i/\Q (some i) H1:=rfl
def tO{Q:Option Int->Hp->Prop}:rf σ H Q=Q none H:=rfl
end
end L2
namespace Rm
open PySem L2
def sd (b:Bool):Str:=if b then Str.ofString "r" else Str.ofString "l"
def Ho (b:Bool):(sd b=Str.ofString "l")=(b=false):=by cases b<;>simp[sd,Br,Bq]
def F6 (b:Bool):(sd b=Str.ofString "r")=(b=true):=by cases b<;>simp[sd,Br,Bq]
def GT:(Str.ofString "lr")=⟨#[108,114]⟩:=by decide +kernel
def IU {i:Int} (h0:0<=i) (h1:i<2):oj (Str.ofString "lr").cps.toList i=some (if i=1 then 114 else 108):=by
 have e:i=0\/i=1:=by lia
 rw[GT];rcases e with rfl | rfl<;>rfl
def IT(i:Int):(⟨#[if i=1 then 114 else 108]⟩:Str)=sd (decide (i=1)):=by
 by_cases h:i=1
 ·simp[h,sd,Bq]
 ·simp[h,sd,Br]
def odd(i:Nat):Bool:=i % 2==1
def kH(i:Nat):odd (i+1)=!odd i:=by
 unfold odd;rcases cz i with h | h<;>simp[Nat.add_mod,h]
def eB(ns:List Int):List Int:=0::(ns++[(ns.length:Int)+1])
def iH(ns:List Int):(eB ns).length=ns.length+2:=by simp[eB]
def bf(ns:List Int)(i:Nat):Int:=(eB ns).getD i 0
def jc(ns:List Int)(i:Nat):Bw:=(min (bf ns i) (bf ns (i+1)),max (bf ns i) (bf ns (i+1)))
def dR(b s:Bool)(i:Nat):Bool:=(b ^^ odd i)==s
def bZ(b:Bool)(ns:List Int)(s:Bool)(m:Nat):List Bw:=((List.range m).filter (dR b s)).map (jc ns)
def nR{b:Bool}{ns:List Int}{s:Bool}{i:Nat}(h:dR b s i=true):bZ b ns s (i+1)=bZ b ns s i++[jc ns i]:=by
 unfold bZ;rw[gD,j3,aO];simp[h]
def o0{b:Bool}{ns:List Int}{s:Bool}{i:Nat}(h:dR b s i=false):bZ b ns s (i+1)=bZ b ns s i:=by
 unfold bZ;rw[gD,j3,aO];simp[h]
def uT(b:Bool)(i:Nat):dR b (b ^^ odd i) i=true:=by simp[dR]
def gZ(b:Bool)(ns:List Int)(s:Bool)(m:Nat):(bZ b ns s m).length<=m:=by
 unfold bZ;rw[aE];exact bJ (List.length_filter_le _ _) (by rw[jm];exact aH _)
structure oX (ns:List Int):Prop where
 len:ns.length<=20
 perm:ns.Perm (f6 1 ns.length)
def oX.mem{ns:List Int}(O:oX ns){x:Int}:x∈ns<->1<=x/\x<=ns.length:=O.perm.mem_iff.trans Bl
def oX.rows_nodup{ns:List Int}(O:oX ns):(eB ns).Nodup:=by
 have nd:ns.Nodup:=O.perm.nodup_iff.mpr (v5 _);unfold eB;rw[ci,jj];refine⟨λh=>?_,nd,by simp,λa ha b hb e=>?_⟩
 ·rcases aQ.mp h with z | z
  ·have:=O.mem.mp z;lia
  ·have:(0:Int)=ns.length+1:=by simpa using z
   lia
 ·have:b=(ns.length:Int)+1:=by simpa using hb
  have:=O.mem.mp ha;lia
def oX.rows_mem{ns:List Int}(O:oX ns){x:Int}(h:x∈eB ns):0<=x/\x<=(ns.length:Int)+1:=by
 unfold eB at h;rcases aI.mp h with z | z
 ·lia
 ·rcases aQ.mp z with z | z
  ·have:=O.mem.mp z;lia
  ·have:x=(ns.length:Int)+1:=by simpa using z
   lia
def i5{ns:List Int}{i:Nat}(h:i<ns.length+2):(eB ns)[i]? = some (bf ns i):=by
 unfold bf;have:i<(eB ns).length:=by rw[iH];exact h
 simp[List.getD,this]
def oX.row_inj{ns:List Int}(O:oX ns){i j:Nat}(hi:i<ns.length+2)(hj:j<ns.length+2)(h:bf ns i=bf ns j):i=j:=by
 have h1:=aJ.mp (i5 hi);have h2:=aJ.mp (i5 hj);exact(List.getElem_inj O.rows_nodup (h₀:=h1.1) (h₁:=h2.1)).mp (h1.2.trans (h.trans h2.2.symm))
def oX.row_in{ns:List Int}(O:oX ns){i:Nat}(hi:i<ns.length+2):0<=bf ns i/\bf ns i<=(ns.length:Int)+1:=O.rows_mem (bB (i5 hi))
def F9(ns:List Int):bf ns 0=0:=rfl
def rC(ns:List Int):bf ns (ns.length+1)=(ns.length:Int)+1:=by simp[bf,eB,List.getD]
def Ar{ns:List Int}{i:Nat}{x:Int}(h:(ns++[(ns.length:Int)+1])[i]? = some x):bf ns (i+1)=x:=by simp only[bf,eB,List.getD,gV,h];rfl
def rB{ns:List Int}{i:Nat}{x:Int}(h:ns[i]? = some x):bf ns (i+1)=x:=Ar (by rw[bP (aJ.mp h).1];exact h)
def oX.step_lt{ns:List Int}(O:oX ns){i:Nat}(hi:i<=ns.length):(jc ns i).1<(jc ns i).2:=by
 have:bf ns i≠bf ns (i+1):=λe=>by
  have:=O.row_inj (by lia) (by lia) e;lia
 show min (bf ns i) (bf ns (i+1))<max (bf ns i) (bf ns (i+1));lia
def oX.step_in{ns:List Int}(O:oX ns){i:Nat}(hi:i<=ns.length):0<=(jc ns i).1/\(jc ns i).2<=(ns.length:Int)+1:=by
 have h1:=O.row_in (i:=i) (by lia);have h2:=O.row_in (i:=i+1) (by lia);show 0<=min (bf ns i) (bf ns (i+1))/\max (bf ns i) (bf ns (i+1))<=_;lia
def l3{b:Bool}{ns:List Int}{s:Bool}{m:Nat}{p:Bw}(h:p∈bZ b ns s m):∃i,i<m/\dR b s i=true/\p=jc ns i:=by
 unfold bZ at h;obtain⟨i,hi,rfl⟩:=ba.mp h;obtain⟨h1,h2⟩:=ii.mp hi;exact⟨i,gf.mp h1,h2,rfl⟩
def pX{b:Bool}{ns:List Int}{s:Bool}{m i:Nat}(h:i<m)(hs:dR b s i=true):jc ns i∈bZ b ns s m:=
 ba.mpr ⟨i,ii.mpr ⟨gf.mpr h,hs⟩,rfl⟩
def EC(x:Int)(p:Bw):Bool:=decide (x=p.1) || decide (x=p.2)
def oX.has_iff{ns:List Int}(O:oX ns){i j:Nat}(hi:i<ns.length+2)(hj:j<=ns.length):EC (bf ns i) (jc ns j)=decide (j=i\/j+1=i):=by
 have e:EC (bf ns i) (jc ns j)=decide (bf ns i=bf ns j\/bf ns i=bf ns (j+1)):=by
  show (decide (bf ns i=min (bf ns j) (bf ns (j+1))) || decide (bf ns i=max (bf ns j) (bf ns (j+1))))=_;rw[<-Bool.decide_or];exact decide_eq_decide.mpr (by lia)
 rw[e];refine decide_eq_decide.mpr ⟨λh=>?_,λh=>?_⟩
 ·rcases h with h | h
  ·exact .inl (O.row_inj hi (by lia) h).symm
  ·exact .inr (O.row_inj hi (by lia) h).symm
 ·rcases h with rfl | rfl
  ·exact .inl rfl
  ·exact .inr rfl
def B3{b s:Bool}{j k:Nat}(h1:dR b s j=true)(h2:dR b s k=true)(h:j=k+1):False:=by
 subst h;simp only[dR,kH,beq_iff_eq] at h1 h2;cases b<;>cases s<;>cases hk:odd k<;>simp[hk] at h1 h2
structure qU (b:Bool) (ns:List Int) (s:Bool) (L:List Bw):Prop where
 perm:L.Perm (bZ b ns s (ns.length+1))
 asc:L.Pairwise leB
def qU.len{b:Bool}{ns:List Int}{s:Bool}{L:List Bw}(h:qU b ns s L)(O:oX ns):L.length<=21:=by
 have h1:=h.perm.length_eq;have h2:=gZ b ns s (ns.length+1);have:=O.len;lia
def vK{x y:Int}{ms:List Int}(h:ms.Perm [x,y])(hs:ms.Pairwise (·<=·)):ms=[min x y,max x y]:=by
 have:(if x<=y then [x,y] else [y,x]).Perm [x,y]:=by
  by_cases e:x<=y
  ·rw[NJ e]
  ·rw[NI e];exact List.Perm.swap x y []
 have e2:[min x y,max x y]=(if x<=y then [x,y] else [y,x]):=by
  by_cases e:x<=y
  ·rw[NJ e];simp[Int.min_def,Int.max_def,e]
  ·rw[NI e];have:y<=x:=by lia
   simp[Int.min_def,Int.max_def,e]
 rw[e2];refine List.Perm.eq_of_pairwise (le:=(·<=·)) (λa b _ _ h h'=>by lia) hs ?_ (h.trans this.symm);by_cases e:x<=y
 ·rw[NJ e];simp[e]
 ·rw[NI e];simp;lia
def EK{ns:List Int}{i:Nat}(h:i<=ns.length):nj ((eB ns).map V.int) (some (0+(i:Int))) (some (0+(i:Int)+2))=[bf ns i,bf ns (i+1)].map V.int:=by
 have e1:HT.sIx ((eB ns).map V.int).length 0 (some (0+(i:Int)))=i:=by
  show (if (0+(i:Int))<0 then (0+(i:Int)+(((eB ns).map V.int).length:Int)).toNat else min (0+(i:Int)).toNat ((eB ns).map V.int).length)=i;rw[NI (by lia),aE,iH];lia
 have e2:HT.sIx ((eB ns).map V.int).length ((eB ns).map V.int).length (some (0+(i:Int)+2))=i+2:=by
  show (if (0+(i:Int)+2)<0 then (0+(i:Int)+2+(((eB ns).map V.int).length:Int)).toNat else min (0+(i:Int)+2).toNat ((eB ns).map V.int).length)=i+2;rw[NI (by lia),aE,iH];lia
 unfold nj;rw[e1,e2,show i+2-i=2 by lia,<-List.map_drop,<-List.map_take];congr 1;have h1:=aJ.mp (i5 (ns:=ns) (i:=i) (by lia));have h2:=aJ.mp (i5 (ns:=ns) (i:=i+1) (by lia));rw[ah h1.1,ah h2.1,h1.2,h2.2];rfl
def du(H:Hp)(m o:Addr)(b:Bool)(ns:List Int):Prop:=H m=some (.tup [.str (sd b),.ref o])/\H o=some (.tup (ns.map V.int))
def du.same{H H':Hp}{m o:Addr}{b:Bool}{ns:List Int}(h:du H m o b ns)(s:aV H H'):du H' m o b ns:=⟨s _ _ h.1,s _ _ h.2⟩
def rm:Sp:=λvs H Q _=>∃b,vs=[.str (sd b)]/\Q (.str (sd !b)) H
def tZ:Sp:=λvs H Q _=>∃m o b ns,∃k:Nat,vs=[.ref m,.int k]/\du H m o b ns/\Q (.str (sd (b ^^ odd k))) H
def Ae:Sp:=λvs H Q _=>∃m o b ns,vs=[.ref m]/\du H m o b ns/\ns.length<=40/\∀l H',H l=none->aV H H'->H' l=some (.lst ((eB ns).map V.int))->Q (.ref l) H'
structure Gu (H:Hp) (t l r:Addr) (b:Bool) (ns:List Int) (L R:List Bw):Prop where
 tup:H t=some (.tup [.ref l,.ref r])
 left:gK H l L
 right:gK H r R
 isL:qU b ns false L
 isR:qU b ns true R
 ne:l≠r
def pV:Sp:=λvs H Q _=>∃m o b ns,vs=[.ref m]/\du H m o b ns/\oX ns/\∀t l r L R H',H t=none->H l=none->H r=none->aV H H'->Gu H' t l r b ns L R->Q (.ref t) H'
def rP{H:Hp}{l t:Addr}{as:List Addr}{ps:List Bw}{p:Bw}(h1:H l=some (.lst (as.map V.ref)))(h2:Paired (gL H) as ps)(ht:gL H t p):gK (upd H l (.lst (as.map V.ref++[.ref t]))) l (ps++[p]):=by
 have st:∀{a:Addr} {p:Bw},gL H a p->gL (upd H l (.lst (as.map V.ref++[.ref t]))) a p:=fun {a p} h=>by
  have:a≠l:=λe=>by subst e;unfold gL at h;rw[h1] at h;cases h
  unfold gL;rw[aR this];exact h
 refine⟨as++[t],by rw[aG,aO];rfl,?_⟩;clear h1;generalize upd H l (.lst (as.map V.ref++[.ref t]))=H' at st ⊢
 induction h2 with
 | nil=>exact .cons (st ht) .nil
 | cons a b ih=>exact .cons (st a) ih
end Rm
namespace L2
open PySem PySem.Spec PyProof.Rows
def Hw:V->Option Int->Option Int->Hp->VK->Prop:=λx lo hi H Q=>∃z,x=.str z/\z.length<=sizeLine/\Q (.str (Txt.slice z lo hi)) H
section
variable {X:Cx}
def sF:JI X Hw:=by
 intro pins s σ H x v vl vu lo hi sl Q I rx hs pl pu h;obtain⟨z,rfl,hz,q⟩:=h;obtain⟨t,rfl⟩:=rx;have fin:∀t' k,EP X pins σ Q (.str (Txt.slice z lo hi) t') { s with toks:=k }:=λt' k=>⟨.str _,H,I.tok k,⟨t',rfl⟩,q⟩
 refine⟨"str",_,F.slot_str_getitem.lookup,Mv _ _ _,?_⟩;cases pl with
 | none=>
  cases pu with
  | none=>exact wpAny_getItem_str_slice (l:=none) (u:=none) (st:=none) hs rfl (NG ⟨bJ (ko z _ _) hz,fin⟩)
  | int j u=>exact wpAny_getItem_str_slice (l:=none) (u:=some (j,u)) (st:=none) hs rfl (NG ⟨bJ (ko z _ _) hz,fin⟩)
 | int i w=>
  cases pu with
  | none=>exact wpAny_getItem_str_slice (l:=some (i,w)) (u:=none) (st:=none) hs rfl (NG ⟨bJ (ko z _ _) hz,fin⟩)
  | int j u=>exact wpAny_getItem_str_slice (l:=some (i,w)) (u:=some (j,u)) (st:=none) hs rfl (NG ⟨bJ (ko z _ _) hz,fin⟩)
def HI{z:Str}{lo hi:Option Int}{H:Hp}{Q:VK}:Hw (.str z) lo hi H Q=(z.length<=sizeLine/\Q (.str (Txt.slice z lo hi)) H):=
 propext ⟨λ⟨_,e,h⟩=>by cases e;exact h,λh=>⟨z,rfl,h⟩⟩
end
end L2
namespace Rm
open PySem L2
def wo(H:Hp)(m:Addr):Hp:=λb=>if b=m then none else H b
def wW(H:Hp)(m:Addr):aV (wo H m) H:=λb o e=>by
 unfold wo at e;by_cases h:b=m
 ·rw[NJ h] at e;cases e
 ·rw[NI h] at e;exact e
def Cf(H:Hp)(m:Addr)(o:HO):wo (upd H m o) m=wo H m:=by
 funext b;unfold wo;by_cases h:b=m
 ·rw[NJ h,NJ h]
 ·rw[NI h,NI h,aR h]
def vH{H:Hp}{m t:Addr}{o:HO}(h:H t=none):aV (wo H m) (wo (upd H t o) m):=λb u e=>by
 have e':=wW H m b u e;unfold wo at e ⊢;by_cases hb:b=m
 ·rw[NJ hb] at e;cases e
 ·rw[NI hb,aR (ak e' h)];exact e'
def E6{H:Hp}{m t:Addr}{u:HO}(h:t≠m)(e:H t=some u):wo H m t=some u:=by unfold wo;rw[NI h];exact e
end Rm
namespace L2
open PySem PySem.Spec PyProof.Rows PySem.Builtin PySem.Builtin.Str
def yj{prog:Program}{w:World}{A:Around}{E:Value->Shared->Prop}{s:Shared}{x y:Str}{t u:Tok}{Q:Value->Shared->Prop}(hy:(y.length==0)=false)(hsz:x.length+2<=sizeLine)
  (hq:∀(l:List (Str×Tok)) (k:Nat),l.map (·.1)=Txt.split x y->Q (.ref s.heap.objs.size) { s with heap:=s.heap.push { cls:=.type "list",data:=.seq (strValues l).toArray },toks:=k }) :
  wpAny (model prog w) A (call (.builtin "str.split") [.str x t,.str y u]) Q E s:=by
 have hle:=split_le x y;cases h1:(decide (x.length<y.length) || decide (strKind x<strKind y))
 ·cases hf:(occurrences x y 0 x.length (x.length+1)).isEmpty
  ·have es:Txt.split x y=partsBetween x (occurrences x y 0 x.length (x.length+1)) y.length:=(NI (ne_true_of_eq_false h1)).trans (NI (ne_true_of_eq_false hf));rw[es] at hle;refine Mw k5 (Mv _ _ _) jo (j6 _ _) (meets_str_split_sep x y t u h1 hy hf (bJ (Nat.le_add_right _ _) hsz) (bJ hle hsz)) ?_;show wants Q E _ { s with toks:=_,heap:=s.heap.push { cls:=.type "list",data:=.seq (strsFrom s.toks (partsBetween x (occurrences x y 0 x.length (x.length+1)) y.length)).toArray } };rw[strsFrom_eq];exact hq (numbered s.toks _) _ ((numbered_texts _ _).trans es.symm)
  ·exact Mw k5 (Mv _ _ _) jo (j6 _ _) (meets_str_split_not_found x y t u h1 hy hf)
    (hq [(x,t)] s.toks ((NI (ne_true_of_eq_false h1)).trans (NJ hf)).symm)
 ·exact Mw k5 (Mv _ _ _) jo (j6 _ _) (meets_str_split_cannot_occur x y t u h1)
   (hq [(x,t)] s.toks (NJ h1).symm)
def nN:∀(l:List (Str×Tok)),cJ ((l.map (·.1)).map V.str) (strValues l)
 | []=>.nil
 | (a,t)::l=>.cons ⟨t,rfl⟩ (nN l)
section
variable {X:Cx}
def Fa:V->List V->Hp->VK->Prop:=λx vs H Q=>∃z y,x=.str z/\vs=[.str y]/\(y.length==0)=false/\z.length<=100000/\∀l,H l=none->Q (.ref l) (upd H l (.lst ((Txt.split z y).map V.str)))
def Bi:HD X "str.split" Fa:=by
 intro pins s σ H x xs v us Q I r rv h;obtain⟨z,y,rfl,rfl,hy,hz,q⟩:=h;obtain⟨t,rfl⟩:=r;obtain⟨u,rfl,t2,rfl⟩:=Mt rv;have hz2:z.length+2<=sizeLine:=by rw[Ms];lia
 refine yj hy hz2 λl k e=>?_;have hl:((Txt.split z y).map V.str).length<=sizeLine:=by rw[aE];exact bJ (split_le z y) hz2
 have hv:cJ ((Txt.split z y).map V.str) (strValues l):=e▸nN l;exact⟨.ref s.heap.objs.size,_,I.laid (λb o e=>aB _ e) (aH _) (show cn X.prog X.w _ _ _ (.lst _) from ⟨hl,strValues l,_,hv,aP _ rfl⟩),rfl,q _ (I.hok.fresh (aH _))⟩
def qk (hc:X.calm=true):fq X (.type "list") (λxs H Q=>∃z,xs=[.str z]/\z.cps.size<=1000/\∀l,H l=none->Q (.ref l) (upd H l (.lst (z.cps.toList.map λc=>V.str ⟨#[c]⟩)))):=by
 intro pins s σ H xs us Q I r h;obtain⟨z,rfl,hz,q⟩:=h;obtain⟨u,rfl,t,rfl⟩:=Mt r;have hz2:z.cps.size<=sizeLine:=bx (be hz);refine call_list_str (I.ok.hd hc) z t (λh' tk acc' c' kp e' hit=>?_) hz2;have hv:cJ (z.cps.toList.map λc=>V.str ⟨#[c]⟩) acc'.toList:=by
  refine wt (by simp[hit.1]) λi x u h1 h2=>?_;obtain⟨c,t',hc',rfl⟩:=hit.2 i u (by simpa using h2);have:x=V.str ⟨#[c]⟩:=by
   rw[a9] at h1;have:z.cps.toList[i]? = some c:=by simpa using hc'
   rw[this] at h1;exact(bH h1).symm
  subst this;exact⟨t',rfl⟩
 have hl:(z.cps.toList.map λc=>V.str ⟨#[c]⟩).length<=sizeLine:=by simpa using hz2
 exact⟨.ref s.heap.objs.size,_,I.laid kp (aH _) (show cn X.prog X.w _ h' _ (.lst _) from ⟨hl,acc'.toList,c',hv,by simpa using e'⟩),rfl,q _ (I.hok.fresh (aH _))⟩
def Hz(K:NQ):List V->Hp->VK->Prop:=λxs H Q=>∃(p:Addr) (ns:List Int),xs=[.ref p]/\cF K H p (ns.map V.int)/\0<ns.length/\∀M,M∈ns->(∀a∈ns,a<=M)->Q (.int M) H
def wN (hc:X.calm=true):fq X (.builtin "max") (Hz X.K):=by
 intro pins s σ H xs us Q I r h;obtain⟨p,ns,rfl,hq,hn,q⟩:=h;obtain⟨u,rfl,rx⟩:=Mt r;cases rx;obtain⟨its,rv,pl,hz⟩:=I.list hq;have hi:=kJ rv;have hl:=pl.isList;obtain⟨xs,e⟩:=hi.allInts.items;have hns:ns=xs.toList.map (·.1):=by rw[<-hi.numsOf,<-nums_intItems,<-e]
 have hsz:0<xs.size:=by
  have h3:=hn;rw[hns,aE,dC] at h3;exact h3
 rw[e] at hl;refine max_intList (I.ok.hd hc) hl hsz λv h' tk hv hk=>?_;obtain⟨t,rfl⟩:=intItems_at hv;obtain⟨h1,h2⟩:=argBest_gt (numAt xs) (xs.size - 1);refine⟨.int _,H,I.kept hk,⟨t,rfl⟩,q _ ?_ λa ha=>?_⟩
 ·rw[hns,numAt_eq];exact getD_mem (by rw[aE,dC];lia)
 ·rw[hns] at ha;obtain⟨j,hj,rfl⟩:=mem_getD ha;rw[aE,dC] at hj;rw[<-numAt_eq];exact h2 j (by lia)
end
abbrev Iz (h:Heap) (l:Addr):Heap:=h.push { cls:=.type "list_iterator",data:=.fields #[.ref l,.int 0 0] }
abbrev Iy (h:Heap) (l:Addr) (z:Str) (t:Tok):Heap:=(Iz h l).push { cls:=.type "str_ascii_iterator",data:=.fields #[.str z t,.int 0 0] }
abbrev Iw (h:Heap) (l:Addr) (z:Str) (t:Tok):Heap:=(Iy h l z t).push { cls:=.type "tuple",data:=.seq #[.ref h.objs.size,.ref (Iz h l).objs.size] }
abbrev Iv (h:Heap) (l:Addr) (z:Str) (t:Tok):Heap:=(Iw h l z t).push { cls:=.type "tuple",data:=.seq #[.none,.none] }
abbrev Gw (h:Heap) (l:Addr) (z:Str) (t:Tok):Heap:=(Iv h l z t).push { cls:=.type "zip",data:=.fields #[.none,.bool false,.bool false,.ref (Iy h l z t).objs.size,.ref (Iw h l z t).objs.size] }
def Dq (l1:Addr) (xs:Array Value) (z:Str) (t:Tok) (ha:z.cps.all (·<128)=true):Meets (Builtin.«zip.__new__» ⟨[.type "zip",.ref l1,.str z t],[]⟩) (λ_ R s=>s.heap.IsList l1 xs/\R (.ok (.ret (.ref (Iv s.heap l1 z t).objs.size))) { s with heap:=Gw s.heap l1 z t }):=.of_wp λprog w A R s h=>by
  obtain⟨hp,g,d,tk,os⟩:=s;obtain⟨hl1,h⟩:=h;have hsub:=sub_zip;have hL1:Heap.IsList (Shared.heap ⟨hp,g,d,tk,os⟩) l1 xs:=hl1
  wp_walk using wpAny_pyIter_list hL1,wpAny_pyIter_ascii ha;exact⟨_,rfl,h⟩
def Ge{prog:Program}{w:World}{A:Around}{E:Value->Shared->Prop}{s:Shared}{l1:Addr}{xs:Array Value}{z:Str}{t:Tok}{Q:Value->Shared->Prop}(ha:z.cps.all (·<128)=true)(hl1:s.heap.IsList l1 xs)
  (h:∀h' n,n=s.heap.objs.size->IsZip h' (n+4) (n+2) (n+3) .none->IsPair h' (n+2) (.ref n) (.ref (n+1))->IsPair h' (n+3) .none .none->h'.IsListIter n l1 0->h'.IsStrIter (n+1) "str_ascii_iterator" z t 0->(∀c o,s.heap.get? c=some o->h'.get? c=some o)->Q (.ref (n+4)) { s with heap:=h' }):wpAny (model prog w) A (call (.type "zip") [.ref l1,.str z t]) Q E s:=by
 refine callType_new F.called_zip (by decide) (F.typeCall_zip_2 _ _) (F.newCall_zip_2 _ _) (λobj=>F.args_object_init_3 obj _ _) F.entry_zip_new (Dq l1 xs z t ha) ⟨hl1,?_⟩;have z1:(Iz s.heap l1).objs.size=s.heap.objs.size+1:=dB ..;have z2:(Iy s.heap l1 z t).objs.size=s.heap.objs.size+2:=by rw[dB,z1]
 have z3:(Iw s.heap l1 z t).objs.size=s.heap.objs.size+3:=by rw[dB,z2]
 have z4:(Iv s.heap l1 z t).objs.size=s.heap.objs.size+4:=by rw[dB,z3]
 have g5:(Gw s.heap l1 z t).get? (Iv s.heap l1 z t).objs.size=some _:=aP _ rfl;have g4:(Gw s.heap l1 z t).get? (Iw s.heap l1 z t).objs.size=some _:=aB _ (aP _ rfl);have g3:(Gw s.heap l1 z t).get? (Iy s.heap l1 z t).objs.size=some _:=aB _ (aB _ (aP _ rfl));have g2:(Gw s.heap l1 z t).get? (Iz s.heap l1).objs.size=some _:=aB _ (aB _ (aB _ (aP _ rfl)));have g1:(Gw s.heap l1 z t).get? s.heap.objs.size=some _:=aB _ (aB _ (aB _ (aB _ (aP _ rfl))));show _/\_;rw[z2,z3,z4] at g5;rw[z1,z2] at g3;rw[z3] at g4;rw[z1] at g2;rw[z4];exact⟨⟨_,g5,rfl⟩,h _ _ rfl g5 g3 g4 ⟨_,g1,rfl,rfl⟩ ⟨_,g2,rfl,rfl⟩ λc o x=>aB _ (aB _ (aB _ (aB _ (aB _ x))))⟩
def E4(K:NQ)(a:Addr)(z:Str):It:=
  ⟨λi H=>∃xs x,cF K H a xs/\xs[i]? = some x/\i<z.cps.size,
   λi H v H'=>∃p x c,H p=none/\(∀xs,cF K H a xs->xs[i]? = some x)/\z.cps[i]? = some c/\v=.ref p/\H'=upd H p (.tup [x,.str ⟨#[c]⟩]),
   λi H=>∃xs,cF K H a xs/\xs.length=i⟩
def yf {P : Program} {w : World} {K : NQ} {elts : List Expr} {x1 : Nat} {pos : Pos} (n a : Addr) (ha : a < n) (z : Str) (t : Tok) :
    Turn P w K (.Tuple elts x1 pos) (E4 K a z) [n + 4, n + 2, n + 3, n, n + 1] (n + 4) (fun i h => IsZip h (n + 4) (n + 2) (n + 3) .none ∧ IsPair h (n + 2) (.ref n) (.ref (n + 1)) ∧ (∃ u v, IsPair h (n + 3) u v) ∧ h.IsListIter n a i ∧ h.IsStrIter (n + 1) "str_ascii_iterator" z t i) := by
  have hap : oW (n + 4) (n + 2) (n + 3) n (n + 1) [n, a] [n + 1] := by
    have h1 : @LT.lt Nat _ a n := ha
    constructor <;> first
      | (intro h; simp only [aI, b9, or_false] at h; rcases h with h | h <;> (have h' : @Eq Nat _ _ := h; lia))
      | (intro h; simp only [bN] at h; have h' : @Eq Nat _ _ := h; lia)
      | (intro h; have h' : @Eq Nat _ _ := h; lia)
  exact {
    mem := by simp
    obj := fun i h st c hb => by
      obtain ⟨h1, h2, ⟨u, v, h3⟩, ⟨o4, e4, c4, d4⟩, ⟨o5, e5, c5, d5⟩⟩ := st
      simp only [aI, b9, or_false] at hb
      rcases hb with rfl | rfl | rfl | rfl | rfl
      · exact ⟨_, h1, fun v z => by cases z⟩
      · exact ⟨_, h2, fun v z => by cases z⟩
      · exact ⟨_, h3, fun v z => by cases z⟩
      · exact ⟨o4, e4, fun v z => by rw [d4] at z; cases z⟩
      · exact ⟨o5, e5, fun v z => by rw [d5] at z; cases z⟩
    keep := fun i h h' st k => by
      obtain ⟨h1, h2, ⟨u, v, h3⟩, h4, ⟨o5, e5, r5⟩⟩ := st
      exact ⟨k _ (by simp) _ h1, k _ (by simp) _ h2, ⟨u, v, k _ (by simp) _ h3⟩, h4.at fun o e => k _ (by simp) o e, ⟨o5, k _ (by simp) o5 e5, r5⟩⟩
    item := by
      intro X hP hw hK hc i pins s σ H E I hf st hg
      subst hP hw hK
      obtain ⟨h1, h2, ⟨u0, v0, h3⟩, h4, h5⟩ := st
      obtain ⟨xs, x, hqa, hx, hi⟩ := hg
      obtain ⟨ia, ra, pa, _⟩ := I.list hqa
      obtain ⟨ua, hua, rua⟩ := ra.get hx
      have hA : X.A.in1.handled = none := I.ok.hd hc
      have la : i < ia.toArray.size := by rw [aU]; exact (aJ.mp hua).1
      refine qA (Draws.list hA n a (aj ha) ia.toArray) (mF hA (n + 1) z t) hap h1 h2 h3 ⟨h4, pa.isList⟩ h5 la hi fun h' x' y' tk e1 e2 hz ho hi1 hi2 hp kp => ?_
      have e1' : x' = ua := by have : ia[i]? = some x' := by simpa using e1
                               rw [hua] at this; cases this; rfl
      obtain ⟨c, u, hcx, e2'⟩ := e2
      subst e1' e2'
      refine ⟨_, rfl, wpAny_letOwnedTupleGo_zip hz fun hh hz2 hs2 => ?_⟩
      have hn : H s.heap.objs.size = none := I.hok.fresh (aH _)
      have lz : s.heap.objs.size ≠ n + 4 := fi (aT h1)
      have ht2 : hh.get? s.heap.objs.size = some { cls := .type "tuple", data := .seq #[x', .str ⟨#[c]⟩ u] } := (hs2.2 _ lz).trans hp
      refine ⟨.ref s.heap.objs.size, upd H s.heap.objs.size (.tup [x, .str ⟨#[c]⟩]), I.turnNew (fp := [n + 4, n + 2, n + 3, n, n + 1]) hf (fun c o hb q => ?_) (aH _) (show cn X.prog X.w _ hh _ (.tup _) from ⟨(by show 2 ≤ sizeLine; decide), [x', .str ⟨#[c]⟩ u], .cons rua (.cons ⟨u, rfl⟩ .nil), _, ht2, rfl, _, rfl⟩), rfl, ⟨_, x, c, hn, fun zs hz => by rw [I.list_inj hz hqa]; exact hx, hcx, rfl, rfl⟩, ?_, fun c hb => ?_⟩
      · simp only [aI, b9, or_false, not_or] at hb
        exact (hs2.2 c hb.1).trans (kp c o hb.1 hb.2.2.1 hb.2.2.2.1 hb.2.2.2.2 q)
      · obtain ⟨o5, e5, r5⟩ := hi2
        exact ⟨hz2, (hs2.2 _ hap.tz).trans (kp _ _ hap.tz hap.to hap.ta hap.tb h2), ⟨_, _, (hs2.2 _ hap.oz).trans ho⟩, hi1.1.at fun o e => (hs2.2 _ hap.az).trans e, ⟨o5, (hs2.2 _ hap.bz).trans e5, r5⟩⟩
      · have hb' := (hf c hb).1
        rw [aR (fun z => ?_)]
        · exact hb'
        · have hz4 : @LT.lt Nat _ (n + 4) s.heap.objs.size := aT h1
          have z' : @Eq Nat c s.heap.objs.size := z
          simp only [aI, b9, or_false] at hb
          rcases hb with h | h | h | h | h <;> (have h' : @Eq Nat _ _ := h; lia)
    done := by
      intro X hP hw hK hc i pins s σ H E I hf st hg
      subst hP hw hK
      obtain ⟨h1, h2, ⟨u0, v0, h3⟩, h4, h5⟩ := st
      obtain ⟨xs, hqa, hx⟩ := hg
      obtain ⟨ia, ra, pa, _⟩ := I.list hqa
      have la := ra.length
      have hA : X.A.in1.handled = none := I.ok.hd hc
      have ei : ia.toArray.size = i := by rw [aU]; lia
      refine rH (Draws.list hA n a (aj ha) ia.toArray) hap h1 h2 ⟨by rw [ei]; exact h4, pa.isList⟩ fun h' kp => ⟨rfl, I.turnAll (t' := s.toks) hf fun c o hb q => ?_⟩
      simp only [aI, b9, or_false, not_or] at hb
      exact kp c o hb.1 hb.2.2.2.1 q
    self := fun _ _ _ _ _ st h => NF st.1 h }
def Es(K:NQ)(ta:TA):TI:=λσ H R=>ta σ H λvs H1=>∃a z,vs=[.ref a,.str z]/\(∃xs,cF K H1 a xs)/\z.cps.all (·<128)=true/\R (E4 K a z) H1
def Az {X:Cx} {a b:Expr} {ta:TA} {elts:List Expr} {x1:Nat} {p pos tpos:Pos} (hg:Gl X "zip") (hm:X.mg "zip"=none) (ha:QA X [a,b] ta) (hs:starEach [a,b] X.env=(false,eval a X.env)::starEach [b] X.env:=by rfl) (hpl:(backTo pos (starEach [b] X.env)).any (·.1)=false:=by rfl) :
  QI X (.Tuple elts x1 tpos) (.Call (.Name "zip" p) [a,b] [] pos) (Es X.K ta):=⟨by
 intro pins s σ H R I h;refine Call_ (jZ I hg hm boot_zip (bV (dZ (ha.h pos pins s σ H _ I h) λus s1 ⟨vs,H1,I1,r1,z1,z,e,⟨xs,hx⟩,hz,q⟩=>?_) hs hpl));subst e;obtain⟨u,u',rfl,r2,r3⟩:=vals2 r1;cases r2;obtain⟨t,rfl⟩:=r3;obtain⟨ia,ra,pa,_⟩:=I1.list hx;obtain⟨oa,hoa,_⟩:=id pa.isList;refine Ge hz pa.isList λh' n en hz hti hto hi1 hi2 kp=>?_;refine NF hz ?_;have I2:bc X pins σ H1 { s1 with heap:=h' }:=I1.kept (t':=s1.toks) kp;refine⟨_,_,_,_,H1,rfl,I2,yf n z1 (by rw[en];exact aT hoa) z t,⟨hz,hti,⟨_,_,hto⟩,hi1,hi2⟩,λb hb=>?_,q⟩;have hle:s1.heap.objs.size<=b:=by
  simp only[aI,b9,or_false] at hb;have en':@Eq Nat n s1.heap.objs.size:=en;show @LE.le Nat _ _ _;rcases hb with h | h | h | h | h<;>(have h':@Eq Nat _ _:=h;lia)
 exact I1.fpOk hle (I1.hok.fresh hle)⟩
def Ck{K:NQ}{σ:St}{H:Hp}{D:Ends}{ta:TA}{g:TG}{tb:TS}:oF (Es K ta) g tb D σ H=ta σ H λvs H1=>∃a z,vs=[.ref a,.str z]/\(∃xs,cF K H1 a xs)/\z.cps.all (·<128)=true/\mT (E4 K a z) g tb D σ H1:=rfl
def CH{K:NQ}{σ:St}{H:Hp}{D:Ends}{a:Addr}{xs:List V}{z:Str}{g:TG}{tb:TS}(hle:xs.length<=z.cps.size)(Pv:Nat->St->Hp->Prop)(h0:Pv 0 σ H)(hl:∀i σ H,Pv i σ H->cF K H a xs)
  (hs:∀i x c σ H p,xs[i]? = some x->z.cps[i]? = some c->Pv i σ H->H p=none->g (.ref p) σ (upd H p (.tup [x,.str ⟨#[c]⟩])) λσ2 H2=>tb { D with nx:=Pv (i+1),ct:=Pv (i+1),bk:=D.nx } σ2 H2) (hd:∀σ H,Pv xs.length σ H->D.nx σ H):mT (E4 K a z) g tb D σ H:=by
 refine⟨λi m σ H=>m+i=xs.length/\Pv i σ H,⟨xs.length,rfl,h0⟩,?_⟩;rintro i m σ H ⟨hm,hp⟩;have q1:=hl i σ H hp;by_cases hi:i<xs.length
 ·refine .inr ⟨⟨xs,xs[i],q1,by simp[hi],a7 hi hle⟩,Pv (i+1),λσ' H' h=>⟨m - 1,by lia,by lia,h⟩,?_⟩;rintro v H' ⟨p,x,c,hn,hx,hc,rfl,rfl⟩;exact hs i x c σ H p (hx xs q1) hc hp hn
 ·have e:i=xs.length:=by lia
  subst e;exact .inl ⟨⟨xs,q1,rfl⟩,hd σ H hp⟩
end L2
namespace Rm
open PySem L2 PyProof.Rows
def seg(ns:List Int)(s c:Nat):List Int:=((ns.take c).drop s).map (· - (s:Int))
def f7{α β:Type}{R T:α->β->Prop}(f:∀a b,R a b->T a b):∀{xs:List α} {ys:List β},Paired R xs ys->Paired T xs ys
 | _,_,.nil=>.nil
 | _,_,.cons r t=>.cons (f _ _ r) (f7 f t)
def iJ{α β:Type}{R:α->β->Prop}:∀{xs:List α} {ys:List β},Paired R xs ys->∀{i:Nat} {x:α},xs[i]? = some x->∃y,ys[i]? = some y/\R x y
 | _,_,.nil,i,x,h=>by simp at h
 | _,_,.cons r t,0,x,h=>by simp at h;subst h;exact⟨_,rfl,r⟩
 | _,_,.cons r t,i+1,x,h=>iJ t (by simpa using h)
def Ju{K:NQ}{H:Hp}{a b o1 o2:Addr}{s t:Bool}{ms ns:List Int}{Q:VK}(ha:du H a o1 s ms)(hb:du H b o2 t ns)(q:Q (.bl (decide (s=t)&&decide (ms=ns))) H):yw K false (.ref a) (.ref b) H Q:=by
 refine⟨.tuple [.str (sd s),.tuple (ms.map PyData.int)],.tuple [.str (sd t),.tuple (ns.map PyData.int)],.tup (dm.of ha.1) (.cons (.str _) (.cons (.tup (dm.of ha.2) (ints_rep ms)) .nil)),.tup (dm.of hb.1) (.cons (.str _) (.cons (.tup (dm.of hb.2) (ints_rep ns)) .nil)),?_,?_,?_,?_⟩
 ·show (PyData.canLay0 (.str (sd s))&&(PyData.canLayAll0 (ms.map PyData.int)&&true))=true;rw[fb];cases s<;>decide +kernel
 ·show (PyData.canLay0 (.str (sd t))&&(PyData.canLayAll0 (ns.map PyData.int)&&true))=true;rw[fb];cases t<;>decide +kernel
 ·refine bJ (Nat.min_le_left _ _) ?_;show max 0 (max (PyData.depthAll (ms.map PyData.int)+1) 0)+1<=60;rw[kj];decide
 ·show Q (.bl (PyData.eqv (.str (sd s)) (.str (sd t))&&(PyData.eqvAll (ms.map PyData.int) (ns.map PyData.int)&&true))) H;rw[ni,Bool.and_true];have e:PyData.eqv (.str (sd s)) (.str (sd t))=decide (s=t):=by cases s<;>cases t<;>decide +kernel
  rw[e];exact q
def xP(K:NQ):Sp:=λvs H Q _=>∃(a:Addr) (ns:List Int) (k:Nat),vs=[.ref a,.int k]/\cF K H a (ns.map V.int)/\∀v:Int,Q (.int v) H
end Rm
namespace Rm
open PySem L2
def tx(cs:List Nat):Str:=⟨cs.toArray⟩
def qZ(c:Nat):V:=V.str ⟨#[c]⟩
def bX(cs:List Nat):(tx cs).length=cs.length:=by simp[tx,Str.length]
def lY(cs:List Nat):(tx cs).cps.toList=cs:=by simp[tx]
def jb(cs:List Nat):(tx cs).cps.size=cs.length:=by simp[tx]
def dt(a b:List Nat):tx a++tx b=tx (a++b):=by
 show Str.mk _=Str.mk _;simp[tx]
def vJ{a b:List Nat}(h:tx a=tx b):a=b:=by
 have:=congrArg (λz:Str=>z.cps.toList) h;simpa [tx] using this
def Ac(z:Str):z=tx z.cps.toList:=by cases z;simp[tx]
def mi(c:Nat):(⟨#[c]⟩:Str)=tx [c]:=rfl
def Ap:Str.ofString "|"=tx [124]:=by decide +kernel
def sL:Str.ofString "("=tx [40]:=by decide +kernel
def uE:Str.ofString ")"=tx [41]:=by decide +kernel
def qb:Str.ofString "*"=tx [42]:=by decide +kernel
def JU:Str.ofString "**"=tx [42,42]:=by decide +kernel
def JW:Str.ofString "()"=tx [40,41]:=by decide +kernel
def Hr:Str.ofString "(|)"=tx [40,124,41]:=by decide +kernel
def JV:Str.ofString "*|"=tx [42,124]:=by decide +kernel
def JX:Str.ofString "|*"=tx [124,42]:=by decide +kernel
def Ek:Str.ofString ""=tx []:=by decide +kernel
def Hu:Str.ofString "a"=tx [97]:=by decide +kernel
def Ht:Str.ofString "b"=tx [98]:=by decide +kernel
def Hs:Str.ofString "c"=tx [99]:=by decide +kernel
def JC:Str.ofString "d"=tx [100]:=by decide +kernel
def Jf:Str.ofString "l"=tx [108]:=by decide +kernel
def pY:Str.ofString "abcd"=tx [97,98,99,100]:=by decide +kernel
def g9{a b:Nat}:((⟨#[a]⟩:Str)=tx [b])=(a=b):=propext ⟨λh=>by have:=vJ (show tx [a]=tx [b] from h);simpa using this,λh=>by rw[h];rfl⟩
def AU{cs:List Nat}(h:∀c∈cs,c<128):(tx cs).cps.all (·<128)=true:=by
 rw[<-Array.all_toList,lY,iT];intro c hc;exact NM (h c hc)
def Hg{cs:List Nat}{i:Nat}{c:Nat}(h:cs[i]? = some c):oj (tx cs).cps.toList (i:Int)=some c:=by rw[lY];exact gB h
def yY(c:Nat):∀(a b:List Nat),PyProof.Rows.cnt c (a++b)=PyProof.Rows.cnt c a+PyProof.Rows.cnt c b
 | [],b=>by rw[PyProof.Rows.cnt_nil,bM];lia
 | x::a,b=>by rw[eu,fO,fO,yY c a b];lia
def tD{c:Nat}:∀{a:List Nat},c∉a->PyProof.Rows.cnt c a=0
 | [],_=>PyProof.Rows.cnt_nil c
 | x::a,h=>by
  simp only[aI,not_or] at h;rw[fO,tD h.2,NI (cC h.1)];rfl
def EO{A B:List Nat}(hA:124∉A):∀(X Y:List Nat),124∉X->X++124::Y=A++124::B->X=A/\Y=B:=by
 induction A with
 | nil=>
  intro X Y hX e;cases X with
  | nil=>simpa using e
  | cons x X=>simp at e hX;exact absurd e.1.symm hX.1
 | cons a A ih=>
  intro X Y hX e;simp only[aI,not_or] at hA;cases X with
  | nil=>simp at e;exact absurd e.1 hA.1
  | cons x X=>
   simp only[eu,gE] at e;simp only[aI,not_or] at hX;obtain⟨h1,h2⟩:=ih hA.2 X Y hX.2 e.2;exact⟨by rw[e.1,h1],h2⟩
def yk{A B:List Nat}(hA:124∉A)(hB:124∉B):Txt.split (tx (A++124::B)) (tx [124])=[tx A,tx B]:=by
 have hc:Rm.tx [124]=(⟨#[124]⟩:Str):=rfl;rw[hc];have hl:=PyProof.Rows.split_len (tx (A++124::B)) 124;have hf:=StrLaws.split_free (tx (A++124::B)) 124;have hj:=StrLaws.join_split (tx (A++124::B)) ⟨#[124]⟩;rw[lY,yY,fO,tD hA,tD hB,NJ rfl] at hl;generalize Txt.split (tx (A++124::B)) ⟨#[124]⟩=l at *;have h2:l.length=2:=by lia
 obtain⟨p,r,rfl⟩:=ax h2;obtain⟨q,r,rfl⟩:=ax (l:=r) (n:=0) (by simpa using h2);have:r=[]:=bD (by simpa using h2);subst this;have fp:=hf p (by simp);have e:p.cps.toList++124::q.cps.toList=A++124::B:=by
  have hj':p++(⟨#[124]⟩:Str)++q=tx (A++124::B):=hj;have:=congrArg (λz:Str=>z.cps.toList) hj';rw[lY] at this;rw[<-this];show _=(p.cps++#[124]++q.cps).toList;simp
 obtain⟨e1,e2⟩:=EO hA _ _ fp e;rw[Ac p,Ac q,e1,e2]
def Cc{n:Nat}:Builtin.Str.strSliceIndices none (some (-1)) 1 n=List.range (n - 1):=by
 unfold Builtin.Str.strSliceIndices sliceRange;simp only[show (1:Int) > 0 by decide,NO,show (-1:Int)<0 by decide];have e:max 0 (min (-1+(n:Int)) (n:Int))=((n - 1:Nat):Int):=by lia
 rw[e];have e2:(if (0:Int)<((n - 1:Nat):Int) then (((n - 1:Nat):Int) - 0+1 - 1) / 1 else 0).toNat=n - 1:=by split<;>lia
 rw[e2];have e3:(λk:Nat=>(0+1*(k:Int)).toNat)=id:=by funext k;show (0+1*(k:Int)).toNat=k;lia
 rw[e3,List.map_id]
def Cd{n p:Nat}(h:p<=n):Builtin.Str.strSliceIndices (some (p:Int)) none 1 n=(List.range (n-p)).map (p+·):=by
 unfold Builtin.Str.strSliceIndices sliceRange;simp only[show (1:Int) > 0 by decide,NO];have e:max 0 (min (if (p:Int)<0 then (p:Int)+n else p) (n:Int))=p:=by rw[NI (by lia)];lia
 rw[e];have e2:(if (p:Int)<n then ((n:Int)-p+1 - 1) / 1 else 0).toNat=n-p:=by split<;>lia
 rw[e2];refine cQ λk _=>?_;show ((p:Int)+1*(k:Int)).toNat=p+k;lia
def rX{α:Type}(l:List α):∀p,p<=l.length->(List.range p).filterMap (λi=>l[i]?)=l.take p
 | 0,_=>rfl
 | p+1,h=>by
  rw[gD,gu,rX l p (by lia),bW];have:l[p]? = some l[p]:=aN (by lia);simp[this]
def Ce{α:Type}(l:List α)(p:Nat)(h:p<=l.length):((List.range (l.length-p)).map (p+·)).filterMap (λi=>l[i]?)=l.drop p:=by
 rw[List.filterMap_map];have e:((λi=>l[i]?)∘λx=>p+x)=λj=>(l.drop p)[j]?:=by funext j;show l[p+j]? = _;rw[List.getElem?_drop]
 rw[e,rX _ _ (by rw[eh];lia),dA (by rw[eh];lia)]
def AS(cs:List Nat):(λi:Nat=>(tx cs).cps[i]?)=λi=>cs[i]?:=by funext i;simp[tx]
def Cp{P:List Nat}{c:Nat}:Txt.slice (tx (P++[c])) none (some (-1))=tx P:=by
 unfold Txt.slice;rw[bX,Cc];have e:(P++[c]).length - 1=P.length:=by simp
 rw[e]
 split
 ·rename_i h;simp at h
 ·rw[AS,rX _ _ (by simp),List.take_left];rfl
def Cq{cs:List Nat}{p:Nat}(h:p<=cs.length):Txt.slice (tx cs) (some (p:Int)) none=tx (cs.drop p):=by
 unfold Txt.slice;rw[bX,Cd h]
 split
 ·rename_i c;have:cs.length-p=cs.length:=by simpa using c
  have hz:p=0\/cs.length=0:=by lia
  rcases hz with rfl | hz
  ·rfl
  ·have:=cU.mp hz;subst this;simp
 ·rw[AS,Ce _ _ h];rfl
def iP{α:Type}{P:List α}{c:α}:oj (P++[c]) (-1)=some c:=by
 unfold oj C8;have e:(P++[c]).length=P.length+1:=by simp
 rw[e,NI (by decide),NJ (by lia)];show (P++[c])[(-1+((P.length+1:Nat):Int)).toNat]? = some c;rw[show (-1+((P.length+1:Nat):Int)).toNat=P.length by lia];simp
def CO{xs:List V}{k:Nat}(h:k<=xs.length):nj xs none (some (k:Int))=xs.take k:=by
 unfold nj;rw[HT.sIx_nat,HT.sIx_none,ig h];rfl
def wI{xs:List V}{k:Nat}(h:k<=xs.length):nj xs (some (k:Int)) none=xs.drop k:=by
 unfold nj;rw[HT.sIx_nat,HT.sIx_none,show min k xs.length=k by lia];exact dA (by rw[eh];lia)
def CP{P:List V}{c:V}:nj (P++[c]) none (some (-1))=P:=by
 unfold nj;have e:HT.sIx (P++[c]).length (P++[c]).length (some (-1))=P.length:=by unfold HT.sIx;simp;lia
 rw[e,HT.sIx_none,fe];simp
def CQ{P:List V}{c:V}:nj (P++[c]) (some (-1)) none=[c]:=by
 unfold nj;have e:HT.sIx (P++[c]).length 0 (some (-1))=P.length:=by unfold HT.sIx;simp;lia
 rw[e,HT.sIx_none,List.drop_left];simp
def wv:∀(cs:List Nat) (acc:Array Nat),(cs.map λc=>(⟨#[c]⟩:Str)).foldl (λacc p=>acc++(Str.ofString "").cps++p.cps) acc=acc++cs.toArray
 | [],acc=>by simp
 | c::cs,acc=>by
  rw[aY,List.foldl_cons,wv cs];have:(Str.ofString "").cps=#[]:=by decide +kernel
  rw[this];simp
def rZ (cs:List Nat):Txt.join (Str.ofString "") (cs.map λc=>(⟨#[c]⟩:Str))=tx cs:=by
 cases cs with
 | nil=>rfl
 | cons c cs=>
  show Str.mk (((((c::cs).map λc=>(⟨#[c]⟩:Str)).drop 1).foldl (λacc p=>acc++(Str.ofString "").cps++p.cps) (((c::cs).map λc=>(⟨#[c]⟩:Str)).headD Str.empty).cps))=_;rw[aY,List.drop_one,List.tail_cons,List.headD_cons,wv];simp[tx]
def oE {cs:List Nat} (hl:cs.length<=900):JoinOk (Str.ofString "") (cs.map λc=>(⟨#[c]⟩:Str))=true:=by
 unfold JoinOk;have e:Builtin.Str.tooLong ((cs.map λc=>(⟨#[c]⟩:Str)).toArray.foldl (λa t=>a+t.length+(Str.ofString "").length) 0)=false:=by
  have h0:∀(cs:List Nat) (a:Nat),(cs.map λc=>(⟨#[c]⟩:Str)).foldl (λa t=>a+t.length+(Str.ofString "").length) a=a+cs.length:=by
   intro cs
   induction cs with
   | nil=>intro a;rfl
   | cons b cs ih=>
    intro a;rw[aY,List.foldl_cons,ih];have h1:(⟨#[b]⟩:Str).length=1:=rfl;have h2:(Str.ofString "").length=0:=by decide +kernel
    rw[h1,h2,cM];lia
  rw[List.foldl_toArray',h0];unfold Builtin.Str.tooLong;exact NL (by have:=be (n:=0+cs.length) (by lia);lia);simp
 rw[e];rfl
def qd:Option (List Int×List Int)->V
 | none=>.non
 | some (L,R)=>.str (tx (fV L R))
def iM(c:Nat):Prop:=c=97\/c=98\/c=99\/c=100
def fR(H:Hp)(a:Addr)(L R:List Int):Prop:=∃l r,H a=some (.tup [.ref l,.ref r])/\H l=some (.lst (L.map V.int))/\H r=some (.lst (R.map V.int))
def fR.same{H H':Hp}{a:Addr}{L R:List Int}(h:fR H a L R)(s:aV H H'):fR H' a L R:=let ⟨l,r,h1,h2,h3⟩:=h;⟨l,r,s _ _ h1,s _ _ h2,s _ _ h3⟩
def Jn(H:Hp)(v:V):Option (List Int×List Int)->Prop
 | none=>v=.non
 | some (L,R)=>∃a,v=.ref a/\fR H a L R
def jP(c:Nat):List Int×List Int:=if c=108 then ([0],[]) else ([],[0])
def nQ:Sp:=λvs H Q _=>∃c:Nat,vs=[.str ⟨#[c]⟩]/\Q (.str (tx (fV (jP c).1 (jP c).2))) H
def t0:Sp:=λvs H Q _=>∃(a:Addr) (cs:List Nat) (p q:Nat),vs=[.ref a,.int (p:Nat)]/\H a=some (.lst (cs.map qZ))/\cs.length<=900/\vG cs p q/\Q (.int (q:Nat)) H
def xM:Sp:=λvs H Q _=>∃(L R:List Int) (x y:Int),vs=[.str (tx (bu [] (L++[x]))),.str (tx (bu (L++[x]) (R++[y]).reverse))]/\EE (L++[x]) (R++[y])/\L.length+R.length<=400/\∀H',aV H H'->Q (qd (cS (L++[x]) (R++[y]) 100)) H'
def m7:Sp:=λvs H Q _=>∃(L R:List Int) (c:Nat),vs=[.str (tx (fV L R)),.str ⟨#[c]⟩]/\iM c/\EE L R/\L.length+R.length<=400/\∀H',aV H H'->Q (qd (cS L R c)) H'
def t9:Sp:=λvs H Q _=>∃n:Int,vs=[.int n]/\∀m:Int,0<=m->m<2 ^ 61->Q (.int m) H
def xG:Sp:=λvs H Q _=>∃n:Int,vs=[.int n]/\∀m:Int,Q (.int m) H
def Hm:Sp:=λvs H Q _=>∃(a:Addr) (L R:List Int) (c:Nat),vs=[.ref a,.str ⟨#[c]⟩]/\fR H a L R/\iM c/\EE L R/\L.length+R.length<=400/\∀v H',aV H H'->Jn H' v (cS L R c)->Q v H'
def xN:Sp:=λvs H Q _=>∃c:Nat,vs=[.str ⟨#[c]⟩]/\∀a H',aV H H'->fR H' a (jP c).1 (jP c).2->Q (.ref a) H'
def wx(L R:List Int):(fV L R).length=L.length+R.length+1:=by unfold fV;simp[cG];lia
def ED{L R L' R':List Int}{c:Nat}(h:cS L R c=some (L',R')):L'.length+R'.length<=L.length+R.length+2:=by
 unfold cS at h
 split at h
 ·cases h;simp;lia
 ·split at h
  ·split at h
   ·cases h;simp;lia
   ·cases h
  ·split at h
   ·split at h
    ·cases h;simp;lia
    ·cases h
   ·split at h
    ·split at h
     ·cases h
     ·cases h;simp;lia
    ·cases h
def Bc(pre A:List Int):124∉bu pre A:=λh=>by have:=vW A pre 124 h;lia
section
variable {K:NQ} {H:Hp} {Q:VK} {a b:Addr} {xs ys:List V}
def Be{R:Addr->Hp->Prop}{o:HO}(q:∀p H',H p=none->aV H H'->H' p=some o->R p H'):∀p,H p=none->R p (upd H p o):=λp hp=>q p _ hp ((aV.refl H).new hp) aG
def wL(ha:H a=some (.lst xs))(hb:H b=some (.lst ys))(hz:xs.length+ys.length<=1000)(q:∀p H',H p=none->aV H H'->H' p=some (.lst (xs++ys))->Q (.ref p) H'):IC (.ref a) (.ref b) H Q:=
 ⟨a,b,xs,ys,rfl,rfl,ha,hb,bx (be hz),Be (R:=λp H'=>Q (.ref p) H') q⟩
def F4{k:Nat}(ha:H a=some (.lst xs))(h:k<=xs.length)(q:∀p H',H p=none->aV H H'->H' p=some (.lst (xs.take k))->Q (.ref p) H'):Aw K (.ref a) none (some (k:Int)) H Q:=
 ⟨a,xs,rfl,cF.of ha,by rw[CO h];exact Be (R:=λp H'=>Q (.ref p) H') q⟩
def Af{k:Nat}(ha:H a=some (.lst xs))(h:k<=xs.length)(q:∀p H',H p=none->aV H H'->H' p=some (.lst (xs.drop k))->Q (.ref p) H'):Aw K (.ref a) (some (k:Int)) none H Q:=
 ⟨a,xs,rfl,cF.of ha,by rw[wI h];exact Be (R:=λp H'=>Q (.ref p) H') q⟩
def oy{c:V}(ha:H a=some (.lst (xs++[c])))(q:∀p H',H p=none->aV H H'->H' p=some (.lst xs)->Q (.ref p) H'):Aw K (.ref a) none (some (-1)) H Q:=
 ⟨a,xs++[c],rfl,cF.of ha,by rw[CP];exact Be (R:=λp H'=>Q (.ref p) H') q⟩
def xR{c:V}(ha:H a=some (.lst (xs++[c])))(q:∀p H',H p=none->aV H H'->H' p=some (.lst [c])->Q (.ref p) H'):Aw K (.ref a) (some (-1)) none H Q:=
 ⟨a,xs++[c],rfl,cF.of ha,by rw[CQ];exact Be (R:=λp H'=>Q (.ref p) H') q⟩
def fR.new{l r:Addr}{L R:List Int}(hl:H l=some (.lst (L.map V.int)))(hr:H r=some (.lst (R.map V.int)))(na:H a=none):fR (upd H a (.tup [.ref l,.ref r])) a L R:=
 ⟨l,r,aG,by rw[aR (ak hl na)];exact hl,by rw[aR (ak hr na)];exact hr⟩
def NH(L:List Int)(x:Int):(L++[x]).map V.int=L.map V.int++[V.int x]:=by simp
end
def kA{n:Nat}(h:n<=900):n<=sizeLine:=bx (be (by lia))
def k8{K:NQ}{H:Hp}{cs:List Nat}(h:cs.length<=900):ET K (.str (tx cs)) H (!cs.isEmpty):=by
 refine⟨by rw[bX];exact kA h,?_⟩;rw[bX];cases cs with
 | nil=>rfl
 | cons a cs=>
  show true=(((cs.length+1:Nat):Int) != 0)
  have:((cs.length+1:Nat):Int)≠0:=by lia
  simp[bne,this];lia
def By {K:NQ} {H:Hp} {t:Addr} {a b:Nat} {Q:VK} (ha:a=40\/a=41\/a=42) (hb:b=40\/b=41\/b=42) (h:H t=some (.tup [qZ a,qZ b])) (q:Q (.bl (decide (a=42) || decide (b=42))) H):DD K false (.str (Str.ofString "*")) (.ref t) H Q:=by
 refine⟨.str (Str.ofString "*"),[.str ⟨#[a]⟩,.str ⟨#[b]⟩],t,_,.str _,rfl,.inr (dm.of h),.cons (.str _) (.cons (.str _) .nil),by decide +kernel,(by rcases ha with rfl | rfl | rfl<;>rcases hb with rfl | rfl | rfl<;>decide +kernel),by decide +kernel,?_⟩;have e:∀c:Nat,PyData.eqv (.str ⟨#[c]⟩) (.str (Str.ofString "*"))=decide (c=42):=λc=>by
  show decide ((⟨#[c]⟩:Str)=Str.ofString "*")=_;rw[qb];exact decide_eq_decide.mpr (by rw[g9])
 show Q (.bl (PyData.eqv (.str ⟨#[a]⟩) (.str (Str.ofString "*")) || (PyData.eqv (.str ⟨#[b]⟩) (.str (Str.ofString "*")) || false))) H;rw[e,e,jz];exact q
def BJ{ms:List Int}{a b:Nat}(hp:ms.Perm [(a:Int),(b:Int)])(hs:ms.Pairwise (·<=·)):ms=[((min a b:Nat):Int),((max a b:Nat):Int)]:=by
 have hl:=hp.length_eq
 match ms,hl with
 | [u,v],_=>
  have h1:u=a\/u=b:=by simpa using hp.mem_iff.mp (by simp:u∈[u,v])
  have h2:v=a\/v=b:=by simpa using hp.mem_iff.mp (by simp:v∈[u,v])
  have h3:(a:Int)=u\/(a:Int)=v:=by simpa using hp.mem_iff.mpr (by simp:(a:Int)∈[(a:Int),(b:Int)])
  have h4:(b:Int)=u\/(b:Int)=v:=by simpa using hp.mem_iff.mpr (by simp:(b:Int)∈[(a:Int),(b:Int)])
  have h5:u<=v:=by simpa using hs
  have e1:u=((min a b:Nat):Int):=by lia
  have e2:v=((max a b:Nat):Int):=by lia
  rw[e1,e2]
def Aj(cs:List Nat)(i c:Nat):(cs.map qZ).set i (V.str ⟨#[c]⟩)=(cs.set i c).map qZ:=by rw[List.map_set];rfl
def xU(cs:List Nat):cs.map qZ=(cs.map λc=>(⟨#[c]⟩:Str)).map V.str:=by rw[bj];rfl
end Rm
namespace L2
open PySem PySem.Spec PyProof.Rows
section
variable {X:Cx}
def Hv(K:NQ):List V->Hp->VK->Prop:=λxs H Q=>∃(p:Addr) (ns:List Int),xs=[.ref p]/\cF K H p (ns.map V.int)/\PySem.SumFits ns/\Q (.int ns.sum) H
def wM (hc:X.calm=true):fq X (.builtin "sum") (Hv X.K):=by
 intro pins s σ H xs us Q I r h;obtain⟨p,ns,rfl,hq,hf,q⟩:=h;obtain⟨u,rfl,rx⟩:=Mt r;cases rx;obtain⟨its,rv,pl,hz⟩:=I.list hq;have hi:=kJ rv;have hl:=pl.isList;obtain⟨xs,e⟩:=hi.allInts.items;have hns:ns=xs.toList.map (·.1):=by rw[<-hi.numsOf,<-nums_intItems,<-e]
 have hsz:xs.size=ns.length:=by rw[hns,aE,dC]
 rw[e] at hl;refine sum_intList (I.ok.hd hc) hl (λj hj=>?_) λh' tk t' hk=>?_
 ·have:=hf j (by lia);rw[preSum_eq,numAt_eq,<-hns];exact this
 ·refine⟨.int ns.sum,H,I.kept hk,⟨t',?_⟩,q⟩;rw[preSum_eq,<-hns,hsz,cX]
end
def fh {X:Cx} {x:Str} {z:Str} {pos:Pos} (hg:Gl X x) (hm:∃t,X.mg x=some (.str z t)) (hd:(x==("__debug__":Str))=false:=by decide):QE X (.Name x pos) (tC (.str z)):=
 let ⟨t,h⟩:=hm
 ⟨sP hg h ⟨t,rfl⟩ hd⟩
def Co{k:Nat}{caps:List Nat}{tl:TE}{g:TG}{tf:TT}{te:TE}{σ:St}{H:Hp}{Q:VK}:mU k caps (Dz tl) g tf te σ H Q=tl σ H λx H1=>∃z,x=.str z/\z.cps.all (·<128)=true/\iz (HE z) g tf te Q (i6 k caps σ) H1:=rfl
def CT{x:Str}{g:TG}{tf:TT}{te:TE}{σ:St}{H:Hp}{Q:VK}(Pv:Nat->List V->St->Hp->Prop)(h0:Pv 0 [] σ H)(hl:∀i ys σ H,Pv i ys σ H->ys.length<=i)(hsz:x.cps.size<=sizeLine)
  (hs:∀i c ys σ H (N:List V->St->Hp->Prop),x.cps[i]? = some c->Pv i ys σ H->(∀ys σ H,Pv (i+1) ys σ H->N ys σ H)->g (.str ⟨#[c]⟩) σ H λσ2 H2=>tf σ2 H2 λb H3=>if b=true then te σ2 H3 λy H4=>N (ys++[y]) σ2 H4 else N ys σ2 H3)
  (hd:∀ys σ H p,Pv x.cps.size ys σ H->H p=none->Q (.ref p) (upd H p (.lst ys))):iz (HE x) g tf te Q σ H:=by
 refine sv x.cps.size hsz Pv h0 hl (λi ys σ H hi p=>hi) (λys σ H p=>aH _) ?_ hd;rintro i ys σ H v H' N hi p ⟨rfl,c,hc,rfl⟩ hN;exact hs i c ys σ H' N hc p hN
def fits_of:∀{ns:List Int},(∀x∈ns,0<=x/\x<=2 ^ 40)->ns.length<=1000->PySem.SumFits ns:=by
 intro ns h hl j hj;have hs:∀l:List Int,(∀x∈l,0<=x/\x<=2 ^ 40)->0<=l.sum/\l.sum<=2 ^ 40*l.length:=by
  intro l
  induction l with
  | nil=>intro _;simp
  | cons a l ih=>
   intro hh;have h1:=hh a (by simp);have h2:=ih λx hx=>hh x (aM _ hx);simp only[List.sum_cons,cM];lia
 have h1:=h (ns.getD j 0) (by rw[bw,aN hj];exact fm hj);have h2:=hs (ns.take (j+1)) λx hx=>h x (List.mem_of_mem_take hx);have h3:(ns.take (j+1)).length<=1000:=by rw[bp];lia
 exact⟨⟨by lia,by lia⟩,⟨by lia,by lia⟩⟩
end L2
namespace Rm
open PySem L2
def tE:∀(n:Nat) (L R:List Int),eR n L R<=4 ^ n
 | 0,L,R=>by simp only[eR];split<;>simp
 | n+1,L,R=>by
  have key:∀o,dj n o<=4 ^ n:=λo=>by
   rcases o with _ | ⟨a,b⟩
   ·exact bF _
   ·exact tE n a b
  rw[iO,Nat.pow_succ];have h1:=key (cS L R 97);have h2:=key (cS L R 98);have h3:=key (cS L R 99);have h4:=key (cS L R 100);lia
def kI(L R:List Int):List (List Int×List Int):=[97,98,99,100].filterMap (cS L R)
def za(n:Nat)(L R:List Int):eR (n+1) L R=((kI L R).map λp=>eR n p.1 p.2).sum:=by
 rw[iO];unfold kI;rcases h1:cS L R 97 with _ | ⟨a,b⟩<;>rcases h2:cS L R 98 with _ | ⟨a',b'⟩<;>rcases h3:cS L R 99 with _ | ⟨c,d⟩<;>rcases h4:cS L R 100 with _ | ⟨c',d'⟩<;>simp[List.filterMap,h1,h2,h3,h4,dj]<;>lia
def Bd{L R:List Int}{p:List Int×List Int}(h:p∈kI L R):∃c,iM c/\cS L R c=some p:=by
 obtain⟨c,hc,e⟩:=j0.mp h;refine⟨c,?_,e⟩;simp only[aI,b9,or_false] at hc;exact hc
def oP(L R:List Int):(kI L R).length<=4:=jy _ _
def fu(kvs:List (List Key×V)):Prop:=∀k v,gY kvs k=some v->∃(L R:List Int) (m:Nat),EE L R/\k=[.inr (tx (fV L R)),.inl (m:Int)]/\v=.int ((eR m L R:Nat):Int)
def mD:Nat->Nat
 | 0=>0
 | n+1=>4*mD n+1
def vU:Sp:=λvs H Q _=>∃(L R:List Int),vs=[.str (tx (fV L R))]/\L.length+R.length<=400/\Q (.int ((L.length+R.length:Nat):Int)) H
def pU:Sp:=λvs H Q _=>∃(L R:List Int) (n:Nat),vs=[.str (tx (fV L R)),.int (n:Nat)]/\L.length+R.length<=400/\n<=100/\Q (.bl (decide (L.length+R.length<=2*n+1))) H
def JA(p:List Int×List Int):V:=.str (tx (fV p.1 p.2))
def xJ:Sp:=λvs H Q _=>∃(L R:List Int),vs=[.str (tx (fV L R))]/\EE L R/\L.length+R.length<=400/\∀l H',H l=none->aV H H'->H' l=some (.lst ((kI L R).map JA))->Q (.ref l) H'
def oG(n:Nat):Sp:=λvs H Q _=>∃(L R:List Int) (m:Nat) (d:Addr) (kvs:List (List Key×V)),vs=[.str (tx (fV L R)),.int (m:Nat),.ref d]/\m<n/\m<=12/\EE L R/\L.length+R.length+2*m<=400/\H d=some (.dT kvs)/\fu kvs/\kvs.length+mD m<=10000000 ∧
 ∀H' kvs',aV (wo H d) (wo H' d)->H' d=some (.dT kvs')->fu kvs'->kvs'.length<=kvs.length+mD m->Q (.int ((eR m L R:Nat):Int)) H'
def fu.put{kvs:List (List Key×V)}{L R:List Int}{m:Nat}(h:fu kvs)(E:EE L R):fu (putK kvs [.inr (tx (fV L R)),.inl (m:Int)] (.int ((eR m L R:Nat):Int))):=λk v hv=>by
 rw[pK] at hv;by_cases e:k=[.inr (tx (fV L R)),.inl (m:Int)]
 ·rw[NJ e] at hv;exact⟨L,R,m,E,e,(bH hv).symm⟩
 ·rw[NI e] at hv;exact h k v hv
def fu.get{kvs:List (List Key×V)}{L R:List Int}{m:Nat}{v:V}(h:fu kvs)(E:EE L R)(e:gY kvs [.inr (tx (fV L R)),.inl (m:Int)]=some v):v=.int ((eR m L R:Nat):Int):=by
 obtain⟨L',R',m',E',ek,ev⟩:=h _ _ e;simp only[gE,Sum.inr.injEq,Sum.inl.injEq,and_true] at ek;have em:m=m':=by lia
 subst em;rw[ev,yZ m E' E (vJ ek.1).symm]
def nM{H H':Hp}{f:Addr}(s:aV H H'):aV (wo H f) (wo H' f):=λb o e=>by
 by_cases h:b=f
 ·subst h;unfold wo at e;rw[NJ rfl] at e;cases e
 ·unfold wo at e ⊢;rw[NI h] at e ⊢;exact s b o e
def rY{H H':Hp}{f l:Addr}{o:HO}(s:aV (wo H f) (wo H' f))(h:H l=some o)(hne:l≠f):H' l=some o:=wW H' f _ _ (s _ _ (E6 hne h))
def tV(n:Nat):∀l:List (List Int×List Int),(l.map λp=>((eR n p.1 p.2:Nat):Int)).sum=(((l.map λp=>eR n p.1 p.2).sum:Nat):Int)
 | []=>rfl
 | p::l=>by simp only[aY,List.sum_cons,tV n l];lia
end Rm
set_option maxHeartbeats 400000
namespace Rm
def fM(L R:List Int):List Nat->Nat->Option Nat
 | [],i=>if L.length+R.length=1 then none else some i
 | c::cs,i=>match cS L R c with | none=>some i | some p=>fM p.1 p.2 cs (i+1)
def kd{L R:List Int}{c:Nat}{cs:List Nat}{i:Nat}(h:cS L R c=none):fM L R (c::cs) i=some i:=by simp only[fM,h]
def je{L R L' R':List Int}{c:Nat}{cs:List Nat}{i:Nat}(h:cS L R c=some (L',R')):fM L R (c::cs) i=fM L' R' cs (i+1):=by simp only[fM,h]
def isIn(k:Bool)(c:Nat):Bool:=c==97 || (if k then c==99 else c==98)
def ju(m:Nat->Option Nat)(a b:Nat):Nat->Option Nat:=λx=>if x=a then some b else if x=b then some a else m x
abbrev C3:=List Nat×(Nat->Option Nat)
def ot(k:Bool)(s:C3)(row c:Nat):C3:=if isIn k c then (s.1++[row],s.2) else match s.1.getLast? with | some o=>(s.1.dropLast,ju s.2 row o) | none=>s
def tM(k b:Bool):C3:=(if k=b then [0] else [],λ_=>none)
def stN(k b:Bool)(cs:List Nat):Nat->C3
 | 0=>tM k b
 | i+1=>ot k (stN k b cs i) (i+1) (cs.getD i 0)
def rj{k:Bool}{s:C3}{row c:Nat}(h:isIn k c=true):ot k s row c=(s.1++[row],s.2):=by unfold ot;rw[NJ h]
def oq{k:Bool}{s:C3}{P:List Nat}{o row c:Nat}(h:isIn k c=false)(e:s.1=P++[o]):ot k s row c=(P,ju s.2 row o):=by
 unfold ot;rw[NI (by rw[h];decide),e];simp
structure vF (k b:Bool) (i:Nat) (s:C3):Prop where
 nd:s.1.Nodup
 le:∀ x∈s.1,x<=i
 out:∀ x∈s.1,s.2 x=none
 sym:∀ x y,s.2 x=some y->s.2 y=some x
 irr:∀ x y,s.2 x=some y->y≠x
 bd:∀ x y,s.2 x=some y->x<=i
 tot:∀ x,x<=i->(x=0->k=b)->x∈s.1\/∃ y,s.2 x=some y
 z:k≠b->0∉s.1/\s.2 0=none
def vF.zero(k b:Bool):vF k b 0 (tM k b):=by
 unfold tM;refine⟨?_,λx h=>?_,λ_ _=>rfl,λ_ _ h=>(by cases h),λ_ _ h=>(by cases h),λ_ _ h=>(by cases h),λx hx h=>.inl ?_,λh=>⟨?_,rfl⟩⟩
 ·dsimp only;split<;>simp
 ·dsimp only at h;split at h<;>simp at h;lia
 ·have hx0:x=0:=by lia
  dsimp only;rw[NJ (h hx0),hx0];simp
 ·dsimp only;rw[NI h];simp
def nh{l:List Nat}(h:l≠[]):∃P x,l=P++[x]:=⟨l.dropLast,l.getLast h,(dY h).symm⟩
def vF.step{k b:Bool}{i c:Nat}{s:C3}(I:vF k b i s)(h:isIn k c=false->s.1≠[]):vF k b (i+1) (ot k s (i+1) c):=by
 have new:s.2 (i+1)=none:=by
  cases e:s.2 (i+1) with
  | none=>rfl
  | some y=>have:=I.bd _ _ e;lia
 by_cases hc:isIn k c=true
 ·rw[rj hc];refine⟨?_,λx hx=>?_,λx hx=>?_,I.sym,I.irr,λx y e=>by have:=I.bd x y e;lia,λx hx h0=>?_,λhk=>⟨?_,(I.z hk).2⟩⟩
  ·rw[jj];refine⟨I.nd,by simp,λa ha b hb e=>?_⟩;have:=I.le a ha;simp at hb;lia
  ·rcases aQ.mp hx with h1 | h1
   ·have:=I.le x h1;lia
   ·simp at h1;lia
  ·rcases aQ.mp hx with h1 | h1
   ·exact I.out x h1
   ·simp at h1;subst h1;exact new
  ·by_cases e:x=i+1
   ·exact .inl (by subst e;simp)
   ·rcases I.tot x (by lia) h0 with h1 | h1
    ·exact .inl (bG _ h1)
    ·exact .inr h1
  ·intro z;rcases aQ.mp z with h1 | h1
   ·exact(I.z hk).1 h1
   ·simp at h1
 ·have hc':isIn k c=false:=by simpa using hc
  obtain⟨P,o,e⟩:=nh (h hc');rw[oq hc' e];have om:o∈s.1:=by rw[e];simp
  have ole:=I.le o om;have on:=I.out o om;have nd:=I.nd;rw[e,jj] at nd;have onP:o∉P:=λz=>nd.2.2 o z o (by simp) rfl;have inP:∀x∈P,x∈s.1:=λx hx=>by rw[e];exact bG _ hx
  have ms:∀x y,ju s.2 (i+1) o x=some y->(x=i+1/\y=o)\/(x=o/\y=i+1)\/(x≠i+1/\x≠o/\s.2 x=some y):=λx y h=>by
   unfold ju at h
   split at h
   ·rename_i z;cases h;exact .inl ⟨z,rfl⟩
   ·split at h
    ·rename_i z;cases h;exact .inr (.inl ⟨z,rfl⟩)
    ·rename_i z1 z2;exact .inr (.inr ⟨z1,z2,h⟩)
  have mo:∀x,x≠i+1->x≠o->ju s.2 (i+1) o x=s.2 x:=λx h1 h2=>by unfold ju;rw[NI h1,NI h2]
  refine⟨nd.1,λx hx=>by have:=I.le x (inP x hx);lia,λx hx=>?_,λx y h=>?_,λx y h=>?_,λx y h=>?_,λx hx h0=>?_,λhk=>⟨λz=>(I.z hk).1 (inP 0 z),?_⟩⟩<;>dsimp only at *
  ·have:=I.le x (inP x hx);rw[mo x (by lia) (λz=>onP (z▸hx))];exact I.out x (inP x hx)
  ·rcases ms x y h with ⟨rfl,rfl⟩ | ⟨rfl,rfl⟩ | ⟨h1,h2,h3⟩
   ·unfold ju;rw[NI (by lia),NJ rfl]
   ·unfold ju;rw[NJ rfl]
   ·have hy:=I.sym x y h3;rw[mo y (λz=>by rw[z,new] at hy;cases hy) (λz=>by rw[z,on] at hy;cases hy)];exact hy
  ·rcases ms x y h with ⟨rfl,rfl⟩ | ⟨rfl,rfl⟩ | ⟨h1,h2,h3⟩
   ·lia
   ·lia
   ·exact I.irr x y h3
  ·rcases ms x y h with ⟨rfl,rfl⟩ | ⟨rfl,rfl⟩ | ⟨h1,h2,h3⟩
   ·lia
   ·lia
   ·have:=I.bd x y h3;lia
  ·by_cases z1:x=i+1
   ·exact .inr ⟨o,by unfold ju;rw[NJ z1]⟩
   ·by_cases z2:x=o
    ·exact .inr ⟨i+1,by unfold ju;rw[NI z1,NJ z2]⟩
    ·rcases I.tot x (by lia) h0 with h1 | ⟨y,h1⟩
     ·rw[e] at h1;rcases aQ.mp h1 with h2 | h2
      ·exact .inl h2
      ·simp at h2;exact absurd h2 z2
     ·exact .inr ⟨y,by rw[mo x z1 z2];exact h1⟩
  ·rw[mo 0 (by lia) (λz=>(I.z hk).1 (z▸om))];exact(I.z hk).2
def rh{k:Bool}{s:C3}{row c:Nat}:(ot k s row c).1.length=if isIn k c then s.1.length+1 else s.1.length - 1:=by
 unfold ot
 split
 ·simp
 ·cases e:s.1.getLast? with
  | none=>simp at e;simp[e]
  | some o=>simp
def qH{L R L' R':List Int}{c:Nat}(hc:c=97\/c=98\/c=99\/c=100)(h:cS L R c=some (L',R')):
  (isIn false c=false->L≠[])/\(isIn true c=false->R≠[])/\L'.length=(if isIn false c then L.length+1 else L.length - 1)/\R'.length=(if isIn true c then R.length+1 else R.length - 1):=by
 rcases hc with rfl | rfl | rfl | rfl
 ·simp only[cS,NO,Option.some.injEq,Prod.mk.injEq] at h;obtain⟨rfl,rfl⟩:=h;simp[isIn]
 ·by_cases hR:R=[]
  ·subst hR;rw[mz] at h;cases h
  ·obtain⟨Q,v,rfl⟩:=cH hR;rw[o9] at h;cases h;simp[isIn]
 ·by_cases hL:L=[]
  ·subst hL;rw[my] at h;cases h
  ·obtain⟨P,v,rfl⟩:=cH hL;rw[o8] at h;cases h;simp[isIn]
 ·by_cases hL:L=[]
  ·subst hL;rw[mw] at h;cases h
  ·by_cases hR:R=[]
   ·subst hR;rw[mt] at h;cases h
   ·obtain⟨P,x,rfl⟩:=cH hL;obtain⟨Q,y,rfl⟩:=cH hR;rw[o7] at h;by_cases e:x=y
    ·rw[NJ e] at h;cases h
    ·rw[NI e] at h;cases h;simp[isIn]
structure Run (b:Bool) (cs:List Nat) (i:Nat) (L R:List Int):Prop where
 ee:EE L R
 li:vF false b i (stN false b cs i)
 ri:vF true b i (stN true b cs i)
 ll:(stN false b cs i).1.length=L.length
 rl:(stN true b cs i).1.length=R.length
def Run.step{b:Bool}{cs:List Nat}{i c:Nat}{L R L' R':List Int}(h:Run b cs i L R)(e:cs[i]? = some c)(hc:c=97\/c=98\/c=99\/c=100)(g:cS L R c=some (L',R')):Run b cs (i+1) L' R':=by
 obtain⟨n1,n2,s1,s2⟩:=qH hc g;have eg:cs.getD i 0=c:=by rw[bw,e];rfl
 have k1:isIn false c=false->(stN false b cs i).1≠[]:=λz=>by have:=c6.mpr (n1 z);exact c6.mp (by rw[h.ll];exact this)
 have k2:isIn true c=false->(stN true b cs i).1≠[]:=λz=>by have:=c6.mpr (n2 z);exact c6.mp (by rw[h.rl];exact this)
 refine⟨h.ee.go hc g,?_,?_,?_,?_⟩
 ·show vF false b (i+1) (ot false _ _ _);rw[eg];exact h.li.step k1
 ·show vF true b (i+1) (ot true _ _ _);rw[eg];exact h.ri.step k2
 ·show (ot false _ _ _).1.length=_;rw[eg,rh,s1,h.ll]
 ·show (ot true _ _ _).1.length=_;rw[eg,rh,s2,h.rl]
def Run.zero(b:Bool)(cs:List Nat):Run b cs 0 (if b then [] else [0]) (if b then [0] else []):=by
 cases b
 ·exact⟨EE.one,.zero _ _,.zero _ _,rfl,rfl⟩
 ·exact⟨EE.two,.zero _ _,.zero _ _,rfl,rfl⟩
def qg(n:Nat)(s:C3)(x:Nat):Option Nat:=if x∈s.1 then some (n+1) else s.2 x
structure Ex (n:Nat) (b:Bool) (f:Bool->Nat->Option Nat):Prop where
 sym:∀ k x y,f k x=some y->y<=n->f k y=some x
 irr:∀ k x y,f k x=some y->x<=n->y≠x
 tot:∀ k x,x<=n->(x=0->k=b)->∃ y,f k x=some y/\y<=n+1
 z:f (!b) 0=none
def fin2(b:Bool)(cs:List Nat)(k:Bool):Nat->Option Nat:=qg cs.length (stN k b cs cs.length)
def GS{b:Bool}{cs:List Nat}(h:∀k,vF k b cs.length (stN k b cs cs.length)):Ex cs.length b (fin2 b cs):=by
 refine⟨λk x y e hy=>?_,λk x y e hx=>?_,λk x hx h0=>?_,?_⟩
 ·unfold fin2 qg at e ⊢
  split at e
  ·cases e;lia
  ·have e2:=(h k).sym x y e;rw[NI (λz=>by rw[(h k).out y z] at e2;cases e2)];exact e2
 ·unfold fin2 qg at e
  split at e
  ·cases e;lia
  ·exact(h k).irr x y e
 ·unfold fin2 qg
  split
  ·exact⟨_,rfl,by lia⟩
  ·rename_i nx;rcases(h k).tot x hx h0 with h1 | ⟨y,h1⟩
   ·exact absurd h1 nx
   ·exact⟨y,h1,by have:=(h k).bd y x ((h k).sym x y h1);lia⟩
 ·unfold fin2 qg;have:=(h (!b)).z (by cases b<;>decide);rw[NI this.1];exact this.2
def pth(f:Bool->Nat->Option Nat)(b:Bool):Nat->Nat×Bool
 | 0=>(0,b)
 | i+1=>((f (pth f b i).2 (pth f b i).1).getD 0,!(pth f b i).2)
def sO{f:Bool->Nat->Option Nat}{b:Bool}:∀i j,i % 2=j % 2->(pth f b i).2=(pth f b j).2:=by
 have h:∀i,(pth f b i).2=(b ^^ decide (i % 2=1)):=by
  intro i
  induction i with
  | zero=>simp[pth]
  | succ i ih=>
   show (!(pth f b i).2)=_;rw[ih];rcases cz i with e | e
   ·have e2:(i+1) % 2=1:=by lia
    simp[e,e2]
   ·have e2:(i+1) % 2=0:=by lia
    simp[e,e2]
 intro i j e;rw[h,h,e]
structure CY (n:Nat) (b:Bool) (f:Bool->Nat->Option Nat) (N:Nat):Prop where
 le:∀ i,i<N->(pth f b i).1<=n
 st:∀ i,i<N->f (pth f b i).2 (pth f b i).1=some (pth f b (i+1)).1
section
variable {n:Nat} {b:Bool} {f:Bool->Nat->Option Nat}
def Ex.back(M:Ex n b f){N i:Nat}(V:CY n b f N)(hi:i<N)(hl:(pth f b (i+1)).1<=n):f (pth f b i).2 (pth f b (i+1)).1=some (pth f b i).1:=M.sym _ _ _ (V.st i hi) hl
def Ex.nz(M:Ex n b f){N:Nat}(V:CY n b f N)(h1:1<=N):(pth f b N).1≠0:=by
 intro h0;obtain⟨i,rfl⟩:∃i,N=i+1:=⟨N - 1,by lia⟩
 have e0:=M.back V (i:=i) (by lia) (by rw[h0];lia);rw[h0] at e0;have hb:(pth f b i).2=b:=by
  cases hh:(pth f b i).2==b with
  | true=>exact beq_iff_eq.mp hh
  | false=>
   have:(pth f b i).2=!b:=by
    have:=beq_eq_false_iff_ne.mp hh;cases hb2:(pth f b i).2<;>cases b<;>simp_all
   rw[this,M.z] at e0;cases e0
 have ev:i % 2=0:=by
  rcases cz i with e | e
  ·exact e
  ·have:=sO (f:=f) (b:=b) i 1 e;rw[hb] at this;have h2:(pth f b 1).2=!b:=rfl;rw[h2] at this;cases b<;>cases this
 have pal:∀j,j<=i+1->(pth f b (i+1-j)).1=(pth f b j).1:=by
  intro j
  induction j with
  | zero=>intro _;rw[oA];exact h0
  | succ j ih=>
   intro hj;have e1:=ih (by lia);have e2:i+1-j=(i-j)+1:=by lia
   rw[e2] at e1;have hjn:j<i+1:=by lia
   have b1:=M.back V (i:=i-j) (by lia) (by rw[e1];exact V.le j hjn);rw[e1,sO (i-j) j (by lia),V.st j hjn] at b1;rw[show i+1-(j+1)=i-j by lia];exact(bH b1).symm
 have t:=pal (i / 2) (by lia);rw[show i+1-i / 2=i / 2+1 by lia] at t;exact M.irr _ _ _ (V.st (i / 2) (by lia)) (V.le _ (by lia)) t
def Jh:∀(n:Nat) (g:Nat->Nat),(∀i,i<=n->g i<n)->∃i j,i<j/\j<=n/\g i=g j
 | 0,g,h=>absurd (h 0 (by lia)) (by lia)
 | n+1,g,h=>by
  by_cases hv:∃i,i<=n/\g i=g (n+1)
  ·obtain⟨i,hi,e⟩:=hv;exact⟨i,n+1,by lia,by lia,e⟩
  ·have hv':∀i,i<=n->g i≠g (n+1):=λi hi e=>hv ⟨i,hi,e⟩;obtain⟨i,j,h1,h2,h3⟩:=Jh n (λi=>if g i=n then g (n+1) else g i) (λi hi=>by
    have a:=h i (by lia);have c:=h (n+1) (by lia);have d:=hv' i hi;show (if g i=n then g (n+1) else g i)<n
    split<;>lia)
   refine⟨i,j,h1,by lia,?_⟩;have d1:=hv' i (by lia);have d2:=hv' j (by lia)
   split at h3<;>split at h3<;>lia
def Ex.ends(M:Ex n b f):∃T,1<=T/\T<=2*n+4/\CY n b f T/\(pth f b T).1=n+1:=by
 have go:∀N,N<=2*n+4->(∃T,1<=T/\T<=2*n+4/\CY n b f T/\(pth f b T).1=n+1)\/(CY n b f N/\(pth f b N).1<=n):=by
  intro N
  induction N with
  | zero=>intro _;exact .inr ⟨⟨λi h=>by lia,λi h=>by lia⟩,bF _⟩
  | succ N ih=>
   intro hN;rcases ih (by lia) with h | ⟨V,hl⟩
   ·exact .inl h
   ·have h0:(pth f b N).1=0->(pth f b N).2=b:=λz=>by
     rcases Nat.eq_zero_or_pos N with e | e
     ·subst e;rfl
     ·exact absurd z (M.nz V e)
    obtain⟨y,e1,e2⟩:=M.tot _ _ hl h0;have ey:(pth f b (N+1)).1=y:=by show (f _ _).getD 0=y;rw[e1];rfl
    have V':CY n b f (N+1):=⟨λi hi=>by
      rcases gc i N with h | h
      ·exact V.le i h
      ·rw[show i=N by lia];exact hl,λi hi=>by
      rcases gc i N with h | h
      ·exact V.st i h
      ·rw[show i=N by lia,ey];exact e1⟩
    by_cases hy:y=n+1
    ·exact .inl ⟨N+1,by lia,hN,V',ey.trans hy⟩
    ·exact .inr ⟨V',by rw[ey];lia⟩
 rcases go (2*n+4) (aH _) with h | ⟨V,hl⟩
 ·exact h
 ·exfalso;obtain⟨i,j,h1,h2,h3⟩:=Jh (n+1) (λi=>(pth f b (2*i)).1) (λi hi=>by have:=V.le (2*i) (by lia);lia);have bk:∀d,d<=2*i->(pth f b (2*i-d)).1=(pth f b (2*j-d)).1:=by
   intro d
   induction d with
   | zero=>intro _;exact h3
   | succ d ih=>
    intro hd;have e1:=ih (by lia);rw[show 2*i-d=(2*i-(d+1))+1 by lia,show 2*j-d=(2*j-(d+1))+1 by lia] at e1;have b1:=M.back V (i:=2*i-(d+1)) (by lia) (V.le _ (by lia));have b2:=M.back V (i:=2*j-(d+1)) (by lia) (V.le _ (by lia));rw[e1,sO (2*i-(d+1)) (2*j-(d+1)) (by lia),b2] at b1;exact(bH b1).symm
  have e0:=bk (2*i) (aH _);rw[ku] at e0;exact M.nz (N:=2*j - 2*i) ⟨λt ht=>V.le t (by lia),λt ht=>V.st t (by lia)⟩ (by lia) e0.symm
end
def qM(L:List Int)(p:Nat):Prop:=1<=p/\p<L.length/\L[p-1]?≠L[p]?
instance (L:List Int) (p:Nat):Decidable (qM L p):=by unfold qM;infer_instance
def se(L:List Int)(p:Nat):Nat:=if qM L p then 0 else if p=0 then (if L[0]? = L[1]? then 2 else 1) else if p=L.length then (if L[p-2]? = L[p-1]? then 2 else 1) else 1
def GR(L:List Int)(p:Nat):se L p<=2:=by unfold se;(repeat' split)<;>lia
def Bh{L:List Int}{p:Nat}(h:qM L p):se L p=0:=by unfold se;rw[NJ h]
def Th(L:List Int):Prop:=∀i,i+2<L.length->¬(L[i]? = L[i+1]?/\L[i+1]? = L[i+2]?)
def EW.th{R:List Int}(E:EW R):Th R:=λi hi ⟨e1,e2⟩=>by
 have e:R=R.take i++(R[i]::R[i+1]::R[i+2]::R.drop (i+3)):=by
  conv=>lhs;rw[<-gq i R]
  rw[ah (by lia:i<R.length),ah (by lia:i+1<R.length),ah (by lia:i+1+1<R.length)]
 rw[aN (by lia),aN (by lia)] at e1 e2;have a1:=bH e1;have a2:=bH e2;have hm:R[i]∈R:=fm _;have c3:3<=R.count R[i]:=by
  have c1:R.count R[i]=(R.take i++(R[i]::R[i+1]::R[i+2]::R.drop (i+3))).count R[i]:=by rw[<-e]
  rw[c1,<-a2,<-a1,cR,ic,ic,ic];lia
 have n0:=E.nn _ hm;by_cases z:R[i]=0
 ·have:=E.z1;rw[<-z] at this;lia
 ·have:=E.two _ hm (by lia);lia
def EW.three{R:List Int}(E:EW R)(h:1<R.length):3<=R.length:=by
 match R,E,h with
 | [a,b],E,_=>
  exfalso;have z:=E.z1;have na:=E.nn a (by simp);have nb:=E.nn b (by simp);by_cases ha:a=0
  ·by_cases hb:b=0
   ·subst ha hb;simp at z
   ·have:=E.two b (by simp) (by lia);subst ha;simp[cK,cC hb] at this
  ·have:=E.two a (by simp) (by lia);by_cases hb:b=a
   ·subst hb;simp[cK,ha] at z
   ·simp[cK,hb] at this
 | _::_::_::_,_,_=>simp
def wR(L R:List Int):Nat:=if L.length+R.length<=1 then 0 else 3*((L.length+R.length) / 2 - 1)+1+se (L++R.reverse) L.length
def Ew{L R:List Int}(E:EE L R):wR L R<=3*((L.length+R.length) / 2):=by
 unfold wR
 split
 ·lia
 ·have h3:3<=(L++R.reverse).length:=E.three (by simp;lia);have:=GR (L++R.reverse) L.length;simp at h3;lia
def G8{L:List Int}(th:Th L)(h3:3<=L.length):∃p,qM L p:=by
 by_cases h:L[0]? = L[1]?
 ·exact⟨2,by lia,by lia,λz=>th 0 (by lia) ⟨h,z⟩⟩
 ·exact⟨1,by lia,by lia,h⟩
structure C4 (L:List Int) (p best:Nat):Prop where
 d:qM L best
 m:∀ k,qM L k->((best:Int) - p).natAbs<=((k:Int) - p).natAbs
def GN{L:List Int}{p best:Nat}(th:Th L)(h3:3<=L.length)(hp:p<=L.length)(N:C4 L p best)(h:best<p):se L (p - 1)+1<=se L p:=by
 have nd:¬qM L p:=λz=>by have:=N.m p z;lia
 obtain⟨b1,b2,b3⟩:=N.d;unfold se;rw[NI nd,NI (by lia:¬p=0)];by_cases hl:p=L.length
 ·rw[NJ hl];by_cases e:L[p-2]? = L[p-1]?
  ·rw[NJ e];have e1:¬qM L (p - 1):=λz=>z.2.2 (by rw[show p - 1 - 1=p - 2 by lia];exact e);rw[NI e1,NI (by lia),NI (by lia)];lia
  ·rw[NI e];have e1:qM L (p - 1):=⟨by lia,by lia,by rw[show p - 1 - 1=p - 2 by lia];exact e⟩
   rw[NJ e1];lia
 ·rw[NI hl];have ee:L[p-1]? = L[p]?:=ja λz=>nd ⟨by lia,by lia,z⟩;have b4:best=p - 1:=by
   rcases(show p=1\/2<=p by lia) with e | e
   ·lia
   ·have:=th (p - 2) (by lia);rw[show p - 2+1=p - 1 by lia,show p - 2+2=p by lia] at this;have e1:qM L (p - 1):=⟨by lia,by lia,by rw[show p - 1 - 1=p - 2 by lia];exact λz=>this ⟨z,ee⟩⟩
    have:=N.m _ e1;lia
  rw[<-b4,NJ N.d];lia
def GO{L:List Int}{p best:Nat}(th:Th L)(h3:3<=L.length)(hp:p<=L.length)(N:C4 L p best)(h:p<best):se L (p+1)+1<=se L p:=by
 have nd:¬qM L p:=λz=>by have:=N.m p z;lia
 obtain⟨b1,b2,b3⟩:=N.d;by_cases h0:p=0
 ·subst h0;have m0:se L 0=if L[0]? = L[1]? then 2 else 1:=by unfold se;rw[NI nd,NJ rfl]
  by_cases e:L[0]? = L[1]?
  ·have e1:¬qM L 1:=λz=>z.2.2 e;have m1:se L 1=1:=by unfold se;rw[NI e1,NI (by lia),NI (by lia)]
   rw[m0,NJ e,m1];lia
  ·have e1:qM L 1:=⟨by lia,by lia,e⟩
   rw[m0,NI e,Bh e1];lia
 ·have mp:se L p=1:=by unfold se;rw[NI nd,NI h0,NI (by lia)]
  have ee:L[p-1]? = L[p]?:=ja λz=>nd ⟨by lia,by lia,z⟩;have b4:best=p+1:=by
   rcases(show p+1=L.length\/p+1<L.length by lia) with e | e
   ·lia
   ·have:=th (p - 1) (by lia);rw[show p - 1+1=p by lia,show p - 1+2=p+1 by lia] at this;have e1:qM L (p+1):=⟨by lia,by lia,by rw[show p+1 - 1=p by lia];exact λz=>this ⟨ee,z⟩⟩
    have:=N.m _ e1;lia
  rw[mp,<-b4,Bh N.d];lia
def zb(p best:Nat):Nat:=if best=p then 100 else if best<p then 99 else 98
def CU{L R:List Int}{best:Nat}(E:EE L R)(h:1<L.length+R.length)(N:C4 (L++R.reverse) L.length best):∃L' R',cS L R (zb L.length best)=some (L',R')/\EE L' R'/\wR L' R'+1<=wR L R:=by
 have hl:(L++R.reverse).length=L.length+R.length:=by simp
 have h3:3<=(L++R.reverse).length:=E.three (by lia);have th:Th (L++R.reverse):=E.th;obtain⟨b1,b2,b3⟩:=N.d;have p1:wR L R=3*((L.length+R.length) / 2 - 1)+1+se (L++R.reverse) L.length:=by unfold wR;rw[NI (by lia)]
 unfold zb;by_cases e:best=L.length
 ·rw[NJ e];have hL:L≠[]:=λz=>by rw[z] at e;simp at e;lia
  have hR:R≠[]:=λz=>by rw[z] at b2;simp at b2;lia
  obtain⟨P,x,rfl⟩:=cH hL;obtain⟨Q,y,rfl⟩:=cH hR;have hxy:x≠y:=λz=>b3 (by
   subst z e;simp[List.getElem?_append])
  rw[o7,NI hxy];have E':=E.d hxy;refine⟨_,_,rfl,E',?_⟩;have:=Ew E';rw[aE,aE] at this;rw[p1];simp only[af,fQ];simp only[af,fQ] at h hl;lia
 ·rw[NI e];by_cases c:best<L.length
  ·rw[NJ c];have hL:L≠[]:=λz=>by rw[z] at c;simp at c
   obtain⟨P,x,rfl⟩:=cH hL;rw[o8];have E':=E.c;refine⟨_,_,rfl,E',?_⟩;have nc:=GN th h3 (by simp) N c;have er:P++(R++[x]).reverse=(P++[x])++R.reverse:=by simp
   have p2:wR P (R++[x])=3*(((P++[x]).length+R.length) / 2 - 1)+1+se ((P++[x])++R.reverse) ((P++[x]).length - 1):=by
    unfold wR;have hh:P.length+(R++[x]).length=(P++[x]).length+R.length:=by simp;lia
    rw[hh,NI (by lia),er];congr 2;simp
   rw[p1,p2];lia
  ·rw[NI c];have hR:R≠[]:=λz=>by rw[z] at b2;simp at b2;lia
   obtain⟨Q,y,rfl⟩:=cH hR;rw[o9];have E':=E.b;refine⟨_,_,rfl,E',?_⟩;have nb:=GO th h3 (by simp) N (by lia);have er:(L++[y])++Q.reverse=L++(Q++[y]).reverse:=by simp
   have p2:wR (L++[y]) Q=3*((L.length+(Q++[y]).length) / 2 - 1)+1+se (L++(Q++[y]).reverse) (L.length+1):=by
    unfold wR;have hh:(L++[y]).length+Q.length=L.length+(Q++[y]).length:=by simp;lia
    rw[hh,NI (by lia),er];congr 2;simp
   rw[p1,p2];lia
def iN{L R L' R':List Int}{c:Nat}(hc:c=97\/c=98\/c=99\/c=100)(h:cS L R c=some (L',R')):L'.length+R'.length<=L.length+R.length+2:=by
 obtain⟨_,_,s1,s2⟩:=qH hc h
 split at s1<;>split at s2<;>lia
def I9(L R:List Int):∃L' R',cS L R 97=some (L',R'):=⟨_,_,rfl⟩
end Rm
namespace Rm
open PySem L2
structure View where
 φ:Hp->Hp
 ok:Hp->Prop
 new:∀ {H t o},ok H->H t=none->ok (upd H t o)/\aV (φ H) (φ (upd H t o))/\φ (upd H t o) t=some o
def View.all:View:=⟨id,λ_=>True,λ_ h=>⟨trivial,(aV.refl _).new h,aG⟩⟩
def View.but(m:Addr):View:=⟨λH=>wo H m,λH=>∃o,H m=some o,fun {H t o} ⟨u,hu⟩ h=>⟨⟨u,by rw[aR (ak hu h)];exact hu⟩,vH h,E6 (ak hu h).symm aG⟩⟩
structure DE (w:View) (σ:St) (H0:Hp) (te:TE) (d:PyData):Prop where
 run:∀ (H:Hp) (Q:VK),w.ok H->aV H0 H->aV (w.φ H0) (w.φ H)->(∀ x H',w.ok H'->aV H H'->aV (w.φ H) (w.φ H')->Dat (w.φ H') x d->Q x H')->te σ H Q
structure DA (w:View) (σ:St) (H0:Hp) (ta:TA) (ds:List PyData):Prop where
 run:∀ (H:Hp) (Q:List V->Hp->Prop),w.ok H->aV H0 H->aV (w.φ H0) (w.φ H)->(∀ xs H',w.ok H'->aV H H'->aV (w.φ H) (w.φ H')->gj (w.φ H') xs ds->Q xs H')->ta σ H Q
abbrev tK (cs:List Nat):Prop:=∀c∈cs,iM c
def F5(b:Bool):Nat:=if b then 114 else 108
def bL(b:Bool):List Int:=if b then [] else [0]
def bR(b:Bool):List Int:=if b then [0] else []
def nS(b:Bool):jP (F5 b)=(bL b,bR b):=by cases b<;>rfl
def Hq(b:Bool):sd b=⟨#[F5 b]⟩:=by cases b<;>decide +kernel
def pZ{b:Bool}{cs:List Nat}(hl:tK cs)(h:fM (bL b) (bR b) cs 0=none):∀i,i<=cs.length->∃L R,Run b cs i L R/\fM L R (cs.drop i) i=none
 | 0,_=>⟨_,_,Run.zero b cs,by rw[fe];exact h⟩
 | i+1,hi=>by
  obtain⟨L,R,r,e⟩:=pZ hl h i (by lia);have hc:cs[i]? = some cs[i]:=aN (by lia);have lt:=hl _ (bB hc);rw[ah (by lia:i<cs.length)] at e;cases g:cS L R cs[i] with
  | none=>rw[kd g] at e;cases e
  | some p=>
   obtain⟨L',R'⟩:=p;rw[je g] at e;exact⟨L',R',r.step hc lt g,e⟩
def xX{b:Bool}{cs:List Nat}(hl:tK cs)(h:fM (bL b) (bR b) cs 0=none):∃L R,Run b cs cs.length L R/\L.length+R.length=1:=by
 obtain⟨L,R,r,e⟩:=pZ hl h cs.length (aH _);rw[iR] at e;refine⟨L,R,r,?_⟩;unfold fM at e
 split at e
 ·assumption
 ·cases e
def vS{b:Bool}{cs:List Nat}(hl:tK cs)(h:fM (bL b) (bR b) cs 0=none)(k:Bool)(i:Nat)(hi:i<cs.length)(hk:isIn k (cs.getD i 0)=false):(stN k b cs i).1≠[]:=by
 obtain⟨L,R,r,e⟩:=pZ hl h i (by lia);have hc:cs[i]? = some cs[i]:=aN (by lia);have lt:=hl _ (bB hc);rw[ah (by lia:i<cs.length)] at e;have eg:cs.getD i 0=cs[i]:=by rw[bw,hc];rfl
 rw[eg] at hk;cases g:cS L R cs[i] with
 | none=>rw[kd g] at e;cases e
 | some p=>
  obtain⟨L',R'⟩:=p;obtain⟨n1,n2,_,_⟩:=qH lt g;cases k
  ·exact c6.mp (by rw[r.ll];exact c6.mpr (n1 hk))
  ·exact c6.mp (by rw[r.rl];exact c6.mpr (n2 hk))
def xY{b:Bool}{cs:List Nat}(hl:tK cs)(h:fM (bL b) (bR b) cs 0=none):Ex cs.length b (fin2 b cs):=by
 obtain⟨L,R,r,_⟩:=xX hl h;exact GS λk=>by cases k;exact r.li;exact r.ri
structure i7 (kvs:List (Key×V)) (n:Nat) (m:Nat->Option Nat):Prop where
 get:∀ r,r<=n->gY kvs (.inl (r:Int):Key)=(m r).map fun x=>V.int (x:Nat)
 len:kvs.length<=100
def i7.nil{n:Nat}:i7 [] n (λ_=>none):=⟨λ_ _=>rfl,by decide⟩
def ordF(f:Bool->Nat->Option Nat)(b:Bool)(n:Nat):List Int:=(List.range n).map λi=>((pth f b (i+1)).1:Int)
def wV(H:Hp)(a:Addr)(b:Bool)(cs:List Nat):Prop:=∃o T,H a=some (.tup [.str (sd b),.ref o])/\1<=T/\T<=2*cs.length+4/\CY cs.length b (fin2 b cs) T/\(pth (fin2 b cs) b T).1=cs.length+1/\H o=some (.tup ((ordF (fin2 b cs) b (T - 1)).map V.int))
def xE:Sp:=λvs H Q _=>∃(k b:Bool) (cs:List Nat),vs=[.str (tx cs),.str (tx [97,if k then 99 else 98]),.bl (decide (k=b))]/\tK cs/\cs.length<=20/\(∀i,i<cs.length->isIn k (cs.getD i 0)=false->(stN k b cs i).1≠[]) ∧
 ∀d kvs H',aV H H'->H d=none->H' d=some (.dK kvs)->i7 kvs cs.length (fin2 b cs k)->Q (.ref d) H'
def i7.put{kvs:List (Key×V)}{n a b:Nat}{m:Nat->Option Nat}(h:i7 kvs n m)(hl:kvs.length<100):i7 (putK kvs (.inl (a:Int):Key) (.int (b:Nat))) n (λx=>if x=a then some b else m x):=by
 refine⟨λr hr=>?_,by have:=cj kvs (.inl (a:Int):Key) (.int (b:Nat));lia⟩;rw[pK];by_cases e:r=a
 ·subst e;rw[NJ rfl,NJ rfl];rfl
 ·have ne:¬((.inl (r:Int):Key)=.inl (a:Int)):=λz=>e (by have:=Sum.inl.inj z;lia);rw[NI ne,NI e];exact h.get r hr
def i7.congr{kvs:List (Key×V)}{n:Nat}{m m':Nat->Option Nat}(h:i7 kvs n m)(e:∀x,x<=n->m x=m' x):i7 kvs n m':=⟨λr hr=>by rw[h.get r hr,e r hr],h.len⟩
def Do{m:Nat->Option Nat}{a o:Nat}(h:o≠a):(λx=>if x=o then some a else (λx=>if x=a then some o else m x) x)=ju m a o:=by
 funext x;unfold ju;by_cases e:x=a
 ·subst e;simp[cC h]
 ·simp[e]
def Bk{m:Nat->Option Nat}{a o:Nat}(h:o≠a):(λx=>if x=a then some o else (λx=>if x=o then some a else m x) x)=ju m a o:=by
 funext x;unfold ju;rfl
def zU(n:Nat)(W:List Nat)(m:Nat->Option Nat)(j:Nat):Nat->Option Nat:=λx=>if x∈W.take j then some (n+1) else m x
def zT{n o j:Nat}{W:List Nat}{m:Nat->Option Nat}(h:W[j]? = some o):(λx=>if x=o then some (n+1) else zU n W m j x)=zU n W m (j+1):=by
 funext x;unfold zU;rw[bW,h];by_cases e:x=o
 ·subst e;simp
 ·simp[e]
def ou(k b:Bool)(cs:List Nat):∀i,(stN k b cs i).1.length<=i+1
 | 0=>by unfold stN tM;dsimp only;split<;>simp
 | i+1=>by
  have:=ou k b cs i;show (ot k _ _ _).1.length<=_;rw[rh]
  split<;>lia
def uL{f:Bool->Nat->Option Nat}{b:Bool}(i:Nat):(pth f b (i+1)).2=!(pth f b i).2:=rfl
def rF{f:Bool->Nat->Option Nat}{b:Bool}(i:Nat):ordF f b (i+1)=ordF f b i++[((pth f b (i+1)).1:Int)]:=by unfold ordF;rw[gD,aO];rfl
def uR{f:Bool->Nat->Option Nat}{b:Bool}(i:Nat):(ordF f b i).length=i:=by simp[ordF]
def CZ{n:Nat}{b:Bool}{f:Bool->Nat->Option Nat}{T T':Nat}(V:CY n b f T)(e:(pth f b T).1=n+1)(V':CY n b f T')(e':(pth f b T').1=n+1):T=T':=by
 rcases Nat.lt_trichotomy T T' with h | h | h
 ·have:=V'.le T h;lia
 ·exact h
 ·have:=V.le T' h;lia
def SS(b:Bool)(cs:List Nat)(u:Bool)(i:Nat):C3:=if i<=cs.length then stN u b cs i else ([],fin2 b cs u)
def xH:Sp:=λvs H Q _=>∃(b:Bool) (cs:List Nat),vs=[.str (sd b),.str (tx cs)]/\tK cs/\cs.length<=20/\fM (bL b) (bR b) cs 0=none ∧
 ∀o T H',aV H H'->1<=T->CY cs.length b (fin2 b cs) T->(pth (fin2 b cs) b T).1=cs.length+1->H' o=some (.tup ((ordF (fin2 b cs) b (T - 1)).map V.int))->Q (.ref o) H'
structure OS (H:Hp) (ls lr:Addr) (A D:Bool->Addr):Prop where
 l:H ls=some (.lst [.ref (A false),.ref (A true)])
 r:H lr=some (.lst [.ref (D false),.ref (D true)])
structure vD (H:Hp) (A D:Bool->Addr) (b:Bool) (cs:List Nat) (u:Bool) (i:Nat):Prop where
 st:H (A u)=some (.lst (iK (SS b cs u i).1))
 rw:∃ kk,H (D u)=some (.dK kk)/\kk.length<=2 * i/\i7 kk cs.length (SS b cs u i).2
 le:∀ x∈(SS b cs u i).1,x<=i
structure EU (ls lr:Addr) (A D:Bool->Addr):Prop where
 aa:A false≠A true
 dd:D false≠D true
 ad:∀ u v,A u≠D v
 la:∀ u,ls≠A u
 ld:∀ u,ls≠D u
 ra:∀ u,lr≠A u
 rd:∀ u,lr≠D u
def EV{b:Bool}{cs:List Nat}{u:Bool}{i c:Nat}(h:cs[i]? = some c):SS b cs u i=stN u b cs i/\SS b cs u (i+1)=ot u (SS b cs u i) (i+1) c:=by
 have hi:=(aJ.mp h).1;unfold SS;rw[NJ (by lia),NJ (by lia)];refine⟨rfl,?_⟩;show ot u _ _ _=_;rw[bw,h];rfl
def tI{b:Bool}{cs:List Nat}{u:Bool}:SS b cs u cs.length=stN u b cs cs.length/\SS b cs u (cs.length+1)=([],fin2 b cs u):=by
 unfold SS;rw[NJ (aH _),NI (by lia)];exact⟨rfl,rfl⟩
def EF{b:Bool}{cs:List Nat}{u:Bool}{o:Nat}(h:(stN u b cs cs.length).1=[o]):∀x,x<=cs.length->(λx=>if x=cs.length+1 then some o else (λx=>if x=o then some (cs.length+1) else (stN u b cs cs.length).2 x) x) x=fin2 b cs u x:=λx hx=>by
 unfold fin2 qg;rw[h];dsimp only;rw[NI (by lia)];simp
def CJ{b:Bool}{cs:List Nat}{u:Bool}(h:(stN u b cs cs.length).1=[]):fin2 b cs u=(stN u b cs cs.length).2:=by
 funext x;unfold fin2 qg;rw[h];simp
def BY{b:Bool}{cs:List Nat}{u:Bool}(hl:tK cs)(h:fM (bL b) (bR b) cs 0=none):(stN u b cs cs.length).1=[]\/∃o,(stN u b cs cs.length).1=[o]:=by
 obtain⟨L,R,r,e⟩:=xX hl h;have hz:(stN u b cs cs.length).1.length<=1:=by cases u;rw[r.ll];lia;rw[r.rl];lia
 match hh:(stN u b cs cs.length).1 with
 | []=>exact .inl rfl
 | [o]=>exact .inr ⟨o,rfl⟩
 | _::_::_=>rw[hh] at hz;simp at hz
section
variable {H:Hp} {ls lr:Addr} {A D:Bool->Addr} {b:Bool} {cs:List Nat} {u v:Bool} {i:Nat} {o:HO}
def EU.av(S:EU ls lr A D)(h:v≠u):A v≠A u:=by
 have:=S.aa;cases u<;>cases v<;>first | exact absurd rfl h | exact this | exact this.symm
def EU.dv(S:EU ls lr A D)(h:v≠u):D v≠D u:=by
 have:=S.dd;cases u<;>cases v<;>first | exact absurd rfl h | exact this | exact this.symm
def OS.updA(S:EU ls lr A D)(h:OS H ls lr A D):OS (upd H (A u) o) ls lr A D:=⟨by rw[aR (S.la u)];exact h.l,by rw[aR (S.ra u)];exact h.r⟩
def OS.updD(S:EU ls lr A D)(h:OS H ls lr A D):OS (upd H (D u) o) ls lr A D:=⟨by rw[aR (S.ld u)];exact h.l,by rw[aR (S.rd u)];exact h.r⟩
def vD.updA(S:EU ls lr A D)(hv:v≠u)(h:vD H A D b cs v i):vD (upd H (A u) o) A D b cs v i:=
 ⟨by rw[aR (S.av hv)];exact h.st,let ⟨kk,a,c⟩:=h.rw;⟨kk,by rw[aR (S.ad u v).symm];exact a,c⟩,h.le⟩
def vD.updD(S:EU ls lr A D)(hv:v≠u)(h:vD H A D b cs v i):vD (upd H (D u) o) A D b cs v i:=
 ⟨by rw[aR (S.ad v u)];exact h.st,let ⟨kk,a,c⟩:=h.rw;⟨kk,by rw[aR (S.dv hv)];exact a,c⟩,h.le⟩
end
def G6 {u:Bool} {c:Nat} (h:iM c):(Builtin.Str.occurrences (if u then Str.ofString "bd" else Str.ofString "cd") ⟨#[c]⟩ 0 (if u then Str.ofString "bd" else Str.ofString "cd").length 1).isEmpty=isIn u c:=by
 cases u<;>rcases h with rfl | rfl | rfl | rfl<;>decide +kernel
def qy:Sp:=λvs H Q _=>∃(a:Addr) (L R:List Int),vs=[.ref a]/\fR H a L R/\EE L R/\1<L.length+R.length/\L.length+R.length<=100/\∀best H',aV H H'->C4 (L++R.reverse) L.length best->Q (.str ⟨#[zb L.length best]⟩) H'
def C7(L:List Int)(p i:Nat)(v:V):Prop:=(v=.non/\∀k,k<i->¬qM L k)\/∃best:Nat,v=.int best/\qM L best/\∀k,k<i->qM L k->((best:Int)-p).natAbs<=((k:Int)-p).natAbs
def CS{tc:TT}{σ:L2.St}{H:Hp}{C0:Bool->Hp->Prop}(P:Bool->Hp->Prop)(h:∀C:Bool->Hp->Prop,(∀k H',P k H'->C k H')->tc σ H C)(hk:∀k H',P k H'->C0 k H'):tc σ H C0:=h C0 hk
def Bn{cs:List Nat}{c:Nat}(h:tK cs)(hc:iM c):tK (cs++[c]):=λx hx=>by
 rcases aQ.mp hx with h1 | h1
 ·exact h x h1
 ·simp at h1;subst h1;exact hc
def ER (r:Int):∃c:Nat,oj (Str.ofString "abcd").cps.toList (r % 4)=some c/\iM c:=by
 have h:r % 4=0\/r % 4=1\/r % 4=2\/r % 4=3:=by lia
 rcases h with e | e | e | e<;>rw[e]
 ·exact⟨97,by decide +kernel,.inl rfl⟩
 ·exact⟨98,by decide +kernel,.inr (.inl rfl)⟩
 ·exact⟨99,by decide +kernel,.inr (.inr (.inl rfl))⟩
 ·exact⟨100,by decide +kernel,.inr (.inr (.inr rfl))⟩
def CV(p best:Nat):iM (zb p best):=by
 unfold zb
 split
 ·exact .inr (.inr (.inr rfl))
 ·split
  ·exact .inr (.inr (.inl rfl))
  ·exact .inr (.inl rfl)
abbrev Oe:=Int×Int
def chain:Bool->List Int->Bool->List Bw
 | s,a::b::rest,t=>(if (!s)=t then [(min a b,max a b)] else [])++chain (!s) (b::rest) t
 | _,_,_=>[]
def ef(s:Bool)(R:List Int):Bool:=s ^^ odd R.length
def xx(R:List Int):Int:=R.head?.getD 0
def ltZ(R:List Int):Int:=R.getLast?.getD 0
def qE(s:Bool)(a:Int)(R:List Int):ef s (a::R)=ef (!s) R:=by
 unfold ef;rw[cM,kH];cases s<;>cases odd R.length<;>rfl
def vv(s:Bool)(R:List Int)(r:Int):ef s (R++[r])=!ef s R:=by
 unfold ef;rw[af,fQ,kH];cases s<;>cases odd R.length<;>rfl
def Bo(R:List Int)(r:Int):ltZ (R++[r])=r:=by simp[ltZ]
def Bp(a b:Int)(R:List Int):ltZ (a::b::R)=ltZ (b::R):=by simp[ltZ]
def xv(R:List Int):xx R.reverse=ltZ R:=by simp[xx,ltZ]
def sg(R:List Int):ltZ R.reverse=xx R:=by simp[xx,ltZ]
def xw{R S:List Int}(h:R≠[]):xx (R++S)=xx R:=by cases R with | nil=>exact absurd rfl h | cons a R=>rfl
def xm{R S:List Int}(h:S≠[]):ltZ (R++S)=ltZ S:=by
 unfold ltZ;rw[List.getLast?_append];cases e:S.getLast? with
 | none=>exact absurd (List.getLast?_eq_none_iff.mp e) h
 | some x=>rfl
def nE:∀{R:List Int} (s:Bool) (r:Int) (S:List Int) (t:Bool),R≠[]->chain s (R++r::S) t=chain s R t++(if ef s R=t then [(min (ltZ R) r,max (ltZ R) r)] else [])++chain (ef s R) (r::S) t
 | [a],s,r,S,t,_=>by
  show (if (!s)=t then [(min a r,max a r)] else [])++chain (!s) (r::S) t=[]++_++_;have e:ef s [a]=!s:=by cases s<;>rfl
  rw[e];rfl
 | a::b::R,s,r,S,t,_=>by
  show (if (!s)=t then [(min a b,max a b)] else [])++chain (!s) ((b::R)++r::S) t=((if (!s)=t then [(min a b,max a b)] else [])++chain (!s) (b::R) t)++_++_;rw[nE (!s) r S t (by simp),qE s a (b::R),Bp];simp only[ai]
def chain_snoc{R:List Int}(s:Bool)(r:Int)(t:Bool)(h:R≠[]):chain s (R++[r]) t=chain s R t++(if ef s R=t then [(min (ltZ R) r,max (ltZ R) r)] else []):=by
 rw[nE s r [] t h];show _++[]=_;rw[bb]
def oU:∀(R:List Int) (s t:Bool),(chain (ef s R) R.reverse t).Perm (chain s R t)
 | [],_,_=>.refl _
 | [a],s,t=>.refl _
 | a::b::R,s,t=>by
  have ih:=oU (b::R) (!s) t;rw[List.reverse_cons,qE,chain_snoc _ _ _ (by simp)];have e:ef (ef (!s) (b::R)) (b::R).reverse=!s:=by
   unfold ef;rw[eX];cases s<;>cases odd (b::R).length<;>rfl
  rw[e,sg];show (chain (ef (!s) (b::R)) (b::R).reverse t++(if (!s)=t then [(min b a,max b a)] else [])).Perm ((if (!s)=t then [(min a b,max a b)] else [])++chain (!s) (b::R) t);rw[Int.min_comm b a,Int.max_comm b a];exact c9.trans (ih.append_left _)
structure Pc where
 lab:Int
 rows:List Int
 s:Bool
 main:Bool
def Pc.fst(p:Pc):Oe×Bool:=((xx p.rows,p.lab),p.s)
def Pc.lst(p:Pc):Oe×Bool:=((ltZ p.rows,p.lab),ef p.s p.rows)
def Pc.more(p:Pc):List (Oe×Bool):=if p.main then [] else [p.fst]
def Pc.ends(p:Pc):List (Oe×Bool):=p.lst::p.more
def Pc.rev(p:Pc):Pc:={ p with rows:=p.rows.reverse,s:=ef p.s p.rows }
def Pc.bows(t:Bool)(p:Pc):List Bw:=chain p.s p.rows t
def sM(p:Pc):p.rev.lst=p.fst:=by
 show ((ltZ p.rows.reverse,p.lab),ef (ef p.s p.rows) p.rows.reverse)=((xx p.rows,p.lab),p.s)
 rw[sg];congr 1;unfold ef;rw[eX];cases p.s<;>cases odd p.rows.length<;>rfl
def Cz(p:Pc):p.rev.fst=p.lst:=by
 show ((xx p.rows.reverse,p.lab),ef p.s p.rows)=_;rw[xv];rfl
def dX(st:Bool->List Oe):List (Oe×Bool):=(st false).map (·,false)++(st true).map (·,true)
def km{st:Bool->List Oe}{t:Bool}{st':List Oe}{e:Oe}(h:st t=st'++[e]):(dX st).Perm ((e,t)::dX λu=>if u=t then st' else st u):=by
 unfold dX;cases t with
 | false=>
  simp only[h,NO,Bool.true_eq_false,NP,aO,aY,fk,ai,eu,bM];exact cu
 | true=>
  simp only[h,NO,dH,NP,aO,aY,fk];rw[<-ai];exact c9
def ly{st:Bool->List Oe}{t:Bool}{e:Oe}:(dX λu=>if u=t then st u++[e] else st u).Perm ((e,t)::dX st):=by
 have h:=km (st:=λu=>if u=t then st u++[e] else st u) (t:=t) (st':=st t) (e:=e) (by simp);refine h.trans ?_;have:(λu=>if u=t then st t else if u=t then st u++[e] else st u)=st:=by
  funext u;by_cases z:u=t
  ·simp[z]
  ·simp[z]
 rw[this]
structure qp (st:List Oe) (f:List Bw) (r:Nat):Prop where
 inc:st.Pairwise fun a b=>a.1<b.1
 low:∀ e∈st,0<=e.1/\e.1<r
 bow:∀ p∈f,0<=p.1/\p.1<p.2/\p.2<r
 nc:∀ p∈f,∀ q∈f,fN p q=false
 un:∀ p∈f,∀ e∈st,¬ (p.1<e.1/\e.1<p.2)
def qp.push{st:List Oe}{f:List Bw}{r:Nat}(S:qp st f r)(l:Int):qp (st++[((r:Int),l)]) f (r+1):=by
 refine⟨i9.mpr ⟨S.inc,by simp,λa ha b hb=>?_⟩,λe h=>?_,λp h=>by have:=S.bow p h;lia,S.nc,λp hp e h=>?_⟩
 ·have e:b=((r:Int),l):=by simpa using hb
  subst e;exact(S.low a ha).2
 ·rcases aQ.mp h with z | z
  ·have:=S.low e z;lia
  ·have e':e=((r:Int),l):=by simpa using z
   subst e';simp only;lia
 ·rcases aQ.mp h with z | z
  ·exact S.un p hp e z
  ·have e':e=((r:Int),l):=by simpa using z
   subst e';have:=S.bow p hp;simp only;lia
def qp.close{st:List Oe}{f:List Bw}{r:Nat}{o l:Int}(S:qp (st++[(o,l)]) f r):qp st (f++[(o,(r:Int))]) (r+1):=by
 have ho:=S.low (o,l) (by simp);simp only at ho;have low:∀e∈st,e.1<o:=λe he=>(i9.mp S.inc).2.2 e he (o,l) (by simp);have cr:∀p q:Bw,(¬(p.1<q.1/\q.1<p.2/\p.2<q.2))->fN p q=false:=λp q h=>by
  unfold fN;by_cases a:p.1<q.1
  ·by_cases b:q.1<p.2
   ·have c:¬p.2<q.2:=λc=>h ⟨a,b,c⟩;simp[c]
   ·simp[b]
  ·simp[a]
 refine⟨(i9.mp S.inc).1,λe h=>by have:=S.low e (bG _ h);lia,λp h=>?_,λp hp q hq=>?_,λp hp e h=>?_⟩
 ·rcases aQ.mp h with z | z
  ·have:=S.bow p z;lia
  ·have e':p=(o,(r:Int)):=by simpa using z
   subst e';simp only;lia
 ·rcases aQ.mp hp with z | z
  ·rcases aQ.mp hq with y | y
   ·exact S.nc p z q y
   ·have e':q=(o,(r:Int)):=by simpa using y
    subst e';have h1:=S.un p z (o,l) (by simp);exact cr _ _ λh=>h1 ⟨h.1,h.2.1⟩
  ·have e':p=(o,(r:Int)):=by simpa using z
   subst e';rcases aQ.mp hq with y | y
   ·have h1:=S.bow q y;exact cr _ _ λh=>by simp only at h;lia
   ·have e':q=(o,(r:Int)):=by simpa using y
    subst e';exact cr _ _ λh=>by simp only at h;lia
 ·have h1:=low e h;rcases aQ.mp hp with z | z
  ·exact S.un p z e (bG _ h)
  ·have e':p=(o,(r:Int)):=by simpa using z
   subst e';simp only;lia
def qp.map{st:List Oe}{f:List Bw}{r:Nat}(S:qp st f r)(g:Int->Int):qp (st.map λe=>(e.1,g e.2)) f r:=by
 refine⟨?_,λe h=>?_,S.bow,S.nc,λp hp e h=>?_⟩
 ·rw[ji];exact S.inc
 ·obtain⟨x,hx,rfl⟩:=ba.mp h;exact S.low x hx
 ·obtain⟨x,hx,rfl⟩:=ba.mp h;exact S.un p hp x hx
structure Gr (b:Bool) (st:Bool->List Oe) (f:Bool->List Bw) (r:Nat) (is:List Pc):Prop where
 ne:∀ p∈is,p.rows≠[]
 rows:(is.flatMap Pc.rows).Perm (f6 0 r)
 labs:(is.map Pc.lab).Nodup
 lr:∀ p∈is,p.lab<r
 one:is.countP Pc.main=1
 hd:∀ p∈is,p.main=true->p.rows.head? = some 0/\p.s=!b
 ends:(dX st).Perm (is.flatMap Pc.ends)
 bows:∀ t,(f t).Perm (is.flatMap (Pc.bows t))
 stk:∀ t,qp (st t) (f t) r
section
variable {b:Bool} {st:Bool->List Oe} {f:Bool->List Bw} {r:Nat} {is js:List Pc} {p q:Pc}
def Gr.perm(G:Gr b st f r is)(h:is.Perm js):Gr b st f r js:=
 ⟨λp hp=>G.ne p (h.mem_iff.mpr hp),(h.flatMap_right _).symm.trans G.rows,(h.map _).nodup_iff.mp G.labs,λp hp=>G.lr p (h.mem_iff.mpr hp),(h.countP_eq _).symm.trans G.one,λp hp=>G.hd p (h.mem_iff.mpr hp),
  G.ends.trans (h.flatMap_right _),λt=>(G.bows t).trans (h.flatMap_right _),G.stk⟩
def Gr.flip(G:Gr b st f r (p::is))(h:p.main=false):Gr b st f r (p.rev::is):=by
 have more:p.more=[p.fst]:=by unfold Pc.more;rw[h];rfl
 have more':p.rev.more=[p.lst]:=by
  unfold Pc.more;rw[show p.rev.main=false from h,Cz];rfl
 refine⟨λq hq=>?_,?_,G.labs,λq hq=>?_,?_,λq hq hm=>?_,?_,λt=>?_,G.stk⟩
 ·rcases aI.mp hq with z | z
  ·subst z;exact λe=>G.ne p aq (kU.mp e)
  ·exact G.ne q (aM _ z)
 ·exact((List.reverse_perm p.rows).append_right _).trans G.rows
 ·rcases aI.mp hq with z | z
  ·subst z;exact G.lr p aq
  ·exact G.lr q (aM _ z)
 ·have:=G.one;rw[cN] at this ⊢;exact this
 ·rcases aI.mp hq with z | z
  ·subst z;rw[show p.rev.main=false from h] at hm;cases hm
  ·exact G.hd q (aM _ z) hm
 ·refine G.ends.trans ?_;rw[a6,a6];refine List.Perm.append_right _ ?_;unfold Pc.ends;rw[more,more',sM];exact List.Perm.swap _ _ _
 ·refine(G.bows t).trans ?_;rw[a6,a6];exact(oU p.rows p.s t).symm.append_right _
def Gr.pick(G:Gr b st f r is){e:Oe×Bool}(h:e∈dX st):∃p js,p.lst=e/\Gr b st f r (p::js)/\∀q∈js,q∈is:=by
 obtain⟨p,hp,he⟩:=fj.mp (G.ends.mem_iff.mp h);obtain⟨A,B,rfl⟩:=dq hp;have G1:=G.perm cu;have sub:∀q∈A++B,q∈A++p::B:=λq hq=>by
  rcases aQ.mp hq with z | z
  ·exact bG _ z
  ·exact au _ (aM _ z)
 rcases aI.mp he with z | z
 ·exact⟨p,A++B,z.symm,G1,sub⟩
 ·unfold Pc.more at z;cases hm:p.main with
  | true=>rw[hm] at z;cases z
  | false=>
   rw[hm] at z;have e':e=p.fst:=by simpa using z
   exact⟨p.rev,A++B,by rw[sM,e'],G1.flip hm,sub⟩
def p7(r:Nat):f6 0 (r+1)=f6 0 r++[(r:Int)]:=by
 unfold f6;rw[gD,aO];simp
def Gr.opA(G:Gr b st f r is):Gr b (λu=>st u++[((r:Int),(r:Int))]) f (r+1) (⟨r,[(r:Int)],false,false⟩::is):=by
 refine⟨λq hq=>?_,?_,?_,λq hq=>?_,?_,λq hq hm=>?_,?_,λt=>?_,λt=>(G.stk t).push _⟩
 ·rcases aI.mp hq with z | z
  ·subst z;simp
  ·exact G.ne q z
 ·rw[p7];exact(G.rows.cons (r:Int)).trans (c9 (l₁:=[(r:Int)]) (l₂:=f6 0 r))
 ·rw[aY,ci];refine⟨λz=>?_,G.labs⟩;obtain⟨q,hq,e⟩:=ba.mp z;have:=G.lr q hq;simp only at e;lia
 ·rcases aI.mp hq with z | z
  ·subst z;simp only;lia
  ·have:=G.lr q z;lia
 ·rw[cN,G.one];rfl
 ·rcases aI.mp hq with z | z
  ·subst z;cases hm
  ·exact G.hd q z hm
 ·have h1:=ly (st:=st) (t:=false) (e:=((r:Int),(r:Int)));have h2:=ly (st:=λu=>if u=false then st u++[((r:Int),(r:Int))] else st u) (t:=true) (e:=((r:Int),(r:Int)));have e:(λu=>if u=true then (if u=false then st u++[((r:Int),(r:Int))] else st u)++[((r:Int),(r:Int))] else if u=false then st u++[((r:Int),(r:Int))] else st u)=λu=>st u++[((r:Int),(r:Int))]:=by
   funext u;cases u<;>rfl
  rw[e] at h2;refine h2.trans ((h1.cons _).trans ?_);rw[a6];exact((G.ends.cons _).cons _)
 ·refine(G.bows t).trans ?_;rw[a6];exact .refl _
def Gr.ext{t:Bool}{st':List Oe}{o l:Int}(G:Gr b st f r (p::is))(hl:p.lst=((o,l),t))(hs:st t=st'++[(o,l)]):
  Gr b (λu=>if u=t then st' else st u++[((r:Int),l)]) (λu=>if u=t then f u++[(o,(r:Int))] else f u) (r+1) ({ p with rows:=p.rows++[(r:Int)] }::is):=by
 have pne:=G.ne p aq;have e1:ltZ p.rows=o:=congrArg (λx=>x.1.1) hl;have e2:p.lab=l:=congrArg (λx=>x.1.2) hl;have e3:ef p.s p.rows=t:=congrArg (λx=>x.2) hl;have low:=(G.stk t).low (o,l) (by rw[hs];simp);simp only at low;have lst':Pc.lst { p with rows:=p.rows++[(r:Int)] }=(((r:Int),l),!t):=by
  show ((ltZ (p.rows++[(r:Int)]),p.lab),ef p.s (p.rows++[(r:Int)]))=_;rw[Bo,vv,e2,e3]
 have more':Pc.more { p with rows:=p.rows++[(r:Int)] }=p.more:=by
  unfold Pc.more Pc.fst;rw[xw pne]
 refine⟨λq hq=>?_,?_,G.labs,λq hq=>?_,?_,λq hq hm=>?_,?_,λu=>?_,λu=>?_⟩
 ·rcases aI.mp hq with z | z
  ·subst z;simp
  ·exact G.ne q (aM _ z)
 ·have h1:=G.rows;rw[a6] at h1 ⊢;rw[p7];show ((p.rows++[(r:Int)])++is.flatMap Pc.rows).Perm _;rw[ai];exact(cu (l₁:=p.rows) (a:=(r:Int)) (l₂:=is.flatMap Pc.rows)).trans ((h1.cons _).trans (c9 (l₁:=[(r:Int)])))
 ·rcases aI.mp hq with z | z
  ·subst z;have:=G.lr p aq;simp only;lia
  ·have:=G.lr q (aM _ z);lia
 ·have:=G.one;rw[cN] at this ⊢;exact this
 ·rcases aI.mp hq with z | z
  ·subst z;obtain⟨a,c⟩:=G.hd p aq hm;refine⟨?_,c⟩;show (p.rows++[(r:Int)]).head? = _;rw[List.head?_append,a];rfl
  ·exact G.hd q (aM _ z) hm
 ·have h1:=(km hs).symm.trans G.ends;rw[a6] at h1 ⊢;have h2:(dX λu=>if u=t then st' else st u).Perm (p.more++is.flatMap Pc.ends):=by
   have e:p.ends++is.flatMap Pc.ends=((o,l),t)::(p.more++is.flatMap Pc.ends):=by
    unfold Pc.ends;rw[hl];rfl
   rw[e] at h1;exact h1.cons_inv
  have e:(λu=>if u=t then st' else st u++[((r:Int),l)])=λu=>if u=(!t) then (if u=t then st' else st u)++[((r:Int),l)] else (if u=t then st' else st u):=by
   funext u;cases u<;>cases t<;>rfl
  rw[e];refine ly.trans ((h2.cons _).trans ?_);have e4:Pc.ends { p with rows:=p.rows++[(r:Int)] }=(((r:Int),l),!t)::p.more:=by
   unfold Pc.ends;rw[lst',more']
  rw[e4];exact .refl _
 ·have h1:=G.bows u;rw[a6] at h1 ⊢;have e4:Pc.bows u { p with rows:=p.rows++[(r:Int)] }=p.bows u++if u=t then [(o,(r:Int))] else []:=by
   show chain p.s (p.rows++[(r:Int)]) u=chain p.s p.rows u++_;rw[chain_snoc _ _ _ pne,e1,e3];have m1:min o (r:Int)=o:=by lia
   have m2:max o (r:Int)=(r:Int):=by lia
   rw[m1,m2];congr 1;cases t<;>cases u<;>rfl
  rw[e4];by_cases z:u=t
  ·rw[NJ z,NJ z,ai];exact(h1.append_right _).trans (by rw[ai];exact lT _ c9)
  ·rw[NI z,NI z,bb];exact h1
 ·by_cases z:u=t
  ·subst z;simp only[NO];have:=G.stk u;rw[hs] at this;exact this.close
  ·simp only[z,NP];exact(G.stk u).push l
def Gr.pick2{o1 l1 o2 l2:Int}{n' f':List Oe}(G:Gr b st f r is)(h1:st false=n'++[(o1,l1)])(h2:st true=f'++[(o2,l2)])(hne:l1≠l2):∃p q js,p.lst=((o1,l1),false)/\q.lst=((o2,l2),true)/\Gr b st f r (p::q::js):=by
 obtain⟨p,js,hp,G1,_⟩:=G.pick (e:=((o1,l1),false)) (by unfold dX;rw[h1];simp);have hm:((o2,l2),true)∈dX st:=by unfold dX;rw[h2];simp
 obtain⟨q,hq,he⟩:=fj.mp (G1.ends.mem_iff.mp hm);have lab:∀(x:Pc) e,e∈x.ends->e.1.2=x.lab:=λx e h=>by
  rcases aI.mp h with z | z
  ·subst z;rfl
  ·unfold Pc.more at z;cases hm:x.main with
   | true=>rw[hm] at z;cases z
   | false=>
    rw[hm] at z;have e':e=x.fst:=by simpa using z
    subst e';rfl
 have pl:p.lab=l1:=congrArg (λx=>x.1.2) hp;have ql:=lab q _ he;rcases aI.mp hq with z | z
 ·subst z;simp only at ql;exact absurd (pl.symm.trans ql.symm) hne
 ·obtain⟨A,B,rfl⟩:=dq z;have G2:Gr b st f r (q::p::(A++B)):=G1.perm ((cu.cons p).trans (List.Perm.swap _ _ _));rcases aI.mp he with y | y
  ·exact⟨p,q,A++B,hp,y.symm,G2.perm (List.Perm.swap _ _ _)⟩
  ·unfold Pc.more at y;cases hm:q.main with
   | true=>rw[hm] at y;cases y
   | false=>
    rw[hm] at y;have e':((o2,l2),true)=q.fst:=by simpa using y
    exact⟨p,q.rev,A++B,hp,by rw[sM,<-e'],(G2.flip hm).perm (List.Perm.swap _ _ _)⟩
def jT(x y:Int)(e:Oe):Oe:=(e.1,if e.2=x then y else e.2)
def Gr.join0{ta:Bool}{o:Bool->Int}{la lb l1 l2:Int}{st':Bool->List Oe}(G:Gr b st f r (p::q::is))(hp:p.lst=((o ta,la),ta))(hq:q.lst=((o (!ta),lb),!ta))(hs:∀u,st u=st' u++[(o u,if u=ta then la else lb)])(hm:q.main=false)(hlab:(l1=la/\l2=lb)\/(l1=lb/\l2=la)):
  Gr b (λu=>(st' u).map (jT l2 l1)) (λu=>f u++[(o u,(r:Int))]) (r+1) (⟨l1,p.rows++(r:Int)::q.rows.reverse,p.s,p.main⟩::is):=by
 have pne:=G.ne p aq;have qne:=G.ne q (aM _ aq);have qrne:q.rows.reverse≠[]:=λe=>qne (kU.mp e);have p1:ltZ p.rows=o ta:=congrArg (λx=>x.1.1) hp;have p2:p.lab=la:=congrArg (λx=>x.1.2) hp;have p3:ef p.s p.rows=ta:=congrArg (λx=>x.2) hp;have q1:ltZ q.rows=o (!ta):=congrArg (λx=>x.1.1) hq;have q2:q.lab=lb:=congrArg (λx=>x.1.2) hq;have q3:ef q.s q.rows=!ta:=congrArg (λx=>x.2) hq;have low:∀u,0<=o u/\o u<r:=λu=>(G.stk u).low (o u,if u=ta then la else lb) (by rw[hs u];simp);have nd:=G.labs;rw[aY,aY,ci,ci,p2,q2] at nd;obtain⟨n1,n2,n3⟩:=nd;have nab:la≠lb:=λe=>n1 (by rw[e];exact aq);have nla:∀x∈is,x.lab≠la:=λx hx e=>n1 (aM _ (ba.mpr ⟨x,hx,e⟩));have nlb:∀x∈is,x.lab≠lb:=λx hx e=>n2 (ba.mpr ⟨x,hx,e⟩);have n1':∀x∈is,x.lab≠l1:=λx hx=>by rcases hlab with ⟨e,_⟩ | ⟨e,_⟩<;>rw[e];exact nla x hx;exact nlb x hx
 have n2':∀x∈is,x.lab≠l2:=λx hx=>by rcases hlab with ⟨_,e⟩ | ⟨_,e⟩<;>rw[e];exact nlb x hx;exact nla x hx
 have rla:(if la=l2 then l1 else la)=l1:=by
  rcases hlab with ⟨e,e'⟩ | ⟨e,e'⟩
  ·rw[e',NI nab,e]
  ·rw[e',NJ rfl]
 have rlb:(if lb=l2 then l1 else lb)=l1:=by
  rcases hlab with ⟨e,e'⟩ | ⟨e,e'⟩
  ·rw[e',NJ rfl]
  ·rw[e',NI nab.symm,e]
 refine⟨λx hx=>?_,?_,?_,λx hx=>?_,?_,λx hx hmx=>?_,?_,λu=>?_,λu=>?_⟩
 ·rcases aI.mp hx with z | z
  ·subst z;simp
  ·exact G.ne x (aM _ (aM _ z))
 ·have h1:=G.rows;rw[a6,a6] at h1;rw[a6,p7];show ((p.rows++(r:Int)::q.rows.reverse)++is.flatMap Pc.rows).Perm _;rw[ai,eu];refine cu.trans (List.Perm.trans ?_ (c9 (l₁:=[(r:Int)])));refine List.Perm.cons _ (List.Perm.trans ?_ h1);exact lT _ ((List.reverse_perm q.rows).append_right _)
 ·rw[aY,ci];refine⟨λz=>?_,n3⟩;obtain⟨x,hx,e⟩:=ba.mp z;exact n1' x hx e
 ·rcases aI.mp hx with z | z
  ·subst z;have h1:=G.lr p aq;have h2:=G.lr q (aM _ aq);simp only;rcases hlab with ⟨e,_⟩ | ⟨e,_⟩<;>rw[e]<;>lia
  ·have:=G.lr x (aM _ (aM _ z));lia
 ·have:=G.one;rw[cN,cN,hm] at this;rw[cN];simpa using this
 ·rcases aI.mp hx with z | z
  ·subst z;obtain⟨a,c⟩:=G.hd p aq hmx;refine⟨?_,c⟩;show (p.rows++(r:Int)::q.rows.reverse).head? = _;rw[List.head?_append,a];rfl
  ·exact G.hd x (aM _ (aM _ z)) hmx
 ·have h0:(dX st).Perm (((o ta,la),ta)::((o (!ta),lb),!ta)::dX st'):=by
   have e1:(dX st).Perm _:=km (t:=ta) (hs ta);refine e1.trans ?_;rw[NJ rfl];refine List.Perm.cons _ ?_;have e2:=km (st:=λu=>if u=ta then st' ta else st u) (t:=!ta) (st':=st' (!ta)) (e:=(o (!ta),lb)) (by
    have z:¬(!ta)=ta:=by cases ta<;>decide
    simp only[z,NP];rw[hs (!ta),NI z])
   refine e2.trans (List.Perm.cons _ ?_);have:(λu=>if u=(!ta) then st' (!ta) else if u=ta then st' ta else st u)=st':=by
    funext u;cases u<;>cases ta<;>rfl
   rw[this]
  have h1:=h0.symm.trans G.ends;rw[a6,a6] at h1;have eqm:q.more=[q.fst]:=by unfold Pc.more;rw[hm];rfl
  have h2:(dX st').Perm (p.more++(q.fst::is.flatMap Pc.ends)):=by
   have e:(p.ends++(q.ends++is.flatMap Pc.ends)).Perm (((o ta,la),ta)::((o (!ta),lb),!ta)::(p.more++(q.fst::is.flatMap Pc.ends))):=by
    unfold Pc.ends;rw[hp,hq,eqm];refine List.Perm.cons _ ?_;exact cu
   exact(h1.trans e).cons_inv.cons_inv
  have hmap:(dX λu=>(st' u).map (jT l2 l1))=(dX st').map λx=>(jT l2 l1 x.1,x.2):=by
   unfold dX;rw[aO,bj,bj,bj,bj];rfl
  rw[hmap];refine(h2.map _).trans ?_;rw[aO,aY,a6];have r1:(is.flatMap Pc.ends).map (λx=>(jT l2 l1 x.1,x.2))=is.flatMap Pc.ends:=by
   have:∀x∈is.flatMap Pc.ends,(jT l2 l1 x.1,x.2)=x:=λx hx=>by
    obtain⟨y,hy,he⟩:=fj.mp hx;have:x.1.2=y.lab:=by
     rcases aI.mp he with z | z
     ·subst z;rfl
     ·unfold Pc.more at z;cases hm:y.main with
      | true=>rw[hm] at z;cases z
      | false=>
       rw[hm] at z;have e':x=y.fst:=by simpa using z
       subst e';rfl
    unfold jT;rw[NI (by rw[this];exact n2' y hy)]
   exact(cQ this).trans (List.map_id _)
  have r2:(jT l2 l1 q.fst.1,q.fst.2)=Pc.lst ⟨l1,p.rows++(r:Int)::q.rows.reverse,p.s,p.main⟩:=by
   show ((xx q.rows,if q.lab=l2 then l1 else q.lab),q.s)=((ltZ (p.rows++(r:Int)::q.rows.reverse),l1),ef p.s (p.rows++(r:Int)::q.rows.reverse))
   rw[q2,rlb,xm (by simp)];have e1:ltZ ((r:Int)::q.rows.reverse)=xx q.rows:=by
    have:(r:Int)::q.rows.reverse=[(r:Int)]++q.rows.reverse:=rfl;rw[this,xm qrne,sg]
   rw[e1];congr 1;unfold ef at p3 q3 ⊢;rw[af,cM,eX];have:odd (p.rows.length+(q.rows.length+1))=(odd p.rows.length ^^ !odd q.rows.length):=by
    unfold odd;rcases cz p.rows.length with h | h<;>rcases cz q.rows.length with h' | h'<;>simp[Nat.add_mod,h,h']
   rw[this]
   revert p3 q3
   cases p.s<;>cases q.s<;>cases odd p.rows.length<;>cases odd q.rows.length<;>cases ta<;>decide
  have r3:p.more.map (λx=>(jT l2 l1 x.1,x.2))=Pc.more ⟨l1,p.rows++(r:Int)::q.rows.reverse,p.s,p.main⟩:=by
   unfold Pc.more;cases hmp:p.main with
   | true=>rfl
   | false=>
    show [((xx p.rows,if p.lab=l2 then l1 else p.lab),p.s)]=[((xx (p.rows++(r:Int)::q.rows.reverse),l1),p.s)]
    rw[xw pne,p2,rla]
  rw[r1,r2,r3];exact cu
 ·have h1:=G.bows u;rw[a6,a6] at h1;rw[a6];have e4:(Pc.bows u ⟨l1,p.rows++(r:Int)::q.rows.reverse,p.s,p.main⟩).Perm ((o u,(r:Int))::(p.bows u++q.bows u)):=by
   show (chain p.s (p.rows++(r:Int)::q.rows.reverse) u).Perm _;rw[nE _ _ _ _ pne,p1,p3];obtain⟨x,R,hR⟩:∃x R,q.rows.reverse=x::R:=by
    cases e:q.rows.reverse with
    | nil=>exact absurd e qrne
    | cons x R=>exact⟨x,R,rfl⟩
   have hx:x=o (!ta):=by
    rw[<-q1,<-xv,hR];rfl
   have e5:chain ta ((r:Int)::q.rows.reverse) u=(if (!ta)=u then [(o (!ta),(r:Int))] else [])++chain (!ta) q.rows.reverse u:=by
    rw[hR];show (if (!ta)=u then [(min (r:Int) x,max (r:Int) x)] else [])++chain (!ta) (x::R) u=_;have:=low (!ta);rw[hx];have m1:min (r:Int) (o (!ta))=o (!ta):=by lia
    have m2:max (r:Int) (o (!ta))=(r:Int):=by lia
    rw[m1,m2]
   have m1:min (o ta) (r:Int)=o ta:=by have:=low ta;lia
   have m2:max (o ta) (r:Int)=(r:Int):=by have:=low ta;lia
   rw[e5,m1,m2];have cq:(chain (!ta) q.rows.reverse u).Perm (q.bows u):=by
    have:=oU q.rows q.s u;rw[q3] at this;exact this
   by_cases z:ta=u
   ·have z':¬(!ta)=u:=by rw[<-z];cases ta<;>decide
    rw[NJ z,NI z',<-z,bM,ai];refine(cu (l₁:=chain p.s p.rows ta) (a:=(o ta,(r:Int))) (l₂:=chain (!ta) q.rows.reverse ta)).trans ?_;rw[<-z] at cq;exact(cq.append_left _).cons _
   ·have z':(!ta)=u:=by revert z;cases ta<;>cases u<;>decide
    rw[NI z,NJ z',bb];refine(cu (l₁:=chain p.s p.rows u) (a:=(o (!ta),(r:Int))) (l₂:=chain (!ta) q.rows.reverse u)).trans ?_;rw[<-z'];rw[<-z'] at cq;exact(cq.append_left _).cons _
  refine List.Perm.trans ?_ (e4.symm.append_right _);refine(c9 (l₁:=f u) (l₂:=[(o u,(r:Int))])).trans ?_;refine List.Perm.cons _ (h1.trans ?_);show (Pc.bows u p++(Pc.bows u q++is.flatMap (Pc.bows u))).Perm ((Pc.bows u p++Pc.bows u q)++is.flatMap (Pc.bows u));rw[ai]
 ·have:=G.stk u;rw[hs u] at this;exact this.close.map λx=>if x=l2 then l1 else x
def Gr.many(G:Gr b st f r is):(st false).length+(st true).length+1=2*is.length:=by
 have h1:=G.ends.length_eq;unfold dX at h1;rw[af,aE,aE] at h1;have h2:∀js:List Pc,(js.flatMap Pc.ends).length+js.countP Pc.main=2*js.length:=by
  intro js
  induction js with
  | nil=>rfl
  | cons p js ih=>
   rw[a6,af,cN,cM];have:p.ends.length+(if p.main=true then 1 else 0)=2:=by
    unfold Pc.ends Pc.more;cases p.main<;>rfl
   lia
 have:=h2 is;rw[G.one] at this;lia
def Gr.start (b : Bool) : Gr b (fun u => if u = b then [((0 : Int), (0 : Int))] else []) (fun _ => []) 1 [⟨0, [0], !b, true⟩] := by
  refine ⟨fun p hp => ?_, ?_, by simp, fun p hp => ?_, rfl, fun p hp _ => ?_, ?_, fun t => .refl _, fun t => ?_⟩
  · have e : p = ⟨0, [0], !b, true⟩ := by simpa using hp
    subst e; simp
  · exact .refl _
  · have e : p = ⟨0, [0], !b, true⟩ := by simpa using hp
    subst e; exact (by decide : (0 : Int) < 1)
  · have e : p = ⟨0, [0], !b, true⟩ := by simpa using hp
    subst e; exact ⟨rfl, rfl⟩
  · cases b <;> exact .refl _
  · by_cases z : t = b
    · simp only [z, NO]
      exact ⟨by simp, fun e h => by have e' : e = (0, 0) := by simpa using h
                                    subst e'; decide, fun p h => (nomatch h), fun p h => (nomatch h), fun p h => (nomatch h)⟩
    · simp only [z, NP]
      exact ⟨.nil, fun p h => (nomatch h), fun p h => (nomatch h), fun p h => (nomatch h), fun p h => (nomatch h)⟩
def Gr.last{t:Bool}{o l:Int}(G:Gr b st f r is)(h1:st t=[(o,l)])(h2:st (!t)=[]):
  ∃ns:List Int,ns.length+1=r/\ns.Perm (f6 1 ns.length)/\∀u,(if u=t then f u++[(o,(r:Int))] else f u).Perm (bZ b ns u (ns.length+1))/\∀p∈bZ b ns u (ns.length+1),∀q∈bZ b ns u (ns.length+1),fN p q=false:=by
 have hl:=G.many;have h3:(st false).length+(st true).length=1:=by
  cases t
  ·rw[h1,show st true=[] from h2];rfl
  ·rw[h1,show st false=[] from h2];rfl
 obtain⟨p,rfl⟩:∃p,is=[p]:=by
  match is,(show is.length=1 by lia) with
  | [p],_=>exact⟨p,rfl⟩
 have hm:p.main=true:=by
  have:=G.one;rw[cN] at this;cases z:p.main with
  | true=>rfl
  | false=>rw[z] at this;simp at this
 obtain⟨hd,hs⟩:=G.hd p (by simp) hm;have he:=G.ends;have hp:p.lst=((o,l),t):=by
  have e:dX st=[((o,l),t)]:=by
   unfold dX;cases t
   ·rw[h1,show st true=[] from h2];rfl
   ·rw[h1,show st false=[] from h2];rfl
  rw[e,a6,kX,bb] at he;unfold Pc.ends Pc.more at he;rw[hm] at he;have:=List.perm_singleton.mp he.symm;simpa using this
 have G':=G.ext hp (st':=[]) h1;obtain⟨ns,hns⟩:∃ns,p.rows=0::ns:=by
  cases e:p.rows with
  | nil=>rw[e] at hd;cases hd
  | cons a R=>rw[e] at hd;cases hd;exact⟨R,rfl⟩
 have hr:=G.rows;rw[a6,kX,bb,hns] at hr;have hlen:=hr.length_eq;rw[cM,As] at hlen;have hr1:ns.Perm (f6 1 ns.length):=by
  have e:f6 0 r=0::f6 1 ns.length:=by
   rw[<-hlen];unfold f6;rw[kx,aY,bj];congr 1;refine cQ λi _=>?_;simp only[Function.comp]
   push_cast
   lia
  rw[e] at hr;exact hr.cons_inv
 have er:p.rows++[(r:Int)]=eB ns:=by
  rw[hns,<-hlen];unfold eB
  push_cast
  rfl
 have ch:∀(k m:Nat) (u:Bool),m=ns.length+1-k->k<=ns.length+1->chain (!(b ^^ odd k)) ((eB ns).drop k) u=(((List.range m).map (·+k)).filter (dR b u)).map (jc ns):=by
  intro k m
  induction m generalizing k with
  | zero=>
   intro u hm hk;have e:k=ns.length+1:=by lia
   have:(eB ns).drop k=[bf ns k]:=by
    have h:=aJ.mp (i5 (ns:=ns) (i:=k) (by lia));rw[ah h.1,h.2,kz (by rw[iH];lia)]
   rw[this];rfl
  | succ m ih=>
   intro u hm hk;have h:=aJ.mp (i5 (ns:=ns) (i:=k) (by lia));have h':=aJ.mp (i5 (ns:=ns) (i:=k+1) (by lia));have ih':=ih (k+1) u (by lia) (by lia);rw[ah h.1,h.2,ah h'.1,h'.2];show (if (!!(b ^^ odd k))=u then [(min (bf ns k) (bf ns (k+1)),max (bf ns k) (bf ns (k+1)))] else [])++chain (!!(b ^^ odd k)) (bf ns (k+1)::(eB ns).drop (k+1+1)) u=_;have e2:chain (!!(b ^^ odd k)) (bf ns (k+1)::(eB ns).drop (k+1+1)) u=(((List.range m).map (·+(k+1))).filter (dR b u)).map (jc ns):=by
    rw[<-ih',kH];have e3:(!(b ^^ !odd k))=!!(b ^^ odd k):=by cases b<;>cases odd k<;>rfl
    rw[e3];congr 1;rw[ah h'.1,h'.2]
   rw[e2,kx,aY,bj,kY];have e4:((λx=>x+k)∘Nat.succ)=λx=>x+(k+1):=by funext x;simp only[Function.comp];lia
   rw[e4];show _=List.map (jc ns) (if dR b u (0+k)=true then _ else _);rw[kt];have e5:dR b u k=decide ((!!(b ^^ odd k))=u):=by unfold dR;cases b<;>cases u<;>cases odd k<;>rfl
   rw[e5];by_cases z:(!!(b ^^ odd k))=u
   ·rw[NJ z,NM z,NJ rfl];rfl
   ·rw[NI z,NL z,NI bC];rfl
 have sb:∀u,Pc.bows u { p with rows:=p.rows++[(r:Int)] }=bZ b ns u (ns.length+1):=λu=>by
  show chain p.s (p.rows++[(r:Int)]) u=_;have:=ch 0 (ns.length+1) u rfl (bF _);rw[show odd 0=false from rfl,Bool.xor_false] at this;rw[hs,er];refine Eq.trans this ?_;unfold bZ;congr 2;simp
 have pu:∀u,(if u=t then f u++[(o,(r:Int))] else f u).Perm (bZ b ns u (ns.length+1)):=λu=>by
  have:=G'.bows u;rw[a6,kX,bb,sb u] at this;exact this
 refine⟨ns,hlen,hr1,λu=>⟨pu u,λx hx y hy=>?_⟩⟩;exact(G'.stk u).nc x ((pu u).mem_iff.mpr hx) y ((pu u).mem_iff.mpr hy)
end
def EG{K:NQ}{H:Hp}{m n:Int}{neg:Bool}{Q:VK}(q:Q (.bl (if neg then !decide (m=n) else decide (m=n))) H):yw K neg (.int m) (.int n) H Q:=
 ⟨.int m,.int n,.int _,.int _,rfl,rfl,bF _,by
  have e:PyData.eqv (.int m) (.int n)=decide (m=n):=rfl;rw[e];exact q⟩
def NC(b:Bool)(ns:List Int):Prop:=∀u,∀p∈bZ b ns u (ns.length+1),∀q∈bZ b ns u (ns.length+1),fN p q=false
inductive tJ (st:Bool->List Oe) (f:Bool->List Bw) (r:Nat):Nat->(Bool->List Oe)->(Bool->List Bw)->Prop
 | a:tJ st f r 0 (fun u=>st u++[((r:Int),(r:Int))]) f
 | b {S:List Oe} {o l:Int}:st true=S++[(o,l)]->tJ st f r 1 (fun u=>if u=true then S else st u++[((r:Int),l)]) (fun u=>if u=true then f u++[(o,(r:Int))] else f u)
 | c {S:List Oe} {o l:Int}:st false=S++[(o,l)]->tJ st f r 2 (fun u=>if u=false then S else st u++[((r:Int),l)]) (fun u=>if u=false then f u++[(o,(r:Int))] else f u)
 | d {n' f':List Oe} {o1 l1 o2 l2:Int}:st false=n'++[(o1,l1)]->st true=f'++[(o2,l2)]->l1≠l2->tJ st f r 3 (fun u=>(if u then f' else n').map (jT (max l1 l2) (min l1 l2))) (fun u=>f u++[(if u then o2 else o1,(r:Int))])
section
variable {b:Bool} {st:Bool->List Oe} {f:Bool->List Bw} {r:Nat} {is:List Pc}
def Gr.joinS{o1 l1 o2 l2 x y:Int}{n' f':List Oe}(G:Gr b st f r is)(h1:st false=n'++[(o1,l1)])(h2:st true=f'++[(o2,l2)])(hne:l1≠l2)(hxy:(y=l1/\x=l2)\/(y=l2/\x=l1)):
  ∃js,Gr b (λu=>(if u then f' else n').map (jT x y)) (λu=>f u++[(if u then o2 else o1,(r:Int))]) (r+1) js:=by
 obtain⟨p,q,js,hp,hq,G2⟩:=G.pick2 h1 h2 hne;cases hm:q.main with
 | false=>
  exact⟨_,G2.join0 (ta:=false) (o:=λu=>if u then o2 else o1) (st':=λu=>if u then f' else n') hp hq (λu=>by cases u;exact h1;exact h2) hm hxy⟩
 | true=>
  have hm2:p.main=false:=by
   have:=G2.one;rw[cN,cN,hm] at this;cases z:p.main with
   | false=>rfl
   | true=>rw[z] at this;simp at this
  have G3:=G2.perm (List.Perm.swap q p js);exact⟨_,G3.join0 (ta:=true) (o:=λu=>if u then o2 else o1) (st':=λu=>if u then f' else n') hq hp (λu=>by cases u;exact h1;exact h2) hm2 hxy.symm⟩
def tJ.gr{st':Bool->List Oe}{f':Bool->List Bw}{k:Nat}(P:tJ st f r k st' f')(G:Gr b st f r is):∃js,Gr b st' f' (r+1) js:=by
 cases P with
 | a=>exact⟨_,G.opA⟩
 | @b S o l h=>obtain⟨p,js,hp,G1,_⟩:=G.pick (e:=((o,l),true)) (by unfold dX;rw[h];simp);exact⟨_,G1.ext hp h⟩
 | @c S o l h=>obtain⟨p,js,hp,G1,_⟩:=G.pick (e:=((o,l),false)) (by unfold dX;rw[h];simp);exact⟨_,G1.ext hp h⟩
 | d h h' ne=>exact G.joinS h h' ne (by lia)
def Jk(L:List Int)(p:Nat):Prop:=1<=p/\p<L.length/\L[p-1]?≠L[p]?
instance (L:List Int) (p:Nat):Decidable (Jk L p):=by unfold Jk;infer_instance
end
end Rm
namespace Rm
open PySem L2 PyProof.Rows
section
variable {σ:L2.St} {H0:Hp}
abbrev D1 (σ:L2.St) (H0:Hp) (te:TE) (d:PyData):Prop:=DE View.all σ H0 te d
abbrev D2 (σ:L2.St) (H0:Hp) (ta:TA) (ds:List PyData):Prop:=DA View.all σ H0 ta ds
end
def Gq(H:Hp)(t:Addr)(u:Bool)(p q:Bw):Prop:=∃a c,H t=some (.tup [.str (sd u),.ref a,.ref c])/\gL H a p/\gL H c q
def qw:Sp:=λvs H Q _=>∃m o b ns,vs=[.ref m]/\du H m o b ns/\oX ns/\(NC b ns->∀H',aV H H'->Q .non H') ∧
 ∀u,∀p∈bZ b ns u (ns.length+1),∀q∈bZ b ns u (ns.length+1),fN p q=true->∀t H',aV H H'->Gq H' t u p q->Q (.ref t) H'
def zJ(b:Bool)(ns:List Int):PyData:=.tuple [.str (sd b),.tuple (ns.map PyData.int)]
def du.dat{H:Hp}{m o:Addr}{b:Bool}{ns:List Int}(h:du H m o b ns):Dat H (.ref m) (zJ b ns):=.tup h.1 (.cons (.str _) (.cons (.tup h.2 (uj ns)) .nil))
def GQ{b:Bool}{ns:List Int}(O:oX ns):ud (zJ b ns)=true:=by
 show (mV (.str (sd b))&&oK (.tuple (ns.map PyData.int)))=true;have e1:mV (.str (sd b))=true:=by cases b<;>decide +kernel
 have e2:(ns.map PyData.int).map intOf=ns:=by rw[bj];show ns.map id=ns;exact List.map_id _
 have e3:(ns.map PyData.int).all ft=true:=by rw[List.all_map,iT];intro _ _;rfl
 rw[e1,m5];show (decide ((ns.map PyData.int).length<=20)&&((ns.map PyData.int).all ft&&((ns.map PyData.int).map intOf).isPerm (f6 1 (ns.map PyData.int).length)))=true;rw[e2,e3,aE,NM O.len,lK.mpr O.perm];rfl
def sZ{b:Bool}{ns:List Int}:Pl (zJ b ns) 60:=by
 refine⟨?_,?_⟩
 ·show (PyData.canLay0 (.str (sd b))&&(PyData.canLayAll0 (ns.map PyData.int)&&true))=true;rw[fb];cases b<;>decide +kernel
 ·show max 0 (max (PyData.depthAll (ns.map PyData.int)+1) 0)+1<=60;rw[kj];decide
def Jt{d:PyData}{k:Nat}(h:Pl d k):∀e∈[d],Pl e k:=λe he=>by rw[bN] at he;subst he;exact h
def Js{d e:PyData}{k:Nat}(h:Pl d k)(g:Pl e k):∀f∈[d,e],Pl f k:=λf hf=>by
 rcases aI.mp hf with rfl | hf
 ·exact h
 ·exact Jt g f hf
def JE{d e f:PyData}{k:Nat}(h:Pl d k)(g:Pl e k)(i:Pl f k):∀x∈[d,e,f],Pl x k:=λx hx=>by
 rcases aI.mp hx with rfl | hx
 ·exact h
 ·exact Js g i x hx
def F7:PyData->Bool
 | .none | .bool _ | .int _ | .str _=>true
 | _=>false
end Rm
namespace L2
open PySem PySem.Spec PyProof.Rows
def mH:∀{cs:List Addr} {us:List Value},cJ (cs.map V.ref) us->us=cs.map Value.ref
 | [],_,.nil=>rfl
 | c::cs,_,.cons r t=>by
  rw[mH t];cases r;rfl
end L2
namespace Rm
open PySem L2 PyProof.Rows
structure Jw (S:List Bw) (n:Int):Prop where
 lt:∀ p∈S,p.1<p.2
 bd:∀ p∈S,0<=p.1/\p.2<=n+1
 has:∀ x,1<=x->x<=n->∃ p∈S,p.1=x\/p.2=x
 one:∀ p∈S,∀ q∈S,∀ x,(p.1=x\/p.2=x)->(q.1=x\/q.2=x)->p=q
 nc:∀ p∈S,∀ q∈S,fN p q=false
def wB{x:Int}{p:Bw}:EC x p=true<->(p.1=x\/p.2=x):=by
 unfold EC;rw[Bool.or_eq_true,NK,NK];exact⟨λh=>h.imp jG jG,λh=>h.imp jG jG⟩
def Ag{b:Bool}{ns:List Int}(O:oX ns)(nc:NC b ns)(u:Bool):Jw (bZ b ns u (ns.length+1)) ns.length where
 lt:=λp hp=>by obtain⟨i,hi,_,rfl⟩:=l3 hp;exact O.step_lt (by lia)
 bd:=λp hp=>by obtain⟨i,hi,_,rfl⟩:=l3 hp;exact O.step_in (by lia)
 has:=λx h1 h2=>by
  obtain⟨i,hi⟩:=fc (O.mem.mpr ⟨h1,h2⟩);have il:=(aJ.mp hi).1;have er:=rB hi;have:dR b u i=true\/dR b u (i+1)=true:=by
   unfold dR;rw[kH];cases b<;>cases u<;>cases odd i<;>simp
  rcases this with s | s
  ·refine⟨_,pX (by lia) s,?_⟩;rw[<-wB,<-er,O.has_iff (by lia) (by lia)];simp
  ·refine⟨_,pX (by lia) s,?_⟩;rw[<-wB,<-er,O.has_iff (by lia) (by lia)];simp
 one:=λp hp q hq x h1 h2=>by
  obtain⟨i,hi,si,rfl⟩:=l3 hp;obtain⟨j,hj,sj,rfl⟩:=l3 hq;have hx:∃k,k<ns.length+2/\x=bf ns k/\(i=k\/i+1=k):=by
   have e:x=bf ns i\/x=bf ns (i+1):=by
    have h1':min (bf ns i) (bf ns (i+1))=x\/max (bf ns i) (bf ns (i+1))=x:=h1;lia
   rcases e with e | e
   ·exact⟨i,by lia,e,.inl rfl⟩
   ·exact⟨i+1,by lia,e,.inr rfl⟩
  obtain⟨k,hk,rfl,ik⟩:=hx;have h2':=wB.mpr h2;rw[O.has_iff hk (by lia)] at h2';have jk:=NN h2';have:i=j\/i=j+1\/j=i+1:=by lia
  rcases this with z | z | z
  ·rw[z]
  ·exact absurd z λz=>B3 si sj z
  ·exact absurd z λz=>B3 sj si z
 nc:=nc u
end Rm
namespace Rm
open PySem L2
def uO{α β:Type}{F:α->β->Prop}{l:List α}{m:List β}(h:Paired F l m):∀{i:Nat} {a:α},l[i]? = some a->∃b,m[i]? = some b/\F a b:=by
 induction h with
 | nil=>intro i a h;simp at h
 | cons r _ ih=>
  intro i a h;cases i with
  | zero=>cases h;exact⟨_,rfl,r⟩
  | succ i=>exact ih h
end Rm
namespace Rm
open PySem L2 PyProof.Rows
def nz(x:Nat):Int:=(x:Int)
structure Sd (u b:Bool) (cs:List Nat) (i:Nat) (S:List Oe) (F:List Bw):Prop where
 row:S.map (·.1)=(stN u b cs i).1.map nz
 bow:∀ p∈F,∃ x y:Nat,p=(nz x,nz y)/\(stN u b cs i).2 x=some y/\1<=y/\y<=i/\isIn u (cs.getD (y - 1) 0)=false/\(x=0\/isIn u (cs.getD (x - 1) 0)=true)
 top:∀ x∈(stN u b cs i).1,x=0\/isIn u (cs.getD (x - 1) 0)=true
section
variable {u b:Bool} {cs:List Nat} {i c:Nat} {S:List Oe} {F:List Bw}
def Sd.push(h:Sd u b cs i S F)(hc:cs.getD i 0=c)(hi:isIn u c=true)(l:Int):Sd u b cs (i+1) (S++[(((i+1:Nat):Int),l)]) F:=by
 have e:stN u b cs (i+1)=((stN u b cs i).1++[i+1],(stN u b cs i).2):=by
  show ot u (stN u b cs i) (i+1) (cs.getD i 0)=_;rw[hc,rj hi]
 refine⟨by rw[e,aO,aO,h.row];rfl,λp hp=>?_,λx hx=>?_⟩
 ·obtain⟨x,y,e1,e2,e3,e4,e5,e6⟩:=h.bow p hp;rw[e];exact⟨x,y,e1,e2,e3,by lia,e5,e6⟩
 ·rw[e] at hx;rcases aQ.mp hx with z | z
  ·exact h.top x z
  ·rw[bN] at z;subst z;exact .inr (by rw[gI,hc];exact hi)
def Sd.pop{o l:Int}(h:Sd u b cs i (S++[(o,l)]) F)(I:vF u b i (stN u b cs i))(hc:cs.getD i 0=c)(hi:isIn u c=false):Sd u b cs (i+1) S (F++[(o,((i+1:Nat):Int))]):=by
 have hr:=h.row;rw[aO] at hr;obtain⟨P,w,hs⟩:=nh (l:=(stN u b cs i).1) (λz=>by rw[z] at hr;simp at hr);rw[hs,aO] at hr;obtain⟨r1,r2⟩:=iS hr rfl;have ow:o=nz w:=by simpa using r2
 have e:stN u b cs (i+1)=(P,ju (stN u b cs i).2 (i+1) w):=by
  show ot u (stN u b cs i) (i+1) (cs.getD i 0)=_;rw[hc,oq hi hs]
 have wm:w∈(stN u b cs i).1:=by rw[hs];simp
 have wl:=I.le w wm;refine⟨by rw[e];exact r1,λp hp=>?_,λx hx=>?_⟩
 ·rw[e];rcases aQ.mp hp with z | z
  ·obtain⟨x,y,e1,e2,e3,e4,e5,e6⟩:=h.bow p z;refine⟨x,y,e1,?_,e3,by lia,e5,e6⟩;have n1:x≠i+1:=λz=>by have:=I.bd x y e2;lia
   have n2:x≠w:=λz=>by rw[z,I.out w wm] at e2;cases e2
   show ju _ _ _ x=_;unfold ju;rw[NI n1,NI n2];exact e2
  ·rw[bN] at z;subst z;refine⟨w,i+1,by rw[ow];rfl,?_,by lia,by lia,by rw[gI,hc];exact hi,h.top w wm⟩;show ju _ _ _ w=_;unfold ju;rw[NI (by lia),NJ rfl]
 ·rw[e] at hx;exact h.top x (by rw[hs];exact bG _ hx)
def Sd.lab(h:Sd u b cs i S F)(g:Oe->Oe)(hg:∀e,(g e).1=e.1):Sd u b cs i (S.map g) F:=by
 refine⟨?_,h.bow,h.top⟩;rw[<-h.row,bj];exact cQ λe _=>hg e
end
structure J8 (g:Int->Int) (L R:List Int) (st:Bool->List Oe):Prop where
 inj:∀ x∈L++R,∀ y∈L++R,g x=g y->x=y
 l:(st false).map (·.2)=L.map g
 r:(st true).map (·.2)=R.map g
structure Sm (b:Bool) (cs:List Nat) (i:Nat) (L R:List Int) (st:Bool->List Oe) (f:Bool->List Bw):Prop where
 gr:∃ is,Gr b st f (i+1) is
 lab:∃ g,J8 g L R st
 sd:∀ u,Sd u b cs i (st u) (f u)
def Sm.start(b:Bool)(cs:List Nat):Sm b cs 0 (bL b) (bR b) (λu=>if u=b then [((0:Int),(0:Int))] else []) (λ_=>[]):=by
 refine⟨⟨_,Gr.start b⟩,⟨id,?_⟩,λu=>?_⟩
 ·cases b
  ·exact⟨λx _ y _ h=>h,rfl,rfl⟩
  ·exact⟨λx _ y _ h=>h,rfl,rfl⟩
 ·refine⟨?_,(λp h=>nomatch h),λx hx=>?_⟩
  ·show _=(tM u b).1.map nz;unfold tM;by_cases h:u=b
   ·rw[NJ h,NJ h];rfl
   ·rw[NI h,NI h];rfl
  ·have hx:x∈(tM u b).1:=hx;unfold tM at hx
   split at hx
   ·left;simpa using hx
   ·cases hx
def Gr.lab_lt{b:Bool}{st:Bool->List Oe}{f:Bool->List Bw}{r:Nat}{is:List Pc}(G:Gr b st f r is){u:Bool}{e:Oe}(h:e∈st u):e.2<r:=by
 have hm:(e,u)∈dX st:=by
  unfold dX;cases u
  ·exact bG _ (ba.mpr ⟨e,h,rfl⟩)
  ·exact au _ (ba.mpr ⟨e,h,rfl⟩)
 obtain⟨p,hp,he⟩:=fj.mp (G.ends.mem_iff.mp hm);have hl:=G.lr p hp;unfold Pc.ends at he;rcases aI.mp he with z | z
 ·have:e=(ltZ p.rows,p.lab):=congrArg Prod.fst z;rw[this];exact hl
 ·unfold Pc.more at z
  split at z
  ·cases z
  ·have:e=(xx p.rows,p.lab):=by rw[bN] at z;exact congrArg Prod.fst z
   rw[this];exact hl
def n8{α β:Type}{f:α->β}{l:List α}{Q:List β}{v:β}(h:l.map f=Q++[v]):∃S e,l=S++[e]/\S.map f=Q/\f e=v:=by
 have hne:l≠[]:=λz=>by rw[z] at h;simp at h
 refine⟨l.dropLast,l.getLast hne,(dY hne).symm,?_⟩;rw[<-dY hne,aO] at h;obtain⟨h1,h2⟩:=iS h rfl;exact⟨h1,by simpa using h2⟩
section
variable {b:Bool} {cs:List Nat} {i c:Nat} {L R L' R':List Int} {st:Bool->List Oe} {f:Bool->List Bw}
def Sm.la(h:Sm b cs i L R st f)(E:EE L R)(hc:cs.getD i 0=97):Sm b cs (i+1) (L++[1+mx (L++R)]) (R++[1+mx (L++R)]) (λu=>st u++[(((i+1:Nat):Int),((i+1:Nat):Int))]) f:=by
 obtain⟨is,G⟩:=h.gr;obtain⟨g,M⟩:=h.lab;obtain⟨f0,f1,f2⟩:=wD E;have f2:1+mx (L++R)∉R:=λz=>f2 (List.mem_reverse.mpr z);refine⟨(tJ.a (st:=st) (f:=f) (r:=i+1)).gr G,⟨λx=>if x=1+mx (L++R) then ((i+1:Nat):Int) else g x,?_⟩,λu=>(h.sd u).push hc (by cases u<;>rfl) _⟩;generalize 1+mx (L++R)=m at f1 f2;have gl:∀x∈L++R,g x<((i+1:Nat):Int):=λx hx=>by
  rcases aQ.mp hx with z | z
  ·have:g x∈(st false).map (·.2):=by rw[M.l];exact ba.mpr ⟨x,z,rfl⟩
   obtain⟨e,he,e2⟩:=ba.mp this;rw[<-e2];exact G.lab_lt he
  ·have:g x∈(st true).map (·.2):=by rw[M.r];exact ba.mpr ⟨x,z,rfl⟩
   obtain⟨e,he,e2⟩:=ba.mp this;rw[<-e2];exact G.lab_lt he
 have ng:∀x∈L++R,x≠m:=λx hx z=>by
  rcases aQ.mp hx with w | w
  ·exact f1 (z▸w)
  ·exact f2 (z▸w)
 have mm:∀l:List Int,(∀x∈l,x∈L++R)->l.map g++[((i+1:Nat):Int)]=(l++[m]).map (λx=>if x=m then ((i+1:Nat):Int) else g x):=λl hl=>by
  rw[aO];congr 1
  ·exact cQ λx hx=>by rw[NI (ng x (hl x hx))]
  ·simp
 have mem:∀x,x∈(L++[m])++(R++[m])->x=m\/x∈L++R:=λx hx=>by
  simp only[aQ,bN] at hx ⊢;rcases hx with (z | z) | (z | z)
  ·exact .inr (.inl z)
  ·exact .inl z
  ·exact .inr (.inr z)
  ·exact .inl z
 refine⟨λx hx y hy e=>?_,?_,?_⟩
 ·rcases mem x hx with z | z<;>rcases mem y hy with w | w
  ·rw[z,w]
  ·rw[NJ z,NI (ng y w)] at e;have:=gl y w;lia
  ·rw[NI (ng x z),NJ w] at e;have:=gl x z;lia
  ·rw[NI (ng x z),NI (ng y w)] at e;exact M.inj x z y w e
 ·show (st false++_).map _=_;rw[aO,M.l];exact mm L λx hx=>bG _ hx
 ·show (st true++_).map _=_;rw[aO,M.r];exact mm R λx hx=>au _ hx
def Sm.lb{Q:List Int}{v:Int}(h:Sm b cs i L (Q++[v]) st f)(I:∀u,vF u b i (stN u b cs i))(hc:cs.getD i 0=98):∃st' f',Sm b cs (i+1) (L++[v]) Q st' f':=by
 obtain⟨is,G⟩:=h.gr;obtain⟨g,M⟩:=h.lab;have hr:=M.r;rw[aO] at hr;obtain⟨S,⟨o,l⟩,e1,e2,e3⟩:=n8 hr;have e3:l=g v:=e3;refine⟨_,_,(tJ.b (st:=st) (f:=f) (r:=i+1) e1).gr G,⟨g,λx hx y hy e=>M.inj x ?_ y ?_ e,?_,?_⟩,λu=>?_⟩
 ·simp only[aQ,bN] at hx ⊢;rcases hx with (z | z) | z<;>simp[z]
 ·simp only[aQ,bN] at hy ⊢;rcases hy with (z | z) | z<;>simp[z]
 ·simp[M.l,e3]
 ·simpa using e2
 ·have hs:=h.sd u;cases u with
  | false=>simpa using hs.push hc (by rfl) l
  | true=>
   rw[e1] at hs;simpa using hs.pop (I true) hc (by rfl)
def Sm.lc{P:List Int}{v:Int}(h:Sm b cs i (P++[v]) R st f)(I:∀u,vF u b i (stN u b cs i))(hc:cs.getD i 0=99):∃st' f',Sm b cs (i+1) P (R++[v]) st' f':=by
 obtain⟨is,G⟩:=h.gr;obtain⟨g,M⟩:=h.lab;have hr:=M.l;rw[aO] at hr;obtain⟨S,⟨o,l⟩,e1,e2,e3⟩:=n8 hr;have e3:l=g v:=e3;refine⟨_,_,(tJ.c (st:=st) (f:=f) (r:=i+1) e1).gr G,⟨g,λx hx y hy e=>M.inj x ?_ y ?_ e,?_,?_⟩,λu=>?_⟩
 ·simp only[aQ,bN] at hx ⊢;rcases hx with z | (z | z)<;>simp[z]
 ·simp only[aQ,bN] at hy ⊢;rcases hy with z | (z | z)<;>simp[z]
 ·simpa using e2
 ·simp[M.r,e3]
 ·have hs:=h.sd u;cases u with
  | true=>simpa using hs.push hc (by rfl) l
  | false=>
   rw[e1] at hs;simpa using hs.pop (I false) hc (by rfl)
def Sm.ld{P Q:List Int}{x y:Int}(h:Sm b cs i (P++[x]) (Q++[y]) st f)(I:∀u,vF u b i (stN u b cs i))(hc:cs.getD i 0=100)(hxy:x≠y):∃st' f',Sm b cs (i+1) (P.map (rn (min x y) (max x y))) (Q.map (rn (min x y) (max x y))) st' f':=by
 obtain⟨is,G⟩:=h.gr;obtain⟨g,M⟩:=h.lab;have hl:=M.l;have hr:=M.r;rw[aO] at hl hr;obtain⟨n',⟨o1,l1⟩,e1,e2,e3⟩:=n8 hl;obtain⟨f',⟨o2,l2⟩,d1,d2,d3⟩:=n8 hr;have e3:l1=g x:=e3;have d3:l2=g y:=d3;have mx1:x∈(P++[x])++(Q++[y]):=by simp
 have my1:y∈(P++[x])++(Q++[y]):=by simp
 have hne:l1≠l2:=λz=>hxy (M.inj x mx1 y my1 (by rw[<-e3,<-d3];exact z));have lohi:(min x y=x/\max x y=y)\/(min x y=y/\max x y=x):=by lia
 have LOHI:(min l1 l2=l1/\max l1 l2=l2)\/(min l1 l2=l2/\max l1 l2=l1):=by lia
 have lne:min x y≠max x y:=by lia
 have Lne:min l1 l2≠max l1 l2:=by lia
 have xy:∀v∈(P++[x])++(Q++[y]),(g v=l1->v=x)/\(g v=l2->v=y):=λv hv=>⟨λz=>M.inj v hv x mx1 (by rw[z,e3]),λz=>M.inj v hv y my1 (by rw[z,d3])⟩
 generalize min x y=lo at *;generalize max x y=hi at *;generalize min l1 l2=Lo at *;generalize max l1 l2=Hi at *;refine⟨λu=>(if u then f' else n').map (jT Hi Lo),λu=>f u++[(if u then o2 else o1,((i+1:Nat):Int))],?_,⟨λw=>if w=lo then Lo else g w,?_⟩,λu=>?_⟩
 ·exact G.joinS e1 d1 hne (by rcases LOHI with ⟨a,b⟩ | ⟨a,b⟩<;>simp[a,b])
 ·have key:∀v∈(P++[x])++(Q++[y]),(if rn lo hi v=lo then Lo else g (rn lo hi v))=rn Lo Hi (g v):=λv hv=>by
   obtain⟨k1,k2⟩:=xy v hv;unfold rn;by_cases v1:v=hi
   ·rw[NJ v1,NJ rfl];have:g v=Lo\/g v=Hi:=by
     rcases lohi with ⟨a,c⟩ | ⟨a,c⟩<;>rcases LOHI with ⟨a',c'⟩ | ⟨a',c'⟩<;>rw[v1,c]<;>simp only[<-e3,<-d3]<;>lia
    split
    ·rfl
    ·lia
   ·rw[NI v1];by_cases v2:v=lo
    ·rw[NJ v2];have:g v=Lo\/g v=Hi:=by
      rcases lohi with ⟨a,c⟩ | ⟨a,c⟩<;>rcases LOHI with ⟨a',c'⟩ | ⟨a',c'⟩<;>rw[v2,a]<;>simp only[<-e3,<-d3]<;>lia
     split
     ·rfl
     ·lia
    ·rw[NI v2,NI];intro z;rcases lohi with ⟨a,c⟩ | ⟨a,c⟩<;>rcases LOHI with ⟨a',c'⟩ | ⟨a',c'⟩<;>lia
  have sub:∀w,w∈P.map (rn lo hi)++Q.map (rn lo hi)->∃v∈(P++[x])++(Q++[y]),w=rn lo hi v:=λw hw=>by
   rcases aQ.mp hw with z | z
   ·obtain⟨v,hv,e⟩:=ba.mp z;exact⟨v,by simp[hv],e.symm⟩
   ·obtain⟨v,hv,e⟩:=ba.mp z;exact⟨v,by simp[hv],e.symm⟩
  have rnn:∀v,rn lo hi v≠hi:=λv=>by unfold rn;split<;>lia
  have inL:∀w,w∈P.map (rn lo hi)++Q.map (rn lo hi)->w=lo\/(w∈(P++[x])++(Q++[y])/\w≠hi):=λw hw=>by
   obtain⟨v,hv,rfl⟩:=sub w hw;by_cases z:v=hi
   ·left;unfold rn;rw[NJ z]
   ·right;exact⟨by unfold rn;rw[NI z];exact hv,rnn v⟩
  have noLo:∀w,w∈(P++[x])++(Q++[y])->w≠hi->w≠lo->g w≠Lo:=λw hw n1 n2 z=>by
   obtain⟨k1,k2⟩:=xy w hw;rcases lohi with ⟨a,c⟩ | ⟨a,c⟩<;>rcases LOHI with ⟨a',c'⟩ | ⟨a',c'⟩<;>lia
  refine⟨λv hv w hw e=>?_,?_,?_⟩
  ·rcases inL v hv with z | ⟨z,zn⟩<;>rcases inL w hw with t | ⟨t,tn⟩
   ·rw[z,t]
   ·by_cases tl:w=lo
    ·rw[z,tl]
    ·rw[NJ z,NI tl] at e;exact absurd e.symm (noLo w t tn tl)
   ·by_cases zl:v=lo
    ·rw[zl,t]
    ·rw[NI zl,NJ t] at e;exact absurd e (noLo v z zn zl)
   ·by_cases zl:v=lo
    ·by_cases tl:w=lo
     ·rw[zl,tl]
     ·rw[NJ zl,NI tl] at e;exact absurd e.symm (noLo w t tn tl)
    ·by_cases tl:w=lo
     ·rw[NI zl,NJ tl] at e;exact absurd e (noLo v z zn zl)
     ·rw[NI zl,NI tl] at e;exact M.inj v z w t e
  ·show (n'.map (jT Hi Lo)).map (·.2)=_;rw[bj,bj];have:n'.map ((·.2)∘jT Hi Lo)=(n'.map (·.2)).map (rn Lo Hi):=by rw[bj];rfl
   rw[this,e2,bj];exact cQ λv hv=>(key v (by simp[hv])).symm
  ·show (f'.map (jT Hi Lo)).map (·.2)=_;rw[bj,bj];have:f'.map ((·.2)∘jT Hi Lo)=(f'.map (·.2)).map (rn Lo Hi):=by rw[bj];rfl
   rw[this,d2,bj];exact cQ λv hv=>(key v (by simp[hv])).symm
 ·have hs:=h.sd u;cases u with
  | false=>
   rw[e1] at hs;exact(hs.pop (I false) hc (by rfl)).lab _ λe=>rfl
  | true=>
   rw[d1] at hs;exact(hs.pop (I true) hc (by rfl)).lab _ λe=>rfl
def Sm.step(h:Sm b cs i L R st f)(Rn:Run b cs i L R)(e:cs[i]? = some c)(hc:iM c)(g:cS L R c=some (L',R')):∃st' f',Sm b cs (i+1) L' R' st' f':=by
 have hg:cs.getD i 0=c:=by rw[bw,e];rfl
 have I:∀u,vF u b i (stN u b cs i):=λu=>by cases u;exact Rn.li;exact Rn.ri
 rcases hc with rfl | rfl | rfl | rfl
 ·cases g;exact⟨_,_,h.la Rn.ee hg⟩
 ·by_cases z:R=[]
  ·subst z;rw[mz] at g;cases g
  ·obtain⟨Q,v,rfl⟩:=cH z;rw[o9] at g;cases g;exact h.lb I hg
 ·by_cases z:L=[]
  ·subst z;rw[my] at g;cases g
  ·obtain⟨P,v,rfl⟩:=cH z;rw[o8] at g;cases g;exact h.lc I hg
 ·by_cases z:L=[]
  ·subst z;rw[mw] at g;cases g
  ·by_cases z2:R=[]
   ·subst z2;rw[mt] at g;cases g
   ·obtain⟨P,x,rfl⟩:=cH z;obtain⟨Q,y,rfl⟩:=cH z2;rw[o7] at g
    split at g
    ·cases g
    ·cases g;exact h.ld I hg (by assumption)
end
def oX.row_leC{ns:List Int}(O:oX ns){j:Nat}(h:j<ns.length+1):0<=bf ns j/\bf ns j<=ns.length:=by
 have h1:=O.row_in (i:=j) (by lia);have:bf ns j≠(ns.length:Int)+1:=λe=>by
  rw[<-rC ns] at e;have:=O.row_inj (by lia) (by lia) e;lia
 lia
def xQ{b:Bool}{cs:List Nat}(hl:tK cs)(h:fM (bL b) (bR b) cs 0=none):∀i,i<=cs.length->∃L R st f,Run b cs i L R/\fM L R (cs.drop i) i=none/\Sm b cs i L R st f
 | 0,_=>⟨_,_,_,_,Run.zero b cs,h,Sm.start b cs⟩
 | i+1,hi=>by
  obtain⟨L,R,st,f,rn,re,sm⟩:=xQ hl h i (by lia);have hi':i<cs.length:=by lia
  rw[ah hi'] at re;have hc:iM cs[i]:=hl _ (fm hi');cases g:cS L R cs[i] with
  | none=>rw[kd g] at re;cases re
  | some p=>
   obtain⟨L',R'⟩:=p;rw[je g] at re;obtain⟨st',f',sm'⟩:=sm.step rn (aN hi') hc g;exact⟨L',R',st',f',rn.step (aN hi') hc g,re,sm'⟩
structure zh (b:Bool) (cs:List Nat) (ns:List Int):Prop where
 len:ns.length=cs.length
 ord:oX ns
 nc:NC b ns
 step:∀ j,j<=cs.length->fin2 b cs (b ^^ odd j) (bf ns j).toNat=some (bf ns (j+1)).toNat
 lets:∀ u,∀ r:Nat,1<=r->r<=cs.length->decide ((r:Int)∈(bZ b ns u (ns.length+1)).map (·.1))=isIn u (cs.getD (r - 1) 0)
def z9{b:Bool}{cs:List Nat}(hl:tK cs)(h20:cs.length<=20)(h:fM (bL b) (bR b) cs 0=none):∃ns,zh b cs ns:=by
 obtain⟨L,R,st,f,rn,re,sm⟩:=xQ hl h cs.length (aH _);rw[iR] at re;have one:L.length+R.length=1:=by
  unfold fM at re
  split at re
  ·assumption
  ·cases re
 obtain⟨g,M⟩:=sm.lab;obtain⟨is,G⟩:=sm.gr;have I:∀u,vF u b cs.length (stN u b cs cs.length):=λu=>by cases u;exact rn.li;exact rn.ri
 have l1:(st false).length=L.length:=by have:=congrArg List.length M.l;simpa using this
 have l2:(st true).length=R.length:=by have:=congrArg List.length M.r;simpa using this
 obtain⟨t,o,l,h1,h2⟩:∃t o l,st t=[(o,l)]/\st (!t)=[]:=by
  by_cases z:(st false).length=1
  ·obtain⟨⟨o,l⟩,e⟩:=gg.mp z;exact⟨false,o,l,e,cU.mp (by show (st true).length=0;lia)⟩
  ·obtain⟨⟨o,l⟩,e⟩:=gg.mp (show (st true).length=1 by lia);exact⟨true,o,l,e,cU.mp (by show (st false).length=0;lia)⟩
 obtain⟨ns,e1,e2,e3⟩:=G.last h1 h2;have en:ns.length=cs.length:=by lia
 have O:oX ns:=⟨by lia,e2⟩
 have NCs:NC b ns:=λu=>(e3 u).2;have lt:=(sm.sd t).row;rw[h1] at lt;obtain⟨w,hw⟩:∃w,(stN t b cs cs.length).1=[w]:=by
  have:(stN t b cs cs.length).1.length=1:=by have:=congrArg List.length lt;simpa using this.symm
  exact gg.mp this
 have ow:o=nz w:=by rw[hw] at lt;simpa using lt
 have fin_in:∀u x y,(stN u b cs cs.length).2 x=some y->fin2 b cs u x=some y:=λu x y e=>by
  unfold fin2 qg;rw[NI (λz=>by rw[(I u).out x z] at e;cases e)];exact e
 have pairs:∀u,∀p∈bZ b ns u (ns.length+1),∃x y:Nat,p=(nz x,nz y)/\fin2 b cs u x=some y/\(y<=cs.length->fin2 b cs u y=some x/\1<=y/\isIn u (cs.getD (y - 1) 0)=false)/\(x=0\/isIn u (cs.getD (x - 1) 0)=true):=by
  intro u p hp;have hp:=(e3 u).1.mem_iff.mpr hp;have old:p∈f u->∃x y:Nat,p=(nz x,nz y)/\fin2 b cs u x=some y/\(y<=cs.length->fin2 b cs u y=some x/\1<=y/\isIn u (cs.getD (y - 1) 0)=false)/\(x=0\/isIn u (cs.getD (x - 1) 0)=true):=λhp=>by
   obtain⟨x,y,p1,p2,p3,p4,p5,p6⟩:=(sm.sd u).bow p hp;exact⟨x,y,p1,fin_in u x y p2,λ_=>⟨fin_in u y x ((I u).sym x y p2),p3,p5⟩,p6⟩
  by_cases ut:u=t
  ·rw[NJ ut] at hp;rcases aQ.mp hp with z | z
   ·exact old z
   ·rw[bN] at z;subst ut;refine⟨w,cs.length+1,by rw[z,ow];rfl,?_,λz=>by lia,(sm.sd u).top w (by rw[hw];simp)⟩;unfold fin2 qg;rw[NJ (by rw[hw];simp)]
  ·rw[NI ut] at hp;exact old hp
 refine⟨ns,en,O,NCs,λj hj=>?_,λu r hr1 hr2=>?_⟩
 ·obtain⟨x,y,p1,p2,p3,p4⟩:=pairs _ _ (pX (b:=b) (ns:=ns) (m:=ns.length+1) (i:=j) (by lia) (uT b j));have q1:min (bf ns j) (bf ns (j+1))=nz x:=congrArg Prod.fst p1;have q2:max (bf ns j) (bf ns (j+1))=nz y:=congrArg Prod.snd p1;have b1:=O.row_leC (j:=j) (by lia);unfold nz at q1 q2;by_cases le:bf ns j<=bf ns (j+1)
  ·rw[show (bf ns j).toNat=x by lia,show (bf ns (j+1)).toNat=y by lia];exact p2
  ·rw[show (bf ns j).toNat=y by lia,show (bf ns (j+1)).toNat=x by lia];exact(p3 (by lia)).1
 ·cases hi:isIn u (cs.getD (r - 1) 0) with
  | true=>
   refine NM ?_;obtain⟨p,hp,e⟩:=(Ag O NCs u).has (r:Int) (by lia) (by lia);rcases e with e | e
   ·exact ba.mpr ⟨p,hp,e⟩
   ·obtain⟨x,y,p1,p2,p3,p4⟩:=pairs u p hp;rw[p1] at e;have e:nz y=(r:Int):=e;unfold nz at e;have ey:y=r:=by lia
    subst ey;rw[(p3 hr2).2.2] at hi;cases hi
  | false=>
   refine NL λz=>?_;obtain⟨p,hp,e⟩:=ba.mp z;obtain⟨x,y,p1,p2,p3,p4⟩:=pairs u p hp;rw[p1] at e;have e:nz x=(r:Int):=e;unfold nz at e;have ex:x=r:=by lia
   subst ex;rcases p4 with z | z
   ·lia
   ·rw[hi] at z;cases z
section
variable {b:Bool} {cs:List Nat} {ns:List Int}
def zh.pth(C:zh b cs ns):∀j,j<=cs.length+1->pth (fin2 b cs) b j=((bf ns j).toNat,b ^^ odd j)
 | 0,_=>by
  show (0,b)=_;rw[F9];cases b<;>rfl
 | j+1,h=>by
  have ih:=C.pth j (by lia);show ((fin2 b cs (Rm.pth (fin2 b cs) b j).2 (Rm.pth (fin2 b cs) b j).1).getD 0,!(Rm.pth (fin2 b cs) b j).2)=_;rw[ih];simp only;rw[C.step j (by lia),kH];cases b<;>cases odd j<;>rfl
def zh.vld(C:zh b cs ns):CY cs.length b (fin2 b cs) (cs.length+1):=by
 refine⟨λi hi=>?_,λi hi=>?_⟩
 ·rw[C.pth i (by lia)];have:=C.ord.row_leC (j:=i) (by rw[C.len];lia);have:=C.len;simp only;lia
 ·rw[C.pth i (by lia),C.pth (i+1) (by lia)];exact C.step i (by lia)
def zh.last(C:zh b cs ns):(Rm.pth (fin2 b cs) b (cs.length+1)).1=cs.length+1:=by
 rw[C.pth _ (aH _)];simp only;rw[<-C.len,rC];lia
def zh.ordF(C:zh b cs ns):ordF (fin2 b cs) b cs.length=ns:=by
 unfold Rm.ordF;apply kZ
 ·simp[C.len]
 ·intro i h1 h2;have hi:i<cs.length:=by simpa using h1
  simp only[List.getElem_map,List.getElem_range];rw[C.pth _ (by lia)];simp only;rw[rB (aN h2)];have:=C.ord.mem.mp (fm h2);lia
def wV.maze{H:Hp}{a:Addr}(h:wV H a b cs)(C:zh b cs ns):∃o,du H a o b ns:=by
 obtain⟨o,T,h1,h2,h3,V,e,h4⟩:=h;have:=CZ V e C.vld C.last;subst this;rw[gI,C.ordF] at h4;exact⟨o,h1,h4⟩
end
def Dt(l r:Bool):Nat:=if l then (if r then 97 else 98) else if r then 99 else 100
def qi(b:Bool)(ns:List Int):List Nat:=(List.range ns.length).map λi:Nat=>Dt (decide (((i+1:Nat):Int)∈(bZ b ns false (ns.length+1)).map (·.1))) (decide (((i+1:Nat):Int)∈(bZ b ns true (ns.length+1)).map (·.1)))
def Ds{c:Nat}(h:iM c):Dt (isIn false c) (isIn true c)=c:=by rcases h with rfl | rfl | rfl | rfl<;>rfl
def zh.code{b:Bool}{cs:List Nat}{ns:List Int}(C:zh b cs ns)(hl:tK cs):qi b ns=cs:=by
 unfold qi;apply kZ
 ·simp[C.len]
 ·intro i h1 h2;simp only[List.getElem_map,List.getElem_range];rw[C.lets false (i+1) (by lia) (by lia),C.lets true (i+1) (by lia) (by lia),gI];have e:cs.getD i 0=cs[i]:=by rw[bw,aN h2];rfl
  rw[e,Ds (hl _ (fm h2))]
def DB{L R:List Int}{i:Nat}(E:EE L R)(h:L.length+R.length<=1):fM L R [] i=none:=by
 have z:=E.z1;have:L.length+R.length=1:=by
  have h2:(L++R.reverse).length≠0:=λe=>by rw[cU.mp e] at z;simp at z
  simp at h2;have:L.length+R.length≠0:=λe=>h2 (cU.mp (by lia)) (cU.mp (by lia));lia
 show (if L.length+R.length=1 then none else some i)=none;rw[NJ this]
end Rm
namespace L2
open PySem PySem.Spec PyProof.Rows
def Io(lo:Int)(n:Nat):It:=⟨λi _=>i<n,λi H x H'=>H'=H/\x=.int (lo+i*2),λi _=>n<=i⟩
section
def IZ(ta:TA):TI:=λσ H R=>ta σ H λvs H1=>∃i j:Int,vs=[.int i,.int j,.int 2]/\(-(2 ^ 61)<=i/\i<2 ^ 61/\-(2 ^ 61)<=j/\j<2 ^ 61)/\R (Io i ((j-i+1) / 2).toNat) H1
def FD{σ:St}{H:Hp}{D:Ends}{ta:TA}{g:TG}{tb:TS}:oF (IZ ta) g tb D σ H=ta σ H λvs H1=>∃i j:Int,vs=[.int i,.int j,.int 2]/\(-(2 ^ 61)<=i/\i<2 ^ 61/\-(2 ^ 61)<=j/\j<2 ^ 61)/\mT (Io i ((j-i+1) / 2).toNat) g tb D σ H1:=rfl
end
end L2
namespace Rm
open PySem L2
def Gh(d:PyData)(n:Nat):Bool:=ft d&&(decide (0<=intOf d)&&decide (intOf d<n))
def rz:Sp:=λvs H Q _=>∃v d n,vs=[v,.int ((n:Nat):Int)]/\Dat H v d/\Q (.bl (Gh d n)) H
def x2(a b:Int×Int):Bool:=decide (a.1<b.1)&&(decide (b.1<a.2)&&decide (a.2<b.2))
def FN{cs:List Nat}{i:Nat}:(tx cs).cps[i]? = cs[i]?:=by simp[tx]
def Cr{cs:List Nat}(h:∀c∈cs,c<128):(tx cs).cps.all (·<128)=true:=by
 rw[Array.all_eq_true'];intro x hx;have:=h x (by simpa [tx] using hx);exact NM this
def pL{cs:List Nat}(h:tK cs):(tx cs).cps.all (·<128)=true:=Cr λx hx=>by rcases h x hx with z | z | z | z<;>lia
end Rm
namespace Rm
open PySem L2 PyProof.Rows
def xL:Sp:=λvs H Q _=>∃l r,vs=[.bl l,.bl r]/\Q (.str (tx [Dt l r])) H
def Av{L R:List Int}:∀(cs:List Nat) (i j:Nat),fM L R cs i=none->fM L R cs j=none:=by
 intro cs
 induction cs generalizing L R with
 | nil=>
  intro i j h;unfold fM at h ⊢
  split at h
  ·rename_i e;rw[NJ e]
  ·cases h
 | cons c cs ih=>
  intro i j h;cases g:cS L R c with
  | none=>rw[kd g] at h;cases h
  | some p=>
   obtain⟨L',R'⟩:=p;rw[je g] at h ⊢;exact ih _ _ h
def gm(S:List Int->List Int->List (List Nat))(c:Nat):Option (List Int×List Int)->List (List Nat)
 | none=>[]
 | some (L,R)=>(S L R).map (c::·)
def cW:Nat->List Int->List Int->List (List Nat)
 | 0,L,R=>if L.length+R.length=1 then [[]] else []
 | n+1,L,R=>gm (cW n) 97 (cS L R 97)++gm (cW n) 98 (cS L R 98)++gm (cW n) 99 (cS L R 99)++gm (cW n) 100 (cS L R 100)
def mJ:∀(n:Nat) (L R:List Int),(cW n L R).length=eR n L R
 | 0,L,R=>by
  unfold cW eR
  split<;>rfl
 | n+1,L,R=>by
  have key:∀c o,(gm (cW n) c o).length=dj n o:=λc o=>by
   rcases o with _ | ⟨a,b⟩
   ·rfl
   ·show ((cW n a b).map _).length=eR n a b;rw[aE,mJ n a b]
  rw[iO];unfold cW;simp only[af,key]
def qC(c n:Nat)(L R:List Int):Nat:=(if 97<c then dj n (cS L R 97) else 0)+(if 98<c then dj n (cS L R 98) else 0)+(if 99<c then dj n (cS L R 99) else 0)
def mj:List Nat->List Int->List Int->Nat
 | [],_,_=>0
 | c::cs,L,R=>qC c cs.length L R+(match cS L R c with | none=>0 | some (L',R')=>mj cs L' R')
def di{n c:Nat}{o:Option (List Int×List Int)}:(gm (cW n) c o).length=dj n o:=by
 rcases o with _ | ⟨a,b⟩
 ·rfl
 ·show ((cW n a b).map _).length=eR n a b;rw[aE,mJ n a b]
def Al{n c i:Nat}{L R L' R':List Int}{cs:List Nat}(hc:iM c)(g:cS L R c=some (L',R'))(h:(cW n L' R')[i]? = some cs):(cW (n+1) L R)[qC c n L R+i]? = some (c::cs):=by
 have hi:i<(cW n L' R').length:=(aJ.mp h).1;have at_:(gm (cW n) c (cS L R c))[i]? = some (c::cs):=by
  rw[g];show ((cW n L' R').map (c::·))[i]? = _;rw[a9,h];rfl
 have hl:i<(gm (cW n) c (cS L R c)).length:=(aJ.mp at_).1;unfold cW qC;rcases hc with rfl | rfl | rfl | rfl
 ·simp only[ce,show ¬(98:Nat)<97 by decide,show ¬(99:Nat)<97 by decide,NP,kt];rw[ai,ai,bP hl];exact at_
 ·simp only[ce,show (97:Nat)<98 by decide,show ¬(99:Nat)<98 by decide,NP,NO,Nat.add_zero];rw[ai,ai,ac (by rw[di];lia),di,gU,bP hl];exact at_
 ·simp only[ce,show (97:Nat)<99 by decide,show (98:Nat)<99 by decide,NP,NO,Nat.add_zero];rw[ai,ac (by rw[af,di,di];lia),af,di,di,gU,bP hl];exact at_
 ·simp only[show (97:Nat)<100 by decide,show (98:Nat)<100 by decide,show (99:Nat)<100 by decide,NO];rw[ac (by rw[af,af,di,di,di];lia),af,af,di,di,di,gU];exact at_
def Am:∀{cs:List Nat} {L R:List Int} {i:Nat},tK cs->fM L R cs i=none->(cW cs.length L R)[mj cs L R]? = some cs
 | [],L,R,i,_,h=>by
  unfold fM at h
  split at h
  ·rename_i e;show (if L.length+R.length=1 then [[]] else [])[0]? = _;rw[NJ e];rfl
  ·cases h
 | c::cs,L,R,i,hl,h=>by
  cases g:cS L R c with
  | none=>rw[kd g] at h;cases h
  | some p=>
   obtain⟨L',R'⟩:=p;rw[je g] at h;have:=Am (λx hx=>hl x (aM _ hx)) h;have e:mj (c::cs) L R=qC c cs.length L R+mj cs L' R':=by
    show qC c cs.length L R+(match cS L R c with | none=>0 | some (L',R')=>mj cs L' R')=_;rw[g]
   rw[e];exact Al (hl c aq) g this
def EM{n c i:Nat}{o:Option (List Int×List Int)}{cs:List Nat}(h:(gm (cW n) c o)[i]? = some cs):∃L' R' ds,o=some (L',R')/\cs=c::ds/\(cW n L' R')[i]? = some ds:=by
 rcases o with _ | ⟨a,b⟩
 ·simp[gm] at h
 ·have h:((cW n a b).map (c::·))[i]? = some cs:=h;rw[a9] at h;cases e:(cW n a b)[i]? with
  | none=>rw[e] at h;cases h
  | some ds=>rw[e] at h;cases h;exact⟨a,b,ds,rfl,rfl,e⟩
def Cw{n k:Nat}{L R:List Int}{cs:List Nat}(h:(cW (n+1) L R)[k]? = some cs):∃c i L' R' ds,iM c/\cS L R c=some (L',R')/\k=qC c n L R+i/\cs=c::ds/\(cW n L' R')[i]? = some ds:=by
 unfold cW at h;rw[ai,ai] at h;have la:=di (n:=n) (c:=97) (o:=cS L R 97);have lb:=di (n:=n) (c:=98) (o:=cS L R 98);have lc:=di (n:=n) (c:=99) (o:=cS L R 99);have go:∀c j,iM c->(gm (cW n) c (cS L R c))[j]? = some cs->k=qC c n L R+j->∃c i L' R' ds,iM c/\cS L R c=some (L',R')/\k=qC c n L R+i/\cs=c::ds/\(cW n L' R')[i]? = some ds:=λc j hc h e=>by
  obtain⟨L',R',ds,h1,h2,h3⟩:=EM h;exact⟨c,j,L',R',ds,hc,h1,e,h2,h3⟩
 by_cases h1:k<(gm (cW n) 97 (cS L R 97)).length
 ·rw[bP h1] at h;exact go 97 k (.inl rfl) h (by simp[qC])
 ·rw[ac (by lia)] at h;by_cases h2:k-(gm (cW n) 97 (cS L R 97)).length<(gm (cW n) 98 (cS L R 98)).length
  ·rw[bP h2] at h;exact go 98 _ (.inr (.inl rfl)) h (by simp[qC];lia)
  ·rw[ac (by lia)] at h;by_cases h3:k-(gm (cW n) 97 (cS L R 97)).length-(gm (cW n) 98 (cS L R 98)).length<(gm (cW n) 99 (cS L R 99)).length
   ·rw[bP h3] at h;exact go 99 _ (.inr (.inr (.inl rfl))) h (by simp[qC];lia)
   ·rw[ac (by lia)] at h;exact go 100 _ (.inr (.inr (.inr rfl))) h (by simp[qC];lia)
def xV:∀{n:Nat} {L R:List Int} {k:Nat} {cs:List Nat},(cW n L R)[k]? = some cs->cs.length=n/\tK cs/\(∀i,fM L R cs i=none)/\k=mj cs L R
 | 0,L,R,k,cs,h=>by
  unfold cW at h
  split at h
  ·rename_i e;cases k with
   | zero=>cases h;exact⟨rfl,(λx hx=>by cases hx),λi=>by unfold fM;rw[NJ e],rfl⟩
   | succ k=>simp at h
  ·simp at h
 | n+1,L,R,k,cs,h=>by
  obtain⟨c,i,L',R',ds,hc,g,e,rfl,h'⟩:=Cw h;obtain⟨h1,h2,h3,h4⟩:=xV h';refine⟨by rw[cM,h1],λx hx=>?_,λj=>by rw[je g];exact h3 _,?_⟩
  ·rcases aI.mp hx with z | z
   ·rw[z];exact hc
   ·exact h2 x z
  ·show k=qC c ds.length L R+(match cS L R c with | none=>0 | some (L',R')=>mj ds L' R')
   rw[g,h1,e,h4]
def Ak{n:Nat}{L R:List Int}(h:2*n+1<L.length+R.length):cW n L R=[]:=by
 have:=mJ n L R;rw[qP n h] at this;exact cU.mp this
def jr(b:Bool)(cs:List Nat):List Int:=ordF (fin2 b cs) b cs.length
structure yc (b:Bool) (cs:List Nat):Prop where
 lts:tK cs
 len:cs.length<=20
 res:fM (bL b) (bR b) cs 0=none
def yc.maze{b:Bool}{cs:List Nat}(C:yc b cs):zh b cs (jr b cs):=by
 obtain⟨ns,M⟩:=z9 C.lts C.len C.res;have:jr b cs=ns:=M.ordF;rw[this];exact M
def yc.code{b:Bool}{cs:List Nat}(C:yc b cs):qi b (jr b cs)=cs:=C.maze.code C.lts
def jd{b:Bool}{n k:Nat}{cs:List Nat}(hn:n<=20)(h:(cW n (bL b) (bR b))[k]? = some cs):yc b cs/\cs.length=n/\k=mj cs (bL b) (bR b):=by
 obtain⟨h1,h2,h3,h4⟩:=xV h;exact⟨⟨h2,by lia,h3 0⟩,h1,h4⟩
abbrev og:=List Nat×List Int×List Int
def oV(n:Nat)(ps:List og):List (List Nat):=ps.flatMap λp=>(cW n p.2.1 p.2.2).map (p.1++·)
def jX(p:og)(n c:Nat):List og:=match cS p.2.1 p.2.2 c with | none=>[] | some (L,R)=>if L.length+R.length<=2*n+1 then [(p.1++[c],L,R)] else []
def nY(p:og)(n:Nat):List og:=jX p n 97++jX p n 98++jX p n 99++jX p n 100
def vB(n:Nat)(ps qs:List og):oV n (ps++qs)=oV n ps++oV n qs:=by unfold oV;rw[iw]
def Dg(p:og)(n c:Nat):oV n (jX p n c)=(gm (cW n) c (cS p.2.1 p.2.2 c)).map (p.1++·):=by
 unfold jX;cases cS p.2.1 p.2.2 c with
 | none=>rfl
 | some q=>
  obtain⟨L,R⟩:=q;simp only
  split
  ·show (((cW n L R).map (p.1++[c]++·))++[])=((cW n L R).map (c::·)).map (p.1++·);rw[bb,bj];exact cQ λx _=>by simp
  ·rename_i h;show []=((cW n L R).map (c::·)).map (p.1++·);rw[Ak (by lia)];rfl
def Dh(p:og)(n:Nat):oV n (nY p n)=(cW (n+1) p.2.1 p.2.2).map (p.1++·):=by
 unfold nY cW;simp only[vB,Dg,aO]
def tX(n:Nat):∀ps:List og,oV n (ps.flatMap λp=>nY p n)=oV (n+1) ps
 | []=>rfl
 | p::ps=>by
  rw[a6,vB,Dh,tX n ps];unfold oV;rw[a6]
end Rm
namespace L2
open PySem PySem.Spec PyProof.Rows
section
variable {X:Cx}
def rM{h:Heap}{d:PyData}:∀{us:List Value} {es:List PyData} {as:List Addr},ReadsAll h us es as->PyData.canLayAll0 es=true->us.countP (eqR h d)=es.countP λe=>PyData.eqv e d
 | _,_,_,.nil,_=>rfl
 | _,_,_,.cons r rs,c=>by
  have c':(PyData.canLay0 _&&PyData.canLayAll0 _)=true:=c;rw[dI] at c';rw[cN,cN,wH r c'.1,rM rs c'.2]
def xb(K:NQ):V->List V->Hp->VK->Prop:=λx vs H Q=>∃d es p xs y,x=.ref p/\vs=[y]/\Rep K H y d/\cF K H p xs/\nG K H xs es/\d.canLay0=true/\PyData.canLayAll0 es=true/\d.depth<=60/\Q (.int ((es.countP λe=>PyData.eqv e d:Nat):Int)) H
def zL (hu:X.A.units+64<cLine):HD X "list.count" (xb X.K):=by
 intro pins s σ H x vs v us Q I rx rv h;obtain⟨d,es,p,xs,y,rfl,rfl,h1,hq,h2,h3,h4,h5,q⟩:=h;cases rx;obtain⟨u,rfl,ru⟩:=rv.one;obtain⟨as,ra⟩:=h1.reads I ru;obtain⟨its,r,pl,hz⟩:=I.list hq;obtain⟨bs,rb⟩:=h2.reads I r;obtain⟨⟨cls,dd,data,sl⟩,ho,hc,n,hd⟩:=id pl.isList;simp only at hc hd;subst hc hd;refine Mw F.slot_list_count ⟨_,ho,rfl⟩ F.entry_list_count (F.args_list_count_2 _ _) (SeqAt.list_countAt p its.toArray n dd sl u (eqR s.heap d)) ⟨ho,λz hz=>pH (A:=X.A.in1) ra h3 (by show X.A.units+1+d.depth<cLine;lia) rb h4 z (by simpa using hz),?_⟩;refine⟨.int _,H,I.tok _,⟨_,by rw[List.toList_toArray,rM rb h4]⟩,q⟩
def AL{K:NQ}{p:Addr}{y:V}{H:Hp}{Q:VK}:xb K (.ref p) [y] H Q=∃d es xs,Rep K H y d/\cF K H p xs/\nG K H xs es/\d.canLay0=true/\PyData.canLayAll0 es=true/\d.depth<=60/\Q (.int ((es.countP λe=>PyData.eqv e d:Nat):Int)) H:=propext ⟨λ⟨d,es,_,xs,_,e,e',h⟩=>by cases e;cases e';exact⟨d,es,xs,h⟩,λ⟨d,es,xs,h⟩=>⟨d,es,p,xs,y,rfl,rfl,h⟩⟩
def xZ:V->List V->Hp->VK->Prop:=λx vs H Q=>∃z y,x=.str z/\vs=[.str y]/\∃(i:Nat) (rest:List Nat),Builtin.Str.occurrences z y 0 z.length 1=i::rest/\Q (.int i) H
def zK:HD X "str.index" xZ:=by
 intro pins s σ H x xs v us Q I r rv h;obtain⟨z,y,rfl,rfl,i,rest,ho,q⟩:=h;obtain⟨t,rfl⟩:=r;obtain⟨u,rfl,t2,rfl⟩:=Mt rv;exact SC.index ho ⟨.int i,H,I.tok _,⟨_,rfl⟩,q⟩
def zq{z y:Str}{H:Hp}{Q:VK}:xZ (.str z) [.str y] H Q=∃(i:Nat) (rest:List Nat),Builtin.Str.occurrences z y 0 z.length 1=i::rest/\Q (.int i) H:=propext ⟨λ⟨_,_,e,e',h⟩=>by cases e;cases e';exact h,λh=>⟨z,y,rfl,rfl,h⟩⟩
end
def C5(lo:Int)(n:Nat):It:=⟨λi _=>i<n,λi H x H'=>H'=H/\x=.int (lo+i*(-1)),λi _=>n<=i⟩
def tT {P : Program} {w : World} {K : NQ} {tg : Expr} (it : Addr) (lo : Int) (n : Nat) : Turn P w K tg (C5 lo n) [it] it (fun i h => IsRangeIter h it (lo + (i : Nat) * (-1)) ((n : Int) - (i : Nat)) (-1)) where
  mem := by simp
  obj := fun i h st b hb => by
    have e : b = it := by simpa using hb
    subst e
    exact ⟨_, st, fun v z => by
      have z' : Data.fields _ = Data.cell v := z
      cases z'⟩
  keep := fun i h h' st k => k it (by simp) _ st
  item := by
    intro X hP hw hK hc i pins s σ H E I hf st hg
    subst hP hw hK
    obtain ⟨f0, f1, f2, f3, f4, f5⟩ := hf it (by simp)
    have W := Walks.range (prog := X.prog) (w := X.w) (I.ok.hd hc) it lo (-1) n
    refine W.item i s _ _ hg st fun v h' tk hv st' kk => ?_
    obtain ⟨t, rfl⟩ := hv
    have I1 : bc X pins σ H { s with heap := h', toks := tk } := I.turned (fun b o hb e => kk b o (by simpa using hb) e) f0 f1 f3 f4 f5
    exact ⟨_, rfl, uk (s := { s with heap := h', toks := tk }) (n := "range_iterator") st' rfl rfl (by decide) ⟨.int (lo + i * (-1)), H, I1, ⟨t, rfl⟩, ⟨rfl, rfl⟩, st', fun b hb => (hf b hb).1⟩⟩
  done := by
    intro X hP hw hK hc i pins s σ H E I hf st hg
    subst hP hw hK
    obtain ⟨f0, f1, f2, f3, f4, f5⟩ := hf it (by simp)
    exact wpAny_pyNext_range_end (I.ok.hd hc) st (by have : n ≤ i := hg; lia) fun h' eb => ⟨rfl, I.turned (t' := s.toks) (fun b o hb e => eb b o hb e) f0 f1 f3 f4 f5⟩
  self := fun _ _ _ _ _ st h => wpAny_pyIter_rangeiter st h
def mX(a b:Int):Builtin.Range.rangeSize a b (-1)=((a-b).toNat:Int):=by
 unfold Builtin.Range.rangeSize;simp
 split<;>lia
def yn{a b:Int}(ha:-(2 ^ 61)<=a)(ha':a<2 ^ 61)(hb:-(2 ^ 61)<=b)(hb':b<2 ^ 61):Builtin.Range.small a b (-1)=true:=by
 unfold Builtin.Range.small;rw[mX];simp only[Builtin.Range.rangeFitsLong,dI,Bool.or_eq_true,NK,beq_iff_eq,show ¬(-1:Int) > 0 by decide,NP];lia
section
variable {X:Cx} {tg:Expr}
def yu{pins:List (Addr×Obj)}{σ:St}{H:Hp}{s:Shared}{R:It->Hp->Prop}{E:Value->Shared->Prop}{lo hi:Int}{t u v:Tok}{tk:Nat}(I:bc X pins σ H s)(h1:-(2 ^ 61)<=lo)(h2:lo<2 ^ 61)(h3:-(2 ^ 61)<=hi)(h4:hi<2 ^ 61)
  (q:R (C5 lo (lo-hi).toNat) H):wpAny (model X.prog X.w) X.A (pyIter (.ref s.heap.objs.size)) (J7 X pins σ tg R) E { s with heap:=s.heap.push { cls:=.type "range",data:=.fields #[.int lo t,.int hi u,.int (-1) v] },toks:=tk }:=by
 refine wpAny_pyIter_range (IsRange.new ..) (yn h1 h2 h3 h4) ?_;have I1:bc X pins σ H { s with heap:=s.heap.push { cls:=.type "range",data:=.fields #[.int lo t,.int hi u,.int (-1) v] },toks:=tk }:=I.kept λb o e=>aB _ e;refine⟨(s.heap.push { cls:=.type "range",data:=.fields #[.int lo t,.int hi u,.int (-1) v] }).objs.size,[(s.heap.push { cls:=.type "range",data:=.fields #[.int lo t,.int hi u,.int (-1) v] }).objs.size],_,_,H,rfl,
  I1.kept (t':=tk) λb o e=>aB _ e,tT _ lo (lo-hi).toNat,?_,λb hb=>?_,q⟩
 ·have e1:lo+((0:Nat):Int)*(-1)=lo:=by simp
  have e2:(((lo-hi).toNat:Nat):Int)-((0:Nat):Int)=Builtin.Range.rangeSize lo hi (-1):=by rw[mX];simp
  show IsRangeIter _ _ (lo+((0:Nat):Int)*(-1)) ((((lo-hi).toNat:Nat):Int)-((0:Nat):Int)) (-1);rw[e1,e2];exact aP _ rfl
 ·have e:b=(s.heap.push { cls:=.type "range",data:=.fields #[.int lo t,.int hi u,.int (-1) v] }).objs.size:=by simpa using hb
  subst e;exact I1.fpOk (aH _) (I1.hok.fresh (aH _))
def Et(ta:TA):TI:=λσ H R=>ta σ H λvs H1=>∃i j:Int,vs=[.int i,.int j,.int (-1)]/\(-(2 ^ 61)<=i/\i<2 ^ 61/\-(2 ^ 61)<=j/\j<2 ^ 61)/\R (C5 i (i-j).toNat) H1
def p8 {a b c:Expr} {ta:TA} {p pos:Pos} (hg:Gl X "range") (hm:X.mg "range"=none) (ha:QA X [a,b,c] ta) (hs:starEach [a,b,c] X.env=(false,eval a X.env)::starEach [b,c] X.env:=by rfl) (hpl:(backTo pos (starEach [b,c] X.env)).any (·.1)=false:=by rfl) :
  QI X tg (.Call (.Name "range" p) [a,b,c] [] pos) (Et ta):=⟨by
 intro pins s σ H R I h;refine Call_ (jZ I hg hm boot_range (bV (dZ (ha.h pos pins s σ H _ I h) λus s1 ⟨vs,H1,I1,r1,q1⟩=>?_) hs hpl));obtain⟨i,j,e,⟨q1,q2,q3,q4⟩,q⟩:=q1;subst e;cases r1 with
 | cons r rr=>
  cases rr with
  | cons r' rr=>
   cases rr with
   | cons r'' rr=>
    cases rr;obtain⟨t,rfl⟩:=r;obtain⟨t',rfl⟩:=r';obtain⟨t'',rfl⟩:=r'';exact call_range_3 (by decide) (yu I1 q1 q2 q3 q4 q)⟩
def FC{σ:St}{H:Hp}{D:Ends}{ta:TA}{g:TG}{tb:TS}:oF (Et ta) g tb D σ H=ta σ H λvs H1=>∃i j:Int,vs=[.int i,.int j,.int (-1)]/\(-(2 ^ 61)<=i/\i<2 ^ 61/\-(2 ^ 61)<=j/\j<2 ^ 61)/\mT (C5 i (i-j).toNat) g tb D σ H1:=rfl
def qI{lo:Int}{n:Nat}{g:TG}{tb:TS}{D:Ends}{σ:St}{H:Hp}(Pv:Nat->St->Hp->Prop)(h0:Pv 0 σ H)
  (hs:∀i σ H,i<n->Pv i σ H->g (.int (lo+i*(-1))) σ H λσ2 H2=>tb { D with nx:=Pv (i+1),ct:=Pv (i+1),bk:=D.nx } σ2 H2) (hd:∀σ H,Pv n σ H->D.nx σ H):mT (C5 lo n) g tb D σ H:=by
 refine⟨λi m σ H=>m+i=n/\Pv i σ H,⟨n,rfl,h0⟩,?_⟩;rintro i m σ H ⟨hm,hp⟩;by_cases hi:i<n
 ·refine .inr ⟨hi,Pv (i+1),λσ' H' h=>⟨m - 1,by lia,by lia,h⟩,?_⟩;rintro v H' ⟨rfl,rfl⟩;exact hs i σ H' hi hp
 ·have e:i=n:=by lia
  subst e;exact .inl ⟨aH _,hd σ H hp⟩
end
end L2
namespace Rm
open PySem L2 PyProof.Rows
def wz:Sp:=λvs H Q _=>∃m o b ns,vs=[.ref m]/\du H m o b ns/\oX ns/\NC b ns/\∀H',aV H H'->Q (.bl true) H'
def pT:Sp:=λvs H Q _=>∃m o b ns,vs=[.ref m]/\du H m o b ns/\oX ns/\NC b ns/\∀H',aV H H'->Q (.str (tx (qi b ns))) H'
def tY:Sp:=λvs H Q _=>∃(b:Bool) (cs:List Nat),vs=[.str (sd b),.str (tx cs)]/\yc b cs/\∀H',aV H H'->Q (.bl true) H'
def rq:Sp:=λvs H Q _=>∃(b:Bool) (cs:List Nat),vs=[.str (sd b),.str (tx cs)]/\yc b cs/\∀m o H',aV H H'->du H' m o b (jr b cs)->Q (.ref m) H'
def xO:Sp:=λvs H Q _=>∃(r:Int) (b:Bool) (m:Nat),vs=[.int r,.str (sd b),.int m]/\m<=5/\∀cs H',aV H H'->yc b cs->cs.length<=4*m->Q (.str (tx cs)) H'
def qx:Sp:=λvs H Q _=>∃(b:Bool) (n:Nat),vs=[.str (sd b),.int (n:Nat)]/\n<=9/\∀l H',H l=none->aV H H'->H' l=some (.lst ((cW n (bL b) (bR b)).map λcs=>V.str (tx cs)))->Q (.ref l) H'
def EZ(H:Hp)(b:Bool)(as:List Addr)(ss:List (List Nat)):Prop:=Paired (λa cs=>∃o,du H a o b (jr b cs)) as ss
def EZ.same{H H':Hp}{b:Bool}{as:List Addr}{ss:List (List Nat)}(h:EZ H b as ss)(s:aV H H'):EZ H' b as ss:=Paired.mapP h λ_ _ ⟨o,z⟩=>⟨o,z.same s⟩
def tj:Sp:=λvs H Q _=>∃(b:Bool) (n:Nat),vs=[.str (sd b),.int (n:Nat)]/\n<=9/\∀l as H',H l=none->aV H H'->H' l=some (.lst (as.map V.ref))->EZ H' b as (cW n (bL b) (bR b))->Q (.ref l) H'
def pW:Sp:=λvs H Q _=>∃(L R:List Int) (c m:Nat) (d:Addr) (kvs:List (List Key×V)),vs=[.str (tx (fV L R)),.str ⟨#[c]⟩,.int (m:Nat),.ref d]/\iM c/\m<=12/\EE L R/\L.length+R.length+2*m<=300/\H d=some (.dT kvs)/\fu kvs/\kvs.length+mD m<=10000000 ∧
 ∀H' kvs',aV (wo H d) (wo H' d)->H' d=some (.dT kvs')->fu kvs'->kvs'.length<=kvs.length+mD m->Q (.int ((dj m (cS L R c):Nat):Int)) H'
def xI:Sp:=λvs H Q _=>∃m o b cs,vs=[.ref m]/\du H m o b (jr b cs)/\yc b cs/\cs.length<=12/\∀H',aV H H'->Q (.int ((mj cs (bL b) (bR b):Nat):Int)) H'
def oO(n:Nat)(L R:List Int)(k:Nat):Nat×Nat:=
 if k<dj n (cS L R 97) then (97,k) else if k-dj n (cS L R 97)<dj n (cS L R 98) then (98,k-dj n (cS L R 97)) else
 if k-dj n (cS L R 97)-dj n (cS L R 98)<dj n (cS L R 99) then (99,k-dj n (cS L R 97)-dj n (cS L R 98)) else (100,k-dj n (cS L R 97)-dj n (cS L R 98)-dj n (cS L R 99))
def Di{n k:Nat}{L R:List Int}(h:k<eR (n+1) L R):iM (oO n L R k).1/\k=qC (oO n L R k).1 n L R+(oO n L R k).2/\∃L' R',cS L R (oO n L R k).1=some (L',R')/\(oO n L R k).2<eR n L' R':=by
 have go:∀(o:Option (List Int×List Int)) (j:Nat),j<dj n o->∃L' R',o=some (L',R')/\j<eR n L' R':=λo j hj=>by
  rcases o with _ | ⟨a,b⟩
  ·exact absurd hj (Nat.not_lt_zero _)
  ·exact⟨a,b,rfl,hj⟩
 rw[iO] at h;unfold oO;by_cases h1:k<dj n (cS L R 97)
 ·rw[NJ h1];exact⟨.inl rfl,by simp[qC],go _ _ h1⟩
 ·rw[NI h1];by_cases h2:k-dj n (cS L R 97)<dj n (cS L R 98)
  ·rw[NJ h2];exact⟨.inr (.inl rfl),by simp[qC];lia,go _ _ h2⟩
  ·rw[NI h2];by_cases h3:k-dj n (cS L R 97)-dj n (cS L R 98)<dj n (cS L R 99)
   ·rw[NJ h3];exact⟨.inr (.inr (.inl rfl)),by simp[qC];lia,go _ _ h3⟩
   ·rw[NI h3];exact⟨.inr (.inr (.inr rfl)),by simp[qC];lia,go (cS L R 100) _ (by lia)⟩
def xK:Sp:=λvs H Q _=>∃(L R:List Int) (m k:Nat) (d:Addr) (kvs:List (List Key×V)),vs=[.str (tx (fV L R)),.int (m:Nat),.int (k:Nat),.ref d]/\m<=12/\EE L R/\L.length+R.length+2*m<=300/\H d=some (.dT kvs)/\fu kvs/\kvs.length+3*mD m<=10000000 ∧
 ∀t H' kvs',H t=none->aV (wo H d) (wo H' d)->H' d=some (.dT kvs')->fu kvs'->kvs'.length<=kvs.length+3*mD m->H' t=some (.tup [.str ⟨#[(oO m L R k).1]⟩,.int ((oO m L R k).2:Nat)])->Q (.ref t) H'
def pR:Sp:=λvs H Q _=>∃(b:Bool) (n k:Nat),vs=[.str (sd b),.int (n:Nat),.int (k:Nat)]/\n<=11/\k<eR n (bL b) (bR b)/\∀cs m o H',aV H H'->(cW n (bL b) (bR b))[k]? = some cs->du H' m o b (jr b cs)->Q (.ref m) H'
def zg(H:Hp)(a:Addr)(p:og):Prop:=H a=some (.tup [.str (tx p.1),.str (tx (fV p.2.1 p.2.2))])
def Ig(H:Hp)(l:Addr)(ps:List og):Prop:=∃as:List Addr,H l=some (.lst (as.map V.ref))/\Paired (zg H) as ps
structure EY (i n:Nat) (ps:List og):Prop where
 ee:∀ p∈ps,EE p.2.1 p.2.2
 len:∀ p∈ps,p.1.length=i
 sz:∀ p∈ps,p.2.1.length+p.2.2.length<=2 * i+1
 en:∀ p∈ps,p.2.1.length+p.2.2.length<=2 * n+1
def pG{p q:og}{n c i:Nat}(hc:iM c)(E:EE p.2.1 p.2.2)(hl:p.1.length=i)(hs:p.2.1.length+p.2.2.length<=2*i+1)(h:q∈jX p n c):EE q.2.1 q.2.2/\q.1.length=i+1/\q.2.1.length+q.2.2.length<=2*(i+1)+1/\q.2.1.length+q.2.2.length<=2*n+1:=by
 unfold jX at h
 split at h
 ·cases h
 ·rename_i L R g
  split at h
  ·rename_i hle;rw[bN] at h;subst h;have:=iN hc g;exact⟨E.go hc g,by simp[hl],by simp only;lia,hle⟩
  ·cases h
def lm(p:og)(n c:Nat):(jX p n c).length<=1:=by
 unfold jX
 split
 ·exact bF _
 ·split
  ·exact aH _
  ·exact bF _
def B8(p:og)(n:Nat):(nY p n).length<=4:=by
 have h1:=lm p n 97;have h2:=lm p n 98;have h3:=lm p n 99;have h4:=lm p n 100;unfold nY;simp only[af];lia
def EY.next{i n:Nat}{ps:List og}(I:EY i (n+1) ps):EY (i+1) n (ps.flatMap λp=>nY p n):=by
 have key:∀q∈ps.flatMap λp=>nY p n,EE q.2.1 q.2.2/\q.1.length=i+1/\q.2.1.length+q.2.2.length<=2*(i+1)+1/\q.2.1.length+q.2.2.length<=2*n+1:=λq hq=>by
  obtain⟨p,hp,hq⟩:=fj.mp hq;unfold nY at hq;simp only[aQ] at hq;rcases hq with ((h | h) | h) | h
  ·exact pG (.inl rfl) (I.ee p hp) (I.len p hp) (I.sz p hp) h
  ·exact pG (.inr (.inl rfl)) (I.ee p hp) (I.len p hp) (I.sz p hp) h
  ·exact pG (.inr (.inr (.inl rfl))) (I.ee p hp) (I.len p hp) (I.sz p hp) h
  ·exact pG (.inr (.inr (.inr rfl))) (I.ee p hp) (I.len p hp) (I.sz p hp) h
 exact⟨λq hq=>(key q hq).1,λq hq=>(key q hq).2.1,λq hq=>(key q hq).2.2.1,λq hq=>(key q hq).2.2.2⟩
def qK(n:Nat):∀ps:List og,(ps.flatMap λp=>nY p n).length<=4*ps.length
 | []=>aH _
 | p::ps=>by
  rw[a6,af,cM];have:=qK n ps;have:=B8 p n;lia
def y9{i:Nat}:∀{ps:List og},EY i 0 ps->oV 0 ps=ps.map (·.1)
 | [],_=>rfl
 | p::ps,I=>by
  have I':EY i 0 ps:=⟨λq h=>I.ee q (aM _ h),λq h=>I.len q (aM _ h),λq h=>I.sz q (aM _ h),λq h=>I.en q (aM _ h)⟩
  have e:=I.en p aq;have e1:=(I.ee p aq).pos;have:cW 0 p.2.1 p.2.2=[[]]:=by unfold cW;rw[NJ (by lia)]
  show (cW 0 p.2.1 p.2.2).map (p.1++·)++oV 0 ps=p.1::ps.map (·.1);rw[this,y9 I'];simp
def EY.start(b:Bool)(n:Nat):EY 0 n [([],bL b,bR b)]:=by
 have e:(bL b).length+(bR b).length=1:=by cases b<;>rfl
 refine⟨λp hp=>?_,λp hp=>?_,λp hp=>?_,λp hp=>?_⟩<;>rw[bN] at hp<;>subst hp
 ·cases b;exact EE.one;exact EE.two
 ·rfl
 ·simp only;lia
 ·simp only;lia
def zf(b:Bool)(n:Nat):oV n [([],bL b,bR b)]=cW n (bL b) (bR b):=by
 show (cW n (bL b) (bR b)).map ([]++·)++[]=_;simp
def jv:List Nat:=[97,98,99,100]
def vp(p:og)(n k:Nat):List og:=(jv.take k).flatMap (jX p n)
def B7(p:og)(n:Nat):vp p n 4=nY p n:=by
 show jX p n 97++(jX p n 98++(jX p n 99++(jX p n 100++[])))=_;unfold nY;simp
def zH{p:og}{n k c:Nat}(h:jv[k]? = some c):vp p n (k+1)=vp p n k++jX p n c:=by
 unfold vp;rw[bW,h,iw];simp
def B6(p:og)(n k:Nat):(vp p n k).length<=4:=by
 have:∀l:List Nat,(l.flatMap (jX p n)).length<=l.length:=by
  intro l
  induction l with
  | nil=>exact aH _
  | cons c l ih=>
   rw[a6,af,cM];have:=lm p n c;lia
 have h:=this (jv.take k);have:(jv.take k).length<=4:=by rw[bp];show min k 4<=4;lia
 unfold vp;lia
def zg.same{H H':Hp}{a:Addr}{p:og}(h:zg H a p)(s:aV H H'):zg H' a p:=s _ _ h
def zg.upd{H:Hp}{a l:Addr}{p:og}{xs ys:List V}(h:zg H a p)(hl:H l=some (.lst xs)):zg (upd H l (.lst ys)) a p:=by
 have:a≠l:=λe=>by subst e;unfold zg at h;rw[hl] at h;cases h
 unfold zg;rw[aR this];exact h
def qB{k c:Nat}(h:jv[k]? = some c):iM c:=by
 match k,h with
 | 0,h=>cases h;exact .inl rfl
 | 1,h=>cases h;exact .inr (.inl rfl)
 | 2,h=>cases h;exact .inr (.inr (.inl rfl))
 | 3,h=>cases h;exact .inr (.inr (.inr rfl))
 | j+4,h=>simp[jv] at h
def qS:Nat->Nat
 | 0=>0
 | n+1=>qS n+3*mD n
def EN:∀n,n<=12->qS n<=10000000:=by decide
def Dr(k n:Nat)(L R:List Int):Nat:=((jv.take k).map λc=>dj n (cS L R c)).sum
def ue{k n c:Nat}{L R:List Int}(h:jv[k]? = some c):Dr (k+1) n L R=Dr k n L R+dj n (cS L R c):=by
 unfold Dr;rw[bW,h,aO,List.sum_append];simp
def IS{c n:Nat}{L R:List Int}(h:iM c):qC c n L R=Dr (c - 97) n L R:=by
 rcases h with rfl | rfl | rfl | rfl<;>simp[qC,Dr,jv]<;>lia
def B4 {c:Nat} (h:iM c):Builtin.Str.occurrences (Str.ofString "abcd") ⟨#[c]⟩ 0 (Str.ofString "abcd").length 1=[c - 97]:=by rcases h with rfl | rfl | rfl | rfl<;>decide +kernel
def sK{H H1 H2:Hp}{d:Addr}(h:H d=none)(s:aV H H1)(w:aV (wo H1 d) (wo H2 d)):aV H H2:=λb o e=>by
 have ne:b≠d:=λz=>by rw[z,h] at e;cases e
 exact rY w (s _ _ e) ne
def Cv {c:Nat} (h:iM c):Txt.slice (Str.ofString "abcd") none (some ((c - 97:Nat):Int))=tx (jv.take (c - 97)):=by rcases h with rfl | rfl | rfl | rfl<;>decide +kernel
def n9{j k c:Nat}(h:(jv.take j)[k]? = some c):jv[k]? = some c/\k<j:=by
 rw[List.getElem?_take] at h
 split at h
 ·exact⟨h,by assumption⟩
 ·cases h
def B9{c:Nat}{cs:List Nat}{L R L' R':List Int}(g:cS L R c=some (L',R')):mj (c::cs) L R=qC c cs.length L R+mj cs L' R':=by
 show qC c cs.length L R+(match cS L R c with | none=>0 | some (L',R')=>mj cs L' R')=_;rw[g]
def F3:Txt.slice (Str.ofString "abcd") none (some (-1))=tx (jv.take 3):=by decide +kernel
def Dj{j c m k rest:Nat}{L R:List Int}(hj:j<3)(hc:jv[j]? = some c)(e:rest+Dr j m L R=k)(h:rest<dj m (cS L R c)):oO m L R k=(c,rest):=by
 unfold oO
 match j,hj,hc with
 | 0,_,hc=>
  cases hc;have e:rest+0=k:=e;rw[NJ (by lia)];exact nv rfl (by lia)
 | 1,_,hc=>
  cases hc;have e:rest+(dj m (cS L R 97)+0)=k:=e;rw[NI (by lia),NJ (by lia)];exact nv rfl (by simp only;lia)
 | 2,_,hc=>
  cases hc;have e:rest+(dj m (cS L R 97)+(dj m (cS L R 98)+0))=k:=e;rw[NI (by lia),NI (by lia),NJ (by lia)];exact nv rfl (by simp only;lia)
def B5{m k rest:Nat}{L R:List Int}(e:rest+Dr 3 m L R=k):oO m L R k=(100,rest):=by
 unfold oO;have e:rest+(dj m (cS L R 97)+(dj m (cS L R 98)+(dj m (cS L R 99)+0)))=k:=e;rw[NI (by lia),NI (by lia),NI (by lia)];exact nv rfl (by simp only;lia)
def yG{H H1:Hp}{d t:Addr}{o:HO}(w:aV (wo H d) (wo H1 d))(hd:H1 d=some o)(h:H1 t=none):H t=none:=by
 cases e:H t with
 | none=>rfl
 | some u=>
  have ne:t≠d:=λz=>by rw[z,hd] at h;cases h
  rw[rY w e ne] at h;cases h
def wy:Sp:=λvs H Q _=>∃n:Nat,vs=[.int (n:Nat)]/\n<=20/\Q (.bl true) H
def y1{k n:Nat}(h:k<n):Gh (.int (k:Nat)) n=true:=by
 show (true&&(decide ((0:Int)<=(k:Int))&&decide ((k:Int)<(n:Int))))=true;rw[NM (by lia),NM (by lia)];rfl
def Gf:∀n,n<=11->mD n+qS n<=10000000:=by decide
end Rm
namespace L2
open PySem PySem.Spec PyProof.Rows
abbrev TH:=Ends->St->Addr->Option Addr->Hp->Prop
end L2
namespace Rm
open PySem L2 PyProof.Rows
def Pr(bs:List Bool)(x y:Nat):Prop:=Ik bs x y\/Ik bs y x
open Classical in
noncomputable def mtF (bs:List Bool) (x:Nat):Nat:=if h:∃y,Pr bs x y then h.choose else x
def gv(g:List Int)(x:Nat):Int:=g.getD x 0
def Gz(L R:Nat->Nat)(e:Nat):Nat->Nat
 | 0=>e
 | i+1=>R (L (Gz L R e i))
def Jg(L R:Nat->Nat)(e:Nat):Nat->List Nat
 | 0=>[]
 | i+1=>Jg L R e i++[Gz L R e i]++[L (Gz L R e i)]
def Inj(L R:Nat->Nat)(e i:Nat):Prop:=∀j k,j<i->k<i->Gz L R e j=Gz L R e k->j=k
structure Jx (L R:Nat->Nat) (e i:Nat):Prop where
 pos:0<i
 inj:Inj L R e i
 back:Gz L R e i=e
open Classical in
noncomputable def perF (L R:Nat->Nat) (e:Nat):Nat:=if h:∃i,Jx L R e i then h.choose else 0
noncomputable def rdF (L R:Nat->Nat) (e:Nat):List Nat:=Jg L R e (perF L R e)
open Classical in
noncomputable def rsF (L R:Nat->Nat):Nat->List (List Nat)
 | 0=>[]
 | i+1=>if ∃r∈rsF L R i,i∈r then rsF L R i else rsF L R i++[rdF L R i]
def rk(G:Nat->Bool):Nat->Nat
 | 0=>0
 | k+1=>if G k then rk G k else rk G k+1
def dK(G:Nat->Bool)(bs:List Bool):Nat->Int
 | 0=>0
 | k+1=>if G k then dK G bs k else dK G bs k+((bs[k]?).toList.map dl).sum
end Rm
namespace L2
open PySem PySem.Spec PyProof.Rows
def Fg:V->List V->Hp->VK->Prop:=λx vs H Q=>∃(l:Addr) (ks:List Int) (z:Int) (j:Nat),x=.ref l/\vs=[.int z]/\H l=some (.lst (ks.map V.int))/\ks.length<=1000/\ks[j]? = some z/\(∀m,m<j->ks[m]?≠some z)/\Q (.int j) H
def Cg{l:Addr}{z:Int}{H:Hp}{Q:VK}:Fg (.ref l) [.int z] H Q=∃(ks:List Int) (j:Nat),H l=some (.lst (ks.map V.int))/\ks.length<=1000/\ks[j]? = some z/\(∀m,m<j->ks[m]?≠some z)/\Q (.int j) H:=
 propext ⟨λ⟨_,ks,_,j,e,e',h⟩=>by cases e;cases e';exact⟨ks,j,h⟩,λ⟨ks,j,h⟩=>⟨l,ks,z,j,rfl,rfl,h⟩⟩
end L2
namespace Rm
open PySem L2 PyProof.Rows
def top(i:Nat):Stmt:=PySem.Challenge.pw_ringmaze_k37_whole_numbers_and_lists.main.body.getD i (.Pass ⟨0,0,0,0⟩)
abbrev iC:Stmt:=top 7
def i4:bU ["bows","a","b","c","d"] ["bows"] (am iC):=⟨rfl,rfl,rfl,by decide +kernel,rfl,by decide +kernel,by decide +kernel⟩
abbrev gG:Stmt:=top 11
def uA:bU ["thing"] ["thing"] (am gG):=⟨rfl,rfl,rfl,by decide +kernel,rfl,by decide +kernel,by decide +kernel⟩
abbrev gH:Stmt:=top 12
def uC:bU ["thing","bound"] ["thing","bound"] (am gH):=⟨rfl,rfl,rfl,by decide +kernel,rfl,by decide +kernel,by decide +kernel⟩
abbrev gR:Stmt:=top 13
def vX:bU ["thing"] ["thing"] (am gR):=⟨rfl,rfl,rfl,by decide +kernel,rfl,by decide +kernel,by decide +kernel⟩
abbrev iB:Stmt:=top 14
def uB:bU ["thing"] ["thing"] (am iB):=⟨rfl,rfl,rfl,by decide +kernel,rfl,by decide +kernel,by decide +kernel⟩
abbrev jI:Stmt:=top 15
def vY:bU ["thing"] ["thing"] (am jI):=⟨rfl,rfl,rfl,by decide +kernel,rfl,by decide +kernel,by decide +kernel⟩
abbrev fA:Stmt:=top 17
def q9:bU ["side"] ["side"] (am fA):=⟨rfl,rfl,rfl,by decide +kernel,rfl,by decide +kernel,by decide +kernel⟩
abbrev eY:Stmt:=top 18
def lF:bU ["maze","step","side"] ["maze","step"] (am eY):=⟨rfl,rfl,rfl,by decide +kernel,rfl,by decide +kernel,by decide +kernel⟩
abbrev fI:Stmt:=top 19
def l6:bU ["maze","order"] ["maze"] (am fI):=⟨rfl,rfl,rfl,by decide +kernel,rfl,by decide +kernel,by decide +kernel⟩
abbrev iF:Stmt:=top 20
def jR:bU ["maze","rows","told","step","bow"] ["maze"] (am iF):=⟨rfl,rfl,rfl,by decide +kernel,rfl,by decide +kernel,by decide +kernel⟩
abbrev jJ:Stmt:=top 21
def ka:bU ["maze","side","bows","found"] ["maze"] (am jJ):=⟨rfl,rfl,rfl,by decide +kernel,rfl,by decide +kernel,by decide +kernel⟩
abbrev rA:Stmt:=top 22
def An:bU ["maze","found"] ["maze"] (am rA):=⟨rfl,rfl,rfl,by decide +kernel,rfl,by decide +kernel,by decide +kernel⟩
abbrev jB:Stmt:=top 25
def Ao:bU ["side"] ["side"] (am jB):=⟨rfl,rfl,rfl,by decide +kernel,rfl,by decide +kernel,by decide +kernel⟩
abbrev fB:Stmt:=top 26
def qa:bU ["state"] ["state"] (am fB):=⟨rfl,rfl,rfl,by decide +kernel,rfl,by decide +kernel,by decide +kernel⟩
abbrev gO:Stmt:=top 27
def ez:bU ["signs","place","stride","depth","here"] ["signs","place"] (am gO):=⟨rfl,rfl,rfl,by decide +kernel,rfl,by decide +kernel,by decide +kernel⟩
abbrev kD:Stmt:=top 28
def gM:bU ["left","right","signs","inner_right","inner_left","far","marks","place","mark"] ["left","right"] (am kD):=⟨rfl,rfl,rfl,by decide +kernel,rfl,by decide +kernel,by decide +kernel⟩
abbrev jS:Stmt:=top 29
def pA:bU ["state","letter","halves","left","right"] ["state","letter"] (am jS):=⟨rfl,rfl,rfl,by decide +kernel,rfl,by decide +kernel,by decide +kernel⟩
abbrev gQ:Stmt:=top 33
def sJ:bU ["left_inwards","right_inwards"] ["left_inwards","right_inwards"] (am gQ):=⟨rfl,rfl,rfl,by decide +kernel,rfl,by decide +kernel,by decide +kernel⟩
abbrev kc:Stmt:=top 34
def nT:bU ["maze","bows","lefts","rights"] ["maze"] (am kc):=⟨rfl,rfl,rfl,by decide +kernel,rfl,by decide +kernel,by decide +kernel⟩
abbrev gz:Stmt:=top 35
def i3:bU ["side","code","state","at","sign"] ["side","code"] (am gz):=⟨rfl,rfl,rfl,by decide +kernel,rfl,by decide +kernel,by decide +kernel⟩
abbrev fJ:Stmt:=top 36
def dN:bU ["code","inwards","begins_here","told","waiting","place","letter","row","outer"] ["code","inwards","begins_here"] (am fJ):=⟨rfl,rfl,rfl,by decide +kernel,rfl,by decide +kernel,by decide +kernel⟩
abbrev gS:Stmt:=top 37
def gF:bU ["side","code","across","order","bow_side","row"] ["side","code"] (am gS):=⟨rfl,rfl,rfl,by decide +kernel,rfl,by decide +kernel,by decide +kernel⟩
abbrev iE:Stmt:=top 39
def v4:bU ["state","rows"] ["state","rows"] (am iE):=⟨rfl,rfl,rfl,by decide +kernel,rfl,by decide +kernel,by decide +kernel⟩
abbrev fK:Stmt:=top 40
def l8:bU ["state","reached"] ["state"] (am fK):=⟨rfl,rfl,rfl,by decide +kernel,rfl,by decide +kernel,by decide +kernel⟩
abbrev dO:Stmt:=top 41
def k9:bU ["state","rows","known","key"] ["state","rows","known"] (am dO):=⟨rfl,rfl,rfl,by decide +kernel,rfl,by decide +kernel,by decide +kernel⟩
abbrev eP:Stmt:=top 42
def l9:bU ["state","letter","rows","known","ahead"] ["state","letter","rows","known"] (am eP):=⟨rfl,rfl,rfl,by decide +kernel,rfl,by decide +kernel,by decide +kernel⟩
abbrev gN:Stmt:=top 43
def sI:bU ["n"] ["n"] (am gN):=⟨rfl,rfl,rfl,by decide +kernel,rfl,by decide +kernel,by decide +kernel⟩
abbrev iD:Stmt:=top 44
def eA:bU ["side","n","begins","rows","longer","code","state","letter","ahead"] ["side","n"] (am iD):=⟨rfl,rfl,rfl,by decide +kernel,rfl,by decide +kernel,by decide +kernel⟩
abbrev kC:Stmt:=top 45
def yq:bU ["side","n"] ["side","n"] (am kC):=⟨rfl,rfl,rfl,by decide +kernel,rfl,by decide +kernel,by decide +kernel⟩
abbrev gP:Stmt:=top 46
def cy:bU ["maze","code","known","state","ahead","place","letter","rows","lesser"] ["maze"] (am gP):=⟨rfl,rfl,rfl,by decide +kernel,rfl,by decide +kernel,by decide +kernel⟩
abbrev fL:Stmt:=top 47
def fY:bU ["state","rows","ahead","known","rest","letter","many"] ["state","rows","ahead","known"] (am fL):=⟨rfl,rfl,rfl,by decide +kernel,rfl,by decide +kernel,by decide +kernel⟩
abbrev iA:Stmt:=top 48
def dc:bU ["side","n","number","known","state","code","ahead","rows","found"] ["side","n","number"] (am iA):=⟨rfl,rfl,rfl,by decide +kernel,rfl,by decide +kernel,by decide +kernel⟩
abbrev jM:Stmt:=top 50
def vZ:bU ["_law_script","_law_k"] ["_law_script","_law_k"] (am jM):=⟨rfl,rfl,rfl,by decide +kernel,rfl,by decide +kernel,by decide +kernel⟩
abbrev mK:Stmt:=top 51
def tw:bU ["_law_cell","_law_rest"] ["_law_cell"] (am mK):=⟨rfl,rfl,rfl,by decide +kernel,rfl,by decide +kernel,by decide +kernel⟩
abbrev jH:Stmt:=top 52
def md:bU ["_law_cell","_law_top"] ["_law_cell"] (am jH):=⟨rfl,rfl,rfl,by decide +kernel,rfl,by decide +kernel,by decide +kernel⟩
abbrev yr:Stmt:=top 53
def qz:bU ["_law_ends","_law_letter","_law_left","_law_right","_law_new","_law_low","_law_high"] ["_law_ends","_law_letter"] (am yr):=⟨rfl,rfl,rfl,by decide +kernel,rfl,by decide +kernel,by decide +kernel⟩
abbrev iG:Stmt:=top 54
def uD:bU ["_law_side"] ["_law_side"] (am iG):=⟨rfl,rfl,rfl,by decide +kernel,rfl,by decide +kernel,by decide +kernel⟩
abbrev jL:Stmt:=top 55
def gx:bU ["_law_ends","_law_row","_law_here","_law_best","_law_k"] ["_law_ends"] (am jL):=⟨rfl,rfl,rfl,by decide +kernel,rfl,by decide +kernel,by decide +kernel⟩
abbrev jK:Stmt:=top 56
def fZ:bU ["_law_rest","_law_side","_law_many","_law_ends","_law_code","_law_letter"] ["_law_rest","_law_side","_law_many"] (am jK):=⟨rfl,rfl,rfl,by decide +kernel,rfl,by decide +kernel,by decide +kernel⟩
abbrev hZ:Stmt:=top 57
def dD:bU ["_law_side","_law_code","_law_stacks","_law_rows","_law_at","_law_k","_law_closes","_law_other","_law_order","_law_turn","_law_here"] ["_law_side","_law_code"] (am hZ):=⟨rfl,rfl,rfl,by decide +kernel,rfl,by decide +kernel,by decide +kernel⟩
abbrev nU:Stmt:=top 58
def jQ:bU ["_law_script","_law_head","_law_side","_law_code","_law_order","_law_n","_law_mazes","_law_one","_law_other","_law_at"] ["_law_script"] (am nU):=⟨rfl,rfl,rfl,by decide +kernel,rfl,by decide +kernel,by decide +kernel⟩
structure oC (mg:Str->Option Value):Prop where
 len:mg "len"=none
 range:mg "range"=none
 int:mg "int"=none
 list:mg "list"=none
 tuple:mg "tuple"=none
 isinstance:mg "isinstance"=none
 str:mg "str"=none
 bool:mg "bool"=none
 sorted:mg "sorted"=none
 all:mg "all"=none
 zip:mg "zip"=none
 max:mg "max"=none
 min:mg "min"=none
 reversed:mg "reversed"=none
 enumerate:mg "enumerate"=none
 abs:mg "abs"=none
 sum:mg "sum"=none
 ValueError:mg "ValueError"=none
 MOST_RINGS:∃ t,mg "MOST_RINGS"=some (.int 20 t)
 LETTERS:∃ t,mg "LETTERS"=some (.str (Str.ofString "abcd") t)
 LEFT_INWARDS:∃ t,mg "LEFT_INWARDS"=some (.str (Str.ofString "ab") t)
 RIGHT_INWARDS:∃ t,mg "RIGHT_INWARDS"=some (.str (Str.ofString "ac") t)
local macro_rules | `(tactic| nofun) => `(tactic| (try dsimp (maxSteps := 3000000) only [L2.zo, L2.Jb, L2.HN, L2.HG, L2.Ei, L2.Jc, L2.zp, L2.HH, L2.w_and, L2.w_or, L2.w_not, L2.AO, L2.Ea, L2.zx, L2.HU, L2.E8, L2.w_next, L2.Eg, L2.AM, L2.AI, L2.E9, L2.zu, L2.Ef, L2.Ej, L2.wa, L2.zt, L2.zr, L2.Eb, L2.AN, L2.Hc, L2.E7, L2.Ed, L2.w_call, L2.Hd, L2.Eh, L2.wr, L2.tQ, L2.AH, L2.AG, L2.AE, L2.AC, L2.AA, L2.AD, L2.AF, L2.wj, L2.wg, L2.wq, L2.wn, L2.wf, L2.wc, L2.wb, L2.zy, L2.w9, L2.wY, L2.wZ, L2.zz, L2.w_getS, L2.AB, L2.HJ, L2.zw, L2.tO, L2.AK, L2.AJ, L2.tP, L2.we]); (try simp (maxSteps := 3000000) only [L2.Ez, L2.zo, L2.Jb, L2.HN, L2.HG, L2.JN, L2.Jp, L2.Jo, L2.Ha, L2.HP, L2.HZ, L2.Ec, L2.Hb, L2.HQ, L2.HY, L2.HX, L2.FF, L2.FM, L2.Ei, L2.JM, NO, NP, dH, L2.Jc, L2.HW, L2.FE, L2.FK, L2.FI, L2.FJ, L2.FG, L2.FH, L2.FA, L2.HS, L2.Ee, L2.HR, L2.He, L2.HM, L2.zp, L2.HH, L2.w_and, L2.w_or, L2.w_not, L2.AO, L2.Ea, L2.zx, L2.HU, L2.E8, L2.w_next, L2.Eg, L2.AM, L2.AI, L2.E9, L2.zu, L2.Ef, L2.Ej, L2.wa, L2.zt, L2.zr, L2.Eb, L2.AN, L2.Hc, L2.E7, L2.Ed, L2.w_call, L2.Hd, L2.Eh, L2.wr, L2.tQ, L2.AH, L2.AG, L2.AE, L2.AC, L2.AA, L2.FB, L2.Cj, bb, NK, Bool.not_eq_true', decide_eq_false_iff_not, L2.AD, L2.AF, L2.wj, L2.wg, L2.wq, L2.wn, L2.wf, L2.Co, L2.wc, L2.wb, L2.Ck, L2.FD, L2.FC, L2.zy, L2.HV, L2.w9, L2.wY, L2.wZ, L2.zz, L2.w_getS, L2.Ci, L2.AB, L2.HJ, L2.zw, L2.tO, L2.HI, L2.AK, L2.AJ, L2.tP, L2.we, L2.Cm, L2.FL, L2.HL, L2.HK, L2.w_rev, L2.Cg, L2.zq, L2.AL]))
section
variable {P:Program} {w:World} {K:NQ} {mg:Str->Option Value} {base:Heap}
def u4 (E:Fn K mg "crossing" iC ["bows"]):dM P w K mg base 1 "crossing" iC ["bows"] pS:=E.mk' λf fd F=>by
 refine F.okS i4 (λvs H Q E h=>?_) (λcdv A outer s H vs Q E hr h=>?_)
 ·obtain⟨l,ps,rfl,_⟩:=h;rfl
 ·obtain⟨l,ps,rfl,bo,qn,qs⟩:=h;obtain⟨as,b1,bl,bg⟩:=bo.get;refine⟨[some (.ref l),none,none,none,none],_,rfl,(L2.ie.h (aF (d8 ay rfl (eZ (aX 0)) (jD (n:=2) rfl (cT (bS (i:=1) i4.nd rfl (Or.inl rfl)) (cT (bS (i:=2) i4.nd rfl (Or.inl rfl)) fw)))
   (aL (d8 ay rfl (eZ (aX 0)) (jD (n:=2) rfl (cT (bS (i:=3) i4.nd rfl (Or.inl rfl)) (cT (bS (i:=4) i4.nd rfl (Or.inl rfl)) fw)))
    (aL (cA (v7 lG lG lG (aX 1) (aX 3) (aX 2) (aX 4))
     (aL (ar (dJ (jO (dJ (aC (aX 1) (aC (aX 2) aD))) (jO (dJ (aC (aX 3) (aC (aX 4) aD))) aD)))))
     bQ)))))
   (aL (ar eE)))),?_⟩
  nofun;refine⟨⟨_,cF.of b1⟩,lx (xs:=as.map V.ref) (λi σ H2=>∃x1 x2 x3 x4:Option V,σ=[some (.ref l),x1,x2,x3,x4]/\H2=H/\∀p∈ps.take i,∀q∈ps,fN p q=false) ⟨none,none,none,none,rfl,rfl,λp hp=>by simp at hp⟩ (λi σ H2 _ ⟨_,_,_,_,_,e,_⟩=>by rw[e];exact cF.of b1) ?_ ?_⟩
  ·rintro i x σ H2 hx ⟨x1,x2,x3,x4,rfl,rfl,hn⟩;obtain⟨a,p,rfl,hp,ta⟩:=bg i x hx;nofun;refine⟨_,dm.of ta,rfl,?_⟩;nofun;refine⟨⟨_,cF.of b1⟩,lx (xs:=as.map V.ref) (λj σ H3=>∃x3 x4:Option V,σ=[some (.ref l),some (.int p.1),some (.int p.2),x3,x4]/\H3=H2/\∀q∈ps.take j,fN p q=false) ⟨x3,x4,rfl,rfl,λp hp=>by simp at hp⟩ (λi σ H2 _ ⟨_,_,_,e,_⟩=>by rw[e];exact cF.of b1) ?_ ?_⟩
   ·rintro j y σ H3 hy ⟨y3,y4,rfl,rfl,hm⟩;obtain⟨c,q,rfl,hq,tc⟩:=bg j y hy;nofun;refine⟨_,dm.of tc,rfl,?_⟩;nofun;have nx:fN p q=false->∃x3 x4:Option V,[some (V.ref l),some (V.int p.1),some (V.int p.2),some (V.int q.1),some (V.int q.2)]=[some (V.ref l),some (V.int p.1),some (V.int p.2),x3,x4]/\True/\∀q∈ps.take (j+1),fN p q=false:=λe=>by
     refine⟨_,_,rfl,trivial,λq' hq'=>?_⟩;rw[bW,hq] at hq';rcases aQ.mp hq' with z | z
     ·exact hm q' z
     ·have e':q'=q:=by simpa using z
      rw[e'];exact e
    refine gX (λh1=>gX (λh2=>gX (λh3=>?_) (λh3=>nx (by simp[fN,h3]))) (λh2=>nx (by simp[fN,h2]))) (λh1=>nx (by simp[fN,h1]));refine⟨(by show 2<=sizeLine;decide),λt1 n1=>⟨(by show 2<=sizeLine;decide),λt2 n2=>⟨(by show 2<=sizeLine;decide),λt3 n3=>?_⟩⟩⟩;have s1:aV H3 (upd H3 t1 (.tup [.int p.1,.int p.2])):=(aV.refl _).new n1;have s2:=s1.new (o:=.tup [.int q.1,.int q.2]) (s1.free n2);have s3:=s2.new (o:=.tup [.ref t1,.ref t2]) (s2.free n3);have e12:t1≠t2:=λe=>by subst e;rw[aG] at n2;cases n2
    have e23:t2≠t3:=λe=>by subst e;rw[aG] at n3;cases n3
    have e13:t1≠t3:=λe=>by subst e;rw[aR e12,aG] at n3;cases n3
    refine qs p (bB hp) q (bB hq) (by simp[fN,h1,h2,h3]) t3 t1 t2 _ (s2.free n3) s3 aG ?_ ?_
    ·show upd _ _ _ t1=_;rw[aR e13,aR e12,aG]
    ·show upd _ _ _ t2=_;rw[aR e23,aG]
   ·rintro σ H3 ⟨y3,y4,rfl,rfl,hm⟩;refine⟨_,_,y3,y4,rfl,rfl,λp' hp'=>?_⟩;rw[bW,hp] at hp';rcases aQ.mp hp' with z | z
    ·exact hn p' z
    ·have e:p'=p:=by simpa using z
     subst e;intro q hq;refine hm q ?_;rw[aE,bl,cX];exact hq
  ·rintro σ H2 ⟨x1,x2,x3,x4,rfl,rfl,hn⟩;nofun;refine qn λp hp=>hn p ?_;rw[aE,bl,cX];exact hp
def uX (B:oC mg) (E:Fn K mg "is_whole" gG ["thing"]):dM P w K mg base 1 "is_whole" gG ["thing"] (ox K):=E.mk' λf fd F=>by
 refine F.okS uA (λvs H Q E h=>?_) (λcdv A outer s H vs Q E hr h=>?_)
 ·obtain⟨x,t,b,c,rfl,_⟩:=h;rfl
 ·obtain⟨x,t,b,c,rfl,ty,e1,e2,q⟩:=h;refine⟨[some x],_,rfl,(L2.ie.h (aL (ar (nX (ae mC (by rfl) B.isinstance cf (aC (aX 0) (aC (lh (v:=.ty "int") (by rfl) B.int dF rfl) aD))) (mN (DJ (ae mC (by rfl) B.isinstance cf (aC (aX 0) (aC (lh (v:=.ty "bool") (by rfl) B.bool PyProof.Rows.boot_bool rfl) aD))))))))),?_⟩;nofun;refine⟨_,_,_,b,rfl,ty,e1,?_⟩;nofun;cases b with
  | false=>exact G0 q
  | true=>exact GZ ⟨_,_,_,c,rfl,ty,e2,_,rfl,q⟩
def uZ (E:Fn K mg "is_below" gH ["thing","bound"]) (KG:dM P w K mg base 1 "is_whole" gG ["thing"] (ox K)):dM P w K mg base 2 "is_below" gH ["thing","bound"] rz:=E.mk' λf fd F=>by
 refine F.okS uC (λvs H Q E h=>?_) (λcdv A outer s H vs Q E hr h=>?_)
 ·obtain⟨v,d,n,rfl,_⟩:=h;rfl
 ·obtain⟨v,d,n,rfl,hd,q⟩:=h;refine⟨[some v,some (.int n)],_,rfl,(L2.ie.h (aL (ar (nX (aS KG (hr.mono (by decide)) (by rfl) (aC (aX 0) aD)) (mN (yx uS lG aK (aX 0) (aX 1))))))),?_⟩;nofun;refine tN hd ?_;unfold Gh at q;nofun;cases hw:ft d with
  | false=>
   rw[hw] at q;exact G0 q
  | true=>
   rw[hw] at q;have ed:=pI hw;generalize intOf d=z at ed q;subst ed;cases hd;refine GZ ?_;nofun;by_cases h0:0<=z
   ·rw[NJ h0];rw[NM h0] at q;exact q
   ·rw[NI h0];rw[NL h0] at q;exact q
def ve (Kj:∃a,mg "SIDES"=some (.ref a)/\∀H,dm K H a (([("l":Str),"r"]:List Str).map V.str)) (E:Fn K mg "is_side" gR ["thing"]):dM P w K mg base 1 "is_side" gR ["thing"] nP:=E.mk' λf fd F=>by
 refine F.okS vX (λvs H Q E h=>?_) (λcdv A outer s H vs Q E hr h=>?_)
 ·obtain⟨x,d,rfl,_⟩:=h;rfl
 ·obtain⟨x,d,rfl,hd,pl,q⟩:=h;refine⟨[some x],_,rfl,(L2.ie.h (aL (ar (dQ (vc (lq hr)) (aX 0) (rD (by rfl) Kj) (by with_unfolding_all rfl))))),?_⟩;nofun;intro a ha;refine⟨d,[.str (Str.ofString "l"),.str (Str.ofString "r")],a,_,hd.rep,rfl,.inr (ha H),.cons (.str _) (.cons (.str _) .nil),pl.lay,by decide +kernel,pl.deep,?_⟩;rw[Ah];exact q
def uY (B:oC mg) (E:Fn K mg "is_order" iB ["thing"]) (KG:dM P w K mg base 1 "is_whole" gG ["thing"] (ox K)):dM P w K mg base 2 "is_order" iB ["thing"] qv:=E.mk' λf fd F=>by
 refine F.okS uB (λvs H Q E h=>?_) (λcdv A outer s H vs Q E hr h=>?_)
 ·obtain⟨x,d,rfl,_⟩:=h;rfl
 ·obtain⟨x,d,rfl,hd,q⟩:=h;refine⟨[some x],_,rfl,(L2.ie.h (aF (cA (QW.pt (jU (iV (fS (ae mC (by rfl) B.isinstance cf (aC (aX 0) (aC (lh (v:=.ty "tuple") (by rfl) B.tuple dU rfl) aD))))) (jC (a8 ph (ae cB (by rfl) B.len aZ (aC (aX 0) aD)) (oH (by rfl) B.MOST_RINGS) (bI _)))))
   (aL (ar kf))
   bQ)
   (aF (cA (iV (fS (ae (ux rfl) (by rfl) B.all PyProof.Rows.boot_all (g0 (fy (own:=["ring"]) (ns:=[]) (caps:=[]) rfl ⟨rfl,by decide +kernel,by decide +kernel,by decide +kernel⟩ .nil (DG (aX 0)) (λC s H fp pn=>(bS (i:=0) (show List.Nodup ((["ring"]:List Str)++([]:List Str)) by decide +kernel) rfl (Or.inl rfl))) (λC s H fp pn=>iW) (λC s H fp pn=>(aS KG (hr.mono (by decide)) (by rfl) (aC (aX 0) aD)))) aD))))
   (aL (ar kf))
   bQ)
   (aL (ar (dQ (BX (lq hr)) (ae nu (by rfl) B.sorted dL (aC (aX 0) aD)) (dW (qm rfl) (by rfl) B.list gb (BB (dW zc (by rfl) B.range PyProof.Rows.boot_range (bY aK (cL (aw f9 (ae cB (by rfl) B.len aZ (aC (aX 0) aD)) aK) aD))) aD)) (bI _))))))),?_⟩
  cases id hd with
  | tup h1 h2=>
   rename_i a xs ds;nofun;refine mR hd ?_;nofun;refine gT (by simp[JG]) ⟨_,.inr (dm.of h1),?_⟩;have hl:=h2.len;refine gX (λhn=>?_) (λhn=>?_)
   ·have e:oK (.tuple ds)=false:=by
     show (decide (ds.length<=20)&&_)=false;rw[NL (by lia)];rfl
    rw[e] at q;exact q H (aV.refl _)
   ·have hn':xs.length<=20:=by lia
    have hz:xs.length<=sizeLine:=bx (be (by lia));have hds:ds.length=xs.length:=hl.symm;have e0:oK (.tuple ds)=(ds.all ft&&(ds.map intOf).isPerm (f6 1 ds.length)):=by
     show (decide (ds.length<=20)&&_)=_;rw[NM (by lia)];rfl
    rw[e0] at q;refine⟨⟨_,dm.of h1⟩,zY (dm.of h1) hz ((ds.map ft).map V.bl) (by simp[hds]) (λi x y Q' hx hy hq=>?_) λp1 n1=>?_⟩
    ·obtain⟨d,hd1,hd2⟩:=h2.get hx;nofun;refine tN hd2 ?_;have ey:y=V.bl (ft d):=by simp[hd1] at hy;exact hy.symm
     rw[ey] at hq;exact hq
    ·have s1:aV H (upd H p1 (.lst ((ds.map ft).map V.bl))):=(aV.refl _).new n1;refine⟨p1,_,rfl,cF.of aG,_,rfl,?_⟩;have ea:(ds.map ft).all id=ds.all ft:=by rw[List.all_map];rfl
     cases hb:ds.all ft with
     | false=>
      rw[hb] at q;exact kK (show (ds.map ft).all id=false by rw[ea,hb]) (q _ s1)
     | true=>
      rw[hb,m5] at q;rw[iT] at hb;have hq1:=s1 _ _ h1;have ex:xs=(ds.map intOf).map V.int:=by
       apply List.ext_getElem?;intro i;cases e:xs[i]? with
       | none=>
        have:xs.length<=i:=by rw[<-List.getElem?_eq_none_iff];exact e
        rw[List.getElem?_eq_none (by simp;lia)]
       | some x=>
        obtain⟨d,hd1,hd2⟩:=h2.get e;have hw:=pI (hb d (bB hd1));rw[hw] at hd2;cases hd2;simp[hd1]
      refine gT (show ¬(ds.map ft).all id=false by rw[ea,iT.mpr hb];decide) ⟨a,ds.map intOf,rfl,.inr (by rw[<-ex];exact dm.of hq1),by rw[aE];lia,λl5 ms n5 hp hs=>?_⟩;have s5:=s1.new (o:=.lst (ms.map V.int)) (s1.free n5);nofun;refine⟨_,.inr (dm.of (s5 _ _ h1)),λp6 n6=>⟨1,_,aG,⟨by decide,by decide,by lia,by lia,by lia⟩,λl7 n7=>?_⟩⟩;have s6:=s5.new (o:=.rng 1 ((xs.length:Int)+1)) (s5.free n6);have n56:l5≠p6:=λe=>by subst e;rw[aG] at n6;cases n6
      have n57:l5≠l7:=λe=>by subst e;rw[aR n56,aG] at n7;cases n7
      have eN:((xs.length:Int)+1 - 1).toNat=(ds.map intOf).length:=by rw[aE];lia
      refine CK (cF.of (by rw[aR n57,aR n56,aG])) (cF.of aG) ?_;rw[eN,sC hp hs];rw[aE];exact q _ (s6.new (s6.free n7))
  | _=>
   nofun;refine mR hd ?_;nofun;exact kK (by rfl) (q H (aV.refl _))
def vf (B:oC mg) (E:Fn K mg "is_maze" jI ["thing"]) (Jz:dM P w K mg base 1 "is_side" gR ["thing"] nP) (Kn:dM P w K mg base 2 "is_order" iB ["thing"] qv):dM P w K mg base 3 "is_maze" jI ["thing"] tq:=E.mk' λf fd F=>by
 refine F.okS vY (λvs H Q E h=>?_) (λcdv A outer s H vs Q E hr h=>?_)
 ·obtain⟨x,d,rfl,_⟩:=h;rfl
 ·obtain⟨x,d,rfl,hd,pl,q⟩:=h;refine⟨[some x],_,rfl,(L2.ie.h (aF (cA (QW.pt (jU (iV (fS (ae mC (by rfl) B.isinstance cf (aC (aX 0) (aC (lh (v:=.ty "tuple") (by rfl) B.tuple dU rfl) aD))))) (jC (a8 o6 (ae cB (by rfl) B.len aZ (aC (aX 0) aD)) aK (bI _)))))
   (aL (ar kf))
   bQ)
   (aL (ar (nX (aS Jz (hr.mono (by decide)) (by rfl) (bA (bO fD (aX 0) aK (λ_ _=>rfl)) aD)) (mN (aS Kn (hr.mono (by decide)) (by rfl) (bA (bO fD (aX 0) aK (λ_ _=>rfl)) aD)))))))),?_⟩
  cases id hd with
  | tup h1 h2=>
   rename_i a xs ds;nofun;refine mR hd ?_;nofun;refine gT (by simp[JG]) ⟨_,.inr (dm.of h1),?_⟩;have hl:=h2.len;refine gX (λhn=>?_) (λhn=>?_)
   ·have e:ud (.tuple ds)=false:=by
     match ds,hl with
     | [],_=>rfl
     | [u],_=>rfl
     | [u,v],hl=>exact absurd (by rw[hl];rfl) hn
     | u::v::w::r,_=>rfl
    rw[e] at q;exact q H (aV.refl _)
   ·have hn':xs.length=2:=by
     have:(xs.length:Int)=2:=jp.mp hn;lia
    obtain⟨d,e,rfl⟩:∃d e,ds=[d,e]:=match ds,hl.symm.trans hn' with
     | [u,v],_=>⟨u,v,rfl⟩
    obtain⟨x,y,rfl,hx,hy⟩:=EI h2;have hlay:d.canLay0=true:=by
     have:(PyData.canLay0 d&&(PyData.canLay0 e&&true))=true:=pl.lay;rw[dI] at this;exact this.1
    have hdp:d.depth<=60:=by
     have:max d.depth (max e.depth 0)+1<=60:=pl.deep;lia
    refine⟨_,x,dm.of h1,rfl,x,d,rfl,hx,⟨hlay,hdp⟩,?_⟩;nofun;cases es:mV d with
    | false=>
     refine G0 ?_;have e:ud (.tuple [d,e])=false:=by show (mV d&&_)=false;rw[es];rfl
     rw[e] at q;exact q H (aV.refl _)
    | true=>
     have e:ud (.tuple [d,e])=oK e:=by show (mV d&&_)=_;rw[es];rfl
     rw[e] at q;exact GZ ⟨_,y,dm.of h1,rfl,y,_,rfl,hy,q⟩
  | _=>
   nofun;refine mR hd ?_;nofun;exact kK (by rfl) (q H (aV.refl _))
def qe (E:Fn K mg "other_side" fA ["side"]):dM P w K mg base 1 "other_side" fA ["side"] rm:=E.mk' λf fd F=>by
 refine F.okS q9 (λvs H Q E h=>?_) (λcdv A outer s H vs Q E hr h=>?_)
 ·obtain⟨b,rfl,_⟩:=h;rfl
 ·obtain⟨b,rfl,q⟩:=h;refine⟨[some (.str (sd b))],_,rfl,(L2.ie.h (aL (ar (dS (a8 eV (aX 0) bK (bI _)) bK bK)))),?_⟩;nofun;simp only[Ho];refine gX (λh=>?_) (λh=>?_)
  ·subst h;exact q
  ·have e:b=true:=by cases b;exact absurd rfl h;rfl
   subst e;exact q
def oh (E:Fn K mg "side_of_step" eY ["maze","step"]) (KA:dM P w K mg base 1 "other_side" fA ["side"] rm):dM P w K mg base 2 "side_of_step" eY ["maze","step"] tZ:=E.mk' λf fd F=>by
 refine F.okS lF (λvs H Q E h=>?_) (λcdv A outer s H vs Q E hr h=>?_)
 ·obtain⟨m,o,b,ns,k,rfl,_⟩:=h;rfl
 ·obtain⟨m,o,b,ns,k,rfl,hm,q⟩:=h;refine⟨[some (.ref m),some (.int k),none],_,rfl,(L2.ie.h (aF (aW (i:=2) lF.nd rfl (Or.inl rfl) (bO fD (aX 0) aK (λ_ _=>rfl)))
   (aL (ar (dS (a8 eV (aw jt (aX 1) aK) aK (bI _)) (aX 2) (aS KA (hr.mono (by decide)) (by rfl) (aC (aX 2) aD))))))),?_⟩
  nofun;refine⟨_,_,dm.of hm.1,rfl,?_⟩;refine⟨by decide,gX (λh=>?_) (λh=>?_)⟩
  ·have e:odd k=false:=by simp[odd];lia
   rw[e,Bool.xor_false] at q;exact q
  ·have e:odd k=true:=by simp[odd];lia
   rw[e,Bool.xor_true] at q;exact⟨b,rfl,q⟩
def pj (B:oC mg) (E:Fn K mg "rows_of_way" fI ["maze"]):dM P w K mg base 1 "rows_of_way" fI ["maze"] Ae:=E.mk' λf fd F=>by
 refine F.okS l6 (λvs H Q E h=>?_) (λcdv A outer s H vs Q E hr h=>?_)
 ·obtain⟨m,o,b,ns,rfl,_⟩:=h;rfl
 ·obtain⟨m,o,b,ns,rfl,hm,hl,q⟩:=h;refine⟨[some (.ref m),none],_,rfl,(L2.ie.h (aF (aW (i:=1) l6.nd rfl (Or.inl rfl) (bO fD (aX 0) aK (λ_ _=>rfl)))
   (aL (ar (aw ki (aw ki (c8 (bY aK aD)) (dW tF (by rfl) B.list gb (aC (aX 1) aD))) (c8 (cL (aw f9 (ae cB (by rfl) B.len aZ (aC (aX 1) aD)) aK) aD))))))),?_⟩
  nofun;refine⟨_,_,dm.of hm.1,rfl,(by show 1<=sizeLine;decide),λp1 n1=>?_⟩;have s1:=(aV.refl H).new (o:=.lst [.int 0]) n1;refine⟨o,_,rfl,.inr (dm.of (s1 _ _ hm.2)),λp2 n2=>?_⟩;have s2:=s1.new (o:=.lst (ns.map V.int)) (s1.free n2);have e12:p1≠p2:=λe=>by subst e;rw[aG] at n2;cases n2
  refine⟨p1,p2,_,_,rfl,rfl,by rw[aR e12,aG],aG,bx (be (by simp;lia)),λp3 n3=>?_⟩;have s3:=s2.new (o:=.lst ([.int 0]++ns.map V.int)) (s2.free n3);refine⟨o,_,rfl,.inr (dm.of (s3 _ _ hm.2)),(by show 1<=sizeLine;decide),λp4 n4=>?_⟩;have s4:=s3.new (o:=.lst [.int (((ns.map V.int).length:Int)+1)]) (s3.free n4);have e34:p3≠p4:=λe=>by subst e;rw[aG] at n4;cases n4
  refine⟨p3,p4,_,_,rfl,rfl,by rw[aR e34,aG],aG,bx (be (by simp;lia)),λp5 n5=>?_⟩;have s5:=s4.new (o:=.lst ([.int 0]++ns.map V.int++[.int (((ns.map V.int).length:Int)+1)])) (s4.free n5);refine q p5 _ (s4.free n5) s5 ?_;rw[aG];simp[eB]
def vn (B:oC mg) (E:Fn K mg "bows_of" iF ["maze"]) (KP:dM P w K mg base 2 "side_of_step" eY ["maze","step"] tZ) (KY:dM P w K mg base 1 "rows_of_way" fI ["maze"] Ae):dM P w K mg base 3 "bows_of" iF ["maze"] pV:=E.mk' λf fd F=>by
 refine F.okS jR (λvs H Q E h=>?_) (λcdv A outer s H vs Q E hr h=>?_)
 ·obtain⟨m,o,b,ns,rfl,_⟩:=h;rfl
 ·obtain⟨m,o,b,ns,rfl,hm,O,q⟩:=h;have hlen:=O.len;refine⟨[some (.ref m),none,none,none,none],_,rfl,(L2.ie.h (aF (aW (i:=1) jR.nd rfl (Or.inl rfl) (aS KY (hr.mono (by decide)) (by rfl) (aC (aX 0) aD)))
   (aF (aW (i:=2) jR.nd rfl (Or.inl rfl) (uJ (mM bK (c8 aD) (mM bK (c8 aD) uH)) rfl rfl (λz=>nomatch z) (by decide)))
   (aF (d8 ay rfl (mf (by rfl) B.range (cL (aw g6 (ae cB (by rfl) B.len aZ (aC (aX 1) aD)) aK) aD)) (bS (i:=3) jR.nd rfl (Or.inl rfl))
   (aF (aW (i:=4) jR.nd rfl (Or.inl rfl) (dW jw (by rfl) B.tuple dU (d6 (ae kM (by rfl) B.sorted dL (bA (dg jA (aX 1) (eC (aX 3)) (eC (aw f9 (aX 3) aK))) aD)) aD)))
    (aL (fv (iI b6 cP cO iL (fx (lw hr) (aX 2) (aS KP (hr.mono (by decide)) (by rfl) (aC (aX 0) (aC (aX 3) aD))) (λ_ _=>rfl)) (aC (aX 4) aD))))))
   (aL (ar (dJ (d6 (ae kN (by rfl) B.sorted dL (bA (fx (lw hr) (aX 2) bK (λ_ _=>rfl)) aD)) (d6 (ae kN (by rfl) B.sorted dL (bA (fx (lw hr) (aX 2) bK (λ_ _=>rfl)) aD)) aD))))))))),?_⟩
  nofun;refine⟨m,o,b,ns,rfl,hm,by lia,λrl H1 nrl s1 hrl=>?_⟩;nofun;intro d nd;have sd1:=s1.new (o:=.dK []) (s1.free nd);refine⟨bF _,λl1 nl1=>?_⟩;have edl:d≠l1:=λe=>by subst e;rw[aG] at nl1;cases nl1
  have sl1:=sd1.new (o:=.lst []) (sd1.free nl1);refine⟨bF _,λr1 nr1=>?_⟩;have edr:d≠r1:=λe=>by subst e;rw[aR edl,aG] at nr1;cases nr1
  have elr:l1≠r1:=λe=>by subst e;rw[aG] at nr1;cases nr1
  have sr1:=sl1.new (o:=.lst []) (sl1.free nr1);refine⟨by rw[aR edr,aR edl,aG],[(.inr (Str.ofString "l"),.ref l1),(.inr (Str.ofString "r"),.ref r1)],rfl,(by show 2<=15;decide),?_⟩;have fd0:H d=none:=s1.free nd;have fl0:H l1=none:=sd1.free nl1;have fr0:H r1=none:=sl1.free nr1;have erl:rl≠d:=ak hrl nd;have erl1:rl≠l1:=ak (((aV.refl H1).new (o:=.dK []) nd) _ _ hrl) nl1;have erl2:rl≠r1:=ak ((((aV.refl H1).new (o:=.dK []) nd).new (o:=.lst []) (((aV.refl H1).new (o:=.dK []) nd).free nl1)) _ _ hrl) nr1;generalize hkv:mn [] [((.inr (Str.ofString "l"):Key),V.ref l1),(.inr (Str.ofString "r"),.ref r1)]=kvs;have kl:gY kvs (.inr (Str.ofString "l"))=some (.ref l1):=by subst hkv;rfl
  have kr:gY kvs (.inr (Str.ofString "r"))=some (.ref r1):=by subst hkv;rfl
  have ks:∀s:Bool,gY kvs (.inr (sd s))=some (.ref (if s then r1 else l1)):=λs=>by cases s;exact kl;exact kr
  refine⟨_,.inl (cF.of (by rw[aR erl,aR erl2,aR erl1,aR erl];exact hrl)),by rw[aE,iH];lia,by rw[aE,iH];lia,?_⟩;have eN:(((eB ns).map V.int).length - 1:Int).toNat=ns.length+1:=by rw[aE,iH];lia
  rw[eN];refine mS (n:=ns.length+1) (λi σ H2=>∃(x3 x4:Option V),σ=[some (.ref m),some (.ref rl),some (.ref d),x3,x4]/\aV H H2/\H2 rl=some (.lst ((eB ns).map V.int))/\H2 d=some (.dK kvs)/\gK H2 l1 (bZ b ns false i)/\gK H2 r1 (bZ b ns true i))
   ⟨none,none,rfl,sr1.new fd0,by rw[aR erl,aR erl2,aR erl1,aR erl];exact hrl,aG,⟨[],by rw[aR edl.symm,aR elr,aG];rfl,.nil⟩,⟨[],by rw[aR edr.symm,aG];rfl,.nil⟩⟩ ?_ ?_
  ·rintro i σ H2 hi ⟨x3,x4,rfl,sm,hrl2,hd2,bl,br⟩;nofun;refine⟨rl,_,rfl,cF.of hrl2,λp1 n1=>?_⟩;rw[EK (by lia)];have t1:=(aV.refl H2).new (o:=.lst ([bf ns i,bf ns (i+1)].map V.int)) n1;refine⟨p1,_,rfl,cF.of aG,(by show 2<64;decide),λp2 ms n2 hp hs=>?_⟩;rw[vK hp hs];have t2:=t1.new (o:=.lst ([min (bf ns i) (bf ns (i+1)),max (bf ns i) (bf ns (i+1))].map V.int)) (t1.free n2);refine⟨p2,_,rfl,.inl ⟨cF.of aG,λt n3=>?_⟩⟩;have t3:=t2.new (o:=.tup ([min (bf ns i) (bf ns (i+1)),max (bf ns i) (bf ns (i+1))].map V.int)) (t2.free n3);have sm3:=sm.trans t3;refine⟨m,o,b,ns,i,by simp,hm.same sm3,?_⟩;have bl3:=bl.same t3;have br3:=br.same t3;refine⟨_,.inl ⟨kvs,.inr (sd (b ^^ odd i)),.inl (t3 _ _ hd2),rfl,(ks _).symm⟩,?_⟩;have tt:gL (upd (upd (upd H2 p1 (.lst ([bf ns i,bf ns (i+1)].map V.int))) p2 (.lst ([min (bf ns i) (bf ns (i+1)),max (bf ns i) (bf ns (i+1))].map V.int))) t (.tup ([min (bf ns i) (bf ns (i+1)),max (bf ns i) (bf ns (i+1))].map V.int))) t (jc ns i):=aG;generalize upd (upd (upd H2 p1 (.lst ([bf ns i,bf ns (i+1)].map V.int))) p2 (.lst ([min (bf ns i) (bf ns (i+1)),max (bf ns i) (bf ns (i+1))].map V.int))) t (.tup ([min (bf ns i) (bf ns (i+1)),max (bf ns i) (bf ns (i+1))].map V.int))=H3 at *;cases hs:(b ^^ odd i) with
   | false=>
    have h1:dR b false i=true:=by simp[dR,hs]
    have h2:dR b true i=false:=by simp[dR,hs]
    rw[nR h1,o0 h2];obtain⟨as,b1,b2⟩:=bl3;have ha:as.length=(bZ b ns false i).length:=cv b2;have:=gZ b ns false i;refine⟨lX b1,l1,as.map V.ref,_,rfl,rfl,b1,by rw[aE];exact be (by lia),_,_,rfl,sm3.new fl0,by rw[aR erl1];exact t3 _ _ hrl2,by rw[aR edl];exact t3 _ _ hd2,rP b1 b2 tt,uz br3 b1 elr.symm⟩
   | true=>
    have h1:dR b true i=true:=by simp[dR,hs]
    have h2:dR b false i=false:=by simp[dR,hs]
    rw[nR h1,o0 h2];obtain⟨as,b1,b2⟩:=br3;have ha:as.length=(bZ b ns true i).length:=cv b2;have:=gZ b ns true i;refine⟨lX b1,r1,as.map V.ref,_,rfl,rfl,b1,by rw[aE];exact be (by lia),_,_,rfl,sm3.new fr0,by rw[aR erl2];exact t3 _ _ hrl2,by rw[aR edr];exact t3 _ _ hd2,uz bl3 b1 elr,rP b1 b2 tt⟩
  ·rintro σ H2 ⟨x3,x4,rfl,sm,hrl2,hd2,bl,br⟩;nofun;have bnd:∀s,∀p∈bZ b ns s (ns.length+1),0<=p.2/\p.2<1000:=λs p hp=>by
    obtain⟨i,hi,_,rfl⟩:=l3 hp;have:=O.step_in (i:=i) (by lia);have:=O.step_lt (i:=i) (by lia);lia
   obtain⟨as,b1,b2⟩:=bl;have:=gZ b ns false (ns.length+1);refine⟨_,.inl ⟨kvs,.inr (Str.ofString "l"),.inl hd2,rfl,kl.symm⟩,l1,as,_,rfl,cF.of b1,b2,by lia,bnd false,λl as' L nl hP hp hs=>?_⟩;have t1:=(aV.refl H2).new (o:=.lst (as'.map V.ref)) nl;obtain⟨bs,c1,c2⟩:=br.same t1;have:=gZ b ns true (ns.length+1);refine⟨_,.inl ⟨kvs,.inr (Str.ofString "r"),.inl (t1 _ _ hd2),rfl,kr.symm⟩,r1,bs,_,rfl,cF.of c1,c2,by lia,bnd true,λr bs' R nr hP2 hp2 hs2=>?_⟩;have t2:=(aV.refl (upd H2 l (.lst (as'.map V.ref)))).new (o:=.lst (bs'.map V.ref)) nr;refine⟨(by show 2<=sizeLine;decide),λt nt=>?_⟩;have t3:=(aV.refl (upd (upd H2 l (.lst (as'.map V.ref))) r (.lst (bs'.map V.ref)))).new (o:=.tup [.ref l,.ref r]) nt;have elr2:l≠r:=λe=>by subst e;rw[aG] at nr;cases nr
   refine q t l r L R _ (sm.free (t1.free (t2.free nt))) (sm.free nl) (sm.free (t1.free nr)) (((sm.trans t1).trans t2).trans t3) ⟨aG,?_,?_,⟨hp,hs⟩,⟨hp2,hs2⟩,elr2⟩
   ·exact((rQ (l:=l) hP nl).same t2).same t3
   ·exact(rQ (l:=r) hP2 nr).same t3
def vh (B:oC mg) (Kj:∃a,mg "SIDES"=some (.ref a)/\∀H,dm K H a (([("l":Str),"r"]:List Str).map V.str)) (E:Fn K mg "crossed" jJ ["maze"]) (KN:dM P w K mg base 3 "bows_of" iF ["maze"] pV) (Ko:dM P w K mg base 1 "crossing" iC ["bows"] pS):dM P w K mg base 4 "crossed" jJ ["maze"] qw:=E.mk' λf fd F=>by
 refine F.okS ka (λvs H Q E h=>?_) (λcdv A outer s H vs Q E hr h=>?_)
 ·obtain⟨m,o,b,ns,rfl,_⟩:=h;rfl
 ·obtain⟨m,o,b,ns,rfl,hm,O,qn,qc⟩:=h;refine⟨[some (.ref m),none,none,none],_,rfl,(L2.ie.h (aF (d8 ay rfl (Ay (by rfl) B.zip (aC (rD (by rfl) Kj) (d6 (aS KN (hr.mono (by decide)) (by rfl) (aC (aX 0) aD)) aD))) (jD (n:=2) rfl (cT (bS (i:=1) ka.nd rfl (Or.inl rfl)) (cT (bS (i:=2) ka.nd rfl (Or.inl rfl)) fw)))
   (aF (aW (i:=3) ka.nd rfl (Or.inl rfl) (aS Ko (hr.mono (by decide)) (by rfl) (aC (aX 2) aD)))
    (aL (cA (a8 pF (aX 3) eE (bI _))
    (aL (ar (dJ (aC (aX 1) (bA (bO fD (aX 3) aK (λ_ _=>rfl)) (bA (bO fD (aX 3) aK (λ_ _=>rfl)) aD))))))
    bQ))))
   (aL (ar eE)))),?_⟩
  nofun;intro a ha;refine⟨m,o,b,ns,rfl,hm,O,λt l r L R H1 nt nl nr s1 BO=>⟨a,t,rfl,⟨_,ha _⟩,⟨_,dm.of BO.tup⟩,?_⟩⟩;refine CG (xs:=[V.str (sd false),.str (sd true)]) (ys:=[.ref l,.ref r]) (aH _) (λi σ H'=>∃x1 x2 x3:Option V,σ=[some (.ref m),x1,x2,x3]/\aV H1 H'/\∀u:Bool,(if u then 2 else 1)<=i->∀p∈bZ b ns u (ns.length+1),∀q∈bZ b ns u (ns.length+1),fN p q=false)
   ⟨_,_,_,rfl,aV.refl _,λu hu=>by cases u<;>simp at hu⟩ (λi σ H' ⟨_,_,_,_,s2,_⟩=>⟨ha _,dm.of (s2 _ _ BO.tup)⟩) ?_ ?_
  ·rintro i x y σ H2 p hx hy ⟨x1,x2,x3,rfl,s2,hn⟩ np;obtain⟨u,lu,S,rfl,rfl,hBS,hS,hi⟩:∃(u:Bool) (lu:Addr) (S:List Bw),x=.str (sd u)/\y=.ref lu/\gK H2 lu S/\qU b ns u S/\i+1=(if u then 2 else 1):=by
    match i,hx,hy with
    | 0,hx,hy=>cases hx;cases hy;exact⟨false,l,L,rfl,rfl,BO.left.same s2,BO.isL,rfl⟩
    | 1,hx,hy=>cases hx;cases hy;exact⟨true,r,R,rfl,rfl,BO.right.same s2,BO.isR,rfl⟩
    | j+2,hx,hy=>simp at hx
   nofun;refine⟨_,dm.of aG,rfl,?_⟩;have s3:=(aV.refl H2).new (o:=.tup [.str (sd u),.ref lu]) np;nofun;refine⟨lu,S,rfl,hBS.same s3,λhc=>⟨trivial,?_⟩,λe1 h1 e2 h2 z t2 a2 b2 H3 nt2 s4 ht2 ta tb=>⟨trivial,?_⟩⟩
   ·nofun;refine gT (λz=>z trivial) ⟨_,_,_,rfl,s2.trans s3,λv hv=>?_⟩;by_cases e:v=u
    ·subst e;exact λp hp q hq=>hc p (hS.perm.mem_iff.mpr hp) q (hS.perm.mem_iff.mpr hq)
    ·refine hn v ?_;cases u<;>cases v<;>simp_all
   ·nofun;refine kK (λz=>nomatch z) ⟨_,_,dm.of ht2,rfl,_,_,dm.of ht2,rfl,(by show 3<=sizeLine;decide),λt3 nt3=>?_⟩;have s5:=(aV.refl H3).new (o:=.tup [.str (sd u),.ref a2,.ref b2]) nt3;exact qc u e1 (hS.perm.mem_iff.mp h1) e2 (hS.perm.mem_iff.mp h2) z t3 _ ((((s1.trans s2).trans s3).trans s4).trans s5) ⟨a2,b2,aG,s5 _ _ ta,s5 _ _ tb⟩
  ·rintro σ H2 ⟨x1,x2,x3,rfl,s2,hn⟩;nofun;exact qn (λu=>hn u (by cases u<;>decide)) _ (s1.trans s2)
def GL (E:Fn K mg "vet" rA ["maze"]) (LG:dM P w K mg base 3 "is_maze" jI ["thing"] tq) (LH:dM P w K mg base 4 "crossed" jJ ["maze"] qw):dM P w K mg base 5 "vet" rA ["maze"] wz:=E.mk' λf fd F=>by
 refine F.okS An (λvs H Q E h=>?_) (λcdv A outer s H vs Q E hr h=>?_)
 ·obtain⟨m,o,b,ns,rfl,_⟩:=h;rfl
 ·obtain⟨m,o,b,ns,rfl,hm,O,nc,q⟩:=h;refine⟨[some (.ref m),none],_,rfl,(L2.ie.h (aF (cA (iV (fS (aS LG (hr.mono (by decide)) (by rfl) (aC (aX 0) aD))))
   (aL fg)
   bQ)
   (aF (aW (i:=1) An.nd rfl (Or.inl rfl) (aS LH (hr.mono (by decide)) (by rfl) (aC (aX 0) aD)))
   (aF (cA (a8 pF (aX 1) eE (bI _))
   (aL fg)
   bQ)
   (aL (ar kf)))))),?_⟩
  nofun;refine⟨_,_,rfl,hm.dat,sZ,λH1 s1=>?_⟩;rw[GQ O];nofun;refine⟨m,o,b,ns,rfl,hm.same s1,O,λnc H2 s2=>⟨trivial,?_⟩,λu p hp q' hq z=>by rw[nc u p hp q' hq] at z;cases z⟩;nofun;exact gT (λz=>z trivial) (q _ (s1.trans s2))
def B2 (E:Fn K mg "begun" jB ["side"]):dM P w K mg base 1 "begun" jB ["side"] nQ:=E.mk' λf fd F=>by
 refine F.okS Ao (λvs H Q E h=>?_) (λcdv A outer s H vs Q E hr h=>?_)
 ·obtain⟨c,rfl,_⟩:=h;rfl
 ·obtain⟨c,rfl,q⟩:=h;refine⟨[some (.str ⟨#[c]⟩)],_,rfl,(L2.ie.h (aL (ar (dS (a8 eV (aX 0) bK (bI _)) bK bK)))),?_⟩;nofun;rw[Jf,JV,JX];simp only[g9];unfold jP at q;refine gX (λh=>?_) (λh=>?_)
  ·rw[NJ h] at q;dsimp only at q;rw[Hl] at q;exact q
  ·rw[NI h] at q;dsimp only at q;rw[Hk] at q;exact q
def qf (B:oC mg) (E:Fn K mg "leading_on" fB ["state"]):dM P w K mg base 1 "leading_on" fB ["state"] vU:=E.mk' λf fd F=>by
 refine F.okS qa (λvs H Q E h=>?_) (λcdv A outer s H vs Q E hr h=>?_)
 ·obtain⟨L,R,rfl,_⟩:=h;rfl
 ·obtain⟨L,R,rfl,hl,q⟩:=h;refine⟨[some (.str (tx (fV L R)))],_,rfl,(L2.ie.h (aL (ar (aw g6 (ae cI (by rfl) B.len aZ (aC (aX 0) aD)) aK)))),?_⟩;nofun;rw[bX,wx];refine⟨kA (by lia),?_⟩;have e:((L.length+R.length+1:Nat):Int) - 1=((L.length+R.length:Nat):Int):=by lia
  rw[e];exact q
def sU (E:Fn K mg "other_end" gO ["signs","place"]):dM P w K mg base 1 "other_end" gO ["signs","place"] t0:=E.mk' λf fd F=>by
 refine F.okS ez (λvs H Q E h=>?_) (λcdv A outer s H vs Q E hr h=>?_)
 ·obtain⟨a,cs,p,q,rfl,_⟩:=h;rfl
 ·obtain⟨a,cs,p,q,rfl,ha,hl,far,hq⟩:=h;have rd:∀(i c:Nat),cs[i]? = some c->oj (cs.map qZ) (i:Int)=some (V.str ⟨#[c]⟩):=λi c h=>gB (by rw[a9,h];rfl);refine⟨[some (.ref a),some (.int (p:Nat)),none,none,none],_,rfl,(L2.ie.h (aF (cA (a8 eV (bO bq (aX 0) (aX 1) (λ_ _=>rfl)) bK (bI _))
   (aL (ar (aX 1)))
   bQ)
   (aF (aW (i:=2) ez.nd rfl (Or.inl rfl) (dS (a8 eV (bO bq (aX 0) (aX 1) (λ_ _=>rfl)) bK (bI _)) aK (eQ eO aK)))
   (aF (aW (i:=3) ez.nd rfl (Or.inl rfl) (aX 2))
   (aF (aW (i:=4) ez.nd rfl (Or.inl rfl) (aX 1))
   (aF (kE ay (a8 o6 (aX 3) aK (bI _))
   (aF (mL (i:=4) ez.nd rfl (Or.inl rfl) (aX 2) wA)
    (aL (cA (a8 eV (bO bq (aX 0) (aX 4) (λ_ _=>rfl)) bK (bI _))
    (aL (mL (i:=3) ez.nd rfl (Or.inl rfl) aK wA))
    (aL (cA (a8 eV (bO bq (aX 0) (aX 4) (λ_ _=>rfl)) bK (bI _))
     (aL (mL (i:=3) ez.nd rfl (Or.inl rfl) aK Bu))
     bQ))))))
   (aL (ar (aX 4))))))))),?_⟩
  rcases far.walk with ⟨h0,rfl⟩ | ⟨st,n,d,hs,d0,dn,dz,eq,ot⟩
  ·nofun;refine⟨_,_,cF.of ha,rd _ _ h0,?_⟩;nofun;rw[qb,sL];simp only[g9,NO];exact hq
  ·rcases hs with ⟨rfl,h0⟩ | ⟨rfl,h0⟩
   ·nofun;refine⟨_,_,cF.of ha,rd _ _ h0,?_⟩;nofun;simp only[qb,sL,uE,g9];refine gT (by decide) ⟨_,_,cF.of ha,rd _ _ h0,?_⟩;nofun;simp only[qb,sL,uE,g9];refine kK (by decide) ?_;refine⟨λm σ H3=>∃j:Nat,j<=n/\m=n-j/\σ=[some (.ref a),some (.int (p:Nat)),some (.int 1),some (.int (d j)),some (.int ((p:Int)+1*j))]/\H3=H,⟨_,0,bF _,rfl,by simp[d0],rfl⟩,?_⟩;rintro m σ H3 ⟨j,hj,rfl,rfl,rfl⟩;nofun;refine gX (λh=>?_) (λh=>?_)
    ·have hjn:j<n:=by
      rcases gc j n with z | z
      ·exact z
      ·have:j=n:=by lia
       subst this;exact absurd dz h
     obtain⟨i,c,ei,hc,ed⟩:=ot j hjn;rw[ei];refine⟨_,λ_ _ z=>z,_,_,cF.of ha,rd _ _ hc,?_⟩;nofun;simp only[qb,sL,uE,g9];have fin:d (j+1)=d j+vl c:=ed;unfold vl at fin;have ej:(p:Int)+1*((j+1:Nat):Int)=i:=by rw[<-ei];lia
     refine gX (λhc1=>?_) (λhc1=>⟨_,_,cF.of ha,rd _ _ hc,?_⟩)
     ·rw[NJ hc1] at fin;exact⟨n-(j+1),by lia,j+1,hjn,rfl,by rw[fin,ej],trivial⟩
     ·nofun;simp only[qb,sL,uE,g9];rw[NI hc1] at fin;refine gX (λhc2=>?_) (λhc2=>?_)
      ·rw[NJ hc2] at fin;exact⟨n-(j+1),by lia,j+1,hjn,rfl,by rw[fin,ej];rfl,trivial⟩
      ·rw[NI hc2] at fin;exact⟨n-(j+1),by lia,j+1,hjn,rfl,by rw[fin,ej,Int.add_zero],trivial⟩
    ·have hjn:j=n:=by
      rcases gc j n with z | z
      ·exact absurd (jp.mp h) (dn j z)
      ·lia
     subst hjn;rw[eq];exact hq
   ·nofun;refine⟨_,_,cF.of ha,rd _ _ h0,?_⟩;nofun;simp only[qb,sL,uE,g9];refine gT (by decide) ⟨_,_,cF.of ha,rd _ _ h0,?_⟩;nofun;simp only[qb,sL,uE,g9];refine gT (by decide) ?_;refine⟨λm σ H3=>∃j:Nat,j<=n/\m=n-j/\σ=[some (.ref a),some (.int (p:Nat)),some (.int (-1)),some (.int (d j)),some (.int ((p:Int)+(-1)*j))]/\H3=H,⟨_,0,bF _,rfl,by simp[d0],rfl⟩,?_⟩;rintro m σ H3 ⟨j,hj,rfl,rfl,rfl⟩;nofun;refine gX (λh=>?_) (λh=>?_)
    ·have hjn:j<n:=by
      rcases gc j n with z | z
      ·exact z
      ·have:j=n:=by lia
       subst this;exact absurd dz h
     obtain⟨i,c,ei,hc,ed⟩:=ot j hjn;rw[ei];refine⟨_,λ_ _ z=>z,_,_,cF.of ha,rd _ _ hc,?_⟩;nofun;simp only[qb,sL,uE,g9];have fin:d (j+1)=d j+vl c:=ed;unfold vl at fin;have ej:(p:Int)+(-1)*((j+1:Nat):Int)=i:=by rw[<-ei];lia
     refine gX (λhc1=>?_) (λhc1=>⟨_,_,cF.of ha,rd _ _ hc,?_⟩)
     ·rw[NJ hc1] at fin;exact⟨n-(j+1),by lia,j+1,hjn,rfl,by rw[fin,ej],trivial⟩
     ·nofun;simp only[qb,sL,uE,g9];rw[NI hc1] at fin;refine gX (λhc2=>?_) (λhc2=>?_)
      ·rw[NJ hc2] at fin;exact⟨n-(j+1),by lia,j+1,hjn,rfl,by rw[fin,ej];rfl,trivial⟩
      ·rw[NI hc2] at fin;exact⟨n-(j+1),by lia,j+1,hjn,rfl,by rw[fin,ej,Int.add_zero],trivial⟩
    ·have hjn:j=n:=by
      rcases gc j n with z | z
      ·exact absurd (jp.mp h) (dn j z)
      ·lia
     subst hjn;rw[eq];exact hq
def zG (B:oC mg) (E:Fn K mg "joined" kD ["left","right"]) (KS:dM P w K mg base 1 "other_end" gO ["signs","place"] t0):dM P w K mg base 2 "joined" kD ["left","right"] xM:=E.mk' λf fd F=>by
 refine F.okS gM (λvs H Q E h=>?_) (λcdv A outer s H vs Q E hr h=>?_)
 ·obtain⟨L,R,x,y,rfl,_⟩:=h;rfl
 ·obtain⟨L,R,x,y,rfl,EE,hl,q⟩:=h;have hA:=sG (P:=L) (Q:=R) (x:=x) (y:=y);have lA:(tx (bu [] (L++[x]))).length=L.length+1:=by rw[bX,cG];simp
  have lB:(tx (bu (L++[x]) (R++[y]).reverse)).length=R.length+1:=by rw[bX,cG];simp
  refine⟨[some (.str (tx (bu [] (L++[x])))),some (.str (tx (bu (L++[x]) (R++[y]).reverse))),none,none,none,none,none,none,none],_,rfl,(L2.ie.h (aF (aW (i:=2) gM.nd rfl (Or.inl rfl) (dW (qk rfl) (by rfl) B.list gb (cL (aw dG (aX 0) (aX 1)) aD)))
   (aF (aW (i:=3) gM.nd rfl (Or.inl rfl) (ae cI (by rfl) B.len aZ (aC (aX 0) aD)))
   (aF (aW (i:=4) gM.nd rfl (Or.inl rfl) (aw g6 (aX 3) aK))
   (aF (aW (i:=5) gM.nd rfl (Or.inl rfl) (c8 (d6 (aS KS (hr.mono (by decide)) (by rfl) (aC (aX 2) (aC (aX 4) aD))) (d6 (aS KS (hr.mono (by decide)) (by rfl) (aC (aX 2) (aC (aX 3) aD))) aD))))
   (aF (cA (a8 eV (bO bq (aX 5) aK (λ_ _=>rfl)) (aX 3) (bI _))
   (aL (ar eE))
   bQ)
   (dP (aW (i:=6) gM.nd rfl (Or.inl rfl) (dS (a8 (vc (lq hr)) bK (dJ (bA (bO bq (aX 2) (aX 4) (λ_ _=>rfl)) (bA (bO bq (aX 2) (aX 3) (λ_ _=>rfl)) aD))) (by with_unfolding_all rfl)) bK bK))
   (aF (d8 ay rfl (Az (by rfl) B.zip (d6 (ae kM (by rfl) B.sorted dL (aC (aX 5) aD)) (aC (aX 6) aD))) (jD (n:=2) rfl (cT (bS (i:=7) gM.nd rfl (Or.inl rfl)) (cT (bS (i:=8) gM.nd rfl (Or.inl rfl)) fw)))
   (aL (xf (aX 8) (DH (aX 2) (aX 7) set_list))))
   (aL (ar (aw dG (aw dG (iI d9 gp gn sf bK (bA (dg jA (aX 2) fF (eC (aX 4))) aD)) bK) (iI d9 gp gn sf bK (bA (dg jA (aX 2) (eC (aw f9 (aX 3) aK)) fF) aD))))))))))))),?_⟩
  nofun;rw[dt,hA,lY,jb,lA,lB,show (λc:Nat=>V.str (⟨#[c]⟩:Str))=qZ from rfl];obtain⟨s0,s1⟩:=Hn (P:=L) (Q:=R.reverse) (x:=x) (y:=y);have c0:=vV L x;have c1:=vV (L++[x]) y;have z0:=tu (pre:=L) (x:=x) (EE.nn x (by simp));have z1:=tu (pre:=L++[x]) (x:=y) (EE.nn y (by simp));have lC:(bu [] (L++x::y::R.reverse)).length=L.length+R.length+2:=by rw[cG];simp;lia
  have e1:((L.length+1:Nat):Int) - 1=(L.length:Nat):=by lia
  rw[o7] at q;refine⟨kA (by lia),by lia,λl nl=>⟨kA (by lia),?_⟩⟩;rw[e1];by_cases exy:x=y
  ·subst exy;rw[NJ rfl] at q;have f0:=qL EE;have f1:=zV EE;refine⟨l,_,L.length,L.length+1,rfl,aG,by lia,f0,l,_,L.length+1,L.length,rfl,aG,by lia,f1,(by show 2<=sizeLine;decide),λp np=>⟨_,_,cF.of aG,rfl,?_⟩⟩;nofun;exact(q _ (((aV.refl H).new nl).trans ((aV.refl _).new np)))
  ·rw[NI exy] at q;obtain⟨q0,q1,f0,f1,n1,n2,b0,b1,m0,m1,hm,ht⟩:=tW EE exy;generalize bu [] (L++x::y::R.reverse)=cs at *;have h1:upd H l (.lst (cs.map qZ)) l=some (.lst (cs.map qZ)):=aG;have sH:=(aV.refl H).new (o:=.lst (cs.map qZ)) nl;refine⟨l,cs,L.length,q0,rfl,h1,by lia,f0,l,cs,L.length+1,q1,rfl,h1,by lia,f1,(by show 2<=sizeLine;decide),λp np=>⟨_,_,cF.of aG,rfl,?_⟩⟩;nofun;refine gT (by lia) ?_;have npl:l≠p:=ak h1 np;have h2:upd (upd H l (.lst (cs.map qZ))) p (.lst [V.int q0,V.int q1]) l=some (.lst (cs.map qZ)):=by rw[aR npl];exact h1
   have hp2:upd (upd H l (.lst (cs.map qZ))) p (.lst [V.int q0,V.int q1]) p=some (.lst [V.int q0,V.int q1]):=aG;have s2:=sH.trans ((aV.refl _).new (o:=.lst [V.int q0,V.int q1]) np);generalize upd (upd H l (.lst (cs.map qZ))) p (.lst [V.int q0,V.int q1])=H2 at h2 hp2 s2 ⊢;refine cm (λσ H'=>σ=[some (.str (tx (bu [] (L++[x])))),some (.str (tx (bu (L++[x]) (R++[y]).reverse))),some (.ref l),some (.int ((L.length+1:Nat):Int)),some (.int (L.length:Nat)),some (.ref p),some (.str (tx [m0,m1])),none,none]/\aV H2 H') ?_ ?_
   ·nofun;refine⟨_,qZ (l4 L x),cF.of h2,gB (by rw[a9,s0];rfl),_,qZ (l4 (L++[x]) y),cF.of h2,gB (by rw[a9,s1];rfl),(by show 2<=sizeLine;decide),λt nt=>By c0 c1 aG ⟨_,rfl,?_⟩⟩;simp only[JU,JW];rcases hm with ⟨hz,rfl,rfl⟩ | ⟨hz,rfl,rfl⟩
    ·refine kK ?_ ⟨rfl,(aV.refl _).new nt⟩;rcases hz with z | z
     ·rw[NM (z0.mpr z)];rfl
     ·rw[NM (z1.mpr z),Bool.or_true]
    ·refine gT ?_ ⟨rfl,(aV.refl _).new nt⟩;rw[NL (λz=>hz (.inl (z0.mp z))),NL (λz=>hz (.inr (z1.mp z)))];decide
   ·rintro σ H3 ⟨rfl,s3⟩;have hl3:=s3 _ _ h2;have s03:aV H H3:=s2.trans s3;have hz:(m0=42\/m0=40)/\(m1=42\/m1=41):=by rcases hm with ⟨_,rfl,rfl⟩ | ⟨_,rfl,rfl⟩<;>simp
    nofun;refine⟨p,[(q0:Int),(q1:Int)],rfl,cF.of (s3 _ _ hp2),(by show 2<64;decide),λl2 ms nl2 pm ps'=>?_⟩;have em:=BJ pm ps';subst em;have nll:l≠l2:=ak hl3 nl2;refine⟨l2,tx [m0,m1],rfl,⟨_,cF.of aG⟩,AU (by intro c hc;simp at hc;lia),CH (xs:=[V.int ((min q0 q1:Nat):Int),V.int ((max q0 q1:Nat):Int)]) (by rw[jb];exact aH 2)
     (λi σ H'=>∃x7 x8,σ=[some (.str (tx (bu [] (L++[x])))),some (.str (tx (bu (L++[x]) (R++[y]).reverse))),some (.ref l),some (.int ((L.length+1:Nat):Int)),some (.int (L.length:Nat)),some (.ref p),some (.str (tx [m0,m1])),x7,x8]/\aV H H'/\H' l2=some (.lst [V.int ((min q0 q1:Nat):Int),V.int ((max q0 q1:Nat):Int)]) ∧
      H' l=some (.lst ((match i with | 0=>cs | 1=>cs.set (min q0 q1) m0 | _=>(cs.set (min q0 q1) m0).set (max q0 q1) m1).map qZ)))
     ⟨none,none,rfl,s03.trans ((aV.refl _).new nl2),aG,by rw[aR nll];exact hl3⟩ (λi σ H' ⟨_,_,_,_,e,_⟩=>cF.of e) ?_ ?_⟩
    ·rintro i v c σ H' t hv hc ⟨x7,x8,rfl,sm,h4,h5⟩ nt;have ntl:l≠t:=ak h5 nt;have ntl2:l2≠t:=ak h4 nt;nofun;refine⟨_,dm.of aG,rfl,?_⟩;nofun;have h5':upd H' t (.tup [v,V.str ⟨#[c]⟩]) l=H' l:=aR ntl;rw[h5] at h5';have sm2:aV H (upd H' t (.tup [v,V.str ⟨#[c]⟩])):=sm.trans ((aV.refl _).new nt)
     match i,hv,hc,h5' with
     | 0,hv,hc,h5'=>
      have ec:c=m0:=by simpa [tx] using hc.symm
      subst ec;cases hv;have h6:_=some (HO.lst (cs.map qZ)):=h5';refine⟨l,_,_,min q0 q1,rfl,rfl,h6,?_,_,_,rfl,sm2.new nl,?_,?_⟩
      ·unfold C8;rw[aE,NJ (by lia),NJ (by lia),fU]
      ·rw[aR (cC nll),aR ntl2];exact h4
      ·rw[aG];exact congrArg (λz=>some (HO.lst z)) (Aj cs (min q0 q1) c)
     | 1,hv,hc,h5'=>
      have ec:c=m1:=by simpa [tx] using hc.symm
      subst ec;cases hv;have h6:_=some (HO.lst ((cs.set (min q0 q1) m0).map qZ)):=h5';refine⟨l,_,_,max q0 q1,rfl,rfl,h6,?_,_,_,rfl,sm2.new nl,?_,?_⟩
      ·unfold C8;rw[aE,fG,NJ (by lia),NJ (by lia),fU]
      ·rw[aR (cC nll),aR ntl2];exact h4
      ·rw[aG];exact congrArg (λz=>some (HO.lst z)) (Aj (cs.set (min q0 q1) m0) (max q0 q1) c)
     | i+2,hv,_,_=>simp at hv
    ·rintro σ H' ⟨x7,x8,rfl,sm,h4,h5⟩;have h5:H' l=some (.lst (((cs.set (min q0 q1) m0).set (max q0 q1) m1).map qZ)):=h5;have ld:((cs.set (min q0 q1) m0).set (max q0 q1) m1).length=L.length+R.length+2:=by rw[fG,fG,lC]
     generalize (cs.set (min q0 q1) m0).set (max q0 q1) m1=ds at h5 ld ht;nofun;refine⟨rfl,F4 h5 (by rw[aE];lia) λp1 H1 n1 t1 g1=>?_⟩;rw[<-List.map_take,xU] at g1;have lt1:(ds.take L.length).length<=900:=by rw[bp];lia
     refine⟨_,p1,_,rfl,rfl,cF.of g1,oE lt1,?_⟩;rw[rZ,Ap];refine⟨_,_,rfl,rfl,by rw[bX,bX];exact kA (by rw[bp];simp;lia),rfl,?_⟩;have e2:((L.length+1:Nat):Int)+1=((L.length+2:Nat):Int):=by lia
     rw[e2];refine Af (t1 _ _ h5) (by rw[aE];lia) λp2 H2' n2' t2 g2=>?_;rw[<-List.map_drop,xU] at g2;have lt2:(ds.drop (L.length+2)).length<=900:=by rw[eh];lia
     refine⟨_,p2,_,rfl,rfl,cF.of g2,oE lt2,?_⟩;rw[rZ];refine⟨_,_,rfl,rfl,?_,?_⟩
     ·rw[dt,bX,bX];exact kA (by simp;lia)
     ·rw[dt,dt,ai,fP,ht];exact q _ (sm.trans (t1.trans t2))
def De (B:oC mg) (E:Fn K mg "step" jS ["state","letter"]) (LY:dM P w K mg base 2 "joined" kD ["left","right"] xM):dM P w K mg base 3 "step" jS ["state","letter"] m7:=E.mk' λf fd F=>by
 refine F.okS pA (λvs H Q E h=>?_) (λcdv A outer s H vs Q E hr h=>?_)
 ·obtain⟨L,R,c,rfl,_⟩:=h;rfl
 ·obtain⟨L,R,c,rfl,hc,EE,hl,q⟩:=h;have l1:=cG L [];have l2:(bu L R.reverse).length=R.length:=by rw[cG];simp
  have sp:Txt.split (tx (fV L R)) (Str.ofString "|")=[tx (bu [] L),tx (bu L R.reverse)]:=by rw[Ap];exact yk (Bc [] L) (Bc L R.reverse)
  refine⟨[some (.str (tx (fV L R))),some (.str ⟨#[c]⟩),none,none,none],_,rfl,(L2.ie.h (aF (aW (i:=2) pA.nd rfl (Or.inl rfl) (iI d9 PySem.F.slot_str_split PySem.F.type_str_split Bi (aX 0) (bY bK aD)))
   (aF (aW (i:=3) pA.nd rfl (Or.inl rfl) (bO bq (aX 2) aK (λ_ _=>rfl)))
   (aF (aW (i:=4) pA.nd rfl (Or.inl rfl) (bO bq (aX 2) aK (λ_ _=>rfl)))
   (aF (cA (a8 eV (aX 1) bK (bI _))
   (aL (ar (aw dG (aw dG (aX 3) bK) (aX 4))))
   bQ)
   (aF (cA (a8 eV (aX 1) bK (bI _))
   (aL (ar (dS (jN (aX 4) (λ_=>rfl)) (aw dG (aw dG (aw dG (aX 3) (bO oS (aX 4) aK (λ_ _=>rfl))) bK) (dg sF (aX 4) (eC aK) fF)) eE)))
   bQ)
   (aF (cA (a8 eV (aX 1) bK (bI _))
   (aL (ar (dS (jN (aX 3) (λ_=>rfl)) (aw dG (aw dG (aw dG (dg sF (aX 3) fF (eC (eQ eO aK))) bK) (bO oS (aX 3) (eQ eO aK) (λ_ _=>rfl))) (aX 4)) eE)))
   bQ)
   (aL (ar (dS (QW.pt (ke (jN (aX 3) (λ_=>rfl)) (jV (jN (aX 4) (λ_=>rfl))))) (aS LY (hr.mono (by decide)) (by rfl) (aC (aX 3) (aC (aX 4) aD))) eE)))))))))),?_⟩
  nofun;refine⟨rfl,tx (fV L R),_,rfl,rfl,by decide +kernel,by rw[bX,wx];lia,λl nl=>?_⟩;rw[sp];refine⟨l,_,0,.str (tx (bu [] L)),rfl,rfl,cF.of aG,rfl,?_⟩;refine⟨l,_,1,.str (tx (bu L R.reverse)),rfl,rfl,cF.of aG,rfl,?_⟩;simp only[Hu,Ht,Hs,JC,Ap,Hr,g9];have sH:=(aV.refl H).new (o:=.lst (List.map V.str [tx (bu [] L),tx (bu L R.reverse)])) nl;generalize upd H l (.lst (List.map V.str [tx (bu [] L),tx (bu L R.reverse)]))=H1 at *;have qq:=q H1 sH;clear sp nl;rcases hc with rfl | rfl | rfl | rfl
  ·refine kK rfl ⟨_,_,rfl,rfl,?_,_,_,rfl,rfl,?_,?_⟩
   ·rw[bX,bX];exact kA (by simp;lia)
   ·rw[dt,bX,bX];exact kA (by simp;lia)
   ·rw[dt,dt,Ab EE];exact qq
  ·refine gT (by decide) (kK rfl ?_);by_cases hR:R=[]
   ·subst hR;rw[mz] at qq;exact⟨_,k8 (by lia),gT (by simp[bu]) qq⟩
   ·obtain⟨R',v,rfl⟩:=cH hR;rw[o9] at qq;rw[m8] at l2 ⊢;simp at l2 hl;refine⟨_,k8 (by simp;lia),kK rfl ⟨_,0,l4 L v,rfl,rfl,?_,Hg (i:=0) rfl,_,_,rfl,rfl,?_,?_,?_⟩⟩
    ·rw[bX];exact kA (by simp;lia)
    ·rw[mi,bX,bX];exact kA (by simp;lia)
    ·rw[mi,dt,bX,bX];exact kA (by simp;lia)
    ·have e:=Cq (cs:=l4 L v::bu (L++[v]) R'.reverse) (p:=1) (by simp);refine⟨_,rfl,?_,?_⟩
     ·rw[bX];exact kA (by simp;lia)
     ·have e':Txt.slice (tx (l4 L v::bu (L++[v]) R'.reverse)) (some 1) none=tx (bu (L++[v]) R'.reverse):=e;rw[e'];refine⟨_,_,rfl,rfl,?_,?_⟩
      ·rw[mi,dt,dt,bX,bX];exact kA (by simp;lia)
      ·have f:=Aa (L:=L) (Q:=R') (v:=v);rw[mi,dt,dt,dt,ai (bu [] L++[l4 L v]) [124],fP,f];exact qq
  ·refine gT (by decide) (gT (by decide) (kK rfl ?_));by_cases hL:L=[]
   ·subst hL;rw[my] at qq;exact⟨_,k8 (by simp[bu]),gT (by decide) qq⟩
   ·obtain⟨L',v,rfl⟩:=cH hL;rw[o8] at qq;have e:=Cp (P:=bu [] L') (c:=l4 L' v);rw[m9] at l1 ⊢;simp at l1 hl;refine⟨_,k8 (by simp;lia),kK (by simp) ⟨_,rfl,?_,?_⟩⟩
    ·rw[bX];exact kA (by simp;lia)
    ·rw[e];refine⟨_,_,rfl,rfl,?_,_,-1,l4 L' v,rfl,rfl,?_,by rw[lY];exact iP,_,_,rfl,rfl,?_,_,_,rfl,rfl,?_,?_⟩
     ·rw[bX,bX];exact kA (by simp;lia)
     ·rw[bX];exact kA (by simp;lia)
     ·rw[mi,dt,bX,bX];exact kA (by simp;lia)
     ·rw[mi,dt,dt,bX,bX];exact kA (by simp;lia)
     ·have f:=A9 (P:=L') (R:=R) (v:=v);rw[mi,dt,dt,dt];have g:bu [] L'++[124]++[l4 L' v]++bu (L'++[v]) R.reverse=bu [] L'++124::(l4 L' v::bu (L'++[v]) R.reverse):=by simp
      rw[g,f];exact qq
  ·refine gT (by decide) (gT (by decide) (gT (by decide) ?_));by_cases hL:L=[]
   ·subst hL;rw[mw] at qq;exact⟨_,k8 (by simp[bu]),gT (by decide) qq⟩
   ·by_cases hR:R=[]
    ·subst hR;rw[mt] at qq;obtain⟨L',v,rfl⟩:=cH hL;exact⟨_,k8 (by rw[l1];lia),kK (by rw[m9];simp) ⟨_,k8 (by lia),gT (by simp[bu]) qq⟩⟩
    ·obtain⟨L',x,rfl⟩:=cH hL;obtain⟨R',y,rfl⟩:=cH hR;refine⟨_,k8 (by lia),kK (by rw[m9];simp) ⟨_,k8 (by lia),kK (by rw[m8];rfl) ⟨L',R',x,y,rfl,EE,by simp at hl;lia,λH' s'=>q H' (sH.trans s')⟩⟩⟩
def sW (E:Fn K mg "letter_of" gQ ["left_inwards","right_inwards"]):dM P w K mg base 1 "letter_of" gQ ["left_inwards","right_inwards"] xL:=E.mk' λf fd F=>by
 refine F.okS sJ (λvs H Q E h=>?_) (λcdv A outer s H vs Q E hr h=>?_)
 ·obtain⟨l,r,rfl,_⟩:=h;rfl
 ·obtain⟨l,r,rfl,q⟩:=h;refine⟨[some (.bl l),some (.bl r)],_,rfl,(L2.ie.h (aF (cA (fS (aX 0))
   (aL (ar (dS (fS (aX 1)) bK bK)))
   bQ)
   (aL (ar (dS (fS (aX 1)) bK bK))))),?_⟩
  nofun;rw[Hu,Ht,Hs,JC];cases l<;>cases r<;>exact q
def B1 (B:oC mg) (E:Fn K mg "coded" kc ["maze"]) (MS:dM P w K mg base 5 "vet" rA ["maze"] wz) (KN:dM P w K mg base 3 "bows_of" iF ["maze"] pV) (Kb:dM P w K mg base 1 "letter_of" gQ ["left_inwards","right_inwards"] xL):dM P w K mg base 6 "coded" kc ["maze"] pT:=E.mk' λf fd F=>by
 refine F.okS nT (λvs H Q E h=>?_) (λcdv A outer s H vs Q E hr h=>?_)
 ·obtain⟨m,o,b,ns,rfl,_⟩:=h;rfl
 ·obtain⟨m,o,b,ns,rfl,hm,O,nc,q⟩:=h;refine⟨[some (.ref m),none,none,none],_,rfl,(L2.ie.h (aF (fv (aS MS (hr.mono (by decide)) (by rfl) (aC (aX 0) aD)))
   (aF (aW (i:=1) nT.nd rfl (Or.inl rfl) (aS KN (hr.mono (by decide)) (by rfl) (aC (aX 0) aD)))
   (aF (aW (i:=2) nT.nd rfl (Or.inr rfl) (fy (own:=["bow"]) (ns:=[]) (caps:=[]) rfl ⟨rfl,by decide +kernel,by decide +kernel,by decide +kernel⟩ .nil (eZ (bO fD (aX 1) aK (λ_ _=>rfl))) (λC s H fp pn=>(bS (i:=0) (show List.Nodup ((["bow"]:List Str)++([]:List Str)) by decide +kernel) rfl (Or.inl rfl))) (λC s H fp pn=>iW) (λC s H fp pn=>(bO (xo (K:=K) rfl) (aX 0) aK (λ_ _=>rfl)))))
   (aF (aW (i:=3) nT.nd rfl (Or.inr rfl) (fy (own:=["bow"]) (ns:=[]) (caps:=[]) rfl ⟨rfl,by decide +kernel,by decide +kernel,by decide +kernel⟩ .nil (eZ (bO fD (aX 1) aK (λ_ _=>rfl))) (λC s H fp pn=>(bS (i:=0) (show List.Nodup ((["bow"]:List Str)++([]:List Str)) by decide +kernel) rfl (Or.inl rfl))) (λC s H fp pn=>iW) (λC s H fp pn=>(bO (xo (K:=K) rfl) (aX 0) aK (λ_ _=>rfl)))))
   (aL (ar (iI d9 gp gn sf bK (g0 (fy (own:=["ring"]) (ns:=["lefts","rights"]) (caps:=[2,3]) rfl ⟨rfl,by decide +kernel,by decide +kernel,by decide +kernel⟩ (.cons rfl rfl (.inl rfl) (.cons rfl rfl (.inl rfl) .nil)) (p9 (by rfl) B.range (bY aK (cL (aw f9 (ae cB (by rfl) B.len aZ (bA (bO fD (aX 0) aK (λ_ _=>rfl)) aD)) aK) aD))) (λC s H fp pn=>(bS (i:=0) (show List.Nodup ((["ring"]:List Str)++(["lefts","rights"]:List Str)) by decide +kernel) rfl (Or.inl rfl))) (λC s H fp pn=>iW) (λC s H fp pn=>(aS Kb (hr.mono (by decide)) (by rfl) (eF (dQ (xi (K:=K) rfl (lq hr)) (aX 0) (aX 1) (by with_unfolding_all rfl)) (eF (dQ (xi (K:=K) rfl (lq hr)) (aX 0) (aX 2) (by with_unfolding_all rfl)) aD))))) aD))))))))),?_⟩
  nofun;refine⟨m,o,b,ns,rfl,hm,O,nc,λH1 s1=>?_⟩;have hm1:=hm.same s1;have nlen:=O.len;nofun;refine⟨m,o,b,ns,rfl,hm1,O,λt l r L R H2 nt nl nr s2 BO=>?_⟩;have lL:=BO.isL.len O;have lR:=BO.isR.len O;obtain⟨as,b1,bl,bg⟩:=BO.left.get;obtain⟨bs,c1,cl,cg⟩:=BO.right.get;refine⟨t,_,0,_,rfl,rfl,dm.of BO.tup,rfl,l,rfl,⟨_,cF.of b1⟩,?_⟩;refine rN (cF.of b1) (by rw[aE];exact bx (be (by lia))) ((L.map (·.1)).map V.int) (by simp[bl]) (λi x y Q' hx hy hq=>?_) λp3 n3=>?_
  ·obtain⟨a,p,rfl,hp,ta⟩:=bg i x hx;rw[a9,a9,hp] at hy;cases hy;nofun;exact⟨_,_,dm.of ta,rfl,hq⟩
  have s3:=(aV.refl H2).new (o:=.lst ((L.map (·.1)).map V.int)) n3;have h3:upd H2 p3 (.lst ((L.map (·.1)).map V.int)) p3=some (.lst ((L.map (·.1)).map V.int)):=aG;generalize upd H2 p3 (.lst ((L.map (·.1)).map V.int))=H3 at s3 h3 ⊢;refine⟨t,_,1,_,rfl,rfl,dm.of (s3 _ _ BO.tup),rfl,r,rfl,⟨_,cF.of (s3 _ _ c1)⟩,?_⟩;refine rN (cF.of (s3 _ _ c1)) (by rw[aE];exact bx (be (by lia))) ((R.map (·.1)).map V.int) (by simp[cl]) (λi x y Q' hx hy hq=>?_) λp4 n4=>?_
  ·obtain⟨a,p,rfl,hp,ta⟩:=cg i x hx;rw[a9,a9,hp] at hy;cases hy;nofun;exact⟨_,_,dm.of (s3 _ _ ta),rfl,hq⟩
  have s4:=(aV.refl H3).new (o:=.lst ((R.map (·.1)).map V.int)) n4;have h4:upd H3 p4 (.lst ((R.map (·.1)).map V.int)) p4=some (.lst ((R.map (·.1)).map V.int)):=aG;generalize upd H3 p4 (.lst ((R.map (·.1)).map V.int))=H4 at s4 h4 ⊢;have h34:=s4 _ _ h3;have s14:=s2.trans (s3.trans s4);have hm4:=hm1.same s14;refine⟨rfl,_,_,dm.of hm4.1,rfl,o,_,rfl,.inr (dm.of hm4.2),?_⟩;rw[aE,show ((ns.length:Int)+1 - 1).toNat=ns.length by lia];refine⟨⟨by decide,by decide,by lia,by lia⟩,?_⟩;refine zZ (bx (be (by lia))) (((qi b ns).map λc=>(⟨#[c]⟩:Str)).map V.str) (by simp[qi]) (λi y Q' hi hy hq=>?_) λp5 n5=>?_
  ·nofun;refine xq (.inl (cF.of h34)) (xq (.inl (cF.of h4)) ⟨_,_,rfl,?_⟩);rw[NI (by decide),NI (by decide)];have e:((qi b ns).map λc=>(⟨#[c]⟩:Str))[i]? = some (tx [Dt (decide ((1:Int)+i∈L.map (·.1))) (decide ((1:Int)+i∈R.map (·.1)))]):=by
    have e1:((i+1:Nat):Int)=1+i:=by lia
    rw[a9];unfold qi;rw[a9,List.getElem?_range hi];simp only[gC];rw[e1,decide_eq_decide.mpr (BO.isL.perm.map (·.1)).symm.mem_iff,decide_eq_decide.mpr (BO.isR.perm.map (·.1)).symm.mem_iff];rfl
   rw[a9,e] at hy;cases hy;exact hq
  ·refine⟨_,p5,(qi b ns).map λc=>(⟨#[c]⟩:Str),rfl,rfl,cF.of aG,oE (by unfold qi;rw[aE,jm];lia),?_⟩;rw[rZ];exact q _ (s1.trans (s14.trans ((aV.refl _).new n5)))
def Dx {c:Nat} (h:iM c):(Builtin.Str.occurrences (Str.ofString "abcd") ⟨#[c]⟩ 0 (Str.ofString "abcd").length 1).isEmpty=false:=by rcases h with rfl | rfl | rfl | rfl<;>decide +kernel
def uU (B:oC mg) (E:Fn K mg "vet_code" gz ["side","code"]) (KF:dM P w K mg base 1 "begun" jB ["side"] nQ) (Jy:dM P w K mg base 3 "step" jS ["state","letter"] m7) (KC:dM P w K mg base 1 "leading_on" fB ["state"] vU):dM P w K mg base 4 "vet_code" gz ["side","code"] tY:=E.mk' λf fd F=>by
 refine F.okS i3 (λvs H Q E h=>?_) (λcdv A outer s H vs Q E hr h=>?_)
 ·obtain⟨b,cs,rfl,_⟩:=h;rfl
 ·obtain⟨b,cs,rfl,C,q⟩:=h;have lt:=C.lts;have hn:=C.len;have hres:=C.res;refine⟨[some (.str (sd b)),some (.str (tx cs)),none,none,none],_,rfl,(L2.ie.h (aF (cA (QW.pt (jU (iV (fS (ae mC (by rfl) B.isinstance cf (aC (aX 1) (aC (lh (v:=.ty "str") (by rfl) B.str PyProof.Rows.boot_str rfl) aD))))) (jC (a8 ph (ae cI (by rfl) B.len aZ (aC (aX 1) aD)) (oH (by rfl) B.MOST_RINGS) (bI _)))))
   (aL fg)
   bQ)
   (aF (aW (i:=2) i3.nd rfl (Or.inl rfl) (aS KF (hr.mono (by decide)) (by rfl) (aC (aX 0) aD)))
   (aF (d8 ay rfl (pf (by rfl) B.enumerate (aC (aX 1) aD)) (jD (n:=2) rfl (cT (bS (i:=3) i3.nd rfl (Or.inl rfl)) (cT (bS (i:=4) i3.nd rfl (Or.inl rfl)) fw)))
   (aF (aW (i:=2) i3.nd rfl (Or.inl rfl) (dS (a8 oN (aX 4) (fh (by rfl) B.LETTERS) (by with_unfolding_all rfl)) (aS Jy (hr.mono (by decide)) (by rfl) (aC (aX 2) (aC (aX 4) aD))) eE))
    (aL (cA (a8 sS (aX 2) eE (bI _))
    (aL fg)
    bQ))))
   (aF (cA (a8 o6 (aS KC (hr.mono (by decide)) (by rfl) (aC (aX 2) aD)) aK (bI _))
   (aL fg)
   bQ)
   (aL (ar kf))))))),?_⟩
  nofun;refine Dv (.str _) ⟨true,rfl,gT (by decide) ⟨by rw[bX];exact kA (by lia),gT (by rw[bX];lia) ⟨F5 b,by rw[Hq],?_⟩⟩⟩;rw[nS];nofun;refine⟨pL lt,qJ (x:=tx cs) (λi σ H2=>∃(L R:List Int) (x3 x4:Option V),σ=[some (.str (sd b)),some (.str (tx cs)),some (.str (tx (fV L R))),x3,x4]/\aV H H2/\Run b cs i L R/\L.length+R.length<=2*i+1/\fM (bL b) (bR b) cs 0=fM L R (cs.drop i) i)
   ⟨bL b,bR b,_,_,rfl,aV.refl _,Run.zero b cs,by cases b<;>decide,by rw[fe]⟩ ?_ ?_⟩
  ·rintro i c σ H2 p hc ⟨L,R,x3,x4,rfl,sm,run,hl,er⟩ np;have hc':cs[i]? = some c:=by rw[<-hc,show (tx cs).cps[i]? = cs[i]? by simp[tx]]
   have hi:=(aJ.mp hc').1;have lc:=lt c (bB hc');have ed:cs.drop i=c::cs.drop (i+1):=by rw[ah hi];congr 1;exact(aJ.mp hc').2
   have s2:=sm.trans ((aV.refl _).new (o:=.tup [.int i,.str ⟨#[c]⟩]) np);nofun;refine⟨_,dm.of aG,rfl,?_⟩;nofun;refine kK (Dx lc) ⟨L,R,c,rfl,lc,run.ee,by lia,λH3 s3=>?_⟩;rw[ed] at er;have s4:=s2.trans s3;cases g:cS L R c with
   | none=>
    rw[kd g] at er;rw[hres] at er;cases er
   | some pr=>
    obtain⟨L',R'⟩:=pr;rw[je g] at er;refine⟨trivial,gT (λz=>nomatch z) ⟨L',R',_,_,rfl,s4,run.step hc' lc g,?_,er⟩⟩;have:=iN lc g;lia
  ·rintro σ H2 ⟨L,R,x3,x4,rfl,sm,run,hl,er⟩;rw[jb] at run er hl;rw[iR] at er;have er2:fM (bL b) (bR b) cs 0=if L.length+R.length=1 then none else some cs.length:=er
   nofun;refine⟨L,R,rfl,by lia,?_⟩;nofun;by_cases e1:L.length+R.length=1
   ·rw[NJ e1] at er2;exact gT (λz=>by lia) (q _ sm)
   ·rw[NI e1,hres] at er2;cases er2
def G5{k:Bool}{c:Nat}(h:iM c):(Builtin.Str.occurrences (tx [97,if k=true then 99 else 98]) ⟨#[c]⟩ 0 (tx [97,if k=true then 99 else 98]).length 1).isEmpty=!(isIn k c):=by
 cases k<;>rcases h with rfl | rfl | rfl | rfl<;>decide +kernel
def pp (B:oC mg) (E:Fn K mg "rows_across" fJ ["code","inwards","begins_here"]):dM P w K mg base 1 "rows_across" fJ ["code","inwards","begins_here"] xE:=E.mk' λf fd F=>by
 refine F.okS dN (λvs H Q E h=>?_) (λcdv A outer s H vs Q E hr h=>?_)
 ·obtain⟨k,b,cs,rfl,_⟩:=h;rfl
 ·obtain⟨k,b,cs,rfl,lt,hn,ne,q⟩:=h;refine⟨[some (.str (tx cs)),some (.str (tx [97,if k then 99 else 98])),some (.bl (decide (k=b))),none,none,none,none,none,none],_,rfl,(L2.ie.h (aF (aW (i:=3) dN.nd rfl (Or.inl rfl) oI)
   (dP (aW (i:=4) dN.nd rfl (Or.inl rfl) (dS (jN (aX 2) (λ_=>rfl)) (c8 (bY aK aD)) (c8 aD)))
   (dP (d8 ay rfl (pf (by rfl) B.enumerate (aC (aX 0) aD)) (jD (n:=2) rfl (cT (bS (i:=5) dN.nd rfl (Or.inl rfl)) (cT (bS (i:=6) dN.nd rfl (Or.inl rfl)) fw)))
   (aF (aW (i:=7) dN.nd rfl (Or.inl rfl) (aw f9 (aX 5) aK))
    (aL (cA (a8 oN (aX 6) (aX 1) (by with_unfolding_all rfl))
    (aL (fv (iI b6 cP cO iL (aX 4) (aC (aX 7) aD))))
    (aF (aW (i:=8) dN.nd rfl (Or.inl rfl) (xg b6 lO lN Bj (aX 4)))
     (aF (kF (lw hr) (aX 3) (aX 7) (aX 8) rfl)
     (aL (kF (lw hr) (aX 3) (aX 8) (aX 7) rfl))))))))
   (aF (d8 ay rfl (eZ (aX 4)) (bS (i:=8) dN.nd rfl (Or.inl rfl))
   (aL (kF (lw hr) (aX 3) (aX 8) (aw f9 (ae cI (by rfl) B.len aZ (aC (aX 0) aD)) aK) rfl)))
   (aL (ar (aX 3)))))))),?_⟩
  nofun;intro d nd;have sd0:=(aV.refl H).new (o:=.dK []) nd;refine cm (λσ H'=>∃wl,σ=[some (.str (tx cs)),some (.str (tx [97,if k then 99 else 98])),some (.bl (decide (k=b))),some (.ref d),some (.ref wl),none,none,none,none]/\aV H H'/\H wl=none/\wl≠d/\H' d=some (.dK [])/\H' wl=some (.lst (iK (tM k b).1))) ?_ ?_
  ·nofun;refine⟨decide (k=b),rfl,?_⟩;have go:∀l p,upd H d (.dK []) p=none->l=iK (tM k b).1->∃wl,([some (.str (tx cs)),some (.str (tx [97,if k then 99 else 98])),some (.bl (decide (k=b))),some (.ref d),some (.ref p),none,none,none,none]:L2.St)=[some (.str (tx cs)),some (.str (tx [97,if k then 99 else 98])),some (.bl (decide (k=b))),some (.ref d),some (.ref wl),none,none,none,none]/\aV H (upd (upd H d (.dK [])) p (.lst l))/\H wl=none/\wl≠d/\upd (upd H d (.dK [])) p (.lst l) d=some (.dK [])/\upd (upd H d (.dK [])) p (.lst l) wl=some (.lst (iK (tM k b).1)):=λl p np e=>by
    have nep:d≠p:=λz=>by subst z;rw[aG] at np;cases np
    exact⟨p,rfl,sd0.trans ((aV.refl _).new np),sd0.free np,nep.symm,by rw[aR nep,aG],by rw[aG,e]⟩
   by_cases e:k=b
   ·exact kK (by simp[e]) ⟨(by show 1<=sizeLine;decide),λp np=>go _ p np (by unfold tM;dsimp only;rw[NJ e];rfl)⟩
   ·exact gT (by simp[e]) ⟨bF _,λp np=>go _ p np (by unfold tM;dsimp only;rw[NI e];rfl)⟩
  ·rintro σ H1 ⟨wl,rfl,s1,nw,nwd,hd1,hw1⟩;nofun;refine cm (λσ H'=>∃(x5 x6 x7 x8:Option V) (kvs:List (Key×V)),σ=[some (.str (tx cs)),some (.str (tx [97,if k then 99 else 98])),some (.bl (decide (k=b))),some (.ref d),some (.ref wl),x5,x6,x7,x8]/\aV H H'/\H' d=some (.dK kvs)/\kvs.length<=40/\i7 kvs cs.length (stN k b cs cs.length).2/\H' wl=some (.lst (iK (stN k b cs cs.length).1))) ?_ ?_
   ·nofun;refine⟨pL lt,qJ (x:=tx cs) (λi σ H'=>∃(x5 x6 x7 x8:Option V) (kvs:List (Key×V)),σ=[some (.str (tx cs)),some (.str (tx [97,if k then 99 else 98])),some (.bl (decide (k=b))),some (.ref d),some (.ref wl),x5,x6,x7,x8]/\aV H H'/\H' d=some (.dK kvs)/\kvs.length<=2*i/\i7 kvs cs.length (stN k b cs i).2/\(∀x∈(stN k b cs i).1,x<=i)/\H' wl=some (.lst (iK (stN k b cs i).1)))
     ⟨_,_,_,_,[],rfl,s1,hd1,bF _,i7.nil,λx hx=>by (unfold stN tM at hx;dsimp only at hx;split at hx<;>simp at hx;lia),hw1⟩ ?_ ?_⟩
    ·rintro i c σ H2 p hc ⟨x5,x6,x7,x8,kvs,rfl,sm,hd2,hk,rp,le,hw2⟩ np;have hc':cs[i]? = some c:=by rw[<-hc,FN]
     have hi:=(aJ.mp hc').1;have lc:=lt c (bB hc');have eg:cs.getD i 0=c:=by rw[bw,hc'];rfl
     have s2:=sm.trans ((aV.refl _).new (o:=.tup [.int i,.str ⟨#[c]⟩]) np);have dp:d≠p:=ak hd2 np;have wp:wl≠p:=ak hw2 np;have hd3:upd H2 p (.tup [.int i,.str ⟨#[c]⟩]) d=some (.dK kvs):=by rw[aR dp];exact hd2
     have hw3:upd H2 p (.tup [.int i,.str ⟨#[c]⟩]) wl=some (.lst (iK (stN k b cs i).1)):=by rw[aR wp];exact hw2
     have sl:=ou k b cs i;nofun;refine⟨_,dm.of aG,rfl,?_⟩;generalize upd H2 p (.tup [.int i,.str ⟨#[c]⟩])=H3 at s2 hd3 hw3 ⊢;nofun;have ei:(i:Int)+1=((i+1:Nat):Int):=by lia
     rw[ei,G5 lc];by_cases hin:isIn k c=true
     ·have es:stN k b cs (i+1)=((stN k b cs i).1++[i+1],(stN k b cs i).2):=by show ot k _ _ _=_;rw[eg,rj hin]
      refine kK (by rw[hin];rfl) ⟨lX hw3,_,hw3,by rw[nZ];exact be (by lia),_,_,_,_,kvs,rfl,s2.new nw,by rw[aR nwd.symm];exact hd3,by lia,by rw[es];exact rp,?_,by rw[aG,es,mQ]⟩;rw[es];intro x hx;rcases aQ.mp hx with h1 | h1
      ·have:=le x h1;lia
      ·simp at h1;lia
     ·have hin':isIn k c=false:=by simpa using hin
      obtain⟨Pq,o,eo⟩:=nh (ne i hi (by rw[eg];exact hin'));have es:stN k b cs (i+1)=(Pq,ju (stN k b cs i).2 (i+1) o):=by show ot k _ _ _=_;rw[eg,oq hin' eo]
      have ole:o<=i:=le o (by rw[eo];simp);rw[eo] at hw3;refine gT (by rw[hin'];decide) ⟨lX hw3,_,.int o,hw3,oQ Pq o,?_⟩;rw[oR];have l1:kvs.length<sizeLine:=be (by lia);have l2:(putK kvs (.inl ((i+1:Nat):Int):Key) (.int (o:Nat))).length<sizeLine:=be (by have:=cj kvs (.inl ((i+1:Nat):Int):Key) (.int (o:Nat));lia);have hd4:upd H3 wl (.lst (iK Pq)) d=some (.dK kvs):=by rw[aR nwd.symm];exact hd3
      have r1:=rp.put (a:=i+1) (b:=o) (by lia);have ln1:=cj kvs (.inl ((i+1:Nat):Int):Key) (.int (o:Nat));have r2:=r1.put (a:=o) (b:=i+1) (by lia);rw[Do (by lia)] at r2;have ln2:=cj (putK kvs (.inl ((i+1:Nat):Int):Key) (.int (o:Nat))) (.inl (o:Int):Key) (.int ((i+1:Nat)));refine⟨_,nK.k (k:=.inl ((i+1:Nat):Int)) hd4 l1,_,nK.k (k:=.inl (o:Int)) aG l2,_,_,_,_,_,rfl,((s2.new nw).new nd).new nd,aG,by lia,by rw[es];exact r2,?_,?_⟩
      ·rw[es];intro x hx;have:=le x (by rw[eo];exact bG _ hx);lia
      ·rw[aR nwd,aR nwd,aG,es]
    ·rintro σ H2 ⟨x5,x6,x7,x8,kvs,rfl,sm,hd2,hk,rp,le,hw2⟩;rw[jb] at hk rp hw2;exact⟨_,_,_,_,kvs,rfl,sm,hd2,by lia,rp,hw2⟩
   ·rintro σ H2 ⟨x5,x6,x7,x8,kvs,rfl,sm,hd2,hk,rp,hw2⟩;have sl:=ou k b cs cs.length;nofun;have wd:wl≠d:=nwd;refine⟨⟨_,cF.of hw2⟩,lx (xs:=iK (stN k b cs cs.length).1) (λj σ H'=>∃(x8:Option V) (kvs:List (Key×V)),σ=[some (.str (tx cs)),some (.str (tx [97,if k then 99 else 98])),some (.bl (decide (k=b))),some (.ref d),some (.ref wl),x5,x6,x7,x8]/\aV H H'/\H' d=some (.dK kvs)/\kvs.length<=40+j/\i7 kvs cs.length (zU cs.length (stN k b cs cs.length).1 (stN k b cs cs.length).2 j)/\H' wl=some (.lst (iK (stN k b cs cs.length).1)))
     ⟨_,kvs,rfl,sm,hd2,hk,rp.congr λx _=>by simp[zU],hw2⟩ ?_ ?_ ?_⟩
    ·rintro j σ H' _ ⟨_,_,_,_,_,_,_,h⟩;exact cF.of h
    ·rintro j x σ H3 hx ⟨x8',kvs',rfl,s3,hd3,hk3,rp3,hw3⟩;obtain⟨o,ho,rfl⟩:=jg hx;have hj:=(aJ.mp ho).1;nofun;rw[bX];refine⟨kA (by lia),_,nK.k (k:=.inl (o:Int)) hd3 (be (by lia)),_,_,rfl,s3.new nd,aG,?_,?_,by rw[aR wd];exact hw3⟩
     ·have:=cj kvs' (.inl (o:Int):Key) (.int (((cs.length:Nat):Int)+1));lia
     ·have r1:=rp3.put (a:=o) (b:=cs.length+1) (by lia);rw[zT ho] at r1;exact r1
    ·rintro σ H3 ⟨x8',kvs',rfl,s3,hd3,hk3,rp3,hw3⟩;nofun;refine q d kvs' H3 s3 nd hd3 (rp3.congr λx _=>?_);unfold zU fin2 qg;rw[nZ,cX]
def vg (B:oC mg) (E:Fn K mg "decoded" gS ["side","code"]) (Jz:dM P w K mg base 1 "is_side" gR ["thing"] nP) (KA:dM P w K mg base 1 "other_side" fA ["side"] rm) (Kq:dM P w K mg base 4 "vet_code" gz ["side","code"] tY) (KJ:dM P w K mg base 1 "rows_across" fJ ["code","inwards","begins_here"] xE):dM P w K mg base 5 "decoded" gS ["side","code"] rq:=E.mk' λf fd F=>by
 refine F.okS gF (λvs H Q E h=>?_) (λcdv A outer s H vs Q E hr h=>?_)
 ·obtain⟨b,cs,rfl,_⟩:=h;rfl
 ·obtain⟨b,cs,rfl,C,q⟩:=h;have lt:=C.lts;have hn:=C.len;have hr0:=C.res;have q:∀a H',aV H H'->wV H' a b cs->Q (.ref a) H':=λa H' s' ca=>by obtain⟨o,z⟩:=ca.maze C.maze;exact q a o H' s' z
  refine⟨[some (.str (sd b)),some (.str (tx cs)),none,none,none,none],_,rfl,(L2.ie.h (aF (cA (iV (fS (aS Jz (hr.mono (by decide)) (by rfl) (aC (aX 0) aD))))
   (aL fg)
   bQ)
   (aF (fv (aS Kq (hr.mono (by decide)) (by rfl) (aC (aX 0) (aC (aX 1) aD))))
   (dP (aW (i:=2) gF.nd rfl (Or.inl rfl) (uJ (mM bK (aS KJ (hr.mono (by decide)) (by rfl) (aC (aX 1) (aC (fh (by rfl) B.LEFT_INWARDS) (eF (dQ eV (aX 0) bK (bI _)) aD)))) (mM bK (aS KJ (hr.mono (by decide)) (by rfl) (aC (aX 1) (aC (fh (by rfl) B.RIGHT_INWARDS) (eF (dQ eV (aX 0) bK (bI _)) aD)))) uH)) rfl rfl (λz=>nomatch z) (by decide)))
   (aF (aW (i:=3) gF.nd rfl (Or.inl rfl) (c8 aD))
   (aF (aW (i:=4) gF.nd rfl (Or.inl rfl) (aX 0))
   (aF (aW (i:=5) gF.nd rfl (Or.inl rfl) (fx (lw hr) (fx (lw hr) (aX 2) (aX 4) (λ_ _=>rfl)) aK (λ_ _=>rfl)))
   (aF (kE ay (a8 uS (aX 5) (ae cI (by rfl) B.len aZ (aC (aX 1) aD)) (bI _))
   (aF (fv (iI b6 cP cO iL (aX 3) (aC (aX 5) aD)))
    (aF (aW (i:=4) gF.nd rfl (Or.inl rfl) (aS KA (hr.mono (by decide)) (by rfl) (aC (aX 4) aD)))
    (aL (aW (i:=5) gF.nd rfl (Or.inl rfl) (fx (lw hr) (fx (lw hr) (aX 2) (aX 4) (λ_ _=>rfl)) (aX 5) (λ_ _=>rfl)))))))
   (aL (ar (dJ (aC (aX 0) (d6 (dW jw (by rfl) B.tuple dU (aC (aX 3) aD)) aD))))))))))))),?_⟩
  nofun;have e1:mV (.str (sd b))=true:=by cases b<;>decide +kernel
  refine⟨_,_,rfl,.str _,⟨by cases b<;>decide +kernel,by cases b<;>decide +kernel⟩,?_⟩;rw[e1];refine⟨true,rfl,gT (by decide) ⟨b,cs,rfl,C,λH1 s1=>?_⟩⟩;obtain⟨T,t1,t2,VT,eT⟩:=(xY lt hr0).ends;have a1:Str.ofString "ab"=tx [97,if false=true then 99 else 98]:=by decide +kernel
  have a2:Str.ofString "ac"=tx [97,if true=true then 99 else 98]:=by decide +kernel
  refine cm (λσ H'=>∃(dd:Addr) (kvs:List (Key×V)) (D:Bool->Addr),σ=[some (.str (sd b)),some (.str (tx cs)),some (.ref dd),none,none,none]/\aV H H'/\H' dd=some (.dK kvs)/\∀u,gY kvs (.inr (sd u):Key)=some (.ref (D u))/\∃kk,H' (D u)=some (.dK kk)/\i7 kk cs.length (fin2 b cs u)) ?_ ?_
  ·nofun;intro dd nd;refine⟨false,b,cs,by rw[<-a1];cases b<;>simp[Ho],lt,hn,vS lt hr0 false,λd1 k1 H2 s2 n1 h1 r1=>?_⟩;nofun;refine⟨true,b,cs,by rw[<-a2];cases b<;>simp[F6],lt,hn,vS lt hr0 true,λd2 k2 H3 s3 n2 h2 r2=>?_⟩;nofun;have f1:dd≠d1:=ak aG n1;have f2:dd≠d2:=ak (s2 _ _ aG) n2;refine⟨s3 _ _ (s2 _ _ aG),[((.inr (Str.ofString "l"):Key),V.ref d1),(.inr (Str.ofString "r"),.ref d2)],rfl,(by show 2<=15;decide),dd,_,λu=>if u then d2 else d1,rfl,(((s1.trans ((aV.refl _).new nd)).trans s2).trans s3).new (s1.free nd),aG,λu=>?_⟩;cases u
   ·exact⟨rfl,k1,by show upd _ _ _ d1=_;rw[aR f1.symm];exact s3 _ _ h1,r1⟩
   ·exact⟨rfl,k2,by show upd _ _ _ d2=_;rw[aR f2.symm];exact h2,r2⟩
  ·rintro σ H2 ⟨dd,kvs,D,rfl,s2,hdd,hD⟩;nofun;refine⟨bF _,λp np=>?_⟩;have pd:dd≠p:=ak hdd np;have pD:∀u,D u≠p:=λu=>by obtain⟨_,kk,h,_⟩:=hD u;exact ak h np
   have nH:H p=none:=s2.free np;have look:∀(H':Hp) (u:Bool) (r y:Nat),H' dd=some (.dK kvs)->(∀u,∃kk,H' (D u)=some (.dK kk)/\i7 kk cs.length (fin2 b cs u))->r<=cs.length->fin2 b cs u r=some y->k6 H' dd (.str (sd u)) (some (.ref (D u)))/\k6 H' (D u) (.int (r:Nat)) (some (.int (y:Nat))):=λH' u r y h1 h2 hr hf=>by
    obtain⟨kk,g1,g2⟩:=h2 u;have e1:=k6.k (k:=.inr (sd u)) h1;rw[(hD u).1] at e1;have e2:=k6.k (k:=.inl (r:Int)) g1;rw[g2.get r hr,hf] at e2;exact⟨e1,e2⟩
   have hd0:upd H2 p (.lst []) dd=some (.dK kvs):=by rw[aR pd];exact hdd
   have hD0:∀u,∃kk,upd H2 p (.lst []) (D u)=some (.dK kk)/\i7 kk cs.length (fin2 b cs u):=λu=>by obtain⟨_,kk,h,r⟩:=hD u;exact⟨kk,by rw[aR (pD u)];exact h,r⟩
   obtain⟨g1,g2⟩:=look _ b 0 _ hd0 hD0 (bF _) (VT.st 0 (by lia));refine⟨_,g1,_,_,rfl,g2,?_⟩;refine⟨λm σ H'=>∃(j:Nat),σ=[some (.str (sd b)),some (.str (tx cs)),some (.ref dd),some (.ref p),some (.str (sd (pth (fin2 b cs) b j).2)),some (.int ((pth (fin2 b cs) b (j+1)).1:Nat))]/\aV H H'/\H' dd=some (.dK kvs)/\(∀u,∃kk,H' (D u)=some (.dK kk)/\i7 kk cs.length (fin2 b cs u))/\H' p=some (.lst ((ordF (fin2 b cs) b j).map V.int))/\j+1<=T/\m=T-j,⟨_,0,rfl,s2.new nH,hd0,hD0,aG,t1,rfl⟩,?_⟩;rintro m σ H3 ⟨j,rfl,s3,hd3,hD3,hl3,hj,rfl⟩;nofun;refine⟨by rw[bX];exact kA (by lia),?_⟩;rw[bX];refine gX (λhle=>?_) (λhgt=>?_)
   ·have hjT:j+1<T:=by
     apply dw;intro z;have:j+1=T:=by lia
     rw[this,eT] at hle;lia
    obtain⟨g3,g4⟩:=look (upd H3 p (.lst ((ordF (fin2 b cs) b (j+1)).map V.int))) (pth (fin2 b cs) b (j+1)).2 _ _ (by rw[aR pd];exact hd3) (λu=>by obtain⟨kk,h,r⟩:=hD3 u;exact⟨kk,by rw[aR (pD u)];exact h,r⟩) (VT.le (j+1) hjT) (VT.st (j+1) hjT);refine⟨λσ' H'=>σ'=[some (.str (sd b)),some (.str (tx cs)),some (.ref dd),some (.ref p),some (.str (sd (pth (fin2 b cs) b (j+1)).2)),some (.int ((pth (fin2 b cs) b (j+1+1)).1:Nat))]/\aV H H'/\H' dd=some (.dK kvs)/\(∀u,∃kk,H' (D u)=some (.dK kk)/\i7 kk cs.length (fin2 b cs u))/\H' p=some (.lst ((ordF (fin2 b cs) b (j+1)).map V.int)),λσ' H' ⟨e,a,c,d,f⟩=>⟨T-(j+1),by lia,j+1,e,a,c,d,f,hjT,rfl⟩,?_⟩;have el:(ordF (fin2 b cs) b j).map V.int++[V.int ((pth (fin2 b cs) b (j+1)).1:Nat)]=(ordF (fin2 b cs) b (j+1)).map V.int:=by rw[rF,aO];rfl
    refine⟨lX hl3,_,hl3,by rw[aE,uR];exact be (by lia),?_⟩;rw[el];refine⟨_,rfl,?_⟩;nofun;rw[<-uL];exact⟨_,g3,_,_,rfl,g4,rfl,s3.new nH,by rw[aR pd];exact hd3,λu=>by obtain⟨kk,h,r⟩:=hD3 u;exact⟨kk,by rw[aR (pD u)];exact h,r⟩,aG⟩
   ·have ejT:j+1=T:=by
     apply dw;intro z;have:=VT.le (j+1) (by lia);lia
    refine⟨_,.inl ⟨cF.of hl3,λo no=>⟨(by show 2<=sizeLine;decide),λr nr=>?_⟩⟩⟩;have ne:o≠r:=λz=>by subst z;rw[aG] at nr;cases nr
    refine q r _ ((s3.trans ((aV.refl _).new no)).trans ((aV.refl _).new nr)) ⟨o,T,aG,t1,t2,VT,eT,?_⟩;rw[aR ne,aG,<-ejT];rfl
def vm (E:Fn K mg "can_end" iE ["state","rows"]) (KC:dM P w K mg base 1 "leading_on" fB ["state"] vU):dM P w K mg base 2 "can_end" iE ["state","rows"] pU:=E.mk' λf fd F=>by
 refine F.okS v4 (λvs H Q E h=>?_) (λcdv A outer s H vs Q E hr h=>?_)
 ·obtain⟨L,R,n,rfl,_⟩:=h;rfl
 ·obtain⟨L,R,n,rfl,hl,hn,q⟩:=h;refine⟨[some (.str (tx (fV L R))),some (.int (n:Nat))],_,rfl,(L2.ie.h (aL (ar (dQ uS (aS KC (hr.mono (by decide)) (by rfl) (aC (aX 0) aD)) (aw f9 (aw oM aK (aX 1)) aK) (bI _))))),?_⟩;nofun;refine⟨L,R,rfl,hl,?_⟩;nofun;refine⟨.inl ⟨by decide,by decide⟩,?_⟩;have e:decide (((L.length+R.length:Nat):Int)<=2*(n:Int)+1)=decide (L.length+R.length<=2*n+1):=decide_eq_decide.mpr (by lia);rw[e];exact q
def pq (B:oC mg) (E:Fn K mg "next_states" fK ["state"]) (Jy:dM P w K mg base 3 "step" jS ["state","letter"] m7):dM P w K mg base 4 "next_states" fK ["state"] xJ:=E.mk' λf fd F=>by
 refine F.okS l8 (λvs H Q E h=>?_) (λcdv A outer s H vs Q E hr h=>?_)
 ·obtain⟨L,R,rfl,_⟩:=h;rfl
 ·obtain⟨L,R,rfl,EE,hl,q⟩:=h;refine⟨[some (.str (tx (fV L R))),none],_,rfl,(L2.ie.h (aF (Ax (i:=1) l8.nd rfl (Or.inl rfl) (own:=["letter"]) (ns:=["state"]) (caps:=[0]) rfl ⟨rfl,by decide +kernel,by decide +kernel,by decide +kernel⟩ (.cons rfl rfl (.inl rfl) .nil) (pB (fh (by rfl) B.LETTERS)) (λC s H fp pn=>(bS (i:=0) (show List.Nodup ((["letter"]:List Str)++(["state"]:List Str)) by decide +kernel) rfl (Or.inl rfl))) (λC s H fp pn=>iW) (λC s H fp pn=>(aS Jy (hr.mono (by decide)) (by rfl) (aC (aX 1) (aC (aX 0) aD)))))
   (aL (ar (fy (own:=["ahead"]) (ns:=[]) (caps:=[]) rfl ⟨rfl,by decide +kernel,by decide +kernel,by decide +kernel⟩ .nil (eZ (aX 1)) (λC s H fp pn=>(bS (i:=0) (show List.Nodup ((["ahead"]:List Str)++([]:List Str)) by decide +kernel) rfl (Or.inl rfl))) (λC s H fp pn=>(DI (a8 pF (aX 0) eE (bI _)))) (λC s H fp pn=>(aX 0))))))),?_⟩
  nofun;rw[pY];refine⟨by decide +kernel,CT (λi ys σ H'=>aV H H'/\ys=([97,98,99,100].take i).map (λc=>qd (cS L R c))/\∃x0,σ=[x0,some (.str (tx (fV L R)))]) ⟨aV.refl _,rfl,_,rfl⟩ ?_ (by rw[jb];exact kA (by decide)) ?_ ?_⟩
  ·rintro i ys σ H' ⟨_,rfl,_⟩;simp;lia
  ·rintro i c ys σ H1 N hc ⟨s1,rfl,x0,rfl⟩ hN;have h1:[97,98,99,100][i]? = some c:=by simpa [tx] using hc
   have hc':iM c:=by
    have:=bB h1;simp only[aI,b9,or_false] at this;exact this
   nofun;refine⟨L,R,c,rfl,hc',EE,hl,λH2 s2=>hN _ _ _ ⟨s1.trans s2,?_,_,rfl⟩⟩;rw[bW,h1,aO];rfl
  ·rintro ys σ H1 p ⟨s1,rfl,x0,rfl⟩ np;have e4:(tx [97,98,99,100]).cps.size=4:=by rw[jb];rfl
   rw[e4];have s2:=s1.trans ((aV.refl H1).new (o:=.lst (([97,98,99,100].take 4).map (λc=>qd (cS L R c)))) np);have h2:upd H1 p (.lst (([97,98,99,100].take 4).map (λc=>qd (cS L R c)))) p=some (.lst ([97,98,99,100].map (λc=>qd (cS L R c)))):=aG;generalize upd H1 p (.lst (([97,98,99,100].take 4).map (λc=>qd (cS L R c))))=H2 at s2 h2 ⊢;refine⟨p,rfl,⟨_,cF.of h2⟩,kL (xs:=[97,98,99,100].map (λc=>qd (cS L R c))) (λi ys σ H'=>H'=H2/\ys=(([97,98,99,100].take i).filterMap (cS L R)).map JA/\∃x0,σ=[x0]) ⟨rfl,rfl,_,rfl⟩ ?_ (kA (by simp)) ?_ ?_⟩
   ·rintro i ys σ H' ⟨rfl,rfl,_⟩;refine⟨cF.of h2,?_⟩;rw[aE];exact bJ (jy _ _) (by rw[bp];lia)
   ·rintro i x ys σ H' N hx ⟨rfl,rfl,x0,rfl⟩ hN;obtain⟨c,hc,rfl⟩:=jg hx;have et:[97,98,99,100].take (i+1)=[97,98,99,100].take i++[c]:=by rw[bW,hc];rfl
    nofun;refine⟨trivial,?_⟩;cases hg:cS L R c with
    | none=>exact gT (λz=>z rfl) (hN _ _ _ ⟨rfl,by rw[et,gu];simp[hg],_,rfl⟩)
    | some p=>
     obtain⟨L',R'⟩:=p;exact kK (λz=>nomatch z) (hN _ _ _ ⟨rfl,by rw[et,gu];simp[hg,JA,qd],_,rfl⟩)
   ·rintro ys σ H' p2 ⟨rfl,rfl,_⟩ np2;exact q p2 _ (s2.free np2) (s2.trans ((aV.refl _).new np2)) aG
def B0 (E:Fn K mg "ends_from" dO ["state","rows","known"]):dM P w K mg base 5 "ends_from" dO ["state","rows","known"] (oG 0):=E.mk' λf fd F=>by
 refine F.okS k9 (λvs H Q E h=>?_) (λcdv A outer s H vs Q E hr h=>?_)
 ·obtain⟨L,R,m,d,kvs,rfl,_⟩:=h;rfl
 ·obtain⟨L,R,m,d,kvs,rfl,hm,_⟩:=h;lia
def sX (B:oC mg) {n:Nat} (E:Fn K mg "ends_from" dO ["state","rows","known"]) (KO:dM P w K mg base 2 "can_end" iE ["state","rows"] pU) (KZ:dM P w K mg base 4 "next_states" fK ["state"] xJ) (KL:dM P w K mg base (5+n) "ends_from" dO ["state","rows","known"] (oG n)):dM P w K mg base (5+n+1) "ends_from" dO ["state","rows","known"] (oG (n+1)):=E.mk' λf fd F=>by
 refine F.okS k9 (λvs H Q E h=>?_) (λcdv A outer s H vs Q E hr h=>?_)
 ·obtain⟨L,R,m,d,kvs,rfl,_⟩:=h;rfl
 ·obtain⟨L,R,m,d,kvs,rfl,hm,m12,EE,hl,hd,mo,hb,q⟩:=h;refine⟨[some (.str (tx (fV L R))),some (.int (m:Nat)),some (.ref d),none],_,rfl,(L2.ie.h (aF (cA (iV (fS (aS KO (hr.mono (by lia)) (by rfl) (aC (aX 0) (aC (aX 1) aD)))))
   (aL (ar aK))
   bQ)
   (aF (cA (a8 eV (aX 1) aK (bI _))
   (aL (ar aK))
   bQ)
   (aF (aW (i:=3) k9.nd rfl (Or.inl rfl) (dJ (aC (aX 0) (aC (aX 1) aD))))
   (aF (cA (v6 (lw hr) (aX 3) (aX 2))
   (aL (kF (lw hr) (aX 2) (aX 3) (ae (wM rfl) (by rfl) B.sum PyProof.Rows.boot_sum (g0 (fy (own:=["ahead"]) (ns:=["known","rows"]) (caps:=[2,1]) rfl ⟨rfl,by decide +kernel,by decide +kernel,by decide +kernel⟩ (.cons rfl rfl (.inl rfl) (.cons rfl rfl (.inl rfl) .nil)) (eZ (aS KZ (hr.mono (by lia)) (by rfl) (aC (aX 0) aD))) (λC s H fp pn=>(bS (i:=0) (show List.Nodup ((["ahead"]:List Str)++(["known","rows"]:List Str)) by decide +kernel) rfl (Or.inl rfl))) (λC s H fp pn=>iW) (λC s H fp pn=>(aS KL (hr.mono (by lia)) (by rfl) (aC (aX 0) (cL (aw g6 (aX 2) aK) (aC (aX 1) aD)))))) aD)) rfl))
   bQ)
   (aL (ar (fx (lw hr) (aX 2) (aX 3) (λ_ _=>rfl))))))))),?_⟩
  nofun;refine⟨L,R,m,rfl,by lia,by lia,_,rfl,?_⟩;by_cases hce:L.length+R.length<=2*m+1
  ·rw[NM hce];refine gT (λz=>nomatch z) (gX (λh0=>?_) (λh0=>?_))
   ·have m0:m=0:=by lia
    subst m0;have hp:=EE.pos;have e:eR 0 L R=1:=by simp only[eR];exact NJ (by lia)
    have qq:=q H kvs (aV.refl _) hd mo (by lia);rw[e] at qq;exact qq
   ·obtain⟨m',rfl⟩:∃m',m=m'+1:=⟨m - 1,by lia⟩
    have hbud:mD (m'+1)=4*mD m'+1:=rfl;refine⟨(by show 2<=sizeLine;decide),λb nb=>?_⟩;have ndb:d≠b:=ak hd nb;have s2:aV (wo H d) (wo (upd H b (.tup [V.str (tx (fV L R)),V.int ((m'+1:Nat):Int)])) d):=vH nb;have hd2:upd H b (.tup [V.str (tx (fV L R)),V.int ((m'+1:Nat):Int)]) d=some (.dT kvs):=by rw[aR ndb];exact hd
    have hb2:upd H b (.tup [V.str (tx (fV L R)),V.int ((m'+1:Nat):Int)]) b=some (.tup ([(.inr (tx (fV L R)):Key),.inl ((m'+1:Nat):Int)].map kV)):=aG;generalize upd H b (.tup [V.str (tx (fV L R)),V.int ((m'+1:Nat):Int)])=H2 at s2 hd2 hb2 ⊢;nofun;refine⟨_,k6.t hd2 hb2,?_⟩;cases hv:gY kvs [.inr (tx (fV L R)),.inl ((m'+1:Nat):Int)] with
    | some v=>
     have ev:=mo.get EE hv;subst ev;refine gT (λz=>nomatch z) ⟨_,?_,q H2 kvs s2 hd2 mo (by lia)⟩;have:=k6.t hd2 hb2;rw[hv] at this;exact this
    | none=>
     refine kK rfl ⟨L,R,rfl,EE,by lia,λl H3 nl s3 h3=>?_⟩;have hd3:=s3 _ _ hd2;have hb3:=s3 _ _ hb2;have nld:l≠d:=(ak hd2 nl).symm;have nbd:b≠d:=cC ndb;refine⟨l,rfl,⟨_,cF.of h3⟩,kL (xs:=(kI L R).map JA) (λi ys σ H'=>∃kvs',aV (wo H3 d) (wo H' d)/\H' d=some (.dT kvs')/\fu kvs'/\kvs'.length<=kvs.length+i*mD m'/\ys=((kI L R).take i).map (λp=>V.int ((eR m' p.1 p.2:Nat):Int))/\∃x0,σ=[x0,some (.ref d),some (.int ((m'+1:Nat):Int))])
      ⟨kvs,aV.refl _,hd3,mo,by lia,rfl,_,rfl⟩ ?_ (kA (by rw[aE];have:=oP L R;lia)) ?_ ?_⟩
     ·rintro i ys σ H' ⟨kvs',s',_,_,_,rfl,_⟩;exact⟨cF.of (rY s' h3 nld),by rw[aE,bp];lia⟩
     ·rintro i x ys σ H' N hx ⟨kvs',s',hd',mo',hl',rfl,x0,rfl⟩ hN;obtain⟨p,hp,rfl⟩:=jg hx;obtain⟨c,hc,hg⟩:=Bd (bB hp);obtain⟨L',R'⟩:=p;have hgl:=ED hg;have hi:i<4:=a7 (aJ.mp hp).1 (oP L R);have hmul:i*mD m'<=3*mD m':=eJ _ (by lia);have em:((m'+1:Nat):Int) - 1=(m':Nat):=by lia
      nofun;rw[em];refine⟨L',R',m',d,kvs',rfl,by lia,by lia,EE.go hc hg,by lia,hd',mo',by lia,λH5 kvs5 s5 h5 mo5 l5=>hN _ _ _ ⟨kvs5,s'.trans s5,h5,mo5,?_,?_,_,rfl⟩⟩
      ·rw[jE];lia
      ·rw[bW,hp,aO];rfl
     ·rintro ys σ H' p ⟨kvs',s',hd',mo',hl',rfl,x0,rfl⟩ np;rw[aE,cX];rw[aE] at hl';have hn4:=oP L R;have hmul:(kI L R).length*mD m'<=4*mD m':=eJ _ hn4;have npd:d≠p:=ak hd' np;have hb':=rY s' hb3 nbd;have npb:b≠p:=ak hb' np;refine⟨p,(kI L R).map (λp=>((eR m' p.1 p.2:Nat):Int)),rfl,cF.of (by rw[aG,bj];rfl),fits_of ?_ (by rw[aE];lia),?_⟩
      ·intro x hx;obtain⟨e,_,rfl⟩:=ba.mp hx;have h1:=tE m' e.1 e.2;have h2:4 ^ m'<=4 ^ 12:=eI (by decide) (by lia);have h3:(4:Nat) ^ 12=16777216:=by decide
       lia
      ·rw[tV,<-za];have hd6:upd H' p (.lst ((kI L R).map (λp=>V.int ((eR m' p.1 p.2:Nat):Int)))) d=some (.dT kvs'):=by rw[aR npd];exact hd'
       have hb6:upd H' p (.lst ((kI L R).map (λp=>V.int ((eR m' p.1 p.2:Nat):Int)))) b=some (.tup ([(.inr (tx (fV L R)):Key),.inl ((m'+1:Nat):Int)].map kV)):=by rw[aR npb];exact hb'
       have s6:aV (wo H' d) (wo (upd H' p (.lst ((kI L R).map (λp=>V.int ((eR m' p.1 p.2:Nat):Int))))) d):=vH np;generalize upd H' p (.lst ((kI L R).map (λp=>V.int ((eR m' p.1 p.2:Nat):Int))))=H6 at hd6 hb6 s6 ⊢;have hlp:=cj kvs' [(.inr (tx (fV L R)):Key),.inl ((m'+1:Nat):Int)] (V.int ((eR (m'+1) L R:Nat):Int));have hb7:upd H6 d (.dT (putK kvs' [(.inr (tx (fV L R)):Key),.inl ((m'+1:Nat):Int)] (V.int ((eR (m'+1) L R:Nat):Int)))) b=some (.tup ([(.inr (tx (fV L R)):Key),.inl ((m'+1:Nat):Int)].map kV)):=by rw[aR nbd];exact hb6
       refine⟨_,nK.t hd6 hb6 (by show kvs'.length<16777216;lia),V.int ((eR (m'+1) L R:Nat):Int),?_,q _ _ ?_ aG (mo'.put EE) ?_⟩
       ·have:=k6.t (H:=upd H6 d (.dT (putK kvs' [(.inr (tx (fV L R)):Key),.inl ((m'+1:Nat):Int)] (V.int ((eR (m'+1) L R:Nat):Int))))) aG hb7;rw[pK,NJ rfl] at this;exact this
       ·rw[Cf];exact s2.trans ((nM s3).trans (s'.trans s6))
       ·lia
  ·rw[NL hce];have e:=qP m (L:=L) (R:=R) (by lia);have qq:=q H kvs (aV.refl _) hd mo (by lia);rw[e] at qq;exact kK rfl qq
def pz (E:Fn K mg "ends_behind" eP ["state","letter","rows","known"]) (Jy:dM P w K mg base 3 "step" jS ["state","letter"] m7) (KL:dM P w K mg base 18 "ends_from" dO ["state","rows","known"] (oG 13)):dM P w K mg base 19 "ends_behind" eP ["state","letter","rows","known"] pW:=E.mk' λf fd F=>by
 refine F.okS l9 (λvs H Q E h=>?_) (λcdv A outer s H vs Q E hr h=>?_)
 ·obtain⟨L,R,c,m,d,kvs,rfl,_⟩:=h;rfl
 ·obtain⟨L,R,c,m,d,kvs,rfl,hc,hm,EL,hl,hd,mo,hb,q⟩:=h;refine⟨[some (.str (tx (fV L R))),some (.str ⟨#[c]⟩),some (.int m),some (.ref d),none],_,rfl,(L2.ie.h (aF (aW (i:=4) l9.nd rfl (Or.inl rfl) (aS Jy (hr.mono (by decide)) (by rfl) (aC (aX 0) (aC (aX 1) aD))))
   (aL (ar (dS (a8 sS (aX 4) eE (bI _)) aK (aS KL (hr.mono (by decide)) (by rfl) (aC (aX 4) (aC (aX 2) (aC (aX 3) aD))))))))),?_⟩
  nofun;refine⟨L,R,c,rfl,hc,EL,by lia,λH1 s1=>?_⟩;refine⟨trivial,?_⟩;cases g:cS L R c with
  | none=>
   rw[g] at q;exact kK rfl (q _ _ (nM s1) (s1 _ _ hd) mo (by lia))
  | some pr=>
   obtain⟨L',R'⟩:=pr;rw[g] at q;have lp:=iN hc g;refine gT (λz=>nomatch z) ⟨L',R',m,d,kvs,rfl,by lia,hm,EL.go hc g,by lia,s1 _ _ hd,mo,hb,λH2 k2 s2 h2 mo2 hl2=>q _ _ ((nM s1).trans s2) h2 mo2 hl2⟩
def sT (B:oC mg) (E:Fn K mg "vet_rings" gN ["n"]) (KH:dM P w K mg base 2 "is_below" gH ["thing","bound"] rz):dM P w K mg base 3 "vet_rings" gN ["n"] wy:=E.mk' λf fd F=>by
 refine F.okS sI (λvs H Q E h=>?_) (λcdv A outer s H vs Q E hr h=>?_)
 ·obtain⟨n,rfl,_⟩:=h;rfl
 ·obtain⟨n,rfl,hn,q⟩:=h;refine⟨[some (.int (n:Nat))],_,rfl,(L2.ie.h (aF (cA (iV (fS (aS KH (hr.mono (by decide)) (by rfl) (aC (aX 0) (cL (aw f9 (oH (by rfl) B.MOST_RINGS) aK) aD)))))
   (aL fg)
   bQ)
   (aL (ar kf)))),?_⟩
  nofun;refine⟨_,_,21,rfl,.int _,?_⟩;rw[y1 (by lia)];exact⟨_,rfl,gT (by decide) q⟩
def u5 (B:oC mg) (E:Fn K mg "codes_of" iD ["side","n"]) (KF:dM P w K mg base 1 "begun" jB ["side"] nQ) (Jy:dM P w K mg base 3 "step" jS ["state","letter"] m7) (KO:dM P w K mg base 2 "can_end" iE ["state","rows"] pU):dM P w K mg base 4 "codes_of" iD ["side","n"] qx:=E.mk' λf fd F=>by
 refine F.okS eA (λvs H Q E h=>?_) (λcdv A outer s H vs Q E hr h=>?_)
 ·obtain⟨b,n,rfl,_⟩:=h;rfl
 ·obtain⟨b,n,rfl,hn,q⟩:=h;refine⟨[some (.str (sd b)),some (.int n),none,none,none,none,none,none,none],_,rfl,(L2.ie.h (aF (aW (i:=2) eA.nd rfl (Or.inl rfl) (c8 (jO (dJ (bY bK (d6 (aS KF (hr.mono (by decide)) (by rfl) (aC (aX 0) aD)) aD))) aD)))
   (aF (d8 ay rfl (p8 (by rfl) B.range (cL (aw g6 (aX 1) aK) (jf (eQ eO aK) (jf (eQ eO aK) aD)))) (bS (i:=3) eA.nd rfl (Or.inl rfl))
   (aF (aW (i:=4) eA.nd rfl (Or.inl rfl) (c8 aD))
    (aF (d8 ay rfl (eZ (aX 2)) (jD (n:=2) rfl (cT (bS (i:=5) eA.nd rfl (Or.inl rfl)) (cT (bS (i:=6) eA.nd rfl (Or.inl rfl)) fw)))
    (aL (d8 ay rfl (pB (fh (by rfl) B.LETTERS)) (bS (i:=7) eA.nd rfl (Or.inl rfl))
     (aF (aW (i:=8) eA.nd rfl (Or.inl rfl) (aS Jy (hr.mono (by decide)) (by rfl) (aC (aX 6) (aC (aX 7) aD))))
      (aL (cA (QW.pt (ke (a8 pF (aX 8) eE (bI _)) (jV (fS (aS KO (hr.mono (by decide)) (by rfl) (aC (aX 8) (aC (aX 3) aD)))))))
      (aL (fv (iI b6 cP cO iL (aX 4) (jO (dJ (cL (aw dG (aX 5) (aX 7)) (aC (aX 8) aD))) aD))))
      bQ))))))
    (aL (aW (i:=2) eA.nd rfl (Or.inl rfl) (aX 4))))))
   (aL (ar (fy (own:=["code","state"]) (ns:=[]) (caps:=[]) rfl ⟨rfl,by decide +kernel,by decide +kernel,by decide +kernel⟩ .nil (eZ (aX 2)) (λC s H fp pn=>(BA (K:=K) (n:=2) rfl rfl (cT (bS (i:=0) (show List.Nodup ((["code","state"]:List Str)++([]:List Str)) by decide +kernel) rfl (Or.inl rfl)) (cT (bS (i:=1) (show List.Nodup ((["code","state"]:List Str)++([]:List Str)) by decide +kernel) rfl (Or.inl rfl)) fw)))) (λC s H fp pn=>iW) (λC s H fp pn=>(aX 0)))))))),?_⟩
  nofun;refine⟨F5 b,by rw[Hq],?_⟩;rw[nS];have two:(2:Nat)<=sizeLine:=by decide
  have one:(1:Nat)<=sizeLine:=by decide
  refine⟨two,λp0 n0=>⟨one,λl0 nl0=>?_⟩⟩;have s0:=(aV.refl H).new (o:=.tup [.str (Str.ofString ""),.str (tx (fV (bL b) (bR b)))]) n0;have h0:upd H p0 (.tup [.str (Str.ofString ""),.str (tx (fV (bL b) (bR b)))]) p0=some (.tup [.str (Str.ofString ""),.str (tx (fV (bL b) (bR b)))]):=aG;have s1:=(aV.refl _).new (o:=.lst [.ref p0]) nl0;refine⟨_,_,rfl,⟨by lia,by lia,by lia,by lia⟩,?_⟩;rw[show ((n:Int) - 1 - -1).toNat=n by lia];refine qI (n:=n) (λi σ H'=>∃(l:Addr) (ps:List og) (x3 x4 x5 x6 x7 x8:Option V),σ=[some (.str (sd b)),some (.int n),some (.ref l),x3,x4,x5,x6,x7,x8]/\aV H H'/\H l=none/\Ig H' l ps/\EY i (n-i) ps/\ps.length<=4 ^ i/\oV (n-i) ps=cW n (bL b) (bR b))
   ⟨l0,[([],bL b,bR b)],_,_,_,_,_,_,rfl,s0.trans s1,s0.free nl0,⟨[p0],aG,.cons (s1 _ _ (by rw[h0,Ek])) .nil⟩,EY.start b _,aH _,zf b _⟩ ?_ ?_
  ·rintro i σ H1 hi ⟨l,ps,x3,x4,x5,x6,x7,x8,rfl,sm,nl,⟨as,hl,pa⟩,I,hlen,hall⟩;obtain⟨r,hr0⟩:∃r,n-i=r+1:=⟨n-i - 1,by lia⟩
   rw[hr0] at I hall;have er:(n:Int) - 1+(i:Int)*(-1)=(r:Nat):=by lia
   have p4:ps.length<=262144:=bJ hlen (bJ (eI (by decide) (show i<=9 by lia)) (by decide));have al:=cv pa;nofun;rw[er];refine⟨bF _,λq0 nq=>?_⟩;have sq:=(aV.refl H1).new (o:=.lst []) nq;have hq0:upd H1 q0 (.lst []) q0=some (.lst []):=aG;generalize upd H1 q0 (.lst [])=H2 at sq hq0 ⊢;refine⟨⟨_,cF.of (sq _ _ hl)⟩,?_⟩;refine lx (xs:=as.map V.ref) (λj σ H3=>∃x5 x6 x7 x8:Option V,σ=[some (.str (sd b)),some (.int n),some (.ref l),some (.int r),some (.ref q0),x5,x6,x7,x8]/\aV H1 H3/\Ig H3 q0 ((ps.take j).flatMap λp=>nY p r)) ⟨_,_,_,_,rfl,sq,⟨[],hq0,.nil⟩⟩ ?_ ?_ ?_
   ·rintro j σ H3 _ ⟨_,_,_,_,rfl,s3,_⟩;exact cF.of (s3 _ _ hl)
   ·rintro j x σ H3 hx ⟨y5,y6,y7,y8,rfl,s3,hq3⟩;obtain⟨a,ha,rfl⟩:=jg hx;obtain⟨p,hp,tp⟩:=uO pa ha;have pm:=bB hp;have jl:=(aJ.mp hp).1;have pE:=I.ee p pm;have pl:=I.len p pm;have ps':=I.sz p pm;nofun;refine⟨_,dm.of (s3 _ _ tp),rfl,?_⟩;nofun;refine⟨by decide +kernel,?_⟩;have ex:(Str.ofString "abcd").cps=jv.toArray:=by decide +kernel
    refine so (x:=Str.ofString "abcd") (λk σ H4=>∃x7 x8:Option V,σ=[some (.str (sd b)),some (.int n),some (.ref l),some (.int r),some (.ref q0),some (.str (tx p.1)),some (.str (tx (fV p.2.1 p.2.2))),x7,x8]/\aV H1 H4/\Ig H4 q0 (((ps.take j).flatMap λp=>nY p r)++vp p r k)) ⟨_,_,rfl,s3,by show Ig H3 q0 (_++[]);rw[bb];exact hq3⟩ ?_ ?_
    ·rintro k c σ H4 hc ⟨z7,z8,rfl,s4,bs,hb,pb⟩;rw[ex] at hc;have hc:jv[k]? = some c:=by simpa using hc
     have lc:=qB hc;have bl:=cv pb;have bsz:bs.length<=1100000:=by
      rw[bl,af];have h1:=qK r (ps.take j);have h2:=B6 p r k;rw[bp] at h1;lia
     nofun;refine⟨p.2.1,p.2.2,c,rfl,lc,pE,by lia,λH5 s5=>?_⟩;rw[zH hc];refine⟨trivial,?_⟩;have pb5:Paired (zg H5) bs _:=Paired.mapP pb λa p z=>zg.same z s5;have hb5:=s5 _ _ hb;have s45:=s4.trans s5;cases g:cS p.2.1 p.2.2 c with
     | none=>
      have e0:jX p r c=[]:=by unfold jX;rw[g]
      rw[e0,bb];exact gT (λz=>z rfl) ⟨_,_,rfl,s45,bs,hb5,pb5⟩
     | some pr=>
      obtain⟨L',R'⟩:=pr;have lp:=iN lc g;refine kK (λz=>nomatch z) ⟨L',R',r,rfl,by lia,by lia,_,rfl,?_⟩;refine gX (λh=>?_) (λh=>?_)
      ·have h:=NN h;have e0:jX p r c=[(p.1++[c],L',R')]:=by
        unfold jX;rw[g];exact NJ h
       rw[e0];refine⟨lX hb5,by rw[bX];exact kA (by show p.1.length+1<=900;lia),two,λt nt=>?_⟩;have st:=(aV.refl H5).new (o:=.tup [.str (tx p.1++⟨#[c]⟩),qd (some (L',R'))]) nt;have hbt:=st _ _ hb5;refine⟨_,hbt,by rw[aE,Ms];lia,_,_,rfl,(s45.trans st).new nq,bs++[t],by rw[aG];simp,?_⟩;rw[<-ai];refine lj (Paired.mapP pb5 λa p z=>(zg.same z st).upd hbt) (zg.upd (xs:=bs.map V.ref) ?_ hbt);show upd H5 t _ t=_;rw[aG,<-dt];rfl
      ·have h:¬L'.length+R'.length<=2*r+1:=λz=>h (NM z);have e0:jX p r c=[]:=by
        unfold jX;rw[g];exact NI h
       rw[e0,bb];exact⟨_,_,rfl,s45,bs,hb5,pb5⟩
    ·rintro σ H4 ⟨z7,z8,rfl,s4,hq4⟩;rw[show (Str.ofString "abcd").cps.size=4 by rw[ex];rfl,B7] at hq4;refine⟨_,_,_,_,rfl,s4,?_⟩;rw[bW,hp,iw];show Ig H4 q0 (_++(nY p r++[]));rw[bb];exact hq4
   ·rintro σ H3 ⟨y5,y6,y7,y8,rfl,s3,hq3⟩;rw[aE,al,cX] at hq3;nofun;have fl:=qK r ps;refine⟨q0,_,_,_,_,_,_,_,rfl,sm.trans s3,sm.free nq,hq3,?_,?_,?_⟩
    ·rw[show n-(i+1)=r by lia];exact I.next
    ·rw[Nat.pow_succ];lia
    ·rw[show n-(i+1)=r by lia,tX];exact hall
  ·rintro σ H1 ⟨l,ps,x3,x4,x5,x6,x7,x8,rfl,sm,nl,⟨as,hl,pa⟩,I,hlen,hall⟩;rw[ku] at I hall;have p4:ps.length<=262144:=bJ hlen (bJ (eI (by decide) hn) (by decide));have al:=cv pa;have hm:ps.map (·.1)=cW n (bL b) (bR b):=by rw[<-y9 I];exact hall
   nofun;refine⟨⟨_,cF.of hl⟩,?_⟩;refine kL (xs:=as.map V.ref) (λk ys σ H'=>H'=H1/\ys=((ps.take k).map (·.1)).map (λcs=>V.str (tx cs))/\∃x0 x1,σ=[x0,x1]) ⟨rfl,rfl,_,_,rfl⟩ ?_ (by rw[aE,Ms];lia) ?_ ?_
   ·rintro k ys σ H' ⟨rfl,rfl,_⟩;exact⟨cF.of hl,by simp;lia⟩
   ·rintro k x ys σ H' N hx ⟨rfl,rfl,x0,x1,rfl⟩ hN;obtain⟨a,ha,rfl⟩:=jg hx;obtain⟨p,hp,tp⟩:=uO pa ha;nofun;refine⟨_,dm.of tp,rfl,?_⟩;nofun;refine hN _ _ _ ⟨rfl,?_,_,_,rfl⟩;rw[bW,hp];simp
   ·rintro ys σ H' t ⟨rfl,rfl,_⟩ nt;rw[aE,al,cX,hm];exact q t _ (sm.free nt) (sm.trans ((aV.refl _).new nt)) aG
def zF (B:oC mg) (E:Fn K mg "listed" kC ["side","n"]) (Kr:dM P w K mg base 4 "codes_of" iD ["side","n"] qx) (KD:dM P w K mg base 5 "decoded" gS ["side","code"] rq):dM P w K mg base 6 "listed" kC ["side","n"] tj:=E.mk' λf fd F=>by
 refine F.okS yq (λvs H Q E h=>?_) (λcdv A outer s H vs Q E hr h=>?_)
 ·obtain⟨b,n,rfl,_⟩:=h;rfl
 ·obtain⟨b,n,rfl,hn,q⟩:=h;refine⟨[some (.str (sd b)),some (.int n)],_,rfl,(L2.ie.h (aL (ar (fy (own:=["code"]) (ns:=["side"]) (caps:=[0]) rfl ⟨rfl,by decide +kernel,by decide +kernel,by decide +kernel⟩ (.cons rfl rfl (.inl rfl) .nil) (eZ (aS Kr (hr.mono (by decide)) (by rfl) (aC (aX 0) (aC (aX 1) aD)))) (λC s H fp pn=>(bS (i:=0) (show List.Nodup ((["code"]:List Str)++(["side"]:List Str)) by decide +kernel) rfl (Or.inl rfl))) (λC s H fp pn=>iW) (λC s H fp pn=>(aS KD (hr.mono (by decide)) (by rfl) (aC (aX 1) (aC (aX 0) aD)))))))),?_⟩;nofun;refine⟨b,n,rfl,hn,λl H1 nl s1 hl=>⟨l,rfl,⟨_,cF.of hl⟩,?_⟩⟩;have sl:(cW n (bL b) (bR b)).length<=262144:=by
   rw[mJ];exact bJ (tE n _ _) (bJ (eI (by decide) hn) (by decide))
  refine kL (xs:=(cW n (bL b) (bR b)).map λcs=>V.str (tx cs)) (λk ys σ H'=>aV H1 H'/\(∃as,ys=as.map V.ref/\EZ H' b as ((cW n (bL b) (bR b)).take k))/\ys.length=k/\∃x0,σ=[x0,some (.str (sd b))]) ⟨aV.refl _,⟨[],rfl,.nil⟩,rfl,_,rfl⟩ ?_ (by rw[aE,Ms];lia) ?_ ?_
  ·rintro k ys σ H' ⟨s2,_,e,_⟩;exact⟨cF.of (s2 _ _ hl),by lia⟩
  ·rintro k x ys σ H' N hx ⟨s2,⟨as,rfl,ml⟩,el,x0,rfl⟩ hN;obtain⟨cs,hc,rfl⟩:=jg hx;obtain⟨C,_,_⟩:=jd (by lia) hc;nofun;refine⟨b,cs,rfl,C,λm o H3 s3 hm=>hN _ _ _ ⟨s2.trans s3,⟨as++[m],by simp,?_⟩,by simp at el ⊢;lia,_,rfl⟩⟩;rw[bW,hc];exact lj (ml.same s3) ⟨o,hm⟩
  ·rintro ys σ H' t ⟨s2,⟨as,rfl,ml⟩,el,_⟩ nt;rw[aE,cX] at ml;have st:=(aV.refl H').new (o:=.lst (as.map V.ref)) nt;exact q t as _ ((s1.trans s2).free nt) (s1.trans (s2.trans st)) aG (ml.same st)
def sV (B:oC mg) (E:Fn K mg "number_of" gP ["maze"]) (KU:dM P w K mg base 6 "coded" kc ["maze"] pT) (KF:dM P w K mg base 1 "begun" jB ["side"] nQ) (d7:dM P w K mg base 19 "ends_behind" eP ["state","letter","rows","known"] pW) (Jy:dM P w K mg base 3 "step" jS ["state","letter"] m7):dM P w K mg base 20 "number_of" gP ["maze"] xI:=E.mk' λf fd F=>by
 refine F.okS cy (λvs H Q E h=>?_) (λcdv A outer s H vs Q E hr h=>?_)
 ·obtain⟨m,o,b,cs,rfl,_⟩:=h;rfl
 ·obtain⟨m,o,b,cs,rfl,hm,C,h12,q⟩:=h;refine⟨[some (.ref m),none,none,none,none,none,none,none,none],_,rfl,(L2.ie.h (aF (aW (i:=1) cy.nd rfl (Or.inl rfl) (aS KU (hr.mono (by decide)) (by rfl) (aC (aX 0) aD)))
   (aF (aW (i:=2) cy.nd rfl (Or.inl rfl) rE)
   (aF (aW (i:=3) cy.nd rfl (Or.inl rfl) (aS KF (hr.mono (by decide)) (by rfl) (bA (bO fD (aX 0) aK (λ_ _=>rfl)) aD)))
   (aF (aW (i:=4) cy.nd rfl (Or.inl rfl) aK)
   (aF (d8 ay rfl (pf (by rfl) B.enumerate (aC (aX 1) aD)) (jD (n:=2) rfl (cT (bS (i:=5) cy.nd rfl (Or.inl rfl)) (cT (bS (i:=6) cy.nd rfl (Or.inl rfl)) fw)))
   (aF (aW (i:=7) cy.nd rfl (Or.inl rfl) (aw g6 (aw g6 (ae cI (by rfl) B.len aZ (aC (aX 1) aD)) (aX 5)) aK))
    (aF (d8 ay rfl (pB (dg sF (fh (by rfl) B.LETTERS) fF (eC (iI d9 PySem.F.slot_str_index PySem.F.type_str_index zK (fh (by rfl) B.LETTERS) (aC (aX 6) aD))))) (bS (i:=8) cy.nd rfl (Or.inl rfl))
    (aL (mL (i:=4) cy.nd rfl (Or.inl rfl) (aS d7 (hr.mono (by decide)) (by rfl) (aC (aX 3) (aC (aX 8) (aC (aX 7) (aC (aX 2) aD))))) wA)))
    (aL (aW (i:=3) cy.nd rfl (Or.inl rfl) (aS Jy (hr.mono (by decide)) (by rfl) (aC (aX 3) (aC (aX 6) aD))))))))
   (aL (ar (aX 4))))))))),?_⟩
  have M:=C.maze;nofun;refine⟨m,o,b,_,rfl,hm,M.ord,M.nc,λH1 s1=>?_⟩;rw[C.code];nofun;refine λkn nk=>⟨_,_,dm.of ((aV.refl H1).new nk _ _ (hm.same s1).1),rfl,?_⟩
  refine⟨F5 b,by rw[Hq],?_⟩;rw[nS];have lt:=C.lts;have sk:=(aV.refl H1).new (o:=.dT []) nk;have hk0:upd H1 kn (.dT []) kn=some (.dT []):=aG;generalize upd H1 kn (.dT [])=H2 at sk hk0 ⊢;refine⟨pL lt,qJ (x:=tx cs) (λi σ H3=>∃(L R:List Int) (a:Nat) (kvs:List (List Key×V)) (x5 x6 x7 x8:Option V),σ=[some (.ref m),some (.str (tx cs)),some (.ref kn),some (.str (tx (fV L R))),some (.int (a:Nat)),x5,x6,x7,x8]/\aV H1 H3/\H3 kn=some (.dT kvs)/\fu kvs/\kvs.length+qS (cs.length-i)<=qS cs.length/\EE L R/\L.length+R.length<=2*i+1/\fM L R (cs.drop i) 0=none/\a+mj (cs.drop i) L R=mj cs (bL b) (bR b))
   ⟨bL b,bR b,0,[],_,_,_,_,rfl,sk,hk0,(λk v h=>by cases h),by show 0+_<=_;rw[kt,oA];exact aH _,by cases b;exact EE.one;exact EE.two,by cases b<;>decide,by rw[fe];exact C.res,by rw[fe,kt]⟩ ?_ ?_⟩
  ·rintro i c σ H3 p hc ⟨L,R,a,kvs,x5,x6,x7,x8,rfl,s3,hk,mo,hb,ee,hl,er,en⟩ np;have hc':cs[i]? = some c:=by rw[<-hc];simp[tx]
   have hi:=(aJ.mp hc').1;have lc:=lt c (bB hc');have ed:cs.drop i=c::cs.drop (i+1):=by rw[ah hi];congr 1;exact(aJ.mp hc').2
   have sp:=(aV.refl H3).new (o:=.tup [.int i,.str ⟨#[c]⟩]) np;obtain⟨r,hr0⟩:∃r,cs.length-i=r+1:=⟨cs.length-i - 1,by lia⟩
   rw[hr0] at hb;have hb:kvs.length+(qS r+3*mD r)<=qS cs.length:=hb;have b12:=EN cs.length h12;nofun;refine⟨_,dm.of aG,rfl,?_⟩;have s4:=s3.trans sp;have hk4:=sp _ _ hk;generalize upd H3 p (.tup [.int i,.str ⟨#[c]⟩])=H4 at s4 hk4 ⊢;nofun;rw[bX];have er2:(cs.length:Int)-(i:Int) - 1=(r:Nat):=by lia
   rw[er2];have c4:c - 97<=3:=by rcases lc with rfl | rfl | rfl | rfl<;>decide
   refine⟨kA (by lia),rfl,c - 97,[],B4 lc,by rw[pY,bX];exact kA (by decide),?_⟩;rw[Cv lc];have tl:(tx (jv.take (c - 97))).cps.size=c - 97:=by rw[jb,bp];show min (c - 97) 4=_;lia
   refine⟨pL (λx hx=>by obtain⟨k,hk⟩:=fc hx;exact qB (n9 hk).1),?_⟩;refine so (λk σ H5=>∃(kv5:List (List Key×V)) (x8:Option V),σ=[some (.ref m),some (.str (tx cs)),some (.ref kn),some (.str (tx (fV L R))),some (.int ((a+Dr k r L R:Nat):Int)),some (.int i),some (.str ⟨#[c]⟩),some (.int r),x8]/\aV H1 H5/\H5 kn=some (.dT kv5)/\fu kv5/\kv5.length<=kvs.length+k*mD r) ⟨kvs,_,rfl,s4,hk4,mo,by lia⟩ ?_ ?_
   ·rintro k d σ H5 hd ⟨kv5,y8,rfl,s5,hk5,mo5,hb5⟩;have hd':(jv.take (c - 97))[k]? = some d:=by rw[<-hd];simp[tx]
    obtain⟨hd1,hk3⟩:=n9 hd';have k3:k*mD r+mD r<=3*mD r:=by
     have:(k+1)*mD r<=3*mD r:=eJ _ (by lia);rw[jE] at this;exact this
    nofun;refine⟨L,R,d,r,kn,kv5,rfl,qB hd1,by lia,ee,by lia,hk5,mo5,by lia,λH6 kv6 w6 hk6 mo6 hl6=>?_⟩;rw[ue hd1];refine⟨_,_,rfl,rfl,kv6,some (.str ⟨#[d]⟩),?_,sK nk s5 w6,hk6,mo6,by rw[jE];lia⟩;rw[<-Nat.add_assoc];rfl
   ·rintro σ H5 ⟨kv5,y8,rfl,s5,hk5,mo5,hb5⟩;rw[tl] at hb5;rw[tl,<-IS lc];have k3:(c - 97)*mD r<=3*mD r:=eJ _ c4;nofun;rw[ed] at er en;cases g:cS L R c with
    | none=>rw[kd g] at er;cases er
    | some pr=>
     obtain⟨L',R'⟩:=pr;rw[je g] at er;have dl:(cs.drop (i+1)).length=r:=by rw[eh];lia
     rw[B9 g,dl] at en;have lp:=iN lc g;refine⟨L,R,c,rfl,lc,ee,by lia,λH6 s6=>?_⟩;rw[g];refine⟨L',R',a+qC c r L R,kv5,_,_,_,_,rfl,s5.trans s6,s6 _ _ hk5,mo5,?_,ee.go lc g,by lia,Av _ _ _ er,by lia⟩;rw[show cs.length-(i+1)=r by lia];lia
  ·rintro σ H3 ⟨L,R,a,kvs,x5,x6,x7,x8,rfl,s3,hk,mo,hb,ee,hl,er,en⟩;nofun;rw[jb,iR] at en;have en:a+0=mj cs (bL b) (bR b):=en;have:=q H3 (s1.trans s3);rw[<-en] at this;exact this
def pw (B:oC mg) (E:Fn K mg "next_letter" fL ["state","rows","ahead","known"]) (d7:dM P w K mg base 19 "ends_behind" eP ["state","letter","rows","known"] pW):dM P w K mg base 20 "next_letter" fL ["state","rows","ahead","known"] xK:=E.mk' λf fd F=>by
 refine F.okS fY (λvs H Q E h=>?_) (λcdv A outer s H vs Q E hr h=>?_)
 ·obtain⟨L,R,m,k,d,kvs,rfl,_⟩:=h;rfl
 ·obtain⟨L,R,m,k,d,kvs,rfl,hm,ee,hl,hd,mo,hb,q⟩:=h;have two:(2:Nat)<=sizeLine:=by decide
  refine⟨[some (.str (tx (fV L R))),some (.int m),some (.int k),some (.ref d),none,none,none],_,rfl,(L2.ie.h (aF (aW (i:=4) fY.nd rfl (Or.inl rfl) (aX 2))
   (aF (d8 ay rfl (pB (dg sF (fh (by rfl) B.LETTERS) fF (eC (eQ eO aK)))) (bS (i:=5) fY.nd rfl (Or.inl rfl))
   (aF (aW (i:=6) fY.nd rfl (Or.inl rfl) (aS d7 (hr.mono (by decide)) (by rfl) (aC (aX 0) (aC (aX 5) (aC (aX 1) (aC (aX 3) aD))))))
    (aF (cA (a8 lG (aX 4) (aX 6) (bI _))
    (aL (ar (dJ (aC (aX 5) (aC (aX 4) aD)))))
    bQ)
    (aL (mL (i:=4) fY.nd rfl (Or.inl rfl) (aX 6) Bu)))))
   (aL (ar (dJ (bA (bO oS (fh (by rfl) B.LETTERS) (eQ eO aK) (λ_ _=>rfl)) (aC (aX 4) aD)))))))),?_⟩
  nofun;rw[F3];have a3:∀k c,(jv.take 3)[k]? = some c->iM c:=λk c h=>qB (n9 h).1;refine⟨by rw[pY,bX];exact kA (by decide),pL (λx hx=>by obtain⟨k,hk⟩:=fc hx;exact a3 k x hk),?_⟩;refine so (λj σ H5=>∃(rest:Nat) (kv5:List (List Key×V)) (x5 x6:Option V),σ=[some (.str (tx (fV L R))),some (.int m),some (.int k),some (.ref d),some (.int (rest:Nat)),x5,x6]/\rest+Dr j m L R=k/\aV (wo H d) (wo H5 d)/\H5 d=some (.dT kv5)/\fu kv5/\kv5.length<=kvs.length+j*mD m) ⟨k,kvs,_,_,rfl,rfl,aV.refl _,hd,mo,by lia⟩ ?_ ?_
  ·rintro j c σ H5 hc ⟨rest,kv5,x5,x6,rfl,er,w5,hd5,mo5,hb5⟩;have hc':(jv.take 3)[j]? = some c:=by rw[<-hc];simp[tx]
   obtain⟨hc1,hj3⟩:=n9 hc';have lc:=qB hc1;have k3:j*mD m+mD m<=3*mD m:=by
    have:(j+1)*mD m<=3*mD m:=eJ _ (by lia);rw[jE] at this;exact this
   nofun;refine⟨L,R,c,m,d,kv5,rfl,lc,hm,ee,hl,hd5,mo5,by lia,λH6 kv6 w6 hd6 mo6 hl6=>?_⟩;nofun;have w56:=w5.trans w6;refine gX (λh=>?_) (λh=>?_)
   ·refine⟨two,λt nt=>?_⟩;have et:=Dj hj3 hc1 er (by lia);have st:=(aV.refl H6).new (o:=.tup [.str ⟨#[c]⟩,.int (rest:Nat)]) nt;refine q t _ kv6 (yG w56 hd6 nt) (w56.trans (nM st)) (st _ _ hd6) mo6 (by lia) ?_;rw[et];exact aG
   ·refine⟨rest-dj m (cS L R c),kv6,some (.str ⟨#[c]⟩),some (.int (dj m (cS L R c):Nat)),?_,?_,w56,hd6,mo6,by rw[jE];lia⟩
    ·rw[show ((rest-dj m (cS L R c):Nat):Int)=(rest:Int)-(dj m (cS L R c):Nat) by lia]
    ·rw[ue hc1];lia
  ·rintro σ H5 ⟨rest,kv5,x5,x6,rfl,er,w5,hd5,mo5,hb5⟩;have t3:(tx (jv.take 3)).cps.size=3:=rfl;rw[t3] at er hb5;nofun;have et:=B5 er;refine⟨by rw[pY,bX];exact kA (by decide),100,by rw[pY,lY];rfl,two,λt nt=>?_⟩;have st:=(aV.refl H5).new (o:=.tup [.str ⟨#[100]⟩,.int (rest:Nat)]) nt;refine q t _ kv5 (yG w5 hd5 nt) (w5.trans (nM st)) (st _ _ hd5) mo5 hb5 ?_;rw[et];exact aG
def uW (B:oC mg) (E:Fn K mg "numbered" iA ["side","n","number"]) (Jz:dM P w K mg base 1 "is_side" gR ["thing"] nP) (Kc:dM P w K mg base 3 "vet_rings" gN ["n"] wy) (KF:dM P w K mg base 1 "begun" jB ["side"] nQ) (KL:dM P w K mg base 18 "ends_from" dO ["state","rows","known"] (oG 13)) (KH:dM P w K mg base 2 "is_below" gH ["thing","bound"] rz) (K0:dM P w K mg base 20 "next_letter" fL ["state","rows","ahead","known"] xK) (Jy:dM P w K mg base 3 "step" jS ["state","letter"] m7) (KD:dM P w K mg base 5 "decoded" gS ["side","code"] rq):dM P w K mg base 21 "numbered" iA ["side","n","number"] pR:=E.mk' λf fd F=>by
 refine F.okS dc (λvs H Q E h=>?_) (λcdv A outer s H vs Q E hr h=>?_)
 ·obtain⟨b,n,k,rfl,_⟩:=h;rfl
 ·obtain⟨b,n,k,rfl,hn,hk,q⟩:=h;refine⟨[some (.str (sd b)),some (.int n),some (.int k),none,none,none,none,none,none],_,rfl,(L2.ie.h (aF (cA (iV (fS (aS Jz (hr.mono (by decide)) (by rfl) (aC (aX 0) aD))))
   (aL fg)
   bQ)
   (aF (fv (aS Kc (hr.mono (by decide)) (by rfl) (aC (aX 1) aD)))
   (aF (aW (i:=3) dc.nd rfl (Or.inl rfl) rE)
   (aF (aW (i:=4) dc.nd rfl (Or.inl rfl) (aS KF (hr.mono (by decide)) (by rfl) (aC (aX 0) aD)))
   (aF (cA (iV (fS (aS KH (hr.mono (by decide)) (by rfl) (aC (aX 2) (d6 (aS KL (hr.mono (by decide)) (by rfl) (aC (aX 4) (aC (aX 1) (aC (aX 3) aD)))) aD)))))
   (aL fg)
   bQ)
   (aF (aW (i:=5) dc.nd rfl (Or.inl rfl) bK)
   (aF (aW (i:=6) dc.nd rfl (Or.inl rfl) (aX 2))
   (aF (d8 ay rfl (p8 (by rfl) B.range (cL (aw g6 (aX 1) aK) (jf (eQ eO aK) (jf (eQ eO aK) aD)))) (bS (i:=7) dc.nd rfl (Or.inl rfl))
   (aF (aW (i:=8) dc.nd rfl (Or.inl rfl) (aS K0 (hr.mono (by decide)) (by rfl) (aC (aX 4) (aC (aX 7) (aC (aX 6) (aC (aX 3) aD))))))
    (aF (mL (i:=5) dc.nd rfl (Or.inl rfl) (bO fD (aX 8) aK (λ_ _=>rfl)) uh)
    (aF (aW (i:=6) dc.nd rfl (Or.inl rfl) (bO fD (aX 8) aK (λ_ _=>rfl)))
    (aL (aW (i:=4) dc.nd rfl (Or.inl rfl) (aS Jy (hr.mono (by decide)) (by rfl) (aC (aX 4) (bA (bO fD (aX 8) aK (λ_ _=>rfl)) aD)))))))))
   (aL (ar (aS KD (hr.mono (by decide)) (by rfl) (aC (aX 0) (aC (aX 5) aD)))))))))))))),?_⟩
  nofun;have e1:mV (.str (sd b))=true:=by cases b<;>decide +kernel
  refine⟨_,_,rfl,.str _,⟨by cases b<;>decide +kernel,by cases b<;>decide +kernel⟩,?_⟩;rw[e1];refine⟨true,rfl,gT (by decide) ⟨n,rfl,by lia,λkn nk=>⟨F5 b,by rw[Hq],?_⟩⟩⟩;rw[nS];have sk:=(aV.refl H).new (o:=.dT []) nk;have hk0:upd H kn (.dT []) kn=some (.dT []):=aG;generalize upd H kn (.dT [])=H1 at sk hk0 ⊢;have bl1:(bL b).length+(bR b).length=1:=by cases b<;>rfl
  have EB:EE (bL b) (bR b):=by cases b;exact EE.one;exact EE.two
  have bn:=Gf n hn;have two:(2:Nat)<=sizeLine:=by decide
  refine⟨bL b,bR b,n,kn,[],rfl,by lia,by lia,EB,by lia,hk0,(λk v h=>by cases h),by show 0+_<=_;lia,λH2 kv2 w2 hk2 mo2 hl2=>?_⟩;have hl2:kv2.length<=mD n:=by have:([]:List (List Key×V)).length=0:=rfl;lia
  have s2:=sK nk sk w2;refine⟨_,_,_,rfl,.int _,?_⟩;rw[y1 hk];refine⟨_,rfl,gT (by decide) ⟨_,_,rfl,⟨by lia,by lia,by lia,by lia⟩,?_⟩⟩;rw[show ((n:Int) - 1 - -1).toNat=n by lia];refine qI (n:=n) (λi σ H3=>∃(L R:List Int) (cs:List Nat) (rest:Nat) (kv3:List (List Key×V)) (x7 x8:Option V),σ=[some (.str (sd b)),some (.int n),some (.int k),some (.ref kn),some (.str (tx (fV L R))),some (.str (tx cs)),some (.int (rest:Nat)),x7,x8]/\aV H H3/\H3 kn=some (.dT kv3)/\fu kv3/\kv3.length+qS (n-i)<=mD n+qS n/\EE L R/\L.length+R.length<=2*i+1/\cs.length=i/\rest<eR (n-i) L R/\∀ds,(cW (n-i) L R)[rest]? = some ds->(cW n (bL b) (bR b))[k]? = some (cs++ds))
   ⟨bL b,bR b,[],k,kv2,_,_,by rw[Ek],s2,hk2,mo2,by rw[oA];lia,EB,by lia,rfl,hk,λds h=>h⟩ ?_ ?_
  ·rintro i σ H3 hi ⟨L,R,cs,rest,kv3,x7,x8,rfl,s3,hk3,mo3,hb3,ee,hl,lc,hrest,hseq⟩;obtain⟨r,hr0⟩:∃r,n-i=r+1:=⟨n-i - 1,by lia⟩
   rw[hr0] at hb3 hrest hseq;have hb3:kv3.length+(qS r+3*mD r)<=mD n+qS n:=hb3;have er:(n:Int) - 1+(i:Int)*(-1)=(r:Nat):=by lia
   obtain⟨c1,c2,L',R',g,hlt⟩:=Di hrest;nofun;rw[er];refine⟨L,R,r,rest,kn,kv3,rfl,by lia,ee,by lia,hk3,mo3,by lia,λt H4 kv4 nt w4 hk4 mo4 hl4 ht=>?_⟩;have s4:=sK nk s3 w4;generalize hz:oO r L R rest=z at c1 c2 g hlt ht;obtain⟨c,r2⟩:=z;simp only at c1 c2 g hlt ht;have lp:=iN c1 g;refine⟨t,_,0,_,rfl,rfl,dm.of ht,rfl,?_⟩;refine⟨_,_,rfl,rfl,by rw[bX];exact kA (by show cs.length+1<=900;lia),t,_,1,_,rfl,rfl,dm.of ht,rfl,t,_,0,_,rfl,rfl,dm.of ht,rfl,L,R,c,rfl,c1,ee,by lia,λH5 s5=>?_⟩;rw[g];refine⟨L',R',cs++[c],r2,kv4,some (.int (r:Nat)),some (.ref t),by rw[<-dt];rfl,s4.trans s5,s5 _ _ hk4,mo4,?_,ee.go c1 g,by lia,by simp[lc],?_,λds h=>?_⟩
   ·rw[show n-(i+1)=r by lia];lia
   ·rw[show n-(i+1)=r by lia];exact hlt
   ·rw[show n-(i+1)=r by lia] at h;have:=hseq (c::ds) (by rw[c2];exact Al c1 g h);rw[ai];exact this
  ·rintro σ H3 ⟨L,R,cs,rest,kv3,x7,x8,rfl,s3,hk3,mo3,hb3,ee,hl,lc,hrest,hseq⟩;rw[ku] at hrest hseq;have e0:cW 0 L R=[[]]/\rest=0:=by
    have h:rest<(if L.length+R.length=1 then 1 else 0):=hrest;unfold cW
    split at h
    ·rename_i e;exact⟨NJ e,by lia⟩
    ·lia
   have hs:=hseq [] (by rw[e0.1,e0.2];rfl);rw[bb] at hs;nofun;exact⟨b,cs,rfl,(jd (by lia) hs).1,λm o H4 s4 hm=>q cs m o H4 (s3.trans s4) hs hm⟩
def vk (B:oC mg) (E:Fn K mg "_law_cell_at" jM ["_law_script","_law_k"]):dM P w K mg base 1 "_law_cell_at" jM ["_law_script","_law_k"] (xP K):=E.mk' λf fd F=>by
 refine F.okS vZ (λvs H Q E h=>?_) (λcdv A outer s H vs Q E hr h=>?_)
 ·obtain⟨a,ns,k,rfl,_⟩:=h;rfl
 ·obtain⟨a,ns,k,rfl,hS,q⟩:=h;refine⟨[some (.ref a),some (.int k)],_,rfl,(L2.ie.h (aF (cA (a8 lG (aX 1) (ae cB (by rfl) B.len aZ (aC (aX 0) aD)) (bI _))
   (aL (ar (bO bq (aX 0) (aX 1) (λ_ _=>rfl))))
   bQ)
   (aL (ar (aw f9 (aw oM aK (aX 1)) aK))))),?_⟩
  nofun;refine⟨_,.inl hS,?_⟩;rw[aE];refine gX (λh=>?_) (λh=>?_)
  ·have hk:k<ns.length:=by lia
   refine⟨_,.int (ns.getD k 0),hS,gB ?_,q _⟩;simp[a9,hk]
  ·exact⟨.inl ⟨by decide,by decide⟩,q _⟩
def BZ (E:Fn K mg "_law_mixed" mK ["_law_cell"]):dM P w K mg base 1 "_law_mixed" mK ["_law_cell"] t9:=E.mk' λf fd F=>by
 refine F.okS tw (λvs H Q E h=>?_) (λcdv A outer s H vs Q E hr h=>?_)
 ·obtain⟨n,rfl,_⟩:=h;rfl
 ·obtain⟨n,rfl,q⟩:=h;refine⟨[some (.int n),none],_,rfl,(L2.ie.h (aF (aW (i:=1) tw.nd rfl (Or.inl rfl) (aw jt (aw oM (aw f9 (aw jt (aX 0) (aw vb aK aK)) aK) aK) (aw g6 (aw vb aK aK) aK)))
   (aL (ar (aw kh (aw jt (aw oM (aX 1) aK) (aw g6 (aw vb aK aK) aK)) aK))))),?_⟩
  nofun;refine⟨⟨by decide,by decide,by decide⟩,by decide,.inr ⟨by decide,by decide⟩,⟨by decide,by decide,by decide⟩,by decide,.inr ⟨by decide,by decide⟩,⟨by decide,by decide,by decide⟩,by decide,⟨by decide,by decide⟩,?_⟩;have e:((2:Int) ^ Int.toNat 61 - 1)=2305843009213693951:=by decide
  rw[e];refine q _ ?_ ?_<;>lia
def vd (E:Fn K mg "_law_rest_of" jH ["_law_cell"]) (LX:dM P w K mg base 1 "_law_mixed" mK ["_law_cell"] t9):dM P w K mg base 2 "_law_rest_of" jH ["_law_cell"] xG:=E.mk' λf fd F=>by
 refine F.okS md (λvs H Q E h=>?_) (λcdv A outer s H vs Q E hr h=>?_)
 ·obtain⟨n,rfl,_⟩:=h;rfl
 ·obtain⟨n,rfl,q⟩:=h;refine⟨[some (.int n),none],_,rfl,(L2.ie.h (aF (cA (a8 eV (aw jt (aX 0) aK) aK (bI _))
   (aL (ar (aS LX (hr.mono (by decide)) (by rfl) (cL (aw kh (aX 0) aK) aD))))
   bQ)
   (aF (aW (i:=1) md.nd rfl (Or.inl rfl) aK)
   (aF (kE ay (a8 uS (aX 1) (aw kh (aX 0) aK) (bI _))
   (aL (aW (i:=1) md.nd rfl (Or.inl rfl) (aw oM aK (aX 1)))))
   (aL (ar (aw f9 (aw kh (aX 0) aK) (aw oM (aX 1) (aS LX (hr.mono (by decide)) (by rfl) (cL (aw kh (aX 0) aK) aD)))))))))),?_⟩
  nofun;refine⟨by decide,gX (λh=>⟨⟨by decide,by decide⟩,_,rfl,λm _ _=>q m⟩) (λh=>?_)⟩;refine⟨λm σ H3=>∃t:Int,σ=[some (.int n),some (.int t)]/\1<=t/\m=(n / 2+1-t).toNat/\H3=H,⟨_,1,rfl,by decide,rfl,rfl⟩,?_⟩;rintro m σ H3 ⟨t,rfl,ht,rfl,rfl⟩;nofun;refine⟨⟨by decide,by decide⟩,gX (λh=>?_) (λh=>?_)⟩
  ·refine⟨_,λ_ _ z=>z,.inl ⟨by decide,by decide⟩,_,?_,4*t,rfl,by lia,rfl,rfl⟩;lia
  ·refine⟨⟨by decide,by decide⟩,⟨by decide,by decide⟩,_,rfl,λm h1 h2=>?_⟩;nofun;exact⟨.inr ⟨by lia,by lia⟩,q _⟩
def yR{H:Hp}{a0:Addr}{ns:List Int}{lo hi:Int}{Q:VK}(h:H a0=some (.lst (ns.map V.int)))(hl:ns.length<=900)(q:∀p H',aV H H'->H' p=some (.lst ((ns.map (rn lo hi)).map V.int))->Q (.ref p) H'):
  iz (C9 K a0) (lH 0) oY (AY (DC K) (Cs (eU (pO 0) (eU (pO 1) A2))) (Gy (λxs H Q=>(∃i,xs=[V.int i]/\Q (V.int i) H)\/∃k,xs=[V.bl k]/\Q (V.int (if k=true then 1 else 0)) H) (eU (AY IB (pO 0) (pO 2)) A2))) Q [none,some (V.int lo),some (V.int hi)] H:=by
 refine kL (xs:=ns.map V.int) (λi ys σ H'=>aV H H'/\ys=((ns.take i).map (rn lo hi)).map V.int/\∃x0,σ=[x0,some (V.int lo),some (V.int hi)]) ⟨aV.refl _,by simp,_,rfl⟩ ?_ (by rw[aE];exact kA hl) ?_ ?_
 ·rintro i ys σ H' ⟨sm,rfl,_⟩;exact⟨cF.of (sm _ _ h),by simp;lia⟩
 ·rintro i x ys σ H' N hx ⟨sm,rfl,x0,rfl⟩ hN;obtain⟨v,hv,rfl⟩:=jg hx;have etk:ns.take (i+1)=ns.take i++[v]:=by rw[bW,hv];rfl
  nofun;refine⟨(by show 2<=sizeLine;decide),λp np=>⟨_,V.int (rn lo hi v),cF.of aG,?_,hN _ _ _ ⟨sm.trans ((aV.refl _).new np),?_,_,rfl⟩⟩⟩
  ·unfold rn;by_cases e:v=hi
   ·rw[NJ e,NJ e];rfl
   ·rw[NI e,NI e];rfl
  ·rw[etk];simp
 ·rintro ys σ H' p ⟨sm,rfl,_⟩ np;have eL:(ns.map V.int).length=ns.length:=aE ..;rw[eL,cX];exact q p _ (sm.trans ((aV.refl _).new np)) aG
def IQ (B:oC mg) (E:Fn K mg "_law_go" yr ["_law_ends","_law_letter"]):dM P w K mg base 1 "_law_go" yr ["_law_ends","_law_letter"] Hm:=E.mk' λf fd F=>by
 refine F.okS qz (λvs H Q E h=>?_) (λcdv A outer s H vs Q E hr h=>?_)
 ·obtain⟨a,L,R,c,rfl,_⟩:=h;rfl
 ·obtain⟨a,L,R,c,rfl,⟨l,r,ha,hL,hR⟩,hc,EE,hl,q⟩:=h;have two:(2:Nat)<=sizeLine:=by decide
  have one:(1:Nat)<=sizeLine:=by decide
  refine⟨[some (.ref a),some (.str ⟨#[c]⟩),none,none,none,none,none],_,rfl,(L2.ie.h (aF (xf (aX 0) (jD (n:=2) rfl (cT (bS (i:=2) qz.nd rfl (Or.inl rfl)) (cT (bS (i:=3) qz.nd rfl (Or.inl rfl)) fw))))
   (aF (cA (a8 eV (aX 1) bK (bI _))
   (aF (aW (i:=4) qz.nd rfl (Or.inl rfl) (aw f9 aK (ae (wN rfl) (by rfl) B.max lP (cL (aw ki (aX 2) (aX 3)) aD))))
    (aL (ar (dJ (cL (aw ki (aX 2) (c8 (aC (aX 4) aD))) (cL (aw ki (aX 3) (c8 (aC (aX 4) aD))) aD))))))
   bQ)
   (aF (cA (QW.pt (ke (a8 eV (aX 1) bK (bI _)) (jV (a8 ph (ae cB (by rfl) B.len aZ (aC (aX 3) aD)) aK (bI _)))))
   (aL (ar (dJ (cL (aw ki (aX 2) (dg jA (aX 3) (eC (eQ eO aK)) fF)) (bA (dg jA (aX 3) fF (eC (eQ eO aK))) aD)))))
   bQ)
   (aF (cA (QW.pt (ke (a8 eV (aX 1) bK (bI _)) (jV (a8 ph (ae cB (by rfl) B.len aZ (aC (aX 2) aD)) aK (bI _)))))
   (aL (ar (dJ (bA (dg jA (aX 2) fF (eC (eQ eO aK))) (cL (aw ki (aX 3) (dg jA (aX 2) (eC (eQ eO aK)) fF)) aD)))))
   bQ)
   (aF (cA (QW.pt (jU (a8 o6 (aX 1) bK (bI _)) (jU (a8 eV (ae cB (by rfl) B.len aZ (aC (aX 2) aD)) aK (bI _)) (jU (a8 eV (ae cB (by rfl) B.len aZ (aC (aX 3) aD)) aK (bI _)) (jC (a8 eV (bO bq (aX 2) (eQ eO aK) (λ_ _=>rfl)) (bO bq (aX 3) (eQ eO aK) (λ_ _=>rfl)) (bI _)))))))
   (aL (ar eE))
   bQ)
   (aF (aW (i:=5) qz.nd rfl (Or.inr rfl) (ae (zd rfl) (by rfl) B.min PyProof.Rows.boot_min (bA (bO bq (aX 2) (eQ eO aK) (λ_ _=>rfl)) (bA (bO bq (aX 3) (eQ eO aK) (λ_ _=>rfl)) aD))))
   (aF (aW (i:=6) qz.nd rfl (Or.inr rfl) (ae (ze rfl) (by rfl) B.max lP (bA (bO bq (aX 2) (eQ eO aK) (λ_ _=>rfl)) (bA (bO bq (aX 3) (eQ eO aK) (λ_ _=>rfl)) aD))))
   (aL (ar (dJ (g0 (fy (own:=["_law_end"]) (ns:=["_law_low","_law_high"]) (caps:=[5,6]) rfl ⟨rfl,by decide +kernel,by decide +kernel,by decide +kernel⟩ (.cons rfl rfl (.inl rfl) (.cons rfl rfl (.inl rfl) .nil)) (eZ (dg jA (aX 2) fF (eC (eQ eO aK)))) (λC s H fp pn=>(bS (i:=0) (show List.Nodup ((["_law_end"]:List Str)++(["_law_low","_law_high"]:List Str)) by decide +kernel) rfl (Or.inl rfl))) (λC s H fp pn=>iW) (λC s H fp pn=>(bO (ug (K:=K) rfl) (c8 (aC (aX 0) (aC (aX 1) aD))) (dW kO (by rfl) B.int dF (eF (dQ eV (aX 0) (aX 2) (bI _)) aD)) (λ_ _=>rfl)))) (g0 (fy (own:=["_law_end"]) (ns:=["_law_low","_law_high"]) (caps:=[5,6]) rfl ⟨rfl,by decide +kernel,by decide +kernel,by decide +kernel⟩ (.cons rfl rfl (.inl rfl) (.cons rfl rfl (.inl rfl) .nil)) (eZ (dg jA (aX 3) fF (eC (eQ eO aK)))) (λC s H fp pn=>(bS (i:=0) (show List.Nodup ((["_law_end"]:List Str)++(["_law_low","_law_high"]:List Str)) by decide +kernel) rfl (Or.inl rfl))) (λC s H fp pn=>iW) (λC s H fp pn=>(bO (ug (K:=K) rfl) (c8 (aC (aX 0) (aC (aX 1) aD))) (dW kO (by rfl) B.int dF (eF (dQ eV (aX 0) (aX 2) (bI _)) aD)) (λ_ _=>rfl)))) aD))))))))))))),?_⟩
  nofun;refine⟨_,dm.of ha,rfl,?_⟩;nofun;simp only[Hu,Ht,Hs,JC,g9];rcases hc with rfl | rfl | rfl | rfl
  ·refine kK rfl (wL hL hR (by simp;lia) λp1 H1 n1 s1 h1=>?_);rw[<-aO] at h1;have z1:=EE.z1;have cl:=List.count_le_length (a:=(0:Int)) (l:=L++R.reverse);have nn:∀x∈L++R,0<=x:=λx hx=>EE.nn x (by simpa using hx);have hpos:0<(L++R).length:=by rw[z1] at cl;simp at cl ⊢;lia
   refine⟨p1,L++R,rfl,cF.of h1,hpos,λM hM hmx=>?_⟩;have eM:=IR hM (nn M hM) hmx;nofun;refine⟨one,λp2 n2=>?_⟩;have s2:=(aV.refl H1).new (o:=.lst [V.int (1+M)]) n2;refine wL ((s1.trans s2) _ _ hL) aG (by simp;lia) λp3 H3 n3 s3 h3=>⟨one,λp4 n4=>?_⟩
   have s4:=(aV.refl H3).new (o:=.lst [V.int (1+M)]) n4;have s04:=s1.trans (s2.trans (s3.trans s4));refine wL (s04 _ _ hR) aG (by simp;lia) λp5 H5 n5 s5 h5=>⟨two,λb nb=>?_⟩
   have s05:=s04.trans s5;rw[eM] at h3 h5;have h3':H5 p3=some (.lst ((L++[1+mx (L++R)]).map V.int)):=by rw[NH];exact(s4.trans s5) _ _ h3
   have h5':H5 p5=some (.lst ((R++[1+mx (L++R)]).map V.int)):=by rw[NH];exact h5
   exact q _ _ (s05.trans ((aV.refl _).new nb)) ⟨b,rfl,fR.new h3' h5' nb⟩
  ·refine gT (by decide) (kK rfl ⟨_,.inl (cF.of hR),?_⟩);by_cases hR0:R=[]
   ·subst hR0;rw[mz] at q;exact gT (by simp) (gT (by decide) (kK (by decide) (q _ _ (aV.refl _) rfl)))
   ·obtain⟨R',v,rfl⟩:=cH hR0;rw[o9] at q;have hR':=hR;rw[NH] at hR';refine kK (by simp) (xR hR' λp1 H1 n1 s1 h1=>wL (s1 _ _ hL) h1 (by simp;simp at hl;lia) λp2 H2 n2 s2 h2=>oy ((s1.trans s2) _ _ hR') λp3 H3 n3 s3 h3=>⟨two,λb nb=>?_⟩);have h2':H3 p2=some (.lst ((L++[v]).map V.int)):=by rw[NH];exact s3 _ _ h2
    exact q _ _ ((s1.trans (s2.trans s3)).trans ((aV.refl _).new nb)) ⟨b,rfl,fR.new h2' h3 nb⟩
  ·refine gT (by decide) (gT (by decide) (kK rfl ⟨_,.inl (cF.of hL),?_⟩));by_cases hL0:L=[]
   ·subst hL0;rw[my] at q;exact gT (by simp) (kK (by decide) (q _ _ (aV.refl _) rfl))
   ·obtain⟨L',v,rfl⟩:=cH hL0;rw[o8] at q;have hL':=hL;rw[NH] at hL';refine kK (by simp) (oy hL' λp1 H1 n1 s1 h1=>xR (s1 _ _ hL') λp2 H2 n2 s2 h2=>wL ((s1.trans s2) _ _ hR) h2 (by simp;simp at hl;lia) λp3 H3 n3 s3 h3=>⟨two,λb nb=>?_⟩);have h3':H3 p3=some (.lst ((R++[v]).map V.int)):=by rw[NH];exact h3
    exact q _ _ ((s1.trans (s2.trans s3)).trans ((aV.refl _).new nb)) ⟨b,rfl,fR.new ((s2.trans s3) _ _ h1) h3' nb⟩
  ·refine gT (by decide) (gT (by decide) (gT (by decide) (gT (by decide) ⟨_,.inl (cF.of hL),?_⟩)));by_cases hL0:L=[]
   ·subst hL0;rw[mw] at q;exact kK rfl (q _ _ (aV.refl _) rfl)
   ·obtain⟨L',x,rfl⟩:=cH hL0;refine gT (by simp;lia) ⟨_,.inl (cF.of hR),?_⟩;by_cases hR0:R=[]
    ·subst hR0;rw[mt] at q;exact kK rfl (q _ _ (aV.refl _) rfl)
    ·obtain⟨R',y,rfl⟩:=cH hR0;rw[o7] at q;have hL':=hL;have hR':=hR;rw[NH] at hL' hR';refine gT (by simp;lia) ⟨_,_,cF.of hL',iP,_,_,cF.of hR',iP,?_⟩;nofun;by_cases exy:x=y
     ·rw[NJ exy] at q;exact kK exy (q _ _ (aV.refl _) rfl)
     ·rw[NI exy] at q;refine gT exy ⟨_,_,cF.of hL',iP,_,_,cF.of hR',iP,_,_,rfl,_,_,cF.of hL',iP,_,_,cF.of hR',iP,_,_,rfl,?_⟩;have e1:(if y<x then y else x)=min x y:=by rw[Int.min_def];split<;>split<;>lia
      have e2:(if y > x then y else x)=max x y:=by rw[Int.max_def];split<;>split<;>lia
      rw[e1,e2];nofun;simp at hl;refine oy hL' λp1 H1 n1 s1 h1=>⟨p1,rfl,⟨_,cF.of h1⟩,yR h1 (by lia) λp2 H2 s2 h2=>oy ((s1.trans s2) _ _ hR') λp3 H3 n3 s3 h3=>⟨p3,rfl,⟨_,cF.of h3⟩,yR h3 (by lia) λp4 H4 s4 h4=>⟨two,λb nb=>?_⟩⟩⟩
      exact q _ _ ((s1.trans (s2.trans (s3.trans s4))).trans ((aV.refl _).new nb)) ⟨b,rfl,fR.new ((s3.trans s4) _ _ h2) h4 nb⟩
def u6 (E:Fn K mg "_law_at_first" iG ["_law_side"]):dM P w K mg base 1 "_law_at_first" iG ["_law_side"] xN:=E.mk' λf fd F=>by
 refine F.okS uD (λvs H Q E h=>?_) (λcdv A outer s H vs Q E hr h=>?_)
 ·obtain⟨c,rfl,_⟩:=h;rfl
 ·obtain⟨c,rfl,q⟩:=h;refine⟨[some (.str ⟨#[c]⟩)],_,rfl,(L2.ie.h (aF (cA (a8 eV (aX 0) bK (bI _))
   (aL (ar (dJ (kG (c8 (bY aK aD)) (kG (c8 aD) aD)))))
   bQ)
   (aL (ar (dJ (kG (c8 aD) (kG (c8 (bY aK aD)) aD))))))),?_⟩
  nofun;rw[Jf];simp only[g9];unfold jP at q;refine gX (λh=>?_) (λh=>?_)
  ·rw[NJ h] at q;refine⟨by decide,λl nl=>⟨bF _,λr nr=>⟨(by show 2<=sizeLine;decide),λa na=>?_⟩⟩⟩;have hl:=aR (o:=.lst []) (H:=upd H l (.lst [V.int 0])) (λz:l=r=>by rw[z,aG] at nr;cases nr);rw[aG] at hl;exact q a _ ((((aV.refl H).new nl).trans ((aV.refl _).new nr)).trans ((aV.refl _).new na)) (fR.new (L:=[0]) (R:=[]) hl aG na)
  ·rw[NI h] at q;refine⟨bF _,λl nl=>⟨by decide,λr nr=>⟨(by show 2<=sizeLine;decide),λa na=>?_⟩⟩⟩;have hl:=aR (o:=.lst [V.int 0]) (H:=upd H l (.lst [])) (λz:l=r=>by rw[z,aG] at nr;cases nr);rw[aG] at hl;exact q a _ ((((aV.refl H).new nl).trans ((aV.refl _).new nr)).trans ((aV.refl _).new na)) (fR.new (L:=[]) (R:=[0]) hl aG na)
def vj (B:oC mg) (E:Fn K mg "_law_closing" jL ["_law_ends"]):dM P w K mg base 1 "_law_closing" jL ["_law_ends"] qy:=E.mk' λf fd F=>by
 refine F.okS gx (λvs H Q E h=>?_) (λcdv A outer s H vs Q E hr h=>?_)
 ·obtain⟨a,L,R,rfl,_⟩:=h;rfl
 ·obtain⟨a,L,R,rfl,⟨l,r,ha,hL,hR⟩,ee,h1,h2,q⟩:=h;refine⟨[some (.ref a),none,none,none,none],_,rfl,(L2.ie.h (aF (aW (i:=1) gx.nd rfl (Or.inl rfl) (aw ki (bO fD (aX 0) aK (λ_ _=>rfl)) (uI rfl (by rfl) B.list (by rfl) B.reversed (bO fD (aX 0) aK (λ_ _=>rfl)))))
   (aF (aW (i:=2) gx.nd rfl (Or.inl rfl) (ae cB (by rfl) B.len aZ (bA (bO fD (aX 0) aK (λ_ _=>rfl)) aD)))
   (aF (aW (i:=3) gx.nd rfl (Or.inl rfl) eE)
   (aF (d8 ay rfl (p9 (by rfl) B.range (bY aK (d6 (ae cB (by rfl) B.len aZ (aC (aX 1) aD)) aD))) (bS (i:=4) gx.nd rfl (Or.inl rfl))
   (aL (cA (QW.pt (ke (a8 o6 (bO bq (aX 1) (aw g6 (aX 4) aK) (λ_ _=>rfl)) (bO bq (aX 1) (aX 4) (λ_ _=>rfl)) (bI _)) (jV (QW.pt (jU (a8 sS (aX 3) eE (bI _)) (jC (a8 lG (ae uy (by rfl) B.abs lQ (cL (aw g6 (aX 4) (aX 2)) aD)) (ae uy (by rfl) B.abs lQ (cL (aw g6 (aX 3) (aX 2)) aD)) (bI _))))))))
    (aL (aW (i:=3) gx.nd rfl (Or.inl rfl) (aX 4)))
    bQ)))
   (aF (cA (a8 eV (aX 3) (aX 2) (bI _))
   (aL (ar bK))
   bQ)
   (aL (ar (bO bq (c8 (bY bK (bY bK aD))) (dW kO (by rfl) B.int dF (eF (dQ lG (aX 3) (aX 2) (bI _)) aD)) (λ_ _=>rfl)))))))))),?_⟩
  nofun;have two:(2:Nat)<=sizeLine:=by decide
  refine⟨_,_,dm.of ha,rfl,_,_,dm.of ha,rfl,r,_,rfl,hR,by rw[aE];lia,λp1 n1=>?_⟩;have s1:=(aV.refl H).new (o:=.lst (R.map V.int).reverse) n1;have hL1:=s1 _ _ hL;refine wL hL1 aG (by simp;lia) λp2 H2 n2 s2 h2'=>?_;have s3:=s1.trans s2;have hrow:H2 p2=some (.lst ((L++R.reverse).map V.int)):=by rw[h2',aO,List.map_reverse]
  have wl:(L++R.reverse).length=L.length+R.length:=by simp
  have h3:3<=(L++R.reverse).length:=ee.three (by lia);have th:Th (L++R.reverse):=ee.th;generalize hW:L++R.reverse=W at *;refine⟨_,_,dm.of (s3 _ _ ha),rfl,l,_,rfl,.inl (cF.of (s3 _ _ hL)),p2,_,rfl,.inl (cF.of hrow),⟨by decide,by decide,by lia,by rw[aE];lia⟩,?_⟩;rw[aE,aE,show ((W.length:Int) - 1).toNat=W.length - 1 by lia];refine mS (n:=W.length - 1) (λi σ H'=>∃(v:V) (x4:Option V),σ=[some (.ref a),some (.ref p2),some (.int (L.length:Nat)),some v,x4]/\aV H H'/\H' p2=some (.lst (W.map V.int))/\C7 W L.length (1+i) v) ⟨_,_,rfl,s3,hrow,.inl ⟨rfl,λk hk z=>by have:=z.1;lia⟩⟩ ?_ ?_
  ·rintro i σ H3 hi ⟨v,x4,rfl,s4,hr3,bv⟩;have g1:W[i]? = some W[i]:=aN (by lia);have g2:W[i+1]? = some W[i+1]:=aN (by lia);have a1:oj (W.map V.int) ((1:Int)+i - 1)=some (.int W[i]):=by rw[show (1:Int)+i - 1=((i:Nat):Int) by lia];exact gB (by rw[a9,g1];rfl)
   have a2:oj (W.map V.int) ((1:Int)+i)=some (.int W[i+1]):=by rw[show (1:Int)+i=((i+1:Nat):Int) by lia];exact gB (by rw[a9,g2];rfl)
   have dE:qM W (1+i)<->W[i]≠W[i+1]:=by
    unfold qM;rw[show 1+i - 1=i by lia,show 1+i=i+1 by lia,g1,g2];constructor
    ·rintro⟨_,_,z⟩ e;exact z (by rw[e])
    ·intro z;exact⟨by lia,by lia,λe=>z (bH e)⟩
   have keep:∀v,C7 W L.length (1+i) v->¬qM W (1+i)->C7 W L.length (1+(i+1)) v:=λv h nd=>by
    rcases h with ⟨rfl,h⟩ | ⟨best,rfl,h1,h⟩
    ·exact .inl ⟨rfl,λk hk=>by
      by_cases e:k=1+i
      ·rw[e];exact nd
      ·exact h k (by lia)⟩
    ·exact .inr ⟨best,rfl,h1,λk hk hd=>by
      by_cases e:k=1+i
      ·rw[e] at hd;exact absurd hd nd
      ·exact h k (by lia) hd⟩
   nofun;refine⟨_,_,cF.of hr3,a1,_,_,cF.of hr3,a2,?_⟩;nofun;have ek:(1:Int)+i=((1+i:Nat):Int):=by lia
   refine gX (λhne=>⟨trivial,?_⟩) (λheq=>⟨v,_,rfl,s4,hr3,keep v bv (λz=>heq (dE.mp z))⟩);have hd:=dE.mpr hne;rcases bv with ⟨rfl,h⟩ | ⟨best,rfl,h1',h⟩
   ·refine kK rfl ⟨_,_,rfl,s4,hr3,.inr ⟨1+i,by rw[ek],hd,λk hk hk2=>?_⟩⟩;by_cases e:k=1+i
    ·rw[e];exact aH _
    ·exact absurd hk2 (h k (by lia))
   ·refine gT (λz=>nomatch z) ?_;nofun;refine gX (λhlt=>⟨_,_,rfl,s4,hr3,.inr ⟨1+i,by rw[ek],hd,λk hk hk2=>?_⟩⟩) (λhge=>⟨_,_,rfl,s4,hr3,.inr ⟨best,rfl,h1',λk hk hk2=>?_⟩⟩)
    ·by_cases e:k=1+i
     ·rw[e];exact aH _
     ·have:=h k (by lia) hk2
      split at hlt<;>split at hlt<;>lia
    ·by_cases e:k=1+i
     ·subst e
      split at hge<;>split at hge<;>lia
     ·exact h k (by lia) hk2
  ·rintro σ H3 ⟨v,x4,rfl,s4,hr3,bv⟩;obtain⟨best,rfl,bd,bm⟩:∃best:Nat,v=.int best/\qM W best/\∀k,k<W.length->qM W k->((best:Int)-L.length).natAbs<=((k:Int)-L.length).natAbs:=by
    rcases bv with ⟨rfl,h⟩ | ⟨best,rfl,h1,h⟩
    ·obtain⟨k,hk⟩:=G8 th h3;exact absurd hk (h k (by have:=hk.2.1;lia))
    ·exact⟨best,rfl,h1,λk hk hd=>h k (by lia) hd⟩
   have N:C4 W L.length best:=⟨bd,λk hk=>bm k hk.2.1 hk⟩
   nofun;refine gX (λe=>?_) (λe=>⟨two,λp np=>⟨_,.str ⟨#[zb L.length best]⟩,cF.of aG,?_,q best _ (s4.trans ((aV.refl _).new np)) N⟩⟩)
   ·have:=q best H3 s4 N;rw[show zb L.length best=100 by unfold zb;rw[NJ (by lia)]] at this;rw[JC];exact this
   ·have ne:¬best=L.length:=λz=>e (by rw[z]);by_cases c:best<L.length
    ·rw[show zb L.length best=99 by unfold zb;rw[NI ne,NJ c],NJ (by lia),Ht,Hs];rfl
    ·rw[show zb L.length best=98 by unfold zb;rw[NI ne,NI c],NI (by lia),Ht,Hs];rfl
def vi (B:oC mg) (E:Fn K mg "_law_code_by" jK ["_law_rest","_law_side","_law_many"]) (Ks:dM P w K mg base 1 "_law_at_first" iG ["_law_side"] xN) (M5:dM P w K mg base 1 "_law_go" yr ["_law_ends","_law_letter"] Hm) (LI:dM P w K mg base 1 "_law_closing" jL ["_law_ends"] qy):dM P w K mg base 2 "_law_code_by" jK ["_law_rest","_law_side","_law_many"] xO:=E.mk' λf fd F=>by
 refine F.okS fZ (λvs H Q E h=>?_) (λcdv A outer s H vs Q E hr h=>?_)
 ·obtain⟨r,b,m,rfl,_⟩:=h;rfl
 ·obtain⟨r,b,m,rfl,hm,q⟩:=h;refine⟨[some (.int r),some (.str (sd b)),some (.int m),none,none,none],_,rfl,(L2.ie.h (aF (aW (i:=3) fZ.nd rfl (Or.inl rfl) (aS Ks (hr.mono (by decide)) (by rfl) (aC (aX 1) aD)))
   (aF (aW (i:=4) fZ.nd rfl (Or.inl rfl) bK)
   (aF (kE ay (QW.pt (jU (a8 lG (ae cI (by rfl) B.len aZ (aC (aX 4) aD)) (aX 2) (bI _)) (jC (a8 ph (ae cB (by rfl) B.len aZ (cL (aw ki (bO fD (aX 3) aK (λ_ _=>rfl)) (bO fD (aX 3) aK (λ_ _=>rfl))) aD)) aK (bI _)))))
   (aF (aW (i:=5) fZ.nd rfl (Or.inl rfl) (dS (a8 IM (ae cI (by rfl) B.len aZ (aC (aX 4) aD)) (aX 2) (bI _)) (aS LI (hr.mono (by decide)) (by rfl) (aC (aX 3) aD)) (bO oS bK (aw jt (aX 0) aK) (λ_ _=>rfl))))
    (aF (cA (QW.pt (ke (a8 lG (ae cI (by rfl) B.len aZ (aC (aX 4) aD)) (aX 2) (bI _)) (jV (a8 sS (aS M5 (hr.mono (by decide)) (by rfl) (aC (aX 3) (aC (aX 5) aD))) eE (bI _)))))
    (aL (aW (i:=5) fZ.nd rfl (Or.inl rfl) bK))
    bQ)
    (aF (aW (i:=0) fZ.nd rfl (Or.inl rfl) (aw kh (aX 0) aK))
    (aF (aW (i:=3) fZ.nd rfl (Or.inl rfl) (aS M5 (hr.mono (by decide)) (by rfl) (aC (aX 3) (aC (aX 5) aD))))
    (aL (aW (i:=4) fZ.nd rfl (Or.inl rfl) (aw dG (aX 4) (aX 5)))))))))
   (aL (ar (aX 4))))))),?_⟩
  nofun;refine⟨F5 b,by rw[Hq],λa0 H1 s1 e0=>?_⟩;rw[nS] at e0;nofun;refine⟨λM σ H2=>∃(r':Int) (cs:List Nat) (L R:List Int) (a:Addr) (x5:Option V),σ=[some (.int r'),some (.str (sd b)),some (.int m),some (.ref a),some (.str (tx cs)),x5]/\aV H H2/\fR H2 a L R/\EE L R/\(∀ds,fM (bL b) (bR b) (cs++ds) 0=fM L R ds cs.length)/\tK cs/\L.length+R.length<=2*cs.length+1/\(cs.length<=m\/(m<=cs.length/\cs.length+wR L R<=4*m))/\M=40-cs.length,
   ⟨_,r,[],bL b,bR b,a0,_,rfl,s1,e0,(by cases b;exact EE.one;exact EE.two),(λds=>rfl),(λx hx=>by cases hx),by cases b<;>decide,.inl (bF _),rfl⟩,?_⟩
  rintro M σ H2 ⟨r',cs,L,R,a,x5,rfl,s2,ea,ee,wk,lt,hs,hi,rfl⟩;have hle:cs.length<=20:=by lia
  refine CS (λk H'=>aV H H'/\aV H2 H'/\(k=true->cs.length<m\/1<L.length+R.length)/\(k=false->m<=cs.length/\L.length+R.length<=1)) (λC hC=>?_) ?_
  ·obtain⟨l,r2,ha,hL,hR⟩:=ea;nofun;rw[bX];refine⟨kA (by lia),?_⟩;refine gX (λh=>hC true H2 ⟨s2,aV.refl _,λ_=>.inl (by lia),λz=>nomatch z⟩) (λh=>?_);refine⟨_,_,dm.of ha,rfl,_,_,dm.of ha,rfl,wL hL hR (by rw[aE,aE];lia) λp1 H3 n1 s3 h3=>⟨p1,_,rfl,.inl (cF.of h3),?_⟩⟩;rw[af,aE,aE];refine hC _ H3 ⟨s2.trans s3,s3,λz=>.inr (by have:=NN z;lia),λz=>⟨by lia,by have:=of_decide_eq_false z;lia⟩⟩
  ·rintro k H3 ⟨s3,s32,k1,k2⟩;cases k
   ·obtain⟨h1,h2⟩:=k2 rfl;nofun;refine q cs H3 s3 ⟨lt,hle,?_⟩ (by lia);have:=wk [];rw[bb] at this;rw[this];exact DB ee h2
   ·have h1:=k1 rfl;have ea3:=ea.same s32;nofun;refine⟨λσ' H'=>∃(r':Int) (cs':List Nat) (L R:List Int) (a:Addr) (x5:Option V),σ'=[some (.int r'),some (.str (sd b)),some (.int m),some (.ref a),some (.str (tx cs')),x5]/\aV H H'/\fR H' a L R/\EE L R/\(∀ds,fM (bL b) (bR b) (cs'++ds) 0=fM L R ds cs'.length)/\tK cs'/\L.length+R.length<=2*cs'.length+1/\(cs'.length<=m\/(m<=cs'.length/\cs'.length+wR L R<=4*m))/\cs'.length=cs.length+1,λσ' H' ⟨r',cs',L,R,a,x5,e1,e2,e3,e4,e9,e5,e6,e7,e8⟩=>⟨40-cs'.length,by lia,r',cs',L,R,a,x5,e1,e2,e3,e4,e9,e5,e6,e7,rfl⟩,by rw[bX];exact kA (by lia),?_⟩;have nxt:∀(H4:Hp) (c:Nat) (L' R':List Int) (v:V) (x5:Option V) (r1:Int),aV H H4->Jn H4 v (some (L',R'))->iM c->cS L R c=some (L',R')->(cs.length+1<=m\/(m<=cs.length+1/\cs.length+1+wR L' R'<=4*m))->∃(r':Int) (cs':List Nat) (L R:List Int) (a:Addr) (x5':Option V),([some (.int r1),some (.str (sd b)),some (.int m),some v,some (.str (tx cs++⟨#[c]⟩)),x5]:L2.St)=[some (.int r'),some (.str (sd b)),some (.int m),some (.ref a),some (.str (tx cs')),x5']/\aV H H4/\fR H4 a L R/\EE L R/\(∀ds,fM (bL b) (bR b) (cs'++ds) 0=fM L R ds cs'.length)/\tK cs'/\L.length+R.length<=2*cs'.length+1/\(cs'.length<=m\/(m<=cs'.length/\cs'.length+wR L R<=4*m))/\cs'.length=cs.length+1:=λH4 c L' R' v x5 r1 z1 z2 z3 z4 z5=>by
     obtain⟨a',rfl,ea'⟩:=z2;have:=iN z3 z4;have el:(cs++[c]).length=cs.length+1:=by simp
     exact⟨r1,cs++[c],L',R',a',x5,by rw[<-dt];rfl,z1,ea',ee.go z3 z4,(λds=>by rw[ai,wk,fP,je z4,el]),Bn lt z3,by lia,by rw[el];exact z5,el⟩
    have cd:Iq r' 4:=⟨by decide,by decide⟩
    have sl:∀c:Nat,(tx cs).length+(⟨#[c]⟩:Str).length<=sizeLine:=λc=>by rw[bX];exact kA (by show cs.length+1<=900;lia)
    rw[bX];refine gX (λhm1=>?_) (λhm1=>?_)
    ·have hs1:1<L.length+R.length:=by lia
     refine⟨a,L,R,rfl,ea3,ee,hs1,by lia,λbest H4 s4 N=>?_⟩;obtain⟨L',R',g,ee',pc⟩:=CU ee hs1 N;have p20:cs.length+wR L R<=4*m:=by
      rcases hi with h | h
      ·have:=Ew ee;lia
      ·exact h.2
     refine⟨kA (by lia),gT (by lia) ⟨cd,a,L,R,zb L.length best,rfl,ea3.same s4,CV _ _,ee,by lia,λv H5 s5 gv=>⟨_,_,rfl,rfl,sl _,?_⟩⟩⟩;rw[g] at gv;exact nxt H5 _ L' R' v _ _ ((s3.trans s4).trans s5) gv (CV _ _) g (.inr ⟨by lia,by lia⟩)
    ·obtain⟨c,hc,lc⟩:=ER r';refine⟨by decide,by decide +kernel,c,hc,kA (by lia),kK (by lia) ⟨a,L,R,c,rfl,ea3,lc,ee,by lia,λv H4 s4 gv=>⟨trivial,?_⟩⟩⟩;cases g:cS L R c with
     | none=>
      rw[g] at gv;refine kK gv ⟨cd,a,L,R,97,by rw[Hu];rfl,ea3.same s4,.inl rfl,ee,by lia,λv2 H5 s5 gv2=>?_⟩;obtain⟨L',R',ga⟩:=I9 L R;rw[ga] at gv2;rw[Hu,<-bX cs];exact⟨sl 97,nxt H5 97 L' R' v2 _ _ ((s3.trans s4).trans s5) gv2 (.inl rfl) ga (.inl (by lia))⟩
     | some pr=>
      obtain⟨L',R'⟩:=pr;rw[g] at gv;obtain⟨a',rfl,ea'⟩:=gv;refine gT (λz=>nomatch z) ⟨cd,a,L,R,c,rfl,ea3.same s4,lc,ee,by lia,λv2 H5 s5 gv2=>?_⟩;rw[g] at gv2;rw[<-bX cs];exact⟨sl c,nxt H5 c L' R' v2 _ _ ((s3.trans s4).trans s5) gv2 lc g (.inl (by lia))⟩
def uV (B:oC mg) (E:Fn K mg "_law_order_of" hZ ["_law_side","_law_code"]):dM P w K mg base 1 "_law_order_of" hZ ["_law_side","_law_code"] xH:=E.mk' λf fd F=>by
 refine F.okS dD (λvs H Q E h=>?_) (λcdv A outer s H vs Q E hr h=>?_)
 ·obtain⟨b,cs,rfl,_⟩:=h;rfl
 ·obtain⟨b,cs,rfl,lt,hn,hr0,q⟩:=h;refine⟨[some (.str (sd b)),some (.str (tx cs)),none,none,none,none,none,none,none,none,none],_,rfl,(L2.ie.h (aF (aW (i:=2) dD.nd rfl (Or.inl rfl) (c8 (kG (c8 aD) (kG (c8 aD) aD))))
   (aF (fv (iI b6 cP cO iL (bO bq (aX 2) (dW kO (by rfl) B.int dF (eF (dQ eV (aX 0) bK (bI _)) aD)) (λ_ _=>rfl)) (bY aK aD)))
   (dP (aW (i:=3) dD.nd rfl (Or.inl rfl) (c8 (uK oI (uK oI aD))))
   (dP (d8 ay rfl (mf (by rfl) B.range (cL (aw f9 (ae cI (by rfl) B.len aZ (aC (aX 1) aD)) aK) aD)) (bS (i:=4) dD.nd rfl (Or.inl rfl))
   (aL (d8 ay rfl (mf (by rfl) B.range (bY aK aD)) (bS (i:=5) dD.nd rfl (Or.inl rfl))
    (aF (aW (i:=6) dD.nd rfl (Or.inl rfl) (nX (dQ lG (aX 4) (ae cI (by rfl) B.len aZ (aC (aX 1) aD)) (bI _)) (mN (dQ oN (bO oS (aX 1) (aX 4) (λ_ _=>rfl)) (bO bq (c8 (bY bK (bY bK aD))) (aX 5) (λ_ _=>rfl)) (by with_unfolding_all rfl)))))
     (aL (cA (QW.pt (jU (jN (aX 6) (λ_=>rfl)) (jC (QW.pt (ke (a8 eV (aX 4) (ae cI (by rfl) B.len aZ (aC (aX 1) aD)) (bI _)) (jV (a8 ph (ae cB (by rfl) B.len aZ (bA (bO bq (aX 2) (aX 5) (λ_ _=>rfl)) aD)) aK (bI _))))))))
     (aF (aW (i:=7) dD.nd rfl (Or.inl rfl) (xg b6 lO lN Bj (bO bq (aX 2) (aX 5) (λ_ _=>rfl))))
      (aF (kF (lw hr) (bO bq (aX 3) (aX 5) (λ_ _=>rfl)) (aX 7) (aw f9 (aX 4) aK) rfl)
      (aL (kF (lw hr) (bO bq (aX 3) (aX 5) (λ_ _=>rfl)) (aw f9 (aX 4) aK) (aX 7) rfl))))
     (aL (cA (a8 lG (aX 4) (ae cI (by rfl) B.len aZ (aC (aX 1) aD)) (bI _))
      (aL (fv (iI b6 cP cO iL (bO bq (aX 2) (aX 5) (λ_ _=>rfl)) (cL (aw f9 (aX 4) aK) aD))))
      bQ))))))))
   (aF (aW (i:=8) dD.nd rfl (Or.inl rfl) (c8 aD))
   (aF (aW (i:=9) dD.nd rfl (Or.inl rfl) (dW kO (by rfl) B.int dF (eF (dQ eV (aX 0) bK (bI _)) aD)))
   (aF (aW (i:=10) dD.nd rfl (Or.inl rfl) (fx (lw hr) (bO bq (aX 3) (aX 9) (λ_ _=>rfl)) aK (λ_ _=>rfl)))
   (aF (kE ay (a8 uS (aX 10) (ae cI (by rfl) B.len aZ (aC (aX 1) aD)) (bI _))
   (aF (fv (iI b6 cP cO iL (aX 8) (aC (aX 10) aD)))
    (aF (aW (i:=9) dD.nd rfl (Or.inl rfl) (aw g6 aK (aX 9)))
    (aL (aW (i:=10) dD.nd rfl (Or.inl rfl) (fx (lw hr) (bO bq (aX 3) (aX 9) (λ_ _=>rfl)) (aX 10) (λ_ _=>rfl)))))))
   (aL (ar (dW jw (by rfl) B.tuple dU (aC (aX 8) aD))))))))))))),?_⟩
  nofun;have two:(2:Nat)<=sizeLine:=by decide
  refine⟨bF _,λa0 n0=>⟨bF _,λa1 n1=>⟨two,λls nl=>?_⟩⟩⟩;have e01:a0≠a1:=λe=>by subst e;rw[aG] at n1;cases n1
  have e1l:a1≠ls:=λe=>by subst e;rw[aG] at nl;cases nl
  have e0l:a0≠ls:=λe=>by subst e;rw[aR e01,aG] at nl;cases nl
  have s1:=(aV.refl H).new (o:=.lst []) n0;have s2:=s1.trans ((aV.refl _).new (o:=.lst []) n1);have s3:=s2.trans ((aV.refl _).new (o:=.lst [.ref a0,.ref a1]) nl);have m1:=s1.free n1;have ml:=s2.free nl;have h0:upd (upd (upd H a0 (.lst [])) a1 (.lst [])) ls (.lst [.ref a0,.ref a1]) a0=some (.lst []):=by rw[aR e0l,aR e01,aG]
  have h1:upd (upd (upd H a0 (.lst [])) a1 (.lst [])) ls (.lst [.ref a0,.ref a1]) a1=some (.lst []):=by rw[aR e1l,aG]
  have hl:upd (upd (upd H a0 (.lst [])) a1 (.lst [])) ls (.lst [.ref a0,.ref a1]) ls=some (.lst [.ref a0,.ref a1]):=aG;generalize upd (upd (upd H a0 (.lst [])) a1 (.lst [])) ls (.lst [.ref a0,.ref a1])=H3 at s3 h0 h1 hl ⊢;obtain⟨A,hA⟩:∃A:Bool->Addr,A=λu:Bool=>if u then a1 else a0:=⟨_,rfl⟩
  have A0:a0=A false:=by rw[hA];rfl
  have A1:a1=A true:=by rw[hA];rfl
  rw[A0,A1] at hl;have hAA:∀u,H3 (A u)=some (.lst []):=λu=>by cases u;rw[<-A0];exact h0;rw[<-A1];exact h1
  have nA:∀u,H (A u)=none:=λu=>by cases u;rw[<-A0];exact n0;rw[<-A1];exact m1
  have lA:∀u,ls≠A u:=λu=>by cases u;rw[<-A0];exact e0l.symm;rw[<-A1];exact e1l.symm
  have aA:A false≠A true:=by rw[<-A0,<-A1];exact e01
  clear n1 nl h0 h1 hA s1 s2;simp only[F6];refine⟨_,.ref (A b),cF.of hl,by cases b<;>rfl,lX (hAA b),⟨A b,[],.int 0,rfl,rfl,hAA b,(by show 0<sizeLine;decide),?_⟩⟩;have s4:=s3.new (o:=.lst [.int 0]) (nA b);have hA4:∀u,upd H3 (A b) (.lst [.int 0]) (A u)=some (.lst (iK (tM u b).1)):=λu=>by
   unfold tM;dsimp only;by_cases e:u=b
   ·subst e;rw[aG,NJ rfl];rfl
   ·have:A u≠A b:=by cases u<;>cases b<;>first | exact absurd rfl e | exact aA | exact aA.symm
    rw[aR this,hAA,NI e];rfl
  have hl4:upd H3 (A b) (.lst [.int 0]) ls=some (.lst [.ref (A false),.ref (A true)]):=by rw[aR (lA b)];exact hl
  show Ct _ _ _ _ (upd H3 (A b) (.lst [.int 0]));generalize upd H3 (A b) (.lst [.int 0])=H4 at s4 hA4 hl4 ⊢;refine cm (λσ H'=>∃(lr:Addr) (D:Bool->Addr),σ=[some (.str (sd b)),some (.str (tx cs)),some (.ref ls),some (.ref lr),none,none,none,none,none,none,none]/\aV H H'/\OS H' ls lr A D/\EU ls lr A D/\(∀u,H (D u)=none)/\∀u,vD H' A D b cs u 0) ?_ ?_
  ·nofun;intro d0 n0 d1 n1;refine⟨two,λlr nr=>?_⟩;have f01:d0≠d1:=λe=>by subst e;rw[aG] at n1;cases n1
   have f1l:d1≠lr:=λe=>by subst e;rw[aG] at nr;cases nr
   have f0l:d0≠lr:=λe=>by subst e;rw[aR f01,aG] at nr;cases nr
   have s5:=s4.trans ((aV.refl _).new (o:=.dK []) n0);have s6:=s5.trans ((aV.refl _).new (o:=.dK []) n1);have s7:=s6.trans ((aV.refl _).new (o:=.lst [.ref d0,.ref d1]) nr);have t5:=(aV.refl H4).new (o:=.dK []) n0;have t6:=t5.trans ((aV.refl _).new (o:=.dK []) n1);have t7:=t6.trans ((aV.refl _).new (o:=.lst [.ref d0,.ref d1]) nr);have A0d:∀u,A u≠d0:=λu=>ak (hA4 u) n0;have A1d:∀u,A u≠d1:=λu=>ak (t5 _ _ (hA4 u)) n1;have Ald:∀u,A u≠lr:=λu=>ak (t6 _ _ (hA4 u)) nr;have l0d:ls≠d0:=ak hl4 n0;have l1d:ls≠d1:=ak (t5 _ _ hl4) n1;refine⟨lr,λu=>if u then d1 else d0,rfl,s7,⟨t7 _ _ hl4,aG⟩,⟨aA,f01,λu v=>by cases v;exact A0d u;exact A1d u,lA,λu=>by cases u;exact l0d;exact l1d,λu=>(Ald u).symm,λu=>by cases u;exact f0l.symm;exact f1l.symm⟩,λu=>by cases u;exact s4.free n0;exact s5.free n1,λu=>⟨t7 _ _ (hA4 u),⟨[],?_,bF _,i7.nil⟩,λx hx=>?_⟩⟩
   ·cases u
    ·show upd _ _ _ d0=_;rw[aR f0l,aR f01,aG]
    ·show upd _ _ _ d1=_;rw[aR f1l,aG]
   ·have hx':x∈(tM u b).1:=hx;unfold tM at hx';dsimp only at hx'
    split at hx'<;>simp at hx'
    lia
  ·rintro σ H5 ⟨lr,D,rfl,s5,os5,S,nD,st5⟩;nofun;refine cm (λσ H'=>∃(x4 x5 x6 x7:Option V),σ=[some (.str (sd b)),some (.str (tx cs)),some (.ref ls),some (.ref lr),x4,x5,x6,x7,none,none,none]/\aV H H'/\OS H' ls lr A D/\∀u,vD H' A D b cs u (cs.length+1)) ?_ ?_
   ·nofun;rw[bX];refine⟨kA (by lia),by lia,by lia,?_⟩;rw[show ((cs.length:Int)+1).toNat=cs.length+1 by lia];refine mS (n:=cs.length+1) (λi σ H'=>∃(x4 x5 x6 x7:Option V),σ=[some (.str (sd b)),some (.str (tx cs)),some (.ref ls),some (.ref lr),x4,x5,x6,x7,none,none,none]/\aV H H'/\OS H' ls lr A D/\∀u,vD H' A D b cs u i) ⟨_,_,_,_,rfl,s5,os5,st5⟩ ?_ ?_
    ·rintro i σ H6 hi ⟨x4,x5,x6,x7,rfl,s6,os6,st6⟩;nofun;refine⟨by decide,by decide,?_⟩;refine mS (n:=Int.toNat 2) (λj σ H'=>∃(x5 x6 x7:Option V),σ=[some (.str (sd b)),some (.str (tx cs)),some (.ref ls),some (.ref lr),some (.int (0+(i:Int))),x5,x6,x7,none,none,none]/\aV H H'/\OS H' ls lr A D/\∀u:Bool,vD H' A D b cs u (if (if u then 1 else 0)<j then i+1 else i)) ⟨_,_,_,rfl,s6,os6,λu=>by rw[NI (by lia)];exact st6 u⟩ ?_ ?_
     ·rintro j σ H7 hj ⟨x5,x6,x7,rfl,s7,os7,st7⟩;obtain⟨u,rfl⟩:∃u:Bool,j=if u then 1 else 0:=by
       have hj':j<2:=hj;rcases(show j=0\/j=1 by lia) with rfl | rfl
       ·exact⟨false,rfl⟩
       ·exact⟨true,rfl⟩
      have me:=st7 u;rw[NI (by lia)] at me;have fin:∀H',aV H H'->OS H' ls lr A D->vD H' A D b cs u (i+1)->(∀v,v≠u->vD H' A D b cs v (if (if v then 1 else 0)<(if u then 1 else 0:Nat) then i+1 else i))->∀v:Bool,vD H' A D b cs v (if (if v then 1 else 0)<(if u then 1 else 0:Nat)+1 then i+1 else i):=λH' a1 a2 a3 a4 v=>by
       by_cases e:v=u
       ·subst e;rw[NJ (by lia)];exact a3
       ·have:=a4 v e;cases u<;>cases v<;>first | exact absurd rfl e | exact this
      have atA:oj [V.ref (A false),V.ref (A true)] (0+((if u then 1 else 0:Nat):Int))=some (.ref (A u)):=by cases u<;>rfl
      have atD:oj [V.ref (D false),V.ref (D true)] (0+((if u then 1 else 0:Nat):Int))=some (.ref (D u)):=by cases u<;>rfl
      have atS:oj [V.str (Str.ofString "cd"),V.str (Str.ofString "bd")] (0+((if u then 1 else 0:Nat):Int))=some (.str (if u then Str.ofString "bd" else Str.ofString "cd")):=by cases u<;>rfl
      have oth:∀(H':Hp),(∀v,v≠u->vD H' A D b cs v (if (if v then 1 else 0)<(if u then 1 else 0:Nat) then i+1 else i))->∀o1,(∀v,v≠u->vD (upd H' (A u) o1) A D b cs v (if (if v then 1 else 0)<(if u then 1 else 0:Nat) then i+1 else i))/\(∀v,v≠u->vD (upd H' (D u) o1) A D b cs v (if (if v then 1 else 0)<(if u then 1 else 0:Nat) then i+1 else i)):=λH' h o1=>⟨λv hv=>(h v hv).updA S hv,λv hv=>(h v hv).updD S hv⟩
      have en:(0:Int)+(i:Int)+1=((i+1:Nat):Int):=by lia
      obtain⟨kk,k1,k2,k3⟩:=me.rw;nofun;simp only[en];have tl:=bX cs;have tz:(tx cs).length<=sizeLine:=by rw[tl];exact kA (by lia)
      refine⟨tz,?_⟩;by_cases hlt:i<cs.length
      ·refine kK (by rw[tl];lia) ⟨tz,cs[i],?_,two,λp np=>?_⟩
       ·rw[lY,Int.zero_add];exact gB (aN hlt)
       have hc:cs[i]? = some cs[i]:=aN hlt;have lc:=lt _ (bB hc);obtain⟨e1,e2⟩:=EV (b:=b) (u:=u) hc;have s8:=s7.trans ((aV.refl _).new (o:=.lst [V.str (Str.ofString "cd"),V.str (Str.ofString "bd")]) np);have t8:=(aV.refl H7).new (o:=.lst [V.str (Str.ofString "cd"),V.str (Str.ofString "bd")]) np;have os8:OS (upd H7 p (.lst [V.str (Str.ofString "cd"),V.str (Str.ofString "bd")])) ls lr A D:=⟨t8 _ _ os7.l,t8 _ _ os7.r⟩
       have st8:∀v,vD (upd H7 p (.lst [V.str (Str.ofString "cd"),V.str (Str.ofString "bd")])) A D b cs v (if (if v then 1 else 0)<(if u then 1 else 0:Nat) then i+1 else i):=λv=>⟨t8 _ _ (st7 v).st,let ⟨kk,a,c⟩:=(st7 v).rw;⟨kk,t8 _ _ a,c⟩,(st7 v).le⟩
       have sA:upd H7 p (.lst [V.str (Str.ofString "cd"),V.str (Str.ofString "bd")]) (A u)=some (.lst (iK (SS b cs u i).1)):=t8 _ _ me.st;have sD:upd H7 p (.lst [V.str (Str.ofString "cd"),V.str (Str.ofString "bd")]) (D u)=some (.dK kk):=t8 _ _ k1;refine⟨_,_,cF.of aG,atS,_,_,rfl,rfl,_,rfl,?_⟩;rw[G6 lc];generalize upd H7 p (.lst [V.str (Str.ofString "cd"),V.str (Str.ofString "bd")])=H8 at s8 os8 st8 sA sD ⊢;by_cases hin:isIn u cs[i]=true
       ·refine gT (by rw[hin];decide) ⟨tz,gT (by rw[tl];lia) ?_⟩;rw[rj hin] at e2;refine⟨tz,kK (by rw[tl];lia) ⟨_,_,cF.of os8.l,atA,lX sA,A u,_,_,rfl,rfl,sA,by rw[nZ];exact be (by have:=ou u b cs i;rw[e1];lia),_,_,_,rfl,s8.new (nA u),os8.updA S,fin _ (s8.new (nA u)) (os8.updA S) ⟨by rw[aG,e2,mQ],⟨kk,by rw[aR (S.ad u u).symm];exact sD,by lia,by rw[e2];exact k3⟩,?_⟩ (oth _ (λv hv=>st8 v) _).1⟩⟩;rw[e2];intro x hx;rcases aQ.mp hx with h1 | h1
        ·have:=me.le x h1;lia
        ·simp at h1;lia
       ·have hin':isIn u cs[i]=false:=by simpa using hin
        refine kK (by rw[hin'];rfl) ⟨_,_,cF.of os8.l,atA,lX sA,?_⟩;obtain⟨Pq,o,eo⟩:∃P x,(SS b cs u i).1=P++[x]:=nh (by rw[e1];exact vS lt hr0 u i hlt (by rw[bw,hc];exact hin'));have ole:=me.le o (by rw[eo];simp);rw[oq hin' eo] at e2;have ep:(SS b cs u (i+1)).1=Pq:=by rw[e2]
        have ep2:(SS b cs u (i+1)).2=ju (SS b cs u i).2 (i+1) o:=by rw[e2]
        rw[eo] at sA;refine⟨A u,iK (Pq++[o]),.int o,rfl,rfl,sA,oQ Pq o,?_⟩;rw[oR];have hD1:upd H8 (A u) (.lst (iK Pq)) (D u)=some (.dK kk):=by rw[aR (S.ad u u).symm];exact sD
        have o1:=os8.updA (u:=u) (o:=.lst (iK Pq)) S;have o2:=o1.updD (u:=u) (o:=.dK (putK kk (.inl (o:Int):Key) (.int ((i+1:Nat):Int)))) S;have o3:=o2.updD (u:=u) (o:=.dK (putK (putK kk (.inl (o:Int):Key) (.int ((i+1:Nat):Int))) (.inl ((i+1:Nat):Int):Key) (.int (o:Int)))) S;have g1:=cj kk (.inl (o:Int):Key) (.int ((i+1:Nat):Int));have g2:=cj (putK kk (.inl (o:Int):Key) (.int ((i+1:Nat):Int))) (.inl ((i+1:Nat):Int):Key) (.int (o:Int));refine⟨_,_,cF.of o1.r,atD,D u,_,rfl,nK.k (k:=.inl (o:Int)) hD1 (be (by lia)),_,_,cF.of o2.r,atD,D u,_,rfl,nK.k (k:=.inl ((i+1:Nat):Int)) aG (be (by lia)),_,_,_,rfl,((s8.new (nA u)).new (nD u)).new (nD u),o3,fin _ (((s8.new (nA u)).new (nD u)).new (nD u)) o3 ⟨by rw[aR (S.ad u u),aR (S.ad u u),aG,ep],⟨_,aG,by lia,?_⟩,?_⟩ ?_⟩
        ·have r2:=(k3.put (a:=o) (b:=i+1) (by lia)).put (a:=i+1) (b:=o) (by lia);rw[Bk (by lia)] at r2;rw[ep2];exact r2
        ·rw[ep];intro x hx;have:=me.le x (by rw[eo];exact bG _ hx);lia
        ·exact(oth _ (oth _ (oth _ (λv hv=>st8 v) _).1 _).2 _).2
      ·refine gT (by rw[tl];lia) ⟨false,rfl,gT (by decide) ⟨tz,kK (by rw[tl];lia) ⟨_,_,cF.of os7.l,atA,A u,_,rfl,.inl (cF.of me.st),?_⟩⟩⟩;have hiE:i=cs.length:=by lia
       have e1:SS b cs u i=stN u b cs cs.length:=by rw[hiE];exact tI.1
       have e2:SS b cs u (i+1)=([],fin2 b cs u):=by rw[hiE];exact tI.2
       have ep2:(SS b cs u (i+1)).2=fin2 b cs u:=by rw[e2]
       rw[nZ];rcases BY (u:=u) lt hr0 with h0 | ⟨o,h0⟩
       ·refine gT (by rw[e1,h0];simp) ⟨tz,gT (by rw[tl];lia) ⟨_,_,_,rfl,s7,os7,fin _ s7 os7 ⟨by rw[me.st,e1,e2,h0],⟨kk,k1,by lia,?_⟩,by rw[e2];simp⟩ λv _=>st7 v⟩⟩;rw[ep2,CJ h0,<-e1];exact k3
       ·obtain⟨Pq,hPq,eo⟩:∃P:List Nat,P=[]/\(SS b cs u i).1=P++[o]:=⟨[],rfl,by rw[e1,h0];rfl⟩
        have ep:(SS b cs u (i+1)).1=Pq:=by rw[e2,hPq]
        have ole:=me.le o (by rw[eo];simp);have sA:=me.st;rw[eo] at sA;refine kK (by rw[eo];simp) ⟨_,_,cF.of os7.l,atA,lX sA,?_⟩;refine⟨A u,iK (Pq++[o]),.int o,rfl,rfl,sA,oQ Pq o,?_⟩;rw[oR];have hD1:upd H7 (A u) (.lst (iK Pq)) (D u)=some (.dK kk):=by rw[aR (S.ad u u).symm];exact k1
        have o1:=os7.updA (u:=u) (o:=.lst (iK Pq)) S;have o2:=o1.updD (u:=u) (o:=.dK (putK kk (.inl (o:Int):Key) (.int ((i+1:Nat):Int)))) S;have o3:=o2.updD (u:=u) (o:=.dK (putK (putK kk (.inl (o:Int):Key) (.int ((i+1:Nat):Int))) (.inl ((i+1:Nat):Int):Key) (.int (o:Int)))) S;have g1:=cj kk (.inl (o:Int):Key) (.int ((i+1:Nat):Int));have g2:=cj (putK kk (.inl (o:Int):Key) (.int ((i+1:Nat):Int))) (.inl ((i+1:Nat):Int):Key) (.int (o:Int));refine⟨_,_,cF.of o1.r,atD,D u,_,rfl,nK.k (k:=.inl (o:Int)) hD1 (be (by lia)),_,_,cF.of o2.r,atD,D u,_,rfl,nK.k (k:=.inl ((i+1:Nat):Int)) aG (be (by lia)),_,_,_,rfl,((s7.new (nA u)).new (nD u)).new (nD u),o3,fin _ (((s7.new (nA u)).new (nD u)).new (nD u)) o3 ⟨by rw[aR (S.ad u u),aR (S.ad u u),aG,ep],⟨_,aG,by lia,?_⟩,?_⟩ ?_⟩
        ·have r2:=(k3.put (a:=o) (b:=i+1) (by lia)).put (a:=i+1) (b:=o) (by lia);rw[ep2];refine r2.congr ?_;rw[e1,hiE];exact EF h0
        ·rw[ep];intro x hx;have:=me.le x (by rw[eo];exact bG _ hx);lia
        ·exact(oth _ (oth _ (oth _ (λv hv=>st7 v) _).1 _).2 _).2
     ·rintro σ H7 ⟨x5,x6,x7,rfl,s7,os7,st7⟩;refine⟨_,_,_,_,rfl,s7,os7,λu=>?_⟩;have:=st7 u;rw[NJ (by cases u<;>decide)] at this;exact this
    ·rintro σ H6 ⟨x4,x5,x6,x7,rfl,s6,os6,st6⟩;exact⟨_,_,_,_,rfl,s6,os6,st6⟩
   ·rintro σ H6 ⟨x4,x5,x6,x7,rfl,s6,os6,st6⟩;obtain⟨T,t1,t2,VT,eT⟩:=(xY lt hr0).ends;nofun;refine⟨bF _,λp np=>?_⟩;simp only[F6];have pr:lr≠p:=ak os6.r np;have pD:∀u,D u≠p:=λu=>by obtain⟨kk,h,_⟩:=(st6 u).rw;exact ak h np
    have nH:H p=none:=s6.free np;have hD6:∀u,∃kk,H6 (D u)=some (.dK kk)/\i7 kk cs.length (fin2 b cs u):=λu=>by
     obtain⟨kk,h,_,r⟩:=(st6 u).rw;rw[tI.2] at r;exact⟨kk,h,r⟩
    have look:∀(H':Hp) (u:Bool) (r y:Nat),(∀u,∃kk,H' (D u)=some (.dK kk)/\i7 kk cs.length (fin2 b cs u))->r<=cs.length->fin2 b cs u r=some y->k6 H' (D u) (.int (r:Nat)) (some (.int (y:Nat))):=λH' u r y h2 hr hf=>by
     obtain⟨kk,g1,g2⟩:=h2 u;have e2:=k6.k (k:=.inl (r:Int)) g1;rw[g2.get r hr,hf] at e2;exact e2
    have hD0:∀u,∃kk,upd H6 p (.lst []) (D u)=some (.dK kk)/\i7 kk cs.length (fin2 b cs u):=λu=>by obtain⟨kk,h,r⟩:=hD6 u;exact⟨kk,by rw[aR (pD u)];exact h,r⟩
    have ix:∀u:Bool,oj [V.ref (D false),V.ref (D true)] (if u=true then 1 else 0)=some (.ref (D u)):=λu=>by cases u<;>rfl
    refine⟨_,_,cF.of (by rw[aR pr];exact os6.r),ix b,D b,_,rfl,look _ b 0 _ hD0 (bF _) (VT.st 0 (by lia)),?_⟩;refine⟨λm σ H'=>∃(j:Nat),σ=[some (.str (sd b)),some (.str (tx cs)),some (.ref ls),some (.ref lr),x4,x5,x6,x7,some (.ref p),some (.int (if (pth (fin2 b cs) b j).2=true then 1 else 0)),some (.int ((pth (fin2 b cs) b (j+1)).1:Nat))]/\aV H H'/\H' lr=some (.lst [.ref (D false),.ref (D true)])/\(∀u,∃kk,H' (D u)=some (.dK kk)/\i7 kk cs.length (fin2 b cs u))/\H' p=some (.lst ((ordF (fin2 b cs) b j).map V.int))/\j+1<=T/\m=T-j,⟨_,0,rfl,s6.new nH,by rw[aR pr];exact os6.r,hD0,aG,t1,rfl⟩,?_⟩;rintro m σ H7 ⟨j,rfl,s7,hr7,hD7,hl7,hj,rfl⟩;nofun;rw[bX];refine⟨kA (by lia),?_⟩;refine gX (λhle=>?_) (λhgt=>?_)
    ·have hjT:j+1<T:=by
      apply dw;intro z;have:j+1=T:=by lia
      rw[this,eT] at hle;lia
     have hD8:∀u,∃kk,upd H7 p (.lst ((ordF (fin2 b cs) b (j+1)).map V.int)) (D u)=some (.dK kk)/\i7 kk cs.length (fin2 b cs u):=λu=>by obtain⟨kk,h,r⟩:=hD7 u;exact⟨kk,by rw[aR (pD u)];exact h,r⟩
     have hr8:upd H7 p (.lst ((ordF (fin2 b cs) b (j+1)).map V.int)) lr=some (.lst [.ref (D false),.ref (D true)]):=by rw[aR pr];exact hr7
     have g4:=look _ (pth (fin2 b cs) b (j+1)).2 _ _ hD8 (VT.le (j+1) hjT) (VT.st (j+1) hjT);refine⟨λσ' H'=>σ'=[some (.str (sd b)),some (.str (tx cs)),some (.ref ls),some (.ref lr),x4,x5,x6,x7,some (.ref p),some (.int (if (pth (fin2 b cs) b (j+1)).2=true then 1 else 0)),some (.int ((pth (fin2 b cs) b (j+1+1)).1:Nat))]/\aV H H'/\H' lr=some (.lst [.ref (D false),.ref (D true)])/\(∀u,∃kk,H' (D u)=some (.dK kk)/\i7 kk cs.length (fin2 b cs u))/\H' p=some (.lst ((ordF (fin2 b cs) b (j+1)).map V.int)),λσ' H' ⟨e,a,c,d,f⟩=>⟨T-(j+1),by lia,j+1,e,a,c,d,f,hjT,rfl⟩,?_⟩;have el:(ordF (fin2 b cs) b j).map V.int++[V.int ((pth (fin2 b cs) b (j+1)).1:Nat)]=(ordF (fin2 b cs) b (j+1)).map V.int:=by rw[rF,aO];rfl
     have et:(1:Int)-(if (pth (fin2 b cs) b j).2=true then 1 else 0)=if (pth (fin2 b cs) b (j+1)).2=true then 1 else 0:=by rw[uL];cases (pth (fin2 b cs) b j).2<;>rfl
     refine⟨lX hl7,_,hl7,by rw[aE,uR];exact be (by lia),?_⟩;rw[el,et];exact⟨_,_,cF.of hr8,ix _,_,_,rfl,g4,rfl,s7.new nH,hr8,hD8,aG⟩
    ·have ejT:j+1=T:=by
      apply dw;intro z;have:=VT.le (j+1) (by lia);lia
     refine⟨_,.inl ⟨cF.of hl7,λo no=>?_⟩⟩;refine q o T _ (s7.trans ((aV.refl _).new no)) t1 VT eT ?_;rw[aG,<-ejT];rfl
def Dl{K:NQ}{H:Hp}{a b o1 o2:Addr}{s:Bool}{ms ns:List Int}{Q:VK}(ha:du H a o1 s ms)(hb:du H b o2 s ns)(q:Q (.bl (!decide (ms=ns))) H):yw K true (.ref a) (.ref b) H Q:=by
 obtain⟨d,e,h1,h2,h3,h4,h5,h6⟩:=Ju (K:=K) (Q:=λv H'=>v=.bl (decide (ms=ns))/\H'=H) ha hb ⟨by simp,rfl⟩;refine⟨d,e,h1,h2,h3,h4,h5,?_⟩;have:PyData.eqv d e=decide (ms=ns):=by have:=h6.1;injection this
 rw[NJ rfl,this];exact q
def GP(b:Bool)(ms ns:List Int):PyData.eqv (zJ b ms) (zJ b ns)=decide (ms=ns):=by
 show (PyData.eqv (.str (sd b)) (.str (sd b))&&(PyData.eqvAll (ms.map PyData.int) (ns.map PyData.int)&&true))=_;rw[ni,Bool.and_true];have e:PyData.eqv (.str (sd b)) (.str (sd b))=true:=by cases b<;>decide +kernel
 rw[e,m5]
def yo{b:Bool}{n:Nat}(hn:n<=20):(cW n (bL b) (bR b)).Nodup:=by
 refine fo.mpr λi j hi hj lt e=>?_;have h1:=(jd hn (aN hi)).2.2;have h2:=(jd hn (aN hj)).2.2;rw[e,<-h2] at h1;lia
def xh{b:Bool}{cs ds:List Nat}(C:yc b cs)(D:yc b ds)(e:jr b cs=jr b ds):cs=ds:=by rw[<-C.code,e,D.code]
def Bg{b:Bool}{n:Nat}{cs:List Nat}(hn:n<=20)(C:yc b cs)(hm:cs∈cW n (bL b) (bR b)):((cW n (bL b) (bR b)).map λds=>zJ b (jr b ds)).countP (λe=>PyData.eqv e (zJ b (jr b cs)))=1:=by
 rw[List.countP_map,List.countP_congr (q:=λds=>ds==cs)]
 ·have:=(yo (b:=b) hn).count (a:=cs);rw[NJ hm] at this;exact this
 ·intro ds hd;obtain⟨k,hk⟩:=fc hd;have D:=(jd hn hk).1;show PyData.eqv (zJ b (jr b ds)) (zJ b (jr b cs))=true<->_;rw[GP];simp only[NK,beq_iff_eq];exact⟨xh D C,λe=>by rw[e]⟩
def Dn{H:Hp}{b:Bool}{as:List Addr}{ss:List (List Nat)}(h:EZ H b as ss):gj H (as.map V.ref) (ss.map λds=>zJ b (jr b ds)):=by
 induction h with
 | nil=>exact .nil
 | cons r t ih=>
  obtain⟨o,z⟩:=r;exact .cons z.dat ih
def xk(b:Bool):∀ss:List (List Nat),PyData.canLayAll0 (ss.map λds=>zJ b (jr b ds))=true
 | []=>rfl
 | s::ss=>by
  show ((zJ b (jr b s)).canLay0&&PyData.canLayAll0 (ss.map λds=>zJ b (jr b ds)))=true;rw[xk b ss,(sZ (b:=b) (ns:=jr b s)).lay];rfl
def sY{H:Hp}{b:Bool}{as:List Addr}{ss:List (List Nat)}{k:Nat}{cs:List Nat}(h:EZ H b as ss)(e:ss[k]? = some cs):∃m o,as[k]? = some m/\du H m o b (jr b cs):=by
 induction h generalizing k with
 | nil=>simp at e
 | cons r t ih=>
  cases k with
  | zero=>cases e;obtain⟨o,z⟩:=r;exact⟨_,o,rfl,z⟩
  | succ k=>exact ih e
def Dm{H:Hp}{b:Bool}{as:List Addr}{ss:List (List Nat)}(h:EZ H b as ss):as.length=ss.length:=by
 induction h with
 | nil=>rfl
 | cons r t ih=>simp[ih]
def GM (B:oC mg) (E:Fn K mg "law" nU ["_law_script"]) (KI:dM P w K mg base 1 "_law_cell_at" jM ["_law_script","_law_k"] (xP K)) (Kl:dM P w K mg base 2 "_law_rest_of" jH ["_law_cell"] xG) (Km:dM P w K mg base 2 "_law_code_by" jK ["_law_rest","_law_side","_law_many"] xO) (Kt:dM P w K mg base 1 "_law_order_of" hZ ["_law_side","_law_code"] xH) (LZ:dM P w K mg base 6 "listed" kC ["side","n"] tj) (KW:dM P w K mg base 20 "number_of" gP ["maze"] xI) (Ku:dM P w K mg base 21 "numbered" iA ["side","n","number"] pR) (KU:dM P w K mg base 6 "coded" kc ["maze"] pT) (KD:dM P w K mg base 5 "decoded" gS ["side","code"] rq):dM P w K mg base 22 "law" nU ["_law_script"] (tm K):=E.mk' λf fd F=>by
 refine F.okS jQ (λvs H Q E h=>?_) (λcdv A outer s H vs Q E hr h=>?_)
 ·obtain⟨a,ns,rfl,_⟩:=h;rfl
 ·obtain⟨a,cs0,rfl,hS,hlen,kQ⟩:=h;have two:(2:Nat)<=sizeLine:=by decide
  refine⟨[some (.ref a),none,none,none,none,none,none,none,none,none],_,rfl,(L2.ie.h (dP (aW (i:=1) jQ.nd rfl (Or.inl rfl) (aS KI (hr.mono (by decide)) (by rfl) (aC (aX 0) (bY aK aD))))
   (dP (aW (i:=2) jQ.nd rfl (Or.inl rfl) (bO oS bK (aw jt (aX 1) aK) (λ_ _=>rfl)))
   (dP (aW (i:=3) jQ.nd rfl (Or.inl rfl) (aS Km (hr.mono (by decide)) (by rfl) (d6 (aS Kl (hr.mono (by decide)) (by rfl) (d6 (aS KI (hr.mono (by decide)) (by rfl) (aC (aX 0) (bY aK aD))) aD)) (aC (aX 2) (cL (aw jt (aw kh (aX 1) aK) aK) aD)))))
   (dP (cA (a8 ph (ae cI (by rfl) B.len aZ (aC (aX 3) aD)) aK (bI _))
   (aL (aW (i:=3) jQ.nd rfl (Or.inl rfl) (aS Km (hr.mono (by decide)) (by rfl) (d6 (aS Kl (hr.mono (by decide)) (by rfl) (d6 (aS KI (hr.mono (by decide)) (by rfl) (aC (aX 0) (bY aK aD))) aD)) (aC (aX 2) (bY aK aD))))))
   bQ)
   (dP (aW (i:=4) jQ.nd rfl (Or.inl rfl) (aS Kt (hr.mono (by decide)) (by rfl) (aC (aX 2) (aC (aX 3) aD))))
   (dP (aW (i:=5) jQ.nd rfl (Or.inl rfl) (ae cI (by rfl) B.len aZ (aC (aX 3) aD)))
   (dP (aW (i:=6) jQ.nd rfl (Or.inl rfl) (aS LZ (hr.mono (by decide)) (by rfl) (aC (aX 2) (aC (aX 5) aD))))
   (dP (cA (QW.pt (jU (a8 (sR (lq hr)) (bO bq (aX 6) (aS KW (hr.mono (by decide)) (by rfl) (jO (dJ (aC (aX 2) (aC (aX 4) aD))) aD)) (λ_ _=>rfl)) (dJ (aC (aX 2) (aC (aX 4) aD))) (bI _)) (jC (a8 o6 (iI b6 PySem.F.slot_list_count PySem.F.type_list_count (zL (lq hr)) (aX 6) (jO (dJ (aC (aX 2) (aC (aX 4) aD))) aD)) aK (bI _)))))
   (aL (ar kf))
   bQ)
   (dP (aW (i:=7) jQ.nd rfl (Or.inl rfl) (aw jt (aS KI (hr.mono (by decide)) (by rfl) (aC (aX 0) (bY aK aD))) (ae cB (by rfl) B.len aZ (aC (aX 6) aD))))
   (dP (aW (i:=8) jQ.nd rfl (Or.inl rfl) (aw jt (aS KI (hr.mono (by decide)) (by rfl) (aC (aX 0) (bY aK aD))) (ae cB (by rfl) B.len aZ (aC (aX 6) aD))))
   (dP (d8 ay rfl (eZ (c8 (aC (aX 7) (aC (aX 8) aD)))) (bS (i:=9) jQ.nd rfl (Or.inl rfl))
   (aF (cA (QW.pt (jU (a8 o6 (aS KW (hr.mono (by decide)) (by rfl) (bA (bO bq (aX 6) (aX 9) (λ_ _=>rfl)) aD)) (aX 9) (bI _)) (jC (a8 (sR (lq hr)) (aS Ku (hr.mono (by decide)) (by rfl) (aC (aX 2) (aC (aX 5) (aC (aX 9) aD)))) (bO bq (aX 6) (aX 9) (λ_ _=>rfl)) (bI _)))))
    (aL (ar kf))
    bQ)
    (aL (cA (a8 (sR (lq hr)) (aS KD (hr.mono (by decide)) (by rfl) (aC (aX 2) (d6 (aS KU (hr.mono (by decide)) (by rfl) (bA (bO bq (aX 6) (aX 9) (λ_ _=>rfl)) aD)) aD))) (bO bq (aX 6) (aX 9) (λ_ _=>rfl)) (bI _))
    (aL (ar kf))
    bQ))))
   (aL (ar (Fh (dQ (BX (lq hr)) (aX 7) (aX 8) (bI _)) (mN (nX (dQ (sR (lq hr)) (bO bq (aX 6) (aX 7) (λ_ _=>rfl)) (bO bq (aX 6) (aX 8) (λ_ _=>rfl)) (bI _)) (mN (dQ o6 (aS KU (hr.mono (by decide)) (by rfl) (bA (bO bq (aX 6) (aX 7) (λ_ _=>rfl)) aD)) (aS KU (hr.mono (by decide)) (by rfl) (bA (bO bq (aX 6) (aX 8) (λ_ _=>rfl)) aD)) (bI _)))))))))))))))))))),?_⟩
  refine cm (λσ H'=>∃c0:Int,σ=[some (.ref a),some (.int c0),none,none,none,none,none,none,none,none]/\H=H') ?_ ?_
  ·nofun;exact⟨a,cs0,0,rfl,hS,λc0=>⟨c0,rfl,rfl⟩⟩
  rintro σ H' ⟨c0,rfl,rfl⟩;refine cm (λσ H'=>σ=[some (.ref a),some (.int c0),some (.str (sd (decide (c0 % 2=1)))),none,none,none,none,none,none,none]/\H=H') ?_ ?_
  ·nofun;refine⟨by decide,by decide,_,IU (io _ (by decide)) (gJ _ (by decide)),?_⟩;rw[IT];exact⟨rfl,trivial⟩
  rintro σ H' ⟨rfl,rfl⟩;generalize hb:decide (c0 % 2=1)=b;refine cm (λσ H'=>∃cs,σ=[some (.ref a),some (.int c0),some (.str (sd b)),some (.str (tx cs)),none,none,none,none,none,none]/\aV H H'/\yc b cs) ?_ ?_
  ·nofun;refine⟨a,cs0,3,rfl,hS,λc1=>⟨c1,rfl,λr=>?_⟩⟩;nofun;have m0:0<=c0 / 2 % 4:=io _ (by decide);have m1:c0 / 2 % 4<4:=gJ _ (by decide);obtain⟨m,hm⟩:=gW m0;rw[hm] at m1 ⊢;exact⟨⟨by decide,by decide⟩,by decide,r,b,m,rfl,by lia,λcs H' s' C _=>⟨cs,rfl,s',C⟩⟩
  rintro σ H1 ⟨cs1,rfl,s1,C1⟩;refine cm (λσ H'=>∃cs,σ=[some (.ref a),some (.int c0),some (.str (sd b)),some (.str (tx cs)),none,none,none,none,none,none]/\aV H1 H'/\yc b cs/\cs.length<=7) ?_ ?_
  ·nofun;have l1:=C1.len;rw[bX];refine⟨kA (by lia),gX (λ_=>?_) (λh=>⟨cs1,rfl,aV.refl _,C1,by lia⟩)⟩;exact⟨a,cs0,3,rfl,s1.seq hS,λc1=>⟨c1,rfl,λr=>⟨r,b,1,rfl,by decide,λcs H' s' C h4=>⟨cs,rfl,s',C,by lia⟩⟩⟩⟩
  clear C1;rintro σ H2 ⟨cs,rfl,s2,C,h7⟩;have s12:=s1.trans s2;clear s1 s2;have M:=C.maze;refine cm (λσ H'=>∃o,σ=[some (.ref a),some (.int c0),some (.str (sd b)),some (.str (tx cs)),some (.ref o),none,none,none,none,none]/\aV H2 H'/\H' o=some (.tup ((jr b cs).map V.int))) ?_ ?_
  ·nofun;refine⟨b,cs,rfl,C.lts,C.len,C.res,λo T H3 s3 t1 V e h4=>?_⟩;have:=CZ V e M.vld M.last;subst this;exact⟨o,rfl,s3,h4⟩
  rintro σ H3 ⟨o,rfl,s3,ho⟩;refine cm (λσ H'=>σ=[some (.ref a),some (.int c0),some (.str (sd b)),some (.str (tx cs)),some (.ref o),some (.int (cs.length:Nat)),none,none,none,none]/\H3=H') ?_ ?_
  ·nofun;rw[bX];exact⟨kA (by lia),rfl,trivial⟩
  rintro σ H' ⟨rfl,rfl⟩;refine cm (λσ H'=>∃l as,σ=[some (.ref a),some (.int c0),some (.str (sd b)),some (.str (tx cs)),some (.ref o),some (.int (cs.length:Nat)),some (.ref l),none,none,none]/\aV H3 H'/\H' l=some (.lst (as.map V.ref))/\EZ H' b as (cW cs.length (bL b) (bR b))) ?_ ?_
  ·nofun;exact⟨b,_,rfl,by lia,λl as H' _ s' hl ml=>⟨l,as,rfl,s',hl,ml⟩⟩
  rintro σ H4 ⟨l,as,rfl,s4,hl,ml⟩;have ho4:=s4 _ _ ho;have s14:=s12.trans (s3.trans s4);clear s12 s3 s4 ho;have sl:(cW cs.length (bL b) (bR b)).length<=16384:=by
   rw[mJ];exact bJ (tE _ _ _) (bJ (eI (by decide) h7) (by decide))
  have al:=Dm ml;have hat:=Am C.lts C.res;refine cm (λσ H'=>σ=[some (.ref a),some (.int c0),some (.str (sd b)),some (.str (tx cs)),some (.ref o),some (.int (cs.length:Nat)),some (.ref l),none,none,none]/\aV H4 H') ?_ ?_
  ·nofun;refine⟨two,λp np=>?_⟩;have sp:=(aV.refl H4).new (o:=.tup [.str (sd b),.ref o]) np;refine⟨p,o,b,cs,rfl,⟨aG,sp _ _ ho4⟩,C,by lia,λH5 s5=>?_⟩;have s45:=sp.trans s5;have ml5:=ml.same s45;obtain⟨m,o',hm,hz⟩:=sY ml5 hat;dsimp only;rw[Ee];refine⟨_,_,cF.of (s45 _ _ hl),gB (by rw[a9,hm];rfl),two,λp' np'=>?_⟩;have s6:=(aV.refl H5).new (o:=.tup [.str (sd b),.ref o]) np';have s46:=s45.trans s6;refine Dl (hz.same s6) ⟨aG,s46 _ _ ho4⟩ ⟨_,rfl,gT (by simp) ⟨.inl ⟨rfl,_,cF.of (s46 _ _ hl)⟩,two,λp2 np2=>?_⟩⟩;have s7:=(aV.refl (upd H5 p' (.tup [.str (sd b),.ref o]))).new (o:=.tup [.str (sd b),.ref o]) np2;have s47:=s46.trans s7;have hz2:du _ p2 o b (jr b cs):=⟨aG,s47 _ _ ho4⟩
   refine⟨_,_,_,hz2.dat.rep,cF.of (s47 _ _ hl),(Dn (ml.same s47)).rep,sZ.lay,xk b _,sZ.deep,?_⟩;rw[Bg (by lia) C (bB hat)];exact gT (by simp) ⟨trivial,s47⟩
  rintro σ H5 ⟨rfl,s5⟩;have s15:=s14.trans s5;have hl5:=s5 _ _ hl;have ml5:=ml.same s5;clear s14 s5 hl ml;have pos:0<as.length:=by
   have:=(aJ.mp hat).1;lia
  refine cm (λσ H'=>∃k1:Nat,k1<as.length/\σ=[some (.ref a),some (.int c0),some (.str (sd b)),some (.str (tx cs)),some (.ref o),some (.int (cs.length:Nat)),some (.ref l),some (.int (k1:Nat)),none,none]/\H5=H') ?_ ?_
  ·nofun;refine⟨a,cs0,1,rfl,s15.seq hS,λc1=>⟨_,.inl (cF.of hl5),_,_,rfl,rfl,?_,?_⟩⟩
   ·rw[aE];lia
   ·rw[aE];dsimp only;obtain⟨k,hk⟩:=gW (io c1 (show (as.length:Int)≠0 by lia));have:=gJ c1 (show (0:Int)<as.length by lia);rw[hk] at this ⊢;exact⟨k,by lia,rfl,rfl⟩
  rintro σ H' ⟨k1,h1,rfl,rfl⟩;refine cm (λσ H'=>∃k2:Nat,k2<as.length/\σ=[some (.ref a),some (.int c0),some (.str (sd b)),some (.str (tx cs)),some (.ref o),some (.int (cs.length:Nat)),some (.ref l),some (.int (k1:Nat)),some (.int (k2:Nat)),none]/\H5=H') ?_ ?_
  ·nofun;refine⟨a,cs0,2,rfl,s15.seq hS,λc2=>⟨_,.inl (cF.of hl5),_,_,rfl,rfl,?_,?_⟩⟩
   ·rw[aE];lia
   ·rw[aE];dsimp only;obtain⟨k,hk⟩:=gW (io c2 (show (as.length:Int)≠0 by lia));have:=gJ c2 (show (0:Int)<as.length by lia);rw[hk] at this ⊢;exact⟨k,by lia,rfl,rfl⟩
  rintro σ H' ⟨k2,h2,rfl,rfl⟩;refine cm (λσ H'=>∃x,σ=[some (.ref a),some (.int c0),some (.str (sd b)),some (.str (tx cs)),some (.ref o),some (.int (cs.length:Nat)),some (.ref l),some (.int (k1:Nat)),some (.int (k2:Nat)),x]/\aV H5 H') ?_ ?_
  ·nofun;refine⟨two,λp np=>?_⟩;have sp:=(aV.refl H5).new (o:=.lst [.int (k1:Nat),.int (k2:Nat)]) np;have hp:upd H5 p (.lst [.int (k1:Nat),.int (k2:Nat)]) p=some (.lst ([k1,k2].map λk:Nat=>V.int k)):=aG;generalize upd H5 p (.lst [.int (k1:Nat),.int (k2:Nat)])=H6 at sp hp ⊢;refine⟨⟨_,cF.of hp⟩,lx (xs:=[k1,k2].map λk:Nat=>V.int k) (λ_ σ H'=>∃x,σ=[some (.ref a),some (.int c0),some (.str (sd b)),some (.str (tx cs)),some (.ref o),some (.int (cs.length:Nat)),some (.ref l),some (.int (k1:Nat)),some (.int (k2:Nat)),x]/\aV H6 H') ⟨_,rfl,aV.refl _⟩ (λ_ σ H' _ ⟨_,_,s⟩=>cF.of (s _ _ hp)) ?_ (λσ H' ⟨x,e,s⟩=>⟨x,e,sp.trans s⟩)⟩;rintro i x σ H7 hx ⟨x9,rfl,s7⟩;obtain⟨k,hk,rfl⟩:=jg hx;have kl:k<as.length:=by
    have:=bB hk;simp at this;rcases this with rfl | rfl<;>assumption
   obtain⟨ds,hd⟩:∃ds,(cW cs.length (bL b) (bR b))[k]? = some ds:=⟨_,aN (by lia)⟩
   obtain⟨D,dl,dk⟩:=jd (by lia) hd;have s57:=sp.trans s7;obtain⟨m,om,hm,hz⟩:=sY (ml5.same s57) hd;have at_:oj (as.map V.ref) (k:Int)=some (.ref m):=gB (by rw[a9,hm];rfl);nofun;refine⟨_,_,cF.of (s57 _ _ hl5),at_,m,om,b,ds,rfl,hz,D,by lia,λH8 s8=>?_⟩;rw[<-dk];refine⟨rfl,_,rfl,gT (by simp) ?_⟩;have s58:=s57.trans s8;refine⟨b,_,k,rfl,by lia,by rw[<-mJ];lia,λes m2 o2 H9 s9 he hz2=>?_⟩;rw[hd] at he;cases he;have s59:=s58.trans s9;refine⟨_,_,cF.of (s59 _ _ hl5),at_,Dl hz2 (hz.same (s8.trans s9)) ⟨_,rfl,gT (by simp) ?_⟩⟩;refine⟨_,_,cF.of (s59 _ _ hl5),at_,m,om,b,_,rfl,hz.same (s8.trans s9),D.maze.ord,D.maze.nc,λH10 s10=>⟨b,ds,by rw[D.code],D,λm3 o3 H11 s11 hz3=>?_⟩⟩;have s611:=s10.trans s11;exact⟨_,_,cF.of (s611 _ _ (s59 _ _ hl5)),at_,Dl hz3 (hz.same (s8.trans (s9.trans s611))) ⟨_,rfl,gT (by simp) ⟨_,rfl,s7.trans (s8.trans (s9.trans s611))⟩⟩⟩
  rintro σ H6 ⟨x,rfl,s6⟩;nofun;have hl6:=s6 _ _ hl5;have ml6:=ml5.same s6;refine EG ⟨_,rfl,gX (λ_=>kQ _) (λne=>?_)⟩;have ne:k1≠k2:=λe=>ne (by simp[e]);obtain⟨ds,hd⟩:∃ds,(cW cs.length (bL b) (bR b))[k1]? = some ds:=⟨_,aN (by lia)⟩
  obtain⟨es,he⟩:∃es,(cW cs.length (bL b) (bR b))[k2]? = some es:=⟨_,aN (by lia)⟩
  obtain⟨D,_,dk⟩:=jd (by lia) hd;obtain⟨E,_,ek⟩:=jd (by lia) he;have nd:ds≠es:=λe=>ne (by rw[dk,ek,e]);obtain⟨m1,o1,hm1,hz1⟩:=sY ml6 hd;obtain⟨m2,o2,hm2,hz2⟩:=sY ml6 he;have at1:oj (as.map V.ref) (k1:Int)=some (.ref m1):=gB (by rw[a9,hm1];rfl);have at2:oj (as.map V.ref) (k2:Int)=some (.ref m2):=gB (by rw[a9,hm2];rfl);refine⟨_,_,cF.of hl6,at1,_,_,cF.of hl6,at2,Dl hz1 hz2 ⟨_,rfl,kK (by simpa using λe=>nd (xh D E e)) ?_⟩⟩;refine⟨_,_,cF.of hl6,at1,m1,o1,b,_,rfl,hz1,D.maze.ord,D.maze.nc,λH7 s7=>⟨_,_,cF.of (s7 _ _ hl6),at2,m2,o2,b,_,rfl,hz2.same s7,E.maze.ord,E.maze.nc,λH8 s8=>?_⟩⟩;dsimp only;rw[D.code,E.code,Ec];have:decide (tx ds=tx es)=false:=NL λe=>nd (vJ e);rw[this];exact kQ _
end
def eS(K:NQ)(x:Str)(st:Stmt):Prop:=∃(f:Addr) (oc:Value) (od an:Option Addr) (osl:Array (Option Value)) (kV doc pm cdv ct:Value),PySem.W.nsIn K mainGlobals x=some (some (.ref f))/\K.lookup f=some ⟨oc,od,.func (PySem.W.fnOf x x (jh st) (iX st) (am st) .none kV doc pm an cdv ct),osl⟩/\PySem.W.codeIn K cdv x=true/\PySem.W.keepIn K (.ref f)=true
def fnIn{K:NQ}{x:Str}{st:Stmt}{f:Addr}{oc:Value}{od an:Option Addr}{osl:Array (Option Value)}{kV doc pm cdv ct:Value}(a:PySem.W.nsIn K mainGlobals x=some (some (.ref f)))(l:K.lookup f=some ⟨oc,od,.func (PySem.W.fnOf x x (jh st) (iX st) (am st) .none kV doc pm an cdv ct),osl⟩)(c:PySem.W.codeIn K cdv x=true)(k:PySem.W.keepIn K (.ref f)=true):eS K x st:=⟨_,_,_,_,_,_,_,_,_,_,a,l,c,k⟩
def ck{K:NQ}{h:Heap}{mg:Str->Option Value}(X:K.In h)(G:h.Ns mainGlobals mg){x:Str}{st:Stmt}{ps:List Str}(a:eS K x st)
  (hb:∀(kV doc pm:Value) (an:Option Addr) (cdv ct:Value) (us:List Value),us.length=ps.length->bindArgs (PySem.W.fnOf x x (jh st) (iX st) (am st) .none kV doc pm an cdv ct) ⟨us,[]⟩=pure (ps.zip us)):Fn K mg x st ps:=
 let ⟨f,_,_,_,_,_,_,_,_,_,a,l,c,k⟩:=a
 have F:=Gc (st:=st) l c k
 ⟨f,_,F,de X G a,F.binds hb⟩
def all_mk {l:PySem.W.OpenLaw} {w:World} {K:NQ} {h:Heap} {mg:Str->Option Value} {fa:Addr} (X:K.In h) (G:h.Ns mainGlobals mg) (hfa:mg "law"=some (.ref fa))
  (Kv:eS K "crossing" iC)
  (Kw:eS K "is_whole" gG)
  (Kx:eS K "is_below" gH)
  (LJ:eS K "is_side" gR)
  (Ky:eS K "is_order" iB)
  (LK:eS K "is_maze" jI)
  (K6:eS K "other_side" fA)
  (KQ:eS K "side_of_step" eY)
  (K1:eS K "rows_of_way" fI)
  (LL:eS K "bows_of" iF)
  (LM:eS K "crossed" jJ)
  (MT:eS K "vet" rA)
  (Lc:eS K "begun" jB)
  (K7:eS K "leading_on" fB)
  (Kd:eS K "other_end" gO)
  (L0:eS K "joined" kD)
  (Ls:eS K "step" jS)
  (Ke:eS K "letter_of" gQ)
  (Ld:eS K "coded" kc)
  (Kz:eS K "vet_code" gz)
  (K2:eS K "rows_across" fJ)
  (LN:eS K "decoded" gS)
  (LO:eS K "can_end" iE)
  (K3:eS K "next_states" fK)
  (Kf:eS K "ends_from" dO)
  (K4:eS K "ends_behind" eP)
  (Kg:eS K "vet_rings" gN)
  (LA:eS K "codes_of" iD)
  (L1:eS K "listed" kC)
  (Kh:eS K "number_of" gP)
  (K5:eS K "next_letter" fL)
  (LB:eS K "numbered" iA)
  (LP:eS K "_law_cell_at" jM)
  (Le:eS K "_law_mixed" mK)
  (LQ:eS K "_law_rest_of" jH)
  (M9:eS K "_law_go" yr)
  (LC:eS K "_law_at_first" iG)
  (LR:eS K "_law_closing" jL)
  (LS:eS K "_law_code_by" jK)
  (LD:eS K "_law_order_of" hZ)
  (L3:eS K "law" nU)
  {Lf:Tok} (K8:PySem.W.nsIn K mainGlobals "MOST_RINGS"=some (some (.int 20 Lf)))
  {MH:Tok} (LU:PySem.W.nsIn K mainGlobals "LETTERS"=some (some (.str (Str.ofString "abcd") MH)))
  {L4:Tok} (KR:PySem.W.nsIn K mainGlobals "LEFT_INWARDS"=some (some (.str (Str.ofString "ab") L4)))
  {LW:Tok} (KM:PySem.W.nsIn K mainGlobals "RIGHT_INWARDS"=some (some (.str (Str.ofString "ac") LW)))
  {MF:Addr} {MG:Obj} (Lg:PySem.W.nsIn K mainGlobals "SIDES"=some (some (.ref MF))) (Lh:K.lookup MF=some MG) (Li:L2.wQ MG ["l","r"])
  (MU:PySem.W.nsIn K mainGlobals "len"=some none) (Lj:PySem.W.nsIn K mainGlobals "range"=some none) (MV:PySem.W.nsIn K mainGlobals "int"=some none) (Lu:PySem.W.nsIn K mainGlobals "list"=some none) (Lk:PySem.W.nsIn K mainGlobals "tuple"=some none) (K9:PySem.W.nsIn K mainGlobals "isinstance"=some none) (MW:PySem.W.nsIn K mainGlobals "str"=some none) (Lv:PySem.W.nsIn K mainGlobals "bool"=some none) (L5:PySem.W.nsIn K mainGlobals "sorted"=some none) (MX:PySem.W.nsIn K mainGlobals "all"=some none) (MY:PySem.W.nsIn K mainGlobals "zip"=some none) (MZ:PySem.W.nsIn K mainGlobals "max"=some none) (M0:PySem.W.nsIn K mainGlobals "min"=some none) (LF:PySem.W.nsIn K mainGlobals "reversed"=some none) (Ki:PySem.W.nsIn K mainGlobals "enumerate"=some none) (M1:PySem.W.nsIn K mainGlobals "abs"=some none) (M2:PySem.W.nsIn K mainGlobals "sum"=some none) (Ka:PySem.W.nsIn K mainGlobals "ValueError"=some none) :
  ∃fd:FuncData,(∀(s:Shared) (v:Value),BindsTo s fd ⟨[v],[]⟩ [("_law_script",v)])/\∀base:Heap,K.In base->base.Ns mainGlobals mg->qW l.prog w K mg base Cb 22 fa fd ["_law_script"] (tm K):=by
 have B:oC mg:=⟨bE X G MU,bE X G Lj,bE X G MV,bE X G Lu,bE X G Lk,bE X G K9,bE X G MW,bE X G Lv,bE X G L5,bE X G MX,bE X G MY,bE X G MZ,bE X G M0,bE X G LF,bE X G Ki,bE X G M1,bE X G M2,bE X G Ka,⟨_,de X G K8⟩,⟨_,de X G LU⟩,⟨_,de X G KR⟩,⟨_,de X G KM⟩⟩
 have Kj:=L2.CC X G Lg Lh Li;have Lw:Fn K mg "crossing" iC ["bows"]:=ck X G Kv λ_ _ _ _ _ _=>L2.qX λ_=>rfl;have Lx:Fn K mg "is_whole" gG ["thing"]:=ck X G Kw λ_ _ _ _ _ _=>L2.qX λ_=>rfl;have Ly:Fn K mg "is_below" gH ["thing","bound"]:=ck X G Kx λ_ _ _ _ _ _=>L2.vI λ_ _=>rfl;have MI:Fn K mg "is_side" gR ["thing"]:=ck X G LJ λ_ _ _ _ _ _=>L2.qX λ_=>rfl;have Lz:Fn K mg "is_order" iB ["thing"]:=ck X G Ky λ_ _ _ _ _ _=>L2.qX λ_=>rfl;have MJ:Fn K mg "is_maze" jI ["thing"]:=ck X G LK λ_ _ _ _ _ _=>L2.qX λ_=>rfl;have Ll:Fn K mg "other_side" fA ["side"]:=ck X G K6 λ_ _ _ _ _ _=>L2.qX λ_=>rfl;have L6:Fn K mg "side_of_step" eY ["maze","step"]:=ck X G KQ λ_ _ _ _ _ _=>L2.vI λ_ _=>rfl;have L7:Fn K mg "rows_of_way" fI ["maze"]:=ck X G K1 λ_ _ _ _ _ _=>L2.qX λ_=>rfl;have MK:Fn K mg "bows_of" iF ["maze"]:=ck X G LL λ_ _ _ _ _ _=>L2.qX λ_=>rfl;have ML:Fn K mg "crossed" jJ ["maze"]:=ck X G LM λ_ _ _ _ _ _=>L2.qX λ_=>rfl;have Mh:Fn K mg "vet" rA ["maze"]:=ck X G MT λ_ _ _ _ _ _=>L2.qX λ_=>rfl;have M6:Fn K mg "begun" jB ["side"]:=ck X G Lc λ_ _ _ _ _ _=>L2.qX λ_=>rfl;have Lm:Fn K mg "leading_on" fB ["state"]:=ck X G K7 λ_ _ _ _ _ _=>L2.qX λ_=>rfl;have Ln:Fn K mg "other_end" gO ["signs","place"]:=ck X G Kd λ_ _ _ _ _ _=>L2.vI λ_ _=>rfl;have M3:Fn K mg "joined" kD ["left","right"]:=ck X G L0 λ_ _ _ _ _ _=>L2.vI λ_ _=>rfl;have Ma:Fn K mg "step" jS ["state","letter"]:=ck X G Ls λ_ _ _ _ _ _=>L2.vI λ_ _=>rfl;have Lp:Fn K mg "letter_of" gQ ["left_inwards","right_inwards"]:=ck X G Ke λ_ _ _ _ _ _=>L2.vI λ_ _=>rfl;have M7:Fn K mg "coded" kc ["maze"]:=ck X G Ld λ_ _ _ _ _ _=>L2.qX λ_=>rfl;have MA:Fn K mg "vet_code" gz ["side","code"]:=ck X G Kz λ_ _ _ _ _ _=>L2.vI λ_ _=>rfl;have L8:Fn K mg "rows_across" fJ ["code","inwards","begins_here"]:=ck X G K2 λ_ _ _ _ _ _=>L2.Hf λ_ _ _=>rfl;have MM:Fn K mg "decoded" gS ["side","code"]:=ck X G LN λ_ _ _ _ _ _=>L2.vI λ_ _=>rfl;have MN:Fn K mg "can_end" iE ["state","rows"]:=ck X G LO λ_ _ _ _ _ _=>L2.vI λ_ _=>rfl;have L9:Fn K mg "next_states" fK ["state"]:=ck X G K3 λ_ _ _ _ _ _=>L2.qX λ_=>rfl;have LV:Fn K mg "ends_from" dO ["state","rows","known"]:=ck X G Kf λ_ _ _ _ _ _=>L2.Hf λ_ _ _=>rfl;have La:Fn K mg "ends_behind" eP ["state","letter","rows","known"]:=ck X G K4 λ_ _ _ _ _ _=>L2.Jd λ_ _ _ _=>rfl;have Lq:Fn K mg "vet_rings" gN ["n"]:=ck X G Kg λ_ _ _ _ _ _=>L2.qX λ_=>rfl;have MB:Fn K mg "codes_of" iD ["side","n"]:=ck X G LA λ_ _ _ _ _ _=>L2.vI λ_ _=>rfl;have M4:Fn K mg "listed" kC ["side","n"]:=ck X G L1 λ_ _ _ _ _ _=>L2.vI λ_ _=>rfl;have Lr:Fn K mg "number_of" gP ["maze"]:=ck X G Kh λ_ _ _ _ _ _=>L2.qX λ_=>rfl;have Lb:Fn K mg "next_letter" fL ["state","rows","ahead","known"]:=ck X G K5 λ_ _ _ _ _ _=>L2.Jd λ_ _ _ _=>rfl;have MC:Fn K mg "numbered" iA ["side","n","number"]:=ck X G LB λ_ _ _ _ _ _=>L2.Hf λ_ _ _=>rfl;have MO:Fn K mg "_law_cell_at" jM ["_law_script","_law_k"]:=ck X G LP λ_ _ _ _ _ _=>L2.vI λ_ _=>rfl;have M8:Fn K mg "_law_mixed" mK ["_law_cell"]:=ck X G Le λ_ _ _ _ _ _=>L2.qX λ_=>rfl;have MP:Fn K mg "_law_rest_of" jH ["_law_cell"]:=ck X G LQ λ_ _ _ _ _ _=>L2.qX λ_=>rfl;have Mk:Fn K mg "_law_go" yr ["_law_ends","_law_letter"]:=ck X G M9 λ_ _ _ _ _ _=>L2.vI λ_ _=>rfl;have MD:Fn K mg "_law_at_first" iG ["_law_side"]:=ck X G LC λ_ _ _ _ _ _=>L2.qX λ_=>rfl;have MQ:Fn K mg "_law_closing" jL ["_law_ends"]:=ck X G LR λ_ _ _ _ _ _=>L2.qX λ_=>rfl;have MR:Fn K mg "_law_code_by" jK ["_law_rest","_law_side","_law_many"]:=ck X G LS λ_ _ _ _ _ _=>L2.Hf λ_ _ _=>rfl;have ME:Fn K mg "_law_order_of" hZ ["_law_side","_law_code"]:=ck X G LD λ_ _ _ _ _ _=>L2.vI λ_ _=>rfl;have Mi:Fn K mg "law" nU ["_law_script"]:=ck X G L3 λ_ _ _ _ _ _=>L2.qX λ_=>rfl;have key:∀base:Heap,K.In base->base.Ns mainGlobals mg->dM l.prog w K mg base 22 "law" nU ["_law_script"] (tm K):=λbase KB GB=>by
  have Ko:=u4 (P:=l.prog) (w:=w) (base:=base) Lw;have KG:=uX (P:=l.prog) (w:=w) (base:=base) B Lx;have KH:=uZ Ly KG;have Jz:=ve (P:=l.prog) (w:=w) (base:=base) Kj MI;have Kn:=uY B Lz KG;have LG:=vf B MJ Jz Kn;have KA:=qe (P:=l.prog) (w:=w) (base:=base) Ll;have KP:=oh L6 KA;have KY:=pj (P:=l.prog) (w:=w) (base:=base) B L7;have KN:=vn B MK KP KY;have LH:=vh B Kj ML KN Ko;have MS:=GL Mh LG LH;have KF:=B2 (P:=l.prog) (w:=w) (base:=base) M6;have KC:=qf (P:=l.prog) (w:=w) (base:=base) B Lm;have KS:=sU (P:=l.prog) (w:=w) (base:=base) Ln;have LY:=zG B M3 KS;have Jy:=De B Ma LY;have Kb:=sW (P:=l.prog) (w:=w) (base:=base) Lp;have KU:=B1 B M7 MS KN Kb;have Kq:=uU B MA KF Jy KC;have KJ:=pp (P:=l.prog) (w:=w) (base:=base) B L8;have KD:=vg B MM Jz KA Kq KJ;have KO:=vm MN KC;have KZ:=pq B L9 Jy;have D_ends:∀n,dM l.prog w K mg base (5+n) "ends_from" dO ["state","rows","known"] (oG n):=by
   intro n
   induction n with
   | zero=>exact B0 LV
   | succ n ih=>exact sX B LV KO KZ ih
  have d7:=pz La Jy (D_ends 13);have Kc:=sT B Lq KH;have Kr:=u5 B MB KF Jy KO;have LZ:=zF B M4 Kr KD;have KW:=sV B Lr KU KF d7 Jy;have K0:=pw B Lb d7;have Ku:=uW B MC Jz Kc KF (D_ends 13) KH K0 Jy KD;have KI:=vk (P:=l.prog) (w:=w) (base:=base) B MO;have LX:=BZ (P:=l.prog) (w:=w) (base:=base) M8;have Kl:=vd MP LX;have M5:=IQ (P:=l.prog) (w:=w) (base:=base) B Mk;have Ks:=u6 (P:=l.prog) (w:=w) (base:=base) MD;have LI:=vj (P:=l.prog) (w:=w) (base:=base) B MQ;have Km:=vi B MR Ks M5 LI;have Kt:=uV (P:=l.prog) (w:=w) (base:=base) B ME;exact GM B Mi KI Kl Km Kt LZ KW Ku KU KD
 obtain⟨f0,oc0,od0,Mb,sl0,Mc,Md,Me,Mf,Mg,L3,Mj,_,_⟩:=L3;have e:=hfa.symm.trans (de X G L3);cases e;refine⟨PySem.W.fnOf "law" "law" (jh nU) (iX nU) (am nU) .none Mc Md Me Mb Mf Mg,λs v=>.of_eq rfl,λbase KB GB=>?_⟩;obtain⟨f,fd,F,m,b,ok⟩:=(key base KB GB).ex;rw[de X G L3] at m;cases m;obtain⟨_,_,_,_,_,_,_,_,_,rfl,lk,_⟩:=F.ex;rw[Mj] at lk;cases lk;exact ok
def walk{l:PySem.W.OpenLaw}{q:Program}{loose:List Str}{XP:(Str->Option Value)->Heap->Prop}{YP:World->Heap->Prop}{d:DefRec}{K:Params->NQ}(hn:l.most=some 63)(hdf:d.params.defaults=[])
  (hY:∀(w:World) (h:Heap),YP w h->(K w.params).In h)
  (F:∀(w:World) (mg:Str->Option Value) (fa:Addr) (h:Heap),(K w.params).In h->h.Ns mainGlobals mg->mg d.name=some (.ref fa) →
   ∃fd:FuncData,(∀(s:Shared) (u:Value),BindsTo s fd ⟨[u],[]⟩ [("_law_script",u)])/\∀base:Heap,(K w.params).In base->base.Ns mainGlobals mg->qW l.prog w (K w.params) mg base Cb 22 fa fd ["_law_script"] (tm (K w.params))) :
  PySem.W.WalkO q loose XP YP l.row.toRowW d [] (λf vs=>PySem.call f vs):=
 L2.wX (n:=63) (k:=22) (x:="_law_script") (CX:=λ_=>Cb) (sp:=λw=>tm (K w.params)) hn (by decide) hdf ⟨rfl,by decide,by decide,rfl⟩ hY F (λ_ _ a ns hl _ hS=>⟨a,ns,rfl,hS,hl,λ_=>rfl⟩) λ_ _ _ _ _ z=>z
end Rm
open PySem PySem.W PyProof.Rows
local macro_rules | `(tactic| walk_at "kf") => `(tactic| exact Rm.fnIn (by k_is) (by k_is) (by k_is) (by k_is))
set_option maxRecDepth 100000 in
set_option maxHeartbeats 0 in
theorem PySem.Challenge.cw_ringmaze_k37_whole_numbers_and_lists_holds : PySem.Challenge.rw_ringmaze_k37_whole_numbers_and_lists.Holds := by
 w_on; o_law; k_head; (case hw => w_witness2)
 k_fill
 refine Rm.walk (l := PySem.Challenge.rw_ringmaze_k37_whole_numbers_and_lists) rfl rfl (λw h Y => PySem.W.kIn_of Y) ?F
 case F =>
  intro w mg fa h KX G hmg;refine' Rm.all_mk KX G hmg ?Kv ?Kw ?Kx ?LJ ?Ky ?LK ?K6 ?KQ ?K1 ?LL ?LM ?MT ?Lc ?K7 ?Kd ?L0 ?Ls ?Ke ?Ld ?Kz ?K2 ?LN ?LO ?K3 ?Kf ?K4 ?Kg ?LA ?L1 ?Kh ?K5 ?LB ?LP ?Le ?LQ ?M9 ?LC ?LR ?LS ?LD ?L3 ?K8 ?LU ?KR ?KM ?Lg ?Lh ?Li ?MU ?Lj ?MV ?Lu ?Lk ?K9 ?MW ?Lv ?L5 ?MX ?MY ?MZ ?M0 ?LF ?Ki ?M1 ?M2 ?Ka
  (case Kv => walk_at "kf")
  (case Kw => walk_at "kf")
  (case Kx => walk_at "kf")
  (case LJ => walk_at "kf")
  (case Ky => walk_at "kf")
  (case LK => walk_at "kf")
  (case K6 => walk_at "kf")
  (case KQ => walk_at "kf")
  (case K1 => walk_at "kf")
  (case LL => walk_at "kf")
  (case LM => walk_at "kf")
  (case MT => walk_at "kf")
  (case Lc => walk_at "kf")
  (case K7 => walk_at "kf")
  (case Kd => walk_at "kf")
  (case L0 => walk_at "kf")
  (case Ls => walk_at "kf")
  (case Ke => walk_at "kf")
  (case Ld => walk_at "kf")
  (case Kz => walk_at "kf")
  (case K2 => walk_at "kf")
  (case LN => walk_at "kf")
  (case LO => walk_at "kf")
  (case K3 => walk_at "kf")
  (case Kf => walk_at "kf")
  (case K4 => walk_at "kf")
  (case Kg => walk_at "kf")
  (case LA => walk_at "kf")
  (case L1 => walk_at "kf")
  (case Kh => walk_at "kf")
  (case K5 => walk_at "kf")
  (case LB => walk_at "kf")
  (case LP => walk_at "kf")
  (case Le => walk_at "kf")
  (case LQ => walk_at "kf")
  (case M9 => walk_at "kf")
  (case LC => walk_at "kf")
  (case LR => walk_at "kf")
  (case LS => walk_at "kf")
  (case LD => walk_at "kf")
  (case L3 => walk_at "kf")
  (case K8 => k_is)
  (case LU => k_is)
  (case KR => k_is)
  (case KM => k_is)
  (case Lg => k_is)
  (case Lh => k_is)
  (case Li => exact L2.yi rfl rfl (by decide) (.cons ⟨_, rfl⟩ (.cons ⟨_, rfl⟩ .nil)))
  (case MU => k_is)
  (case Lj => k_is)
  (case MV => k_is)
  (case Lu => k_is)
  (case Lk => k_is)
  (case K9 => k_is)
  (case MW => k_is)
  (case Lv => k_is)
  (case L5 => k_is)
  (case MX => k_is)
  (case MY => k_is)
  (case MZ => k_is)
  (case M0 => k_is)
  (case LF => k_is)
  (case Ki => k_is)
  (case M1 => k_is)
  (case M2 => k_is)
  (case Ka => k_is)
#print axioms PySem.Challenge.cw_ringmaze_k37_whole_numbers_and_lists_holds
