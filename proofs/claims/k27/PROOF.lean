import PyProof.Rows.All
import Wide.All
import OpenK.AllK
import Wide.FinOn
import Lean
import PyProof.EqAt
import PyProof.EqKinds
import PyProof.TupleCall
import KE.LcSums
import PyProof.StrLawsJoin
import KE.KSortedM
import KE.KSortTup
import KE.KSortKey
import PyProof.WalkInts
import PyProof.MinMaxWalk
import KE.KRevIter
import PyProof.ReprLen
import PyProof.P3Eq
import PySem.Challenge.RW_ringmaze_k27_closed_and_opened
abbrev V4:=@PySem.wpAny_truthy_bool
abbrev V5:=@PySem.wpAny_execs_nil
abbrev V6:=@PySem.wpAny_execs_cons
abbrev V7:=@PySem.wpAny_holding
abbrev V8:=@PySem.wpAny_standAt
abbrev V9:=@PySem.wpAny_passesOwn
abbrev Va:=@PySem.wpAny_pure
abbrev Vb:=@PySem.wpAny_pyIter_list
abbrev Vc:=@PySem.wpAny_pyIter_tuple
abbrev Vd:=@PySem.sizeLine_eq
abbrev Ve:=@PyProof.Rows.vals1
abbrev Vf:=@PySem.wpAny_call
abbrev Vg:=@PySem.codeAny_mono
abbrev Vh:=@PySem.wpAny_Call_Name_kw
abbrev Vi:=@PySem.wpAny_newObj_type
abbrev Vj:=@PyProof.Rows.mirror_perm
abbrev Vk:=@PySem.wpAny_call_entry
abbrev Vl:=@PySem.codeAny_builtin
abbrev Vm:=@PySem.wpAny_attempt
abbrev Vn:=@PySem.wpAny_ite_false
abbrev Vo:=@PySem.codeAny_call_builtin
abbrev Vp:=@PySem.wpAny_check_ga_own
abbrev Vq:=@PySem.tupleKind_room_in1
abbrev Vr:=@PySem.wpAny_field
abbrev Vs:=@PySem.wpAny_seqItems
abbrev Vt:=@PySem.wpAny_setField
abbrev Vu:=@PySem.wpAny_setField_rec
abbrev Vv:=@PySem.wpAny_pyIter_zip
abbrev Vw:=@PySem.wpAny_loadPart_at
abbrev Vx:=@PySem.wpAny_typeOf_ref
abbrev Vy:=@if_neg
abbrev Vz:=@if_pos
abbrev WA:=@decide_eq_true_eq
abbrev WB:=@decide_eq_false
abbrev WC:=@decide_eq_true
abbrev WD:=@of_decide_eq_true
abbrev WE:=@if_true
abbrev WF:=@if_false
abbrev WG:=PySem.W.Frag
abbrev aB:=@PySem.Heap.get?_push_of_some
abbrev aD:=@List.length_map
abbrev aH:=@List.getElem?_eq_some_iff
abbrev aJ:=@Nat.le_refl
abbrev aL:=@List.mem_cons
abbrev aM:=@List.mem_cons_of_mem
abbrev aN:=@PySem.Heap.get?_push_size
abbrev aQ:=@PySem.F.plainAttrs_list
abbrev aR:=@PySem.Heap.lt_size
abbrev aS:=@List.getElem?_eq_getElem
abbrev aT:=@List.size_toArray
abbrev aU:=@List.length_append
abbrev aW:=@Nat.lt_of_lt_of_le
abbrev aX:=@PyProof.Rows.boot_isinstance
abbrev aY:=@PySem.F.type_list_append
abbrev aZ:=@PySem.F.slot_list_append
abbrev a7:=@List.mem_cons_self
abbrev a9:=@List.mem_append
abbrev ac:=@Nat.zero_le
abbrev ah:=@Nat.le_of_lt
abbrev ai:=@Bool.and_eq_true
abbrev am:=@Nat.ne_of_lt
abbrev ar:=@List.map_append
abbrev au:=@List.flatMap_cons
abbrev aw:=@PySem.boot_len
abbrev ax:=@Bool.false_ne_true
abbrev ay:=@List.mem_append_right
abbrev bA:=@PySem.PassesOwn.never
abbrev bC:=@List.map_cons
abbrev bG:=@List.mem_of_getElem?
abbrev bH:=@List.mem_append_left
abbrev bM:=@List.mem_map
abbrev bP:=@PySem.F.excBase_ValueError
abbrev bS:=@List.map_map
abbrev bU:=@PySem.W.mg_none_of
abbrev bV:=@List.take_add_one
abbrev bW:=@List.getElem?_map
abbrev bX:=@List.drop_eq_getElem_cons
abbrev bZ:=@Option.some.inj
abbrev b9:=@PySem.W.nsMap_none_of_in
abbrev ba:=@PySem.Paired.length
abbrev bc:=@List.mem_singleton
abbrev bd:=@List.map_congr_left
abbrev be:=@PySem.W.mg_of
abbrev bh:=@List.countP_cons
abbrev bp:=@PySem.W.Looks.at
abbrev bq:=@List.length_cons
abbrev bu:=@List.length_singleton
abbrev cB:=@List.take_length
abbrev cC:=@List.all_eq_true
abbrev cG:=@List.getElem?_append_right
abbrev cH:=@Nat.le_trans
abbrev cK:=@PyProof.Rows.boot_tuple
abbrev cL:=@List.perm_middle
abbrev cM:=@List.not_mem_nil
abbrev cQ:=@List.mem_range
abbrev cS:=@List.append_assoc
abbrev cT:=@Bool.false_eq_true
abbrev cU:=@Array.getD_eq_getD_getElem?
abbrev cX:=@List.nodup_cons
abbrev cY:=@List.append_nil
abbrev cZ:=@List.length_take
abbrev c9:=@PySem.W.kia_one
abbrev cc:=@List.perm_append_comm
abbrev ck:=@PySem.Heap.size_push
abbrev cu:=@List.getElem?_append_left
abbrev cy:=@PySem.mem_of_lookup
abbrev cz:=@PySem.W.InstAt.type
abbrev dA:=@List.filterMap_cons
abbrev dC:=@Nat.lt_succ_of_lt
abbrev dE:=@List.eq_nil_of_length_eq_zero
abbrev dF:=@PySem.F.attrBase_ValueError
abbrev dG:=@PyProof.Rows.boot_sorted
abbrev dL:=@Int.emod_lt_of_pos
abbrev dS:=@PySem.W.looks_findIn
abbrev dU:=@PyProof.Rows.callWith_type1
abbrev dY:=@Nat.mod_two_eq_zero_or_one
abbrev d9:=@PySem.F.type_list_pop
abbrev dc:=@PySem.F.slot_list_pop
abbrev df:=@PySem.Heap.get?_update_self
abbrev di:=@PySem.W.isNs_of_in
abbrev dk:=@Nat.lt_irrefl
abbrev dq:=@List.pairwise_append
abbrev dt:=@List.pairwise_map
abbrev dw:=@Int.emod_nonneg
abbrev eG:=@PyProof.Rows.boot_list
abbrev eI:=@List.map_nil
abbrev eT:=@PySem.F.slot_tuple_iterator_next
abbrev eU:=@PyProof.Rows.boot_int
abbrev eZ:=@Classical.byContradiction
abbrev ef:=@Array.getElem?_eq_getElem
abbrev eh:=@List.nil_append
abbrev em:=@List.length_nil
abbrev eu:=@PySem.Heap.Ns.of_isNs
abbrev fG:=@Nat.le_succ
abbrev fH:=@Int.zero_add
abbrev fI:=@Int.le_refl
abbrev fO:=@List.countP_pos_iff
abbrev fW:=@Int.min_eq_right
abbrev fX:=@Int.max_eq_right
abbrev fY:=@Int.eq_ofNat_of_zero_le
abbrev f6:=@List.map_id
abbrev ff:=@List.range_succ
abbrev fg:=@List.isPerm_iff
abbrev fh:=@List.find?_cons
abbrev fj:=@Int.min_eq_left
abbrev fk:=@Int.max_eq_left
abbrev fx:=@List.any_cons
abbrev gP:=@PySem.W.hideAll_none
abbrev gQ:=@PySem.Heap.get?_none_of_le
abbrev gU:=@Array.perm_iff_toList_perm
abbrev gg:=@Ne.symm
abbrev gh:=@Nat.ne_of_gt
abbrev gj:=@Nat.lt_succ_self
abbrev gl:=@List.cons_append
abbrev gn:=@List.pairwise_iff_getElem
abbrev gp:=@Decidable.byContradiction
abbrev gu:=@List.countP_eq_zero
abbrev gv:=@Int.toNat_of_nonneg
abbrev gw:=@PySem.Heap.get?_update_ne
abbrev h7:=@PySem.F.args_tuple_add_2
abbrev iA:=@Bool.true_and
abbrev iD:=@Bool.eq_iff_iff
abbrev iH:=@PySem.W.callWith_K
abbrev iI:=@Nat.lt_of_le_of_lt
abbrev iJ:=@List.pairwise_cons
abbrev iK:=@List.filter_append
abbrev iL:=@List.countP_append
abbrev iM:=@Bool.true_eq_false
abbrev iS:=@PySem.F.entry_tuple_add
abbrev iT:=@PyProof.Rows.boot_range
abbrev i4:=@PySem.W.cellsFrom_some
abbrev i5:=@PySem.F.slot_tuple_add
abbrev i6:=@List.take_of_length_le
abbrev i7:=@List.length_eq_one_iff
abbrev i8:=@List.getElem?_set_self
abbrev i9:=@PySem.Heap.get?_update_of_ne
abbrev ic:=@PySem.Heap.get?_push_ne
abbrev ik:=@PyProof.Rows.boot_max
abbrev io:=@List.Perm.append_left
abbrev jC:=@PyProof.Rows.callWith_builtin1
abbrev jD:=@List.nodup_range
abbrev jE:=@List.mem_flatMap
abbrev jF:=@List.lookup_cons
abbrev jG:=@List.ext_getElem
abbrev jR:=@List.getElem?_set_ne
abbrev jV:=@PySem.W.exm_one
abbrev jW:=@Option.map_some
abbrev jX:=@List.of_mem_zip
abbrev jY:=@List.mem_filter
abbrev jZ:=@List.forIn_cons
abbrev j4:=@PySem.F.slot_zip_next
abbrev j5:=@PySem.F.args_tuple_iterator_next_1
abbrev j8:=@PySem.W.hideAll_get
abbrev j9:=@List.length_reverse
abbrev ja:=@PySem.Heap.SameBut.update
abbrev jb:=@Array.length_toList
abbrev jg:=@Nat.sub_zero
abbrev jh:=@Nat.lt_trans
abbrev jj:=@PySem.F.entry_tuple_iterator_next
abbrev kL:=@PySem.W.of_hideAll
abbrev kM:=@PySem.W.looks_find
abbrev kN:=@Nat.eq_zero_or_pos
abbrev kO:=@List.getElem?_take
abbrev kP:=@List.append_of_mem
abbrev kR:=@PySem.Draws.strAscii
abbrev kS:=@PySem.Code.quiet_builtin
abbrev kT:=@PySem.Calls.spliced_cons
abbrev kU:=@PySem.Calls.Name_function_global
abbrev kW:=@Bool.xor_false
abbrev ki:=@PySem.W.handed_on
abbrev km:=@List.reverse_perm
abbrev kn:=@List.reverse_cons
abbrev ko:=@List.length_range
abbrev kq:=@List.countP_congr
abbrev kt:=@List.any_eq_false
abbrev ku:=@Int.toNat_natCast
abbrev ky:=@Classical.not_not
abbrev kz:=@Bool.not_eq_true'
abbrev lA:=@PySem.F.slot_list_insert
abbrev lB:=@Option.isSome_iff_exists
abbrev lP:=@Prod.ext
abbrev lQ:=@Option.getD_some
abbrev lT:=@List.reverse_eq_nil_iff
abbrev lU:=@List.length_drop
abbrev lV:=@List.getElem?_replicate
abbrev lW:=@List.flatMap_nil
abbrev lX:=@List.any_eq_true
abbrev lZ:=@PySem.Heap.size_update
abbrev lq:=@PySem.F.plainAttrs_str
abbrev lw:=@Option.map_eq_some_iff
abbrev mB:=@Nat.zero_add
abbrev mD:=@Nat.le_of_eq
abbrev mE:=@List.range_succ_eq_map
abbrev mF:=@List.drop_of_length_le
abbrev mG:=@List.all_map
abbrev mH:=@Int.ofNat_lt
abbrev mI:=@Int.le_total
abbrev mJ:=@Int.le_of_lt
abbrev mM:=@Array.getElem?_eq_none
abbrev mW:=@List.take_left'
abbrev mX:=@List.foldl_cons
abbrev mY:=@PySem.F.entry_bexc_ga
abbrev m8:=@PySem.F.type_str_join
abbrev m9:=@PySem.F.slot_str_join
abbrev md:=@PyProof.Rows.boot_min
abbrev me:=@PyProof.Rows.boot_all
abbrev mf:=@List.take_append_drop
abbrev mh:=@List.length_replicate
abbrev mi:=@List.length_filter_le
abbrev mj:=@List.getElem?_eq_none
abbrev mm:=@List.eq_nil_or_concat
abbrev mn:=@List.countP_mono_left
abbrev mq:=@List.concat_eq_append
abbrev mw:=@List.Pairwise.and_mem
abbrev mx:=@Array.mem_of_getElem?
abbrev nU:=@List.drop_take
abbrev qG:=@Nat.sub_self
abbrev qH:=@Nat.add_zero
abbrev qI:=@Int.lt_trans
set_option Elab.async false
set_option linter.all false
set_option maxRecDepth 100000
def PySem.W.Fast.tw6370763898829429344:Nat:=0
def PySem.W.Fast.tw17401207600163045239:Nat:=0
def PySem.W.Fast.tw5466906081062104044:Nat:=0
def PySem.W.Fast.tw7264911354369235565:Nat:=0
def PySem.W.Fast.tw9082131882773919794:Nat:=0
def PySem.W.Fast.tw9630139963109355937:Nat:=0
def PySem.W.Fast.tw18036115645779197619:Nat:=0
def PySem.W.Fast.tw3396315672479278562:Nat:=0
def PySem.W.Fast.tw883030005877873372:Nat:=0
def PySem.W.Fast.tw18007179869749443999:Nat:=0
def PySem.W.Fast.tw5796146806077756857:Nat:=0
def PySem.W.Fast.tw4988349023507164677:Nat:=0
def PySem.W.Fast.tw532464416288814772:Nat:=0
def PySem.W.Fast.tw5246731189843935498:Nat:=0
def PySem.W.Fast.tw6900278108831136612:Nat:=0
def PySem.W.Fast.tw18173586891086292216:Nat:=0
def PySem.W.Fast.tw3611131284937875480:Nat:=0
def PySem.W.Fast.tw2003058145738780882:Nat:=0
def PySem.W.Fast.tw12121245378153996101:Nat:=0
def PySem.W.Fast.tw16972525312163412314:Nat:=0
def PySem.W.Fast.tw12195023262720266940:Nat:=0
def PySem.W.Fast.tw3454114301564677271:Nat:=0
def PySem.W.Fast.tw5431730565572995849:Nat:=0
def PySem.W.Fast.tw322832385417594798:Nat:=0
def PySem.W.Fast.tw10038508993266399514:Nat:=0
def PySem.W.Fast.tw16450468187529793490:Nat:=0
def PySem.W.Fast.tw1093358076380242688:Nat:=0
def PySem.W.Fast.tw15479594083000274040:Nat:=0
def PySem.W.Fast.tw2353943051688855990:Nat:=0
def PySem.W.Fast.tw7785764674464897371:Nat:=0
def PySem.W.Fast.tw10692054278031221705:Nat:=0
def PySem.W.Fast.tw6439639016959635340:Nat:=0
def PySem.W.Fast.tw2125075441515207692:Nat:=0
def PySem.W.Fast.tw13766559492556247723:Nat:=0
def PySem.W.Fast.tw10148108430309377504:Nat:=0
def PySem.W.Fast.tw9400413614155425164:Nat:=0
def PySem.W.Fast.tw7122425332509977030:Nat:=0
def PySem.W.Fast.tw7495189793846589056:Nat:=0
def PySem.W.Fast.tw17669386685205725668:Nat:=0
def PySem.W.Fast.tw6557583370416598301:Nat:=0
def PySem.W.Fast.tw16430508960865794370:Nat:=0
def PySem.W.Fast.tw9393062917883946628:Nat:=0
def PySem.W.Fast.tw1170536536145227381:Nat:=0
def PySem.W.Fast.tw17124549667565055244:Nat:=0
def PySem.W.Fast.tw14310591571473549573:Nat:=0
def PySem.W.Fast.tw15030004986851821716:Nat:=0
def PySem.W.Fast.tw6311221858610683479:Nat:=0
def PySem.W.Fast.tw11490303849207565015:Nat:=0
def PySem.W.Fast.tw7105914960149681132:Nat:=0
def PySem.W.Fast.tw12673328933864324220:Nat:=0
def PySem.W.Fast.tw15075697206222682287:Nat:=0
def PySem.W.Fast.tw848993411909507894:Nat:=0
def PySem.W.Fast.tw14102402107655755499:Nat:=0
def PySem.W.Fast.tw7342918419177241989:Nat:=0
def PySem.W.Fast.tw16428352745308856278:Nat:=0
namespace PySem.W.Fast
def tw3278429011466887023:=0
def tw17169589074658376757:=0
def tw13671631755874497922:=0
def tw16470744167984716033:=0
def tw3451667649222644905:=0
def tw18080724452428070731:=0
def tw18183094023879793143:=0
def tw15089446939577802819:=0
def tw14954423730904099512:=0
def tw161340594788135185:=0
def tw17706949093231305231:=0
def tw1016510814282683845:=0
def tw8139412579248280126:=0
def tw13466862944437585910:=0
def tw5581147114462448250:=0
def tw16370672721382060011:=0
def tw8994144201013341571:=0
def tw410136662848294419:=0
def tw9184920991746995255:=0
def tw17360352141983353208:=0
def tw6803027465914561826:=0
def tw10433913313877355381:=0
def tw9541696084391998077:=0
def tw9426959384330659692:=0
def tw13758547161792515396:=0
def tw2097332665532448794:=0
def tw10809146131258233047:=0
def tw16582877293582419241:=0
def tw17880023401253555305:=0
def tw4071051598667909122:=0
def tw16787677069881966865:=0
def tw1544054611763155766:=0
def tw11573624023854658402:=0
def tw14088924610087701515:=0
def tw10535783522261112309:=0
def tw5221203359261547235:=0
def tw1982316931348061043:=0
def tw6339706991126402274:=0
def tw9160631677371495938:=0
def tw17827658370686044912:=0
def tw882366354902347323:=0
def tw3389755167470338338:=0
def tw12209244774346721322:=0
def tw16501619834609504998:=0
def tw13197795599142274354:=0
def tw5215272696199098619:=0
def tw1484393551309009285:=0
def tw503682639270592435:=0
def tw15622430022049339354:=0
def tw17178619983493652331:=0
def tw12721237228687894177:=0
def tw11453036146142334326:=0
def tw1174903710427535121:=0
def tw11206841175387823641:=0
def tw13474235711755173764:=0
def tw14346374570182714294:=0
def tw7560598089098084675:=0
def tw1461802946342629519:=0
def tw8725020108289763562:=0
def tw1317309078991725514:=0
def tw8858163690274139071:=0
def tw12138388384538485310:=0
def tw3555215806557411863:=0
def tw2071694744956477814:=0
def tw6707293924333187675:=0
def tw9381317964748022010:=0
def tw10647350121742831611:=0
def tw3460528996512329984:=0
def tw12433137468286647650:=0
def tw7008738686374010645:=0
def tw12885694639967652011:=0
def tw15345289622697399319:=0
def tw15114200669386102806:=0
def tw12768894462691209329:=0
def tw4027964923039455892:=0
def tw2546914562288885580:=0
def tw6775949188493434623:=0
def tw2936690664759238109:=0
def tw9735122229002349557:=0
def tw635347703891282775:=0
def tw2394674862129750359:=0
def tw16161561183094506184:=0
def tw16111133252242927380:=0
def tw12688707326475234147:=0
def tw13571707254561670612:=0
def tw17105894459018996882:=0
def tw7180418707633392645:=0
def tw17643332965719321804:=0
def tw5729675456155534813:=0
def tw7549679653684676493:=0
def tw1503821006432632941:=0
def tw11117520949153686005:=0
def tw9519284978484282321:=0
def tw5647868082724840520:=0
def tw16468116203379178443:=0
def tw11699676488914672776:=0
def tw10863987673076816870:=0
def tw4837364625991148186:=0
def tw4200564910149581807:=0
def tw11176437952730865946:=0
def tw6431218413030494861:=0
def tw6188719394443208129:=0
def tw3745486511869467066:=0
def tw3601900655430146220:=0
def tw16107786982836679386:=0
def tw1496716411834608385:=0
def tw13958799980968004586:=0
def tw9283333414420350143:=0
def tw5482473823047581339:=0
def tw12956593967141762510:=0
def tw10219588484171704545:=0
def tw5472183989899554549:=0
def tw7536088632340926874:=0
def tw10173467405325802273:=0
def tw4899691321984622802:=0
def tw14053972959214964250:=0
def tw2287927498284018847:=0
def tw5451136863567336339:=0
def tw668676812523426759:=0
def tw2189552345944126882:=0
def tw887031970027212054:=0
def tw15974649530422467941:=0
def tw10487146897293473340:=0
def tw2332891074260074801:=0
def tw150857855788764061:=0
def tw4474059386727211947:=0
def tw7473985899680329316:=0
def tw4115488610383109475:=0
def tw377472745871983606:=0
def tw5809106023454723835:=0
def tw17103559225237713218:=0
def tw10448151033614396474:=0
def tw5426745158557706956:=0
def tw1954191817525341326:=0
def tw5028269464285155637:=0
def tw15410148562170633255:=0
def tw10081859484038068921:=0
def tw15933113810584537990:=0
def tw15140660237016710147:=0
def tw10332644387487279681:=0
def tw9286241811894571498:=0
def tw9937174910133353821:=0
def tw8292478194573033069:=0
def tw7888118372259602080:=0
def tw6248959573806489454:=0
def tw4714561197693676199:=0
def tw8876293128128512956:=0
def tw13259909433184325087:=0
def tw16417371167084451037:=0
def tw12529527809327266291:=0
def tw17480082963542400170:=0
def tw1541392835565125428:=0
def tw13317789785352316226:=0
def tw5226902123980775829:=0
def tw16366229124524808721:=0
def tw14732233201618378574:=0
def tw6066906370466062323:=0
def tw11180429750946113995:=0
def tw9885190423342333941:=0
def tw7548673212681497621:=0
def tw2430720147365079449:=0
def tw17673284827457993491:=0
def tw1488658578151620031:=0
def tw9169671618719834955:=0
def tw7453445386497633355:=0
def tw11560316544098681858:=0
def tw8391669773308937440:=0
def tw17019940760757050985:=0
def tw14092529095568140459:=0
def tw13174174267895758129:=0
def tw13290773979774332099:=0
def tw12867214568266185431:=0
def tw1913976544607834250:=0
def tw3307333175594195081:=0
def tw17747038546415582716:=0
def tw10588755771442394300:=0
def tw3389100577577232225:=0
def tw5149777729920564450:=0
def tw5685994216121348564:=0
def tw2932508794027713374:=0
def tw11730851174059847905:=0
def tw18108525636210970403:=0
def tw16642006206818981492:=0
def tw16260412592988143908:=0
def tw8826539592011416176:=0
def tw6658956300961591037:=0
def tw3964696300172050544:=0
def tw16807495360634850264:=0
def tw11639727323661718006:=0
def tw6640218765551309117:=0
def tw3028380746747298250:=0
def tw14533445715698505146:=0
def tw8768881179557822228:=0
def tw15511432805031833824:=0
def tw14036409753170845795:=0
def tw11802588186817227900:=0
def tw1008511101462659232:=0
def tw14562817297933994662:=0
def tw15708181321175052655:=0
def tw1065207562427664000:=0
def tw17933839555644807600:=0
def tw7533029992002316655:=0
def tw14499705401263902653:=0
def tw5144876855852477960:=0
def tw12105131022922504576:=0
def tw8148799392581874515:=0
def tw9511035881421337:=0
def tw1415174118549103545:=0
def tw6423538019801742545:=0
def tw14311777710351325736:=0
def tw11170854745377789502:=0
def tw1435530904203954751:=0
def tw1473861585914609245:=0
def tw1028708593511539699:=0
def tw1037565848826108002:=0
def tw17504081728342490810:=0
def tw17674840733245331188:=0
def tw4687308389429190211:=0
def tw1544085482805453983:=0
def tw15776909452142507370:=0
def tw14538132703122718453:=0
def tw9537372862688869279:=0
def tw9109438070194288912:=0
def tw8581312049855140604:=0
def tw8361702900699548633:=0
def tw8311116326823628871:=0
def tw2027315691987377324:=0
def tw18317289336666899239:=0
def tw17321605182013191911:=0
def tw15761379054709276604:=0
def tw15737077957456281187:=0
def tw14575651203031507247:=0
def tw13841622941268059244:=0
def tw616342845470705911:=0
def tw839630758228129064:=0
def tw2223087019148302201:=0
def tw4760602678025915435:=0
def tw18127076869241917237:=0
def tw15844280575410770882:=0
def tw13162655583735980360:=0
def tw1542762034996868471:=0
def tw12632409224469091117:=0
def tw18303443525530056595:=0
def tw155758993914312611:=0
def tw13393909507137000406:=0
def tw11455680275145475938:=0
def tw18005828569915677972:=0
def tw10227502978736630581:=0
def tw17135984279141274739:=0
def tw8739082995855994265:=0
def tw6699540430211768974:=0
def tw6422188765594974842:=0
def tw4252964244924455931:=0
def tw391313933012827385:=0
def tw3903532555771468459:=0
def tw3574709342546819492:=0
def tw1557482688760274711:=0
def tw15203197913220258172:=0
def tw14511634194592303055:=0
def tw11574389636277193466:=0
def tw10542997403444653219:=0
def tw8469469964029149267:=0
def tw5881858813920304217:=0
def tw5444700933603432906:=0
def tw4979318578367040812:=0
def tw17363522667276620479:=0
def tw15251217046963415948:=0
def tw12347859490403527009:=0
def tw12323815223752576036:=0
def tw11826476650631454224:=0
def tw10810940365907474662:=0
def tw10001056350580310515:=0
def tw14373916861464249335:=0
def tw9443586853435950716:=0
def tw6587753057901955724:=0
def tw6526682178097236284:=0
def tw3951015317509934273:=0
def tw2770352331670657674:=0
def tw16032874103425818698:=0
def tw14908654365206323453:=0
def tw13926493499887665768:=0
def tw13598491607843386436:=0
def tw10434650073660347684:=0
def tw8197769193979756995:=0
def tw5997559987505003175:=0
def tw5934262899885162664:=0
def tw4990048533591140210:=0
def tw433155575291930226:=0
def tw4200395717792317506:=0
def tw4174843746553828969:=0
def tw18419756239358816898:=0
def tw15937442829133255730:=0
def tw15891012600995305240:=0
def tw10295609221044282895:=0
def tw9844918267652039646:=0
def tw9722527354955006074:=0
def tw9696259223899114336:=0
def tw9544161559458087387:=0
def tw9510700671948630753:=0
def tw9229403496802944187:=0
def tw9190098345289712082:=0
def tw9079450068708931540:=0
def tw89470748471543067:=0
def tw8567909916840808795:=0
def tw8368538028073706243:=0
def tw8086334714200386946:=0
def tw7943419574695676233:=0
def tw7933930696590303617:=0
def tw7931872529520260857:=0
def tw7548307335217259768:=0
def tw7539092496107935714:=0
def tw7427144608619114766:=0
def tw7004164818702564864:=0
def tw6942181528310291224:=0
def tw6860599662542213547:=0
def tw6817155971181250046:=0
def tw6177890364348773179:=0
def tw6166768800784564849:=0
def tw5955618128642922119:=0
def tw5831913991515285889:=0
def tw5819790405688216386:=0
def tw5743733476424782818:=0
def tw5716012658376479362:=0
def tw563366648413990141:=0
def tw5576905623031401272:=0
def tw5502645646344463739:=0
def tw5398763857829751172:=0
def tw5276411005328411355:=0
def tw5185403197088732210:=0
def tw5175768082927826503:=0
def tw5101602312697590945:=0
def tw4875766948762904933:=0
def tw4746512288439194539:=0
def tw4469914020368268037:=0
def tw4381748557098196000:=0
def tw435262910632381057:=0
def tw39053929659658109:=0
def tw3694621339462708493:=0
def tw3580613240094726387:=0
def tw3561731214939406974:=0
def tw3464092133081025056:=0
def tw3338974723688150875:=0
def tw2397533301486872789:=0
def tw2335711142247203995:=0
def tw2230526113685221703:=0
def tw2197962717605782239:=0
def tw2065972264767048849:=0
def tw2038042049874512124:=0
def tw1984899366277961735:=0
def tw1980031853805816807:=0
def tw18080465048791361886:=0
def tw18004102298336473743:=0
def tw17892975207230194282:=0
def tw17868735586610198300:=0
def tw1764171337699898087:=0
def tw17620490533406369466:=0
def tw17557496663579801971:=0
def tw1751733382981950452:=0
def tw17126735304583217737:=0
def tw17116618792178821014:=0
def tw17066543477260769214:=0
def tw16833732602151555955:=0
def tw16823730269363680912:=0
def tw16714796020784430818:=0
def tw16677081052746147538:=0
def tw16614196117016098449:=0
def tw16490682047433408910:=0
def tw15841723644684619387:=0
def tw15649087481532642798:=0
def tw15610533263380427472:=0
def tw15419569477018225935:=0
def tw15311988036826254269:=0
def tw15303448464008608346:=0
def tw15295202213917228833:=0
def tw15133389369878347631:=0
def tw15128954403173528351:=0
def tw15046268228839461032:=0
def tw14991363943928307589:=0
def tw14744622366454464183:=0
def tw14705750840738779808:=0
def tw14566972500555825580:=0
def tw14428232445783886216:=0
def tw14413996540044333982:=0
def tw13541382161383223689:=0
def tw13515630218197996873:=0
def tw1334654436680245556:=0
def tw13295840660892659796:=0
def tw13222075016979374260:=0
def tw13081702685263115799:=0
def tw13053837849521969610:=0
def tw12731150981823614382:=0
def tw12687970475178972721:=0
def tw12605294051841480082:=0
def tw12489137802851028903:=0
def tw11920704523752749046:=0
def tw11496979639537426327:=0
def tw1144029683821269526:=0
def tw1121549012298247574:=0
def tw11042991131164464057:=0
def tw10357083139710623940:=0
def tw10100336144460630483:=0
def tw10045510585456588338:=0
end PySem.W.Fast
local macro_rules | `(tactic| lia) => `(tactic| first | lia -verbose | omega)
namespace L2
open PySem PySem.Spec PyProof.Rows
abbrev Key:=Sum Int Str
def uY:Key->Value->Bool
 | .inl k,v=>Value.isInt k v
 | .inr x,v=>Value.isStrOf x v
def Ly(w:World):Key->Int
 | .inl k=>hashInt k
 | .inr x=>hashStr w x
def fF:∀{k:Key} {v:Value},uY k v=true->(∃i t,k=Sum.inl i/\v=Value.int i t)\/(∃x t,k=Sum.inr x/\v=Value.str x t)
 | .inl i,v,h=>by
  obtain⟨t,e⟩:=Value.isInt_shape (k:=i) (v:=v) h;exact .inl ⟨i,t,rfl,e⟩
 | .inr x,v,h=>by
  obtain⟨t,e⟩:=Value.isStrOf_shape (x:=x) (v:=v) h;exact .inr ⟨x,t,rfl,e⟩
def BH(i:Int)(t:Tok):uY (.inl i) (.int i t)=true:=by simp[uY,Value.isInt]
def BG(x:Str)(t:Tok):uY (.inr x) (.str x t)=true:=by simp[uY,Value.isStrOf]
def J7(a b:Int):decide ((Sum.inl a:Key)=Sum.inl b)=(a==b):=by
 by_cases e:a=b
 ·subst e;simp
 ·have h:¬(Sum.inl a:Key)=Sum.inl b:=λq=>e (Sum.inl.inj q);rw[WB h];exact(beq_eq_false_iff_ne.mpr e).symm
def J4(a b:Str):decide ((Sum.inr a:Key)=Sum.inr b)=decide (a=b):=by
 by_cases e:a=b
 ·subst e;simp
 ·have h:¬(Sum.inr a:Key)=Sum.inr b:=λq=>e (Sum.inr.inj q);rw[WB h,WB e]
def J6(a:Int)(b:Str):decide ((Sum.inl a:Key)=Sum.inr b)=false:=WB (λq=>nomatch q)
def J5(a:Str)(b:Int):decide ((Sum.inr a:Key)=Sum.inl b)=false:=WB (λq=>nomatch q)
def fN (prog : Program) (w : World) : PySem.KeyKind prog w Key where
  is := uY
  hash := Ly w
  inj := fun v a b ha hb => by
    rcases fF ha with ⟨i, t, rfl, rfl⟩ | ⟨x, t, rfl, rfl⟩
    · rcases fF hb with ⟨j, u, rfl, e⟩ | ⟨y, u, rfl, e⟩
      · injection e with e1 _; rw [e1]
      · exact nomatch e
    · rcases fF hb with ⟨j, u, rfl, e⟩ | ⟨y, u, rfl, e⟩
      · exact nomatch e
      · injection e with e1 _; rw [e1]
  byValue := fun k v h => by
    rcases fF h with ⟨i, t, rfl, rfl⟩ | ⟨x, t, rfl, rfl⟩ <;> rfl
  pyHash := fun hv h => by
    rcases fF hv with ⟨i, t, rfl, rfl⟩ | ⟨x, t, rfl, rfl⟩
    · exact wpAny_pyHash_int h
    · exact wpAny_pyHash_str h
  eqBool := fun hu hv h => by
    rcases fF hu with ⟨i, t, rfl, rfl⟩ | ⟨x, t, rfl, rfl⟩
    · rcases fF hv with ⟨j, u, rfl, rfl⟩ | ⟨y, u, rfl, rfl⟩
      · rw [J7] at h; exact wpAny_eqBool_int h
      · rw [J6] at h; exact SeqAt.EqAt.int_str i t y u _ _ _ _ h
    · rcases fF hv with ⟨j, u, rfl, rfl⟩ | ⟨y, u, rfl, rfl⟩
      · rw [J5] at h; exact SeqAt.EqAt.str_int x t j u _ _ _ _ h
      · rw [J4] at h; exact wpAny_eqBool_str h
  «strs» := fun k x t v h => by
    rcases fF h with ⟨i, u, rfl, e⟩ | ⟨y, u, rfl, e⟩
    · exact nomatch e
    · injection e with e1 _
      subst e1
      cases v <;> rfl
def wz(prog:Program)(w:World)(i:Int)(t:Tok):(fN prog w).is (.inl i) (.int i t)=true:=BH i t
def wy(prog:Program)(w:World)(x:Str)(t:Tok):(fN prog w).is (.inr x) (.str x t)=true:=BG x t
inductive V where
 | non | bl (b:Bool) | int (i:Int) | str (x:Str) | byt (b:Array UInt8) | flt (b:UInt64) | ref (a:Addr) | ty (n:String)
 deriving DecidableEq
def RelV:V->Value->Prop
 | .non,u=>u=Value.none
 | .bl b,u=>u=Value.bool b
 | .int i,u=>∃t,u=Value.int i t
 | .str x,u=>∃t,u=Value.str x t
 | .byt b,u=>∃t,u=Value.bytes b t
 | .flt b,u=>∃t,u=Value.float b t
 | .ref a,u=>u=Value.ref a
 | .ty n,u=>u=Value.type n
abbrev cE:List V->List Value->Prop:=Paired RelV
def cE.length{xs:List V}{us:List Value}(r:cE xs us):xs.length=us.length:=ba r
def cE.get:∀{xs:List V} {us:List Value} {i:Nat} {x:V},cE xs us->xs[i]? = some x->∃u,us[i]? = some u/\RelV x u
 | _,_,_,_,.nil,e=>by simp at e
 | _,_,0,_,.cons r _,e=>by simp at e;subst e;exact⟨_,rfl,r⟩
 | _,_,i+1,x,.cons _ t,e=>by
  obtain⟨u,h1,h2⟩:=cE.get (i:=i) (x:=x) t (by simpa using e);exact⟨u,by simpa using h1,h2⟩
def cE.set{x:V}{u:Value}(r:RelV x u):∀{xs:List V} {us:List Value} (i:Nat),cE xs us->cE (xs.set i x) (us.set i u)
 | _,_,_,.nil=>.nil
 | _,_,0,.cons _ t=>.cons r t
 | _,_,i+1,.cons q t=>.cons q (cE.set r i t)
def cE.append:∀{xs ys:List V} {us ws:List Value},cE xs us->cE ys ws->cE (xs++ys) (us++ws)
 | _,_,_,_,.nil,s=>s
 | _,_,_,_,.cons r t,s=>.cons r (cE.append t s)
def cE.take:∀{xs:List V} {us:List Value} (n:Nat),cE xs us->cE (xs.take n) (us.take n)
 | _,_,0,_=>.nil
 | _,_,_+1,.nil=>.nil
 | _,_,n+1,.cons r t=>.cons r (cE.take n t)
def cE.drop:∀{xs:List V} {us:List Value} (n:Nat),cE xs us->cE (xs.drop n) (us.drop n)
 | _,_,0,r=>r
 | _,_,_+1,.nil=>.nil
 | _,_,n+1,.cons _ t=>cE.drop n t
def rP:Option V->Option Value->Prop
 | some v,some u=>RelV v u
 | none,none=>True
 | _,_=>False
def KV{κ:Type}:List (κ×V)->List (κ×Value)->Prop:=Paired λ(p:κ×V) (q:κ×Value)=>p.1=q.1/\RelV p.2 q.2
def kV:Key->V
 | .inl i=>.int i
 | .inr x=>.str x
inductive HO where
  | lst (xs:List V)
  | tup (xs:List V)
  | dK (kvs:List (Key×V)) | dT (kvs:List (List Key×V))
  | set (S:Int->Bool) (n:Nat)
  | ins (C dx:Addr) (fs:List (Str×V))
  | own (x:Addr)
  | xd (fs:List (Str×V))
  | met (f x:Addr)
  | rng (lo hi:Int)
  | frz (o:Obj) (u:HO)
  | tbl (ps:Array Value)
  | ext (φ:Heap->Prop)
abbrev Hp:=Addr->Option HO
def bE(H:Hp)(a:Addr)(o:HO):Hp:=λb=>if b=a then some o else H b
def aC{H:Hp}{a:Addr}{o:HO}:bE H a o a=some o:=by unfold bE;rw[Vz rfl]
def aI{H:Hp}{a b:Addr}{o:HO}(h:b≠a):bE H a o b=H b:=by unfold bE;rw[Vy h]
def zt{H:Hp}{a b:Addr}{o u:HO}(h:H a=some o)(h':H b=some u)(d:o≠u):a≠b:=by
 intro e;subst e;rw[h] at h';exact d (bZ h')
def av{H:Hp}{a b:Addr}{o:HO}(h:H a=some o)(h':H b=none):a≠b:=by
 intro e;subst e;rw[h] at h';cases h'
section
variable (P:Program) (w:World)
def dB (H : Hp) (h : Heap) (a : Addr) : HO → Prop
 | .lst xs => xs.length ≤ sizeLine ∧ ∃ (its : List Value) (n : Nat), cE xs its ∧ h.get? a = some { cls := .type "list", data := .seq its.toArray n }
 | .tup xs => xs.length ≤ sizeLine ∧ ∃ its : List Value, cE xs its ∧ IsTup h a its.toArray
 | .dK kvs => kvs.length ≤ sizeLine ∧ (a == sysModules) = false ∧ ∃ vs, KV kvs vs ∧ h.DictOf (fN P w) a vs
 | .dT kvs => kvs.length ≤ sizeLine ∧ (a == sysModules) = false ∧ ∃ xs : List (List Key × Addr × Value),
   Paired (fun (p : List Key × V) (q : List Key × Addr × Value) => p.1 = q.1 ∧ H q.2.1 = some (.tup (p.1.map kV)) ∧ RelV p.2 q.2.2) kvs xs ∧
   ∃ o es ep, h.get? a = some o ∧ o.ExactDict ∧ o.data = .dict es ep ∧ es.toList = xs.map (entryOfKey (tupleKind (fN P w))) ∧ (xs.map (·.1)).Nodup
 | .set S n => h.SetOf (intKind P w) a S n
 | .ins C dx fs => H dx = some (.own a) ∧ fs.length ≤ 1000 ∧ dx ≠ a ∧ h.get? a = some (PySem.W.instObj C dx) ∧
   ∃ mA, h.Ns1 dx mA ∧ (∀ f, rP (fs.lookup f) (mA f)) ∧ PySem.Within mA (fs.map (·.1))
 | .own _ => ∃ o, h.get? a = some o
 | .xd fs => ∃ mA, h.Ns1 a mA ∧ ∀ f, rP (fs.lookup f) (mA f)
 | .rng lo hi => ∃ t u v, h.get? a = some { cls := .type "range", data := .fields #[.int lo t, .int hi u, .int 1 v] }
 | .frz o u => h.get? a = some o ∧ dB H h a u
 | .tbl ps => h.get? a = some { cls := .none, data := .fields ps }
 | .met f x => h.get? a = some (PySem.W.methodObj (.ref f) (.ref x))
 | .ext φ => φ h ∧ (∃ o, h.get? a = some o) ∧ ∀ h1 h2 : Heap, φ h1 → (∀ o, h1.get? a = some o → h2.get? a = some o) → φ h2
def nW(H:Hp)(h:Heap):Prop:=∀a o,H a=some o->dB P w H h a o
end
section
variable {P:Program} {w:World} {H H':Hp} {h h':Heap} {a:Addr} {o:HO}
def dB.lt(x:dB P w H h a o):a<h.objs.size:=by
 cases o with
 | lst xs=>obtain⟨_,_,_,_,e⟩:=x;exact aR e
 | tup xs=>obtain⟨_,_,_,p⟩:=x;exact p.lt
 | dK kvs=>obtain⟨_,_,_,_,o,_,_,e,_⟩:=x;exact aR e
 | dT kvs=>obtain⟨_,_,_,_,o,_,_,e,_⟩:=x;exact aR e
 | set S n=>obtain⟨o,_,_,_,e,_⟩:=x;exact aR e
 | ins C dx fs=>obtain⟨_,_,_,e,_⟩:=x;exact aR e
 | own y=>obtain⟨_,e⟩:=x;exact aR e
 | xd fs=>obtain⟨_,⟨_,_,_,e,_⟩,_⟩:=x;exact aR e
 | rng lo hi=>obtain⟨_,_,_,e⟩:=x;exact aR e
 | frz ob u=>obtain⟨e,_⟩:=x;exact aR e
 | tbl ps=>exact aR (show h.get? a=some _ from x)
 | met f y=>exact aR (show h.get? a=some _ from x)
 | ext φ=>obtain⟨_,⟨_,e⟩,_⟩:=x;exact aR e
def Paired.mapP{α β:Type}{F G:α->β->Prop}:∀{l₁:List α} {l₂:List β},Paired F l₁ l₂->(∀a b,F a b->G a b)->Paired G l₁ l₂
 | _,_,.nil,_=>.nil
 | _,_,.cons r t,f=>.cons (f _ _ r) (Paired.mapP t f)
def dB.stay(x:dB P w H h a o)(k:∀b u,(b=a\/H b=some (.own a))->h.get? b=some u->h'.get? b=some u)
  (ho:∀b,H b=some (.own a)->H' b=some (.own a)) (ht:∀b xs,H b=some (.tup xs)->H' b=some (.tup xs)):dB P w H' h' a o:=by
 induction o with
 | lst xs=>obtain⟨z,its,n,r,e⟩:=x;exact⟨z,its,n,r,k _ _ (.inl rfl) e⟩
 | tup xs=>obtain⟨z,its,r,ob,e,c⟩:=x;exact⟨z,its,r,ob,k _ _ (.inl rfl) e,c⟩
 | dK kvs=>obtain⟨z,y,vs,r,ob,es,ep,e,c⟩:=x;exact⟨z,y,vs,r,ob,es,ep,k _ _ (.inl rfl) e,c⟩
 | dT kvs=>
  obtain⟨z,y,xs,r,ob,es,ep,e,c⟩:=x;exact⟨z,y,xs,Paired.mapP r λp q z=>⟨z.1,ht _ _ z.2.1,z.2.2⟩,ob,es,ep,k _ _ (.inl rfl) e,c⟩
 | set S n=>obtain⟨ob,es,ep,t,e,c⟩:=x;exact⟨ob,es,ep,t,k _ _ (.inl rfl) e,c⟩
 | ins C dx fs=>
  obtain⟨d,z,ne,e,mA,⟨od,es,ep,e2,c⟩,r⟩:=x;exact⟨ho _ d,z,ne,k _ _ (.inl rfl) e,mA,⟨od,es,ep,k _ _ (.inr d) e2,c⟩,r⟩
 | own y=>obtain⟨ob,e⟩:=x;exact⟨ob,k _ _ (.inl rfl) e⟩
 | xd fs=>obtain⟨mA,⟨od,es,ep,e,c⟩,r⟩:=x;exact⟨mA,⟨od,es,ep,k _ _ (.inl rfl) e,c⟩,r⟩
 | rng lo hi=>obtain⟨t,u,v,e⟩:=x;exact⟨t,u,v,k _ _ (.inl rfl) e⟩
 | frz ob u ih=>obtain⟨e,q⟩:=x;exact⟨k _ _ (.inl rfl) e,ih q⟩
 | tbl ps=>
  have e:h.get? a=some { cls:=.none,data:=.fields ps }:=x;show h'.get? a=some { cls:=.none,data:=.fields ps };exact k a _ (.inl rfl) e
 | met f y=>
  have e:h.get? a=some (PySem.W.methodObj (.ref f) (.ref y)):=x;show h'.get? a=some (PySem.W.methodObj (.ref f) (.ref y));exact k a _ (.inl rfl) e
 | ext φ=>obtain⟨p,⟨o,e⟩,st⟩:=x;exact⟨st _ _ p λo q=>k _ _ (.inl rfl) q,⟨o,k _ _ (.inl rfl) e⟩,st⟩
def nW.lt(x:nW P w H h)(e:H a=some o):a<h.objs.size:=(x a o e).lt
def nW.fresh(x:nW P w H h)(e:h.objs.size<=a):H a=none:=by
 cases q:H a with
 | none=>rfl
 | some u=>exact absurd (aW (x.lt q) e) (dk _)
def nW.kept(x:nW P w H h)(k:∀b u,h.get? b=some u->h'.get? b=some u):nW P w H h':=λa o e=>
 (x a o e).stay (λb u _ q=>k b u q) (λ_ q=>q) λ_ _ q=>q
def nW.laid(x:nW P w H h)(k:∀b u,h.get? b=some u->h'.get? b=some u)(hp:h.objs.size<=a)(new:dB P w (bE H a o) h' a o):nW P w (bE H a o) h':=λb u e=>by
 have hn:=x.fresh hp;by_cases hb:b=a
 ·subst hb;rw[aC] at e;cases e;exact new
 ·rw[aI hb] at e;exact(x b u e).stay (λc v _ q=>k c v q) (λc q=>by rw[aI (av q hn)];exact q) λc xs q=>by rw[aI (av q hn)];exact q
end
def Rd(H:Hp)(a:Addr)(u:HO):Prop:=H a=some u\/∃o,H a=some (.frz o u)
def Rd.ok{P:Program}{w:World}{H:Hp}{h:Heap}{a:Addr}{u:HO}(r:Rd H a u)(x:nW P w H h):dB P w H h a u:=by
 rcases r with r | ⟨o,r⟩
 ·exact x a u r
 ·obtain⟨_,q⟩:=x a _ r;exact q
def LU:Option HO->Prop
 | some (.lst _)=>True
 | some (.dK _)=>True
 | some (.dT _)=>True
 | some (.set _ _)=>True
 | some (.ins _ _ _)=>True
 | some (.ext _)=>True
 | _=>False
section
variable {P:Program} {w:World} {H:Hp} {h h':Heap} {x e:Addr} {o':HO}
def nW.write(ok:nW P w H h)(mu:LU (H x))(he:e=x\/H e=some (.own x))(k:∀b u,b≠e->h.get? b=some u->h'.get? b=some u)(heo:∃u,h'.get? e=some u)
  (new:dB P w (bE H x o') h' x o'):nW P w (bE H x o') h':=λb u q=>by
 have nown:∀c y,H c=some (.own y)->c≠x:=λc y r z=>by subst z;rw[r] at mu;exact mu
 have ntup:∀c xs,H c=some (.tup xs)->c≠x:=λc xs r z=>by subst z;rw[r] at mu;exact mu
 by_cases hb:b=x
 ·subst hb;rw[aC] at q;cases q;exact new
 ·rw[aI hb] at q;by_cases hbe:b=e
  ·have q':H b=some (.own x):=by
    rcases he with z | z
    ·exact absurd (hbe.trans z) hb
    ·rw[hbe];exact z
   rw[q] at q';cases q';obtain⟨v,hv⟩:=heo;exact⟨v,by rw[hbe];exact hv⟩
  ·refine(ok b u q).stay (λc v hc r=>k c v ?_ r) (λc r=>by rw[aI (nown c b r)];exact r) λc xs r=>by rw[aI (ntup c xs r)];exact r
   rcases hc with rfl | hc
   ·exact hbe
   ·rintro rfl;rcases he with z | z
    ·exact nown c b hc z
    ·rw[hc] at z;cases z;exact hb rfl
end
structure Un (fs ex:List Addr) (H H':Hp) (h h':Heap):Prop where
 keep:∀ b o,h.get? b=some o->H b=none->b∉fs->b∉ex->h'.get? b=some o
 slot:∀ b o,h.get? b=some o->H b=none->b∈fs->b∉ex->∃ sl,h'.get? b=some { o with slots:=sl }
 free:∀ b o,h.get? b=some o->H b=none->b∉ex->H' b=none
 there:∀ b o,h.get? b=some o->b∉ex->∃ o',h'.get? b=some o'
 tups:∀ b xs,H b=some (.tup xs)->H' b=some (.tup xs)
 frzs:∀ b o u,H b=some (.frz o u)->H' b=some (.frz o u)
 tbls:∀ b ps,H b=some (.tbl ps)->∃ more,H' b=some (.tbl (ps++more))
section
variable {fs ex:List Addr} {H H1:Hp} {h h1 h':Heap} {a x e:Addr} {o:HO}
def Un.any(u:Un fs ex H H1 h h1){b:Addr}{ob:Obj}(q:h.get? b=some ob)(n:H b=none)(hx:b∉ex):∃sl,h1.get? b=some { ob with slots:=sl }:=by
 by_cases hb:b∈fs
 ·exact u.slot b ob q n hb hx
 ·exact⟨ob.slots,u.keep b ob q n hb hx⟩
def Un.kept(k:∀b u,h.get? b=some u->h'.get? b=some u):Un fs ex H H h h':=
 ⟨λb ob q _ _ _=>k b ob q,λb ob q _ _ _=>⟨ob.slots,k b ob q⟩,λ_ _ _ n _=>n,λb ob q _=>⟨ob,k b ob q⟩,λ_ _ q=>q,λ_ _ _ q=>q,λ_ ps q=>⟨#[],by rw[q];simp⟩⟩
def Un.refl:Un fs ex H H h h:=Un.kept λ_ _ q=>q
def Un.laid(k:∀b u,h.get? b=some u->h'.get? b=some u)(hp:h.objs.size<=a)(hn:H a=none):Un fs ex H (bE H a o) h h' where
 keep:=λb u q _ _ _=>k b u q
 slot:=λb u q _ _ _=>⟨u.slots,k b u q⟩
 free:=λb u q n _=>by rw[aI (am (aW (aR q) hp))];exact n
 there:=λb u q _=>⟨u,k b u q⟩
 tups:=λb xs q=>by rw[aI (av q hn)];exact q
 frzs:=λb u xs q=>by rw[aI (av q hn)];exact q
 tbls:=λb ps q=>⟨#[],by rw[aI (av q hn),q];simp⟩
def Un.write(mu:LU (H x))(he:e=x\/H e=some (.own x))(k:∀b u,b≠e->h.get? b=some u->h'.get? b=some u)(heo:∃u,h'.get? e=some u):Un fs ex H (bE H x o) h h':=by
 have hx:∀b,H b=none->b≠x:=λb n z=>by subst z;rw[n] at mu;exact mu
 have hb:∀b,H b=none->b≠e:=λb n z=>by
  subst z;rcases he with r | r
  ·exact hx b n r
  ·rw[n] at r;cases r
 have hm:∀b u,H b=some u->¬LU (some u)->b≠x:=λb u q nm z=>by subst z;rw[q] at mu;exact nm mu
 refine⟨λb u q n _ _=>k b u (hb b n) q,λb u q n _ _=>⟨u.slots,k b u (hb b n) q⟩,λb u q n _=>by rw[aI (hx b n)];exact n,λb u q _=>?_,
  λb xs q=>by rw[aI (hm b _ q λz=>z)];exact q,λb u xs q=>by rw[aI (hm b _ q λz=>z)];exact q,λb ps q=>⟨#[],by rw[aI (hm b _ q λz=>z),q];simp⟩⟩
 by_cases hbe:b=e
 ·subst hbe;exact heo
 ·exact⟨u,k b u hbe q⟩
end
def trk(h:Heap)(H:Hp):List Addr:=(List.range h.objs.size).filter λa=>(H a).isSome
def vd(h:Heap)(H:Hp):Heap:=PySem.W.hideAll h (trk h H)
def BJ(h:Heap)(H:Hp):(vd h H).objs.size=h.objs.size:=PySem.W.hideAll_size _ _
def Ds{h:Heap}{H:Hp}{b:Addr}{o:Obj}(e:h.get? b=some o)(n:H b=none):(vd h H).get? b=some o:=
 j8 _ e λhm=>by
  have q:(H b).isSome=true:=(jY.mp hm).2;rw[n] at q;simp at q
def Fb{h:Heap}{H:Hp}{b:Addr}{o:Obj}(e:(vd h H).get? b=some o):h.get? b=some o/\H b=none:=by
 have e':h.get? b=some o:=kL (trk h H) e;refine⟨e',?_⟩;cases q:H b with
 | none=>rfl
 | some x=>
  have hm:b∈trk h H:=jY.mpr ⟨cQ.mpr (aR e'),by simp[q]⟩;have z:(vd h H).get? b=none:=gP (trk h H) hm;rw[z] at e;cases e
def GO(g h:Heap)(L:Addr):List (Addr×Obj):=(List.range h.objs.size).filterMap λa=>if a=L\/(g.get? a).isSome=true then none else (h.get? a).map λo=>(a,o)
def rest(g h:Heap)(L d:Addr):List (Addr×Obj):=(GO g h L).filter λp=>decide (p.1≠d)
structure Mod (K:WG) (mg:Str->Option Value) (base:Heap):Prop where
 kin:K.In base
 glob:base.Ns mainGlobals mg
 blt:∃ mb,base.Ns builtinsNs mb/\∀ x:Str,x≠"__name__"->mb x=bootBuiltins x
 nolimit:base.NoLimit
structure Cx where
 prog:Program
 w:World
 K:WG
 mg:Str->Option Value
 base:Heap
 A:Around
 N:List Str
 s₀:Shared
 H₀:Hp
 env:Env
 outer:List Env
 stack:List Env
 ex:List Addr
 fn:Str->Bool
 calm:Bool
 pn:List (Addr×Obj)
 xe:Value->Shared->Prop
def kX(l:List Env):List Addr:=l.filterMap (·.frame)
abbrev Cx.fs (X:Cx):List Addr:=kX X.outer
def KJ(sc:Scope)(x:Str):Prop:=sc.names.lookup x=some .local\/sc.names.lookup x=some .cell\/sc.names.lookup x=some .free
def Loc(sc:Scope)(x:Str):Prop:=sc.names.lookup x=some .local\/sc.names.lookup x=some .cell
def Look(env:Env)(h:Heap)(m:Str->Option Value)(x:Str)(u:Value):Prop:=
 (env.kindOf x=some .local/\m x=some u)\/((env.kindOf x=some .cell\/env.kindOf x=some .free)/\∃c,env.cells.lookup x=some c/\h.IsCell c (some u))
structure Cx.Ok (X:Cx):Prop where
 mod:Mod X.K X.mg X.base
 kind:X.env.scope.kind=.function
 glob:X.env.globals=mainGlobals
 blt:X.env.builtins=builtinsNs
 above:X.s₀.heap.objs.size<=X.env.locals
 inj:∀ x y c,X.env.cells.lookup x=some c->X.env.cells.lookup y=some c->x=y
 has:∀ x,(X.env.kindOf x=some .cell\/X.env.kindOf x=some .free)->∃ c,X.env.cells.lookup x=some c
 cab:∀ x c,X.fn x=true->X.env.cells.lookup x=some c->X.s₀.heap.objs.size<=c
 hd:X.calm=true->X.A.handled=none
 frames:X.A.frames=some X.stack
 stk:X.stack=X.outer\/(X.stack=X.env::X.outer/\X.env.frame=some X.env.locals)
 exf:∀ b∈X.ex,b≠X.env.locals/\∀ x c,X.env.cells.lookup x=some c->c≠b
 bs:∀ b o,X.base.get? b=some o->X.s₀.heap.get? b=some o/\X.H₀ b=none
 bsz:X.base.objs.size<=X.s₀.heap.objs.size
 noex:∀ b o,X.base.get? b=some o->b∉X.ex
 exfs:∀ b∈X.ex,b∉X.fs
 funs:X.s₀.heap.FunFrames X.base X.outer
 frf:∀ b∈X.fs,X.H₀ b=none
structure bY (X:Cx) (pins:List (Addr×Obj)) (σ:List (Option V)) (H:Hp) (s:Shared):Prop where
 ok:X.Ok
 os:s.os=X.s₀.os
 bare:AllBare s.gens
 base:Un X.fs X.ex X.H₀ H X.s₀.heap s.heap
 loc:∃ m,s.heap.Ns X.env.locals m/\∀ (i:Nat) (x:Str) (v:V),X.N[i]? = some x->σ[i]? = some (some v)->KJ X.env.scope x->∃ u,RelV v u/\Look X.env s.heap m x u
 cell:∀ x c,X.env.cells.lookup x=some c->∃ v,s.heap.IsCell c v
 free:H X.env.locals=none
 freeC:∀ x c,X.env.cells.lookup x=some c->H c=none
 pin:∀ p∈X.pn++pins,s.heap.get? p.1=some p.2/\H p.1=none/\p.1≠X.env.locals/\p.1∉X.fs/\∀ v,p.2.data≠.cell v
 hok:nW X.prog X.w H s.heap
 len:σ.length=X.N.length
section
variable {X:Cx} {pins:List (Addr×Obj)} {σ:List (Option V)} {H H':Hp} {s:Shared} {h':Heap}
def Cx.Ok.nofr(ok:X.Ok){b:Addr}{o:Obj}(e:X.base.get? b=some o):b∉X.fs:=λhb=>by
 have:=(ok.funs.mem hb).1;rw[e] at this;cases this
def bY.bs(I:bY X pins σ H s):∀b o,X.base.get? b=some o->s.heap.get? b=some o/\H b=none:=λb o e=>
 ⟨I.base.keep b o (I.ok.bs b o e).1 (I.ok.bs b o e).2 (I.ok.nofr e) (I.ok.noex b o e),I.base.free b o (I.ok.bs b o e).1 (I.ok.bs b o e).2 (I.ok.noex b o e)⟩
def bY.bk(I:bY X pins σ H s):∀b o,X.base.get? b=some o->s.heap.get? b=some o:=λb o e=>(I.bs b o e).1
def bY.mod(I:bY X pins σ H s):Mod X.K X.mg X.base:=I.ok.mod
def bY.kIn(I:bY X pins σ H s):X.K.In s.heap:=I.ok.mod.kin.keeps I.bk
def bY.lt(I:bY X pins σ H s):X.env.locals<s.heap.objs.size:=let ⟨_,hn,_⟩:=I.loc;hn.lt
def bY.sz(I:bY X pins σ H s):X.s₀.heap.objs.size<=s.heap.objs.size:=cH I.ok.above (ah I.lt)
def bY.nofs(I:bY X pins σ H s){a:Addr}(h:s.heap.objs.size<=a):a∉X.fs:=λhb=>by
 obtain⟨_,o,ho,_⟩:=I.ok.funs.mem hb;exact absurd (aW (aR ho) (cH I.sz h)) (dk _)
def bY.cne(I:bY X pins σ H s):∀x c,X.env.cells.lookup x=some c->c≠X.env.locals:=λx c e z=>by
 obtain⟨v,o,ho,hd⟩:=I.cell x c e;obtain⟨m,⟨o',es,ep,ho',hd',_⟩,_⟩:=I.loc;rw[z,ho'] at ho;cases ho;rw[hd'] at hd;cases hd
def bY.funs(I:bY X pins σ H s):s.heap.FunFrames X.base X.outer:=by
 have all:∀(l:List Env),(∀b∈kX l,b∈X.fs)->X.s₀.heap.FunFrames X.base l->s.heap.FunFrames X.base l:=by
  intro l
  induction l with
  | nil=>intro _ _;trivial
  | cons env r ih=>
   intro hs hl;obtain⟨hk,⟨L,o,hf,hn,ho,hd⟩,hr⟩:=hl;have hL:L∈X.fs:=hs L (by unfold kX;rw[dA,hf];exact a7);obtain⟨sl,e⟩:=I.base.slot L o ho (I.ok.frf L hL) hL λz=>I.ok.exfs L z hL;exact⟨hk,⟨L,_,hf,hn,e,hd⟩,ih (λb hb=>hs b (by unfold kX;rw[dA,hf];exact aM _ hb)) hr⟩
 exact all X.outer (λ_ hb=>hb) I.ok.funs
def bY.stack(I:bY X pins σ H s):s.heap.FunFrames X.base X.stack:=by
 rcases I.ok.stk with e | ⟨e,hf⟩
 ·rw[e];exact I.funs
 ·rw[e];obtain⟨m,hn,_⟩:=I.loc;refine .cons (by rw[I.ok.kind];decide) hf hn ?_ I.funs;exact gQ (cH I.ok.bsz I.ok.above)
def bY.stkSub(I:bY X pins σ H s):∀b∈kX X.stack,b∈X.env.locals::X.fs:=λb hb=>by
 rcases I.ok.stk with e | ⟨e,hf⟩
 ·rw[e] at hb;exact aM _ hb
 ·rw[e] at hb;unfold kX at hb;rw[dA,hf] at hb;exact hb
def bY.stkFree(I:bY X pins σ H s):∀b∈kX X.stack,H b=none:=λb hb=>by
 rcases aL.mp (I.stkSub b hb) with e | hb
 ·rw[e];exact I.free
 ·obtain⟨_,o,ho,_⟩:=I.ok.funs.mem hb;exact I.base.free b o ho (I.ok.frf b hb) λz=>I.ok.exfs b z hb
def bY.step{g':Array GenState}{t':Nat}{d':Drawn}{ch:List Addr}(I:bY X pins σ H s)
  (hch:∀b∈ch,(b∈X.ex\/X.s₀.heap.objs.size<=b)/\b≠X.env.locals/\(∀x c,X.env.cells.lookup x=some c->c≠b)/\∀p∈X.pn++pins,p.1≠b)
  (keep:∀b o,b≠X.env.locals->b∉X.fs->b∉ch->s.heap.get? b=some o->H b=none->h'.get? b=some o)
  (slot:∀b o,b≠X.env.locals->b∈X.fs->b∉ch->s.heap.get? b=some o->H b=none->∃sl,h'.get? b=some { o with slots:=sl }) (free:∀b o,b∉ch->s.heap.get? b=some o->H b=none->H' b=none)
  (there:∀b o,b∉ch->s.heap.get? b=some o->∃o',h'.get? b=some o')
  (tups:∀b xs,H b=some (.tup xs)->H' b=some (.tup xs)) (frzs:∀b o u,H b=some (.frz o u)->H' b=some (.frz o u)) (tbls:∀b ps,H b=some (.tbl ps)->∃more,H' b=some (.tbl (ps++more)))
  (ns:∀m,s.heap.Ns X.env.locals m->h'.Ns X.env.locals m) (hok:nW X.prog X.w H' h') (hg:AllBare g') :
  bY X pins σ H' { s with heap:=h',gens:=g',drawn:=d',toks:=t' }:=by
 have neL:∀b o,X.s₀.heap.get? b=some o->b≠X.env.locals:=λb o e=>am (aW (aR e) I.ok.above);have neC:∀b o,X.s₀.heap.get? b=some o->b∉X.ex->b∉ch:=λb o e hx hb=>by
  rcases(hch b hb).1 with z | z
  ·exact hx z
  ·exact absurd (aW (aR e) z) (dk _)
 have cellK:∀x c,X.env.cells.lookup x=some c->∀v,s.heap.IsCell c v->h'.IsCell c v:=λx c e v ⟨o,ho,hd⟩=>by
  have nch:c∉ch:=λz=>(hch c z).2.2.1 x c e rfl;by_cases hc:c∈X.fs
  ·obtain⟨sl,q⟩:=slot c o (I.cne x c e) hc nch ho (I.freeC x c e);exact⟨_,q,hd⟩
  ·exact⟨o,keep c o (I.cne x c e) hc nch ho (I.freeC x c e),hd⟩
 refine⟨I.ok,I.os,hg,⟨λb o e n hb hx=>?_,λb o e n hb hx=>?_,λb o e n hx=>?_,λb o e hx=>?_,λb xs e=>tups b xs (I.base.tups b xs e),λb o xs e=>frzs b o xs (I.base.frzs b o xs e),λb ps e=>?_⟩,?_,λx c e=>?_,?_,λx c e=>?_,λp hp=>?_,hok,I.len⟩
 ·exact keep b o (neL b o e) hb (neC b o e hx) (I.base.keep b o e n hb hx) (I.base.free b o e n hx)
 ·obtain⟨sl,e1⟩:=I.base.slot b o e n hb hx;obtain⟨sl',e2⟩:=slot b _ (neL b o e) hb (neC b o e hx) e1 (I.base.free b o e n hx);exact⟨sl',e2⟩
 ·obtain⟨o',e1⟩:=I.base.there b o e hx;exact free b o' (neC b o e hx) e1 (I.base.free b o e n hx)
 ·obtain⟨o',e1⟩:=I.base.there b o e hx;exact there b o' (neC b o e hx) e1
 ·obtain⟨m1,e1⟩:=I.base.tbls b ps e;obtain⟨m2,e2⟩:=tbls b _ e1;exact⟨m1++m2,by rw[e2,Array.append_assoc]⟩
 ·obtain⟨m,hn,hl⟩:=I.loc;refine⟨m,ns m hn,λi x v e1 e2 e3=>?_⟩;obtain⟨u,r,l⟩:=hl i x v e1 e2 e3;refine⟨u,r,?_⟩;rcases l with l | ⟨k,c,e,z⟩
  ·exact .inl l
  ·exact .inr ⟨k,c,e,cellK x c e _ z⟩
 ·obtain⟨v,z⟩:=I.cell x c e;exact⟨v,cellK x c e v z⟩
 ·obtain⟨m,⟨o,_,_,ho,_⟩,_⟩:=I.loc;exact free _ o (λz=>(hch _ z).2.1 rfl) ho I.free
 ·obtain⟨v,o,ho,hd⟩:=I.cell x c e;exact free c o (λz=>(hch c z).2.2.1 x c e rfl) ho (I.freeC x c e)
 ·obtain⟨e,n,ne,nf,d⟩:=I.pin p hp;have nch:p.1∉ch:=λz=>(hch p.1 z).2.2.2 p hp rfl;exact⟨keep p.1 p.2 ne nf nch e n,free p.1 p.2 nch e n,ne,nf,d⟩
def bY.un{t':Nat}(I:bY X pins σ H s)(u:Un X.fs [] H H' s.heap h')(hok:nW X.prog X.w H' h'):bY X pins σ H' { s with heap:=h',toks:=t' }:=by
 obtain⟨m,⟨o,es,ep,ho,r⟩,_⟩:=id I.loc;obtain⟨sl,hL⟩:=u.any ho I.free (by simp);exact I.step (g':=s.gens) (d':=s.drawn) (ch:=[]) (λ_ z=>nomatch z) (λb o _ hb _ e n=>u.keep b o e n hb (by simp)) (λb o _ hb _ e n=>u.slot b o e n hb (by simp)) (λb o _ e n=>u.free b o e n (by simp)) (λb o _ e=>u.there b o e (by simp)) u.tups u.frzs u.tbls (λm' hm=>by
  obtain⟨o',es',ep',ho',r'⟩:=hm;rw[ho] at ho';cases ho';exact⟨_,es',ep',hL,r'⟩) hok I.bare
def bY.call{g':Array GenState}{t':Nat}{d':Drawn}{ch:List Addr}(I:bY X pins σ H s)(u:Un (kX X.stack) ch H H' s.heap h')(hok:nW X.prog X.w H' h')(hg:AllBare g')
  (hch:∀b∈ch,(b∈X.ex\/X.s₀.heap.objs.size<=b)/\b≠X.env.locals/\(∀x c,X.env.cells.lookup x=some c->c≠b)/\∀p∈X.pn++pins,p.1≠b) :
  bY X pins σ H' { s with heap:=h',gens:=g',drawn:=d',toks:=t' }:=by
 obtain⟨m,⟨o,es,ep,ho,r⟩,_⟩:=id I.loc;obtain⟨sl,hL⟩:=u.any ho I.free λz=>(hch _ z).2.1 rfl;exact I.step (ch:=ch) hch (λb o hL hb hc e n=>u.keep b o e n (λz=>(aL.mp (I.stkSub b z)).elim hL hb) hc) (λb o _ _ hc e n=>u.any e n hc) (λb o hc e n=>u.free b o e n hc) (λb o hc e=>u.there b o e hc) u.tups u.frzs u.tbls (λm' hm=>by
  obtain⟨o',es',ep',ho',r'⟩:=hm;rw[ho] at ho';cases ho';exact⟨_,es',ep',hL,r'⟩) hok hg
def bY.turned{t':Nat}{it:Addr}(I:bY X pins σ H s)(k:∀b o,b≠it->s.heap.get? b=some o->h'.get? b=some o)(hn:H it=none)(hL:it≠X.env.locals)
  (h1:it∈X.ex\/X.s₀.heap.objs.size<=it) (h2:∀x c,X.env.cells.lookup x=some c->c≠it) (h3:∀p∈X.pn++pins,p.1≠it):bY X pins σ H { s with heap:=h',toks:=t' }:=by
 have nit:∀b u,H b=some u->b≠it:=λb u e z=>by rw[z,hn] at e;cases e
 refine I.step (g':=s.gens) (d':=s.drawn) (ch:=[it]) (λb hb=>?_) (λb o _ _ hc e _=>k b o (λz=>hc (by simp[z])) e) (λb o _ _ hc e _=>⟨o.slots,k b o (λz=>hc (by simp[z])) e⟩) (λ_ _ _ _ n=>n)
  (λb o hc e=>⟨o,k b o (λz=>hc (by simp[z])) e⟩) (λ_ _ e=>e) (λ_ _ _ e=>e) (λb ps e=>⟨#[],by rw[e];simp⟩) (λm hm=>?_) (λb u e=>?_) I.bare
 ·have e:b=it:=by simpa using hb
  subst e;exact⟨h1,hL,h2,h3⟩
 ·obtain⟨o,es,ep,ho,r⟩:=hm;exact⟨o,es,ep,k _ o (gg hL) ho,r⟩
 ·refine(I.hok b u e).stay (λc v hc q=>k c v ?_ q) (λ_ q=>q) λ_ _ q=>q;rcases hc with z | z
  ·rw[z];exact nit b u e
  ·exact nit c _ z
def bY.tok(I:bY X pins σ H s)(t:Nat):bY X pins σ H { s with toks:=t }:=I.un (h':=s.heap) (t':=t) Un.refl I.hok
def bY.kept{t':Nat}(I:bY X pins σ H s)(k:∀b u,s.heap.get? b=some u->h'.get? b=some u):bY X pins σ H { s with heap:=h',toks:=t' }:=I.un (Un.kept k) (I.hok.kept k)
def bY.laid{a:Addr}{o:HO}{t':Nat}(I:bY X pins σ H s)(k:∀b u,s.heap.get? b=some u->h'.get? b=some u)(hp:s.heap.objs.size<=a)(new:dB X.prog X.w (bE H a o) h' a o):
  bY X pins σ (bE H a o) { s with heap:=h',toks:=t' }:=I.un (Un.laid k hp (I.hok.fresh hp)) (I.hok.laid k hp new)
def bY.write{x e:Addr}{o:HO}{t':Nat}(I:bY X pins σ H s)(mu:LU (H x))(he:e=x\/H e=some (.own x))(k:∀b u,b≠e->s.heap.get? b=some u->h'.get? b=some u)(heo:∃u,h'.get? e=some u)
  (new:dB X.prog X.w (bE H x o) h' x o):bY X pins σ (bE H x o) { s with heap:=h',toks:=t' }:=I.un (Un.write mu he k heo) (I.hok.write mu he k heo new)
def bY.pins_of{pins':List (Addr×Obj)}(I:bY X pins σ H s)(h:∀p∈pins',s.heap.get? p.1=some p.2/\H p.1=none/\p.1≠X.env.locals/\p.1∉X.fs/\∀v,p.2.data≠.cell v):bY X pins' σ H s:=
 ⟨I.ok,I.os,I.bare,I.base,I.loc,I.cell,I.free,I.freeC,λp hp=>(a9.mp hp).elim (λz=>I.pin p (bH _ z)) (h p),I.hok,I.len⟩
def sf{N:List Str}(hN:N.Nodup){i j:Nat}{x:Str}(a:N[i]? = some x)(b:N[j]? = some x):i=j:=by
 obtain⟨h1,e1⟩:=aH.mp a;obtain⟨h2,e2⟩:=aH.mp b;exact(List.getElem_inj hN).mp (e1.trans e2.symm)
def uF{M:Model}{A:Around}{E:Value->Shared->Prop}{i:Nat}{x:Str}{v:V}{u:Value}{Q:Unit->Shared->Prop}(I:bY X pins σ H s)(hN:X.N.Nodup)(hi:X.N[i]? = some x)(hx:Loc X.env.scope x)(r:RelV v u)
  (h:∀s',bY X pins (σ.set i (some v)) H s'->(∃a,Heap.SameBut a s.heap s'.heap/\(a=X.env.locals\/X.env.cells.lookup x=some a))->Q () s') (hf:X.fn x=true\/X.env.scope.names.lookup x=some .local:=by first | exact .inl rfl | exact .inr rfl | assumption):wpAny M A (storeName X.env x u) Q E s:=by
 obtain⟨m,hn,hl⟩:=id I.loc;have hcls:(X.env.scope.kind==.class || (X.env.scope.kind==.module&&X.env.locals != X.env.globals))=false:=by rw[I.ok.kind];rfl
 have hiσ:i<σ.length:=by rw[I.len];exact(aH.mp hi).1
 have cne:=I.cne;have tracked:∀{a:Addr} {h':Heap},(∃o,s.heap.get? a=some o/\H a=none)->Heap.SameBut a s.heap h'->nW X.prog X.w H h':=fun {a h'} ha hs b ob e=>by
  obtain⟨_,_,hfree⟩:=ha;refine(I.hok b ob e).stay (λc w' hc q=>(hs.2 c ?_).trans q) (λ_ q=>q) λ_ _ q=>q;rintro rfl;rcases hc with rfl | hc
  ·rw[hfree] at e;cases e
  ·rw[hfree] at hc;cases hc
 rcases hx with hk | hk
 ·refine wpAny_storeName_local hk hn (λh' hn' hs=>?_) hcls;obtain⟨oL,_,_,hoL,_⟩:=id hn;refine h _ ⟨I.ok,I.os,I.bare,⟨λb o e n hb hx=>?_,λb o e n hb hx=>?_,I.base.free,λb o e hx=>?_,I.base.tups,I.base.frzs,I.base.tbls⟩,⟨_,hn',λj y v' e1 e2 e3=>?_⟩,λy c e=>?_,I.free,I.freeC,λp hp=>?_,tracked ⟨oL,hoL,I.free⟩ hs,by simpa using I.len⟩ ⟨_,hs,.inl rfl⟩
  ·exact(hs.2 b (am (aW (aR e) I.ok.above))).trans (I.base.keep b o e n hb hx)
  ·obtain⟨sl,e1⟩:=I.base.slot b o e n hb hx;exact⟨sl,(hs.2 b (am (aW (aR e) I.ok.above))).trans e1⟩
  ·obtain⟨o',e1⟩:=I.base.there b o e hx;exact⟨o',(hs.2 b (am (aW (aR e) I.ok.above))).trans e1⟩
  ·by_cases hj:j=i
   ·subst hj;rw[hi] at e1;cases e1;rw[i8 hiσ] at e2;cases e2;exact⟨u,r,.inl ⟨hk,by simp⟩⟩
   ·rw[jR (gg hj)] at e2;obtain⟨u',r',q⟩:=hl j y v' e1 e2 e3;refine⟨u',r',?_⟩;rcases q with ⟨k,e⟩ | ⟨k,c,e,z⟩
    ·refine .inl ⟨k,?_⟩;have:y≠x:=λe=>hj (sf hN e1 (e▸hi));simp[this,e]
    ·exact .inr ⟨k,c,e,z.sameBut hs (cne y c e)⟩
  ·obtain⟨w',z⟩:=I.cell y c e;exact⟨w',z.sameBut hs (cne y c e)⟩
  ·obtain⟨e,n,ne,nf,d⟩:=I.pin p hp;exact⟨(hs.2 p.1 ne).trans e,n,ne,nf,d⟩
 ·have hfn:X.fn x=true:=by
   rcases hf with z | z
   ·exact z
   ·rw[z] at hk;cases hk
  obtain⟨c,hc⟩:=I.ok.has x (.inl hk);obtain⟨w',z⟩:=I.cell x c hc;refine wpAny_storeName_cell I.ok.kind hk hc z (λh' hc' hs=>?_);obtain⟨oc,hoc,hocd⟩:=id z;refine h { s with heap:=h' } ⟨I.ok,I.os,I.bare,⟨λb o e n hb hx=>?_,λb o e n hb hx=>?_,I.base.free,λb o e hx=>?_,I.base.tups,I.base.frzs,I.base.tbls⟩,⟨m,hn.sameBut hs (gg (cne x c hc)),λj y v' e1 e2 e3=>?_⟩,λy c' e=>?_,I.free,I.freeC,λp hp=>?_,tracked ⟨oc,hoc,I.freeC x c hc⟩ hs,by simpa using I.len⟩ ⟨c,hs,.inr hc⟩
  ·exact(hs.2 b (am (aW (aR e) (I.ok.cab x c hfn hc)))).trans (I.base.keep b o e n hb hx)
  ·obtain⟨sl,e1⟩:=I.base.slot b o e n hb hx;exact⟨sl,(hs.2 b (am (aW (aR e) (I.ok.cab x c hfn hc)))).trans e1⟩
  ·obtain⟨o',e1⟩:=I.base.there b o e hx;exact⟨o',(hs.2 b (am (aW (aR e) (I.ok.cab x c hfn hc)))).trans e1⟩
  ·by_cases hj:j=i
   ·subst hj;rw[hi] at e1;cases e1;rw[i8 hiσ] at e2;cases e2;exact⟨u,r,.inr ⟨.inl hk,c,hc,hc'⟩⟩
   ·rw[jR (gg hj)] at e2;obtain⟨u',r',q⟩:=hl j y v' e1 e2 e3;refine⟨u',r',?_⟩;rcases q with q | ⟨k,c',e,z'⟩
    ·exact .inl q
    ·refine .inr ⟨k,c',e,z'.sameBut hs ?_⟩;rintro rfl;exact hj (sf hN e1 (I.ok.inj _ _ _ e hc▸hi))
  ·by_cases hcc:c'=c
   ·subst hcc;exact⟨_,hc'⟩
   ·obtain⟨w2,z2⟩:=I.cell y c' e;exact⟨w2,z2.sameBut hs hcc⟩
  ·obtain⟨e,n,ne,nf,d⟩:=I.pin p hp;refine⟨(hs.2 p.1 ?_).trans e,n,ne,nf,d⟩;intro q;rw[q,hoc] at e;have q':oc=p.2:=bZ e;exact d w' (by rw[<-q'];exact hocd)
def pH{M:Model}{A:Around}{E:Value->Shared->Prop}{i:Nat}{x:Str}{v:V}{u:Value}{Q:Unit->Shared->Prop}(I:bY X pins σ H s)(hN:X.N.Nodup)(hi:X.N[i]? = some x)(hx:Loc X.env.scope x)(r:RelV v u)
  (h:∀s',bY X pins (σ.set i (some v)) H s'->Q () s') (hf:X.fn x=true\/X.env.scope.names.lookup x=some .local:=by first | exact .inl rfl | exact .inr rfl | assumption):wpAny M A (storeName X.env x u) Q E s:=
 uF I hN hi hx r (λs' I' _=>h s' I') hf
def bY.call'{s':Shared}{ch:List Addr}(I:bY X pins σ H s)(ho:s'.os=s.os)(u:Un (kX X.stack) ch H H' s.heap s'.heap)(hok:nW X.prog X.w H' s'.heap)(hg:AllBare s'.gens)
  (hch:∀b∈ch,(b∈X.ex\/X.s₀.heap.objs.size<=b)/\b≠X.env.locals/\(∀x c,X.env.cells.lookup x=some c->c≠b)/\∀p∈X.pn++pins,p.1≠b):bY X pins σ H' s':=by
 obtain⟨h',g',d',t',o'⟩:=s';have e:o'=s.os:=ho;subst e;exact I.call (g':=g') (t':=t') (d':=d') u hok hg hch
end
abbrev XK:=Value->Option Addr->Hp->Prop
abbrev St:=List (Option V)
abbrev VK:=V->Hp->Prop
abbrev TE:=St->Hp->VK->Prop
abbrev TT:=St->Hp->(Bool->Hp->Prop)->Prop
abbrev TA:=St->Hp->(List V->Hp->Prop)->Prop
structure Ends where
 nx:St->Hp->Prop
 rt:VK
 bk:St->Hp->Prop:=fun _ _=>False
 ct:St->Hp->Prop:=fun _ _=>False
abbrev TS:=Ends->St->Hp->Prop
def EP(X:Cx)(pins:List (Addr×Obj))(σ:St)(Q:VK)(u:Value)(s':Shared):Prop:=∃v H',bY X pins σ H' s'/\RelV v u/\Q v H'
def TP(X:Cx)(pins:List (Addr×Obj))(σ:St)(Q:Bool->Hp->Prop)(b:Bool)(s':Shared):Prop:=∃H',bY X pins σ H' s'/\Q b H'
def AP(X:Cx)(pins:List (Addr×Obj))(σ:St)(Q:List V->Hp->Prop)(us:List Value)(s':Shared):Prop:=∃vs H',bY X pins σ H' s'/\cE vs us/\Q vs H'
def SP(X:Cx)(pins:List (Addr×Obj))(D:Ends)(f:Flow)(s':Shared):Prop:=
 match f with
 | .next=>∃σ' H',bY X pins σ' H' s'/\D.nx σ' H'
 | .brk=>∃σ' H',bY X pins σ' H' s'/\D.bk σ' H'
 | .cont=>∃σ' H',bY X pins σ' H' s'/\D.ct σ' H'
 | .ret u=>∃v σ' H',bY X pins σ' H' s'/\RelV v u/\D.rt v H'
def PE(X:Cx)(e:Expr)(t:TE):Prop:=
 ∀(pins:List (Addr×Obj)) (s:Shared) (σ:St) (H:Hp) (Q:VK),bY X pins σ H s->t σ H Q->wpAny (model X.prog X.w) X.A (eval e X.env) (EP X pins σ Q) X.xe s
def PT(X:Cx)(e:Expr)(t:TT):Prop:=
 ∀(pins:List (Addr×Obj)) (s:Shared) (σ:St) (H:Hp) (Q:Bool->Hp->Prop),bY X pins σ H s->t σ H Q->wpAny (model X.prog X.w) X.A (isTrue e X.env (eval e X.env)) (TP X pins σ Q) X.xe s
def PW(X:Cx)(e:Expr)(t:TT):Prop:=
 ∀(whole:Sem Value) (pins:List (Addr×Obj)) (s:Shared) (σ:St) (H:Hp) (Q:Bool->Hp->Prop),bY X pins σ H s->t σ H Q->wpAny (model X.prog X.w) X.A (isTrue e X.env whole) (TP X pins σ Q) X.xe s
def PW.pt{X:Cx}{e:Expr}{t:TT}(h:PW X e t):PT X e t:=h _
def PA(X:Cx)(es:List Expr)(t:TA):Prop:=
 ∀(pos:Pos) (pins:List (Addr×Obj)) (s:Shared) (σ:St) (H:Hp) (Q:List V->Hp->Prop),bY X pins σ H s->t σ H Q->wpAny (model X.prog X.w) X.A (spliced (backTo pos (starEach es X.env))) (AP X pins σ Q) X.xe s
def PS(X:Cx)(st:Stmt)(t:TS):Prop:=
 ∀(pins:List (Addr×Obj)) (s:Shared) (σ:St) (H:Hp) (D:Ends),bY X pins σ H s->t D σ H->wpAny (model X.prog X.w) X.A (exec st X.env) (SP X pins D) X.xe s
def ut(X:Cx)(st:List Stmt)(t:TS):Prop:=
 ∀(pins:List (Addr×Obj)) (s:Shared) (σ:St) (H:Hp) (D:Ends),bY X pins σ H s->t D σ H->wpAny (model X.prog X.w) X.A (execs st X.env) (SP X pins D) X.xe s
def dZ{α:Type}{t:Sem α}{Q Q':α->Shared->Prop}{M:Model}{A:Around}{E:Value->Shared->Prop}{s:Shared}(h:wpAny M A t Q E s)(hQ:∀a s,Q a s->Q' a s):wpAny M A t Q' E s:=wpAny_mono h hQ λ_ _ x=>x
section
variable {X:Cx}
def bin{a b:Expr}{ta tb:TE}(ha:PE X a ta)(hb:PE X b tb){pins:List (Addr×Obj)}{s:Shared}{σ:St}{H:Hp}{R:V->V->Hp->Prop}(I:bY X pins σ H s)(h:ta σ H λx H1=>tb σ H1 λy H2=>R x y H2)
  {α:Type} {Q:α->Shared->Prop} {f:Value->Value->Sem α}
  (hf:∀v u s2 x y H2,bY X pins σ H2 s2->RelV x v->RelV y u->R x y H2->wpAny (model X.prog X.w) X.A (f v u) Q X.xe s2) :
  wpAny (model X.prog X.w) X.A (eval a X.env) (λv s₁=>wpAny (model X.prog X.w) X.A (eval b X.env) (λu s₂=>wpAny (model X.prog X.w) X.A (f v u) Q X.xe s₂) X.xe s₁) X.xe s:=by
 refine dZ (ha pins s σ H _ I h) λv s1 ⟨x,H1,I1,r1,q1⟩=>?_;refine dZ (hb pins s1 σ H1 _ I1 q1) λu s2 ⟨y,H2,I2,r2,q2⟩=>?_;exact hf v u s2 x y H2 I2 r1 r2 q2
def uw(i:Nat):TE:=λσ H Q=>∃v,σ[i]? = some (some v)/\Q v H
def tC(v:V):TE:=λ_ H Q=>Q v H
def Iz {i:Nat} {x:Str} {pos:Pos} (hN:X.N[i]? = some x) (hv:KJ X.env.scope x) (hd:(x==("__debug__":Str))=false:=by decide) (hcd:(x==("__classdict__":Str))=false:=by decide):PE X (.Name x pos) (uw i):=by
 intro pins s σ H Q I h;obtain⟨v,e,h⟩:=h;obtain⟨m,hn,hl⟩:=I.loc;obtain⟨u,r,l⟩:=hl i x v hN e hv;have fin:EP X pins σ Q u s:=⟨v,H,I,r,h⟩
 rcases l with ⟨hk,hm⟩ | ⟨hk,c,hc,hcell⟩
 ·exact wpAny_Name (wpAny_loadName_local I.ok.kind hk hn hm fin) hd
 ·rcases hk with hk | hk
  ·exact wpAny_Name (wpAny_loadName_cell I.ok.kind hk hc hcell fin) hd
  ·exact wpAny_Name (wpAny_loadName_free I.ok.kind hk hc hcell fin hcd) hd
def JH{i j pos}:PE X (.Constant (.int i) j pos) (tC (.int i)):=λ_ _ _ H _ I h=>wpAny_Constant_int ⟨.int i,H,I.tok _,⟨_,rfl⟩,h⟩
def LB{b j pos}:PE X (.Constant (.bool b) j pos) (tC (.bl b)):=λ_ _ _ H _ I h=>Constant_bool ⟨.bl b,H,I,rfl,h⟩
def JF{j pos}:PE X (.Constant .none j pos) (tC .non):=λ_ _ _ H _ I h=>Constant_none ⟨.non,H,I,rfl,h⟩
def JB{x j pos}:PE X (.Constant (.str x) j pos) (tC (.str x)):=λ_ _ _ H _ I h=>Calls.Constant_str ⟨.str x,H,I.tok _,⟨_,rfl⟩,h⟩
def Gl(X:Cx)(x:Str):Prop:=X.env.kindOf x=some .globalImplicit
def je{E:Value->Shared->Prop}{pins:List (Addr×Obj)}{s:Shared}{σ:St}{H:Hp}{x:Str}{u:Value}{pos:Pos}{Q:Value->Shared->Prop}(I:bY X pins σ H s)(hg:Gl X x)(hm:X.mg x=some u)(h:Q u s)
  (hd:(x==("__debug__":Str))=false:=by decide):wpAny (model X.prog X.w) X.A (eval (.Name x pos) X.env) Q E s:=
 kU I.ok.kind hg (Calls.loadGlobal_global (by rw[I.ok.glob];exact I.mod.glob.keeps I.bk) hm h) hd
def ou{E:Value->Shared->Prop}{pins:List (Addr×Obj)}{s:Shared}{σ:St}{H:Hp}{x:Str}{u:Value}{pos:Pos}{Q:Value->Shared->Prop}(I:bY X pins σ H s)(hg:Gl X x)(hm:X.mg x=none)(hv:bootBuiltins x=some u)(h:Q u s)
  (hn:x≠"__name__":=by decide) (hd:(x==("__debug__":Str))=false:=by decide):wpAny (model X.prog X.w) X.A (eval (.Name x pos) X.env) Q E s:=by
 obtain⟨mb,h1,h2⟩:=I.mod.blt;exact kU I.ok.kind hg (Calls.loadGlobal_builtin (by rw[I.ok.glob];exact I.mod.glob.keeps I.bk) hm (by rw[I.ok.blt];exact h1.keeps I.bk) ((h2 x hn).trans hv) h) hd
def vV {x:Str} {v:V} {u:Value} {pos:Pos} (hg:Gl X x) (hm:X.mg x=some u) (r:RelV v u) (hd:(x==("__debug__":Str))=false:=by decide):PE X (.Name x pos) (tC v):=
 λ_ _ _ H _ I h=>je I hg hm ⟨v,H,I,r,h⟩ hd
def FP {x:Str} {v:V} {u:Value} {pos:Pos} (hg:Gl X x) (hm:X.mg x=none) (hv:bootBuiltins x=some u) (r:RelV v u) (hn:x≠"__name__":=by decide) (hd:(x==("__debug__":Str))=false:=by decide):PE X (.Name x pos) (tC v):=
 λ_ _ _ H _ I h=>ou I hg hm hv ⟨v,H,I,r,h⟩ hn hd
variable {a b:Expr} {ta tb:TE} {pos:Pos}
def PC(X:Cx)(op:CmpOp)(a b:Expr)(t:TE):Prop:=
 ∀(pins:List (Addr×Obj)) (s:Shared) (σ:St) (H:Hp) (Q:VK),bY X pins σ H s->t σ H Q →
  wpAny (model X.prog X.w) X.A (eval a X.env) (λv s₁=>wpAny (model X.prog X.w) X.A (eval b X.env) (λu s₂=>wpAny (model X.prog X.w) X.A (compareOp op v u) (EP X pins σ Q) X.xe s₂) X.xe s₁) X.xe s
def D8(b:Expr){op:CmpOp}(h:op≠.In)(h2:op≠.NotIn):behindInMarks op b=false:=by
 have e1:(op==CmpOp.In)=false:=by cases op<;>first | rfl | exact absurd rfl h
 have e2:(op==CmpOp.NotIn)=false:=by cases op<;>first | rfl | exact absurd rfl h2
 cases b<;>simp[behindInMarks,e1,e2]
def tB(t:TE):TT:=λσ H Q=>t σ H λx H1=>∃c,x=.bl c/\Q c H1
def Ih{op:CmpOp}{t:TE}(h:PC X op a b t)(h1:behindInMarks op b=false:=by first | exact D8 _ (by decide) (by decide) | rfl):PT X (.Compare a [op] [b] pos) (tB t):=by
 intro pins s σ H Q I hw;refine wpAny_isTrue_Compare1 (dZ (h pins s σ H _ I hw) λv s1 h1=>dZ h1 λu s2 h2=>dZ h2 λc s3 ⟨x,H1,I1,r1,q1⟩=>?_) h1;obtain⟨d,rfl,q⟩:=q1;cases r1;exact V4 ⟨H1,I1,q⟩
def Ic{e:Expr}{t:TE}(h:PE X e t)(he:∀whole,isTrue e X.env whole=(do let v <-whole;standAt e.pos;holding [v] (truthy v)):=by intro _;rfl):PT X e (tB t):=by
 intro pins s σ H Q I hw;refine isTrue_plain (dZ (h pins s σ H _ I hw) λv s1 ⟨x,H1,I1,r1,q1⟩=>?_) (he _);obtain⟨d,rfl,q⟩:=q1;cases r1;exact V4 ⟨H1,I1,q⟩
variable {tA tB':TT} {rest:List Expr}
def IL(t u:TT):TT:=λσ H Q=>t σ H λc H1=>if c=true then u σ H1 Q else Q false H1
def Lk(t u:TT):TT:=λσ H Q=>t σ H λc H1=>if c=true then Q true H1 else u σ H1 Q
def IC(t:TT):TT:=λσ H Q=>t σ H λc H1=>Q (!c) H1
def Er(ha:PT X a tA):PW X (.BoolOp .And [a] pos) tA:=by
 intro wh pins s σ H Q I h;refine isTrue_and (dZ (ha pins s σ H Q I h) λc s1 e=>?_);cases c with
 | true=>exact isTrue_and_nil e
 | false=>exact e
def I9(ha:PT X a tA):PW X (.BoolOp .Or [a] pos) tA:=by
 intro wh pins s σ H Q I h;refine isTrue_or (dZ (ha pins s σ H Q I h) λc s1 e=>?_);cases c with
 | false=>exact isTrue_or_nil e
 | true=>exact e
def Ia(ha:PT X a tA)(hb:PW X (.BoolOp .And (b::rest) pos) tB'):PW X (.BoolOp .And (a::b::rest) pos) (IL tA tB'):=by
 intro wh pins s σ H Q I h;refine isTrue_and (dZ (ha pins s σ H _ I h) λc s1 ⟨H1,I1,q1⟩=>?_);cases c with
 | true=>exact hb wh pins s1 σ H1 Q I1 q1
 | false=>exact⟨H1,I1,q1⟩
def Ku(ha:PT X a tA)(hb:PW X (.BoolOp .Or (b::rest) pos) tB'):PW X (.BoolOp .Or (a::b::rest) pos) (Lk tA tB'):=by
 intro wh pins s σ H Q I h;refine isTrue_or (dZ (ha pins s σ H _ I h) λc s1 ⟨H1,I1,q1⟩=>?_);cases c with
 | true=>exact⟨H1,I1,q1⟩
 | false=>exact hb wh pins s1 σ H1 Q I1 q1
def Ig(ha:PT X a tA):PT X (.UnaryOp .Not a pos) (IC tA):=by
 intro pins s σ H Q I h;exact isTrue_not (ha pins s σ H (λc H1=>Q (!c) H1) I h)
def CZ(ta tb:TE):TE:=λσ H Q=>ta σ H λx H1=>∃c,x=.bl c/\if c=true then tb σ H1 Q else Q (.bl false) H1
def Lj(ta tb:TE):TE:=λσ H Q=>ta σ H λx H1=>∃c,x=.bl c/\if c=true then Q (.bl true) H1 else tb σ H1 Q
def CP(ta:TE):TE:=λσ H Q=>ta σ H λx H1=>∃c,x=.bl c/\Q (.bl (!c)) H1
def JD{op}{t:TE}(h:PE X a t):PE X (.BoolOp op [a] pos) t:=λpins s σ H Q I hw=>BoolOp_one (h pins s σ H Q I hw)
def JK(ha:PE X a ta)(hb:PE X (.BoolOp .And (b::rest) pos) tb):PE X (.BoolOp .And (a::b::rest) pos) (CZ ta tb):=by
 intro pins s σ H Q I h;refine BoolOp_and (dZ (ha pins s σ H _ I h) λv s1 ⟨x,H1,I1,r1,q1⟩=>?_);obtain⟨c,rfl,q1⟩:=q1;cases r1;refine V4 ?_;cases c with
 | true=>exact hb pins s1 σ H1 Q I1 q1
 | false=>exact⟨.bl false,H1,I1,rfl,q1⟩
def JE(ha:PE X a ta):PE X (.UnaryOp .Not a pos) (CP ta):=by
 intro pins s σ H Q I h;refine UnaryOp_ (dZ (ha pins s σ H _ I h) λv s1 ⟨x,H1,I1,r1,q1⟩=>?_);obtain⟨c,rfl,q1⟩:=q1;cases r1;exact not_of (V4 ⟨.bl (!c),H1,I1,rfl,q1⟩)
def Ll(t:TT)(ta tb:TE):TE:=λσ H Q=>t σ H λc H1=>if c=true then ta σ H1 Q else tb σ H1 Q
def DM{c:Expr}(hc:PT X c tA)(ha:PE X a ta)(hb:PE X b tb):PE X (.IfExp c a b pos) (Ll tA ta tb):=by
 intro pins s σ H Q I h;refine wpAny_IfExp (dZ (hc pins s σ H _ I h) λd s1 ⟨H1,I1,q1⟩=>?_);cases d with
 | true=>exact ha pins s1 σ H1 Q I1 q1
 | false=>exact hb pins s1 σ H1 Q I1 q1
end
def cW(K:WG)(H:Hp)(a:Addr)(xs:List V):Prop:=
 Rd H a (.lst xs) ∨
  ∃(o:Obj) (its:Array Value) (n:Nat),K.lookup a=some o/\o.cls=.type "list"/\o.dict=none/\o.data=.seq its n/\its.size<=sizeLine/\cE xs its.toList
def c8(K:WG)(H:Hp)(a:Addr)(xs:List V):Prop:=
 Rd H a (.tup xs) ∨
  ∃(o:Obj) (its:Array Value) (n:Nat),K.lookup a=some o/\o.cls=.type "tuple"/\o.data=.seq its n/\its.size<=sizeLine/\cE xs its.toList
def ME:Value->Option V
 | .none=>some .non
 | .bool b=>some (.bl b)
 | .int i _=>some (.int i)
 | .str x _=>some (.str x)
 | .bytes b _=>some (.byt b)
 | .float b _=>some (.flt b)
 | .ref a=>some (.ref a)
 | .type n=>some (.ty n)
 | _=>none
def RelV.abs{x:V}{u:Value}(r:RelV x u):ME u=some x:=by
 cases x with
 | non=>cases r;rfl
 | bl _=>cases r;rfl
 | int _=>obtain⟨t,rfl⟩:=r;rfl
 | str _=>obtain⟨t,rfl⟩:=r;rfl
 | byt _=>obtain⟨t,rfl⟩:=r;rfl
 | flt _=>obtain⟨t,rfl⟩:=r;rfl
 | ref _=>cases r;rfl
 | ty _=>cases r;rfl
def RelV.inj{x y:V}{u:Value}(r:RelV x u)(q:RelV y u):x=y:=bZ (r.abs.symm.trans q.abs)
def cE.inj:∀{xs ys:List V} {us:List Value},cE xs us->cE ys us->xs=ys
 | _,_,_,.nil,.nil=>rfl
 | _,_,_,.cons r t,.cons r' t'=>by rw[r.inj r',cE.inj t t']
section
variable {X:Cx} {pins:List (Addr×Obj)} {σ:St} {H:Hp} {s:Shared} {a:Addr} {xs ys:List V}
def cW.of{K:WG}(h:H a=some (.lst xs)):cW K H a xs:=.inl (.inl h)
def c8.of{K:WG}(h:H a=some (.tup xs)):c8 K H a xs:=.inl (.inl h)
def bY.list(I:bY X pins σ H s)(h:cW X.K H a xs):∃its:List Value,cE xs its/\PlainL s.heap a its.toArray/\xs.length<=sizeLine:=by
 rcases h with h | ⟨o,its,n,hk,hc,hd,hs,hz,r⟩
 ·obtain⟨z,its,n,r,e⟩:=h.ok I.hok;exact⟨its,r,⟨_,n,e,rfl,rfl,rfl⟩,z⟩
 ·refine⟨its.toList,r,⟨o,n,I.kIn a o hk,hc,hd,by simpa using hs⟩,?_⟩;have e:=r.length;simp only[jb] at e;lia
def bY.tuple(I:bY X pins σ H s)(h:c8 X.K H a xs):∃its:List Value,cE xs its/\IsTup s.heap a its.toArray/\xs.length<=sizeLine:=by
 rcases h with h | ⟨o,its,n,hk,hc,hs,hz,r⟩
 ·obtain⟨z,its,r,p⟩:=h.ok I.hok;exact⟨its,r,p,z⟩
 ·refine⟨its.toList,r,⟨o,I.kIn a o hk,hc,n,by simpa using hs⟩,?_⟩;have e:=r.length;simp only[jb] at e;lia
def bY.list_inj(I:bY X pins σ H s)(h:cW X.K H a xs)(h':cW X.K H a ys):xs=ys:=by
 obtain⟨its,r,⟨o,n,e,_,_,d⟩,_⟩:=I.list h;obtain⟨its',r',⟨o',n',e',_,_,d'⟩,_⟩:=I.list h';rw[e] at e';cases e';rw[d] at d';injection d' with d1 _
 have:its=its':=by simpa using congrArg Array.toList d1
 subst this;exact r.inj r'
def bY.tuple_inj(I:bY X pins σ H s)(h:c8 X.K H a xs)(h':c8 X.K H a ys):xs=ys:=by
 obtain⟨its,r,⟨o,e,_,n,d⟩,_⟩:=I.tuple h;obtain⟨its',r',⟨o',e',_,n',d'⟩,_⟩:=I.tuple h';rw[e] at e';cases e';rw[d] at d';injection d' with d1 _
 have:its=its':=by simpa using congrArg Array.toList d1
 subst this;exact r.inj r'
end
abbrev Cx.wish (X:Cx) (E:Value->Shared->Prop):Cx:={ X with xe:=E }
abbrev Cx.nox (X:Cx):Cx:=X.wish λ_ _=>False
def Cx.Ok.wish{X:Cx}(ok:X.Ok)(E:Value->Shared->Prop):(X.wish E).Ok:=
 ⟨ok.mod,ok.kind,ok.glob,ok.blt,ok.above,ok.inj,ok.has,ok.cab,ok.hd,ok.frames,ok.stk,ok.exf,ok.bs,ok.bsz,ok.noex,ok.exfs,ok.funs,ok.frf⟩
def Cx.Ok.unwish{X:Cx}{E:Value->Shared->Prop}(ok:(X.wish E).Ok):X.Ok:=
 ⟨ok.mod,ok.kind,ok.glob,ok.blt,ok.above,ok.inj,ok.has,ok.cab,ok.hd,ok.frames,ok.stk,ok.exf,ok.bs,ok.bsz,ok.noex,ok.exfs,ok.funs,ok.frf⟩
section
variable {X:Cx} {pins:List (Addr×Obj)} {σ:St} {H:Hp} {s:Shared} {E:Value->Shared->Prop}
def bY.wish(I:bY X pins σ H s)(E:Value->Shared->Prop):bY (X.wish E) pins σ H s:=⟨I.ok.wish E,I.os,I.bare,I.base,I.loc,I.cell,I.free,I.freeC,I.pin,I.hok,I.len⟩
def bY.unwish(I:bY (X.wish E) pins σ H s):bY X pins σ H s:=⟨I.ok.unwish,I.os,I.bare,I.base,I.loc,I.cell,I.free,I.freeC,I.pin,I.hok,I.len⟩
def SP.unwish{D:Ends}{f:Flow}{s':Shared}(h:SP (X.wish E) pins D f s'):SP X pins D f s':=by
 cases f with
 | next=>obtain⟨σ',H',I,q⟩:=h;exact⟨σ',H',I.unwish,q⟩
 | brk=>obtain⟨σ',H',I,q⟩:=h;exact⟨σ',H',I.unwish,q⟩
 | cont=>obtain⟨σ',H',I,q⟩:=h;exact⟨σ',H',I.unwish,q⟩
 | ret u=>obtain⟨v,σ',H',I,r,q⟩:=h;exact⟨v,σ',H',I.unwish,r,q⟩
def PT.nox{e:Expr}{t:TT}(h:PT X.nox e t):PT X e t:=λpins s σ H Q I hw=>
 wpAny_mono (h pins s σ H Q (I.wish _) hw) (λ_ _ ⟨H',I',q⟩=>⟨H',I'.unwish,q⟩) λ_ _ z=>False.elim z
def ut.nox{st:List Stmt}{t:TS}(h:ut X.nox st t):ut X st t:=λpins s σ H D I hw=>
 wpAny_mono (h pins s σ H D (I.wish _) hw) (λ_ _ q=>q.unwish) λ_ _ z=>False.elim z
end
section
variable {X:Cx} {st:Stmt} {rest:List Stmt} {t u:TS} {e:Expr} {te:TE} {pos:Pos}
def CQ:TS:=λD σ H=>D.nx σ H
def Hz(t u:TS):TS:=λD σ H=>t { D with nx:=u D } σ H
def Eu:ut X [] CQ:=λ_ _ σ H _ I h=>V5 ⟨σ,H,I,h⟩
def DD(h1:PS X st t)(h2:ut X rest u):ut X (st::rest) (Hz t u):=by
 intro pins s σ H D I h;refine V6 (dZ (h1 pins s σ H { D with nx:=u D } I h) λf s1 q=>?_);cases f with
 | next=>
  obtain⟨σ',H',I',q⟩:=q;exact h2 pins s1 σ' H' D I' q
 | ret v=>exact q
 | brk=>exact q
 | cont=>exact q
def Et(h1:PS X st t):ut X [st] t:=by
 intro pins s σ H D I h;refine V6 (dZ (h1 pins s σ H D I h) λf s1 q=>?_);cases f with
 | next=>exact V5 q
 | ret v=>exact q
 | brk=>exact q
 | cont=>exact q
def II:TS:=λD σ H=>D.bk σ H
def Kl:TS:=λD σ H=>D.ct σ H
def bY.quiet{pins:List (Addr×Obj)}{σ:St}{H:Hp}{s:Shared}(I:bY X pins σ H s):interactive X.env=false:=by simp[interactive,I.ok.kind]
def CU(te:TE):TS:=λD σ H=>te σ H λ_ H1=>D.nx σ H1
def Ez(he:PE X e te)(hs:swapsWith e none pos.line X.env=pure false:=by rfl):PS X (.Expr e pos) (CU te):=by
 intro pins s σ H D I h;exact wpAny_Expr_any (dZ (he pins s σ H _ I h) λv s1 ⟨x,H1,I1,r1,q1⟩=>⟨σ,H1,I1,q1⟩) I.quiet hs
def IB(te:TE):TS:=λD σ H=>te σ H D.rt
def Ij(he:PE X e te):PS X (.Return (some e) pos) (IB te):=by
 intro pins s σ H D I h;exact wpAny_Return_some (dZ (he pins s σ H _ I h) λv s1 ⟨x,H1,I1,r1,q1⟩=>⟨x,σ,H1,I1,r1,q1⟩)
def Kj:TS:=λD _ H=>D.rt .non H
def ID(c:TT)(t u:TS):TS:=λD σ H=>c σ H λb H1=>if b=true then t D σ H1 else u D σ H1
def Kv{c:Expr}{a b:List Stmt}{tc:TT}(hc:PT X c tc)(ha:ut X a t)(hb:ut X b u):PS X (.If c a b pos) (ID tc t u):=by
 intro pins s σ H D I h;refine wpAny_If (dZ (hc pins s σ H _ I h) λd s1 ⟨H1,I1,q1⟩=>?_);cases d with
 | true=>exact ha pins s1 σ H1 D I1 q1
 | false=>exact hb pins s1 σ H1 D I1 q1
end
abbrev TG:=V->St->Hp->(St->Hp->Prop)->Prop
abbrev Ba:=List V->St->Hp->(St->Hp->Prop)->Prop
def PG(X:Cx)(target:Expr)(t:TG):Prop:=
 ∀(pins:List (Addr×Obj)) (s:Shared) (σ:St) (H:Hp) (v:V) (u:Value) (Q:St->Hp->Prop),bY X pins σ H s->RelV v u->t v σ H Q →
  wpAny (model X.prog X.w) X.A (assign target X.env u) (λ_ s'=>∃σ' H',bY X pins σ' H' s'/\Q σ' H') X.xe s
def LS(X:Cx)(ts:List Expr)(t:Ba):Prop:=
 ∀(pins:List (Addr×Obj)) (s:Shared) (σ:St) (H:Hp) (vs:List V) (us:List Value) (Q:St->Hp->Prop),bY X pins σ H s->cE vs us->t vs σ H Q →
  wpAny (model X.prog X.w) X.A (assignInOrder ((assignEach ts X.env).map (·.2)) us) (λ_ s'=>∃σ' H',bY X pins σ' H' s'/\Q σ' H') X.xe s
abbrev EU:=V->V->V->Hp->(Hp->Prop)->Prop
def Jt(X:Cx)(t:EU):Prop:=
 ∀(pins:List (Addr×Obj)) (s:Shared) (σ:St) (H:Hp) (o i v:V) (ov iv u:Value) (Q:Hp->Prop),bY X pins σ H s->RelV o ov->RelV i iv->RelV v u->t o i v H Q →
  wpAny (model X.prog X.w) X.A (setItem ov iv u) (λ_ s'=>∃H',bY X pins σ H' s'/\Q H') X.xe s
abbrev KL:=V->V->Hp->VK->Prop
def Lb(X:Cx)(op:Operator)(t:KL):Prop:=
 ∀(pins:List (Addr×Obj)) (s:Shared) (σ:St) (H:Hp) (x y:V) (v u:Value) (Q:VK),bY X pins σ H s->RelV x v->RelV y u->t x y H Q →
  wpAny (model X.prog X.w) X.A (inplaceOp op v u) (EP X pins σ Q) X.xe s
section
variable {X:Cx} {pos:Pos}
def mR(i:Nat):TG:=λv σ H Q=>Q (σ.set i (some v)) H
def FI{i:Nat}{x:Str}(hN:X.N.Nodup)(hi:X.N[i]? = some x)(hx:Loc X.env.scope x)(hf:X.fn x=true\/X.env.scope.names.lookup x=some .local:=by first | exact .inl rfl | exact .inr rfl | assumption):PG X (.Name x pos) (mR i):=by
 intro pins s σ H v u Q I r h;exact wpAny_assign_Name (pH I hN hi hx r (λs' I'=>⟨_,H,I',h⟩) hf)
def Jg:Ba:=λvs σ H Q=>vs=[]/\Q σ H
def Du(t:TG)(u:Ba):Ba:=λvs σ H Q=>∃v r,vs=v::r/\t v σ H λσ' H'=>u r σ' H' Q
def FH:LS X [] Jg:=by
 intro pins s σ H vs us Q I r h;obtain⟨e,h⟩:=h;subst e;cases r;exact assignInOrder_nil ⟨σ,H,I,h⟩
def DJ{e:Expr}{es:List Expr}{t:TG}{u:Ba}(h1:PG X e t)(h2:LS X es u)
  (hs:(assignEach (e::es) X.env).map (·.2)=assign e X.env::(assignEach es X.env).map (·.2):=by rfl):LS X (e::es) (Du t u):=by
 intro pins s σ H vs us Q I r h;obtain⟨v,vr,e1,h⟩:=h;subst e1;cases r with
 | cons r rr=>
  rw[hs];refine assignInOrder_cons (dZ (h1 pins s σ H _ _ _ I r h) λ_ s1 ⟨σ1,H1,I1,q1⟩=>?_);exact h2 pins s1 σ1 H1 _ _ Q I1 rr q1
def Je(K:WG)(n:Nat)(t:Ba):TG:=λv σ H Q=>∃a xs,v=.ref a/\c8 K H a xs/\xs.length=n/\t xs σ H Q
def Iu{es:List Expr}{k:Nat}{t:Ba}{n:Nat}(hc:X.calm=true)(h:LS X es t)
  (hn:(assignEach es X.env).length=n:=by rfl) (hst:(assignEach es X.env).findIdx? (·.1)=none:=by rfl):PG X (.Tuple es k pos) (Je X.K n t):=by
 intro pins s σ H v u Q I r hw;obtain⟨a,xs,e1,hq,hl,hw⟩:=hw;subst e1;cases r;obtain⟨its,rv,ht,hz⟩:=I.tuple hq;refine assign_Tuple_tuple (I.ok.hd hc) ht (by simp[hn,<-hl,rv.length]) hst λh' hx=>?_;have I1:bY X pins σ H { s with heap:=h' }:=I.kept (t':=s.toks) λb o e=>hx b o (am (aR e)) e;exact h pins _ σ H xs _ Q I1 (by simpa using rv) hw
def Jf(to ti:TE)(t:EU):TG:=λv σ H Q=>to σ H λo H1=>ti σ H1 λi H2=>t o i v H2 λH3=>Q σ H3
def Iv{o i:Expr}{to ti:TE}{t:EU}(ho:PE X o to)(hi:PE X i ti)(hs:Jt X t)
  (ha:∀v,assign (.Subscript o i pos) X.env v=(do
   let ov <-holding [v] (eval o X.env)
   let iv <-holding [v,ov] (eval i X.env)
   standAt pos
   holding [v,ov,iv] (setItem ov iv v)
   release [v,ov,iv] []):=by intro _;rfl):PG X (.Subscript o i pos) (Jf to ti t):=by
 intro pins s σ H v u Q I r h;rw[ha];refine wpAny_bind (V7 (dZ (ho pins s σ H _ I h) λov s1 ⟨x,H1,I1,r1,q1⟩=>?_));refine wpAny_bind (V7 (dZ (hi pins s1 σ H1 _ I1 q1) λiv s2 ⟨y,H2,I2,r2,q2⟩=>?_));refine wpAny_bind (V8 (wpAny_bind (V7 (dZ (hs pins s2 σ H2 x y v ov iv u _ I2 r1 r2 r q2) λ_ s3 ⟨H3,I3,q3⟩=>?_))));exact wpAny_release ⟨σ,H3,I3,q3⟩
def wC(te:TE)(g:TG):TS:=λD σ H=>te σ H λx H1=>g x σ H1 D.nx
def Io{tg e:Expr}{te:TE}{g:TG}(he:PE X e te)(hg:PG X tg g)(hs:swapsWithSole [tg] e pos.line X.env=pure false:=by rfl)(hw:swappedStores [tg] e X.env=pure none:=by rfl)
  (h1:(assignEach [tg] X.env).map (·.2)=[assign tg X.env]:=by rfl):PS X (.Assign [tg] e pos) (wC te g):=by
 intro pins s σ H D I h;refine wpAny_Assign_stores (dZ (he pins s σ H _ I h) λv s1 ⟨x,H1,I1,r1,q1⟩=>?_) hs hw;rw[h1];exact dZ (hg pins s1 σ H1 x v _ I1 r1 q1) λ_ s2 q=>q
def Ii{i:Nat}{x:Str}{e:Expr}{te:TE}{pos':Pos}(hN:X.N.Nodup)(hi:X.N[i]? = some x)(hx:Loc X.env.scope x)(he:PE X e te)(hs:swapsWith e (some (.Name x pos')) pos.line X.env=pure false:=by rfl)(hf:X.fn x=true\/X.env.scope.names.lookup x=some .local:=by first | exact .inl rfl | exact .inr rfl | assumption):
  PS X (.Assign [.Name x pos'] e pos) (wC te (mR i)):=by
 intro pins s σ H D I h;refine wpAny_Assign_Name (dZ (he pins s σ H _ I h) λv s1 ⟨y,H1,I1,r1,q1⟩=>?_) hs;exact pH I1 hN hi hx r1 (λs2 I2=>⟨_,H1,I2,q1⟩) hf
def IK(i:Nat)(te:TE)(ti:KL):TS:=λD σ H=>∃x,σ[i]? = some (some x)/\te σ H λy H1=>ti x y H1 λz H2=>D.nx (σ.set i (some z)) H2
def Im{i:Nat}{x:Str}{e:Expr}{te:TE}{op:Operator}{ti:KL}{pos':Pos}(hN:X.N.Nodup)(hi:X.N[i]? = some x)(hx:Loc X.env.scope x)(he:PE X e te)(ho:Lb X op ti)(hf:X.fn x=true\/X.env.scope.names.lookup x=some .local:=by first | exact .inl rfl | exact .inr rfl | assumption):
  PS X (.AugAssign (.Name x pos') op e pos) (IK i te ti):=by
 intro pins s σ H D I h;obtain⟨v,e1,h⟩:=h;obtain⟨m,hn,hl⟩:=I.loc;have vis:KJ X.env.scope x:=by rcases hx with k | k;exact .inl k;exact .inr (.inl k)
 obtain⟨u,r,l⟩:=hl i x v hi e1 vis;refine wpAny_AugAssign_Name ?_;have go:wpAny (model X.prog X.w) X.A (eval e X.env) (λw s₂=>wpAny (model X.prog X.w) X.A (inplaceOp op u w) (λr s₃=>wpAny (model X.prog X.w) X.A (storeName X.env x r) (λ_=>SP X pins D .next) X.xe s₃) X.xe s₂) X.xe s:=by
  refine dZ (he pins s σ H _ I h) λw s1 ⟨y,H1,I1,r1,q1⟩=>?_;refine dZ (ho pins s1 σ H1 v y u w _ I1 r r1 q1) λz s2 ⟨zv,H2,I2,r2,q2⟩=>?_;exact pH I2 hN hi hx r2 (λs3 I3=>⟨_,H2,I3,q2⟩) hf
 rcases l with ⟨hk,hm⟩ | ⟨hk,c,hc,hcell⟩
 ·exact wpAny_loadName_local I.ok.kind hk hn hm go
 ·rcases hk with hk | hk
  ·exact wpAny_loadName_cell I.ok.kind hk hc hcell go
  ·rcases hx with k | k
   ·have:X.env.scope.names.lookup x=some .free:=hk;rw[k] at this;cases this
   ·have:X.env.scope.names.lookup x=some .free:=hk;rw[k] at this;cases this
def Lz(f:Int->Int->Int):KL:=λx y H Q=>∃i j,x=.int i/\y=.int j/\Q (.int (f i j)) H
def Jb:Lb X .Add (Lz λi j=>i+j):=by
 intro pins s σ H x y v u Q I r1 r2 h;obtain⟨i,j,e1,e2,q⟩:=h;subst e1;subst e2;obtain⟨t,rfl⟩:=r1;obtain⟨t',rfl⟩:=r2;exact iadd_int ⟨.int _,H,I.tok _,⟨_,rfl⟩,q⟩
def Ja:Lb X .Sub (Lz λi j=>i-j):=by
 intro pins s σ H x y v u Q I r1 r2 h;obtain⟨i,j,e1,e2,q⟩:=h;subst e1;subst e2;obtain⟨t,rfl⟩:=r1;obtain⟨t',rfl⟩:=r2;exact isub_int ⟨.int _,H,I.tok _,⟨_,rfl⟩,q⟩
end
section
variable {X:Cx} {pos:Pos}
def CN(c:TT)(tb:TS):TS:=λD σ H=>∃W:Nat->St->Hp->Prop,(∃m,W m σ H)/\∀m σ H,W m σ H →
 c σ H λb H1=>if b=true then ∃N:St->Hp->Prop,(∀σ' H',N σ' H'->∃m',m'<m/\W m' σ' H')/\tb { D with nx:=N,ct:=N,bk:=D.nx } σ H1 else D.nx σ H1
def DF{c:Expr}{body:List Stmt}{tc:TT}{tb:TS}(hp:PassesOwn (model X.prog X.w) X.A X.env X.xe)(hc:PT X c tc)(hb:ut X body tb):PS X (.While c body [] pos) (CN tc tb):=by
 intro pins s σ H D I h;obtain⟨W,⟨m0,w0⟩,turn⟩:=h;refine wpAny_While (codeAny_whileLoop (λn s'=>∃σ' H',bY X pins σ' H' s'/\W n σ' H') ?_ m0 ⟨σ,H,I,w0⟩);rintro n s1 ⟨σ1,H1,I1,w1⟩;refine V9 hp (dZ (hc pins s1 σ1 H1 _ I1 (turn n σ1 H1 w1)) λb s2 ⟨H2,I2,q2⟩=>?_);cases b with
 | true=>
  obtain⟨N,hN,q2⟩:=q2;rw[Vz rfl];refine V9 hp (dZ (hb pins s2 σ1 H2 _ I2 q2) λf s3 q3=>?_);cases f with
  | next=>
   obtain⟨σ3,H3,I3,n3⟩:=q3;obtain⟨m',hm,w3⟩:=hN σ3 H3 n3;exact⟨m',hm,σ3,H3,I3,w3⟩
  | cont=>
   obtain⟨σ3,H3,I3,n3⟩:=q3;obtain⟨m',hm,w3⟩:=hN σ3 H3 n3;exact⟨m',hm,σ3,H3,I3,w3⟩
  | brk=>exact q3
  | ret v=>exact q3
 | false=>
  rw[Vy ax];exact V5 ⟨σ1,H2,I2,q2⟩
end
structure It where
 go:Nat->Hp->Prop
 yld:Nat->Hp->V->Hp->Prop
 stop:Nat->Hp->Prop
def ji(X:Cx)(pins:List (Addr×Obj))(H:Hp)(b:Addr):Prop:=
 H b=none/\b≠X.env.locals/\b∉X.fs/\(b∈X.ex\/X.s₀.heap.objs.size<=b)/\(∀x c,X.env.cells.lookup x=some c->c≠b)/\∀p∈X.pn++pins,p.1≠b
def bY.fpOk{X:Cx}{pins:List (Addr×Obj)}{σ:St}{H H':Hp}{s:Shared}{b:Addr}(I:bY X pins σ H s)(hb:s.heap.objs.size<=b)(hn:H' b=none):ji X pins H' b:=by
 refine⟨hn,gh (aW I.lt hb),I.nofs hb,.inr (cH I.sz hb),λx c e z=>?_,λp hp z=>?_⟩
 ·obtain⟨v,q⟩:=I.cell x c e;exact absurd (aW q.lt (by rw[z];exact hb)) (dk _)
 ·exact absurd (aW (aR (I.pin p hp).1) (by rw[z];exact hb)) (dk _)
structure Turn (P : Program) (w : World) (K : WG) (tg : Expr) (J : It) (fp : List Addr) (it : Addr) (tn : Nat → Heap → Prop) : Prop where
  mem : it ∈ fp
  obj : ∀ i h, tn i h → ∀ b ∈ fp, ∃ o, h.get? b = some o ∧ ∀ v, o.data ≠ .cell v
  keep : ∀ i h h', tn i h → (∀ b ∈ fp, ∀ o, h.get? b = some o → h'.get? b = some o) → tn i h'
  item : ∀ (X : Cx), X.prog = P → X.w = w → X.K = K → X.calm = true → ∀ (i : Nat) (pins : List (Addr × Obj)) (s : Shared) (σ : St) (H : Hp) (E : Value → Shared → Prop), bY X pins σ H s → (∀ b ∈ fp, ji X pins H b) → tn i s.heap → J.go i H →
    wpAny (model P w) X.A (pyNext (.ref it)) (fun r s1 => ∃ u, r = some u ∧
      wpAny (model P w) X.A (letOwnedTupleGo tg (.ref it) u) (fun _ s2 => ∃ x H', bY X pins σ H' s2 ∧ RelV x u ∧ J.yld i H x H' ∧ tn (i + 1) s2.heap ∧ ∀ b ∈ fp, H' b = none) E s1) E s
  done : ∀ (X : Cx), X.prog = P → X.w = w → X.K = K → X.calm = true → ∀ (i : Nat) (pins : List (Addr × Obj)) (s : Shared) (σ : St) (H : Hp) (E : Value → Shared → Prop), bY X pins σ H s → (∀ b ∈ fp, ji X pins H b) → tn i s.heap → J.stop i H →
    wpAny (model P w) X.A (pyNext (.ref it)) (fun r s1 => r = none ∧ bY X pins σ H s1) E s
  self : ∀ (A : Around) (i : Nat) (s : Shared) (Q : Value → Shared → Prop) (E : Value → Shared → Prop), tn i s.heap → Q (.ref it) s → wpAny (model P w) A (pyIter (.ref it)) Q E s
abbrev TI:=St->Hp->(It->Hp->Prop)->Prop
def MW(X:Cx)(pins:List (Addr×Obj))(σ:St)(tg:Expr)(R:It->Hp->Prop)(itv:Value)(s2:Shared):Prop:=
 ∃(it:Addr) (fp:List Addr) (tn:Nat->Heap->Prop) (J:It) (H':Hp),itv=.ref it/\bY X pins σ H' s2/\Turn X.prog X.w X.K tg J fp it tn/\tn 0 s2.heap/\(∀b∈fp,ji X pins H' b)/\R J H'
def PI(X:Cx)(tg iter:Expr)(wi:TI):Prop:=
 ∀(pins:List (Addr×Obj)) (s:Shared) (σ:St) (H:Hp) (R:It->Hp->Prop),bY X pins σ H s->wi σ H R →
  wpAny (model X.prog X.w) X.A (eval iter X.env) (λv s1=>wpAny (model X.prog X.w) X.A (pyIter v) (MW X pins σ tg R) X.xe s1) X.xe s
def xG {M : Model} {A : Around} {E : Value → Shared → Prop} {s : Shared} {tg : Expr} {it : Addr} {u : Value} {o : Obj} {n : String} {vs : Array Value} {Q : Unit → Shared → Prop} (ho : s.heap.get? it = some o) (hc : o.cls = .type n) (hd : o.data = .fields vs)
    (hn : ["enumerate", "zip", "dict_itemiterator", "dict_reverseitemiterator", "odict_iterator", "itertools.zip_longest", "itertools.pairwise"].contains n = false) (hQ : Q () s) : wpAny M A (letOwnedTupleGo tg (.ref it) u) Q E s := by
  unfold letOwnedTupleGo
  cases tg <;> first
    | exact Va hQ
    | (cases u <;> first
        | exact Va hQ
        | (refine wpAny_bind (wpAny_load ho ?_)
           rw [hc, hd]
           show wpAny M A (if (["enumerate", "zip", "dict_itemiterator", "dict_reverseitemiterator", "odict_iterator", "itertools.zip_longest", "itertools.pairwise"].contains n && vs[0]? == some (rawInt _)) = true then _ else _) Q E s
           rw [Vy (by intro h; rw [hn, Bool.false_and] at h; cases h)]
           exact Va hQ))
def GW(K:WG)(a:Addr):It:=
 ⟨λi H=>∃xs x,cW K H a xs/\xs[i]? = some x,λi H x H'=>H'=H/\∀xs,cW K H a xs->xs[i]? = some x,λi H=>∃xs,cW K H a xs/\xs.length<=i⟩
def KN(K:WG)(a:Addr):It:=
 ⟨λi H=>∃xs x,c8 K H a xs/\xs[i]? = some x,λi H x H'=>H'=H/\∀xs,c8 K H a xs->xs[i]? = some x,λi H=>∃xs,c8 K H a xs/\xs.length<=i⟩
def B6(lo:Int)(n:Nat):It:=⟨λi _=>i<n,λi H x H'=>H'=H/\x=.int (lo+i),λi _=>n<=i⟩
def lC {P : Program} {w : World} {K : WG} {tg : Expr} (a it : Addr) : Turn P w K tg (GW K a) [it] it (fun i h => h.IsListIter it a i) where
  mem := by simp
  obj := fun i h st b hb => by
    have e : b = it := by simpa using hb
    subst e
    obtain ⟨o, e, c, d⟩ := st
    exact ⟨o, e, fun v z => by rw [d] at z; cases z⟩
  keep := fun i h h' st k => st.at fun o e => k it (by simp) o e
  item := by
    intro X hP hw hK hc i pins s σ H E I hf st hg
    subst hP hw hK
    obtain ⟨xs, x, hq, hx⟩ := hg
    obtain ⟨its, rv, p, hz⟩ := I.list hq
    obtain ⟨u, hu, ru⟩ := rv.get hx
    obtain ⟨f0, f1, f2, f3, f4, f5⟩ := hf it (by simp)
    refine wpAny_pyNext_list_item st p.isList (x := u) (by simpa using hu) fun h' st' sb => ?_
    have I1 : bY X pins σ H { s with heap := h' } := I.turned (t' := s.toks) (fun b o hb e => (sb.2 b hb).trans e) f0 f1 f3 f4 f5
    obtain ⟨o, e, c, d⟩ := id st'
    exact ⟨u, rfl, xG (s := { s with heap := h' }) e c d (by decide) ⟨x, H, I1, ru, ⟨rfl, fun ys hy => by rw [I.list_inj hy hq]; exact hx⟩, st', fun b hb => (hf b hb).1⟩⟩
  done := by
    intro X hP hw hK hc i pins s σ H E I hf st hg
    subst hP hw hK
    obtain ⟨xs, hq, hx⟩ := hg
    obtain ⟨its, rv, p, hz⟩ := I.list hq
    obtain ⟨f0, f1, f2, f3, f4, f5⟩ := hf it (by simp)
    have hl := rv.length
    exact wpAny_pyNext_list_end (I.ok.hd hc) st p.isList (by simp; lia) fun h' eb => ⟨rfl, I.turned (t' := s.toks) (fun b o hb e => eb b o hb e) f0 f1 f3 f4 f5⟩
  self := fun _ _ _ _ _ st h => wpAny_pyIter_listiter st h
def xn {P : Program} {w : World} {K : WG} {tg : Expr} (a it : Addr) : Turn P w K tg (KN K a) [it] it (fun i h => h.IsTupleIter it a i) where
  mem := by simp
  obj := fun i h st b hb => by
    have e : b = it := by simpa using hb
    subst e
    obtain ⟨o, e, c, d⟩ := st
    exact ⟨o, e, fun v z => by rw [d] at z; cases z⟩
  keep := fun i h h' st k => st.at fun o e => k it (by simp) o e
  item := by
    intro X hP hw hK hc i pins s σ H E I hf st hg
    subst hP hw hK
    obtain ⟨xs, x, hq, hx⟩ := hg
    obtain ⟨its, rv, p, hz⟩ := I.tuple hq
    obtain ⟨u, hu, ru⟩ := rv.get hx
    obtain ⟨f0, f1, f2, f3, f4, f5⟩ := hf it (by simp)
    refine wpAny_pyNext_tuple_item st (show s.heap.IsTuple a its.toArray from p) (x := u) (by simpa using hu) fun h' st' sb => ?_
    have I1 : bY X pins σ H { s with heap := h' } := I.turned (t' := s.toks) (fun b o hb e => (sb.2 b hb).trans e) f0 f1 f3 f4 f5
    obtain ⟨o, e, c, d⟩ := id st'
    exact ⟨u, rfl, xG (s := { s with heap := h' }) e c d (by decide) ⟨x, H, I1, ru, ⟨rfl, fun ys hy => by rw [I.tuple_inj hy hq]; exact hx⟩, st', fun b hb => (hf b hb).1⟩⟩
  done := by
    intro X hP hw hK hc i pins s σ H E I hf st hg
    subst hP hw hK
    obtain ⟨xs, hq, hx⟩ := hg
    obtain ⟨its, rv, p, hz⟩ := I.tuple hq
    obtain ⟨f0, f1, f2, f3, f4, f5⟩ := hf it (by simp)
    have hl := rv.length
    exact wpAny_pyNext_tuple_end (I.ok.hd hc) st (show s.heap.IsTuple a its.toArray from p) (by simp; lia) fun h' eb => ⟨rfl, I.turned (t' := s.toks) (fun b o hb e => eb b o hb e) f0 f1 f3 f4 f5⟩
  self := fun _ _ _ _ _ st h => wpAny_pyIter_tupleiter st h
def xo {P : Program} {w : World} {K : WG} {tg : Expr} (it : Addr) (lo : Int) (n : Nat) : Turn P w K tg (B6 lo n) [it] it (fun i h => IsRangeIter h it (lo + (i : Nat) * 1) ((n : Int) - (i : Nat)) 1) where
  mem := by simp
  obj := fun i h st b hb => by
    have e : b = it := by simpa using hb
    subst e
    exact ⟨_, st, fun v z => by
      have z' : Data.fields _ = Data.cell v := z
      cases z'⟩
  keep := fun i h h' st k => k it (by simp) _ st
  item := by
    intro X hP hw hK hc i pins s σ H E I hf st hg
    subst hP hw hK
    obtain ⟨f0, f1, f2, f3, f4, f5⟩ := hf it (by simp)
    have W := Walks.range (prog := X.prog) (w := X.w) (I.ok.hd hc) it lo 1 n
    refine W.item i s _ _ hg st fun v h' tk hv st' kk => ?_
    obtain ⟨t, rfl⟩ := hv
    have I1 : bY X pins σ H { s with heap := h', toks := tk } := I.turned (fun b o hb e => kk b o (by simpa using hb) e) f0 f1 f3 f4 f5
    refine ⟨_, rfl, xG (s := { s with heap := h', toks := tk }) (n := "range_iterator") st' rfl rfl (by decide) ⟨.int (lo + i), H, I1, ⟨t, ?_⟩, ⟨rfl, rfl⟩, st', fun b hb => (hf b hb).1⟩⟩
    rw [Int.mul_one]
  done := by
    intro X hP hw hK hc i pins s σ H E I hf st hg
    subst hP hw hK
    obtain ⟨f0, f1, f2, f3, f4, f5⟩ := hf it (by simp)
    exact wpAny_pyNext_range_end (I.ok.hd hc) st (by have : n ≤ i := hg; lia) fun h' eb => ⟨rfl, I.turned (t' := s.toks) (fun b o hb e => eb b o hb e) f0 f1 f3 f4 f5⟩
  self := fun _ _ _ _ _ st h => wpAny_pyIter_rangeiter st h
section
variable {X:Cx} {tg:Expr}
def AF(K:WG)(tl:TE):TI:=λσ H R=>tl σ H λx H1=>∃a,x=.ref a/\(∃xs,cW K H1 a xs)/\R (GW K a) H1
def Fv(K:WG)(tl:TE):TI:=λσ H R=>tl σ H λx H1=>∃a,x=.ref a/\(∃xs,c8 K H1 a xs)/\R (KN K a) H1
def FF{l:Expr}{tl:TE}(hl:PE X l tl):PI X tg l (AF X.K tl):=by
 intro pins s σ H R I h;refine dZ (hl pins s σ H _ I h) λv s1 ⟨x,H1,I1,r1,q1⟩=>?_;obtain⟨a,e,⟨xs,hq⟩,q⟩:=q1;subst e;cases r1;obtain⟨its,rv,p,hz⟩:=I1.list hq;refine Vb p.isList ?_;refine⟨s1.heap.objs.size,[s1.heap.objs.size],_,_,H1,rfl,I1.kept (t':=s1.toks) λb o e=>aB _ e,lC a _,⟨_,aN _ rfl,rfl,rfl⟩,λb hb=>?_,q⟩;have e:b=s1.heap.objs.size:=by simpa using hb
 subst e;exact I1.fpOk (aJ _) (I1.hok.fresh (aJ _))
def Iq{l:Expr}{tl:TE}(hl:PE X l tl):PI X tg l (Fv X.K tl):=by
 intro pins s σ H R I h;refine dZ (hl pins s σ H _ I h) λv s1 ⟨x,H1,I1,r1,q1⟩=>?_;obtain⟨a,e,⟨xs,hq⟩,q⟩:=q1;subst e;cases r1;obtain⟨its,rv,p,hz⟩:=I1.tuple hq;refine Vc (show s1.heap.IsTuple a its.toArray from p) ?_;refine⟨s1.heap.objs.size,[s1.heap.objs.size],_,_,H1,rfl,I1.kept (t':=s1.toks) λb o e=>aB _ e,xn a _,⟨_,aN _ rfl,rfl,rfl⟩,λb hb=>?_,q⟩;have e:b=s1.heap.objs.size:=by simpa using hb
 subst e;exact I1.fpOk (aJ _) (I1.hok.fresh (aJ _))
def Co{pins:List (Addr×Obj)}{σ:St}{H:Hp}{s:Shared}{R:It->Hp->Prop}{E:Value->Shared->Prop}{lo hi:Int}{t u v:Tok}{tk:Nat}(I:bY X pins σ H s)(h1:-(2 ^ 62)<=lo)(h2:lo<2 ^ 62)(h3:-(2 ^ 62)<=hi)(h4:hi<2 ^ 62)
  (q:R (B6 lo (hi-lo).toNat) H):wpAny (model X.prog X.w) X.A (pyIter (.ref s.heap.objs.size)) (MW X pins σ tg R) E { s with heap:=s.heap.push { cls:=.type "range",data:=.fields #[.int lo t,.int hi u,.int 1 v] },toks:=tk }:=by
 refine wpAny_pyIter_range (IsRange.new ..) (small_one h1 h2 h3 h4) ?_;have I1:bY X pins σ H { s with heap:=s.heap.push { cls:=.type "range",data:=.fields #[.int lo t,.int hi u,.int 1 v] },toks:=tk }:=I.kept λb o e=>aB _ e;refine⟨(s.heap.push { cls:=.type "range",data:=.fields #[.int lo t,.int hi u,.int 1 v] }).objs.size,[(s.heap.push { cls:=.type "range",data:=.fields #[.int lo t,.int hi u,.int 1 v] }).objs.size],_,_,H,rfl,
  I1.kept (t':=tk) λb o e=>aB _ e,xo _ lo (hi-lo).toNat,?_,λb hb=>?_,q⟩
 ·have e1:lo+((0:Nat):Int)*1=lo:=by simp
  have e2:(((hi-lo).toNat:Nat):Int)-((0:Nat):Int)=Builtin.Range.rangeSize lo hi 1:=by rw[rangeSize_one];split<;>lia
  show IsRangeIter _ _ (lo+((0:Nat):Int)*1) ((((hi-lo).toNat:Nat):Int)-((0:Nat):Int)) 1;rw[e1,e2];exact aN _ rfl
 ·have e:b=(s.heap.push { cls:=.type "range",data:=.fields #[.int lo t,.int hi u,.int 1 v] }).objs.size:=by simpa using hb
  subst e;exact I1.fpOk (aJ _) (I1.hok.fresh (aJ _))
def AE(ta:TA):TI:=λσ H R=>ta σ H λvs H1=>∃j:Int,vs=[.int j]/\-(2 ^ 62)<=j/\j<2 ^ 62/\R (B6 0 j.toNat) H1
def HJ(ta:TA):TI:=λσ H R=>ta σ H λvs H1=>∃i j:Int,vs=[.int i,.int j]/\(-(2 ^ 62)<=i/\i<2 ^ 62/\-(2 ^ 62)<=j/\j<2 ^ 62)/\R (B6 i (j-i).toNat) H1
def Aj {a:Expr} {ta:TA} {p pos:Pos} (hg:Gl X "range") (hm:X.mg "range"=none) (ha:PA X [a] ta) (hs:starEach [a] X.env=[(false,eval a X.env)]:=by rfl):PI X tg (.Call (.Name "range" p) [a] [] pos) (AE ta):=by
 intro pins s σ H R I h;refine Call_ (ou I hg hm boot_range (dU (dZ (ha pos pins s σ H _ I h) λus s1 ⟨vs,H1,I1,r1,q1⟩=>?_) hs rfl));obtain⟨j,e,q1,q2,q⟩:=q1;subst e;cases r1 with
 | cons r rr=>
  cases rr;obtain⟨t,rfl⟩:=r;exact call_range_1 (Co I1 (by lia) (by lia) q1 q2 (by simpa using q))
def rK(wi:TI)(g:TG)(tb:TS):TS:=λD σ H=>wi σ H λJ H1=>∃W:Nat->Nat->St->Hp->Prop,(∃m,W 0 m σ H1)/\∀i m σ H,W i m σ H →
 (J.stop i H/\D.nx σ H)\/(J.go i H/\∃N:St->Hp->Prop,(∀σ' H',N σ' H'->∃m',m'<m/\W (i+1) m' σ' H')/\∀x H',J.yld i H x H'->g x σ H' λσ2 H2=>tb { D with nx:=N,ct:=N,bk:=D.nx } σ2 H2)
def iY(fp:List Addr)(h:Heap):List (Addr×Obj):=fp.filterMap λb=>(h.get? b).map λo=>(b,o)
def gO{fp:List Addr}{h:Heap}{b:Addr}{o:Obj}(hb:b∈fp)(e:h.get? b=some o):(b,o)∈iY fp h:=List.mem_filterMap.mpr ⟨b,hb,by rw[e];rfl⟩
def qW{fp:List Addr}{h:Heap}{p:Addr×Obj}(hp:p∈iY fp h):p.1∈fp/\h.get? p.1=some p.2:=by
 obtain⟨b,hb,e⟩:=List.mem_filterMap.mp hp;cases q:h.get? b with
 | none=>rw[q] at e;cases e
 | some o=>
  rw[q] at e;have e':(b,o)=p:=bZ e;subst e';exact⟨hb,q⟩
def bY.pinned{pins:List (Addr×Obj)}{σ:St}{H:Hp}{s:Shared}{fp:List Addr}(I:bY X pins σ H s)(hf:∀b∈fp,ji X pins H b)(ho:∀b∈fp,∃o,s.heap.get? b=some o/\∀v,o.data≠.cell v):bY X (pins++iY fp s.heap) σ H s:=
 I.pins_of λp hp=>(a9.mp hp).elim (λz=>I.pin p (ay _ z)) λz=>by
  obtain⟨hb,e⟩:=qW z;obtain⟨f0,f1,f2,_⟩:=hf p.1 hb;obtain⟨o,e',d⟩:=ho p.1 hb;rw[e] at e';cases e';exact⟨e,f0,f1,f2,d⟩
def bY.unpinned{pins pl:List (Addr×Obj)}{σ:St}{H:Hp}{s:Shared}(I:bY X (pins++pl) σ H s):bY X pins σ H s:=I.pins_of λp hp=>I.pin p (ay _ (bH _ hp))
def Il{iter:Expr}{body:List Stmt}{wi:TI}{g:TG}{tb:TS}{pos:Pos}(hp:PassesOwn (model X.prog X.w) X.A X.env X.xe)(hc:X.calm=true)(hi:PI X tg iter wi)(hg:PG X tg g)(hb:ut X body tb)
  (hs:∀x,foldedSetIterable iter X.env x=pure x:=by intro _;rfl):PS X (.For tg iter body [] pos) (rK wi g tb):=by
 intro pins s σ H D I h;refine wpAny_For (dZ (hi pins s σ H _ I h) λv s1 h1=>dZ h1 λitv s2 h2=>?_) hs;obtain⟨it,fp,tn,J,H2,e,I2,T,st2,f2,W,⟨m0,w0⟩,turn⟩:=h2;subst e;have stat:∀{H':Hp},(∀b∈fp,H' b=none)->∀b∈fp,ji X pins H' b:=λhn b hb=>⟨hn b hb,(f2 b hb).2⟩
 refine codeAny_forLoop_any (λn s'=>∃i σ' H',bY X pins σ' H' s'/\tn i s'.heap/\(∀b∈fp,H' b=none)/\W i n σ' H') ?_ m0 ⟨0,σ,H2,I2,st2,λb hb=>(f2 b hb).1,w0⟩;rintro n s3 ⟨i,σ3,H3,I3,st3,fr3,w3⟩;rcases turn i n σ3 H3 w3 with ⟨stop,qn⟩ | ⟨go,N,hN,step⟩
 ·refine V9 hp (dZ (T.done X rfl rfl rfl hc i pins s3 σ3 H3 X.xe I3 (stat fr3) st3 stop) λr s4 ⟨hr,I4⟩=>?_);subst hr;exact V5 ⟨σ3,H3,I4,qn⟩
 ·refine V9 hp (dZ (T.item X rfl rfl rfl hc i pins s3 σ3 H3 X.xe I3 (stat fr3) st3 go) λr s4 ⟨u,hr,h4⟩=>?_);subst hr;refine V9 hp (dZ h4 λ_ s5 ⟨x,H5,I5,r5,y5,st5,fr5⟩=>?_);have I5':=I5.pinned (stat fr5) (T.obj _ _ st5);refine V9 hp (dZ (hg _ s5 σ3 H5 x u _ I5' r5 (step x H5 y5)) λ_ s6 ⟨σ6,H6,I6,q6⟩=>?_);refine V9 hp (dZ (hb _ s6 σ6 H6 _ I6 q6) λf s7 q7=>?_);have again:∀{σ7:St} {H7:Hp},bY X (pins++iY fp s5.heap) σ7 H7 s7->N σ7 H7->∃m,m<n/\∃i σ' H',bY X pins σ' H' s7/\tn i s7.heap/\(∀b∈fp,H' b=none)/\W i m σ' H':=fun {σ7 H7} I7 n7=>by
   obtain⟨m',hm,w7⟩:=hN σ7 H7 n7;refine⟨m',hm,i+1,σ7,H7,I7.unpinned,T.keep _ _ _ st5 λb hb o e=>(I7.pin (b,o) (ay _ (ay _ (gO hb e)))).1,λb hb=>?_,w7⟩;obtain⟨o,e,d⟩:=T.obj _ _ st5 b hb;exact(I7.pin (b,o) (ay _ (ay _ (gO hb e)))).2.1
  cases f with
  | next=>obtain⟨σ7,H7,I7,n7⟩:=q7;exact again I7 n7
  | cont=>obtain⟨σ7,H7,I7,n7⟩:=q7;exact again I7 n7
  | brk=>obtain⟨σ7,H7,I7,q7⟩:=q7;exact⟨σ7,H7,I7.unpinned,q7⟩
  | ret v=>obtain⟨x7,σ7,H7,I7,r7,q7⟩:=q7;exact⟨x7,σ7,H7,I7.unpinned,r7,q7⟩
end
def iZ{K:WG}{a:Addr}{xs:List V}{g:TG}{tb:TS}{D:Ends}{σ:St}{H:Hp}(Pv:Nat->St->Hp->Prop)(h0:Pv 0 σ H)(hl:∀i σ H,i<=xs.length->Pv i σ H->cW K H a xs)
  (hs:∀i x σ H,xs[i]? = some x->Pv i σ H->g x σ H λσ2 H2=>tb { D with nx:=Pv (i+1),ct:=Pv (i+1),bk:=D.nx } σ2 H2) (hd:∀σ H,Pv xs.length σ H->D.nx σ H) :
  ∃W:Nat->Nat->St->Hp->Prop,(∃m,W 0 m σ H)/\∀i m σ H,W i m σ H →
   ((GW K a).stop i H/\D.nx σ H)\/((GW K a).go i H/\∃N:St->Hp->Prop,(∀σ' H',N σ' H'->∃m',m'<m/\W (i+1) m' σ' H')/\∀x H',(GW K a).yld i H x H'->g x σ H' λσ2 H2=>tb { D with nx:=N,ct:=N,bk:=D.nx } σ2 H2):=by
 refine⟨λi m σ H=>m=xs.length-i/\i<=xs.length/\Pv i σ H,⟨xs.length,by simp,ac _,h0⟩,?_⟩;rintro i m σ H ⟨rfl,hi,p⟩;have q:=hl i σ H hi p;by_cases hlt:i<xs.length
 ·refine .inr ⟨⟨xs,xs[i],q,by simp[hlt]⟩,Pv (i+1),λσ' H' p'=>⟨xs.length-(i+1),by lia,rfl,hlt,p'⟩,λx H' y=>?_⟩;obtain⟨e,y⟩:=y;subst e;exact hs i x σ _ (y xs q) p
 ·have e:i=xs.length:=by lia
  subst e;exact .inl ⟨⟨xs,q,aJ _⟩,hd σ H p⟩
def eg{lo:Int}{n:Nat}{g:TG}{tb:TS}{D:Ends}{σ:St}{H:Hp}(Pv:Nat->St->Hp->Prop)(h0:Pv 0 σ H)
  (hs:∀i σ H,i<n->Pv i σ H->g (.int (lo+i)) σ H λσ2 H2=>tb { D with nx:=Pv (i+1),ct:=Pv (i+1),bk:=D.nx } σ2 H2) (hd:∀σ H,Pv n σ H->D.nx σ H) :
  ∃W:Nat->Nat->St->Hp->Prop,(∃m,W 0 m σ H)/\∀i m σ H,W i m σ H →
   ((B6 lo n).stop i H/\D.nx σ H)\/((B6 lo n).go i H/\∃N:St->Hp->Prop,(∀σ' H',N σ' H'->∃m',m'<m/\W (i+1) m' σ' H')/\∀x H',(B6 lo n).yld i H x H'->g x σ H' λσ2 H2=>tb { D with nx:=N,ct:=N,bk:=D.nx } σ2 H2):=by
 refine⟨λi m σ H=>m=n-i/\i<=n/\Pv i σ H,⟨n,by simp,ac _,h0⟩,?_⟩;rintro i m σ H ⟨rfl,hi,p⟩;by_cases hlt:i<n
 ·refine .inr ⟨hlt,Pv (i+1),λσ' H' p'=>⟨n-(i+1),by lia,rfl,hlt,p'⟩,λx H' y=>?_⟩;obtain⟨e,y⟩:=y;subst e y;exact hs i σ _ hlt p
 ·have e:i=n:=by lia
  subst e;exact .inl ⟨aJ _,hd σ H p⟩
abbrev R2:=V->V->Hp->VK->Prop
def mV(X:Cx)(f:Value->Value->Sem Value)(r:R2):Prop:=
 ∀(pins:List (Addr×Obj)) (s:Shared) (σ:St) (H:Hp) (x y:V) (v u:Value) (Q:VK),bY X pins σ H s->RelV x v->RelV y u->r x y H Q →
  wpAny (model X.prog X.w) X.A (f v u) (EP X pins σ Q) X.xe s
def L9(X:Cx)(f:Value->Sem Value)(r:V->Hp->VK->Prop):Prop:=
 ∀(pins:List (Addr×Obj)) (s:Shared) (σ:St) (H:Hp) (x:V) (v:Value) (Q:VK),bY X pins σ H s->RelV x v->r x H Q →
  wpAny (model X.prog X.w) X.A (f v) (EP X pins σ Q) X.xe s
def gT(X:Cx)(f:Value)(r:List V->Hp->VK->Prop):Prop:=
 ∀(pins:List (Addr×Obj)) (s:Shared) (σ:St) (H:Hp) (xs:List V) (us:List Value) (Q:VK),bY X pins σ H s->cE xs us->r xs H Q →
  wpAny (model X.prog X.w) X.A (call f us) (EP X pins σ Q) X.xe s
def MG(X:Cx)(r:V->Hp->(Bool->Hp->Prop)->Prop):Prop:=
 ∀(pins:List (Addr×Obj)) (s:Shared) (σ:St) (H:Hp) (x:V) (v:Value) (Q:Bool->Hp->Prop),bY X pins σ H s->RelV x v->r x H Q →
  wpAny (model X.prog X.w) X.A (truthy v) (TP X pins σ Q) X.xe s
def Ee(r:R2)(ta tb:TE):TE:=λσ H Q=>ta σ H λx H1=>tb σ H1 λy H2=>r x y H2 Q
def Lg(r:V->Hp->VK->Prop)(ta:TE):TE:=λσ H Q=>ta σ H λx H1=>r x H1 Q
def rI(C:Int->Int->Prop)(g:Int->Int->V):R2:=λx y H Q=>∃i j,x=.int i/\y=.int j/\C i j/\Q (g i j) H
def Gw(g:Int->Int->V):R2:=λx y H Q=>∃i j,x=.int i/\y=.int j/\Q (g i j) H
def rU(g:Int->V):V->Hp->VK->Prop:=λx H Q=>∃i,x=.int i/\Q (g i) H
section
variable {X:Cx} {a b:Expr} {ta tb:TE} {pos:Pos}
def Jo(ha:PE X a ta)(hb:PE X b tb){pins:List (Addr×Obj)}{s:Shared}{σ:St}{H:Hp}{R:V->V->Hp->Prop}(I:bY X pins σ H s)
  (h:ta σ H λx H1=>tb σ H1 λy H2=>R x y H2) {Q:Value->Shared->Prop} {f:Value->Value->Sem Value}
  (hf:∀v u s2 x y H2,bY X pins σ H2 s2->RelV x v->RelV y u->R x y H2->wpAny (model X.prog X.w) X.A (f v u) Q X.xe s2) :
  wpAny (model X.prog X.w) X.A (eval a X.env) (λv s₁=>wpAny (model X.prog X.w) X.A (eval b X.env) (λu s₂=>wpAny (model X.prog X.w) X.A (f v u) Q X.xe s₂) X.xe s₁) X.xe s:=by
 refine dZ (ha pins s σ H _ I h) λv s1 ⟨x,H1,I1,r1,q1⟩=>?_;refine dZ (hb pins s1 σ H1 _ I1 q1) λu s2 ⟨y,H2,I2,r2,q2⟩=>?_;exact hf v u s2 x y H2 I2 r1 r2 q2
def Ky{op:Operator}{r:R2}(ho:mV X (binaryOp op) r)(ha:PE X a ta)(hb:PE X b tb):PE X (.BinOp a op b pos) (Ee r ta tb):=by
 intro pins s σ H Q I h;exact wpAny_BinOp (Jo ha hb I h λv u s2 x y H2 I2 rx ry q=>ho pins s2 σ H2 x y v u Q I2 rx ry q)
def Kx{op:UnaryOp}{r:V->Hp->VK->Prop}(ho:L9 X (unaryOp op) r)(ha:PE X a ta):PE X (.UnaryOp op a pos) (Lg r ta):=by
 intro pins s σ H Q I h;exact UnaryOp_ (dZ (ha pins s σ H _ I h) λv s1 ⟨x,H1,I1,r1,q1⟩=>ho pins s1 σ H1 x v Q I1 r1 q1)
def L7{f:Value->Value->Sem Value}{C:Int->Int->Prop}{g:Int->Int->Int}
  (rule:∀(i j:Int) (t u:Tok) (s:Shared) (Q:Value->Shared->Prop) (E:Value->Shared->Prop),C i j->Q (.int (g i j) s.toks) { s with toks:=s.toks+1 }->wpAny (model X.prog X.w) X.A (f (.int i t) (.int j u)) Q E s) :
  mV X f (rI C λi j=>.int (g i j)):=by
 intro pins s σ H x y v u Q I rx ry h;obtain⟨i,j,rfl,rfl,hc,q⟩:=h;obtain⟨t,rfl⟩:=rx;obtain⟨t',rfl⟩:=ry;exact rule i j t t' s _ _ hc ⟨.int (g i j),H,I.tok _,⟨_,rfl⟩,q⟩
def LG{f:Value->Value->Sem Value}{g:Int->Int->Int}
  (rule:∀(i j:Int) (t u:Tok) (s:Shared) (Q:Value->Shared->Prop) (E:Value->Shared->Prop),Q (.int (g i j) s.toks) { s with toks:=s.toks+1 }->wpAny (model X.prog X.w) X.A (f (.int i t) (.int j u)) Q E s) :
  mV X f (Gw λi j=>.int (g i j)):=by
 intro pins s σ H x y v u Q I rx ry h;obtain⟨i,j,rfl,rfl,q⟩:=h;obtain⟨t,rfl⟩:=rx;obtain⟨t',rfl⟩:=ry;exact rule i j t t' s _ _ ⟨.int (g i j),H,I.tok _,⟨_,rfl⟩,q⟩
def JP{f:Value->Value->Sem Value}{g:Int->Int->Bool}
  (rule:∀(i j:Int) (t u:Tok) (s:Shared) (Q:Value->Shared->Prop) (E:Value->Shared->Prop),Q (.bool (g i j)) s->wpAny (model X.prog X.w) X.A (f (.int i t) (.int j u)) Q E s) :
  mV X f (Gw λi j=>.bl (g i j)):=by
 intro pins s σ H x y v u Q I rx ry h;obtain⟨i,j,rfl,rfl,q⟩:=h;obtain⟨t,rfl⟩:=rx;obtain⟨t',rfl⟩:=ry;exact rule i j t t' s _ _ ⟨.bl (g i j),H,I,rfl,q⟩
def MO(i j:Int):Prop:=0<j/\j<1073741824
def MN(i j:Int):Prop:=0<=j/\j<=1000000/\i.natAbs<2 ^ 64
def KD(i j:Int):Prop:=(-(2 ^ 64)<i/\i<2 ^ 64)\/(-(2 ^ 64)<j/\j<2 ^ 64)
def KD.ok{i j:Int}(h:KD i j):IntMulOk i j:=by
 rcases h with ⟨h1,h2⟩ | ⟨h1,h2⟩
 ·exact .of_left (intBits_le_64 h1 h2)
 ·exact .of_right (intBits_le_64 h1 h2)
def eF:mV X (binaryOp .Add) (Gw λi j=>.int (i+j)):=LG λ_ _ _ _ _ _ _ q=>add_int q
def qU:mV X (binaryOp .Sub) (Gw λi j=>.int (i-j)):=LG λ_ _ _ _ _ _ _ q=>sub_int q
def nJ:mV X (binaryOp .Mult) (rI KD λi j=>.int (i*j)):=L7 λ_ _ _ _ _ _ _ hc q=>mul_int q hc.ok
def oH:mV X (binaryOp .FloorDiv) (rI MO λi j=>.int (i / j)):=L7 λi j _ _ _ _ _ hc q=>by
 have h1:(0:Int)<j:=hc.1;have h2:j<1073741824:=hc.2;exact floordiv_int (by lia) (by rw[Int.fdiv_eq_ediv_of_nonneg i (by lia)];exact q) (.inl (PyProof.noPylong_small (by lia)))
def fz:mV X (binaryOp .Mod) (rI (λ_ j=>0<j) λi j=>.int (i % j)):=L7 λi j _ _ _ _ _ hc q=>by
 have h1:(0:Int)<j:=hc;exact mod_int' (by lia) (by rw[Int.fmod_eq_emod_of_nonneg i (by lia)];exact q)
def JO:mV X (binaryOp .Pow) (rI MN λi j=>.int (i ^ j.toNat)):=L7 λ_ _ _ _ _ _ _ hc q=>pow_int_small hc.1 hc.2.1 hc.2.2 q
def M3{f:Value->Sem Value}{g:Int->Int}
  (rule:∀(i:Int) (t:Tok) (s:Shared) (Q:Value->Shared->Prop) (E:Value->Shared->Prop),Q (.int (g i) s.toks) { s with toks:=s.toks+1 }->wpAny (model X.prog X.w) X.A (f (.int i t)) Q E s) :
  L9 X f (rU λi=>.int (g i)):=by
 intro pins s σ H x v Q I rx h;obtain⟨i,rfl,q⟩:=h;obtain⟨t,rfl⟩:=rx;exact rule i t s _ _ ⟨.int (g i),H,I.tok _,⟨_,rfl⟩,q⟩
def uv:L9 X (unaryOp .USub) (rU λi=>.int (-i)):=M3 λ_ _ _ _ _ q=>neg_int q
end
def IQ:V->V->Bool
 | .non,.non=>true | .non,.int _=>true | .int _,.non=>true | .non,.bl _=>true | .bl _,.non=>true | .non,.str _=>true | .str _,.non=>true
 | .int _,.int _=>true | .bl _,.bl _=>true | .str _,.str _=>true | .byt _,.byt _=>true
 | .int _,.str _=>true | .str _,.int _=>true | .bl _,.str _=>true | .str _,.bl _=>true
 | _,_=>false
def Ks:R2:=λx y H Q=>IQ x y=true/\Q (.bl (decide (x=y))) H
def Kq:R2:=λx y H Q=>IQ x y=true/\Q (.bl (!decide (x=y))) H
def AL{i j:Int}:decide (V.int i=V.int j)=(i==j):=by
 rw[iD];simp
def EE{i j:Bool}:decide (V.bl i=V.bl j)=(i==j):=by
 rw[iD];simp
def AK{i j:Str}:decide (V.str i=V.str j)=(i==j):=by
 rw[iD];simp
def AM{i j:Array UInt8}:decide (V.byt i=V.byt j)=(i.toList==j.toList):=by
 rw[iD];cases i;cases j;simp
section
variable {X:Cx} {a b:Expr} {ta tb tc:TE} {pos:Pos}
def dJ{pins:List (Addr×Obj)}{σ:St}{H:Hp}{s:Shared}{Q:VK}{k k':Bool}(I:bY X pins σ H s)(q:Q (.bl k) H)(e:k=k'):EP X pins σ Q (.bool k') s:=by
 subst e;exact⟨.bl k,H,I,rfl,q⟩
def fM:mV X (compareOp .Eq) Ks:=by
 intro pins s σ H x y v u Q I rx ry h;obtain⟨hs,q⟩:=h;cases x with
 | non=>
  cases rx;cases y with
  | non=>cases ry;exact PySem.EqNone.eq_none_none (dJ I q (by simp))
  | bl j=>cases ry;exact PySem.EqNone.eq_none_bool (dJ I q (by simp))
  | int j=>obtain⟨t',rfl⟩:=ry;exact PySem.EqNone.eq_none_int (dJ I q (by simp))
  | str j=>obtain⟨t',rfl⟩:=ry;exact PySem.EqNone.eq_none_str (dJ I q (by simp))
  | _=>exact absurd (show false=true from hs) ax
 | bl i=>
  cases rx;cases y with
  | non=>cases ry;exact PySem.EqNone.eq_bool_none (dJ I q (by simp))
  | bl j=>cases ry;exact eq_bool (dJ I q EE)
  | str j=>obtain⟨t',rfl⟩:=ry;exact PySem.EqMixed.eq_bool_str (dJ I q (by simp))
  | _=>exact absurd (show false=true from hs) ax
 | int i=>
  obtain⟨t,rfl⟩:=rx;cases y with
  | non=>cases ry;exact PySem.EqNone.eq_int_none (dJ I q (by simp))
  | int j=>obtain⟨t',rfl⟩:=ry;exact eq_int (dJ I q AL)
  | str j=>obtain⟨t',rfl⟩:=ry;exact PySem.EqMixed.eq_int_str (dJ I q (by simp))
  | _=>exact absurd (show false=true from hs) ax
 | str i=>
  obtain⟨t,rfl⟩:=rx;cases y with
  | non=>cases ry;exact PySem.EqNone.eq_str_none (dJ I q (by simp))
  | bl j=>cases ry;exact PySem.EqMixed.eq_str_bool (dJ I q (by simp))
  | int j=>obtain⟨t',rfl⟩:=ry;exact PySem.EqMixed.eq_str_int (dJ I q (by simp))
  | str j=>obtain⟨t',rfl⟩:=ry;exact eq_str (dJ I q AK)
  | _=>exact absurd (show false=true from hs) ax
 | byt i=>
  obtain⟨t,rfl⟩:=rx;cases y with
  | byt j=>obtain⟨t',rfl⟩:=ry;exact PySem.W.eq_bytes (dJ I q AM)
  | _=>exact absurd (show false=true from hs) ax
 | _=>cases y<;>exact absurd (show false=true from hs) ax
def oT:mV X (compareOp .NotEq) Kq:=by
 intro pins s σ H x y v u Q I rx ry h;obtain⟨hs,q⟩:=h;cases x with
 | non=>
  cases rx;cases y with
  | non=>cases ry;exact PySem.EqNone.ne_none_none (dJ I q (by simp))
  | bl j=>cases ry;exact PySem.EqNone.ne_none_bool (dJ I q (by simp))
  | int j=>obtain⟨t',rfl⟩:=ry;exact PySem.EqNone.ne_none_int (dJ I q (by simp))
  | str j=>obtain⟨t',rfl⟩:=ry;exact PySem.EqNone.ne_none_str (dJ I q (by simp))
  | _=>exact absurd (show false=true from hs) ax
 | bl i=>
  cases rx;cases y with
  | non=>cases ry;exact PySem.EqNone.ne_bool_none (dJ I q (by simp))
  | bl j=>cases ry;exact ne_bool (dJ I q (congrArg not EE))
  | str j=>obtain⟨t',rfl⟩:=ry;exact PySem.EqMixed.ne_bool_str (dJ I q (by simp))
  | _=>exact absurd (show false=true from hs) ax
 | int i=>
  obtain⟨t,rfl⟩:=rx;cases y with
  | non=>cases ry;exact PySem.EqNone.ne_int_none (dJ I q (by simp))
  | int j=>obtain⟨t',rfl⟩:=ry;exact ne_int (dJ I q (congrArg not AL))
  | str j=>obtain⟨t',rfl⟩:=ry;exact PySem.EqMixed.ne_int_str (dJ I q (by simp))
  | _=>exact absurd (show false=true from hs) ax
 | str i=>
  obtain⟨t,rfl⟩:=rx;cases y with
  | non=>cases ry;exact PySem.EqNone.ne_str_none (dJ I q (by simp))
  | bl j=>cases ry;exact PySem.EqMixed.ne_str_bool (dJ I q (by simp))
  | int j=>obtain⟨t',rfl⟩:=ry;exact PySem.EqMixed.ne_str_int (dJ I q (by simp))
  | str j=>obtain⟨t',rfl⟩:=ry;exact ne_str (dJ I q (congrArg not AK))
  | _=>exact absurd (show false=true from hs) ax
 | byt i=>
  obtain⟨t,rfl⟩:=rx;cases y with
  | byt j=>obtain⟨t',rfl⟩:=ry;exact PySem.W.ne_bytes (dJ I q (congrArg not AM))
  | _=>exact absurd (show false=true from hs) ax
 | _=>cases y<;>exact absurd (show false=true from hs) ax
def kH:mV X (compareOp .Lt) (Gw λi j=>.bl (decide (i<j))):=JP λ_ _ _ _ _ _ _ q=>lt_int q
def LF:mV X (compareOp .LtE) (Gw λi j=>.bl (decide (i<=j))):=JP λ_ _ _ _ _ _ _ q=>le_int q
def uW:mV X (compareOp .Gt) (Gw λi j=>.bl (decide (j<i))):=JP λ_ _ _ _ _ _ _ q=>gt_int q
def vZ:mV X (compareOp .IsNot) (λx y H Q=>y=.non/\Q (.bl (!decide (x=.non))) H):=by
 intro pins s σ H x y v u Q I rx ry h;obtain⟨rfl,q⟩:=h;cases ry;refine isnot_none_gen (dJ I q ?_);cases x<;>first
  | (cases rx;rfl)
  | (obtain⟨t,rfl⟩:=rx;rfl)
def bK(b:Expr){op:CmpOp}(h:op≠.In:=by decide)(h2:op≠.NotIn:=by decide):behindInMarks op b=false:=by
 have e1:(op==CmpOp.In)=false:=by cases op<;>first | rfl | exact absurd rfl h
 have e2:(op==CmpOp.NotIn)=false:=by cases op<;>first | rfl | exact absurd rfl h2
 cases b<;>simp[behindInMarks,e1,e2]
def FN{op:CmpOp}{r:R2}(ho:mV X (compareOp op) r)(ha:PE X a ta)(hb:PE X b tb)(hm:behindInMarks op b=false):PE X (.Compare a [op] [b] pos) (Ee r ta tb):=by
 intro pins s σ H Q I h;exact wpAny_Compare1 (Jo ha hb I h λv u s2 x y H2 I2 rx ry q=>ho pins s2 σ H2 x y v u Q I2 rx ry q) hm
def wB(t:TE):TT:=λσ H Q=>t σ H λx H'=>∃k,x=.bl k/\Q k H'
def Es{op:CmpOp}{r:R2}(ho:mV X (compareOp op) r)(ha:PE X a ta)(hb:PE X b tb)(hm:behindInMarks op b=false):PT X (.Compare a [op] [b] pos) (wB (Ee r ta tb)):=by
 intro pins s σ H Q I h;refine wpAny_isTrue_Compare1 (dZ (ha pins s σ H _ I h) λv s1 ⟨x,H1,I1,r1,q1⟩=>dZ (hb pins s1 σ H1 _ I1 q1) λu s2 ⟨y,H2,I2,r2,q2⟩=>
  dZ (ho pins s2 σ H2 x y v u _ I2 r1 r2 q2) λc s3 ⟨z,H3,I3,r3,k,e,q3⟩=>?_) hm
 subst e;cases r3;exact V4 ⟨H3,I3,q3⟩
def IH(r r':R2)(ta tb tc:TE):TE:=λσ H Q=>ta σ H λx H1=>tb σ H1 λy H2=>r x y H2 λz H3=>∃k,z=.bl k ∧
 (if k=true then tc σ H3 λw' H4=>r' y w' H4 Q else Q (.bl false) H3)
def Jq(K:WG)(x:V)(H:Hp)(k:Bool):Prop:=
 match x with
 | .non=>k=false
 | .bl b=>k=b
 | .int i=>k=(i != 0)
 | .str y=>y.length<=sizeLine/\k=((y.length:Int) != 0)
 | .byt y=>y.size<=sizeLine/\k=((y.size:Int) != 0)
 | .ref p=>(∃xs,cW K H p xs/\k=!xs.isEmpty)\/(∃xs,c8 K H p xs/\k=!xs.isEmpty)\/∃kvs,H p=some (.dK kvs)/\k=!kvs.isEmpty
 | _=>False
def yn{κ:Type}{kvs:List (κ×V)}{vs:List (κ×Value)}(r:KV kvs vs):(!vs.isEmpty)=!kvs.isEmpty:=by
 cases r<;>rfl
def tG{xs:List V}{its:List Value}(r:cE xs its):(!its.toArray.isEmpty)=!xs.isEmpty:=by
 cases r<;>simp
def oq:(sizeLine:Nat)<2 ^ 63:=by rw[Vd];decide
def Hy:MG X (λx H Q=>∃k,Jq X.K x H k/\Q k H):=by
 intro pins s σ H x v Q I rx h;obtain⟨k,e,q⟩:=h;have hl:=oq;have hs:sizeLine=16777216:=Vd;cases x with
 | non=>
  cases rx;have e':k=false:=e;subst e';exact truthy_none ⟨H,I,q⟩
 | bl b=>
  cases rx;have e':k=b:=e;subst e';exact V4 ⟨H,I,q⟩
 | int i=>
  obtain⟨t,rfl⟩:=rx;have e':k=(i != 0):=e;subst e';exact PySem.P.truthy_int ⟨H,I,q⟩
 | str y=>
  obtain⟨t,rfl⟩:=rx;obtain⟨hy,e'⟩:y.length<=sizeLine/\k=((y.length:Int) != 0):=e;subst e';exact PySem.P.truthy_str (by lia) ⟨H,I.tok _,q⟩
 | byt y=>
  obtain⟨t,rfl⟩:=rx;obtain⟨hy,e'⟩:y.size<=sizeLine/\k=((y.size:Int) != 0):=e;subst e';exact PySem.W.truthy_bytes (by lia) ⟨H,I.tok _,q⟩
 | ref p=>
  cases rx;have e':(∃xs,cW X.K H p xs/\k=!xs.isEmpty)\/(∃xs,c8 X.K H p xs/\k=!xs.isEmpty)\/∃kvs,H p=some (.dK kvs)/\k=!kvs.isEmpty:=e;rcases e' with ⟨xs,hx,e'⟩ | ⟨xs,hx,e'⟩ | ⟨kvs,hx,e'⟩
  ·subst e';obtain⟨its,r,pl,hz⟩:=I.list hx;have hlen:=r.length;exact wpAny_truthy_list pl.isList (by simp only[aT];lia) ⟨H,I.tok _,by rw[tG r];exact q⟩
  ·subst e';obtain⟨its,r,pl,hz⟩:=I.tuple hx;have hlen:=r.length;exact truthy_tuple pl (by simp only[aT];lia) ⟨H,I.tok _,by rw[tG r];exact q⟩
  ·subst e';obtain⟨hz,hS,vs,r,m⟩:kvs.length<=sizeLine/\(p==sysModules)=false/\∃vs,KV kvs vs/\s.heap.DictOf (fN X.prog X.w) p vs:=I.hok p _ hx;have hlen:kvs.length=vs.length:=ba r;exact wpAny_truthy_dict hS m (by lia) ⟨H,I.tok _,by rw[yn r];exact q⟩
 | _=>exact(show False from e).elim
def DC(ha:PE X a ta)(he:∀whole,isTrue a X.env whole=(do let v <-whole;standAt a.pos;holding [v] (truthy v))):
  PT X a (λσ H Q=>ta σ H λx H'=>∃k,Jq X.K x H' k/\Q k H'):=by
 intro pins s σ H Q I h;exact isTrue_plain (dZ (ha pins s σ H _ I h) λv s1 ⟨x,H1,I1,r1,q1⟩=>Hy pins s1 σ H1 x v Q I1 r1 q1) (he _)
def Ve{x:V}{us:List Value}(r:cE [x] us):∃u,us=[u]/\RelV x u:=by
 cases r with
 | cons r1 r2=>cases r2;exact⟨_,rfl,r1⟩
def vals2{x y:V}{us:List Value}(r:cE [x,y] us):∃u w',us=[u,w']/\RelV x u/\RelV y w':=by
 cases r with
 | cons r1 r2=>
  cases r2 with
  | cons r3 r4=>cases r4;exact⟨_,_,rfl,r1,r3⟩
def qj (hc:X.calm=true):gT X (.builtin "max") (λxs H Q=>∃i j,xs=[.int i,.int j]/\Q (.int (if j > i then j else i)) H):=by
 intro pins s σ H xs us Q I r h;obtain⟨i,j,rfl,q⟩:=h;obtain⟨u,w',rfl,⟨t,rfl⟩,⟨t',rfl⟩⟩:=vals2 r;refine max_two_ints (I.ok.hd hc) λh' tk k=>⟨_,H,I.kept k,?_,q⟩
 by_cases hj:j > i
 ·rw[Vz hj,Vz hj];exact⟨_,rfl⟩
 ·rw[Vy hj,Vy hj];exact⟨_,rfl⟩
def uj (hc:X.calm=true):gT X (.builtin "min") (λxs H Q=>∃i j,xs=[.int i,.int j]/\Q (.int (if j<i then j else i)) H):=by
 intro pins s σ H xs us Q I r h;obtain⟨i,j,rfl,q⟩:=h;obtain⟨u,w',rfl,⟨t,rfl⟩,⟨t',rfl⟩⟩:=vals2 r;refine min_two_ints (I.ok.hd hc) λh' tk k=>⟨_,H,I.kept k,?_,q⟩
 by_cases hj:j<i
 ·rw[Vz hj,Vz hj];exact⟨_,rfl⟩
 ·rw[Vy hj,Vy hj];exact⟨_,rfl⟩
def oN:gT X (.type "int") (λxs H Q=>(∃i,xs=[.int i]/\Q (.int i) H)\/∃k,xs=[.bl k]/\Q (.int (if k then 1 else 0)) H):=by
 intro pins s σ H xs us Q I r h;rcases h with ⟨i,rfl,q⟩ | ⟨k,rfl,q⟩
 ·obtain⟨u,rfl,t,rfl⟩:=Ve r;exact call_int_int ⟨.int i,H,I,⟨_,rfl⟩,q⟩
 ·obtain⟨u,rfl,r1⟩:=Ve r;cases r1;exact call_int_bool ⟨.int (if k then 1 else 0),H,I.tok _,⟨_,rfl⟩,q⟩
end
structure Jv (h:Heap) (x dx C:Addr) (mA:Str->Option Value):Prop where
 obj:h.get? x=some (PySem.W.instObj C dx)
 ns:h.Ns1 dx mA
 ne:dx≠x
def q9{h:Heap}{dx:Addr}{mA:Str->Option Value}(n:h.Ns1 dx mA):∃od,h.get? dx=some od/\∀name,PySem.W.lookIn name od=some (mA name):=by
 obtain⟨o,es,ep,ho,hd,hk,_,hm⟩:=n;refine⟨o,ho,λname=>?_⟩;have e:=hm name;unfold nsFind findBy at e;rw[<-Array.find?_toList] at e;unfold PySem.W.lookIn;rw[hd];dsimp only
 split
 ·rename_i y q;rw[q] at e;exact congrArg some e
 ·rename_i q;rw[q] at e;have a:es.toList.any (·.refKey)=false:=by
   rw[kt];intro y hy;obtain⟨z,t,hkey⟩:=hk y (Array.mem_toList_iff.mp hy);simp[DictEntry.refKey,hkey]
  have a':¬es.toList.any (·.refKey)=true:=by rw[a];exact ax
  rw[Vy a'];exact congrArg some e
def Jv.look{h:Heap}{x dx C:Addr}{mA:Str->Option Value}(I:Jv h x dx C mA):∃od,PySem.W.InstAt h x (PySem.W.instObj C dx) C (some od)/\∀name,PySem.W.lookIn name od=some (mA name):=
 let ⟨od,ho,hl⟩:=q9 I.ns
 ⟨od,⟨I.obj,rfl,rfl,ho⟩,hl⟩
def rP.some_of{v:V}{o:Option Value}(r:rP (some v) o):∃u,o=some u/\RelV v u:=by
 cases o with
 | none=>exact(show False from r).elim
 | some u=>exact⟨u,rfl,r⟩
def BM{v:V}{u:Value}(r:RelV v u):PySem.W.handedIn u=true:=by
 cases v with
 | non=>cases (show u=Value.none from r);rfl
 | bl b=>cases (show u=Value.bool b from r);rfl
 | int i=>obtain⟨t,e⟩:=(show ∃t,u=Value.int i t from r);cases e;rfl
 | str x=>obtain⟨t,e⟩:=(show ∃t,u=Value.str x t from r);cases e;rfl
 | byt b=>obtain⟨t,e⟩:=(show ∃t,u=Value.bytes b t from r);cases e;rfl
 | flt b=>obtain⟨t,e⟩:=(show ∃t,u=Value.float b t from r);cases e;rfl
 | ref a=>cases (show u=Value.ref a from r);rfl
 | ty n=>cases (show u=Value.type n from r);rfl
section
variable {P:Program} {w:World} {H:Hp} {h:Heap} {a C dx:Addr} {fs:List (Str×V)}
def Fq(hok:nW P w H h)(e:H a=some (.ins C dx fs)):∃mA,Jv h a dx C mA/\(∀f,rP (fs.lookup f) (mA f))/\PySem.Within mA (fs.map (·.1))/\fs.length<=1000/\H dx=some (.own a):=by
 obtain⟨d,z,ne,ob,mA,n,r,q⟩:=(show dB P w H h a (.ins C dx fs) from hok a _ e)
 exact⟨mA,⟨ob,n,ne⟩,r,q,z,d⟩
end
structure MM (K:WG) (C:Addr):Prop where
 pg:PySem.W.plainGet K C Str.empty=true
 hd:PySem.W.hasDictIn K C=true
 po:PySem.W.plainOver K C=true
 sa:PySem.W.findIn K (.ref C) "__setattr__"=some (some (.builtin "object.__setattr__"))
def MM.get{K:WG}{C:Addr}(c:MM K C)(f:Str):PySem.W.plainGet K C f=true:=c.pg
section
variable {s:Shared} {f:Str} {A:Around} {E:Value->Shared->Prop}
def GN{prog:Program}{w:World}{env:Env}{e:Expr}{f:Str}{pos:Pos}{s:Shared}{Q:Value->Shared->Prop}(hb:attributeBase e f env (eval e env)=eval e env)
  (h:wpAny (model prog w) A (eval e env) (λo s₁=>wpAny (model prog w) A (getAttr o f true) Q E s₁) E s):wpAny (model prog w) A (eval (.Attribute e f pos) env) Q E s:=
 Attribute_any_ h (by rw[arm_eval_Attribute,hb])
end
section
variable {X:Cx} {pins:List (Addr×Obj)} {σ:St} {H:Hp} {s:Shared} {A:Around} {E:Value->Shared->Prop} {Q:Value->Shared->Prop} {c:Value} {b:Bool}
inductive oP (K : WG) (H : Hp) : V → Value → Prop where
 | non : oP K H .non (.type "NoneType")
 | bl (x : Bool) : oP K H (.bl x) (.type "bool")
 | int (i : Int) : oP K H (.int i) (.type "int")
 | str (x : Str) : oP K H (.str x) (.type "str")
 | flt (x : UInt64) : oP K H (.flt x) (.type "float")
 | lst {a : Addr} {xs : List V} (e : H a = some (.lst xs)) : oP K H (.ref a) (.type "list")
 | frz {a : Addr} {o : Obj} {xs : List V} (e : H a = some (.frz o (.lst xs))) : oP K H (.ref a) (.type "list")
 | tup {a : Addr} {xs : List V} (e : H a = some (.tup xs)) : oP K H (.ref a) (.type "tuple")
 | dK {a : Addr} {kvs : List (Key × V)} (e : H a = some (.dK kvs)) : oP K H (.ref a) (.type "dict")
 | dT {a : Addr} {kvs : List (List Key × V)} (e : H a = some (.dT kvs)) : oP K H (.ref a) (.type "dict")
 | ins {a C dx : Addr} {fs : List (Str × V)} (e : H a = some (.ins C dx fs)) (cl : MM K C) (ha : PySem.W.findIn K (.ref C) "__class__" = some (some (.builtin "object.__class__")))
   (hn : PySem.W.specialIn K (.builtin "object.__class__") "__get__" = some (some (.builtin "getset_descriptor.__get__"))) (htk : PySem.W.takesIn K (.builtin "object.__class__") = some true)
   (hm : PySem.W.mroIn K C (.type "object") = some true) : oP K H (.ref a) (.ref C)
def BI{x:V}{u t:Value}(I:bY X pins σ H s)(rx:RelV x u)(ty:oP X.K H x t)(e:PySem.W.kitOne X.K t c=some b)(h:∀tk,Q (.bool b) { s with toks:=tk }):
  wpAny (model X.prog X.w) A (call (.builtin "isinstance") [u,c]) Q E s:=by
 cases ty with
 | non=>cases (show u=Value.none from rx);exact c9 PySem.W.kitx_none I.kIn True.intro e (λz=>nomatch z) h
 | bl y=>cases (show u=Value.bool y from rx);exact c9 PySem.W.kitx_bool I.kIn True.intro e (λz=>nomatch z) h
 | int i=>obtain⟨t,q⟩:=(show ∃t,u=Value.int i t from rx);cases q;exact c9 PySem.W.kitx_int I.kIn True.intro e (λz=>nomatch z) h
 | str y=>obtain⟨t,q⟩:=(show ∃t,u=Value.str y t from rx);cases q;exact c9 PySem.W.kitx_str I.kIn True.intro e (λz=>nomatch z) h
 | flt y=>obtain⟨t,q⟩:=(show ∃t,u=Value.float y t from rx);cases q;exact c9 PySem.W.kitx_float I.kIn True.intro e (λz=>nomatch z) h
 | @lst a xs ea=>
  cases (show u=Value.ref a from rx);obtain⟨_,_,n,_,h1⟩:=(show dB X.prog X.w H s.heap a (.lst xs) from I.hok a _ ea)
  exact c9 PySem.W.kitx_list I.kIn ⟨_,h1,rfl⟩ e (λz=>nomatch z) h
 | @frz a ob xs ea=>
  cases (show u=Value.ref a from rx);obtain⟨_,_,_,n,_,h1⟩:=(show dB X.prog X.w H s.heap a (.frz ob (.lst xs)) from I.hok a _ ea)
  exact c9 PySem.W.kitx_list I.kIn ⟨_,h1,rfl⟩ e (λz=>nomatch z) h
 | @tup a xs ea=>
  cases (show u=Value.ref a from rx);obtain⟨_,_,_,p⟩:=(show dB X.prog X.w H s.heap a (.tup xs) from I.hok a _ ea)
  obtain⟨o,h1,h2,_⟩:=p;exact c9 PySem.W.kitx_tuple I.kIn ⟨o,h1,h2⟩ e (λz=>nomatch z) h
 | @dK a kvs ea=>
  cases (show u=Value.ref a from rx);obtain⟨_,_,vs,_,p⟩:=(show dB X.prog X.w H s.heap a (.dK kvs) from I.hok a _ ea)
  obtain⟨o,es,ep,h1,h2,_⟩:=p;exact c9 PySem.W.kitx_dict I.kIn ⟨o,h1,h2.1⟩ e (λz=>nomatch z) h
 | @dT a kvs ea=>
  cases (show u=Value.ref a from rx);obtain⟨_,_,xs,_,o,es,ep,h1,h2,_⟩:=(show dB X.prog X.w H s.heap a (.dT kvs) from I.hok a _ ea)
  exact c9 PySem.W.kitx_dict I.kIn ⟨o,h1,h2.1⟩ e (λz=>nomatch z) h
 | @ins a C dx fs ea cl ha hn htk hm=>
  cases (show u=Value.ref a from rx);obtain⟨mA,O,_⟩:=Fq I.hok ea;obtain⟨od,J,_⟩:=O.look;exact c9 (PySem.W.kitx_own (cl.get _) cl.hd ha hn htk hm) I.kIn J e (λz=>nomatch z) h
end
structure gE (k:Nat) (A:Around):Prop where
 hd:A.handled=none
 dp:A.depth+3 * k+5<recursionLimit
 un:A.units+16 * k+200<cLine
 gd:A.guards=some []
def gE.mono{j k:Nat}{A:Around}(r:gE k A)(h:j<=k):gE j A:=⟨r.hd,by have:=r.dp;lia,by have:=r.un;lia,r.gd⟩
def gE.deeper{k:Nat}{A:Around}(r:gE (k+1) A)(env:Env):gE k (A.deeper env):=
 ⟨r.hd,by have:=r.dp;show A.depth+1+3*k+5<_;lia,by have:=r.un;show A.units+3+16*k+200<_;lia,r.gd⟩
def yg {A:Around} {C:Addr} {us:List Value} {kw:List (Str×Value)}:(A.under (.builtin "type.__call__" ⟨.ref C::us,kw⟩)).depth=A.depth+1:=by
 first | rfl | simp[Around.under,Code.weight,Code.isCreation,Code.isGuard,Code.isCaller,Code.frames,Code.isFrame,guardIds]
def yf {A:Around} {C:Addr} {us:List Value} {kw:List (Str×Value)}:(A.under (.builtin "type.__call__" ⟨.ref C::us,kw⟩)).units=A.units+1:=by
 first | rfl | simp[Around.under,Code.cUnits,Code.frames,Code.isFrame]
def xA {A:Around} {C:Addr} {us:List Value} {kw:List (Str×Value)}:(A.under (.builtin "type.__call__" ⟨.ref C::us,kw⟩)).guards=A.guards:=by
 first | rfl | simp[Around.under,Code.guards,Code.isGuard,guardIds,pushGuards]
def gE.make {k:Nat} {A:Around} (r:gE (k+1) A) (C:Addr) (us:List Value) (kw:List (Str×Value)):gE k (A.under (.builtin "type.__call__" ⟨.ref C::us,kw⟩)):=
 ⟨r.hd,by have:=r.dp;rw[yg];lia,by have:=r.un;rw[yf];lia,by rw[xA];exact r.gd⟩
def gE.depth{k:Nat}{A:Around}(r:gE k A):A.depth<recursionLimit:=by have:=r.dp;lia
def gE.units{k:Nat}{A:Around}(r:gE k A):A.units+64<cLine:=by have:=r.un;lia
def Ef:TA:=λ_ H Q=>Q [] H
def fL(ta:TE)(tr:TA):TA:=λσ H Q=>ta σ H λx H1=>tr σ H1 λxs H2=>Q (x::xs) H2
section
variable {X:Cx} {e:Expr} {es:List Expr} {te:TE} {t:TA} {pos:Pos}
def JL:PA X [] Ef:=λ_ _ _ _ H Q I h=>Calls.spliced_nil ⟨[],H,I,.nil,h⟩
def gb(ha:PE X e te)(hr:PA X es t)(hs:starEach (e::es) X.env=(false,eval e X.env)::starEach es X.env:=by rfl):PA X (e::es) (fL te t):=by
 intro pos pins s σ H Q I h;rw[hs];show wpAny _ _ (spliced ((false,eval e X.env)::backTo pos (starEach es X.env))) _ _ s;refine kT (dZ (ha pins s σ H _ I h) λu s1 ⟨x,H1,I1,r1,q1⟩=>?_);exact dZ (hr pos pins s1 σ H1 _ I1 q1) λus s2 ⟨xs,H2,I2,r2,q2⟩=>⟨x::xs,H2,I2,.cons r1 r2,q2⟩
def Ed(t:TA):TE:=λσ H Q=>t σ H λxs H1=>xs.length<=sizeLine/\∀p,H1 p=none->Q (.ref p) (bE H1 p (.tup xs))
def CS(t:TA):TE:=λσ H Q=>t σ H λxs H1=>xs.length<=sizeLine/\∀p,H1 p=none->Q (.ref p) (bE H1 p (.lst xs))
def JA{x1}(h:PA X es t):PE X (.Tuple es x1 pos) (Ed t):=by
 intro pins s σ H Q I hq;refine wpAny_Tuple_spliced (dZ (h pos pins s σ H _ I hq) λus s1 ⟨xs,H1,I1,r,z,q⟩=>⟨by rw[<-r.length];exact z,?_⟩);have hf:H1 s1.heap.objs.size=none:=I1.hok.fresh (aJ _);refine⟨.ref s1.heap.objs.size,bE H1 s1.heap.objs.size (.tup xs),I1.laid (t':=s1.toks) (λb u e=>aB _ e) (aJ _) ?_,rfl,q _ hf⟩;exact⟨z,us,r,⟨_,aN _ rfl,rfl,_,rfl⟩⟩
def JG(h:PA X es t):PE X (.List es pos) (CS t):=by
 intro pins s σ H Q I hq;refine wpAny_List_spliced (dZ (h pos pins s σ H _ I hq) λus s1 ⟨xs,H1,I1,r,z,q⟩=>⟨by rw[<-r.length];exact z,?_⟩);have hf:H1 s1.heap.objs.size=none:=I1.hok.fresh (aJ _);refine⟨.ref s1.heap.objs.size,bE H1 s1.heap.objs.size (.lst xs),I1.laid (t':=s1.toks) (λb u e=>aB _ e) (aJ _) ?_,rfl,q _ hf⟩;exact⟨z,us,0,r,aN _ rfl⟩
end
abbrev Sp:=List V->Hp->VK->XK->Prop
abbrev Bc:=List Env->Hp->Shared->XK->Value->Shared->Prop
structure vt (P:Program) (w:World) (K:WG) (mg:Str->Option Value) (base:Heap) (A:Around) (outer:List Env) (s:Shared) (H:Hp):Prop where
 frames:A.frames=some outer
 mod:Mod K mg base
 bs:∀ b o,base.get? b=some o->s.heap.get? b=some o/\H b=none
 bsz:base.objs.size<=s.heap.objs.size
 funs:s.heap.FunFrames base outer
 frf:∀ b∈kX outer,H b=none
 hok:nW P w H s.heap
 bare:AllBare s.gens
def CE(outer:List Env)(P:Program)(w:World)(H:Hp)(s:Shared)(Q:VK)(u:Value)(s':Shared):Prop:=
 ∃v H',s'.os=s.os/\AllBare s'.gens/\Un (kX outer) [] H H' s.heap s'.heap/\nW P w H' s'.heap/\RelV v u/\Q v H'
def CR(CX:Bc)(outer:List Env)(P:Program)(w:World)(H:Hp)(s:Shared)(Q:VK)(E:XK)(r:Result)(s':Shared):Prop:=
 match r with
 | .ok (.ret u)=>CE outer P w H s Q u s'
 | .ok _=>False
 | .error e=>CX outer H s E e s'
structure nX (P:Program) (w:World) (K:WG) (mg:Str->Option Value) (base:Heap) (CX:Bc) (k:Nat) (f:Addr) (fd:FuncData) (ps:List Str) (sp:Sp):Prop where
 len:∀ vs H Q E,sp vs H Q E->vs.length=ps.length
 run:∀ (A:Around) (outer:List Env) (s:Shared) (H:Hp) (args:Args) (us:List Value) (vs:List V) (Q:VK) (E:XK),gE k A->vt P w K mg base A outer s H->BindsTo s fd args (ps.zip us)->cE vs us->sp vs H Q E →
  codeAny (model P w) A (.call (.ref f) args) (CR CX outer P w H s Q E) s
def vt.make{P:Program}{w:World}{K:WG}{mg:Str->Option Value}{base:Heap}{A:Around}{outer:List Env}{s:Shared}{H:Hp}(e:vt P w K mg base A outer s H)(C:Addr)(us:List Value)(kw:List (Str×Value)):
  vt P w K mg base (A.under (.builtin "type.__call__" ⟨.ref C::us,kw⟩)) outer s H:=⟨by first | exact e.frames | (simpa [Around.under,Code.envs,Code.isFrame,pushEnvs] using e.frames),e.mod,e.bs,e.bsz,e.funs,e.frf,e.hok,e.bare⟩
section
variable {X:Cx} {pins:List (Addr×Obj)} {σ:St} {H:Hp} {s s':Shared}
def bY.env0(I:bY X pins σ H s):vt X.prog X.w X.K X.mg X.base X.A X.stack s H:=
 ⟨I.ok.frames,I.ok.mod,I.bs,cH I.ok.bsz I.sz,I.stack,I.stkFree,I.hok,I.bare⟩
def bY.after{Q:VK}{u:Value}(I:bY X pins σ H s)(h:CE X.stack X.prog X.w H s Q u s'):EP X pins σ Q u s':=by
 obtain⟨v,H',os,bare,un,hok,r,q⟩:=h;obtain⟨hh,g,d,t,os'⟩:=s';obtain rfl:os'=s.os:=os;exact⟨v,H',I.call (h':=hh) (g':=g) (d':=d) (t':=t) (ch:=[]) un hok bare (λb z=>absurd z (by simp)),r,q⟩
end
def oQ(sp:Sp)(dvs:List V)(E:XK)(t:TA):TE:=λσ H Q=>t σ H λvs H1=>sp (vs++dvs) H1 Q E
def Binds(K:WG)(fd:FuncData)(ps:List Str)(ds:List Value):Prop:=
 ∀(s:Shared) (us:List Value),K.In s.heap->(us++ds).length=ps.length->BindsTo s fd ⟨us,[]⟩ (ps.zip (us++ds))
def Binds.all{K:WG}{fd:FuncData}{ps:List Str}(h:∀us:List Value,us.length=ps.length->bindArgs fd ⟨us,[]⟩=pure (ps.zip us)):Binds K fd ps []:=λs us _ hl=>by
 rw[cY] at hl ⊢;exact .of_eq (h us hl)
def tR(CX:Bc)(X:Cx)(E:XK):Prop:=∀(pins:List (Addr×Obj)) (σ:St) (H:Hp) (s:Shared) (e:Value) (s':Shared),bY X pins σ H s->CX X.stack H s E e s'->X.xe e s'
section
variable {X:Cx} {CX:Bc} {k:Nat} {f:Addr} {fd:FuncData} {ps:List Str} {sp:Sp} {dvs:List V} {ds:List Value} {E:XK} {x:Str} {p pos:Pos} {e:Expr} {es:List Expr} {t:TA}
def IS{pins:List (Addr×Obj)}{σ:St}{H:Hp}{s:Shared}{Q:VK}{us:List Value}{vs:List V}(F:nX X.prog X.w X.K X.mg X.base CX k f fd ps sp)(hr:gE k X.A)(hb:Binds X.K fd ps ds)(hd:cE dvs ds)(hx:tR CX X E)
  (I:bY X pins σ H s) (r:cE vs us) (h:sp (vs++dvs) H Q E):wpAny (model X.prog X.w) X.A (call (.ref f) us) (EP X pins σ Q) X.xe s:=by
 have r2:cE (vs++dvs) (us++ds):=r.append hd;have hl:(us++ds).length=ps.length:=by rw[<-r2.length];exact F.len _ _ _ _ h
 refine Vf (Vg (F.run X.A X.stack s H ⟨us,[]⟩ (us++ds) (vs++dvs) Q E hr I.env0 (hb s us I.kIn hl) r2 h) λr s' hq=>?_);cases r with
 | error e=>exact hx pins σ H s e s' I hq
 | ok fl=>
  cases fl with
  | ret u=>exact I.after hq
  | next=>exact False.elim hq
  | brk=>exact False.elim hq
  | cont=>exact False.elim hq
def vW(F:nX X.prog X.w X.K X.mg X.base CX k f fd ps sp)(hr:gE k X.A)(hg:Gl X x)(hm:X.mg x=some (.ref f))(hk:PySem.W.keepIn X.K (.ref f)=true)(hb:Binds X.K fd ps ds)(hd:cE dvs ds)(hx:tR CX X E)
  (ha:PA X (e::es) t) (hdb:(x==("__debug__":Str))=false:=by decide) (he:starEach (e::es) X.env=(false,eval e X.env)::starEach es X.env:=by rfl) (hpl:(backTo pos (starEach es X.env)).any (·.1)=false:=by rfl) :
  PE X (.Call (.Name x p) (e::es) [] pos) (oQ sp dvs E t):=by
 intro pins s σ H Q I h;refine Vh (je I hg hm ?_ hdb);refine iH (h₀:=X.base) I.ok.mod.kin hk (dZ (ha pos pins s σ H _ I h) λus s1 ⟨vs,H1,I1,r,q⟩=>⟨I1.kIn,?_⟩) he hpl;exact IS F hr hb hd hx I1 r q
end
structure bN (N P:List Str) (sc:Scope):Prop where
 kind:sc.kind=.function
 co:sc.isCoroutine=false
 gen:sc.isGenerator=false
 nd:N.Nodup
 pre:N.take P.length=P
 par:∀ x∈P,sc.names.lookup x=some .local\/sc.names.lookup x=some .cell
 nofree:∀ y∈sc.names,y.2≠.free
def ul{kindOf:Str->Option NameKind}{x:Str}:∀{binds:List (Str×Value)} {m:Str->Option Value},(∀v,(x,v)∉binds)->bindL kindOf binds m x=m x
 | [],_,_=>rfl
 | (n,v)::r,m,h=>by
  unfold bindL;rw[ul λw hw=>h w (aM _ hw)]
  split
  ·have:x≠n:=by rintro rfl;exact h v a7
   simp[this]
  ·rfl
def uo{kindOf:Str->Option NameKind}{x:Str}:∀{binds:List (Str×Value)} {m:Str->Option Value},(∀v,(x,v)∉binds)->bindC kindOf binds m x=m x
 | [],_,_=>rfl
 | (n,v)::r,m,h=>by
  unfold bindC;rw[uo λw hw=>h w (aM _ hw)]
  split
  ·rfl
  ·have:x≠n:=by rintro rfl;exact h v a7
   simp[this]
def um{kindOf:Str->Option NameKind}{x:Str}{v:Value}:∀{P:List Str} {vs:List Value} {i:Nat} {m:Str->Option Value},P.Nodup->P[i]? = some x->vs[i]? = some v->kindOf x=some .local →
  bindL kindOf (P.zip vs) m x=some v
 | [],_,_,_,_,h,_,_=>by simp at h
 | _::_,[],_,_,_,_,h,_=>by simp at h
 | p::P,w::vs,0,m,nd,h1,h2,hk=>by
  simp at h1 h2;subst h1;subst h2;show bindL kindOf ((p,w)::P.zip vs) m p=_;unfold bindL;rw[ul λv hv=>(cX.mp nd).1 (jX hv).1,Vz hk];simp
 | p::P,w::vs,i+1,m,nd,h1,h2,hk=>by
  show bindL kindOf ((p,w)::P.zip vs) m x=_;unfold bindL;exact um (i:=i) (cX.mp nd).2 (by simpa using h1) (by simpa using h2) hk
def ur{kindOf:Str->Option NameKind}{x:Str}{v:Value}:∀{P:List Str} {vs:List Value} {i:Nat} {m:Str->Option Value},P.Nodup->P[i]? = some x->vs[i]? = some v->kindOf x≠some .local →
  bindC kindOf (P.zip vs) m x=some v
 | [],_,_,_,_,h,_,_=>by simp at h
 | _::_,[],_,_,_,_,h,_=>by simp at h
 | p::P,w::vs,0,m,nd,h1,h2,hk=>by
  simp at h1 h2;subst h1;subst h2;show bindC kindOf ((p,w)::P.zip vs) m p=_;unfold bindC;rw[uo λv hv=>(cX.mp nd).1 (jX hv).1,Vy hk];simp
 | p::P,w::vs,i+1,m,nd,h1,h2,hk=>by
  show bindC kindOf ((p,w)::P.zip vs) m x=_;unfold bindC;exact ur (i:=i) (cX.mp nd).2 (by simpa using h1) (by simpa using h2) hk
def start(N:List Str)(vs:List V):St:=vs.map some++List.replicate (N.length-vs.length) none
def jU(CX:Bc)(P:Program)(w:World)(K:WG)(mg:Str->Option Value)(base:Heap)(N:List Str)(qual:Str)(scope:Scope)(f:Addr)(cd:Value)(A:Around)(outer:List Env)(s:Shared)(H:Hp)(E:XK):Cx where
 prog:=P
 w:=w
 K:=K
 mg:=mg
 base:=base
 A:=A.deeper (envOfC qual scope s.heap.objs.size f cd)
 N:=N
 s₀:=s
 H₀:=H
 env:=envOfC qual scope s.heap.objs.size f cd
 outer:=outer
 stack:=envOfC qual scope s.heap.objs.size f cd::outer
 ex:=[]
 calm:=true
 fn:=λ_=>true
 pn:=[]
 xe:=λe s'=>wpAny (model P w) (A.deeper (envOfC qual scope s.heap.objs.size f cd)) (leaving (envOfC qual scope s.heap.objs.size f cd) e) (λ_ s''=>CX outer H s E e s'') (λe' s''=>CX outer H s E e' s'') s'
def xU{sc:Scope}{n:Nat}{x:Str}(h:sc.names.lookup x=some .cell):∃c,(cellsFrom n sc.names []).lookup x=some c:=by
 have q:=i4 sc.names n [] (.inl h);exact lB.mp q
def u5{CX:Bc}{P:Program}{w:World}{K:WG}{mg:Str->Option Value}{base:Heap}{N ps:List Str}{qual:Str}{scope:Scope}{f:Addr}{cd:Value}{A:Around}{outer:List Env}{s s1:Shared}{H:Hp}{E:XK}{us:List Value}{vs:List V}
  (S:bN N ps scope) (hd:A.handled=none) (e0:vt P w K mg base A outer s H) (hl:vs.length=ps.length) (r:cE vs us)
  (x:InCallC s s.heap.objs.size (bindL (envOfC qual scope s.heap.objs.size f cd).kindOf (ps.zip us) λ_=>none) (cellsFrom (s.heap.objs.size+1) scope.names []) (bindC (envOfC qual scope s.heap.objs.size f cd).kindOf (ps.zip us) λ_=>none) s1) :
  bY (jU CX P w K mg base N qual scope f cd A outer s H E) [] (start N vs) H s1:=by
 have hpl:ps.length<=N.length:=by have:=congrArg List.length S.pre;rw[cZ] at this;lia
 obtain⟨h1,tk,rfl,hk⟩:=x.done;have noA:∀b:Addr,b∉(jU CX P w K mg base N qual scope f cd A outer s H E).ex:=λb z=>absurd (show b∈([]:List Addr) from z) (by simp);refine⟨⟨e0.mod,S.kind,rfl,rfl,aJ _,λy z c h1 h2=>?_,λy hy=>?_,λy c _ h=>?_,λ_=>hd,Around.frames_deeper e0.frames,.inr ⟨rfl,rfl⟩,λb z=>absurd z (noA b),e0.bs,e0.bsz,λb _ _=>noA b,λb z=>absurd z (noA b),e0.funs,e0.frf⟩,
  rfl,e0.bare,Un.kept hk,⟨_,x.toInCall.ns,λi y v h1 h2 h3=>?_⟩,λy c h=>⟨_,x.cell y c h⟩,e0.hok.fresh (aJ _),λy c h=>?_,λp hp=>absurd (show p∈([]:List (Addr×Obj)) from hp) (by simp),e0.hok.kept hk,?_⟩
 ·exact name_of_addr x.apart (cy h1) (cy h2)
 ·have hy:scope.names.lookup y=some .cell\/scope.names.lookup y=some .free:=hy;rcases hy with hy | hy
  ·exact xU hy
  ·exact absurd rfl (S.nofree _ (cy hy))
 ·exact ah (x.above y c (cy h))
 ·have hi:i<vs.length:=by
   unfold start at h2;by_cases hi:i<vs.length
   ·exact hi
   ·rw[cG (by simpa using hi)] at h2;rw[lV] at h2
    split at h2<;>cases h2
  have ha:vs[i]? = some v:=by
   unfold start at h2;rw[cu (by simpa using hi),bW] at h2;cases e:vs[i]? with
   | none=>rw[e] at h2;cases h2
   | some a=>rw[e] at h2;cases h2;rfl
  obtain⟨u,hu,rv⟩:=r.get ha;have hp:ps[i]? = some y:=by
   rw[<-S.pre,List.getElem?_take_of_lt (by lia)];exact h1
  have ndP:ps.Nodup:=by rw[<-S.pre];exact S.nd.sublist (List.take_sublist _ _)
  refine⟨u,rv,?_⟩;rcases S.par y (bG hp) with k | k
  ·exact .inl ⟨k,um ndP hp hu k⟩
  ·obtain⟨c,e⟩:=xU (n:=s.heap.objs.size+1) k;refine .inr ⟨.inl k,c,e,?_⟩;have q:=x.cell y c e;rw[ur ndP hp hu (by show scope.names.lookup y≠_;rw[k];decide)] at q;exact q
 ·exact e0.hok.fresh (ah (x.above y c (cy h)))
 ·unfold start;show _=N.length;rw[aU,aD,mh];lia
def HL{CX:Bc}{P:Program}{w:World}{K:WG}{mg:Str->Option Value}{base:Heap}{k:Nat}{f:Addr}{name qual:Str}{params:Arguments}{body:List Stmt}{scope:Scope}{dV kV doc pm cdv ct oc:Value}{an od:Option Addr}
  {osl:Array (Option Value)} {N ps:List Str} {sp:Sp} (lk:K.lookup f=some ⟨oc,od,.func (PySem.W.fnOf name qual params body scope dV kV doc pm an cdv ct),osl⟩) (hcd:PySem.W.codeIn K cdv qual=true) (S:bN N ps scope)
  (len:∀vs H Q E,sp vs H Q E->vs.length=ps.length)
  (hbody:∀(A:Around) (outer:List Env) (s:Shared) (H:Hp) (vs:List V) (Q:VK) (E:XK),gE k (A.deeper (envOfC qual scope s.heap.objs.size f cdv))->sp vs H Q E →
   ∃t,ut (jU CX P w K mg base N qual scope f cdv A outer s H E) body t/\t { nx:=λ_ H'=>Q .non H',rt:=Q } (start N vs) H) :
  nX P w K mg base CX (k+1) f (PySem.W.fnOf name qual params body scope dV kV doc pm an cdv ct) ps sp:=by
 refine⟨len,λA outer s H args us vs Q E hr e0 hb r hsp=>?_⟩;have hl:=len _ _ _ _ hsp;have KX:K.In s.heap:=e0.mod.kin.keeps λb o e=>(e0.bs b o e).1;have lim:s.heap.NoLimit:=e0.mod.nolimit.keeps λb o e=>(e0.bs b o e).1;have hkind:∀y∈ps.zip us,scope.names.lookup y.1=some .local\/(scope.names.lookup y.1=some .cell/\((cellsFrom (s.heap.objs.size+1) scope.names []).lookup y.1).isSome=true):=λ⟨n,v⟩ hy=>by
  rcases S.par n (jX hy).1 with q | q
  ·exact .inl q
  ·exact .inr ⟨q,i4 _ _ _ (.inl q)⟩
 refine codeAny_call_function hr.depth (KX _ _ lk) rfl S.co S.gen rfl (PySem.W.codeRec_of KX hcd) (hb _ _ _ _ ?_);refine wpAny_newFunctionEnv_cells S.kind hkind λenv he s1 x=>?_;subst he;refine⟨lim.keeps x.toInCall.keep,codeAny_func ?_⟩;obtain⟨t,ht,hq⟩:=hbody A outer s H vs Q E (hr.deeper _) hsp;have I:bY (jU CX P w K mg base N qual scope f cdv A outer s H E) [] (start N vs) H s1:=u5 S hr.hd e0 hl r x;refine wpAny_mono (ht [] s1 (start N vs) H _ I hq) (λfl s' hs=>?_) λe s' hs=>hs;have fin:∀{σ':St} {H':Hp} {v:V} {u:Value},bY (jU CX P w K mg base N qual scope f cdv A outer s H E) [] σ' H' s'->RelV v u->Q v H'->CE outer P w H s Q u s':=
  fun {σ' H' v u} J rv q=>⟨v,H',J.os,J.bare,J.base,J.hok,rv,q⟩
 cases fl with
 | ret u=>
  obtain⟨v,σ',H',J,rv,q⟩:=hs;exact fin J rv q
 | next=>
  obtain⟨σ',H',J,q⟩:=hs;exact fin (v:=V.non) (u:=Value.none) J rfl q
 | brk=>
  obtain⟨_,_,_,q⟩:=hs;exact False.elim q
 | cont=>
  obtain⟨_,_,_,q⟩:=hs;exact False.elim q
section
variable {X:Cx} {x:Str} {p pos:Pos} {e:Expr} {es:List Expr} {t:TA} {id T:String} {r:List V->Hp->VK->Prop}
def Km(r:List V->Hp->VK->Prop)(t:TA):TE:=λσ H Q=>t σ H λvs H1=>r vs H1 Q
def DU (hc:gT X (.builtin id) r) (hg:Gl X x) (hm:X.mg x=none) (hv:bootBuiltins x=some (.builtin id)) (ha:PA X (e::es) t) (hn:x≠"__name__":=by decide) (hdb:(x==("__debug__":Str))=false:=by decide)
  (he:starEach (e::es) X.env=(false,eval e X.env)::starEach es X.env:=by rfl) (hpl:(backTo pos (starEach es X.env)).any (·.1)=false:=by rfl):PE X (.Call (.Name x p) (e::es) [] pos) (Km r t):=by
 intro pins s σ H Q I h;refine Vh (ou I hg hm hv ?_ hn hdb);exact jC (dZ (ha pos pins s σ H _ I h) λus s1 ⟨vs,H1,I1,r1,q1⟩=>hc pins s1 σ H1 vs us Q I1 r1 q1) he hpl
def Ak (hc:gT X (.type T) r) (hg:Gl X x) (hm:X.mg x=none) (hv:bootBuiltins x=some (.type T)) (ha:PA X (e::es) t) (hn:x≠"__name__":=by decide) (hdb:(x==("__debug__":Str))=false:=by decide)
  (he:starEach (e::es) X.env=(false,eval e X.env)::starEach es X.env:=by rfl) (hpl:(backTo pos (starEach es X.env)).any (·.1)=false:=by rfl):PE X (.Call (.Name x p) (e::es) [] pos) (Km r t):=by
 intro pins s σ H Q I h;refine Vh (ou I hg hm hv ?_ hn hdb);exact dU (dZ (ha pos pins s σ H _ I h) λus s1 ⟨vs,H1,I1,r1,q1⟩=>hc pins s1 σ H1 vs us Q I1 r1 q1) he hpl
end
end L2
namespace HT
open PySem PyProof.Rows
section
variable {prog:Program} {w:World} {A:Around} {E:Value->Shared->Prop} {s:Shared}
def cat_tup{t b:Addr}{vs ws:List Value}{Q:Value->Shared->Prop}(ht:IsTup s.heap t vs.toArray)(hb:IsTup s.heap b ws.toArray)(hv:vs≠[])
  (h1:ws=[]->Q (.ref t) s) (h2:ws≠[]->Q (.ref s.heap.objs.size) { s with heap:=s.heap.push { cls:=.type "tuple",data:=.seq (vs++ws).toArray } })
  (hsz:vs.length+ws.length<=sizeLine):wpAny (model prog w) A (binaryOp .Add (.ref t) (.ref b)) Q E s:=by
 obtain⟨⟨cls,dd,data,sl⟩,ho,hc,n,hd⟩:=id ht;obtain⟨⟨cls2,dd2,data2,sl2⟩,ho2,hc2,n2,hd2⟩:=id hb;simp only at hc hd hc2 hd2;subst hc hd hc2 hd2;have e:vs.toArray++ws.toArray=(vs++ws).toArray:=by simp
 by_cases hw:ws=[]
 ·exact concat_meets ⟨_,ho,rfl⟩ ⟨_,ho2,rfl⟩ noFill_tuple_add seq_tuple_add i5 iS (h7 _ _)
   (tuple_addW1 t b vs.toArray ws.toArray n n2 dd dd2 sl sl2 (by simpa using hv) (by simp[hw])) ⟨ho,ho2,h1 hw⟩
 ·refine concat_meets ⟨_,ho,rfl⟩ ⟨_,ho2,rfl⟩ noFill_tuple_add seq_tuple_add i5 iS (h7 _ _)
   (tuple_addW2 t b vs.toArray ws.toArray n n2 dd dd2 sl sl2 (by simpa using hv) (by simpa using hw) (by rw[aT,aT];exact hsz)) ⟨ho,ho2,?_⟩
  rw[e];exact h2 hw
def sIx(n d:Nat):Option Int->Nat
 | none=>d
 | some v=>if v<0 then (v+(n:Int)).toNat else min v.toNat n
def sIx_none(n d:Nat):sIx n d none=d:=rfl
end
end HT
namespace L2
open PySem PySem.Spec PyProof.Rows
abbrev TO:=St->Hp->(Option Int->Hp->Prop)->Prop
def PO(X:Cx)(e:Option Expr)(t:TO):Prop:=
 ∀(pins:List (Addr×Obj)) (s:Shared) (σ:St) (H:Hp) (Q:Option Int->Hp->Prop),bY X pins σ H s->t σ H Q →
  wpAny (model X.prog X.w) X.A (evalPart e X.env) (λu s'=>∃o H',bY X pins σ H' s'/\IsPart u o/\Q o H') X.xe s
def uy:TO:=λ_ H Q=>Q none H
def CO(t:TE):TO:=λσ H Q=>t σ H λx H1=>∃i,x=.int i/\Q (some i) H1
section
variable {X:Cx} {e:Expr} {te:TE} {lo hi:Option Expr} {tl th:TO} {pos p2:Pos}
def FE:PO X none uy:=by
 intro pins s σ H Q I h;rw[evalPart_none];exact Va ⟨none,H,I,.none,h⟩
def FD(h:PE X e te):PO X (some e) (CO te):=by
 intro pins s σ H Q I hw;rw[evalPart_some];refine dZ (h pins s σ H _ I hw) λu s1 ⟨x,H1,I1,r1,q1⟩=>?_;obtain⟨i,rfl,q⟩:=q1;obtain⟨t,rfl⟩:=r1;exact⟨some i,H1,I1,.int i t,q⟩
def MH(X:Cx)(r:V->Option Int->Option Int->Hp->VK->Prop):Prop:=
 ∀(pins:List (Addr×Obj)) (s:Shared) (σ:St) (H:Hp) (x:V) (v vl vu:Value) (lo hi:Option Int) (sl:Addr) (Q:VK),bY X pins σ H s->RelV x v->s.heap.IsSliceOf sl vl vu .none->IsPart vl lo->IsPart vu hi->r x lo hi H Q →
  ∃T id,typeLookup (.type T) "__getitem__"=pure (some (.builtin id))/\s.TypeIs v T/\wpAny (model X.prog X.w) X.A (getItem v (.ref sl)) (EP X pins σ Q) X.xe s
def Lh(r:V->Option Int->Option Int->Hp->VK->Prop)(te:TE)(tl th:TO):TE:=λσ H Q=>te σ H λx H1=>tl σ H1 λl H2=>th σ H2 λu H3=>r x l u H3 Q
def DK{r:V->Option Int->Option Int->Hp->VK->Prop}(hr:MH X r)(he:PE X e te)(hl:PO X lo tl)(hu:PO X hi th):PE X (.Subscript e (.Slice lo hi none p2) pos) (Lh r te tl th):=by
 intro pins s σ H Q I h;refine Subscript_ (dZ (he pins s σ H _ I h) λv s1 ⟨x,H1,I1,r1,q1⟩=>?_);refine wpAny_Slice (dZ (hl pins s1 σ H1 _ I1 q1) λvl s2 ⟨l,H2,I2,pl,q2⟩=>dZ (hu pins s2 σ H2 _ I2 q2) λvu s3 ⟨u,H3,I3,pu,q3⟩=>?_);rw[evalPart_none];refine Va ?_;have I4:bY X pins σ H3 { s3 with heap:=s3.heap.push { cls:=.type "slice",data:=.fields #[vl,vu,.none] } }:=I3.kept (t':=s3.toks) λb ob q=>aB _ q;obtain⟨T,id,hT,ht,hg⟩:=hr pins { s3 with heap:=s3.heap.push { cls:=.type "slice",data:=.fields #[vl,vu,.none] } } σ H3 x v vl vu l u s3.heap.objs.size Q I4 r1 (Heap.IsSliceOf.new ..) pl pu q3;show wpAny (model X.prog X.w) X.A (subscriptTail e (.Slice lo hi none p2) v (.ref s3.heap.objs.size)) (EP X pins σ Q) X.xe { s3 with heap:=s3.heap.push { cls:=.type "slice",data:=.fields #[vl,vu,.none] } };exact tail_any (ops:=[.ref s3.heap.objs.size,v]) ht hT hg (by with_unfolding_all rfl)
def t9(xs:List V)(lo hi:Option Int):List V:=(xs.drop (HT.sIx xs.length 0 lo)).take (HT.sIx xs.length xs.length hi-HT.sIx xs.length 0 lo)
def xN(xs:List V)(lo hi:Option Int):(t9 xs lo hi).length<=xs.length:=by
 unfold t9;rw[cZ,lU];lia
def Kt(K:WG):R2:=λx y H Q=>∃a b xs ys,x=.ref a/\y=.ref b/\c8 K H a xs/\c8 K H b ys/\xs≠[]/\xs.length+ys.length<=sizeLine ∧
 (ys=[]->Q (.ref a) H)/\(ys≠[]->∀p,H p=none->Q (.ref p) (bE H p (.tup (xs++ys))))
def cE.nil_iff{xs:List V}{us:List Value}(r:cE xs us):us=[]<->xs=[]:=by
 cases r with
 | nil=>simp
 | cons _ _=>simp
def FX:mV X (binaryOp .Add) (Kt X.K):=by
 intro pins s σ H x y v u Q I rx ry h;obtain⟨a,b,xs,ys,rfl,rfl,ha,hb,hx,hz,q1,q2⟩:=h;cases rx;cases ry;obtain⟨its,r1,p1,_⟩:=I.tuple ha;obtain⟨its2,r2,p2,_⟩:=I.tuple hb;refine HT.cat_tup p1 p2 (λz=>hx (r1.nil_iff.mp z)) (λz=>⟨.ref a,H,I,rfl,q1 (r2.nil_iff.mp z)⟩) (λz=>?_) (by rw[<-r1.length,<-r2.length];exact hz);refine⟨.ref s.heap.objs.size,_,I.laid (t':=s.toks) (o:=.tup (xs++ys)) (λb ob q=>aB _ q) (aJ _) ?_,rfl,q2 (λw=>z (r2.nil_iff.mpr w)) _ (I.hok.fresh (aJ _))⟩;exact⟨by rw[aU];exact hz,_,r1.append r2,IsTup.new _ _⟩
end
def yl(n:Nat)(i:Int):Option Nat:=if 0<=i then (if i<n then some i.toNat else none) else if -(n:Int)<=i then some (i+n).toNat else none
def tS{α:Type}(xs:List α)(i:Int):Option α:=(yl xs.length i).bind λj=>xs[j]?
def AB{n:Nat}{i:Int}{j:Nat}(h:yl n i=some j):seqIndex? i n=some j/\j<n/\-(n:Int)<=i/\i<n:=by
 unfold yl at h;by_cases h0:0<=i
 ·rw[Vz h0] at h;by_cases h1:i<n
  ·rw[Vz h1] at h;have e:i.toNat=j:=bZ h;exact⟨by rw[seqIndex_of h0 h1,e],by lia,by lia,h1⟩
  ·rw[Vy h1] at h;cases h
 ·rw[Vy h0] at h;by_cases h1:-(n:Int)<=i
  ·rw[Vz h1] at h;have e:(i+n).toNat=j:=bZ h;exact⟨by rw[seqIndex_neg (by lia) h1,e],by lia,h1,by lia⟩
  ·rw[Vy h1] at h;cases h
def vj{α:Type}{xs:List α}{i:Int}{v:α}(h:tS xs i=some v):∃j,seqIndex? i xs.length=some j/\xs[j]? = some v/\j<xs.length/\-(xs.length:Int)<=i/\i<xs.length:=by
 unfold tS at h;cases e:yl xs.length i with
 | none=>rw[e] at h;cases h
 | some j=>
  rw[e] at h;obtain⟨h1,h2,h3,h4⟩:=AB e;exact⟨j,h1,h,h2,h3,h4⟩
def jN{α:Type}{xs:List α}{j:Nat}{v:α}(h:xs[j]? = some v):tS xs (j:Int)=some v:=by
 have hj:j<xs.length:=(aH.mp h).1;have e:yl xs.length (j:Int)=some j:=by
  unfold yl;rw[Vz (by lia),Vz (by lia)];simp
 unfold tS;rw[e];exact h
def tO{α:Type}(xs:List α)(v:α):tS (xs++[v]) (-1)=some v:=by
 have hl:(xs++[v]).length=xs.length+1:=by simp
 have e:yl (xs++[v]).length (-1)=some xs.length:=by
  unfold yl;rw[hl,Vy (by decide),Vz (by lia)];congr 1;lia
 unfold tS;rw[e];show (xs++[v])[xs.length]? = some v;simp
def AW(b:Expr):Prop:=∀o i,subscripted b false o i=operate [o,i] (getItem o i)
def Jx(X:Cx)(r:R2):Prop:=
 ∀(value slice:Expr) (pins:List (Addr×Obj)) (s:Shared) (σ:St) (H:Hp) (x y:V) (v u:Value) (Q:VK),bY X pins σ H s->RelV x v->RelV y u->r x y H Q →
  subscripted slice false v u=operate [v,u] (getItem v u)->wpAny (model X.prog X.w) X.A (subscriptTail value slice v u) (EP X pins σ Q) X.xe s
def LV(X:Cx)(id:String)(r:V->List V->Hp->VK->Prop):Prop:=
 ∀(pins:List (Addr×Obj)) (s:Shared) (σ:St) (H:Hp) (x:V) (xs:List V) (v:Value) (us:List Value) (Q:VK),bY X pins σ H s->RelV x v->cE xs us->r x xs H Q →
  wpAny (model X.prog X.w) X.A (call (.builtin id) (v::us)) (EP X pins σ Q) X.xe s
section
variable {X:Cx} {a b:Expr} {ta tb:TE} {pos:Pos}
def Kz{r:R2}(hr:Jx X r)(ha:PE X a ta)(hb:PE X b tb)(hs:AW b):PE X (.Subscript a b pos) (Ee r ta tb):=by
 intro pins s σ H Q I h;exact Subscript_ (Jo ha hb I h λv u s2 x y H2 I2 rx ry q=>hr a b pins s2 σ H2 x y v u Q I2 rx ry q (hs _ _))
def IX(K:WG):R2:=λx y H Q=>∃p xs i v,x=.ref p/\y=.int i/\cW K H p xs/\tS xs i=some v/\Q v H
def Ek(K:WG):R2:=λx y H Q=>∃p xs i v,x=.ref p/\y=.int i/\c8 K H p xs/\tS xs i=some v/\Q v H
def Kr:R2:=λx y H Q=>∃z i c,x=.str z/\y=.int i/\z.length<=sizeLine/\tS z.cps.toList i=some c/\Q (.str ⟨#[c]⟩) H
def cP:Jx X (IX X.K):=by
 intro value slice pins s σ H x y v u Q I rx ry h hs;obtain⟨p,xs,i,z,rfl,rfl,hq,he,q⟩:=h;cases rx;obtain⟨t,rfl⟩:=ry;obtain⟨its,r,pl,hz⟩:=I.list hq;obtain⟨j,h1,h2,h3,h4,h5⟩:=vj he;obtain⟨w,ew,rw'⟩:=r.get h2;have hl:=r.length;have hn:=oq;have fin:EP X pins σ Q w s:=⟨z,H,I,rw',q⟩
 by_cases h0:0<=i
 ·have hj:i.toNat=j:=by
   rw[seqIndex_of h0 h5] at h1;exact bZ h1
  exact item_listR pl.isList h0 (by lia) (by rw[hj];simpa using ew) fin hs
 ·have hj:(i+(its.toArray.size:Int)).toNat=j:=by
   rw[seqIndex_neg (by lia) h4] at h1;rw[aT,<-hl];exact bZ h1
  exact subscriptTail_builtinR (x:=w) pl.isList.typeIs slot_list_getitem.lookup
   (wpAny_getItem_list_neg (Q:=λr s'=>r=w/\EP X pins σ Q r s') pl.isList (by lia) (by rw[aT]<;>lia) (by lia) (by rw[hj];simpa using ew) ⟨rfl,fin⟩) hs
def b6:Jx X (Ek X.K):=by
 intro value slice pins s σ H x y v u Q I rx ry h hs;obtain⟨p,xs,i,z,rfl,rfl,hq,he,q⟩:=h;cases rx;obtain⟨t,rfl⟩:=ry;obtain⟨its,r,pl,hz⟩:=I.tuple hq;obtain⟨j,h1,h2,h3,h4,h5⟩:=vj he;obtain⟨w,ew,rw'⟩:=r.get h2;have hl:=r.length;have hn:=oq;have fin:EP X pins σ Q w s:=⟨z,H,I,rw',q⟩
 exact subscriptTail_builtinR (x:=w) pl.typeIs slot_tuple_getitem.lookup
  (getItem_tuple (j:=j) (Q:=λr s'=>r=w/\EP X pins σ Q r s') pl (by lia) (by lia) (by rw[aT,<-hl];exact h1) (by simpa using ew) ⟨rfl,fin⟩) hs
def yk:Jx X Kr:=by
 intro value slice pins s σ H x y v u Q I rx ry h hs;obtain⟨z,i,c,rfl,rfl,hz,he,q⟩:=h;obtain⟨t,rfl⟩:=rx;obtain⟨t',rfl⟩:=ry;obtain⟨j,h1,h2,h3,h4,h5⟩:=vj he;have hl:z.cps.toList.length=z.length:=by simp[Str.length]
 rw[hl] at h1 h4 h5;have hn:=oq;exact tail_any (typeIs_str s z t) slot_str_getitem.lookup (getItem_str (c:=c) (by
  have e1:decide (i < -(2 ^ 63:Int))=false:=WB (by lia);have e2:decide (i>=2 ^ 63)=false:=WB (by lia);rw[e1,e2,Bool.or_false]) (by rw[h1];simpa using h2) ⟨.str ⟨#[c]⟩,H,I.tok _,⟨_,rfl⟩,q⟩) hs
def ye (its:List Value) (n j:Nat) (u:Value):Obj.mapSeq (·.setIfInBounds j u) { cls:=.type "list",data:=.seq its.toArray n }={ cls:=.type "list",data:=.seq (its.set j u).toArray n }:=by
 simp[Obj.mapSeq]
def bY.lst{pins:List (Addr×Obj)}{σ:St}{H:Hp}{s:Shared}{p:Addr}{xs:List V}(I:bY X pins σ H s)(h:H p=some (.lst xs)):
  ∃(its:List Value) (n:Nat),cE xs its/\s.heap.get? p=some { cls:=.type "list",data:=.seq its.toArray n }/\xs.length<=sizeLine:=by
 obtain⟨z,its,n,r,e⟩:=I.hok p _ h;exact⟨its,n,r,e,z⟩
def bY.lstUpd{pins:List (Addr×Obj)}{σ:St}{H:Hp}{s:Shared}{p:Addr}{xs ys:List V}{its its':List Value}{n n':Nat}{f:Obj->Obj}(I:bY X pins σ H s)(h:H p=some (.lst xs))
  (ho:s.heap.get? p=some { cls:=.type "list",data:=.seq its.toArray n }) (hf:f { cls:=.type "list",data:=.seq its.toArray n }={ cls:=.type "list",data:=.seq its'.toArray n' }) (r:cE ys its') (hz:ys.length<=sizeLine) (t:Nat) :
  bY X pins σ (bE H p (.lst ys)) { s with heap:=s.heap.update p f,toks:=t }:=by
 have e:(s.heap.update p f).get? p=some { cls:=.type "list",data:=.seq its'.toArray n' }:=by
  rw[df f ho (by rw[hf]<;>rfl),hf]
 refine I.write (x:=p) (e:=p) (by rw[h];trivial) (.inl rfl) (λb u hb q=>(Heap.get?_update_other _ _ (gg hb)).trans q) ⟨_,e⟩ ?_;exact⟨hz,its',n',r,e⟩
def Gv:V->V->V->Hp->(Hp->Prop)->Prop:=λo i v H Q=>∃p xs k j,o=.ref p/\i=.int k/\H p=some (.lst xs)/\yl xs.length k=some j/\Q (bE H p (.lst (xs.set j v)))
def set_list:Jt X Gv:=by
 intro pins s σ H o i v ov iv u Q I ro ri rv h;obtain⟨p,xs,k,j,rfl,rfl,hp,hj,q⟩:=h;cases ro;obtain⟨t,rfl⟩:=ri;obtain⟨its,n,r,ho,hz⟩:=I.lst hp;obtain⟨h1,h2,h3,h4⟩:=AB hj;have hl:=r.length;have hn:=oq;have I':bY X pins σ (bE H p (.lst (xs.set j v))) { s with heap:=s.heap.update p (Obj.mapSeq (·.setIfInBounds j u)) }:=
  I.lstUpd hp ho (ye its n j u) (r.set rv j) (by rw[List.length_set];exact hz) s.toks
 by_cases h0:0<=k
 ·have hk:k.toNat=j:=by
   rw[seqIndex_of h0 h4] at h1;exact bZ h1
  exact PySem.W.ki_setAt ho h0 (by lia) (by rw[aT,<-hl];exact h4) (by rw[hk];exact⟨_,I',q⟩)
 ·have hk:(k+(its.toArray.size:Int)).toNat=j:=by
   rw[seqIndex_neg (by lia) h3] at h1;rw[aT,<-hl];exact bZ h1
  exact PySem.W.ki_setBack ho (by lia) (by rw[aT,<-hl];exact h3) (by lia) (by rw[hk];exact⟨_,I',q⟩)
def vF(lo hi:Option Int)(n:Nat):(sliceBounds lo hi none n).1=((HT.sIx n 0 lo:Nat):Int)/\(sliceBounds lo hi none n).2.1=((HT.sIx n n hi:Nat):Int)/\(sliceBounds lo hi none n).2.2=1:=by
 refine⟨?_,?_,rfl⟩
 ·cases lo with
  | none=>simp[sliceBounds,HT.sIx]
  | some i=>
   simp only[sliceBounds,HT.sIx,Option.getD_none,show (1:Int) > 0 by decide,WE];by_cases h:i<0
   ·simp only[h,WE]<;>lia
   ·simp only[h,WF]<;>lia
 ·cases hi with
  | none=>simp[sliceBounds,HT.sIx]
  | some i=>
   simp only[sliceBounds,HT.sIx,Option.getD_none,show (1:Int) > 0 by decide,WE];by_cases h:i<0
   ·simp only[h,WE]<;>lia
   ·simp only[h,WF]<;>lia
def tV(its:List Value)(lo hi:Option Int):slicePick its.toArray lo hi none=((its.drop (HT.sIx its.length 0 lo)).take (HT.sIx its.length its.length hi-HT.sIx its.length 0 lo)).toArray:=by
 obtain⟨h1,h2,h3⟩:=vF lo hi its.toArray.size;unfold slicePick;rw[h1,h2,h3];simp only[sliceRange_one,pick_run,aT]<;>rfl
def Lq(K:WG):V->Option Int->Option Int->Hp->VK->Prop:=λx lo hi H Q=>∃a xs,x=.ref a/\cW K H a xs/\∀p,H p=none->Q (.ref p) (bE H p (.lst (t9 xs lo hi)))
def vG:MH X (Lq X.K):=by
 intro pins s σ H x v vl vu lo hi sl Q I rx hs pl pu h;obtain⟨a,xs,rfl,hx,q⟩:=h;cases rx;obtain⟨its,r,ht,hz⟩:=I.list hx;have hlen:=r.length;refine⟨"list",_,slot_list_getitem.lookup,ht.isList.typeIs,?_⟩;refine wpAny_getItem_list_slice ht.isList hs pl pu .none (by simp) ?_ (by rw[aT]<;>lia);rw[tV,<-hlen];refine⟨.ref s.heap.objs.size,_,I.laid (t':=s.toks) (o:=.lst (t9 xs lo hi)) (λb ob q=>aB _ q) (aJ _) ?_,rfl,q _ (I.hok.fresh (aJ _))⟩;exact⟨cH (xN xs lo hi) hz,_,0,(r.drop (HT.sIx xs.length 0 lo)).take (HT.sIx xs.length xs.length hi-HT.sIx xs.length 0 lo),aN _ rfl⟩
def bR:gT X (.builtin "len") (λxs H Q=>∃p ys,xs=[.ref p]/\(cW X.K H p ys\/c8 X.K H p ys)/\Q (.int ys.length) H):=by
 intro pins s σ H xs us Q I r h;obtain⟨p,ys,rfl,hq,q⟩:=h;obtain⟨u,rfl,rx⟩:=Ve r;cases rx;have hn:=oq;rcases hq with hq | hq
 ·obtain⟨its,r',pl,hz⟩:=I.list hq;have hlen:=r'.length;exact Calls.call_len_list pl.isList (by simp only[aT]<;>lia) ⟨.int ys.length,H,I.tok _,⟨s.toks+1,by rw[aT,hlen]⟩,q⟩
 ·obtain⟨its,r',pl,hz⟩:=I.tuple hq;have hlen:=r'.length;exact len_tuple pl (by simp only[aT]<;>lia) ⟨.int ys.length,H,I.tok _,⟨s.toks+1,by rw[aT,hlen]⟩,q⟩
def fb:gT X (.builtin "len") (λxs H Q=>∃z,xs=[.str z]/\z.length<=sizeLine/\Q (.int z.length) H):=by
 intro pins s σ H xs us Q I r h;obtain⟨z,rfl,hz,q⟩:=h;obtain⟨u,rfl,t,rfl⟩:=Ve r;have hn:=oq;exact len_str (by lia) ⟨.int z.length,H,I.tok _,⟨_,rfl⟩,q⟩
def qB:gT X (.type "list") (λxs H Q=>∃p ys,xs=[.ref p]/\(cW X.K H p ys\/c8 X.K H p ys)/\∀l,H l=none->Q (.ref l) (bE H l (.lst ys))):=by
 intro pins s σ H xs us Q I r h;obtain⟨p,ys,rfl,hq,q⟩:=h;obtain⟨u,rfl,rx⟩:=Ve r;cases rx;have fin:∀(its:List Value),cE ys its->ys.length<=sizeLine->∀(h':Heap) (c':Nat),(∀b o',s.heap.get? b=some o'->h'.get? b=some o') →
   h'.get? s.heap.objs.size=some { cls:=.type "list",dict:=none,data:=.seq its.toArray c',slots:=#[] }->EP X pins σ Q (.ref s.heap.objs.size) { s with heap:=h' }:=λits r' hz h' c' kp e=>
  ⟨.ref s.heap.objs.size,_,I.laid (t':=s.toks) kp (aJ _) (show dB X.prog X.w _ h' _ (.lst ys) from ⟨hz,its,c',r',e⟩),rfl,q _ (I.hok.fresh (aJ _))⟩
 rcases hq with hq | hq
 ·obtain⟨its,r',pl,hz⟩:=I.list hq;have hlen:=r'.length;obtain⟨o,ho,hc,n,hd⟩:=pl.isList;exact call_list_seq p (.inl rfl) ho hc hd (λh' c' kp e=>fin its r' hz h' c' kp e) (by simp only[aT]<;>lia)
 ·obtain⟨its,r',pl,hz⟩:=I.tuple hq;have hlen:=r'.length;obtain⟨o,ho,hc,n,hd⟩:=pl;exact call_list_seq p (.inr rfl) ho hc hd (λh' c' kp e=>fin its r' hz h' c' kp e) (by simp only[aT]<;>lia)
def jM:gT X (.type "tuple") (λxs H Q=>∃p ys,xs=[.ref p]/\((cW X.K H p ys/\∀l,H l=none->Q (.ref l) (bE H l (.tup ys)))\/(c8 X.K H p ys/\Q (.ref p) H))):=by
 intro pins s σ H xs us Q I r h;obtain⟨p,ys,rfl,h⟩:=h;obtain⟨u,rfl,rx⟩:=Ve r;cases rx;rcases h with ⟨hq,q⟩ | ⟨hq,q⟩
 ·obtain⟨its,r',pl,hz⟩:=I.list hq;have hlen:=r'.length;refine call_tuple_list pl.isList (λh' kp=>?_) (by simp only[aT]<;>lia);have I1:bY X pins σ H { s with heap:=h' }:=I.kept (t':=s.toks) kp;have I2:bY X pins σ (bE H h'.objs.size (.tup ys)) { s with heap:=h'.push { cls:=.type "tuple",data:=.seq its.toArray } }:=
   I1.laid (t':=s.toks) (λb o e=>aB _ e) (aJ _) (show dB X.prog X.w _ _ _ (.tup ys) from ⟨hz,its,r',IsTup.new _ _⟩)
  exact⟨.ref h'.objs.size,_,I2,rfl,q _ (I1.hok.fresh (aJ _))⟩
 ·obtain⟨its,r',pl,hz⟩:=I.tuple hq;exact call_tuple_same pl ⟨.ref p,H,I,rfl,q⟩
def Hs (K : WG) (T : String) (x : V) (H : Hp) : Prop := match x with
 | .str _ => T = "str"
 | .int _ => T = "int"
 | .ref p => (T = "list" ∧ ∃ xs, cW K H p xs) ∨ (T = "tuple" ∧ ∃ o, K.lookup p = some o ∧ o.cls = .type "tuple" ∧ o.dict = none) ∨
   (T = "dict" ∧ ((∃ kvs, H p = some (.dK kvs)) ∨ ∃ kvs, H p = some (.dT kvs))) ∨ (T = "set" ∧ ∃ S n, H p = some (.set S n))
 | _ => False
def CK{pins:List (Addr×Obj)}{σ:St}{H:Hp}{s:Shared}{T:String}{x:V}{v:Value}(I:bY X pins σ H s)(r:RelV x v)(ty:Hs X.K T x H):
  s.TypeIs v T/\∀a,v=.ref a->∃ob,s.heap.get? a=some ob/\ob.dict=none:=by
 cases x with
 | str z=>
  obtain⟨t,rfl⟩:=r;cases (show T="str" from ty);exact⟨typeIs_str s z t,λ_ e=>nomatch e⟩
 | int i=>
  obtain⟨t,rfl⟩:=r;cases (show T="int" from ty);exact⟨typeIs_int s i t,λ_ e=>nomatch e⟩
 | ref p=>
  cases r;rcases ty with ⟨rfl,xs,hq⟩ | ⟨rfl,o,hk,hc,hd⟩ | ⟨rfl,hk⟩ | ⟨rfl,S,n,hk⟩
  ·obtain⟨its,_,pl,_⟩:=I.list hq;refine⟨pl.isList.typeIs,λa e=>?_⟩;cases e;obtain⟨o,n,e,c,hd,_⟩:=pl;exact⟨o,e,hd⟩
  ·refine⟨⟨o,I.kIn p o hk,hc⟩,λa e=>?_⟩;cases e;exact⟨o,I.kIn _ o hk,hd⟩
  ·have z:∃o,s.heap.get? p=some o/\o.ExactDict:=by
    rcases hk with ⟨kvs,hk⟩ | ⟨kvs,hk⟩
    ·obtain⟨_,_,_,_,o,_,_,e,ex,_⟩:=I.hok p _ hk;exact⟨o,e,ex⟩
    ·obtain⟨_,_,_,_,o,_,_,e,ex,_⟩:=I.hok p _ hk;exact⟨o,e,ex⟩
   obtain⟨o,e,ex⟩:=z;refine⟨⟨o,e,ex.1⟩,λa e2=>?_⟩;cases e2;exact⟨o,e,ex.2.1⟩
  ·obtain⟨o,_,_,_,e,ex,_⟩:=I.hok p _ hk;refine⟨⟨o,e,ex.1⟩,λa e2=>?_⟩;cases e2;exact⟨o,e,ex.2.1⟩
 | _=>exact False.elim ty
def IJ(K:WG)(T:String)(r:V->List V->Hp->VK->Prop)(to:TE):TE:=λσ H Q=>to σ H λx H1=>Hs K T x H1/\r x [] H1 Q
def Ln(K:WG)(T:String)(r:V->List V->Hp->VK->Prop)(to:TE)(t:TA):TE:=λσ H Q=>to σ H λx H1=>Hs K T x H1/\t σ H1 λxs H2=>r x xs H2 Q
variable {o e:Expr} {es:List Expr} {to:TE} {t:TA} {name:Str} {apos cpos:Pos} {T id:String} {r:V->List V->Hp->VK->Prop}
def JJ (pa:PlainAttrs T) (slot:Slot T name id) (hty:typeOf (.builtin id)=pure (.type "method_descriptor")) (hm:LV X id r) (ho:PE X o to)
  (hbase:attributeBase o name X.env (eval o X.env)=eval o X.env:=by rfl) (hline:(apos.endLine==cpos.line)=true:=by rfl):PE X (.Call (.Attribute o name apos) [] [] cpos) (IJ X.K T r to):=by
 intro pins s σ H Q I h;refine wpAny_Call_method0_late hbase hline (dZ (ho pins s σ H _ I h) λv s1 ⟨x,H1,I1,r1,ty,q1⟩=>?_);obtain⟨h1,h2⟩:=CK I1 r1 ty;exact⟨T,id,pa,slot,hty,h1,h2,Calls.callWith_builtin rfl (PySem.evalArgs_none (hm pins s1 σ H1 x [] v [] Q I1 r1 .nil q1))⟩
def LA (pa:PlainAttrs T) (slot:Slot T name id) (hty:typeOf (.builtin id)=pure (.type "method_descriptor")) (hm:LV X id r) (ho:PE X o to) (ha:PA X (e::es) t)
  (hbase:attributeBase o name X.env (eval o X.env)=eval o X.env:=by rfl)
  (hfew:((backTo cpos (starEach (e::es) X.env)).all (λx=>!x.1)&&(backToKw cpos (keywordEach [] X.env)).all (λx=>x.1.isSome)
   && decide ((e::es).length+([]:List Keyword).length+(if ([]:List Keyword).isEmpty then 0 else 1)<30))=true:=by rfl)
  (hline:(apos.endLine==cpos.line)=true:=by rfl) (hs:starEach (e::es) X.env=(false,eval e X.env)::starEach es X.env:=by rfl) (hplain:(backTo cpos (starEach es X.env)).any (·.1)=false:=by rfl) :
  PE X (.Call (.Attribute o name apos) (e::es) [] cpos) (Ln X.K T r to t):=by
 intro pins s σ H Q I h;refine wpAny_Call_method_late hbase hfew hline rfl (dZ (ho pins s σ H _ I h) λv s1 ⟨x,H1,I1,r1,ty,q1⟩=>?_);obtain⟨h1,h2⟩:=CK I1 r1 ty;refine⟨T,id,pa,slot,hty,h1,h2,?_⟩;have hA:=ha cpos pins s1 σ H1 _ I1 q1;rw[hs] at hA ⊢;refine Calls.callWith_builtin (by show (false || (backTo cpos (starEach es X.env)).any (·.1))=false;rw[hplain]<;>rfl) (Calls.evalArgs_plain ?_);exact dZ hA λus s2 ⟨vs,H2,I2,r2,q2⟩=>hm pins s2 σ H2 x vs v us Q I2 r1 r2 q2
/- xs.append(e),list.index on a module's tuple .. are LV facts of 06m -/
end
def Lc(X:Cx)(id:String)(r:V->List V->Hp->VK->Prop):Prop:=
 ∀(pins:List (Addr×Obj)) (s:Shared) (σ:St) (H:Hp) (x:V) (xs:List V) (v:Value) (us:List Value) (Q:VK),bY X pins σ H s->RelV x v->cE xs us->r x xs H Q →
  wpAny (model X.prog X.w) X.A (call (.builtin id) (v::us)) (EP X pins σ Q) X.xe s
def cE.one:∀{x:V} {us:List Value},cE [x] us->∃u,us=[u]/\RelV x u
 | _,_,.cons r .nil=>⟨_,rfl,r⟩
def cE.two:∀{x y:V} {us:List Value},cE [x,y] us->∃u v,us=[u,v]/\RelV x u/\RelV y v
 | _,_,_,.cons r (.cons q .nil)=>⟨_,_,rfl,r,q⟩
def cE.zero:∀{us:List Value},cE [] us->us=[]
 | _,.nil=>rfl
def cE.dropLast{xs:List V}{us:List Value}(h:cE xs us):cE xs.dropLast us.dropLast:=by
 induction h with
 | nil=>exact .nil
 | cons r t ih=>
  cases t with
  | nil=>exact .nil
  | cons q t'=>exact .cons r ih
def yt{α:Type}(l:List α):l.eraseIdx (l.length - 1)=l.dropLast:=by
 induction l with
 | nil=>rfl
 | cons a r ih=>
  cases r with
  | nil=>rfl
  | cons b r=>
   have e:(a::b::r).length - 1=((b::r).length - 1)+1:=by
    have h1:(a::b::r).length=r.length+2:=rfl;have h2:(b::r).length=r.length+1:=rfl;lia
   rw[e,List.eraseIdx_cons_succ,ih]
   all_goals rfl
section
variable {X:Cx} {pins:List (Addr×Obj)} {σ:St} {H:Hp} {s:Shared} {l:Addr} {xs ys:List V}
def bY.lset{its its':List Value}{n:Nat}{f:Array Value->Array Value}{t':Nat}(I:bY X pins σ H s)(hH:H l=some (.lst xs))
  (e:s.heap.get? l=some { cls:=.type "list",data:=.seq its.toArray n }) (hf:f its.toArray=its'.toArray) (hv:cE ys its') (hz:ys.length<=sizeLine) :
  bY X pins σ (bE H l (.lst ys)) { s with heap:=s.heap.update l (Obj.mapSeq f),toks:=t' }:=by
 have q:=PySem.IsL.update e f;rw[hf] at q;refine I.write (x:=l) (e:=l) (by rw[hH];exact trivial) (.inl rfl) (λb' u hb hu=>(Heap.get?_update_other s.heap (Obj.mapSeq f) (gg hb)).trans hu) ⟨_,q⟩ ?_;exact⟨hz,its',_,hv,q⟩
def bY.lnew{its:List Value}{t':Nat}(I:bY X pins σ H s)(hv:cE ys its)(hz:ys.length<=sizeLine):
  bY X pins σ (bE H s.heap.objs.size (.lst ys)) { s with heap:=s.heap.push { cls:=.type "list",data:=.seq its.toArray },toks:=t' }:=
 I.laid (λ_ _ q=>aB _ q) (aJ _) ⟨hz,its,0,hv,aN _ rfl⟩
def bY.fresh(I:bY X pins σ H s):H s.heap.objs.size=none:=I.hok.fresh (aJ _)
def bY.lstM (I:bY X pins σ H s) (hH:H l=some (.lst xs)):xs.length<=sizeLine/\∃(its:List Value) (n:Nat),cE xs its/\xs.length=its.length/\s.heap.get? l=some { cls:=.type "list",data:=.seq its.toArray n }:=by
 obtain⟨z,its,n,r,e⟩:=I.hok l _ hH;exact⟨z,its,n,r,r.length,e⟩
end
section
variable {X:Cx}
def vR:V->List V->Hp->VK->Prop:=λx vs H Q=>∃l xs y,x=.ref l/\vs=[y]/\H l=some (.lst xs)/\xs.length<sizeLine/\Q .non (bE H l (.lst (xs++[y])))
def c6:Lc X "list.append" vR:=by
 intro pins s σ H x vs v us Q I rx rv h;obtain⟨l,xs,y,rfl,rfl,hH,hz,q⟩:=h;cases rx;obtain⟨u,rfl,ru⟩:=rv.one;obtain⟨z,its,n,r,hl,e⟩:=I.lstM hH;refine call_meets F.slot_list_append ⟨_,e,rfl⟩ F.entry_list_append (F.args_list_append_2 _ _) (PySem.list_append l its.toArray n u (by rw[aT];lia)) ⟨e,?_⟩;refine⟨.non,_,I.lset (its':=its++[u]) hH e (by simp) (r.append (.cons ru .nil)) ?_,rfl,q⟩;rw[aU,bu];lia
def Ko:V->List V->Hp->VK->Prop:=λx vs H Q=>∃l xs y,x=.ref l/\vs=[]/\H l=some (.lst xs)/\xs[xs.length - 1]? = some y/\Q y (bE H l (.lst xs.dropLast))
def qY:Lc X "list.pop" Ko:=by
 intro pins s σ H x vs v us Q I rx rv h;obtain⟨l,xs,y,rfl,rfl,hH,hy,q⟩:=h;cases rx;have hus:=rv.zero;subst hus;obtain⟨z,its,n,r,hl,e⟩:=I.lstM hH;obtain⟨u,hu,ru⟩:=r.get hy;have hy':its.toArray[its.toArray.size - 1]? = some u:=by
  show its.toArray[its.length - 1]? = some u;rw[<-Array.getElem?_toList,<-hl];exact hu
 refine call_meets F.slot_list_pop ⟨_,e,rfl⟩ F.entry_list_pop (F.args_list_pop_1 _) (MeetsSeq.list_pop_last l its.toArray n u hy' (by rw[aT];lia)) ⟨e,?_⟩;refine⟨y,_,I.lset (its':=its.dropLast) hH e ?_ r.dropLast ?_,ru,q⟩
 ·show its.toArray.eraseIdxIfInBounds (its.toArray.size - 1)=its.dropLast.toArray;rw[aT,List.eraseIdxIfInBounds_toArray,yt]
 ·rw[List.length_dropLast];lia
def Lr:R2:=λx y H Q=>∃l b xs zs,x=.ref l/\y=.ref b/\H l=some (.lst xs)/\H b=some (.lst zs)/\xs.length+zs.length<=sizeLine/\∀p,H p=none->Q (.ref p) (bE H p (.lst (xs++zs)))
def nK:mV X (binaryOp .Add) Lr:=by
 intro pins s σ H x y v u Q I rx ry h;obtain⟨l,b,xs,zs,rfl,rfl,hH,hB,hz,q⟩:=h;cases rx;cases ry;obtain⟨z,its,n,r,hl,e⟩:=I.lstM hH;obtain⟨z2,its2,n2,r2,hl2,e2⟩:=I.lstM hB;refine PySem.P.add_list e e2 ?_ (by rw[aT,aT];lia);have ea:its.toArray++its2.toArray=(its++its2).toArray:=by simp
 rw[ea];exact⟨.ref _,_,I.lnew (t':=s.toks) (r.append r2) (by rw[aU];lia),rfl,q _ I.fresh⟩
end
section
set_option maxRecDepth 100000 in
end
end L2
namespace Att
open PySem PySem.W PySem.Calls PyProof.Rows
def rN{P:Params}{h:Heap}:∀(ns:List Int) (vs:List Value),WellAll P h vs (ns.map WData.int)->IntsAre vs ns:=by
 intro ns
 induction ns with
 | nil=>
  intro vs w;rw[eI] at w;cases w;exact .nil
 | cons n ns ih=>
  intro vs w;rw[bC] at w;cases w with
  | cons a b=>
   cases a;exact .cons _ _ (ih _ b)
def A8{l:OpenLaw}{n:Nat}(hn:l.most=some n){P:Params}{h:Heap}{args:List WData}{vals:List Value}
  (hpre:l.row.toRowW.claim.pre args=true) (hwl:WellAll P h vals args) :
  ∃a vs ns,vals=[Value.ref a]/\args=[WData.list (ns.map WData.int)]/\h.get? a=some { cls:=.type "list",data:=.seq vs.toArray }/\IntsAre vs ns/\ns.length<=n:=by
 have hsh:WShape.hasAll [] args [.list .int]=true:=(pre_splitW hpre).1;have hc:l.pre.holds [] { args:=args }=true:=(pre_splitW hpre).2;obtain⟨d,r,rfl,h1,h2⟩:=hasAllW_cons hsh;obtain rfl:=hasAllW_nil h2;obtain⟨xs,rfl,h3⟩:=hasW_list h1;obtain⟨ns,rfl⟩:=items_int h3;have hlen:ns.length<=n:=by
  unfold OpenLaw.pre at hc;have h4:(WTm.not (.lt (.lit (.int (n:Int))) (.len (.arg 0)))).holds [] { args:=[.list (ns.map .int)] }=true:=by
   have h4:=(holds_andW hc).1;rw[hn] at h4;exact h4
  have h5:=condW_of h4 (w_not (w_lt w_lit (w_len_list (w_arg rfl))));rw[aD] at h5;refine Nat.le_of_not_lt λq=>?_;have q':(n:Int)<((ns.length:Nat):Int):=by lia
  first
   | (rw[WC q'] at h5;exact absurd h5 (by decide))
   | (simp at h5;lia)
 cases hwl with
 | cons w1 w2=>
  cases w2;cases w1 with
  | list ho hall=>exact⟨_,_,ns,rfl,rfl,ho,rN ns _ hall,hlen⟩
def Ai(l:OpenLaw)(args:List WData):l.row.toRowW.claim.post args (.bool true) args=true:=
 postW_of (r:=l.row.toRowW) (X:=(true==true))
  (show WShape.has [] (.bool true) .bool=true by first | rfl | decide | simp[WShape.has,WShape.arms,WShape.armsAll])
  (show (WTm.eq .res (.lit (.bool true))).value [] { args:=args,res:=some (.bool true),after:=args }=some (.bool (true==true)) from w_eq_bool (w_res rfl) w_lit) rfl
def attach_call{l:OpenLaw}{n:Nat}{q:Program}{loose:List Str}{XP:(Str->Option Value)->Heap->Prop}{YP:World->Heap->Prop}{d:DefRec}
  (hn:l.most=some n) (hdf:d.params.defaults=[])
  (call:∀(w:World) (s₀ s₁:Shared) (mg mb:Str->Option Value) (fa:Addr) (o:Obj) (pm cd doc:Value) (a:Addr) (vs:List Value) (ns:List Int),
   Ground q loose [] XP w s₀ mg mb s₁.heap->YP w s₁.heap →
   s₁.heap.get? fa=some o->o.data=.func (docDef d.name d.params d.body d.scope pm cd doc)->s₁.heap.CodeRec cd d.name->mg d.name=some (.ref fa) →
   s₁.heap.get? a=some { cls:=.type "list",data:=.seq vs.toArray }->IntsAre vs ns->ns.length<=n->s₁.gens=#[] →
   codeAny (model l.prog w) callerA (.call (.ref fa) ⟨[.ref a],[]⟩) (λr s'=>r=.ok (.ret (.bool true))/\OldK s₁.heap s'.heap/\s'.os=s₁.os/\AllBare s'.gens) s₁) :
  WalkO q loose XP YP l.row.toRowW d [] (λf vs=>PySem.call f vs):=by
 intro w s₀ s₁ mg mb G Y fa o pm cd doc dV kV ho hd hcd hD hmg hg args vals as hpre hlay hrd hwl hlo;obtain rfl:dV=.none:=Dflts.none hD hdf;obtain rfl:kV=.none:=Dflts.noKw hD;obtain⟨a,vs,ns,rfl,rfl,hobj,hints,hlen⟩:=A8 hn hpre hwl;refine enter_call (Vg (call w s₀ s₁ mg mb fa o pm cd doc a vs ns G Y ho (fd_plain hd) hcd hmg hobj hints hlen hg) λr s' hq=>?_);obtain⟨rfl,h2,h3,h4⟩:=hq;exact⟨.inl ⟨.bool true,.bool true,[],rfl,λ_=>rfl,.bool true,Ai l _,λ_=>⟨List.Pairwise.nil,λ_ hm=>(nomatch hm)⟩⟩,h2,h3,h4⟩
end Att
namespace L2
open PySem PySem.Spec PyProof.Rows
def nh:∀{vs:List Value} {ns:List Int},IntsAre vs ns->cE (ns.map V.int) vs
 | _,_,.nil=>.nil
 | _,_,.cons n t h=>.cons ⟨t,rfl⟩ (nh h)
def Ju(H:Hp):Prop:=∀b,H b=none\/∃o xs,H b=some (.frz o (.lst xs))
def Dl{P:Program}{w:World}{K:WG}{mg mb:Str->Option Value}{CX:Bc}{k:Nat}{fa a:Addr}{fd:FuncData}{x:Str}{sp:Sp}{s₁:Shared}{vs:List Value}{ns:List Int}
  (KX:K.In s₁.heap) (hns:s₁.heap.Ns mainGlobals mg) (hb:s₁.heap.Ns builtinsNs mb) (hbb:∀x:Str,x≠"__name__"->mb x=bootBuiltins x) (hlim:s₁.heap.NoLimit) (hg:s₁.gens=#[])
  (ha:s₁.heap.get? a=some { cls:=.type "list",data:=.seq vs.toArray }) (hi:IntsAre vs ns) (hl:ns.length<=sizeLine) (hr:gE k callerA)
  (F:∀base:Heap,K.In base->base.Ns mainGlobals mg->nX P w K mg base CX k fa fd [x] sp) (hbind:∀(s:Shared) (u:Value),BindsTo s fd ⟨[u],[]⟩ [(x,u)])
  (hsp:∀H:Hp,Ju H->cW K H a (ns.map V.int)->sp [.ref a] H (λv _=>v=.bl true) λ_ _ _=>False)
  (hCX:∀H e s',CX [] H s₁ (λ_ _ _=>False) e s'->False) :
  codeAny (model P w) callerA (.call (.ref fa) ⟨[.ref a],[]⟩) (λr s'=>r=.ok (.ret (.bool true))/\OldK s₁.heap s'.heap/\s'.os=s₁.os/\AllBare s'.gens) s₁:=by
 have rv:=nh hi;have lenV:=hi.length;have core:∀H:Hp,Ju H->cW K H a (ns.map V.int)->nW P w H s₁.heap->(∀b,H b≠none->b=a)->(H a≠none->K.lookup a=none) →
   codeAny (model P w) callerA (.call (.ref fa) ⟨[.ref a],[]⟩) (λr s'=>r=.ok (.ret (.bool true))/\OldK s₁.heap s'.heap/\s'.os=s₁.os/\AllBare s'.gens) s₁:=by
  intro H hO hS hok hA hK;have base_of:∀{b:Addr} {o:Obj},s₁.heap.get? b=some o->H b=none->(vd s₁.heap H).get? b=some o:=λe n=>Ds e n;have noA:∀{b:Addr} {o:Obj} {es:Array DictEntry} {ep:Nat},s₁.heap.get? b=some o->o.data=.dict es ep->H b=none:=fun {b o es ep} e d=>by
   cases q:H b with
   | none=>rfl
   | some u=>
    have e':b=a:=hA b (by rw[q];simp);subst e';rw[ha] at e;cases e;have d':Data.seq vs.toArray _=Data.dict es ep:=d;cases d'
  have nsK:∀{b:Addr} {m:Str->Option Value},s₁.heap.Ns b m->(vd s₁.heap H).Ns b m:=fun {b m} ⟨o,es,ep,e,d,r⟩=>⟨o,es,ep,base_of e (noA e d),d,r⟩
  have hKb:K.In (vd s₁.heap H):=λb o e=>base_of (KX b o e) (by
   cases q:H b with
   | none=>rfl
   | some u=>
    have e':b=a:=hA b (by rw[q];simp);subst e';rw[hK (by rw[q];simp)] at e;cases e)
  have hM:Mod K mg (vd s₁.heap H):=⟨hKb,nsK hns,⟨mb,nsK hb,hbb⟩,let ⟨mc,h1,h2⟩:=hlim;⟨mc,nsK h1,h2⟩⟩
  have e0:vt P w K mg (vd s₁.heap H) callerA [] s₁ H:=⟨rfl,hM,λb o e=>Fb e,mD (BJ _ _),trivial,λb hb=>absurd (show b∈([]:List Addr) from hb) (by simp),hok,.of_eq hg⟩
  refine Vg ((F _ hKb (nsK hns)).run callerA [] s₁ H ⟨[.ref a],[]⟩ [.ref a] [.ref a] _ _ hr e0 (hbind s₁ (.ref a)) (.cons rfl .nil) (hsp H hO hS)) λr s' h=>?_;cases r with
  | error e=>exact(hCX H e s' h).elim
  | ok fl=>
   cases fl with
   | next=>exact False.elim h
   | brk=>exact False.elim h
   | cont=>exact False.elim h
   | ret u=>
    obtain⟨v,H',os,bare,un,hok',r',q⟩:=h;have q':v=.bl true:=q;subst q';obtain rfl:u=Value.bool true:=r';refine⟨rfl,OldK.of_keep λb o e=>?_,os,bare⟩;cases q:H b with
    | none=>exact un.keep b o e q (by intro z;exact absurd (show b∈([]:List Addr) from z) (by simp)) (by simp)
    | some u=>
     rcases hO b with z | ⟨ob,xs,z⟩
     ·rw[q] at z;cases z
     ·have z2:=un.frzs b ob _ z;obtain⟨e1,_⟩:=hok b _ z;obtain⟨e2,_⟩:=hok' b _ z2;rw[e] at e1;cases e1;exact e2
 cases hk:K.lookup a with
 | some o=>
  have e:=KX a o hk;rw[ha] at e;cases e;refine core (λ_=>none) (λ_=>.inl rfl) (.inr ⟨_,vs.toArray,_,hk,rfl,rfl,rfl,by rw[aT,lenV];exact hl,by simpa using rv⟩) (λb u z=>by have z':(none:Option HO)=some u:=z;cases z') (λb z=>absurd rfl z) λz=>absurd rfl z
 | none=>
  refine core (λb=>if b=a then some (.frz { cls:=.type "list",data:=.seq vs.toArray } (.lst (ns.map V.int))) else none) (λb=>?_) (.inl (.inr ⟨{ cls:=.type "list",data:=.seq vs.toArray },Vz rfl⟩)) (λb u z=>?_) (λb z=>?_) λ_=>hk
  ·by_cases hb:b=a
   ·exact .inr ⟨_,_,Vz hb⟩
   ·exact .inl (Vy hb)
  ·by_cases hb:b=a
   ·have z':=(Vz hb).symm.trans z;cases z';subst hb;exact⟨ha,by rw[aD];exact hl,vs,_,rv,ha⟩
   ·have z':=(Vy hb).symm.trans z;cases z'
  ·by_cases hb:b=a
   ·exact hb
   ·exact absurd (Vy hb) z
abbrev MX {K:WG} {h:Heap} (_:K.In h):WG:=K
def zH{l:PySem.W.OpenLaw}{n k:Nat}{q:Program}{loose:List Str}{XP:(Str->Option Value)->Heap->Prop}{YP:World->Heap->Prop}{d:DefRec}{K:Params->WG}{CX:World->Bc}{sp:World->Sp}{x:Str}
  (hn:l.most=some n) (hn2:n<=sizeLine) (hdf:d.params.defaults=[]) (hr:gE k callerA)
  (hY:∀(w:World) (h:Heap),YP w h->(K w.params).In h)
  (F:∀(w:World) (mg:Str->Option Value) (fa:Addr) (h:Heap),(K w.params).In h->h.Ns mainGlobals mg->mg d.name=some (.ref fa) →
   ∃fd:FuncData,(∀(s:Shared) (u:Value),BindsTo s fd ⟨[u],[]⟩ [(x,u)]) ∧
    ∀base:Heap,(K w.params).In base->base.Ns mainGlobals mg->nX l.prog w (K w.params) mg base (CX w) k fa fd [x] (sp w))
  (hsp:∀(w:World) (H:Hp) (a:Addr) (ns:List Int),ns.length<=n->Ju H->cW (K w.params) H a (ns.map V.int)->sp w [.ref a] H (λv _=>v=.bl true) λ_ _ _=>False)
  (hCX:∀(w:World) (H:Hp) (s:Shared) (e:Value) (s':Shared),CX w [] H s (λ_ _ _=>False) e s'->False) :
  PySem.W.WalkO q loose XP YP l.row.toRowW d [] (λf vs=>PySem.call f vs):=by
 refine Att.attach_call hn hdf λw s₀ s₁ mg mb fa o pm cd doc a vs ns G Y ho hd hcd hmg hobj hints hlen hg=>?_;have KX:=hY w _ Y;obtain⟨fd,hb,hF⟩:=F w mg fa _ KX G.T.g hmg;exact Dl KX G.T.g G.T.b G.T.builtins G.T.nolimit hg hobj hints (cH hlen hn2) hr hF hb (λH hO hS=>hsp w H a ns hlen hO hS) λH e s'=>hCX w H s₁ e s'
end L2
/- THE LAST THEOREM (shape;LID,My.* are yours):
   My.Adr: a structure of the addresses that your layer names (classes,functions);My.Txt K t: a structure (Prop) of the equations over K;
   My.txt_mk:{K} {implicit addresses ..} (e1:nsIn K mainGlobals "law"=some (some (.ref f))) (e2:K.lookup f=some ⟨oc,od,.func (fnOf "law" "law" params body scope dV kV doc pm an cdv ct),sl⟩) (e3:codeIn K cdv "law"=true) ..:∃t,My.Txt K t
set_option maxRecDepth 100000 in
set_option maxHeartbeats 0 in
theorem PySem.Challenge.cw_LID_holds : PySem.Challenge.rw_LID.Holds := by
 w_on; o_law; k_head; (case hw => w_witness2)
 k_fill
 refine L2.zH (l := PySem.Challenge.rw_LID) (n := 63) (k := 40) (x := "script") (CX := λw => ..) (sp := λ_ => My.sp_law) rfl (by decide) rfl ⟨rfl, by decide, by decide⟩ (λw h Y => PySem.W.kIn_of Y) ?F ?S ?C
 case F =>
  intro w mg fa h KX G hmg;have T : ∃t, My.Txt (L2.MX KX) t := by
   dsimp only [L2.MX]                          -- K must stand as «<heap const> w.params» for k_is;refine' My.txt_mk ?e1 ?e2 ?e3 ..
   (case e1 => PySem.W.k_is)                    -- in the order: a name -> its address -> its object -> its parts
   (case e2 => PySem.W.k_is)
   ..
  obtain ⟨t, T⟩ := T;have e0 := hmg.symm.trans (be KX G T.law);cases e0                                       -- fa is the law's own address;exact ⟨_, λs u => .of_eq rfl, λbase kb nb => My.law_fn T kb nb⟩     -- if «.of_eq rfl» comes too early: refine' ⟨_, ?b, λbase kb nb => My.law_fn T kb nb⟩; exact λs u => .of_eq rfl
 case S => exact λw H a ns hl hO hS => ..
 case C => exact ..
(the tactic k_is has no namespace: write k_is) -/
namespace L2
open PySem PySem.Spec PyProof.Rows
def jf(s:Stmt):Arguments:=match s with
 | .FunctionDef _ a _ _ _ _ _ _ _ _=>a
 | _=>{ posonlyargs:=[],args:=[],vararg:=none,kwonlyargs:=[],kw_defaults:=[],kwarg:=none,defaults:=[] }
def gf(s:Stmt):List Stmt:=match s with
 | .FunctionDef _ _ b _ _ _ _ _ _ _=>b
 | _=>[]
def ao(s:Stmt):Scope:=match s with
 | .FunctionDef _ _ _ _ _ _ sc _ _ _=>sc
 | _=>{ kind:=.function,names:=[],isGenerator:=false,isCoroutine:=false }
abbrev xk:Bc:=λ_ _ _ _ _ _=>False
abbrev E0:XK:=λ_ _ _=>False
def LD{X:Cx}:tR xk X E0:=λ_ _ _ _ _ _ _ h=>h.elim
structure vp (K:WG) (x qual:Str) (st:Stmt) (f:Addr) (fd:FuncData):Prop where
 ex:∃ (oc:Value) (od:Option Addr) (kV doc pm:Value) (an:Option Addr) (cdv ct:Value) (osl:Array (Option Value)),
  fd=PySem.W.fnOf x qual (jf st) (gf st) (ao st) .none kV doc pm an cdv ct/\K.lookup f=some ⟨oc,od,.func fd,osl⟩/\PySem.W.codeIn K cdv qual=true
 kp:PySem.W.keepIn K (.ref f)=true
section
variable {P:Program} {w:World} {K:WG} {mg:Str->Option Value} {base:Heap}
def vp.ok{x qual:Str}{st:Stmt}{f:Addr}{fd:FuncData}{N ps:List Str}{k:Nat}{sp:Sp}(F:vp K x qual st f fd)(S:bN N ps (ao st))(len:∀vs H Q E,sp vs H Q E->vs.length=ps.length)
  (hbody:∀(cdv:Value) (A:Around) (outer:List Env) (s:Shared) (H:Hp) (vs:List V) (Q:VK) (E:XK),gE k (A.deeper (envOfC qual (ao st) s.heap.objs.size f cdv))->sp vs H Q E →
   ∃t,ut (jU xk P w K mg base N qual (ao st) f cdv A outer s H E).nox (gf st) t/\t { nx:=λ_ H'=>Q .non H',rt:=Q } (start N vs) H):nX P w K mg base xk (k+1) f fd ps sp:=by
 obtain⟨oc,od,kV,doc,pm,an,cdv,ct,osl,rfl,lk,hcd⟩:=F.ex;refine HL lk hcd S len λA outer s H vs Q E hr hsp=>?_;obtain⟨t,h,q⟩:=hbody cdv A outer s H vs Q E hr hsp;exact⟨t,h.nox,q⟩
def vp.binds{x qual:Str}{st:Stmt}{f:Addr}{fd:FuncData}{ps:List Str}(F:vp K x qual st f fd)
  (h:∀(kV doc pm:Value) (an:Option Addr) (cdv ct:Value) (us:List Value),us.length=ps.length->bindArgs (PySem.W.fnOf x qual (jf st) (gf st) (ao st) .none kV doc pm an cdv ct) ⟨us,[]⟩=pure (ps.zip us)):Binds K fd ps []:=by
 obtain⟨oc,od,kV,doc,pm,an,cdv,ct,osl,rfl,lk,hcd⟩:=F.ex;exact .all (h kV doc pm an cdv ct)
def Dv{x qual:Str}{st:Stmt}{f:Addr}{oc:Value}{od an:Option Addr}{osl:Array (Option Value)}{kV doc pm cdv ct:Value}(l:K.lookup f=some ⟨oc,od,.func (PySem.W.fnOf x qual (jf st) (gf st) (ao st) .none kV doc pm an cdv ct),osl⟩)
  (c:PySem.W.codeIn K cdv qual=true) (k:PySem.W.keepIn K (.ref f)=true):vp K x qual st f (PySem.W.fnOf x qual (jf st) (gf st) (ao st) .none kV doc pm an cdv ct):=⟨⟨oc,od,kV,doc,pm,an,cdv,ct,osl,rfl,l,c⟩,k⟩
end
def aq{n:Nat}(h:n<=1000):n<sizeLine:=iI h (by decide)
section
variable {X:Cx}
def pv (i:Nat) {x:Str} {pos:Pos} (hN:X.N[i]? = some x:=by rfl) (hv:KJ X.env.scope x:=by first | exact Or.inl rfl | exact Or.inr (Or.inl rfl) | exact Or.inr (Or.inr rfl)) (hd:(x==("__debug__":Str))=false:=by decide)
  (hcd:(x==("__classdict__":Str))=false:=by decide):PE X (.Name x pos) (uw i):=Iz hN hv hd hcd
end
def Fo{A B:Prop}(h:B):if false=true then A else B:=by
 rw[Vy ax];exact h
def Fm{A B:Prop}(h:A):if true=true then A else B:=by
 rw[Vz rfl];exact h
def fV{c A B:Prop} [Decidable c] (h1:c->A) (h2:¬c->B):if c then A else B:=by
 by_cases h:c
 ·rw[Vz h];exact h1 h
 ·rw[Vy h];exact h2 h
def aV(H H':Hp):Prop:=∀b o,H b=some o->H' b=some o
def aV.refl(H:Hp):aV H H:=λ_ _ h=>h
def aV.trans{H H1 H2:Hp}(a:aV H H1)(b:aV H1 H2):aV H H2:=λc o h=>b c o (a c o h)
def aV.free{H H':Hp}(e:aV H H'){l:Addr}(h:H' l=Option.none):H l=Option.none:=by
 cases q:H l with
 | none=>rfl
 | some o=>
  rw[e l o q] at h;cases h
def aV.seq{K:WG}{H H':Hp}{a:Addr}{xs:List V}(e:aV H H')(h:cW K H a xs):cW K H' a xs:=by
 rcases h with (h | ⟨o,h⟩) | h
 ·exact .inl (.inl (e _ _ h))
 ·exact .inl (.inr ⟨o,e _ _ h⟩)
 ·exact .inr h
end L2
set_option maxHeartbeats 4000000
namespace L2
open PySem PySem.Spec PyProof.Rows
mutual
inductive Rep (K:WG) (H:Hp):V->PyData->Prop
 | non:Rep K H .non .none
 | bl (b:Bool):Rep K H (.bl b) (.bool b)
 | int (i:Int):Rep K H (.int i) (.int i)
 | str (x:Str):Rep K H (.str x) (.str x)
 | tup {a:Addr} {xs:List V} {ds:List PyData}:c8 K H a xs->pD K H xs ds->Rep K H (.ref a) (.tuple ds)
 | lst {a:Addr} {xs:List V} {ds:List PyData}:cW K H a xs->pD K H xs ds->Rep K H (.ref a) (.list ds)
inductive pD (K:WG) (H:Hp):List V->List PyData->Prop
 | nil:pD K H [] []
 | cons {x:V} {xs:List V} {d:PyData} {ds:List PyData}:Rep K H x d->pD K H xs ds->pD K H (x::xs) (d::ds)
end
section
variable {X:Cx} {pins:List (Addr×Obj)} {σ:St} {H:Hp} {s:Shared}
mutual
def Rep.reads(I:bY X pins σ H s):∀{x:V} {d:PyData} {u:Value},Rep X.K H x d->RelV x u->∃as,Reads s.heap u d as
 | _,_,_,.non,r=>by cases r;exact⟨_,.none⟩
 | _,_,_,.bl b,r=>by cases r;exact⟨_,.bool b⟩
 | _,_,_,.int i,r=>by obtain⟨t,rfl⟩:=r;exact⟨_,.int i t⟩
 | _,_,_,.str x,r=>by obtain⟨t,rfl⟩:=r;exact⟨_,.str x t⟩
 | _,_,_,.tup h hl,r=>by
  cases r;obtain⟨its,vs,⟨o,e,c,n,dd⟩,_⟩:=I.tuple h;obtain⟨as,ra⟩:=pD.reads I hl vs;exact⟨_,.tuple e c dd (by simpa using ra)⟩
 | _,_,_,.lst h hl,r=>by
  cases r;obtain⟨its,vs,pl,_⟩:=I.list h;obtain⟨o,e,c,n,dd⟩:=pl.isList;obtain⟨as,ra⟩:=pD.reads I hl vs;exact⟨_,.list e c dd (by simpa using ra)⟩
def pD.reads(I:bY X pins σ H s):∀{xs:List V} {ds:List PyData} {us:List Value},pD X.K H xs ds->cE xs us->∃as,ReadsAll s.heap us ds as
 | _,_,_,.nil,.nil=>⟨_,.nil⟩
 | _,_,_,.cons h hl,.cons r rs=>by
  obtain⟨as,ra⟩:=Rep.reads I h r;obtain⟨bs,rb⟩:=pD.reads I hl rs;exact⟨_,.cons ra rb⟩
end
end
def yM(K:WG)(neg:Bool):R2:=λx y H Q=>∃d e,Rep K H x d/\Rep K H y e/\d.canLay0=true/\e.canLay0=true/\min d.depth e.depth<=60 ∧
 Q (.bl (if neg then !PyData.eqv d e else PyData.eqv d e)) H
section
variable {X:Cx}
def oh(hu:X.A.units+64<cLine):mV X (compareOp .Eq) (yM X.K false):=by
 intro pins s σ H x y v u Q I rx ry h;obtain⟨d,e,h1,h2,h3,h4,h5,q⟩:=h;obtain⟨as,ra⟩:=h1.reads I rx;obtain⟨bs,rb⟩:=h2.reads I ry;exact SeqAt.compareEq_reads ra rb h3 h4 (by lia) ⟨.bl _,H,I,rfl,q⟩
def qV(hu:X.A.units+64<cLine):mV X (compareOp .NotEq) (yM X.K true):=by
 intro pins s σ H x y v u Q I rx ry h;obtain⟨d,e,h1,h2,h3,h4,h5,q⟩:=h;obtain⟨as,ra⟩:=h1.reads I rx;obtain⟨bs,rb⟩:=h2.reads I ry;exact SeqAt.compareNe_reads ra rb h3 h4 (by lia) ⟨.bl _,H,I,rfl,q⟩
open Classical in
noncomputable def eqR (h:Heap) (d:PyData) (u:Value):Bool:=if z:∃e as,Reads h u e as/\e.canLay0=true then PyData.eqv z.choose d else false
def EC{h:Heap}{d e:PyData}{u:Value}{as:List Addr}(r:Reads h u e as)(c:e.canLay0=true):eqR h d u=PyData.eqv e d:=by
 have z:∃e as,Reads h u e as/\e.canLay0=true:=⟨e,as,r,c⟩
 unfold eqR;rw[dif_pos z];obtain⟨as',r',c'⟩:=z.choose_spec;rw[SeqAt.Reads.unique _ _ _ _ _ c' r' r]
def qC{h:Heap}{d:PyData}:∀{us:List Value} {es:List PyData} {as:List Addr},ReadsAll h us es as->PyData.canLayAll0 es=true->us.any (eqR h d)=es.any λe=>PyData.eqv e d
 | _,_,_,.nil,_=>rfl
 | _,_,_,.cons r rs,c=>by
  have c':(PyData.canLay0 _&&PyData.canLayAll0 _)=true:=c;rw[ai] at c';rw[fx,fx,EC r c'.1,qC rs c'.2]
def pU{A:Around}{s:Shared}{d:PyData}{x:Value}{bs:List Addr}(rx:Reads s.heap x d bs)(cx:d.canLay0=true)(hu:A.units+d.depth<cLine):
  ∀{us:List Value} {es:List PyData} {as:List Addr},ReadsAll s.heap us es as->PyData.canLayAll0 es=true->∀u∈us,SeqAt.EqAt A s u x (eqR s.heap d u)
 | _,_,_,.nil,_=>λu hu=>nomatch hu
 | _,_,_,.cons r rs,c=>λu hm=>by
  have c':(PyData.canLay0 _&&PyData.canLayAll0 _)=true:=c;rw[ai] at c';rcases aL.mp hm with rfl | hm
  ·rw[EC r c'.1];exact SeqAt.eqAt_reads _ _ A s _ _ _ _ r rx c'.1 cx (by lia)
  ·exact pU rx cx hu rs c'.2 u hm
def Cp(K:WG)(neg:Bool):R2:=λx y H Q=>∃d es p xs,Rep K H x d/\y=.ref p/\(cW K H p xs\/c8 K H p xs)/\pD K H xs es/\d.canLay0=true/\PyData.canLayAll0 es=true/\d.depth<=60 ∧
 Q (.bl (if neg then !(es.any λe=>PyData.eqv e d) else es.any λe=>PyData.eqv e d)) H
def v8(hu:X.A.units+64<cLine):mV X (compareOp .In) (Cp X.K false):=by
 intro pins s σ H x y v u Q I rx ry h;obtain⟨d,es,p,xs,h1,rfl,hq,h2,h3,h4,h5,q⟩:=h;cases ry;obtain⟨as,ra⟩:=h1.reads I rx;rcases hq with hq | hq
 ·obtain⟨its,r,pl,hz⟩:=I.list hq;obtain⟨bs,rb⟩:=h2.reads I r;refine SeqAt.in_listAt (eqR s.heap d) pl.isList (λz hz=>pU (A:=X.A.in1) ra h3 (by show X.A.units+1+d.depth<cLine;lia) rb h4 z (by simpa using hz)) ⟨.bl _,H,I,rfl,?_⟩;rw[show its.toArray.any (eqR s.heap d)=its.any (eqR s.heap d) by simp,qC rb h4];exact q
 ·obtain⟨its,r,pl,hz⟩:=I.tuple hq;obtain⟨bs,rb⟩:=h2.reads I r;refine SeqAt.in_tupleAt (eqR s.heap d) pl (λz hz=>pU (A:=X.A.in1) ra h3 (by show X.A.units+1+d.depth<cLine;lia) rb h4 z (by simpa using hz)) ⟨.bl _,H,I,rfl,?_⟩;rw[show its.toArray.any (eqR s.heap d)=its.any (eqR s.heap d) by simp,qC rb h4];exact q
def An(hu:X.A.units+64<cLine):mV X (compareOp .NotIn) (Cp X.K true):=by
 intro pins s σ H x y v u Q I rx ry h;obtain⟨d,es,p,xs,h1,rfl,hq,h2,h3,h4,h5,q⟩:=h;cases ry;obtain⟨as,ra⟩:=h1.reads I rx;rcases hq with hq | hq
 ·obtain⟨its,r,pl,hz⟩:=I.list hq;obtain⟨bs,rb⟩:=h2.reads I r;refine SeqAt.notIn_listAt (eqR s.heap d) pl.isList (λz hz=>pU (A:=X.A.in1) ra h3 (by show X.A.units+1+d.depth<cLine;lia) rb h4 z (by simpa using hz)) ⟨.bl _,H,I,rfl,?_⟩;rw[show its.toArray.any (eqR s.heap d)=its.any (eqR s.heap d) by simp,qC rb h4];exact q
 ·obtain⟨its,r,pl,hz⟩:=I.tuple hq;obtain⟨bs,rb⟩:=h2.reads I r;refine SeqAt.notIn_tupleAt (eqR s.heap d) pl (λz hz=>pU (A:=X.A.in1) ra h3 (by show X.A.units+1+d.depth<cLine;lia) rb h4 z (by simpa using hz)) ⟨.bl _,H,I,rfl,?_⟩;rw[show its.toArray.any (eqR s.heap d)=its.any (eqR s.heap d) by simp,qC rb h4];exact q
def IY(K:WG):List V->Hp->VK->Prop:=λxs H Q=>∃x T t b,xs=[x,.ty T]/\oP K H x t/\PySem.W.kitOne K t (.type T)=some b/\Q (.bl b) H
def jP:gT X (.builtin "isinstance") (IY X.K):=by
 intro pins s σ H xs us Q I r h;obtain⟨x,T,t,b,rfl,ty,e,q⟩:=h;obtain⟨u,w,rfl,rx,rw'⟩:=cE.two r;cases (show w=Value.type T from rw');exact BI I rx ty e λtk=>⟨.bl b,H,I.tok tk,rfl,q⟩
def rS(r r' r2:R2)(ta tb tc td:TE):TE:=λσ H Q=>ta σ H λx H1=>tb σ H1 λy H2=>r x y H2 λz H3=>∃k,z=.bl k ∧
 (if k=true then tc σ H3 λw' H4=>r' y w' H4 λz2 H5=>∃k2,z2=.bl k2/\(if k2=true then td σ H5 λe H6=>r2 w' e H6 Q else Q (.bl false) H5) else Q (.bl false) H3)
def Ag{a b c d:Expr}{ta tb tc td:TE}{pos:Pos}{op op' op2:CmpOp}{r r' r2:R2}(ho:mV X (compareOp op) r)(ho':mV X (compareOp op') r')(ho2:mV X (compareOp op2) r2)(ha:PE X a ta)(hb:PE X b tb)(hc:PE X c tc)(hd:PE X d td)
  (hm:lastMarks [op,op',op2] [b,c,d]=false:=by with_unfolding_all rfl):PT X (.Compare a [op,op',op2] [b,c,d] pos) (wB (rS r r' r2 ta tb tc td)):=by
 intro pins s σ H Q I h;refine isTrue_chain (dZ (ha pins s σ H _ I h) λv s1 ⟨x,H1,I1,r1,q1⟩=>test_link (dZ (hb pins s1 σ H1 _ I1 q1) λu s2 ⟨y,H2,I2,r2',q2⟩=>
  dZ (ho pins s2 σ H2 x y v u _ I2 r1 r2' q2) λe s3 ⟨z,H3,I3,r3,k,ek,q3⟩=>?_)) hm
 subst ek;cases r3;refine V4 ?_;cases k with
 | false=>
  obtain⟨k',e',q'⟩:=q3;cases e';exact ite_ff ⟨H3,I3,q'⟩
 | true=>
  refine ite_tt (test_link (dZ (hc pins s3 σ H3 _ I3 q3) λw' s4 ⟨z',H4,I4,r4,q4⟩=>dZ (ho' pins s4 σ H4 y z' u w' _ I4 r2' r4 q4) λd' s5 ⟨z2,H5,I5,r5,k2,e2,q5⟩=>?_));subst e2;cases r5;refine V4 ?_;cases k2 with
  | false=>
   obtain⟨k',e',q'⟩:=q5;cases e';exact ite_ff ⟨H5,I5,q'⟩
  | true=>
   refine ite_tt (test_last (dZ (hd pins s5 σ H5 _ I5 q5) λw2 s6 ⟨z6,H6,I6,r6,q6⟩=>dZ (ho2 pins s6 σ H6 z' z6 w' w2 _ I6 r4 r6 q6) λd7 s7 ⟨z7,H7,I7,r7,k7,e7,q7⟩=>?_));subst e7;cases r7;exact V4 ⟨H7,I7,q7⟩
def cF(lo:Int)(n:Nat):List Int:=(List.range n).map λ(i:Nat)=>lo+(i:Int)
def zX:∀{xs:List V} {us:List Value},xs.length=us.length->(∀(j:Nat) x u,xs[j]? = some x->us[j]? = some u->RelV x u)->cE xs us
 | [],[],_,_=>.nil
 | [],_::_,h,_=>by simp at h
 | _::_,[],h,_=>by simp at h
 | x::xs,u::us,h,f=>.cons (f 0 x u rfl rfl) (zX (by simpa using h) λj a b ha hb=>f (j+1) a b (by simpa using ha) (by simpa using hb))
def tF{lo:Int}{n:Nat}{acc:Array Value}(h:ItemsOf (λi v=>∃t,v=.int (lo+i*1) t) acc n):cE ((cF lo n).map V.int) acc.toList:=by
 refine zX (by simp[cF,h.1]) λj x u hx hu=>?_;obtain⟨t,rfl⟩:=h.2 j u (by simpa using hu);have hj:j<n:=by
  have:=(aH.mp hx).1;simpa [cF] using this
 have e:((cF lo n).map V.int)[j]? = some (.int (lo+(j:Int))):=by simp[cF,hj]
 rw[e] at hx;cases hx;exact⟨t,by simp⟩
def B2:gT X (.type "range") (λxs H Q=>∃j:Int,xs=[.int j]/\∀p,H p=none->Q (.ref p) (bE H p (.rng 0 j))):=by
 intro pins s σ H xs us Q I r h;obtain⟨j,rfl,q⟩:=h;obtain⟨u,rfl,t,rfl⟩:=Ve r;exact call_range_1 ⟨.ref s.heap.objs.size,_,I.laid (λb o e=>aB _ e) (aJ _) (show dB X.prog X.w _ _ _ (.rng 0 j) from ⟨_,_,_,aN _ rfl⟩),rfl,q _ (I.hok.fresh (aJ _))⟩
def ui:gT X (.type "range") (λxs H Q=>∃i j:Int,xs=[.int i,.int j]/\∀p,H p=none->Q (.ref p) (bE H p (.rng i j))):=by
 intro pins s σ H xs us Q I r h;obtain⟨i,j,rfl,q⟩:=h;obtain⟨u,u',rfl,⟨t,rfl⟩,t',rfl⟩:=cE.two r;exact call_range_2 ⟨.ref s.heap.objs.size,_,I.laid (λb o e=>aB _ e) (aJ _) (show dB X.prog X.w _ _ _ (.rng i j) from ⟨_,_,_,aN _ rfl⟩),rfl,q _ (I.hok.fresh (aJ _))⟩
def oX (hc:X.calm=true):gT X (.type "list") (λxs H Q=>∃p lo hi,xs=[.ref p]/\H p=some (.rng lo hi)/\(-(2 ^ 30)<=lo/\lo<2 ^ 30/\-(2 ^ 30)<=hi/\hi<2 ^ 30/\(hi-lo).toNat<=1000) ∧
  ∀l,H l=none->Q (.ref l) (bE H l (.lst ((cF lo (hi-lo).toNat).map V.int)))):=by
 intro pins s σ H xs us Q I r h;obtain⟨p,lo,hi,rfl,hp,⟨b1,b2,b3,b4,b5⟩,q⟩:=h;obtain⟨u,rfl,rx⟩:=Ve r;cases rx;obtain⟨t,u,v,e⟩:=(show dB X.prog X.w H s.heap p (.rng lo hi) from I.hok p _ hp)
 have hn:Builtin.Range.rangeSize lo hi 1=(((hi-lo).toNat:Nat):Int):=by rw[rangeSize_one];split<;>lia
 refine call_list_range (n:=(hi-lo).toNat) (I.ok.hd hc) (show IsRange s.heap p lo hi 1 t u v from e) (small_one (by lia) (by lia) (by lia) (by lia)) hn (by lia) λh' tk acc' c' kp e' hit=>?_;have hv:=tF hit;have hz:((cF lo (hi-lo).toNat).map V.int).length<=sizeLine:=by
  rw[aD,cF,aD,ko];exact ah (aq b5)
 exact⟨.ref s.heap.objs.size,_,I.laid kp (aJ _) (show dB X.prog X.w _ h' _ (.lst _) from ⟨hz,acc'.toList,c',hv,by simpa using e'⟩),rfl,q _ (I.hok.fresh (aJ _))⟩
end
structure Fn (K:WG) (mg:Str->Option Value) (x:Str) (st:Stmt) (ps:List Str):Prop where
 ex:∃ f fd,vp K x x st f fd/\mg x=some (.ref f)/\Binds K fd ps []
structure fJ (P:Program) (w:World) (K:WG) (mg:Str->Option Value) (base:Heap) (k:Nat) (x:Str) (st:Stmt) (ps:List Str) (sp:Sp):Prop where
 ex:∃ f fd,vp K x x st f fd/\mg x=some (.ref f)/\Binds K fd ps []/\nX P w K mg base xk k f fd ps sp
def Fn.mk'{P:Program}{w:World}{K:WG}{mg:Str->Option Value}{base:Heap}{k:Nat}{x:Str}{st:Stmt}{ps:List Str}{sp:Sp}(E:Fn K mg x st ps)
  (h:∀f fd,vp K x x st f fd->nX P w K mg base xk k f fd ps sp):fJ P w K mg base k x st ps sp:=by
 obtain⟨f,fd,F,m,b⟩:=E.ex;exact⟨f,fd,F,m,b,h f fd F⟩
def aV.new{H H2:Hp}{l:Addr}{o:HO}(s:aV H H2)(h:H l=none):aV H (bE H2 l o):=λb u e=>by rw[aI (av e h)];exact s b u e
def gN{α β:Type}{R:α->β->Prop}:∀{xs:List α} {ys:List β} {x:α} {y:β},Paired R xs ys->R x y->Paired R (xs++[x]) (ys++[y])
 | _,_,_,_,.nil,h=>.cons h .nil
 | _,_,_,_,.cons r t,h=>.cons r (gN t h)
def fK{α β:Type}{R S:α->β->Prop}:∀{xs:List α} {ys:List β},Paired R xs ys->(∀a b,R a b->S a b)->Paired S xs ys
 | _,_,.nil,_=>.nil
 | _,_,.cons r t,f=>.cons (f _ _ r) (fK t f)
def iy{α β:Type}{R:α->β->Prop}:∀{xs:List α} {ys:List β} {i:Nat} {x:α},Paired R xs ys->xs[i]? = some x->∃y,ys[i]? = some y/\R x y
 | _,_,_,_,.nil,e=>by simp at e
 | _,_,0,_,.cons r _,e=>by simp at e;subst e;exact⟨_,rfl,r⟩
 | _,_,i+1,x,.cons _ t,e=>by
  obtain⟨y,h1,h2⟩:=iy (i:=i) (x:=x) t (by simpa using e);exact⟨y,by simpa using h1,h2⟩
def DO {X:Cx} {x:Str} {i:Int} {pos:Pos} (hg:Gl X x) (hm:∃t,X.mg x=some (.int i t)) (hd:(x==("__debug__":Str))=false:=by decide):PE X (.Name x pos) (tC (.int i)):=
 let ⟨t,h⟩:=hm
 vV hg h ⟨t,rfl⟩ hd
def DT{X:Cx}{k:Nat}{x:Str}{st:Stmt}{ps:List Str}{sp:Sp}{e:Expr}{es:List Expr}{t:TA}{p pos:Pos}(D:fJ X.prog X.w X.K X.mg X.base k x st ps sp)(hr:gE k X.A)(hg:Gl X x)(ha:PA X (e::es) t)
  (hdb:(x==("__debug__":Str))=false:=by decide) (he:starEach (e::es) X.env=(false,eval e X.env)::starEach es X.env:=by rfl) (hpl:(backTo pos (starEach es X.env)).any (·.1)=false:=by rfl) :
  PE X (.Call (.Name x p) (e::es) [] pos) (oQ sp [] E0 t):=by
 obtain⟨f,fd,F,m,b,G⟩:=D.ex;exact vW G hr hg m F.kp b .nil LD ha hdb he hpl
section
variable {σ:St} {H:Hp} {Q:VK} {D:Ends}
def HU{v:V}:uw 0 (some v::σ) H Q=Q v H:=propext ⟨λ⟨_,e,h⟩=>by cases e;exact h,λh=>⟨v,rfl,h⟩⟩
def Bi{i:Nat}{x:Option V}:uw (i+1) (x::σ) H Q=uw i σ H Q:=rfl
def MP{v:V}:tC v σ H Q=Q v H:=rfl
def K2{r:R2}{ta tb:TE}:Ee r ta tb σ H Q=ta σ H λx H1=>tb σ H1 λy H2=>r x y H2 Q:=rfl
def KS{r:V->Hp->VK->Prop}{ta:TE}:Lg r ta σ H Q=ta σ H λx H1=>r x H1 Q:=rfl
def Hq{g:Int->Int->V}{i j:Int}:Gw g (.int i) (.int j) H Q=Q (g i j) H:=propext ⟨λ⟨_,_,e,e',h⟩=>by cases e;cases e';exact h,λh=>⟨i,j,rfl,rfl,h⟩⟩
def M1{C:Int->Int->Prop}{g:Int->Int->V}{i j:Int}:rI C g (.int i) (.int j) H Q=(C i j/\Q (g i j) H):=propext ⟨λ⟨_,_,e,e',h⟩=>by cases e;cases e';exact h,λh=>⟨i,j,rfl,rfl,h⟩⟩
def M0{g:Int->V}{i:Int}:rU g (.int i) H Q=Q (g i) H:=propext ⟨λ⟨_,e,h⟩=>by cases e;exact h,λh=>⟨i,rfl,h⟩⟩
def Gh{i j:Int}:Ks (.int i) (.int j) H Q=Q (.bl (decide (i=j))) H:=propext ⟨λ⟨_,h⟩=>by simpa using h,λh=>⟨rfl,by simpa using h⟩⟩
def Ge{i j:Int}:Kq (.int i) (.int j) H Q=Q (.bl (!decide (i=j))) H:=propext ⟨λ⟨_,h⟩=>by simpa using h,λh=>⟨rfl,by simpa using h⟩⟩
def zP{i j:Str}:Ks (.str i) (.str j) H Q=Q (.bl (decide (i=j))) H:=propext ⟨λ⟨_,h⟩=>by simpa using h,λh=>⟨rfl,by simpa using h⟩⟩
def Bs{i j:Str}:Kq (.str i) (.str j) H Q=Q (.bl (!decide (i=j))) H:=propext ⟨λ⟨_,h⟩=>by simpa using h,λh=>⟨rfl,by simpa using h⟩⟩
def Ke{i j:Bool}:Ks (.bl i) (.bl j) H Q=Q (.bl (decide (i=j))) H:=propext ⟨λ⟨_,h⟩=>by simpa using h,λh=>⟨rfl,by simpa using h⟩⟩
def K3{i j:Bool}:Kq (.bl i) (.bl j) H Q=Q (.bl (!decide (i=j))) H:=propext ⟨λ⟨_,h⟩=>by simpa using h,λh=>⟨rfl,by simpa using h⟩⟩
def Kd{b:Bool}{q:Bool->Prop}:(∃k,V.bl b=.bl k/\q k)=q b:=propext ⟨λ⟨_,e,h⟩=>by cases e;exact h,λh=>⟨b,rfl,h⟩⟩
def Kc{b:Int}{q:Int->Prop}:(∃k,V.int b=.int k/\q k)=q b:=propext ⟨λ⟨_,e,h⟩=>by cases e;exact h,λh=>⟨b,rfl,h⟩⟩
def Hm{i j:Str}{q:Str->Str->Prop}:(∃a b,V.str i=.str a/\V.str j=.str b/\q a b)=q i j:=
 propext ⟨λ⟨_,_,e,e',h⟩=>by cases e;cases e';exact h,λh=>⟨i,j,rfl,rfl,h⟩⟩
def MQ{CX:Bc}{P:Program}{w:World}{K:WG}{mg:Str->Option Value}{base:Heap}{N:List Str}{qual:Str}{scope:Scope}{f:Addr}{cd:Value}{A:Around}{outer:List Env}{s:Shared}{H:Hp}{E:XK}:(jU CX P w K mg base N qual scope f cd A outer s H E).K=K:=rfl
def Gm{i:Nat}{te:TE}{ti:KL}:IK i te ti D σ H=uw i σ H λx _=>te σ H λy H1=>ti x y H1 λz H2=>D.nx (σ.set i (some z)) H2:=rfl
def Lf{f:Int->Int->Int}{i j:Int}:Lz f (.int i) (.int j) H Q=Q (.int (f i j)) H:=propext ⟨λ⟨_,_,e,e',h⟩=>by cases e;cases e';exact h,λh=>⟨i,j,rfl,rfl,h⟩⟩
def Hc{a b:Bool}{q:Bool->Bool->Prop}:(∃c d,V.bl a=.bl c/\V.bl b=.bl d/\q c d)=q a b:=propext ⟨λ⟨_,_,e,e',h⟩=>by cases e;cases e';exact h,λh=>⟨a,b,rfl,rfl,h⟩⟩
def Kb{a:Addr}{q:Addr->Prop}:(∃b,V.ref a=.ref b/\q b)=q a:=propext ⟨λ⟨_,e,h⟩=>by cases e;exact h,λh=>⟨a,rfl,h⟩⟩
def Hb{α:Type}{a:Addr}{q:Addr->α->Prop}:(∃b y,V.ref a=.ref b/\q b y)=∃y,q a y:=propext ⟨λ⟨_,y,e,h⟩=>by cases e;exact⟨y,h⟩,λ⟨y,h⟩=>⟨a,y,rfl,h⟩⟩
def Hh{i:Int}{q:Int->Prop}:(∃j,[V.int i]=[.int j]/\q j)=q i:=propext ⟨λ⟨_,e,h⟩=>by cases e;exact h,λh=>⟨i,rfl,h⟩⟩
def Hf{i:Str}{q:Str->Prop}:(∃j,[V.str i]=[.str j]/\q j)=q i:=propext ⟨λ⟨_,e,h⟩=>by cases e;exact h,λh=>⟨i,rfl,h⟩⟩
def Hg{α:Type}{i:Addr}{q:Addr->α->Prop}:(∃j y,[V.ref i]=[.ref j]/\q j y)=∃y,q i y:=propext ⟨λ⟨_,y,e,h⟩=>by cases e;exact⟨y,h⟩,λ⟨y,h⟩=>⟨i,y,rfl,h⟩⟩
def Hd{α β:Type}{i:Addr}{q:Addr->α->β->Prop}:(∃j y z,[V.ref i]=[.ref j]/\q j y z)=∃y z,q i y z:=propext ⟨λ⟨_,y,z,e,h⟩=>by cases e;exact⟨y,z,h⟩,λ⟨y,z,h⟩=>⟨i,y,z,rfl,h⟩⟩
def He{i j:Int}{q:Int->Int->Prop}:(∃a b,[V.int i,V.int j]=[.int a,.int b]/\q a b)=q i j:=propext ⟨λ⟨_,_,e,h⟩=>by cases e;exact h,λh=>⟨i,j,rfl,h⟩⟩
def HX{b:Bool}{q:Int->Prop}{r:Bool->Prop}:((∃i,[V.bl b]=[.int i]/\q i)\/∃k,[V.bl b]=[.bl k]/\r k)=r b:=
 propext ⟨λh=>by rcases h with ⟨_,e,_⟩ | ⟨_,e,h⟩<;>cases e;exact h,λh=>.inr ⟨b,rfl,h⟩⟩
def K5{z:Str}{i:Int}:Kr (.str z) (.int i) H Q=(z.length<=sizeLine/\∃c,tS z.cps.toList i=some c/\Q (.str ⟨#[c]⟩) H):=
 propext ⟨λ⟨_,_,c,e,e',h1,h2,h3⟩=>by cases e;cases e';exact⟨h1,c,h2,h3⟩,λ⟨h1,c,h2,h3⟩=>⟨z,i,c,rfl,rfl,h1,h2,h3⟩⟩
def K6{K:WG}{p:Addr}{i:Int}:IX K (.ref p) (.int i) H Q=∃xs v,cW K H p xs/\tS xs i=some v/\Q v H:=
 propext ⟨λ⟨_,xs,_,v,e,e',h⟩=>by cases e;cases e';exact⟨xs,v,h⟩,λ⟨xs,v,h⟩=>⟨p,xs,i,v,rfl,rfl,h⟩⟩
def K4{K:WG}{p:Addr}{i:Int}:Ek K (.ref p) (.int i) H Q=∃xs v,c8 K H p xs/\tS xs i=some v/\Q v H:=
 propext ⟨λ⟨_,xs,_,v,e,e',h⟩=>by cases e;cases e';exact⟨xs,v,h⟩,λ⟨xs,v,h⟩=>⟨p,xs,i,v,rfl,rfl,h⟩⟩
def Kh{l:Addr}{y:V}:vR (.ref l) [y] H Q=∃xs,H l=some (.lst xs)/\xs.length<sizeLine/\Q .non (bE H l (.lst (xs++[y]))):=
 propext ⟨λ⟨_,xs,_,e,e',h⟩=>by cases e;cases e';exact⟨xs,h⟩,λ⟨xs,h⟩=>⟨l,xs,y,rfl,rfl,h⟩⟩
def K1{l:Addr}:Ko (.ref l) [] H Q=∃xs y,H l=some (.lst xs)/\xs[xs.length - 1]? = some y/\Q y (bE H l (.lst xs.dropLast)):=
 propext ⟨λ⟨_,xs,y,e,_,h⟩=>by cases e;exact⟨xs,y,h⟩,λ⟨xs,y,h⟩=>⟨l,xs,y,rfl,rfl,h⟩⟩
def rZ{α:Type}{f:α->V}{l:List α}{k:Nat}{y:V}(h:(l.map f)[k]? = some y):∃x,l[k]? = some x/\y=f x:=by
 rw[bW] at h;cases e:l[k]? with
 | none=>rw[e] at h;cases h
 | some x=>rw[e] at h;exact⟨x,rfl,(bZ h).symm⟩
def fP {K:WG} {l:Addr} {xs:List V} (h:H l=some (.lst xs)):Hs K "list" (.ref l) H:=.inl ⟨rfl,xs,cW.of h⟩
def Bj{t:TE}{q:Bool->Hp->Prop}:wB t σ H q=t σ H λx H'=>∃k,x=.bl k/\q k H':=rfl
def KU{t:TE}{q:Bool->Hp->Prop}:tB t σ H q=t σ H λx H'=>∃k,x=.bl k/\q k H':=rfl
def w_and{t u:TT}{q:Bool->Hp->Prop}:IL t u σ H q=t σ H λc H1=>if c=true then u σ H1 q else q false H1:=rfl
def w_or{t u:TT}{q:Bool->Hp->Prop}:Lk t u σ H q=t σ H λc H1=>if c=true then q true H1 else u σ H1 q:=rfl
def w_not{t:TT}{q:Bool->Hp->Prop}:IC t σ H q=t σ H λc H1=>q (!c) H1:=rfl
def CJ{ta tb:TE}:CZ ta tb σ H Q=ta σ H λx H1=>∃c,x=.bl c/\if c=true then tb σ H1 Q else Q (.bl false) H1:=rfl
def Gc{ta tb:TE}:Lj ta tb σ H Q=ta σ H λx H1=>∃c,x=.bl c/\if c=true then Q (.bl true) H1 else tb σ H1 Q:=rfl
def Bq{ta:TE}:CP ta σ H Q=ta σ H λx H1=>∃c,x=.bl c/\Q (.bl (!c)) H1:=rfl
def K7{t:TT}{ta tb:TE}:Ll t ta tb σ H Q=t σ H λc H1=>if c=true then ta σ H1 Q else tb σ H1 Q:=rfl
def Ga{t u:TS}:Hz t u D σ H=t { nx:=u D,rt:=D.rt,bk:=D.bk,ct:=D.ct } σ H:=rfl
def w_next:CQ D σ H=D.nx σ H:=rfl
def Gj:II D σ H=D.bk σ H:=rfl
def CH:Kl D σ H=D.ct σ H:=rfl
def CD{te:TE}:CU te D σ H=te σ H λ_ H1=>D.nx σ H1:=rfl
def Gb{te:TE}:IB te D σ H=te σ H D.rt:=rfl
def Bm:Kj D σ H=D.rt .non H:=rfl
def Gg{c:TT}{t u:TS}:ID c t u D σ H=c σ H λb H1=>if b=true then t D σ H1 else u D σ H1:=rfl
def Gn{te:TE}{g:TG}:wC te g D σ H=te σ H λx H1=>g x σ H1 D.nx:=rfl
def zM{i:Nat}{v:V}{q:St->Hp->Prop}:mR i v σ H q=q (σ.set i (some v)) H:=rfl
def Bl{v:V}{x:Option V}:List.set (x::σ) 0 (some v)=some v::σ:=rfl
def Bk{i:Nat}{v:V}{x:Option V}:List.set (x::σ) (i+1) (some v)=x::List.set σ i (some v):=rfl
def Gd{q:List V->Hp->Prop}:Ef σ H q=q [] H:=rfl
def CI{ta:TE}{tr:TA}{q:List V->Hp->Prop}:fL ta tr σ H q=ta σ H λx H1=>tr σ H1 λxs H2=>q (x::xs) H2:=rfl
def Kf{r:List V->Hp->VK->Prop}{t:TA}:Km r t σ H Q=t σ H λvs H1=>r vs H1 Q:=rfl
def G9{t:TA}:Ed t σ H Q=t σ H λxs H1=>xs.length<=sizeLine/\∀p,H1 p=none->Q (.ref p) (bE H1 p (.tup xs)):=rfl
def Gf{t:TA}:CS t σ H Q=t σ H λxs H1=>xs.length<=sizeLine/\∀p,H1 p=none->Q (.ref p) (bE H1 p (.lst xs)):=rfl
def w_call{sp:Sp}{dvs:List V}{E:XK}{t:TA}:oQ sp dvs E t σ H Q=t σ H λvs H1=>sp (vs++dvs) H1 Q E:=rfl
def Kg{K:WG}{T:String}{r:V->List V->Hp->VK->Prop}{to:TE}{t:TA}:Ln K T r to t σ H Q=to σ H λx H1=>Hs K T x H1/\t σ H1 λxs H2=>r x xs H2 Q:=rfl
def Gk{K:WG}{T:String}{r:V->List V->Hp->VK->Prop}{to:TE}:IJ K T r to σ H Q=to σ H λx H1=>Hs K T x H1/\r x [] H1 Q:=rfl
def qJ(J:It)(g:TG)(tb:TS)(D:Ends)(σ:St)(H1:Hp):Prop:=∃W:Nat->Nat->St->Hp->Prop,(∃m,W 0 m σ H1)/\∀i m σ H,W i m σ H →
 (J.stop i H/\D.nx σ H)\/(J.go i H/\∃N:St->Hp->Prop,(∀σ' H',N σ' H'->∃m',m'<m/\W (i+1) m' σ' H')/\∀x H',J.yld i H x H'->g x σ H' λσ2 H2=>tb { D with nx:=N,ct:=N,bk:=D.nx } σ2 H2)
def CC{ta:TA}{g:TG}{tb:TS}:rK (AE ta) g tb D σ H=ta σ H λvs H1=>∃j:Int,vs=[.int j]/\-(2 ^ 62)<=j/\j<2 ^ 62/\qJ (B6 0 j.toNat) g tb D σ H1:=rfl
def CB{ta:TA}{g:TG}{tb:TS}:rK (HJ ta) g tb D σ H=ta σ H λvs H1=>∃i j:Int,vs=[.int i,.int j]/\(-(2 ^ 62)<=i/\i<2 ^ 62/\-(2 ^ 62)<=j/\j<2 ^ 62)/\qJ (B6 i (j-i).toNat) g tb D σ H1:=rfl
def Bz{K:WG}{tl:TE}{g:TG}{tb:TS}:rK (AF K tl) g tb D σ H=tl σ H λx H1=>∃a,x=.ref a/\(∃xs,cW K H1 a xs)/\qJ (GW K a) g tb D σ H1:=rfl
def Bx{K:WG}{tl:TE}{g:TG}{tb:TS}:rK (Fv K tl) g tb D σ H=tl σ H λx H1=>∃a,x=.ref a/\(∃xs,c8 K H1 a xs)/\qJ (KN K a) g tb D σ H1:=rfl
def Bu{K:WG}{n:Nat}{t:Ba}{v:V}{q:St->Hp->Prop}:Je K n t v σ H q=∃a xs,v=.ref a/\c8 K H a xs/\xs.length=n/\t xs σ H q:=rfl
def HZ{q:St->Hp->Prop}:Jg [] σ H q=q σ H:=propext ⟨λh=>h.2,λh=>⟨rfl,h⟩⟩
def E7{t:TG}{u:Ba}{v:V}{r:List V}{q:St->Hp->Prop}:Du t u (v::r) σ H q=t v σ H λσ' H'=>u r σ' H' q:=propext ⟨λ⟨_,_,e,h⟩=>by cases e;exact h,λh=>⟨v,r,rfl,h⟩⟩
def vy{r r' r2:R2}{ta tb tc td:TE}:rS r r' r2 ta tb tc td σ H Q=ta σ H λx H1=>tb σ H1 λy H2=>r x y H2 λz H3=>∃k,z=.bl k ∧
 (if k=true then tc σ H3 λw' H4=>r' y w' H4 λz2 H5=>∃k2,z2=.bl k2/\(if k2=true then td σ H5 λe H6=>r2 w' e H6 Q else Q (.bl false) H5) else Q (.bl false) H3):=rfl
def zW{r r':R2}{ta tb tc:TE}:IH r r' ta tb tc σ H Q=ta σ H λx H1=>tb σ H1 λy H2=>r x y H2 λz H3=>∃k,z=.bl k ∧
 (if k=true then tc σ H3 λw' H4=>r' y w' H4 Q else Q (.bl false) H3):=rfl
end
def qM{P:List Value->Prop}(h:∀a:Value,P [a]):∀us:List Value,us.length=1->P us
 | [a],_=>h a
def L6{P:List Value->Prop}{n:Nat}(h:∀(a:Value) (r:List Value),r.length=n->P (a::r)):∀us:List Value,us.length=n+1->P us
 | a::r,e=>h a r (Nat.succ.inj e)
def zY{P:List Value->Prop}(h:∀a b:Value,P [a,b]):∀us:List Value,us.length=2->P us:=L6 λa=>qM λb=>h a b
def Ki{P:List Value->Prop}(h:∀a b c:Value,P [a,b,c]):∀us:List Value,us.length=3->P us:=L6 λa=>zY λb c=>h a b c
def MR{P:List Value->Prop}(h:∀a b c d:Value,P [a,b,c,d]):∀us:List Value,us.length=4->P us:=L6 λa=>Ki λb c d=>h a b c d
def M2{P:List Value->Prop}(h:∀a b c d e:Value,P [a,b,c,d,e]):∀us:List Value,us.length=5->P us:=L6 λa=>MR λb c d e=>h a b c d e
end L2
namespace Rm
def dl(b:Bool):Int:=if b then 1 else -1
def D(bs:List Bool)(i:Nat):Int:=((bs.take i).map dl).sum
def KA(bs:List Bool):D bs 0=0:=by simp[D]
def nY{bs:List Bool}{i:Nat}{b:Bool}(h:bs[i]? = some b):D bs (i+1)=D bs i+dl b:=by
 obtain⟨hi,e⟩:=aH.mp h;unfold D;rw[bV,h];simp
structure rh (bs:List Bool):Prop where
 nn:∀ i,i<=bs.length->0<=D bs i
 z:D bs bs.length=0
structure nT (bs:List Bool) (k m:Nat):Prop where
 lt:k<m
 ml:m<bs.length
 op:bs[k]? = some true
 cl:bs[m]? = some false
 eq:D bs (m+1)=D bs k
 gt:∀ i,k<i->i<=m->D bs k<D bs i
def nT.uniq{bs:List Bool}{k m m':Nat}(a:nT bs k m)(b:nT bs k m'):m=m':=by
 have h1:¬m<m':=λh=>by have:=b.gt (m+1) (by have:=a.lt;lia) h;rw[a.eq] at this;lia
 have h2:¬m'<m:=λh=>by have:=a.gt (m'+1) (by have:=b.lt;lia) h;rw[b.eq] at this;lia
 lia
def nT.uniqL{bs:List Bool}{k k' m:Nat}(a:nT bs k m)(b:nT bs k' m):k=k':=by
 have h1:¬k<k':=λh=>by
  have:=a.gt k' h (by have:=b.lt;lia);have e:=a.eq;have e':=b.eq;rw[e] at e';lia
 have h2:¬k'<k:=λh=>by
  have:=b.gt k h (by have:=a.lt;lia);have e:=a.eq;have e':=b.eq;rw[e] at e';lia
 lia
structure Walk (bs:List Bool) (k j:Nat) (deep:Int):Prop where
 op:bs[k]? = some true
 kj:k<=j
 jl:j<=bs.length
 d:deep=D bs j - D bs k
 gt:∀ i,k<i->i<j->D bs k<D bs i
def Walk.start{bs:List Bool}{k:Nat}(h:bs[k]? = some true):Walk bs k k 0:=
 ⟨h,aJ _,by have:=(aH.mp h).1;lia,by lia,λi h1 h2=>by lia⟩
def Walk.inside{bs:List Bool}{k j:Nat}{deep:Int}(b:rh bs)(w:Walk bs k j deep)(h:0<deep\/j=k):j<bs.length:=by
 have hk:=(aH.mp w.op).1;rcases h with h | h
 ·have e:=w.d;have h0:=b.nn k (by lia);have hj:=w.jl;by_cases q:j<bs.length
  ·exact q
  ·have:j=bs.length:=by lia
   rw[this,b.z] at e;lia
 ·lia
def Walk.step{bs:List Bool}{k j:Nat}{deep:Int}{c:Bool}(w:Walk bs k j deep)(h:0<deep\/j=k)(hc:bs[j]? = some c):Walk bs k (j+1) (deep+dl c):=by
 have hj:=(aH.mp hc).1;refine⟨w.op,by have:=w.kj;lia,hj,?_,λi h1 h2=>?_⟩
 ·rw[nY hc,w.d];lia
 ·by_cases e:i<j
  ·exact w.gt i h1 e
  ·have:i=j:=by lia
   subst this;rcases h with h | h
   ·have:=w.d;lia
   ·lia
def Walk.mate{bs:List Bool}{k j:Nat}{deep:Int}(w:Walk bs k j deep)(h:¬(0<deep\/j=k)):∃m,j=m+1/\nT bs k m:=by
 have hk:=(aH.mp w.op).1;have h1:=w.kj;have hne:j≠k:=λe=>h (.inr e);obtain⟨m,rfl⟩:∃m,j=m+1:=⟨j - 1,by lia⟩
 have hjl:=w.jl;have hm:m<bs.length:=by lia
 have hd:deep<=0:=by
  by_cases q:0<deep
  ·exact absurd (.inl q) h
  ·lia
 have e:=w.d;have hkm:k<m:=by
  rcases Nat.lt_or_ge k m with q | q
  ·exact q
  ·have:k=m:=by lia
   subst this;rw[nY w.op] at e;simp only[dl,WE] at e;lia
 have hg:=w.gt m hkm (by lia);obtain⟨c,hc⟩:∃c,bs[m]? = some c:=⟨bs[m],aS hm⟩
 have hs:=nY hc;cases c with
 | true=>simp only[dl,WE] at hs;lia
 | false=>
  simp only[dl,cT,WF] at hs;refine⟨m,rfl,hkm,hm,w.op,hc,by lia,λi a b=>?_⟩;by_cases q:i=m
  ·subst q;exact hg
  ·exact w.gt i a (by lia)
structure jQ (bs:List Bool) (k:Nat) (ms:List (Nat×Nat)):Prop where
 mate:∀ p∈ms,nT bs p.1 p.2/\p.1<k
 all:∀ i,i<k->bs[i]? = some true->∃ m,(i,m)∈ms
 inc:ms.Pairwise (fun p q=>p.1<q.1)
 len:ms.length<=k
def jQ.nil(bs:List Bool):jQ bs 0 []:=⟨(λ_ h=>nomatch h),λi h=>by lia,.nil,aJ _⟩
def jQ.skip{bs:List Bool}{k:Nat}{ms:List (Nat×Nat)}(a:jQ bs k ms)(h:bs[k]?≠some true):jQ bs (k+1) ms:=
 ⟨λp hp=>⟨(a.mate p hp).1,by have:=(a.mate p hp).2;lia⟩,λi hi ho=>by
  by_cases e:i=k
  ·subst e;exact absurd ho h
  ·exact a.all i (by lia) ho,a.inc,Nat.le_succ_of_le a.len⟩
def jQ.snoc{bs:List Bool}{k m:Nat}{ms:List (Nat×Nat)}(a:jQ bs k ms)(h:nT bs k m):jQ bs (k+1) (ms++[(k,m)]):=by
 refine⟨λp hp=>?_,λi hi ho=>?_,?_,by rw[aU];exact Nat.succ_le_succ a.len⟩
 ·rcases a9.mp hp with hp | hp
  ·exact⟨(a.mate p hp).1,by have:=(a.mate p hp).2;lia⟩
  ·have:p=(k,m):=by simpa using hp
   subst this;exact⟨h,gj k⟩
 ·by_cases e:i=k
  ·subst e;exact⟨m,by simp⟩
  ·obtain⟨m',hm⟩:=a.all i (by lia) ho;exact⟨m',bH _ hm⟩
 ·refine dq.mpr ⟨a.inc,by simp,λp hp q hq=>?_⟩;have:q=(k,m):=by simpa using hq
  subst this;exact(a.mate p hp).2
end Rm
namespace L2
open PySem PySem.Spec PyProof.Rows
def vp.okS{P:Program}{w:World}{K:WG}{mg:Str->Option Value}{base:Heap}{x qual:Str}{st:Stmt}{f:Addr}{fd:FuncData}{N ps:List Str}{k:Nat}{sp:Sp}(F:vp K x qual st f fd)(S:bN N ps (ao st))(len:∀vs H Q E,sp vs H Q E->vs.length=ps.length)
  (hbody:∀(cdv:Value) (A:Around) (outer:List Env) (s:Shared) (H:Hp) (vs:List V) (Q:VK) (E:XK),gE k (A.deeper (envOfC qual (ao st) s.heap.objs.size f cdv))->sp vs H Q E →
   ∃(σ:St) (t:TS),start N vs=σ/\ut (jU xk P w K mg base N qual (ao st) f cdv A outer s H E).nox (gf st) t/\t { nx:=λ_ H'=>Q .non H',rt:=Q } σ H):nX P w K mg base xk (k+1) f fd ps sp:=
 F.ok S len λcdv A outer s H vs Q E hr h=>by
  obtain⟨σ,t,e,h1,h2⟩:=hbody cdv A outer s H vs Q E hr h;exact⟨t,h1,by rw[e];exact h2⟩
def ij{A:Around}{k:Nat}(hr:gE k A):A.units+64<cLine:=hr.units
end L2
namespace Rm
open PySem L2
def AN(b:Bool):Nat:=if b then 40 else 41
def wd(bs:List Bool):Str:=⟨(bs.map AN).toArray⟩
def dM(bs:List Bool):(wd bs).length=bs.length:=by simp[wd,Str.length]
def sH:(Str.ofString "(")=⟨#[40]⟩:=by decide +kernel
def uE:(Str.ofString ")")=⟨#[41]⟩:=by decide +kernel
def uz:(Str.ofString "")=⟨#[]⟩:=by decide +kernel
def KQ{bs:List Bool}{i:Nat}{b:Bool}(h:bs[i]? = some b):(wd bs).cps.toList[i]? = some (AN b):=by
 simp[wd,h]
def uN (b:Bool):((⟨#[AN b]⟩:Str)=Str.ofString "(")=(b=true):=by
 rw[sH];cases b<;>simp[AN]
def scan:List Nat->Int->Bool
 | [],w=>decide (w=0)
 | c::r,w=>if c=40 then scan r (w+1) else if c=41 then (if w - 1<0 then false else scan r (w - 1)) else false
def HG(z:Str):Bool:=decide (z.length<=40)&&scan z.cps.toList 0
def wR:∀(bs pre:List Bool) (w:Int),w=D (pre++bs) pre.length->rh (pre++bs)->scan (bs.map AN) w=true
 | [],pre,w,hw,b=>by
  have:=b.z;rw[cY] at this hw;show decide (w=0)=true;exact WC (by rw[hw,this])
 | x::bs,pre,w,hw,b=>by
  have hs:D (pre++x::bs) (pre.length+1)=D (pre++x::bs) pre.length+dl x:=nY (by simp);have hn:=b.nn (pre.length+1) (by simp);have ih:=λw' (h:w'=w+dl x)=>wR bs (pre++[x]) w' (by rw[h,hw];simpa using hs.symm) (by simpa using b);cases x with
  | true=>
   show (if (40:Nat)=40 then scan (bs.map AN) (w+1) else _)=true;rw[Vz rfl];exact ih _ (by simp[dl])
  | false=>
   show (if (41:Nat)=40 then _ else if (41:Nat)=41 then (if w - 1<0 then false else scan (bs.map AN) (w - 1)) else false)=true;rw[Vy (by decide),Vz rfl,Vy (by simp only[dl,cT,WF] at hs;lia)];exact ih _ (by simp[dl];lia)
def rz(bs:List Bool):(wd bs).cps.toList=bs.map AN:=by simp[wd]
def pE(bs:List Bool):(wd bs).cps.all (·<128)=true:=by
 rw[<-Array.all_toList,rz,cC];intro c hc;obtain⟨b,_,rfl⟩:=bM.mp hc;cases b<;>decide
def E3(bs:List Bool):(wd bs).cps.size=bs.length:=by simp[wd]
def Do{bs:List Bool}(b:rh bs)(h:bs.length<=40):HG (wd bs)=true:=by
 unfold HG;rw[dM,WC h,rz,wR bs [] 0 (by simp[D]) b];rfl
def HS{bs:List Bool}{i c:Nat}(h:(wd bs).cps[i]? = some c):∃b,bs[i]? = some b/\c=AN b:=by
 have h1:(wd bs).cps.toList[i]? = some c:=by simpa using h
 rw[rz,bW] at h1;cases e:bs[i]? with
 | none=>rw[e] at h1;cases h1
 | some b=>rw[e] at h1;exact⟨b,rfl,(bZ h1).symm⟩
def BZ (c:Nat):((⟨#[c]⟩:Str)=Str.ofString "(")=(c=40):=by rw[sH];simp
def zA (c:Nat):((⟨#[c]⟩:Str)=Str.ofString ")")=(c=41):=by rw[uE];simp
abbrev Bw:=Int×Int
def bi(H:Hp)(a:Addr)(p:Bw):Prop:=H a=some (.tup [.int p.1,.int p.2])
def c7(H:Hp)(l:Addr)(ps:List Bw):Prop:=∃as:List Addr,H l=some (.lst (as.map V.ref))/\Paired (bi H) as ps
def bi.same{H H':Hp}(s:aV H H'){a:Addr}{p:Bw}(h:bi H a p):bi H' a p:=s _ _ h
def c7.same{H H':Hp}(s:aV H H'){l:Addr}{ps:List Bw}(h:c7 H l ps):c7 H' l ps:=
 let ⟨as,h1,h2⟩:=h
 ⟨as,s _ _ h1,fK h2 λ_ _ z=>z.same s⟩
def B4{H:Hp}{l t:Addr}{as:List Addr}{ps:List Bw}{x y:Int}(h1:H l=some (.lst (as.map V.ref)))(h2:Paired (bi H) as ps)(ht:H t=none):
  c7 (bE (bE H t (.tup [.int x,.int y])) l (.lst (as.map V.ref++[V.ref t]))) l (ps++[(x,y)]):=by
 have ntl:t≠l:=λe=>by subst e;rw[h1] at ht;cases ht
 refine⟨as++[t],by rw[aC,ar];rfl,gN (fK h2 λa p z=>?_) ?_⟩
 ·have z':H a=some (.tup [.int p.1,.int p.2]):=z;have n1:a≠l:=zt z' h1 (by intro q;cases q);have n2:a≠t:=av z' ht;show bE _ _ _ a=_;rw[aI n1,aI n2];exact z'
 ·show bE _ _ _ t=_;rw[aI ntl,aC]
def hZ{H:Hp}{l f:Addr}{ps:List Bw}{xs ys:List V}(h:c7 H f ps)(hl:H l=some (.lst xs))(ne:f≠l):c7 (bE H l (.lst ys)) f ps:=by
 obtain⟨as,h1,h2⟩:=h;refine⟨as,by rw[aI ne];exact h1,fK h2 λa p z=>?_⟩;have z':H a=some (.tup [.int p.1,.int p.2]):=z;show bE _ _ _ a=_;rw[aI (zt z' hl (by intro q;cases q))];exact z'
def qm{H:Hp}{l hd:Addr}{as:List Addr}{ps:List Bw}(h2:Paired (bi H) as ps)(hn:H hd=none):c7 (bE H hd (.lst (as.map V.ref))) hd ps:=
 ⟨as,aC,fK h2 λa p z=>by
  have z':H a=some (.tup [.int p.1,.int p.2]):=z;show bE _ _ _ a=_;rw[aI (av z' hn)];exact z'⟩
def c7.get{H:Hp}{l:Addr}{ps:List Bw}(h:c7 H l ps):∃as:List Addr,H l=some (.lst (as.map V.ref))/\as.length=ps.length/\∀(i:Nat) x,(as.map V.ref)[i]? = some x->∃a p,x=.ref a/\ps[i]? = some p/\bi H a p:=by
 obtain⟨as,h1,h2⟩:=h;refine⟨as,h1,ba h2,λi x hx=>?_⟩;rw[bW] at hx;cases e:as[i]? with
 | none=>rw[e] at hx;cases hx
 | some a=>
  rw[e] at hx;obtain⟨p,hp,ht⟩:=iy h2 e;exact⟨a,p,(bZ hx).symm,hp,ht⟩
def jB(p:Bw):PyData:=.tuple [.int p.1,.int p.2]
def mT(ps:List Bw):PyData:=.list (ps.map jB)
def GK{K:WG}{H:Hp}{a:Addr}{p:Bw}(h:bi H a p):Rep K H (.ref a) (jB p):=.tup (c8.of h) (.cons (.int _) (.cons (.int _) .nil))
def uk{K:WG}{H:Hp}:∀{as:List Addr} {ps:List Bw},Paired (bi H) as ps->pD K H (as.map V.ref) (ps.map jB)
 | _,_,.nil=>.nil
 | _,_,.cons r t=>.cons (GK r) (uk t)
def EN{K:WG}{H:Hp}{l:Addr}{ps:List Bw}(h:c7 H l ps):Rep K H (.ref l) (mT ps):=by
 obtain⟨as,h1,h2⟩:=h;exact .lst (cW.of h1) (uk h2)
def GL(p:Bw):(jB p).canLay0=true:=rfl
def rG:∀ps:List Bw,PyData.canLayAll0 (ps.map jB)=true
 | []=>rfl
 | p::ps=>by
  show (PyData.canLay0 (jB p)&&PyData.canLayAll0 (ps.map jB))=true;rw[GL,rG ps];rfl
def EO(ps:List Bw):(mT ps).canLay0=true:=rG ps
def GM(p q:Bw):PyData.eqv (jB p) (jB q)=decide (p=q):=by
 obtain⟨a,b⟩:=p;obtain⟨c,d⟩:=q;simp only[jB,PyData.eqv,PyData.eqvAll,Prod.mk.injEq,Bool.and_true];by_cases h1:a=c<;>by_cases h2:b=d<;>simp[h1,h2]
def rH:∀ps qs:List Bw,PyData.eqvAll (ps.map jB) (qs.map jB)=decide (ps=qs)
 | [],[]=>rfl
 | [],_::_=>by simp[PyData.eqvAll]
 | _::_,[]=>by simp[PyData.eqvAll]
 | p::ps,q::qs=>by
  show (PyData.eqv (jB p) (jB q)&&PyData.eqvAll (ps.map jB) (qs.map jB))=_;rw[GM,rH ps qs];by_cases h1:p=q<;>by_cases h2:ps=qs<;>simp[h1,h2]
def EQ(ps qs:List Bw):PyData.eqv (mT ps) (mT qs)=decide (ps=qs):=rH ps qs
def bO(p q:Bw):Bool:=decide (p.1<q.1)&&(decide (q.1<p.2)&&decide (p.2<q.2))
def jT(ws:List Nat):List V:=ws.map λ(n:Nat)=>V.int (n:Int)
def Dd(ws:List Nat):(jT ws).length=ws.length:=by simp[jT]
def qX(ws:List Nat)(k:Nat):jT (ws++[k])=jT ws++[.int k]:=by simp[jT]
def BD(ws:List Nat)(k:Nat):(jT (ws++[k])).dropLast=jT ws:=by rw[qX];simp
def BC(ws:List Nat)(k:Nat):(jT (ws++[k]))[(jT (ws++[k])).length - 1]? = some (.int k):=by rw[qX];simp
def wx(ms:List (Nat×Nat)):List Bw:=ms.map λp=>((p.1:Int),(p.2:Int))
def o7:Sp:=λvs H Q _=>∃l ps,vs=[.ref l]/\c7 H l ps/\((∀p∈ps,∀q∈ps,bO p q=false)->Q .non H) ∧
 ∀p∈ps,∀q∈ps,bO p q=true->∀t a b H',H t=none->aV H H'->H' t=some (.tup [.ref a,.ref b])->bi H' a p->bi H' b q->Q (.ref t) H'
def pI (K:WG):Sp:=λvs H Q _=>∃x:V,vs=[x]/\((∃z:Str,x=.str z/\z.cps.all (·<128)=true/\z.length<=1000/\Q (.bl (HG z)) H)\/(∃t:Value,oP K H x t/\PySem.W.kitOne K t (.type "str")=some false/\Q (.bl false) H))
def rT (K:WG):Sp:=λvs H Q _=>∃(x:V) (t:Value) (b c:Bool),vs=[x]/\oP K H x t/\PySem.W.kitOne K t (.type "int")=some b/\PySem.W.kitOne K t (.type "bool")=some c/\Q (.bl (b&&!c)) H
def wI(K:WG):Sp:=λvs H Q _=>∃(a:Addr) (ns:List Int),vs=[.ref a]/\cW K H a (ns.map V.int)/\ns.length<=63/\∀H',Q (.bl true) H'
end Rm
namespace L2
open PySem PySem.Spec PyProof.Rows
def pd:∀{ns:List Int} {us:List Value},cE (ns.map V.int) us->IntsAre us ns
 | [],_,.nil=>.nil
 | n::ns,_,.cons ⟨t,e⟩ r=>by subst e;exact .cons n t (pd r)
def sA:∀{bs:List Bool} {us:List Value},cE (bs.map V.bl) us->LSm.BoolsAre us bs
 | [],_,.nil=>.nil
 | b::bs,_,.cons r t=>by
  have e:_=Value.bool b:=r;subst e;exact .cons b (sA t)
def uB:∀{ts:List Str} {us:List Value},cE (ts.map V.str) us->∃l:List (Str×Tok),us=strValues l/\l.map (·.1)=ts
 | [],_,.nil=>⟨[],rfl,rfl⟩
 | t::ts,_,.cons ⟨k,e⟩ r=>by
  subst e;obtain⟨l,e1,e2⟩:=uB r;exact⟨(t,k)::l,by rw[e1];rfl,by rw[bC,e2]⟩
section
variable {X:Cx}
def IV(K:WG):List V->Hp->VK->Prop:=λxs H Q=>∃(p:Addr) (ns:List Int),xs=[.ref p]/\cW K H p (ns.map V.int)/\ns.length<64 ∧
 ∀(l:Addr) (ms:List Int),H l=none->ms.Perm ns->ms.Pairwise (·<=·)->Q (.ref l) (bE H l (.lst (ms.map V.int)))
def lO:gT X (.builtin "sorted") (IV X.K):=by
 intro pins s σ H xs us Q I r h;obtain⟨p,ns,rfl,hq,hl,q⟩:=h;obtain⟨u,rfl,rx⟩:=Ve r;cases rx;obtain⟨its,rv,pl,hz⟩:=I.list hq;have hi:=pd rv;have hlen:its.length=ns.length:=by have:=rv.length;simpa using this.symm
 refine sorted_ints pl.isList hi (by lia) λout ms hm hp hs=>?_;obtain⟨c,hc⟩:=sortedAll_at s.heap its out;have hml:ms.length=ns.length:=hp.length_eq;exact⟨.ref (s.heap.objs.size+1),bE H (s.heap.objs.size+1) (.lst (ms.map V.int)),I.laid (t':=s.toks) (λb o e=>sortedAll_old e) (fG _)
  (show dB X.prog X.w _ _ _ (.lst _) from ⟨by rw[aD,hml];exact ah (aq (by lia)),out.toList,c,nh hm,by simpa using hc⟩),rfl,q _ ms (I.hok.fresh (fG _)) hp hs⟩
def Ls(K:WG)(f:List Bool->Bool):List V->Hp->VK->Prop:=λxs H Q=>∃(p:Addr) (bs:List Bool),xs=[.ref p]/\cW K H p (bs.map V.bl)/\Q (.bl (f bs)) H
def yj{s:Shared}{h':Heap}{o:Obj}(hk:∀b x,b∉[s.heap.objs.size]->(s.heap.push o).get? b=some x->h'.get? b=some x):∀b x,s.heap.get? b=some x->h'.get? b=some x:=
 λb x e=>hk b x (λhm=>by rw[bc.mp hm] at e;exact dk _ (aR e)) (aB _ e)
def rF (hc:X.calm=true):gT X (.builtin "all") (Ls X.K λbs=>bs.all id):=by
 intro pins s σ H xs us Q I r h;obtain⟨p,bs,rfl,hq,q⟩:=h;obtain⟨u,rfl,rx⟩:=Ve r;cases rx;obtain⟨its,rv,pl,hz⟩:=I.list hq;have hb:=sA rv;have hl:=pl.isList;have hlt:p<s.heap.objs.size:=by obtain⟨_,e,_⟩:=hl;exact aR e
 refine call_all_walk (Vb hl ?_);refine⟨s.heap.objs.size,[s.heap.objs.size,p],[s.heap.objs.size],its.toArray.size,_,_,λi=>(bs[i]?).getD true,rfl,Walks.list (A:=X.A.in1) (I.ok.hd hc) _ p (am hlt) its.toArray,
  ⟨⟨_,aN _ rfl,rfl,rfl⟩,hl.push _⟩,λi v s' Q' E' hP hQ=>?_,λh' tk hk=>?_⟩
 ·obtain⟨b,e,rfl⟩:=hb.get i v (by simpa using hP);simp only[e,lQ] at hQ;exact V4 hQ
 ·have e1:its.toArray.size=bs.length:=by have:=rv.length;simp at this;simp[this]
  rw[e1,LSm.range_all];exact⟨.bl _,H,I.kept (yj hk),rfl,q⟩
def rJoin(K:WG):V->List V->Hp->VK->Prop:=λx vs H Q=>∃(z:Str) (p:Addr) (ts:List Str),x=.str z/\vs=[.ref p]/\cW K H p (ts.map V.str)/\JoinOk z ts=true/\Q (.str (Txt.join z ts)) H
def zu:Lc X "str.join" (rJoin X.K):=by
 intro pins s σ H x xs v us Q I r rv h;obtain⟨z,p,ts,rfl,rfl,hq,ok,q⟩:=h;obtain⟨t,rfl⟩:=r;obtain⟨u,rfl,rx⟩:=Ve rv;cases rx;obtain⟨its,rv',pl,hz⟩:=I.list hq;obtain⟨l,rfl,e⟩:=uB rv';exact SC.join pl.isList e ok λt' k=>⟨.str _,H,I.tok k,⟨t',rfl⟩,q⟩
end
mutual
inductive Dat (H:Hp):V->PyData->Prop
 | non:Dat H .non .none
 | bl (b:Bool):Dat H (.bl b) (.bool b)
 | int (i:Int):Dat H (.int i) (.int i)
 | str (x:Str):Dat H (.str x) (.str x)
 | tup {a:Addr} {xs:List V} {ds:List PyData}:H a=some (.tup xs)->gS H xs ds->Dat H (.ref a) (.tuple ds)
 | lst {a:Addr} {xs:List V} {ds:List PyData}:H a=some (.lst xs)->gS H xs ds->Dat H (.ref a) (.list ds)
inductive gS (H:Hp):List V->List PyData->Prop
 | nil:gS H [] []
 | cons {x:V} {xs:List V} {d:PyData} {ds:List PyData}:Dat H x d->gS H xs ds->gS H (x::xs) (d::ds)
end
mutual
def Dat.rep{K:WG}{H:Hp}:∀{x:V} {d:PyData},Dat H x d->Rep K H x d
 | _,_,.non=>.non
 | _,_,.bl b=>.bl b
 | _,_,.int i=>.int i
 | _,_,.str x=>.str x
 | _,_,.tup h r=>.tup (c8.of h) (gS.rep r)
 | _,_,.lst h r=>.lst (cW.of h) (gS.rep r)
def gS.rep{K:WG}{H:Hp}:∀{xs:List V} {ds:List PyData},gS H xs ds->pD K H xs ds
 | _,_,.nil=>.nil
 | _,_,.cons h r=>.cons (Dat.rep h) (gS.rep r)
end
mutual
def Dat.same{H H':Hp}(s:aV H H'):∀{x:V} {d:PyData},Dat H x d->Dat H' x d
 | _,_,.non=>.non
 | _,_,.bl b=>.bl b
 | _,_,.int i=>.int i
 | _,_,.str x=>.str x
 | _,_,.tup h r=>.tup (s _ _ h) (gS.same s r)
 | _,_,.lst h r=>.lst (s _ _ h) (gS.same s r)
def gS.same{H H':Hp}(s:aV H H'):∀{xs:List V} {ds:List PyData},gS H xs ds->gS H' xs ds
 | _,_,.nil=>.nil
 | _,_,.cons h r=>.cons (Dat.same s h) (gS.same s r)
end
def gS.len{H:Hp}:∀{xs:List V} {ds:List PyData},gS H xs ds->xs.length=ds.length
 | _,_,.nil=>rfl
 | _,_,.cons _ r=>by simp[gS.len r]
def gS.get{H:Hp}:∀{xs:List V} {ds:List PyData} {i:Nat} {x:V},gS H xs ds->xs[i]? = some x->∃d,ds[i]? = some d/\Dat H x d
 | _,_,_,_,.nil,e=>by simp at e
 | _,_,0,_,.cons h _,e=>by simp at e;subst e;exact⟨_,rfl,h⟩
 | _,_,i+1,x,.cons _ r,e=>by
  obtain⟨d,h1,h2⟩:=gS.get (i:=i) (x:=x) r (by simpa using e);exact⟨d,by simpa using h1,h2⟩
def M4:PyData->Value
 | .none=>.type "NoneType"
 | .bool _=>.type "bool"
 | .int _=>.type "int"
 | .str _=>.type "str"
 | .list _=>.type "list"
 | .tuple _=>.type "tuple"
 | .dict _=>.type "dict"
def Dat.ty{K:WG}{H:Hp}{x:V}{d:PyData}(h:Dat H x d):oP K H x (M4 d):=by
 cases h with
 | non=>exact .non
 | bl b=>exact .bl b
 | int i=>exact .int i
 | str x=>exact .str x
 | tup h _=>exact .tup h
 | lst h _=>exact .lst h
def isI:PyData->Bool | .int _=>true | .bool _=>true | _=>false
def MT:PyData->Bool | .bool _=>true | _=>false
def J9:PyData->Bool | .tuple _=>true | _=>false
def isL:PyData->Bool | .list _=>true | _=>false
section
variable {K:WG} {H:Hp} {x:V} {d:PyData} {Q:VK}
def iz (h:Dat H x d) (q:Q (.bl (J9 d)) H):IY K [x,.ty "tuple"] H Q:=⟨x,"tuple",_,J9 d,rfl,h.ty,by cases h<;>rfl,q⟩
def xD (h:Dat H x d) (q:Q (.bl (isL d)) H):IY K [x,.ty "list"] H Q:=⟨x,"list",_,isL d,rfl,h.ty,by cases h<;>rfl,q⟩
end
def ints_rep{K:WG}{H:Hp}:∀(ns:List Int),pD K H (ns.map V.int) (ns.map PyData.int)
 | []=>.nil
 | n::ns=>.cons (.int n) (ints_rep ns)
def pc:∀ms ns:List Int,PyData.eqvAll (ms.map PyData.int) (ns.map PyData.int)=decide (ms=ns)
 | [],[]=>rfl
 | [],_::_=>by simp[PyData.eqvAll]
 | _::_,[]=>by simp[PyData.eqvAll]
 | p::ps,q::qs=>by
  show (PyData.eqv (.int p) (.int q)&&PyData.eqvAll (ps.map PyData.int) (qs.map PyData.int))=_;rw[pc ps qs];by_cases h1:p=q<;>by_cases h2:ps=qs<;>simp[PyData.eqv,h1,h2]
def fZ:∀ns:List Int,PyData.canLayAll0 (ns.map PyData.int)=true
 | []=>rfl
 | n::ns=>by
  show (PyData.canLay0 (.int n)&&PyData.canLayAll0 (ns.map PyData.int))=true;rw[fZ ns];rfl
def li:∀ns:List Int,PyData.depthAll (ns.map PyData.int)=0
 | []=>rfl
 | n::ns=>by
  show max (PyData.depth (.int n)) (PyData.depthAll (ns.map PyData.int))=0;rw[li ns];rfl
def xI{K:WG}{H:Hp}{a b:Addr}{ms ns:List Int}{Q:VK}(ha:cW K H a (ms.map V.int))(hb:cW K H b (ns.map V.int))(q:Q (.bl (decide (ms=ns))) H):yM K false (.ref a) (.ref b) H Q:=by
 refine⟨.list (ms.map PyData.int),.list (ns.map PyData.int),.lst ha (ints_rep ms),.lst hb (ints_rep ns),fZ ms,fZ ns,?_,?_⟩
 ·refine cH (Nat.min_le_left _ _) ?_;show PyData.depthAll (ms.map PyData.int)+1<=60;rw[li];decide
 ·show Q (.bl (PyData.eqvAll (ms.map PyData.int) (ns.map PyData.int))) H;rw[pc];exact q
def Dp(n:Int)(ns:List Int):((ns.map PyData.int).any λe=>PyData.eqv e (.int n))=decide (n∈ns):=by
 induction ns with
 | nil=>simp
 | cons m ns ih=>
  rw[bC,fx,ih];by_cases h1:n=m
  ·subst h1;simp[PyData.eqv]
  ·have h2:¬m=n:=λe=>h1 e.symm;by_cases h3:n∈ns<;>simp[PyData.eqv,h1,h2,h3]
def Ft{K:WG}{H:Hp}{b:Addr}{n:Int}{ns:List Int}{neg:Bool}{Q:VK}(hb:cW K H b (ns.map V.int)\/c8 K H b (ns.map V.int))(q:Q (.bl (if neg then !decide (n∈ns) else decide (n∈ns))) H):Cp K neg (.int n) (.ref b) H Q:=by
 refine⟨.int n,ns.map PyData.int,b,_,.int n,rfl,hb,ints_rep ns,rfl,fZ ns,ac _,?_⟩;rw[Dp];exact q
def kZ(env:Env):List (Str×NameKind)->List (Str×Addr)->List (Str×Addr)
 | [],acc=>acc
 | (n,k)::r,acc=>kZ env r (if (k==NameKind.free)=true then (n,(env.cells.lookup n).getD 0)::acc else acc)
def tj{scope:Scope}{env:Env}(h:∀x∈scope.names,x.2=.free->∃c,env.cells.lookup x.1=some c):closureFor scope env=pure (kZ env scope.names []):=by
 simp only[closureFor];generalize ([]:List (Str×Addr))=acc
 revert h
 generalize scope.names=l;intro h
 induction l generalizing acc with
 | nil=>rfl
 | cons x l ih=>
  obtain⟨n,k⟩:=x;have ih':=λacc=>ih acc λy hy=>h y (aM _ hy);rw[jZ];cases hk:(k==NameKind.free) with
  | false=>
   simp only[cT,WF,pure_bind];rw[show kZ env ((n,k)::l) acc=kZ env l acc by simp[kZ,hk]];exact ih' acc
  | true=>
   obtain⟨c,hc⟩:=h (n,k) a7 (by simpa using hk);have e:cellOf env n=pure c:=by unfold cellOf;rw[hc]
   simp only[WE,e,pure_bind];rw[show kZ env ((n,k)::l) acc=kZ env l ((n,c)::acc) by simp[kZ,hk,hc]];exact ih' ((n,c)::acc)
def kh{env:Env}{x:Str}{c:Addr}:∀{l:List (Str×NameKind)} {acc:List (Str×Addr)},(∀y∈l,y.2=.free->∃c,env.cells.lookup y.1=some c)->(kZ env l acc).lookup x=some c->acc.lookup x=some c\/env.cells.lookup x=some c
 | [],acc,_,h=>.inl h
 | (n,k)::l,acc,hf,h=>by
  have ih:=kh (l:=l) (acc:=if (k==NameKind.free)=true then (n,(env.cells.lookup n).getD 0)::acc else acc) (λy hy=>hf y (aM _ hy)) h;rcases ih with e | e
  ·cases hk:(k==NameKind.free) with
   | false=>rw[hk] at e;exact .inl (by simpa using e)
   | true=>
    rw[hk] at e;simp only[WE,jF] at e;cases hx:x==n with
    | false=>rw[hx] at e;exact .inl e
    | true=>
     rw[hx] at e;obtain⟨c',hc⟩:=hf (n,k) a7 (by simpa using hk);have hxn:x=n:=by simpa using hx
     subst hxn;rw[hc] at e;simp only[lQ] at e;exact .inr (hc.trans e)
  ·exact .inr e
def ug{env:Env}{x:Str}:∀{l:List (Str×NameKind)} {acc:List (Str×Addr)},(∃c,acc.lookup x=some c)->∃c,(kZ env l acc).lookup x=some c
 | [],acc,h=>h
 | (n,k)::l,acc,h=>by
  refine ug (l:=l) ?_;cases hk:(k==NameKind.free) with
  | false=>simpa using h
  | true=>
   simp only[WE,jF];cases hx:x==n with
   | false=>exact h
   | true=>exact⟨_,rfl⟩
def tL{env:Env}{x:Str}:∀{l:List (Str×NameKind)} {acc:List (Str×Addr)},(x,NameKind.free)∈l->∃c,(kZ env l acc).lookup x=some c
 | [],_,h=>nomatch h
 | (n,k)::l,acc,h=>by
  rcases aL.mp h with e | e
  ·cases e;refine ug (l:=l) ?_;simp
  ·exact tL (l:=l) e
def B9(env:Env)(p:Str×NameKind):Str×NameKind:=if (p.2==NameKind.free&&env.scope.kind==.function&&env.kindOf p.1==some .cell) then (p.1,NameKind.cell) else p
def oS(scope:Scope)(env:Env):(relabel scope env).names=scope.names.map (B9 env):=by
 show scope.names.map _=_;congr 1
def Ei(env:Env)(p:Str×NameKind):(B9 env p).1=p.1:=by unfold B9;split<;>rfl
def oo{env:Env}{x:Str}:∀{names:List (Str×NameKind)},(names.map (B9 env)).lookup x=(names.lookup x).map λk=>(B9 env (x,k)).2
 | []=>rfl
 | (n,q)::r=>by
  rw[bC];have e:B9 env (n,q)=(n,(B9 env (n,q)).2):=lP (Ei env _) rfl;rw[e,jF,jF];cases hx:x==n with
  | true=>
   have hxn:x=n:=by simpa using hx
   subst hxn;rfl
  | false=>exact oo (names:=r)
def pP{scope:Scope}{env:Env}{x:Str}{k:NameKind}(h:(relabel scope env).names.lookup x=some k):scope.names.lookup x=some k\/(k=.cell/\scope.names.lookup x=some .free):=by
 rw[oS,oo] at h;cases e:scope.names.lookup x with
 | none=>rw[e] at h;cases h
 | some q=>
  rw[e] at h;have h':(B9 env (x,q)).2=k:=bZ h;unfold B9 at h'
  split at h'
  ·rename_i hc;have hq:q=.free:=by
    have:=(ai _ _).mp ((ai _ _).mp hc).1;simpa using this.1
   exact .inr ⟨h'.symm,by rw[hq]⟩
  ·exact .inl (by rw[<-h'])
def vP{scope:Scope}{env:Env}{x:Str}(h:scope.names.lookup x=some .free):(relabel scope env).names.lookup x=some .cell\/(relabel scope env).names.lookup x=some .free:=by
 rw[oS,oo,h];show some (B9 env (x,.free)).2=_\/some (B9 env (x,.free)).2=_;unfold B9
 split
 ·exact .inl rfl
 ·exact .inr rfl
def qf(X:Cx)(N:List Str)(scope:Scope)(C:Addr)(s:Shared)(H:Hp)(fp:List Addr)(pn:List (Addr×Obj)):Cx:=
 { X with N:=N,s₀:=s,H₀:=H,env:=compEnvC scope (kZ X.env scope.names []) C X.env,outer:=X.stack,ex:=fp,fn:=λ_=>false,pn:=pn,xe:=λ_ _=>False }
structure mL (scope:Scope) (ns:List Str):Prop where
 kind:scope.kind=.function
 nocell:∀ y∈scope.names,y.2≠.cell
 names:∀ y∈scope.names,y.2=.local->scope.names.lookup y.1=some .local
 frees:∀ y∈scope.names,y.2=.free->y.1∈ns
inductive mK (X:Cx) (scope:Scope):List Str->List Nat->Prop
 | nil:mK X scope [] []
 | cons {x:Str} {i:Nat} {ns:List Str} {is:List Nat}:X.N[i]? = some x->scope.names.lookup x=some .free->(X.env.kindOf x=some .cell\/X.env.kindOf x=some .free)->mK X scope ns is->mK X scope (x::ns) (i::is)
def mK.mem{X:Cx}{scope:Scope}{ns:List Str}{is:List Nat}{x:Str}(c:mK X scope ns is)(h:x∈ns):X.env.kindOf x=some .cell\/X.env.kindOf x=some .free:=by
 induction c with
 | nil=>exact nomatch h
 | cons _ _ k _ ih=>
  rcases aL.mp h with e | e
  ·subst e;exact k
  ·exact ih e
def mK.len{X:Cx}{scope:Scope}{ns:List Str}{is:List Nat}(c:mK X scope ns is):is.length=ns.length:=by
 induction c with
 | nil=>rfl
 | cons _ _ _ _ ih=>simp[ih]
def mK.at_{X:Cx}{scope:Scope}{ns:List Str}{is:List Nat}(c:mK X scope ns is){j:Nat}{x:Str}(h:ns[j]? = some x):
  ∃i,is[j]? = some i/\X.N[i]? = some x/\scope.names.lookup x=some .free/\(X.env.kindOf x=some .cell\/X.env.kindOf x=some .free):=by
 induction c generalizing j with
 | nil=>simp at h
 | cons a b k _ ih=>
  cases j with
  | zero=>simp at h;subst h;exact⟨_,rfl,a,b,k⟩
  | succ j=>exact ih (by simpa using h)
def BN(σ:St)(i:Nat):Option V:=(σ[i]?).join
def iR(k:Nat)(caps:List Nat)(σ:St):St:=List.replicate k none++caps.map λi=>BN σ i
section
variable {X:Cx} {pins:List (Addr×Obj)} {σ:St} {H:Hp} {s s4:Shared}
def tI{own ns:List Str}{caps:List Nat}{scope:Scope}{C:Addr}{fp:List Addr}(I:bY X pins σ H s)(S:mL scope ns)(cp:mK X scope ns caps)(hf:∀b∈fp,ji X pins H b)
  (hfl:∀b∈fp,b<s.heap.objs.size) (hC:s.heap.objs.size<=C) (os:s4.os=s.os) (gens:s4.gens=s.gens) (k:∀b o,s.heap.get? b=some o->s4.heap.get? b=some o) {m:Str->Option Value} (hn:s4.heap.Ns C m) :
  bY (qf X (own++ns) scope C s H fp (X.pn++pins)) [] (iR own.length caps σ) H s4:=by
 have cells:∀x c,(kZ X.env scope.names []).lookup x=some c->X.env.cells.lookup x=some c:=λx c e=>by
  rcases kh (λy hy hfr=>I.ok.has y.1 (cp.mem (S.frees y hy hfr))) e with z | z
  ·simp at z
  ·exact z
 have neL:C≠X.env.locals:=gh (aW I.lt hC);have inFs:∀b,b∈kX X.stack->b=X.env.locals\/b∈X.fs:=λb hb=>aL.mp (I.stkSub b hb);have nst:∀b,b≠X.env.locals->b∉X.fs->b∉kX X.stack:=λb h1 h2 z=>(inFs b z).elim h1 h2;have cle:∀x c,X.env.cells.lookup x=some c->c<s.heap.objs.size:=λx c e=>by obtain⟨v,q⟩:=I.cell x c e;exact q.lt
 refine⟨⟨I.ok.mod,S.kind,I.ok.glob,I.ok.blt,hC,λx y c h1 h2=>I.ok.inj x y c (cells _ _ h1) (cells _ _ h2),λx hx=>?_,(λx c h=>nomatch h),I.ok.hd,I.ok.frames,.inl rfl,λb hb=>⟨λz=>?_,λx c e=>(hf b hb).2.2.2.2.1 x c (cells _ _ e)⟩,
   I.bs,cH I.ok.bsz I.sz,λb o e hb=>?_,λb hb=>nst b (hf b hb).2.1 (hf b hb).2.2.1,I.stack,I.stkFree⟩,
  os,by rw[gens];exact I.bare,Un.kept k,⟨m,hn,λi x v e1 e2 e3=>?_⟩,λx c e=>?_,?_,λx c e=>I.freeC x c (cells _ _ e),λp hp=>?_,I.hok.kept k,?_⟩
 ·have hx':(relabel scope X.env).names.lookup x=some .cell\/(relabel scope X.env).names.lookup x=some .free:=hx;have hfree:scope.names.lookup x=some .free:=by
   rcases hx' with z | z
   ·rcases pP z with q | q
    ·exact absurd rfl (S.nocell _ (cy q))
    ·exact q.2
   ·rcases pP z with q | q
    ·exact q
    ·exact absurd q.1 (by decide)
  exact tL (cy hfree)
 ·exact absurd (aW (hfl b hb) hC) (by rw[show b=C from z];exact dk _)
 ·obtain⟨f0,f1,f2,f3,f4,f5⟩:=hf b hb;rcases f3 with z | z
  ·exact I.ok.noex b o e z
  ·exact absurd (aW (aR e) (cH I.ok.bsz z)) (dk _)
 ·have e2':(List.replicate own.length none++caps.map λi=>BN σ i)[i]? = some (some v):=e2;have e1':(own++ns)[i]? = some x:=e1;by_cases hi:i<own.length
  ·rw[cu (by simpa using hi),lV,Vz hi] at e2';cases e2'
  ·rw[cG (by simpa using hi),mh,bW] at e2';rw[cG (by lia)] at e1';obtain⟨i',h1,h2,h3,h4⟩:=cp.at_ e1';rw[h1] at e2';have e4:(σ[i']?).join=some v:=bZ e2';have e5:σ[i']? = some (some v):=by
    cases q:σ[i']? with
    | none=>rw[q] at e4;cases e4
    | some w'=>rw[q] at e4;rw[show w'=some v from e4]
   obtain⟨m',hn',hl'⟩:=I.loc;have vis:KJ X.env.scope x:=h4.elim (λz=>.inr (.inl z)) λz=>.inr (.inr z);obtain⟨u,r,l⟩:=hl' i' x v h2 e5 vis;refine⟨u,r,.inr ⟨vP h3,?_⟩⟩;obtain⟨c,hc⟩:=tL (env:=X.env) (acc:=[]) (cy h3);rcases l with ⟨z,_⟩ | ⟨_,c',e6,z⟩
   ·rcases h4 with y | y<;>· rw[y] at z;cases z
   ·have:=cells _ _ hc;rw[e6] at this;cases this;obtain⟨o,ho,hd⟩:=z;exact⟨_,hc,o,k _ _ ho,hd⟩
 ·obtain⟨v,o,ho,hd⟩:=I.cell x c (cells _ _ e);exact⟨v,o,k _ _ ho,hd⟩
 ·exact I.hok.fresh hC
 ·have hp':p∈X.pn++pins:=by simpa [qf] using hp
  obtain⟨a1,a2,a3,a4,a5⟩:=I.pin p hp';exact⟨k _ _ a1,a2,am (aW (aR a1) hC),nst _ a3 a4,a5⟩
 ·show (iR own.length caps σ).length=(own++ns).length;simp[iR,cp.len]
end
def PF(X:Cx)(ifs:List Expr)(t:TT):Prop:=
 ∀(pins:List (Addr×Obj)) (s:Shared) (σ:St) (H:Hp) (Q:Bool->Hp->Prop),bY X pins σ H s->t σ H Q →
  wpAny (model X.prog X.w) X.A (forIn ifs true λc r=>if r=true then do let ok <-isTrue c X.env (eval c X.env);pure (ForInStep.yield ok) else pure (ForInStep.yield r)) (TP X pins σ Q) X.xe s
def sG:TT:=λ_ H q=>q true H
def Iy{X:Cx}:PF X [] sG:=λ_ _ _ H _ I h=>Va ⟨H,I,h⟩
def Iw{X:Cx}{c:Expr}{t:TT}(h:PT X c t):PF X [c] t:=by
 intro pins s σ H Q I hq;rw[jZ];simp only[WE,bind_assoc,pure_bind];refine wpAny_bind (dZ (h pins s σ H Q I hq) λb s1 q=>?_);exact Va q
def ie(J:It)(g:TG)(tf:TT)(te:TE)(Q:VK)(σ:St)(H1:Hp):Prop:=∃W:Nat->Nat->List V->St->Hp->Prop,(∃m,W 0 m [] σ H1)/\∀i m ys σ H,W i m ys σ H →
 (J.stop i H/\ys.length<=sizeLine/\∀p,H p=none->Q (.ref p) (bE H p (.lst ys))) ∨
 (J.go i H/\ys.length<sizeLine/\∀x H',J.yld i H x H'->g x σ H' λσ2 H2=>tf σ2 H2 λb H3=>
  if b=true then te σ2 H3 λy H4=>∃m',m'<m/\W (i+1) m' (ys++[y]) σ2 H4 else ∃m',m'<m/\W (i+1) m' ys σ2 H3)
section
variable {X:Cx} {pins:List (Addr×Obj)} {σ:St} {H:Hp} {s:Shared}
def oW {prog : Program} {w : World} {A : Around} {R : Result → Shared → Prop} {s : Shared} {elt target iter : Expr} {ifs : List Expr} {scope : Scope} {pos : Pos} {it acc : Value} {env : Env} (I : Nat → Shared → Prop)
  (turn : ∀ n s, I n s → wpAny (model prog w) A (pyNext it) (fun r s₁ => match r with
   | none => R (.ok .next) s₁
   | some v => wpAny (model prog w) A (letOwnedTupleGo target it v) (fun _ s₁ => wpAny (model prog w) A (assign target env v) (fun _ s₂ =>
     wpAny (model prog w) A (forIn ifs true fun c r => if r = true then do let ok ← isTrue c env (eval c env); pure (ForInStep.yield ok) else pure (ForInStep.yield r)) (fun ok s₃ =>
      if ok = true then wpAny (model prog w) A (eval elt env) (fun x s₄ =>
       wpAny (model prog w) A (call (.builtin "list.append") [acc, x]) (fun _ s₅ => ∃ m, m < n ∧ I m s₅) (notedBy (model prog w) A env fun e s' => R (.error e) s') s₄) (notedBy (model prog w) A env fun e s' => R (.error e) s') s₃
      else ∃ m, m < n ∧ I m s₃) (notedBy (model prog w) A env fun e s' => R (.error e) s') s₂) (notedBy (model prog w) A env fun e s' => R (.error e) s') s₁) (notedBy (model prog w) A env fun e s' => R (.error e) s') s₁) (notedBy (model prog w) A env fun e s' => R (.error e) s') s)
  (n : Nat) (h : I n s) : codeAny (model prog w) A (.compLoop (.ListComp elt [⟨target, iter, ifs, 0⟩] scope pos) 0 it acc env) R s := by
 refine codeAny_loop rfl I (fun n s hI => ?_) n h
 show wpAny _ A ((compTurn (.ListComp elt [⟨target, iter, ifs, 0⟩] scope pos) 0 it acc env).onRaise (fun x => do noteFrame x env; theTreesLotGoes x)) _ _ s
 refine wpAny_noted ?_
 rw [compTurn_list]
 refine wpAny_bind (V8 (wpAny_bind (wpAny_mono (turn n s hI) (fun r s₁ h₁ => ?_) fun _ _ h' => h')))
 cases r with
 | none => exact Va h₁
 | some v =>
  refine wpAny_bind (wpAny_mono h₁ (fun _ s₁ h₁ => ?_) fun _ _ h' => h')
  refine wpAny_bind (wpAny_mono h₁ (fun _ s₂ h₂ => wpAny_bind (wpAny_mono h₂ (fun ok s₃ h₃ => ?_) fun _ _ h' => h')) fun _ _ h' => h')
  cases ok with
  | false => exact Va ⟨rfl, h₃⟩
  | true =>
   exact wpAny_bind (wpAny_bind (wpAny_mono h₃ (fun x s₄ h₄ => wpAny_bind (wpAny_mono h₄ (fun _ s₅ h₅ => Va (Va ⟨rfl, h₅⟩)) fun _ _ h' => h')) fun _ _ h' => h'))
def xP{own ns:List Str}{caps:List Nat}{elt tg iter:Expr}{ifs:List Expr}{scope:Scope}{pos:Pos}{it:Addr}{fp:List Addr}{tn:Nat->Heap->Prop}{J:It}{g:TG}{tf:TT}{te:TE}{Q:VK}{E:Value->Shared->Prop}{RR:Value->Addr->Result->Shared->Prop}
  (hc:X.calm=true) (S:mL scope ns) (cp:mK X scope ns caps)
  (hg:∀C s H fp pn,PG (qf X (own++ns) scope C s H fp pn) tg g) (ht:∀C s H fp pn,PF (qf X (own++ns) scope C s H fp pn) ifs tf) (he:∀C s H fp pn,PE (qf X (own++ns) scope C s H fp pn) elt te)
  (I:bY X pins σ H s) (T:Turn X.prog X.w X.K tg J fp it tn) (st:tn 0 s.heap) (hf:∀b∈fp,ji X pins H b) (hJ:ie J g tf te Q (iR own.length caps σ) H)
  (fin:∀D C m s' H' ys,D≠C->s'.heap.Ns C m->ji X pins (bE H' D (.lst ys)) C->bY X pins σ (bE H' D (.lst ys)) s'->Q (.ref D) (bE H' D (.lst ys))->RR (.ref D) C (.ok .next) s') :
  wpAny (model X.prog X.w) X.A (newList []) (λacc s₃=>wpAny (model X.prog X.w) X.A (newFunctionEnv scope X.env.globals (kZ X.env scope.names []) [] X.env.qual none .none (some X.env)) (λcenv s₄=>
   codeAny (model X.prog X.w) X.A (.compStart (.ListComp elt [⟨tg,iter,ifs,0⟩] scope pos) 0 (.ref it) acc { cenv with scope:=relabel scope X.env }) (RR acc cenv.locals) s₄) E s₃) E s:=by
 refine Vi (wpAny_newFunctionEnv S.nocell (by intro y hy;simp at hy) (λh₁ hns₁ hsb₁=>?_) S.kind);dsimp only at hns₁ hsb₁ ⊢;generalize hH2:s.heap.push { cls:=.type "list",dict:=none,data:=.seq ([]:List Value).toArray }=H2 at hns₁ hsb₁ ⊢;have hC:H2.objs.size=s.heap.objs.size+1:=by rw[<-hH2,ck]
 have hDC:s.heap.objs.size≠H2.objs.size:=by rw[hC];exact am (gj _)
 have hCle:s.heap.objs.size<=H2.objs.size:=by rw[hC];exact fG _
 have old:∀b o,s.heap.get? b=some o->h₁.get? b=some o:=λb o e=>hsb₁.extBut b o (by rw[hC];exact am (dC (aR e))) (aB _ (hH2▸aB _ e));have hacc:h₁.PlainList s.heap.objs.size #[]:=⟨_,hsb₁.extBut _ _ hDC (aB _ (hH2▸aN _ rfl))⟩
 have hfl:∀b∈fp,b<s.heap.objs.size:=λb hb=>by obtain⟨o,e,_⟩:=T.obj _ _ st b hb;exact aR e
 generalize hD:s.heap.objs.size=D at hDC hacc ⊢;generalize hCe:H2.objs.size=C at hns₁ hsb₁ hDC hCle hC ⊢;have hDle:s.heap.objs.size<=D:=by rw[hD];exact aJ _
 have hCle':s.heap.objs.size<=C:=by rw[hD];rw[hD] at hCle;exact hCle
 have I₁:bY (qf X (own++ns) scope C s H fp (X.pn++pins)) [] (iR own.length caps σ) H { s with heap:=h₁,toks:=s.toks+([]:List (Str×Value)).length }:=
  tI I S cp hf hfl hCle' rfl rfl old hns₁
 have st₁:tn 0 h₁:=T.keep _ _ _ st λb _ o e=>old b o e;generalize hY:qf X (own++ns) scope C s H fp (X.pn++pins)=Y at I₁;have hgY:PG Y tg g:=hY▸hg C s H fp (X.pn++pins);have htY:PF Y ifs tf:=hY▸ht C s H fp (X.pn++pins);have heY:PE Y elt te:=hY▸he C s H fp (X.pn++pins);have yP:Y.prog=X.prog:=by rw[<-hY];rfl
 have yW:Y.w=X.w:=by rw[<-hY];rfl
 have yK:Y.K=X.K:=by rw[<-hY];rfl
 have yA:Y.A=X.A:=by rw[<-hY];rfl
 have yC:Y.calm=true:=by rw[<-hY];exact hc
 have yE:Y.env=compEnvC scope (kZ X.env scope.names []) C X.env:=by rw[<-hY];rfl
 have yX:Y.xe=λ_ _=>False:=by rw[<-hY];rfl
 have yF:Y.fs=kX X.stack:=by rw[<-hY];rfl
 have yQ:Y.pn=X.pn++pins:=by rw[<-hY];rfl
 have yI:Y.ex=fp:=by rw[<-hY];rfl
 have yS:Y.s₀=s:=by rw[<-hY];rfl
 have yH:Y.H₀=H:=by rw[<-hY];rfl
 have cells:∀x c,Y.env.cells.lookup x=some c->X.env.cells.lookup x=some c:=λx c e=>by
  rw[yE] at e;rcases kh (λy hy hfr=>I.ok.has y.1 (cp.mem (S.frees y hy hfr))) (show (kZ X.env scope.names []).lookup x=some c from e) with z | z
  ·simp at z
  ·exact z
 have nst:∀b,b≠X.env.locals->b∉X.fs->b∉Y.fs:=λb h1 h2 z=>by
  rw[yF] at z;exact(aL.mp (I.stkSub b z)).elim h1 h2
 have fpY:∀{H':Hp},(∀b∈fp,H' b=none)->∀b∈fp,ji Y [] H' b:=fun {H'} hn b hb=>by
  obtain⟨f0,f1,f2,f3,f4,f5⟩:=hf b hb;refine⟨hn b hb,?_,nst b f1 f2,.inl (by rw[yI];exact hb),λx c e=>f4 x c (cells x c e),λp hp=>f5 p (by simpa [yQ] using hp)⟩;rw[yE];exact am (aW (hfl b hb) hCle')
 have fpD:∀{H':Hp},H' D=none->ji Y [] H' D:=fun {H'} hn=>by
  obtain⟨f0,f1,f2,f3,f4,f5⟩:=I.fpOk (H':=H') hDle hn;refine⟨hn,by rw[yE];exact hDC,nst D f1 f2,.inr (by rw[yS];exact hDle),λx c e=>f4 x c (cells x c e),λp hp=>f5 p (by simpa [yQ] using hp)⟩
 have hDf:D∉fp:=λz=>dk _ (aW (hfl D z) hDle);have objD:∀{h:Heap} {us:List Value},h.PlainList D us.toArray->∃o,h.get? D=some o/\∀v,o.data≠.cell v:=fun {h us} ⟨n,e⟩=>⟨_,e,λv z=>by cases z⟩
 have noErr:∀{α:Type} {t:Sem α} {Qt:α->Shared->Prop} {sx:Shared} {E':Value->Shared->Prop},wpAny (model Y.prog Y.w) Y.A t Qt Y.xe sx->wpAny (model X.prog X.w) X.A t Qt E' sx:=fun {α t Qt sx E'} h=>by
  rw[yP,yW,yA,yX] at h;exact wpAny_mono h (λ_ _ q=>q) λ_ _ f=>f.elim
 obtain⟨W,⟨m0,w0⟩,turn⟩:=hJ;have TY:Turn Y.prog Y.w Y.K tg J fp it tn:=by rw[yP,yW,yK];exact T
 have loop:∀s₃:Shared,s₃={ s with heap:=h₁,toks:=s.toks+([]:List (Str×Value)).length } →
   codeAny (model X.prog X.w) X.A (.compLoop (.ListComp elt [⟨tg,iter,ifs,0⟩] scope pos) 0 (.ref it) (.ref D) (compEnvC scope (kZ X.env scope.names []) C X.env)) (RR (.ref D) C) s₃:=by
  rintro s₃ rfl;refine oW (λn s'=>∃i ys us σ' H',bY Y [] σ' H' s'/\tn i s'.heap/\(∀b∈fp,H' b=none)/\H' D=none/\s'.heap.PlainList D us.toArray/\cE ys us/\W i n ys σ' H') ?_ m0
   ⟨0,[],[],_,H,I₁,st₁,λb hb=>(hf b hb).1,I.hok.fresh hDle,hacc,.nil,w0⟩
  rintro n s3 ⟨i,ys,us,σ3,H3,I3,st3,fr3,hD3,Gy,v3,w3⟩;have fD3:∀b∈[D],ji Y [] H3 b:=λb hb=>by
   have e:b=D:=by simpa using hb
   subst e;exact fpD hD3
  have I3':bY Y ([]++iY [D] s3.heap) σ3 H3 s3:=I3.pinned fD3 λb hb=>by
   have e:b=D:=by simpa using hb
   subst e;exact objD Gy
  rw[eh] at I3';have fpY':∀{H':Hp},(∀b∈fp,H' b=none)->∀b∈fp,ji Y (iY [D] s3.heap) H' b:=fun {H'} hn b hb=>by
   obtain⟨f0,f1,f2,f3,f4,f5⟩:=fpY hn b hb;refine⟨f0,f1,f2,f3,f4,λp hp=>?_⟩;rcases a9.mp hp with z | z
   ·exact f5 p (by simpa using z)
   ·have e:p.1=D:=by simpa using (qW z).1
    exact λq=>hDf (by rw[<-e,q];exact hb)
  obtain⟨oD,eD,cD⟩:=objD Gy;have keepD:∀{σ':St} {H':Hp} {s':Shared} {pl:List (Addr×Obj)},bY Y (iY [D] s3.heap++pl) σ' H' s'->s'.heap.PlainList D us.toArray/\H' D=none:=fun {σ' H' s' pl} I'=>by
   have:=I'.pin (D,oD) (ay _ (bH _ (gO (by simp) eD)));refine⟨?_,this.2.1⟩;obtain⟨k,e⟩:=Gy;rw[e] at eD;cases eD;exact⟨k,this.1⟩
  rcases turn i n ys σ3 H3 w3 with ⟨stop,hlen,qn⟩ | ⟨go,hlen,step⟩
  ·refine noErr (dZ (TY.done Y rfl rfl rfl yC i _ s3 σ3 H3 Y.xe I3' (fpY' fr3) st3 stop) λr s4 ⟨hr,I4⟩=>?_);subst hr;obtain⟨pl4,hD4⟩:=keepD (pl:=[]) (by rw[cY];exact I4);have hun:Un (kX X.stack) fp H H3 s.heap s4.heap:=by have:=I4.base;rw[yF,yI,yS,yH] at this;exact this
   have hok:nW X.prog X.w H3 s4.heap:=by have:=I4.hok;rw[yP,yW] at this;exact this
   obtain⟨m4,hn4,_⟩:=I4.loc;rw[yE] at hn4;have hC4:H3 C=none:=by have:=I4.free;rw[yE] at this;exact this
   have ne:∀b u,H3 b=some u->b≠D:=λb u e z=>by rw[z,hD4] at e;cases e
   refine fin D C m4 s4 H3 ys hDC hn4 (I.fpOk hCle' (by rw[aI (gg hDC)];exact hC4)) (I.call' (ch:=fp) ?_ ?_ ?_ I4.bare ?_) (qn D hD4)
   ·have:=I4.os;rw[yS] at this;exact this
   ·exact⟨hun.keep,hun.slot,λb o e n hx=>by rw[aI (λz=>by rw[z] at e;exact absurd (aR e) (Nat.not_lt.mpr hDle))];exact hun.free b o e n hx,hun.there,
     λb xs e=>by have:=hun.tups b xs e;rw[aI (ne _ _ this)];exact this,λb o u e=>by have:=hun.frzs b o u e;rw[aI (ne _ _ this)];exact this,
     λb ps e=>by obtain⟨more,q⟩:=hun.tbls b ps e;exact⟨more,by rw[aI (ne _ _ q)];exact q⟩⟩
   ·intro b u e;by_cases hb:b=D
    ·subst hb;rw[aC] at e;cases e;obtain⟨k,e4⟩:=pl4;exact⟨hlen,us,k,v3,e4⟩
    ·rw[aI hb] at e;exact(hok b u e).stay (λc v _ q=>q) (λc q=>by rw[aI (ne _ _ q)];exact q) λc xs q=>by rw[aI (ne _ _ q)];exact q
   ·intro b hb;obtain⟨f0,f1,f2,f3,f4,f5⟩:=hf b hb;exact⟨f3,f1,f4,f5⟩
  ·refine noErr (dZ (TY.item Y rfl rfl rfl yC i _ s3 σ3 H3 Y.xe I3' (fpY' fr3) st3 go) λr s4 ⟨u,hr,h4⟩=>?_);subst hr;refine noErr (dZ h4 λ_ s5 ⟨x,H5,I5,r5,y5,st5,fr5⟩=>?_);have I5':=I5.pinned (fpY' fr5) (T.obj _ _ st5);rw[<-yE];refine noErr (dZ (hgY _ s5 σ3 H5 x u _ I5' r5 (step x H5 y5)) λ_ s6 ⟨σ6,H6,I6,q6⟩=>?_);refine noErr (dZ (htY _ s6 σ6 H6 _ I6 q6) λok s7 ⟨H7,I7,q7⟩=>?_);have fpK:∀{σ':St} {H':Hp} {s':Shared},bY Y (iY [D] s3.heap++iY fp s5.heap) σ' H' s'->tn (i+1) s'.heap/\∀b∈fp,H' b=none:=fun {σ' H' s'} I'=>
    ⟨T.keep _ _ _ st5 λb hb o e=>(I'.pin (b,o) (ay _ (ay _ (gO hb e)))).1,λb hb=>by
     obtain⟨o,e,_⟩:=T.obj _ _ st5 b hb;exact(I'.pin (b,o) (ay _ (ay _ (gO hb e)))).2.1⟩
   cases ok with
   | false=>
    rw[Vy ax] at q7 ⊢;obtain⟨m',hm,w7⟩:=q7;obtain⟨pl7,hD7⟩:=keepD I7;obtain⟨st7,fr7⟩:=fpK I7;exact⟨m',hm,i+1,ys,us,σ6,H7,I7.pins_of (λp hp=>nomatch hp),st7,fr7,hD7,pl7,v3,w7⟩
   | true=>
    rw[Vz rfl] at q7 ⊢;refine noErr (dZ (heY _ s7 σ6 H7 _ I7 q7) λy s8 ⟨yv,H8,I8,r8,m',hm,w8⟩=>?_);obtain⟨pl8,hD8⟩:=keepD I8;obtain⟨st8,fr8⟩:=fpK I8;have hul:us.length=ys.length:=v3.length.symm;refine wpAny_list_append_plain (hsz:=by rw[aT,hul];exact ah hlen) pl8 λh9 pl9 sb9=>?_;obtain⟨d0,d1,d2,d3,d4,d5⟩:=fpD hD8;refine⟨m',hm,i+1,ys++[yv],us++[y],σ6,H8,?_,?_,fr8,hD8,by simpa using pl9,v3.append (.cons r8 .nil),w8⟩
    ·exact(I8.pins_of (pins':=[]) λp hp=>nomatch hp).turned (t':=s8.toks) (λb o hb e=>(sb9.2 b hb).trans e) hD8 d1 d3 d4 d5
    ·exact T.keep _ _ _ st8 λb hb o e=>(sb9.2 b (λz=>hDf (z▸hb))).trans e
 exact codeAny_compStart_list (loop _ rfl) (T.self _ 0 _ _ _ st₁ (loop _ rfl))
def pG(k:Nat)(caps:List Nat)(wi:TI)(g:TG)(tf:TT)(te:TE):TE:=λσ H Q=>wi σ H λJ H1=>ie J g tf te Q (iR k caps σ) H1
def mK.cl{scope:Scope}{ns:List Str}{caps:List Nat}(I:bY X pins σ H s)(S:mL scope ns)(cp:mK X scope ns caps):closureFor scope X.env=pure (kZ X.env scope.names []):=
 tj λy hy hfr=>I.ok.has y.1 (cp.mem (S.frees y hy hfr))
def FM{own ns:List Str}{caps:List Nat}{elt tg iter:Expr}{ifs:List Expr}{scope:Scope}{pos:Pos}{wi:TI}{g:TG}{tf:TT}{te:TE}(hc:X.calm=true)(S:mL scope ns)(cp:mK X scope ns caps)(hi:PI X tg iter wi)
  (hg:∀C s H fp pn,PG (qf X (own++ns) scope C s H fp pn) tg g) (ht:∀C s H fp pn,PF (qf X (own++ns) scope C s H fp pn) ifs tf) (he:∀C s H fp pn,PE (qf X (own++ns) scope C s H fp pn) elt te)
  (hs:∀x,foldedSetIterable iter X.env x=pure x:=by intro _;rfl):PE X (.ListComp elt [⟨tg,iter,ifs,0⟩] scope pos) (pG own.length caps wi g tf te):=by
 intro pins s σ H Q I h;rw[eval_ListComp];refine wpAny_comprehension_free (use:=none) rfl hs (cp.cl I S) S.kind S.names (dZ (hi pins s σ H _ I h) λv s1 h1=>dZ h1 λitv s2 h2=>?_);obtain⟨it,fp,tn,J,H2,e,I2,T,st2,f2,hJ⟩:=h2;subst e;refine xP hc S cp hg ht he I2 T st2 f2 hJ (RR:=λacc C=>compPost (model X.prog X.w) X.A X.xe none (EP X pins σ Q) acc C) λD C m s' H' ys hDC hn fC I' q=>?_;refine⟨m,hn,λh' hs'=>⟨.ref D,_,?_,rfl,q⟩⟩;obtain⟨f0,f1,f2,f3,f4,f5⟩:=fC;exact I'.turned (t':=s'.toks) (λb o hb e=>(hs'.2 b hb).trans e) f0 f1 f3 f4 f5
def Ey{i:Nat}{x:Str}{own ns:List Str}{caps:List Nat}{elt tg iter:Expr}{ifs:List Expr}{scope:Scope}{pos pos' spos:Pos}{wi:TI}{g:TG}{tf:TT}{te:TE}(hN:X.N.Nodup)(hi:X.N[i]? = some x)(hx:Loc X.env.scope x)(hc:X.calm=true)(S:mL scope ns)(cp:mK X scope ns caps)(hit:PI X tg iter wi)
  (hg:∀C s H fp pn,PG (qf X (own++ns) scope C s H fp pn) tg g) (ht:∀C s H fp pn,PF (qf X (own++ns) scope C s H fp pn) ifs tf) (he:∀C s H fp pn,PE (qf X (own++ns) scope C s H fp pn) elt te)
  (hs:∀x,foldedSetIterable iter X.env x=pure x:=by intro _;rfl) (hsw:swapsWith (.ListComp elt [⟨tg,iter,ifs,0⟩] scope pos) (some (.Name x pos')) spos.line X.env=pure true:=by rfl)
  (hf:X.fn x=true\/X.env.scope.names.lookup x=some .local:=by first | exact .inl rfl | exact .inr rfl | assumption) :
  PS X (.Assign [.Name x pos'] (.ListComp elt [⟨tg,iter,ifs,0⟩] scope pos) spos) (wC (pG own.length caps wi g tf te) (mR i)):=by
 intro pins s σ H D I h;rw[exec_Assign_Name_used _ _ _ _ hsw];refine wpAny_bind (V8 (wpAny_bind ?_));show wpAny _ X.A (do let _ <-comprehension (.ListComp elt [⟨tg,iter,ifs,0⟩] scope pos) scope X.env _ (newList []) false (eval iter X.env) (some (assign (.Name x pos') X.env))) _ _ s;refine wpAny_bind (wpAny_mono (wpAny_comprehension_free (use:=some (assign (.Name x pos') X.env)) (Q:=λ_ s'=>SP X pins D .next s') rfl hs (cp.cl I S) S.kind S.names
  (dZ (hit pins s σ H _ I h) λv s1 h1=>dZ h1 λitv s2 h2=>?_)) (λ_ s' hq=>Va (Va hq)) λ_ _ e=>e)
 obtain⟨it,fp,tn,J,H2,e,I2,T,st2,f2,hJ⟩:=h2;subst e;refine xP hc S cp hg ht he I2 T st2 f2 hJ (RR:=λacc C=>compPost (model X.prog X.w) X.A X.xe (some (assign (.Name x pos') X.env)) (λ_ s'=>SP X pins D .next s') acc C) λL C m s' H' ys hDC hn fC I' q=>?_;show wpAny _ X.A (assign (.Name x pos') X.env (.ref L)) _ _ _;refine wpAny_assign_Name (uF I' hN hi hx (v:=.ref L) (u:=.ref L) rfl (λs'' I'' ⟨a,sb,ha⟩=>?_) hf);obtain⟨f0,f1,f2,f3,f4,f5⟩:=fC;have hCa:C≠a:=by
  rcases ha with z | z
  ·rw[z];exact f1
  ·exact λy=>f4 _ _ z y.symm
 exact⟨m,hn.sameBut sb hCa,λh' hs'=>⟨_,_,I''.turned (t':=s''.toks) (λb o hb e=>(hs'.2 b hb).trans e) f0 f1 f3 f4 f5,q⟩⟩
def zT{k:Nat}{caps:List Nat}{K:WG}{tl:TE}{g:TG}{tf:TT}{te:TE}{Q:VK}:pG k caps (AF K tl) g tf te σ H Q=tl σ H λx H1=>∃a,x=.ref a/\(∃xs,cW K H1 a xs)/\ie (GW K a) g tf te Q (iR k caps σ) H1:=rfl
def zS{k:Nat}{caps:List Nat}{K:WG}{tl:TE}{g:TG}{tf:TT}{te:TE}{Q:VK}:pG k caps (Fv K tl) g tf te σ H Q=tl σ H λx H1=>∃a,x=.ref a/\(∃xs,c8 K H1 a xs)/\ie (KN K a) g tf te Q (iR k caps σ) H1:=rfl
def zV{k:Nat}{caps:List Nat}{ta:TA}{g:TG}{tf:TT}{te:TE}{Q:VK}:pG k caps (AE ta) g tf te σ H Q=ta σ H λvs H1=>∃j:Int,vs=[.int j]/\-(2 ^ 62)<=j/\j<2 ^ 62/\ie (B6 0 j.toNat) g tf te Q (iR k caps σ) H1:=rfl
def zU{k:Nat}{caps:List Nat}{ta:TA}{g:TG}{tf:TT}{te:TE}{Q:VK}:pG k caps (HJ ta) g tf te σ H Q=ta σ H λvs H1=>∃i j:Int,vs=[.int i,.int j]/\(-(2 ^ 62)<=i/\i<2 ^ 62/\-(2 ^ 62)<=j/\j<2 ^ 62)/\ie (B6 i (j-i).toNat) g tf te Q (iR k caps σ) H1:=rfl
def zL{x:Str}{l:List Str}{caps:List Nat}:iR (x::l).length caps σ=none::iR l.length caps σ:=rfl
def zJ{i:Nat}{is:List Nat}:iR ([]:List Str).length (i::is) σ=BN σ i::iR ([]:List Str).length is σ:=rfl
def zK:iR ([]:List Str).length [] σ=[]:=rfl
def Bt{x:Option V}:BN (x::σ) 0=x:=rfl
def w_getS{x:Option V}{i:Nat}:BN (x::σ) (i+1)=BN σ i:=rfl
def Br{q:Bool->Hp->Prop}:sG σ H q=q true H:=rfl
end
section
variable {K:WG} {a:Addr} {xs:List V} {g:TG} {tf:TT} {te:TE} {Q:VK} {σ:St} {H:Hp}
def pp{J:It}(n:Nat)(hsz:n<=sizeLine)(Pv:Nat->List V->St->Hp->Prop)(h0:Pv 0 [] σ H)(hlen:∀i ys σ H,Pv i ys σ H->ys.length<=i)(hgo:∀i ys σ H,i<n->Pv i ys σ H->J.go i H)(hstop:∀ys σ H,Pv n ys σ H->J.stop n H)
  (hs:∀i ys σ H x H' (N:List V->St->Hp->Prop),i<n->Pv i ys σ H->J.yld i H x H'->(∀ys σ H,Pv (i+1) ys σ H->N ys σ H)->g x σ H' λσ2 H2=>tf σ2 H2 λb H3=>if b=true then te σ2 H3 λy H4=>N (ys++[y]) σ2 H4 else N ys σ2 H3)
  (hd:∀ys σ H p,Pv n ys σ H->H p=none->Q (.ref p) (bE H p (.lst ys))):ie J g tf te Q σ H:=by
 refine⟨λi m ys σ H=>m=n-i/\i<=n/\Pv i ys σ H,⟨n,by simp,ac _,h0⟩,?_⟩;rintro i m ys σ H ⟨rfl,hi,p⟩;have hy:=hlen i ys σ H p;by_cases hlt:i<n
 ·refine .inr ⟨hgo i ys σ H hlt p,by lia,λx H' y=>?_⟩;exact hs i ys σ H x H' (λys σ H=>∃m',m'<n-i/\m'=n-(i+1)/\i+1<=n/\Pv (i+1) ys σ H) hlt p y λys σ H z=>⟨n-(i+1),by lia,rfl,hlt,z⟩
 ·have e:i=n:=by lia
  subst e;exact .inl ⟨hstop ys σ H p,by lia,λp' hp=>hd ys σ H p' p hp⟩
def BY(Pv:Nat->List V->St->Hp->Prop)(h0:Pv 0 [] σ H)(hl:∀i ys σ H,Pv i ys σ H->cW K H a xs/\ys.length<=i)(hsz:xs.length<=sizeLine)
  (hs:∀i x ys σ H (N:List V->St->Hp->Prop),xs[i]? = some x->Pv i ys σ H->(∀ys σ H,Pv (i+1) ys σ H->N ys σ H)->g x σ H λσ2 H2=>tf σ2 H2 λb H3=>if b=true then te σ2 H3 λy H4=>N (ys++[y]) σ2 H4 else N ys σ2 H3)
  (hd:∀ys σ H p,Pv xs.length ys σ H->H p=none->Q (.ref p) (bE H p (.lst ys))):ie (GW K a) g tf te Q σ H:=by
 refine pp xs.length hsz Pv h0 (λi ys σ H p=>(hl i ys σ H p).2) (λi ys σ H hi p=>⟨xs,xs[i],(hl i ys σ H p).1,by simp[hi]⟩) (λys σ H p=>⟨xs,(hl _ ys σ H p).1,aJ _⟩) ?_ hd;rintro i ys σ H x H' N hi p ⟨rfl,y⟩ hN;exact hs i x ys σ H' N (y xs (hl i ys σ _ p).1) p hN
def EI(Pv:Nat->List V->St->Hp->Prop)(h0:Pv 0 [] σ H)(hl:∀i ys σ H,Pv i ys σ H->c8 K H a xs/\ys.length<=i)(hsz:xs.length<=sizeLine)
  (hs:∀i x ys σ H (N:List V->St->Hp->Prop),xs[i]? = some x->Pv i ys σ H->(∀ys σ H,Pv (i+1) ys σ H->N ys σ H)->g x σ H λσ2 H2=>tf σ2 H2 λb H3=>if b=true then te σ2 H3 λy H4=>N (ys++[y]) σ2 H4 else N ys σ2 H3)
  (hd:∀ys σ H p,Pv xs.length ys σ H->H p=none->Q (.ref p) (bE H p (.lst ys))):ie (KN K a) g tf te Q σ H:=by
 refine pp xs.length hsz Pv h0 (λi ys σ H p=>(hl i ys σ H p).2) (λi ys σ H hi p=>⟨xs,xs[i],(hl i ys σ H p).1,by simp[hi]⟩) (λys σ H p=>⟨xs,(hl _ ys σ H p).1,aJ _⟩) ?_ hd;rintro i ys σ H x H' N hi p ⟨rfl,y⟩ hN;exact hs i x ys σ H' N (y xs (hl i ys σ _ p).1) p hN
def yz{lo:Int}{n:Nat}(Pv:Nat->List V->St->Hp->Prop)(h0:Pv 0 [] σ H)(hl:∀i ys σ H,Pv i ys σ H->ys.length<=i)(hsz:n<=sizeLine)
  (hs:∀i ys σ H (N:List V->St->Hp->Prop),i<n->Pv i ys σ H->(∀ys σ H,Pv (i+1) ys σ H->N ys σ H)->g (.int (lo+i)) σ H λσ2 H2=>tf σ2 H2 λb H3=>if b=true then te σ2 H3 λy H4=>N (ys++[y]) σ2 H4 else N ys σ2 H3)
  (hd:∀ys σ H p,Pv n ys σ H->H p=none->Q (.ref p) (bE H p (.lst ys))):ie (B6 lo n) g tf te Q σ H:=by
 refine pp n hsz Pv h0 hl (λi ys σ H hi p=>hi) (λys σ H p=>aJ _) ?_ hd;rintro i ys σ H x H' N hi p ⟨rfl,rfl⟩ hN;exact hs i ys σ H' N hi p hN
def tJ{J:It}(n:Nat)(hsz:n<=sizeLine){rest:St}(xs ys:List V)(hl:ys.length=n)(hgo:∀i,i<n->J.go i H)(hstop:J.stop n H)(hy:∀i x H',i<n->J.yld i H x H'->H'=H/\xs[i]? = some x)
  (hs:∀(i:Nat) (x y:V) (Q':VK),xs[i]? = some x->ys[i]? = some y->Q' y H->te (some x::rest) H Q')
  (q:∀p,H p=none->Q (.ref p) (bE H p (.lst ys))):ie J (mR 0) sG te Q (none::rest) H:=by
 refine pp n hsz (λi zs σ H'=>H'=H/\zs=ys.take i/\∃x,σ=x::rest) ⟨rfl,by simp,_,rfl⟩ ?_ ?_ ?_ ?_ ?_
 ·rintro i zs σ H' ⟨rfl,rfl,_⟩;rw[cZ];lia
 ·rintro i zs σ H' hi ⟨rfl,_,_⟩;exact hgo i hi
 ·rintro zs σ H' ⟨rfl,_,_⟩;exact hstop
 ·rintro i zs σ H1 x H' N hi ⟨rfl,rfl,z,rfl⟩ y hN;obtain⟨rfl,hx⟩:=hy i x H' hi y;show te (some x::rest) H' _;have hyi:ys[i]? = some ys[i]:=aS (by lia);refine hs i x ys[i] _ hx hyi (hN _ _ _ ⟨rfl,?_,_,rfl⟩);rw[bV,hyi];rfl
 ·rintro zs σ H' p ⟨rfl,rfl,_⟩ hp;rw[<-hl,cB];exact q p hp
def oJ{rest:St}(hx:cW K H a xs)(hsz:xs.length<=sizeLine)(ys:List V)(hl:ys.length=xs.length)
  (hs:∀(i:Nat) (x y:V) (Q':VK),xs[i]? = some x->ys[i]? = some y->Q' y H->te (some x::rest) H Q')
  (q:∀p,H p=none->Q (.ref p) (bE H p (.lst ys))):ie (GW K a) (mR 0) sG te Q (none::rest) H:=by
 refine tJ xs.length hsz xs ys hl (λi hi=>⟨xs,xs[i],hx,by simp[hi]⟩) ⟨xs,hx,aJ _⟩ (λi x H' hi y=>⟨y.1,y.2 xs hx⟩) hs q
def BW{rest:St}(hx:c8 K H a xs)(hsz:xs.length<=sizeLine)(ys:List V)(hl:ys.length=xs.length)
  (hs:∀(i:Nat) (x y:V) (Q':VK),xs[i]? = some x->ys[i]? = some y->Q' y H->te (some x::rest) H Q')
  (q:∀p,H p=none->Q (.ref p) (bE H p (.lst ys))):ie (KN K a) (mR 0) sG te Q (none::rest) H:=
 tJ xs.length hsz xs ys hl (λi hi=>⟨xs,xs[i],hx,by simp[hi]⟩) ⟨xs,hx,aJ _⟩ (λi x H' hi y=>⟨y.1,y.2 xs hx⟩) hs q
def BX{lo:Int}{n:Nat}{rest:St}(hsz:n<=sizeLine)(ys:List V)(hl:ys.length=n)
  (hs:∀(i:Nat) y (Q':VK),i<n->ys[i]? = some y->Q' y H->te (some (.int (lo+i))::rest) H Q')
  (q:∀p,H p=none->Q (.ref p) (bE H p (.lst ys))):ie (B6 lo n) (mR 0) sG te Q (none::rest) H:=by
 refine tJ n hsz ((List.range n).map λi:Nat=>V.int (lo+i)) ys hl (λi hi=>hi) (aJ _) (λi x H' hi y=>⟨y.1,by simp[hi,y.2]⟩) (λi x y Q' hx hy hq=>?_) q;have hi:i<n:=by
  have:=(aH.mp hx).1;simpa using this
 have e:x=.int (lo+i):=by simp[hi] at hx;exact hx.symm
 subst e;exact hs i y Q' hi hy hq
end
end L2
namespace Rm
open PySem L2
def eO:PyData->Bool
 | .tuple [.int a,.int b]=>decide (a<b)
 | _=>false
def dQ:PyData->Bw
 | .tuple [.int a,.int b]=>(a,b)
 | _=>(0,0)
def p9:∀{d:PyData},eO d=true->d=jB (dQ d)/\(dQ d).1<(dQ d).2
 | .tuple [.int a,.int b],h=>⟨rfl,WD h⟩
def i0(ps:List Bw):List Int:=ps.map (·.1)++ps.map (·.2)
def BQ(ps:List Bw):(i0 ps).length=2*ps.length:=by simp[i0];lia
def rD(ps:List Bw):Bool:=(i0 ps).isPerm (cF 0 (2*ps.length))
def kJ:PyData->Bool
 | .list ds=>decide (2*ds.length<=40)&&(ds.all eO&&rD (ds.map dQ))
 | _=>false
def Cf(n:Nat):(cF 0 n).Pairwise (·<=·):=by
 unfold cF;rw[dt,gn];intro i j hi hj hij;simp;lia
def pO(lo:Int)(n:Nat):(cF lo n).length=n:=by simp[cF]
def wM{ms:List Int}{ps:List Bw}(hp:ms.Perm (i0 ps))(hs:ms.Pairwise (·<=·)):decide (ms=cF 0 (2*ps.length))=rD ps:=by
 unfold rD;by_cases h:(i0 ps).Perm (cF 0 (2*ps.length))
 ·rw[fg.mpr h];exact WC (PySem.W.ksm_same (hp.trans h) hs (Cf _))
 ·have h2:(i0 ps).isPerm (cF 0 (2*ps.length))=false:=by
   cases e:(i0 ps).isPerm (cF 0 (2*ps.length)) with
   | false=>rfl
   | true=>exact absurd (fg.mp e) h
  rw[h2];exact WB λe=>h (e▸hp.symm)
def fy(d:PyData):Bool:=isI d&&!MT d
def z8:Sp:=λvs H Q _=>∃x d,vs=[x]/\Dat H x d/\Q (.bl (eO d)) H
def zb:Sp:=λvs H Q _=>∃x d,vs=[x]/\Dat H x d/\∀H',aV H H'->Q (.bl (kJ d)) H'
def rq{K:WG}{H:Hp}{x:V}{d:PyData}{Q:VK}{E:XK}(h:Dat H x d)(q:Q (.bl (fy d)) H):rT K [x] H Q E:=
 ⟨x,_,isI d,MT d,rfl,h.ty,by cases h<;>rfl,by cases h<;>rfl,q⟩
def vg{H:Hp}{xs:List V}{d e:PyData}(h:gS H xs [d,e]):∃x y,xs=[x,y]/\Dat H x d/\Dat H y e:=by
 cases h with
 | cons h1 h2=>
  cases h2 with
  | cons h3 h4=>cases h4;exact⟨_,_,rfl,h1,h3⟩
def ES{H:Hp}{x:V}{d:PyData}(h:Dat H x d)(hb:eO d=true):∃a,x=.ref a/\bi H a (dQ d):=by
 obtain⟨e,_⟩:=p9 hb;rw[e] at h;unfold jB at h;cases h with
 | tup h1 h2=>
  obtain⟨u,v,rfl,hu,hv⟩:=vg h2;cases hu;cases hv;exact⟨_,rfl,h1⟩
def xY{H:Hp}{l:Addr}{ps:List Bw}(h:c7 H l ps):Dat H (.ref l) (mT ps):=by
 obtain⟨as,h1,h2⟩:=h;refine .lst h1 ?_;clear h1
 induction h2 with
 | nil=>exact .nil
 | cons r t ih=>exact .cons (.tup r (.cons (.int _) (.cons (.int _) .nil))) ih
def xH(ps:List Bw):kJ (mT ps)=(decide (2*ps.length<=40)&&(ps.all (λp=>decide (p.1<p.2))&&rD ps)):=by
 show (decide (2*(ps.map jB).length<=40)&&((ps.map jB).all eO&&rD ((ps.map jB).map dQ)))=_;rw[aD,bS,mG];have e:(dQ∘jB)=id:=rfl;rw[e,f6];rfl
end Rm
namespace Rm
structure rg (bs:List Bool) (i:Nat) (ws:List Nat) (bows:List (Nat×Nat)):Prop where
 at_:∀ (j p:Nat),ws[j]? = some p->p<i/\bs[p]? = some true/\D bs p=j/\∀ q,p<q->q<=i->D bs p<D bs q
 wlen:(ws.length:Int)=D bs i
 mate:∀ b∈bows,nT bs b.1 b.2/\b.2<i
 all:∀ p,p<i->bs[p]? = some true->p∈ws\/∃ m,(p,m)∈bows
 inc:bows.Pairwise (fun a b=>a.2<b.2)
 il:i<=bs.length
 len:ws.length+2 * bows.length=i
def rg.start(bs:List Bool):rg bs 0 [] []:=
 ⟨λj p h=>by simp at h,by simp[D],(λb h=>nomatch h),λp h=>by lia,.nil,ac _,rfl⟩
def rg.opens{bs:List Bool}{i:Nat}{ws:List Nat}{bows:List (Nat×Nat)}(S:rg bs i ws bows)(h:bs[i]? = some true):rg bs (i+1) (ws++[i]) bows:=by
 have hs:=nY h;simp only[dl,WE] at hs;have hl:=S.wlen;refine⟨λj p hj=>?_,?_,λb hb=>⟨(S.mate b hb).1,by have:=(S.mate b hb).2;lia⟩,λp hp ho=>?_,S.inc,(aH.mp h).1,by have:=S.len;simp only[aU,bu];lia⟩
 ·by_cases e:j<ws.length
  ·rw[cu e] at hj;obtain⟨h1,h2,h3,h4⟩:=S.at_ j p hj;refine⟨by lia,h2,h3,λq a b=>?_⟩;by_cases c:q<=i
   ·exact h4 q a c
   ·have:q=i+1:=by lia
    subst this;have:=h4 i (by lia) (aJ _);lia
  ·rw[cG (by lia)] at hj;have hj0:j-ws.length=0:=by
    have:=(aH.mp hj).1;simp at this;lia
   rw[hj0] at hj;have:p=i:=by simpa using hj.symm
   subst this;refine⟨by lia,h,by lia,λq a b=>?_⟩;have:q=p+1:=by lia
   subst this;lia
 ·simp only[aU,bu];lia
 ·by_cases e:p=i
  ·subst e;exact .inl (by simp)
  ·rcases S.all p (by lia) ho with z | z
   ·exact .inl (bH _ z)
   ·exact .inr z
def rg.has{bs:List Bool}{i:Nat}{ws:List Nat}{bows:List (Nat×Nat)}(S:rg bs i ws bows)(b:rh bs)(h:bs[i]? = some false):∃ws' p,ws=ws'++[p]:=by
 have hs:=nY h;simp only[dl,cT,WF] at hs;have hl:=S.wlen;have hi:=(aH.mp h).1;have:=b.nn (i+1) (by lia);have hne:ws≠[]:=λe=>by rw[e] at hl;simp at hl;lia
 exact⟨ws.dropLast,ws.getLast hne,(List.dropLast_concat_getLast hne).symm⟩
def rg.closes{bs:List Bool}{i p:Nat}{ws:List Nat}{bows:List (Nat×Nat)}(S:rg bs i (ws++[p]) bows)(h:bs[i]? = some false):rg bs (i+1) ws (bows++[(p,i)]):=by
 have hs:=nY h;simp only[dl,cT,WF] at hs;have hl:=S.wlen;simp only[aU,bu] at hl;obtain⟨p1,p2,p3,p4⟩:=S.at_ ws.length p (by simp);have hi:=(aH.mp h).1;have M:nT bs p i:=⟨p1,hi,p2,h,by lia,p4⟩
 refine⟨λj q hj=>?_,by lia,λb hb=>?_,λq hq ho=>?_,?_,hi,by have:=S.len;simp only[aU,bu] at this ⊢;lia⟩
 ·have hjl:=(aH.mp hj).1;obtain⟨h1,h2,h3,h4⟩:=S.at_ j q (by rw[cu hjl];exact hj);refine⟨by lia,h2,h3,λx a b=>?_⟩;by_cases c:x<=i
  ·exact h4 x a c
  ·have:x=i+1:=by lia
   subst this;lia
 ·rcases a9.mp hb with hb | hb
  ·exact⟨(S.mate b hb).1,by have:=(S.mate b hb).2;lia⟩
  ·have:b=(p,i):=by simpa using hb
   subst this;exact⟨M,gj i⟩
 ·by_cases e:q=i
  ·subst e;rw[h] at ho;simp at ho
  ·rcases S.all q (by lia) ho with z | ⟨m,z⟩
   ·rcases a9.mp z with z | z
    ·exact .inl z
    ·have:q=p:=by simpa using z
     subst this;exact .inr ⟨i,by simp⟩
   ·exact .inr ⟨m,bH _ z⟩
 ·refine dq.mpr ⟨S.inc,by simp,λa ha b hb=>?_⟩;have:b=(p,i):=by simpa using hb
  subst this;exact(S.mate a ha).2
def rg.mem{bs:List Bool}{ws:List Nat}{bows ms:List (Nat×Nat)}(S:rg bs bs.length ws bows)(b:rh bs)(M:jQ bs bs.length ms)(x:Nat×Nat):x∈bows<->x∈ms:=by
 have hw:ws=[]:=by
  have:=S.wlen;rw[b.z] at this;exact dE (by lia)
 subst hw;refine⟨λh=>?_,λh=>?_⟩
 ·obtain⟨m,_⟩:=S.mate x h;have hx:=(aH.mp m.op).1;obtain⟨y,hy⟩:=M.all x.1 hx m.op;have:=m.uniq (M.mate _ hy).1;rw[show x=(x.1,y) from lP rfl this];exact hy
 ·obtain⟨m,hx⟩:=M.mate x h;rcases S.all x.1 hx m.op with z | ⟨y,hy⟩
  ·exact nomatch z
  ·have:=m.uniq (S.mate _ hy).1;rw[show x=(x.1,y) from lP rfl this];exact hy
def AC:∀(xs ys:List (Nat×Nat)),xs.Pairwise (λa b=>a.1<b.1)->ys.Pairwise (λa b=>a.1<b.1)->(∀x,x∈xs<->x∈ys)->xs=ys
 | [],[],_,_,_=>rfl
 | [],y::ys,_,_,h=>absurd ((h y).mpr a7) (by simp)
 | x::xs,[],_,_,h=>absurd ((h x).mp a7) (by simp)
 | x::xs,y::ys,hx,hy,h=>by
  obtain⟨hx1,hx2⟩:=iJ.mp hx;obtain⟨hy1,hy2⟩:=iJ.mp hy;have e:x=y:=by
   rcases aL.mp ((h x).mp a7) with e | e
   ·exact e
   ·rcases aL.mp ((h y).mpr a7) with e' | e'
    ·exact e'.symm
    ·have:=hx1 y e';have:=hy1 x e;lia
  subst e;congr 1;refine AC xs ys hx2 hy2 λz=>⟨λhz=>?_,λhz=>?_⟩
  ·rcases aL.mp ((h z).mp (aM _ hz)) with e | e
   ·subst e;have:=hx1 z hz;lia
   ·exact e
  ·rcases aL.mp ((h z).mpr (aM _ hz)) with e | e
   ·subst e;have:=hy1 z hz;lia
   ·exact e
def rg.sorted{bs:List Bool}{ws:List Nat}{bows ms out:List (Nat×Nat)}(S:rg bs bs.length ws bows)(b:rh bs)(M:jQ bs bs.length ms)(hp:out.Perm bows)
  (hs:out.Pairwise (λa b=>a.1<b.1\/a.1=b.1/\a.2<=b.2)):out=ms:=by
 refine AC out ms ?_ M.inc λx=>(hp.mem_iff).trans (S.mem b M x);have nd:bows.Nodup:=S.inc.imp fun {a b} h e=>by rw[e] at h;lia
 have nd':out.Nodup:=(hp.nodup_iff).mpr nd;have key:∀l:List (Nat×Nat),(∀x∈l,nT bs x.1 x.2)->l.Nodup->l.Pairwise (λa b=>a.1<b.1\/a.1=b.1/\a.2<=b.2)->l.Pairwise (λa b=>a.1<b.1):=by
  intro l hm hn hq
  induction l with
  | nil=>exact .nil
  | cons a l ih=>
   obtain⟨h1,h2⟩:=iJ.mp hq;obtain⟨n1,n2⟩:=cX.mp hn;refine iJ.mpr ⟨λc hc=>?_,ih (λx hx=>hm x (aM _ hx)) n2 h2⟩;rcases h1 c hc with z | ⟨z,_⟩
   ·exact z
   ·have ma:=hm a a7;have mc:=hm c (aM _ hc);rw[<-z] at mc;have e:=ma.uniq mc;exact absurd (show c∈l from hc) (by rw[show c=a from lP z.symm e.symm];exact n1)
 exact key out (λx hx=>(S.mate x (hp.mem_iff.mp hx)).1) nd' hs
end Rm
namespace Rm
open PySem L2
def rg.ex{bs:List Bool}(b:rh bs):∀i,i<=bs.length->∃ws bw,rg bs i ws bw/\∀q,q<i->bs[q]? = some false->∃p,(p,q)∈bw
 | 0,_=>⟨[],[],rg.start bs,λq h=>by lia⟩
 | i+1,hi=>by
  obtain⟨ws,bw,S,c⟩:=rg.ex b i (by lia);have hb:bs[i]? = some bs[i]:=aS (by lia);cases e:bs[i] with
  | true=>
   rw[e] at hb;refine⟨_,_,S.opens hb,λq hq hf=>?_⟩;by_cases z:q=i
   ·subst z;rw[hb] at hf;cases hf
   ·exact c q (by lia) hf
  | false=>
   rw[e] at hb;obtain⟨ws',p,rfl⟩:=S.has b hb;refine⟨_,_,S.closes hb,λq hq hf=>?_⟩;by_cases z:q=i
   ·subst z;exact⟨p,by simp⟩
   ·obtain⟨p',hp⟩:=c q (by lia) hf;exact⟨p',bH _ hp⟩
def jQ.closed{bs:List Bool}{ms:List (Nat×Nat)}(M:jQ bs bs.length ms)(b:rh bs){q:Nat}(h:bs[q]? = some false):∃p,(p,q)∈ms:=by
 obtain⟨ws,bw,S,c⟩:=rg.ex b bs.length (aJ _);obtain⟨p,hp⟩:=c q (aH.mp h).1 h;exact⟨p,(S.mem b M (p,q)).mp hp⟩
def jQ.count{bs:List Bool}{ms:List (Nat×Nat)}(M:jQ bs bs.length ms)(b:rh bs):2*ms.length=bs.length:=by
 obtain⟨ws,bw,S,c⟩:=rg.ex b bs.length (aJ _);have hw:ws=[]:=by
  have:=S.wlen;rw[b.z] at this;exact dE (by lia)
 subst hw;have hl:=S.len;have nd1:bw.Nodup:=S.inc.imp fun {a b} h e=>by rw[e] at h;lia
 have nd2:ms.Nodup:=M.inc.imp fun {a b} h e=>by rw[e] at h;lia
 have hp:bw.Perm ms:=by
  rw[List.perm_iff_count];intro x;rw[nd1.count,nd2.count];by_cases h:x∈bw
  ·rw[Vz h,Vz ((S.mem b M x).mp h)]
  ·rw[Vy h,Vy (λz=>h ((S.mem b M x).mpr z))]
 have:=hp.length_eq;simp at hl;lia
def eM(ps:List Bw):List Bool:=(List.range (2*ps.length)).map λe:Nat=>decide ((e:Int)∈ps.map (·.1))
def sgn (b:Bool):Str:=if b then Str.ofString "(" else Str.ofString ")"
def rW(b:Bool):(sgn b).cps=#[AN b]:=by
 unfold sgn;cases b
 ·rw[Vy ax,uE];rfl
 ·rw[Vz rfl,sH];rfl
def uZ:∀(bs:List Bool) (acc:Array Nat),(bs.map sgn).foldl (λacc p=>acc++(Str.ofString "").cps++p.cps) acc=acc++(bs.map AN).toArray
 | [],acc=>by simp
 | b::bs,acc=>by
  rw[bC,mX,uZ bs,rW,uz];simp
def xC (bs:List Bool):Txt.join (Str.ofString "") (bs.map sgn)=wd bs:=by
 cases bs with
 | nil=>rfl
 | cons b bs=>
  show Str.mk (((((b::bs).map sgn).drop 1).foldl (λacc p=>acc++(Str.ofString "").cps++p.cps) (((b::bs).map sgn).headD Str.empty).cps))=_;rw[bC,List.drop_one,List.tail_cons,List.headD_cons,uZ,rW];simp[wd]
end Rm
namespace L2
open PySem PySem.Spec PyProof.Rows
def jw{c:Prop} [Decidable c] {A B:Prop} (h:¬c) (b:B):if c then A else B:=by rw[Vy h];exact b
def mQ{c:Prop} [Decidable c] {A B:Prop} (h:c) (a:A):if c then A else B:=by rw[Vz h];exact a
section
variable {X:Cx} {K:WG}
def Dn(h:X.K=K):Jx X (IX K):=h▸cP
def pZ(h:X.K=K):Jx X (Ek K):=h▸b6
def FW(h:X.K=K)(hu:X.A.units+64<cLine):mV X (compareOp .In) (Cp K false):=h▸v8 hu
def tm (h:X.K=K):gT X (.builtin "len") (λxs H Q=>∃p ys,xs=[.ref p]/\(cW K H p ys\/c8 K H p ys)/\Q (.int ys.length) H):=h▸bR
end
def zF (o:Obj) (xs:List Str):Prop:=o.cls=.type "tuple"/\∃its n,o.data=.seq its n/\its.size<=sizeLine/\cE (xs.map V.str) its.toList
def A4 {o:Obj} {xs:List Str} {its:Array Value} {n:Nat} (h1:o.cls=.type "tuple") (h2:o.data=.seq its n) (h3:its.size<=sizeLine) (h4:cE (xs.map V.str) its.toList):zF o xs:=⟨h1,its,n,h2,h3,h4⟩
def Dt{K:WG}{h:Heap}{mg:Str->Option Value}{x:Str}{a:Addr}{o:Obj}{xs:List Str}(X:K.In h)(G:h.Ns mainGlobals mg)(y:PySem.W.nsIn K mainGlobals x=some (some (.ref a)))(l:K.lookup a=some o)(t:zF o xs):
  ∃a,mg x=some (.ref a)/\∀H,c8 K H a (xs.map V.str):=by
 obtain⟨h1,its,n,h2,h3,h4⟩:=t;exact⟨a,be X G y,λH=>.inr ⟨o,its,n,l,h1,h2,h3,h4⟩⟩
def xt(K:WG)(xs:List V):TE:=λ_ H Q=>∀a,(∀H,c8 K H a xs)->Q (.ref a) H
def DN {X:Cx} {x:Str} {K:WG} {xs:List V} {pos:Pos} (hg:Gl X x) (hm:∃a,X.mg x=some (.ref a)/\∀H,c8 K H a xs) (hd:(x==("__debug__":Str))=false:=by decide):PE X (.Name x pos) (xt K xs):=by
 obtain⟨a,h1,h2⟩:=hm;intro pins s σ H Q I h;exact vV (v:=.ref a) hg h1 rfl hd pins s σ H Q I (h a h2)
def E6{K:WG}{xs:List V}{σ:St}{H:Hp}{Q:VK}:xt K xs σ H Q=∀a,(∀H,c8 K H a xs)->Q (.ref a) H:=rfl
def IG(t u:TS):TS:=λD σ H=>∃J:St->Hp->Prop,t { D with nx:=J } σ H/\∀σ' H',J σ' H'->u D σ' H'
def Ew{X:Cx}{st:Stmt}{rest:List Stmt}{t u:TS}(h1:PS X st t)(h2:ut X rest u):ut X (st::rest) (IG t u):=by
 intro pins s σ H D I h;obtain⟨J,h,hJ⟩:=h;refine V6 (dZ (h1 pins s σ H { D with nx:=J } I h) λf s1 q=>?_);cases f with
 | next=>
  obtain⟨σ',H',I',q⟩:=q;exact h2 pins s1 σ' H' D I' (hJ _ _ q)
 | ret v=>exact q
 | brk=>exact q
 | cont=>exact q
section
variable {X:Cx} {es:List Expr} {te:TE} {t:TA}
def DY{a0:PySem.Expr}{a1:PySem.Operator}{a2:PySem.Expr}{a3:PySem.Pos}(ha:PE X (Expr.BinOp a0 a1 a2 a3) te)(hr:PA X es t):PA X ((Expr.BinOp a0 a1 a2 a3)::es) (fL te t):=gb ha hr rfl
def yU{a0:PySem.UnaryOp}{a1:PySem.Expr}{a2:PySem.Pos}(ha:PE X (Expr.UnaryOp a0 a1 a2) te)(hr:PA X es t):PA X ((Expr.UnaryOp a0 a1 a2)::es) (fL te t):=gb ha hr rfl
def wc{a0:PySem.Expr}{a1:List Comprehension}{a2:PySem.Scope}{a3:PySem.Pos}(ha:PE X (Expr.ListComp a0 a1 a2 a3) te)(hr:PA X es t):PA X ((Expr.ListComp a0 a1 a2 a3)::es) (fL te t):=gb ha hr rfl
def yV{a0:PySem.Expr}{a1:List CmpOp}{a2:List Expr}{a3:PySem.Pos}(ha:PE X (Expr.Compare a0 a1 a2 a3) te)(hr:PA X es t):PA X ((Expr.Compare a0 a1 a2 a3)::es) (fL te t):=gb ha hr rfl
def FU{a0:PySem.Expr}{a1:List Expr}{a2:List Keyword}{a3:PySem.Pos}(ha:PE X (Expr.Call a0 a1 a2 a3) te)(hr:PA X es t):PA X ((Expr.Call a0 a1 a2 a3)::es) (fL te t):=gb ha hr rfl
def we{a0:PySem.Const}{a1:Nat}{a2:PySem.Pos}(ha:PE X (Expr.Constant a0 a1 a2) te)(hr:PA X es t):PA X ((Expr.Constant a0 a1 a2)::es) (fL te t):=gb ha hr rfl
def vY{a0:PySem.Expr}{a1:PySem.Str}{a2:PySem.Pos}(ha:PE X (Expr.Attribute a0 a1 a2) te)(hr:PA X es t):PA X ((Expr.Attribute a0 a1 a2)::es) (fL te t):=gb ha hr rfl
def vX{a0:PySem.Expr}{a1:PySem.Expr}{a2:PySem.Pos}(ha:PE X (Expr.Subscript a0 a1 a2) te)(hr:PA X es t):PA X ((Expr.Subscript a0 a1 a2)::es) (fL te t):=gb ha hr rfl
def FR{a0:PySem.Str}{a1:PySem.Pos}(ha:PE X (Expr.Name a0 a1) te)(hr:PA X es t):PA X ((Expr.Name a0 a1)::es) (fL te t):=gb ha hr rfl
def FS{a0:List Expr}{a1:PySem.Pos}(ha:PE X (Expr.List a0 a1) te)(hr:PA X es t):PA X ((Expr.List a0 a1)::es) (fL te t):=gb ha hr rfl
def DX{a0:List Expr}{a1:Nat}{a2:PySem.Pos}(ha:PE X (Expr.Tuple a0 a1 a2) te)(hr:PA X es t):PA X ((Expr.Tuple a0 a1 a2)::es) (fL te t):=gb ha hr rfl
def FT{a0:List (Option Expr)}{a1:List Expr}{a2:PySem.Pos}(ha:PE X (Expr.Dict a0 a1 a2) te)(hr:PA X es t):PA X ((Expr.Dict a0 a1 a2)::es) (fL te t):=gb ha hr rfl
end
def Bv{to ti:TE}{t:EU}{v:V}{σ:St}{H:Hp}{q:St->Hp->Prop}:Jf to ti t v σ H q=to σ H λo H1=>ti σ H1 λi H2=>t o i v H2 λH3=>q σ H3:=rfl
def cJ{t u:TS}{D:Ends}{σ:St}{H:Hp}(J:St->Hp->Prop)(h1:t { nx:=J,rt:=D.rt,bk:=D.bk,ct:=D.ct } σ H)(h2:∀σ' H',J σ' H'->u D σ' H'):IG t u D σ H:=⟨J,h1,h2⟩
end L2
namespace Rm
open PySem PySem.W PyProof.Rows
section
variable {r:Nat->Int} {N:Nat} {cmp:Nat->Nat->(Bool->Shared->Prop)->Shared->Prop} {s:Shared}
def Told(r:Nat->Int)(N:Nat)(cmp:Nat->Nat->(Bool->Shared->Prop)->Shared->Prop)(s:Shared):Prop:=
 ∀i j,i<N->j<N->∀C:Bool->Shared->Prop,C (decide (r i<r j)) s->cmp i j C s
def In(N:Nat)(p:Array Nat):Prop:=p.size=N/\∀i,p.getD i 0<N
def Kk(r:Nat->Int)(p:Array Nat)(i:Nat):Int:=r (p.getD i 0)
def xg(r:Nat->Int)(p:Array Nat)(k:Nat):Prop:=∀i j,i<=j->j<k->Kk r p i<=Kk r p j
def HQ(r:Nat->Int)(p:Array Nat)(k:Nat):Prop:=∀i j,i<=j->j<k->Kk r p j<=Kk r p i
def nV{p q:Array Nat}{i j:Nat}(h:p[i]? = q[j]?):Kk r p i=Kk r q j:=by
 unfold Kk;rw[cU,cU,h]
def vo{p:Array Nat}{i j:Nat}(hj:j<=p.size)(k:Nat):Kk r (kas_rev p i j) k=if i<=k/\k<j then Kk r p (i+j - 1-k) else Kk r p k:=by
 have e:=getElem?_mirror_all (i:=i) hj k;unfold kas_rev;by_cases h1:i<=k/\k<j
 ·rw[Vz h1] at e ⊢;exact nV e
 ·rw[Vy h1] at e ⊢;exact nV e
def uu{p:Array Nat}{src d:Nat}(hs:src<p.size)(hd:d<=src)(k:Nat):Kk r (bubble p src d) k=if k=src-d then Kk r p src else if src-d<k/\k<=src then Kk r p (k - 1) else Kk r p k:=by
 have e:=getElem?_bubble hs d hd k;by_cases h1:k=src-d
 ·rw[Vz h1] at e ⊢;exact nV e
 ·rw[Vy h1] at e ⊢;by_cases h2:src-d<k/\k<=src
  ·rw[Vz h2] at e ⊢;exact nV e
  ·rw[Vy h2] at e ⊢;exact nV e
def In.of_perm{p q:Array Nat}(h:In N p)(hp:q.Perm p):In N q:=by
 refine⟨hp.size_eq.trans h.1,λi=>?_⟩;rw[cU];cases e:q[i]? with
 | none=>
  have:=h.2 N;rw[cU,mM (mD h.1)] at this;exact this
 | some x=>
  have hx:x∈q:=mx e;have hx':x∈p:=hp.mem_iff.mp hx;obtain⟨j,hj,rfl⟩:=Array.mem_iff_getElem.mp hx';have:=h.2 j;rw[cU,ef hj] at this;exact this
def In.rev{p:Array Nat}(h:In N p)(i j:Nat):In N (kas_rev p i j):=h.of_perm (Vj _ _ _ _)
def tP(T:Told r N cmp s){G:Nat->Shared->Prop}{p:Array Nat}(hp:In N p):∀(f n:Nat),1<=n->xg r p n->(∀m,n<=m->m<=n+f->xg r p m->(m<n+f->Kk r p m<Kk r p (m - 1))->G m s)->(kas_asc p f n).kasWp cmp G s
 | 0,n,_,ha,hG=>hG n (aJ _) (aJ _) ha (λh=>absurd h (by lia))
 | f+1,n,h1,ha,hG=>by
  refine T _ _ (hp.2 _) (hp.2 _) _ ?_;by_cases c:Kk r p n<Kk r p (n - 1)
  ·have c':r (p.getD n 0)<r (p.getD (n - 1) 0):=c;rw[WC c'];exact hG n (aJ _) (by lia) ha λ_=>c
  ·have c':¬r (p.getD n 0)<r (p.getD (n - 1) 0):=c;rw[WB c'];refine tP T hp f (n+1) (by lia) (λi j hij hj=>?_) λm a b c2 d=>hG m (by lia) (by lia) c2 λe=>d (by lia);by_cases e:j=n
   ·subst e;by_cases e2:i=j
    ·subst e2;exact fI _
    ·have:=ha i (j - 1) (by lia) (by lia);lia
   ·exact ha i j hij (by lia)
def Jr(r:Nat->Int)(p:Array Nat)(n q:Nat):Prop:=q<n/\∀k,n-(q+1)<=k->k<n->Kk r p k=Kk r p (n - 1)
def wW{p:Array Nat}{n q:Nat}(hn:n<=p.size)(h:Jr r p n q)(k:Nat):Kk r (kas_rev p (n-(q+1)) n) k=Kk r p k:=by
 rw[vo hn]
 split
 ·rw[h.2 _ (by have:=h.1;lia) (by lia),h.2 k (by lia) (by lia)]
 ·rfl
def HQ.same{p p':Array Nat}{n:Nat}(h:HQ r p n)(e:∀k,Kk r p' k=Kk r p k):HQ r p' n:=λi j a b=>by rw[e,e];exact h i j a b
def qd(T:Told r N cmp s){G:Array Nat×Nat×Nat->Shared->Prop}:∀(f:Nat) (p:Array Nat) (n q:Nat),In N p->n+f<=N->HQ r p n->Jr r p n q →
  (∀p' n' q',p'.Perm p->n<=n'->n'<=n+f->HQ r p' n'->Jr r p' n' q'->G (p',n',q') s)->(kas_desc f p n q).kasWp cmp G s
 | 0,p,n,q,_,_,hd,ht,hG=>hG p n q (.refl _) (aJ _) (aJ _) hd ht
 | f+1,p,n,q,hp,hN,hd,ht,hG=>by
  refine T _ _ (hp.2 _) (hp.2 _) _ ?_;by_cases c:Kk r p n<Kk r p (n - 1)
  ·have c':r (p.getD n 0)<r (p.getD (n - 1) 0):=c;rw[WC c'];have hq:=ht.1;have grow:∀p':Array Nat,p'.Perm p->(∀k,Kk r p' k=Kk r p k)->(kas_desc f p' (n+1) 0).kasWp cmp G s:=λp' hpp e=>by
    refine qd T f p' (n+1) 0 (hp.of_perm hpp) (by lia) (λi j hij hj=>?_) ⟨by lia,λk h1 h2=>by have e9:k=n:=(by lia);rw[e9];rfl⟩ λp2 n2 q2 a b c2 d e2=>hG p2 n2 q2 (a.trans hpp) (by lia) (by lia) d e2;rw[e,e];by_cases e3:j=n
    ·subst e3;by_cases e4:i=j
     ·subst e4;exact fI _
     ·have:=hd i (j - 1) (by lia) (by lia);lia
    ·exact hd i j hij (by lia)
   show KasT.kasWp cmp (if true=true then (if q > 0 then kas_desc f (kas_rev p (n-(q+1)) n) (n+1) 0 else kas_desc f p (n+1) 0) else _) G s;rw[Vz rfl]
   split
   ·exact grow _ (Vj _ _ _ _) (wW (by rw[hp.1];lia) ht)
   ·exact grow p (.refl _) λ_=>rfl
  ·have c':¬r (p.getD n 0)<r (p.getD (n - 1) 0):=c;rw[WB c'];show KasT.kasWp cmp (if false=true then _ else KasT.ask (p.getD (n - 1) 0) (p.getD n 0) λd=>if d=true then .ret (p,n,q) else kas_desc f p (n+1) (q+1)) G s;rw[Vy (by simp)];refine T _ _ (hp.2 _) (hp.2 _) _ ?_;by_cases d:Kk r p (n - 1)<Kk r p n
   ·have d':r (p.getD (n - 1) 0)<r (p.getD n 0):=d;rw[WC d'];exact hG p n q (.refl _) (aJ _) (by lia) hd ht
   ·have d':¬r (p.getD (n - 1) 0)<r (p.getD n 0):=d;rw[WB d'];have hq:=ht.1;have eq:Kk r p n=Kk r p (n - 1):=by lia
    refine qd T f p (n+1) (q+1) hp (by lia) (λi j hij hj=>?_) ⟨by lia,λk h1 h2=>?_⟩ λp2 n2 q2 a b c2 d2 e2=>hG p2 n2 q2 a (by lia) (by lia) d2 e2
    ·by_cases e3:j=n
     ·subst e3;by_cases e4:i=j
      ·subst e4;exact fI _
      ·have:=hd i (j - 1) (by lia) (by lia);lia
     ·exact hd i j hij (by lia)
    ·show Kk r p k=Kk r p n;by_cases e3:k=n
     ·rw[e3]
     ·rw[eq];exact ht.2 k (by lia) (by lia)
def KO(r:Nat->Int)(p:Array Nat)(nrem:Nat)(G:Nat×Array Nat->Shared->Prop)(s:Shared):Prop:=∀n p',p'.Perm p->1<=n->n<=nrem->xg r p' n->G (n,p') s
def sF(T:Told r N cmp s){G:Nat×Array Nat->Shared->Prop}{p:Array Nat}{n:Nat}(hp:In N p)(h1:1<=n)(hn:n<=N)(hd:HQ r p n)(hG:KO r p N G s):(kas_tail3 n N p).kasWp cmp G s:=by
 unfold kas_tail3;rw[KasT.kasWp_bind];refine tP T (hp.rev 0 n) (N-n) n h1 (λi j hij hj=>?_) λm a b c _=>hG m _ (Vj _ _ _ _) (by lia) (by lia) c;rw[vo (by rw[hp.1];exact hn),vo (by rw[hp.1];exact hn),Vz (by lia),Vz (by lia)];exact hd _ _ (by lia) (by lia)
def KO.perm{p q:Array Nat}{G:Nat×Array Nat->Shared->Prop}(h:KO r p N G s)(hp:q.Perm p):KO r q N G s:=λn p' a b c d=>h n p' (a.trans hp) b c d
def oV(T:Told r N cmp s){G:Nat×Array Nat->Shared->Prop}{p:Array Nat}{n:Nat}(hp:In N p)(hn:n+1<=N)(h1:1<=n)(hd:HQ r p (n+1))(hG:KO r p N G s):(kas_descPart n N p).kasWp cmp G s:=by
 unfold kas_descPart;rw[KasT.kasWp_bind];refine qd T _ p (n+1) 0 hp (by lia) hd ⟨by lia,λk a b=>by have e9:k=n:=(by lia);rw[e9];rfl⟩ λp' n' q' a b c d e=>?_;dsimp only;have hp':=hp.of_perm a
 split
 ·exact sF T (hp'.rev _ _) (by lia) (by lia) (d.same (wW (by rw[hp'.1];lia) e)) (hG.perm ((Vj _ _ _ _).trans a))
 ·exact sF T hp' (by lia) (by lia) d (hG.perm a)
def yx(T:Told r N cmp s){G:Nat×Array Nat->Shared->Prop}{p:Array Nat}(hp:In N p)(hN:1<=N)(hG:KO r p N G s):(kas_count N p).kasWp cmp G s:=by
 unfold kas_count;rw[KasT.kasWp_bind];refine tP T hp (N - 1) 1 (aJ _) (λi j a b=>by have e9:i=j:=(by lia);rw[e9];exact fI _) λn h1 h2 ha hb=>?_;by_cases e:n=N
 ·subst e;rw[Vz (by simp)];exact hG n p (.refl _) h1 (aJ _) ha
 ·rw[Vy (by simp[e])];have hlt:=hb (by lia)
  split
  ·refine T _ _ (hp.2 _) (hp.2 _) _ ?_;by_cases c:Kk r p 0<Kk r p (n - 1)
   ·have c':r (p.getD 0 0)<r (p.getD (n - 1) 0):=c;rw[WC c'];exact hG n p (.refl _) h1 (by lia) ha
   ·have c':¬r (p.getD 0 0)<r (p.getD (n - 1) 0):=c;rw[WB c'];have alike:∀k,k<n->Kk r p k=Kk r p (n - 1):=λk hk=>by
     have a1:=ha 0 k (by lia) hk;have a2:=ha k (n - 1) (by lia) (by lia);lia
    have same:∀k,Kk r (kas_rev p 0 n) k=Kk r p k:=λk=>by
     rw[vo (by rw[hp.1];lia)]
     split
     ·rw[alike _ (by lia),alike k (by lia)]
     ·rfl
    refine oV T (hp.rev 0 n) (by lia) h1 (HQ.same (p:=p) (λi j hij hj=>?_) same) (hG.perm (Vj _ _ _ _));by_cases e3:j=n
    ·subst e3;by_cases e4:i=j
     ·subst e4;exact fI _
     ·rw[alike i (by lia)];lia
    ·rw[alike i (by lia),alike j (by lia)];exact fI _
  ·have:n=1:=by lia
   subst this;refine oV T hp (by lia) (aJ _) (λi j hij hj=>?_) hG;have hj':j=0\/j=1:=by lia
   have hi':i=0\/i=1:=by lia
   rcases hj' with rfl | rfl<;>rcases hi' with rfl | rfl
   ·exact fI _
   ·lia
   ·have:Kk r p 1<Kk r p 0:=hlt;lia
   ·exact fI _
def place_spec(T:Told r N cmp s){G:Nat->Shared->Prop}{p:Array Nat}{k:Nat}(hp:In N p)(hs:xg r p k):∀(f l e:Nat),e<=k->e<=l+f->l<=e->(∀i,i<l->Kk r p i<=Kk r p k)->(∀i,e<=i->i<k->Kk r p k<Kk r p i) →
  (∀l,l<=k->(∀i,i<l->Kk r p i<=Kk r p k)->(∀i,l<=i->i<k->Kk r p k<Kk r p i)->G l s)->(kas_place p k f l e).kasWp cmp G s
 | 0,l,e,h1,h2,h3,h4,h5,hG=>by
  have:l=e:=by lia
  subst this;exact hG l h1 h4 h5
 | f+1,l,e,h1,h2,h3,h4,h5,hG=>by
  unfold kas_place
  split
  ·have:l=e:=by lia
   subst this;exact hG l h1 h4 h5
  ·refine T _ _ (hp.2 _) (hp.2 _) _ ?_;by_cases c:Kk r p k<Kk r p ((l+e) / 2)
   ·have c':r (p.getD k 0)<r (p.getD ((l+e) / 2) 0):=c;rw[WC c'];refine place_spec T hp hs f l ((l+e) / 2) (by lia) (by lia) (by lia) h4 (λi a b=>?_) hG;have:=hs ((l+e) / 2) i a b;lia
   ·have c':¬r (p.getD k 0)<r (p.getD ((l+e) / 2) 0):=c;rw[WB c'];refine place_spec T hp hs f ((l+e) / 2+1) e h1 (by lia) (by lia) (λi a=>?_) h5 hG;have:=hs i ((l+e) / 2) (by lia) (by lia);lia
def zD{p:Array Nat}{k l:Nat}(hk:k<p.size)(hs:xg r p k)(hl:l<=k)(h1:∀i,i<l->Kk r p i<=Kk r p k)(h2:∀i,l<=i->i<k->Kk r p k<Kk r p i):xg r (bubble p k (k-l)) (k+1):=λi j hij hj=>by
 rw[uu hk (by lia),uu hk (by lia)];have e:k-(k-l)=l:=by lia
 rw[e];by_cases i1:i=l
 ·rw[Vz i1];by_cases j1:j=l
  ·rw[Vz j1];exact fI _
  ·rw[Vy j1,Vz (by lia)];have:=h2 (j - 1) (by lia) (by lia);lia
 ·rw[Vy i1];by_cases i2:l<i/\i<=k
  ·rw[Vz i2,Vy (by lia),Vz (by lia)];exact hs _ _ (by lia) (by lia)
  ·rw[Vy i2];by_cases j1:j=l
   ·rw[Vz j1];exact h1 i (by lia)
   ·rw[Vy j1];by_cases j2:l<j/\j<=k
    ·rw[Vz j2];exact hs _ _ (by lia) (by lia)
    ·rw[Vy j2];exact hs _ _ (by lia) (by lia)
def xZ(T:Told r N cmp s){G:Array Nat->Shared->Prop}:∀(f:Nat) (p:Array Nat) (k:Nat),In N p->k+f=N->xg r p k->(∀p',p'.Perm p->xg r p' N->G p' s)->(kas_bin f p k).kasWp cmp G s
 | 0,p,k,hp,hk,hs,hG=>hG p (.refl _) (by have e9:k=N:=(by lia);rw[<-e9];exact hs)
 | f+1,p,k,hp,hk,hs,hG=>by
  unfold kas_bin;rw[KasT.kasWp_bind];refine place_spec T hp hs k 0 k (aJ _) (by lia) (by lia) (λi h=>absurd h (by lia)) (λi h h'=>absurd h' (by lia)) λl h1 h2 h3=>?_;refine xZ T f _ (k+1) (hp.of_perm (bubble_perm _ _ _)) (by lia) (zD (by rw[hp.1];lia) hs h1 h2 h3) λp' a b=>hG p' (a.trans (bubble_perm _ _ _)) b
def A5(T:Told r N cmp s){G:Array Nat->Shared->Prop}(hN:1<=N)(hG:∀p:Array Nat,p.Perm (List.toArray (List.range N))->xg r p N->G p s):(kas_sort N).kasWp cmp G s:=by
 have h0:In N (List.toArray (List.range N)):=⟨by simp,λi=>by
  rw[cU];cases e:(List.toArray (List.range N))[i]? with
  | none=>exact hN
  | some x=>
   have:=mx e;simpa using this⟩
 unfold kas_sort;rw[KasT.kasWp_bind];refine yx T h0 hN λn p a b c d=>?_;dsimp only;have hp:=h0.of_perm a
 split
 ·have e:max n 1=n:=by lia
  rw[e];exact xZ T _ p n hp (by lia) d λp' x y=>hG p' (x.trans a) y
 ·have:n=N:=by lia
  subst this;exact hG p a d
end
section
variable {prog:Program} {w:World} {A:Around} {E:Value->Shared->Prop} {s:Shared}
def kG(vs:List Value)(p:Array Nat):Array Value:=List.toArray (p.toList.map λi=>vs.getD i Value.none)
def A6:∀vs:List Value,vs.length<2->(vs.toArray.zip vs.toArray).map (·.2)=kG vs (List.toArray (List.range vs.length))
 | [],_=>by simp[kG]
 | [v],_=>by simp[kG]
 | _::_::_,h=>by simp at h;lia
def Kp(a:Addr)(h h':Heap):Prop:=∀b o,b≠a->h.get? b=some o->h'.get? b=some o
def tD {a:Addr} {vs:List Value} {n:Nat} {P:PySem.Fin->Shared->Prop} {r:Nat->Int} (κ:SortKind) (ho:s.heap.get? a=some (seqObj "list" vs.toArray n)) (h64:vs.length<64)
  (hk:2<=vs.length->∀(h':Heap) (Q:SortKind->Shared->Prop),Kp a s.heap h'->Q κ { s with heap:=h' }->wpAny (model prog w) A (keyKind' vs.toArray) Q E { s with heap:=h' })
  (hc:∀i j,i<vs.length->j<vs.length->∀(h':Heap) (C:Bool->Shared->Prop),Kp a s.heap h'->C (decide (r i<r j)) { s with heap:=h' }->wpAny (model prog w) A (keyLt' κ (vs.getD i Value.none) (vs.getD j Value.none)) C (λ_ _=>False) { s with heap:=h' })
  (h:∀p:Array Nat,p.Perm (List.toArray (List.range vs.length))->xg r p vs.length->P (.done (.ret .none)) { s with heap:=sortedHeap s.heap a vs (kG vs p) }) :
  wpAny (model prog w) A (Builtin.«list.sort» ⟨[.ref a],[]⟩) P E s:=by
 rw[list_sort_plain];have ha:a<s.heap.objs.size:=aR ho;refine wpAny_bind (listItems_at ho rfl ?_);refine wpAny_bind (listUpdate_at ho rfl ?_);obtain⟨e1,ho1⟩:∃e1,(s.heap.update a (Obj.mapSeq λ_=>#[])).get? a=some (seqObj "list" #[] e1):=⟨_,get?_update_seq ho (λ_=>#[])⟩
 refine wpAny_bind (seqEpoch_at ho1 rfl ?_);refine wpAny_bind (wpAny_newTuple ?_);refine wpAny_bind (wpAny_newList ?_);refine V7 ?_;have ho6:(((s.heap.update a (Obj.mapSeq λ_=>#[])).push (seqObj "tuple" vs.toArray 0)).push (seqObj "list" #[] 0)).get? a=some (seqObj "list" #[] e1):=by
  rw[ic _ _ _ (by rw[size_push',lZ];exact am (dC ha)),ic _ _ _ (by rw[lZ];exact am ha)];exact ho1
 have kp6:Kp a s.heap (((s.heap.update a (Obj.mapSeq λ_=>#[])).push (seqObj "tuple" vs.toArray 0)).push (seqObj "list" #[] 0)):=λb o hb e=>
  aB _ (aB _ (by rw[gw _ _ _ _ hb];exact e))
 show wpAny (model prog w) A _ P E { s with heap:=((s.heap.update a (Obj.mapSeq λ_=>#[])).push (seqObj "tuple" vs.toArray 0)).push (seqObj "list" #[] 0) };dsimp only;have hsz:vs.toArray.size=vs.length:=by simp
 by_cases h2:vs.toArray.size<2
 ·rw[Vz h2,Vz h2];refine wpAny_bind (Va ?_);rw[StateT.run_pure];refine wpAny_bind (Va ?_);dsimp only;refine wpAny_bind (seqEpoch_at ho6 rfl ?_);refine wpAny_bind (listUpdate_at ho6 rfl ?_ (hsz2:=by rw[Array.size_map];show (pairsOf vs).size<=_;rw[pairsOf_size,Vd];lia));simp only[bne_self_eq_false,cT,WF];have e:(arrOf (SortSt.mk' general' (vs.toArray.zip vs.toArray) #[] 7 none)).map (·.2)=kG vs (List.toArray (List.range vs.length)):=by
   exact A6 vs (by lia)
  rw[e];refine Va (h (List.toArray (List.range vs.length)) (Array.Perm.refl _) ?_);intro i j hij hj;have e9:i=j:=by lia
  rw[e9];exact fI _
 ·rw[Vy h2,Vy h2];refine wpAny_bind (hk (by lia) _ _ kp6 ?_);have T:Told r vs.length (kas_ask prog w A κ vs) { s with heap:=((s.heap.update a (Obj.mapSeq λ_=>#[])).push (seqObj "tuple" vs.toArray 0)).push (seqObj "list" #[] 0) }:=λi j hi hj C hC=>hc i j hi hj _ C kp6 hC;refine wpAny_bind (wpAny_mono (kat_run (ks:=vs) (vs:=vs) (Q:=λst' s'=>s'={ s with heap:=((s.heap.update a (Obj.mapSeq λ_=>#[])).push (seqObj "tuple" vs.toArray 0)).push (seqObj "list" #[] 0) }/\∃p:Array Nat,p.size=vs.length/\arrOf st'=p.map (kas_item (vs.toArray.zip vs.toArray))/\failedOf st'=none/\p.Perm (List.toArray (List.range vs.length))/\xg r p vs.length)
   (G:=λp s'=>s'={ s with heap:=((s.heap.update a (Obj.mapSeq λ_=>#[])).push (seqObj "tuple" vs.toArray 0)).push (seqObj "list" #[] 0) }/\p.Perm (List.toArray (List.range vs.length))/\xg r p vs.length)
   rfl (by lia) h64 (λp' st' s' a1 a2 a3 a4=>⟨a4.1,p',a1,a2,a3,a4.2⟩) (A5 T (by lia) λp hp ha=>⟨rfl,hp,ha⟩)) ?_ λ_ _ e=>e)
  rintro⟨⟨⟩,st'⟩ s' ⟨rfl,p,hps,har,hf,hp,hs⟩;dsimp only;have hout:=kat_snds (ks:=vs) (vs:=vs) rfl har;rw[hout];refine wpAny_bind (seqEpoch_at ho6 rfl ?_);refine wpAny_bind (listUpdate_at ho6 rfl ?_ (hsz2:=by rw[aT,aD,jb,hps,Vd];lia));rw[hf];simp only[bne_self_eq_false,cT,WF];exact Va (h p hp hs)
def mz {l:Addr} {vs:List Value} {Q:Value->Shared->Prop} {r:Nat->Int} (κ:SortKind) (hcol:∀(A:Around) (E:Value->Shared->Prop) (Q:List Value->Shared->Prop),Q vs { s with heap:=(s.heap.push (seqObj "list" #[] 0)).update s.heap.objs.size (Obj.mapSeq (·++vs.toArray)) }->wpAny (model prog w) A (collect (.ref l)) Q E s) (h64:vs.length<64)
  (hk:2<=vs.length->∀(h':Heap) (Q:SortKind->Shared->Prop),(∀b o,s.heap.get? b=some o->h'.get? b=some o)->Q κ { s with heap:=h' }->wpAny (model prog w) A.in1.in1 (keyKind' vs.toArray) Q (λ_ _=>False) { s with heap:=h' })
  (hc:∀i j,i<vs.length->j<vs.length->∀(h':Heap) (C:Bool->Shared->Prop),(∀b o,s.heap.get? b=some o->h'.get? b=some o)->C (decide (r i<r j)) { s with heap:=h' }->wpAny (model prog w) A.in1.in1 (keyLt' κ (vs.getD i Value.none) (vs.getD j Value.none)) C (λ_ _=>False) { s with heap:=h' })
  (h:∀p:Array Nat,p.Perm (List.toArray (List.range vs.length))->xg r p vs.length->Q (.ref (s.heap.objs.size+1)) { s with heap:=sortedAll s.heap vs (kG vs p) }) :
  wpAny (model prog w) A (call (.builtin "sorted") [.ref l]) Q E s:=by
 refine Calls.call_function_entry kind_sorted plain_sorted entry_sorted (args_sorted1 _) ?_;unfold Builtin.«sorted»;refine wpAny_bind (m:=checkCount "sorted" 1 1 _) (Va ?_);refine wpAny_bind (hcol _ _ _ ?_);refine wpAny_bind (wpAny_newList ?_);have hsz:((s.heap.push (seqObj "list" #[] 0)).update s.heap.objs.size (Obj.mapSeq (·++vs.toArray))).objs.size=s.heap.objs.size+1:=by
  rw[lZ,size_push']
 have hoL:(((s.heap.push (seqObj "list" #[] 0)).update s.heap.objs.size (Obj.mapSeq (·++vs.toArray))).push (seqObj "list" vs.toArray 0)).get? (s.heap.objs.size+1)=some (seqObj "list" vs.toArray 0):=by
  rw[<-hsz];exact aN _ rfl
 have keep:∀b o,s.heap.get? b=some o->(((s.heap.push (seqObj "list" #[] 0)).update s.heap.objs.size (Obj.mapSeq (·++vs.toArray))).push (seqObj "list" vs.toArray 0)).get? b=some o:=λb o q=>by
  have hlt:b<s.heap.objs.size:=aR q;rw[ic _ _ _ (by rw[hsz];exact am (dC hlt)),gw _ _ _ _ (am hlt),ic _ _ _ (am hlt)];exact q
 have keep2:∀h',Kp (s.heap.objs.size+1) (((s.heap.push (seqObj "list" #[] 0)).update s.heap.objs.size (Obj.mapSeq (·++vs.toArray))).push (seqObj "list" vs.toArray 0)) h'->∀b o,s.heap.get? b=some o->h'.get? b=some o:=λh' k b o q=>
  k b o (am (dC (aR q))) (keep b o q)
 show wpAny _ _ _ _ _ { s with heap:=((s.heap.push (seqObj "list" #[] 0)).update s.heap.objs.size (Obj.mapSeq (·++vs.toArray))).push (seqObj "list" vs.toArray 0) };rw[hsz];refine wpAny_bind (V7 (Vk slot_list_sort ⟨_,hoL,rfl⟩ entry_list_sort (tD (r:=r) κ hoL h64 (λh2 h' Q k q=>?_) (λi j hi hj h' C k q=>?_) λp hp ha=>⟨_,rfl,?_⟩) (args_list_sort _)))
 ·exact wpAny_mono (hk h2 h' Q (keep2 h' k) q) (λ_ _ z=>z) λ_ _ z=>z.elim
 ·exact hc i j hi hj h' C (keep2 h' k) q
 ·exact Va ⟨_,rfl,h p hp ha⟩
def qv{l:Addr}{vs:List Value}{Q:Value->Shared->Prop}{r:Nat->Int}(κ:SortKind)(hl:s.heap.IsList l vs.toArray)(h64:vs.length<64)
  (hk:2<=vs.length->∀(h':Heap) (Q:SortKind->Shared->Prop),(∀b o,s.heap.get? b=some o->h'.get? b=some o)->Q κ { s with heap:=h' }->wpAny (model prog w) A.in1.in1 (keyKind' vs.toArray) Q (λ_ _=>False) { s with heap:=h' })
  (hc:∀i j,i<vs.length->j<vs.length->∀(h':Heap) (C:Bool->Shared->Prop),(∀b o,s.heap.get? b=some o->h'.get? b=some o)->C (decide (r i<r j)) { s with heap:=h' }->wpAny (model prog w) A.in1.in1 (keyLt' κ (vs.getD i Value.none) (vs.getD j Value.none)) C (λ_ _=>False) { s with heap:=h' })
  (h:∀p:Array Nat,p.Perm (List.toArray (List.range vs.length))->xg r p vs.length->Q (.ref (s.heap.objs.size+1)) { s with heap:=sortedAll s.heap vs (kG vs p) }) :
  wpAny (model prog w) A (call (.builtin "sorted") [.ref l]) Q E s:=
 mz κ (λA E Q q=>collect_list hl q (by rw[Vd];lia)) h64 hk hc h
def xQ{l:Addr}{vs:List Value}{Q:List Value->Shared->Prop}(hl:IsTup s.heap l vs.toArray)
  (h:Q vs { s with heap:=(s.heap.push (seqObj "list" #[] 0)).update s.heap.objs.size (Obj.mapSeq (·++vs.toArray)) }) (hsz:vs.length<=sizeLine) :
  wpAny (model prog w) A (collect (.ref l)) Q E s:=by
 obtain⟨o,ho,hc,n,hd⟩:=id hl;unfold collect;refine wpAny_bind (wpAny_runValue (Vl entry_proto_collect' ?_));show wpAny _ _ (do again (.builtin "list.__iadd__" ⟨[<-newList [],.ref l],[]⟩)) _ _ s;refine wpAny_bind (wpAny_newList (Va ⟨kS _ (by decide +kernel),Vl entry_list_iadd' ?_⟩));show wpAny _ _ (Builtin.List.listExtendWith (.ref s.heap.objs.size) (.ref l) (.ref s.heap.objs.size)) _ _ { s with heap:=s.heap.push (seqObj "list" #[] 0) };unfold Builtin.List.listExtendWith;have ho':(s.heap.push (seqObj "list" #[] 0)).get? l=some o:=aB _ ho;refine wpAny_bind (wpAny_typeOf (T:="tuple") ⟨o,ho',hc⟩ ?_);have ht:(Value.type "tuple"==Value.type "tuple")=true:=by rfl
 rw[Vz (by rw[ht];simp)];refine wpAny_bind (listItems_at ho' hd ?_);refine wpAny_bind (listItems_at (xs:=#[]) (n:=0) (aN _ rfl) rfl ?_);rw[Vy (by simp)];refine wpAny_bind (listUpdate_at (xs:=#[]) (n:=0) (aN _ rfl) rfl ?_ (ac _) (by show (#[]++vs.toArray).size<=sizeLine+1;simp only[Array.size_append,aT,em];lia));refine Va ?_;show wpAny (model prog w) A (do
   let o <-load s.heap.objs.size
   match o.data with
   | .seq xs _=>pure xs.toList
   | _=>unsupported "internal:collect") Q E { s with heap:=(s.heap.push (seqObj "list" #[] 0)).update s.heap.objs.size (Obj.mapSeq (·++vs.toArray)) }
 refine wpAny_bind (wpAny_load (get?_update_seq (aN _ rfl) _) ?_);show wpAny _ _ (pure ((#[]:Array Value)++vs.toArray).toList) Q E _;rw[show ((#[]:Array Value)++vs.toArray).toList=vs by simp];exact Va h
def vD{l:Addr}{vs:List Value}{Q:Value->Shared->Prop}{r:Nat->Int}(κ:SortKind)(hl:IsTup s.heap l vs.toArray)(h64:vs.length<64)
  (hk:2<=vs.length->∀(h':Heap) (Q:SortKind->Shared->Prop),(∀b o,s.heap.get? b=some o->h'.get? b=some o)->Q κ { s with heap:=h' }->wpAny (model prog w) A.in1.in1 (keyKind' vs.toArray) Q (λ_ _=>False) { s with heap:=h' })
  (hc:∀i j,i<vs.length->j<vs.length->∀(h':Heap) (C:Bool->Shared->Prop),(∀b o,s.heap.get? b=some o->h'.get? b=some o)->C (decide (r i<r j)) { s with heap:=h' }->wpAny (model prog w) A.in1.in1 (keyLt' κ (vs.getD i Value.none) (vs.getD j Value.none)) C (λ_ _=>False) { s with heap:=h' })
  (h:∀p:Array Nat,p.Perm (List.toArray (List.range vs.length))->xg r p vs.length->Q (.ref (s.heap.objs.size+1)) { s with heap:=sortedAll s.heap vs (kG vs p) }) :
  wpAny (model prog w) A (call (.builtin "sorted") [.ref l]) Q E s:=
 mz κ (λA E Q q=>xQ hl q (by rw[Vd];lia)) h64 hk hc h
def xS{p:Addr}{lo hi:Int}{t u v:Tok}{n:Nat}{Q:List Value->Shared->Prop}(hh:A.handled=none)(hr:IsRange s.heap p lo hi 1 t u v)(hsmall:Builtin.Range.small lo hi 1=true)(hn:Builtin.Range.rangeSize lo hi 1=n)(hlen:n<=2 ^ 24)
  (h:∀h' tk acc,(∀b o,s.heap.get? b=some o->h'.get? b=some o)->ItemsOf (λi v=>∃t,v=.int (lo+i*1) t) acc n->Q acc.toList { s with heap:=h',toks:=tk }) :
  wpAny (model prog w) A (collect (.ref p)) Q E s:=by
 unfold collect;refine wpAny_bind (wpAny_runValue ?_);have key:∀R:Result->Shared->Prop,(∀h' tk acc c',(∀b o,s.heap.get? b=some o->h'.get? b=some o)->h'.get? s.heap.objs.size=some { cls:=.type "list",dict:=none,data:=.seq acc c',slots:=#[] }->ItemsOf (λi v=>∃t,v=.int (lo+i*1) t) acc n->R (.ok (.ret (.ref s.heap.objs.size))) { s with heap:=h',toks:=tk }) →
   codeAny (model prog w) A (.builtin "proto.collect" ⟨[.ref p],[]⟩) R s:=by
  intro R hR;refine Vl F.entry_proto_collect ?_;rw[Around.under_plainId F.plain_proto_collect _];show wpAny _ A.in1 (newList []>>=λl=>again (.builtin "list.__iadd__" ⟨[l,.ref p],[]⟩)) _ _ s;refine wpAny_bind (Vi ?_);refine Va ⟨plainId_quiet F.plain_list_iadd _,Vl F.entry_list_iadd ?_⟩;rw[Around.under_plainId F.plain_list_iadd _];have hS:(s.heap.push { cls:=.type "list",dict:=none,data:=.seq ([]:List Value).toArray }).get? s.heap.objs.size=some { cls:=.type "list",data:=.seq #[] 0 }:=aN _ rfl;exact wpAny_extend_range (R:=R) (s:={ s with heap:=s.heap.push { cls:=.type "list",dict:=none,data:=.seq ([]:List Value).toArray } }) hh (aB _ hr) hsmall hn hlen s.heap.objs.size (.ref s.heap.objs.size) 0 hS λh' tk acc c' hk hS' hacc=>
   hR h' tk acc c' (λb o e=>hk b o (am (aR e)) (aB _ e)) hS' hacc
 refine key _ λh' tk acc c' hk hS' hacc=>?_;exact wpAny_bind (wpAny_load hS' (Va (h h' tk acc hk hacc)))
end
end Rm
namespace Rm
open PySem PySem.W PyProof.Rows L2
def n9:∀{as:List Addr} {us:List Value},cE (as.map V.ref) us->us=as.map Value.ref
 | [],_,.nil=>rfl
 | a::as,u::us,.cons r t=>by
  have e:u=Value.ref a:=r;rw[e,n9 t];rfl
def Aa(as:List Addr):cE (as.map V.ref) (as.map Value.ref):=by
 induction as with
 | nil=>exact .nil
 | cons a as ih=>exact .cons rfl ih
def GQ (h:Heap) (a:Addr) (p:Bw):Prop:=∃o t u n,h.get? a=some o/\o.cls=.type "tuple"/\o.data=.seq #[.int p.1 t,.int p.2 u] n
def Hu{X:Cx}{pins:List (Addr×Obj)}{σ:L2.St}{H:Hp}{s:Shared}(I:bY X pins σ H s){a:Addr}{p:Bw}(h:bi H a p):GQ s.heap a p:=by
 obtain⟨_,its,v,o,e,c,n,d⟩:=I.hok a _ h;obtain⟨u,w,rfl,⟨t,rfl⟩,t',rfl⟩:=cE.two v;exact⟨o,t,t',n,e,c,by rw[d]⟩
def GQ.kept{h h':Heap}{a:Addr}{p:Bw}(x:GQ h a p)(k:∀b o,h.get? b=some o->h'.get? b=some o):GQ h' a p:=by
 obtain⟨o,t,u,n,e,c,d⟩:=x;exact⟨o,t,u,n,k _ _ e,c,d⟩
def wA{h:Heap}:∀{as:List Addr} {ps:List Bw},Paired (GQ h) as ps->∃fs,KatTups h (as.map Value.ref) fs/\fs.length=as.length/\∀v∈fs,∃n t,v=Value.int n t
 | _,_,.nil=>⟨[],KatTups.nil,rfl,(λv hv=>nomatch hv)⟩
 | _,_,.cons r t=>by
  obtain⟨o,t1,u1,n,e,c,d⟩:=r;obtain⟨fs,h1,h2,h3⟩:=wA t;exact⟨.int _ t1::fs,KatTups.cons e c d rfl h1,by simp[h2],λv hv=>by
   rcases aL.mp hv with rfl | hv
   ·exact⟨_,_,rfl⟩
   ·exact h3 v hv⟩
def j7(p:Bw):Int:=p.1*1000+p.2
def kB:SortKind:=tuples' (Value.type "int" != Value.type "tuple")
def Hv{prog:Program}{w:World}{A:Around}{s:Shared}{a b:Addr}{p q:Bw}{C:Bool->Shared->Prop}(ha:GQ s.heap a p)(hb:GQ s.heap b q)(hp:0<=p.2/\p.2<1000)(hq:0<=q.2/\q.2<1000)
  (h:C (decide (j7 p<j7 q)) s):wpAny (model prog w) A (keyLt' kB (.ref a) (.ref b)) C (λ_ _=>False) s:=by
 obtain⟨oa,t,u,n,ea,ca,da⟩:=ha;obtain⟨ob,t',u',n',eb,cb,db⟩:=hb;refine kat_lt ea da eb db ?_;show KatLex prog w A _ _ C [(Value.int p.1 t,Value.int q.1 t'),(Value.int p.2 u,Value.int q.2 u')] 0 s;refine kat_cons (wpAny_eqBool_int (kat_go (λe=>?_) (λe=>?_)))
 ·have e1:p.1=q.1:=by simpa using e
  refine kat_yes (kat_cons (wpAny_eqBool_int (kat_go (λe=>?_) (λe=>?_))))
  ·have e2:p.2=q.2:=by simpa using e
   refine kat_yes (kat_nil ?_);have z:decide (j7 p<j7 q)=false:=WB (by unfold j7;lia);rw[z] at h;exact h
  ·have e2:¬p.2=q.2:=by simpa using e
   refine kat_no ?_;have z:decide (j7 p<j7 q)=decide (p.2<q.2):=by
    by_cases y:p.2<q.2
    ·rw[WC y,WC (by unfold j7;lia)]
    ·rw[WB y,WB (by unfold j7;lia)]
   rw[z] at h;have b0:((Value.type "int" != Value.type "tuple")&&((0+1:Nat)==0))=false:=by decide
   rw[b0];exact kat_one _ _ (lt_int h)
 ·have e1:¬p.1=q.1:=by simpa using e
  refine kat_no ?_;have z:decide (j7 p<j7 q)=decide (p.1<q.1):=by
   by_cases y:p.1<q.1
   ·rw[WC y,WC (by unfold j7;lia)]
   ·rw[WB y,WB (by unfold j7;lia)]
  rw[z] at h;have b0:((Value.type "int" != Value.type "tuple")&&((0:Nat)==0))=true:=by decide
  rw[b0];exact oneLt_int h
def pick{α:Type}(d:α)(xs:List α)(p:Array Nat):List α:=p.toList.map λi=>xs.getD i d
def oG{α:Type}(d:α)(xs:List α){p:Array Nat}(hp:p.Perm (List.toArray (List.range xs.length))):(pick d xs p).Perm xs:=by
 have h1:p.toList.Perm (List.range xs.length):=by simpa using gU.mp hp
 have h2:=h1.map λi=>xs.getD i d;have e:(List.range xs.length).map (λi=>xs.getD i d)=xs:=by
  apply jG
  ·simp
  ·intro i h1 h2;simp at h1;simp[h1]
 rw[e] at h2;exact h2
def w6{α β:Type}{R:α->β->Prop}(d:α)(e:β){xs:List α}{ys:List β}(h:Paired R xs ys){p:Array Nat}(hp:∀i∈p.toList,i<xs.length):Paired R (pick d xs p) (pick e ys p):=by
 unfold pick
 revert hp
 induction p.toList with
 | nil=>intro _;exact .nil
 | cons i r ih=>
  intro hp;refine .cons ?_ (ih λj hj=>hp j (aM _ hj));have hi:=hp i a7;have hx:xs[i]? = some xs[i]:=aS hi;obtain⟨y,hy,hr⟩:=iy h hx;have e1:xs.getD i d=xs[i]:=by simp[List.getD,hx]
  have e2:ys.getD i e=y:=by simp[List.getD,hy]
  show R (xs.getD i d) (ys.getD i e);rw[e1,e2];exact hr
def w9{r:Nat->Int}{n:Nat}{p:Array Nat}(hn:p.size=n)(ha:xg r p n){α:Type}(d:α)(xs:List α)(f:α->Int)(hf:∀i,r i=f (xs.getD i d)):(pick d xs p).Pairwise λa b=>f a<=f b:=by
 rw[gn];intro i j hi hj hij;have hi':i<p.size:=by simpa [pick] using hi
 have hj':j<p.size:=by simpa [pick] using hj
 have h1:=ha i j (ah hij) (by lia);unfold Kk at h1;rw[hf,hf] at h1;simp only[cU,ef hi',ef hj',lQ] at h1;simpa [pick] using h1
def Dh{ps:List Bw}{bw:List (Nat×Nat)}(h:ps.Perm (wx bw)):∃ot,ps=wx ot/\ot.Perm bw:=by
 refine⟨ps.map λp=>(p.1.toNat,p.2.toNat),?_,?_⟩
 ·unfold wx;rw[bS];have:∀p∈ps,((λp:Nat×Nat=>((p.1:Int),(p.2:Int)))∘λp:Bw=>(p.1.toNat,p.2.toNat)) p=p:=λp hp=>by
   obtain⟨x,_,rfl⟩:=bM.mp (h.mem_iff.mp hp);simp
  rw[bd this];simp
 ·have h2:=h.map λp:Bw=>(p.1.toNat,p.2.toNat)
  unfold wx at h2;rw[bS] at h2;have:∀x∈bw,((λp:Bw=>(p.1.toNat,p.2.toNat))∘λp:Nat×Nat=>((p.1:Int),(p.2:Int))) x=x:=λx _=>by simp
  rw[bd this] at h2;simpa using h2
def leB(p q:Bw):Prop:=p.1<q.1\/p.1=q.1/\p.2<=q.2
def IW(K:WG):List V->Hp->VK->Prop:=λxs H Q=>∃(l:Addr) (as:List Addr) (ps:List Bw),xs=[.ref l]/\cW K H l (as.map V.ref)/\Paired (bi H) as ps/\ps.length<64/\(∀p∈ps,0<=p.2/\p.2<1000) ∧
 ∀l' as' ps',H l'=none->Paired (bi H) as' ps'->ps'.Perm ps->ps'.Pairwise leB->Q (.ref l') (bE H l' (.lst (as'.map V.ref)))
def jA {X:Cx}:gT X (.builtin "sorted") (IW X.K):=by
 intro pins s σ H xs us Q I rr h;obtain⟨l,as,ps,rfl,hq,hP,h64,hb,q⟩:=h;obtain⟨u,rfl,rx⟩:=Ve rr;cases rx;obtain⟨its,rv,pl,hz⟩:=I.list hq;have e:=n9 rv;subst e;have hlen:as.length=ps.length:=ba hP;have two:Paired (GQ s.heap) as ps:=fK hP λa p z=>Hu I z;have at_:∀i,i<as.length->∃a p,(as.map Value.ref).getD i Value.none=.ref a/\ps.getD i (0,0)=p/\GQ s.heap a p/\0<=p.2/\p.2<1000:=λi hi=>by
  have hx:as[i]? = some as[i]:=aS hi;obtain⟨p,hp,ht⟩:=iy two hx;exact⟨as[i],p,by simp[List.getD,hi],by simp[List.getD,hp],ht,hb p (bG hp)⟩
 refine qv (r:=λi=>j7 (ps.getD i (0,0))) kB pl.isList (by rw[aD];lia) (λh2 h' Q' k q'=>?_) (λi j hi hj h' C k q'=>?_) λp hp ha=>?_
 ·obtain⟨fs,k1,k2,k3⟩:=wA (fK two λa p z=>z.kept k);refine kat_kind (T:=.type "int") k1 (by rw[aD] at h2;lia) (λv hv=>?_) rfl q';obtain⟨n,t,rfl⟩:=k3 v hv;exact(show Looks _ _ (pure (Value.type "int")) (Value.type "int") from .now)
 ·rw[aD] at hi hj;obtain⟨a,p,e1,e2,t1,b1⟩:=at_ i hi;obtain⟨c,p',e3,e4,t2,b2⟩:=at_ j hj;rw[e1,e3];refine Hv (t1.kept k) (t2.kept k) b1 b2 ?_;rw[<-e2,<-e4];exact q'
 ·rw[aD] at hp ha;obtain⟨c,hc⟩:=sortedAll_at s.heap (as.map Value.ref) (kG (as.map Value.ref) p);have hin:∀i∈p.toList,i<as.length:=λi hi=>by
   have h1:p.toList.Perm (List.range as.length):=by simpa using gU.mp hp
   simpa using h1.mem_iff.mp hi
  have eo:kG (as.map Value.ref) p=List.toArray ((pick 0 as p).map Value.ref):=by
   unfold kG pick;rw[bS];congr 1;refine bd λi hi=>?_;have:=hin i hi;simp[List.getD,this]
  have hps:(pick 0 as p).length<=sizeLine:=by
   have:=(oG 0 as hp).length_eq;rw[this];exact ah (aq (by lia))
  rw[eo] at hc;have hp':p.Perm (List.toArray (List.range ps.length)):=by rw[<-hlen];exact hp
  refine⟨.ref (s.heap.objs.size+1),bE H (s.heap.objs.size+1) (.lst ((pick 0 as p).map V.ref)),I.laid (t':=s.toks) (λb o e=>sortedAll_old e) (fG _) ?_,rfl,?_⟩
  ·exact(show dB X.prog X.w _ _ _ (.lst _) from ⟨by rw[aD];exact hps,(pick 0 as p).map Value.ref,c,Aa _,by rw[eo];exact hc⟩)
  ·have hasc:=w9 (n:=as.length) (by have:=hp.size_eq;simpa using this) ha (0,0) ps j7 λi=>rfl;have hmem:∀x∈pick (0,0) ps p,0<=x.2/\x.2<1000:=λx hx=>hb x ((oG (0,0) ps hp').mem_iff.mp hx);refine q _ _ (pick (0,0) ps p) (I.hok.fresh (fG _)) (w6 0 (0,0) hP hin) (oG (0,0) ps hp') ?_;refine List.Pairwise.imp_of_mem (fun {a b} ma mb hab=>?_) hasc;have h1:=hmem a ma;have h2:=hmem b mb;unfold j7 at hab;unfold leB;lia
end Rm
namespace L2
open PySem PySem.W PySem.Spec PyProof.Rows Rm
section
variable {X:Cx}
def ints_getD:∀{us:List Value} {ns:List Int},IntsAre us ns->∀i,i<us.length->∃t,us.getD i Value.none=.int (ns.getD i 0) t
 | _,_,.nil,i,h=>by simp at h
 | _,_,.cons n t r,0,_=>⟨t,rfl⟩
 | _,_,.cons n t r,i+1,h=>by
  obtain⟨t',e⟩:=ints_getD r i (by simpa using h);exact⟨t',by simpa using e⟩
def u6{us:List Value}{ns:List Int}(hi:IntsAre us ns):∀(p:List Nat),(∀i∈p,i<us.length)->IntsAre (p.map λi=>us.getD i Value.none) (p.map λi=>ns.getD i 0)
 | [],_=>.nil
 | i::p,h=>by
  obtain⟨t,e⟩:=ints_getD hi i (h i a7);rw[bC,bC,e];exact .cons _ t (u6 hi p λj hj=>h j (aM _ hj))
def tH{us:List Value}{ns:List Int}(hi:IntsAre us ns):us.length=ns.length:=by
 induction hi with
 | nil=>rfl
 | cons _ _ _ ih=>simp[ih]
def xE:∀{us:List Value} {ns:List Int},IntsAre us ns->∀v∈us,∃n t,v=Value.int n t
 | _,_,.nil,v,h=>nomatch h
 | _,_,.cons n t r,v,h=>by
  rcases aL.mp h with rfl | h
  ·exact⟨n,t,rfl⟩
  ·exact xE r v h
def IU(K:WG):List V->Hp->VK->Prop:=λxs H Q=>∃(p:Addr) (ns:List Int),xs=[.ref p]/\(cW K H p (ns.map V.int)\/c8 K H p (ns.map V.int))/\ns.length<64 ∧
 ∀(l:Addr) (ms:List Int),H l=none->ms.Perm ns->ms.Pairwise (·<=·)->Q (.ref l) (bE H l (.lst (ms.map V.int)))
def qA:gT X (.builtin "sorted") (IU X.K):=by
 intro pins s σ H xs us Q I r h;obtain⟨p,ns,rfl,hq,hl,q⟩:=h;obtain⟨u,rfl,rx⟩:=Ve r;cases rx;have fin:∀its:List Value,IntsAre its ns->∀pr:Array Nat,pr.Perm (List.toArray (List.range its.length))->xg (λi=>ns.getD i 0) pr its.length →
   EP X pins σ Q (.ref (s.heap.objs.size+1)) { s with heap:=sortedAll s.heap its (kG its pr) }:=λits hi pr hp ha=>by
  obtain⟨c,hc⟩:=sortedAll_at s.heap its (kG its pr);have hil:=tH hi;have hin:∀i∈pr.toList,i<its.length:=λi him=>by
   have h1:pr.toList.Perm (List.range its.length):=by simpa using gU.mp hp
   simpa using h1.mem_iff.mp him
  have hp':pr.Perm (List.toArray (List.range ns.length)):=by rw[<-hil];exact hp
  have hpk:=oG 0 ns hp';have hlen:=hpk.length_eq;refine⟨.ref (s.heap.objs.size+1),bE H (s.heap.objs.size+1) (.lst ((pick 0 ns pr).map V.int)),I.laid (t':=s.toks) (λb o e=>sortedAll_old e) (fG _)
   (show dB X.prog X.w _ _ _ (.lst _) from ⟨by rw[aD,hlen];exact ah (aq (by lia)),(kG its pr).toList,c,nh ?_,by simpa using hc⟩),rfl,q _ _ (I.hok.fresh (fG _)) hpk ?_⟩
  ·have:=u6 hi pr.toList hin;simpa [kG,pick] using this
  ·exact w9 (n:=its.length) (by have:=hp.size_eq;simpa using this) ha 0 ns (λx=>x) λi=>rfl
 have kind:∀(A:Around) (its:List Value),IntsAre its ns->2<=its.length->∀(h':Heap) (Q:SortKind->Shared->Prop),Q oneType' { s with heap:=h' }->wpAny (model X.prog X.w) A (keyKind' its.toArray) Q (λ_ _=>False) { s with heap:=h' }:=λA its hi h2 h' Q q'=>by
  refine kas_kind (T:=.type "int") h2 (λv hv=>?_) (by decide) (by decide) q';obtain⟨n,t,rfl⟩:=xE hi v hv;exact(show Looks _ _ (pure (Value.type "int")) (Value.type "int") from .now)
 have lt:∀(A:Around) (its:List Value),IntsAre its ns->∀i j,i<its.length->j<its.length->∀(h':Heap) (C:Bool->Shared->Prop),C (decide (ns.getD i 0<ns.getD j 0)) { s with heap:=h' } →
   wpAny (model X.prog X.w) A (keyLt' oneType' (its.getD i Value.none) (its.getD j Value.none)) C (λ_ _=>False) { s with heap:=h' }:=λA its hi i j h1 h2 h' C q'=>by
  obtain⟨t,e⟩:=ints_getD hi i h1;obtain⟨t',e'⟩:=ints_getD hi j h2;rw[e,e'];exact kat_lt_int q'
 rcases hq with hq | hq
 ·obtain⟨its,rv,pl,hz⟩:=I.list hq;have hi:=pd rv;have hil:=tH hi;exact qv (r:=λi=>ns.getD i 0) oneType' pl.isList (by lia) (λh2 h' Q k q'=>kind _ its hi h2 h' Q q') (λi j h1 h2 h' C k q'=>lt _ its hi i j h1 h2 h' C q') (fin its hi)
 ·obtain⟨its,rv,pl,hz⟩:=I.tuple hq;have hi:=pd rv;have hil:=tH hi;exact vD (r:=λi=>ns.getD i 0) oneType' pl (by lia) (λh2 h' Q k q'=>kind _ its hi h2 h' Q q') (λi j h1 h2 h' C k q'=>lt _ its hi i j h1 h2 h' C q') (fin its hi)
end
def oO(p:Addr)(lo hi:Int)(t u v:Tok)(n:Nat)(hsmall:Builtin.Range.small lo hi 1=true)(hn:Builtin.Range.rangeSize lo hi 1=n)(hlen:n<=2 ^ 24)(hsz:n<=sizeLine):
  Meets (Builtin.«tuple.__new__» ⟨[.type "tuple",.ref p],[]⟩)
   (λA R s=>(A.handled=none/\IsRange s.heap p lo hi 1 t u v)/\∀(h':Heap) (tk:Nat) (acc:Array Value),(∀b o,s.heap.get? b=some o->h'.get? b=some o)->ItemsOf (λi v=>∃t,v=.int (lo+i*1) t) acc n →
    R (.ok (.ret (.ref h'.objs.size))) { s with heap:=h'.push { cls:=.type "tuple",data:=.seq acc },toks:=tk }):=
 .of_wp λprog w A R s h=>by
  obtain⟨⟨hh,hr⟩,h⟩:=h;have hsub:=sub_tuple_self;have hinit:=init_tuple_lookup;have hmh:=madeHere_tuple;have hT:s.TypeIs (.ref p) "range":=⟨_,hr,rfl⟩
  have hh1:A.in1.handled=none:=hh
  wp_walk using wpAny_typeOf hT,xS hh1 hr hsmall hn hlen
  intro h' tk acc hk hacc;show wpAny _ _ (Builtin.Tuple.tupleExact acc.toList.toArray>>=λv=>ret v) _ _ _;unfold Builtin.Tuple.tupleExact;refine wpAny_bind (Vi ?_ (show acc.toList.toArray.size<=sizeLine by simp only[Array.toArray_toList];rw[hacc.1];exact hsz));refine Va ⟨_,rfl,?_⟩;have e:acc.toList.toArray=acc:=by simp
  rw[e];exact h h' tk acc hk hacc
section
variable {X:Cx}
def tN (hc:X.calm=true):gT X (.type "tuple") (λxs H Q=>∃p lo hi,xs=[.ref p]/\H p=some (.rng lo hi)/\(-(2 ^ 30)<=lo/\lo<2 ^ 30/\-(2 ^ 30)<=hi/\hi<2 ^ 30/\(hi-lo).toNat<=1000) ∧
  ∀l,H l=none->Q (.ref l) (bE H l (.tup ((cF lo (hi-lo).toNat).map V.int)))):=by
 intro pins s σ H xs us Q I r h;obtain⟨p,lo,hi,rfl,hp,⟨b1,b2,b3,b4,b5⟩,q⟩:=h;obtain⟨w,rfl,rx⟩:=Ve r;cases rx;obtain⟨t,u,v,e⟩:=(show dB X.prog X.w H s.heap p (.rng lo hi) from I.hok p _ hp)
 have hn:Builtin.Range.rangeSize lo hi 1=(((hi-lo).toNat:Nat):Int):=by rw[rangeSize_one];split<;>lia
 have hsz:(hi-lo).toNat<=sizeLine:=ah (aq b5);refine callType_new F.called_tuple (by decide) (F.typeCall_tuple_1 _) (F.newCall_tuple_1 _) (λobj=>F.args_object_init_2 obj _) F.entry_tuple_new
  (oO p lo hi t u v (hi-lo).toNat (small_one (by lia) (by lia) (by lia) (by lia)) hn (by lia) hsz) ⟨⟨I.ok.hd hc,e⟩,λh' tk acc hk hacc=>⟨⟨_,aN _ rfl,rfl⟩,?_⟩⟩
 have hv:=tF hacc;have hz:((cF lo (hi-lo).toNat).map V.int).length<=sizeLine:=by
  rw[aD,cF,aD,ko];exact hsz
 have I1:bY X pins σ H { s with heap:=h',toks:=tk }:=I.kept hk;exact⟨.ref h'.objs.size,_,I1.laid (t':=tk) (λb o e=>aB _ e) (aJ _) (show dB X.prog X.w _ _ _ (.tup _) from ⟨hz,acc.toList,hv,by simpa using IsTup.new h' acc⟩),rfl,q _ (I1.hok.fresh (aJ _))⟩
def El:V->List V->Hp->VK->Prop:=λx vs H Q=>∃(l:Addr) (xs:List V) (k:Nat) (y:V),x=.ref l/\vs=[.int k,y]/\H l=some (.lst xs)/\k<=xs.length/\xs.length<=999/\Q .non (bE H l (.lst (xs.take k++y::xs.drop k)))
def uA:∀{xs:List V} {us:List Value} (k:Nat),cE xs us->cE (xs.take k) (us.take k)
 | _,_,0,_=>by simpa using (Paired.nil:cE [] [])
 | _,_,k+1,.nil=>by simpa using (Paired.nil:cE [] [])
 | _,_,k+1,.cons r t=>.cons r (uA k t)
def uC:∀{xs:List V} {us:List Value} (k:Nat),cE xs us->cE (xs.drop k) (us.drop k)
 | _,_,0,h=>h
 | _,_,k+1,.nil=>by simpa using (Paired.nil:cE [] [])
 | _,_,k+1,.cons r t=>uC k t
def BE:Lc X "list.insert" El:=by
 intro pins s σ H x vs v us Q I rx rv h;obtain⟨l,xs,k,y,rfl,rfl,hH,hk,hx,q⟩:=h;cases rx;obtain⟨u,u',rfl,⟨t,rfl⟩,ru⟩:=cE.two rv;obtain⟨z,its,n,r,hl,e⟩:=I.lstM hH;have hz:its.toArray.size<=sizeLine:=by rw[aT];lia
 have hfit:Builtin.List.listFitsIndex (k:Int)=true:=by
  unfold Builtin.List.listFitsIndex;rw[ai];exact⟨WC (by lia),WC (by lia)⟩
 have hc0:¬(!Builtin.List.listFitsIndex (k:Int))=true:=by rw[hfit];decide
 generalize hx0:(k:Int)=x0 at hc0 ⊢;refine call_meets lA ⟨_,e,rfl⟩ PySem.F.entry_list_insert (PySem.F.args_list_insert_3 _ _ _) (PySem.AutoSeq1.list_insert_list_int_val_1 l its.toArray n x0 t u' hc0 hz) ⟨e,?_⟩;refine⟨.non,_,I.lset (its':=its.take k++u'::its.drop k) hH e ?_ ((uA k r).append (.cons ru (uC k r))) ?_,rfl,q⟩
 ·subst hx0;have h0:¬(k:Int)<0:=by lia
  have hk2:min (k:Int).toNat its.toArray.size=k:=by rw[aT];lia
  show (its.toArray.extract 0 (if (k:Int)<0 then _ else min (k:Int).toNat its.toArray.size)).push u'++its.toArray.extract (if (k:Int)<0 then _ else min (k:Int).toNat its.toArray.size)=_;rw[Vy h0,hk2];apply Array.ext';simp[i6]
 ·rw[aU,bq,cZ,lU];exact ah (aq (by lia))
end
end L2
namespace Rm
open PySem L2
def kd{α:Type} [DecidableEq α]:∀{l m:List α},l.Nodup->(∀x∈l,x∈m)->m.length<=l.length->l.Perm m
 | [],m,_,_,h=>by
  have:m=[]:=dE (by simpa using h);rw[this]
 | x::l,m,nd,hs,hl=>by
  obtain⟨n1,n2⟩:=cX.mp nd;have hx:=hs x a7;have hp:m.Perm (x::m.erase x):=List.perm_cons_erase hx;have hlen:=hp.length_eq;simp only[bq] at hlen hl;have ih:l.Perm (m.erase x):=kd n2 (λy hy=>by
   have hm:=hs y (aM _ hy);rcases aL.mp (hp.mem_iff.mp hm) with e | e
   ·subst e;exact absurd hy n1
   ·exact e) (by lia)
  exact(ih.cons x).trans hp.symm
def intOf:PyData->Int
 | .int n=>n
 | _=>0
def oY:∀{d:PyData},fy d=true->d=.int (intOf d)
 | .int n,_=>rfl
def qT:PyData->Bool
 | .tuple ds=>decide (ds.length<=20)&&(ds.all fy&&(ds.map intOf).isPerm (cF 1 ds.length))
 | _=>false
def qy:PyData->Bool
 | .str z=>decide (z=Str.ofString "l") || decide (z=Str.ofString "r")
 | _=>false
def nL:PyData->Bool
 | .tuple [a,b]=>qy a&&qT b
 | _=>false
def sv{x:Int}{n:Nat}:x∈cF 1 n<->1<=x/\x<=n:=by
 unfold cF;rw[bM];constructor
 ·rintro⟨i,hi,rfl⟩;have:=cQ.mp hi;lia
 ·rintro⟨h1,h2⟩;exact⟨(x - 1).toNat,cQ.mpr (by lia),by lia⟩
def Ci(n:Nat):(cF 1 n).Pairwise (·<=·):=by
 unfold cF;rw[dt,gn];intro i j hi hj hij;simp;lia
def sT(n:Nat):(cF 1 n).Nodup:=by
 unfold cF List.Nodup;rw[dt];exact(jD (n:=n)).imp λh e=>h (by lia)
def vE{ms ns:List Int}(hp:ms.Perm ns)(hs:ms.Pairwise (·<=·)):decide (ms=cF 1 ns.length)=ns.isPerm (cF 1 ns.length):=by
 by_cases h:ns.Perm (cF 1 ns.length)
 ·rw[fg.mpr h];exact WC (PySem.W.ksm_same (hp.trans h) hs (Ci _))
 ·have h2:ns.isPerm (cF 1 ns.length)=false:=by
   cases e:ns.isPerm (cF 1 ns.length) with
   | false=>rfl
   | true=>exact absurd (fg.mp e) h
  rw[h2];exact WB λe=>h (e▸hp.symm)
def AA:(Str.ofString "l")=⟨#[108]⟩:=by decide +kernel
def zz:(Str.ofString "r")=⟨#[114]⟩:=by decide +kernel
def C5 (d:PyData):([PyData.str (Str.ofString "l"),.str (Str.ofString "r")].any λe=>PyData.eqv e d)=qy d:=by
 cases d with
 | str z=>
  show (decide (Str.ofString "l"=z) || (decide (Str.ofString "r"=z) || false))=_;rw[Bool.or_false];show _=(decide (z=Str.ofString "l") || decide (z=Str.ofString "r"))
  congr 1
  ·exact decide_eq_decide.mpr ⟨Eq.symm,Eq.symm⟩
  ·exact decide_eq_decide.mpr ⟨Eq.symm,Eq.symm⟩
 | _=>rfl
structure Pl (d:PyData) (n:Nat):Prop where
 lay:d.canLay0=true
 deep:d.depth<=n
def wJ:Sp:=λvs H Q _=>∃x d,vs=[x]/\Dat H x d/\Pl d 60/\Q (.bl (qy d)) H
def uL:Sp:=λvs H Q _=>∃x d,vs=[x]/\Dat H x d/\∀H',aV H H'->Q (.bl (qT d)) H'
def wK:Sp:=λvs H Q _=>∃x d,vs=[x]/\Dat H x d/\Pl d 60/\∀H',aV H H'->Q (.bl (nL d)) H'
mutual
def Lu:PyData->Bool
 | .list _=>false
 | .tuple ds=>Fc ds
 | .dict _=>false
 | _=>true
def Fc:List PyData->Bool
 | []=>true
 | d::ds=>Lu d&&Fc ds
end
mutual
def Fx{H:Hp}{l:Addr}{ys:List V}{o:HO}(hl:H l=some (.lst ys)):∀{x:V} {d:PyData},Dat H x d->Lu d=true->Dat (bE H l o) x d
 | _,_,.non,_=>.non
 | _,_,.bl b,_=>.bl b
 | _,_,.int i,_=>.int i
 | _,_,.str x,_=>.str x
 | _,_,.tup h r,n=>.tup (by rw[aI (zt h hl (by intro q;cases q))];exact h) (xL hl r n)
 | _,_,.lst h r,n=>nomatch n
def xL{H:Hp}{l:Addr}{ys:List V}{o:HO}(hl:H l=some (.lst ys)):∀{xs:List V} {ds:List PyData},gS H xs ds->Fc ds=true->gS (bE H l o) xs ds
 | _,_,.nil,_=>.nil
 | _,_,.cons h r,n=>by
  have n':(Lu _&&Fc _)=true:=n;rw[ai] at n';exact .cons (Fx hl h n'.1) (xL hl r n'.2)
end
def xF{H:Hp}:∀ns:List Int,gS H (ns.map V.int) (ns.map PyData.int)
 | []=>.nil
 | n::ns=>.cons (.int n) (xF ns)
end Rm
namespace Rm
open PySem L2 PyProof.Rows
def zx{bs:List Bool}(b:rh bs){k:Nat}(h:bs[k]? = some true):∃m,nT bs k m:=by
 have go:∀(f j:Nat) (deep:Int),Walk bs k j deep->bs.length-j<f->∃m,nT bs k m:=by
  intro f
  induction f with
  | zero=>intro j deep _ hf;lia
  | succ f ih=>
   intro j deep w hf;by_cases hc:0<deep\/j=k
   ·have hj:=w.inside b hc;exact ih (j+1) _ (w.step hc (aS hj)) (by lia)
   ·obtain⟨m,_,hm⟩:=w.mate hc;exact⟨m,hm⟩
 exact go _ k 0 (Walk.start h) (gj _)
def pV{bs:List Bool}(b:rh bs):∀k,k<=bs.length->∃ms,jQ bs k ms
 | 0,_=>⟨[],jQ.nil bs⟩
 | k+1,h=>by
  obtain⟨ms,M⟩:=pV b k (by lia);by_cases ho:bs[k]? = some true
  ·obtain⟨m,hm⟩:=zx b ho;exact⟨_,M.snoc hm⟩
  ·exact⟨ms,M.skip ho⟩
def Pr(bs:List Bool)(x y:Nat):Prop:=nT bs x y\/nT bs y x
def Pr.symm{bs:List Bool}{x y:Nat}(h:Pr bs x y):Pr bs y x:=h.elim .inr .inl
def Pr.uniq{bs:List Bool}{x y z:Nat}(h:Pr bs x y)(g:Pr bs x z):y=z:=by
 rcases h with h | h<;>rcases g with g | g
 ·exact h.uniq g
 ·have:=h.op;rw[g.cl] at this;cases this
 ·have:=g.op;rw[h.cl] at this;cases this
 ·exact h.uniqL g
def Pr.lt{bs:List Bool}{x y:Nat}(h:Pr bs x y):y<bs.length:=by
 rcases h with h | h
 ·exact h.ml
 ·exact jh h.lt h.ml
def Kw{bs:List Bool}(b:rh bs){x:Nat}(h:x<bs.length):∃y,Pr bs x y:=by
 cases e:bs[x] with
 | true=>
  obtain⟨m,hm⟩:=zx b (k:=x) (by rw[aS h,e]);exact⟨m,.inl hm⟩
 | false=>
  obtain⟨ms,M⟩:=pV b bs.length (aJ _);obtain⟨p,hp⟩:=M.closed b (q:=x) (by rw[aS h,e]);exact⟨p,.inr (M.mate _ hp).1⟩
open Classical in
noncomputable def mtF (bs:List Bool) (x:Nat):Nat:=if h:∃y,Pr bs x y then h.choose else x
def qZ{bs:List Bool}{x y:Nat}(h:Pr bs x y):mtF bs x=y:=by
 unfold mtF;have hx:∃y,Pr bs x y:=⟨y,h⟩
 rw[dif_pos hx];exact hx.choose_spec.uniq h
def su{bs:List Bool}(b:rh bs){x:Nat}(h:x<bs.length):Pr bs x (mtF bs x):=by
 obtain⟨y,hy⟩:=Kw b h;rw[qZ hy];exact hy
structure vm (n:Nat) (L:Nat->Nat):Prop where
 lt:∀ x,x<n->L x<n
 inv:∀ x,x<n->L (L x)=x
def rY{bs:List Bool}(b:rh bs):vm bs.length (mtF bs):=
 ⟨λx h=>(su b h).lt,λx h=>qZ (su b h).symm⟩
structure LO (n:Nat) (L R:Nat->Nat) (rs:List (List Nat)):Prop where
 inn:∀ r∈rs,∀ x∈r,x<n/\L x∈r/\R x∈r
 one:∀ f:Nat->Int,(∀ x,x<n->f (L x)=f x/\f (R x)=f x)->∀ r∈rs,∀ x∈r,∀ y∈r,f x=f y
 apart:rs.Pairwise fun r s=>∀ x∈r,x∉s
 ne:∀ r∈rs,r≠[]
end Rm
namespace L2
open PySem PySem.Spec PyProof.Rows
def xj(dO:Option Addr)(e:Addr)(h:Heap):Prop:=∃o vs,h.get? e=some o/\(o.dict=dO/\o.data=.fields vs)/\vs[2]? = some .none
abbrev MZ (e:Addr) (h:Heap):Prop:=xj none e h
structure eK {α:Type} (I:Heap->Prop) (t:Sem α):Prop where
 out:∀ (M:Model) (Γ:PySem.Ctx) (P:α->Pos->Shared->Prop) (E:Value->Pos->Shared->Prop) (p:Pos) (s:Shared),I s.heap->Sem.wp M Γ t P E p s->Sem.wp M Γ t (fun a p' s'=>P a p' s'/\I s'.heap) E p s
section
variable {α β:Type} {I:Heap->Prop}
def eK.pure(a:α):eK I (Pure.pure a:Sem α):=⟨λM Γ P E p s i h=>⟨h,i⟩⟩
def eK.un(w:String):eK I (unsupported w:Sem α):=⟨λM Γ P E p s i h=>False.elim h⟩
def eK.load(a:Addr):eK I (load a):=⟨λM Γ P E p s i ⟨o,e,h⟩=>⟨o,e,h,i⟩⟩
def eK.stack:eK I stack:=⟨λM Γ P E p s i h=>⟨h,i⟩⟩
def eK.update{a:Addr}{f:Obj->Obj}(k:∀h,I h->I (h.update a f)):eK I (update a f):=⟨λM Γ P E p s i ⟨e,h⟩=>⟨e,h,k _ i⟩⟩
def eK.alloc{o:Obj}(k:∀h,I h->I (h.push o)):eK I (alloc o):=⟨λM Γ P E p s i h=>⟨h,k _ i⟩⟩
def eK.bind{m:Sem α}{f:α->Sem β}(hm:eK I m)(hf:∀a,eK I (f a)):eK I (m>>=f):=⟨λM Γ P E p s i h=>by
 have h':Sem.wp M Γ (m.bind f) P E p s:=h;show Sem.wp M Γ (m.bind f) _ E p s;rw[Sem.wp_bind] at h' ⊢;exact Sem.wp_mono M Γ m (λa p' s' ⟨h1,i1⟩=>(hf a).out M Γ P E p' s' i1 h1) (λ_ _ _ z=>z) _ _ (hm.out M Γ _ E p s i h')⟩
def eK.ite{c:Prop} [Decidable c] {a b:Sem α} (ha:eK I a) (hb:eK I b):eK I (if c then a else b):=by split<;>assumption
def eK.newObjT{T:String}{vs:List Value}(k:∀h o,I h->I (h.push o)):eK I (newFields T vs):=by
 unfold newFields newObj;exact eK.ite (.bind (.un _) λ_=>.bind (.alloc λh i=>k h _ i) λa=>.pure _) (.bind (.alloc λh i=>k h _ i) λa=>.pure _)
end
def GD{dO:Option Addr}{e:Addr}{h:Heap}{o:Obj}(c:xj dO e h):xj dO e (h.push o):=by
 obtain⟨ob,vs,e1,e2,e3⟩:=c;exact⟨ob,vs,aB _ e1,e2,e3⟩
def EH{dO:Option Addr}{e a:Addr}{h:Heap}{f:Obj->Obj}(k:∀o vs,o.dict=dO/\o.data=.fields vs->vs[2]? = some Value.none->∃ws,((f o).dict=dO/\(f o).data=.fields ws)/\ws[2]? = some Value.none)(c:xj dO e h):xj dO e (h.update a f):=by
 obtain⟨ob,vs,e1,e2,e3⟩:=c;by_cases z:a=e
 ·subst z;obtain⟨ws,e4,e5⟩:=k ob vs e2 e3;exact⟨_,ws,df f e1 (by clear e5;revert e4;generalize f ob=z;intro ⟨_,e4⟩;obtain⟨c,d,da,sl⟩:=z;cases e4;rfl),e4,e5⟩
 ·exact⟨ob,vs,i9 f z e1,e2,e3⟩
def eK.setField{dO:Option Addr}{e:Addr}{v x:Value}{i:Nat}(hi:i≠2):eK (xj dO e) (PySem.setField v i x):=by
 unfold PySem.setField
 split
 ·unfold updateField;refine .bind (.load _) λo=>?_
  split
  ·refine .ite (.update λh c=>EH (λo vs e1 e2=>?_) c) (.un _);obtain⟨c,d,da,sl⟩:=o;obtain⟨e0,e1⟩:=e1;cases e1;refine⟨_,⟨e0,rfl⟩,?_⟩;rw[Array.getElem?_setIfInBounds,Vy hi];exact e2
  ·exact .un _
 ·exact .un _
def eK.field{I:Heap->Prop}{v:Value}{i:Nat}:eK I (PySem.field v i):=by
 unfold PySem.field fieldsOf;refine .bind ?_ λvs=>?_
 ·split
  ·refine .bind (.load _) λo=>?_
   split
   ·exact .pure _
   ·exact .un _
  ·exact .un _
 ·split
  ·exact .pure _
  ·exact .un _
def eK.ready{dO:Option Addr}{e:Addr}:∀l:List Env,eK (xj dO e) (readyFrames l)
 | []=>.pure _
 | env::outer=>by
  unfold readyFrames
  split
  ·refine .bind (.load _) λo=>.ite (.pure _) (.bind ?_ λb=>.bind ?_ λc=>.bind (.update λh c=>EH (λo vs e1 e2=>⟨vs,e1,e2⟩) c) λ_=>eK.ready outer)
   ·unfold behindIsImport;exact .ite (.pure _) (.ite (.pure _) (.bind .field λ_=>.pure _))
   ·unfold keptBack
    split
    ·refine .ite (.pure _) (.bind ?_ λ_=>.pure _);unfold underTheClaimsCaller;exact .bind .stack λ_=>.pure _
    ·exact .pure _
  ·exact .un _
def eK.note{dO:Option Addr}{e:Addr}{v:Value}{env:Env}:eK (xj dO e) (noteFrame v env):=by
 have jp:∀(f:Addr) (head:Value),eK (xj dO e) (do
   let a <-PySem.frameOf env
   let b <-entryPlaceOf f (head != Value.none)
   let c <-EntryCells.newEntry head a Value.none (rawInt ↑f) Value.none b
   PySem.setField v 1 c):=λf head=>by
  refine .bind ?_ λa=>.bind ?_ λb=>.bind ?_ λc=>.setField (by decide)
  ·unfold PySem.frameOf frameEnvs;refine .bind (.bind .stack λ_=>.pure _) λl=>.bind ?_ λo=>?_
   ·unfold frameObject
    split
    ·exact .pure _
    ·exact .bind (eK.ready _) λ_=>.pure _
   ·split
    ·exact .pure _
    ·exact .un _
  ·unfold entryPlaceOf;refine .bind .stack λacts=>?_
   split
   ·exact .pure _
   ·exact .pure _
  ·unfold EntryCells.newEntry;exact .newObjT λh o c=>GD c
 unfold noteFrame
 split
 ·refine .bind .field λhead=>?_;refine .ite (.bind .field λx=>.ite (.pure _) (.bind (.setField (by decide)) λ_=>jp _ _)) (jp _ _)
 ·exact .un _
def eK.flight{dO:Option Addr}{e:Addr}{v:Value}{fr:Option Addr}:eK (xj dO e) (setFlight v fr):=by
 unfold setFlight;exact .bind .field λtb=>.ite (.setField (by decide)) (.pure _)
def eK.leave{dO:Option Addr}{e:Addr}{v:Value}{env:Env}:eK (xj dO e) (leaving env v):=by
 unfold leaving;exact .bind .note λ_=>.flight
def eK.any{α:Type}{I:Heap->Prop}{t:Sem α}(p:eK I t){M:Model}{A:Around}{Q:α->Shared->Prop}{E:Value->Shared->Prop}{s:Shared}(i:I s.heap)(h:wpAny M A t Q E s):wpAny M A t (λa s'=>Q a s'/\I s'.heap) E s:=
 fun Γ q hΓ=>p.out M Γ _ _ q s i (h Γ q hΓ)
def iE{α:Type}{I:Heap->Prop}{t:Sem α}(p:eK I t){M:Model}{A:Around}{Q:α->Shared->Prop}{E:Value->Shared->Prop}{s:Shared}(i:I s.heap)(h:wpAny M A t (λa s'=>I s'.heap->Q a s') E s):wpAny M A t Q E s:=
 wpAny_mono (p.any i h) (λ_ _ ⟨q,c⟩=>q c) λ_ _ z=>z
def Fj{h h':Heap}{e:Addr}{cls:Value}{vs:List Value}(M:h.MadeExcOf h' e cls vs):MZ e h':=by
 obtain⟨t,e1,_⟩:=M.there;exact⟨_,_,e1,⟨rfl,rfl⟩,rfl⟩
def tU:entryFor table "proto.unchain"=some Builtin.«proto.unchain»:=entryFor_of_tree (Eq.refl (entriesT.find (code "proto.unchain")))
def dB.ex{P:Program}{w:World}{H:Hp}{h:Heap}{a:Addr}{o:HO}(x:dB P w H h a o):∃ob,h.get? a=some ob:=by
 cases o with
 | lst xs=>obtain⟨_,_,_,_,e⟩:=x;exact⟨_,e⟩
 | tup xs=>obtain⟨_,_,_,ob,e,_⟩:=x;exact⟨_,e⟩
 | dK kvs=>obtain⟨_,_,_,_,o,_,_,e,_⟩:=x;exact⟨_,e⟩
 | dT kvs=>obtain⟨_,_,_,_,o,_,_,e,_⟩:=x;exact⟨_,e⟩
 | set S n=>obtain⟨o,_,_,_,e,_⟩:=x;exact⟨_,e⟩
 | ins C dx fs=>obtain⟨_,_,_,e,_⟩:=x;exact⟨_,e⟩
 | own y=>exact x
 | xd fs=>obtain⟨_,⟨_,_,_,e,_⟩,_⟩:=x;exact⟨_,e⟩
 | rng lo hi=>obtain⟨_,_,_,e⟩:=x;exact⟨_,e⟩
 | frz ob u=>obtain⟨e,_⟩:=x;exact⟨_,e⟩
 | tbl ps=>exact⟨_,show h.get? a=some _ from x⟩
 | met f y=>exact⟨_,show h.get? a=some _ from x⟩
 | ext φ=>obtain⟨_,e,_⟩:=x;exact e
structure ML (B h:Heap) (H':Hp) (outer:List Env):Prop where
 old:∀ b o,h.get? b=some o->b∉kX outer->∃ o',B.get? b=some o'
 trk:∀ b u,H' b=some u->∃ o',B.get? b=some o'
def qL(P:Program)(w:World):Bc:=λouter H s E e s'=>∃(a C t:Addr) (H':Hp) (B:Heap) (dO:Option Addr),e=.ref a/\s'.os=s.os/\AllBare s'.gens/\Un (kX outer) [] H H' s.heap s'.heap/\nW P w H' s'.heap ∧
 B.FlyingW outer a (.ref C) (.ref t) s'.heap/\ML B s.heap H' outer/\xj dO a s'.heap/\E (.ref C) dO H'
def LC{P:Program}{w:World}{X:Cx}:tR (qL P w) X E0:=λ_ _ _ _ _ _ _ ⟨_,_,_,_,_,_,_,_,_,_,_,_,_,_,h⟩=>h.elim
def nN {h base B : Heap} : ∀ {l : List Env}, h.FunFrames base l → (∀ b ∈ kX l, B.get? b = none) → h.FunFrames B l
 | [], _, _ => trivial
 | env :: r, ⟨hk, ⟨L, o, hf, hn, ho, hd⟩, hr⟩, hb => ⟨hk, ⟨L, o, hf, hb L (by unfold kX; rw [dA, hf]; exact a7), ho, hd⟩,
   nN hr fun b m => hb b (by unfold kX; rw [dA, hf]; exact aM _ m)⟩
def Js(X:Cx)(E:XK):Prop:=∀(pins:List (Addr×Obj)) (σ:St) (H:Hp) (s:Shared) (h':Heap) (e C:Addr) (vs:List Value),bY X pins σ H s->s.heap.MadeExcOf h' e (.ref C) vs->E (.ref C) none H->X.xe (.ref e) { s with heap:=h' }
def iU{P:Program}{w:World}{K:WG}{mg:Str->Option Value}{base:Heap}{N:List Str}{qual:Str}{scope:Scope}{f:Addr}{cd:Value}{A:Around}{outer:List Env}{s0:Shared}{H0:Hp}{E:XK}:
  Js (jU (qL P w) P w K mg base N qual scope f cd A outer s0 H0 E) E:=by
 intro pins σ H s h' e C vs I M hE;generalize hX:jU (qL P w) P w K mg base N qual scope f cd A outer s0 H0 E=X at I ⊢;have hst:X.stack=X.env::X.outer:=by rw[<-hX];rfl
 have hfr:X.env.frame=some X.env.locals:=by rw[<-hX];rfl
 have hxe:X.xe=λe s'=>wpAny (model X.prog X.w) X.A (leaving X.env e) (λ_ s''=>qL X.prog X.w X.outer X.H₀ X.s₀ E e s'') (λe' s''=>qL X.prog X.w X.outer X.H₀ X.s₀ E e' s'') s':=by rw[<-hX];rfl
 have hex:X.ex=[]:=by rw[<-hX];rfl
 have hfs:kX X.stack=X.env.locals::X.fs:=by rw[hst];unfold kX;rw[dA,hfr];rfl
 clear hX;rw[hxe];have hB:∀b o,s.heap.get? b=some o->b∉kX X.stack->(PySem.W.hideAll s.heap (kX X.stack)).get? b=some o:=λb o e1 e2=>j8 _ e1 e2;refine iE (eK.leave (dO:=none) (e:=e)) (Fj M) ?_;refine wpAny_leaves_madeW (base:=PySem.W.hideAll s.heap (kX X.stack)) (h:=s.heap) (outer:=X.outer) (L:=X.env.locals) (by rw[I.ok.frames,hst]) hfr (λb o e1=>kL _ e1)
  (nN (hst▸I.stack) λb m=>gP _ (hst▸m)) M λh2 t fl _ _ up ct=>?_
 have lt0:∀b o,X.s₀.heap.get? b=some o->b≠X.env.locals:=λb o e1=>am (aW (aR e1) I.ok.above);have out:∀b o,X.s₀.heap.get? b=some o->b∉X.fs->b∉kX X.stack:=λb o e1 e2 z=>by
  rw[hfs] at z;exact(aL.mp z).elim (lt0 b o e1) e2
 have ne:∀b,b∉X.ex:=λb z=>by rw[hex] at z;cases z
 have stay:=fl.1;have slot:∀b o,s.heap.get? b=some o->b∈X.fs->∃sl,h2.get? b=some { o with slots:=sl }:=λb o e1 m=>by
  obtain⟨_,o',e2,nf⟩:=I.funs.mem m;rw[e1] at e2;cases e2;obtain⟨sl,q⟩:=up b o (M.keeps b o e1) nf;exact⟨sl,q⟩
 have u:=I.base;rw[hex] at u;refine⟨e,C,t,H,_,none,rfl,I.os,I.bare,⟨λb o e1 e2 e3 e4=>?_,λb o e1 e2 e3 e4=>?_,u.free,λb o e1 e2=>?_,u.tups,u.frzs,u.tbls⟩,λb o e1=>?_,fl,⟨λb o e1 e2=>?_,λb o e1=>?_⟩,ct,hE⟩
 ·exact stay b o (hB b o (u.keep b o e1 e2 e3 e4) (out b o e1 e3))
 ·obtain⟨sl,q⟩:=u.slot b o e1 e2 e3 e4;obtain⟨sl',q'⟩:=slot b _ q e3;exact⟨sl',q'⟩
 ·obtain⟨o',q⟩:=u.there b o e1 e2;by_cases m:b∈X.fs
  ·obtain⟨sl,q'⟩:=slot b o' q m;exact⟨_,q'⟩
  ·exact⟨o',stay b o' (hB b o' q (out b o e1 m))⟩
 ·refine(I.hok b o e1).stay (λc v hc q=>stay c v (hB c v q λz=>?_)) (λ_ q=>q) λ_ _ q=>q;have n:=I.stkFree c z;rcases hc with r | r
  ·rw[r,e1] at n;cases n
  ·rw[r] at n;cases n
 ·obtain⟨o',q⟩:=u.there b o e1 (by simp);exact⟨o',hB b o' q (out b o e1 e2)⟩
 ·obtain⟨ob,q⟩:=(I.hok b o e1).ex;refine⟨ob,hB b ob q λz=>?_⟩;have n:=I.stkFree b z;rw[e1] at n;cases n
def sE{h:Heap}{bmB:List Value}{v:Value}(hv:bmB.contains v=true):∀{l:List Value},OwnTail h bmB l->l.contains v=true
 | _,.base=>hv
 | _,.own _ _ _ t=>by rw[List.contains_cons,sE hv t,Bool.or_true]
def se{h h':Heap}(k:∀b o,h.get? b=some o->h'.get? b=some o){N:Addr}{m:Str->Option Value}(x:h.Ns N m):h'.Ns N m:=by
 obtain⟨o,es,ep,ho,r⟩:=x;exact⟨o,es,ep,k _ _ ho,r⟩
def l4{h h':Heap}(k:∀b o,h.get? b=some o->h'.get? b=some o){bmB:List Value}:∀{l:List Value},OwnTail h bmB l->OwnTail h' bmB l
 | _,.base=>.base
 | _,.own a b c t=>.own (k _ _ a) (se k b) c (l4 k t)
def xq(C:Addr)(E:XK)(t:TA):TS:=λ_ σ H=>t σ H λvs H1=>vs.length<=sizeLine/\E (.ref C) none H1
section
variable {X:Cx}
def DG{x:Str}{C:Addr}{bmB:List Value}{B newId initId:String}{E:XK}{e:Expr}{es:List Expr}{t:TA}{np cpos pos:Pos}(R:Js X E)(O:OwnCls x C bmB newId X.mg X.base)(F:ExcBaseFacts B newId initId bmB)(hc:X.calm=true)(hg:Gl X x)(ha:PA X (e::es) t)
  (hdb:(x==("__debug__":Str))=false:=by decide) (he:starEach (e::es) X.env=(false,eval e X.env)::starEach es X.env:=by rfl) (hpl:(backTo cpos (starEach es X.env)).any (·.1)=false:=by rfl) :
  PS X (.Raise (some (.Call (.Name x np) (e::es) [] cpos)) none pos) (xq C E t):=by
 intro pins s σ H D I h;obtain⟨bm,N,nm,q,bs,hdct,sn,sub,ab,col,dd,k0,k1,k2,k3,k5,mN,hC,hN,hi,ot⟩:=O.obj;have eq:backTo cpos (starEach (e::es) X.env)=(false,eval e X.env)::backTo cpos (starEach es X.env):=by rw[he];rfl
 have hb:(backTo cpos (starEach (e::es) X.env)).any (·.1)=false:=by rw[eq,fx,hpl];rfl
 refine wpAny_Raise_call_subT (nm:=nm) (q:=q) (N:=N) (bs:=bs) (hdct:=hdct) (sn:=sn) (sub:=sub) (ab:=ab) (col:=col) (dd:=dd) (k0:=k0) (k1:=k1) (k2:=k2) (k3:=k3) (k5:=k5) F (sE F.hasBase ot) (I.ok.hd hc) hb hi (je I hg O.bound ⟨rfl,?_⟩ hdb);have pl:=ha cpos pins s σ H _ I h;rw[eq] at pl ⊢;refine Calls.evalArgs_plain (dZ pl λus s1 ⟨vs,H1,I1,r,z,q1⟩=>⟨rfl,by rw[<-r.length];exact z,I1.bk _ _ hC,se I1.bk hN,l4 I1.bk ot,λh' a M=>R pins σ H1 s1 h' a C us I1 M q1⟩)
end
def nO(dO:Option Addr)(C a:Addr):HO:=.ext λh=>(∃o,h.get? a=some o/\o.cls=.ref C)/\xj dO a h
abbrev MB (C a:Addr):HO:=nO none C a
def Cx.exc(X:Cx)(a:Addr):Cx:={ X with A:=X.A.mark (some (.ref a)),calm:=false,xe:=λ_ _=>False }
section
variable {X:Cx} {pins:List (Addr×Obj)} {σ:St} {H H':Hp} {s s':Shared}
def Cx.Ok.exc(ok:X.Ok)(a:Addr):(X.exc a).Ok:=
 ⟨ok.mod,ok.kind,ok.glob,ok.blt,ok.above,ok.inj,ok.has,ok.cab,(λz=>nomatch z),ok.frames,ok.stk,ok.exf,ok.bs,ok.bsz,ok.noex,ok.exfs,ok.funs,ok.frf⟩
def bY.exc(I:bY X pins σ H s)(a:Addr):bY (X.exc a) pins σ H s:=⟨I.ok.exc a,I.os,I.bare,I.base,I.loc,I.cell,I.free,I.freeC,I.pin,I.hok,I.len⟩
def bY.unexc{a:Addr}(I:bY (X.exc a) pins σ H s)(ok:X.Ok):bY X pins σ H s:=⟨ok,I.os,I.bare,I.base,I.loc,I.cell,I.free,I.freeC,I.pin,I.hok,I.len⟩
def UpToSlots.trans{h1 h2 h3:Heap}(a:h1.UpToSlots h2)(b:h2.UpToSlots h3):h1.UpToSlots h3:=λc o e nf=>by
 obtain⟨sl,e1⟩:=a c o e nf;obtain⟨sl',e2⟩:=b c _ e1 nf;exact⟨sl',e2⟩
def bY.land{dO:Option Addr}{B:Heap}{a C t:Addr}{h4:Heap}{E:XK}(I:bY X pins σ H s)(os:s'.os=s.os)(bare:AllBare s'.gens)(un:Un (kX X.stack) [] H H' s.heap s'.heap)(hok:nW X.prog X.w H' s'.heap)(f1:B.FlyingW X.stack a (.ref C) (.ref t) s'.heap)
  (cov:ML B s.heap H' X.stack) (f4:B.FlyingW X.stack a (.ref C) (.ref t) h4) (up:s'.heap.UpToSlots h4) (ct:xj dO a h4):bY X pins σ (bE H' a (nO dO C a)) { s' with heap:=h4 }:=by
 have Bn:B.get? a=none:=f1.2.1;have ntr:∀b u,H' b=some u->b≠a:=λb u e z=>by
  obtain⟨o,q⟩:=cov.trk b u e;rw[z,Bn] at q;cases q
 have na:∀b o,s.heap.get? b=some o->b≠a:=λb o e z=>by
  subst z;by_cases m:b∈kX X.stack
  ·obtain⟨_,o1,e1,nf⟩:=f4.2.2.1.mem m;obtain⟨oe,vs,_,_,_,e2,_,e3,_⟩:=f4.2.2.2;rw[e1] at e2;cases e2;exact nf vs e3
  ·obtain⟨o',q⟩:=cov.old b o e m;rw[Bn] at q;cases q
 have fr:∀b o,s'.heap.get? b=some o->b∈kX X.stack->∃sl,h4.get? b=some { o with slots:=sl }:=λb o e m=>by
  obtain⟨_,o1,e1,nf⟩:=f1.2.2.1.mem m;rw[e] at e1;cases e1;exact up b o e nf
 have same:∀b o ob,B.get? b=some ob->s'.heap.get? b=some o->h4.get? b=some o:=λb o ob e e1=>by
  have e2:=f1.1 b ob e;rw[e1] at e2;cases e2;exact f4.1 b o e
 refine I.call' (s':={ s' with heap:=h4 }) (ch:=[]) os ⟨λb o e n hb _=>?_,λb o e n hb hx=>?_,λb o e n hx=>?_,λb o e hx=>?_,λb xs e=>?_,λb o u e=>?_,λb ps e=>?_⟩ (λb o e=>?_) bare (λb z=>nomatch z)
 ·have e1:=un.keep b o e n hb (by simp);obtain⟨ob,q⟩:=cov.old b o e hb;exact same b o ob q e1
 ·obtain⟨sl,e1⟩:=un.slot b o e n hb (by simp);obtain⟨sl',e2⟩:=fr b _ e1 hb;exact⟨sl',e2⟩
 ·rw[aI (na b o e)];exact un.free b o e n (by simp)
 ·obtain⟨o',e1⟩:=un.there b o e (by simp);by_cases m:b∈kX X.stack
  ·obtain⟨sl,q⟩:=fr b o' e1 m;exact⟨_,q⟩
  ·obtain⟨ob,q⟩:=cov.old b o e m;exact⟨_,f4.1 b ob q⟩
 ·have e1:=un.tups b xs e;rw[aI (ntr b _ e1)];exact e1
 ·have e1:=un.frzs b o u e;rw[aI (ntr b _ e1)];exact e1
 ·obtain⟨more,e1⟩:=un.tbls b ps e;exact⟨more,by rw[aI (ntr b _ e1)];exact e1⟩
 ·by_cases z:b=a
  ·subst z;rw[aC] at e;cases e;obtain⟨oe,_,_,_,_,e2,⟨e3,_⟩,_⟩:=f4.2.2.2;refine⟨⟨⟨oe,e2,e3⟩,ct⟩,⟨oe,e2⟩,λh1 h2 ⟨⟨o,e5,e6⟩,⟨o',vs,e7,e8⟩⟩ k=>⟨⟨o,k o e5,e6⟩,⟨o',vs,k o' e7,e8⟩⟩⟩
  ·rw[aI z] at e;refine(hok b o e).stay (λc v hc q=>?_) (λc q=>by rw[aI (ntr c _ q)];exact q) λc xs q=>by rw[aI (ntr c _ q)];exact q
   obtain⟨ob,q'⟩:∃ob,B.get? c=some ob:=by
    rcases hc with r | r
    ·rw[r];exact cov.trk b o e
    ·exact cov.trk c _ r
   exact same c v ob q' q
end
def re{X:Cx}{pins:List (Addr×Obj)}{σ:St}{H:Hp}{s:Shared}{M:Model}{A:Around}{E:Value->Shared->Prop}{i:Nat}{n:Str}{pos:Pos}{Q:Unit->Shared->Prop}(I:bY X pins σ H s)(hN:X.N.Nodup)(hi:X.N[i]? = some n)(hx:X.env.scope.names.lookup n=some .local)
  (h:∀s',bY X pins (σ.set i none) H s'->Q () s'):wpAny M A (do bindName X.env n Value.none;unbindBehindTheSuite X.env n pos) Q E s:=by
 obtain⟨m,hn,hl⟩:=id I.loc;have hcls:(X.env.scope.kind==.class || (X.env.scope.kind==.module&&X.env.locals != X.env.globals))=false:=by rw[I.ok.kind];rfl
 have cne:=I.cne;refine wpAny_nameGoes_keeps hx hn hcls λh' v hn' hs=>?_;obtain⟨oL,_,_,hoL,_⟩:=id hn;refine h _ ⟨I.ok,I.os,I.bare,⟨λb o e n hb hx=>?_,λb o e n hb hx=>?_,I.base.free,λb o e hx=>?_,I.base.tups,I.base.frzs,I.base.tbls⟩,⟨_,hn',λj y v' e1 e2 e3=>?_⟩,λy c e=>?_,I.free,I.freeC,λp hp=>?_,λb ob e=>?_,by simpa using I.len⟩
 ·exact(hs.2 b (am (aW (aR e) I.ok.above))).trans (I.base.keep b o e n hb hx)
 ·obtain⟨sl,e1⟩:=I.base.slot b o e n hb hx;exact⟨sl,(hs.2 b (am (aW (aR e) I.ok.above))).trans e1⟩
 ·obtain⟨o',e1⟩:=I.base.there b o e hx;exact⟨o',(hs.2 b (am (aW (aR e) I.ok.above))).trans e1⟩
 ·have hj:j≠i:=λz=>by
   subst z;have:j<σ.length:=by rw[I.len];exact(aH.mp e1).1
   rw[i8 this] at e2;cases e2
  rw[jR (gg hj)] at e2;obtain⟨u',r',q⟩:=hl j y v' e1 e2 e3;refine⟨u',r',?_⟩;rcases q with ⟨k,e⟩ | ⟨k,c,e,z⟩
  ·refine .inl ⟨k,?_⟩;have:y≠n:=λe=>hj (sf hN e1 (e▸hi));simp[this,e]
  ·exact .inr ⟨k,c,e,z.sameBut hs (cne y c e)⟩
 ·obtain⟨w',z⟩:=I.cell y c e;exact⟨w',z.sameBut hs (cne y c e)⟩
 ·obtain⟨e,n,ne,nf,d⟩:=I.pin p hp;exact⟨(hs.2 p.1 ne).trans e,n,ne,nf,d⟩
 ·refine(I.hok b ob e).stay (λc w' hc q=>(hs.2 c ?_).trans q) (λ_ q=>q) λ_ _ q=>q;rintro rfl;have hfree:=I.free;rcases hc with rfl | hc
  ·rw[hfree] at e;cases e
  ·rw[hfree] at hc;cases hc
structure mU (a:Addr) (k:Nat) (A:Around):Prop where
 hd:A.handled=some (.ref a)
 dp:A.depth+3 * k+5<recursionLimit
 un:A.units+16 * k+200<cLine
def mU.deeper{a:Addr}{k:Nat}{A:Around}(r:mU a (k+1) A)(env:Env):mU a k (A.deeper env):=
 ⟨r.hd,by have:=r.dp;show A.depth+1+3*k+5<_;lia,by have:=r.un;show A.units+3+16*k+200<_;lia⟩
def mU.of{a:Addr}{k:Nat}{A:Around}(r:gE k A):mU a k (A.mark (some (.ref a))):=⟨rfl,r.dp,r.un⟩
structure xc (P:Program) (w:World) (K:WG) (mg:Str->Option Value) (base:Heap) (a:Addr) (k:Nat) (f:Addr) (fd:FuncData) (ps:List Str) (sp:Sp):Prop where
 len:∀ vs H Q E,sp vs H Q E->vs.length=ps.length
 run:∀ (A:Around) (outer:List Env) (s:Shared) (H:Hp) (args:Args) (us:List Value) (vs:List V) (Q:VK) (E:XK),mU a k A->vt P w K mg base A outer s H->BindsTo s fd args (ps.zip us)->cE vs us->sp vs H Q E →
  codeAny (model P w) A (.call (.ref f) args) (CR xk outer P w H s Q E) s
def L8(P:Program)(w:World)(K:WG)(mg:Str->Option Value)(base:Heap)(N:List Str)(qual:Str)(scope:Scope)(f:Addr)(cd:Value)(A:Around)(outer:List Env)(s:Shared)(H:Hp)(E:XK):Cx:=
 { jU xk P w K mg base N qual scope f cd A outer s H E with calm:=false,xe:=λ_ _=>False }
def Jh{P:Program}{w:World}{K:WG}{mg:Str->Option Value}{base:Heap}{a:Addr}{k:Nat}{f:Addr}{name qual:Str}{params:Arguments}{body:List Stmt}{scope:Scope}{dV kV doc pm cdv ct oc:Value}{an od:Option Addr}
  {osl:Array (Option Value)} {N ps:List Str} {sp:Sp} (lk:K.lookup f=some ⟨oc,od,.func (PySem.W.fnOf name qual params body scope dV kV doc pm an cdv ct),osl⟩) (hcd:PySem.W.codeIn K cdv qual=true) (S:bN N ps scope)
  (len:∀vs H Q E,sp vs H Q E->vs.length=ps.length)
  (hbody:∀(A:Around) (outer:List Env) (s:Shared) (H:Hp) (vs:List V) (Q:VK) (E:XK),mU a k (A.deeper (envOfC qual scope s.heap.objs.size f cdv))->sp vs H Q E →
   ∃t,ut (L8 P w K mg base N qual scope f cdv A outer s H E) body t/\t { nx:=λ_ H'=>Q .non H',rt:=Q } (start N vs) H) :
  xc P w K mg base a (k+1) f (PySem.W.fnOf name qual params body scope dV kV doc pm an cdv ct) ps sp:=by
 refine⟨len,λA outer s H args us vs Q E hr e0 hb r hsp=>?_⟩;have hl:=len _ _ _ _ hsp;have KX:K.In s.heap:=e0.mod.kin.keeps λb o e=>(e0.bs b o e).1;have lim:s.heap.NoLimit:=e0.mod.nolimit.keeps λb o e=>(e0.bs b o e).1;have hkind:∀y∈ps.zip us,scope.names.lookup y.1=some .local\/(scope.names.lookup y.1=some .cell/\((cellsFrom (s.heap.objs.size+1) scope.names []).lookup y.1).isSome=true):=λ⟨n,v⟩ hy=>by
  rcases S.par n (jX hy).1 with q | q
  ·exact .inl q
  ·exact .inr ⟨q,i4 _ _ _ (.inl q)⟩
 refine codeAny_call_function (by have:=hr.dp;lia) (KX _ _ lk) rfl S.co S.gen rfl (PySem.W.codeRec_of KX hcd) (hb _ _ _ _ ?_);refine wpAny_newFunctionEnv_cells S.kind hkind λenv he s1 x=>?_;subst he;refine⟨lim.keeps x.toInCall.keep,codeAny_func ?_⟩;obtain⟨t,ht,hq⟩:=hbody A outer s H vs Q E (hr.deeper _) hsp;have e1:vt P w K mg base { A with handled:=none } outer s H:=⟨e0.frames,e0.mod,e0.bs,e0.bsz,e0.funs,e0.frf,e0.hok,e0.bare⟩
 have I0:=u5 (CX:=xk) (E:=E) (f:=f) (qual:=qual) (cd:=cdv) S (A:={ A with handled:=none }) rfl e1 hl r x;have ok0:=I0.ok;have I:bY (L8 P w K mg base N qual scope f cdv A outer s H E) [] (start N vs) H s1:=
  ⟨⟨ok0.mod,ok0.kind,ok0.glob,ok0.blt,ok0.above,ok0.inj,ok0.has,ok0.cab,(λz=>nomatch z),Around.frames_deeper e0.frames,ok0.stk,ok0.exf,ok0.bs,ok0.bsz,ok0.noex,ok0.exfs,ok0.funs,ok0.frf⟩,I0.os,I0.bare,I0.base,I0.loc,I0.cell,I0.free,I0.freeC,I0.pin,I0.hok,I0.len⟩
 refine wpAny_mono (ht [] s1 (start N vs) H _ I hq) (λfl s' hs=>?_) λe s' hs=>False.elim hs;have fin:∀{σ':St} {H':Hp} {v:V} {u:Value},bY (L8 P w K mg base N qual scope f cdv A outer s H E) [] σ' H' s'->RelV v u->Q v H'->CE outer P w H s Q u s':=
  fun {σ' H' v u} J rv q=>⟨v,H',J.os,J.bare,J.base,J.hok,rv,q⟩
 cases fl with
 | ret u=>
  obtain⟨v,σ',H',J,rv,q⟩:=hs;exact fin J rv q
 | next=>
  obtain⟨σ',H',J,q⟩:=hs;exact fin (v:=V.non) (u:=Value.none) J rfl q
 | brk=>
  obtain⟨_,_,_,q⟩:=hs;exact False.elim q
 | cont=>
  obtain⟨_,_,_,q⟩:=hs;exact False.elim q
def DS{X:Cx}{a:Addr}{k:Nat}{f:Addr}{fd:FuncData}{ps:List Str}{sp:Sp}{x:Str}{e:Expr}{es:List Expr}{t:TA}{p pos:Pos}(F:xc X.prog X.w X.K X.mg X.base a k f fd ps sp)(hr:mU a k X.A)(hg:Gl X x)(hm:X.mg x=some (.ref f))(hk:PySem.W.keepIn X.K (.ref f)=true)(hb:Binds X.K fd ps [])
  (ha:PA X (e::es) t) (hdb:(x==("__debug__":Str))=false:=by decide) (he:starEach (e::es) X.env=(false,eval e X.env)::starEach es X.env:=by rfl) (hpl:(backTo pos (starEach es X.env)).any (·.1)=false:=by rfl) :
  PE X (.Call (.Name x p) (e::es) [] pos) (oQ sp [] E0 t):=by
 intro pins s σ H Q I h;refine Vh (je I hg hm ?_ hdb);refine iH (h₀:=X.base) I.ok.mod.kin hk (dZ (ha pos pins s σ H _ I h) λus s1 ⟨vs,H1,I1,r,q⟩=>⟨I1.kIn,?_⟩) he hpl;have r2:cE (vs++[]) (us++[]):=r.append .nil;have hl:(us++[]).length=ps.length:=by rw[<-r2.length];exact F.len _ _ _ _ q
 refine Vf (Vg (F.run X.A X.stack s1 H1 ⟨us,[]⟩ (us++[]) (vs++[]) Q E0 hr I1.env0 (hb s1 us I1.kIn hl) r2 q) λr s' hq=>?_);cases r with
 | error e=>exact False.elim hq
 | ok fl=>
  cases fl with
  | ret u=>exact I1.after hq
  | next=>exact False.elim hq
  | brk=>exact False.elim hq
  | cont=>exact False.elim hq
def BP{prog:Program}{w:World}{A:Around}{E:Value->Shared->Prop}{s:Shared}{K:WG}{a C N:Addr}{o:Obj}{bs bm bmB:List Value}{nm q:Str}{hdct:Bool}{sn:List Str}{sub:List Value}{ab:Bool}{col:Option Bool}{dd:Option Addr}{k0 k1 k2 k3 k5:Option Value}{B newId:String}{Q:Option Value->Shared->Prop}
  (X:K.In s.heap) (I:PySem.W.InstAt s.heap a o C none) (hga:PySem.W.findIn K (.ref C) "__getattribute__"=some (some (.builtin "BaseException.__getattribute__"))) (hgt:PySem.W.findIn K (.ref C) "__getattr__"=some none)
  (hf:PySem.W.findObj K C none "__class__"=some (.bind (.builtin "getset_descriptor.__get__") (.builtin "object.__class__"))) (hm:PySem.W.mroIn K C (.type "object")=some true) (FB:ExcAttrBase B bmB)
  (hC:s.heap.get? C=some (excClassObj nm q C N bs bm hdct sn sub ab col dd k0 k1 k2 k3 k5 newId)) (T:OwnTailQ s.heap bmB bm) (hq:Q (some (.ref C)) { s with toks:=s.toks+1 }):wpAny (model prog w) A (getAttr? (.ref a) "__class__") Q E s:=by
 obtain⟨h,g,d,t,os⟩:=s;unfold getAttr?;refine wpAny_bind (wpAny_mkText ?_);unfold getAttrBy?;refine wpAny_bind (Vm ?_);unfold getAttrBy;refine V7 (wpAny_bind (bp (cz I) (wpAny_bind (bp (dS X hga) ?_))));refine Vn (by rfl) ?_;unfold getAttrByItsOwn hookBefore;refine wpAny_bind (wpAny_ite_true (by rfl) (bp (dS X hgt) (wpAny_bind (Vm (V7 ?_)))));unfold callGetattribute boundAndCalled;refine Vn (by rfl) (wpAny_bind (wpAny_of_eq (FB.ga.bind (Value.ref a)) (Vf (Vo FB.ga.plain mY (Vp FB hC T I.at_ I.cls ?_)))));unfold Builtin.«object.__getattribute__»;refine wpAny_bind ?_;unfold slotArgs;refine Vn (by rfl) (Vn (by rfl) (Va ?_));show wpAny _ _ (Bind.bind (Builtin.ObjectAttr.attrName (Value.str (Str.ofString "__class__") _)) _) _ _ _;refine wpAny_bind ?_;unfold Builtin.ObjectAttr.attrName;refine Va ?_;refine wpAny_bind (bp (cz I) (wpAny_bind (bp (kM X I hf) ?_)));unfold Builtin.ObjectAttr.bindTo;refine wpAny_bind (V7 (Vf (PySem.W.class_get X I hm ?_)));refine Va ?_;refine ki rfl ?_;exact Va hq
structure vq (K:WG) (C:Addr):Prop where
 ga:PySem.W.findIn K (.ref C) "__getattribute__"=some (some (.builtin "BaseException.__getattribute__"))
 gt:PySem.W.findIn K (.ref C) "__getattr__"=some none
 fo:PySem.W.findObj K C none "__class__"=some (.bind (.builtin "getset_descriptor.__get__") (.builtin "object.__class__"))
 mro:PySem.W.mroIn K C (.type "object")=some true
 lk:∃ c dd cd sl,K.lookup C=some ⟨c,dd,.cls cd,sl⟩
 own:∃ B bmB,ExcAttrBase B bmB/\∀ h:Heap,K.In h->∃ nm q N bs bm hdct sn sub ab col dd k0 k1 k2 k3 k5 newId,h.get? C=some (excClassObj nm q C N bs bm hdct sn sub ab col dd k0 k1 k2 k3 k5 newId)/\OwnTailQ h bmB bm
def Jy(C a:Addr)(h:Heap):Prop:=(∃o,h.get? a=some o/\o.cls=.ref C)/\MZ a h
def Jy.inst{C a:Addr}{h:Heap}(x:Jy C a h):∃o,PySem.W.InstAt h a o C none:=by
 obtain⟨⟨o,e1,e2⟩,o',vs,e3,⟨e4,e5⟩,_⟩:=x;rw[e1] at e3;cases e3;exact⟨o,e1,e2,by unfold PySem.W.notCls;rw[e5],by rw[e4];trivial⟩
def Dm{K:WG}{C a:Addr}(k:vq K C):PySem.W.KitX K (.ref a) (.ref C) (Jy C a):=by
 obtain⟨c,dd,cd,sl,lk⟩:=k.lk;refine⟨λM h _ x=>?_,λM h X _ A Q E s kp hq=>?_,λh tp dd' its n sl' X htp=>?_,fun {prog w A E Q s} X x hq=>?_⟩
 ·obtain⟨o,I⟩:=x.inst;exact cz I
 ·exact wpAny_bind (wpAny_loadPart (kp C _ (X C _ lk)) (Va hq))
 ·refine Bool.eq_false_iff.mpr λq=>?_;have e:=Value.ref.inj (beq_iff_eq.mp q);subst e;rw[X C _ lk] at htp;cases htp
 ·obtain⟨o,I⟩:=x.inst;obtain⟨B,bmB,FB,ow⟩:=k.own;obtain⟨nm,q,N,bs,bm,hdct,sn,sub,ab,col,dd,k0,k1,k2,k3,k5,newId,hC,T⟩:=ow s.heap X;exact BP X I k.ga k.gt k.fo k.mro FB hC T hq
section
variable {K:WG} {C D R:Addr} {dd:Option Addr} {cd:ClassData} {sl:Array (Option Value)} {b:Bool}
def AO (lk:K.lookup D=some ⟨.type "type",dd,.cls cd,sl⟩) (m:PySem.W.mroIn K C (.ref D)=some b):PySem.W.kitCls K (.ref C) (.ref D)=some b:=by
 have e1:PySem.W.clsIn K D=some cd:=by unfold PySem.W.clsIn;rw[lk]
 have e2:PySem.W.typeIn K (.ref D)=some (.type "type"):=by show Option.map (λx=>x.cls) (List.lookup D K)=_;rw[lk];rfl
 show (if ((PySem.W.clsIn K D).isSome&&PySem.W.typeIn K (Value.ref D)==some (Value.type "type"))=true then PySem.W.subIn K (Value.ref C) (Value.ref D) else none)=some b;rw[e1,e2];rw[Vz (by simp)];exact m
def bT (ne:(Value.ref C==Value.ref D)=false) (lk:K.lookup D=some ⟨.type "type",dd,.cls cd,sl⟩) (m:PySem.W.mroIn K C (.ref D)=some b):PySem.W.kitOne K (.ref C) (.ref D)=some b:=by
 unfold PySem.W.kitOne;rw[Vy (by rw[ne];exact ax)];exact AO lk m
def pY:PySem.W.kitOne K (.ref C) (.ref C)=some true:=by
 unfold PySem.W.kitOne;rw[Vz (beq_self_eq_true _)]
def pX{T:String}(mt:PySem.W.kitMeta T=true)(m:PySem.W.mroIn K C (.type T)=some b):PySem.W.kitOne K (.ref C) (.type T)=some b:=by
 unfold PySem.W.kitOne PySem.W.kitCls;rw[Vy (by exact λz=>nomatch (beq_iff_eq.mp z))];simp only[mt,WE];exact m
def dr (lk:K.lookup R=some ⟨.type "type",dd,.cls cd,sl⟩) (m:PySem.W.mroIn K C (.ref R)=some b) (e:PySem.W.mroIn K R (.type "BaseException")=some true):PySem.W.exmOne K (.ref C) (.ref R)=some b:=by
 unfold PySem.W.exmOne;rw[Vz (by show (PySem.W.mroIn K R (.type "BaseException")==some true)=true;rw[e];rfl)];exact AO lk m
def find_none {name:Str} {a g:Value} (lk:K.lookup C=some ⟨.type "type",dd,.cls cd,sl⟩) (h1:PySem.W.findIn K (.ref C) name=some (some a)) (h2:PySem.W.specialIn K a "__get__"=some (some g)) (h3:PySem.W.takesIn K a=some true):PySem.W.findObj K C none name=some (.bind g a):=by
 have e1:PySem.W.clsIn K C=some cd:=by unfold PySem.W.clsIn;rw[lk]
 unfold PySem.W.findObj;simp only[e1,h1,h2,h3,Option.bind_some]
end
def strKeys(es:Array DictEntry):Bool:=es.toList.all λe=>match e.key with | .str _ _=>true | _=>false
def gG{K:WG}{N:Addr}{c:Value}{d:Option Addr}{es:Array DictEntry}{ep:Nat}{sl:Array (Option Value)}(lk:K.lookup N=some ⟨c,d,.dict es ep,sl⟩)(h:strKeys es=true):PySem.W.nsOkIn K N=true:=by
 unfold PySem.W.nsOkIn;rw[lk];unfold strKeys at h;rw[Array.all_toList] at h;exact h
def Cr {P:Str->Prop} (h1:P "__init__") (h2:P "__getattribute__") (h3:P "__getattr__") (h4:P "args"):∀n∈quietNames,P n:=λn hn=>by
 unfold quietNames at hn;simp only[aL,cM,or_false] at hn;rcases hn with rfl | rfl | rfl | rfl<;>assumption
def jx{K:WG}{C R N NR:Addr}{nm q x:Str}{bs bmB:List Value}{hdct:Bool}{sn:List Str}{sub:List Value}{ab:Bool}{col:Option Bool}{dd dR:Option Addr}{k0 k1 k2 k3 k5:Option Value}{newId B:String}{cR:Value}{cdR:ClassData}{slR:Array (Option Value)}{mg:Str->Option Value}{base:Heap}
  (KX:K.In base) (G:base.Ns mainGlobals mg) (e0:PySem.W.nsIn K mainGlobals x=some (some (.ref C))) (lkC:K.lookup C=some (excClassObj nm q C N bs (.ref R::bmB) hdct sn sub ab col dd k0 k1 k2 k3 k5 newId)) (lkR:K.lookup R=some ⟨cR,dR,.cls cdR,slR⟩)
  (nC:PySem.W.nsOkIn K N=true) (iC:PySem.W.nsIn K N "__init__"=some none) (eR:cdR.ns=NR) (nR:PySem.W.nsOkIn K NR=true) (r1:PySem.W.nsIn K NR "__init__"=some none) (r2:PySem.W.nsIn K NR "__getattribute__"=some none) (r3:PySem.W.nsIn K NR "__getattr__"=some none) (r4:PySem.W.nsIn K NR "args"=some none)
  (FB:ExcAttrBase B bmB) (ga:PySem.W.findIn K (.ref C) "__getattribute__"=some (some (.builtin "BaseException.__getattribute__"))) (gt:PySem.W.findIn K (.ref C) "__getattr__"=some none) (gc:PySem.W.findIn K (.ref C) "__class__"=some (some (.builtin "object.__class__")))
  (sp:PySem.W.specialIn K (.builtin "object.__class__") "__get__"=some (some (.builtin "getset_descriptor.__get__"))) (tk:PySem.W.takesIn K (.builtin "object.__class__")=some true) (mr:PySem.W.mroIn K C (.type "object")=some true):OwnCls x C bmB newId mg base/\vq K C:=by
 subst eR;refine⟨⟨be KX G e0,?_⟩,⟨ga,gt,find_none lkC gc sp tk,mr,⟨_,_,_,_,lkC⟩,B,bmB,FB,λh X=>?_⟩⟩
 ·exact⟨_,N,nm,q,bs,hdct,sn,sub,ab,col,dd,k0,k1,k2,k3,k5,_,KX _ _ lkC,eu (di KX nC),b9 KX nC iC,
   .own (KX _ _ lkR) (eu (di KX nR)) (b9 KX nR r1) .base⟩
 ·exact⟨nm,q,N,bs,_,hdct,sn,sub,ab,col,dd,k0,k1,k2,k3,k5,newId,X _ _ lkC,.own (X _ _ lkR) (eu (di X nR))
   (Cr (b9 X nR r1) (b9 X nR r2) (b9 X nR r3) (b9 X nR r4)) .base⟩
structure k6 (P:Program) (w:World) (K:WG) (mg:Str->Option Value) (base:Heap) (k:Nat) (x:Str) (st:Stmt) (ps:List Str) (sp:Sp):Prop where
 ex:∃ f fd,vp K x x st f fd/\mg x=some (.ref f)/\Binds K fd ps []/\nX P w K mg base (qL P w) k f fd ps sp
structure EY (P:Program) (w:World) (K:WG) (mg:Str->Option Value) (base:Heap) (k:Nat) (x:Str) (st:Stmt) (ps:List Str) (sp:Addr->Sp):Prop where
 ex:∃ f fd,vp K x x st f fd/\mg x=some (.ref f)/\Binds K fd ps []/\∀ a,xc P w K mg base a k f fd ps (sp a)
section
variable {P:Program} {w:World} {K:WG} {mg:Str->Option Value} {base:Heap} {k:Nat} {x:Str} {st:Stmt} {ps:List Str} {sp:Sp}
def Fn.mkX(E:Fn K mg x st ps)(h:∀f fd,vp K x x st f fd->nX P w K mg base (qL P w) k f fd ps sp):k6 P w K mg base k x st ps sp:=by
 obtain⟨f,fd,F,m,b⟩:=E.ex;exact⟨f,fd,F,m,b,h f fd F⟩
def Fn.mkH{sp:Addr->Sp}(E:Fn K mg x st ps)(h:∀f fd,vp K x x st f fd->∀a,xc P w K mg base a k f fd ps (sp a)):EY P w K mg base k x st ps sp:=by
 obtain⟨f,fd,F,m,b⟩:=E.ex;exact⟨f,fd,F,m,b,h f fd F⟩
def vp.okX{qual:Str}{f:Addr}{fd:FuncData}{N:List Str}(F:vp K x qual st f fd)(S:bN N ps (ao st))(len:∀vs H Q E,sp vs H Q E->vs.length=ps.length)
  (hbody:∀(cdv:Value) (A:Around) (outer:List Env) (s:Shared) (H:Hp) (vs:List V) (Q:VK) (E:XK),gE k (A.deeper (envOfC qual (ao st) s.heap.objs.size f cdv))->sp vs H Q E →
   ∃(σ:St) (t:TS),start N vs=σ/\ut (jU (qL P w) P w K mg base N qual (ao st) f cdv A outer s H E) (gf st) t/\t { nx:=λ_ H'=>Q .non H',rt:=Q } σ H):nX P w K mg base (qL P w) (k+1) f fd ps sp:=by
 obtain⟨oc,od,kV,doc,pm,an,cdv,ct,osl,rfl,lk,hcd⟩:=F.ex;refine HL lk hcd S len λA outer s H vs Q E hr hsp=>?_;obtain⟨σ,t,e,h,q⟩:=hbody cdv A outer s H vs Q E hr hsp;exact⟨t,h,by rw[e];exact q⟩
def vp.okH{a:Addr}{qual:Str}{f:Addr}{fd:FuncData}{N:List Str}(F:vp K x qual st f fd)(S:bN N ps (ao st))(len:∀vs H Q E,sp vs H Q E->vs.length=ps.length)
  (hbody:∀(cdv:Value) (A:Around) (outer:List Env) (s:Shared) (H:Hp) (vs:List V) (Q:VK) (E:XK),mU a k (A.deeper (envOfC qual (ao st) s.heap.objs.size f cdv))->sp vs H Q E →
   ∃(σ:St) (t:TS),start N vs=σ/\ut (L8 P w K mg base N qual (ao st) f cdv A outer s H E) (gf st) t/\t { nx:=λ_ H'=>Q .non H',rt:=Q } σ H):xc P w K mg base a (k+1) f fd ps sp:=by
 obtain⟨oc,od,kV,doc,pm,an,cdv,ct,osl,rfl,lk,hcd⟩:=F.ex;refine Jh lk hcd S len λA outer s H vs Q E hr hsp=>?_;obtain⟨σ,t,e,h,q⟩:=hbody cdv A outer s H vs Q E hr hsp;exact⟨t,h,by rw[e];exact q⟩
end
section
variable {X:Cx}
def Ik{st:Stmt}{t:TS}(h:PS X.nox st t):PS X st t:=λpins s σ H D I hw=>
 wpAny_mono (h pins s σ H D (I.wish _) hw) (λ_ _ q=>q.unwish) λ_ _ z=>False.elim z
def Ie{e:Expr}{t:TT}(h:PT X.nox e t):PT X e t:=h.nox
def DP {x:Str} {C:Addr} {pos:Pos} (hg:Gl X x) (hm:X.mg x=some (.ref C)) (hd:(x==("__debug__":Str))=false:=by decide):PE X (.Name x pos) (tC (.ref C)):=vV hg hm rfl hd
def DR{k:Nat}{x:Str}{st:Stmt}{ps:List Str}{sp:Sp}{e:Expr}{es:List Expr}{t:TA}{p pos:Pos}(D:k6 X.prog X.w X.K X.mg X.base k x st ps sp)(hr:gE k X.A)(hg:Gl X x)(ha:PA X (e::es) t)
  (hdb:(x==("__debug__":Str))=false:=by decide) (he:starEach (e::es) X.env=(false,eval e X.env)::starEach es X.env:=by rfl) (hpl:(backTo pos (starEach es X.env)).any (·.1)=false:=by rfl) :
  PE X (.Call (.Name x p) (e::es) [] pos) (oQ sp [] E0 t):=by
 obtain⟨f,fd,F,m,b,G⟩:=D.ex;exact vW G hr hg m F.kp b .nil LC ha hdb he hpl
def Al{a:Addr}{k:Nat}{x:Str}{st:Stmt}{ps:List Str}{sp:Addr->Sp}{e:Expr}{es:List Expr}{t:TA}{p pos:Pos}(D:EY X.prog X.w X.K X.mg X.base k x st ps sp)(hr:mU a k X.A)(hg:Gl X x)(ha:PA X (e::es) t)
  (hdb:(x==("__debug__":Str))=false:=by decide) (he:starEach (e::es) X.env=(false,eval e X.env)::starEach es X.env:=by rfl) (hpl:(backTo pos (starEach es X.env)).any (·.1)=false:=by rfl) :
  PE X (.Call (.Name x p) (e::es) [] pos) (oQ (sp a) [] E0 t):=by
 obtain⟨f,fd,F,m,b,G⟩:=D.ex;exact DS (G a) hr hg m F.kp b ha hdb he hpl
end
section
variable {σ:St} {H:Hp}
def zI{C:Addr}{E:XK}{t:TA}{D:Ends}:xq C E t D σ H=t σ H λvs H1=>vs.length<=sizeLine/\E (.ref C) none H1:=rfl
end
def rO:bootBuiltins "ValueError"=some (.type "ValueError"):=by decide +kernel
structure LW (K:WG) (C:Addr) (ds:List Addr) (due:Nat):Prop where
 ek:vq K C
 kit:∀ j d,ds[j]? = some d->PySem.W.kitOne K (.ref C) (.ref d)=some (decide (j=due))
 val:PySem.W.kitOne K (.ref C) (.type "ValueError")=some true
end L2
namespace Rm
open PySem L2
def qF:PyData->Prop
 | .str z=>z.cps.all (·<128)=true/\z.length<=1000
 | _=>True
def lg:PyData->Bool
 | .str z=>HG z
 | _=>false
def qb{K:WG}{H:Hp}{x:V}{d:PyData}{Q:VK}{E:XK}(h:Dat H x d)(t:qF d)(q:Q (.bl (lg d)) H):pI K [x] H Q E:=by
 refine⟨x,rfl,?_⟩;cases id h with
 | str z=>exact .inl ⟨z,rfl,t.1,t.2,q⟩
 | non=>exact .inr ⟨_,h.ty,rfl,q⟩
 | bl b=>exact .inr ⟨_,h.ty,rfl,q⟩
 | int i=>exact .inr ⟨_,h.ty,rfl,q⟩
 | tup h1 h2=>exact .inr ⟨_,h.ty,rfl,q⟩
 | lst h1 h2=>exact .inr ⟨_,h.ty,rfl,q⟩
def wG(C:Addr):Sp:=λvs H Q E=>∃x,vs=[x]/\((∃bs ms,x=.str (wd bs)/\rh bs/\bs.length<=40/\jQ bs bs.length ms/\∀l H',H l=none->aV H H'->c7 H' l (wx ms)->Q (.ref l) H') ∨
 (∃d,Dat H x d/\qF d/\lg d=false/\E (.ref C) none H))
def rj(d:PyData):Option (List Bw):=
 match d with
 | .list ds=>if kJ d&&(ds.map dQ).all (λp=>(ds.map dQ).all λq=>!bO p q) then some (ds.map dQ) else none
 | _=>none
def uG(C:Addr):Sp:=λvs H Q E=>∃x d,vs=[x]/\Dat H x d/\∀H',aV H H'->(match rj d with | some ps=>Q (.str (wd (eM ps))) H' | none=>E (.ref C) none H')
def vv{ps:List Bw}(h:kJ (mT ps)=true)(hc:∀p∈ps,∀q∈ps,bO p q=false):rj (mT ps)=some ps:=by
 have e:(ps.map jB).map dQ=ps:=by rw[bS];show ps.map id=ps;exact f6 _
 show (if kJ (mT ps)&&((ps.map jB).map dQ).all (λp=>((ps.map jB).map dQ).all λq=>!bO p q) then some ((ps.map jB).map dQ) else none)=some ps;rw[e,Vz];rw[h,iA,cC];intro p hp;rw[cC];intro q hq;rw[hc p hp q hq];rfl
def xX{H:Hp}{l:Addr}{xs:List V}{ds:List PyData}(h1:H l=some (.lst xs))(h2:gS H xs ds)(hb:ds.all eO=true):c7 H l (ds.map dQ):=by
 have:∃as:List Addr,xs=as.map V.ref/\Paired (bi H) as (ds.map dQ):=by
  clear h1
  induction ds generalizing xs with
  | nil=>cases h2;exact⟨[],rfl,.nil⟩
  | cons d ds ih=>
   cases h2 with
   | cons hd tl=>
   rw[List.all_cons,ai] at hb;obtain⟨as,rfl,p⟩:=ih tl hb.2;obtain⟨a,rfl,ta⟩:=ES hd hb.1;exact⟨a::as,rfl,.cons ta p⟩
 obtain⟨as,rfl,p⟩:=this;exact⟨as,h1,p⟩
def Hw{H:Hp}{x:V}{d:PyData}(h:Dat H x d)(ht:J9 d=true):∃a xs ds,x=.ref a/\d=.tuple ds/\H a=some (.tup xs)/\gS H xs ds:=by
 cases h<;>first | exact⟨_,_,_,rfl,rfl,by assumption,by assumption⟩ | cases ht
def Fk{H:Hp}{x:V}{d:PyData}(h:Dat H x d)(ht:isL d=true):∃a xs ds,x=.ref a/\d=.list ds/\H a=some (.lst xs)/\gS H xs ds:=by
 cases h<;>first | exact⟨_,_,_,rfl,rfl,by assumption,by assumption⟩ | cases ht
def ER{d:PyData}(h:J9 d=false):eO d=false:=by
 cases d<;>first | rfl | cases h
def yp{d:PyData}(h:isL d=false):kJ d=false:=by
 cases d<;>first | rfl | cases h
end Rm
namespace L2
open PySem PySem.Spec PyProof.Rows
section
variable {κ:Type} [DecidableEq κ]
def d6(kvs:List (κ×V))(k:κ):Option V:=(kvs.find? λkv=>decide (kv.1=k)).map (·.2)
def putK(kvs:List (κ×V))(k:κ)(v:V):List (κ×V):=
 if (kvs.any λkv=>decide (kv.1=k))=true then kvs.map (λkv=>if kv.1=k then (kv.1,v) else kv) else kvs++[(k,v)]
def gI{p:κ×V}{r:List (κ×V)}{k:κ}(e:p.1=k):d6 (p::r) k=some p.2:=by simp[d6,fh,e]
def gJ{p:κ×V}{r:List (κ×V)}{k:κ}(e:¬p.1=k):d6 (p::r) k=d6 r k:=by simp[d6,fh,e]
def pF(k:κ):∀kvs:List (κ×V),(kvs.any λkv=>decide (kv.1=k))=(d6 kvs k).isSome
 | []=>rfl
 | p::r=>by
  rw[fx];by_cases e:p.1=k
  ·simp only[gI e,WC e,Bool.true_or,Option.isSome_some]
  ·rw[gJ e,WB e,Bool.false_or];exact pF k r
def vz(k j:κ)(y:V):∀kvs:List (κ×V),d6 (kvs.map λkv=>if kv.1=k then (kv.1,y) else kv) j=(d6 kvs j).map λx=>if j=k then y else x
 | []=>rfl
 | p::r=>by
  have ih:=vz k j y r;rw[bC];by_cases h:p.1=k
  ·rw[Vz h];by_cases e:p.1=j
   ·rw[gI (p:=(p.1,y)) e,gI e,jW,Vz (e.symm.trans h)]
   ·rw[gJ (p:=(p.1,y)) e,gJ e,ih]
  ·rw[Vy h];by_cases e:p.1=j
   ·rw[gI (p:=p) e,gI e,jW,Vy (λz=>h (e.trans z))]
   ·rw[gJ (p:=p) e,gJ e,ih]
def uD(k j:κ)(y:V):∀kvs:List (κ×V),d6 kvs k=none->d6 (kvs++[(k,y)]) j=if j=k then some y else d6 kvs j
 | [],_=>by
  by_cases e:k=j
  ·rw[Vz e.symm];exact gI (p:=(k,y)) e
  ·rw[Vy (λz=>e z.symm)];exact gJ (p:=(k,y)) e
 | p::r,hn=>by
  rw[gl];have hk:¬p.1=k:=λz=>by rw[gI z] at hn;cases hn
  rw[gJ hk] at hn;have ih:=uD k j y r hn;by_cases e:p.1=j
  ·rw[gI e,gI e,Vy (λz=>hk (e.trans z))]
  ·rw[gJ e,gJ e,ih]
def fQ(kvs:List (κ×V))(k j:κ)(y:V):d6 (putK kvs k y) j=if j=k then some y else d6 kvs j:=by
 unfold putK;by_cases a:(kvs.any λkv=>decide (kv.1=k))=true
 ·rw[Vz a,vz];rw[pF] at a;by_cases e:j=k
  ·obtain⟨x,hx⟩:=lB.mp a;rw[Vz e,e,hx,jW,Vz rfl]
  ·rw[Vy e];cases d6 kvs j with
   | none=>rfl
   | some x=>rw[jW,Vy e]
 ·rw[Vy a];refine uD k j y kvs ?_;rw[pF] at a;cases q:d6 kvs k with
  | none=>rfl
  | some x=>rw[q] at a;exact(a rfl).elim
def dP(kvs:List (κ×V))(k:κ)(v:V):(putK kvs k v).length<=kvs.length+1:=by
 unfold putK
 split
 ·rw[aD];lia
 ·rw[aU,bq,em];lia
def rP.isSome_eq{o:Option V}{u:Option Value}(r:rP o u):o.isSome=u.isSome:=by
 cases o with
 | none=>cases u with
  | none=>rfl
  | some _=>exact(show False from r).elim
 | some _=>cases u with
  | none=>exact(show False from r).elim
  | some _=>rfl
def KV.val{kvs:List (κ×V)}{vs:List (κ×Value)}(r:KV kvs vs)(k:κ):rP (d6 kvs k) (valueAt vs k):=by
 unfold KV at r
 induction r with
 | nil=>exact True.intro
 | @cons p q ps qs h t ih=>
  obtain⟨h1,h2⟩:=h;by_cases e:p.1=k
  ·have e':q.1=k:=h1.symm.trans e;have b:valueAt (q::qs) k=some q.2:=by simp[valueAt,fh,e']
   rw[gI e,b];exact h2
  ·have e':¬q.1=k:=λz=>e (h1.trans z);have b:valueAt (q::qs) k=valueAt qs k:=by simp[valueAt,fh,e']
   rw[gJ e,b];exact ih
def KV.any{kvs:List (κ×V)}{vs:List (κ×Value)}(r:KV kvs vs)(k:κ):(kvs.any λkv=>decide (kv.1=k))=vs.any λkv=>decide (kv.1=k):=by
 unfold KV at r
 induction r with
 | nil=>rfl
 | cons h t ih=>rw[fx,fx,ih,h.1]
def KV.repl{kvs:List (κ×V)}{vs:List (κ×Value)}(r:KV kvs vs)(k:κ){y:V}{u:Value}(ry:RelV y u):
  KV (kvs.map λkv=>if kv.1=k then (kv.1,y) else kv) (vs.map λkv=>if kv.1=k then (kv.1,u) else kv):=by
 unfold KV at r ⊢
 induction r with
 | nil=>exact .nil
 | @cons p q ps qs h t ih=>
  rw[bC,bC];refine .cons ?_ ih;obtain⟨h1,h2⟩:=h;by_cases e:p.1=k
  ·rw[Vz e,Vz (h1.symm.trans e)];exact⟨h1,ry⟩
  ·rw[Vy e,Vy (λz=>e (h1.trans z))];exact⟨h1,h2⟩
def KV.put{kvs:List (κ×V)}{vs:List (κ×Value)}(r:KV kvs vs)(k:κ){y:V}{u:Value}(ry:RelV y u):KV (putK kvs k y) (stored vs k u):=by
 unfold putK stored;rw[r.any k];by_cases e:(vs.any λkv=>decide (kv.1=k))=true
 ·rw[Vz e,Vz e];exact r.repl k ry
 ·rw[Vy e,Vy e];exact Paired.snoc r ⟨rfl,ry⟩
def KV.length{kvs:List (κ×V)}{vs:List (κ×Value)}(r:KV kvs vs):kvs.length=vs.length:=ba r
end
def xB{P:Program}{w:World}{k:Key}{u:Value}(r:RelV (kV k) u):(fN P w).is k u=true:=by
 cases k with
 | inl i=>obtain⟨t,e⟩:=(show ∃t,u=Value.int i t from r);subst e;exact wz P w i t
 | inr x=>obtain⟨t,e⟩:=(show ∃t,u=Value.str x t from r);subst e;exact wy P w x t
def u4{P:Program}{w:World}:∀{ks:List Key} {us:List Value},cE (ks.map kV) us->ItemsAre (fN P w) ks us
 | [],_,r=>by rw[eI] at r;cases r;exact .nil
 | k::ks,_,r=>by
  rw[bC] at r;cases r with
  | cons h t=>exact .cons (xB h) (u4 t)
abbrev KT (H:Hp):List (List Key×V)->List (List Key×Addr×Value)->Prop:=Paired λp q=>p.1=q.1/\H q.2.1=some (.tup (p.1.map kV))/\RelV p.2 q.2.2
def KT.val{H:Hp}{kvs:List (List Key×V)}{xs:List (List Key×Addr×Value)}(r:KT H kvs xs)(k:List Key):rP (d6 kvs k) ((atKey xs k).map (·.2)):=by
 induction r with
 | nil=>exact True.intro
 | @cons p q ps qs h t ih=>
  obtain⟨h1,_,h2⟩:=h;by_cases e:p.1=k
  ·have e':q.1=k:=h1.symm.trans e;have b:atKey (q::qs) k=some q.2:=by simp[atKey,fh,e']
   rw[gI e,b];exact h2
  ·have e':¬q.1=k:=λz=>e (h1.trans z);have b:atKey (q::qs) k=atKey qs k:=by simp[atKey,fh,e']
   rw[gJ e,b];exact ih
def KT.repl{H:Hp}{kvs:List (List Key×V)}{xs:List (List Key×Addr×Value)}(r:KT H kvs xs)(k:List Key){y:V}{u:Value}(ry:RelV y u):
  KT H (kvs.map λkv=>if kv.1=k then (kv.1,y) else kv) (xs.map (putAt k u)):=by
 induction r with
 | nil=>exact .nil
 | @cons p q ps qs h t ih=>
  rw[bC,bC];refine .cons ?_ ih;obtain⟨h1,h2,h3⟩:=h;unfold putAt;by_cases e:p.1=k
  ·rw[Vz e,Vz (h1.symm.trans e)];exact⟨h1,h2,ry⟩
  ·rw[Vy e,Vy (λz=>e (h1.trans z))];exact⟨h1,h2,h3⟩
def KT.put{H:Hp}{kvs:List (List Key×V)}{xs:List (List Key×Addr×Value)}(r:KT H kvs xs)(k:List Key){b:Addr}{y:V}{u:Value}(hb:H b=some (.tup (k.map kV)))(ry:RelV y u):
  KT H (putK kvs k y) (storedH xs k b u):=by
 have e:(kvs.any λkv=>decide (kv.1=k))=(atKey xs k).isSome:=by
  rw[pF,(r.val k).isSome_eq,Option.isSome_map]
 unfold putK storedH;rw[e];by_cases q:(atKey xs k).isSome=true
 ·rw[Vz q,Vz q];exact r.repl k ry
 ·rw[Vy q,Vy q];exact Paired.snoc r ⟨rfl,hb,ry⟩
def KT.keeps{H H':Hp}{kvs:List (List Key×V)}{xs:List (List Key×Addr×Value)}(r:KT H kvs xs)(ht:∀b ys,H b=some (.tup ys)->H' b=some (.tup ys)):KT H' kvs xs:=
 Paired.mapP r λ_ _ z=>⟨z.1,ht _ _ z.2.1,z.2.2⟩
section
variable {P:Program} {w:World} {H:Hp} {h:Heap} {a:Addr}
def Gu{u:HO}(ok:nW P w H h)(e:Rd H a u):dB P w H h a u:=e.ok ok
def AJ{kvs:List (Key×V)}(ok:nW P w H h)(e:Rd H a (.dK kvs)):kvs.length<=sizeLine/\(a==sysModules)=false/\∃vs,KV kvs vs/\h.DictOf (fN P w) a vs:=
 show dB P w H h a (.dK kvs) from Gu ok e
def HM{kvs:List (Key×V)}(ok:nW P w H h)(e:H a=some (.dK kvs)):kvs.length<=sizeLine/\(a==sysModules)=false/\∃vs,KV kvs vs/\h.DictOf (fN P w) a vs:=AJ ok (.inl e)
def vc{ks:List Key}(ok:nW P w H h)(e:H a=some (.tup (ks.map kV))):(tupleKind (fN P w)).is h ks a:=by
 obtain⟨_,its,r,o,h1,h2,n,h3⟩:=(show dB P w H h a (.tup (ks.map kV)) from ok a _ e)
 exact⟨o,its.toArray,n,h1,h2,h3,by simpa using u4 r⟩
def AI{kvs:List (List Key×V)}(ok:nW P w H h)(e:Rd H a (.dT kvs)):kvs.length<=sizeLine/\(a==sysModules)=false ∧
  ∃xs,KT H kvs xs/\h.DictOfH (tupleKind (fN P w)) a xs:=by
 obtain⟨z,y,xs,r,o,es,ep,h1,h2,h3,h4,h5⟩:=(show dB P w H h a (.dT kvs) from Gu ok e)
 refine⟨z,y,xs,r,o,es,ep,h1,h2,h3,h4,λx hx=>?_,h5⟩;have all:∀{l:List (List Key×V)} {m:List (List Key×Addr×Value)},KT H l m->∀x∈m,(tupleKind (fN P w)).is h x.1 x.2.1:=by
  intro l m q
  induction q with
  | nil=>intro x hx;exact nomatch hx
  | @cons p q ps qs hq t ih=>
   intro x hx;rcases aL.mp hx with e | hx
   ·subst e;exact vc ok (by rw[<-hq.1];exact hq.2.1)
   ·exact ih x hx
 exact all r x hx
def LM{kvs:List (List Key×V)}(ok:nW P w H h)(e:H a=some (.dT kvs)):kvs.length<=sizeLine/\(a==sysModules)=false ∧
  ∃xs,KT H kvs xs/\h.DictOfH (tupleKind (fN P w)) a xs:=AI ok (.inl e)
end
def j6(H:Hp)(a:Addr)(y:V)(r:Option V):Prop:=
 (∃kvs k,Rd H a (.dK kvs)/\y=kV k/\r=d6 kvs k)\/∃kvs k b,Rd H a (.dT kvs)/\y=.ref b/\H b=some (.tup (k.map kV))/\r=d6 kvs k
def qK(H:Hp)(a:Addr)(y v:V)(H':Hp):Prop:=
 (∃kvs k,H a=some (.dK kvs)/\y=kV k/\kvs.length<sizeLine/\H'=bE H a (.dK (putK kvs k v))) ∨
 ∃kvs k b,H a=some (.dT kvs)/\y=.ref b/\H b=some (.tup (k.map kV))/\kvs.length<sizeLine/\H'=bE H a (.dT (putK kvs k v))
def j6.k{H:Hp}{a:Addr}{kvs:List (Key×V)}{k:Key}(e:H a=some (.dK kvs)):j6 H a (kV k) (d6 kvs k):=.inl ⟨kvs,k,.inl e,rfl,rfl⟩
def qK.k{H:Hp}{a:Addr}{kvs:List (Key×V)}{k:Key}{v:V}(e:H a=some (.dK kvs))(hl:kvs.length<sizeLine):qK H a (kV k) v (bE H a (.dK (putK kvs k v))):=.inl ⟨kvs,k,e,rfl,hl,rfl⟩
section
variable {X:Cx} {pins:List (Addr×Obj)} {σ:St} {H:Hp} {s:Shared} {a:Addr} {y v:V} {u r:Value} {o:Option V} {A:Around} {E:Value->Shared->Prop}
def bY.big(I:bY X pins σ H s):sysModules<s.heap.objs.size:=by
 have h:mainGlobals<s.heap.objs.size:=(I.mod.glob.keeps I.bk).lt;exact jh (by decide) h
def BS{Q:Value->Shared->Prop}(hu:A.units+1<cLine)(I:bY X pins σ H s)(g:j6 H a y (some v))(ry:RelV y u)(h:∀w' s',bY X pins σ H s'->RelV v w'->Q w' s'):
  wpAny (model X.prog X.w) A (getItem (.ref a) u) Q E s:=by
 rcases g with ⟨kvs,k,e,ey,l⟩ | ⟨kvs,k,b,e,ey,eb,l⟩
 ·subst ey;obtain⟨z,hd,vs,rel,dd⟩:=AJ I.hok e;obtain⟨w',hw,rw'⟩:=rP.some_of (v:=v) (o:=valueAt vs k) (by rw[l];exact rel.val k);exact wpAny_getItem_of (xB ry) dd.mapOf hw (h w' _ (I.tok _) rw')
 ·subst ey;cases (show u=Value.ref b from ry);obtain⟨z,hd,xs,rel,dd⟩:=AI I.hok e;obtain⟨w',hw,rw'⟩:=rP.some_of (v:=v) (o:=(atKey xs k).map (·.2)) (by rw[l];exact rel.val k);obtain⟨p,hp,hp2⟩:=lw.mp hw;refine wpAny_getItem_heap (Vq hu) (vc I.hok eb) dd hp ?_;rw[hp2];exact h w' _ (I.tok _) rw'
def Fz{Q:Value->Shared->Prop}(hu:A.units+1<cLine)(I:bY X pins σ H s)(g:j6 H a y o)(ry:RelV y u)(h:∀s',bY X pins σ H s'->Q (.bool (!o.isSome)) s'):
  wpAny (model X.prog X.w) A (compareOp .NotIn u (.ref a)) Q E s:=by
 rcases g with ⟨kvs,k,e,ey,l⟩ | ⟨kvs,k,b,e,ey,eb,l⟩
 ·subst ey;obtain⟨z,hd,vs,rel,dd⟩:=AJ I.hok e;refine wpAny_notIn_of (xB ry) hd dd.mapOf ?_;rw[<-(rel.val k).isSome_eq,<-l];exact h _ (I.tok _)
 ·subst ey;cases (show u=Value.ref b from ry);obtain⟨z,hd,xs,rel,dd⟩:=AI I.hok e;refine wpAny_notIn_heap (Vq hu) (vc I.hok eb) hd dd ?_;have q:=(rel.val k).isSome_eq;rw[Option.isSome_map] at q;rw[<-q,<-l];exact h _ (I.tok _)
def vh{h':Heap}{t':Nat}{ob:HO}(I:bY X pins σ H s)(mu:LU (H a))(hs:Heap.SameBut a s.heap h')(he:∃q,h'.get? a=some q)(new:dB X.prog X.w (bE H a ob) h' a ob):
  bY X pins σ (bE H a ob) { s with heap:=h',toks:=t' }:=
 I.write (x:=a) (e:=a) mu (.inl rfl) (λb q hb z=>(hs.2 b hb).trans z) he new
def ED{P:Program}{w:World}{H':Hp}{h':Heap}{kvs:List (Key×V)}{vs:List (Key×Value)}(z:kvs.length<=sizeLine)(hd:(a==sysModules)=false)(rel:KV kvs vs)(dd:h'.DictOf (fN P w) a vs):
  dB P w H' h' a (.dK kvs):=⟨z,hd,vs,rel,dd⟩
def BR{H':Hp}{Q:Unit->Shared->Prop}(hu:A.units+1<cLine)(I:bY X pins σ H s)(g:qK H a y v H')(ry:RelV y u)(rv:RelV v r)(h:∀s',bY X pins σ H' s'->Q () s'):
  wpAny (model X.prog X.w) A (setItem (.ref a) u r) Q E s:=by
 rcases g with ⟨kvs,k,e,ey,l,eH⟩ | ⟨kvs,k,b,e,ey,eb,l,eH⟩
 ·subst ey eH;obtain⟨z,hd,vs,rel,dd⟩:=HM I.hok e;have hz:vs.length<=sizeLine:=by rw[<-rel.length];exact z
  have hl:(putK kvs k v).length<=sizeLine:=by have:=dP kvs k v;lia
  refine wpAny_setItem_pairs (hsz:=hz) (xB ry) dd λh' dd' hs=>h _ ?_;have he:∃q,h'.get? a=some q:=let ⟨q,_,_,hq,_⟩:=dd';⟨q,hq⟩;exact vh I (by rw[e];exact True.intro) hs he (ED hl hd (rel.put k rv) dd')
 ·subst ey eH;cases (show u=Value.ref b from ry);obtain⟨z,hd,xs,rel,dd⟩:=LM I.hok e;have hz:xs.length<=sizeLine:=by rw[<-ba rel];exact z
  have hl:(putK kvs k v).length<=sizeLine:=by have:=dP kvs k v;lia
  refine wpAny_setItem_heap (hsz:=hz) (Vq hu) (vc I.hok eb) dd λh' dd' hs=>h _ ?_;obtain⟨q,es,ep,hq,h2,h3,h4,_,h5⟩:=dd';refine vh I (by rw[e];exact True.intro) hs ⟨q,hq⟩ ⟨hl,hd,_,(rel.put k eb rv).keeps λc ys ec=>?_,q,es,ep,hq,h2,h3,h4,h5⟩;rw[aI (zt ec e (λz=>nomatch z))];exact ec
end
def Jw(i:Expr):Prop:=∀ov iv,subscripted i false ov iv=operate [ov,iv] (getItem ov iv)
def Eg{prog:Program}{w:World}{A:Around}{E:Value->Shared->Prop}{s:Shared}{env:Env}{value slice:Expr}{pos:Pos}{T id:String}{Q:Value->Shared->Prop}
  (hl:typeLookup (.type T) "__getitem__"=pure (some (.builtin id))) (hs:Jw slice)
  (h:wpAny (model prog w) A (eval value env) (λo s₁=>wpAny (model prog w) A (eval slice env) (λi s₂=>s₂.TypeIs o T/\wpAny (model prog w) A (getItem o i) Q E s₂) E s₁) E s) :
  wpAny (model prog w) A (eval (.Subscript value slice pos) env) Q E s:=by
 refine Subscript_ (wpAny_mono h (λo s₁ h₁=>wpAny_mono h₁ (λi s₂ h₂=>?_) λ_ _ x=>x) λ_ _ x=>x);obtain⟨hT,h₂⟩:=h₂;unfold subscriptTail;refine wpAny_bind ?_;rw[getitemInPython_of_ne hT.not_modules];refine wpAny_bind (wpAny_specialOf hT hl ?_);have fin:wpAny (model prog w) A (subscripted slice false o i) (λr s₃=>wpAny (model prog w) A (letTemporaryGo value o r>>=λ_=>pure r) Q E s₃) E s₂:=by
  rw[hs o i];exact wpAny_operating (wpAny_mono h₂ (λr s₃ h₃=>wpAny_bind (wpAny_letTemporaryGo (Va h₃))) λ_ _ x=>x)
 first
  | exact Va (wpAny_bind fin)
  | exact wpAny_bind (Va (wpAny_bind fin))
  | exact wpAny_bind fin
def xK {X:Cx} {pins:List (Addr×Obj)} {σ:St} {H:Hp} {s:Shared} {a:Addr} {y:V} {o:Option V} (I:bY X pins σ H s) (g:j6 H a y o):s.TypeIs (.ref a) "dict":=by
 rcases g with ⟨kvs,k,e,_,_⟩ | ⟨kvs,k,b,e,_,_,_⟩
 ·obtain⟨_,_,vs,_,dd⟩:=AJ I.hok e;exact dd.typeIs
 ·obtain⟨_,_,xs,_,dd⟩:=AI I.hok e;exact dd.typeIs
def CW(td ty:TE):TE:=λσ H Q=>td σ H λx H1=>ty σ H1 λy H2=>∃a v,x=.ref a/\j6 H2 a y (some v)/\Q v H2
def Lm(ty td:TE):TE:=λσ H Q=>ty σ H λy H1=>td σ H1 λx H2=>∃a o,x=.ref a/\j6 H2 a y o/\Q (.bl o.isSome) H2
def rR(ty td:TE):TE:=λσ H Q=>ty σ H λy H1=>td σ H1 λx H2=>∃a o,x=.ref a/\j6 H2 a y o/\Q (.bl (!o.isSome)) H2
def Cb(td ty tv:TE):TS:=λD σ H=>tv σ H λv H1=>td σ H1 λx H2=>ty σ H2 λy H3=>∃a H4,x=.ref a/\qK H3 a y v H4/\D.nx σ H4
section
variable {X:Cx} {o i value:Expr} {pos pos':Pos} {td ty tv:TE}
def FL(hu:X.A.units+1<cLine)(ho:PE X o td)(hi:PE X i ty)(hs:Jw i):PE X (.Subscript o i pos) (CW td ty):=by
 intro pins s σ H Q I h;refine Eg PySem.F.slot_dict_getitem.lookup hs (dZ (ho pins s σ H _ I h) λu s1 ⟨x,H1,I1,rx,q1⟩=>dZ (hi pins s1 σ H1 _ I1 q1) λiv s2 ⟨y,H2,I2,ry,a,v,ex,g,q2⟩=>?_);subst ex;obtain rfl:u=Value.ref a:=rx;exact⟨xK I2 g,BS hu I2 g ry λw' s3 I3 rw'=>⟨v,H2,I3,rw',q2⟩⟩
def Am(hu:X.A.units+1<cLine)(hi:PE X i ty)(ho:PE X o td):PC X .NotIn i o (rR ty td):=by
 intro pins s σ H Q I h;refine dZ (hi pins s σ H _ I h) λiv s1 ⟨y,H1,I1,ry,q1⟩=>dZ (ho pins s1 σ H1 _ I1 q1) λu s2 ⟨x,H2,I2,rx,a,ov,ex,g,q2⟩=>?_;subst ex;obtain rfl:u=Value.ref a:=rx;exact Fz hu I2 g ry λs3 I3=>⟨.bl (!ov.isSome),H2,I3,rfl,q2⟩
def FA(hu:X.A.units+1<cLine)(ho:PE X o td)(hi:PE X i ty)(hv:PE X value tv)(hs:swapsWith value (some (.Subscript o i pos')) pos.line X.env=pure false):
  PS X (.Assign [.Subscript o i pos'] value pos) (Cb td ty tv):=by
 intro pins s σ H D I h;refine wpAny_Assign_Subscript (dZ (hv pins s σ H _ I h) λr s1 ⟨v,H1,I1,rv,q1⟩=>dZ (ho pins s1 σ H1 _ I1 q1) λu s2 ⟨x,H2,I2,rx,q2⟩=>dZ (hi pins s2 σ H2 _ I2 q2) λiv s3 ⟨y,H3,I3,ry,a,H4,ex,g,q3⟩=>?_) hs;subst ex;obtain rfl:u=Value.ref a:=rx;exact BR hu I3 g ry rv λs4 I4=>⟨σ,H4,I4,q3⟩
end
def xJ {P:Program} {w:World} {H:Hp} (h:Heap) (hb:sysModules<h.objs.size):dB P w H (h.push { cls:=.type "dict",data:=.dict #[] }) h.objs.size (.dK []):=
 ⟨ac _,beq_eq_false_iff_ne.mpr (gg (am hb)),[],.nil,Heap.DictOf.new h⟩
def xu:TE:=λ_ H Q=>∀p,H p=none->Q (.ref p) (bE H p (.dK []))
section
variable {X:Cx} {pos:Pos}
def DQ:PE X (.Dict [] [] pos) xu:=λpins s σ H Q I h=>
 wpAny_Dict_empty ⟨.ref s.heap.objs.size,_,I.laid (a:=s.heap.objs.size) (o:=.dK []) (t':=s.toks) (λ_ _ q=>aB _ q) (aJ _) (xJ s.heap I.big),rfl,h _ (I.hok.fresh (aJ _))⟩
end
def oZ:List (TE×TE)->St->Hp->(List (V×V)->Hp->Prop)->Prop
 | [],_,H,Q=>Q [] H
 | (tk,tv)::r,σ,H,Q=>tk σ H λx H1=>tv σ H1 λy H2=>oZ r σ H2 λps H3=>Q ((x,y)::ps) H3
abbrev VV:List (V×V)->List (Value×Value)->Prop:=Paired λp q=>RelV p.1 q.1/\RelV p.2 q.2
def LR(X:Cx)(pos:Pos)(keys:List (Option Expr))(values:List Expr)(trs:List (TE×TE)):Prop:=
 ∀(pins:List (Addr×Obj)) (s:Shared) (σ:St) (H:Hp) (Q:List (V×V)->Hp->Prop),bY X pins σ H s->oZ trs σ H Q →
  wpAny (model X.prog X.w) X.A (evalPairs (pairTrees keys values X.env pos)) (λvs s'=>∃ps H',bY X pins σ H' s'/\VV ps vs/\Q ps H') X.xe s
def FC{X:Cx}{pos:Pos}:LR X pos [] [] []:=λpins s σ H Q I h=>pairTrees_nil_walk ⟨[],H,I,.nil,h⟩
def DH{X:Cx}{pos:Pos}{k v:Expr}{ks:List (Option Expr)}{vs:List Expr}{tk tv:TE}{trs:List (TE×TE)}(hk:PE X k tk)(hv:PE X v tv)(hr:LR X pos ks vs trs):
  LR X pos (some k::ks) (v::vs) ((tk,tv)::trs):=λpins s σ H Q I h=>
 pairTrees_cons_walk (dZ (hk pins s σ H _ I h) λu s1 ⟨x,H1,I1,rx,q1⟩=>dZ (hv pins s1 σ H1 _ I1 q1) λw2 s2 ⟨y,H2,I2,ry,q2⟩=>
  dZ (hr pins s2 σ H2 _ I2 q2) λws s3 ⟨ps,H3,I3,rel,q3⟩=>⟨(x,y)::ps,H3,I3,.cons ⟨rx,ry⟩ rel,q3⟩)
def om(kvs more:List (Key×V)):List (Key×V):=more.foldl (λacc kv=>putK acc kv.1 kv.2) kvs
def KV.merge:∀{more:List (Key×V)} {rs:List (Key×Value)} {kvs:List (Key×V)} {vs:List (Key×Value)},KV more rs->KV kvs vs->KV (om kvs more) (merged vs rs):=by
 intro more rs kvs vs r;unfold KV at r
 induction r generalizing kvs vs with
 | nil=>intro q;exact q
 | @cons p q ps qs h t ih=>
  intro r0;have e:KV (putK kvs p.1 p.2) (stored vs q.1 q.2):=by
   have:=r0.put p.1 h.2;rw[<-h.1];exact this
  exact ih e
def oU:∀(more kvs:List (Key×V)),(om kvs more).length<=kvs.length+more.length
 | [],kvs=>by show kvs.length<=kvs.length+0;lia
 | p::r,kvs=>by
  have h1:=oU r (putK kvs p.1 p.2);have h2:=dP kvs p.1 p.2;show (om (putK kvs p.1 p.2) r).length<=_;rw[bq];lia
def tM{P:Program}{w:World}:∀{kvs:List (Key×V)} {ws:List (Value×Value)},VV (kvs.map λkv=>(kV kv.1,kv.2)) ws->∃rs,Carries (fN P w) ws rs/\KV kvs rs
 | [],_,r=>by rw[eI] at r;cases r;exact⟨[],True.intro,.nil⟩
 | p::kvs,_,r=>by
  rw[bC] at r;cases r with
  | @cons a b as bs h t=>
   obtain⟨rs,c,q⟩:=tM (P:=P) (w:=w) t;obtain⟨b1,b2⟩:=b;exact⟨(p.1,b2)::rs,⟨xB h.1,rfl,c⟩,.cons ⟨rfl,h.2⟩ q⟩
def CV(trs:List (TE×TE)):TE:=λσ H Q=>∀p,H p=none->oZ trs σ (bE H p (.dK [])) λps H2=>H2 p=some (.dK [])/\∃kvs:List (Key×V),ps=kvs.map (λkv=>(kV kv.1,kv.2))/\kvs.length<=15/\Q (.ref p) (bE H2 p (.dK (om [] kvs)))
def FK{X:Cx}{pos:Pos}{keys:List (Option Expr)}{values:List Expr}{trs:List (TE×TE)}(h:LR X pos keys values trs)(hall:keys.all (·.isSome)=true)(hl:keys.length=values.length)(h0:keys≠[])
  (h15:keys.length<=15):PE X (.Dict keys values pos) (CV trs):=by
 intro pins s σ H Q I q;have hn:=I.hok.fresh (aJ s.heap.objs.size);have I1:=I.laid (a:=s.heap.objs.size) (o:=.dK []) (h':=s.heap.push { cls:=.type "dict",data:=.dict #[] }) (t':=s.toks) (λ_ _ q=>aB _ q) (aJ _) (xJ s.heap I.big);refine wpAny_Dict_walk (knd:=fN X.prog X.w) hall hl h0 h15 (dZ (h pins _ σ _ _ I1 (q _ hn)) λws s2 ⟨ps,H2,I2,rel,e,kvs,ep,lk,q2⟩=>?_);subst ep;obtain⟨rs,c,rk⟩:=tM (P:=X.prog) (w:=X.w) rel;obtain⟨z,hd,vs0,r0,dd⟩:=HM I2.hok e;cases r0;refine⟨rs,c,dd,λh' dd' hs=>⟨.ref s.heap.objs.size,_,?_,rfl,q2⟩⟩;have hz:(om [] kvs).length<=sizeLine:=by
  have h1:=oU kvs [];rw[em] at h1;rw[Vd];lia
 have he:∃q,h'.get? s.heap.objs.size=some q:=let ⟨q,_,_,hq,_⟩:=dd';⟨q,hq⟩;exact vh I2 (by rw[e];exact True.intro) hs he (ED hz hd (rk.merge .nil) dd')
def MY(H:Hp)(a:Addr):Prop:=(∃kvs,Rd H a (.dK kvs))\/∃kvs,Rd H a (.dT kvs)
def IF(td ty tx:TE):TE:=λσ H Q=>td σ H λx H1=>∃a,x=.ref a/\MY H1 a/\ty σ H1 λy H2=>tx σ H2 λz H3=>∃o,j6 H3 a y o/\Q (o.getD z) H3
section
variable {X:Cx} {σ:St} {H:Hp} {a:Addr} {o:Obj}
def CG{td ty:TE}{Q:VK}:CW td ty σ H Q=td σ H λx H1=>ty σ H1 λy H2=>∃a v,x=.ref a/\j6 H2 a y (some v)/\Q v H2:=rfl
def CF{td ty tv:TE}{D:Ends}:Cb td ty tv D σ H=tv σ H λv H1=>td σ H1 λx H2=>ty σ H2 λy H3=>∃a H4,x=.ref a/\qK H3 a y v H4/\D.nx σ H4:=rfl
def zQ{Q:VK}:xu σ H Q=∀p,H p=none->Q (.ref p) (bE H p (.dK [])):=rfl
def Gi{ty td:TE}{Q:VK}:Lm ty td σ H Q=ty σ H λy H1=>td σ H1 λx H2=>∃a o,x=.ref a/\j6 H2 a y o/\Q (.bl o.isSome) H2:=rfl
def vx{ty td:TE}{Q:VK}:rR ty td σ H Q=ty σ H λy H1=>td σ H1 λx H2=>∃a o,x=.ref a/\j6 H2 a y o/\Q (.bl (!o.isSome)) H2:=rfl
def Af{k d:Expr}{ty td:TE}{pos:Pos}(hu:X.A.units+1<cLine)(hk:PE X k ty)(hd:PE X d td)(hm:behindInMarks .NotIn d=false:=by first | rfl | with_unfolding_all rfl):PT X (.Compare k [.NotIn] [d] pos) (tB (rR ty td)):=Ih (Am hu hk hd) hm
end
section
variable {σ:St} {H:Hp}
def Hi{trs:List (TE×TE)}{Q:VK}:CV trs σ H Q=∀p,H p=none->oZ trs σ (bE H p (.dK [])) λps H2=>H2 p=some (.dK [])/\∃kvs:List (Key×V),ps=kvs.map (λkv=>(kV kv.1,kv.2))/\kvs.length<=15/\Q (.ref p) (bE H2 p (.dK (om [] kvs))):=rfl
def K0{Q:List (V×V)->Hp->Prop}:oZ [] σ H Q=Q [] H:=rfl
def KZ{tk tv:TE}{r:List (TE×TE)}{Q:List (V×V)->Hp->Prop}:oZ ((tk,tv)::r) σ H Q=tk σ H λx H1=>tv σ H1 λy H2=>oZ r σ H2 λps H3=>Q ((x,y)::ps) H3:=rfl
def KY{r:V->Option Int->Option Int->Hp->VK->Prop}{te:TE}{tl th:TO}{Q:VK}:Lh r te tl th σ H Q=te σ H λx H1=>tl σ H1 λl H2=>th σ H2 λu H3=>r x l u H3 Q:=rfl
def Bp{t:TE}{Q:Option Int->Hp->Prop}:CO t σ H Q=t σ H λx H1=>∃i,x=.int i/\Q (some i) H1:=rfl
def vw{Q:Option Int->Hp->Prop}:uy σ H Q=Q none H:=rfl
end
end L2
namespace Rm
open PySem L2
def sd (b:Bool):Str:=if b then Str.ofString "r" else Str.ofString "l"
def Lo (b:Bool):(sd b=Str.ofString "l")=(b=false):=by cases b<;>simp[sd,AA,zz]
def IM (b:Bool):(sd b=Str.ofString "r")=(b=true):=by cases b<;>simp[sd,AA,zz]
def IP{a b:Bool}(h:sd a=sd b):a=b:=by cases a<;>cases b<;>simp[sd,AA,zz] at h<;>rfl
def yh:(Str.ofString "lr")=⟨#[108,114]⟩:=by decide +kernel
def HE {i:Int} (h0:0<=i) (h1:i<2):tS (Str.ofString "lr").cps.toList i=some (if i=1 then 114 else 108):=by
 have e:i=0\/i=1:=by lia
 rw[yh];rcases e with rfl | rfl<;>rfl
def HA(i:Int):(⟨#[if i=1 then 114 else 108]⟩:Str)=sd (decide (i=1)):=by
 by_cases h:i=1
 ·simp[h,sd,zz]
 ·simp[h,sd,AA]
def odd(i:Nat):Bool:=i % 2==1
def kI(i:Nat):odd (i+1)=!odd i:=by
 unfold odd;rcases dY i with h | h<;>simp[Nat.add_mod,h]
def dI(ns:List Int):List Int:=0::(ns++[(ns.length:Int)+1])
def gZ(ns:List Int):(dI ns).length=ns.length+2:=by simp[dI]
def bQ(ns:List Int)(i:Nat):Int:=(dI ns).getD i 0
def cV(ns:List Int)(i:Nat):Bw:=(min (bQ ns i) (bQ ns (i+1)),max (bQ ns i) (bQ ns (i+1)))
def bj(b s:Bool)(i:Nat):Bool:=(b ^^ odd i)==s
def aj(b:Bool)(ns:List Int)(s:Bool)(m:Nat):List Bw:=((List.range m).filter (bj b s)).map (cV ns)
def f7{b:Bool}{ns:List Int}{s:Bool}{i:Nat}(h:bj b s i=true):aj b ns s (i+1)=aj b ns s i++[cV ns i]:=by
 unfold aj;rw[ff,iK,ar];simp[h]
def gK{b:Bool}{ns:List Int}{s:Bool}{i:Nat}(h:bj b s i=false):aj b ns s (i+1)=aj b ns s i:=by
 unfold aj;rw[ff,iK,ar];simp[h]
def rC(b:Bool)(i:Nat):bj b (b ^^ odd i) i=true:=by simp[bj]
def v9(b:Bool)(i:Nat):bj b (!(b ^^ odd i)) i=false:=by cases h:(b ^^ odd i)<;>simp[bj,h]
def gV(b:Bool)(ns:List Int)(s:Bool)(m:Nat):(aj b ns s m).length<=m:=by
 unfold aj;rw[aD];exact cH (mi _ _) (by rw[ko];exact aJ _)
def pJ(b:Bool)(ns:List Int):∀m,(aj b ns false m).length+(aj b ns true m).length=m
 | 0=>rfl
 | m+1=>by
  have ih:=pJ b ns m;cases h:(b ^^ odd m) with
  | false=>
   rw[f7 (s:=false) (by simp[bj,h]),gK (s:=true) (by simp[bj,h])];simp;lia
  | true=>
   rw[gK (s:=false) (by simp[bj,h]),f7 (s:=true) (by simp[bj,h])];simp;lia
structure gm (ns:List Int):Prop where
 len:ns.length<=20
 perm:ns.Perm (cF 1 ns.length)
def gm.mem{ns:List Int}(O:gm ns){x:Int}:x∈ns<->1<=x/\x<=ns.length:=O.perm.mem_iff.trans sv
def gm.rows_nodup{ns:List Int}(O:gm ns):(dI ns).Nodup:=by
 have nd:ns.Nodup:=O.perm.nodup_iff.mpr (sT _);unfold dI;rw[cX,List.nodup_append];refine⟨λh=>?_,nd,by simp,λa ha b hb e=>?_⟩
 ·rcases a9.mp h with z | z
  ·have:=O.mem.mp z;lia
  ·have:(0:Int)=ns.length+1:=by simpa using z
   lia
 ·have:b=(ns.length:Int)+1:=by simpa using hb
  have:=O.mem.mp ha;lia
def gm.rows_mem{ns:List Int}(O:gm ns){x:Int}(h:x∈dI ns):0<=x/\x<=(ns.length:Int)+1:=by
 unfold dI at h;rcases aL.mp h with z | z
 ·lia
 ·rcases a9.mp z with z | z
  ·have:=O.mem.mp z;lia
  ·have:x=(ns.length:Int)+1:=by simpa using z
   lia
def fT{ns:List Int}{i:Nat}(h:i<ns.length+2):(dI ns)[i]? = some (bQ ns i):=by
 unfold bQ;have:i<(dI ns).length:=by rw[gZ];exact h
 simp[List.getD,this]
def gm.row_inj{ns:List Int}(O:gm ns){i j:Nat}(hi:i<ns.length+2)(hj:j<ns.length+2)(h:bQ ns i=bQ ns j):i=j:=by
 have h1:=aH.mp (fT hi);have h2:=aH.mp (fT hj);exact(List.getElem_inj O.rows_nodup (h₀:=h1.1) (h₁:=h2.1)).mp (h1.2.trans (h.trans h2.2.symm))
def gm.row_in{ns:List Int}(O:gm ns){i:Nat}(hi:i<ns.length+2):0<=bQ ns i/\bQ ns i<=(ns.length:Int)+1:=O.rows_mem (bG (fT hi))
def vN(ns:List Int):bQ ns 0=0:=rfl
def fu(ns:List Int):bQ ns (ns.length+1)=(ns.length:Int)+1:=by simp[bQ,dI,List.getD]
def Ce{ns:List Int}{i:Nat}{x:Int}(h:(ns++[(ns.length:Int)+1])[i]? = some x):bQ ns (i+1)=x:=by simp only[bQ,dI,List.getD,List.getElem?_cons_succ,h];rfl
def ju{ns:List Int}{i:Nat}{x:Int}(h:ns[i]? = some x):bQ ns (i+1)=x:=Ce (by rw[cu (aH.mp h).1];exact h)
def gm.step_lt{ns:List Int}(O:gm ns){i:Nat}(hi:i<=ns.length):(cV ns i).1<(cV ns i).2:=by
 have:bQ ns i≠bQ ns (i+1):=λe=>by
  have:=O.row_inj (by lia) (by lia) e;lia
 show min (bQ ns i) (bQ ns (i+1))<max (bQ ns i) (bQ ns (i+1));lia
def gm.step_in{ns:List Int}(O:gm ns){i:Nat}(hi:i<=ns.length):0<=(cV ns i).1/\(cV ns i).2<=(ns.length:Int)+1:=by
 have h1:=O.row_in (i:=i) (by lia);have h2:=O.row_in (i:=i+1) (by lia);show 0<=min (bQ ns i) (bQ ns (i+1))/\max (bQ ns i) (bQ ns (i+1))<=_;lia
def dy{b:Bool}{ns:List Int}{s:Bool}{m:Nat}{p:Bw}(h:p∈aj b ns s m):∃i,i<m/\bj b s i=true/\p=cV ns i:=by
 unfold aj at h;obtain⟨i,hi,rfl⟩:=bM.mp h;obtain⟨h1,h2⟩:=jY.mp hi;exact⟨i,cQ.mp h1,h2,rfl⟩
def gx{b:Bool}{ns:List Int}{s:Bool}{m i:Nat}(h:i<m)(hs:bj b s i=true):cV ns i∈aj b ns s m:=
 bM.mpr ⟨i,jY.mpr ⟨cQ.mpr h,hs⟩,rfl⟩
def ve(x:Int)(p:Bw):Bool:=decide (x=p.1) || decide (x=p.2)
def D7{b s:Bool}{j k:Nat}(h1:bj b s j=true)(h2:bj b s k=true)(h:j=k+1):False:=by
 subst h;simp only[bj,kI,beq_iff_eq] at h1 h2;cases b<;>cases s<;>cases hk:odd k<;>simp[hk] at h1 h2
structure tQ (b:Bool) (ns:List Int) (s:Bool) (L:List Bw):Prop where
 perm:L.Perm (aj b ns s (ns.length+1))
 asc:L.Pairwise leB
def tQ.len{b:Bool}{ns:List Int}{s:Bool}{L:List Bw}(h:tQ b ns s L)(O:gm ns):L.length<=21:=by
 have h1:=h.perm.length_eq;have h2:=gV b ns s (ns.length+1);have:=O.len;lia
def xm{x y:Int}{ms:List Int}(h:ms.Perm [x,y])(hs:ms.Pairwise (·<=·)):ms=[min x y,max x y]:=by
 have:(if x<=y then [x,y] else [y,x]).Perm [x,y]:=by
  by_cases e:x<=y
  ·rw[Vz e]
  ·rw[Vy e];exact List.Perm.swap x y []
 have e2:[min x y,max x y]=(if x<=y then [x,y] else [y,x]):=by
  by_cases e:x<=y
  ·rw[Vz e];simp[Int.min_def,Int.max_def,e]
  ·rw[Vy e];have:y<=x:=by lia
   simp[Int.min_def,Int.max_def,e]
 rw[e2];refine List.Perm.eq_of_pairwise (le:=(·<=·)) (λa b _ _ h h'=>by lia) hs ?_ (h.trans this.symm);by_cases e:x<=y
 ·rw[Vz e];simp[e]
 ·rw[Vy e];simp;lia
def GA{ns:List Int}{i:Nat}(h:i<=ns.length):t9 ((dI ns).map V.int) (some (0+(i:Int))) (some (0+(i:Int)+2))=[bQ ns i,bQ ns (i+1)].map V.int:=by
 have e1:HT.sIx ((dI ns).map V.int).length 0 (some (0+(i:Int)))=i:=by
  show (if (0+(i:Int))<0 then (0+(i:Int)+(((dI ns).map V.int).length:Int)).toNat else min (0+(i:Int)).toNat ((dI ns).map V.int).length)=i;rw[Vy (by lia),aD,gZ];lia
 have e2:HT.sIx ((dI ns).map V.int).length ((dI ns).map V.int).length (some (0+(i:Int)+2))=i+2:=by
  show (if (0+(i:Int)+2)<0 then (0+(i:Int)+2+(((dI ns).map V.int).length:Int)).toNat else min (0+(i:Int)+2).toNat ((dI ns).map V.int).length)=i+2;rw[Vy (by lia),aD,gZ];lia
 unfold t9;rw[e1,e2,show i+2-i=2 by lia,<-List.map_drop,<-List.map_take];congr 1;have h1:=aH.mp (fT (ns:=ns) (i:=i) (by lia));have h2:=aH.mp (fT (ns:=ns) (i:=i+1) (by lia));rw[bX h1.1,bX h2.1,h1.2,h2.2];rfl
def dj(H:Hp)(m o:Addr)(b:Bool)(ns:List Int):Prop:=H m=some (.tup [.str (sd b),.ref o])/\H o=some (.tup (ns.map V.int))
def dj.same{H H':Hp}{m o:Addr}{b:Bool}{ns:List Int}(h:dj H m o b ns)(s:aV H H'):dj H' m o b ns:=⟨s _ _ h.1,s _ _ h.2⟩
def z0:Sp:=λvs H Q _=>∃b,vs=[.str (sd b)]/\Q (.str (sd !b)) H
def wF:Sp:=λvs H Q _=>∃m o b ns,∃k:Nat,vs=[.ref m,.int k]/\dj H m o b ns/\Q (.str (sd (b ^^ odd k))) H
def C2:Sp:=λvs H Q _=>∃m o b ns,vs=[.ref m]/\dj H m o b ns/\ns.length<=40/\∀l H',H l=none->aV H H'->H' l=some (.lst ((dI ns).map V.int))->Q (.ref l) H'
structure KF (H:Hp) (t l r:Addr) (b:Bool) (ns:List Int) (L R:List Bw):Prop where
 tup:H t=some (.tup [.ref l,.ref r])
 left:c7 H l L
 right:c7 H r R
 isL:tQ b ns false L
 isR:tQ b ns true R
 ne:l≠r
def sL:Sp:=λvs H Q _=>∃m o b ns,vs=[.ref m]/\dj H m o b ns/\gm ns/\∀t l r L R H',H t=none->H l=none->H r=none->aV H H'->KF H' t l r b ns L R->Q (.ref t) H'
def qk{H:Hp}{l t:Addr}{as:List Addr}{ps:List Bw}{p:Bw}(h1:H l=some (.lst (as.map V.ref)))(h2:Paired (bi H) as ps)(ht:bi H t p):c7 (bE H l (.lst (as.map V.ref++[.ref t]))) l (ps++[p]):=by
 have st:∀{a:Addr} {p:Bw},bi H a p->bi (bE H l (.lst (as.map V.ref++[.ref t]))) a p:=fun {a p} h=>by
  have:a≠l:=λe=>by subst e;unfold bi at h;rw[h1] at h;cases h
  unfold bi;rw[aI this];exact h
 refine⟨as++[t],by rw[aC,ar];rfl,?_⟩;clear h1;generalize bE H l (.lst (as.map V.ref++[.ref t]))=H' at st ⊢
 induction h2 with
 | nil=>exact .cons (st ht) .nil
 | cons a b ih=>exact .cons (st a) ih
def uV{α β:Type}{F:α->β->Prop}{l:List α}{m:List β}{a:α}{b:β}(h:Paired F l m)(hb:F a b):Paired F (l++[a]) (m++[b]):=by
 induction h with
 | nil=>exact .cons hb .nil
 | cons x y ih=>exact .cons x ih
end Rm
namespace L2
open PySem PySem.Spec PyProof.Rows
section
variable {X:Cx} {pins:List (Addr×Obj)} {σ:St} {H:Hp} {s:Shared} {h':Heap}
def bY.turnNew{fp:List Addr}{p:Addr}{o:HO}{t':Nat}(I:bY X pins σ H s)(hf:∀b∈fp,ji X pins H b)(k:∀b u,b∉fp->s.heap.get? b=some u->h'.get? b=some u)(hp:s.heap.objs.size<=p)
  (new:dB X.prog X.w (bE H p o) h' p o):bY X pins σ (bE H p o) { s with heap:=h',toks:=t' }:=by
 have hn:H p=none:=I.hok.fresh hp;have nfp:∀b u,H b=some u->b∉fp:=λb u e z=>by rw[(hf b z).1] at e;cases e
 refine I.step (g':=s.gens) (d':=s.drawn) (ch:=fp) (λb hb=>?_) (λb u _ _ hc e _=>k b u hc e) (λb u _ _ hc e _=>⟨u.slots,k b u hc e⟩)
  (λb u _ e n=>by rw[aI (am (aW (aR e) hp))];exact n) (λb u hc e=>⟨u,k b u hc e⟩) (λb xs e=>by rw[aI (av e hn)];exact e)
  (λb u xs e=>by rw[aI (av e hn)];exact e) (λb ps e=>⟨#[],by rw[aI (av e hn),e];simp⟩) (λm hm=>?_) (λb u e=>?_) I.bare
 ·obtain⟨_,f1,_,f3,f4,f5⟩:=hf b hb;exact⟨f3,f1,f4,f5⟩
 ·obtain⟨ob,es,ep,ho,r⟩:=hm;exact⟨ob,es,ep,k _ ob (λz=>(hf _ z).2.1 rfl) ho,r⟩
 ·by_cases hb:b=p
  ·subst hb;rw[aC] at e;cases e;exact new
  ·rw[aI hb] at e;refine(I.hok b u e).stay (λc v hc q=>k c v ?_ q) (λc q=>by rw[aI (av q hn)];exact q) λc xs q=>by rw[aI (av q hn)];exact q
   rcases hc with z | z
   ·rw[z];exact nfp b u e
   ·exact nfp c _ z
end
def Ld(x:Str):It:=⟨λi _=>i<x.cps.size,λi H v H'=>H'=H/\∃c,x.cps[i]? = some c/\v=.str ⟨#[c]⟩,λi _=>x.cps.size<=i⟩
def CL {P : Program} {w : World} {K : WG} {tg : Expr} (it : Addr) (x : Str) (t : Tok) : Turn P w K tg (Ld x) [it] it (fun i h => h.IsStrIter it "str_ascii_iterator" x t i) where
  mem := by simp
  obj := fun i h st b hb => by
    have e : b = it := by simpa using hb
    subst e
    obtain ⟨o, e, c, d⟩ := st
    exact ⟨o, e, fun v z => by rw [d] at z; cases z⟩
  keep := fun i h h' st k => by
    obtain ⟨o, e, r⟩ := st
    exact ⟨o, k it (by simp) o e, r⟩
  item := by
    intro X hP hw hK hc i pins s σ H E I hf st hg
    subst hP hw hK
    obtain ⟨f0, f1, f2, f3, f4, f5⟩ := hf it (by simp)
    have hx : x.cps[i]? = some x.cps[i] := ef hg
    refine wpAny_pyNext_ascii_item st hx fun h' st' sb => ?_
    have I1 : bY X pins σ H { s with heap := h', toks := s.toks + 1 } := I.turned (t' := s.toks + 1) (fun b o hb e => (sb.2 b hb).trans e) f0 f1 f3 f4 f5
    obtain ⟨o, e, c, d⟩ := id st'
    exact ⟨_, rfl, xG (s := { s with heap := h', toks := s.toks + 1 }) e c d (by decide) ⟨.str ⟨#[x.cps[i]]⟩, H, I1, ⟨_, rfl⟩, ⟨rfl, _, hx, rfl⟩, st', fun b hb => (hf b hb).1⟩⟩
  done := by
    intro X hP hw hK hc i pins s σ H E I hf st hg
    subst hP hw hK
    obtain ⟨f0, f1, f2, f3, f4, f5⟩ := hf it (by simp)
    exact wpAny_pyNext_ascii_end (I.ok.hd hc) st (mM hg) fun h' eb => ⟨rfl, I.turned (t' := s.toks) (fun b o hb e => eb b o hb e) f0 f1 f3 f4 f5⟩
  self := fun _ _ _ _ _ st h => wpAny_pyIter_striter_ascii st h
def Jc(tl:TE):TI:=λσ H R=>tl σ H λx H1=>∃z,x=.str z/\z.cps.all (·<128)=true/\R (Ld z) H1
def Ir{X:Cx}{tg l:Expr}{tl:TE}(hl:PE X l tl):PI X tg l (Jc tl):=by
 intro pins s σ H R I h;refine dZ (hl pins s σ H _ I h) λv s1 ⟨x,H1,I1,r1,z,e,ha,q⟩=>?_;subst e;obtain⟨t,rfl⟩:=r1;refine wpAny_pyIter_ascii ha ?_;exact⟨s1.heap.objs.size,[s1.heap.objs.size],_,_,H1,rfl,I1.kept (t':=s1.toks) λb o e=>aB _ e,CL _ z t,⟨_,aN _ rfl,rfl,rfl⟩,
  λb hb=>by
   have e:b=s1.heap.objs.size:=by simpa using hb
   subst e;exact I1.fpOk (aJ _) (I1.hok.fresh (aJ _)),q⟩
def Le(x:Str):It:=⟨λi _=>i<x.cps.size,λi H v H'=>∃p c,H p=none/\x.cps[i]? = some c/\v=.ref p/\H'=bE H p (.tup [.int i,.str ⟨#[c]⟩]),λi _=>i=x.cps.size⟩
def A3 {P : Program} {w : World} {K : WG} {elts : List Expr} {x1 : Nat} {pos : Pos} (e it : Addr) (hne : e ≠ it) (x : Str) (t : Tok) :
    Turn P w K (.Tuple elts x1 pos) (Le x) [e, it] e (fun i h => (∃ old, IsEnum h e it i old) ∧ h.IsStrIter it "str_ascii_iterator" x t i) where
  mem := by simp
  obj := fun i h st b hb => by
    obtain ⟨⟨old, he⟩, o, ei, c, d⟩ := st
    rcases aL.mp hb with z | z
    · subst z; exact ⟨_, he, fun v z => by cases z⟩
    · have z' : b = it := by simpa using z
      subst z'
      exact ⟨o, ei, fun v z => by rw [d] at z; cases z⟩
  keep := fun i h h' st k => by
    obtain ⟨⟨old, he⟩, o, ei, r⟩ := st
    exact ⟨⟨old, k e (by simp) _ he⟩, o, k it (by simp) o ei, r⟩
  item := by
    intro X hP hw hK hc i pins s σ H E I hf st hg
    subst hP hw hK
    obtain ⟨⟨old, he⟩, hst⟩ := st
    have D : Draws X.prog X.w X.A.in1 it [it] x.cps.size _ _ := kR (show X.A.in1.handled = none from I.ok.hd hc) it x t
    refine wpAny_pyNext_enum_itemD D he hst hg hne (by simpa using hne) fun v h' tk hv ho st' ht hsz kp => ?_
    obtain ⟨c, u, hx, rfl⟩ := hv
    refine ⟨_, rfl, wpAny_letOwnedTupleGo_enum ho fun h2 he2 hs2 => ?_⟩
    have het : s.heap.objs.size ≠ e := gh (aR he)
    have ht2 : h2.get? s.heap.objs.size = some { cls := .type "tuple", data := .seq #[.int i tk, .str ⟨#[c]⟩ u] } := (hs2.2 _ het).trans ht
    have hn : H s.heap.objs.size = none := I.hok.fresh (aJ _)
    refine ⟨.ref s.heap.objs.size, bE H s.heap.objs.size (.tup [.int i, .str ⟨#[c]⟩]), I.turnNew (fp := [e, it]) hf (fun b o hb q => ?_) (aJ _) (show dB X.prog X.w _ h2 _ (.tup _) from ⟨(by show 2 ≤ sizeLine; decide), [.int i tk, .str ⟨#[c]⟩ u], .cons ⟨_, rfl⟩ (.cons ⟨_, rfl⟩ .nil), _, ht2, rfl, _, rfl⟩), rfl, ⟨_, c, hn, hx, rfl, rfl⟩, ⟨⟨_, by exact_mod_cast he2⟩, ?_⟩, fun b hb => ?_⟩
    · have n1 : b ≠ e := fun z => hb (by simp [z])
      have n2 : b ≠ it := fun z => hb (by simp [z])
      exact (hs2.2 b n1).trans (kp b o n1 n2 q)
    · obtain ⟨o, ei, r⟩ := st'
      exact ⟨o, (hs2.2 it hne.symm).trans ei, r⟩
    · have hb' := (hf b hb).1
      rw [aI (fun z => ?_)]
      · exact hb'
      · obtain ⟨o, q, _⟩ := hst
        rcases aL.mp hb with y | y
        · exact het (z.symm.trans y)
        · have y' : b = it := by simpa using y
          exact absurd (y'.symm.trans z) (am (aR q))
  done := by
    intro X hP hw hK hc i pins s σ H E I hf st hg
    subst hP hw hK
    obtain ⟨⟨old, he⟩, hst⟩ := st
    have hg' : i = x.cps.size := hg
    subst hg'
    obtain ⟨f0, f1, f2, f3, f4, f5⟩ := hf it (by simp)
    have D : Draws X.prog X.w X.A.in1 it [it] x.cps.size _ _ := kR (show X.A.in1.handled = none from I.ok.hd hc) it x t
    exact wpAny_pyNext_enum_endD D he hst fun h' eb => ⟨rfl, I.turned (t' := s.toks) (fun b o hb q => eb b o hb q) f0 f1 f3 f4 f5⟩
  self := fun _ _ _ _ _ st h => by
    obtain ⟨⟨old, he⟩, _⟩ := st
    exact wpAny_pyIter_enum he h
def Dr(ta:TA):TI:=λσ H R=>ta σ H λvs H1=>∃z,vs=[.str z]/\z.cps.all (·<128)=true/\R (Le z) H1
def FG {X:Cx} {a:Expr} {ta:TA} {elts:List Expr} {x1:Nat} {p pos tpos:Pos} (hg:Gl X "enumerate") (hm:X.mg "enumerate"=none) (ha:PA X [a] ta) (hs:starEach [a] X.env=[(false,eval a X.env)]:=by rfl) :
  PI X (.Tuple elts x1 tpos) (.Call (.Name "enumerate" p) [a] [] pos) (Dr ta):=by
 intro pins s σ H R I h;refine Call_ (ou I hg hm boot_enumerate (dU (dZ (ha pos pins s σ H _ I h) λus s1 ⟨vs,H1,I1,r1,z,e,hz,q⟩=>?_) hs rfl));subst e;obtain⟨u,rfl,t,rfl⟩:=Ve r1;refine call_enumerate_str λh' he hit hsz kp=>?_;have ht:strIterType z="str_ascii_iterator":=by unfold strIterType;rw[Vz hz]
 rw[ht] at hit;refine wpAny_pyIter_enum he ?_;have I2:bY X pins σ H1 { s1 with heap:=h' }:=I1.kept (t':=s1.toks) kp;exact⟨s1.heap.objs.size+1,[s1.heap.objs.size+1,s1.heap.objs.size],_,_,H1,rfl,I2,A3 _ _ (Nat.succ_ne_self _) z t,⟨⟨_,he⟩,hit⟩,
  λb hb=>by
   have hle:s1.heap.objs.size<=b:=by
    rcases aL.mp hb with y | y
    ·rw[y];exact fG _
    ·have y':b=s1.heap.objs.size:=by simpa using y
     exact mD y'.symm
   exact I1.fpOk hle (I1.hok.fresh hle),q⟩
section
variable {σ:St} {H:Hp} {D:Ends}
def By{tl:TE}{g:TG}{tb:TS}:rK (Jc tl) g tb D σ H=tl σ H λx H1=>∃z,x=.str z/\z.cps.all (·<128)=true/\qJ (Ld z) g tb D σ H1:=rfl
def CA{ta:TA}{g:TG}{tb:TS}:rK (Dr ta) g tb D σ H=ta σ H λvs H1=>∃z,vs=[.str z]/\z.cps.all (·<128)=true/\qJ (Le z) g tb D σ H1:=rfl
def Ka{a:Str}{q:Str->Prop}:(∃b,V.str a=.str b/\q b)=q a:=propext ⟨λ⟨_,e,h⟩=>by cases e;exact h,λh=>⟨a,rfl,h⟩⟩
def Fw{x:Str}{g:TG}{tb:TS}(Pv:Nat->St->Hp->Prop)(h0:Pv 0 σ H)
  (hs:∀i c σ H,x.cps[i]? = some c->Pv i σ H->g (.str ⟨#[c]⟩) σ H λσ2 H2=>tb { D with nx:=Pv (i+1),ct:=Pv (i+1),bk:=D.nx } σ2 H2) (hd:∀σ H,Pv x.cps.size σ H->D.nx σ H):qJ (Ld x) g tb D σ H:=by
 refine⟨λi m σ H=>m+i=x.cps.size/\Pv i σ H,⟨x.cps.size,rfl,h0⟩,?_⟩;rintro i m σ H ⟨hm,hp⟩;by_cases hi:i<x.cps.size
 ·refine .inr ⟨hi,Pv (i+1),λσ' H' h=>⟨m - 1,by lia,by lia,h⟩,?_⟩;rintro v H' ⟨rfl,c,hc,rfl⟩;exact hs i c σ H' hc hp
 ·have e:i=x.cps.size:=by lia
  subst e;exact .inl ⟨aJ _,hd σ H hp⟩
def Dy{x:Str}{g:TG}{tb:TS}(Pv:Nat->St->Hp->Prop)(h0:Pv 0 σ H)
  (hs:∀i c σ H p,x.cps[i]? = some c->Pv i σ H->H p=none->g (.ref p) σ (bE H p (.tup [.int i,.str ⟨#[c]⟩])) λσ2 H2=>tb { D with nx:=Pv (i+1),ct:=Pv (i+1),bk:=D.nx } σ2 H2) (hd:∀σ H,Pv x.cps.size σ H->D.nx σ H):qJ (Le x) g tb D σ H:=by
 refine⟨λi m σ H=>m+i=x.cps.size/\Pv i σ H,⟨x.cps.size,rfl,h0⟩,?_⟩;rintro i m σ H ⟨hm,hp⟩;by_cases hi:i<x.cps.size
 ·refine .inr ⟨hi,Pv (i+1),λσ' H' h=>⟨m - 1,by lia,by lia,h⟩,?_⟩;rintro v H' ⟨p,c,hn,hc,rfl,rfl⟩;exact hs i c σ H p hc hp hn
 ·have e:i=x.cps.size:=by lia
  subst e;exact .inl ⟨rfl,hd σ H hp⟩
end
section
def kY{A:Around}{k:Nat}(hr:gE k A):A.units+1<cLine:=by have:=hr.units;lia
end
def Li(te:TE):TE:=λσ H Q=>te σ H λx H1=>∃(a:Addr) (xs:List V),x=.ref a/\H1 a=some (.lst xs)/\xs.length<=1000/\∀l,H1 l=none->Q (.ref l) (bE H1 l (.lst xs.reverse))
def w_rev{te:TE}{σ:St}{H:Hp}{Q:VK}:Li te σ H Q=te σ H λx H1=>∃(a:Addr) (xs:List V),x=.ref a/\H1 a=some (.lst xs)/\xs.length<=1000/\∀l,H1 l=none->Q (.ref l) (bE H1 l (.lst xs.reverse)):=rfl
structure QE (X:Cx) (e:Expr) (t:TE):Prop where
 h:PE X e t
structure QT (X:Cx) (e:Expr) (t:TT):Prop where
 h:PT X e t
structure QA (X:Cx) (es:List Expr) (t:TA):Prop where
 h:PA X es t
structure QS (X:Cx) (st:Stmt) (t:TS):Prop where
 h:PS X st t
structure ig (X:Cx) (sts:List Stmt) (t:TS):Prop where
 h:ut X sts t
structure QG (X:Cx) (e:Expr) (t:TG):Prop where
 h:PG X e t
structure La (X:Cx) (es:List Expr) (t:Ba):Prop where
 h:LS X es t
structure QF (X:Cx) (es:List Expr) (t:TT):Prop where
 h:PF X es t
structure QW (X:Cx) (e:Expr) (t:TT):Prop where
 h:PW X e t
structure QO (X:Cx) (e:Option Expr) (t:TO):Prop where
 h:PO X e t
structure GR (X:Cx) (pos:Pos) (keys:List (Option Expr)) (values:List Expr) (trs:List (TE×TE)):Prop where
 h:LR X pos keys values trs
structure QI (X:Cx) (tg iter:Expr) (t:TI):Prop where
 h:PI X tg iter t
def QW.pt{X:Cx}{e:Expr}{t:TT}(h:QW X e t):QT X e t:=⟨h.h.pt⟩
section
variable {X:Cx}
def aG{i j pos}:QE X (.Constant (.int i) j pos) (tC (.int i)):=⟨JH ⟩
end
section
variable {X:Cx}
def eV{b j pos}:QE X (.Constant (.bool b) j pos) (tC (.bl b)):=⟨LB ⟩
end
section
variable {X:Cx}
def jL{j pos}:QE X (.Constant .none j pos) (tC .non):=⟨JF ⟩
end
section
variable {X:Cx}
def bJ{x j pos}:QE X (.Constant (.str x) j pos) (tC (.str x)):=⟨JB ⟩
end
section
variable {X:Cx}
def iX {x:Str} {v:V} {u:Value} {pos:Pos} (hg:Gl X x) (hm:X.mg x=none) (hv:bootBuiltins x=some u) (r:RelV v u) (hn:x≠"__name__":=by decide) (hd:(x==("__debug__":Str))=false:=by decide):QE X (.Name x pos) (tC v):=⟨FP hg hm hv r hn hd⟩
end
section
variable {X:Cx} {pos:Pos}
def dz{e:Expr}{t:TE}(h:QE X e t)(he:∀whole,isTrue e X.env whole=(do let v <-whole;standAt e.pos;holding [v] (truthy v)):=by intro _;rfl):QT X e (tB t):=⟨Ic h.h he⟩
end
section
variable {X:Cx} {a:Expr} {pos:Pos} {tA:TT}
def wX(ha:QT X a tA):QW X (.BoolOp .And [a] pos) tA:=⟨Er ha.h⟩
end
section
variable {X:Cx} {a:Expr} {pos:Pos} {tA:TT}
def g6(ha:QT X a tA):QW X (.BoolOp .Or [a] pos) tA:=⟨I9 ha.h⟩
end
section
variable {X:Cx} {a b:Expr} {pos:Pos} {tA tB':TT} {rest:List Expr}
def zh(ha:QT X a tA)(hb:QW X (.BoolOp .And (b::rest) pos) tB'):QW X (.BoolOp .And (a::b::rest) pos) (IL tA tB'):=⟨Ia ha.h hb.h⟩
end
section
variable {X:Cx} {a b:Expr} {pos:Pos} {tA tB':TT} {rest:List Expr}
def iV(ha:QT X a tA)(hb:QW X (.BoolOp .Or (b::rest) pos) tB'):QW X (.BoolOp .Or (a::b::rest) pos) (Lk tA tB'):=⟨Ku ha.h hb.h⟩
end
section
variable {X:Cx} {a:Expr} {pos:Pos} {tA:TT}
def fD(ha:QT X a tA):QT X (.UnaryOp .Not a pos) (IC tA):=⟨Ig ha.h⟩
end
section
variable {X:Cx} {a:Expr} {pos:Pos}
def jK{op}{t:TE}(h:QE X a t):QE X (.BoolOp op [a] pos) t:=⟨JD h.h⟩
end
section
variable {X:Cx} {a b:Expr} {ta tb:TE} {pos:Pos} {rest:List Expr}
def gF(ha:QE X a ta)(hb:QE X (.BoolOp .And (b::rest) pos) tb):QE X (.BoolOp .And (a::b::rest) pos) (CZ ta tb):=⟨JK ha.h hb.h⟩
end
section
variable {X:Cx} {a:Expr} {ta:TE} {pos:Pos}
def pR(ha:QE X a ta):QE X (.UnaryOp .Not a pos) (CP ta):=⟨JE ha.h⟩
end
section
variable {X:Cx} {a b:Expr} {ta tb:TE} {pos:Pos} {tA:TT}
def oC{c:Expr}(hc:QT X c tA)(ha:QE X a ta)(hb:QE X b tb):QE X (.IfExp c a b pos) (Ll tA ta tb):=⟨DM hc.h ha.h hb.h⟩
end
section
variable {X:Cx}
def bL  : ig X [] CQ:=⟨Eu ⟩
end
section
variable {X:Cx} {st:Stmt} {rest:List Stmt} {t u:TS}
def aF(h1:QS X st t)(h2:ig X rest u):ig X (st::rest) (Hz t u):=⟨DD h1.h h2.h⟩
end
section
variable {X:Cx} {st:Stmt} {t:TS}
def aK(h1:QS X st t):ig X [st] t:=⟨Et h1.h⟩
end
section
variable {X:Cx} {e:Expr} {te:TE} {pos:Pos}
def cO(he:QE X e te)(hs:swapsWith e none pos.line X.env=pure false:=by rfl):QS X (.Expr e pos) (CU te):=⟨Ez he.h hs⟩
end
section
variable {X:Cx} {e:Expr} {te:TE} {pos:Pos}
def bB(he:QE X e te):QS X (.Return (some e) pos) (IB te):=⟨Ij he.h⟩
end
section
variable {X:Cx} {t u:TS} {pos:Pos}
def cA{c:Expr}{a b:List Stmt}{tc:TT}(hc:QT X c tc)(ha:ig X a t)(hb:ig X b u):QS X (.If c a b pos) (ID tc t u):=⟨Kv hc.h ha.h hb.h⟩
end
section
variable {X:Cx} {pos:Pos}
def bI{i:Nat}{x:Str}(hN:X.N.Nodup)(hi:X.N[i]? = some x)(hx:Loc X.env.scope x)(hf:X.fn x=true\/X.env.scope.names.lookup x=some .local:=by first | exact .inl rfl | exact .inr rfl | assumption):QG X (.Name x pos) (mR i):=⟨FI hN hi hx hf⟩
end
section
variable {X:Cx}
def hU  : La X [] Jg:=⟨FH ⟩
end
section
variable {X:Cx}
def ce{e:Expr}{es:List Expr}{t:TG}{u:Ba}(h1:QG X e t)(h2:La X es u)(hs:(assignEach (e::es) X.env).map (·.2)=assign e X.env::(assignEach es X.env).map (·.2):=by rfl):La X (e::es) (Du t u):=⟨DJ h1.h h2.h hs⟩
end
section
variable {X:Cx} {pos:Pos}
def jJ{es:List Expr}{k:Nat}{t:Ba}{n:Nat}(hc:X.calm=true)(h:La X es t)(hn:(assignEach es X.env).length=n:=by rfl)(hst:(assignEach es X.env).findIdx? (·.1)=none:=by rfl):QG X (.Tuple es k pos) (Je X.K n t):=⟨Iu hc h.h hn hst⟩
end
section
variable {X:Cx} {pos:Pos}
def vT{o i:Expr}{to ti:TE}{t:EU}(ho:QE X o to)(hi:QE X i ti)(hs:Jt X t)(ha:∀v,assign (.Subscript o i pos) X.env v=(do
   let ov <-holding [v] (eval o X.env)
   let iv <-holding [v,ov] (eval i X.env)
   standAt pos
   holding [v,ov,iv] (setItem ov iv v)
   release [v,ov,iv] []):=by intro _;rfl):QG X (.Subscript o i pos) (Jf to ti t):=⟨Iv ho.h hi.h hs ha⟩
end
section
variable {X:Cx} {pos:Pos}
def vS{tg e:Expr}{te:TE}{g:TG}(he:QE X e te)(hg:QG X tg g)(hs:swapsWithSole [tg] e pos.line X.env=pure false:=by rfl)(hw:swappedStores [tg] e X.env=pure none:=by rfl)(h1:(assignEach [tg] X.env).map (·.2)=[assign tg X.env]:=by rfl):QS X (.Assign [tg] e pos) (wC te g):=⟨Io he.h hg.h hs hw h1⟩
end
section
variable {X:Cx} {pos:Pos}
def af{i:Nat}{x:Str}{e:Expr}{te:TE}{pos':Pos}(hN:X.N.Nodup)(hi:X.N[i]? = some x)(hx:Loc X.env.scope x)(he:QE X e te)(hs:swapsWith e (some (.Name x pos')) pos.line X.env=pure false:=by rfl)(hf:X.fn x=true\/X.env.scope.names.lookup x=some .local:=by first | exact .inl rfl | exact .inr rfl | assumption):QS X (.Assign [.Name x pos'] e pos) (wC te (mR i)):=⟨Ii hN hi hx he.h hs hf⟩
end
section
variable {X:Cx} {pos:Pos}
def zk{i:Nat}{x:Str}{e:Expr}{te:TE}{op:Operator}{ti:KL}{pos':Pos}(hN:X.N.Nodup)(hi:X.N[i]? = some x)(hx:Loc X.env.scope x)(he:QE X e te)(ho:Lb X op ti)(hf:X.fn x=true\/X.env.scope.names.lookup x=some .local:=by first | exact .inl rfl | exact .inr rfl | assumption):QS X (.AugAssign (.Name x pos') op e pos) (IK i te ti):=⟨Im hN hi hx he.h ho hf⟩
end
section
variable {X:Cx} {pos:Pos}
def oB{c:Expr}{body:List Stmt}{tc:TT}{tb:TS}(hp:PassesOwn (model X.prog X.w) X.A X.env X.xe)(hc:QT X c tc)(hb:ig X body tb):QS X (.While c body [] pos) (CN tc tb):=⟨DF hp hc.h hb.h⟩
end
section
variable {X:Cx} {tg:Expr}
def fE{l:Expr}{tl:TE}(hl:QE X l tl):QI X tg l (AF X.K tl):=⟨FF hl.h⟩
end
section
variable {X:Cx} {tg:Expr}
def zl{l:Expr}{tl:TE}(hl:QE X l tl):QI X tg l (Fv X.K tl):=⟨Iq hl.h⟩
end
section
variable {X:Cx} {tg:Expr}
def dX {a:Expr} {ta:TA} {p pos:Pos} (hg:Gl X "range") (hm:X.mg "range"=none) (ha:QA X [a] ta) (hs:starEach [a] X.env=[(false,eval a X.env)]:=by rfl):QI X tg (.Call (.Name "range" p) [a] [] pos) (AE ta):=⟨Aj hg hm ha.h hs⟩
end
section
variable {X:Cx} {tg:Expr}
def dH{iter:Expr}{body:List Stmt}{wi:TI}{g:TG}{tb:TS}{pos:Pos}(hp:PassesOwn (model X.prog X.w) X.A X.env X.xe)(hc:X.calm=true)(hi:QI X tg iter wi)(hg:QG X tg g)(hb:ig X body tb)(hs:∀x,foldedSetIterable iter X.env x=pure x:=by intro _;rfl):QS X (.For tg iter body [] pos) (rK wi g tb):=⟨Il hp hc hi.h hg.h hb.h hs⟩
end
section
variable {X:Cx} {a b:Expr} {ta tb:TE} {pos:Pos}
def bF{op:Operator}{r:R2}(ho:mV X (binaryOp op) r)(ha:QE X a ta)(hb:QE X b tb):QE X (.BinOp a op b pos) (Ee r ta tb):=⟨Ky ho ha.h hb.h⟩
end
section
variable {X:Cx} {a:Expr} {ta:TE} {pos:Pos}
def vU{op:UnaryOp}{r:V->Hp->VK->Prop}(ho:L9 X (unaryOp op) r)(ha:QE X a ta):QE X (.UnaryOp op a pos) (Lg r ta):=⟨Kx ho ha.h⟩
end
section
variable {X:Cx} {a b:Expr} {ta tb:TE} {pos:Pos}
def cm{op:CmpOp}{r:R2}(ho:mV X (compareOp op) r)(ha:QE X a ta)(hb:QE X b tb)(hm:behindInMarks op b=false):QE X (.Compare a [op] [b] pos) (Ee r ta tb):=⟨FN ho ha.h hb.h hm⟩
end
section
variable {X:Cx} {a b:Expr} {ta tb:TE} {pos:Pos}
def bD{op:CmpOp}{r:R2}(ho:mV X (compareOp op) r)(ha:QE X a ta)(hb:QE X b tb)(hm:behindInMarks op b=false):QT X (.Compare a [op] [b] pos) (wB (Ee r ta tb)):=⟨Es ho ha.h hb.h hm⟩
end
section
variable {X:Cx} {a:Expr} {ta:TE} {pos:Pos}
def Ac(ha:QE X a ta)(he:∀whole,isTrue a X.env whole=(do let v <-whole;standAt a.pos;holding [v] (truthy v))):QT X a (λσ H Q=>ta σ H λx H'=>∃k,Jq X.K x H' k/\Q k H'):=⟨DC ha.h he⟩
end
section
variable {X:Cx}
def aA  : QA X [] Ef:=⟨JL ⟩
end
section
variable {X:Cx} {e:Expr} {es:List Expr} {te:TE} {t:TA}
def nI(ha:QE X e te)(hr:QA X es t)(hs:starEach (e::es) X.env=(false,eval e X.env)::starEach es X.env:=by rfl):QA X (e::es) (fL te t):=⟨gb ha.h hr.h hs⟩
end
section
variable {X:Cx} {es:List Expr} {t:TA} {pos:Pos}
def bf{x1}(h:QA X es t):QE X (.Tuple es x1 pos) (Ed t):=⟨JA h.h⟩
end
section
variable {X:Cx} {es:List Expr} {t:TA} {pos:Pos}
def bn(h:QA X es t):QE X (.List es pos) (CS t):=⟨JG h.h⟩
end
section
variable {X:Cx} {x:Str} {p pos:Pos} {e:Expr} {es:List Expr} {t:TA} {id:String} {r:List V->Hp->VK->Prop}
def a8 (hc:gT X (.builtin id) r) (hg:Gl X x) (hm:X.mg x=none) (hv:bootBuiltins x=some (.builtin id)) (ha:QA X (e::es) t) (hn:x≠"__name__":=by decide) (hdb:(x==("__debug__":Str))=false:=by decide) (he:starEach (e::es) X.env=(false,eval e X.env)::starEach es X.env:=by rfl) (hpl:(backTo pos (starEach es X.env)).any (·.1)=false:=by rfl):QE X (.Call (.Name x p) (e::es) [] pos) (Km r t):=⟨DU hc hg hm hv ha.h hn hdb he hpl⟩
end
section
variable {X:Cx} {x:Str} {p pos:Pos} {e:Expr} {es:List Expr} {t:TA} {T:String} {r:List V->Hp->VK->Prop}
def cw (hc:gT X (.type T) r) (hg:Gl X x) (hm:X.mg x=none) (hv:bootBuiltins x=some (.type T)) (ha:QA X (e::es) t) (hn:x≠"__name__":=by decide) (hdb:(x==("__debug__":Str))=false:=by decide) (he:starEach (e::es) X.env=(false,eval e X.env)::starEach es X.env:=by rfl) (hpl:(backTo pos (starEach es X.env)).any (·.1)=false:=by rfl):QE X (.Call (.Name x p) (e::es) [] pos) (Km r t):=⟨Ak hc hg hm hv ha.h hn hdb he hpl⟩
end
section
variable {X:Cx}
def w4  : QO X none uy:=⟨FE ⟩
end
section
variable {X:Cx} {e:Expr} {te:TE}
def pQ(h:QE X e te):QO X (some e) (CO te):=⟨FD h.h⟩
end
section
variable {X:Cx} {e:Expr} {te:TE} {lo hi:Option Expr} {tl th:TO} {pos p2:Pos}
def qS{r:V->Option Int->Option Int->Hp->VK->Prop}(hr:MH X r)(he:QE X e te)(hl:QO X lo tl)(hu:QO X hi th):QE X (.Subscript e (.Slice lo hi none p2) pos) (Lh r te tl th):=⟨DK hr he.h hl.h hu.h⟩
end
section
variable {X:Cx} {a b:Expr} {ta tb:TE} {pos:Pos}
def ak{r:R2}(hr:Jx X r)(ha:QE X a ta)(hb:QE X b tb)(hs:AW b):QE X (.Subscript a b pos) (Ee r ta tb):=⟨Kz hr ha.h hb.h hs⟩
end
section
variable {X:Cx} {o:Expr} {to:TE} {name:Str} {apos cpos:Pos} {T id:String} {r:V->List V->Hp->VK->Prop}
def oF (pa:PlainAttrs T) (slot:Slot T name id) (hty:typeOf (.builtin id)=pure (.type "method_descriptor")) (hm:LV X id r) (ho:QE X o to) (hbase:attributeBase o name X.env (eval o X.env)=eval o X.env:=by rfl) (hline:(apos.endLine==cpos.line)=true:=by rfl):QE X (.Call (.Attribute o name apos) [] [] cpos) (IJ X.K T r to):=⟨JJ pa slot hty hm ho.h hbase hline⟩
end
section
variable {X:Cx} {o e:Expr} {es:List Expr} {to:TE} {t:TA} {name:Str} {apos cpos:Pos} {T id:String} {r:V->List V->Hp->VK->Prop}
def du (pa:PlainAttrs T) (slot:Slot T name id) (hty:typeOf (.builtin id)=pure (.type "method_descriptor")) (hm:LV X id r) (ho:QE X o to) (ha:QA X (e::es) t) (hbase:attributeBase o name X.env (eval o X.env)=eval o X.env:=by rfl) (hfew:((backTo cpos (starEach (e::es) X.env)).all (λx=>!x.1)&&(backToKw cpos (keywordEach [] X.env)).all (λx=>x.1.isSome)
   && decide ((e::es).length+([]:List Keyword).length+(if ([]:List Keyword).isEmpty then 0 else 1)<30))=true:=by rfl) (hline:(apos.endLine==cpos.line)=true:=by rfl) (hs:starEach (e::es) X.env=(false,eval e X.env)::starEach es X.env:=by rfl) (hplain:(backTo cpos (starEach es X.env)).any (·.1)=false:=by rfl):QE X (.Call (.Attribute o name apos) (e::es) [] cpos) (Ln X.K T r to t):=⟨LA pa slot hty hm ho.h ha.h hbase hfew hline hs hplain⟩
end
section
variable {X:Cx}
def a6 (i:Nat) {x:Str} {pos:Pos} (hN:X.N[i]? = some x:=by rfl) (hv:KJ X.env.scope x:=by first | exact Or.inl rfl | exact Or.inr (Or.inl rfl) | exact Or.inr (Or.inr rfl)) (hd:(x==("__debug__":Str))=false:=by decide) (hcd:(x==("__classdict__":Str))=false:=by decide):QE X (.Name x pos) (uw i):=⟨pv i hN hv hd hcd⟩
end
section
variable {X:Cx}
def sW{a b c d:Expr}{ta tb tc td:TE}{pos:Pos}{op op' op2:CmpOp}{r r' r2:R2}(ho:mV X (compareOp op) r)(ho':mV X (compareOp op') r')(ho2:mV X (compareOp op2) r2)(ha:QE X a ta)(hb:QE X b tb)(hc:QE X c tc)(hd:QE X d td)(hm:lastMarks [op,op',op2] [b,c,d]=false:=by with_unfolding_all rfl):QT X (.Compare a [op,op',op2] [b,c,d] pos) (wB (rS r r' r2 ta tb tc td)):=⟨Ag ho ho' ho2 ha.h hb.h hc.h hd.h hm⟩
end
section
def oE {X:Cx} {x:Str} {i:Int} {pos:Pos} (hg:Gl X x) (hm:∃t,X.mg x=some (.int i t)) (hd:(x==("__debug__":Str))=false:=by decide):QE X (.Name x pos) (tC (.int i)):=⟨DO hg hm hd⟩
end
section
def ae {X:Cx} {k:Nat} {x:Str} {st:Stmt} {ps:List Str} {sp:Sp} {e:Expr} {es:List Expr} {t:TA} {p pos:Pos} (D:fJ X.prog X.w X.K X.mg X.base k x st ps sp) (hr:gE k X.A) (hg:Gl X x) (ha:QA X (e::es) t) (hdb:(x==("__debug__":Str))=false:=by decide) (he:starEach (e::es) X.env=(false,eval e X.env)::starEach es X.env:=by rfl) (hpl:(backTo pos (starEach es X.env)).any (·.1)=false:=by rfl):QE X (.Call (.Name x p) (e::es) [] pos) (oQ sp [] E0 t):=⟨DT D hr hg ha.h hdb he hpl⟩
end
section
def Em{X:Cx}{tg l:Expr}{tl:TE}(hl:QE X l tl):QI X tg l (Jc tl):=⟨Ir hl.h⟩
end
section
def Cw {X:Cx} {a:Expr} {ta:TA} {elts:List Expr} {x1:Nat} {p pos tpos:Pos} (hg:Gl X "enumerate") (hm:X.mg "enumerate"=none) (ha:QA X [a] ta) (hs:starEach [a] X.env=[(false,eval a X.env)]:=by rfl):QI X (.Tuple elts x1 tpos) (.Call (.Name "enumerate" p) [a] [] pos) (Dr ta):=⟨FG hg hm ha.h hs⟩
end
section
def jc{X:Cx}:QF X [] sG:=⟨Iy ⟩
end
section
def En{X:Cx}{c:Expr}{t:TT}(h:QT X c t):QF X [c] t:=⟨Iw h.h⟩
end
section
variable {X:Cx} {H:Hp} {s:Shared}
def kF{own ns:List Str}{caps:List Nat}{elt tg iter:Expr}{ifs:List Expr}{scope:Scope}{pos:Pos}{wi:TI}{g:TG}{tf:TT}{te:TE}(hc:X.calm=true)(S:mL scope ns)(cp:mK X scope ns caps)(hi:QI X tg iter wi)(hg:∀C s H fp pn,QG (qf X (own++ns) scope C s H fp pn) tg g)(ht:∀C s H fp pn,QF (qf X (own++ns) scope C s H fp pn) ifs tf)(he:∀C s H fp pn,QE (qf X (own++ns) scope C s H fp pn) elt te)(hs:∀x,foldedSetIterable iter X.env x=pure x:=by intro _;rfl):QE X (.ListComp elt [⟨tg,iter,ifs,0⟩] scope pos) (pG own.length caps wi g tf te):=⟨FM hc S cp hi.h (λC s H fp pn=>(hg C s H fp pn).h) (λC s H fp pn=>(ht C s H fp pn).h) (λC s H fp pn=>(he C s H fp pn).h) hs⟩
end
section
variable {X:Cx} {H:Hp} {s:Shared}
def wZ{i:Nat}{x:Str}{own ns:List Str}{caps:List Nat}{elt tg iter:Expr}{ifs:List Expr}{scope:Scope}{pos pos' spos:Pos}{wi:TI}{g:TG}{tf:TT}{te:TE}(hN:X.N.Nodup)(hi:X.N[i]? = some x)(hx:Loc X.env.scope x)(hc:X.calm=true)(S:mL scope ns)(cp:mK X scope ns caps)(hit:QI X tg iter wi)(hg:∀C s H fp pn,QG (qf X (own++ns) scope C s H fp pn) tg g)(ht:∀C s H fp pn,QF (qf X (own++ns) scope C s H fp pn) ifs tf)(he:∀C s H fp pn,QE (qf X (own++ns) scope C s H fp pn) elt te)(hs:∀x,foldedSetIterable iter X.env x=pure x:=by intro _;rfl)(hsw:swapsWith (.ListComp elt [⟨tg,iter,ifs,0⟩] scope pos) (some (.Name x pos')) spos.line X.env=pure true:=by rfl)(hf:X.fn x=true\/X.env.scope.names.lookup x=some .local:=by first | exact .inl rfl | exact .inr rfl | assumption):QS X (.Assign [.Name x pos'] (.ListComp elt [⟨tg,iter,ifs,0⟩] scope pos) spos) (wC (pG own.length caps wi g tf te) (mR i)):=⟨Ey hN hi hx hc S cp hit.h (λC s H fp pn=>(hg C s H fp pn).h) (λC s H fp pn=>(ht C s H fp pn).h) (λC s H fp pn=>(he C s H fp pn).h) hs hsw hf⟩
end
section
def uU {X:Cx} {x:Str} {K:WG} {xs:List V} {pos:Pos} (hg:Gl X x) (hm:∃a,X.mg x=some (.ref a)/\∀H,c8 K H a xs) (hd:(x==("__debug__":Str))=false:=by decide):QE X (.Name x pos) (xt K xs):=⟨DN hg hm hd⟩
end
section
def dm{X:Cx}{st:Stmt}{rest:List Stmt}{t u:TS}(h1:QS X st t)(h2:ig X rest u):ig X (st::rest) (IG t u):=⟨Ew h1.h h2.h⟩
end
section
variable {X:Cx} {es:List Expr} {te:TE} {t:TA}
def cf{a0:PySem.Expr}{a1:PySem.Operator}{a2:PySem.Expr}{a3:PySem.Pos}(ha:QE X (Expr.BinOp a0 a1 a2 a3) te)(hr:QA X es t):QA X ((Expr.BinOp a0 a1 a2 a3)::es) (fL te t):=⟨DY ha.h hr.h⟩
end
section
variable {X:Cx} {es:List Expr} {te:TE} {t:TA}
def rB{a0:PySem.UnaryOp}{a1:PySem.Expr}{a2:PySem.Pos}(ha:QE X (Expr.UnaryOp a0 a1 a2) te)(hr:QA X es t):QA X ((Expr.UnaryOp a0 a1 a2)::es) (fL te t):=⟨yU ha.h hr.h⟩
end
section
variable {X:Cx} {es:List Expr} {te:TE} {t:TA}
def jd{a0:PySem.Expr}{a1:List Comprehension}{a2:PySem.Scope}{a3:PySem.Pos}(ha:QE X (Expr.ListComp a0 a1 a2 a3) te)(hr:QA X es t):QA X ((Expr.ListComp a0 a1 a2 a3)::es) (fL te t):=⟨wc ha.h hr.h⟩
end
section
variable {X:Cx} {es:List Expr} {te:TE} {t:TA}
def kc{a0:PySem.Expr}{a1:List CmpOp}{a2:List Expr}{a3:PySem.Pos}(ha:QE X (Expr.Compare a0 a1 a2 a3) te)(hr:QA X es t):QA X ((Expr.Compare a0 a1 a2 a3)::es) (fL te t):=⟨yV ha.h hr.h⟩
end
section
variable {X:Cx} {es:List Expr} {te:TE} {t:TA}
def bx{a0:PySem.Expr}{a1:List Expr}{a2:List Keyword}{a3:PySem.Pos}(ha:QE X (Expr.Call a0 a1 a2 a3) te)(hr:QA X es t):QA X ((Expr.Call a0 a1 a2 a3)::es) (fL te t):=⟨FU ha.h hr.h⟩
end
section
variable {X:Cx} {es:List Expr} {te:TE} {t:TA}
def aP{a0:PySem.Const}{a1:Nat}{a2:PySem.Pos}(ha:QE X (Expr.Constant a0 a1 a2) te)(hr:QA X es t):QA X ((Expr.Constant a0 a1 a2)::es) (fL te t):=⟨we ha.h hr.h⟩
end
section
variable {X:Cx} {es:List Expr} {te:TE} {t:TA}
def tX{a0:PySem.Expr}{a1:PySem.Str}{a2:PySem.Pos}(ha:QE X (Expr.Attribute a0 a1 a2) te)(hr:QA X es t):QA X ((Expr.Attribute a0 a1 a2)::es) (fL te t):=⟨vY ha.h hr.h⟩
end
section
variable {X:Cx} {es:List Expr} {te:TE} {t:TA}
def aO{a0:PySem.Expr}{a1:PySem.Expr}{a2:PySem.Pos}(ha:QE X (Expr.Subscript a0 a1 a2) te)(hr:QA X es t):QA X ((Expr.Subscript a0 a1 a2)::es) (fL te t):=⟨vX ha.h hr.h⟩
end
section
variable {X:Cx} {es:List Expr} {te:TE} {t:TA}
def aE{a0:PySem.Str}{a1:PySem.Pos}(ha:QE X (Expr.Name a0 a1) te)(hr:QA X es t):QA X ((Expr.Name a0 a1)::es) (fL te t):=⟨FR ha.h hr.h⟩
end
section
variable {X:Cx} {es:List Expr} {te:TE} {t:TA}
def lM{a0:List Expr}{a1:PySem.Pos}(ha:QE X (Expr.List a0 a1) te)(hr:QA X es t):QA X ((Expr.List a0 a1)::es) (fL te t):=⟨FS ha.h hr.h⟩
end
section
variable {X:Cx} {es:List Expr} {te:TE} {t:TA}
def cI{a0:List Expr}{a1:Nat}{a2:PySem.Pos}(ha:QE X (Expr.Tuple a0 a1 a2) te)(hr:QA X es t):QA X ((Expr.Tuple a0 a1 a2)::es) (fL te t):=⟨DX ha.h hr.h⟩
end
section
variable {X:Cx} {es:List Expr} {te:TE} {t:TA}
def w5{a0:List (Option Expr)}{a1:List Expr}{a2:PySem.Pos}(ha:QE X (Expr.Dict a0 a1 a2) te)(hr:QA X es t):QA X ((Expr.Dict a0 a1 a2)::es) (fL te t):=⟨FT ha.h hr.h⟩
end
section
variable {X:Cx} {o i:Expr} {pos:Pos} {td ty:TE}
def gM(hu:X.A.units+1<cLine)(ho:QE X o td)(hi:QE X i ty)(hs:Jw i):QE X (.Subscript o i pos) (CW td ty):=⟨FL hu ho.h hi.h hs⟩
end
section
variable {X:Cx} {o i value:Expr} {pos pos':Pos} {td ty tv:TE}
def iW(hu:X.A.units+1<cLine)(ho:QE X o td)(hi:QE X i ty)(hv:QE X value tv)(hs:swapsWith value (some (.Subscript o i pos')) pos.line X.env=pure false):QS X (.Assign [.Subscript o i pos'] value pos) (Cb td ty tv):=⟨FA hu ho.h hi.h hv.h hs⟩
end
section
variable {X:Cx} {pos:Pos}
def jv  : QE X (.Dict [] [] pos) xu:=⟨DQ ⟩
end
section
def Ct{X:Cx}{pos:Pos}:GR X pos [] [] []:=⟨FC ⟩
end
section
def uT{X:Cx}{pos:Pos}{k v:Expr}{ks:List (Option Expr)}{vs:List Expr}{tk tv:TE}{trs:List (TE×TE)}(hk:QE X k tk)(hv:QE X v tv)(hr:GR X pos ks vs trs):GR X pos (some k::ks) (v::vs) ((tk,tv)::trs):=⟨DH hk.h hv.h hr.h⟩
end
section
def Cz{X:Cx}{pos:Pos}{keys:List (Option Expr)}{values:List Expr}{trs:List (TE×TE)}(h:GR X pos keys values trs)(hall:keys.all (·.isSome)=true)(hl:keys.length=values.length)(h0:keys≠[])(h15:keys.length<=15):QE X (.Dict keys values pos) (CV trs):=⟨FK h.h hall hl h0 h15⟩
end
section
variable {X:Cx}
def sV{k d:Expr}{ty td:TE}{pos:Pos}(hu:X.A.units+1<cLine)(hk:QE X k ty)(hd:QE X d td)(hm:behindInMarks .NotIn d=false:=by first | rfl | with_unfolding_all rfl):QT X (.Compare k [.NotIn] [d] pos) (tB (rR ty td)):=⟨Af hu hk.h hd.h hm⟩
end
section
variable {X:Cx}
def g9 {x:Str} {C:Addr} {bmB:List Value} {B newId initId:String} {E:XK} {e:Expr} {es:List Expr} {t:TA} {np cpos pos:Pos} (R:Js X E) (O:OwnCls x C bmB newId X.mg X.base) (F:ExcBaseFacts B newId initId bmB) (hc:X.calm=true) (hg:Gl X x) (ha:QA X (e::es) t) (hdb:(x==("__debug__":Str))=false:=by decide) (he:starEach (e::es) X.env=(false,eval e X.env)::starEach es X.env:=by rfl) (hpl:(backTo cpos (starEach es X.env)).any (·.1)=false:=by rfl):QS X (.Raise (some (.Call (.Name x np) (e::es) [] cpos)) none pos) (xq C E t):=⟨DG R O F hc hg ha.h hdb he hpl⟩
end
section
variable {X:Cx}
def eE{st:Stmt}{t:TS}(h:QS X.nox st t):QS X st t:=⟨Ik h.h⟩
end
section
variable {X:Cx}
def jI{e:Expr}{t:TT}(h:QT X.nox e t):QT X e t:=⟨Ie h.h⟩
end
section
variable {X:Cx}
def fv {x:Str} {C:Addr} {pos:Pos} (hg:Gl X x) (hm:X.mg x=some (.ref C)) (hd:(x==("__debug__":Str))=false:=by decide):QE X (.Name x pos) (tC (.ref C)):=⟨DP hg hm hd⟩
end
section
variable {X:Cx}
def lK {k:Nat} {x:Str} {st:Stmt} {ps:List Str} {sp:Sp} {e:Expr} {es:List Expr} {t:TA} {p pos:Pos} (D:k6 X.prog X.w X.K X.mg X.base k x st ps sp) (hr:gE k X.A) (hg:Gl X x) (ha:QA X (e::es) t) (hdb:(x==("__debug__":Str))=false:=by decide) (he:starEach (e::es) X.env=(false,eval e X.env)::starEach es X.env:=by rfl) (hpl:(backTo pos (starEach es X.env)).any (·.1)=false:=by rfl):QE X (.Call (.Name x p) (e::es) [] pos) (oQ sp [] E0 t):=⟨DR D hr hg ha.h hdb he hpl⟩
end
section
variable {X:Cx}
def yR {a:Addr} {k:Nat} {x:Str} {st:Stmt} {ps:List Str} {sp:Addr->Sp} {e:Expr} {es:List Expr} {t:TA} {p pos:Pos} (D:EY X.prog X.w X.K X.mg X.base k x st ps sp) (hr:mU a k X.A) (hg:Gl X x) (ha:QA X (e::es) t) (hdb:(x==("__debug__":Str))=false:=by decide) (he:starEach (e::es) X.env=(false,eval e X.env)::starEach es X.env:=by rfl) (hpl:(backTo pos (starEach es X.env)).any (·.1)=false:=by rfl):QE X (.Call (.Name x p) (e::es) [] pos) (oQ (sp a) [] E0 t):=⟨Al D hr hg ha.h hdb he hpl⟩
end
open AutoSeq1 (wpAny_loadPart')
section
variable {prog:Program} {w:World} {A:Around} {E:Value->Shared->Prop} {s:Shared}
def yc{it t:Addr}{i:Nat}{items}{x:Value}{Q:Value->Shared->Prop}(hit:s.heap.IsTupleIter it t i)(ht:s.heap.IsTuple t items)(hx:items[i]? = some x)
  (hQ:∀h',h'.IsTupleIter it t (i+1)->Heap.SameBut it s.heap h'->Q x { s with heap:=h' }):wpAny (model prog w) A (Builtin.SmallTypes.nextOf (.ref it)) Q E s:=by
 obtain⟨o,ho,hc,hd⟩:=id hit;obtain⟨ol,hol,_,nl,hdl⟩:=ht;unfold Builtin.SmallTypes.nextOf;refine wpAny_bind (wpAny_callSpecial?_slot (name:=Str.ofString "__next__") hit.typeIs eT (Vk eT hit.typeIs jj ?_ (j5 _)));show wpAny _ _ (field (.ref it) 0>>=_) _ _ s;refine wpAny_bind (Vr ho hd (x:=.ref t) rfl ?_);show wpAny _ _ (if (Value.ref t==Value.none)=true then _ else _) _ _ s;rw[Vy (show ¬((Value.ref t==Value.none)=true) from ax)];show wpAny _ _ (field (.ref it) 1>>=_) _ _ s;refine wpAny_bind (Vr ho hd (x:=.int i 0) rfl ?_);show wpAny _ _ (seqItems? (.ref t)>>=_) _ _ s;refine wpAny_bind (Vs hol hdl ?_);simp only[ku,hx];refine wpAny_bind (Vt ho hd (by simp) (Va ⟨x,rfl,Va (hQ _ ?_ (ja ..))⟩));exact⟨_,df _ ho (Obj.isFreed_of_fields (Obj.data_mapFields hd _)),(Obj.cls_mapFields ..).trans hc,by rw[Obj.data_mapFields hd];simp[rawInt]⟩
def BB{it t:Addr}{i:Nat}{items}{Q:Value->Shared->Prop}(hh:A.handled=none)(hit:s.heap.IsTupleIter it t i)(ht:s.heap.IsTuple t items)(hx:items[i]? = none)
  (hE:∀h' e,Heap.ExtBut it s.heap h'->(∃o,h'.get? e=some o/\o.cls=.type "StopIteration")->E (.ref e) { s with heap:=h' }):wpAny (model prog w) A (Builtin.SmallTypes.nextOf (.ref it)) Q E s:=by
 obtain⟨o,ho,hc,hd⟩:=id hit;obtain⟨ol,hol,_,nl,hdl⟩:=ht;unfold Builtin.SmallTypes.nextOf;refine wpAny_bind (wpAny_callSpecial?_slot (name:=Str.ofString "__next__") hit.typeIs eT (Vk eT hit.typeIs jj ?_ (j5 _)));show wpAny _ _ (field (.ref it) 0>>=_) _ _ s;refine wpAny_bind (Vr ho hd (x:=.ref t) rfl ?_);show wpAny _ _ (if (Value.ref t==Value.none)=true then _ else _) _ _ s;rw[Vy (show ¬((Value.ref t==Value.none)=true) from ax)];show wpAny _ _ (field (.ref it) 1>>=_) _ _ s;refine wpAny_bind (Vr ho hd (x:=.int i 0) rfl ?_);show wpAny _ _ (seqItems? (.ref t)>>=_) _ _ s;refine wpAny_bind (Vs hol hdl ?_);simp only[ku,hx];refine wpAny_bind (wpAny_rule (wpAny_bind (Vt ho hd (by simp) ?_)));show wpAny _ _ (newExc (.type "StopIteration") []>>=_) _ _ _;refine wpAny_bind ?_;simp only[newExc,newTuple];refine wpAny_bind (Vi ?_ (by size_fits));refine wpAny_bind (m:=firstArgMember _ _) (wpAny_of_eq (a:=Value.none) (by first | rfl | (simp only[firstArgMember];rfl)) ?_);refine Vi ?_ (by size_fits);simp only[raiseNew];refine wpAny_bind (wpAny_handled ?_);first | rw[show A.in1.handled=none from hh] | rw[hh]
 refine wpAny_bind (Va (wpAny_throw ?_));exact hE _ _ (((ja ..).extBut.push _).push _) ⟨_,aN _ rfl,rfl⟩
def Draws.tup(hh:A.handled=none)(it t:Addr)(hne:t≠it)(items:Array Value):Draws prog w A it [it,t] items.size (λi v=>items[i]? = some v) (λi h=>h.IsTupleIter it t i/\h.IsTuple t items) where
 live:=λ_ _ st=>let ⟨o,ho,_⟩:=st.1;⟨o,ho⟩
 frame:=λ_ _ _ st hk=>by
  obtain⟨st1,o,ho,r⟩:=st;exact⟨st1.at λo e=>hk it (by simp) o e,o,hk t (by simp) o ho,r⟩
 item:=λi s Q E hi st hQ=>yc st.1 st.2 (x:=items[i]) (by simp[hi]) λh' hit' hs'=>hQ _ h' s.toks (by simp[hi]) ⟨hit',st.2.extBut hs'.extBut hne⟩ hs'
 done:=λs Q E st hE=>BB hh st.1 st.2 (by simp) hE
end
section
variable {X:Cx} {pins:List (Addr×Obj)} {σ:St} {H:Hp} {s:Shared} {h':Heap}
def bY.turnAll{fp:List Addr}{t':Nat}(I:bY X pins σ H s)(hf:∀b∈fp,ji X pins H b)(k:∀b u,b∉fp->s.heap.get? b=some u->h'.get? b=some u):bY X pins σ H { s with heap:=h',toks:=t' }:=by
 have nfp:∀b u,H b=some u->b∉fp:=λb u e z=>by rw[(hf b z).1] at e;cases e
 refine I.step (g':=s.gens) (d':=s.drawn) (ch:=fp) (λb hb=>?_) (λb o _ _ hc e _=>k b o hc e) (λb o _ _ hc e _=>⟨o.slots,k b o hc e⟩) (λ_ _ _ _ n=>n)
  (λb o hc e=>⟨o,k b o hc e⟩) (λ_ _ e=>e) (λ_ _ _ e=>e) (λb ps e=>⟨#[],by rw[e];simp⟩) (λm hm=>?_) (λb u e=>?_) I.bare
 ·obtain⟨_,f1,_,f3,f4,f5⟩:=hf b hb;exact⟨f3,f1,f4,f5⟩
 ·obtain⟨ob,es,ep,ho,r⟩:=hm;exact⟨ob,es,ep,k _ ob (λz=>(hf _ z).2.1 rfl) ho,r⟩
 ·refine(I.hok b u e).stay (λc v hc q=>k c v ?_ q) (λ_ q=>q) λ_ _ q=>q;rcases hc with z | z
  ·rw[z];exact nfp b u e
  ·exact nfp c _ z
end
def LX(K:WG)(a:Addr):It:=
 ⟨λi H=>∃xs x,c8 K H a xs/\xs[i]? = some x,λi H v H'=>∃p x,H p=none/\(∀xs,c8 K H a xs->xs[i]? = some x)/\v=.ref p/\H'=bE H p (.tup [.int i,x]),λi H=>∃xs,c8 K H a xs/\xs.length=i⟩
def Jd(K:WG)(ta:TA):TI:=λσ H R=>ta σ H λvs H1=>∃a,vs=[.ref a]/\(∃xs,c8 K H1 a xs)/\R (LX K a) H1
def MI(K:WG)(a b:Addr):It:=
  ⟨λi H=>∃xs ys x y,cW K H a xs/\cW K H b ys/\xs[i]? = some x/\ys[i]? = some y,
   λi H v H'=>∃p x y,H p=none/\(∀xs,cW K H a xs->xs[i]? = some x)/\(∀ys,cW K H b ys->ys[i]? = some y)/\v=.ref p/\H'=bE H p (.tup [x,y]),
   λi H=>∃xs ys,cW K H a xs/\cW K H b ys/\(xs.length<=i\/ys.length<=i)⟩
def LK(K:WG)(ta:TA):TI:=λσ H R=>ta σ H λvs H1=>∃a b,vs=[.ref a,.ref b]/\(∃xs,cW K H1 a xs)/\(∃ys,cW K H1 b ys)/\R (MI K a b) H1
end L2
namespace L2
open PySem PySem.Spec PyProof.Rows HT
def Cq(K:WG):R2:=λx y H Q=>∃a b xs ys,x=.ref a/\y=.ref b/\c8 K H a xs/\c8 K H b ys/\xs.length+ys.length<=sizeLine ∧
 (xs=[]->Q (.ref b) H)/\(xs≠[]->(ys=[]->Q (.ref a) H)/\(ys≠[]->∀p,H p=none->Q (.ref p) (bE H p (.tup (xs++ys)))))
def DZ{X:Cx}:mV X (binaryOp .Add) (Cq X.K):=by
 intro pins s σ H x y v u Q I rx ry h;obtain⟨a,b,xs,ys,rfl,rfl,ha,hb,hz,q1,q2⟩:=h;by_cases hx:xs=[]
 ·cases rx;cases ry;obtain⟨its,r1,p1,_⟩:=I.tuple ha;obtain⟨its2,r2,p2,_⟩:=I.tuple hb;obtain⟨⟨cls,dd,data,sl⟩,ho,hc,n,hd⟩:=id p1;obtain⟨⟨cls2,dd2,data2,sl2⟩,ho2,hc2,n2,hd2⟩:=id p2;simp only at hc hd hc2 hd2;subst hc hd hc2 hd2;exact concat_meets ⟨_,ho,rfl⟩ ⟨_,ho2,rfl⟩ noFill_tuple_add seq_tuple_add i5 iS (h7 _ _)
   (tuple_addW0 a b its.toArray its2.toArray n n2 dd dd2 sl sl2 (by simp[r1.nil_iff.mpr hx])) ⟨ho,ho2,.ref b,H,I,rfl,q1 hx⟩
 ·exact FX pins s σ H (.ref a) (.ref b) v u Q I rx ry ⟨a,b,xs,ys,rfl,rfl,ha,hb,hx,hz,(q2 hx).1,(q2 hx).2⟩
def GH{K:WG}{H:Hp}{Q:VK}{a b:Addr}{xs ys:List V}(ha:H a=some (.tup xs))(hb:H b=some (.tup ys))(hz:xs.length+ys.length<=1000)(q:∀p H',aV H H'->H' p=some (.tup (xs++ys))->Q (.ref p) H'):Cq K (.ref a) (.ref b) H Q:=by
 refine⟨a,b,xs,ys,rfl,rfl,c8.of ha,c8.of hb,ah (aq hz),λe=>?_,λ_=>⟨λe=>?_,λ_ p hp=>?_⟩⟩
 ·exact q b H (aV.refl _) (by rw[hb,e];rfl)
 ·exact q a H (aV.refl _) (by rw[ha,e,cY])
 ·exact q p _ ((aV.refl H).new hp) aC
section
variable {σ:St} {H:Hp} {D:Ends} {K:WG}
def zO{ta:TA}{g:TG}{tb:TS}:rK (Jd K ta) g tb D σ H=ta σ H λvs H1=>∃a,vs=[.ref a]/\(∃xs,c8 K H1 a xs)/\qJ (LX K a) g tb D σ H1:=rfl
def zR{k:Nat}{caps:List Nat}{ta:TA}{g:TG}{tf:TT}{te:TE}{Q:VK}:pG k caps (LK K ta) g tf te σ H Q=ta σ H λvs H1=>∃a b,vs=[.ref a,.ref b]/\(∃xs,cW K H1 a xs)/\(∃ys,cW K H1 b ys)/\ie (MI K a b) g tf te Q (iR k caps σ) H1:=rfl
end
end L2
namespace Rm
open PySem L2 PyProof.Rows
def qN(ns:List Int)(s c:Nat):List Int:=((ns.take c).drop s).map (· - (s:Int))
def fK{α β:Type}{R T:α->β->Prop}(f:∀a b,R a b->T a b):∀{xs:List α} {ys:List β},Paired R xs ys->Paired T xs ys
 | _,_,.nil=>.nil
 | _,_,.cons r t=>.cons (f _ _ r) (fK f t)
def sY{α β:Type}{R:α->β->Prop}:∀{xs:List α} {ys:List β},Paired R xs ys->xs.length=ys.length
 | _,_,.nil=>rfl
 | _,_,.cons _ t=>congrArg (·+1) (sY t)
def iy{α β:Type}{R:α->β->Prop}:∀{xs:List α} {ys:List β},Paired R xs ys->∀{i:Nat} {x:α},xs[i]? = some x->∃y,ys[i]? = some y/\R x y
 | _,_,.nil,i,x,h=>by simp at h
 | _,_,.cons r t,0,x,h=>by simp at h;subst h;exact⟨_,rfl,r⟩
 | _,_,.cons r t,i+1,x,h=>iy t (by simpa using h)
def Cg(n k:Nat):cF 1 (n+k)=cF 1 n++(cF 1 k).map ((n:Int)+·):=by
 unfold cF;rw[List.range_add,ar,bS,bS];congr 1;apply bd;intro x _;simp only[Function.comp];lia
def cN(n:Nat)(ms:List Int):List Int:=ms.map ((n:Int)+·)
def MV{K:WG}{H:Hp}{a b o1 o2:Addr}{s t:Bool}{ms ns:List Int}{Q:VK}(ha:dj H a o1 s ms)(hb:dj H b o2 t ns)(q:Q (.bl (decide (s=t)&&decide (ms=ns))) H):yM K false (.ref a) (.ref b) H Q:=by
 refine⟨.tuple [.str (sd s),.tuple (ms.map PyData.int)],.tuple [.str (sd t),.tuple (ns.map PyData.int)],.tup (c8.of ha.1) (.cons (.str _) (.cons (.tup (c8.of ha.2) (ints_rep ms)) .nil)),.tup (c8.of hb.1) (.cons (.str _) (.cons (.tup (c8.of hb.2) (ints_rep ns)) .nil)),?_,?_,?_,?_⟩
 ·show (PyData.canLay0 (.str (sd s))&&(PyData.canLayAll0 (ms.map PyData.int)&&true))=true;rw[fZ];cases s<;>decide +kernel
 ·show (PyData.canLay0 (.str (sd t))&&(PyData.canLayAll0 (ns.map PyData.int)&&true))=true;rw[fZ];cases t<;>decide +kernel
 ·refine cH (Nat.min_le_left _ _) ?_;show max 0 (max (PyData.depthAll (ms.map PyData.int)+1) 0)+1<=60;rw[li];decide
 ·show Q (.bl (PyData.eqv (.str (sd s)) (.str (sd t))&&(PyData.eqvAll (ms.map PyData.int) (ns.map PyData.int)&&true))) H;rw[pc,Bool.and_true];have e:PyData.eqv (.str (sd s)) (.str (sd t))=decide (s=t):=by cases s<;>cases t<;>decide +kernel
  rw[e];exact q
def zd(K:WG):Sp:=λvs H Q _=>∃(a:Addr) (ns:List Int) (k:Nat),vs=[.ref a,.int k]/\cW K H a (ns.map V.int)/\∀v:Int,Q (.int v) H
def xv:Sp:=λvs H Q _=>∃(c:Int) (n:Nat),vs=[.int c,.int n]/\n<=60/\∀(l:Addr) (ds:List Int) (H':Hp),H l=none->aV H H'->H' l=some (.lst (ds.map V.int))->ds.length=n->Q (.ref l) H'
def wH:Sp:=λvs H Q _=>∃(c:Int) (n:Nat),vs=[.int c,.int n]/\n<=60/\∀(l:Addr) (ns:List Int) (H':Hp),H l=none->aV H H'->H' l=some (.tup (ns.map V.int))->ns.length=n->ns.Perm (cF 1 n)->Q (.ref l) H'
end Rm
namespace L2
open PySem PySem.Spec PyProof.Rows
def DV{P:Program}{w:World}{K:WG}{mg:Str->Option Value}{base:Heap}{N:List Str}{qual:Str}{scope:Scope}{f:Addr}{cd:Value}{A:Around}{outer:List Env}{s0:Shared}{H0:Hp}{E:XK}:
  tR (qL P w) (jU (qL P w) P w K mg base N qual scope f cd A outer s0 H0 E) E:=by
 intro pins σ H s e s' I hc;generalize hX:jU (qL P w) P w K mg base N qual scope f cd A outer s0 H0 E=X at I hc ⊢;have hst:X.stack=X.env::X.outer:=by rw[<-hX];rfl
 have hfr:X.env.frame=some X.env.locals:=by rw[<-hX];rfl
 have hxe:X.xe=λe s'=>wpAny (model X.prog X.w) X.A (leaving X.env e) (λ_ s''=>qL X.prog X.w X.outer X.H₀ X.s₀ E e s'') (λe' s''=>qL X.prog X.w X.outer X.H₀ X.s₀ E e' s'') s':=by rw[<-hX];rfl
 have hex:X.ex=[]:=by rw[<-hX];rfl
 have hP:X.prog=P:=by rw[<-hX];rfl
 have hw:X.w=w:=by rw[<-hX];rfl
 have hfs:kX X.stack=X.env.locals::X.fs:=by rw[hst];unfold kX;rw[dA,hfr];rfl
 clear hX;subst hP hw;rw[hxe];obtain⟨a,C,t,H',B,dO,rfl,os,bare,un,hok,f1,cov,ct,hE⟩:=hc;refine iE (eK.leave (e:=a)) ct ?_;refine wpAny_leaves_onW (base:=B) (outer:=X.outer) (L:=X.env.locals) (by rw[I.ok.frames,hst]) hfr (hst▸f1) λh2 f4 up ct2=>?_;have lt0:∀b o,X.s₀.heap.get? b=some o->b≠X.env.locals:=λb o e1=>am (aW (aR e1) I.ok.above);have out:∀b o,X.s₀.heap.get? b=some o->b∉X.fs->b∉kX X.stack:=λb o e1 e2 z=>by
  rw[hfs] at z;exact(aL.mp z).elim (lt0 b o e1) e2
 have mem:∀b,b∈X.fs->b∈kX X.stack:=λb m=>by rw[hfs];exact aM _ m
 have same:∀b o ob,B.get? b=some ob->s'.heap.get? b=some o->h2.get? b=some o:=λb o ob e e1=>by
  have e2:=f1.1 b ob e;rw[e1] at e2;cases e2;exact f4.1 b o e
 have fr:∀b o,s'.heap.get? b=some o->b∈kX X.stack->∃sl,h2.get? b=some { o with slots:=sl }:=λb o e m=>by
  obtain⟨_,o1,e1,nf⟩:=f1.2.2.1.mem m;rw[e] at e1;cases e1;exact up b o e nf
 have u:=I.base;rw[hex] at u;refine⟨a,C,t,H',B,dO,rfl,os.trans I.os,bare,⟨λb o e1 e2 e3 e4=>?_,λb o e1 e2 e3 e4=>?_,λb o e1 e2 e4=>?_,λb o e1 e2=>?_,λb xs e1=>?_,λb o v e1=>?_,λb ps e1=>?_⟩,λb o e1=>?_,f4,⟨λb o e1 e2=>?_,cov.trk⟩,ct2,hE⟩
 ·have k1:=u.keep b o e1 e2 e3 e4;have n1:=out b o e1 e3;have k2:=un.keep b o k1 (u.free b o e1 e2 e4) n1 (by simp);obtain⟨ob,q⟩:=cov.old b o k1 n1;exact same b o ob q k2
 ·obtain⟨sl,q⟩:=u.slot b o e1 e2 e3 e4;obtain⟨sl1,q1⟩:=un.slot b _ q (u.free b o e1 e2 e4) (mem b e3) (by simp);obtain⟨sl2,q2⟩:=fr b _ q1 (mem b e3);exact⟨sl2,q2⟩
 ·obtain⟨o',q⟩:=u.there b o e1 e4;exact un.free b o' q (u.free b o e1 e2 e4) (by simp)
 ·obtain⟨o',q⟩:=u.there b o e1 e2;obtain⟨o2,q2⟩:=un.there b o' q (by simp);by_cases m:b∈kX X.stack
  ·obtain⟨sl,q'⟩:=fr b o2 q2 m;exact⟨_,q'⟩
  ·obtain⟨ob,q'⟩:=cov.old b o' q m;exact⟨_,f4.1 b ob q'⟩
 ·exact un.tups b xs (u.tups b xs e1)
 ·exact un.frzs b o v (u.frzs b o v e1)
 ·obtain⟨m1,q1⟩:=u.tbls b ps e1;obtain⟨m2,q2⟩:=un.tbls b _ q1;exact⟨m1++m2,by rw[q2,Array.append_assoc]⟩
 ·refine(hok b o e1).stay (λc v hc q=>?_) (λ_ q=>q) λ_ _ q=>q;obtain⟨ob,q'⟩:∃ob,B.get? c=some ob:=by
   rcases hc with r | r
   ·rw[r];exact cov.trk b o e1
   ·exact cov.trk c _ r
  exact same c v ob q' q
 ·obtain⟨o',q⟩:=u.there b o e1 (by simp);exact cov.old b o' q (out b o e1 e2)
section
variable {P:Program} {w:World} {K:WG} {mg:Str->Option Value} {base:Heap} {N:List Str} {qual:Str} {scope:Scope} {f:Addr} {cd:Value} {A:Around} {outer:List Env} {s0:Shared} {H0:Hp} {E:XK}
def og{k:Nat}{x:Str}{st:Stmt}{ps:List Str}{sp:Sp}{e:Expr}{es:List Expr}{t:TA}{p pos:Pos}(D:k6 P w K mg base k x st ps sp)(hr:gE k (jU (qL P w) P w K mg base N qual scope f cd A outer s0 H0 E).A)(hg:Gl (jU (qL P w) P w K mg base N qual scope f cd A outer s0 H0 E) x)
  (ha:QA (jU (qL P w) P w K mg base N qual scope f cd A outer s0 H0 E) (e::es) t) (hdb:(x==("__debug__":Str))=false:=by decide)
  (he:starEach (e::es) (jU (qL P w) P w K mg base N qual scope f cd A outer s0 H0 E).env=(false,eval e (jU (qL P w) P w K mg base N qual scope f cd A outer s0 H0 E).env)::starEach es (jU (qL P w) P w K mg base N qual scope f cd A outer s0 H0 E).env:=by rfl)
  (hpl:(backTo pos (starEach es (jU (qL P w) P w K mg base N qual scope f cd A outer s0 H0 E).env)).any (·.1)=false:=by rfl) :
  QE (jU (qL P w) P w K mg base N qual scope f cd A outer s0 H0 E) (.Call (.Name x p) (e::es) [] pos) (oQ sp [] E t):=by
 obtain⟨g,fd,F,m,b,G⟩:=D.ex;exact⟨vW (X:=jU (qL P w) P w K mg base N qual scope f cd A outer s0 H0 E) G hr hg m F.kp b .nil DV ha.h hdb he hpl⟩
end
end L2
namespace L2
open PySem
def E9{td ty tx:TE}{σ:St}{H:Hp}{Q:VK}:IF td ty tx σ H Q=td σ H λx H1=>∃a,x=.ref a/\MY H1 a/\ty σ H1 λy H2=>tx σ H2 λz H3=>∃o,j6 H3 a y o/\Q (o.getD z) H3:=rfl
end L2
namespace Rm
open PySem L2 PyProof.Rows
abbrev HP:=List (Key×V)
def MJ(kvs:HP)(n:Nat)(L:Nat->Nat):Prop:=∀x:Nat,x<n->d6 kvs (.inl (x:Int))=some (.int (L x:Nat))
def LI:PyData->Nat
 | .str z=>z.length
 | _=>0
def rJ(d e:PyData):Bool:=lg d&&(lg e&&decide (LI d=LI e))
def G0(bs:List Bool):PyData:=.str (wd bs)
def Bh{bs:List Bool}(b:rh bs)(h:bs.length<=40):lg (G0 bs)=true:=Do b h
def Ht{bs cs:List Bool}(b:rh bs)(c:rh cs)(h:bs.length<=40)(e:cs.length=bs.length):rJ (G0 bs) (G0 cs)=true:=by
 unfold rJ;rw[Bh b h,Bh c (by lia)];show (true&&(true&&decide ((wd bs).length=(wd cs).length)))=true;rw[dM,dM,e];simp
def C0(C:Addr):Sp:=λvs H Q E=>∃x y d e,vs=[x,y]/\Dat H x d/\qF d/\Dat H y e/\qF e/\((rJ d e=true/\Q (.bl true) H)\/(rJ d e=false/\E (.ref C) none H))
def l6:Sp:=λvs H Q _=>∃bs,vs=[.str (wd bs)]/\rh bs/\bs.length<=40/\∀d kvs H',H d=none->aV H H'->H' d=some (.dK kvs)->MJ kvs bs.length (mtF bs)->Q (.ref d) H'
def wN{n:Nat}{l:List Nat}(h:l.Nodup)(k:∀x∈l,x<n):l.length<=n:=by
 refine Nat.le_of_not_lt λhlt=>?_;have:=(kd h (m:=List.range n) (λx hx=>cQ.mpr (k x hx)) (by simp;lia)).length_eq;simp at this;lia
def gq(L R:Nat->Nat)(e:Nat):Nat->Nat
 | 0=>e
 | i+1=>R (L (gq L R e i))
def my(L R:Nat->Nat)(e:Nat):Nat->List Nat
 | 0=>[]
 | i+1=>my L R e i++[gq L R e i]++[L (gq L R e i)]
def jS{L R:Nat->Nat}{e x:Nat}:∀{i:Nat},x∈my L R e i<->∃j,j<i/\(x=gq L R e j\/x=L (gq L R e j))
 | 0=>by simp[my]
 | i+1=>by
  rw[my,a9,a9,jS,bc,bc];constructor
  ·rintro ((⟨j,hj,h⟩ | h) | h)
   ·exact⟨j,by lia,h⟩
   ·exact⟨i,by lia,.inl h⟩
   ·exact⟨i,by lia,.inr h⟩
  ·rintro⟨j,hj,h⟩;by_cases e:j=i
   ·subst e;exact h.elim (λh=>.inl (.inr h)) .inr
   ·exact .inl (.inl ⟨j,by lia,h⟩)
def vQ{L R:Nat->Nat}{e:Nat}:∀i,(my L R e i).length=2*i
 | 0=>rfl
 | i+1=>by rw[my,aU,aU,vQ i];simp;lia
def p8{n:Nat}{L R:Nat->Nat}{e:Nat}(PL:vm n L)(PR:vm n R)(h:e<n):∀i,gq L R e i<n
 | 0=>h
 | i+1=>PR.lt _ (PL.lt _ (p8 PL PR h i))
def Inj(L R:Nat->Nat)(e i:Nat):Prop:=∀j k,j<i->k<i->gq L R e j=gq L R e k->j=k
def Inj.next{n:Nat}{L R:Nat->Nat}{e i:Nat}(PL:vm n L)(PR:vm n R)(h:e<n)(J:Inj L R e i)(hc:i=0\/gq L R e i≠e):Inj L R e (i+1):=by
 have back:∀j,0<j->j<i->gq L R e i=gq L R e j->False:=λj h0 hj q=>by
  obtain⟨j',rfl⟩:∃j',j=j'+1:=⟨j - 1,by lia⟩
  obtain⟨i',rfl⟩:∃i',i=i'+1:=⟨i - 1,by lia⟩
  have l1:=p8 (R:=R) PL PR h i';have l2:=p8 (R:=R) PL PR h j';have q':R (L (gq L R e i'))=R (L (gq L R e j')):=q;have q2:=congrArg R q';rw[PR.inv _ (PL.lt _ l1),PR.inv _ (PL.lt _ l2)] at q2;have q3:=congrArg L q2;rw[PL.inv _ l1,PL.inv _ l2] at q3;have:=J i' j' (by lia) (by lia) q3;lia
 have top:∀j,j<i->gq L R e i=gq L R e j->False:=λj hj q=>by
  by_cases z:j=0
  ·subst z;rcases hc with c | c
   ·lia
   ·exact c q
  ·exact back j (by lia) hj q
 intro j k hj hk q;by_cases ej:j=i<;>by_cases ek:k=i
 ·lia
 ·subst ej;exact(top k (by lia) q).elim
 ·subst ek;exact(top j (by lia) q.symm).elim
 ·exact J j k (by lia) (by lia) q
def Inj.le{n:Nat}{L R:Nat->Nat}{e i:Nat}(PL:vm n L)(PR:vm n R)(h:e<n)(J:Inj L R e i):i<=n:=by
 have nd:((List.range i).map (gq L R e)).Nodup:=by
  rw[List.Nodup,dt];refine(mw.mp (jD (n:=i))).imp fun {a b} hab q=>?_;exact hab.2.2 (J a b (cQ.mp hab.1) (cQ.mp hab.2.1) q)
 have:=wN nd λx hx=>by
  obtain⟨j,_,rfl⟩:=bM.mp hx;exact p8 PL PR h j
 simpa using this
structure LP (n:Nat) (L R:Nat->Nat) (e:Nat) (r:List Nat):Prop where
 head:e∈r
 inn:∀ x∈r,x<n/\L x∈r/\R x∈r
 one:∀ f:Nat->Int,(∀ x,x<n->f (L x)=f x/\f (R x)=f x)->∀ x∈r,f x=f e
 len:r.length<=80
 per:∃ i,r=my L R e i/\0<i/\Inj L R e i/\gq L R e i=e
def Cj{n:Nat}{L R:Nat->Nat}{e i:Nat}(PL:vm n L)(PR:vm n R)(h:e<n)(J:Inj L R e i)(n40:n<=40)(h0:0<i)(hc:gq L R e i=e):LP n L R e (my L R e i):=by
 have lt:=λj=>p8 (R:=R) PL PR h j;refine⟨jS.mpr ⟨0,h0,.inl rfl⟩,λx hx=>?_,λf hf x hx=>?_,by rw[vQ];have:=J.le PL PR h;lia,i,rfl,h0,J,hc⟩
 ·obtain⟨j,hj,e1⟩:=jS.mp hx;have nxt:R (L (gq L R e j))∈my L R e i:=by
   by_cases c:j+1<i
   ·exact jS.mpr ⟨j+1,c,.inl rfl⟩
   ·have:j+1=i:=by lia
    have q:gq L R e (j+1)=e:=by rw[this];exact hc
    exact jS.mpr ⟨0,h0,.inl q⟩
  rcases e1 with rfl | rfl
  ·refine⟨lt j,jS.mpr ⟨j,hj,.inr rfl⟩,?_⟩;by_cases z:j=0
   ·subst z;obtain⟨i',rfl⟩:∃i',i=i'+1:=⟨i - 1,by lia⟩
    have q:R (L (gq L R e i'))=e:=hc;refine jS.mpr ⟨i',by lia,.inr ?_⟩;show R e=_;have q2:=congrArg R q;rw[PR.inv _ (PL.lt _ (lt i'))] at q2;exact q2.symm
   ·obtain⟨j',rfl⟩:∃j',j=j'+1:=⟨j - 1,by lia⟩
    refine jS.mpr ⟨j',by lia,.inr ?_⟩;show R (R (L (gq L R e j')))=_;rw[PR.inv _ (PL.lt _ (lt j'))]
  ·refine⟨PL.lt _ (lt j),jS.mpr ⟨j,hj,.inl (PL.inv _ (lt j))⟩,nxt⟩
 ·have base:∀j,f (gq L R e j)=f e:=by
   intro j
   induction j with
   | zero=>rfl
   | succ j ih=>
    show f (R (L (gq L R e j)))=f e;rw[(hf _ (PL.lt _ (lt j))).2,(hf _ (lt j)).1,ih]
  obtain⟨j,hj,rfl | rfl⟩:=jS.mp hx
  ·exact base j
  ·rw[(hf _ (lt j)).1];exact base j
def hV(r:List Nat):List V:=r.map λx:Nat=>V.int x
def zZ:Sp:=λvs H Q _=>∃(e:Nat) (d1 d2:Addr) (k1 k2:HP) (n:Nat) (L R:Nat->Nat),vs=[.int e,.ref d1,.ref d2]/\H d1=some (.dK k1)/\H d2=some (.dK k2)/\MJ k1 n L/\MJ k2 n R/\vm n L/\vm n R/\n<=40/\e<n ∧
 ∀l r H',H l=none->aV H H'->H' l=some (.lst (hV r))->LP n L R e r->Q (.ref l) H'
structure Bb (n:Nat) (L R:Nat->Nat) (i:Nat) (rs:List (List Nat)) (met:Nat->Prop):Prop where
 rn:LO n L R rs
 mt:∀ x,met x<->∃ r∈rs,x∈r
 upto:∀ x,x<i->met x
 len:rs.length<=i
def Bb.start{n:Nat}{L R:Nat->Nat}:Bb n L R 0 [] (λ_=>False):=⟨⟨(λr h=>nomatch h),(λf _ r h=>nomatch h),.nil,(λr h=>nomatch h)⟩,λx=>by simp,λx h=>by lia,aJ _⟩
def Bb.skip{n:Nat}{L R:Nat->Nat}{i:Nat}{rs:List (List Nat)}{met:Nat->Prop}(h:Bb n L R i rs met)(hm:met i):Bb n L R (i+1) rs met:=
 ⟨h.rn,h.mt,λx hx=>by
  by_cases e:x=i
  ·rw[e];exact hm
  ·exact h.upto x (by lia),by have:=h.len;lia⟩
def Bb.add{n:Nat}{L R:Nat->Nat}{i:Nat}{rs:List (List Nat)}{met:Nat->Prop}{r:List Nat}(h:Bb n L R i rs met)(PL:vm n L)(PR:vm n R)(hm:¬met i)(X:LP n L R i r):Bb n L R (i+1) (rs++[r]) (λx=>met x\/x∈r):=by
 have ap:∀s∈rs,∀x∈s,x∉r:=λs hs x hx hr=>by
  have open_:∀y,y<n->(y∈s<->L y∈s)/\(y∈s<->R y∈s):=λy hy=>by
   refine⟨⟨λz=>(h.rn.inn s hs y z).2.1,λz=>?_⟩,⟨λz=>(h.rn.inn s hs y z).2.2,λz=>?_⟩⟩
   ·have:=(h.rn.inn s hs _ z).2.1;rwa [PL.inv y hy] at this
   ·have:=(h.rn.inn s hs _ z).2.2;rwa [PR.inv y hy] at this
  have q:=X.one (λy=>if y∈s then 1 else 0) (λy hy=>by
   obtain⟨a,b⟩:=open_ y hy;constructor
   ·by_cases c:y∈s
    ·simp[c,a.mp c]
    ·have:L y∉s:=λz=>c (a.mpr z);simp[c,this]
   ·by_cases c:y∈s
    ·simp[c,b.mp c]
    ·have:R y∉s:=λz=>c (b.mpr z);simp[c,this]) x hr
  have:i∈s:=by
   by_cases c:i∈s
   ·exact c
   ·simp[hx,c] at q
  exact hm ((h.mt i).mpr ⟨s,hs,this⟩)
 refine⟨⟨λs hs=>?_,λf hf s hs x hx y hy=>?_,?_,λs hs=>?_⟩,λx=>?_,λx hx=>?_,by rw[aU];have:=h.len;simp;lia⟩
 ·rcases a9.mp hs with hs | hs
  ·exact h.rn.inn s hs
  ·rw[bc] at hs;subst hs;exact X.inn
 ·rcases a9.mp hs with hs | hs
  ·exact h.rn.one f hf s hs x hx y hy
  ·rw[bc] at hs;subst hs;rw[X.one f hf x hx,X.one f hf y hy]
 ·rw[dq];refine⟨h.rn.apart,List.pairwise_singleton _ _,λs hs t ht=>?_⟩;rw[bc] at ht;subst ht;exact ap s hs
 ·rcases a9.mp hs with hs | hs
  ·exact h.rn.ne s hs
  ·rw[bc] at hs;subst hs;intro e;have:=X.head;rw[e] at this;cases this
 ·constructor
  ·rintro (z | z)
   ·obtain⟨s,hs,hx⟩:=(h.mt x).mp z;exact⟨s,bH _ hs,hx⟩
   ·exact⟨r,by simp,z⟩
  ·rintro⟨s,hs,hx⟩;rcases a9.mp hs with hs | hs
   ·exact .inl ((h.mt x).mpr ⟨s,hs,hx⟩)
   ·rw[bc] at hs;subst hs;exact .inr hx
 ·by_cases e:x=i
  ·rw[e];exact .inr X.head
  ·exact .inl (h.upto x (by lia))
structure GP (bs cs:List Bool):Prop where
 bal:rh bs
 balR:rh cs
 len:bs.length<=40
 eq:cs.length=bs.length
end Rm
namespace L2
open PySem PySem.Spec PyProof.Rows
def Lp:V->Option Int->Option Int->Hp->VK->Prop:=λx lo hi H Q=>∃z,x=.str z/\z.length<=sizeLine/\Q (.str (Txt.slice z lo hi)) H
section
def KW{z:Str}{lo hi:Option Int}{H:Hp}{Q:VK}:Lp (.str z) lo hi H Q=(z.length<=sizeLine/\Q (.str (Txt.slice z lo hi)) H):=
 propext ⟨λ⟨_,e,h⟩=>by cases e;exact h,λh=>⟨z,rfl,h⟩⟩
end
end L2
namespace Rm
open PySem L2
def wo(H:Hp)(m:Addr):Hp:=λb=>if b=m then none else H b
def E2(H:Hp)(m:Addr):aV (wo H m) H:=λb o e=>by
 unfold wo at e;by_cases h:b=m
 ·rw[Vz h] at e;cases e
 ·rw[Vy h] at e;exact e
def HR{H:Hp}{m t:Addr}{o:HO}(h:H t=none):aV (wo H m) (wo (bE H t o) m):=λb u e=>by
 have e':=E2 H m b u e;unfold wo at e ⊢;by_cases hb:b=m
 ·rw[Vz hb] at e;cases e
 ·rw[Vy hb,aI (av e' h)];exact e'
def KP{H:Hp}{m t:Addr}{u:HO}(h:t≠m)(e:H t=some u):wo H m t=some u:=by unfold wo;rw[Vy h];exact e
structure View where
 φ:Hp->Hp
 ok:Hp->Prop
 new:∀ {H t o},ok H->H t=none->ok (bE H t o)/\aV (φ H) (φ (bE H t o))/\φ (bE H t o) t=some o
def View.all:View:=⟨id,λ_=>True,λ_ h=>⟨trivial,(aV.refl _).new h,aC⟩⟩
def View.but(m:Addr):View:=⟨λH=>wo H m,λH=>∃o,H m=some o,fun {H t o} ⟨u,hu⟩ h=>⟨⟨u,by rw[aI (av hu h)];exact hu⟩,HR h,KP (av hu h).symm aC⟩⟩
structure DE (w:View) (σ:St) (H0:Hp) (te:TE) (d:PyData):Prop where
 run:∀ (H:Hp) (Q:VK),w.ok H->aV H0 H->aV (w.φ H0) (w.φ H)->(∀ x H',w.ok H'->aV H H'->aV (w.φ H) (w.φ H')->Dat (w.φ H') x d->Q x H')->te σ H Q
structure DA (w:View) (σ:St) (H0:Hp) (ta:TA) (ds:List PyData):Prop where
 run:∀ (H:Hp) (Q:List V->Hp->Prop),w.ok H->aV H0 H->aV (w.φ H0) (w.φ H)->(∀ xs H',w.ok H'->aV H H'->aV (w.φ H) (w.φ H')->gS (w.φ H') xs ds->Q xs H')->ta σ H Q
section
variable {w:View} {σ:St} {H0:Hp}
def DE.int(n:Int):DE w σ H0 (tC (.int n)) (.int n):=⟨λH Q o _ _ q=>q _ H o (aV.refl _) (aV.refl _) (.int n)⟩
def DE.bl(b:Bool):DE w σ H0 (tC (.bl b)) (.bool b):=⟨λH Q o _ _ q=>q _ H o (aV.refl _) (aV.refl _) (.bl b)⟩
def DE.str(z:Str):DE w σ H0 (tC (.str z)) (.str z):=⟨λH Q o _ _ q=>q _ H o (aV.refl _) (aV.refl _) (.str z)⟩
def DE.non:DE w σ H0 (tC .non) .none:=⟨λH Q o _ _ q=>q _ H o (aV.refl _) (aV.refl _) .non⟩
def DA.nil:DA w σ H0 Ef []:=⟨λH Q o _ _ q=>q _ H o (aV.refl _) (aV.refl _) .nil⟩
def DA.cons{te:TE}{ta:TA}{d:PyData}{ds:List PyData}(h:DE w σ H0 te d)(t:DA w σ H0 ta ds):DA w σ H0 (fL te ta) (d::ds):=⟨λH Q o s s' q=>
 h.run H _ o s s' λx H1 o1 u1 v1 d1=>t.run H1 _ o1 (s.trans u1) (s'.trans v1) λxs H2 o2 u2 v2 d2=>q _ H2 o2 (u1.trans u2) (v1.trans v2) (.cons (d1.same v2) d2)⟩
def DE.tup{ta:TA}{ds:List PyData}(h:DA w σ H0 ta ds)(hl:ds.length<=1000):DE w σ H0 (Ed ta) (.tuple ds):=⟨λH Q o s s' q=>
 h.run H _ o s s' λxs H1 o1 u1 v1 d1=>⟨ah (aq (by rw[d1.len];exact hl)),λp np=>by
  obtain⟨a,b,c⟩:=w.new (o:=.tup xs) o1 np;exact q _ _ a (u1.new (u1.free np)) (v1.trans b) (.tup c (d1.same b))⟩⟩
def DE.lst{ta:TA}{ds:List PyData}(h:DA w σ H0 ta ds)(hl:ds.length<=1000):DE w σ H0 (CS ta) (.list ds):=⟨λH Q o s s' q=>
 h.run H _ o s s' λxs H1 o1 u1 v1 d1=>⟨ah (aq (by rw[d1.len];exact hl)),λp np=>by
  obtain⟨a,b,c⟩:=w.new (o:=.lst xs) o1 np;exact q _ _ a (u1.new (u1.free np)) (v1.trans b) (.lst c (d1.same b))⟩⟩
end
def Fy{H:Hp}{xs:List V}{ds:List PyData}{i:Int}(h:gS H xs ds)(h0:0<=i)(h1:i<ds.length):∃v d,tS xs i=some v/\d∈ds/\Dat H v d:=by
 have hi:i.toNat<xs.length:=by rw[h.len];lia
 obtain⟨d,hd,hv⟩:=h.get (aS hi);refine⟨_,d,?_,bG hd,hv⟩;have:=jN (xs:=xs) (j:=i.toNat) (aS hi)
 rwa [gv h0] at this
def Jp{te:TE}{g:TG}{D:Ends}{σ:St}{H:Hp}(h:te σ H λx H1=>g x σ H1 λσ2 H2=>D.nx σ2 H2):wC te g D σ H:=h
def J3{w:View}{σ:St}{H:Hp}{ta:TA}{Q:VK}{ds:List PyData}(de:DA w σ H ta ds)(hl:ds.length<=1000)(ok:w.ok H)(k:∀p xs H',w.ok H'->aV H H'->aV (w.φ H) (w.φ H')->w.φ H' p=some (.lst xs)->gS (w.φ H') xs ds->Q (.ref p) H'):CS ta σ H Q:=
 (DE.lst de hl).run H Q ok (aV.refl _) (aV.refl _) λx H' o s s' hd=>by
  cases hd with
  | lst g hL=>exact k _ _ H' o s s' g hL
end Rm
namespace Rm
open PySem L2 PyProof.Rows
section
variable {σ:L2.St} {H0:Hp}
abbrev D1 (σ:L2.St) (H0:Hp) (te:TE) (d:PyData):Prop:=DE View.all σ H0 te d
abbrev D2 (σ:L2.St) (H0:Hp) (ta:TA) (ds:List PyData):Prop:=DA View.all σ H0 ta ds
end
end Rm
namespace L2
open PySem PySem.Spec PyProof.Rows
def sq{prog:Program}{w:World}{A:Around}{E:Value->Shared->Prop}{s:Shared}{it l hx:Addr}{i:Nat}{items:Array Value}{Q:Option Value->Shared->Prop}{dO:Option Addr}(hh:A.handled=some (.ref hx))(hc:xj dO hx s.heap)
  (hit:s.heap.IsListIter it l i) (hl:s.heap.IsList l items) (hx0:items[i]? = none) (hne:hx≠it) (hQ:∀h',Heap.ExtBut it s.heap h'->Q none { s with heap:=h' }):wpAny (model prog w) A (pyNext (.ref it)) Q E s:=by
 obtain⟨oi,hoi,hci,hdi⟩:=id hit;obtain⟨ol,hol,_,nl,hdl⟩:=hl;unfold pyNext;refine wpAny_bind (Vm (wpAny_callSpecial?_slot (name:=Str.ofString "__next__") hit.typeIs slot_listiter_next (Vk slot_listiter_next hit.typeIs entry_listiter_next ?_ (args_listiter_next _))));show wpAny _ _ (field (.ref it) 0>>=_) _ _ s;refine wpAny_bind (Vr hoi hdi (x:=.ref l) rfl ?_);show wpAny _ _ (if (Value.ref l==Value.none)=true then _ else _) _ _ s;rw[Vy (show ¬((Value.ref l==Value.none)=true) from ax)];show wpAny _ _ (field (.ref it) 1>>=_) _ _ s;refine wpAny_bind (Vr hoi hdi (x:=.int i 0) rfl ?_);show wpAny _ _ (seqItems? (.ref l)>>=_) _ _ s;refine wpAny_bind (Vs hol hdl ?_);simp only[ku,hx0];refine wpAny_bind (wpAny_rule (wpAny_bind (Vt hoi hdi (by simp) ?_)));generalize hg:s.heap.update it _=g;have sb:Heap.SameBut it s.heap g:=by rw[<-hg];exact ja ..
 show wpAny (model prog w) A.in1 (Bind.bind (newExc (Value.type "StopIteration") []) raiseNew) _ _ _;refine wpAny_bind ?_;show wpAny (model prog w) A.in1 (Bind.bind (newTuple []) _) _ _ _;refine wpAny_bind (Vi (wpAny_bind (wpAny_of_eq (Eq.refl (firstArgMember (Value.type "StopIteration") [])) (Vi ?_))));dsimp only;generalize hh1:(g.push _).push _=h1;unfold raiseNew;refine wpAny_bind (wpAny_handled ?_);rw[show A.in1.handled=some (.ref hx) from hh];dsimp only;obtain⟨o,vs,e1,⟨_,e2⟩,e3⟩:=hc;have e1g:g.get? hx=some o:=(sb.2 hx hne).trans e1;have lt:=aR e1g;have sz:(g.push { cls:=Value.type "tuple",data:=Data.seq #[] }).objs.size=g.objs.size+1:=ck _ _;rw[sz];have nx:hx≠g.objs.size+1:=am (dC lt);have k1:∀b u,g.get? b=some u->h1.get? b=some u:=λb u q=>by
  rw[<-hh1];exact aB _ (aB _ q)
 have new1:∃ob ws,h1.get? (g.objs.size+1)=some ob/\ob.data=.fields ws/\2<ws.size/\ob.cls=.type "StopIteration":=by
  rw[<-hh1,<-sz];exact⟨_,_,aN _ rfl,rfl,by rw[Array.size_append];exact aW (show 2<6 by decide) (Nat.le_add_right _ _),rfl⟩
 obtain⟨ob,ws,n1,n2,n3,n4⟩:=new1;rw[Vz (by simp[nx])];refine wpAny_bind (V7 (runValue_entry tU ?_));show wpAny _ _ (Bind.bind (field (Value.ref hx) 2) _) _ _ _;refine wpAny_bind (Vr (k1 _ _ e1g) e2 e3 ?_);rw[Vz (show (Value.none==Value.none)=true from rfl)];refine Va ⟨_,rfl,?_⟩;show wpAny _ _ (Bind.bind (setField (Value.ref (g.objs.size+1)) 2 (Value.ref hx)) _) _ _ _;refine wpAny_bind (Vt n1 n2 n3 (wpAny_throw ?_));have up:=df (Obj.mapFields λz=>z.setIfInBounds 2 (Value.ref hx)) n1 (by obtain⟨c,d,da,sl⟩:=ob;cases n2;rfl);refine wpAny_bind (wpAny_isInstance (T:="StopIteration") ⟨_,up,by obtain⟨c,d,da,sl⟩:=ob;cases n2;exact n4⟩ isSubtype_stop (Va (hQ _ λb o hb q=>?_)));have qg:g.get? b=some o:=(sb.2 b hb).trans q;have ne:b≠g.objs.size+1:=am (dC (aR qg));exact i9 _ (gg ne) (k1 b o qg)
structure ET (P : Program) (w : World) (K : WG) (hx : Addr) (tg : Expr) (J : It) (fp : List Addr) (it : Addr) (tn : Nat → Heap → Prop) : Prop where
  mem : it ∈ fp
  obj : ∀ i h, tn i h → ∀ b ∈ fp, ∃ o, h.get? b = some o ∧ ∀ v, o.data ≠ .cell v
  keep : ∀ i h h', tn i h → (∀ b ∈ fp, ∀ o, h.get? b = some o → h'.get? b = some o) → tn i h'
  item : ∀ (X : Cx), X.prog = P → X.w = w → X.K = K → X.A.handled = some (.ref hx) → ∀ (i : Nat) (pins : List (Addr × Obj)) (s : Shared) (σ : St) (H : Hp) (E : Value → Shared → Prop), bY X pins σ H s → (∀ b ∈ fp, ji X pins H b) → tn i s.heap → J.go i H →
    wpAny (model P w) X.A (pyNext (.ref it)) (fun r s1 => ∃ u, r = some u ∧ wpAny (model P w) X.A (letOwnedTupleGo tg (.ref it) u) (fun _ s2 => ∃ x H', bY X pins σ H' s2 ∧ RelV x u ∧ J.yld i H x H' ∧ tn (i + 1) s2.heap ∧ ∀ b ∈ fp, H' b = none) E s1) E s
  done : ∀ (X : Cx), X.prog = P → X.w = w → X.K = K → X.A.handled = some (.ref hx) → ∀ (i : Nat) (pins : List (Addr × Obj)) (s : Shared) (σ : St) (H : Hp) (E : Value → Shared → Prop), bY X pins σ H s → (∀ b ∈ fp, ji X pins H b) → tn i s.heap → J.stop i H →
    wpAny (model P w) X.A (pyNext (.ref it)) (fun r s1 => r = none ∧ bY X pins σ H s1) E s
  self : ∀ (A : Around) (i : Nat) (s : Shared) (Q : Value → Shared → Prop) (E : Value → Shared → Prop), tn i s.heap → Q (.ref it) s → wpAny (model P w) A (pyIter (.ref it)) Q E s
def GV(K:WG)(a hx:Addr):It:=
 ⟨λi H=>∃xs x,cW K H a xs/\xs[i]? = some x,λi H x H'=>H'=H/\∀xs,cW K H a xs->xs[i]? = some x,λi H=>(∃xs,cW K H a xs/\xs.length<=i)/\∃C dO,H hx=some (nO dO C hx)⟩
def xp {P : Program} {w : World} {K : WG} {tg : Expr} (a it hx : Addr) : ET P w K hx tg (GV K a hx) [it] it (fun i h => h.IsListIter it a i) where
  mem := (lC (P := P) (w := w) (K := K) (tg := tg) a it).mem
  obj := (lC (P := P) (w := w) (K := K) (tg := tg) a it).obj
  keep := (lC (P := P) (w := w) (K := K) (tg := tg) a it).keep
  item := by
    intro X hP hw hK hc i pins s σ H E I hf st hg
    subst hP hw hK
    obtain ⟨xs, x, hq, hx⟩ := hg
    obtain ⟨its, rv, p, hz⟩ := I.list hq
    obtain ⟨u, hu, ru⟩ := rv.get hx
    obtain ⟨f0, f1, f2, f3, f4, f5⟩ := hf it (by simp)
    refine wpAny_pyNext_list_item st p.isList (x := u) (by simpa using hu) fun h' st' sb => ?_
    have I1 : bY X pins σ H { s with heap := h' } := I.turned (t' := s.toks) (fun b o hb e => (sb.2 b hb).trans e) f0 f1 f3 f4 f5
    obtain ⟨o, e, c, d⟩ := id st'
    exact ⟨u, rfl, xG (s := { s with heap := h' }) e c d (by decide) ⟨x, H, I1, ru, ⟨rfl, fun ys hy => by rw [I.list_inj hy hq]; exact hx⟩, st', fun b hb => (hf b hb).1⟩⟩
  done := by
    intro X hP hw hK hc i pins s σ H E I hf st hg
    subst hP hw hK
    obtain ⟨⟨xs, hq, hx0⟩, C, dO, hC⟩ := hg
    obtain ⟨its, rv, p, hz⟩ := I.list hq
    obtain ⟨f0, f1, f2, f3, f4, f5⟩ := hf it (by simp)
    have hl := rv.length
    have ex := I.hok hx _ hC
    exact sq hc ex.1.2 st p.isList (by simp; lia) (fun z => by subst z; rw [f0] at hC; cases hC) fun h' eb => ⟨rfl, I.turned (t' := s.toks) (fun b o hb e => eb b o hb e) f0 f1 f3 f4 f5⟩
  self := (lC (P := P) (w := w) (K := K) (tg := tg) a it).self
section
variable {X:Cx} {pins:List (Addr×Obj)} {σ:St} {H:Hp} {s:Shared}
def BV{hx:Addr}{own ns:List Str}{caps:List Nat}{elt tg iter:Expr}{ifs:List Expr}{scope:Scope}{pos:Pos}{it:Addr}{fp:List Addr}{tn:Nat->Heap->Prop}{J:It}{g:TG}{tf:TT}{te:TE}{Q:VK}{E:Value->Shared->Prop}{RR:Value->Addr->Result->Shared->Prop}
  (hc:X.A.handled=some (.ref hx)) (S:mL scope ns) (cp:mK X scope ns caps)
  (hg:∀C s H fp pn,PG (qf X (own++ns) scope C s H fp pn) tg g) (ht:∀C s H fp pn,PF (qf X (own++ns) scope C s H fp pn) ifs tf) (he:∀C s H fp pn,PE (qf X (own++ns) scope C s H fp pn) elt te)
  (I:bY X pins σ H s) (T:ET X.prog X.w X.K hx tg J fp it tn) (st:tn 0 s.heap) (hf:∀b∈fp,ji X pins H b) (hJ:ie J g tf te Q (iR own.length caps σ) H)
  (fin:∀D C m s' H' ys,D≠C->s'.heap.Ns C m->ji X pins (bE H' D (.lst ys)) C->bY X pins σ (bE H' D (.lst ys)) s'->Q (.ref D) (bE H' D (.lst ys))->RR (.ref D) C (.ok .next) s') :
  wpAny (model X.prog X.w) X.A (newList []) (λacc s₃=>wpAny (model X.prog X.w) X.A (newFunctionEnv scope X.env.globals (kZ X.env scope.names []) [] X.env.qual none .none (some X.env)) (λcenv s₄=>
   codeAny (model X.prog X.w) X.A (.compStart (.ListComp elt [⟨tg,iter,ifs,0⟩] scope pos) 0 (.ref it) acc { cenv with scope:=relabel scope X.env }) (RR acc cenv.locals) s₄) E s₃) E s:=by
 refine Vi (wpAny_newFunctionEnv S.nocell (by intro y hy;simp at hy) (λh₁ hns₁ hsb₁=>?_) S.kind);dsimp only at hns₁ hsb₁ ⊢;generalize hH2:s.heap.push { cls:=.type "list",dict:=none,data:=.seq ([]:List Value).toArray }=H2 at hns₁ hsb₁ ⊢;have hC:H2.objs.size=s.heap.objs.size+1:=by rw[<-hH2,ck]
 have hDC:s.heap.objs.size≠H2.objs.size:=by rw[hC];exact am (gj _)
 have hCle:s.heap.objs.size<=H2.objs.size:=by rw[hC];exact fG _
 have old:∀b o,s.heap.get? b=some o->h₁.get? b=some o:=λb o e=>hsb₁.extBut b o (by rw[hC];exact am (dC (aR e))) (aB _ (hH2▸aB _ e));have hacc:h₁.PlainList s.heap.objs.size #[]:=⟨_,hsb₁.extBut _ _ hDC (aB _ (hH2▸aN _ rfl))⟩
 have hfl:∀b∈fp,b<s.heap.objs.size:=λb hb=>by obtain⟨o,e,_⟩:=T.obj _ _ st b hb;exact aR e
 generalize hD:s.heap.objs.size=D at hDC hacc ⊢;generalize hCe:H2.objs.size=C at hns₁ hsb₁ hDC hCle hC ⊢;have hDle:s.heap.objs.size<=D:=by rw[hD];exact aJ _
 have hCle':s.heap.objs.size<=C:=by rw[hD];rw[hD] at hCle;exact hCle
 have I₁:bY (qf X (own++ns) scope C s H fp (X.pn++pins)) [] (iR own.length caps σ) H { s with heap:=h₁,toks:=s.toks+([]:List (Str×Value)).length }:=
  tI I S cp hf hfl hCle' rfl rfl old hns₁
 have st₁:tn 0 h₁:=T.keep _ _ _ st λb _ o e=>old b o e;generalize hY:qf X (own++ns) scope C s H fp (X.pn++pins)=Y at I₁;have hgY:PG Y tg g:=hY▸hg C s H fp (X.pn++pins);have htY:PF Y ifs tf:=hY▸ht C s H fp (X.pn++pins);have heY:PE Y elt te:=hY▸he C s H fp (X.pn++pins);have yP:Y.prog=X.prog:=by rw[<-hY];rfl
 have yW:Y.w=X.w:=by rw[<-hY];rfl
 have yK:Y.K=X.K:=by rw[<-hY];rfl
 have yA:Y.A=X.A:=by rw[<-hY];rfl
 have yC:Y.A.handled=some (.ref hx):=by rw[<-hY];exact hc
 have yE:Y.env=compEnvC scope (kZ X.env scope.names []) C X.env:=by rw[<-hY];rfl
 have yX:Y.xe=λ_ _=>False:=by rw[<-hY];rfl
 have yF:Y.fs=kX X.stack:=by rw[<-hY];rfl
 have yQ:Y.pn=X.pn++pins:=by rw[<-hY];rfl
 have yI:Y.ex=fp:=by rw[<-hY];rfl
 have yS:Y.s₀=s:=by rw[<-hY];rfl
 have yH:Y.H₀=H:=by rw[<-hY];rfl
 have cells:∀x c,Y.env.cells.lookup x=some c->X.env.cells.lookup x=some c:=λx c e=>by
  rw[yE] at e;rcases kh (λy hy hfr=>I.ok.has y.1 (cp.mem (S.frees y hy hfr))) (show (kZ X.env scope.names []).lookup x=some c from e) with z | z
  ·simp at z
  ·exact z
 have nst:∀b,b≠X.env.locals->b∉X.fs->b∉Y.fs:=λb h1 h2 z=>by
  rw[yF] at z;exact(aL.mp (I.stkSub b z)).elim h1 h2
 have fpY:∀{H':Hp},(∀b∈fp,H' b=none)->∀b∈fp,ji Y [] H' b:=fun {H'} hn b hb=>by
  obtain⟨f0,f1,f2,f3,f4,f5⟩:=hf b hb;refine⟨hn b hb,?_,nst b f1 f2,.inl (by rw[yI];exact hb),λx c e=>f4 x c (cells x c e),λp hp=>f5 p (by simpa [yQ] using hp)⟩;rw[yE];exact am (aW (hfl b hb) hCle')
 have fpD:∀{H':Hp},H' D=none->ji Y [] H' D:=fun {H'} hn=>by
  obtain⟨f0,f1,f2,f3,f4,f5⟩:=I.fpOk (H':=H') hDle hn;refine⟨hn,by rw[yE];exact hDC,nst D f1 f2,.inr (by rw[yS];exact hDle),λx c e=>f4 x c (cells x c e),λp hp=>f5 p (by simpa [yQ] using hp)⟩
 have hDf:D∉fp:=λz=>dk _ (aW (hfl D z) hDle);have objD:∀{h:Heap} {us:List Value},h.PlainList D us.toArray->∃o,h.get? D=some o/\∀v,o.data≠.cell v:=fun {h us} ⟨n,e⟩=>⟨_,e,λv z=>by cases z⟩
 have noErr:∀{α:Type} {t:Sem α} {Qt:α->Shared->Prop} {sx:Shared} {E':Value->Shared->Prop},wpAny (model Y.prog Y.w) Y.A t Qt Y.xe sx->wpAny (model X.prog X.w) X.A t Qt E' sx:=fun {α t Qt sx E'} h=>by
  rw[yP,yW,yA,yX] at h;exact wpAny_mono h (λ_ _ q=>q) λ_ _ f=>f.elim
 obtain⟨W,⟨m0,w0⟩,turn⟩:=hJ;have TY:ET Y.prog Y.w Y.K hx tg J fp it tn:=by rw[yP,yW,yK];exact T
 have loop:∀s₃:Shared,s₃={ s with heap:=h₁,toks:=s.toks+([]:List (Str×Value)).length } →
   codeAny (model X.prog X.w) X.A (.compLoop (.ListComp elt [⟨tg,iter,ifs,0⟩] scope pos) 0 (.ref it) (.ref D) (compEnvC scope (kZ X.env scope.names []) C X.env)) (RR (.ref D) C) s₃:=by
  rintro s₃ rfl;refine oW (λn s'=>∃i ys us σ' H',bY Y [] σ' H' s'/\tn i s'.heap/\(∀b∈fp,H' b=none)/\H' D=none/\s'.heap.PlainList D us.toArray/\cE ys us/\W i n ys σ' H') ?_ m0
   ⟨0,[],[],_,H,I₁,st₁,λb hb=>(hf b hb).1,I.hok.fresh hDle,hacc,.nil,w0⟩
  rintro n s3 ⟨i,ys,us,σ3,H3,I3,st3,fr3,hD3,Gy,v3,w3⟩;have fD3:∀b∈[D],ji Y [] H3 b:=λb hb=>by
   have e:b=D:=by simpa using hb
   subst e;exact fpD hD3
  have I3':bY Y ([]++iY [D] s3.heap) σ3 H3 s3:=I3.pinned fD3 λb hb=>by
   have e:b=D:=by simpa using hb
   subst e;exact objD Gy
  rw[eh] at I3';have fpY':∀{H':Hp},(∀b∈fp,H' b=none)->∀b∈fp,ji Y (iY [D] s3.heap) H' b:=fun {H'} hn b hb=>by
   obtain⟨f0,f1,f2,f3,f4,f5⟩:=fpY hn b hb;refine⟨f0,f1,f2,f3,f4,λp hp=>?_⟩;rcases a9.mp hp with z | z
   ·exact f5 p (by simpa using z)
   ·have e:p.1=D:=by simpa using (qW z).1
    exact λq=>hDf (by rw[<-e,q];exact hb)
  obtain⟨oD,eD,cD⟩:=objD Gy;have keepD:∀{σ':St} {H':Hp} {s':Shared} {pl:List (Addr×Obj)},bY Y (iY [D] s3.heap++pl) σ' H' s'->s'.heap.PlainList D us.toArray/\H' D=none:=fun {σ' H' s' pl} I'=>by
   have:=I'.pin (D,oD) (ay _ (bH _ (gO (by simp) eD)));refine⟨?_,this.2.1⟩;obtain⟨k,e⟩:=Gy;rw[e] at eD;cases eD;exact⟨k,this.1⟩
  rcases turn i n ys σ3 H3 w3 with ⟨stop,hlen,qn⟩ | ⟨go,hlen,step⟩
  ·refine noErr (dZ (TY.done Y rfl rfl rfl yC i _ s3 σ3 H3 Y.xe I3' (fpY' fr3) st3 stop) λr s4 ⟨hr,I4⟩=>?_);subst hr;obtain⟨pl4,hD4⟩:=keepD (pl:=[]) (by rw[cY];exact I4);have hun:Un (kX X.stack) fp H H3 s.heap s4.heap:=by have:=I4.base;rw[yF,yI,yS,yH] at this;exact this
   have hok:nW X.prog X.w H3 s4.heap:=by have:=I4.hok;rw[yP,yW] at this;exact this
   obtain⟨m4,hn4,_⟩:=I4.loc;rw[yE] at hn4;have hC4:H3 C=none:=by have:=I4.free;rw[yE] at this;exact this
   have ne:∀b u,H3 b=some u->b≠D:=λb u e z=>by rw[z,hD4] at e;cases e
   refine fin D C m4 s4 H3 ys hDC hn4 (I.fpOk hCle' (by rw[aI (gg hDC)];exact hC4)) (I.call' (ch:=fp) ?_ ?_ ?_ I4.bare ?_) (qn D hD4)
   ·have:=I4.os;rw[yS] at this;exact this
   ·exact⟨hun.keep,hun.slot,λb o e n hx=>by rw[aI (λz=>by rw[z] at e;exact absurd (aR e) (Nat.not_lt.mpr hDle))];exact hun.free b o e n hx,hun.there,
     λb xs e=>by have:=hun.tups b xs e;rw[aI (ne _ _ this)];exact this,λb o u e=>by have:=hun.frzs b o u e;rw[aI (ne _ _ this)];exact this,
     λb ps e=>by obtain⟨more,q⟩:=hun.tbls b ps e;exact⟨more,by rw[aI (ne _ _ q)];exact q⟩⟩
   ·intro b u e;by_cases hb:b=D
    ·subst hb;rw[aC] at e;cases e;obtain⟨k,e4⟩:=pl4;exact⟨hlen,us,k,v3,e4⟩
    ·rw[aI hb] at e;exact(hok b u e).stay (λc v _ q=>q) (λc q=>by rw[aI (ne _ _ q)];exact q) λc xs q=>by rw[aI (ne _ _ q)];exact q
   ·intro b hb;obtain⟨f0,f1,f2,f3,f4,f5⟩:=hf b hb;exact⟨f3,f1,f4,f5⟩
  ·refine noErr (dZ (TY.item Y rfl rfl rfl yC i _ s3 σ3 H3 Y.xe I3' (fpY' fr3) st3 go) λr s4 ⟨u,hr,h4⟩=>?_);subst hr;refine noErr (dZ h4 λ_ s5 ⟨x,H5,I5,r5,y5,st5,fr5⟩=>?_);have I5':=I5.pinned (fpY' fr5) (T.obj _ _ st5);rw[<-yE];refine noErr (dZ (hgY _ s5 σ3 H5 x u _ I5' r5 (step x H5 y5)) λ_ s6 ⟨σ6,H6,I6,q6⟩=>?_);refine noErr (dZ (htY _ s6 σ6 H6 _ I6 q6) λok s7 ⟨H7,I7,q7⟩=>?_);have fpK:∀{σ':St} {H':Hp} {s':Shared},bY Y (iY [D] s3.heap++iY fp s5.heap) σ' H' s'->tn (i+1) s'.heap/\∀b∈fp,H' b=none:=fun {σ' H' s'} I'=>
    ⟨T.keep _ _ _ st5 λb hb o e=>(I'.pin (b,o) (ay _ (ay _ (gO hb e)))).1,λb hb=>by
     obtain⟨o,e,_⟩:=T.obj _ _ st5 b hb;exact(I'.pin (b,o) (ay _ (ay _ (gO hb e)))).2.1⟩
   cases ok with
   | false=>
    rw[Vy ax] at q7 ⊢;obtain⟨m',hm,w7⟩:=q7;obtain⟨pl7,hD7⟩:=keepD I7;obtain⟨st7,fr7⟩:=fpK I7;exact⟨m',hm,i+1,ys,us,σ6,H7,I7.pins_of (λp hp=>nomatch hp),st7,fr7,hD7,pl7,v3,w7⟩
   | true=>
    rw[Vz rfl] at q7 ⊢;refine noErr (dZ (heY _ s7 σ6 H7 _ I7 q7) λy s8 ⟨yv,H8,I8,r8,m',hm,w8⟩=>?_);obtain⟨pl8,hD8⟩:=keepD I8;obtain⟨st8,fr8⟩:=fpK I8;have hul:us.length=ys.length:=v3.length.symm;refine wpAny_list_append_plain (hsz:=by rw[aT,hul];exact ah hlen) pl8 λh9 pl9 sb9=>?_;obtain⟨d0,d1,d2,d3,d4,d5⟩:=fpD hD8;refine⟨m',hm,i+1,ys++[yv],us++[y],σ6,H8,?_,?_,fr8,hD8,by simpa using pl9,v3.append (.cons r8 .nil),w8⟩
    ·exact(I8.pins_of (pins':=[]) λp hp=>nomatch hp).turned (t':=s8.toks) (λb o hb e=>(sb9.2 b hb).trans e) hD8 d1 d3 d4 d5
    ·exact T.keep _ _ _ st8 λb hb o e=>(sb9.2 b (λz=>hDf (z▸hb))).trans e
 exact codeAny_compStart_list (loop _ rfl) (T.self _ 0 _ _ _ st₁ (loop _ rfl))
def CY(hx:Addr)(K:WG)(k:Nat)(caps:List Nat)(tl:TE)(g:TG)(tf:TT)(te:TE):TE:=λσ H Q=>tl σ H λx H1=>∃a,x=.ref a/\(∃xs,cW K H1 a xs)/\ie (GV K a hx) g tf te Q (iR k caps σ) H1
def Ea{hx:Addr}{K:WG}{k:Nat}{caps:List Nat}{tl:TE}{g:TG}{tf:TT}{te:TE}{σ:St}{H:Hp}{Q:VK}:CY hx K k caps tl g tf te σ H Q=tl σ H λx H1=>∃a,x=.ref a/\(∃xs,cW K H1 a xs)/\ie (GV K a hx) g tf te Q (iR k caps σ) H1:=rfl
def Ae{hx:Addr}{own ns:List Str}{caps:List Nat}{elt tg iter:Expr}{ifs:List Expr}{scope:Scope}{pos:Pos}{tl:TE}{g:TG}{tf:TT}{te:TE}(hc:X.A.handled=some (.ref hx))(S:mL scope ns)(cp:mK X scope ns caps)(hi:QE X iter tl)
  (hg:∀C s H fp pn,QG (qf X (own++ns) scope C s H fp pn) tg g) (ht:∀C s H fp pn,QF (qf X (own++ns) scope C s H fp pn) ifs tf) (he:∀C s H fp pn,QE (qf X (own++ns) scope C s H fp pn) elt te)
  (hs:∀x,foldedSetIterable iter X.env x=pure x:=by intro _;rfl):QE X (.ListComp elt [⟨tg,iter,ifs,0⟩] scope pos) (CY hx X.K own.length caps tl g tf te):=⟨by
 intro pins s σ H Q I h;rw[eval_ListComp];refine wpAny_comprehension_free (use:=none) rfl hs (cp.cl I S) S.kind S.names (dZ (hi.h pins s σ H _ I h) λv s1 ⟨x,H1,I1,r1,a,e,⟨xs,hq⟩,hJ⟩=>?_);subst e;cases r1;obtain⟨its,rv,p,hz⟩:=I1.list hq;refine Vb p.isList ?_;have I2:bY X pins σ H1 { s1 with heap:=s1.heap.push { cls:=.type "list_iterator",data:=.fields #[.ref a,.int 0 0] } }:=I1.kept (t':=s1.toks) λb o e=>aB _ e;have f2:∀b∈[s1.heap.objs.size],ji X pins H1 b:=λb hb=>by
  have e:b=s1.heap.objs.size:=by simpa using hb
  subst e;exact I1.fpOk (aJ _) (I1.hok.fresh (aJ _))
 refine BV hc S cp (λC s H fp pn=>(hg C s H fp pn).h) (λC s H fp pn=>(ht C s H fp pn).h) (λC s H fp pn=>(he C s H fp pn).h) I2 (xp a s1.heap.objs.size hx) ⟨_,aN _ rfl,rfl,rfl⟩ f2 hJ (RR:=λacc C=>compPost (model X.prog X.w) X.A X.xe none (EP X pins σ Q) acc C) λD C m s' H' ys hDC hn fC I' q=>?_;refine⟨m,hn,λh' hs'=>⟨.ref D,_,?_,rfl,q⟩⟩;obtain⟨f0,f1,f2,f3,f4,f5⟩:=fC;exact I'.turned (t':=s'.toks) (λb o hb e=>(hs'.2 b hb).trans e) f0 f1 f3 f4 f5⟩
end
def yy{K:WG}{a hx:Addr}{H:Hp}{Q:VK}{ts:List Bool}{C:Addr}{dO:Option Addr}(ha:cW K H a (ts.map V.bl))(hC:H hx=some (nO dO C hx))(hsz:ts.length<=1000)(q:∀p,H p=none->Q (.ref p) (bE H p (.lst ((ts.filter (·=true)).map V.bl)))):
  ie (GV K a hx) (mR 0) (tB (uw 0)) (uw 0) Q [none] H:=by
 have eL:(ts.map V.bl).length=ts.length:=aD ..;refine pp ts.length (ah (aq hsz)) (λi ys σ H'=>H'=H/\ys=((ts.take i).filter (·=true)).map V.bl/\∃x,σ=[x]) ⟨rfl,by simp,_,rfl⟩ ?_ ?_ ?_ ?_ ?_
 ·rintro i ys σ H' ⟨rfl,rfl,_⟩;rw[aD];exact cH (mi _ _) (by rw[cZ];lia)
 ·rintro i ys σ H' hi ⟨rfl,_,_⟩;exact⟨_,(ts.map V.bl)[i]'(by rw[eL];exact hi),ha,aS _⟩
 ·rintro ys σ H' ⟨rfl,_,_⟩;exact⟨⟨_,ha,by rw[eL];exact aJ _⟩,C,dO,hC⟩
 ·rintro i ys σ H' x H2 N hi ⟨rfl,rfl,x0,rfl⟩ ⟨rfl,hy⟩ hN;obtain⟨b,hb,rfl⟩:=rZ (hy _ ha);have et:ts.take (i+1)=ts.take i++[b]:=by rw[bV,hb];rfl
  show ∃v,[some (V.bl b)][0]? = some (some v)/\_;refine⟨_,rfl,b,rfl,?_⟩;cases b with
  | true=>
   rw[Vz rfl];exact⟨_,rfl,hN _ _ _ ⟨rfl,by rw[et,iK];simp,_,rfl⟩⟩
  | false=>
   rw[Vy (λz=>nomatch z)];exact hN _ _ _ ⟨rfl,by rw[et,iK];simp,_,rfl⟩
 ·rintro ys σ H' p ⟨rfl,rfl,_⟩ hp;rw[cB];exact q p hp
end L2
namespace Rm
open PySem L2 PyProof.Rows
structure GT (L R:Nat->Nat) (e i:Nat):Prop where
 pos:0<i
 inj:Inj L R e i
 back:gq L R e i=e
def GT.uniq{L R:Nat->Nat}{e i j:Nat}(h:GT L R e i)(k:GT L R e j):i=j:=by
 have a:∀{i j},GT L R e i->GT L R e j->¬i<j:=fun {i j} h k hlt=>by
  have:=k.inj i 0 hlt k.pos h.back;have:=h.pos;lia
 have:=a h k;have:=a k h;lia
open Classical in
noncomputable def perF (L R:Nat->Nat) (e:Nat):Nat:=if h:∃i,GT L R e i then h.choose else 0
def zo{L R:Nat->Nat}{e i:Nat}(h:GT L R e i):perF L R e=i:=by
 unfold perF;have hx:∃i,GT L R e i:=⟨i,h⟩
 rw[dif_pos hx];exact hx.choose_spec.uniq h
noncomputable def rdF (L R:Nat->Nat) (e:Nat):List Nat:=my L R e (perF L R e)
def LP.is{n:Nat}{L R:Nat->Nat}{e:Nat}{r:List Nat}(X:LP n L R e r):r=rdF L R e:=by
 obtain⟨i,hr,h0,J,hc⟩:=X.per;rw[hr,rdF,zo ⟨h0,J,hc⟩]
open Classical in
noncomputable def rsF (L R:Nat->Nat):Nat->List (List Nat)
 | 0=>[]
 | i+1=>if ∃r∈rsF L R i,i∈r then rsF L R i else rsF L R i++[rdF L R i]
def sR{L R:Nat->Nat}{i:Nat}(h:∃r∈rsF L R i,i∈r):rsF L R (i+1)=rsF L R i:=by rw[rsF,Vz h]
def vM{L R:Nat->Nat}{i:Nat}(h:¬∃r∈rsF L R i,i∈r):rsF L R (i+1)=rsF L R i++[rdF L R i]:=by rw[rsF,Vy h]
def xb(n:Nat)(L:Nat->Nat):Prop:=∀x,x<n->L x≠x
def Dg{bs:List Bool}(b:rh bs):xb bs.length (mtF bs):=λx hx e=>by
 rcases su b hx with h | h
 ·have:=h.lt;lia
 ·have:=h.lt;lia
def Fp{n:Nat}{L R:Nat->Nat}{e:Nat}(PL:vm n L)(PR:vm n R)(NL:xb n L)(NR:xb n R)(h:e<n):∀(d i j:Nat),i-j<=d->j<=i->gq L R e i≠L (gq L R e j):=by
 have lt:=λk=>p8 (R:=R) PL PR h k;intro d
 induction d using Nat.strongRecOn with
 | ind d ih=>
  intro i j hd hji q;by_cases z:i=j
  ·subst z;exact NL _ (lt i) q.symm
  ·obtain⟨i',rfl⟩:∃i',i=i'+1:=⟨i - 1,by lia⟩
   have q':R (L (gq L R e i'))=L (gq L R e j):=q;have q2:=congrArg R q';rw[PR.inv _ (PL.lt _ (lt i'))] at q2;by_cases z2:i'=j
   ·subst z2;rw[q'] at q2;exact NR _ (PL.lt _ (lt i')) (by rw[q'])
   ·have q3:L (gq L R e i')=gq L R e (j+1):=q2;have q4:=congrArg L q3;rw[PL.inv _ (lt i')] at q4;exact ih (i' - (j+1)) (by lia) i' (j+1) (aJ _) (by lia) q4
def HF{n:Nat}{L R:Nat->Nat}{e i:Nat}(PL:vm n L)(PR:vm n R)(NL:xb n L)(NR:xb n R)(h:e<n)(J:Inj L R e i):gq L R e i∈my L R e i<->(0<i/\gq L R e i=e):=by
 constructor
 ·intro hm;obtain⟨j,hj,q | q⟩:=jS.mp hm
  ·refine⟨by lia,?_⟩;by_cases z:gq L R e i=e
   ·exact z
   ·have:=(J.next PL PR h (.inr z)) i j (by lia) (by lia) q;lia
  ·exact absurd q (Fp PL PR NL NR h _ i j (aJ _) (by lia))
 ·rintro⟨h0,hc⟩;exact jS.mpr ⟨0,h0,.inl hc⟩
def J8{n:Nat}{L R:Nat->Nat}{e:Nat}{rs:List (List Nat)}(PL:vm n L)(PR:vm n R)(X:LO n L R rs)(h:e<n)(hm:¬∃r∈rs,e∈r):∀i,(¬∃r∈rs,gq L R e i∈r)/\¬∃r∈rs,L (gq L R e i)∈r:=by
 have lt:=λk=>p8 (R:=R) PL PR h k;have stepL:∀x,x<n->(¬∃r∈rs,x∈r)->¬∃r∈rs,L x∈r:=λx hx hn ⟨r,hr,hy⟩=>hn ⟨r,hr,by have:=(X.inn r hr _ hy).2.1;rwa [PL.inv x hx] at this⟩;have stepR:∀x,x<n->(¬∃r∈rs,x∈r)->¬∃r∈rs,R x∈r:=λx hx hn ⟨r,hr,hy⟩=>hn ⟨r,hr,by have:=(X.inn r hr _ hy).2.2;rwa [PR.inv x hx] at this⟩;intro i
 induction i with
 | zero=>exact⟨hm,stepL _ h hm⟩
 | succ i ih=>
  have a:¬∃r∈rs,gq L R e (i+1)∈r:=stepR _ (PL.lt _ (lt i)) ih.2;exact⟨a,stepL _ (lt (i+1)) a⟩
def rQ(H:Hp)(P:Addr->Prop)(ws:List V)(rs:List (List Nat)):Prop:=Paired (λv r=>∃a,v=.ref a/\H a=some (.lst (hV r))/\P a) ws rs
def rQ.imp{H H':Hp}{P P':Addr->Prop}{ws:List V}{rs:List (List Nat)}(h:rQ H P ws rs)(f:∀a o,P a->H a=some o->H' a=some o/\P' a):rQ H' P' ws rs:=fK (λv r ⟨a,e,ha,p⟩=>⟨a,e,(f a _ p ha).1,(f a _ p ha).2⟩) h
def rQ.len{H:Hp}{P:Addr->Prop}{ws:List V}{rs:List (List Nat)}(h:rQ H P ws rs):ws.length=rs.length:=sY h
def ww{K:WG}{H:Hp}:∀r:List Nat,pD K H (hV r) (r.map λx:Nat=>PyData.int x)
 | []=>.nil
 | x::r=>.cons (.int x) (ww r)
def Dc(r:List Nat):(r.map λx:Nat=>PyData.int (x:Int))=(r.map λx:Nat=>(x:Int)).map PyData.int:=by rw[bS];rfl
def uI(C:Addr):Sp:=λvs H Q E=>∃x y d e,vs=[x,y]/\Dat H x d/\qF d/\Dat H y e/\qF e ∧
 ((∃bs cs,d=G0 bs/\e=G0 cs/\GP bs cs/\∀l ws H',H l=none->aV H H'->H' l=some (.lst ws)->rQ H' (λa=>H a=none/\a≠l) ws (rsF (mtF bs) (mtF cs) bs.length)->(rsF (mtF bs) (mtF cs) bs.length).length<=40->(∀r∈rsF (mtF bs) (mtF cs) bs.length,r.length<=80)->Q (.ref l) H')\/(rJ d e=false/\E (.ref C) none H))
def uJ:Sp:=λvs H Q _=>∃bs cs,vs=[.str (wd bs),.str (wd cs)]/\GP bs cs/\∀l ws H',H l=none->aV H H'->H' l=some (.lst ws)->rQ H' (λa=>H a=none) ws (rsF (mtF bs) (mtF cs) bs.length)->Q (.ref l) H'
def Fd{K:WG}{H:Hp}{a b:Addr}{r:List Nat}{Q:VK}(ha:H a=some (.lst (hV r)))(hb:H b=some (.lst []))(q:Q (.bl (!r.isEmpty)) H):yM K true (.ref a) (.ref b) H Q:=by
 refine⟨.list (r.map λx:Nat=>.int x),.list [],.lst (cW.of ha) (ww r),.lst (cW.of hb) .nil,by rw[Dc];exact fZ _,rfl,?_,?_⟩
 ·refine cH (Nat.min_le_right _ _) ?_;decide
 ·show Q (.bl (!PyData.eqvAll (r.map λx:Nat=>PyData.int (x:Int)) [])) H;cases r with
  | nil=>exact q
  | cons x r=>exact q
end Rm
namespace Rm
open PySem L2
structure qt (ps:List Bw):Prop where
 lt:∀ p∈ps,p.1<p.2
 perm:(i0 ps).Perm (cF 0 (2 * ps.length))
def pT{x:Int}{n:Nat}:x∈cF 0 n<->0<=x/\x<n:=by
 unfold cF;rw[bM];constructor
 ·rintro⟨i,hi,rfl⟩;have:=cQ.mp hi;lia
 ·rintro⟨h1,h2⟩;exact⟨x.toNat,cQ.mpr (by lia),by lia⟩
def sU(n:Nat):(cF 0 n).Nodup:=by
 unfold cF List.Nodup;rw[dt];exact(jD (n:=n)).imp λh e=>h (by lia)
def qt.mem{ps:List Bw}(F:qt ps){p:Bw}(h:p∈ps):0<=p.1/\p.1<p.2/\p.2<2*ps.length:=by
 have h1:p.1∈i0 ps:=bH _ (bM.mpr ⟨p,h,rfl⟩);have h2:p.2∈i0 ps:=ay _ (bM.mpr ⟨p,h,rfl⟩);have h1:=pT.mp (F.perm.mem_iff.mp h1);have h2:=pT.mp (F.perm.mem_iff.mp h2);have:=F.lt p h;lia
def vk(i:Nat)(p:Bw):Bool:=decide (p.1=(i:Int))
def at2(i:Nat)(p:Bw):Bool:=decide (p.2=(i:Int))
def m7(i:Nat)(p:Bw):Bool:=decide (p.1<(i:Int))&&decide ((i:Int)<=p.2)
def ue{a:Int}:∀{l:List Int},l.Nodup->a∈l->l.count a=1
 | b::l,nd,h=>by
  obtain⟨n1,n2⟩:=cX.mp nd;rw[List.count_cons];by_cases e:b=a
  ·subst e;rw[List.count_eq_zero.mpr n1];simp
  ·have hm:a∈l:=by
    rcases aL.mp h with z | z
    ·exact absurd z.symm e
    ·exact z
   rw[ue n2 hm];simp[e]
def qt.one{ps:List Bw}(F:qt ps){i:Nat}(h:i<2*ps.length):ps.countP (vk i)+ps.countP (at2 i)=1:=by
 have h1:(i0 ps).count (i:Int)=1:=by
  rw[F.perm.count_eq];exact ue (sU _) (pT.mpr (by lia))
 unfold i0 at h1;simp only[List.count_eq_countP,iL,List.countP_map] at h1;have e1:ps.countP ((λx=>x==(i:Int))∘λp:Bw=>p.1)=ps.countP (vk i):=kq λp _=>by simp[vk]
 have e2:ps.countP ((λx=>x==(i:Int))∘λp:Bw=>p.2)=ps.countP (at2 i):=kq λp _=>by simp[at2]
 rw[e1,e2] at h1;exact h1
def GE{a b k:Int}(h:a<b):(if a<k+1/\k+1<=b then 1 else 0)+(if b=k then 1 else 0)=(if a<k/\k<=b then 1 else 0)+(if a=k then (1:Nat) else 0):=by
 by_cases h1:a=k
 ·rw[Vz (show a<k+1/\k+1<=b by lia),Vy (show ¬b=k by lia),Vy (show ¬(a<k/\k<=b) by lia),Vz h1]
 ·by_cases h2:b=k
  ·rw[Vy (show ¬(a<k+1/\k+1<=b) by lia),Vz h2,Vz (show a<k/\k<=b by lia),Vy h1]
  ·rw[Vy h1,Vy h2];by_cases h3:a<k/\k<=b
   ·rw[Vz h3,Vz (show a<k+1/\k+1<=b by lia)]
   ·rw[Vy h3,Vy (show ¬(a<k+1/\k+1<=b) by lia)]
def xO(i:Nat):∀{ps:List Bw},(∀p∈ps,p.1<p.2)->ps.countP (m7 (i+1))+ps.countP (at2 i)=ps.countP (m7 i)+ps.countP (vk i)
 | [],_=>rfl
 | p::ps,h=>by
  have ih:=xO i (ps:=ps) λq hq=>h q (aM _ hq);have e:=GE (k:=(i:Int)) (h p a7);have e':(if m7 (i+1) p=true then 1 else 0)+(if at2 i p=true then 1 else 0)=(if m7 i p=true then 1 else 0)+(if vk i p=true then 1 else 0):=by
   simp only[m7,vk,at2,ai,WA,Int.natCast_add,Int.natCast_one];exact e
  simp only[bh];generalize (if m7 (i+1) p=true then 1 else 0)=x1 at e' ⊢;generalize (if at2 i p=true then 1 else 0)=x2 at e' ⊢;generalize (if m7 i p=true then 1 else 0)=x3 at e' ⊢;generalize (if vk i p=true then 1 else 0)=x4 at e' ⊢;clear e h;lia
def rm{ps:List Bw}{i:Nat}(h:i<2*ps.length):(eM ps)[i]? = some (decide ((i:Int)∈ps.map (·.1))):=by simp[eM,h]
def n8(ps:List Bw):(eM ps).length=2*ps.length:=by simp[eM]
def u7{ps:List Bw}{i:Nat}:(i:Int)∈ps.map (·.1)<->0<ps.countP (vk i):=by
 rw[fO,bM];constructor
 ·rintro⟨p,hp,e⟩;exact⟨p,hp,WC e⟩
 ·rintro⟨p,hp,e⟩;exact⟨p,hp,WD e⟩
def qt.D{ps:List Bw}(F:qt ps):∀i,i<=2*ps.length->D (eM ps) i=ps.countP (m7 i)
 | 0,_=>by
  rw[KA];have:ps.countP (m7 0)=0:=gu.mpr λp hp=>by
   have:=(F.mem hp).1;simp only[m7,ai,WA];lia
  rw[this];rfl
 | i+1,h=>by
  have ih:=F.D i (by lia);have st:=xO i F.lt;have one:=F.one (i:=i) (by lia);rw[nY (rm (by lia)),ih];by_cases e:(i:Int)∈ps.map (·.1)
  ·rw[WC e];have:=u7.mp e;simp only[dl,WE];lia
  ·rw[WB e];have:¬0<ps.countP (vk i):=λz=>e (u7.mpr z);simp only[dl,cT,WF];lia
def qt.bal{ps:List Bw}(F:qt ps):rh (eM ps):=by
 refine⟨λi hi=>?_,?_⟩
 ·rw[n8] at hi;rw[F.D i hi];lia
 ·rw[n8,F.D _ (aJ _)];have:ps.countP (m7 (2*ps.length))=0:=gu.mpr λp hp=>by
   have:=(F.mem hp).2.2;simp only[m7,ai,WA];lia
  rw[this];rfl
def qh{α:Type}{P Q:α->Bool}{l:List α}(h:∀x∈l,P x=true->Q x=true){a:α}(ha:a∈l)(hq:Q a=true)(hp:P a=false):l.countP P<l.countP Q:=by
 obtain⟨l1,l2,rfl⟩:=kP ha;rw[iL,iL,bh,bh,Vz hq,Vy (by rw[hp];exact ax)];have h1:=mn (l:=l1) λx hx=>h x (bH _ hx);have h2:=mn (l:=l2) λx hx=>h x (ay _ (aM _ hx));lia
def qt.ends{ps:List Bw}(F:qt ps){p q:Bw}(hp:p∈ps)(hq:q∈ps):(p.1=q.1->p.2=q.2)/\p.1≠q.2/\(p.2=q.2->p.1=q.1):=by
 have hm:=F.mem hp;have hm':=F.mem hq;have two:∀i:Nat,i<2*ps.length->∀a∈ps,∀b∈ps,vk i a=true->vk i b=true->a=b:=λi hi a ha b hb e1 e2=>by
  have:=F.one hi;by_cases z:a=b
  ·exact z
  ·have h2:1<ps.countP (vk i):=by
    have:=qh (l:=ps) (P:=λx=>decide (x=a)) (Q:=vk i) (λx _ hx=>by rw[WD hx];exact e1) hb e2 (WB λe=>z e.symm);have h1:0<ps.countP (λx=>decide (x=a)):=fO.mpr ⟨a,ha,WC rfl⟩;lia
   lia
 have two2:∀i:Nat,i<2*ps.length->∀a∈ps,∀b∈ps,at2 i a=true->at2 i b=true->a=b:=λi hi a ha b hb e1 e2=>by
  have:=F.one hi;by_cases z:a=b
  ·exact z
  ·have h2:1<ps.countP (at2 i):=by
    have:=qh (l:=ps) (P:=λx=>decide (x=a)) (Q:=at2 i) (λx _ hx=>by rw[WD hx];exact e1) hb e2 (WB λe=>z e.symm);have h1:0<ps.countP (λx=>decide (x=a)):=fO.mpr ⟨a,ha,WC rfl⟩;lia
   lia
 refine⟨λe=>?_,λe=>?_,λe=>?_⟩
 ·rw[two p.1.toNat (by lia) p hp q hq (WC (by lia)) (WC (by lia))]
 ·have:=F.one (i:=p.1.toNat) (by lia);have h1:0<ps.countP (vk p.1.toNat):=fO.mpr ⟨p,hp,WC (by lia)⟩;have h2:0<ps.countP (at2 p.1.toNat):=fO.mpr ⟨q,hq,WC (by lia)⟩;lia
 ·rw[two2 p.2.toNat (by lia) p hp q hq (WC (by lia)) (WC (by lia))]
def JW{a b c d:Int}(hab:a<b)(n2:¬(c<a/\a<d/\d<b))(e1:a≠d)(e2:d=b->c=a)(h1:c<a)(h2:a<=d):b<d:=by
 apply gp;intro h;have h3:¬d<b:=λz=>n2 ⟨h1,by lia,z⟩;have h4:d=b:=by lia
 have:=e2 h4;lia
def Fe{a b c d:Int}(n1:¬(a<c/\c<b/\b<d))(e1:c=a->d=b)(e2:c≠b)(h1:c<b+1)(h2:b+1<=d):c<a:=by
 apply gp;intro h;have h3:¬a<c:=λz=>n1 ⟨z,by lia,by lia⟩;have h4:c=a:=by lia
 have:=e1 h4;lia
def qt.mate{ps:List Bw}(F:qt ps)(nc:∀p∈ps,∀q∈ps,bO p q=false){p:Bw}(hp:p∈ps):nT (eM ps) p.1.toNat p.2.toNat:=by
 obtain⟨m1,m2,m3⟩:=F.mem hp;have c1:((p.1.toNat:Nat):Int)=p.1:=gv m1;have c2:((p.2.toNat:Nat):Int)=p.2:=gv (mJ (Int.lt_of_le_of_lt m1 m2));have lt:p.1.toNat<p.2.toNat:=mH.mp (by rw[c1,c2];exact m2);have lb:p.2.toNat<2*ps.length:=mH.mp (by rw[c2];exact m3);have la:p.1.toNat<2*ps.length:=jh lt lb;have n1:∀q∈ps,¬(p.1<q.1/\q.1<p.2/\p.2<q.2):=λq hq ⟨a,b,c⟩=>by
  have:=nc p hp q hq;unfold bO at this;rw[WC a,WC b,WC c] at this;cases this
 have n2:∀q∈ps,¬(q.1<p.1/\p.1<q.2/\q.2<p.2):=λq hq ⟨a,b,c⟩=>by
  have:=nc q hq p hp;unfold bO at this;rw[WC a,WC b,WC c] at this;cases this
 have over:∀q∈ps,q.1<p.1->p.1<=q.2->p.2<q.2:=λq hq=>JW m2 (n2 q hq) (F.ends hp hq).2.1 (F.ends hq hp).2.2;refine⟨lt,by rw[n8];exact lb,?_,?_,?_,λi h1 h2=>?_⟩
 ·rw[rm la,WC];exact bM.mpr ⟨p,hp,c1.symm⟩
 ·rw[rm lb,WB];intro z;obtain⟨q,hq,e⟩:=bM.mp z;exact(F.ends hq hp).2.1 (e.trans c2)
 ·rw[F.D (p.2.toNat+1) lb,F.D _ (ah la)];congr 1;refine kq λq hq=>?_;simp only[m7,ai,WA,Int.natCast_add,Int.natCast_one];rw[c1,c2];refine⟨λ⟨b1,b2⟩=>⟨Fe (n1 q hq) (F.ends hq hp).1 (F.ends hq hp).2.1 b1 b2,?_⟩,λ⟨b1,b2⟩=>⟨?_,over q hq b1 b2⟩⟩
  ·exact Int.le_trans (mJ m2) (mJ b2)
  ·exact qI (qI b1 m2) (Int.lt_succ p.2)
 ·have i1:p.1<(i:Int):=by rw[<-c1];exact mH.mpr h1
  have i2:(i:Int)<=p.2:=by rw[<-c2];exact Int.ofNat_le.mpr h2
  rw[F.D _ (ah la),F.D _ (ah (iI h2 lb))];refine mH.mpr (qh (l:=ps) (P:=m7 p.1.toNat) (Q:=m7 i) (λq hq hc=>?_) hp ?_ ?_)
  ·simp only[m7,ai,WA] at hc ⊢;rw[c1] at hc;exact⟨qI hc.1 i1,Int.le_trans i2 (mJ (over q hq hc.1 hc.2))⟩
  ·simp only[m7,ai,WA];exact⟨i1,i2⟩
  ·simp only[m7,Bool.and_eq_false_iff,decide_eq_false_iff_not];exact .inl (by rw[c1];exact Int.lt_irrefl _)
def yo{es:List PyData}(h:es.length≠2):eO (.tuple es)=false:=by
 cases e:eO (.tuple es) with
 | false=>rfl
 | true=>
  have:=(p9 e).1;unfold jB at this;injection this with this
  rw[this] at h;exact absurd rfl h
def Jn{d e:PyData}(h:fy d=false):eO (.tuple [d,e])=false:=by cases d<;>first | rfl | cases h
def Jm{d e:PyData}(h:fy e=false):eO (.tuple [d,e])=false:=by cases d<;>cases e<;>first | rfl | cases h
def Ec{α:Type}:∀{l:List α},l.length=2->∃a b,l=[a,b]
 | [a,b],_=>⟨a,b,rfl⟩
abbrev Oe:=Int×Int
def chain:Bool->List Int->Bool->List Bw
 | s,a::b::rest,t=>(if (!s)=t then [(min a b,max a b)] else [])++chain (!s) (b::rest) t
 | _,_,_=>[]
def fU(s:Bool)(R:List Int):Bool:=s ^^ odd R.length
def BK(R:List Int):Int:=R.head?.getD 0
def ltZ(R:List Int):Int:=R.getLast?.getD 0
def tE(s:Bool)(a:Int)(R:List Int):fU s (a::R)=fU (!s) R:=by
 unfold fU;rw[bq,kI];cases s<;>cases odd R.length<;>rfl
def yi(s:Bool)(R:List Int)(r:Int):fU s (R++[r])=!fU s R:=by
 unfold fU;rw[aU,bu,kI];cases s<;>cases odd R.length<;>rfl
def Dj(R:List Int)(r:Int):ltZ (R++[r])=r:=by simp[ltZ]
def Dk(a b:Int)(R:List Int):ltZ (a::b::R)=ltZ (b::R):=by simp[ltZ]
def AG(R:List Int):BK R.reverse=ltZ R:=by simp[BK,ltZ]
def vb(R:List Int):ltZ R.reverse=BK R:=by simp[BK,ltZ]
def AH{R S:List Int}(h:R≠[]):BK (R++S)=BK R:=by cases R with | nil=>exact absurd rfl h | cons a R=>rfl
def zy{R S:List Int}(h:S≠[]):ltZ (R++S)=ltZ S:=by
 unfold ltZ;rw[List.getLast?_append];cases e:S.getLast? with
 | none=>exact absurd (List.getLast?_eq_none_iff.mp e) h
 | some x=>rfl
def pC:∀{R:List Int} (s:Bool) (r:Int) (S:List Int) (t:Bool),R≠[]->chain s (R++r::S) t=chain s R t++(if fU s R=t then [(min (ltZ R) r,max (ltZ R) r)] else [])++chain (fU s R) (r::S) t
 | [a],s,r,S,t,_=>by
  show (if (!s)=t then [(min a r,max a r)] else [])++chain (!s) (r::S) t=[]++_++_;have e:fU s [a]=!s:=by cases s<;>rfl
  rw[e];rfl
 | a::b::R,s,r,S,t,_=>by
  show (if (!s)=t then [(min a b,max a b)] else [])++chain (!s) ((b::R)++r::S) t=((if (!s)=t then [(min a b,max a b)] else [])++chain (!s) (b::R) t)++_++_;rw[pC (!s) r S t (by simp),tE s a (b::R),Dk];simp only[cS]
def chain_snoc{R:List Int}(s:Bool)(r:Int)(t:Bool)(h:R≠[]):chain s (R++[r]) t=chain s R t++(if fU s R=t then [(min (ltZ R) r,max (ltZ R) r)] else []):=by
 rw[pC s r [] t h];show _++[]=_;rw[cY]
def qi:∀(R:List Int) (s t:Bool),(chain (fU s R) R.reverse t).Perm (chain s R t)
 | [],_,_=>.refl _
 | [a],s,t=>.refl _
 | a::b::R,s,t=>by
  have ih:=qi (b::R) (!s) t;rw[kn,tE,chain_snoc _ _ _ (by simp)];have e:fU (fU (!s) (b::R)) (b::R).reverse=!s:=by
   unfold fU;rw[j9];cases s<;>cases odd (b::R).length<;>rfl
  rw[e,vb];show (chain (fU (!s) (b::R)) (b::R).reverse t++(if (!s)=t then [(min b a,max b a)] else [])).Perm ((if (!s)=t then [(min a b,max a b)] else [])++chain (!s) (b::R) t);rw[Int.min_comm b a,Int.max_comm b a];exact cc.trans (ih.append_left _)
structure Pc where
 lab:Int
 rows:List Int
 s:Bool
 main:Bool
def Pc.fst(p:Pc):Oe×Bool:=((BK p.rows,p.lab),p.s)
def Pc.lst(p:Pc):Oe×Bool:=((ltZ p.rows,p.lab),fU p.s p.rows)
def Pc.more(p:Pc):List (Oe×Bool):=if p.main then [] else [p.fst]
def Pc.ends(p:Pc):List (Oe×Bool):=p.lst::p.more
def Pc.rev(p:Pc):Pc:={ p with rows:=p.rows.reverse,s:=fU p.s p.rows }
def Pc.bows(t:Bool)(p:Pc):List Bw:=chain p.s p.rows t
def vO(p:Pc):p.rev.lst=p.fst:=by
 show ((ltZ p.rows.reverse,p.lab),fU (fU p.s p.rows) p.rows.reverse)=((BK p.rows,p.lab),p.s)
 rw[vb];congr 1;unfold fU;rw[j9];cases p.s<;>cases odd p.rows.length<;>rfl
def Ej(p:Pc):p.rev.fst=p.lst:=by
 show ((BK p.rows.reverse,p.lab),fU p.s p.rows)=_;rw[AG];rfl
def dh(st:Bool->List Oe):List (Oe×Bool):=(st false).map (·,false)++(st true).map (·,true)
def lj{st:Bool->List Oe}{t:Bool}{st':List Oe}{e:Oe}(h:st t=st'++[e]):(dh st).Perm ((e,t)::dh λu=>if u=t then st' else st u):=by
 unfold dh;cases t with
 | false=>
  simp only[h,WE,iM,WF,ar,bC,eI,cS,gl,eh];exact cL
 | true=>
  simp only[h,WE,cT,WF,ar,bC,eI];rw[<-cS];exact cc
def nQ{st:Bool->List Oe}{t:Bool}{e:Oe}:(dh λu=>if u=t then st u++[e] else st u).Perm ((e,t)::dh st):=by
 have h:=lj (st:=λu=>if u=t then st u++[e] else st u) (t:=t) (st':=st t) (e:=e) (by simp);refine h.trans ?_;have:(λu=>if u=t then st t else if u=t then st u++[e] else st u)=st:=by
  funext u;by_cases z:u=t
  ·simp[z]
  ·simp[z]
 rw[this]
structure tq (st:List Oe) (f:List Bw) (r:Nat):Prop where
 inc:st.Pairwise fun a b=>a.1<b.1
 low:∀ e∈st,0<=e.1/\e.1<r
 bow:∀ p∈f,0<=p.1/\p.1<p.2/\p.2<r
 nc:∀ p∈f,∀ q∈f,bO p q=false
 un:∀ p∈f,∀ e∈st,¬ (p.1<e.1/\e.1<p.2)
def tq.push{st:List Oe}{f:List Bw}{r:Nat}(S:tq st f r)(l:Int):tq (st++[((r:Int),l)]) f (r+1):=by
 refine⟨dq.mpr ⟨S.inc,by simp,λa ha b hb=>?_⟩,λe h=>?_,λp h=>by have:=S.bow p h;lia,S.nc,λp hp e h=>?_⟩
 ·have e:b=((r:Int),l):=by simpa using hb
  subst e;exact(S.low a ha).2
 ·rcases a9.mp h with z | z
  ·have:=S.low e z;lia
  ·have e':e=((r:Int),l):=by simpa using z
   subst e';simp only;lia
 ·rcases a9.mp h with z | z
  ·exact S.un p hp e z
  ·have e':e=((r:Int),l):=by simpa using z
   subst e';have:=S.bow p hp;simp only;lia
def tq.close{st:List Oe}{f:List Bw}{r:Nat}{o l:Int}(S:tq (st++[(o,l)]) f r):tq st (f++[(o,(r:Int))]) (r+1):=by
 have ho:=S.low (o,l) (by simp);simp only at ho;have low:∀e∈st,e.1<o:=λe he=>(dq.mp S.inc).2.2 e he (o,l) (by simp);have cr:∀p q:Bw,(¬(p.1<q.1/\q.1<p.2/\p.2<q.2))->bO p q=false:=λp q h=>by
  unfold bO;by_cases a:p.1<q.1
  ·by_cases b:q.1<p.2
   ·have c:¬p.2<q.2:=λc=>h ⟨a,b,c⟩;simp[c]
   ·simp[b]
  ·simp[a]
 refine⟨(dq.mp S.inc).1,λe h=>by have:=S.low e (bH _ h);lia,λp h=>?_,λp hp q hq=>?_,λp hp e h=>?_⟩
 ·rcases a9.mp h with z | z
  ·have:=S.bow p z;lia
  ·have e':p=(o,(r:Int)):=by simpa using z
   subst e';simp only;lia
 ·rcases a9.mp hp with z | z
  ·rcases a9.mp hq with y | y
   ·exact S.nc p z q y
   ·have e':q=(o,(r:Int)):=by simpa using y
    subst e';have h1:=S.un p z (o,l) (by simp);exact cr _ _ λh=>h1 ⟨h.1,h.2.1⟩
  ·have e':p=(o,(r:Int)):=by simpa using z
   subst e';rcases a9.mp hq with y | y
   ·have h1:=S.bow q y;exact cr _ _ λh=>by simp only at h;lia
   ·have e':q=(o,(r:Int)):=by simpa using y
    subst e';exact cr _ _ λh=>by simp only at h;lia
 ·have h1:=low e h;rcases a9.mp hp with z | z
  ·exact S.un p z e (bH _ h)
  ·have e':p=(o,(r:Int)):=by simpa using z
   subst e';simp only;lia
def tq.map{st:List Oe}{f:List Bw}{r:Nat}(S:tq st f r)(g:Int->Int):tq (st.map λe=>(e.1,g e.2)) f r:=by
 refine⟨?_,λe h=>?_,S.bow,S.nc,λp hp e h=>?_⟩
 ·rw[dt];exact S.inc
 ·obtain⟨x,hx,rfl⟩:=bM.mp h;exact S.low x hx
 ·obtain⟨x,hx,rfl⟩:=bM.mp h;exact S.un p hp x hx
structure Gr (b:Bool) (st:Bool->List Oe) (f:Bool->List Bw) (r:Nat) (is:List Pc):Prop where
 ne:∀ p∈is,p.rows≠[]
 rows:(is.flatMap Pc.rows).Perm (cF 0 r)
 labs:(is.map Pc.lab).Nodup
 lr:∀ p∈is,p.lab<r
 one:is.countP Pc.main=1
 hd:∀ p∈is,p.main=true->p.rows.head? = some 0/\p.s=!b
 ends:(dh st).Perm (is.flatMap Pc.ends)
 bows:∀ t,(f t).Perm (is.flatMap (Pc.bows t))
 stk:∀ t,tq (st t) (f t) r
section
variable {b:Bool} {st:Bool->List Oe} {f:Bool->List Bw} {r:Nat} {is js:List Pc} {p q:Pc}
def Gr.perm(G:Gr b st f r is)(h:is.Perm js):Gr b st f r js:=
 ⟨λp hp=>G.ne p (h.mem_iff.mpr hp),(h.flatMap_right _).symm.trans G.rows,(h.map _).nodup_iff.mp G.labs,λp hp=>G.lr p (h.mem_iff.mpr hp),(h.countP_eq _).symm.trans G.one,λp hp=>G.hd p (h.mem_iff.mpr hp),
  G.ends.trans (h.flatMap_right _),λt=>(G.bows t).trans (h.flatMap_right _),G.stk⟩
def Gr.flip(G:Gr b st f r (p::is))(h:p.main=false):Gr b st f r (p.rev::is):=by
 have more:p.more=[p.fst]:=by unfold Pc.more;rw[h];rfl
 have more':p.rev.more=[p.lst]:=by
  unfold Pc.more;rw[show p.rev.main=false from h,Ej];rfl
 refine⟨λq hq=>?_,?_,G.labs,λq hq=>?_,?_,λq hq hm=>?_,?_,λt=>?_,G.stk⟩
 ·rcases aL.mp hq with z | z
  ·subst z;exact λe=>G.ne p a7 (lT.mp e)
  ·exact G.ne q (aM _ z)
 ·exact((km p.rows).append_right _).trans G.rows
 ·rcases aL.mp hq with z | z
  ·subst z;exact G.lr p a7
  ·exact G.lr q (aM _ z)
 ·have:=G.one;rw[bh] at this ⊢;exact this
 ·rcases aL.mp hq with z | z
  ·subst z;rw[show p.rev.main=false from h] at hm;cases hm
  ·exact G.hd q (aM _ z) hm
 ·refine G.ends.trans ?_;rw[au,au];refine List.Perm.append_right _ ?_;unfold Pc.ends;rw[more,more',vO];exact List.Perm.swap _ _ _
 ·refine(G.bows t).trans ?_;rw[au,au];exact(qi p.rows p.s t).symm.append_right _
def Gr.pick(G:Gr b st f r is){e:Oe×Bool}(h:e∈dh st):∃p js,p.lst=e/\Gr b st f r (p::js)/\∀q∈js,q∈is:=by
 obtain⟨p,hp,he⟩:=jE.mp (G.ends.mem_iff.mp h);obtain⟨A,B,rfl⟩:=kP hp;have G1:=G.perm cL;have sub:∀q∈A++B,q∈A++p::B:=λq hq=>by
  rcases a9.mp hq with z | z
  ·exact bH _ z
  ·exact ay _ (aM _ z)
 rcases aL.mp he with z | z
 ·exact⟨p,A++B,z.symm,G1,sub⟩
 ·unfold Pc.more at z;cases hm:p.main with
  | true=>rw[hm] at z;cases z
  | false=>
   rw[hm] at z;have e':e=p.fst:=by simpa using z
   exact⟨p.rev,A++B,by rw[vO,e'],G1.flip hm,sub⟩
def sS(r:Nat):cF 0 (r+1)=cF 0 r++[(r:Int)]:=by
 unfold cF;rw[ff,ar];simp
def Gr.opA(G:Gr b st f r is):Gr b (λu=>st u++[((r:Int),(r:Int))]) f (r+1) (⟨r,[(r:Int)],false,false⟩::is):=by
 refine⟨λq hq=>?_,?_,?_,λq hq=>?_,?_,λq hq hm=>?_,?_,λt=>?_,λt=>(G.stk t).push _⟩
 ·rcases aL.mp hq with z | z
  ·subst z;simp
  ·exact G.ne q z
 ·rw[sS];exact(G.rows.cons (r:Int)).trans (cc (l₁:=[(r:Int)]) (l₂:=cF 0 r))
 ·rw[bC,cX];refine⟨λz=>?_,G.labs⟩;obtain⟨q,hq,e⟩:=bM.mp z;have:=G.lr q hq;simp only at e;lia
 ·rcases aL.mp hq with z | z
  ·subst z;simp only;lia
  ·have:=G.lr q z;lia
 ·rw[bh,G.one];rfl
 ·rcases aL.mp hq with z | z
  ·subst z;cases hm
  ·exact G.hd q z hm
 ·have h1:=nQ (st:=st) (t:=false) (e:=((r:Int),(r:Int)));have h2:=nQ (st:=λu=>if u=false then st u++[((r:Int),(r:Int))] else st u) (t:=true) (e:=((r:Int),(r:Int)));have e:(λu=>if u=true then (if u=false then st u++[((r:Int),(r:Int))] else st u)++[((r:Int),(r:Int))] else if u=false then st u++[((r:Int),(r:Int))] else st u)=λu=>st u++[((r:Int),(r:Int))]:=by
   funext u;cases u<;>rfl
  rw[e] at h2;refine h2.trans ((h1.cons _).trans ?_);rw[au];exact((G.ends.cons _).cons _)
 ·refine(G.bows t).trans ?_;rw[au];exact .refl _
def Gr.ext{t:Bool}{st':List Oe}{o l:Int}(G:Gr b st f r (p::is))(hl:p.lst=((o,l),t))(hs:st t=st'++[(o,l)]):
  Gr b (λu=>if u=t then st' else st u++[((r:Int),l)]) (λu=>if u=t then f u++[(o,(r:Int))] else f u) (r+1) ({ p with rows:=p.rows++[(r:Int)] }::is):=by
 have pne:=G.ne p a7;have e1:ltZ p.rows=o:=congrArg (λx=>x.1.1) hl;have e2:p.lab=l:=congrArg (λx=>x.1.2) hl;have e3:fU p.s p.rows=t:=congrArg (λx=>x.2) hl;have low:=(G.stk t).low (o,l) (by rw[hs];simp);simp only at low;have lst':Pc.lst { p with rows:=p.rows++[(r:Int)] }=(((r:Int),l),!t):=by
  show ((ltZ (p.rows++[(r:Int)]),p.lab),fU p.s (p.rows++[(r:Int)]))=_;rw[Dj,yi,e2,e3]
 have more':Pc.more { p with rows:=p.rows++[(r:Int)] }=p.more:=by
  unfold Pc.more Pc.fst;rw[AH pne]
 refine⟨λq hq=>?_,?_,G.labs,λq hq=>?_,?_,λq hq hm=>?_,?_,λu=>?_,λu=>?_⟩
 ·rcases aL.mp hq with z | z
  ·subst z;simp
  ·exact G.ne q (aM _ z)
 ·have h1:=G.rows;rw[au] at h1 ⊢;rw[sS];show ((p.rows++[(r:Int)])++is.flatMap Pc.rows).Perm _;rw[cS];exact(cL (l₁:=p.rows) (a:=(r:Int)) (l₂:=is.flatMap Pc.rows)).trans ((h1.cons _).trans (cc (l₁:=[(r:Int)])))
 ·rcases aL.mp hq with z | z
  ·subst z;have:=G.lr p a7;simp only;lia
  ·have:=G.lr q (aM _ z);lia
 ·have:=G.one;rw[bh] at this ⊢;exact this
 ·rcases aL.mp hq with z | z
  ·subst z;obtain⟨a,c⟩:=G.hd p a7 hm;refine⟨?_,c⟩;show (p.rows++[(r:Int)]).head? = _;rw[List.head?_append,a];rfl
  ·exact G.hd q (aM _ z) hm
 ·have h1:=(lj hs).symm.trans G.ends;rw[au] at h1 ⊢;have h2:(dh λu=>if u=t then st' else st u).Perm (p.more++is.flatMap Pc.ends):=by
   have e:p.ends++is.flatMap Pc.ends=((o,l),t)::(p.more++is.flatMap Pc.ends):=by
    unfold Pc.ends;rw[hl];rfl
   rw[e] at h1;exact h1.cons_inv
  have e:(λu=>if u=t then st' else st u++[((r:Int),l)])=λu=>if u=(!t) then (if u=t then st' else st u)++[((r:Int),l)] else (if u=t then st' else st u):=by
   funext u;cases u<;>cases t<;>rfl
  rw[e];refine nQ.trans ((h2.cons _).trans ?_);have e4:Pc.ends { p with rows:=p.rows++[(r:Int)] }=(((r:Int),l),!t)::p.more:=by
   unfold Pc.ends;rw[lst',more']
  rw[e4];exact .refl _
 ·have h1:=G.bows u;rw[au] at h1 ⊢;have e4:Pc.bows u { p with rows:=p.rows++[(r:Int)] }=p.bows u++if u=t then [(o,(r:Int))] else []:=by
   show chain p.s (p.rows++[(r:Int)]) u=chain p.s p.rows u++_;rw[chain_snoc _ _ _ pne,e1,e3];have m1:min o (r:Int)=o:=by lia
   have m2:max o (r:Int)=(r:Int):=by lia
   rw[m1,m2];congr 1;cases t<;>cases u<;>rfl
  rw[e4];by_cases z:u=t
  ·rw[Vz z,Vz z,cS];exact(h1.append_right _).trans (by rw[cS];exact io _ cc)
  ·rw[Vy z,Vy z,cY];exact h1
 ·by_cases z:u=t
  ·subst z;simp only[WE];have:=G.stk u;rw[hs] at this;exact this.close
  ·simp only[z,WF];exact(G.stk u).push l
def Gr.pick2{o1 l1 o2 l2:Int}{n' f':List Oe}(G:Gr b st f r is)(h1:st false=n'++[(o1,l1)])(h2:st true=f'++[(o2,l2)])(hne:l1≠l2):∃p q js,p.lst=((o1,l1),false)/\q.lst=((o2,l2),true)/\Gr b st f r (p::q::js):=by
 obtain⟨p,js,hp,G1,_⟩:=G.pick (e:=((o1,l1),false)) (by unfold dh;rw[h1];simp);have hm:((o2,l2),true)∈dh st:=by unfold dh;rw[h2];simp
 obtain⟨q,hq,he⟩:=jE.mp (G1.ends.mem_iff.mp hm);have lab:∀(x:Pc) e,e∈x.ends->e.1.2=x.lab:=λx e h=>by
  rcases aL.mp h with z | z
  ·subst z;rfl
  ·unfold Pc.more at z;cases hm:x.main with
   | true=>rw[hm] at z;cases z
   | false=>
    rw[hm] at z;have e':e=x.fst:=by simpa using z
    subst e';rfl
 have pl:p.lab=l1:=congrArg (λx=>x.1.2) hp;have ql:=lab q _ he;rcases aL.mp hq with z | z
 ·subst z;simp only at ql;exact absurd (pl.symm.trans ql.symm) hne
 ·obtain⟨A,B,rfl⟩:=kP z;have G2:Gr b st f r (q::p::(A++B)):=G1.perm ((cL.cons p).trans (List.Perm.swap _ _ _));rcases aL.mp he with y | y
  ·exact⟨p,q,A++B,hp,y.symm,G2.perm (List.Perm.swap _ _ _)⟩
  ·unfold Pc.more at y;cases hm:q.main with
   | true=>rw[hm] at y;cases y
   | false=>
    rw[hm] at y;have e':((o2,l2),true)=q.fst:=by simpa using y
    exact⟨p,q.rev,A++B,hp,by rw[vO,<-e'],(G2.flip hm).perm (List.Perm.swap _ _ _)⟩
def ii(x y:Int)(e:Oe):Oe:=(e.1,if e.2=x then y else e.2)
def Gr.join0{ta:Bool}{o:Bool->Int}{la lb l1 l2:Int}{st':Bool->List Oe}(G:Gr b st f r (p::q::is))(hp:p.lst=((o ta,la),ta))(hq:q.lst=((o (!ta),lb),!ta))(hs:∀u,st u=st' u++[(o u,if u=ta then la else lb)])(hm:q.main=false)(hlab:(l1=la/\l2=lb)\/(l1=lb/\l2=la)):
  Gr b (λu=>(st' u).map (ii l2 l1)) (λu=>f u++[(o u,(r:Int))]) (r+1) (⟨l1,p.rows++(r:Int)::q.rows.reverse,p.s,p.main⟩::is):=by
 have pne:=G.ne p a7;have qne:=G.ne q (aM _ a7);have qrne:q.rows.reverse≠[]:=λe=>qne (lT.mp e);have p1:ltZ p.rows=o ta:=congrArg (λx=>x.1.1) hp;have p2:p.lab=la:=congrArg (λx=>x.1.2) hp;have p3:fU p.s p.rows=ta:=congrArg (λx=>x.2) hp;have q1:ltZ q.rows=o (!ta):=congrArg (λx=>x.1.1) hq;have q2:q.lab=lb:=congrArg (λx=>x.1.2) hq;have q3:fU q.s q.rows=!ta:=congrArg (λx=>x.2) hq;have low:∀u,0<=o u/\o u<r:=λu=>(G.stk u).low (o u,if u=ta then la else lb) (by rw[hs u];simp);have nd:=G.labs;rw[bC,bC,cX,cX,p2,q2] at nd;obtain⟨n1,n2,n3⟩:=nd;have nab:la≠lb:=λe=>n1 (by rw[e];exact a7);have nla:∀x∈is,x.lab≠la:=λx hx e=>n1 (aM _ (bM.mpr ⟨x,hx,e⟩));have nlb:∀x∈is,x.lab≠lb:=λx hx e=>n2 (bM.mpr ⟨x,hx,e⟩);have n1':∀x∈is,x.lab≠l1:=λx hx=>by rcases hlab with ⟨e,_⟩ | ⟨e,_⟩<;>rw[e];exact nla x hx;exact nlb x hx
 have n2':∀x∈is,x.lab≠l2:=λx hx=>by rcases hlab with ⟨_,e⟩ | ⟨_,e⟩<;>rw[e];exact nlb x hx;exact nla x hx
 have rla:(if la=l2 then l1 else la)=l1:=by
  rcases hlab with ⟨e,e'⟩ | ⟨e,e'⟩
  ·rw[e',Vy nab,e]
  ·rw[e',Vz rfl]
 have rlb:(if lb=l2 then l1 else lb)=l1:=by
  rcases hlab with ⟨e,e'⟩ | ⟨e,e'⟩
  ·rw[e',Vz rfl]
  ·rw[e',Vy nab.symm,e]
 refine⟨λx hx=>?_,?_,?_,λx hx=>?_,?_,λx hx hmx=>?_,?_,λu=>?_,λu=>?_⟩
 ·rcases aL.mp hx with z | z
  ·subst z;simp
  ·exact G.ne x (aM _ (aM _ z))
 ·have h1:=G.rows;rw[au,au] at h1;rw[au,sS];show ((p.rows++(r:Int)::q.rows.reverse)++is.flatMap Pc.rows).Perm _;rw[cS,gl];refine cL.trans (List.Perm.trans ?_ (cc (l₁:=[(r:Int)])));refine List.Perm.cons _ (List.Perm.trans ?_ h1);exact io _ ((km q.rows).append_right _)
 ·rw[bC,cX];refine⟨λz=>?_,n3⟩;obtain⟨x,hx,e⟩:=bM.mp z;exact n1' x hx e
 ·rcases aL.mp hx with z | z
  ·subst z;have h1:=G.lr p a7;have h2:=G.lr q (aM _ a7);simp only;rcases hlab with ⟨e,_⟩ | ⟨e,_⟩<;>rw[e]<;>lia
  ·have:=G.lr x (aM _ (aM _ z));lia
 ·have:=G.one;rw[bh,bh,hm] at this;rw[bh];simpa using this
 ·rcases aL.mp hx with z | z
  ·subst z;obtain⟨a,c⟩:=G.hd p a7 hmx;refine⟨?_,c⟩;show (p.rows++(r:Int)::q.rows.reverse).head? = _;rw[List.head?_append,a];rfl
  ·exact G.hd x (aM _ (aM _ z)) hmx
 ·have h0:(dh st).Perm (((o ta,la),ta)::((o (!ta),lb),!ta)::dh st'):=by
   have e1:(dh st).Perm _:=lj (t:=ta) (hs ta);refine e1.trans ?_;rw[Vz rfl];refine List.Perm.cons _ ?_;have e2:=lj (st:=λu=>if u=ta then st' ta else st u) (t:=!ta) (st':=st' (!ta)) (e:=(o (!ta),lb)) (by
    have z:¬(!ta)=ta:=by cases ta<;>decide
    simp only[z,WF];rw[hs (!ta),Vy z])
   refine e2.trans (List.Perm.cons _ ?_);have:(λu=>if u=(!ta) then st' (!ta) else if u=ta then st' ta else st u)=st':=by
    funext u;cases u<;>cases ta<;>rfl
   rw[this]
  have h1:=h0.symm.trans G.ends;rw[au,au] at h1;have eqm:q.more=[q.fst]:=by unfold Pc.more;rw[hm];rfl
  have h2:(dh st').Perm (p.more++(q.fst::is.flatMap Pc.ends)):=by
   have e:(p.ends++(q.ends++is.flatMap Pc.ends)).Perm (((o ta,la),ta)::((o (!ta),lb),!ta)::(p.more++(q.fst::is.flatMap Pc.ends))):=by
    unfold Pc.ends;rw[hp,hq,eqm];refine List.Perm.cons _ ?_;exact cL
   exact(h1.trans e).cons_inv.cons_inv
  have hmap:(dh λu=>(st' u).map (ii l2 l1))=(dh st').map λx=>(ii l2 l1 x.1,x.2):=by
   unfold dh;rw[ar,bS,bS,bS,bS];rfl
  rw[hmap];refine(h2.map _).trans ?_;rw[ar,bC,au];have r1:(is.flatMap Pc.ends).map (λx=>(ii l2 l1 x.1,x.2))=is.flatMap Pc.ends:=by
   have:∀x∈is.flatMap Pc.ends,(ii l2 l1 x.1,x.2)=x:=λx hx=>by
    obtain⟨y,hy,he⟩:=jE.mp hx;have:x.1.2=y.lab:=by
     rcases aL.mp he with z | z
     ·subst z;rfl
     ·unfold Pc.more at z;cases hm:y.main with
      | true=>rw[hm] at z;cases z
      | false=>
       rw[hm] at z;have e':x=y.fst:=by simpa using z
       subst e';rfl
    unfold ii;rw[Vy (by rw[this];exact n2' y hy)]
   exact(bd this).trans (f6 _)
  have r2:(ii l2 l1 q.fst.1,q.fst.2)=Pc.lst ⟨l1,p.rows++(r:Int)::q.rows.reverse,p.s,p.main⟩:=by
   show ((BK q.rows,if q.lab=l2 then l1 else q.lab),q.s)=((ltZ (p.rows++(r:Int)::q.rows.reverse),l1),fU p.s (p.rows++(r:Int)::q.rows.reverse))
   rw[q2,rlb,zy (by simp)];have e1:ltZ ((r:Int)::q.rows.reverse)=BK q.rows:=by
    have:(r:Int)::q.rows.reverse=[(r:Int)]++q.rows.reverse:=rfl;rw[this,zy qrne,vb]
   rw[e1];congr 1;unfold fU at p3 q3 ⊢;rw[aU,bq,j9];have:odd (p.rows.length+(q.rows.length+1))=(odd p.rows.length ^^ !odd q.rows.length):=by
    unfold odd;rcases dY p.rows.length with h | h<;>rcases dY q.rows.length with h' | h'<;>simp[Nat.add_mod,h,h']
   rw[this]
   revert p3 q3
   cases p.s<;>cases q.s<;>cases odd p.rows.length<;>cases odd q.rows.length<;>cases ta<;>decide
  have r3:p.more.map (λx=>(ii l2 l1 x.1,x.2))=Pc.more ⟨l1,p.rows++(r:Int)::q.rows.reverse,p.s,p.main⟩:=by
   unfold Pc.more;cases hmp:p.main with
   | true=>rfl
   | false=>
    show [((BK p.rows,if p.lab=l2 then l1 else p.lab),p.s)]=[((BK (p.rows++(r:Int)::q.rows.reverse),l1),p.s)]
    rw[AH pne,p2,rla]
  rw[r1,r2,r3];exact cL
 ·have h1:=G.bows u;rw[au,au] at h1;rw[au];have e4:(Pc.bows u ⟨l1,p.rows++(r:Int)::q.rows.reverse,p.s,p.main⟩).Perm ((o u,(r:Int))::(p.bows u++q.bows u)):=by
   show (chain p.s (p.rows++(r:Int)::q.rows.reverse) u).Perm _;rw[pC _ _ _ _ pne,p1,p3];obtain⟨x,R,hR⟩:∃x R,q.rows.reverse=x::R:=by
    cases e:q.rows.reverse with
    | nil=>exact absurd e qrne
    | cons x R=>exact⟨x,R,rfl⟩
   have hx:x=o (!ta):=by
    rw[<-q1,<-AG,hR];rfl
   have e5:chain ta ((r:Int)::q.rows.reverse) u=(if (!ta)=u then [(o (!ta),(r:Int))] else [])++chain (!ta) q.rows.reverse u:=by
    rw[hR];show (if (!ta)=u then [(min (r:Int) x,max (r:Int) x)] else [])++chain (!ta) (x::R) u=_;have:=low (!ta);rw[hx];have m1:min (r:Int) (o (!ta))=o (!ta):=by lia
    have m2:max (r:Int) (o (!ta))=(r:Int):=by lia
    rw[m1,m2]
   have m1:min (o ta) (r:Int)=o ta:=by have:=low ta;lia
   have m2:max (o ta) (r:Int)=(r:Int):=by have:=low ta;lia
   rw[e5,m1,m2];have cq:(chain (!ta) q.rows.reverse u).Perm (q.bows u):=by
    have:=qi q.rows q.s u;rw[q3] at this;exact this
   by_cases z:ta=u
   ·have z':¬(!ta)=u:=by rw[<-z];cases ta<;>decide
    rw[Vz z,Vy z',<-z,eh,cS];refine(cL (l₁:=chain p.s p.rows ta) (a:=(o ta,(r:Int))) (l₂:=chain (!ta) q.rows.reverse ta)).trans ?_;rw[<-z] at cq;exact(cq.append_left _).cons _
   ·have z':(!ta)=u:=by revert z;cases ta<;>cases u<;>decide
    rw[Vy z,Vz z',cY];refine(cL (l₁:=chain p.s p.rows u) (a:=(o (!ta),(r:Int))) (l₂:=chain (!ta) q.rows.reverse u)).trans ?_;rw[<-z'];rw[<-z'] at cq;exact(cq.append_left _).cons _
  refine List.Perm.trans ?_ (e4.symm.append_right _);refine(cc (l₁:=f u) (l₂:=[(o u,(r:Int))])).trans ?_;refine List.Perm.cons _ (h1.trans ?_);show (Pc.bows u p++(Pc.bows u q++is.flatMap (Pc.bows u))).Perm ((Pc.bows u p++Pc.bows u q)++is.flatMap (Pc.bows u));rw[cS]
 ·have:=G.stk u;rw[hs u] at this;exact this.close.map λx=>if x=l2 then l1 else x
def Gr.many(G:Gr b st f r is):(st false).length+(st true).length+1=2*is.length:=by
 have h1:=G.ends.length_eq;unfold dh at h1;rw[aU,aD,aD] at h1;have h2:∀js:List Pc,(js.flatMap Pc.ends).length+js.countP Pc.main=2*js.length:=by
  intro js
  induction js with
  | nil=>rfl
  | cons p js ih=>
   rw[au,aU,bh,bq];have:p.ends.length+(if p.main=true then 1 else 0)=2:=by
    unfold Pc.ends Pc.more;cases p.main<;>rfl
   lia
 have:=h2 is;rw[G.one] at this;lia
def Gr.three(G:Gr b st f r is){x y z:Oe×Bool}{L:List (Oe×Bool)}(h:(dh st).Perm (x::y::z::L)):¬(x.1.2=y.1.2/\y.1.2=z.1.2):=by
 rintro⟨e1,e2⟩;have cnt:∀js:List Pc,(js.map Pc.lab).Nodup->∀l,(js.flatMap Pc.ends).countP (λe=>decide (e.1.2=l))<=2:=by
  intro js
  induction js with
  | nil=>intro _ l;exact ac _
  | cons p js ih=>
   intro nd l;rw[bC,cX] at nd;rw[au,iL];have len:p.ends.length<=2:=by unfold Pc.ends Pc.more;cases p.main<;>simp
   by_cases z:p.lab=l
   ·have:(js.flatMap Pc.ends).countP (λe=>decide (e.1.2=l))=0:=gu.mpr λe he=>by
     obtain⟨q,hq,hm⟩:=jE.mp he;have:e.1.2=q.lab:=by
      rcases aL.mp hm with y | y
      ·subst y;rfl
      ·unfold Pc.more at y;cases hmm:q.main with
       | true=>rw[hmm] at y;cases y
       | false=>
        rw[hmm] at y;have e':e=q.fst:=by simpa using y
        subst e';rfl
     simp only[WA];intro w;exact nd.1 (bM.mpr ⟨q,hq,by rw[<-this,w,z]⟩)
    have:=List.countP_le_length (p:=λe:Oe×Bool=>decide (e.1.2=l)) (l:=p.ends);lia
   ·have:p.ends.countP (λe=>decide (e.1.2=l))=0:=gu.mpr λe he=>by
     have:e.1.2=p.lab:=by
      rcases aL.mp he with y | y
      ·subst y;rfl
      ·unfold Pc.more at y;cases hmm:p.main with
       | true=>rw[hmm] at y;cases y
       | false=>
        rw[hmm] at y;have e':e=p.fst:=by simpa using y
        subst e';rfl
     simp only[WA];intro w;exact z (by rw[<-this,w])
    have:=ih nd.2 l;lia
 have h1:=cnt is G.labs x.1.2;rw[<-(G.ends.symm.trans h).symm.countP_eq] at h1;rw[bh,bh,bh] at h1;simp only[e1,e2,decide_true,WE] at h1;lia
def Gr.start (b : Bool) : Gr b (fun u => if u = b then [((0 : Int), (0 : Int))] else []) (fun _ => []) 1 [⟨0, [0], !b, true⟩] := by
  refine ⟨fun p hp => ?_, ?_, by simp, fun p hp => ?_, rfl, fun p hp _ => ?_, ?_, fun t => .refl _, fun t => ?_⟩
  · have e : p = ⟨0, [0], !b, true⟩ := by simpa using hp
    subst e; simp
  · exact .refl _
  · have e : p = ⟨0, [0], !b, true⟩ := by simpa using hp
    subst e; exact (by decide : (0 : Int) < 1)
  · have e : p = ⟨0, [0], !b, true⟩ := by simpa using hp
    subst e; exact ⟨rfl, rfl⟩
  · cases b <;> exact .refl _
  · by_cases z : t = b
    · simp only [z, WE]
      exact ⟨by simp, fun e h => by have e' : e = (0, 0) := by simpa using h
                                    subst e'; decide, fun p h => (nomatch h), fun p h => (nomatch h), fun p h => (nomatch h)⟩
    · simp only [z, WF]
      exact ⟨.nil, fun p h => (nomatch h), fun p h => (nomatch h), fun p h => (nomatch h), fun p h => (nomatch h)⟩
def Gr.last{t:Bool}{o l:Int}(G:Gr b st f r is)(h1:st t=[(o,l)])(h2:st (!t)=[]):
  ∃ns:List Int,ns.length+1=r/\ns.Perm (cF 1 ns.length)/\∀u,(if u=t then f u++[(o,(r:Int))] else f u).Perm (aj b ns u (ns.length+1))/\∀p∈aj b ns u (ns.length+1),∀q∈aj b ns u (ns.length+1),bO p q=false:=by
 have hl:=G.many;have h3:(st false).length+(st true).length=1:=by
  cases t
  ·rw[h1,show st true=[] from h2];rfl
  ·rw[h1,show st false=[] from h2];rfl
 obtain⟨p,rfl⟩:∃p,is=[p]:=by
  match is,(show is.length=1 by lia) with
  | [p],_=>exact⟨p,rfl⟩
 have hm:p.main=true:=by
  have:=G.one;rw[bh] at this;cases z:p.main with
  | true=>rfl
  | false=>rw[z] at this;simp at this
 obtain⟨hd,hs⟩:=G.hd p (by simp) hm;have he:=G.ends;have hp:p.lst=((o,l),t):=by
  have e:dh st=[((o,l),t)]:=by
   unfold dh;cases t
   ·rw[h1,show st true=[] from h2];rfl
   ·rw[h1,show st false=[] from h2];rfl
  rw[e,au,lW,cY] at he;unfold Pc.ends Pc.more at he;rw[hm] at he;have:=List.perm_singleton.mp he.symm;simpa using this
 have G':=G.ext hp (st':=[]) h1;obtain⟨ns,hns⟩:∃ns,p.rows=0::ns:=by
  cases e:p.rows with
  | nil=>rw[e] at hd;cases hd
  | cons a R=>rw[e] at hd;cases hd;exact⟨R,rfl⟩
 have hr:=G.rows;rw[au,lW,cY,hns] at hr;have hlen:=hr.length_eq;rw[bq,pO] at hlen;have hr1:ns.Perm (cF 1 ns.length):=by
  have e:cF 0 r=0::cF 1 ns.length:=by
   rw[<-hlen];unfold cF;rw[mE,bC,bS];congr 1;refine bd λi _=>?_;simp only[Function.comp]
   push_cast
   lia
  rw[e] at hr;exact hr.cons_inv
 have er:p.rows++[(r:Int)]=dI ns:=by
  rw[hns,<-hlen];unfold dI
  push_cast
  rfl
 have ch:∀(k m:Nat) (u:Bool),m=ns.length+1-k->k<=ns.length+1->chain (!(b ^^ odd k)) ((dI ns).drop k) u=(((List.range m).map (·+k)).filter (bj b u)).map (cV ns):=by
  intro k m
  induction m generalizing k with
  | zero=>
   intro u hm hk;have e:k=ns.length+1:=by lia
   have:(dI ns).drop k=[bQ ns k]:=by
    have h:=aH.mp (fT (ns:=ns) (i:=k) (by lia));rw[bX h.1,h.2,mF (by rw[gZ];lia)]
   rw[this];rfl
  | succ m ih=>
   intro u hm hk;have h:=aH.mp (fT (ns:=ns) (i:=k) (by lia));have h':=aH.mp (fT (ns:=ns) (i:=k+1) (by lia));have ih':=ih (k+1) u (by lia) (by lia);rw[bX h.1,h.2,bX h'.1,h'.2];show (if (!!(b ^^ odd k))=u then [(min (bQ ns k) (bQ ns (k+1)),max (bQ ns k) (bQ ns (k+1)))] else [])++chain (!!(b ^^ odd k)) (bQ ns (k+1)::(dI ns).drop (k+1+1)) u=_;have e2:chain (!!(b ^^ odd k)) (bQ ns (k+1)::(dI ns).drop (k+1+1)) u=(((List.range m).map (·+(k+1))).filter (bj b u)).map (cV ns):=by
    rw[<-ih',kI];have e3:(!(b ^^ !odd k))=!!(b ^^ odd k):=by cases b<;>cases odd k<;>rfl
    rw[e3];congr 1;rw[bX h'.1,h'.2]
   rw[e2,mE,bC,bS,List.filter_cons];have e4:((λx=>x+k)∘Nat.succ)=λx=>x+(k+1):=by funext x;simp only[Function.comp];lia
   rw[e4];show _=List.map (cV ns) (if bj b u (0+k)=true then _ else _);rw[mB];have e5:bj b u k=decide ((!!(b ^^ odd k))=u):=by unfold bj;cases b<;>cases u<;>cases odd k<;>rfl
   rw[e5];by_cases z:(!!(b ^^ odd k))=u
   ·rw[Vz z,WC z,Vz rfl];rfl
   ·rw[Vy z,WB z,Vy ax];rfl
 have sb:∀u,Pc.bows u { p with rows:=p.rows++[(r:Int)] }=aj b ns u (ns.length+1):=λu=>by
  show chain p.s (p.rows++[(r:Int)]) u=_;have:=ch 0 (ns.length+1) u rfl (ac _);rw[show odd 0=false from rfl,kW] at this;rw[hs,er];refine Eq.trans this ?_;unfold aj;congr 2;simp
 have pu:∀u,(if u=t then f u++[(o,(r:Int))] else f u).Perm (aj b ns u (ns.length+1)):=λu=>by
  have:=G'.bows u;rw[au,lW,cY,sb u] at this;exact this
 refine⟨ns,hlen,hr1,λu=>⟨pu u,λx hx y hy=>?_⟩⟩;exact(G'.stk u).nc x ((pu u).mem_iff.mpr hx) y ((pu u).mem_iff.mpr hy)
end
def d8(st:Bool->List Oe):List Int:=(st false++(st true).reverse).map (·.2)
def pW(st:Bool->List Oe):(d8 st).length=(st false).length+(st true).length:=by simp[d8]
def Fr(A B:Bool->Addr)(H H':Hp):Prop:=∀b o,(∀u,b≠A u/\b≠B u)->H b=some o->H' b=some o
def Fr.refl(A B:Bool->Addr)(H:Hp):Fr A B H H:=λ_ _ _ h=>h
def Fr.trans{A B:Bool->Addr}{H H1 H2:Hp}(a:Fr A B H H1)(b:Fr A B H1 H2):Fr A B H H2:=λc o n h=>b c o n (a c o n h)
def Fr.new{A B:Bool->Addr}{H H':Hp}{t:Addr}{o:HO}(a:Fr A B H H')(n:H' t=none):Fr A B H (bE H' t o):=λc u m h=>by
 have:=a c u m h;rw[aI (av this n)];exact this
def Fr.updA{A B:Bool->Addr}{H H':Hp}{o:HO}(a:Fr A B H H')(u:Bool):Fr A B H (bE H' (A u) o):=λc v m h=>by rw[aI (m u).1];exact a c v m h
def Fr.updB{A B:Bool->Addr}{H H':Hp}{o:HO}(a:Fr A B H H')(u:Bool):Fr A B H (bE H' (B u) o):=λc v m h=>by rw[aI (m u).2];exact a c v m h
structure GS (H:Hp) (oe fd:Addr) (A B:Bool->Addr) (st:Bool->List Oe) (f:Bool->List Bw):Prop where
 oe_:H oe=some (.lst [.ref (A false),.ref (A true)])
 fd_:H fd=some (.lst [.ref (B false),.ref (B true)])
 s:∀ u,c7 H (A u) (st u)
 f_:∀ u,c7 H (B u) (f u)
 na:A false≠A true
 nb:B false≠B true
 ab:∀ u v,A u≠B v
 no:∀ u,oe≠A u/\oe≠B u/\fd≠A u/\fd≠B u
section
variable {H:Hp} {oe fd:Addr} {A B:Bool->Addr} {st:Bool->List Oe} {f:Bool->List Bw}
def GS.aa(G:GS H oe fd A B st f){u v:Bool}(h:u≠v):A u≠A v:=by
 cases u<;>cases v<;>first | exact absurd rfl h | exact G.na | exact G.na.symm
def GS.bb(G:GS H oe fd A B st f){u v:Bool}(h:u≠v):B u≠B v:=by
 cases u<;>cases v<;>first | exact absurd rfl h | exact G.nb | exact G.nb.symm
def GS.same{H':Hp}(G:GS H oe fd A B st f)(s:aV H H'):GS H' oe fd A B st f:=
 ⟨s _ _ G.oe_,s _ _ G.fd_,λu=>(G.s u).same s,λu=>(G.f_ u).same s,G.na,G.nb,G.ab,G.no⟩
def GS.new{t:Addr}{o:HO}(G:GS H oe fd A B st f)(n:H t=none):GS (bE H t o) oe fd A B st f:=G.same ((aV.refl H).new n)
def nS{l:Addr}{S:List Bw}{p:Bw}(h:c7 H l (S++[p])):∃(as:List Addr) (a:Addr),H l=some (.lst (as.map V.ref++[.ref a]))/\Paired (bi H) as S/\bi H a p/\as.length=S.length:=by
 obtain⟨bs,h1,h2⟩:=h;have key:∀{bs:List Addr} {S:List Bw},Paired (bi H) bs (S++[p])->∃as a,bs=as++[a]/\Paired (bi H) as S/\bi H a p:=by
  intro bs S
  induction S generalizing bs with
  | nil=>intro h;cases h with | cons x y=>cases y;exact⟨[],_,rfl,.nil,x⟩
  | cons q S ih=>intro h;cases h with | cons x y=>obtain⟨as,a,rfl,h3,h4⟩:=ih y;exact⟨_::as,a,rfl,.cons x h3,h4⟩
 obtain⟨as,a,rfl,h3,h4⟩:=key h2;exact⟨as,a,by rw[h1,ar];rfl,h3,h4,ba h3⟩
def sX{l:Addr}{as:List Addr}{S:List Bw}{xs ys:List V}(hl:H l=some (.lst xs))(h:Paired (bi H) as S):Paired (bi (bE H l (.lst ys))) as S:=
 Paired.mapP h λa p ta=>by
  have:a≠l:=λe=>by subst e;unfold bi at ta;rw[hl] at ta;cases ta
  unfold bi;rw[aI this];exact ta
def GS.setA(G:GS H oe fd A B st f)(u:Bool){as:List Addr}{S:List Oe}(h:Paired (bi H) as S):GS (bE H (A u) (.lst (as.map V.ref))) oe fd A B (λv=>if v=u then S else st v) f:=by
 obtain⟨bs,e,_⟩:=G.s u;refine⟨by rw[aI (G.no u).1];exact G.oe_,by rw[aI (G.no u).2.2.1];exact G.fd_,λv=>?_,λv=>hZ (G.f_ v) e (G.ab u v).symm,G.na,G.nb,G.ab,G.no⟩;by_cases z:v=u
 ·subst z;simp only[WE];exact⟨as,aC,sX e h⟩
 ·simp only[z,WF];exact hZ (G.s v) e (G.aa z)
def GS.setB(G:GS H oe fd A B st f)(u:Bool){as:List Addr}{S:List Bw}(h:Paired (bi H) as S):GS (bE H (B u) (.lst (as.map V.ref))) oe fd A B st (λv=>if v=u then S else f v):=by
 obtain⟨bs,e,_⟩:=G.f_ u;refine⟨by rw[aI (G.no u).2.1];exact G.oe_,by rw[aI (G.no u).2.2.2];exact G.fd_,λv=>hZ (G.s v) e (G.ab v u),λv=>?_,G.na,G.nb,G.ab,G.no⟩;by_cases z:v=u
 ·subst z;simp only[WE];exact⟨as,aC,sX e h⟩
 ·simp only[z,WF];exact hZ (G.f_ v) e (G.bb z)
def GS.pop(G:GS H oe fd A B st f){u:Bool}{S:List Oe}{p:Oe}(h:st u=S++[p]):∃(xs:List V) (a:Addr),H (A u)=some (.lst (xs++[.ref a]))/\bi H a p/\GS (bE H (A u) (.lst xs)) oe fd A B (λv=>if v=u then S else st v) f:=by
 have:=G.s u;rw[h] at this;obtain⟨as,a,e,hp,ta,_⟩:=nS this;exact⟨as.map V.ref,a,e,ta,G.setA u hp⟩
def GS.push(G:GS H oe fd A B st f)(u:Bool){t:Addr}{p:Oe}(ht:bi H t p):∃xs:List V,H (A u)=some (.lst xs)/\xs.length=(st u).length/\GS (bE H (A u) (.lst (xs++[.ref t]))) oe fd A B (λv=>if v=u then st u++[p] else st v) f:=by
 obtain⟨as,e,hp⟩:=G.s u;have:=G.setA u (uV hp ht);rw[ar] at this;exact⟨as.map V.ref,e,by rw[aD];exact ba hp,this⟩
def GS.add(G:GS H oe fd A B st f)(u:Bool){t:Addr}{p:Bw}(ht:bi H t p):∃xs:List V,H (B u)=some (.lst xs)/\xs.length=(f u).length/\GS (bE H (B u) (.lst (xs++[.ref t]))) oe fd A B st (λv=>if v=u then f u++[p] else f v):=by
 obtain⟨as,e,hp⟩:=G.f_ u;have:=G.setB u (uV hp ht);rw[ar] at this;exact⟨as.map V.ref,e,by rw[aD];exact ba hp,this⟩
end
def pz(st:Bool->List Oe)(k:Nat):Bool:=
 if k=3 then decide (st false≠[])&&(decide (st true≠[])&&decide (((st false).getLast?.map (·.2))≠((st true).getLast?.map (·.2))))
 else if k=1 then decide (st true≠[]) else decide (k=0) || decide (st false≠[])
inductive LQ (st:Bool->List Oe) (f:Bool->List Bw) (r:Nat):Nat->(Bool->List Oe)->(Bool->List Bw)->Prop
 | a:LQ st f r 0 (fun u=>st u++[((r:Int),(r:Int))]) f
 | b {S:List Oe} {o l:Int}:st true=S++[(o,l)]->LQ st f r 1 (fun u=>if u=true then S else st u++[((r:Int),l)]) (fun u=>if u=true then f u++[(o,(r:Int))] else f u)
 | c {S:List Oe} {o l:Int}:st false=S++[(o,l)]->LQ st f r 2 (fun u=>if u=false then S else st u++[((r:Int),l)]) (fun u=>if u=false then f u++[(o,(r:Int))] else f u)
 | d {n' f':List Oe} {o1 l1 o2 l2:Int}:st false=n'++[(o1,l1)]->st true=f'++[(o2,l2)]->l1≠l2->LQ st f r 3 (fun u=>(if u then f' else n').map (ii l2 l1)) (fun u=>f u++[(if u then o2 else o1,(r:Int))])
def Ib{st:Bool->List Oe}{k:Nat}(f:Bool->List Bw)(r:Nat)(hk:k<4)(h:pz st k=true):∃st' f',LQ st f r k st' f':=by
 have sn:∀S:List Oe,S≠[]->∃T o l,S=T++[(o,l)]:=λS h=>by
  rcases mm S with e | ⟨T,⟨o,l⟩,e⟩
  ·exact absurd e h
  ·exact⟨T,o,l,by rw[e,mq]⟩
 match k,hk with
 | 0,_=>exact⟨_,_,.a⟩
 | 1,_=>obtain⟨T,o,l,e⟩:=sn (st true) (WD h);exact⟨_,_,.b e⟩
 | 2,_=>
  have h':(false || decide (st false≠[]))=true:=h;rw[Bool.false_or] at h';obtain⟨T,o,l,e⟩:=sn (st false) (WD h');exact⟨_,_,.c e⟩
 | 3,_=>
  have h':(decide (st false≠[])&&(decide (st true≠[])&&decide (((st false).getLast?.map (·.2))≠((st true).getLast?.map (·.2)))))=true:=h;rw[ai,ai] at h';obtain⟨T,o,l,e⟩:=sn (st false) (WD h'.1);obtain⟨T',o',l',e'⟩:=sn (st true) (WD h'.2.1);have:=WD h'.2.2;rw[e,e'] at this;exact⟨_,_,.d e e' λz=>this (by simp[z])⟩
def tO{α:Type}(xs:List α)(v:α):tS (xs++[v]) (-1)=some v:=by
 unfold tS;have e:yl (xs++[v]).length (-1)=some xs.length:=by
  unfold yl;rw[aU,bu,Vy (by decide),Vz (by lia)];congr 1;lia
 rw[e];simp
def oI(S:List Oe)(p:Oe):((S++[p]).getLast?.map (·.2))=some p.2:=by simp
def k9(S:List Oe):S=[]\/∃T o l,S=T++[(o,l)]:=by
 rcases mm S with e | ⟨T,⟨o,l⟩,e⟩
 ·exact .inl e
 ·exact .inr ⟨T,o,l,by rw[e,mq]⟩
def k8{H:Hp}{l a:Addr}{p:Bw}{xs ys:List V}(hl:H l=some (.lst xs))(h:bi H a p):bi (bE H l (.lst ys)) a p:=by
 have:a≠l:=λe=>by subst e;unfold bi at h;rw[hl] at h;cases h
 unfold bi;rw[aI this];exact h
def GS.cg{H:Hp}{oe fd:Addr}{A B:Bool->Addr}{st st':Bool->List Oe}{f f':Bool->List Bw}(G:GS H oe fd A B st f)(h:∀u,st u=st' u)(h':∀u,f u=f' u):GS H oe fd A B st' f':=by
 rw[<-funext h,<-funext h'];exact G
def Ck(X:List Oe)(g:Oe->Oe){k:Nat}{e:Oe}(h:X[k]? = some e):((X.take k).map g++X.drop k)[k]? = some e/\((X.take k).map g++X.drop k).set k (g e)=(X.take (k+1)).map g++X.drop (k+1):=by
 obtain⟨hk,he⟩:=aH.mp h;have hl:((X.take k).map g).length=k:=by rw[aD,cZ];lia
 have hd:X.drop k=e::X.drop (k+1):=by rw[bX hk,he]
 refine⟨?_,?_⟩
 ·rw[cG (by lia),hl,qG,hd];rfl
 ·rw[List.set_append_right _ _ (by lia),hl,qG,hd,List.set_cons_zero,bV,h,ar];simp
def wa{H:Hp}:∀{as:List Addr} {S:List Bw} {i:Nat} {t:Addr} {q:Bw},Paired (bi H) as S->bi H t q->Paired (bi H) (as.set i t) (S.set i q)
 | [],_,_,_,_,h,_=>by cases h;exact .nil
 | a::as,_,0,t,q,h,ht=>by cases h with | cons x y=>exact .cons ht y
 | a::as,_,i+1,t,q,h,ht=>by cases h with | cons x y=>exact .cons x (wa y ht)
def GS.get{H:Hp}{oe fd:Addr}{A B:Bool->Addr}{st:Bool->List Oe}{f:Bool->List Bw}(G:GS H oe fd A B st f)(u:Bool){i:Nat}{e:Oe}(h:(st u)[i]? = some e):∃(as:List Addr) (a:Addr),H (A u)=some (.lst (as.map V.ref))/\(as.map V.ref)[i]? = some (.ref a)/\bi H a e/\Paired (bi H) as (st u):=by
 obtain⟨as,h1,h2⟩:=G.s u;obtain⟨as',c1,cl,bg⟩:=(G.s u).get;rw[h1] at c1;have ea:as.map V.ref=as'.map V.ref:=by injection c1 with c1;injection c1 with c1
 have hi:i<(as'.map V.ref).length:=by rw[aD,cl];exact(aH.mp h).1
 obtain⟨a,p,e1,e2,e3⟩:=bg i _ (aS hi);rw[h] at e2;cases e2;exact⟨as,a,h1,by rw[ea,aS hi,e1],e3,h2⟩
def GS.set{H:Hp}{oe fd:Addr}{A B:Bool->Addr}{st:Bool->List Oe}{f:Bool->List Bw}(G:GS H oe fd A B st f)(u:Bool){as:List Addr}(i:Nat){t:Addr}{q:Oe}(h:Paired (bi H) as (st u))(ht:bi H t q):GS (bE H (A u) (.lst ((as.map V.ref).set i (.ref t)))) oe fd A B (λv=>if v=u then (st u).set i q else st v) f:=by
 have:=G.setA u (wa (i:=i) h ht);rw[List.map_set] at this;exact this
def Fl{n i:Nat}(h:i<n):yl n (i:Int)=some i:=by
 unfold yl;rw[Vz (by lia),Vz (by lia)];simp
def qD(m:Int)(k:Nat):Int:=m+2*(if k=0 then 1 else 0) - 2*(if k=3 then 1 else 0)
structure Found (H:Hp) (fd:Addr) (g:Bool->Addr) (b:Bool) (ns:List Int) (Fs:Bool->List Bw):Prop where
 at_:H fd=some (.lst [.ref (g false),.ref (g true)])
 bows:∀ u,c7 H (g u) (Fs u)
 perm:∀ u,(Fs u).Perm (aj b ns u (ns.length+1))
 ord:gm ns
def Found.same{H H':Hp}{fd:Addr}{g:Bool->Addr}{b:Bool}{ns:List Int}{Fs:Bool->List Bw}(F:Found H fd g b ns Fs)(s:aV H H'):Found H' fd g b ns Fs:=⟨s _ _ F.at_,λu=>(F.bows u).same s,F.perm,F.ord⟩
def Found.sum{H:Hp}{fd:Addr}{g:Bool->Addr}{b:Bool}{ns:List Int}{Fs:Bool->List Bw}(F:Found H fd g b ns Fs):(Fs false).length+(Fs true).length=ns.length+1:=by
 rw[(F.perm false).length_eq,(F.perm true).length_eq,pJ]
def NC(b:Bool)(ns:List Int):Prop:=∀u,∀p∈aj b ns u (ns.length+1),∀q∈aj b ns u (ns.length+1),bO p q=false
def uh:∀(R:List Int) (s t:Bool),(chain s R t).length<=R.length
 | [],_,_=>ac _
 | [a],_,_=>ac _
 | a::b::R,s,t=>by
  have ih:=uh (b::R) (!s) t;show ((if (!s)=t then [(min a b,max a b)] else [])++chain (!s) (b::R) t).length<=_;rw[aU,bq]
  split
  ·simp only[bu];lia
  ·simp only[em];lia
def Gr.small{b:Bool}{st:Bool->List Oe}{f:Bool->List Bw}{r:Nat}{is:List Pc}(G:Gr b st f r is):∀u,(st u).length<=2*r/\(f u).length<=r:=by
 have h1:=G.rows.length_eq;rw[pO] at h1;have h2:∀js:List Pc,(∀p∈js,p.rows≠[])->js.length<=(js.flatMap Pc.rows).length:=by
  intro js
  induction js with
  | nil=>intro _;exact ac _
  | cons p js ih=>
   intro h;have i1:=ih λq hq=>h q (aM _ hq);have i2:0<p.rows.length:=List.length_pos_iff.mpr (h p a7);rw[au,aU,bq];lia
 have h3:∀(js:List Pc) u,(js.flatMap (Pc.bows u)).length<=(js.flatMap Pc.rows).length:=by
  intro js u
  induction js with
  | nil=>exact ac _
  | cons p js ih=>
   have:=uh p.rows p.s u;rw[au,au,aU,aU];show (chain p.s p.rows u).length+_<=_;lia
 have h4:=h2 is G.ne;have h5:=G.many;intro u;refine⟨?_,?_⟩
 ·cases u<;>lia
 ·rw[(G.bows u).length_eq];exact cH (h3 is u) (mD h1)
def Fr.toSame{A B:Bool->Addr}{H H0 H':Hp}(n:∀u,H (A u)=none/\H (B u)=none)(s:aV H H0)(f:Fr A B H0 H'):aV H H':=λb o h=>
 f b o (λu=>⟨av h (n u).1,av h (n u).2⟩) (s b o h)
def FQ{F:Addr->Oe->Prop}{l:List Addr}{m:List Oe}(h:Paired F l m):∀{i:Nat} {e:Oe},m[i]? = some e->∃a,l[i]? = some a/\F a e:=by
 induction h with
 | nil=>intro i e h;simp at h
 | cons a b ih=>
  intro i e h;cases i with
  | zero=>cases h;exact⟨_,rfl,a⟩
  | succ i=>exact ih h
def rV:Sp:=λvs H Q _=>∃m o b ns,vs=[.ref m]/\dj H m o b ns/\ns.length<=40/\∀fd (g:Bool->Addr) H',H fd=none->(∀u,H (g u)=none)->aV H H'->H' fd=some (.lst [.ref (g false),.ref (g true)])->(∀u,c7 H' (g u) (aj b ns u (ns.length+1)))->g false≠g true->Q (.ref fd) H'
def hW(ps:List Bw):Bool:=ps.any λp=>ps.any λq=>bO p q
def qu:Sp:=λvs H Q _=>∃l ps,vs=[.ref l]/\c7 H l ps/\Q (.bl (hW ps)) H
def ke{ps:List Bw}(h:∀p∈ps,∀q∈ps,bO p q=false):hW ps=false:=by
 unfold hW;rw[kt];intro p hp;rw[Bool.not_eq_true,kt];intro q hq;rw[h p hp q hq];decide
def ph{ps:List Bw}{p q:Bw}(hp:p∈ps)(hq:q∈ps)(h:bO p q=true):hW ps=true:=lX.mpr ⟨p,hp,lX.mpr ⟨q,hq,h⟩⟩
end Rm
namespace L2
open PySem PySem.Spec PyProof.Rows
structure qp (z TI TO i1 i2:Addr) (f1 f2:List Addr):Prop where
 tz:TI≠z
 oz:TO≠z
 az:i1≠z
 bz:i2≠z
 to:TI≠TO
 ta:TI≠i1
 tb:TI≠i2
 oa:TO≠i1
 ob:TO≠i2
 ab:i1≠i2
 z1:z∉f1
 o1:TO∉f1
 b1:i2∉f1
 z2:z∉f2
 o2:TO∉f2
 a2:i1∉f2
section
variable {prog:Program} {w:World} {A:Around} {E:Value->Shared->Prop} {s:Shared} {z TI TO i1 i2:Addr} {f1 f2:List Addr} {n1 n2 k:Nat} {P1 P2:Nat->Value->Prop} {S1 S2:Nat->Heap->Prop} {a b:Value}
def f9{it:Addr}{fp:List Addr}{n i:Nat}{P:Nat->Value->Prop}{S:Nat->Heap->Prop}{h h':Heap}{c:Addr}(D:Draws prog w A it fp n P S)(st:S i h)(sb:Heap.SameBut c h h')(hc:c∉fp):S i h':=
 D.frame i h h' st λb hb o e=>(sb.2 b (λq=>hc (q▸hb))).trans e
def AX{Q:Value->Shared->Prop}(D1:Draws prog w A i1 f1 n1 P1 S1)(D2:Draws prog w A i2 f2 n2 P2 S2)(ap:qp z TI TO i1 i2 f1 f2)(hz:IsZip s.heap z TI TO .none)(hTI:IsPair s.heap TI (.ref i1) (.ref i2))(hTO:IsPair s.heap TO a b)(h1:S1 k s.heap)(h2:S2 k s.heap)(k1:k<n1)(k2:k<n2)
  (hQ:∀(h':Heap) (x y:Value) (tk:Nat),P1 k x->P2 k y->IsZip h' z TI TO (rawInt s.heap.objs.size)->IsPair h' TO x y->S1 (k+1) h'->S2 (k+1) h'->IsPair h' s.heap.objs.size x y->(∀c o,c≠z->c≠TO->c≠i1->c≠i2->s.heap.get? c=some o->h'.get? c=some o)->Q (.ref s.heap.objs.size) { s with heap:=h',toks:=tk }) :
  wpAny (model prog w) A (Builtin.«zip.__next__» ⟨[.ref z],[]⟩) (λfin s'=>∃v,fin=.done (.ret v)/\Q v s') E s:=by
 show wpAny _ _ (field (.ref z) 2>>=_) _ _ _;refine wpAny_bind (Vr hz rfl (x:=.bool false) rfl ?_);show wpAny _ _ (field (.ref z) 3>>=_) _ _ _;refine wpAny_bind (Vr hz rfl (x:=.ref TI) rfl ?_);refine wpAny_bind (Vs hTI rfl ?_);show wpAny _ _ (Builtin.SmallTypes.ownedTupleIsFree (.ref z)>>=_) _ _ _;refine wpAny_bind ?_;unfold Builtin.SmallTypes.ownedTupleIsFree;refine wpAny_bind (Vr hz rfl (x:=.none) rfl (Va ?_));simp only[WE];refine wpAny_bind (wpAny_rule ?_);refine wpAny_bind (Vr hz rfl (x:=.ref TO) rfl ?_);refine wpAny_bind (Vu hz (by simp) λg1 hz1 b1=>?_)
 replace hz1:IsZip g1 z TI TO .ellipsis:=hz1
 refine wpAny_bind ?_;simp only[List.zipIdx_cons,List.zipIdx_nil,jZ,List.forIn_nil];refine wpAny_bind (wpAny_bind (wpAny_onRaise ?_));show wpAny _ _ (Builtin.SmallTypes.nextOf (.ref i1)>>=_) _ _ _;refine wpAny_bind (D1.item k { s with heap:=g1 } _ _ k1 (f9 D1 h1 b1 ap.z1) λx g2 t2 px s2 b2=>Va ?_);have hT2:IsPair g2 TO a b:=b2.extBut _ _ ap.oa (b1.extBut _ _ ap.oz hTO);refine wpAny_bind (Vs hT2 rfl ?_);refine wpAny_bind (wpAny_updateSeq_pair hT2 λg3 hT3 b3=>?_)
 replace hT3:IsPair g3 TO x b:=hT3
 refine wpAny_bind (wpAny_letGo (Va ?_));refine wpAny_bind (wpAny_bind (wpAny_onRaise ?_));show wpAny _ _ (Builtin.SmallTypes.nextOf (.ref i2)>>=_) _ _ _;refine wpAny_bind (D2.item k { s with heap:=g3,toks:=t2 } _ _ k2 (f9 D2 (f9 D2 (f9 D2 h2 b1 ap.z2) b2 ap.a2) b3 ap.o2) λy g4 t4 py s4 b4=>Va ?_);have hT4:IsPair g4 TO x b:=b4.extBut _ _ ap.ob hT3;refine wpAny_bind (Vs hT4 rfl ?_);refine wpAny_bind (wpAny_updateSeq_pair hT4 λg5 hT5 b5=>?_)
 replace hT5:IsPair g5 TO x y:=hT5
 refine wpAny_bind (wpAny_letGo (Va (Va ?_)));refine wpAny_bind (Vs hT5 rfl ?_);refine wpAny_bind (wpAny_newTuple ?_);have hsz:g5.objs.size=s.heap.objs.size:=by rw[b5.1,b4.1,b3.1,b2.1,b1.1]
 have hz5:IsZip g5 z TI TO .ellipsis:=b5.extBut _ _ ap.oz.symm (b4.extBut _ _ ap.bz.symm (b3.extBut _ _ ap.oz.symm (b2.extBut _ _ ap.az.symm hz1)));have kp5:∀c o,c≠z->c≠TO->c≠i1->c≠i2->s.heap.get? c=some o->g5.get? c=some o:=λc o c1 c2 c3 c4 e=>b5.extBut _ _ c2 (b4.extBut _ _ c4 (b3.extBut _ _ c2 (b2.extBut _ _ c3 (b1.extBut _ _ c1 e))));have w1:S1 (k+1) g5:=f9 D1 (f9 D1 (f9 D1 s2 b3 ap.o1) b4 ap.b1) b5 ap.o1;have w2:S2 (k+1) g5:=f9 D2 s4 b5 ap.o2;have zlt:z<g5.objs.size:=aR hz5;show wpAny _ _ (Builtin.SmallTypes.ownedTupleHandOut (.ref z) (.ref g5.objs.size)>>=_) _ _ _;refine wpAny_bind ?_;unfold Builtin.SmallTypes.ownedTupleHandOut;have hz6:IsZip (g5.push { cls:=.type "tuple",data:=.seq #[x,y] }) z TI TO .ellipsis:=aB _ hz5;refine wpAny_bind (Vu hz6 (by simp) λg7 hz7 b7=>?_)
 replace hz7:IsZip g7 z TI TO (rawInt g5.objs.size):=hz7
 refine Vu hz7 (by simp) λg8 hz8 b8=>?_
 replace hz8:IsZip g8 z TI TO (rawInt g5.objs.size):=hz8
 have up:∀c o,c≠z->g5.get? c=some o->g8.get? c=some o:=λc o c1 e=>b8.extBut _ _ c1 (b7.extBut _ _ c1 (aB _ e));have hP:IsPair g8 g5.objs.size x y:=b8.extBut _ _ (gh zlt) (b7.extBut _ _ (gh zlt) (aN _ rfl));rw[hsz] at hz8 hP;refine Va ⟨_,rfl,?_⟩;show Q (.ref g5.objs.size) _;rw[hsz];exact hQ g8 x y t4 px py hz8 (up _ _ ap.oz hT5) (D1.frame _ _ _ w1 λc hc o e=>up c o (λq=>ap.z1 (q▸hc)) e) (D2.frame _ _ _ w2 λc hc o e=>up c o (λq=>ap.z2 (q▸hc)) e) hP λc o c1 c2 c3 c4 e=>up c o c1 (kp5 c o c1 c2 c3 c4 e)
def Bf{Q:Fin->Shared->Prop}(D1:Draws prog w A i1 f1 n1 P1 S1)(ap:qp z TI TO i1 i2 f1 f2)(hz:IsZip s.heap z TI TO .none)(hTI:IsPair s.heap TI (.ref i1) (.ref i2))(h1:S1 n1 s.heap)
  (hE:∀h' e,(∀c o,c≠z->c≠i1->s.heap.get? c=some o->h'.get? c=some o)->(∃o,h'.get? e=some o/\o.cls=.type "StopIteration")->E (.ref e) { s with heap:=h' }):wpAny (model prog w) A (Builtin.«zip.__next__» ⟨[.ref z],[]⟩) Q E s:=by
 show wpAny _ _ (field (.ref z) 2>>=_) _ _ _;refine wpAny_bind (Vr hz rfl (x:=.bool false) rfl ?_);show wpAny _ _ (field (.ref z) 3>>=_) _ _ _;refine wpAny_bind (Vr hz rfl (x:=.ref TI) rfl ?_);refine wpAny_bind (Vs hTI rfl ?_);show wpAny _ _ (Builtin.SmallTypes.ownedTupleIsFree (.ref z)>>=_) _ _ _;refine wpAny_bind ?_;unfold Builtin.SmallTypes.ownedTupleIsFree;refine wpAny_bind (Vr hz rfl (x:=.none) rfl (Va ?_));simp only[WE];refine wpAny_bind (wpAny_rule ?_);refine wpAny_bind (Vr hz rfl (x:=.ref TO) rfl ?_);refine wpAny_bind (Vu hz (by simp) λg1 hz1 b1=>?_)
 replace hz1:IsZip g1 z TI TO .ellipsis:=hz1
 refine wpAny_bind ?_;simp only[List.zipIdx_cons,List.zipIdx_nil,jZ,List.forIn_nil];refine wpAny_bind (wpAny_bind (wpAny_onRaise ?_));show wpAny _ _ (Builtin.SmallTypes.nextOf (.ref i1)>>=_) _ _ _;refine wpAny_bind (D1.done { s with heap:=g1 } _ _ (f9 D1 h1 b1 ap.z1) λg2 e b2 he=>?_);obtain⟨oe,hoe,hce⟩:=he;have hz2:IsZip g2 z TI TO .ellipsis:=b2 _ _ ap.az.symm hz1;have hez:e≠z:=λx=>by subst x;rw[hz2] at hoe;cases hoe;simp at hce
 exact Vu hz2 (by simp) λg3 _ b3=>hE g3 e (λc o c1 c3 x=>b3.extBut _ _ c1 (b2 _ _ c3 (b1.extBut _ _ c1 x))) ⟨oe,b3.extBut _ _ hez hoe,hce⟩
def sr{Q:Option Value->Shared->Prop}(D1:Draws prog w A.in1 i1 f1 n1 P1 S1)(D2:Draws prog w A.in1 i2 f2 n2 P2 S2)(ap:qp z TI TO i1 i2 f1 f2)(hz:IsZip s.heap z TI TO .none)(hTI:IsPair s.heap TI (.ref i1) (.ref i2))(hTO:IsPair s.heap TO a b)(h1:S1 k s.heap)(h2:S2 k s.heap)(k1:k<n1)(k2:k<n2)
  (hQ:∀(h':Heap) (x y:Value) (tk:Nat),P1 k x->P2 k y->IsZip h' z TI TO (rawInt s.heap.objs.size)->IsPair h' TO x y->S1 (k+1) h'->S2 (k+1) h'->IsPair h' s.heap.objs.size x y->(∀c o,c≠z->c≠TO->c≠i1->c≠i2->s.heap.get? c=some o->h'.get? c=some o)->Q (some (.ref s.heap.objs.size)) { s with heap:=h',toks:=tk }) :
  wpAny (model prog w) A (pyNext (.ref z)) Q E s:=by
 have hT:s.TypeIs (.ref z) "zip":=⟨_,hz,rfl⟩
 unfold pyNext;exact wpAny_bind (Vm (wpAny_callSpecial?_slot (name:=Str.ofString "__next__") hT j4 (Vk j4 hT F.entry_zip_next (AX D1 D2 ap hz hTI hTO h1 h2 k1 k2 λh' x y tk q1 q2 q3 q4 q5 q6 q7 q8=>Va (hQ h' x y tk q1 q2 q3 q4 q5 q6 q7 q8)) (F.args_zip_next_1 _))))
def uX{Q:Option Value->Shared->Prop}(D1:Draws prog w A.in1 i1 f1 n1 P1 S1)(ap:qp z TI TO i1 i2 f1 f2)(hz:IsZip s.heap z TI TO .none)(hTI:IsPair s.heap TI (.ref i1) (.ref i2))(h1:S1 n1 s.heap)
  (hQ:∀h',(∀c o,c≠z->c≠i1->s.heap.get? c=some o->h'.get? c=some o)->Q none { s with heap:=h' }):wpAny (model prog w) A (pyNext (.ref z)) Q E s:=by
 have hT:s.TypeIs (.ref z) "zip":=⟨_,hz,rfl⟩
 unfold pyNext;refine wpAny_bind (Vm (wpAny_callSpecial?_slot (name:=Str.ofString "__next__") hT j4 (Vk j4 hT F.entry_zip_next (Bf D1 ap hz hTI h1 λh' e hk he=>?_) (F.args_zip_next_1 _))));obtain⟨o,ho,hc⟩:=he;exact wpAny_bind (wpAny_isInstance (T:="StopIteration") (b:=true) ⟨o,ho,hc⟩ isSubtype_stop (Va (hQ _ hk)))
end
abbrev Bd (h:Heap) (l:Addr):Heap:=h.push { cls:=.type "tuple_iterator",data:=.fields #[.ref l,.int 0 0] }
abbrev L5 (h:Heap) (l1 l2:Addr):Heap:=(Bd (Bd h l1) l2).push { cls:=.type "tuple",data:=.seq #[.ref h.objs.size,.ref (Bd h l1).objs.size] }
abbrev L4 (h:Heap) (l1 l2:Addr):Heap:=(L5 h l1 l2).push { cls:=.type "tuple",data:=.seq #[.none,.none] }
abbrev KH (h:Heap) (l1 l2:Addr):Heap:=(L4 h l1 l2).push { cls:=.type "zip",data:=.fields #[.none,.bool false,.bool false,.ref (Bd (Bd h l1) l2).objs.size,.ref (L5 h l1 l2).objs.size] }
def Fi (l1 l2:Addr) (xs ys:Array Value):Meets (Builtin.«zip.__new__» ⟨[.type "zip",.ref l1,.ref l2],[]⟩) (λ_ R s=>s.heap.IsTuple l1 xs/\s.heap.IsTuple l2 ys/\R (.ok (.ret (.ref (L4 s.heap l1 l2).objs.size))) { s with heap:=KH s.heap l1 l2 }):=.of_wp λprog w A R s h=>by
  obtain⟨hp,g,d,tk,os⟩:=s;obtain⟨hl1,hl2,h⟩:=h;have hsub:=sub_zip;have hL1:Heap.IsTuple (Shared.heap ⟨hp,g,d,tk,os⟩) l1 xs:=hl1;have hL2:Heap.IsTuple (Shared.heap ⟨hp.push { cls:=.type "tuple_iterator",data:=.fields #[.ref l1,.int 0 0] },g,d,tk,os⟩) l2 ys:=Heap.IsTuple.push hl2 _
  wp_walk using Vc hL1,Vc hL2;exact⟨_,rfl,h⟩
def Jk{prog:Program}{w:World}{A:Around}{E:Value->Shared->Prop}{s:Shared}{l1 l2:Addr}{xs ys:Array Value}{Q:Value->Shared->Prop}(hl1:s.heap.IsTuple l1 xs)(hl2:s.heap.IsTuple l2 ys)
  (h:∀h' n,n=s.heap.objs.size->IsZip h' (n+4) (n+2) (n+3) .none->IsPair h' (n+2) (.ref n) (.ref (n+1))->IsPair h' (n+3) .none .none->h'.IsTupleIter n l1 0->h'.IsTupleIter (n+1) l2 0->(∀c o,s.heap.get? c=some o->h'.get? c=some o)->Q (.ref (n+4)) { s with heap:=h' }):wpAny (model prog w) A (call (.type "zip") [.ref l1,.ref l2]) Q E s:=by
 refine callType_new F.called_zip (by decide) (F.typeCall_zip_2 _ _) (F.newCall_zip_2 _ _) (λobj=>F.args_object_init_3 obj _ _) F.entry_zip_new (Fi l1 l2 xs ys) ⟨hl1,hl2,?_⟩;have z1:(Bd s.heap l1).objs.size=s.heap.objs.size+1:=ck ..;have z2:(Bd (Bd s.heap l1) l2).objs.size=s.heap.objs.size+2:=by rw[ck,z1]
 have z3:(L5 s.heap l1 l2).objs.size=s.heap.objs.size+3:=by rw[ck,z2]
 have z4:(L4 s.heap l1 l2).objs.size=s.heap.objs.size+4:=by rw[ck,z3]
 have g5:(KH s.heap l1 l2).get? (L4 s.heap l1 l2).objs.size=some _:=aN _ rfl;have g4:(KH s.heap l1 l2).get? (L5 s.heap l1 l2).objs.size=some _:=aB _ (aN _ rfl);have g3:(KH s.heap l1 l2).get? (Bd (Bd s.heap l1) l2).objs.size=some _:=aB _ (aB _ (aN _ rfl));have g2:(KH s.heap l1 l2).get? (Bd s.heap l1).objs.size=some _:=aB _ (aB _ (aB _ (aN _ rfl)));have g1:(KH s.heap l1 l2).get? s.heap.objs.size=some _:=aB _ (aB _ (aB _ (aB _ (aN _ rfl))));show _/\_;rw[z2,z3,z4] at g5;rw[z1,z2] at g3;rw[z3] at g4;rw[z1] at g2;rw[z4];exact⟨⟨_,g5,rfl⟩,h _ _ rfl g5 g3 g4 ⟨_,g1,rfl,rfl⟩ ⟨_,g2,rfl,rfl⟩ λc o x=>aB _ (aB _ (aB _ (aB _ (aB _ x))))⟩
def GY(K:WG)(a b:Addr):It:=
  ⟨λi H=>∃xs ys x y,c8 K H a xs/\c8 K H b ys/\xs[i]? = some x/\ys[i]? = some y,
   λi H v H'=>∃p x y,H p=none/\(∀xs,c8 K H a xs->xs[i]? = some x)/\(∀ys,c8 K H b ys->ys[i]? = some y)/\v=.ref p/\H'=bE H p (.tup [x,y]),
   λi H=>∃xs,c8 K H a xs/\xs.length=i⟩
def AZ {P : Program} {w : World} {K : WG} {elts : List Expr} {x1 : Nat} {pos : Pos} (n a b : Addr) (ha : a < n) (hb : b < n) :
    Turn P w K (.Tuple elts x1 pos) (GY K a b) [n + 4, n + 2, n + 3, n, n + 1] (n + 4) (fun i h => IsZip h (n + 4) (n + 2) (n + 3) .none ∧ IsPair h (n + 2) (.ref n) (.ref (n + 1)) ∧ (∃ u v, IsPair h (n + 3) u v) ∧ h.IsTupleIter n a i ∧ h.IsTupleIter (n + 1) b i) := by
  have hap : qp (n + 4) (n + 2) (n + 3) n (n + 1) [n, a] [n + 1, b] := by
    have h1 : @LT.lt Nat _ a n := ha
    have h2 : @LT.lt Nat _ b n := hb
    constructor <;> first
      | (intro h; simp only [aL, cM, or_false] at h; rcases h with h | h <;> (have h' : @Eq Nat _ _ := h; lia))
      | (intro h; have h' : @Eq Nat _ _ := h; lia)
  exact {
    mem := by simp
    obj := fun i h st c hb => by
      obtain ⟨h1, h2, ⟨u, v, h3⟩, ⟨o4, e4, c4, d4⟩, ⟨o5, e5, c5, d5⟩⟩ := st
      simp only [aL, cM, or_false] at hb
      rcases hb with rfl | rfl | rfl | rfl | rfl
      · exact ⟨_, h1, fun v z => by cases z⟩
      · exact ⟨_, h2, fun v z => by cases z⟩
      · exact ⟨_, h3, fun v z => by cases z⟩
      · exact ⟨o4, e4, fun v z => by rw [d4] at z; cases z⟩
      · exact ⟨o5, e5, fun v z => by rw [d5] at z; cases z⟩
    keep := fun i h h' st k => by
      obtain ⟨h1, h2, ⟨u, v, h3⟩, h4, h5⟩ := st
      exact ⟨k _ (by simp) _ h1, k _ (by simp) _ h2, ⟨u, v, k _ (by simp) _ h3⟩, h4.at fun o e => k _ (by simp) o e, h5.at fun o e => k _ (by simp) o e⟩
    item := by
      intro X hP hw hK hc i pins s σ H E I hf st hg
      subst hP hw hK
      obtain ⟨h1, h2, ⟨u0, v0, h3⟩, h4, h5⟩ := st
      obtain ⟨xs, ys, x, y, hqa, hqb, hx, hy⟩ := hg
      obtain ⟨ia, ra, pa, _⟩ := I.tuple hqa
      obtain ⟨ib, rb, pb, _⟩ := I.tuple hqb
      obtain ⟨ua, hua, rua⟩ := ra.get hx
      obtain ⟨ub, hub, rub⟩ := rb.get hy
      have hA : X.A.in1.handled = none := I.ok.hd hc
      have la : i < ia.toArray.size := by rw [aT]; exact (aH.mp hua).1
      have lb : i < ib.toArray.size := by rw [aT]; exact (aH.mp hub).1
      refine sr (Draws.tup hA n a (am ha) ia.toArray) (Draws.tup hA (n + 1) b (am (dC hb)) ib.toArray) hap h1 h2 h3 ⟨h4, pa⟩ ⟨h5, pb⟩ la lb fun h' x' y' tk e1 e2 hz ho hi1 hi2 hp kp => ?_
      have e1' : x' = ua := by have : ia[i]? = some x' := by simpa using e1
                               rw [hua] at this; cases this; rfl
      have e2' : y' = ub := by have : ib[i]? = some y' := by simpa using e2
                               rw [hub] at this; cases this; rfl
      subst e1' e2'
      refine ⟨_, rfl, wpAny_letOwnedTupleGo_zip hz fun hh hz2 hs2 => ?_⟩
      have hn : H s.heap.objs.size = none := I.hok.fresh (aJ _)
      have lz : s.heap.objs.size ≠ n + 4 := gh (aR h1)
      have ht2 : hh.get? s.heap.objs.size = some { cls := .type "tuple", data := .seq #[x', y'] } := (hs2.2 _ lz).trans hp
      refine ⟨.ref s.heap.objs.size, bE H s.heap.objs.size (.tup [x, y]), I.turnNew (fp := [n + 4, n + 2, n + 3, n, n + 1]) hf (fun c o hb q => ?_) (aJ _) (show dB X.prog X.w _ hh _ (.tup _) from ⟨(by show 2 ≤ sizeLine; decide), [x', y'], .cons rua (.cons rub .nil), _, ht2, rfl, _, rfl⟩), rfl, ⟨_, x, y, hn, fun zs hz => by rw [I.tuple_inj hz hqa]; exact hx, fun zs hz => by rw [I.tuple_inj hz hqb]; exact hy, rfl, rfl⟩, ?_, fun c hb => ?_⟩
      · simp only [aL, cM, or_false, not_or] at hb
        exact (hs2.2 c hb.1).trans (kp c o hb.1 hb.2.2.1 hb.2.2.2.1 hb.2.2.2.2 q)
      · exact ⟨hz2, (hs2.2 _ hap.tz).trans (kp _ _ hap.tz hap.to hap.ta hap.tb h2), ⟨_, _, (hs2.2 _ hap.oz).trans ho⟩, hi1.1.at fun o e => (hs2.2 _ hap.az).trans e, hi2.1.at fun o e => (hs2.2 _ hap.bz).trans e⟩
      · have hb' := (hf c hb).1
        rw [aI (fun z => ?_)]
        · exact hb'
        · have hz4 : @LT.lt Nat _ (n + 4) s.heap.objs.size := aR h1
          have z' : @Eq Nat c s.heap.objs.size := z
          simp only [aL, cM, or_false] at hb
          rcases hb with h | h | h | h | h <;> (have h' : @Eq Nat _ _ := h; lia)
    done := by
      intro X hP hw hK hc i pins s σ H E I hf st hg
      subst hP hw hK
      obtain ⟨h1, h2, ⟨u0, v0, h3⟩, h4, h5⟩ := st
      obtain ⟨xs, hqa, hx⟩ := hg
      obtain ⟨ia, ra, pa, _⟩ := I.tuple hqa
      have la := ra.length
      have hA : X.A.in1.handled = none := I.ok.hd hc
      have ei : ia.toArray.size = i := by rw [aT]; lia
      refine uX (Draws.tup hA n a (am ha) ia.toArray) hap h1 h2 ⟨by rw [ei]; exact h4, pa⟩ fun h' kp => ⟨rfl, I.turnAll (t' := s.toks) hf fun c o hb q => ?_⟩
      simp only [aL, cM, or_false, not_or] at hb
      exact kp c o hb.1 hb.2.2.2.1 q
    self := fun _ _ _ _ _ st h => Vv st.1 h }
def HI(K:WG)(ta:TA):TI:=λσ H R=>ta σ H λvs H1=>∃a b,vs=[.ref a,.ref b]/\(∃xs,c8 K H1 a xs)/\(∃ys,c8 K H1 b ys)/\R (GY K a b) H1
def Cv {X:Cx} {a b:Expr} {ta:TA} {elts:List Expr} {x1:Nat} {p pos tpos:Pos} (hg:Gl X "zip") (hm:X.mg "zip"=none) (ha:QA X [a,b] ta) (hs:starEach [a,b] X.env=(false,eval a X.env)::starEach [b] X.env:=by rfl) (hpl:(backTo pos (starEach [b] X.env)).any (·.1)=false:=by rfl) :
  QI X (.Tuple elts x1 tpos) (.Call (.Name "zip" p) [a,b] [] pos) (HI X.K ta):=⟨by
 intro pins s σ H R I h;refine Call_ (ou I hg hm boot_zip (dU (dZ (ha.h pos pins s σ H _ I h) λus s1 ⟨vs,H1,I1,r1,z1,z2,e,⟨xs,hx⟩,⟨ys,hy⟩,q⟩=>?_) hs hpl));subst e;obtain⟨u,u',rfl,r2,r3⟩:=vals2 r1;cases r2;cases r3;obtain⟨ia,ra,pa,_⟩:=I1.tuple hx;obtain⟨ib,rb,pb,_⟩:=I1.tuple hy;have ha':s1.heap.IsTuple z1 ia.toArray:=pa;have hb':s1.heap.IsTuple z2 ib.toArray:=pb;obtain⟨oa,hoa,_⟩:=id ha';obtain⟨ob,hob,_⟩:=id hb';refine Jk ha' hb' λh' n en hz hti hto hi1 hi2 kp=>?_;refine Vv hz ?_;have I2:bY X pins σ H1 { s1 with heap:=h' }:=I1.kept (t':=s1.toks) kp;refine⟨_,_,_,_,H1,rfl,I2,AZ n z1 z2 (by rw[en];exact aR hoa) (by rw[en];exact aR hob),⟨hz,hti,⟨_,_,hto⟩,hi1,hi2⟩,λb hb=>?_,q⟩;have hle:s1.heap.objs.size<=b:=by
  simp only[aL,cM,or_false] at hb;have en':@Eq Nat n s1.heap.objs.size:=en;show @LE.le Nat _ _ _;rcases hb with h | h | h | h | h<;>(have h':@Eq Nat _ _:=h;lia)
 exact I1.fpOk hle (I1.hok.fresh hle)⟩
def zN{K:WG}{σ:St}{H:Hp}{D:Ends}{ta:TA}{g:TG}{tb:TS}:rK (HI K ta) g tb D σ H=ta σ H λvs H1=>∃a b,vs=[.ref a,.ref b]/\(∃xs,c8 K H1 a xs)/\(∃ys,c8 K H1 b ys)/\qJ (GY K a b) g tb D σ H1:=rfl
def Dx{K:WG}{σ:St}{H:Hp}{D:Ends}{a b:Addr}{xs ys:List V}{g:TG}{tb:TS}(hle:xs.length<=ys.length)(Pv:Nat->St->Hp->Prop)(h0:Pv 0 σ H)(hl:∀i σ H,Pv i σ H->c8 K H a xs/\c8 K H b ys)
  (hs:∀i x y σ H p,xs[i]? = some x->ys[i]? = some y->Pv i σ H->H p=none->g (.ref p) σ (bE H p (.tup [x,y])) λσ2 H2=>tb { D with nx:=Pv (i+1),ct:=Pv (i+1),bk:=D.nx } σ2 H2) (hd:∀σ H,Pv xs.length σ H->D.nx σ H):qJ (GY K a b) g tb D σ H:=by
 refine⟨λi m σ H=>m+i=xs.length/\Pv i σ H,⟨xs.length,rfl,h0⟩,?_⟩;rintro i m σ H ⟨hm,hp⟩;obtain⟨q1,q2⟩:=hl i σ H hp;by_cases hi:i<xs.length
 ·refine .inr ⟨⟨xs,ys,xs[i],ys[i],q1,q2,by simp[hi],by simp[aW hi hle]⟩,Pv (i+1),λσ' H' h=>⟨m - 1,by lia,by lia,h⟩,?_⟩;rintro v H' ⟨p,x,y,hn,hx,hy,rfl,rfl⟩;exact hs i x y σ H p (hx xs q1) (hy ys q2) hp hn
 ·have e:i=xs.length:=by lia
  subst e;exact .inl ⟨⟨xs,q1,rfl⟩,hd σ H hp⟩
end L2
namespace Rm
open PySem L2 PyProof.Rows
def jH(H:Hp)(t:Addr)(u:Bool)(p q:Bw):Prop:=∃a c,H t=some (.tup [.str (sd u),.ref a,.ref c])/\bi H a p/\bi H c q
def uM:Sp:=λvs H Q _=>∃m o b ns,vs=[.ref m]/\dj H m o b ns/\gm ns/\(NC b ns->∀H',aV H H'->Q .non H') ∧
 ∀u,∀p∈aj b ns u (ns.length+1),∀q∈aj b ns u (ns.length+1),bO p q=true->∀t H',aV H H'->jH H' t u p q->Q (.ref t) H'
def JZ(b:Bool)(ns:List Int):PyData:=.tuple [.str (sd b),.tuple (ns.map PyData.int)]
def dj.dat{H:Hp}{m o:Addr}{b:Bool}{ns:List Int}(h:dj H m o b ns):Dat H (.ref m) (JZ b ns):=.tup h.1 (.cons (.str _) (.cons (.tup h.2 (xF ns)) .nil))
def JY{b:Bool}{ns:List Int}(O:gm ns):nL (JZ b ns)=true:=by
 show (qy (.str (sd b))&&qT (.tuple (ns.map PyData.int)))=true;have e1:qy (.str (sd b))=true:=by cases b<;>decide +kernel
 have e2:(ns.map PyData.int).map intOf=ns:=by rw[bS];show ns.map id=ns;exact f6 _
 have e3:(ns.map PyData.int).all fy=true:=by rw[mG,cC];intro _ _;rfl
 rw[e1,iA];show (decide ((ns.map PyData.int).length<=20)&&((ns.map PyData.int).all fy&&((ns.map PyData.int).map intOf).isPerm (cF 1 (ns.map PyData.int).length)))=true;rw[e2,e3,aD,WC O.len,fg.mpr O.perm];rfl
def yd{b:Bool}{ns:List Int}:Pl (JZ b ns) 60:=by
 refine⟨?_,?_⟩
 ·show (PyData.canLay0 (.str (sd b))&&(PyData.canLayAll0 (ns.map PyData.int)&&true))=true;rw[fZ];cases b<;>decide +kernel
 ·show max 0 (max (PyData.depthAll (ns.map PyData.int)+1) 0)+1<=60;rw[li];decide
def qa:∀{ds:List PyData},(∀d∈ds,d.canLay0=true)->PyData.canLayAll0 ds=true
 | [],_=>rfl
 | d::ds,h=>by
  show (d.canLay0&&PyData.canLayAll0 ds)=true;rw[h d (by simp),qa λe he=>h e (by simp[he])];rfl
def rE{k:Nat}:∀{ds:List PyData},(∀d∈ds,d.depth<=k)->PyData.depthAll ds<=k
 | [],_=>ac _
 | d::ds,h=>by
  show max d.depth (PyData.depthAll ds)<=k;exact Nat.max_le.mpr ⟨h d (by simp),rE λe he=>h e (by simp[he])⟩
def Ip{ds:List PyData}{k:Nat}(h:∀d∈ds,Pl d k):Pl (.tuple ds) (k+1):=⟨qa λd hd=>(h d hd).lay,Nat.succ_le_succ (rE λd hd=>(h d hd).deep)⟩
def DI(n:Int){k:Nat}:Pl (.int n) k:=⟨rfl,ac _⟩
def M7{d:PyData}{k:Nat}(h:Pl d k):∀e∈[d],Pl e k:=λe he=>by rw[bc] at he;subst he;exact h
def MS{d e:PyData}{k:Nat}(h:Pl d k)(g:Pl e k):∀f∈[d,e],Pl f k:=λf hf=>by
 rcases aL.mp hf with rfl | hf
 ·exact h
 ·exact M7 g f hf
def Gy{d e f:PyData}{k:Nat}(h:Pl d k)(g:Pl e k)(i:Pl f k):∀x∈[d,e,f],Pl x k:=λx hx=>by
 rcases aL.mp hx with rfl | hx
 ·exact h
 ·exact MS g i x hx
def IQ:PyData->Bool
 | .none | .bool _ | .int _ | .str _=>true
 | _=>false
end Rm
namespace L2
open PySem PySem.Spec PyProof.Rows
section
variable {prog:Program} {w:World} {A:Around} {E:Value->Shared->Prop} {h:Heap} {g:Array GenState} {d:Drawn} {t:Nat} {os:OsState}
variable {nm q:Str} {C N:Addr} {bs bm bmB:List Value} {hdct:Bool} {sn:List Str} {sub:List Value} {ab:Bool} {col:Option Bool} {dd:Option Addr} {k0 k1 k2 k3 k5:Option Value} {B newId initId:String}
def vf(F:ExcBaseFacts B newId initId bmB)(tl:OwnTail h bmB bm){mC:Str->Option Value}{us:List Value}{fi:Addr}{of:Obj}{R:Fin->Shared->Prop}
  (hK:h.get? C=some (excClassObj nm q C N bs bm hdct sn sub ab col dd k0 k1 k2 k3 k5 newId)) (hNs:h.Ns N mC) (hin:mC "__init__"=some (.ref fi)) (hof:h.get? fi=some of) (hfn:of.cls=.type "function") (hlen:us.length<=sizeLine)
  (go:∀hh x,Heap.MadeExcOf h hh x (.ref C) us->wpAny (model prog w) A (call (.ref fi) (.ref x::us)) (λr z=>r=.none/\R (.done (.ret (.ref x))) z) E ⟨hh,g,d,t,os⟩) :
  wpAny (model prog w) A (Builtin.«type.__call__» ⟨.ref C::us,[]⟩) R E ⟨h,g,d,t,os⟩:=by
 repeat (first | (with_reducible refine Vw hK ?_) | (with_reducible refine wpAny_madeBy_exc hK ?_) | wp_step)
 refine codeAny_call_builtin_code (kS _ F.quiet) (wpAny_check_new_subT F tl hK ?_);refine codeAny_exc_new_subT F tl hK ?_ hlen;show wpAny _ _ _ _ _ _;generalize hh1:h.push { cls:=.type "tuple",data:=.seq us.toArray }=h1;generalize hh2:h1.push { cls:=.ref C,data:=.fields #[.ref h.objs.size,.none,.none,.none,.bool false,.none] }=h2;have kp:∀b o,h.get? b=some o->h2.get? b=some o:=λb o e=>by rw[<-hh2,<-hh1];exact aB _ (aB _ e)
 have sz:h1.objs.size=h.objs.size+1:=by rw[<-hh1];exact ck _ _
 have at2:h2.get? (h.objs.size+1)=some { cls:=.ref C,data:=.fields #[.ref h.objs.size,.none,.none,.none,.bool false,.none] }:=by rw[<-hh2,<-sz];exact aN _ rfl
 have vk:h2.get? h.objs.size=some { cls:=.type "tuple",data:=.seq us.toArray }:=by rw[<-hh2];refine aB _ ?_;rw[<-hh1];exact aN _ rfl
 have hK2:=kp _ _ hK;have tl2:=tl.keeps kp;have hN2:h2.Ns N mC:=let ⟨o,es,ep,e,r⟩:=hNs;⟨o,es,ep,kp _ _ e,r⟩;have own:(Value.ref C::bm).contains (.ref C)=true:=by simp
 unfold isInstance
 repeat (first | (with_reducible refine Vw at2 ?_) | (with_reducible refine wpAny_isSubtype_exc hK2 ?_;rw[own]) | wp_step)
 show wpAny _ _ (typeLookup (.ref C) _) _ _ _;refine wpAny_typeLookup_tail hK2 hN2 tl2 F.mroIs F.init.lookup ?_;rw[hin];refine V7 (wpAny_bind ?_);unfold bindSpecial;refine wpAny_bind (wpAny_typeOf (T:="function") ⟨_,kp _ _ hof,hfn⟩ ?_);rw[Vz (by decide)];refine Va (wpAny_bind (wpAny_mono (go h2 (h.objs.size+1) ⟨kp,gQ (fG _),h.objs.size,at2,gQ (aJ _),vk⟩) (λr z hr=>?_) λ_ _ y=>y));obtain⟨rfl,hR⟩:=hr
 wp_walk
 exact hR
def EA(F:ExcBaseFacts B newId initId bmB)(tl:OwnTail h bmB bm){mC:Str->Option Value}{us:List Value}{fi:Addr}{of:Obj}{R:Value->Shared->Prop}
  (hK:h.get? C=some (excClassObj nm q C N bs bm hdct sn sub ab col dd k0 k1 k2 k3 k5 newId)) (hNs:h.Ns N mC) (hin:mC "__init__"=some (.ref fi)) (hof:h.get? fi=some of) (hfn:of.cls=.type "function") (hlen:us.length<=sizeLine)
  (go:∀hh x,Heap.MadeExcOf h hh x (.ref C) us->wpAny (model prog w) (A.under (.builtin "type.__call__" ⟨.ref C::us,[]⟩)) (call (.ref fi) (.ref x::us)) (λr z=>r=.none/\R (.ref x) z) E ⟨hh,g,d,t,os⟩) :
  wpAny (model prog w) A (call (.ref C) us) R E ⟨h,g,d,t,os⟩:=by
 have l1:=tc_lookup;have l2:=tc_bind (.ref C);have ty:(⟨h,g,d,t,os⟩:Shared).TypeIs (.ref C) "type":=⟨_,hK,rfl⟩
 refine Vf (codeAny_of_tree ?_);show wpAny _ _ (callAny (.ref C) _) _ _ _
 repeat (any_goals (first | assumption | (with_reducible refine Vw hK ?_) | wp_step))
 refine⟨rfl,?_⟩;exact codeAny_call_builtin_at (kS _ (by decide +kernel)) entry_typeCall (wpAny_check_type_call_sub hK (vf F tl hK hNs hin hof hfn hlen λhh x m=>go hh x m))
end
section
variable {M:Model} {A:Around} {E:Value->Shared->Prop} {env:Env}
variable {nm q:Str} {C N:Addr} {bs bm:List Value} {hdct:Bool} {sn:List Str} {sub:List Value} {ab:Bool} {col:Option Bool} {dd:Option Addr} {k0 k1 k2 k3 k5:Option Value} {newId:String}
def yL {s:Shared} {x:Sem Value} {R:Flow->Shared->Prop} (hb:bm.contains (.type "BaseException")=true) (hh:A.handled=none)
  (go:wpAny M A x (λv z=>∃e dO a0 sl,v=.ref e/\z.heap.get? C=some (excClassObj nm q C N bs bm hdct sn sub ab col dd k0 k1 k2 k3 k5 newId)/\z.heap.get? e=some ⟨.ref C,dO,.fields #[a0,.none,.none,.none,.bool false,.none],sl⟩/\E (.ref e) z) E s) :
  wpAny M A (raiseStmt env (some x) none) R E s:=by
 have has:(Value.ref C::bm).contains (.type "BaseException")=true:=by rw[List.contains_cons,hb,Bool.or_true]
 unfold raiseStmt;refine wpAny_bind (wpAny_mono go (λv z h1=>?_) λ_ _ y=>y);obtain⟨e,dO,a0,sl,rfl,hK,he,hE⟩:=h1;obtain⟨hp,g,d,tk,os⟩:=z
 repeat (first | (with_reducible refine Vw he ?_) | (with_reducible refine Vw hK ?_) | (with_reducible refine wpAny_isSubtype_exc hK ?_;rw[has]) | wp_step)
 exact wpAny_raiseNew_none hh hE
end
def kK(dO:Option Addr)(C t:Addr):Obj:=⟨.ref C,dO,.fields #[.ref t,.none,.none,.none,.bool false,.none],#[]⟩
def iN(dO:Option Addr)(C e:Addr):HO:=.ext λh=>∃t,h.get? e=some (kK dO C t)
def vI{P:Program}{w:World}{H:Hp}{h:Heap}{dO:Option Addr}{C e t:Addr}(he:h.get? e=some (kK dO C t)):dB P w H h e (iN dO C e):=
 ⟨⟨t,he⟩,⟨_,he⟩,λ_ _ ⟨t,a⟩ k=>⟨t,k _ a⟩⟩
structure qr (x:Str) (C fi:Addr) (bmB:List Value) (newId:String) (mg:Str->Option Value) (base:Heap):Prop where
 bound:mg x=some (.ref C)
 obj:∃ (bm:List Value) (N:Addr) (nm q:Str) (bs:List Value) (hdct:Bool) (sn:List Str) (sub:List Value) (ab:Bool) (col:Option Bool) (dd:Option Addr) (k0 k1 k2 k3 k5:Option Value) (mN:Str->Option Value),
  base.get? C=some (excClassObj nm q C N bs bm hdct sn sub ab col dd k0 k1 k2 k3 k5 newId)/\base.Ns N mN/\mN "__init__"=some (.ref fi)/\OwnTail base bmB bm
def xr(C:Addr)(t:TA):TE:=λσ H Q=>t σ H λvs H1=>∃e v,vs=[.ref e,v]/\H1 e=some (iN none C e)/\Q .non H1
def Hr{H:Hp}{a:Addr}{o:HO}(h:H a=some o):bE H a o=H:=by
 funext b;unfold bE
 split
 ·rename_i z;rw[z,h]
 ·rfl
section
variable {X:Cx}
def Dq{prog:Program}{w:World}{A:Around}{E:Value->Shared->Prop}{s:Shared}{bm bmB:List Value}{C N e t0:Addr}{nm q:Str}{bs:List Value}{hdct:Bool}{sn:List Str}{sub:List Value}{ab:Bool}{col:Option Bool}{dd:Option Addr}{k0 k1 k2 k3 k5:Option Value}{B newId initId:String}{v:Value}{Q:Value->Shared->Prop}
  (F:ExcBaseFacts B newId initId bmB) (tl:OwnTail s.heap bmB bm) (hK:s.heap.get? C=some (excClassObj nm q C N bs bm hdct sn sub ab col dd k0 k1 k2 k3 k5 newId)) (he:s.heap.get? e=some (kK none C t0))
  (hq:∀h' t1,h'.get? e=some (kK none C t1)->(∀b o,b≠e->s.heap.get? b=some o->h'.get? b=some o)->Q .none { s with heap:=h' }) :
  wpAny (model prog w) A (call (.builtin initId) [.ref e,v]) Q E s:=by
 obtain⟨h,g,d,t,os⟩:=s;refine Vf (Vo F.init.plain F.initEntry (wpAny_check_init_subT F tl hK he rfl ?_));unfold Builtin.«BaseException.__init__»;dsimp only;rw[Vy (by simp)];unfold newTuple Builtin.BaseException.bexcPut;have he1:=aB (h:=h) { cls:=.type "tuple",data:=.seq [v].toArray } he;refine wpAny_bind (Vi (wpAny_bind (wpAny_bind (Vr he1 rfl rfl (wpAny_bind (Vt he1 rfl (by show 0<6;decide) ?_))))) (by show 1<=sizeLine;rw[Vd];lia));refine wpAny_letGo (Va (hq _ h.objs.size ?_ λb o nb hb=>?_))
 ·exact(df _ he1 rfl).trans rfl
 ·exact(i9 _ (gg nb) (aB _ hb))
def DL{xR:Str}{x:Str}{R C fi:Addr}{bmB:List Value}{B newId initId:String}{e:Expr}{es:List Expr}{t:TA}{p apos pos:Pos}{pl:Sem Bool}(F:ExcBaseFacts B newId initId bmB)(O:qr x C fi bmB newId X.mg X.base)(hgR:Gl X xR)(hmR:X.mg xR=some (.ref R))
  (rd:PySem.W.readsIn X.K R (.type "type")=true) (sg:PySem.W.specialIn X.K (.ref R) "__getattribute__"=some (some (.builtin "type.__getattribute__"))) (fc:PySem.W.findCls X.K (.ref R) (.type "type") "__init__"=some (.val (.builtin initId)))
  (hh:PySem.W.handedIn (.builtin initId)=true) (ha:PA X (e::es) t) (hdb:(xR==("__debug__":Str))=false:=by decide)
  (hst:starEach (e::es) X.env=(false,eval e X.env)::starEach es X.env:=by rfl) (hpl:(backTo pos (starEach es X.env)).any (·.1)=false:=by rfl)
  (ht:eval (.Call (.Attribute (.Name xR p) "__init__" apos) (e::es) [] pos) X.env=(do
   let ov <-eval (.Name xR p) X.env
   standAt apos.atName
   let (f,fst) <-holding [ov] (getMethod ov "__init__" pl)
   callWith pos f fst (backTo pos (starEach (e::es) X.env)) (backToKw pos (keywordEach [] X.env))):=by rfl) :
  PE X (.Call (.Attribute (.Name xR p) "__init__" apos) (e::es) [] pos) (xr C t):=by
 intro pins s σ H Q I h;refine PySem.W.methodCall_KW (pl:=pl) (je I hgR hmR (PySem.W.method_cls I.kIn sg (PySem.W.cls_value I.kIn rd fc hh ?_)) hdb) ht;have It:=I.tok (s.toks+1);refine jC (dZ (ha pos pins _ σ H _ It h) λus s1 ⟨vs,H1,I1,r,x0,v,ev,hx,q⟩=>?_) hst hpl;subst ev;obtain⟨bm,N,nm,q0,bs,hdct,sn,sub,ab,col,dd,k0,k1,k2,k3,k5,mN,hC,hN,hi,ot⟩:=O.obj;obtain⟨u0,u1,rfl,r0,r1⟩:=cE.two r;cases (show u0=Value.ref x0 from r0);obtain⟨t0,hx0⟩:=(I1.hok x0 _ hx).1;refine Dq (A:=X.A) F (l4 I1.bk ot) (I1.bk _ _ hC) hx0 λh' t1 e1 k=>?_;have I2:=I1.write (x:=x0) (e:=x0) (o:=iN none C x0) (t':=s1.toks) (by rw[hx];exact True.intro) (.inl rfl) (λb o nb hb=>k b o nb hb) ⟨_,e1⟩ (vI e1);rw[Hr hx] at I2;exact⟨.non,_,I2,rfl,q⟩
end
def FV{prog:Program}{w:World}{A:Around}{R:Result->Shared->Prop}{s:Shared}{K:WG}{x C:Addr}{cd:ClassData}{name:Str}{tk:Tok}{v:Value}{t0:Addr}(Xk:K.In s.heap)(hx:s.heap.get? x=some (kK none C t0))
  (hc:PySem.W.clsIn K C=some cd) (hdc:cd.hasDict=true) (hob:cd.mro.contains (.type "object")=true) (hpass:refuseLoop (.ref x) "__setattr__" cd.mro=pure ()) (hn:PySem.W.findIn K (.ref C) name=some none)
  (go:∀h' tk' dx,s.heap.get? dx=none->h'.get? x=some (kK (some dx) C t0)->h'.Ns1 dx (λy=>if y=name then some v else none)->(∀b o,b≠x->s.heap.get? b=some o->h'.get? b=some o)->R (.ok (.ret .none)) { s with heap:=h',toks:=tk' }) :
  codeAny (model prog w) A (.call (.builtin "object.__setattr__") ⟨[.ref x,.str name tk,v],[]⟩) R s:=by
 have SF:=PySem.F.store_object;obtain⟨h,g,d,t,os⟩:=s;have ty:PySem.W.InstAt h x (kK none C t0) C none:=⟨hx,rfl,rfl,trivial⟩
 have ne:cd.mro.isEmpty=false:=by cases q:cd.mro with | nil=>rw[q] at hob;cases hob | cons _ _=>rfl
 have sub:PySem.W.Looks (model prog w) h (isInstance (.ref x) (.type "object")) true:=ty.type.andThen (PySem.W.looks_mroIn Xk (by unfold PySem.W.mroIn;rw[hc,Option.bind_some,Vy (by rw[ne];decide),hob]));refine Vo SF.slot.plain SF.entry (@PySem.W.check_slot (model prog w) _ _ ⟨h,g,d,t,os⟩ "object.__setattr__" "object" "__setattr__" (.ref x) [.str name tk,v] [] _ SF.kind SF.split sub (SF.args (.ref x) (.str name tk) v) ?_);have mr:PySem.W.Looks (model prog w) h (mroOf (.ref C)) cd.mro:=(PySem.W.looks_clsIn Xk hc).andThen .now;rw[PySem.W.osa_eq,refuse_eq];refine wpAny_bind (wpAny_bind (ty.type.here (wpAny_bind (mr.here ?_))));rw[hpass];refine Va (wpAny_bind (ty.type.here (wpAny_bind ((dS Xk hn).here (wpAny_bind (Va ?_))))));show wpAny _ _ (Builtin.ObjectAttr.storeInOwnDict (.ref x) (.ref C) (.str name tk) name v false) _ _ _;unfold Builtin.ObjectAttr.storeInOwnDict;refine wpAny_bind (Va (wpAny_bind (wpAny_bind (wpAny_loadPart hx (wpAny_bind ((PySem.W.looks_clsIn Xk hc).here ?_))))));rw[hdc];have hx1:(h.push { cls:=.type "dict",data:=.dict #[] }).get? x=some (kK none C t0):=aB _ hx;have ns:x≠h.objs.size:=am (aR hx);refine wpAny_bind (wpAny_alloc' (wpAny_bind (wpAny_update' hx1 ?_)));refine Va ?_;generalize hh2:(h.push { cls:=.type "dict",data:=.dict #[] }).update x _=h2;have dNew:h2.get? h.objs.size=some { cls:=.type "dict",data:=.dict #[] }:=by rw[<-hh2];exact(gw _ _ _ _ (gg ns)).trans (aN _ rfl)
 have x2:h2.get? x=some (kK (some h.objs.size) C t0):=by rw[<-hh2];exact(df _ hx1 rfl).trans rfl
 have nsE:h2.Ns h.objs.size (λ_=>none):=⟨_,#[],_,dNew,rfl,λe he=>absurd he (by simp),λ_=>rfl⟩
 show wpAny _ _ (Builtin.ObjectAttr.storeInDict h.objs.size (.str name tk) name v) _ _ _;unfold Builtin.ObjectAttr.storeInDict Builtin.ObjectAttr.newKeyGuard;refine wpAny_bind (Va (wpAny_bind (wpAny_nsSet1 (Heap.Ns1.of_empty nsE) λh3 n3 s3=>?_)));obtain⟨oD,esD,epD,e1,e2,e3⟩:=n3.count (Within.cons name v Within.nil);refine wpAny_bind (wpAny_lookBehind e1 (by rw[e2];exact pastItsLine_dict (cH e3 (by rw[bq,em,Vd];lia))) ?_);refine Va (go h3 _ h.objs.size (gQ (aJ _)) ((s3.2 x ns).trans x2) n3 λb o nb hb=>(s3.2 b (am (aR hb))).trans ?_);rw[<-hh2];exact(gw _ _ _ _ nb).trans (aB _ hb)
structure GZ (K:WG) (C:Addr) (f:Str):Prop where
 sa:PySem.W.findIn K (.ref C) "__setattr__"=some (some (.builtin "object.__setattr__"))
 cls:∃ cd,PySem.W.clsIn K C=some cd/\cd.hasDict=true/\cd.mro.contains (.type "object")=true/\∀ self,refuseLoop self "__setattr__" cd.mro=pure ()
 no:PySem.W.findIn K (.ref C) f=some none
def Ca(C:Addr)(f:Str)(ta tv:TE):TS:=λD σ H=>tv σ H λy H1=>ta σ H1 λx H2=>∃e,x=.ref e/\H2 e=some (iN none C e)/\∀dx,H2 dx=none->dx≠e->D.nx σ (bE (bE H2 dx (.xd [(f,y)])) e (iN (some dx) C e))
section
variable {X:Cx}
def bY.dicted{pins:List (Addr×Obj)}{σ:St}{H:Hp}{s:Shared}{e dx C t0:Addr}{f:Str}{y:V}{u:Value}{h':Heap}{tk:Nat}(I:bY X pins σ H s)(he:H e=some (iN none C e))(nd:s.heap.get? dx=none)(ne:dx≠e)(ry:RelV y u)
  (e1:h'.get? e=some (kK (some dx) C t0)) (n1:h'.Ns1 dx (λz=>if z=f then some u else none)) (kp:∀b o,b≠e->s.heap.get? b=some o->h'.get? b=some o) :
  H dx=none/\bY X pins σ (bE (bE H dx (.xd [(f,y)])) e (iN (some dx) C e)) { s with heap:=h',toks:=tk }:=by
 have hn:H dx=none:=by
  cases z:H dx with
  | none=>rfl
  | some o=>obtain⟨ob,q⟩:=(I.hok dx o z).ex;rw[nd] at q;cases q
 have oth:∀b,b≠e->b≠dx->bE (bE H dx (.xd [(f,y)])) e (iN (some dx) C e) b=H b:=λb h1 h2=>by rw[aI h1,aI h2]
 have inh:∀b o,s.heap.get? b=some o->b≠dx:=λb o q z=>by subst z;rw[nd] at q;cases q
 have trk:∀b o,H b=some o->b≠dx:=λb o q z=>by subst z;rw[hn] at q;cases q
 have net:∀b o,H b=some o->(∀φ,o≠.ext φ)->b≠e:=λb o q n z=>by subst z;rw[he] at q;cases q;exact n _ rfl
 have unt:∀b,H b=none->b≠e:=λb q z=>by subst z;rw[he] at q;cases q
 refine⟨hn,I.un ⟨λb o q n _ _=>kp b o (unt b n) q,λb o q n _ _=>⟨o.slots,kp b o (unt b n) q⟩,λb o q n _=>by rw[oth b (unt b n) (inh b o q)];exact n,λb o q _=>?_,
  λb xs q=>by rw[oth b (net b _ q λφ z=>by cases z) (trk b _ q)];exact q,λb o v q=>by rw[oth b (net b _ q λφ z=>by cases z) (trk b _ q)];exact q,λb ps q=>⟨#[],by rw[oth b (net b _ q λφ z=>by cases z) (trk b _ q),q];simp⟩⟩ λb o q=>?_⟩
 ·by_cases z:b=e
  ·exact⟨_,z▸e1⟩
  ·exact⟨o,kp b o z q⟩
 ·by_cases z:b=e
  ·subst z;rw[aC] at q;cases q;exact vI e1
  ·rw[aI z] at q;by_cases z2:b=dx
   ·subst z2;rw[aC] at q;cases q;refine⟨_,n1,λg=>?_⟩;by_cases zg:g=f
    ·subst zg;simp only[List.lookup,beq_self_eq_true,WE];exact ry
    ·have:(g==f)=false:=beq_eq_false_iff_ne.mpr zg;simp only[List.lookup,this,Vy zg];trivial
   ·rw[aI z2] at q;refine(I.hok b o q).stay (λc v hc q'=>kp c v ?_ q') (λc q'=>by rw[oth c (net c _ q' λφ z=>by cases z) (trk c _ q')];exact q') λc xs q'=>by rw[oth c (net c _ q' λφ z=>by cases z) (trk c _ q')];exact q'
    rcases hc with r | r
    ·rw[r];exact z
    ·exact net c _ r λφ z=>by cases z
def Ex{o value:Expr}{f:Str}{C:Addr}{pos pos':Pos}{ta tv:TE}(k:GZ X.K C f)(ha:PE X o ta)(hv:PE X value tv)(hs:swapsWith value (some (.Attribute o f pos')) pos.line X.env=pure false):PS X (.Assign [.Attribute o f pos'] value pos) (Ca C f ta tv):=by
 intro pins s σ H D I h;refine plainObj_wpAny_Assign_Attribute (dZ (hv pins s σ H _ I h) λu s1 ⟨y,H1,I1,ry,q⟩=>dZ (ha pins s1 σ H1 _ I1 q) λov s2 ⟨x,H2,I2,rx,e,ex,he,q2⟩=>?_) hs;subst ex;obtain rfl:ov=Value.ref e:=rx;obtain⟨t0,hx⟩:=(I2.hok e _ he).1;obtain⟨cd,hc,hd,ho,hp⟩:=k.cls;refine PySem.W.set_plain I2.kIn (ox:=kK none C t0) (od:=none) ⟨hx,rfl,rfl,trivial⟩ k.sa (FV (s:={ s2 with toks:=s2.toks+1 }) I2.kIn hx hc hd ho (hp _) k.no λh' tk' dx nd e1 n1 kp=>?_);have ne:dx≠e:=λz=>by subst z;rw[show s2.heap.get? dx=none from nd] at hx;cases hx
 obtain⟨hn,I3⟩:=bY.dicted (tk:=tk') I2 he nd ne ry e1 n1 kp;exact⟨_,_,I3,q2 dx hn ne⟩
end
def BA:∀n:Nat,n<=60->(PySem.Str.ofString (toString (n:Int))).length<=2/\(n:Int).natAbs.log2<1920:=by
 have h:∀n:Fin 61,(PySem.Str.ofString (toString ((n:Nat):Int))).length<=2/\((n:Nat):Int).natAbs.log2<1920:=by decide +kernel
 exact λn hn=>h ⟨n,by lia⟩
def yw(H:Hp)(e:Addr):Hp:=λb=>if b=e then none else H b
def lm{H:Hp}{e b:Addr}(h:b≠e):yw H e b=H b:=Vy h
def u9{H:Hp}{e b:Addr}{o:HO}(h:yw H e b=some o):b≠e/\H b=some o:=by
 unfold yw at h
 split at h
 ·cases h
 ·rename_i z;exact⟨z,h⟩
def EV(X:Cx)(E:XK):Prop:=∀(pins:List (Addr×Obj)) (σ:St) (H1 H:Hp) (s1 s:Shared) (e C:Addr) (dO:Option Addr),bY X pins σ H1 s1->s1.heap.get? e=none->bY X pins σ H s->H e=some (iN dO C e)->E (.ref C) dO (yw H e)->X.xe (.ref e) s
def Ab{P:Program}{w:World}{K:WG}{mg:Str->Option Value}{base:Heap}{N:List Str}{qual:Str}{scope:Scope}{f:Addr}{cd:Value}{A:Around}{outer:List Env}{s0:Shared}{H0:Hp}{E:XK}:
  EV (jU (qL P w) P w K mg base N qual scope f cd A outer s0 H0 E) E:=by
 intro pins σ H1 H s1 s e C dO I1 n1 I he hE;generalize hX:jU (qL P w) P w K mg base N qual scope f cd A outer s0 H0 E=X at I I1 ⊢;have hst:X.stack=X.env::X.outer:=by rw[<-hX];rfl
 have hfr:X.env.frame=some X.env.locals:=by rw[<-hX];rfl
 have hxe:X.xe=λe s'=>wpAny (model X.prog X.w) X.A (leaving X.env e) (λ_ s''=>qL X.prog X.w X.outer X.H₀ X.s₀ E e s'') (λe' s''=>qL X.prog X.w X.outer X.H₀ X.s₀ E e' s'') s':=by rw[<-hX];rfl
 have hex:X.ex=[]:=by rw[<-hX];rfl
 have hfs:kX X.stack=X.env.locals::X.fs:=by rw[hst];unfold kX;rw[dA,hfr];rfl
 clear hX;have ne0:∀b o,X.s₀.heap.get? b=some o->b≠e:=λb o q z=>by
  subst z;obtain⟨o',q'⟩:=I1.base.there b o q (by rw[hex];simp);rw[n1] at q';cases q'
 rw[hxe];obtain⟨t0,hobj⟩:=(I.hok e _ he).1;have hB:∀b o,s.heap.get? b=some o->b≠e->b∉kX X.stack->(PySem.W.hideAll s.heap (e::kX X.stack)).get? b=some o:=λb o q1 q2 q3=>j8 _ q1 (λz=>(aL.mp z).elim q2 q3);have Be:(PySem.W.hideAll s.heap (e::kX X.stack)).get? e=none:=gP _ a7;refine iE (eK.leave (dO:=dO) (e:=e)) ⟨_,_,hobj,⟨rfl,rfl⟩,rfl⟩ ?_;refine wpAny_leaving_firstW (base:=PySem.W.hideAll s.heap (e::kX X.stack)) (outer:=X.outer) (L:=X.env.locals) (a0:=.ref t0) (by rw[I.ok.frames,hst]) (nN (hst▸I.stack) λb m=>gP _ (aM _ (hst▸m))) hfr hobj
  (λb o q=>kL _ q) Be rfl rfl rfl λh2 hL ct=>?_
 obtain⟨stay,⟨_,_,k2⟩,k3,up⟩:=hL;have out:∀b o,X.s₀.heap.get? b=some o->b∉X.fs->b∉kX X.stack:=λb o q1 q2 z=>by
  rw[hfs] at z;exact(aL.mp z).elim (am (aW (aR q1) I.ok.above)) q2
 have slot:∀b o,s.heap.get? b=some o->b∈X.fs->∃sl,h2.get? b=some { o with slots:=sl }:=λb o q m=>by
  obtain⟨_,o',q2,nf⟩:=I.funs.mem m;rw[q] at q2;cases q2;obtain⟨sl,z⟩:=up b o q nf;exact⟨sl,z⟩
 have u:=I.base;rw[hex] at u;have net:∀b o,H b=some o->(∀φ,o≠.ext φ)->b≠e:=λb o q n z=>by subst z;rw[he] at q;cases q;exact n _ rfl
 refine⟨e,C,t0,yw H e,_,dO,rfl,I.os,I.bare,⟨λb o q1 q2 q3 q4=>?_,λb o q1 q2 q3 q4=>?_,λb o q1 q2 q3=>?_,λb o q1 q2=>?_,λb xs q=>?_,λb o v q=>?_,λb ps q=>?_⟩,λb o q1=>?_,⟨stay,Be,k2,k3⟩,⟨λb o q1 q2=>?_,λb o q1=>?_⟩,ct,hE⟩
 ·exact stay b o (hB b o (u.keep b o q1 q2 q3 q4) (ne0 b o q1) (out b o q1 q3))
 ·obtain⟨sl,q⟩:=u.slot b o q1 q2 q3 q4;exact(slot b _ q q3).imp λsl' z=>z
 ·rw[lm (ne0 b o q1)];exact u.free b o q1 q2 q3
 ·obtain⟨o',q⟩:=u.there b o q1 q2;by_cases m:b∈X.fs
  ·obtain⟨sl,q'⟩:=slot b o' q m;exact⟨_,q'⟩
  ·exact⟨o',stay b o' (hB b o' q (ne0 b o q1) (out b o q1 m))⟩
 ·have q':=u.tups b xs q;rw[lm (net b _ q' λφ z=>by cases z)];exact q'
 ·have q':=u.frzs b o v q;rw[lm (net b _ q' λφ z=>by cases z)];exact q'
 ·obtain⟨more,q'⟩:=u.tbls b ps q;exact⟨more,by rw[lm (net b _ q' λφ z=>by cases z)];exact q'⟩
 ·obtain⟨nb,q2⟩:=u9 q1;refine(I.hok b o q2).stay (λc v hc q=>stay c v (hB c v q ?_ λz=>?_)) (λc q=>by rw[lm (net c _ q λφ z=>by cases z)];exact q) λc xs q=>by rw[lm (net c _ q λφ z=>by cases z)];exact q
  ·rcases hc with r | r
   ·rw[r];exact nb
   ·exact net c _ r λφ z=>by cases z
  ·have n:=I.stkFree c z;rcases hc with r | r
   ·rw[r,q2] at n;cases n
   ·rw[r] at n;cases n
 ·obtain⟨o',q⟩:=u.there b o q1 (by simp);exact⟨o',hB b o' q (ne0 b o q1) (out b o q1 q2)⟩
 ·obtain⟨nb,q2⟩:=u9 q1;obtain⟨ob,q⟩:=(I.hok b o q2).ex;refine⟨ob,hB b ob q nb λz=>?_⟩;have n:=I.stkFree b z;rw[q2] at n;cases n
def z9(C:Addr)(f:Str)(ok:V->Hp->Prop):Sp:=λvs H Q _=>∃e v,vs=[.ref e,v]/\ok v H/\H e=some (iN none C e)/\∀dx,H dx=none->dx≠e->Q .non (bE (bE H dx (.xd [(f,v)])) e (iN (some dx) C e))
def ux(C:Addr)(f:Str)(ok:V->Hp->Prop)(E:XK)(t:TA):TS:=λ_ σ H=>t σ H λvs H1=>∃v,vs=[v]/\ok v H1/\∀dx,H1 dx=none->E (.ref C) (some dx) (bE H1 dx (.xd [(f,v)]))
section
variable {X:Cx}
def bY.freshV{pins:List (Addr×Obj)}{σ:St}{H:Hp}{s:Shared}{a:Addr}{o:HO}{h':Heap}(I:bY X pins σ H s)(na:s.heap.get? a=none)(k:∀b u,s.heap.get? b=some u->h'.get? b=some u)(new:dB X.prog X.w (bE H a o) h' a o):H a=none/\bY X pins σ (bE H a o) { s with heap:=h' }:=by
 have hn:H a=none:=by
  cases z:H a with
  | none=>rfl
  | some o=>obtain⟨ob,q⟩:=(I.hok a o z).ex;rw[na] at q;cases q
 have inh:∀b o,s.heap.get? b=some o->b≠a:=λb o q z=>by subst z;rw[na] at q;cases q
 have trk:∀b o,H b=some o->b≠a:=λb o q z=>by subst z;rw[hn] at q;cases q
 refine⟨hn,I.un (t':=s.toks) ⟨λb o q n _ _=>k b o q,λb o q n _ _=>⟨o.slots,k b o q⟩,λb o q n _=>by rw[aI (inh b o q)];exact n,λb o q _=>⟨o,k b o q⟩,λb xs q=>by rw[aI (trk b _ q)];exact q,λb o v q=>by rw[aI (trk b _ q)];exact q,λb ps q=>⟨#[],by rw[aI (trk b _ q),q];simp⟩⟩ λb u q=>?_⟩;by_cases z:b=a
 ·subst z;rw[aC] at q;cases q;exact new
 ·rw[aI z] at q;exact(I.hok b u q).stay (λc v hc q'=>k c v q') (λc q'=>by rw[aI (trk c _ q')];exact q') λc xs q'=>by rw[aI (trk c _ q')];exact q'
def Ah{x f:Str}{ok:V->Hp->Prop}{C fi:Addr}{fd:FuncData}{ps:List Str}{k:Nat}{bmB:List Value}{B newId initId:String}{E:XK}{e:Expr}{es:List Expr}{t:TA}{np cpos pos:Pos}(R:EV X E)(O:qr x C fi bmB newId X.mg X.base)(F:ExcBaseFacts B newId initId bmB)
  (G:nX X.prog X.w X.K X.mg X.base xk k fi fd ps (z9 C f ok)) (hty:PySem.W.typeIn X.K (.ref fi)=some (.type "function")) (hkp:PySem.W.keepIn X.K (.ref C)=true) (hb:Binds X.K fd ps []) (hok:∀v H x o,H x=none->ok v H->ok v (bE H x o)) (hr:gE (k+1) X.A) (hg:Gl X x) (ha:PA X (e::es) t)
  (hdb:(x==("__debug__":Str))=false:=by decide) (he:starEach (e::es) X.env=(false,eval e X.env)::starEach es X.env:=by rfl) (hpl:(backTo cpos (starEach es X.env)).any (·.1)=false:=by rfl) :
  PS X (.Raise (some (.Call (.Name x np) (e::es) [] cpos)) none pos) (ux C f ok E t):=by
 intro pins s σ H D I h;obtain⟨bm,N,nm,q,bs,hdct,sn,sub,ab,col,dd,k0,k1,k2,k3,k5,mN,hC,hN,hi,ot⟩:=O.obj;obtain⟨of,hof,hfn⟩:∃of,X.K.lookup fi=some of/\of.cls=.type "function":=by
  have hty':Option.map (λx=>x.cls) (List.lookup fi X.K)=some (.type "function"):=hty;obtain⟨of,h1,h2⟩:=lw.mp hty';exact⟨of,h1,h2⟩
 rw[arm_exec_Raise];refine wpAny_bind (V8 (yL (C:=C) (nm:=nm) (q:=q) (N:=N) (bs:=bs) (bm:=bm) (hdct:=hdct) (sn:=sn) (sub:=sub) (ab:=ab) (col:=col) (dd:=dd) (k0:=k0) (k1:=k1) (k2:=k2) (k3:=k3) (k5:=k5) (newId:=newId) (sE F.hasBase ot) hr.hd ?_));refine wpAny_bind (wpAny_mono (Q:=λv z=>∃e dO a0 sl,v=.ref e/\z.heap.get? C=some (excClassObj nm q C N bs bm hdct sn sub ab col dd k0 k1 k2 k3 k5 newId)/\z.heap.get? e=some ⟨.ref C,dO,.fields #[a0,.none,.none,.none,.bool false,.none],sl⟩/\X.xe (.ref e) z) ?_ (λv s3 h3=>wpAny_bind (V8 (Va h3))) λ_ _ y=>y);refine Vh (je I hg O.bound ?_ hdb);refine iH (h₀:=X.base) I.ok.mod.kin hkp (dZ (ha cpos pins s σ H _ I h) λus s1 ⟨vs,H1,I1,r,v,ev,okv,qE⟩=>⟨I1.kIn,?_⟩) he hpl;subst ev;obtain⟨h1,g1,d1,t1,os1⟩:=s1;have hlen:us.length<=sizeLine:=by rw[<-r.length];show 1<=sizeLine;rw[Vd];lia
 refine EA F (l4 I1.bk ot) (I1.bk _ _ hC) (se I1.bk hN) hi (I1.kIn _ _ hof) hfn hlen λhh x0 m=>?_;obtain⟨t0,m1,m2,m3⟩:=m.there;obtain⟨nx,I2⟩:=I1.freshV (o:=iN none C x0) m.new m.keeps (vI (t:=t0) m1);have r2:cE ([V.ref x0,v]++[]) ((Value.ref x0::us)++[]):=cE.append (.cons rfl r) .nil;have sp0:z9 C f ok ([V.ref x0,v]++[]) (bE H1 x0 (iN none C x0)) (λy H3=>y=.non/\∃dx,H1 dx=none/\dx≠x0/\H3=bE (bE (bE H1 x0 (iN none C x0)) dx (.xd [(f,v)])) x0 (iN (some dx) C x0)) E0:=
  ⟨x0,v,rfl,hok _ _ _ _ nx okv,aC,λdx n1 n2=>⟨rfl,dx,by rw[aI n2] at n1;exact n1,n2,rfl⟩⟩
 have hl:((Value.ref x0::us)++[]).length=ps.length:=by rw[<-r2.length];exact G.len _ _ _ _ sp0
 refine Vf (Vg (G.run _ X.stack _ _ ⟨Value.ref x0::us,[]⟩ ((Value.ref x0::us)++[]) ([V.ref x0,v]++[]) _ E0 (hr.make C us []) (I2.env0.make C us []) (hb _ (Value.ref x0::us) I2.kIn hl) r2 sp0) λrs s' hq=>?_);cases rs with
 | error ev=>exact False.elim hq
 | ok fl=>
  cases fl with
  | ret u=>
   obtain⟨y,H3,I3,ry,rfl,dx,n1,n2,rfl⟩:=I2.after hq;obtain⟨t3,o3⟩:=(I3.hok x0 _ aC).1;refine⟨ry,x0,some dx,.ref t3,#[],rfl,I3.bk _ _ hC,o3,R pins σ H1 _ _ _ x0 C (some dx) I1 m.new I3 aC ?_⟩;have e:yw (bE (bE (bE H1 x0 (iN none C x0)) dx (.xd [(f,v)])) x0 (iN (some dx) C x0)) x0=bE H1 dx (.xd [(f,v)]):=by
    funext b;by_cases z:b=x0
    ·subst z;unfold yw;rw[Vz rfl,aI (gg n2),nx]
    ·rw[lm z,aI z];by_cases z2:b=dx
     ·subst z2;rw[aC,aC]
     ·rw[aI z2,aI z2,aI z]
   rw[e];exact qE dx n1
  | next=>exact False.elim hq
  | brk=>exact False.elim hq
  | cont=>exact False.elim hq
end
def Dz{prog:Program}{w:World}{A:Around}{E:Value->Shared->Prop}{s:Shared}{K:WG}{a C N:Addr}{o od:Obj}{bs bm bmB:List Value}{nm q:Str}{hdct:Bool}{sn:List Str}{sub:List Value}{ab:Bool}{col:Option Bool}{dd:Option Addr}{k0 k1 k2 k3 k5:Option Value}{B newId:String}{name:Str}{expr:Bool}{v:Value}{Q:Value->Shared->Prop}
  (X:K.In s.heap) (I:PySem.W.InstAt s.heap a o C (some od)) (hga:PySem.W.findIn K (.ref C) "__getattribute__"=some (some (.builtin "BaseException.__getattribute__"))) (hgt:PySem.W.findIn K (.ref C) "__getattr__"=some none)
  (hf:PySem.W.findObj K C (some od) name=some (.value v)) (FB:ExcAttrBase B bmB) (hC:s.heap.get? C=some (excClassObj nm q C N bs bm hdct sn sub ab col dd k0 k1 k2 k3 k5 newId)) (T:OwnTailQ s.heap bmB bm) (hh:PySem.W.handedIn v=true) (hq:Q v { s with toks:=s.toks+1 }) :
  wpAny (model prog w) A (getAttr (.ref a) name expr) Q E s:=by
 obtain⟨h,g,d,t,os⟩:=s;unfold getAttr getAttrBy;refine wpAny_bind (wpAny_mkText (V7 (wpAny_bind (bp (cz I) (wpAny_bind (bp (dS X hga) ?_))))));refine Vn (by rfl) ?_;unfold getAttrByItsOwn hookBefore;refine wpAny_bind (wpAny_ite_true (by rfl) (bp (dS X hgt) (wpAny_bind (Vm (V7 ?_)))));unfold callGetattribute boundAndCalled;refine Vn (by cases expr<;>rfl) (wpAny_bind (wpAny_of_eq (FB.ga.bind (Value.ref a)) (Vf (Vo FB.ga.plain mY (Vp FB hC T I.at_ I.cls ?_)))));unfold Builtin.«object.__getattribute__»;refine wpAny_bind ?_;unfold slotArgs;refine Vn (by rfl) (Vn (by rfl) (Va ?_));show wpAny _ _ (Bind.bind (Builtin.ObjectAttr.attrName (Value.str name _)) _) _ _ _;refine wpAny_bind ?_;unfold Builtin.ObjectAttr.attrName;refine Va ?_;refine wpAny_bind (bp (cz I) (wpAny_bind (bp (kM X I hf) ?_)));refine Va ?_;refine ki hh ?_;exact hq
structure B7 (K:WG) (C:Addr) (f:Str):Prop where
 ga:PySem.W.findIn K (.ref C) "__getattribute__"=some (some (.builtin "BaseException.__getattribute__"))
 gt:PySem.W.findIn K (.ref C) "__getattr__"=some none
 no:PySem.W.findIn K (.ref C) f=some none
 hd:PySem.W.hasDictIn K C=true
 own:∃ B bmB,ExcAttrBase B bmB/\∀ h:Heap,K.In h->∃ nm q N bs bm hdct sn sub ab col dd k0 k1 k2 k3 k5 newId,h.get? C=some (excClassObj nm q C N bs bm hdct sn sub ab col dd k0 k1 k2 k3 k5 newId)/\OwnTailQ h bmB bm
def CT(K:WG)(f:Str)(ta:TE):TE:=λσ H Q=>ta σ H λx H1=>∃a C dx v,x=.ref a/\H1 a=some (nO (some dx) C a)/\H1 dx=some (.xd [(f,v)])/\B7 K C f/\Q v H1
section
variable {X:Cx}
def FJ{e:Expr}{f:Str}{ta:TE}{pos:Pos}(he:PE X e ta)(hb:attributeBase e f X.env (eval e X.env)=eval e X.env):PE X (.Attribute e f pos) (CT X.K f ta):=by
 intro pins s σ H Q I h;refine GN hb (dZ (he pins s σ H _ I h) λu s1 ⟨x,H1,I1,rx,a,C,dx,v,ex,ea,ed,k,q⟩=>?_);subst ex;obtain rfl:u=Value.ref a:=rx;obtain⟨⟨⟨o,o1,o2⟩,o',vs,o3,⟨o4,o5⟩,o6⟩,_⟩:=I1.hok a _ ea;rw[o1] at o3;cases o3;obtain⟨mA,n1,rl⟩:=I1.hok dx _ ed;obtain⟨od,d1,d2⟩:=q9 n1;obtain⟨u',hu,ru⟩:=rP.some_of (v:=v) (o:=mA f) (by have:=rl f;simp only[List.lookup,beq_self_eq_true] at this;exact this);obtain⟨B,bmB,FB,ow⟩:=k.own;obtain⟨nm,q0,N,bs,bm,hdct,sn,sub,ab,col,dd,k0,k1,k2,k3,k5,newId,hC,T⟩:=ow s1.heap I1.kIn;have J:PySem.W.InstAt s1.heap a o C (some od):=⟨o1,o2,by unfold PySem.W.notCls;rw[o5],by rw[o4];exact d1⟩
 exact Dz I1.kIn J k.ga k.gt (PySem.W.findObj_own k.hd k.no rfl (by rw[d2,hu])) FB hC T (BM ru) ⟨v,H1,I1.tok _,ru,q⟩
end
def JV{K:WG}{h:Heap}{N:Addr}{m:Str->Option Value}{x:Str}{v:Value}(KX:K.In h)(G:h.Ns N m)(q:PySem.W.nsIn K N x=some (some v)):m x=some v:=by
 obtain⟨o,es,ep,ho,hd,hk,hf⟩:=G;unfold PySem.W.nsIn at q
 revert q
 split
 ·rename_i c d es' n' sl lk;have e1:=KX _ _ lk;rw[ho] at e1;cases e1;cases hd;intro q
  split at q
  ·rename_i en fe;cases q;rw[<-hf];unfold nsFind findBy;rw[<-Array.find?_toList,fe];rfl
  ·split at q<;>cases q
 ·intro q;cases q
def yq{K:WG}{C R N NR fi:Addr}{nm q x f:Str}{bs bmB:List Value}{sn:List Str}{sub:List Value}{ab:Bool}{col:Option Bool}{dd dR:Option Addr}{k0 k1 k2 k3 k5:Option Value}{newId B:String}{cR:Value}{cdR:ClassData}{slR:Array (Option Value)}{mg:Str->Option Value}{base:Heap}
  (KX:K.In base) (G:base.Ns mainGlobals mg) (e0:PySem.W.nsIn K mainGlobals x=some (some (.ref C))) (lkC:K.lookup C=some (excClassObj nm q C N bs (.ref R::bmB) true sn sub ab col dd k0 k1 k2 k3 k5 newId)) (lkR:K.lookup R=some ⟨cR,dR,.cls cdR,slR⟩)
  (nC:PySem.W.nsOkIn K N=true) (iC:PySem.W.nsIn K N "__init__"=some (some (.ref fi))) (eR:cdR.ns=NR) (nR:PySem.W.nsOkIn K NR=true) (r1:PySem.W.nsIn K NR "__init__"=some none) (r2:PySem.W.nsIn K NR "__getattribute__"=some none) (r3:PySem.W.nsIn K NR "__getattr__"=some none) (r4:PySem.W.nsIn K NR "args"=some none)
  (FB:ExcAttrBase B bmB) (ga:PySem.W.findIn K (.ref C) "__getattribute__"=some (some (.builtin "BaseException.__getattribute__"))) (gt:PySem.W.findIn K (.ref C) "__getattr__"=some none) (sa:PySem.W.findIn K (.ref C) "__setattr__"=some (some (.builtin "object.__setattr__"))) (no:PySem.W.findIn K (.ref C) f=some none)
  (hob:(Value.ref C::.ref R::bmB).contains (.type "object")=true) (pass:∀self,refuseLoop self "__setattr__" bmB=pure ()):qr x C fi bmB newId mg base/\B7 K C f/\GZ K C f:=by
 subst eR;have hcl:∃cd,PySem.W.clsIn K C=some cd/\cd.hasDict=true/\cd.mro=.ref C::.ref R::bmB:=by
  unfold PySem.W.clsIn;rw[lkC];exact⟨_,rfl,rfl,rfl⟩
 obtain⟨cd,c1,c2,c3⟩:=hcl;refine⟨⟨be KX G e0,?_⟩,⟨ga,gt,no,?_,B,bmB,FB,λh X=>?_⟩,⟨sa,⟨cd,c1,c2,by rw[c3];exact hob,λself=>by rw[c3,refuseLoop_ref,refuseLoop_ref];exact pass self⟩,no⟩⟩
 ·exact⟨_,N,nm,q,bs,true,sn,sub,ab,col,dd,k0,k1,k2,k3,k5,_,KX _ _ lkC,eu (di KX nC),JV KX (eu (di KX nC)) iC,.own (KX _ _ lkR) (eu (di KX nR)) (b9 KX nR r1) .base⟩
 ·unfold PySem.W.hasDictIn;rw[c1];exact c2
 ·exact⟨nm,q,N,bs,_,true,sn,sub,ab,col,dd,k0,k1,k2,k3,k5,newId,X _ _ lkC,.own (X _ _ lkR) (eu (di X nR))
   (Cr (b9 X nR r1) (b9 X nR r2) (b9 X nR r3) (b9 X nR r4)) .base⟩
def MA:Stmt->Stmt
 | .ClassDef _ _ _ (b::r) _ _ _ _ _ _ _=>b
 | st=>st
structure MF (K:WG) (R:Addr) (initId:String):Prop where
 rd:PySem.W.readsIn K R (.type "type")=true
 sg:PySem.W.specialIn K (.ref R) "__getattribute__"=some (some (.builtin "type.__getattribute__"))
 fc:PySem.W.findCls K (.ref R) (.type "type") "__init__"=some (.val (.builtin initId))
 hh:PySem.W.handedIn (.builtin initId)=true
def BL:PySem.W.handedIn (.builtin "ValueError.__init__")=true:=by decide +kernel
structure Jz (P:Program) (w:World) (K:WG) (mg:Str->Option Value) (base:Heap) (k:Nat) (x:Str) (C:Addr) (f:Str) (ok:V->Hp->Prop):Prop where
 ex:∃ fi fd ps bmB newId B initId,qr x C fi bmB newId mg base/\ExcBaseFacts B newId initId bmB/\nX P w K mg base xk k fi fd ps (z9 C f ok)/\PySem.W.typeIn K (.ref fi)=some (.type "function")/\PySem.W.keepIn K (.ref C)=true/\Binds K fd ps []/\∀ (v:V) (H:Hp) (x:Addr) (o:HO),H x=none->ok v H->ok v (bE H x o)
section
variable {X:Cx}
def Ad{xR x:Str}{R C fi:Addr}{bmB:List Value}{B newId initId:String}{e:Expr}{es:List Expr}{t:TA}{p apos pos:Pos}{pl:Sem Bool}(F:ExcBaseFacts B newId initId bmB)(O:qr x C fi bmB newId X.mg X.base)(hmR:X.mg xR=some (.ref R))(u:MF X.K R initId)(hgR:Gl X xR)(ha:QA X (e::es) t)
  (hdb:(xR==("__debug__":Str))=false:=by decide) (hst:starEach (e::es) X.env=(false,eval e X.env)::starEach es X.env:=by rfl) (hpl:(backTo pos (starEach es X.env)).any (·.1)=false:=by rfl)
  (ht:eval (.Call (.Attribute (.Name xR p) "__init__" apos) (e::es) [] pos) X.env=(do
   let ov <-eval (.Name xR p) X.env
   standAt apos.atName
   let (f,fst) <-holding [ov] (getMethod ov "__init__" pl)
   callWith pos f fst (backTo pos (starEach (e::es) X.env)) (backToKw pos (keywordEach [] X.env))):=by rfl) :
  QE X (.Call (.Attribute (.Name xR p) "__init__" apos) (e::es) [] pos) (xr C t):=⟨DL F O hgR hmR u.rd u.sg u.fc u.hh ha.h hdb hst hpl ht⟩
def Cs{o value:Expr}{f:Str}{C:Addr}{pos pos':Pos}{ta tv:TE}(k:GZ X.K C f)(ha:QE X o ta)(hv:QE X value tv)(hs:swapsWith value (some (.Attribute o f pos')) pos.line X.env=pure false:=by rfl):QS X (.Assign [.Attribute o f pos'] value pos) (Ca C f ta tv):=⟨Ex k ha.h hv.h hs⟩
def yN{k:Nat}{x f:Str}{ok:V->Hp->Prop}{C:Addr}{E:XK}{e:Expr}{es:List Expr}{t:TA}{np cpos pos:Pos}(R:EV X E)(D:Jz X.prog X.w X.K X.mg X.base k x C f ok)(hr:gE (k+1) X.A)(hg:Gl X x)(ha:QA X (e::es) t)
  (hdb:(x==("__debug__":Str))=false:=by decide) (he:starEach (e::es) X.env=(false,eval e X.env)::starEach es X.env:=by rfl) (hpl:(backTo cpos (starEach es X.env)).any (·.1)=false:=by rfl) :
  QS X (.Raise (some (.Call (.Name x np) (e::es) [] cpos)) none pos) (ux C f ok E t):=by
 obtain⟨fi,fd,ps,bmB,newId,B,initId,O,F,G,ty,kp,b,hok⟩:=D.ex;exact⟨Ah R O F G ty kp b hok hr hg ha.h hdb he hpl⟩
def Cy{e:Expr}{f:Str}{ta:TE}{pos:Pos}(he:QE X e ta)(hb:attributeBase e f X.env (eval e X.env)=eval e X.env:=by rfl):QE X (.Attribute e f pos) (CT X.K f ta):=⟨FJ he.h hb⟩
end
section
variable {σ:St} {H:Hp} {Q:VK} {D:Ends}
def E4{C:Addr}{t:TA}:xr C t σ H Q=t σ H λvs H1=>∃e v,vs=[.ref e,v]/\H1 e=some (iN none C e)/\Q .non H1:=rfl
def HW{C:Addr}{f:Str}{ta tv:TE}:Ca C f ta tv D σ H=tv σ H λy H1=>ta σ H1 λx H2=>∃e,x=.ref e/\H2 e=some (iN none C e)/\∀dx,H2 dx=none->dx≠e->D.nx σ (bE (bE H2 dx (.xd [(f,y)])) e (iN (some dx) C e)):=rfl
def Bo{C:Addr}{f:Str}{ok:V->Hp->Prop}{E:XK}{t:TA}:ux C f ok E t D σ H=t σ H λvs H1=>∃v,vs=[v]/\ok v H1/\∀dx,H1 dx=none->E (.ref C) (some dx) (bE H1 dx (.xd [(f,v)])):=rfl
def Ha{K:WG}{f:Str}{ta:TE}:CT K f ta σ H Q=ta σ H λx H1=>∃a C dx v,x=.ref a/\H1 a=some (nO (some dx) C a)/\H1 dx=some (.xd [(f,v)])/\B7 K C f/\Q v H1:=rfl
end
def n9:∀{cs:List Addr} {us:List Value},cE (cs.map V.ref) us->us=cs.map Value.ref
 | [],_,.nil=>rfl
 | c::cs,_,.cons r t=>by
  rw[n9 t];cases r;rfl
def Fa(v:V)(H:Hp):Prop:=∃a d,v=.ref a/\Dat H v d/\d.showable=true/\d.hasDict=false/\d.depth<=10/\d.shown.length<=500
def D6:∀(v:V) (H:Hp) (x:Addr) (o:HO),H x=none->Fa v H->Fa v (bE H x o):=λ_ H _ _ hn ⟨a,d,e,h,r⟩=>⟨a,d,e,h.same ((aV.refl H).new hn),r⟩
def M6(x y:Str):(tupleText [x,y]).length<=x.length+y.length+7:=by
 have:=tupleText_len_le [x,y];simp only[bC,eI,List.sum_cons,List.sum_nil,bq,em] at this;lia
def M5(x y z:Str):(tupleText [x,y,z]).length<=x.length+y.length+z.length+9:=by
 have:=tupleText_len_le [x,y,z];simp only[bC,eI,List.sum_cons,List.sum_nil,bq,em] at this;lia
abbrev pB (a b:Int):PyData:=.tuple [.int a,.int b]
def wO{a:Int}(h0:0<=a)(h1:a<=60):(PyData.shown (.int a)).length<=2/\PyData.showable (.int a)=true:=by
 obtain⟨n,rfl⟩:=fY h0;obtain⟨e1,e2⟩:=BA n (by lia);exact⟨e1,by simp only[PyData.showable];exact WC e2⟩
def wQ{a b:Int}(a0:0<=a)(a1:a<=60)(b0:0<=b)(b1:b<=60):(PyData.shown (pB a b)).length<=11/\PyData.showable (pB a b)=true:=by
 obtain⟨x1,x2⟩:=wO a0 a1;obtain⟨y1,y2⟩:=wO b0 b1;refine⟨?_,?_⟩
 ·show (tupleText [PyData.shown (.int a),PyData.shown (.int b)]).length<=11;have:=M6 (PyData.shown (.int a)) (PyData.shown (.int b));lia
 ·show (PyData.showable (.int a)&&(PyData.showable (.int b)&&true))=true;rw[x2,y2];rfl
def Ay {H:Hp} {p:Addr} {z:Str} {a b c d:Int} (hz:z=Str.ofString "l"\/z=Str.ofString "r") (h:Dat H (.ref p) (.tuple [.str z,pB a b,pB c d])) (a0:0<=a) (a1:a<=60) (b0:0<=b) (b1:b<=60) (c0:0<=c) (c1:c<=60) (d0:0<=d) (d1:d<=60):Fa (.ref p) H:=by
 obtain⟨x1,x2⟩:=wQ a0 a1 b0 b1;obtain⟨y1,y2⟩:=wQ c0 c1 d0 d1;have z1:(PyData.shown (.str z)).length<=10:=by rcases hz with rfl | rfl<;>decide +kernel
 refine⟨p,_,rfl,h,?_,rfl,by simp[PyData.depth,PyData.depthAll],?_⟩
 ·show (PyData.showable (.str z)&&(PyData.showable (pB a b)&&(PyData.showable (pB c d)&&true)))=true;rw[x2,y2];rfl
 ·show (tupleText [PyData.shown (.str z),PyData.shown (pB a b),PyData.shown (pB c d)]).length<=500;have:=M5 (PyData.shown (.str z)) (PyData.shown (pB a b)) (PyData.shown (pB c d));lia
def IE(ta tb:TE):TE:=λσ H Q=>ta σ H λx H1=>∃c,x=.str c/\c.length<=400/\tb σ H1 λy H2=>Fa y H2/\∀z,Q (.str z) H2
section
variable {X:Cx}
def JI{k:Nat}{v1 v2:Expr}{fpos pos:Pos}{ta tb:TE}(hr:gE k X.A)(ha:PE X v1 ta)(hb:PE X v2 tb):PE X (.JoinedStr [v1,.FormattedValue v2 114 none fpos] pos) (IE ta tb):=by
 intro pins s σ H Q I h;refine JoinedStr_many (joinParts_cons (dZ (ha pins s σ H _ I h) λu s1 ⟨x,H1,I1,rx,c,ex,hc,q⟩=>?_));subst ex;obtain⟨tk,rfl⟩:∃tk,u=Value.str c tk:=rx;have l0:(Str.empty++c).length=c.length:=by rw[strLen_append];exact mB _
 refine⟨by rw[l0];exact ah (aq (by lia)),joinParts_cons (wpAny_FormattedValue_repr (dZ (hb pins s1 σ H1 _ I1 q) λu2 s2 ⟨y,H2,I2,ry,ok,q2⟩=>?_))⟩;obtain⟨a,d,rfl,hd,h1,h2,h3,h4⟩:=ok;obtain rfl:u2=Value.ref a:=ry;obtain⟨as,r⟩:=(hd.rep (K:=X.K)).reads I2 rfl;refine pyReprObj_of_reads r h1 (PyData.noDict_hsm h2) hr.gd (by have:=hr.un;lia) (λ_ _ e=>e) (λh' u tk hk=>?_) (ah (aq (by lia)));have l1:((Str.empty++c)++d.shown).length<=sizeLine:=by rw[strLen_append,l0];exact ah (aq (by lia))
 exact wpAny_formatField_str ⟨l1,joinParts_nil ⟨.str ((Str.empty++c)++d.shown),H2,I2.kept hk,⟨_,rfl⟩,q2 _⟩ l1⟩ ⟨l1,joinParts_nil ⟨.str ((Str.empty++c)++d.shown),H2,I2.kept hk,⟨_,rfl⟩,q2 _⟩ l1⟩ (ah (aq (by lia)))
def Eo{k:Nat}{v1 v2:Expr}{fpos pos:Pos}{ta tb:TE}(hr:gE k X.A)(ha:QE X v1 ta)(hb:QE X v2 tb):QE X (.JoinedStr [v1,.FormattedValue v2 114 none fpos] pos) (IE ta tb):=⟨JI hr ha.h hb.h⟩
end
def K9{σ:St}{H:Hp}{Q:VK}{ta tb:TE}:IE ta tb σ H Q=ta σ H λx H1=>∃c,x=.str c/\c.length<=400/\tb σ H1 λy H2=>Fa y H2/\∀z,Q (.str z) H2:=rfl
def yr{prog:Program}{w:World}{A:Around}{E:Value->Shared->Prop}{s:Shared}{K:WG}{a C N:Addr}{o:Obj}{od:Option Obj}{bs bm bmB:List Value}{nm q:Str}{hdct:Bool}{sn:List Str}{sub:List Value}{ab:Bool}{col:Option Bool}{dd:Option Addr}{k0 k1 k2 k3 k5:Option Value}{B newId:String}{Q:Option Value->Shared->Prop}
  (X:K.In s.heap) (I:PySem.W.InstAt s.heap a o C od) (hga:PySem.W.findIn K (.ref C) "__getattribute__"=some (some (.builtin "BaseException.__getattribute__"))) (hgt:PySem.W.findIn K (.ref C) "__getattr__"=some none)
  (hf:PySem.W.findObj K C od "__class__"=some (.bind (.builtin "getset_descriptor.__get__") (.builtin "object.__class__"))) (hm:PySem.W.mroIn K C (.type "object")=some true) (FB:ExcAttrBase B bmB)
  (hC:s.heap.get? C=some (excClassObj nm q C N bs bm hdct sn sub ab col dd k0 k1 k2 k3 k5 newId)) (T:OwnTailQ s.heap bmB bm) (hq:Q (some (.ref C)) { s with toks:=s.toks+1 }):wpAny (model prog w) A (getAttr? (.ref a) "__class__") Q E s:=by
 obtain⟨h,g,d,t,os⟩:=s;unfold getAttr?;refine wpAny_bind (wpAny_mkText ?_);unfold getAttrBy?;refine wpAny_bind (Vm ?_);unfold getAttrBy;refine V7 (wpAny_bind (bp (cz I) (wpAny_bind (bp (dS X hga) ?_))));refine Vn (by rfl) ?_;unfold getAttrByItsOwn hookBefore;refine wpAny_bind (wpAny_ite_true (by rfl) (bp (dS X hgt) (wpAny_bind (Vm (V7 ?_)))));unfold callGetattribute boundAndCalled;refine Vn (by rfl) (wpAny_bind (wpAny_of_eq (FB.ga.bind (Value.ref a)) (Vf (Vo FB.ga.plain mY (Vp FB hC T I.at_ I.cls ?_)))));unfold Builtin.«object.__getattribute__»;refine wpAny_bind ?_;unfold slotArgs;refine Vn (by rfl) (Vn (by rfl) (Va ?_));show wpAny _ _ (Bind.bind (Builtin.ObjectAttr.attrName (Value.str (Str.ofString "__class__") _)) _) _ _ _;refine wpAny_bind ?_;unfold Builtin.ObjectAttr.attrName;refine Va ?_;refine wpAny_bind (bp (cz I) (wpAny_bind (bp (kM X I hf) ?_)));unfold Builtin.ObjectAttr.bindTo;refine wpAny_bind (V7 (Vf (PySem.W.class_get X I hm ?_)));refine Va ?_;refine ki rfl ?_;exact Va hq
structure xf (K:WG) (C:Addr):Prop where
 ga:PySem.W.findIn K (.ref C) "__getattribute__"=some (some (.builtin "BaseException.__getattribute__"))
 gt:PySem.W.findIn K (.ref C) "__getattr__"=some none
 fo:∀ od:Obj,PySem.W.findObj K C (some od) "__class__"=some (.bind (.builtin "getset_descriptor.__get__") (.builtin "object.__class__"))
 mro:PySem.W.mroIn K C (.type "object")=some true
 lk:∃ c dd cd sl,K.lookup C=some ⟨c,dd,.cls cd,sl⟩
 own:∃ B bmB,ExcAttrBase B bmB/\∀ h:Heap,K.In h->∃ nm q N bs bm hdct sn sub ab col dd k0 k1 k2 k3 k5 newId,h.get? C=some (excClassObj nm q C N bs bm hdct sn sub ab col dd k0 k1 k2 k3 k5 newId)/\OwnTailQ h bmB bm
def LY(C a:Addr)(h:Heap):Prop:=∃o od,PySem.W.InstAt h a o C (some od)
def BF{K:WG}{C a:Addr}(k:xf K C):PySem.W.KitX K (.ref a) (.ref C) (LY C a):=by
 obtain⟨c,dd,cd,sl,lk⟩:=k.lk;refine⟨λM h _ x=>?_,λM h X _ A Q E s kp hq=>?_,λh tp dd' its n sl' X htp=>?_,fun {prog w A E Q s} X x hq=>?_⟩
 ·obtain⟨o,od,I⟩:=x;exact cz I
 ·exact wpAny_bind (wpAny_loadPart (kp C _ (X C _ lk)) (Va hq))
 ·refine Bool.eq_false_iff.mpr λq=>?_;have e:=Value.ref.inj (beq_iff_eq.mp q);subst e;rw[X C _ lk] at htp;cases htp
 ·obtain⟨o,od,I⟩:=x;obtain⟨B,bmB,FB,ow⟩:=k.own;obtain⟨nm,q,N,bs,bm,hdct,sn,sub,ab,col,dd,k0,k1,k2,k3,k5,newId,hC,T⟩:=ow s.heap X;exact yr X I k.ga k.gt (k.fo od) k.mro FB hC T hq
inductive ExcAt (K:WG) (H:Hp) (a C:Addr):Prop
 | bare:H a=some (MB C a)->vq K C->ExcAt K H a C
 | dict {dx:Addr} {f:Str} {v:V}:H a=some (nO (some dx) C a)->H dx=some (.xd [(f,v)])->xf K C->ExcAt K H a C
def ExcAt.same{K:WG}{H H':Hp}{a C:Addr}(h:ExcAt K H a C)(s:aV H H'):ExcAt K H' a C:=by
 cases h with
 | bare h k=>exact .bare (s _ _ h) k
 | dict h h2 k=>exact .dict (s _ _ h) (s _ _ h2) k
def ExcAt.kit{X:Cx}{pins:List (Addr×Obj)}{σ:St}{H:Hp}{s:Shared}{a C:Addr}(I:bY X pins σ H s)(h:ExcAt X.K H a C):∃R:Heap->Prop,PySem.W.KitX X.K (.ref a) (.ref C) R/\R s.heap:=by
 cases h with
 | bare h k=>exact⟨_,Dm k,(I.hok a _ h).1⟩
 | dict h h2 k=>
  refine⟨_,BF k,?_⟩;obtain⟨⟨⟨o,o1,o2⟩,o',vs,o3,⟨o4,o5⟩,o6⟩,_⟩:=I.hok a _ h;rw[o1] at o3;cases o3;obtain⟨mA,n1,rl⟩:=I.hok _ _ h2;obtain⟨od,d1,d2⟩:=q9 n1;exact⟨o,od,o1,o2,by unfold PySem.W.notCls;rw[o5],by rw[o4];exact d1⟩
def zf(K:WG):List V->Hp->VK->Prop:=λxs H Q=>∃a C c cv b,xs=[.ref a,c]/\ExcAt K H a C/\((∃T,c=.ty T/\cv=Value.type T)\/∃D,c=.ref D/\cv=Value.ref D)/\PySem.W.kitOne K (.ref C) cv=some b/\Q (.bl b) H
def B3 {X:Cx}:gT X (.builtin "isinstance") (zf X.K):=by
 intro pins s σ H xs us Q I r h;obtain⟨a,C,c,cv,b,rfl,hC,hc,e,q⟩:=h;obtain⟨u,w,rfl,rx,rw'⟩:=cE.two r;cases (show u=Value.ref a from rx);have ew:w=cv:=by
  rcases hc with ⟨T,rfl,rfl⟩ | ⟨D,rfl,rfl⟩
  ·exact rw'
  ·exact rw'
 subst ew;obtain⟨R,kx,hx⟩:=hC.kit I;exact c9 kx I.kIn hx e (λz=>nomatch z) λtk=>⟨.bl b,H,I.tok tk,rfl,q⟩
def eQ {X:Cx} {K:WG} (h:X.K=K):gT X (.builtin "isinstance") (zf K):=h▸B3
def t8{K:WG}{a C D:Addr}{H:Hp}{b:Bool}{Q:VK}(hC:ExcAt K H a C)(e:PySem.W.kitOne K (.ref C) (.ref D)=some b)(q:Q (.bl b) H):zf K [.ref a,.ref D] H Q:=⟨a,C,_,_,b,rfl,hC,.inr ⟨D,rfl,rfl⟩,e,q⟩
def LJ{K:WG}{a C:Addr}{T:String}{H:Hp}{b:Bool}{Q:VK}(hC:ExcAt K H a C)(e:PySem.W.kitOne K (.ref C) (.type T)=some b)(q:Q (.bl b) H):zf K [.ref a,.ty T] H Q:=⟨a,C,_,_,b,rfl,hC,.inl ⟨T,rfl,rfl⟩,e,q⟩
structure B5 (K:WG) (C:Addr) (ds:List Addr) (due:Nat):Prop where
 kit:∀ j d,ds[j]? = some d->PySem.W.kitOne K (.ref C) (.ref d)=some (decide (j=due))
 val:PySem.W.kitOne K (.ref C) (.type "ValueError")=some true
def LW.d{K:WG}{C:Addr}{ds:List Addr}{due:Nat}(h:LW K C ds due):B5 K C ds due:=⟨h.kit,h.val⟩
def EB{K:WG}{C R N NR:Addr}{nm q:Str}{bs bmB:List Value}{hdct:Bool}{sn:List Str}{sub:List Value}{ab:Bool}{col:Option Bool}{dd dR:Option Addr}{k0 k1 k2 k3 k5:Option Value}{newId:String}{cR:Value}{cdR:ClassData}{slR:Array (Option Value)}{f:Str}
  (lkC:K.lookup C=some (excClassObj nm q C N bs (.ref R::bmB) hdct sn sub ab col dd k0 k1 k2 k3 k5 newId)) (A:B7 K C f) (gc:PySem.W.findIn K (.ref C) "__class__"=some (some (.builtin "object.__class__")))
  (sp:PySem.W.specialIn K (.builtin "object.__class__") "__get__"=some (some (.builtin "getset_descriptor.__get__"))) (tk:PySem.W.takesIn K (.builtin "object.__class__")=some true) (mr:PySem.W.mroIn K C (.type "object")=some true):xf K C:=
 ⟨A.ga,A.gt,λod=>PySem.W.findObj_data (by unfold PySem.W.clsIn;rw[lkC];rfl) gc sp tk,mr,⟨_,_,_,_,lkC⟩,A.own⟩
end L2
namespace Rm
open PySem L2 PyProof.Rows
def D9{p q:Bw}(h:bO p q=false):¬(p.1<q.1/\q.1<p.2/\p.2<q.2):=λ⟨a,b,c⟩=>by
 unfold bO at h;rw[WC a,WC b,WC c] at h;cases h
def vH{b:Bool}{ns:List Int}(O:gm ns){u:Bool}{p:Bw}(hp:p∈aj b ns u (ns.length+1)):0<=p.1/\p.1<p.2/\p.2<=21:=by
 obtain⟨i,hi,_,rfl⟩:=dy hp;have h1:=O.step_in (i:=i) (by lia);have h2:=O.step_lt (i:=i) (by lia);have:=O.len;exact⟨h1.1,h2,by lia⟩
def jH.dat{H:Hp}{t:Addr}{u:Bool}{p q:Bw}(h:jH H t u p q):Dat H (.ref t) (.tuple [.str (sd u),pB p.1 p.2,pB q.1 q.2]):=by
 obtain⟨a,c,h1,h2,h3⟩:=h;exact .tup h1 (.cons (.str _) (.cons (.tup h2 (.cons (.int _) (.cons (.int _) .nil))) (.cons (.tup h3 (.cons (.int _) (.cons (.int _) .nil))) .nil)))
def jH.same{H H':Hp}{t:Addr}{u:Bool}{p q:Bw}(h:jH H t u p q)(s:aV H H'):jH H' t u p q:=by
 obtain⟨a,c,h1,h2,h3⟩:=h;exact⟨a,c,s _ _ h1,s _ _ h2,s _ _ h3⟩
def jH.ok{H:Hp}{t:Addr}{u:Bool}{p q:Bw}{b:Bool}{ns:List Int}(h:jH H t u p q)(O:gm ns)(hp:p∈aj b ns u (ns.length+1))(hq:q∈aj b ns u (ns.length+1)):Fa (.ref t) H:=by
 have h1:=vH O hp;have h2:=vH O hq;exact Ay (by cases u;exact .inl rfl;exact .inr rfl) h.dat (by lia) (by lia) (by lia) (by lia) (by lia) (by lia) (by lia) (by lia)
def C1(M C:Addr):Sp:=λvs H Q E=>∃x d,vs=[x]/\Dat H x d/\Pl d 60/\((nL d=false/\∀H',aV H H'->E (.ref M) none H')\/∃m o b ns,x=.ref m/\dj H m o b ns/\d=JZ b ns/\gm ns/\(NC b ns->∀H',aV H H'->Q (.bl true) H') ∧
 ∀u,∀p∈aj b ns u (ns.length+1),∀q∈aj b ns u (ns.length+1),bO p q=true->∀t dx H',aV H H'->jH H' t u p q->H' dx=some (.xd [("bows",.ref t)])->E (.ref C) (some dx) H')
structure MK (b:Bool) (ns:List Int) (u:Bool) (p q:Bw):Prop where
 hp:p∈aj b ns u (ns.length+1)
 hq:q∈aj b ns u (ns.length+1)
 z:bO p q=true
def AS(p:Bw):PyData:=pB p.1 p.2
def GJ(p q:Bw):PyData.eqv (AS p) (AS q)=decide (p=q):=by
 show PyData.eqvAll ([p.1,p.2].map PyData.int) ([q.1,q.2].map PyData.int)=_;rw[pc];refine decide_eq_decide.mpr ⟨λh=>?_,λh=>by rw[h]⟩;simp only[List.cons.injEq,and_true] at h;exact lP h.1 h.2
def CM{H:Hp}{a:Addr}{p:Bw}(h:bi H a p):Dat H (.ref a) (AS p):=.tup h (.cons (.int _) (.cons (.int _) .nil))
def GI{H:Hp}{as:List Addr}{ps:List Bw}(h:Paired (bi H) as ps):gS H (as.map V.ref) (ps.map AS):=by
 induction h with
 | nil=>exact .nil
 | cons r _ ih=>exact .cons (CM r) ih
def zC(p:Bw){k:Nat}:Pl (AS p) (k+1):=Ip (MS (DI _) (DI _))
def Jl(ps:List Bw){k:Nat}:∀d∈ps.map AS,Pl d (k+1):=λd hd=>by obtain⟨p,_,rfl⟩:=bM.mp hd;exact zC p
def AD{K:WG}{H:Hp}{a l:Addr}{p:Bw}{ps:List Bw}{neg:Bool}{Q:VK}(ha:bi H a p)(hl:c7 H l ps)(q:Q (.bl (if neg then !decide (p∈ps) else decide (p∈ps))) H):Cp K neg (.ref a) (.ref l) H Q:=by
 obtain⟨as,h1,h2⟩:=hl;refine⟨AS p,ps.map AS,l,_,(CM ha).rep,rfl,.inl (cW.of h1),(GI h2).rep,(zC p (k:=0)).lay,qa λd hd=>(Jl ps (k:=0) d hd).lay,cH (zC p (k:=0)).deep (by decide),?_⟩;have e:(ps.map AS).any (λe=>PyData.eqv e (AS p))=decide (p∈ps):=by
  rw[List.any_map];have:(λx=>(λe=>PyData.eqv e (AS p)) (AS x))=λx=>decide (x=p):=by funext x;exact GJ x p
  show ps.any (λx=>PyData.eqv (AS x) (AS p))=_;rw[this];rw[iD,lX,WA];exact⟨λ⟨x,h,e⟩=>by rw[WA] at e;rw[<-e];exact h,λh=>⟨p,h,WC rfl⟩⟩
 rw[e];exact q
def ud{p q:Bw}(h:bO p q=true):p.1<q.1/\q.1<p.2/\p.2<q.2:=by
 unfold bO at h;rw[ai,ai,WA,WA,WA] at h;exact h
end Rm
namespace Rm
open PySem L2
def DW{α β:Type}{F:α->β->Prop}{l:List α}{m:List β}(h:Paired F l m):∀{i:Nat} {a:α},l[i]? = some a->∃b,m[i]? = some b/\F a b:=by
 induction h with
 | nil=>intro i a h;simp at h
 | cons r _ ih=>
  intro i a h;cases i with
  | zero=>cases h;exact⟨_,rfl,r⟩
  | succ i=>exact ih h
end Rm
namespace Rm
open PySem L2 PyProof.Rows
def ym{L R c:Nat->Nat}{m:Nat}(c0:c 0=0)(hL:∀i,i<m->L (c (2*i))=c (2*i+1))(hR:∀i,i<m->R (c (2*i+1))=c (2*i+2)):∀i,i<=m->gq L R 0 i=c (2*i)
 | 0,_=>c0.symm
 | i+1,h=>by
  show R (L (gq L R 0 i))=_;rw[ym c0 hL hR i (by lia),hL i (by lia),hR i (by lia)];rfl
def Cm{L R c:Nat->Nat}{m:Nat}(c0:c 0=0)(hL:∀i,i<m->L (c (2*i))=c (2*i+1))(hR:∀i,i<m->R (c (2*i+1))=c (2*i+2)):∀i,i<=m->my L R 0 i=(List.range (2*i)).map c
 | 0,_=>rfl
 | i+1,h=>by
  rw[my,Cm c0 hL hR i (by lia),ym c0 hL hR i (by lia),hL i (by lia),show 2*(i+1)=2*i+1+1 by lia,ff,ff];simp
def Cc{L R c:Nat->Nat}{m:Nat}(hm:0<m)(c0:c 0=0)(cl:c (2*m)=0)(inj:∀i j,i<2*m->j<2*m->c i=c j->i=j)(lt:∀i,i<2*m->c i<2*m)
  (hL:∀i,i<m->L (c (2*i))=c (2*i+1)) (hR:∀i,i<m->R (c (2*i+1))=c (2*i+2)):rsF L R (2*m)=[(List.range (2*m)).map c]:=by
 have it:=ym c0 hL hR;have per:GT L R 0 m:=⟨hm,λj k hj hk e=>by
  rw[it j (by lia),it k (by lia)] at e;have:=inj _ _ (by lia) (by lia) e;lia,by rw[it m (aJ _),cl]⟩
 have rd:rdF L R 0=(List.range (2*m)).map c:=by rw[rdF,zo per,Cm c0 hL hR m (aJ _)]
 have nd:((List.range (2*m)).map c).Nodup:=by
  rw[List.Nodup,dt];refine(mw.mp (jD (n:=2*m))).imp fun {a b} h e=>h.2.2 (inj a b (cQ.mp h.1) (cQ.mp h.2.1) e)
 have pm:=kd nd (m:=List.range (2*m)) (λx hx=>by
  obtain⟨i,hi,rfl⟩:=bM.mp hx;exact cQ.mpr (lt i (cQ.mp hi))) (by simp)
 have all:∀x,x<2*m->x∈(List.range (2*m)).map c:=λx hx=>pm.mem_iff.mpr (cQ.mpr hx);have go:∀k,k<2*m->rsF L R (k+1)=[(List.range (2*m)).map c]:=by
  intro k
  induction k with
  | zero=>intro _;rw[vM (by rintro⟨r,hr,_⟩;cases hr),rd];rfl
  | succ k ih=>
   intro hk;have e:=ih (by lia);rw[sR,e];rw[e];exact⟨_,bc.mpr rfl,all _ hk⟩
 obtain⟨k,hk⟩:∃k,2*m=k+1:=⟨2*m - 1,by lia⟩
 have:=go k (by lia);rw[<-hk] at this;exact this
def pq(n:Int)(p:Bw):Bw:=if p.2=n then (0,p.1) else p
def mS(ns:List Int)(j:Nat):Int:=bQ ns (j % (ns.length+1))
def oy{ns:List Int}{j:Nat}(h:j<ns.length+1):mS ns j=bQ ns j:=by unfold mS;rw[Nat.mod_eq_of_lt h]
def lp(ns:List Int):mS ns (ns.length+1)=0:=by unfold mS;rw[Nat.mod_self];rfl
def uc(ns:List Int):mS ns 0=0:=by unfold mS;rw[Nat.zero_mod];rfl
def gm.row_le{ns:List Int}(O:gm ns){j:Nat}(h:j<ns.length+1):0<=bQ ns j/\bQ ns j<=ns.length:=by
 have h1:=O.row_in (i:=j) (by lia);have:bQ ns j≠(ns.length:Int)+1:=λe=>by
  rw[<-fu ns] at e;have:=O.row_inj (by lia) (by lia) e;lia
 lia
def gm.cy_in{ns:List Int}(O:gm ns)(j:Nat):0<=mS ns j/\mS ns j<=ns.length:=O.row_le (Nat.mod_lt _ (by lia))
def gm.cy_inj{ns:List Int}(O:gm ns){i j:Nat}(hi:i<ns.length+1)(hj:j<ns.length+1)(h:mS ns i=mS ns j):i=j:=by
 rw[oy hi,oy hj] at h;exact O.row_inj (by lia) (by lia) h
def EF(ns:List Int)(i:Nat):Bw:=(min (mS ns i) (mS ns (i+1)),max (mS ns i) (mS ns (i+1)))
def xT{ns:List Int}(O:gm ns){i:Nat}(hi:i<ns.length+1):pq ((ns.length:Int)+1) (cV ns i)=EF ns i:=by
 by_cases e:i=ns.length
 ·subst e;have h1:=O.row_le (j:=ns.length) (by lia);unfold pq cV EF;rw[lp,oy (by lia),fu];rw[Vz (by show max _ _=_;lia)];refine lP ?_ ?_
  ·show (0:Int)=min _ 0;lia
  ·show min (bQ ns ns.length) ((ns.length:Int)+1)=max _ 0;lia
 ·have h1:=O.row_le (j:=i) (by lia);have h2:=O.row_le (j:=i+1) (by lia);unfold pq cV EF;rw[oy (by lia),oy (by lia),Vy (by show ¬max _ _=_;lia)]
def oj(b u:Bool)(i:Nat):bj b u (i+1)=!bj b u i:=by
 unfold bj;rw[kI];cases b<;>cases u<;>cases odd i<;>rfl
def nj(b:Bool)(ns:List Int)(u:Bool):∀k,(aj b ns u (2*k)).length=k
 | 0=>rfl
 | k+1=>by
  rw[show 2*(k+1)=2*k+1+1 by lia];cases h:bj b u (2*k) with
  | true=>
   rw[gK (by rw[oj,h];rfl),f7 h,aU,nj b ns u k];rfl
  | false=>
   rw[f7 (by rw[oj,h];rfl),gK h,aU,nj b ns u k];rfl
structure tT (b:Bool) (ns:List Int) (u:Bool) (ps:List Bw):Prop where
 perm:ps.Perm ((aj b ns u (ns.length+1)).map (pq ((ns.length:Int)+1)))
def tT.of{b:Bool}{ns:List Int}{u:Bool}{L:List Bw}(h:L.Perm (aj b ns u (ns.length+1))):tT b ns u (L.map (pq ((ns.length:Int)+1))):=⟨h.map _⟩
section
variable {b u:Bool} {ns:List Int} {ps:List Bw}
def tT.mem(S:tT b ns u ps)(O:gm ns){p:Bw}:p∈ps<->∃i,i<ns.length+1/\bj b u i=true/\p=EF ns i:=by
 rw[S.perm.mem_iff,bM];constructor
 ·rintro⟨q,hq,rfl⟩;obtain⟨i,hi,s,rfl⟩:=dy hq;exact⟨i,hi,s,xT O hi⟩
 ·rintro⟨i,hi,s,rfl⟩;exact⟨_,gx hi s,xT O hi⟩
def tT.len(S:tT b ns u ps){k:Nat}(hk:ns.length+1=2*k):ps.length=k:=by
 rw[S.perm.length_eq,aD,hk,nj]
def tT.fill(S:tT b ns u ps)(O:gm ns){k:Nat}(hk:ns.length+1=2*k):qt ps:=by
 have hl:=S.len hk;refine⟨λp hp=>?_,?_⟩
 ·obtain⟨i,hi,s,rfl⟩:=(S.mem O).mp hp;have:mS ns i≠mS ns (i+1):=λe=>by
   by_cases z:i=ns.length
   ·subst z;rw[lp,<-uc ns] at e;have:=O.cy_inj (by lia) (by lia) e;lia
   ·have:=O.cy_inj (by lia) (by lia) e;lia
  show min _ _<max _ _;lia
 ·refine(kd (sU _) (λx hx=>?_) ?_).symm
  ·rw[hl] at hx;have hx:=pT.mp hx;have hx2:x∈dI ns:=by
    unfold dI;by_cases z:x=0
    ·rw[z];exact a7
    ·exact aM _ (bH _ (O.mem.mpr (by lia)))
   obtain⟨j,hj,e⟩:=List.getElem_of_mem hx2;have hj2:j<ns.length+1:=by
    have h1:j<ns.length+2:=by rw[gZ] at hj;exact hj
    have:j≠ns.length+1:=λz=>by
     have h2:=(aH.mp (fT h1)).2;rw[e] at h2;rw[z,fu] at h2;lia
    lia
   have ex:x=mS ns j:=by
    rw[oy hj2,<-e];exact(aH.mp (fT (ns:=ns) (i:=j) (by lia))).2
   have two:∃i,i<ns.length+1/\bj b u i=true/\(mS ns i=x\/mS ns (i+1)=x):=by
    cases h:bj b u j with
    | true=>exact⟨j,hj2,h,.inl ex.symm⟩
    | false=>
     by_cases z:j=0
     ·subst z;refine⟨ns.length,by lia,?_,.inr ?_⟩
      ·unfold bj at h ⊢;have:odd ns.length=true:=by unfold odd;rw[show ns.length % 2=1 by lia];rfl
       rw[this];cases b<;>cases u<;>first | rfl | cases h
      ·rw[lp,ex,uc]
     ·obtain⟨i,rfl⟩:∃i,j=i+1:=⟨j - 1,by lia⟩
      rw[oj] at h;exact⟨i,by lia,by simpa using h,.inr ex.symm⟩
   obtain⟨i,hi,s,e2⟩:=two;have hp:EF ns i∈ps:=(S.mem O).mpr ⟨i,hi,s,rfl⟩;have e3:x=(EF ns i).1\/x=(EF ns i).2:=by
    show x=min _ _\/x=max _ _;lia
   unfold i0;rcases e3 with e3 | e3
   ·exact bH _ (bM.mpr ⟨_,hp,e3.symm⟩)
   ·exact ay _ (bM.mpr ⟨_,hp,e3.symm⟩)
  ·unfold i0 cF;simp;lia
def Ji{n:Int}{p q:Bw}(hp:0<=p.1/\p.2<=n)(hq:0<=q.1/\q.2<=n)(h1:bO p q=false)(h2:bO q p=false):bO (pq n p) (pq n q)=false:=by
 have n1:=D9 h1;have n2:=D9 h2;cases e:bO (pq n p) (pq n q) with
 | false=>rfl
 | true=>
  exfalso;have z:=ud e;unfold pq at z
  split at z<;>split at z<;>(try simp only at z)<;>lia
def tT.nc(S:tT b ns u ps)(O:gm ns)(nc:NC b ns):∀p∈ps,∀q∈ps,bO p q=false:=by
 intro p hp q hq;obtain⟨p',hp',rfl⟩:=bM.mp (S.perm.mem_iff.mp hp);obtain⟨q',hq',rfl⟩:=bM.mp (S.perm.mem_iff.mp hq);obtain⟨i,hi,_,e1⟩:=dy hp';obtain⟨j,hj,_,e2⟩:=dy hq';refine Ji (by rw[e1];exact O.step_in (by lia)) (by rw[e2];exact O.step_in (by lia)) (nc u _ hp' _ hq') (nc u _ hq' _ hp')
def tT.mt(S:tT b ns u ps)(O:gm ns)(nc:NC b ns){k:Nat}(hk:ns.length+1=2*k){i:Nat}(hi:i<ns.length+1)(s:bj b u i=true):mtF (eM ps) (mS ns i).toNat=(mS ns (i+1)).toNat/\mtF (eM ps) (mS ns (i+1)).toNat=(mS ns i).toNat:=by
 have m:=(S.fill O hk).mate (S.nc O nc) ((S.mem O).mpr ⟨i,hi,s,rfl⟩);by_cases h:mS ns i<=mS ns (i+1)
 ·have e1:(EF ns i).1=mS ns i:=by show min _ _=_;lia
  have e2:(EF ns i).2=mS ns (i+1):=by show max _ _=_;lia
  rw[e1,e2] at m;exact⟨qZ (.inl m),qZ (.inr m)⟩
 ·have e1:(EF ns i).1=mS ns (i+1):=by show min _ _=_;lia
  have e2:(EF ns i).2=mS ns i:=by show max _ _=_;lia
  rw[e1,e2] at m;exact⟨qZ (.inr m),qZ (.inl m)⟩
end
def KI(ns:List Int):List Nat:=0::ns.map Int.toNat
def IT(ns:List Int):(List.range (ns.length+1)).map (λj=>(mS ns j).toNat)=KI ns:=by
 unfold KI;apply jG
 ·simp
 ·intro i h1 h2;have hi:i<ns.length+1:=by simpa using h1
  rw[List.getElem_map,List.getElem_range,oy hi];cases i with
  | zero=>rfl
  | succ i=>
   have hi2:i<ns.length:=by lia
   rw[ju (aS hi2)];simp
section
variable {b:Bool} {ns:List Int} {L R:List Bw}
def tT.rounds(hL:tT b ns b L)(hR:tT b ns (!b) R)(O:gm ns)(nc:NC b ns){k:Nat}(hk:ns.length+1=2*k):rsF (mtF (eM L)) (mtF (eM R)) (2*k)=[KI ns]:=by
 rw[Cc (m:=k) (c:=λj=>(mS ns j).toNat) (by lia) (by simp only[uc];rfl) (by rw[<-hk,lp];rfl) (λi j hi hj e=>?_) (λi hi=>?_) (λi hi=>?_) (λi hi=>?_),<-hk,IT]
 ·have h1:=O.cy_in i;have h2:=O.cy_in j;exact O.cy_inj (by lia) (by lia) (by lia)
 ·have h1:=O.cy_in i;lia
 ·refine(hL.mt O nc hk (by lia) ?_).1;unfold bj odd;rw[show 2*i % 2=0 by lia];cases b<;>rfl
 ·refine(hR.mt O nc hk (by lia) ?_).1;unfold bj odd;rw[show (2*i+1) % 2=1 by lia];cases b<;>rfl
def tT.back(hL:tT b ns b L)(hR:tT b ns (!b) R)(O:gm ns)(nc:NC b ns){k:Nat}(hk:ns.length+1=2*k):(rsF (mtF (eM R)) (mtF (eM L)) (2*k)).length=1:=by
 have cs:∀i,i<2*k->∃j,j<ns.length+1/\j+1=2*k-i/\mS ns (2*k-i)=mS ns (j+1)/\mS ns (2*k-(i+1))=mS ns j:=λi hi=>⟨2*k-(i+1),by lia,by lia,by rw[show 2*k-(i+1)+1=2*k-i by lia],rfl⟩
 rw[Cc (m:=k) (c:=λj=>(mS ns (2*k-j)).toNat) (by lia) (by rw[jg,<-hk,lp];rfl) (by rw[qG,uc];rfl) (λi j hi hj e=>?_) (λi hi=>?_) (λi hi=>?_) (λi hi=>?_)]
 ·rfl
 ·have h1:=O.cy_in (2*k-i);have h2:=O.cy_in (2*k-j);have e:mS ns (2*k-i)=mS ns (2*k-j):=by lia
  by_cases zi:i=0
  ·by_cases zj:j=0
   ·lia
   ·rw[zi,jg,<-hk,lp,<-uc ns] at e;have:=O.cy_inj (by lia) (by lia) e;lia
  ·by_cases zj:j=0
   ·rw[zj,jg,<-hk,lp,<-uc ns] at e;have:=O.cy_inj (by lia) (by lia) e;lia
   ·have:=O.cy_inj (by lia) (by lia) e;lia
 ·have h1:=O.cy_in (2*k-i);lia
 ·obtain⟨j,hj,e0,e1,e2⟩:=cs (2*i) (by lia);rw[e1,e2];refine(hR.mt O nc hk hj ?_).2;unfold bj odd;rw[show j % 2=1 by lia];cases b<;>rfl
 ·obtain⟨j,hj,e0,e1,e2⟩:=cs (2*i+1) (by lia);rw[e1,show 2*i+2=2*i+1+1 from rfl,e2];refine(hL.mt O nc hk hj ?_).2;unfold bj odd;rw[show j % 2=0 by lia];cases b<;>rfl
end
def xl{ps qs:List Bw}(h:ps.Perm qs):eM ps=eM qs:=by
 unfold eM;rw[h.length_eq];refine bd λe _=>decide_eq_decide.mpr (h.map _).mem_iff
end Rm
namespace Rm
def rn(lo hi v:Int):Int:=if v=hi then lo else v
def vl(c:Nat):Int:=if c=40 then 1 else if c=41 then -1 else 0
def ps(cs:List Nat):Int:=(cs.map vl).sum
section
variable {x y:Int}
def off{l:List Int}(h1:x∉l)(h2:y∉l):∀v∈l,v≠x/\v≠y:=λv hv=>⟨λe=>h1 (e▸hv),λe=>h2 (e▸hv)⟩
end
end Rm
namespace L2
open PySem PySem.Spec PyProof.Rows PySem.Builtin PySem.Builtin.Str
abbrev L3 (h:Heap) (z:Str) (t:Tok):Heap:=h.push { cls:=.type "str_ascii_iterator",data:=.fields #[.str z t,.int 0 0] }
abbrev L1 (h:Heap) (l:Addr) (z:Str) (t:Tok):Heap:=(L3 h z t).push { cls:=.type "list_iterator",data:=.fields #[.ref l,.int 0 0] }
abbrev L0 (h:Heap) (l:Addr) (z:Str) (t:Tok):Heap:=(L1 h l z t).push { cls:=.type "tuple",data:=.seq #[.ref h.objs.size,.ref (L3 h z t).objs.size] }
abbrev LZ (h:Heap) (l:Addr) (z:Str) (t:Tok):Heap:=(L0 h l z t).push { cls:=.type "tuple",data:=.seq #[.none,.none] }
abbrev KG (h:Heap) (l:Addr) (z:Str) (t:Tok):Heap:=(LZ h l z t).push { cls:=.type "zip",data:=.fields #[.none,.bool false,.bool false,.ref (L1 h l z t).objs.size,.ref (L0 h l z t).objs.size] }
def Fh (l1:Addr) (xs:Array Value) (z:Str) (t:Tok) (ha:z.cps.all (·<128)=true):Meets (Builtin.«zip.__new__» ⟨[.type "zip",.str z t,.ref l1],[]⟩) (λ_ R s=>s.heap.IsList l1 xs/\R (.ok (.ret (.ref (LZ s.heap l1 z t).objs.size))) { s with heap:=KG s.heap l1 z t }):=.of_wp λprog w A R s h=>by
  obtain⟨hp,g,d,tk,os⟩:=s;obtain⟨hl1,h⟩:=h;have hsub:=sub_zip;have hL1:Heap.IsList (Shared.heap ⟨hp.push { cls:=.type "str_ascii_iterator",data:=.fields #[.str z t,.int 0 0] },g,d,tk,os⟩) l1 xs:=Heap.IsList.push hl1 _
  wp_walk using wpAny_pyIter_ascii ha,Vb hL1;exact⟨_,rfl,h⟩
def Jj{prog:Program}{w:World}{A:Around}{E:Value->Shared->Prop}{s:Shared}{l1:Addr}{xs:Array Value}{z:Str}{t:Tok}{Q:Value->Shared->Prop}(ha:z.cps.all (·<128)=true)(hl1:s.heap.IsList l1 xs)
  (h:∀h' n,n=s.heap.objs.size->IsZip h' (n+4) (n+2) (n+3) .none->IsPair h' (n+2) (.ref n) (.ref (n+1))->IsPair h' (n+3) .none .none->h'.IsStrIter n "str_ascii_iterator" z t 0->h'.IsListIter (n+1) l1 0->(∀c o,s.heap.get? c=some o->h'.get? c=some o)->Q (.ref (n+4)) { s with heap:=h' }):wpAny (model prog w) A (call (.type "zip") [.str z t,.ref l1]) Q E s:=by
 refine callType_new F.called_zip (by decide) (F.typeCall_zip_2 _ _) (F.newCall_zip_2 _ _) (λobj=>F.args_object_init_3 obj _ _) F.entry_zip_new (Fh l1 xs z t ha) ⟨hl1,?_⟩;have z1:(L3 s.heap z t).objs.size=s.heap.objs.size+1:=ck ..;have z2:(L1 s.heap l1 z t).objs.size=s.heap.objs.size+2:=by rw[ck,z1]
 have z3:(L0 s.heap l1 z t).objs.size=s.heap.objs.size+3:=by rw[ck,z2]
 have z4:(LZ s.heap l1 z t).objs.size=s.heap.objs.size+4:=by rw[ck,z3]
 have g5:(KG s.heap l1 z t).get? (LZ s.heap l1 z t).objs.size=some _:=aN _ rfl;have g4:(KG s.heap l1 z t).get? (L0 s.heap l1 z t).objs.size=some _:=aB _ (aN _ rfl);have g3:(KG s.heap l1 z t).get? (L1 s.heap l1 z t).objs.size=some _:=aB _ (aB _ (aN _ rfl));have g2:(KG s.heap l1 z t).get? (L3 s.heap z t).objs.size=some _:=aB _ (aB _ (aB _ (aN _ rfl)));have g1:(KG s.heap l1 z t).get? s.heap.objs.size=some _:=aB _ (aB _ (aB _ (aB _ (aN _ rfl))));show _/\_;rw[z2,z3,z4] at g5;rw[z1,z2] at g3;rw[z3] at g4;rw[z1] at g2;rw[z4];exact⟨⟨_,g5,rfl⟩,h _ _ rfl g5 g3 g4 ⟨_,g1,rfl,rfl⟩ ⟨_,g2,rfl,rfl⟩ λc o x=>aB _ (aB _ (aB _ (aB _ (aB _ x))))⟩
def GX(K:WG)(a:Addr)(z:Str):It:=
  ⟨λi H=>∃xs x,cW K H a xs/\xs[i]? = some x/\i<z.cps.size,
   λi H v H'=>∃p x c,H p=none/\(∀xs,cW K H a xs->xs[i]? = some x)/\z.cps[i]? = some c/\v=.ref p/\H'=bE H p (.tup [.str ⟨#[c]⟩,x]),
   λi H=>i=z.cps.size⟩
def AY {P : Program} {w : World} {K : WG} {elts : List Expr} {x1 : Nat} {pos : Pos} (n a : Addr) (ha : a < n) (z : Str) (t : Tok) :
    Turn P w K (.Tuple elts x1 pos) (GX K a z) [n + 4, n + 2, n + 3, n, n + 1] (n + 4) (fun i h => IsZip h (n + 4) (n + 2) (n + 3) .none ∧ IsPair h (n + 2) (.ref n) (.ref (n + 1)) ∧ (∃ u v, IsPair h (n + 3) u v) ∧ h.IsStrIter n "str_ascii_iterator" z t i ∧ h.IsListIter (n + 1) a i) := by
  have hap : qp (n + 4) (n + 2) (n + 3) n (n + 1) [n] [n + 1, a] := by
    have h1 : @LT.lt Nat _ a n := ha
    constructor <;> first
      | (intro h; simp only [aL, cM, or_false] at h; rcases h with h | h <;> (have h' : @Eq Nat _ _ := h; lia))
      | (intro h; simp only [bc] at h; have h' : @Eq Nat _ _ := h; lia)
      | (intro h; have h' : @Eq Nat _ _ := h; lia)
  exact {
    mem := by simp
    obj := fun i h st c hb => by
      obtain ⟨h1, h2, ⟨u, v, h3⟩, ⟨o4, e4, c4, d4⟩, ⟨o5, e5, c5, d5⟩⟩ := st
      simp only [aL, cM, or_false] at hb
      rcases hb with rfl | rfl | rfl | rfl | rfl
      · exact ⟨_, h1, fun v z => by cases z⟩
      · exact ⟨_, h2, fun v z => by cases z⟩
      · exact ⟨_, h3, fun v z => by cases z⟩
      · exact ⟨o4, e4, fun v z => by rw [d4] at z; cases z⟩
      · exact ⟨o5, e5, fun v z => by rw [d5] at z; cases z⟩
    keep := fun i h h' st k => by
      obtain ⟨h1, h2, ⟨u, v, h3⟩, ⟨o5, e5, r5⟩, h4⟩ := st
      exact ⟨k _ (by simp) _ h1, k _ (by simp) _ h2, ⟨u, v, k _ (by simp) _ h3⟩, ⟨o5, k _ (by simp) o5 e5, r5⟩, h4.at fun o e => k _ (by simp) o e⟩
    item := by
      intro X hP hw hK hc i pins s σ H E I hf st hg
      subst hP hw hK
      obtain ⟨h1, h2, ⟨u0, v0, h3⟩, h4, h5⟩ := st
      obtain ⟨xs, x, hqa, hx, hi⟩ := hg
      obtain ⟨ia, ra, pa, _⟩ := I.list hqa
      obtain ⟨ua, hua, rua⟩ := ra.get hx
      have hA : X.A.in1.handled = none := I.ok.hd hc
      have la : i < ia.toArray.size := by rw [aT]; exact (aH.mp hua).1
      refine sr (kR hA n z t) (Draws.list hA (n + 1) a (am (dC ha)) ia.toArray) hap h1 h2 h3 h4 ⟨h5, pa.isList⟩ hi la fun h' x' y' tk e2 e1 hz ho hi1 hi2 hp kp => ?_
      have e1' : y' = ua := by have : ia[i]? = some y' := by simpa using e1
                               rw [hua] at this; cases this; rfl
      obtain ⟨c, u, hcx, e2'⟩ := e2
      subst e1' e2'
      refine ⟨_, rfl, wpAny_letOwnedTupleGo_zip hz fun hh hz2 hs2 => ?_⟩
      have hn : H s.heap.objs.size = none := I.hok.fresh (aJ _)
      have lz : s.heap.objs.size ≠ n + 4 := gh (aR h1)
      have ht2 : hh.get? s.heap.objs.size = some { cls := .type "tuple", data := .seq #[.str ⟨#[c]⟩ u, y'] } := (hs2.2 _ lz).trans hp
      refine ⟨.ref s.heap.objs.size, bE H s.heap.objs.size (.tup [.str ⟨#[c]⟩, x]), I.turnNew (fp := [n + 4, n + 2, n + 3, n, n + 1]) hf (fun c o hb q => ?_) (aJ _) (show dB X.prog X.w _ hh _ (.tup _) from ⟨(by show 2 ≤ sizeLine; decide), [.str ⟨#[c]⟩ u, y'], .cons ⟨u, rfl⟩ (.cons rua .nil), _, ht2, rfl, _, rfl⟩), rfl, ⟨_, x, c, hn, fun zs hz => by rw [I.list_inj hz hqa]; exact hx, hcx, rfl, rfl⟩, ?_, fun c hb => ?_⟩
      · simp only [aL, cM, or_false, not_or] at hb
        exact (hs2.2 c hb.1).trans (kp c o hb.1 hb.2.2.1 hb.2.2.2.1 hb.2.2.2.2 q)
      · obtain ⟨o5, e5, r5⟩ := hi1
        exact ⟨hz2, (hs2.2 _ hap.tz).trans (kp _ _ hap.tz hap.to hap.ta hap.tb h2), ⟨_, _, (hs2.2 _ hap.oz).trans ho⟩, ⟨o5, (hs2.2 _ hap.az).trans e5, r5⟩, hi2.1.at fun o e => (hs2.2 _ hap.bz).trans e⟩
      · have hb' := (hf c hb).1
        rw [aI (fun z => ?_)]
        · exact hb'
        · have hz4 : @LT.lt Nat _ (n + 4) s.heap.objs.size := aR h1
          have z' : @Eq Nat c s.heap.objs.size := z
          simp only [aL, cM, or_false] at hb
          rcases hb with h | h | h | h | h <;> (have h' : @Eq Nat _ _ := h; lia)
    done := by
      intro X hP hw hK hc i pins s σ H E I hf st hg
      subst hP hw hK
      obtain ⟨h1, h2, ⟨u0, v0, h3⟩, h4, h5⟩ := st
      have hg : i = z.cps.size := hg
      have hA : X.A.in1.handled = none := I.ok.hd hc
      refine uX (kR hA n z t) hap h1 h2 (by rw [← hg]; exact h4) fun h' kp => ⟨rfl, I.turnAll (t' := s.toks) hf fun c o hb q => ?_⟩
      simp only [aL, cM, or_false, not_or] at hb
      exact kp c o hb.1 hb.2.2.2.1 q
    self := fun _ _ _ _ _ st h => Vv st.1 h }
def HH(K:WG)(ta:TA):TI:=λσ H R=>ta σ H λvs H1=>∃z a,vs=[.str z,.ref a]/\(∃xs,cW K H1 a xs)/\z.cps.all (·<128)=true/\R (GX K a z) H1
def Cu {X:Cx} {a b:Expr} {ta:TA} {elts:List Expr} {x1:Nat} {p pos tpos:Pos} (hg:Gl X "zip") (hm:X.mg "zip"=none) (ha:QA X [a,b] ta) (hs:starEach [a,b] X.env=(false,eval a X.env)::starEach [b] X.env:=by rfl) (hpl:(backTo pos (starEach [b] X.env)).any (·.1)=false:=by rfl) :
  QI X (.Tuple elts x1 tpos) (.Call (.Name "zip" p) [a,b] [] pos) (HH X.K ta):=⟨by
 intro pins s σ H R I h;refine Call_ (ou I hg hm boot_zip (dU (dZ (ha.h pos pins s σ H _ I h) λus s1 ⟨vs,H1,I1,r1,z,z1,e,⟨xs,hx⟩,hz,q⟩=>?_) hs hpl));subst e;obtain⟨u,u',rfl,r2,r3⟩:=vals2 r1;obtain⟨t,rfl⟩:=r2;cases r3;obtain⟨ia,ra,pa,_⟩:=I1.list hx;obtain⟨oa,hoa,_⟩:=id pa.isList;refine Jj hz pa.isList λh' n en hz hti hto hi1 hi2 kp=>?_;refine Vv hz ?_;have I2:bY X pins σ H1 { s1 with heap:=h' }:=I1.kept (t':=s1.toks) kp;refine⟨_,_,_,_,H1,rfl,I2,AY n z1 (by rw[en];exact aR hoa) z t,⟨hz,hti,⟨_,_,hto⟩,hi1,hi2⟩,λb hb=>?_,q⟩;have hle:s1.heap.objs.size<=b:=by
  simp only[aL,cM,or_false] at hb;have en':@Eq Nat n s1.heap.objs.size:=en;show @LE.le Nat _ _ _;rcases hb with h | h | h | h | h<;>(have h':@Eq Nat _ _:=h;lia)
 exact I1.fpOk hle (I1.hok.fresh hle)⟩
def E8{K:WG}{σ:St}{H:Hp}{D:Ends}{ta:TA}{g:TG}{tb:TS}:rK (HH K ta) g tb D σ H=ta σ H λvs H1=>∃z a,vs=[.str z,.ref a]/\(∃xs,cW K H1 a xs)/\z.cps.all (·<128)=true/\qJ (GX K a z) g tb D σ H1:=rfl
def Dw{K:WG}{σ:St}{H:Hp}{D:Ends}{a:Addr}{xs:List V}{z:Str}{g:TG}{tb:TS}(hle:xs.length=z.cps.size)(Pv:Nat->St->Hp->Prop)(h0:Pv 0 σ H)(hl:∀i σ H,Pv i σ H->cW K H a xs)
  (hs:∀i x c σ H p,xs[i]? = some x->z.cps[i]? = some c->Pv i σ H->H p=none->g (.ref p) σ (bE H p (.tup [.str ⟨#[c]⟩,x])) λσ2 H2=>tb { D with nx:=Pv (i+1),ct:=Pv (i+1),bk:=D.nx } σ2 H2) (hd:∀σ H,Pv xs.length σ H->D.nx σ H):qJ (GX K a z) g tb D σ H:=by
 refine⟨λi m σ H=>m+i=xs.length/\Pv i σ H,⟨xs.length,rfl,h0⟩,?_⟩;rintro i m σ H ⟨hm,hp⟩;have q1:=hl i σ H hp;by_cases hi:i<xs.length
 ·refine .inr ⟨⟨xs,xs[i],q1,by simp[hi],by lia⟩,Pv (i+1),λσ' H' h=>⟨m - 1,by lia,by lia,h⟩,?_⟩;rintro v H' ⟨p,x,c,hn,hx,hc,rfl,rfl⟩;exact hs i x c σ H p (hx xs q1) hc hp hn
 ·have e:i=xs.length:=by lia
  subst e;exact .inl ⟨hle,hd σ H hp⟩
end L2
namespace Rm
open PySem L2 PyProof.Rows
def rk(G:Nat->Bool):Nat->Nat
 | 0=>0
 | k+1=>if G k then rk G k else rk G k+1
def dK(G:Nat->Bool)(bs:List Bool):Nat->Int
 | 0=>0
 | k+1=>if G k then dK G bs k else dK G bs k+((bs[k]?).toList.map dl).sum
noncomputable def rsW (bs cs:List Bool):List (List Nat):=rsF (mtF bs) (mtF cs) bs.length
def Bg(bs:List Bool):PyData.canLay0 (.str (wd bs))=true:=by
 have a:=pE bs;show PyData.strOk (wd bs)=true;unfold PyData.strOk;rw[Array.all_eq_true] at a ⊢;intro i hi;have:=WD (a i hi);exact WC (by lia)
end Rm
namespace Rm
open PySem L2
def M8(p q:Bw):Bool:=decide (q.1<p.1)&&decide (p.2<q.2)
def Kn(p:Bw):Int:=p.2-p.1
end Rm
namespace L2
open PySem PySem.Spec PyProof.Rows
structure QB (X:Cx) (body:List Stmt) (tb:XK->TS):Prop where
 h:∀ (pins:List (Addr×Obj)) (s:Shared) (σ:St) (H:Hp) (D:Ends) (E:XK),bY X pins σ H s->tb E D σ H->wpAny (model X.prog X.w) X.A (execs body X.env) (SP X pins D) (fun ev s'=>∃ H1 s1,bY X pins σ H1 s1/\qL X.prog X.w X.stack H1 s1 E ev s') s
structure EX (X:Cx) (pins:List (Addr×Obj)) (σ:St) (a C t0:Addr) (dO:Option Addr) (H2:Hp) (s':Shared) (h3:Heap):Prop where
 ex:∃ (B:Heap) (H1:Hp) (s1:Shared),bY X pins σ H1 s1/\s'.os=s1.os/\AllBare s'.gens/\Un (kX X.stack) [] H1 H2 s1.heap s'.heap/\nW X.prog X.w H2 s'.heap/\B.FlyingW X.stack a (.ref C) (.ref t0) s'.heap/\ML B s1.heap H2 X.stack/\B.FlyingW (X.env::X.outer) a (.ref C) (.ref t0) h3/\s'.heap.UpToSlots h3/\xj dO a h3
abbrev TH:=Ends->St->Addr->Option Addr->Hp->Prop
structure QH (X:Cx) (hs:List ExceptHandler) (th:TH):Prop where
 h:∀ (pins:List (Addr×Obj)) (σ:St) (D:Ends) (a C t0:Addr) (dO:Option Addr) (H2:Hp) (s':Shared) (h3:Heap),EX X pins σ a C t0 dO H2 s' h3->H2 a=none->th D σ C dO H2->wpAny (model X.prog X.w) X.A (handleBy (.ref a) X.env hs) (SP X pins D) X.xe { s' with heap:=h3 }
def LL:TH:=λ_ _ _ _ _=>False
def HK(K:WG)(c:Value)(ts:Addr->TS)(th:TH):TH:=λD σ C dO H2=>(PySem.W.exmOne K (.ref C) c=some true/\∀a,H2 a=none->ts a D σ (bE H2 a (nO dO C a)))\/(PySem.W.exmOne K (.ref C) c=some false/\th D σ C dO H2)
def MU(K:WG)(c:Value)(i:Nat)(ts:Addr->TS)(th:TH):TH:=λD σ C dO H2=>(PySem.W.exmOne K (.ref C) c=some true/\∀a,H2 a=none->ts a { nx:=λσ' H'=>D.nx (σ'.set i none) H',rt:=D.rt,bk:=λσ' H'=>D.bk (σ'.set i none) H',ct:=λσ' H'=>D.ct (σ'.set i none) H' } (σ.set i (some (.ref a))) (bE H2 a (nO dO C a)))\/(PySem.W.exmOne K (.ref C) c=some false/\th D σ C dO H2)
section
variable {X:Cx}
def DB:QH X [] LL:=⟨λ_ _ _ _ _ _ _ _ _ _ _ _ h=>h.elim⟩
def EX.inv{pins:List (Addr×Obj)}{σ:St}{a C t0:Addr}{dO:Option Addr}{H2:Hp}{s':Shared}{h3:Heap}(hst:X.stack=X.env::X.outer)(L:EX X pins σ a C t0 dO H2 s' h3):bY X pins σ (bE H2 a (nO dO C a)) { s' with heap:=h3 }/\∃oe,h3.get? a=some oe/\oe.cls=.ref C:=by
 obtain⟨B,H1,s1,I1,os,bare,un,hok,fl,cov,fl3,up3,ct3⟩:=L.ex;have fl3':=fl3;rw[<-hst] at fl3';exact⟨I1.land (E:=E0) os bare un hok fl cov fl3' up3 ct3,Heap.FlyingW.there fl3⟩
def zm {cx:Str} {c:Value} {b₀:Stmt} {suite:List Stmt} {ts:Addr->TS} {th:TH} {hs:List ExceptHandler} {np hpos:Pos} (hst:X.stack=X.env::X.outer) (hgc:Gl X cx) (hmc:X.mg cx=some c) (hsu:∀a,ig (X.exc a) (b₀::suite) (ts a)) (hh:QH X hs th) (hdc:(cx==("__debug__":Str))=false:=by decide) :
  QH X (.ExceptHandler (some (.Name cx np)) none (b₀::suite) hpos::hs) (HK X.K c ts th):=⟨by
 intro pins σ D a C t0 dO H2 s' h3 L Hn hq;obtain⟨I3,oe,e1,e2⟩:=L.inv hst;refine wpAny_handleBy_cons (codeAny_handlers_test (je (X:=X.exc a) (I3.exc a) hgc hmc ?_ hdc)) (λz=>nomatch z);rcases hq with ⟨hx,q⟩ | ⟨hx,q⟩
 ·refine jV (K:=X.K) (h:=h3) (cls:=.ref C) I3.kIn (λA Q E s k hq=>Vx (k _ _ e1) (by rw[e2];exact hq)) hx _ _ _ _ (λb o e=>e) ?_;obtain⟨B,H1,s1,I1,os,bare,un,hok,fl,cov,fl3,up3,ct3⟩:=L.ex;refine codeAny_handlers_suite (iE (eK.flight (e:=a)) ct3 (lands_againW fl3 λh4 fl4 up4 ct4=>?_));have fl4':=fl4;rw[<-hst] at fl4';have I4:bY X pins σ (bE H2 a (nO dO C a)) { s' with heap:=h4 }:=I1.land (E:=E0) os bare un hok fl cov fl4' (UpToSlots.trans up3 up4) ct4;refine wpAny_mono ((hsu a).h pins _ _ _ _ (I4.exc a) (q a Hn)) (λfw s6 h6=>?_) (λ_ _ z=>False.elim z);obtain⟨B',H1',s1',I1',_⟩:=L.ex;cases fw with
  | next=>obtain⟨σ6,H6,I6,q6⟩:=h6;exact⟨_,_,I6.unexc I1.ok,q6⟩
  | brk=>obtain⟨σ6,H6,I6,q6⟩:=h6;exact⟨_,_,I6.unexc I1.ok,q6⟩
  | cont=>obtain⟨σ6,H6,I6,q6⟩:=h6;exact⟨_,_,I6.unexc I1.ok,q6⟩
  | ret u=>obtain⟨v6,σ6,H6,I6,r6,q6⟩:=h6;exact⟨v6,_,_,I6.unexc I1.ok,r6,q6⟩
 ·refine jV (K:=X.K) (h:=h3) (cls:=.ref C) I3.kIn (λA Q E s k hq=>Vx (k _ _ e1) (by rw[e2];exact hq)) hx _ _ _ _ (λb o e=>e) ?_;exact hh.h pins σ D a C t0 dO H2 s' h3 L Hn q⟩
def Gx {cx n:Str} {c:Value} {i:Nat} {b₀:Stmt} {suite:List Stmt} {ts:Addr->TS} {th:TH} {hs:List ExceptHandler} {np hpos:Pos} (hst:X.stack=X.env::X.outer) (hgc:Gl X cx) (hmc:X.mg cx=some c) (hN:X.N.Nodup) (hi:X.N[i]? = some n) (hl:X.env.scope.names.lookup n=some .local) (hsu:∀a,ig (X.exc a) (b₀::suite) (ts a)) (hh:QH X hs th) (hdc:(cx==("__debug__":Str))=false:=by decide) :
  QH X (.ExceptHandler (some (.Name cx np)) (some n) (b₀::suite) hpos::hs) (MU X.K c i ts th):=⟨by
 intro pins σ D a C t0 dO H2 s' h3 L Hn hq;obtain⟨I3,oe,e1,e2⟩:=L.inv hst;refine wpAny_handleBy_cons (codeAny_handlers_test (je (X:=X.exc a) (I3.exc a) hgc hmc ?_ hdc)) (λz=>nomatch z);rcases hq with ⟨hx,q⟩ | ⟨hx,q⟩
 ·refine jV (K:=X.K) (h:=h3) (cls:=.ref C) I3.kIn (λA Q E s k hq=>Vx (k _ _ e1) (by rw[e2];exact hq)) hx _ _ _ _ (λb o e=>e) ?_;obtain⟨B,H1,s1,I1,os,bare,un,hok,fl,cov,fl3,up3,ct3⟩:=L.ex;refine codeAny_handlers_suite_as (iE (eK.flight (e:=a)) ct3 (lands_againW fl3 λh4 fl4 up4 ct4=>?_));have fl4':=fl4;rw[<-hst] at fl4';have I4:bY X pins σ (bE H2 a (nO dO C a)) { s' with heap:=h4 }:=I1.land (E:=E0) os bare un hok fl cov fl4' (UpToSlots.trans up3 up4) ct4;refine pH I4 hN hi (.inl hl) (show RelV (.ref a) (.ref a) from rfl) (λs5 I5=>?_) (.inr hl);refine wpAny_mono ((hsu a).h pins s5 _ _ _ (I5.exc a) (q a Hn)) (λfw s6 h6=>?_) (λ_ _ z=>False.elim z);cases fw with
  | next=>obtain⟨σ6,H6,I6,q6⟩:=h6;exact re (I6.unexc I1.ok) hN hi hl λs7 I7=>⟨_,_,I7,q6⟩
  | brk=>obtain⟨σ6,H6,I6,q6⟩:=h6;exact re (I6.unexc I1.ok) hN hi hl λs7 I7=>⟨_,_,I7,q6⟩
  | cont=>obtain⟨σ6,H6,I6,q6⟩:=h6;exact re (I6.unexc I1.ok) hN hi hl λs7 I7=>⟨_,_,I7,q6⟩
  | ret u=>obtain⟨v6,σ6,H6,I6,r6,q6⟩:=h6;exact re (I6.unexc I1.ok) hN hi hl λs7 I7=>⟨v6,_,_,I7,r6,q6⟩
 ·refine jV (K:=X.K) (h:=h3) (cls:=.ref C) I3.kIn (λA Q E s k hq=>Vx (k _ _ e1) (by rw[e2];exact hq)) hx _ _ _ _ (λb o e=>e) ?_;exact hh.h pins σ D a C t0 dO H2 s' h3 L Hn q⟩
def Gp(tb:XK->TS)(th:TH):TS:=λD σ H=>tb (λcls dO H2=>∃C,cls=Value.ref C/\th D σ C dO H2) D σ H
def wY{body:List Stmt}{h₀:ExceptHandler}{hs:List ExceptHandler}{tb:XK->TS}{th:TH}{pos:Pos}(hst:X.stack=X.env::X.outer)(hfr:X.env.frame=some X.env.locals)(hb:QB X body tb)(hh:QH X (h₀::hs) th):QS X (.Try body (h₀::hs) [] [] pos) (Gp tb th):=⟨by
 intro pins s σ H D I h;refine wpAny_Try_except (wpAny_mono (hb.h pins s σ H D _ I h) (λf s1 h1=>?_) λev s' ⟨H1,s1,I1,hx⟩=>?_)
 ·cases f with
  | next=>exact V5 h1
  | brk=>exact h1
  | cont=>exact h1
  | ret u=>exact h1
 ·obtain⟨a,C,t0,H2,B,dO,rfl,os,bare,un,hok,fl,cov,ct,C',eC,q⟩:=hx;cases eC;have Hn:H2 a=none:=by
   cases z:H2 a with
   | none=>rfl
   | some u=>
    obtain⟨o,e'⟩:=cov.trk a u z;rw[fl.2.1] at e';cases e'
  have fl':=fl;rw[hst] at fl';refine iE (eK.note (e:=a)) ct ?_;refine wpAny_looks_onW (base:=B) (env:=X.env) (outer:=X.outer) (by rw[I.ok.frames,hst]) hfr fl' λh2 held up2 ct2=>?_;refine iE (eK.flight (e:=a)) ct2 ?_;refine wpAny_landsW held λh3 fl3 up3 ct3=>?_;exact hh.h pins σ D a C t0 dO H2 s' h3 ⟨B,H1,s1,I1,os,bare,un,hok,fl,cov,fl3,UpToSlots.trans up2 up3,ct3⟩ Hn q⟩
def xW{k:Nat}{st:Stmt}{ps:List Str}{sp:Sp}{x:Str}{e:Expr}{es:List Expr}{t:TA}{p cpos:Pos}{pins:List (Addr×Obj)}{s:Shared}{σ:St}{H:Hp}{Q:VK}{E:XK}(Df:k6 X.prog X.w X.K X.mg X.base k x st ps sp)(hr:gE k X.A)(hg:Gl X x)(ha:QA X.nox (e::es) t)(I:bY X pins σ H s)(h:t σ H λvs H1=>sp vs H1 Q E)
  (hdb:(x==("__debug__":Str))=false) (he:starEach (e::es) X.env=(false,eval e X.env)::starEach es X.env) (hpl:(backTo cpos (starEach es X.env)).any (·.1)=false) :
  wpAny (model X.prog X.w) X.A (eval (.Call (.Name x p) (e::es) [] cpos) X.env) (EP X pins σ Q) (λev s'=>∃H1 s1,bY X pins σ H1 s1/\qL X.prog X.w X.stack H1 s1 E ev s') s:=by
 obtain⟨f,fd,Fu,hm,hb,F⟩:=Df.ex;have hk:=Fu.kp;refine Vh (je I hg hm ?_ hdb);refine iH (h₀:=X.base) I.ok.mod.kin hk (wpAny_mono (ha.h cpos pins s σ H _ (I.wish _) h) (λus s1 ⟨vs,H1,I1,r,q⟩=>⟨I1.kIn,?_⟩) λ_ _ z=>False.elim z) he hpl;have I1:=I1.unwish;have r2:cE (vs++[]) (us++[]):=r.append .nil;have q2:sp (vs++[]) H1 Q E:=by rw[cY];exact q
 have hlen:(us++[]).length=ps.length:=by rw[<-r2.length];exact F.len _ _ _ _ q2
 refine Vf (Vg (F.run X.A X.stack s1 H1 ⟨us,[]⟩ (us++[]) (vs++[]) _ E hr I1.env0 (hb s1 us I1.kIn hlen) r2 q2) λr s' hq=>?_);cases r with
 | error ev=>exact⟨H1,s1,I1,hq⟩
 | ok fl=>
  cases fl with
  | ret u=>exact I1.after hq
  | next=>exact False.elim hq
  | brk=>exact False.elim hq
  | cont=>exact False.elim hq
section
variable {k:Nat} {st:Stmt} {ps:List Str} {sp:Sp} {x:Str} {e:Expr} {es:List Expr} {t:TA} {p cpos:Pos}
def HN(sp:Sp)(t:TA):XK->TS:=λE D σ H=>t σ H λvs H1=>sp vs H1 (λ_ H2=>D.nx σ H2) E
def MD(sp:Sp)(j:Nat)(t:TA):XK->TS:=λE D σ H=>t σ H λvs H1=>sp vs H1 (λv H2=>D.nx (σ.set j (some v)) H2) E
def LN(sp:Sp)(z:Str)(t:TA):XK->TS:=λE D σ H=>t σ H λvs H1=>sp vs H1 (λv H2=>∀q,H2 q=none->D.rt (.ref q) (bE H2 q (.tup [.str z,v]))) E
def MC(sp:Sp)(z:Str)(t:TA):XK->TS:=λE D σ H=>t σ H λvs H1=>sp vs H1 (λv H2=>∀q,H2 q=none->D.rt (.ref q) (bE H2 q (.lst [.str z,v]))) E
def Ep{epos:Pos}(Df:k6 X.prog X.w X.K X.mg X.base k x st ps sp)(hr:gE k X.A)(hg:Gl X x)(ha:QA X.nox (e::es) t)
  (hdb:(x==("__debug__":Str))=false:=by decide) (he:starEach (e::es) X.env=(false,eval e X.env)::starEach es X.env:=by rfl) (hpl:(backTo cpos (starEach es X.env)).any (·.1)=false:=by rfl):QB X [.Expr (.Call (.Name x p) (e::es) [] cpos) epos] (HN sp t):=⟨λpins s σ H D E I h=>
 V6 (wpAny_Expr_any (wpAny_mono (xW Df hr hg ha I h hdb he hpl) (λv s1 ⟨_,H1,I1,_,q⟩=>V5 ⟨_,H1,I1,q⟩) λ_ _ z=>z) I.quiet (by rfl))⟩
def IZ{z:Str}{zj}{zp tp rp:Pos}{xx}(Df:k6 X.prog X.w X.K X.mg X.base k x st ps sp)(hr:gE k X.A)(hg:Gl X x)(ha:QA X.nox (e::es) t)
  (hdb:(x==("__debug__":Str))=false:=by decide) (he:starEach (e::es) X.env=(false,eval e X.env)::starEach es X.env:=by rfl) (hpl:(backTo cpos (starEach es X.env)).any (·.1)=false:=by rfl):QB X [.Return (some (.Tuple [.Constant (.str z) zj zp,.Call (.Name x p) (e::es) [] cpos] xx tp)) rp] (LN sp z t):=⟨by
 intro pins s σ H D E I h;refine V6 (wpAny_Return_some (wpAny_Tuple_spliced ?_));show wpAny _ _ (spliced ((false,eval (.Constant (.str z) zj zp) X.env)::(false,eval (.Call (.Name x p) (e::es) [] cpos) X.env)::_)) _ _ s;refine kT (Calls.Constant_str (kT (wpAny_mono (xW Df hr hg ha (I.tok _) h hdb he hpl) (λv s1 ⟨y,H1,I1,ry,q⟩=>Calls.spliced_nil ?_) λ_ _ z=>z)));have hf:H1 s1.heap.objs.size=none:=I1.hok.fresh (aJ _);refine⟨by show 2<=sizeLine;rw[Vd];lia,.ref s1.heap.objs.size,σ,bE H1 s1.heap.objs.size (.tup [.str z,y]),I1.laid (t':=s1.toks) (λb u e=>aB _ e) (aJ _) ?_,rfl,q _ hf⟩;exact⟨by show 2<=sizeLine;rw[Vd];lia,_,.cons ⟨_,rfl⟩ (.cons ry .nil),⟨_,aN _ rfl,rfl,_,rfl⟩⟩⟩
end
end
section
variable {σ:St} {H H2:Hp} {D:Ends} {E:XK} {C:Addr} {dO:Option Addr} {K:WG} {c:Value} {sp:Sp} {t:TA} {ts:Addr->TS} {th:TH} {tb:XK->TS} {z:Str} {i j:Nat}
def HV:Gp tb th D σ H=tb (λcls dO H2=>∃C,cls=Value.ref C/\th D σ C dO H2) D σ H:=rfl
def HY:LL D σ C dO H2=False:=rfl
def E5:HK K c ts th D σ C dO H2=((PySem.W.exmOne K (.ref C) c=some true/\∀a,H2 a=none->ts a D σ (bE H2 a (nO dO C a)))\/(PySem.W.exmOne K (.ref C) c=some false/\th D σ C dO H2)):=rfl
def K8:MU K c i ts th D σ C dO H2=((PySem.W.exmOne K (.ref C) c=some true/\∀a,H2 a=none->ts a { nx:=λσ' H'=>D.nx (σ'.set i none) H',rt:=D.rt,bk:=λσ' H'=>D.bk (σ'.set i none) H',ct:=λσ' H'=>D.ct (σ'.set i none) H' } (σ.set i (some (.ref a))) (bE H2 a (nO dO C a)))\/(PySem.W.exmOne K (.ref C) c=some false/\th D σ C dO H2)):=rfl
def Eb:HN sp t E D σ H=t σ H λvs H1=>sp vs H1 (λ_ H2=>D.nx σ H2) E:=rfl
def Hl:MD sp j t E D σ H=t σ H λvs H1=>sp vs H1 (λv H2=>D.nx (σ.set j (some v)) H2) E:=rfl
def Hj:LN sp z t E D σ H=t σ H λvs H1=>sp vs H1 (λv H2=>∀q,H2 q=none->D.rt (.ref q) (bE H2 q (.tup [.str z,v]))) E:=rfl
def Hk:MC sp z t E D σ H=t σ H λvs H1=>sp vs H1 (λv H2=>∀q,H2 q=none->D.rt (.ref q) (bE H2 q (.lst [.str z,v]))) E:=rfl
end
end L2
namespace Rm
open PySem L2 PyProof.Rows
def wL(K:WG)(ds:List Addr)(a:Addr):Sp:=λvs H Q _=>∃(C:Addr) (due:Nat),vs=[.ref a]/\ExcAt K H a C/\(∃D,H a=some (nO D C a))/\B5 K C ds due/\due<10/\∀H',aV H H'->Q (.bl true) H'
def zG(H:Hp)(p:Addr)(z:String)(v:V):Prop:=H p=some (.tup [.str (Str.ofString z),v])
def yB {bs:List Bool} (hl:bs.length<=900):JoinOk (Str.ofString "") (bs.map sgn)=true:=by
 unfold JoinOk;have e:Builtin.Str.tooLong ((bs.map sgn).toArray.foldl (λa t=>a+t.length+(Str.ofString "").length) 0)=false:=by
  have h0:∀(bs:List Bool) (a:Nat),(bs.map sgn).foldl (λa t=>a+t.length+(Str.ofString "").length) a=a+bs.length:=by
   intro bs
   induction bs with
   | nil=>intro a;rfl
   | cons b bs ih=>
    intro a;rw[bC,mX,ih];have:(sgn b).length=1:=by show (sgn b).cps.size=1;rw[rW];rfl
    have h2:(Str.ofString "").length=0:=by rw[uz];rfl
    rw[this,h2,bq];lia
  rw[List.foldl_toArray',h0];unfold Builtin.Str.tooLong;exact WB (by have:=aq (n:=0+bs.length) (by lia);lia);simp
 rw[e];rfl
def xy(n:Nat)(o:List Int):(cN n o).length=o.length:=by simp[cN]
def A7(ns:List Int)(s c:Nat):cN s (qN ns s c)=(ns.take c).drop s:=by
 unfold cN qN;rw[bS]
 conv=>rhs;rw[<-f6 ((ns.take c).drop s)]
 apply bd;intro x _;simp only[Function.comp,id];lia
def vJ{ns:List Int}{s c:Nat}(h:c<=ns.length):(qN ns s c).length=c-s:=by unfold qN;rw[aD,lU,cZ];lia
def m6(ns:List Int)(k:Nat):Prop:=(ns.take k).Perm (cF 1 k)
def EG(ns:List Int):m6 ns 0:=by unfold m6;rw[List.take_zero];exact .refl _
def yT{s:Nat}{o:List Int}{k:Nat}:(cN s o).Perm ((cF 1 k).map ((s:Int)+·))<->o.Perm (cF 1 k):=by
 constructor
 ·intro h;have:=h.map (· - (s:Int));unfold cN at this;rw[bS,bS] at this;have e:∀l:List Int,l.map ((· - (s:Int))∘((s:Int)+·))=l:=λl=>by
   conv=>rhs;rw[<-f6 l]
   apply bd;intro x _;simp only[Function.comp,id];lia
  rw[e,e] at this;exact this
 ·intro h;exact h.map _
def C7{ns:List Int}{s c k:Nat}(h:s+k<=c):cN s ((qN ns s c).take k)=(ns.drop s).take k:=by
 have:(qN ns s c).take k=qN ns s (s+k):=by
  unfold qN;rw[<-List.map_take];congr 1;rw[nU,List.take_take,nU];congr 1;lia
 rw[this,A7,nU];congr 1;lia
def GC{ns:List Int}{s c k:Nat}(hs:m6 ns s)(hc:s+k<=c):m6 (qN ns s c) k<->m6 ns (s+k):=by
 unfold m6 at *;rw[<-yT (s:=s),C7 hc,Cg,List.take_add];constructor
 ·intro h;exact hs.append h
 ·intro h;exact(List.perm_append_left_iff (cF 1 s)).mp ((hs.symm.append_right _).trans h)
def Eh{ns:List Int}{s c:Nat}(O:gm ns)(hs:m6 ns s)(hsc:s<=c)(hc:m6 ns c)(hl:c<=ns.length):gm (qN ns s c):=by
 have e:=vJ (s:=s) hl;refine⟨by rw[e];have:=O.len;lia,?_⟩;have h:m6 (qN ns s c) (c-s):=(GC hs (by lia)).mpr (by rw[show s+(c-s)=c by lia];exact hc);unfold m6 at h;rw[i6 (by lia)] at h;rw[e];exact h
def gH(s m:Nat)(x:Int):Int:=max 0 (min ((m:Int)+1) (x-s))
def vi{s m:Nat}{x y:Int}(h:gH s m x<gH s m y):x<y:=by unfold gH at h;lia
def rX{ns:List Int}{s c i:Nat}(O:gm ns)(hs:m6 ns s)(hsc:s<=c)(hc:m6 ns c)(hl:c<=ns.length)(hi:i<=c-s+1):bQ (qN ns s c) i=gH s (c-s) (bQ ns (s+i)):=by
 have e:=vJ (s:=s) hl;have row:∀j,j<ns.length->∃x,ns[j]? = some x/\bQ ns (j+1)=x:=λj hj=>⟨ns[j],aS hj,ju (aS hj)⟩
 have low:∀j x,j<s->ns[j]? = some x->x<=s:=λj x hj hx=>by
  have:x∈ns.take s:=bG (i:=j) (by rw[kO,Vz hj];exact hx);exact(sv.mp (hs.mem_iff.mp this)).2
 have nd:ns.Nodup:=O.perm.nodup_iff.mpr (sT _);have high:∀j x,c<=j->ns[j]? = some x->(c:Int)<x:=λj x hj hx=>by
  apply eZ;intro z;have hx1:=(O.mem.mp (bG hx)).1;have:x∈ns.take c:=hc.mem_iff.mpr (sv.mpr ⟨hx1,by lia⟩);obtain⟨i',hi'⟩:=List.mem_iff_getElem?.mp this;rw[kO] at hi'
  split at hi'
  ·rename_i hlt;have:=(List.getElem?_inj (by exact(aH.mp hi').1) nd).mp (hi'.trans hx.symm);lia
  ·cases hi'
 unfold gH;rcases kN i with rfl | hpos
 ·rw[vN,qH];rcases kN s with rfl | hsp
  ·rw[vN];lia
  ·obtain⟨x,hx,hr⟩:=row (s - 1) (by lia);rw[show s - 1+1=s by lia] at hr;have:=low (s - 1) x (by lia) hx;rw[hr];lia
 ·by_cases hlast:i=c-s+1
  ·subst hlast;have r1:bQ (qN ns s c) (c-s+1)=((c-s:Nat):Int)+1:=by
    have:=fu (qN ns s c);rw[e] at this;exact this
   rw[r1];by_cases hcn:c=ns.length
   ·have:s+(c-s+1)=ns.length+1:=by lia
    rw[this,fu];lia
   ·obtain⟨x,hx,hr⟩:=row c (by lia);rw[show s+(c-s+1)=c+1 by lia,hr];have:=high c x (aJ _) hx;lia
  ·have hi2:i - 1<c-s:=by lia
   obtain⟨x,hx,hr⟩:=row (s+(i - 1)) (by lia);have hseg:(qN ns s c)[i - 1]? = some (x-s):=by
    unfold qN;rw[bW,List.getElem?_drop,kO,Vz (by lia),hx];rfl
   have r2:=ju hseg;rw[show i - 1+1=i by lia] at r2;rw[show s+(i - 1)+1=s+i by lia] at hr;rw[r2,hr];have h1:=(Eh O hs hsc hc hl).mem.mp (bG hseg);rw[e] at h1;lia
def zr(s i:Nat):odd (s+i)=(odd s ^^ odd i):=by
 unfold odd;rcases dY s with a | a<;>rcases dY i with b | b<;>simp[Nat.add_mod,a,b]
def oK{s m:Nat}{x y:Int}(h:x<=y):gH s m x<=gH s m y:=by unfold gH;lia
def EJ{s m:Nat}{x y:Int}:min (gH s m x) (gH s m y)=gH s m (min x y):=by
 rcases mI x y with h | h
 ·rw[fj h,fj (oK h)]
 ·rw[fW h,fW (oK h)]
def EK{s m:Nat}{x y:Int}:max (gH s m x) (gH s m y)=gH s m (max x y):=by
 rcases mI x y with h | h
 ·rw[fX h,fX (oK h)]
 ·rw[fk h,fk (oK h)]
def C8{b:Bool}{ns:List Int}{s c:Nat}(O:gm ns)(hs:m6 ns s)(hsc:s<=c)(hc:m6 ns c)(hl:c<=ns.length)(nc:NC b ns):NC (b ^^ odd s) (qN ns s c):=by
 have e:=vJ (s:=s) hl;intro u p hp q hq;obtain⟨i,hi,si,rfl⟩:=dy hp;obtain⟨j,hj,sj,rfl⟩:=dy hq;rw[e] at hi hj;have up:∀k,bj (b ^^ odd s) u k=true->bj b u (s+k)=true:=λk hk=>by
  unfold bj at *;rw[zr]
  revert hk
  cases b<;>cases odd s<;>cases odd k<;>simp
 have h:=nc u (cV ns (s+i)) (gx (by lia) (up i si)) (cV ns (s+j)) (gx (by lia) (up j sj));have st:∀k,k<c-s+1->(cV (qN ns s c) k).1=gH s (c-s) (cV ns (s+k)).1/\(cV (qN ns s c) k).2=gH s (c-s) (cV ns (s+k)).2:=λk hk=>by
  have r1:=rX (i:=k) O hs hsc hc hl (by lia);have r2:=rX (i:=k+1) O hs hsc hc hl (by lia);unfold cV;dsimp only;rw[r1,r2,show s+(k+1)=s+k+1 by lia];exact⟨EJ,EK⟩
 obtain⟨i1,i2⟩:=st i hi;obtain⟨j1,j2⟩:=st j hj;apply eZ;intro z;have z:bO (cV (qN ns s c) i) (cV (qN ns s c) j)=true:=by cases hh:bO (cV (qN ns s c) i) (cV (qN ns s c) j) with | true=>rfl | false=>exact absurd hh z
 unfold bO at z h;simp only[ai,WA] at z;rw[i1,i2,j1,j2] at z;simp[vi z.1,vi z.2.1,vi z.2.2] at h
end Rm
namespace Rm
open PySem L2
inductive qq (st:Bool->List Oe) (f:Bool->List Bw) (r:Nat):Nat->(Bool->List Oe)->(Bool->List Bw)->Prop
 | a:qq st f r 0 (fun u=>st u++[((r:Int),(r:Int))]) f
 | b {S:List Oe} {o l:Int}:st true=S++[(o,l)]->qq st f r 1 (fun u=>if u=true then S else st u++[((r:Int),l)]) (fun u=>if u=true then f u++[(o,(r:Int))] else f u)
 | c {S:List Oe} {o l:Int}:st false=S++[(o,l)]->qq st f r 2 (fun u=>if u=false then S else st u++[((r:Int),l)]) (fun u=>if u=false then f u++[(o,(r:Int))] else f u)
 | d {n' f':List Oe} {o1 l1 o2 l2:Int}:st false=n'++[(o1,l1)]->st true=f'++[(o2,l2)]->l1≠l2->qq st f r 3 (fun u=>(if u then f' else n').map (ii (max l1 l2) (min l1 l2))) (fun u=>f u++[(if u then o2 else o1,(r:Int))])
section
variable {b:Bool} {st:Bool->List Oe} {f:Bool->List Bw} {r:Nat} {is:List Pc}
def Gr.joinS{o1 l1 o2 l2 x y:Int}{n' f':List Oe}(G:Gr b st f r is)(h1:st false=n'++[(o1,l1)])(h2:st true=f'++[(o2,l2)])(hne:l1≠l2)(hxy:(y=l1/\x=l2)\/(y=l2/\x=l1)):
  ∃js,Gr b (λu=>(if u then f' else n').map (ii x y)) (λu=>f u++[(if u then o2 else o1,(r:Int))]) (r+1) js:=by
 obtain⟨p,q,js,hp,hq,G2⟩:=G.pick2 h1 h2 hne;cases hm:q.main with
 | false=>
  exact⟨_,G2.join0 (ta:=false) (o:=λu=>if u then o2 else o1) (st':=λu=>if u then f' else n') hp hq (λu=>by cases u;exact h1;exact h2) hm hxy⟩
 | true=>
  have hm2:p.main=false:=by
   have:=G2.one;rw[bh,bh,hm] at this;cases z:p.main with
   | false=>rfl
   | true=>rw[z] at this;simp at this
  have G3:=G2.perm (List.Perm.swap q p js);exact⟨_,G3.join0 (ta:=true) (o:=λu=>if u then o2 else o1) (st':=λu=>if u then f' else n') hq hp (λu=>by cases u;exact h1;exact h2) hm2 hxy.symm⟩
def qq.gr{st':Bool->List Oe}{f':Bool->List Bw}{k:Nat}(P:qq st f r k st' f')(G:Gr b st f r is):∃js,Gr b st' f' (r+1) js:=by
 cases P with
 | a=>exact⟨_,G.opA⟩
 | @b S o l h=>obtain⟨p,js,hp,G1,_⟩:=G.pick (e:=((o,l),true)) (by unfold dh;rw[h];simp);exact⟨_,G1.ext hp h⟩
 | @c S o l h=>obtain⟨p,js,hp,G1,_⟩:=G.pick (e:=((o,l),false)) (by unfold dh;rw[h];simp);exact⟨_,G1.ext hp h⟩
 | d h h' ne=>exact G.joinS h h' ne (by lia)
def zn{k:Nat}(f:Bool->List Bw)(r:Nat)(hk:k<4)(h:pz st k=true):∃st' f',qq st f r k st' f':=by
 obtain⟨st',f',P⟩:=Ib f r hk h;cases P with
 | a=>exact⟨_,_,.a⟩
 | b e=>exact⟨_,_,.b e⟩
 | c e=>exact⟨_,_,.c e⟩
 | d e e' n=>exact⟨_,_,.d e e' n⟩
def qq.many{st':Bool->List Oe}{f':Bool->List Bw}{k:Nat}(P:qq st f r k st' f'):((st' false).length:Int)+(st' true).length=qD ((st false).length+(st true).length) k:=by
 cases P with
 | a=>simp only[aU,bu,qD];simp;lia
 | b h=>rw[h];simp[qD];lia
 | c h=>rw[h];simp[qD];lia
 | d h h' ne=>rw[h,h'];simp[qD];lia
def EZ(st:Bool->List Oe):Nat:=if pz st 3=true then 3 else if st true=[]\/1<(st false).length then 2 else 1
def xi(L:List Int)(p:Nat):Prop:=1<=p/\p<L.length/\L[p-1]?≠L[p]?
instance (L:List Int) (p:Nat):Decidable (xi L p):=by unfold xi;infer_instance
def xh(L:List Int)(p:Nat):Nat:=if xi L p then 0 else if p=0 then (if L[0]? = L[1]? then 2 else 1) else if p=L.length then (if L[p-2]? = L[p-1]? then 2 else 1) else 1
def J0(L:List Int)(p:Nat):xh L p<=2:=by unfold xh;(repeat' split)<;>lia
def Lv{L:List Int}{p:Nat}(th:∀i,i+2<L.length->¬(L[i]? = L[i+1]?/\L[i+1]? = L[i+2]?))(h3:3<=L.length)(nd:¬xi L p)(hp:p=L.length\/(1<p/\p<L.length)):xh L (p - 1)+1<=xh L p:=by
 unfold xh;rw[Vy nd,Vy (by lia:¬p=0)];rcases hp with hp | ⟨h1,h2⟩
 ·rw[Vz hp];by_cases e:L[p-2]? = L[p-1]?
  ·rw[Vz e];have e1:¬xi L (p - 1):=λz=>z.2.2 (by rw[show p - 1 - 1=p - 2 by lia];exact e);rw[Vy e1,Vy (by lia),Vy (by lia)];lia
  ·rw[Vy e];have e1:xi L (p - 1):=⟨by lia,by lia,by rw[show p - 1 - 1=p - 2 by lia];exact e⟩
   rw[Vz e1];lia
 ·rw[Vy (by lia:¬p=L.length)];have ee:L[p-1]? = L[p]?:=eZ λz=>nd ⟨by lia,h2,z⟩;have:=th (p - 2) (by lia);rw[show p - 2+1=p - 1 by lia,show p - 2+2=p by lia] at this;have e1:xi L (p - 1):=⟨by lia,by lia,by rw[show p - 1 - 1=p - 2 by lia];exact λz=>this ⟨z,ee⟩⟩
  rw[Vz e1];lia
def De{L:List Int}{p:Nat}(h:xi L p):xh L p=0:=by unfold xh;rw[Vz h]
def Lw{L:List Int}{p:Nat}(th:∀i,i+2<L.length->¬(L[i]? = L[i+1]?/\L[i+1]? = L[i+2]?))(h3:3<=L.length)(nd:¬xi L p)(hp:p<=1):xh L (p+1)+1<=xh L p:=by
 rcases(show p=0\/p=1 by lia) with rfl | rfl
 ·have m0:xh L 0=if L[0]? = L[1]? then 2 else 1:=by unfold xh;rw[Vy nd,Vz rfl]
  by_cases e:L[0]? = L[1]?
  ·have e1:¬xi L 1:=λz=>z.2.2 e;have m1:xh L 1=1:=by unfold xh;rw[Vy e1,Vy (by lia),Vy (by lia)]
   rw[m0,Vz e,m1];lia
  ·have e1:xi L 1:=⟨by lia,by lia,e⟩
   rw[m0,Vy e,De e1];lia
 ·have ee:L[0]? = L[1]?:=eZ λz=>nd ⟨by lia,by lia,z⟩;have e1:xi L 2:=⟨by lia,by lia,λz=>th 0 (by lia) ⟨ee,z⟩⟩
  have m1:xh L 1=1:=by unfold xh;rw[Vy nd,Vy (by lia),Vy (by lia)]
  rw[m1,De e1];lia
def AV(st:Bool->List Oe):Nat:=if (d8 st).length<=1 then 0 else 3*((d8 st).length / 2)+xh (d8 st) (st false).length
def EW(st:Bool->List Oe):AV st<=3*(((st false).length+(st true).length) / 2)+2:=by
 have:=J0 (d8 st) (st false).length;have hl:=pW st;unfold AV
 split
 ·lia
 ·rw[hl] at *;lia
def Gr.th(G:Gr b st f r is):∀i,i+2<(d8 st).length->¬((d8 st)[i]? = (d8 st)[i+1]?/\(d8 st)[i+1]? = (d8 st)[i+2]?):=by
 intro i hi;have hE:∃x y z L,(dh st).Perm (x::y::z::L)/\(d8 st)[i]? = some x.1.2/\(d8 st)[i+1]? = some y.1.2/\(d8 st)[i+2]? = some z.1.2:=by
  have hp:(dh st).Perm ((st false).map (·,false)++((st true).reverse).map (·,true)):=by
   unfold dh;exact io _ ((km _).map _).symm
  have hlab:d8 st=((st false).map (·,false)++((st true).reverse).map (·,true)).map (λx:Oe×Bool=>x.1.2):=by
   unfold d8;rw[ar,ar,bS,bS];rfl
  rw[hlab] at hi ⊢;generalize (st false).map (·,false)++((st true).reverse).map (·,true)=E at hp hi ⊢;rw[aD] at hi;have e1:E=E.take i++(E[i]::E[i+1]::E[i+2]::E.drop (i+3)):=by
   conv=>lhs;rw[<-mf i E]
   rw[bX (by lia:i<E.length),bX (by lia:i+1<E.length),bX (by lia:i+1+1<E.length)]
  refine⟨E[i],E[i+1],E[i+2],E.take i++E.drop (i+3),?_,?_,?_,?_⟩
  ·refine hp.trans ?_
   conv=>lhs;rw[e1]
   refine cL.trans (List.Perm.cons _ (cL.trans (List.Perm.cons _ cL)))
  ·rw[bW,aS (by lia)];rfl
  ·rw[bW,aS (by lia)];rfl
  ·rw[bW,aS (by lia)];rfl
 obtain⟨x,y,z,L,hp,e0,e1,e2⟩:=hE;rw[e0,e1,e2];rintro⟨a,c⟩;exact G.three hp ⟨bZ a,bZ c⟩
def xV(st:Bool->List Oe):pz st 3=true<->xi (d8 st) (st false).length:=by
 have hl:=pW st;unfold pz xi;rw[Vz rfl,ai,ai,WA,WA,WA];rcases k9 (st false) with e | ⟨S,o,l,e⟩
 ·rw[e];simp
 ·rcases k9 (st true) with e' | ⟨S',o',l',e'⟩
  ·rw[e'] at hl;rw[hl,e'];simp
  ·have hL:d8 st=S.map (·.2)++(l::l'::(S'.reverse).map (·.2)):=by
    unfold d8;rw[e,e'];simp
   rw[hL,e,e',oI,oI];have i1:(S.map (·.2)++(l::l'::(S'.reverse).map (·.2)))[(S++[(o,l)]).length - 1]? = some l:=by
    rw[cG (by simp)];simp
   have i2:(S.map (·.2)++(l::l'::(S'.reverse).map (·.2)))[(S++[(o,l)]).length]? = some l':=by
    rw[cG (by simp)];simp
   rw[i1,i2];constructor
   ·intro h;exact⟨by simp,by simp,h.2.2⟩
   ·intro h;exact⟨by simp,by simp,h.2.2⟩
def Gr.cl_put(G:Gr b st f r is)(h:1<(st false).length+(st true).length):∃st' f',qq st f r (EZ st) st' f'/\AV st'+1<=AV st:=by
 have hl:=pW st;have hm:=G.many;have h3:3<=(d8 st).length:=by lia
 have th:=G.th;unfold EZ;by_cases hd:pz st 3=true
 ·rw[Vz hd];obtain⟨st',f',P⟩:=zn f r (by decide) hd;refine⟨st',f',P,?_⟩;have:=P.many;have a3:qD (((st false).length:Int)+(st true).length) 3=((st false).length:Int)+(st true).length - 2:=by unfold qD;simp
  rw[a3] at this;have p1:=EW st';have p2:3*((d8 st).length / 2)<=AV st:=by unfold AV;rw[Vy (by lia)];lia
  rw[hl] at p2;lia
 ·rw[Vy hd];have nd:¬xi (d8 st) (st false).length:=λz=>hd ((xV st).mpr z);by_cases hc:st true=[]\/1<(st false).length
  ·rw[Vz hc];rcases k9 (st false) with e | ⟨S,o,l,e⟩
   ·rcases hc with hc | hc
    ·rw[e,hc] at h;simp at h
    ·rw[e] at hc;simp at hc
   ·refine⟨_,_,.c e,?_⟩;have el:d8 (λu=>if u=false then S else st u++[((r:Int),l)])=d8 st:=by
     unfold d8;simp only[e,iM,WF,WE,List.reverse_append,kn,List.reverse_nil,eh,ar,bC,eI,cS,gl]
    have e2:((λu=>if u=false then S else st u++[((r:Int),l)]) false).length=(st false).length - 1:=by rw[e];simp
    unfold AV;rw[el,e2,Vy (by lia),Vy (by lia)];have:=Lv th h3 nd (by
     rcases hc with hc | hc
     ·left;rw[hl,hc];rfl
     ·by_cases z:st true=[]
      ·left;rw[hl,z];rfl
      ·right;have:=List.length_pos_iff.mpr z;lia)
    lia
  ·rw[Vy hc];have hc1:st true≠[]:=λz=>hc (.inl z);have hc2:(st false).length<=1:=by
    have:¬1<(st false).length:=λz=>hc (.inr z);lia
   rcases k9 (st true) with e | ⟨S,o,l,e⟩
   ·exact absurd e hc1
   ·refine⟨_,_,.b e,?_⟩;have el:d8 (λu=>if u=true then S else st u++[((r:Int),l)])=d8 st:=by
     unfold d8;simp only[e,cT,WF,WE,List.reverse_append,kn,List.reverse_nil,eh,ar,bC,eI,cS,gl]
    have e2:((λu=>if u=true then S else st u++[((r:Int),l)]) false).length=(st false).length+1:=by simp
    unfold AV;rw[el,e2,Vy (by lia),Vy (by lia)];have:=Lw th h3 nd hc2;lia
def Gr.cl_one(h:(st false).length+(st true).length=1):∃st' f',qq st f r (EZ st) st' f'/\(st' false).length+(st' true).length=1:=by
 have nd:¬pz st 3=true:=λz=>by
  have:=(xV st).mp z;have hl:=pW st;unfold xi at this;lia
 unfold EZ;rw[Vy nd];rcases k9 (st false) with e | ⟨S,o,l,e⟩
 ·rcases k9 (st true) with e' | ⟨S',o',l',e'⟩
  ·rw[e,e'] at h;simp at h
  ·rw[Vy (by rw[e,e'];simp)];exact⟨_,_,.b e',by rw[e,e'] at h;simp at h;simp[e,h]⟩
 ·have e':st true=[]:=by rw[e] at h;simp at h;exact List.eq_nil_iff_length_eq_zero.mpr (by lia)
  rw[Vz (.inl e')];exact⟨_,_,.c e,by rw[e,e'] at h;simp at h;simp[e',h]⟩
def AU(m:Int)(k:Nat):qD m k<=m+2:=by unfold qD;split<;>split<;>lia
def Gr.let_step{n rw0 k:Nat}(G:Gr b st f r is)(h9:rw0<=9)(i1:((st false).length+(st true).length) / 2<=n)(i2:((st false).length+(st true).length) / 2+n<=rw0\/n+AV st<=20)
  (go:n<rw0\/1<(st false).length+(st true).length) (hk:k=EZ st\/(n<rw0/\k<4/\pz st k=true/\qD ((st false).length+(st true).length) k<=1+2*((rw0:Int)-n - 1))) :
  ∃st' f' js,qq st f r k st' f'/\Gr b st' f' (r+1) js/\((st' false).length+(st' true).length) / 2<=n+1/\(((st' false).length+(st' true).length) / 2+(n+1)<=rw0\/(n+1)+AV st'<=20)/\n+1<=20:=by
 have hm:=G.many;rcases hk with rfl | ⟨h1,k4,hc,ha⟩
 ·by_cases h:1<(st false).length+(st true).length
  ·obtain⟨st',f',P,hp⟩:=G.cl_put h;obtain⟨js,G'⟩:=P.gr G;have m1:=P.many;have m2:=AU (((st false).length:Int)+(st true).length) (EZ st);have p1:=EW st;refine⟨st',f',js,P,G',by lia,.inr ?_,?_⟩<;>rcases i2 with i2 | i2<;>lia
  ·obtain⟨st',f',P,hp⟩:=Gr.cl_one (f:=f) (r:=r) (show (st false).length+(st true).length=1 by lia);obtain⟨js,G'⟩:=P.gr G;exact⟨st',f',js,P,G',by lia,.inl (by lia),by lia⟩
 ·obtain⟨st',f',P⟩:=zn f r k4 hc;obtain⟨js,G'⟩:=P.gr G;have m1:=P.many;have m2:=AU (((st false).length:Int)+(st true).length) k;exact⟨st',f',js,P,G',by lia,.inl (by lia),by lia⟩
end
def nP{K:WG}{H:Hp}{l p:Addr}{S:List Oe}{neg:Bool}{Q:VK}(h:c7 H l S)(h0:H p=some (.lst []))(q:Q (.bl (if neg then !decide (S=[]) else decide (S=[]))) H):yM K neg (.ref l) (.ref p) H Q:=
 ⟨mT S,.list [],EN h,.lst (cW.of h0) .nil,EO S,rfl,cH (Nat.min_le_right _ _) (by decide),by
  have e:PyData.eqv (mT S) (.list [])=decide (S=[]):=EQ S [];rw[e];exact q⟩
def xw:Sp:=λvs H Q _=>∃oe fd A B st f,∃k:Nat,vs=[.ref (A false),.ref (A true),.int k]/\k<4/\GS H oe fd A B st f/\∀H',aV H H'->Q (.bl (pz st k)) H'
def sK:Sp:=λvs H Q _=>∃oe fd A B st f,vs=[.ref (A false),.ref (A true)]/\GS H oe fd A B st f/\∀H',aV H H'->Q (.int (EZ st)) H'
def uK:Sp:=λvs H Q _=>∃oe fd A B st f,∃d g:Int,vs=[.ref (A false),.ref (A true),.int d,.int g]/\GS H oe fd A B st f/\(∀u,(st u).length<=100)/\∀(k:Nat) H',aV H H'->(k=EZ st\/(k<4/\pz st k=true/\qD ((st false).length+(st true).length) k<=1+2*g))->Q (.int k) H'
def ni:Sp:=λvs H Q _=>∃oe fd A B st f u,∃x y:Int,vs=[.ref (A u),.int x,.int y]/\GS H oe fd A B st f/\(st u).length<=100/\∀H',Fr A B H H'->GS H' oe fd A B (λv=>if v=u then (st u).map (ii x y) else st v) f->Q .non H'
def vA:Sp:=λvs H Q _=>∃oe fd A B st f st' f',∃k r:Nat,vs=[.ref (A false),.ref (A true),.ref fd,.int r,.int k]/\GS H oe fd A B st f/\(∀u,(st u).length<=100/\(f u).length<=100)/\qq st f r k st' f'/\∀H',Fr A B H H'->GS H' oe fd A B st' f'->Q .non H'
def uH:Sp:=λvs H Q _=>∃b fd g ns Fs,∃n:Nat,vs=[.ref fd,.str (sd b),.int n]/\Found H fd g b ns Fs/\n=ns.length/\∀t H',H t=none->aV H H'->H' t=some (.tup (ns.map V.int))->Q (.ref t) H'
def z5:Sp:=λvs H Q _=>∃c:Int,∃n:Nat,vs=[.int c,.int n]/\n<=9/\∀m o b ns H',H m=none->H o=none->aV H H'->dj H' m o b ns->gm ns->NC b ns->Q (.ref m) H'
def four{k:Nat}(h:k<4):k=0\/k=1\/k=2\/k=3:=by lia
def C6{α:Type}{X:List α}{k:Nat}{e:α}(h:X[k]? = some e):X.set k e=X:=by
 obtain⟨w1,w2⟩:=aH.mp h;rw[<-w2];exact List.set_getElem_self w1
def GS.addG{K:WG}{H:Hp}{oe fd:Addr}{A B:Bool->Addr}{st:Bool->List Oe}{f:Bool->List Bw}(G:GS H oe fd A B st f){u:Bool}{a:Addr}{o l:Int}{r:Nat}{i:Int}{Q':VK}(ta:bi H a (o,l))(hf:(f u).length<=100)(hi:tS [V.ref (B false),.ref (B true)] i=some (.ref (B u)))
  (k:∀H1,(∀Ho,Fr A B Ho H->Fr A B Ho H1)->GS H1 oe fd A B st (λv=>if v=u then f u++[(o,(r:Int))] else f v)->(∀a' q,bi H a' q->bi H1 a' q)->Q' .non H1) :
  ∃xs v,cW K H fd xs/\tS xs i=some v/\Hs K "list" v H/\Ek K (.ref a) (.int 0) H λx H1=>[x,V.int r].length<=sizeLine/\∀p,H1 p=none->vR v [.ref p] (bE H1 p (.tup [x,.int r])) Q':=by
 obtain⟨_,eB,_⟩:=G.f_ u;refine⟨_,_,cW.of G.fd_,hi,fP eB,a,_,_,_,rfl,rfl,c8.of ta,rfl,(by show 2<=sizeLine;decide),λt nt=>?_⟩;have G3:=G.new (o:=.tup [.int o,.int r]) nt;have t3:bi (bE H t (.tup [.int o,.int r])) t (o,(r:Int)):=aC;obtain⟨ys,eY,lY,G4⟩:=G3.add u t3;have s3:=(aV.refl H).new (o:=.tup [.int o,.int r]) nt;exact⟨B u,ys,_,rfl,rfl,eY,aq (by lia),k _ (λHo F=>(F.new nt).updB u) G4 λa' q z=>k8 eY (z.same s3)⟩
def GS.frT{H H':Hp}{oe fd a:Addr}{A B:Bool->Addr}{st:Bool->List Oe}{f:Bool->List Bw}{p:Bw}(G:GS H oe fd A B st f)(F:Fr A B H H')(t:bi H a p):bi H' a p:=by
 refine F a _ (λu=>⟨λe=>?_,λe=>?_⟩) t
 ·obtain⟨_,x,_⟩:=G.s u;unfold bi at t;rw[e,x] at t;cases t
 ·obtain⟨_,x,_⟩:=G.f_ u;unfold bi at t;rw[e,x] at t;cases t
def Di(i j:Int):(if j > i then j else i)=max i j:=by split<;>lia
def J1(i j:Int):(if j<i then j else i)=min i j:=by split<;>lia
structure B8 (kvs:List (Key×V)) (ps:List Bw):Prop where
 len:kvs.length<=2 * ps.length
 at_:∀ p∈ps,d6 kvs (.inl p.1:Key)=some (.int p.2)/\d6 kvs (.inl p.2:Key)=some (.int p.1)
def nM{x:Int}{p:Bw}:ve x p=true<->x=p.1\/x=p.2:=by unfold ve;simp
def B8.add{kvs:List (Key×V)}{ps:List Bw}{p:Bw}(h:B8 kvs ps)(uq:∀r∈ps,∀x,ve x r=true->ve x p=true->r=p)(lt:p.1≠p.2):B8 (putK (putK kvs (.inl p.1:Key) (.int p.2)) (.inl p.2:Key) (.int p.1)) (ps++[p]):=by
 have own:d6 (putK (putK kvs (.inl p.1:Key) (.int p.2)) (.inl p.2:Key) (.int p.1)) (.inl p.1:Key)=some (.int p.2)/\d6 (putK (putK kvs (.inl p.1:Key) (.int p.2)) (.inl p.2:Key) (.int p.1)) (.inl p.2:Key)=some (.int p.1):=by
  refine⟨?_,?_⟩
  ·rw[fQ,Vy (λz=>lt (by injection z)),fQ,Vz rfl]
  ·rw[fQ,Vz rfl]
 refine⟨?_,λr hr=>?_⟩
 ·have h1:=dP kvs (.inl p.1:Key) (.int p.2);have h2:=dP (putK kvs (.inl p.1:Key) (.int p.2)) (.inl p.2:Key) (.int p.1);have:=h.len;simp;lia
 ·rcases a9.mp hr with hr | hr
  ·by_cases e:r=p
   ·subst e;exact own
   ·have ne:∀x,ve x r=true->x≠p.1/\x≠p.2:=λx hx=>⟨λz=>e (uq r hr x hx (nM.mpr (.inl z))),λz=>e (uq r hr x hx (nM.mpr (.inr z)))⟩
    have one:∀x,ve x r=true->d6 (putK (putK kvs (.inl p.1:Key) (.int p.2)) (.inl p.2:Key) (.int p.1)) (.inl x:Key)=d6 kvs (.inl x:Key):=λx hx=>by
     rw[fQ,Vy (λz=>(ne x hx).2 (by injection z)),fQ,Vy (λz=>(ne x hx).1 (by injection z))]
    rw[one r.1 (nM.mpr (.inl rfl)),one r.2 (nM.mpr (.inr rfl))];exact h.at_ r hr
  ·have e:r=p:=by simpa using hr
   subst e;exact own
def wD{ns:List Int}{i:Nat}{x:Int}(h:ve x (cV ns i)=true):x=bQ ns i\/x=bQ ns (i+1):=by
 rw[nM] at h;unfold cV at h;dsimp only at h;lia
def gm.uq{ns:List Int}(O:gm ns){b s:Bool}{p q:Bw}(hp:p∈aj b ns s (ns.length+1))(hq:q∈aj b ns s (ns.length+1)){x:Int}(h1:ve x p=true)(h2:ve x q=true):p=q:=by
 obtain⟨i,hi,si,rfl⟩:=dy hp;obtain⟨j,hj,sj,rfl⟩:=dy hq;rcases wD h1 with e1 | e1<;>rcases wD h2 with e2 | e2
 ·rw[O.row_inj (by lia) (by lia) (e1.symm.trans e2)]
 ·exact(D7 si sj (O.row_inj (by lia) (by lia) (e1.symm.trans e2))).elim
 ·exact(D7 sj si (O.row_inj (by lia) (by lia) (e2.symm.trans e1))).elim
 ·have:=O.row_inj (by lia) (by lia) (e1.symm.trans e2);rw[show i=j by lia]
def B8.nil:B8 [] []:=⟨aJ _,λp h=>by cases h⟩
def BU(xs:List V)(v:V):t9 (xs++[v]) none (some (-1))=xs:=by
 unfold t9;rw[HT.sIx_none,List.drop_zero,jg];have e:HT.sIx (xs++[v]).length (xs++[v]).length (some (-1))=xs.length:=by
  show (if (-1:Int)<0 then ((-1:Int)+((xs++[v]).length:Int)).toNat else min (-1:Int).toNat (xs++[v]).length)=xs.length;rw[Vz (by decide),aU,bu];lia
 rw[e,mW];rfl
end Rm
namespace Rm
open PySem L2 PyProof.Rows
def Gz(b:Bool)(ns:List Int):Bool:=!hW (aj b ns false (ns.length+1))&&!hW (aj b ns true (ns.length+1))
def Gs:Sp:=λvs H Q _=>∃m o b ns,vs=[.ref m]/\dj H m o b ns/\ns.length<=40/\∀H',aV H H'->Q (.bl (Gz b ns)) H'
def Da{b:Bool}{ns:List Int}(h:NC b ns):Gz b ns=true:=by
 unfold Gz;rw[ke (h false),ke (h true)];rfl
def pj(ps:List Bw):hW ps=false<->∀p∈ps,∀q∈ps,bO p q=false:=by
 refine⟨λh p hp q hq=>?_,ke⟩;cases e:bO p q with
 | false=>rfl
 | true=>rw[ph hp hq e] at h;cases h
def Ff{b:Bool}{ns:List Int}:Gz b ns=true<->NC b ns:=by
 unfold Gz NC;rw[ai,kz,kz,pj,pj];constructor
 ·rintro⟨h1,h2⟩ u;cases u
  ·exact h1
  ·exact h2
 ·intro h;exact⟨h false,h true⟩
def wj(b u:Bool)(i:Nat):bj (!b) u i=bj b (!u) i:=by
 unfold bj;cases b<;>cases u<;>cases odd i<;>rfl
def GU{b:Bool}{ns:List Int}(h:NC b ns):NC (!b) ns:=by
 intro u p hp q hq;have e:aj (!b) ns u (ns.length+1)=aj b ns (!u) (ns.length+1):=by
  unfold aj;have:bj (!b) u=bj b (!u):=funext (wj b u);rw[this]
 rw[e] at hp hq;exact h (!u) p hp q hq
def vn{b c:Bool}{ns:List Int}(h:NC b ns):NC c ns:=by
 by_cases e:c=b
 ·rw[e];exact h
 ·have:c=!b:=by cases b<;>cases c<;>simp_all
  rw[this];exact GU h
section
variable {J o:List Int}
def uO:qN (J++cN J.length o) 0 J.length=J:=by
 unfold qN;rw[mW,List.drop_zero]
 ·conv=>rhs;rw[<-f6 J]
  apply bd;intro x _;simp
 ·rfl
def sM:qN (J++cN J.length o) J.length (J++cN J.length o).length=o:=by
 unfold qN;rw[cB,List.drop_left']
 ·unfold cN;rw[bS]
  conv=>rhs;rw[<-f6 o]
  apply bd;intro x _;simp only[Function.comp,id];lia
 ·rfl
def pA{f:Int->Int}{x1 x2 y1 y2:Int}(m:∀s t,(s=x1\/s=x2\/s=y1\/s=y2)->(t=x1\/t=x2\/t=y1\/t=y2)->s<t->f s<f t)(h:bO (min x1 x2,max x1 x2) (min y1 y2,max y1 y2)=true):bO (min (f x1) (f x2),max (f x1) (f x2)) (min (f y1) (f y2),max (f y1) (f y2))=true:=by
 unfold bO at h ⊢;simp only[ai,WA] at h ⊢;have go:∀a b c d:Int,(a=x1\/a=x2\/a=y1\/a=y2)->(b=x1\/b=x2\/b=y1\/b=y2)->(c=x1\/c=x2\/c=y1\/c=y2)->(d=x1\/d=x2\/d=y1\/d=y2)->a<c/\c<b/\b<d->f a<f c/\f c<f b/\f b<f d:=λa b c d ha hb hc hd ⟨p,q,r⟩=>⟨m a c ha hc p,m c b hc hb q,m b d hb hd r⟩
 clear m;rcases mI x1 x2 with e | e<;>rcases mI y1 y2 with e' | e'
 ·rw[fj e,fX e,fj e',fX e'] at h;have k:=go x1 x2 y1 y2 (by simp) (by simp) (by simp) (by simp) h;clear go h e e';lia
 ·rw[fj e,fX e,fW e',fk e'] at h;have k:=go x1 x2 y2 y1 (by simp) (by simp) (by simp) (by simp) h;clear go h e e';lia
 ·rw[fW e,fk e,fj e',fX e'] at h;have k:=go x2 x1 y1 y2 (by simp) (by simp) (by simp) (by simp) h;clear go h e e';lia
 ·rw[fW e,fk e,fW e',fk e'] at h;have k:=go x2 x1 y2 y1 (by simp) (by simp) (by simp) (by simp) h;clear go h e e';lia
def tK{s m:Nat}{x y:Int}(h:x<y)(hx:x-s<=m)(hy:0<y-s):gH s m x<gH s m y:=by unfold gH;lia
def sh{x1 x2 y1 y2 c:Int}(h:bO (min x1 x2,max x1 x2) (min y1 y2,max y1 y2)=true)(hh:(x1<=c/\x2<=c/\c<y1/\c<y2)\/(y1<=c/\c<x1/\c<x2)):False:=by
 unfold bO at h;simp only[ai,WA] at h;lia
def JX{b:Bool}(OJ:gm J)(Oo:gm o)(O':gm (J++cN J.length o)):NC b (J++cN J.length o)<->NC b J/\NC b o:=by
 have hc:m6 (J++cN J.length o) J.length:=by unfold m6;rw[mW rfl];exact OJ.perm
 have he:m6 (J++cN J.length o) (J++cN J.length o).length:=by unfold m6;rw[cB];exact O'.perm
 have hl:(J++cN J.length o).length=J.length+o.length:=by rw[aU,xy]
 constructor
 ·intro h;refine⟨?_,?_⟩
  ·have:=C8 O' (EG _) (ac _) hc (by lia) h;rw[uO] at this;exact vn this
  ·have:=C8 O' hc (by lia) he (aJ _) h;rw[sM] at this;exact vn this
 ·rintro⟨h1,h2⟩;have h2:NC (b ^^ odd J.length) o:=vn h2;have r1:∀i,i<=J.length+1->bQ J i=gH 0 J.length (bQ (J++cN J.length o) i):=λi hi=>by
   have:=rX (i:=i) O' (EG _) (ac _) hc (by lia) (by lia);rw[uO,jg,mB] at this;exact this
  have r2:∀i,i<=o.length+1->bQ o i=gH J.length o.length (bQ (J++cN J.length o) (J.length+i)):=λi hi=>by
   have:=rX (i:=i) O' hc (by lia) he (aJ _) (by lia);rw[sM,hl,Nat.add_sub_cancel_left] at this;exact this
  have lo:∀i,i<=J.length->bQ (J++cN J.length o) i<=J.length:=λi hi=>by
   have h0:=OJ.row_in (i:=i) (by lia);rcases kN i with rfl | hp
   ·rw[vN];lia
   ·have hx:(J++cN J.length o)[i - 1]? = some J[i - 1]:=by rw[cu (by lia),aS]
    have:=ju hx;rw[show i - 1+1=i by lia] at this;rw[this];exact(OJ.mem.mp (List.getElem_mem (by lia:i - 1<J.length))).2
  have hi:∀i,J.length<i->i<=J.length+o.length+1->(J.length:Int)<bQ (J++cN J.length o) i:=λi h1 h2=>by
   by_cases e:i=J.length+o.length+1
   ·have:=fu (J++cN J.length o);rw[hl] at this;rw[e,this];lia
   ·have hx:(J++cN J.length o)[i - 1]? = some ((J.length:Int)+o[i - 1-J.length]'(by lia)):=by
     rw[cG (by lia)];unfold cN;rw[bW,aS (by lia)];rfl
    have:=ju hx;rw[show i - 1+1=i by lia] at this;rw[this];have:=(Oo.mem.mp (List.getElem_mem (by lia:i - 1-J.length<o.length))).1;lia
  have inn:∀i,i<J.length+o.length+2->0<=bQ (J++cN J.length o) i/\bQ (J++cN J.length o) i<=(J.length:Int)+o.length+1:=λi h=>by
   have:=O'.row_in (i:=i) (by lia);rw[hl] at this;lia
  intro u p hp q hq;obtain⟨i,hi',si,rfl⟩:=dy hp;obtain⟨j,hj',sj,rfl⟩:=dy hq;rw[hl] at hi' hj';cases z:bO (cV (J++cN J.length o) i) (cV (J++cN J.length o) j) with
  | false=>rfl
  | true=>
   exfalso;have z:bO (min (bQ (J++cN J.length o) i) (bQ (J++cN J.length o) (i+1)),max (bQ (J++cN J.length o) i) (bQ (J++cN J.length o) (i+1))) (min (bQ (J++cN J.length o) j) (bQ (J++cN J.length o) (j+1)),max (bQ (J++cN J.length o) j) (bQ (J++cN J.length o) (j+1)))=true:=z;have up:∀k,bj b u (J.length+k)=true->bj (b ^^ odd J.length) u k=true:=λk hk=>by
    unfold bj at *;rw[zr] at hk
    revert hk
    cases b<;>cases odd J.length<;>cases odd k<;>simp
   have in1:=inn i (by lia);have in2:=inn (i+1) (by lia);have in3:=inn j (by lia);have in4:=inn (j+1) (by lia);by_cases ci:i<=J.length<;>by_cases cj:j<=J.length
   ·-- both in the first part
    have h:=h1 u _ (gx (i:=i) (by lia) si) _ (gx (i:=j) (by lia) sj);have a1:=r1 i (by lia);have a2:=r1 (i+1) (by lia);have a3:=r1 j (by lia);have a4:=r1 (j+1) (by lia);have l1:=lo i ci;have l3:=lo j cj;have ne:i≠j:=λe=>by subst e;unfold bO at z;simp at z
    have l24:bQ (J++cN J.length o) (i+1)<=J.length\/bQ (J++cN J.length o) (j+1)<=J.length:=by
     by_cases e:i=J.length
     ·exact .inr (lo (j+1) (by lia))
     ·exact .inl (lo (i+1) (by lia))
    have:bO (cV J i) (cV J j)=true:=by
     unfold cV;rw[a1,a2,a3,a4];refine pA (f:=gH 0 J.length) (λs t hs ht st=>?_) z;have s0:0<=s:=by rcases hs with rfl | rfl | rfl | rfl;exact in1.1;exact in2.1;exact in3.1;exact in4.1
     have sl:s<=J.length:=by
      rcases l24 with l | l
      ·rcases hs with rfl | rfl | rfl | rfl
       ·exact l1
       ·exact l
       ·exact l3
       ·have tl:t<=J.length\/t=bQ (J++cN J.length o) (j+1):=by rcases ht with rfl | rfl | rfl | rfl;exact .inl l1;exact .inl l;exact .inl l3;exact .inr rfl
        clear in1 in2 in3 in4 a1 a2 a3 a4 r1 r2 lo hi inn h1 h2 z;rcases tl with tl | tl<;>lia
      ·rcases hs with rfl | rfl | rfl | rfl
       ·exact l1
       ·have tl:t<=J.length\/t=bQ (J++cN J.length o) (i+1):=by rcases ht with rfl | rfl | rfl | rfl;exact .inl l1;exact .inr rfl;exact .inl l3;exact .inl l
        clear in1 in2 in3 in4 a1 a2 a3 a4 r1 r2 lo hi inn h1 h2 z;rcases tl with tl | tl<;>lia
       ·exact l3
       ·exact l
     clear in1 in2 in3 in4 a1 a2 a3 a4 r1 r2 lo hi inn h1 h2 z l1 l3 l24 hs ht;exact tK st (by lia) (by lia)
    rw[this] at h;cases h
   ·-- first,second
    by_cases e:i=J.length
    ·subst e;have k1:=up 0 (by rw[qH];exact si);have k2:=up (j-J.length) (by rw[show J.length+(j-J.length)=j by lia];exact sj);have h:=h2 u _ (gx (i:=0) (by lia) k1) _ (gx (i:=j-J.length) (by lia) k2);have a1:=r2 0 (by lia);have a2:=r2 1 (by lia);have a3:=r2 (j-J.length) (by lia);have a4:=r2 (j-J.length+1) (by lia);rw[qH] at a1;rw[show J.length+(j-J.length)=j by lia] at a3;rw[show J.length+(j-J.length+1)=j+1 by lia] at a4;have m2:=hi (J.length+1) (by lia) (by lia);have m3:=hi j (by lia) (by lia);have m4:=hi (j+1) (by lia) (by lia);have l1:=lo J.length (by lia);have:bO (cV o 0) (cV o (j-J.length))=true:=by
      unfold cV;rw[show (0:Nat)+1=1 from rfl,a1,a2,a3,a4];refine pA (f:=gH J.length o.length) (λs t hs ht st=>?_) z;have tu:t<=(J.length:Int)+o.length+1:=by rcases ht with rfl | rfl | rfl | rfl;exact in1.2;exact in2.2;exact in3.2;exact in4.2
      have tl:(J.length:Int)<t:=by
       rcases ht with rfl | rfl | rfl | rfl
       ·have sl:(J.length:Int)<s\/s=bQ (J++cN J.length o) J.length:=by rcases hs with rfl | rfl | rfl | rfl;exact .inr rfl;exact .inl m2;exact .inl m3;exact .inl m4
        clear in1 in2 in3 in4 a1 a2 a3 a4 r1 r2 lo hi inn h1 h2 z;rcases sl with sl | sl<;>lia
       ·exact m2
       ·exact m3
       ·exact m4
      clear in1 in2 in3 in4 a1 a2 a3 a4 r1 r2 lo hi inn h1 h2 z m2 m3 m4 l1 hs ht;exact tK st (by lia) (by lia)
     rw[this] at h;cases h
    ·have l1:=lo i (by lia);have l2:=lo (i+1) (by lia);have m3:=hi j (by lia) (by lia);have m4:=hi (j+1) (by lia) (by lia);exact sh z (.inl ⟨l1,l2,m3,m4⟩)
   ·by_cases e:j=J.length
    ·have m1:=hi i (by lia) (by lia);have m2:=hi (i+1) (by lia) (by lia);have l3:=lo j (by lia);exact sh z (.inr ⟨l3,m1,m2⟩)
    ·have m1:=hi i (by lia) (by lia);have m2:=hi (i+1) (by lia) (by lia);have l3:=lo j (by lia);exact sh z (.inr ⟨l3,m1,m2⟩)
   ·have k1:=up (i-J.length) (by rw[show J.length+(i-J.length)=i by lia];exact si);have k2:=up (j-J.length) (by rw[show J.length+(j-J.length)=j by lia];exact sj);have h:=h2 u _ (gx (i:=i-J.length) (by lia) k1) _ (gx (i:=j-J.length) (by lia) k2);have a1:=r2 (i-J.length) (by lia);have a2:=r2 (i-J.length+1) (by lia);have a3:=r2 (j-J.length) (by lia);have a4:=r2 (j-J.length+1) (by lia);rw[show J.length+(i-J.length)=i by lia] at a1;rw[show J.length+(i-J.length+1)=i+1 by lia] at a2;rw[show J.length+(j-J.length)=j by lia] at a3;rw[show J.length+(j-J.length+1)=j+1 by lia] at a4;have m1:=hi i (by lia) (by lia);have m2:=hi (i+1) (by lia) (by lia);have m3:=hi j (by lia) (by lia);have m4:=hi (j+1) (by lia) (by lia);have:bO (cV o (i-J.length)) (cV o (j-J.length))=true:=by
     unfold cV;rw[a1,a2,a3,a4];refine pA (f:=gH J.length o.length) (λs t hs ht st=>?_) z;have tu:t<=(J.length:Int)+o.length+1:=by rcases ht with rfl | rfl | rfl | rfl;exact in1.2;exact in2.2;exact in3.2;exact in4.2
     have tl:(J.length:Int)<t:=by rcases ht with rfl | rfl | rfl | rfl;exact m1;exact m2;exact m3;exact m4
     clear in1 in2 in3 in4 a1 a2 a3 a4 r1 r2 lo hi inn h1 h2 z m1 m2 m3 m4 hs ht;exact tK st (by lia) (by lia)
    rw[this] at h;cases h
end
end Rm
namespace Rm
open PySem L2
def tx(cs:List Nat):Str:=⟨cs.toArray⟩
end Rm
namespace L2
open PySem PySem.Spec PyProof.Rows
def H9{K:WG}{σ:St}{H:Hp}{D:Ends}{ta:TA}{g:TG}{tb:TS}:rK (LK K ta) g tb D σ H=ta σ H λvs H1=>∃a b,vs=[.ref a,.ref b]/\(∃xs,cW K H1 a xs)/\(∃ys,cW K H1 b ys)/\qJ (MI K a b) g tb D σ H1:=rfl
end L2
namespace Rm
open PySem L2 PyProof.Rows
def hN(S:List Bw):Nat->Bw->Nat
 | 0,_=>1
 | k+1,p=>1+((S.filter λq=>M8 q p).map (hN S k)).foldl max 0
def hF(S:List Bw)(p:Bw):Nat:=hN S (Kn p).toNat p
def JN(n:Nat)(h:n<=20):gm (cF 1 n):=⟨by unfold cF;simp;exact h,by unfold cF;simp⟩
def Cd{n i:Nat}(h:i<=n+1):bQ (cF 1 n) i=(i:Int):=by
 have ln:(cF 1 n).length=n:=by unfold cF;simp
 match i,h with
 | 0,_=>rfl
 | i+1,h=>
  by_cases e:i=n
  ·subst e;have:=fu (cF 1 i);rw[ln] at this;rw[this];lia
  ·refine(ju (i:=i) (x:=(i:Int)+1) ?_).trans (by lia);unfold cF;rw[bW,List.getElem?_range (by lia)];show some (1+(i:Int))=some ((i:Int)+1);congr 1;lia
def LH(b:Bool)(n:Nat):NC b (cF 1 n):=by
 intro u p hp q hq;have ln:(cF 1 n).length=n:=by unfold cF;simp
 obtain⟨i,hi,_,rfl⟩:=dy hp;obtain⟨j,hj,_,rfl⟩:=dy hq;rw[ln] at hi hj;have s:∀k,k<=n->cV (cF 1 n) k=((k:Int),(k:Int)+1):=λk hk=>by
  unfold cV;rw[Cd (i:=k) (by lia),Cd (i:=k+1) (by lia)];refine lP ?_ ?_
  ·show min (k:Int) ((k+1:Nat):Int)=k;lia
  ·show max (k:Int) ((k+1:Nat):Int)=(k:Int)+1;lia
 rw[s i (by lia),s j (by lia)];unfold bO;cases e:decide ((i:Int)<(j:Int)) with
 | false=>rfl
 | true=>
  have:=WD e;rw[WB (show ¬((j:Int)<(i:Int)+1) by lia)];rfl
def zw{b:Bool}{ns:List Int}(O:gm ns)(nc:NC b ns)(k:Nat)(hk:ns.length+k<=20):gm (ns++cF ((ns.length:Int)+1) k)/\NC b (ns++cF ((ns.length:Int)+1) k):=by
 have e:cF ((ns.length:Int)+1) k=cN ns.length (cF 1 k):=by
  unfold cF cN;rw[bS];refine bd λi _=>?_;show (ns.length:Int)+1+(i:Int)=(ns.length:Int)+(1+(i:Int))
  lia
 have Oi:=JN k (by lia);have ln:(cF 1 k).length=k:=by unfold cF;simp
 have O':gm (ns++cF ((ns.length:Int)+1) k):=by
  have ll:(cF ((ns.length:Int)+1) k).length=k:=by unfold cF;simp
  refine⟨by rw[aU,ll];exact hk,?_⟩;rw[aU,ll];refine(O.perm.append_right _).trans ?_;have:cF 1 (ns.length+k)=cF 1 ns.length++cF ((ns.length:Int)+1) k:=by
   unfold cF;rw[List.range_add,ar,bS];congr 1;refine bd λi _=>?_;show 1+((ns.length+i:Nat):Int)=(ns.length:Int)+1+(i:Int)
   lia
  rw[this]
 refine⟨O',?_⟩;rw[e] at O' ⊢;exact(JX O Oi O').mpr ⟨nc,LH b k⟩
end Rm
namespace L2
open PySem PySem.Spec PyProof.Rows
def yO{X:Cx}{a b c d:Expr}{ta tb tc td:TE}{pos:Pos}{op op' op2:CmpOp}{r r' r2:R2}(ho:mV X (compareOp op) r)(ho':mV X (compareOp op') r')(ho2:mV X (compareOp op2) r2)(ha:QE X a ta)(hb:QE X b tb)(hc:QE X c tc)(hd:QE X d td)
  (hm:lastMarks [op,op',op2] [b,c,d]=false:=by with_unfolding_all rfl):QE X (.Compare a [op,op',op2] [b,c,d] pos) (rS r r' r2 ta tb tc td):=⟨by
 intro pins s σ H Q I h;refine Compare_chain (dZ (ha.h pins s σ H _ I h) λv s1 ⟨x,H1,I1,r1,q1⟩=>chain_link (dZ (hb.h pins s1 σ H1 _ I1 q1) λu s2 ⟨y,H2,I2,r2',q2⟩=>
  dZ (ho pins s2 σ H2 x y v u _ I2 r1 r2' q2) λe s3 ⟨z,H3,I3,r3,k,ek,q3⟩=>?_)) hm
 subst ek;cases r3;refine V4 ?_;cases k with
 | false=>exact ite_ff ⟨.bl false,H3,I3,rfl,q3⟩
 | true=>
  refine ite_tt (chain_link (dZ (hc.h pins s3 σ H3 _ I3 q3) λw' s4 ⟨z',H4,I4,r4,q4⟩=>dZ (ho' pins s4 σ H4 y z' u w' _ I4 r2' r4 q4) λd' s5 ⟨z2,H5,I5,r5,k2,e2,q5⟩=>?_));subst e2;cases r5;refine V4 ?_;cases k2 with
  | false=>exact ite_ff ⟨.bl false,H5,I5,rfl,q5⟩
  | true=>exact ite_tt (chain_last (dZ (hd.h pins s5 σ H5 _ I5 q5) λw2 s6 ⟨z3,H6,I6,r6,q6⟩=>ho2 pins s6 σ H6 z' z3 w' w2 Q I6 r4 r6 q6))⟩
end L2
namespace Rm
open PySem L2 PyProof.Rows
def oM(b:Bool)(ns:List Int)(u:Bool):List Bool:=eM ((aj b ns u (ns.length+1)).map (pq ((ns.length:Int)+1)))
def lN(b:Bool)(ns:List Int)(u:Bool):tT b ns u ((aj b ns u (ns.length+1)).map (pq ((ns.length:Int)+1))):=⟨.refl _⟩
def EL{b:Bool}{ns:List Int}{u:Bool}{L:List Bw}(h:L.Perm (aj b ns u (ns.length+1))):eM (L.map (pq ((ns.length:Int)+1)))=oM b ns u:=xl (h.map _)
section
variable {b:Bool} {ns:List Int} {k:Nat}
def kf(u:Bool)(hk:ns.length+1=2*k):(oM b ns u).length=2*k:=by
 unfold oM;rw[n8,(lN b ns u).len hk]
def AR(u:Bool)(O:gm ns)(hk:ns.length+1=2*k):rh (oM b ns u):=((lN b ns u).fill O hk).bal
def AQ(u v:Bool)(O:gm ns)(hk:ns.length+1=2*k):GP (oM b ns u) (oM b ns v):=⟨AR u O hk,AR v O hk,by rw[kf u hk];have:=O.len;lia,by rw[kf u hk,kf v hk]⟩
def zB(O:gm ns)(nc:NC b ns)(hk:ns.length+1=2*k):rsF (mtF (oM b ns b)) (mtF (oM b ns (!b))) (oM b ns b).length=[KI ns]:=by
 rw[kf b hk];exact tT.rounds (lN b ns b) (lN b ns (!b)) O nc hk
def EM(O:gm ns)(nc:NC b ns)(hk:ns.length+1=2*k):(rsF (mtF (oM b ns (!b))) (mtF (oM b ns b)) (oM b ns (!b)).length).length=1:=by
 rw[kf (!b) hk];exact tT.back (lN b ns b) (lN b ns (!b)) O nc hk
def GF(O:gm ns)(nc:NC b ns)(hk:ns.length+1=2*k):(rsF (mtF (oM b ns false)) (mtF (oM b ns true)) (oM b ns false).length).length=1:=by
 cases b with
 | false=>exact congrArg List.length (zB (b:=false) O nc hk)
 | true=>exact EM (b:=true) O nc hk
def uf{u:Bool}{L:List Bw}(h:L.Perm (aj b ns u (ns.length+1)))(O:gm ns)(nc:NC b ns)(hk:ns.length+1=2*k):rj (mT (L.map (pq ((ns.length:Int)+1))))=some (L.map (pq ((ns.length:Int)+1))):=by
 have S:=tT.of h;have F:=S.fill O hk;have l:=S.len hk;have ln:=O.len;refine vv ?_ (S.nc O nc);rw[xH,WC (by lia),iA,ai];refine⟨cC.mpr λp hp=>?_,fg.mpr F.perm⟩;have:=F.lt p hp;exact WC this
end
def Gq:Sp:=λvs H Q _=>∃l ps,∃n:Int,vs=[.ref l,.int n]/\c7 H l ps/\ps.length<=40/\∀l' H',H l'=none->aV H H'->c7 H' l' (ps.map (pq n))->Q (.ref l') H'
def zE(H:Hp)(t:Addr)(b:Bool)(ns:List Int):Prop:=H t=some (.tup [.str (wd (oM b ns false)),.str (wd (oM b ns true))])
def sJ(M C R:Addr):Sp:=λvs H Q E=>∃x d,vs=[x]/\Dat H x d/\Pl d 60/\((nL d=false/\∀H',aV H H'->E (.ref M) none H')\/∃m o b ns,x=.ref m/\dj H m o b ns/\d=JZ b ns/\gm ns ∧
 (NC b ns->ns.length % 2=0->∀H',aV H H'->E (.ref R) none H')/\(NC b ns->∀k,ns.length+1=2*k->∀t H',aV H H'->zE H' t b ns->Q (.ref t) H') ∧
 ∀u,∀p∈aj b ns u (ns.length+1),∀q∈aj b ns u (ns.length+1),bO p q=true->∀t dx H',aV H H'->jH H' t u p q->H' dx=some (.xd [("bows",.ref t)])->E (.ref C) (some dx) H')
def Fg(r:List Nat):List Int:=r.map λx:Nat=>(x:Int)
def vB (W R : Addr) : Sp := fun vs H Q E => ∃ x y d e, vs = [x, y] ∧ Dat H x d ∧ qF d ∧ Dat H y e ∧ qF e ∧
  ((∃ bs cs, d = G0 bs ∧ e = G0 cs ∧ GP bs cs ∧ ((rsF (mtF bs) (mtF cs) bs.length).length ≠ 1 → ∀ H', aV H H' → E (.ref R) none H') ∧ (20 < bs.length → ∀ H', aV H H' → E (.ref R) none H') ∧
    (∀ r, rsF (mtF bs) (mtF cs) bs.length = [r] → bs.length ≤ 20 → ∀ m o H', aV H H' → dj H' m o false (Fg (r.drop 1)) → Q (.ref m) H')) ∨ (rJ d e = false ∧ E (.ref W) none H))
def E1{ns:List Int}(O:gm ns):Fg ((KI ns).drop 1)=ns:=by
 unfold Fg KI;rw[List.drop_one,List.tail_cons,bS]
 conv=>rhs;rw[<-f6 ns]
 refine bd λx hx=>?_;have:=O.mem.mp hx;show ((x.toNat:Nat):Int)=x;lia
def sI:Sp:=λvs H Q _=>∃x d,vs=[x]/\Dat H x d/\Pl d 60/\((nL d=false/\∀p H',aV H H'->zG H' p "maze" .non->Q (.ref p) H')\/∃m o b ns,x=.ref m/\dj H m o b ns/\d=JZ b ns/\gm ns ∧
 (NC b ns->ns.length % 2=0->∀p H',aV H H'->zG H' p "round" .non->Q (.ref p) H')/\(NC b ns->∀k,ns.length+1=2*k->∀t p H',aV H H'->zE H' t b ns->zG H' p "told" (.ref t)->Q (.ref p) H') ∧
 ∀u p q,MK b ns u p q->∀t r H',aV H H'->jH H' t u p q->zG H' r "crossed" (.ref t)->Q (.ref r) H')
def vC:Sp:=λvs H Q _=>∃x d,vs=[x]/\Dat H x d/\Pl d 60/\(∀H',aV H H'->Q (.bl true) H')/\(nL d=false\/∃m o b ns,x=.ref m/\dj H m o b ns/\d=JZ b ns/\gm ns/\(¬NC b ns\/ns.length % 2=0))
def C3:Sp:=λvs H Q _=>∃m o b ns,∃k:Nat,vs=[.ref m]/\dj H m o b ns/\gm ns/\ns.length+1=2*k/\∀t H',aV H H'->zE H' t b ns->Q (.ref t) H'
def zc:Sp:=λvs H Q _=>∃m o b ns t u p q,vs=[.ref m,.ref t]/\dj H m o b ns/\gm ns/\jH H t u p q/\MK b ns u p q/\∀H',aV H H'->Q (.bl true) H'
def za:Sp:=λvs H Q _=>∃m o b ns,vs=[.ref m]/\dj H m o b ns/\gm ns/\∀H',aV H H'->Q (.bl true) H'
def xM(xs:List V):t9 xs (some 1) none=xs.drop 1:=by
 have e1:HT.sIx xs.length 0 (some (1:Int))=min 1 xs.length:=by
  show (if (1:Int)<0 then ((1:Int)+(xs.length:Int)).toNat else min (1:Int).toNat xs.length)=_;rw[Vy (by decide)];rfl
 have e2:HT.sIx xs.length xs.length none=xs.length:=rfl;unfold t9;rw[e1,e2];cases xs with
 | nil=>rfl
 | cons x xs=>simp
def C4{b u:Bool}{ns:List Int}{k:Nat}{p:Bw}(O:gm ns)(hk:ns.length+1=2*k)(hp:p∈aj b ns u (ns.length+1))(e:p.2=(ns.length:Int)+1):u≠b:=by
 obtain⟨i,hi,s,rfl⟩:=dy hp;have e:max (bQ ns i) (bQ ns (i+1))=(ns.length:Int)+1:=e;have h1:=O.row_le (j:=i) hi;have e2:bQ ns (i+1)=bQ ns (ns.length+1):=by rw[fu];lia
 have:=O.row_inj (by lia) (by lia) e2;intro z;subst z;unfold bj odd at s;rw[show i % 2=1 by lia] at s;cases u<;>cases s
def Lx {i c:Nat} {u:Bool} (h:(Str.ofString "lr").cps[i]? = some c) (hu:[false,true][i]? = some u):(⟨#[c]⟩:Str)=sd u:=by
 rw[yh] at h
 match i,h,hu with
 | 0,h,hu=>cases h;cases hu;decide +kernel
 | 1,h,hu=>cases h;cases hu;decide +kernel
 | j+2,h,hu=>simp at hu
def yu{K:WG}{H:Hp}{x y:V}{d:PyData}{neg:Bool}{Q:VK}(hx:Dat H x d)(hy:Dat H y d)(lay:d.canLay0=true)(dp:d.depth<=60)(q:Q (.bl (!neg)) H):yM K neg x y H Q:=by
 refine⟨_,_,hx.rep,hy.rep,lay,lay,by rw[Nat.min_self];exact dp,?_⟩;rw[PySem.SeqAt.eqv_refl _ lay];cases neg
 ·exact q
 ·exact q
def zq:List PyData:=[.tuple [.str (Str.ofString "x"),.tuple [.int 1]],.tuple [.str (Str.ofString "l"),.tuple [.int 2]],.tuple [.str (Str.ofString "l"),.tuple [.int 1,.int 1]],.tuple [.str (Str.ofString "l"),.list [.int 1]],.list [.str (Str.ofString "l"),.tuple [.int 1]],.none,.tuple [.str (Str.ofString "r"),.tuple [.bool true]],.tuple [.str (Str.ofString "l"),.tuple [.int 0]]]
def Az:∀d∈zq,nL d=false/\Pl d 60:=by
 have h:zq.all (λd=>!nL d&&(d.canLay0&&decide (d.depth<=60)))=true:=by decide +kernel
 intro d hd;have:=cC.mp h d hd;rw[ai,ai,WA] at this;refine⟨by simpa using this.1,this.2.1,this.2.2⟩
def top(i:Nat):Stmt:=PySem.Challenge.pw_ringmaze_k27_closed_and_opened.main.body.getD i (.Pass ⟨0,0,0,0⟩)
abbrev iG:Stmt:=top 1
def jO:bN ["bows","a","b","c","d"] ["bows"] (ao iG):=⟨rfl,rfl,rfl,by decide +kernel,rfl,by decide +kernel,by decide +kernel⟩
abbrev iF:Stmt:=top 17
def wU:bN ["thing"] ["thing"] (ao iF):=⟨rfl,rfl,rfl,by decide +kernel,rfl,by decide +kernel,by decide +kernel⟩
abbrev jn:Stmt:=top 18
def yD:bN ["thing"] ["thing"] (ao jn):=⟨rfl,rfl,rfl,by decide +kernel,rfl,by decide +kernel,by decide +kernel⟩
abbrev iu:Stmt:=top 19
def wV:bN ["thing"] ["thing"] (ao iu):=⟨rfl,rfl,rfl,by decide +kernel,rfl,by decide +kernel,by decide +kernel⟩
abbrev jo:Stmt:=top 20
def yG:bN ["thing"] ["thing"] (ao jo):=⟨rfl,rfl,rfl,by decide +kernel,rfl,by decide +kernel,by decide +kernel⟩
abbrev ir:Stmt:=top 23
def jy:bN ["thing","waiting","sign"] ["thing"] (ao ir):=⟨rfl,rfl,rfl,by decide +kernel,rfl,by decide +kernel,by decide +kernel⟩
abbrev nv:Stmt:=top 24
def nF:bN ["word","waiting","bows","end","sign"] ["word"] (ao nv):=⟨rfl,rfl,rfl,by decide +kernel,rfl,by decide +kernel,by decide +kernel⟩
abbrev lI:Stmt:=top 25
def A9:bN ["thing"] ["thing"] (ao lI):=⟨rfl,rfl,rfl,by decide +kernel,rfl,by decide +kernel,by decide +kernel⟩
abbrev fS:Stmt:=top 26
def mP:bN ["thing","ends"] ["thing"] (ao fS):=⟨rfl,rfl,rfl,by decide +kernel,rfl,by decide +kernel,by decide +kernel⟩
abbrev jk:Stmt:=top 27
def sN:bN ["bows","firsts"] ["bows"] (ao jk):=⟨rfl,rfl,rfl,by decide +kernel,rfl,by decide +kernel,by decide +kernel⟩
abbrev gX:Stmt:=top 29
def tW:bN ["side"] ["side"] (ao gX):=⟨rfl,rfl,rfl,by decide +kernel,rfl,by decide +kernel,by decide +kernel⟩
abbrev fR:Stmt:=top 30
def mO:bN ["maze","step","side"] ["maze","step"] (ao fR):=⟨rfl,rfl,rfl,by decide +kernel,rfl,by decide +kernel,by decide +kernel⟩
abbrev fq:Stmt:=top 31
def nE:bN ["maze","order"] ["maze"] (ao fq):=⟨rfl,rfl,rfl,by decide +kernel,rfl,by decide +kernel,by decide +kernel⟩
abbrev ix:Stmt:=top 32
def kA:bN ["maze","rows","told","step","bow"] ["maze"] (ao ix):=⟨rfl,rfl,rfl,by decide +kernel,rfl,by decide +kernel,by decide +kernel⟩
abbrev jr:Stmt:=top 33
def l8:bN ["maze","side","bows","found"] ["maze"] (ao jr):=⟨rfl,rfl,rfl,by decide +kernel,rfl,by decide +kernel,by decide +kernel⟩
abbrev uR:Stmt:=top 34
def C9:bN ["maze","found"] ["maze"] (ao uR):=⟨rfl,rfl,rfl,by decide +kernel,rfl,by decide +kernel,by decide +kernel⟩
abbrev iQ:Stmt:=top 36
def vK:bN ["left","right"] ["left","right"] (ao iQ):=⟨rfl,rfl,rfl,by decide +kernel,rfl,by decide +kernel,by decide +kernel⟩
abbrev iq:Stmt:=top 37
def ka:bN ["word","told","a","b"] ["word"] (ao iq):=⟨rfl,rfl,rfl,by decide +kernel,rfl,by decide +kernel,by decide +kernel⟩
abbrev gW:Stmt:=top 38
def gz:bN ["end","lefts","rights","told","here","across"] ["end","lefts","rights"] (ao gW):=⟨rfl,rfl,rfl,by decide +kernel,rfl,by decide +kernel,by decide +kernel⟩
abbrev lF:Stmt:=top 39
def iO:bN ["left","right","lefts","rights","told","met","end","ends","one"] ["left","right"] (ao lF):=⟨rfl,rfl,rfl,by decide +kernel,rfl,by decide +kernel,by decide +kernel⟩
abbrev dN:Stmt:=top 42
def mZ:bN ["bows","middle"] ["bows","middle"] (ao dN):=⟨rfl,rfl,rfl,by decide +kernel,rfl,by decide +kernel,by decide +kernel⟩
abbrev kD:Stmt:=top 43
def qO:bN ["maze","rings","bows"] ["maze"] (ao kD):=⟨rfl,rfl,rfl,by decide +kernel,rfl,by decide +kernel,by decide +kernel⟩
abbrev lG:Stmt:=top 44
def uP:bN ["left","right","found"] ["left","right"] (ao lG):=⟨rfl,rfl,rfl,by decide +kernel,rfl,by decide +kernel,by decide +kernel⟩
abbrev nz:Stmt:=top 46
def pM:bN ["_law_e","_law_kinds"] ["_law_e"] (ao nz):=⟨rfl,rfl,rfl,by decide +kernel,rfl,by decide +kernel,by decide +kernel⟩
abbrev jt:Stmt:=top 47
def yJ:bN ["_law_script","_law_k"] ["_law_script","_law_k"] (ao jt):=⟨rfl,rfl,rfl,by decide +kernel,rfl,by decide +kernel,by decide +kernel⟩
abbrev kC:Stmt:=top 48
def iP:bN ["_law_cell","_law_many","_law_rest","_law_k","_law_found"] ["_law_cell","_law_many"] (ao kC):=⟨rfl,rfl,rfl,by decide +kernel,rfl,by decide +kernel,by decide +kernel⟩
abbrev ny:Stmt:=top 49
def pK:bN ["_law_cell","_law_n","_law_order_here","_law_digits_here","_law_k"] ["_law_cell","_law_n"] (ao ny):=⟨rfl,rfl,rfl,by decide +kernel,rfl,by decide +kernel,by decide +kernel⟩
abbrev sQ:Stmt:=top 50
def IR:bN ["_law_left","_law_right","_law_letter_here"] ["_law_left","_law_right","_law_letter_here"] (ao sQ):=⟨rfl,rfl,rfl,by decide +kernel,rfl,by decide +kernel,by decide +kernel⟩
abbrev dg:Stmt:=top 51
def pL:bN ["_law_left","_law_right"] ["_law_left","_law_right"] (ao dg):=⟨rfl,rfl,rfl,by decide +kernel,rfl,by decide +kernel,by decide +kernel⟩
abbrev lH:Stmt:=top 52
def nq:bN ["_law_left","_law_right","_law_want","_law_after","_law_k","_law_letter_here","_law_many"] ["_law_left","_law_right","_law_want","_law_after"] (ao lH):=⟨rfl,rfl,rfl,by decide +kernel,rfl,by decide +kernel,by decide +kernel⟩
abbrev jm:Stmt:=top 53
def sO:bN ["_law_ends","_law_gone","_law_kept","_law_k"] ["_law_ends","_law_gone","_law_kept"] (ao jm):=⟨rfl,rfl,rfl,by decide +kernel,rfl,by decide +kernel,by decide +kernel⟩
abbrev qP:Stmt:=top 54
def nk:bN ["_law_left","_law_right","_law_bows_here","_law_row","_law_letter_here","_law_end","_law_one","_law_other","_law_kept"] ["_law_left","_law_right","_law_bows_here","_law_row","_law_letter_here"] (ao qP):=⟨rfl,rfl,rfl,by decide +kernel,rfl,by decide +kernel,by decide +kernel⟩
abbrev lE:Stmt:=top 55
def fm:bN ["_law_bows_here","_law_side","_law_n","_law_across_here","_law_k","_law_one","_law_other","_law_hand","_law_order_here","_law_row"] ["_law_bows_here","_law_side","_law_n"] (ao lE):=⟨rfl,rfl,rfl,by decide +kernel,rfl,by decide +kernel,by decide +kernel⟩
abbrev qQ:Stmt:=top 56
def iB:bN ["_law_cell","_law_rows","_law_side","_law_digits_here","_law_left","_law_right","_law_bows_here","_law_n","_law_letter_here","_law_k","_law_end"] ["_law_cell","_law_rows"] (ao qQ):=⟨rfl,rfl,rfl,by decide +kernel,rfl,by decide +kernel,by decide +kernel⟩
abbrev nH:Stmt:=top 57
def l9:bN ["_law_maze_here","_law_n","_law_rows","_law_found","_law_hand","_law_k"] ["_law_maze_here"] (ao nH):=⟨rfl,rfl,rfl,by decide +kernel,rfl,by decide +kernel,by decide +kernel⟩
abbrev jq:Stmt:=top 58
def jz:bN ["_law_bows_here","_law_a","_law_b","_law_c","_law_d"] ["_law_bows_here"] (ao jq):=⟨rfl,rfl,rfl,by decide +kernel,rfl,by decide +kernel,by decide +kernel⟩
abbrev iw:Stmt:=top 59
def qz:bN ["_law_maze_here","_law_bows_here"] ["_law_maze_here"] (ao iw):=⟨rfl,rfl,rfl,by decide +kernel,rfl,by decide +kernel,by decide +kernel⟩
abbrev lJ:Stmt:=top 60
def nu:bN ["_law_word","_law_found","_law_waiting","_law_k"] ["_law_word"] (ao lJ):=⟨rfl,rfl,rfl,by decide +kernel,rfl,by decide +kernel,by decide +kernel⟩
abbrev ip:Stmt:=top 61
def eJ:bN ["_law_left","_law_right","_law_by_left","_law_by_right","_law_gone","_law_found","_law_end","_law_one","_law_here"] ["_law_left","_law_right"] (ao ip):=⟨rfl,rfl,rfl,by decide +kernel,rfl,by decide +kernel,by decide +kernel⟩
abbrev o9:Stmt:=top 62
def ze:bN ["_law_maze_here","_law_e"] ["_law_maze_here"] (ao o9):=⟨rfl,rfl,rfl,by decide +kernel,rfl,by decide +kernel,by decide +kernel⟩
abbrev kE:Stmt:=top 63
def uQ:bN ["_law_maze_here","_law_e"] ["_law_maze_here"] (ao kE):=⟨rfl,rfl,rfl,by decide +kernel,rfl,by decide +kernel,by decide +kernel⟩
abbrev uS:Stmt:=top 64
def nG:bN ["_law_maze_here","_law_n","_law_words","_law_side","_law_bows_here","_law_signs","_law_a","_law_b"] ["_law_maze_here"] (ao uS):=⟨rfl,rfl,rfl,by decide +kernel,rfl,by decide +kernel,by decide +kernel⟩
abbrev gY:Stmt:=top 65
def oR:bN ["_law_maze_here","_law_told","_law_bows_here"] ["_law_maze_here","_law_told"] (ao gY):=⟨rfl,rfl,rfl,by decide +kernel,rfl,by decide +kernel,by decide +kernel⟩
abbrev qR:Stmt:=top 66
def vL:bN ["_law_maze_here","_law_found","_law_due_here"] ["_law_maze_here"] (ao qR):=⟨rfl,rfl,rfl,by decide +kernel,rfl,by decide +kernel,by decide +kernel⟩
abbrev pN:Stmt:=top 67
def o8:bN ["_law_script","_law_one","_law_grown","_law_cell","_law_other","_law_odd"] ["_law_script"] (ao pN):=⟨rfl,rfl,rfl,by decide +kernel,rfl,by decide +kernel,by decide +kernel⟩
abbrev ft:Stmt:=L2.MA (top 5)
def sP:bN ["self","bows"] ["self","bows"] (ao ft):=⟨rfl,rfl,rfl,by decide +kernel,rfl,by decide +kernel,by decide +kernel⟩
structure nZ (mg:Str->Option Value):Prop where
 len:mg "len"=none
 range:mg "range"=none
 int:mg "int"=none
 list:mg "list"=none
 tuple:mg "tuple"=none
 isinstance:mg "isinstance"=none
 str:mg "str"=none
 bool:mg "bool"=none
 sorted:mg "sorted"=none
 all:mg "all"=none
 zip:mg "zip"=none
 max:mg "max"=none
 min:mg "min"=none
 reversed:mg "reversed"=none
 enumerate:mg "enumerate"=none
 ValueError:mg "ValueError"=none
 MOST_RINGS:∃ t,mg "MOST_RINGS"=some (.int 20 t)
 MOST_SIGNS:∃ t,mg "MOST_SIGNS"=some (.int 40 t)
 MOST_ENDS:∃ t,mg "MOST_ENDS"=some (.int 20 t)
local macro_rules | `(tactic| nofun) => `(tactic| (try dsimp (maxSteps := 3000000) only [L2.Bi, L2.MP, L2.K2, L2.KS, L2.Gm, L2.MQ, L2.Bj, L2.KU, L2.w_and, L2.w_or, L2.w_not, L2.CJ, L2.Gc, L2.Bq, L2.K7, L2.Ga, L2.w_next, L2.Gj, L2.CH, L2.CD, L2.Gb, L2.Bm, L2.Gg, L2.Gn, L2.zM, L2.Bl, L2.Bk, L2.Gd, L2.CI, L2.Kf, L2.G9, L2.Gf, L2.w_call, L2.Kg, L2.Gk, L2.zW, L2.vy, L2.CC, L2.CB, L2.Bz, L2.Bx, L2.Bu, L2.By, L2.CA, L2.zT, L2.zS, L2.zV, L2.zU, L2.zR, L2.zO, L2.zN, L2.Br, L2.zL, L2.zJ, L2.zK, L2.Bt, L2.w_getS, L2.Bv, L2.zI, L2.KY, L2.Bp, L2.vw, L2.CG, L2.CF, L2.zQ, L2.Gi, L2.vx]); (try simp (maxSteps := 3000000) only [L2.HU, L2.Bi, L2.MP, L2.K2, L2.KS, L2.Hq, L2.M1, L2.M0, L2.Gh, L2.Ge, L2.zP, L2.Bs, L2.Ke, L2.K3, L2.Kd, L2.Kc, L2.Hc, L2.Hm, L2.Gm, L2.Lf, WE, WF, cT, L2.MQ, L2.Kb, L2.Hb, L2.Hh, L2.Hf, L2.Hg, L2.Hd, L2.He, L2.HX, L2.K5, L2.K6, L2.K4, L2.Kh, L2.K1, L2.Bj, L2.KU, L2.w_and, L2.w_or, L2.w_not, L2.CJ, L2.Gc, L2.Bq, L2.K7, L2.Ga, L2.w_next, L2.Gj, L2.CH, L2.CD, L2.Gb, L2.Bm, L2.Gg, L2.Gn, L2.zM, L2.Bl, L2.Bk, L2.Gd, L2.CI, L2.Kf, L2.G9, L2.Gf, L2.w_call, L2.Kg, L2.Gk, L2.zW, L2.vy, L2.CC, L2.CB, L2.Bz, L2.Bx, L2.Bu, L2.HZ, L2.E7, cY, WA, kz, decide_eq_false_iff_not, L2.E4, L2.HW, L2.K9, L2.Bo, L2.Ha, L2.By, L2.CA, L2.zT, L2.zS, L2.zV, L2.zU, L2.Ea, L2.zR, L2.zO, L2.zN, L2.E8, L2.H9, L2.Br, L2.Ka, L2.zL, L2.zJ, L2.zK, L2.Bt, L2.w_getS, L2.E6, L2.Bv, L2.zI, L2.KY, L2.Bp, L2.vw, L2.KW, L2.CG, L2.E9, L2.CF, L2.zQ, L2.Gi, L2.vx, L2.Hi, L2.K0, L2.KZ, L2.w_rev, L2.HV, L2.HY, L2.E5, L2.K8, L2.Eb, L2.Hl, L2.Hj, L2.Hk]))
section
variable {P:Program} {w:World} {K:WG} {mg:Str->Option Value} {base:Heap}
def wv (E:Fn K mg "crossing" iG ["bows"]):fJ P w K mg base 1 "crossing" iG ["bows"] o7:=E.mk' λf fd F=>by
 refine F.okS jO (λvs H Q E h=>?_) (λcdv A outer s H vs Q E hr h=>?_)
 ·obtain⟨l,ps,rfl,_⟩:=h;rfl
 ·obtain⟨l,ps,rfl,bo,qn,qs⟩:=h;obtain⟨as,b1,bl,bg⟩:=bo.get;refine⟨[some (.ref l),none,none,none,none],_,rfl,(L2.ig.h (aF (dH bA rfl (fE (a6 0)) (jJ (n:=2) rfl (ce (bI (i:=1) jO.nd rfl (Or.inl rfl)) (ce (bI (i:=2) jO.nd rfl (Or.inl rfl)) hU)))
   (aK (dH bA rfl (fE (a6 0)) (jJ (n:=2) rfl (ce (bI (i:=3) jO.nd rfl (Or.inl rfl)) (ce (bI (i:=4) jO.nd rfl (Or.inl rfl)) hU)))
    (aK (cA (sW kH kH kH (a6 1) (a6 3) (a6 2) (a6 4))
     (aK (bB (bf (cI (bf (aE (a6 1) (aE (a6 2) aA))) (cI (bf (aE (a6 3) (aE (a6 4) aA))) aA)))))
     bL)))))
   (aK (bB jL)))),?_⟩
  nofun;refine⟨⟨_,cW.of b1⟩,iZ (xs:=as.map V.ref) (λi σ H2=>∃x1 x2 x3 x4:Option V,σ=[some (.ref l),x1,x2,x3,x4]/\H2=H/\∀p∈ps.take i,∀q∈ps,bO p q=false) ⟨none,none,none,none,rfl,rfl,λp hp=>by simp at hp⟩ (λi σ H2 _ ⟨_,_,_,_,_,e,_⟩=>by rw[e];exact cW.of b1) ?_ ?_⟩
  ·rintro i x σ H2 hx ⟨x1,x2,x3,x4,rfl,rfl,hn⟩;obtain⟨a,p,rfl,hp,ta⟩:=bg i x hx;nofun;refine⟨_,c8.of ta,rfl,?_⟩;nofun;refine⟨⟨_,cW.of b1⟩,iZ (xs:=as.map V.ref) (λj σ H3=>∃x3 x4:Option V,σ=[some (.ref l),some (.int p.1),some (.int p.2),x3,x4]/\H3=H2/\∀q∈ps.take j,bO p q=false) ⟨x3,x4,rfl,rfl,λp hp=>by simp at hp⟩ (λi σ H2 _ ⟨_,_,_,e,_⟩=>by rw[e];exact cW.of b1) ?_ ?_⟩
   ·rintro j y σ H3 hy ⟨y3,y4,rfl,rfl,hm⟩;obtain⟨c,q,rfl,hq,tc⟩:=bg j y hy;nofun;refine⟨_,c8.of tc,rfl,?_⟩;nofun;have nx:bO p q=false->∃x3 x4:Option V,[some (V.ref l),some (V.int p.1),some (V.int p.2),some (V.int q.1),some (V.int q.2)]=[some (V.ref l),some (V.int p.1),some (V.int p.2),x3,x4]/\True/\∀q∈ps.take (j+1),bO p q=false:=λe=>by
     refine⟨_,_,rfl,trivial,λq' hq'=>?_⟩;rw[bV,hq] at hq';rcases a9.mp hq' with z | z
     ·exact hm q' z
     ·have e':q'=q:=by simpa using z
      rw[e'];exact e
    refine fV (λh1=>fV (λh2=>fV (λh3=>?_) (λh3=>nx (by simp[bO,h3]))) (λh2=>nx (by simp[bO,h2]))) (λh1=>nx (by simp[bO,h1]));refine⟨(by show 2<=sizeLine;decide),λt1 n1=>⟨(by show 2<=sizeLine;decide),λt2 n2=>⟨(by show 2<=sizeLine;decide),λt3 n3=>?_⟩⟩⟩;have s1:aV H3 (bE H3 t1 (.tup [.int p.1,.int p.2])):=(aV.refl _).new n1;have s2:=s1.new (o:=.tup [.int q.1,.int q.2]) (s1.free n2);have s3:=s2.new (o:=.tup [.ref t1,.ref t2]) (s2.free n3);have e12:t1≠t2:=λe=>by subst e;rw[aC] at n2;cases n2
    have e23:t2≠t3:=λe=>by subst e;rw[aC] at n3;cases n3
    have e13:t1≠t3:=λe=>by subst e;rw[aI e12,aC] at n3;cases n3
    refine qs p (bG hp) q (bG hq) (by simp[bO,h1,h2,h3]) t3 t1 t2 _ (s2.free n3) s3 aC ?_ ?_
    ·show bE _ _ _ t1=_;rw[aI e13,aI e12,aC]
    ·show bE _ _ _ t2=_;rw[aI e23,aC]
   ·rintro σ H3 ⟨y3,y4,rfl,rfl,hm⟩;refine⟨_,_,y3,y4,rfl,rfl,λp' hp'=>?_⟩;rw[bV,hp] at hp';rcases a9.mp hp' with z | z
    ·exact hn p' z
    ·have e:p'=p:=by simpa using z
     subst e;intro q hq;refine hm q ?_;rw[aD,bl,cB];exact hq
  ·rintro σ H2 ⟨x1,x2,x3,x4,rfl,rfl,hn⟩;nofun;refine qn λp hp=>hn p ?_;rw[aD,bl,cB];exact hp
def wq (B:nZ mg) (E:Fn K mg "is_whole" iF ["thing"]):fJ P w K mg base 1 "is_whole" iF ["thing"] (rT K):=E.mk' λf fd F=>by
 refine F.okS wU (λvs H Q E h=>?_) (λcdv A outer s H vs Q E hr h=>?_)
 ·obtain⟨x,t,b,c,rfl,_⟩:=h;rfl
 ·obtain⟨x,t,b,c,rfl,ty,e1,e2,q⟩:=h;refine⟨[some x],_,rfl,(L2.ig.h (aK (bB (gF (a8 jP (by rfl) B.isinstance aX (aE (a6 0) (aE (iX (v:=.ty "int") (by rfl) B.int eU rfl) aA))) (jK (pR (a8 jP (by rfl) B.isinstance aX (aE (a6 0) (aE (iX (v:=.ty "bool") (by rfl) B.bool PyProof.Rows.boot_bool rfl) aA))))))))),?_⟩;nofun;refine⟨_,_,_,b,rfl,ty,e1,?_⟩;nofun;cases b with
  | false=>exact Fo q
  | true=>exact Fm ⟨_,_,_,c,rfl,ty,e2,_,rfl,q⟩
def y6 (QP:∃a,mg "SIDES"=some (.ref a)/\∀H,c8 K H a (([("l":Str),"r"]:List Str).map V.str)) (E:Fn K mg "is_side" jn ["thing"]):fJ P w K mg base 1 "is_side" jn ["thing"] wJ:=E.mk' λf fd F=>by
 refine F.okS yD (λvs H Q E h=>?_) (λcdv A outer s H vs Q E hr h=>?_)
 ·obtain⟨x,d,rfl,_⟩:=h;rfl
 ·obtain⟨x,d,rfl,hd,pl,q⟩:=h;refine⟨[some x],_,rfl,(L2.ig.h (aK (bB (cm (v8 (ij hr)) (a6 0) (uU (by rfl) QP) (by with_unfolding_all rfl))))),?_⟩;nofun;intro a ha;refine⟨d,[.str (Str.ofString "l"),.str (Str.ofString "r")],a,_,hd.rep,rfl,.inr (ha H),.cons (.str _) (.cons (.str _) .nil),pl.lay,by decide +kernel,pl.deep,?_⟩;rw[C5];exact q
def wr (B:nZ mg) (E:Fn K mg "is_order" iu ["thing"]) (Ng:fJ P w K mg base 1 "is_whole" iF ["thing"] (rT K)):fJ P w K mg base 2 "is_order" iu ["thing"] uL:=E.mk' λf fd F=>by
 refine F.okS wV (λvs H Q E h=>?_) (λcdv A outer s H vs Q E hr h=>?_)
 ·obtain⟨x,d,rfl,_⟩:=h;rfl
 ·obtain⟨x,d,rfl,hd,q⟩:=h;refine⟨[some x],_,rfl,(L2.ig.h (aF (cA (QW.pt (iV (fD (dz (a8 jP (by rfl) B.isinstance aX (aE (a6 0) (aE (iX (v:=.ty "tuple") (by rfl) B.tuple cK rfl) aA))))) (g6 (bD uW (a8 bR (by rfl) B.len aw (aE (a6 0) aA)) (oE (by rfl) B.MOST_RINGS) (bK _)))))
   (aK (bB eV))
   bL)
   (aF (cA (fD (dz (a8 (rF rfl) (by rfl) B.all me (jd (kF (own:=["ring"]) (ns:=[]) (caps:=[]) rfl ⟨rfl,by decide +kernel,by decide +kernel,by decide +kernel⟩ .nil (zl (a6 0)) (λC s H fp pn=>(bI (i:=0) (show List.Nodup ((["ring"]:List Str)++([]:List Str)) by decide +kernel) rfl (Or.inl rfl))) (λC s H fp pn=>jc) (λC s H fp pn=>(ae Ng (hr.mono (by decide)) (by rfl) (aE (a6 0) aA)))) aA))))
   (aK (bB eV))
   bL)
   (aK (bB (cm (oh (ij hr)) (a8 qA (by rfl) B.sorted dG (aE (a6 0) aA)) (cw (oX rfl) (by rfl) B.list eG (nI (cw ui (by rfl) B.range iT (aP aG (cf (bF eF (a8 bR (by rfl) B.len aw (aE (a6 0) aA)) aG) aA))) aA)) (bK _))))))),?_⟩
  cases id hd with
  | tup h1 h2=>
   rename_i a xs ds;nofun;refine iz hd ?_;nofun;refine jw (by simp[J9]) ⟨_,.inr (c8.of h1),?_⟩;have hl:=h2.len;refine fV (λhn=>?_) (λhn=>?_)
   ·have e:qT (.tuple ds)=false:=by
     show (decide (ds.length<=20)&&_)=false;rw[WB (by lia)];rfl
    rw[e] at q;exact q H (aV.refl _)
   ·have hn':xs.length<=20:=by lia
    have hz:xs.length<=sizeLine:=ah (aq (by lia));have hds:ds.length=xs.length:=hl.symm;have e0:qT (.tuple ds)=(ds.all fy&&(ds.map intOf).isPerm (cF 1 ds.length)):=by
     show (decide (ds.length<=20)&&_)=_;rw[WC (by lia)];rfl
    rw[e0] at q;refine⟨⟨_,c8.of h1⟩,BW (c8.of h1) hz ((ds.map fy).map V.bl) (by simp[hds]) (λi x y Q' hx hy hq=>?_) λp1 n1=>?_⟩
    ·obtain⟨d,hd1,hd2⟩:=h2.get hx;nofun;refine rq hd2 ?_;have ey:y=V.bl (fy d):=by simp[hd1] at hy;exact hy.symm
     rw[ey] at hq;exact hq
    ·have s1:aV H (bE H p1 (.lst ((ds.map fy).map V.bl))):=(aV.refl _).new n1;refine⟨p1,_,rfl,cW.of aC,_,rfl,?_⟩;have ea:(ds.map fy).all id=ds.all fy:=by rw[mG];rfl
     cases hb:ds.all fy with
     | false=>
      rw[hb] at q;exact mQ (show (ds.map fy).all id=false by rw[ea,hb]) (q _ s1)
     | true=>
      rw[hb,iA] at q;rw[cC] at hb;have hq1:=s1 _ _ h1;have ex:xs=(ds.map intOf).map V.int:=by
       apply List.ext_getElem?;intro i;cases e:xs[i]? with
       | none=>
        have:xs.length<=i:=by rw[<-List.getElem?_eq_none_iff];exact e
        rw[mj (by simp;lia)]
       | some x=>
        obtain⟨d,hd1,hd2⟩:=h2.get e;have hw:=oY (hb d (bG hd1));rw[hw] at hd2;cases hd2;simp[hd1]
      refine jw (show ¬(ds.map fy).all id=false by rw[ea,cC.mpr hb];decide) ⟨a,ds.map intOf,rfl,.inr (by rw[<-ex];exact c8.of hq1),by rw[aD];lia,λl5 ms n5 hp hs=>?_⟩;have s5:=s1.new (o:=.lst (ms.map V.int)) (s1.free n5);nofun;refine⟨_,.inr (c8.of (s5 _ _ h1)),λp6 n6=>⟨1,_,aC,⟨by decide,by decide,by lia,by lia,by lia⟩,λl7 n7=>?_⟩⟩;have s6:=s5.new (o:=.rng 1 ((xs.length:Int)+1)) (s5.free n6);have n56:l5≠p6:=λe=>by subst e;rw[aC] at n6;cases n6
      have n57:l5≠l7:=λe=>by subst e;rw[aI n56,aC] at n7;cases n7
      have eN:((xs.length:Int)+1 - 1).toNat=(ds.map intOf).length:=by rw[aD];lia
      refine xI (cW.of (by rw[aI n57,aI n56,aC])) (cW.of aC) ?_;rw[eN,vE hp hs];rw[aD];exact q _ (s6.new (s6.free n7))
  | _=>
   nofun;refine iz hd ?_;nofun;exact mQ (by rfl) (q H (aV.refl _))
def y7 (B:nZ mg) (E:Fn K mg "is_maze" jo ["thing"]) (Qf:fJ P w K mg base 1 "is_side" jn ["thing"] wJ) (QX:fJ P w K mg base 2 "is_order" iu ["thing"] uL):fJ P w K mg base 3 "is_maze" jo ["thing"] wK:=E.mk' λf fd F=>by
 refine F.okS yG (λvs H Q E h=>?_) (λcdv A outer s H vs Q E hr h=>?_)
 ·obtain⟨x,d,rfl,_⟩:=h;rfl
 ·obtain⟨x,d,rfl,hd,pl,q⟩:=h;refine⟨[some x],_,rfl,(L2.ig.h (aF (cA (QW.pt (iV (fD (dz (a8 jP (by rfl) B.isinstance aX (aE (a6 0) (aE (iX (v:=.ty "tuple") (by rfl) B.tuple cK rfl) aA))))) (g6 (bD oT (a8 bR (by rfl) B.len aw (aE (a6 0) aA)) aG (bK _)))))
   (aK (bB eV))
   bL)
   (aK (bB (gF (ae Qf (hr.mono (by decide)) (by rfl) (aO (ak b6 (a6 0) aG (λ_ _=>rfl)) aA)) (jK (ae QX (hr.mono (by decide)) (by rfl) (aO (ak b6 (a6 0) aG (λ_ _=>rfl)) aA)))))))),?_⟩
  cases id hd with
  | tup h1 h2=>
   rename_i a xs ds;nofun;refine iz hd ?_;nofun;refine jw (by simp[J9]) ⟨_,.inr (c8.of h1),?_⟩;have hl:=h2.len;refine fV (λhn=>?_) (λhn=>?_)
   ·have e:nL (.tuple ds)=false:=by
     match ds,hl with
     | [],_=>rfl
     | [u],_=>rfl
     | [u,v],hl=>exact absurd (by rw[hl];rfl) hn
     | u::v::w::r,_=>rfl
    rw[e] at q;exact q H (aV.refl _)
   ·have hn':xs.length=2:=by
     have:(xs.length:Int)=2:=ky.mp hn;lia
    obtain⟨d,e,rfl⟩:∃d e,ds=[d,e]:=match ds,hl.symm.trans hn' with
     | [u,v],_=>⟨u,v,rfl⟩
    obtain⟨x,y,rfl,hx,hy⟩:=vg h2;have hlay:d.canLay0=true:=by
     have:(PyData.canLay0 d&&(PyData.canLay0 e&&true))=true:=pl.lay;rw[ai] at this;exact this.1
    have hdp:d.depth<=60:=by
     have:max d.depth (max e.depth 0)+1<=60:=pl.deep;lia
    refine⟨_,x,c8.of h1,rfl,x,d,rfl,hx,⟨hlay,hdp⟩,?_⟩;nofun;cases es:qy d with
    | false=>
     refine Fo ?_;have e:nL (.tuple [d,e])=false:=by show (qy d&&_)=false;rw[es];rfl
     rw[e] at q;exact q H (aV.refl _)
    | true=>
     have e:nL (.tuple [d,e])=qT e:=by show (qy d&&_)=_;rw[es];rfl
     rw[e] at q;exact Fm ⟨_,y,c8.of h1,rfl,y,_,rfl,hy,q⟩
  | _=>
   nofun;refine iz hd ?_;nofun;exact mQ (by rfl) (q H (aV.refl _))
def y0 (B:nZ mg) (E:Fn K mg "is_word" ir ["thing"]):fJ P w K mg base 1 "is_word" ir ["thing"] (pI K):=E.mk' λf fd F=>by
 refine F.okS jy (λvs H Q E h=>?_) (λcdv A outer s H vs Q E hr h=>?_)
 ·obtain⟨x,rfl,_⟩:=h;rfl
 ·obtain⟨x,rfl,h⟩:=h;refine⟨[some x,none,none],_,rfl,(L2.ig.h (aF (cA (QW.pt (iV (fD (dz (a8 jP (by rfl) B.isinstance aX (aE (a6 0) (aE (iX (v:=.ty "str") (by rfl) B.str PyProof.Rows.boot_str rfl) aA))))) (g6 (bD uW (a8 fb (by rfl) B.len aw (aE (a6 0) aA)) (oE (by rfl) B.MOST_SIGNS) (bK _)))))
   (aK (bB eV))
   bL)
   (aF (af (i:=1) jy.nd rfl (Or.inl rfl) aG)
   (aF (dH bA rfl (Em (a6 0)) (bI (i:=2) jy.nd rfl (Or.inl rfl))
   (aF (cA (bD fM (a6 2) bJ (bK _))
    (aK (zk (i:=1) jy.nd rfl (Or.inl rfl) aG Jb))
    (aK (cA (bD fM (a6 2) bJ (bK _))
     (aK (zk (i:=1) jy.nd rfl (Or.inl rfl) aG Ja))
     (aK (bB eV)))))
    (aK (cA (bD kH (a6 1) aG (bK _))
    (aK (bB eV))
    bL))))
   (aK (bB (cm fM (a6 1) aG (bK _)))))))),?_⟩
  nofun;rcases h with ⟨z,rfl,ha,hz,q⟩ | ⟨t,ty,e,q⟩
  rotate_left
  ·exact⟨x,"str",t,false,rfl,ty,e,by simpa using q⟩
  refine⟨_,_,_,true,rfl,.str z,rfl,?_⟩;nofun;refine⟨ah (aq hz),fV (λh1=>?_) (λh1=>?_)⟩
  ·have e:HG z=false:=by unfold HG;rw[WB (by lia)];rfl
   rw[e] at q;exact q
  have e40:HG z=scan z.cps.toList 0:=by unfold HG;rw[WC (by lia)];rfl
  rw[e40] at q;refine⟨ha,Fw (x:=z) (λi σ H2=>∃(wt:Int) (x2:Option V),σ=[some (.str z),some (.int wt),x2]/\H2=H/\0<=wt/\scan (z.cps.toList.drop i) wt=scan z.cps.toList 0) ⟨0,none,rfl,rfl,by decide,rfl⟩ ?_ ?_⟩
  ·rintro i c σ H2 hc ⟨wt,x2,rfl,rfl,h0,hs⟩;have hc':z.cps.toList[i]? = some c:=by simpa using hc
   obtain⟨hi,_⟩:=aH.mp hc';have hd:z.cps.toList.drop i=c::z.cps.toList.drop (i+1):=by
    rw[bX hi];congr 1
   rw[hd] at hs;nofun;simp only[BZ,zA];refine fV (λh1=>?_) (λh1=>fV (λh2=>?_) (λh2=>?_))
   ·rw[scan,Vz h1] at hs;exact fV (λh3=>absurd h3 (by lia)) (λh3=>⟨_,_,rfl,by trivial,by lia,hs⟩)
   ·rw[scan,Vy h1,Vz h2] at hs;refine fV (λh3=>?_) (λh3=>?_)
    ·rw[Vz h3] at hs;rw[<-hs] at q;exact q
    ·rw[Vy h3] at hs;exact⟨_,_,rfl,by trivial,by lia,hs⟩
   ·rw[scan,Vy h1,Vy h2] at hs;rw[<-hs] at q;exact q
  ·rintro σ H2 ⟨wt,x2,rfl,rfl,h0,hs⟩;nofun;rw[mF (by simp)] at hs;rw[<-hs] at q;exact q
def D3 {t6:Addr} (NN:OwnCls "NoWord" t6 [.type "ValueError",.type "Exception",.type "BaseException",.type "object"] "ValueError.__new__" mg base) (B:nZ mg) (E:Fn K mg "pairs" nv ["word"]) (OO:fJ P w K mg base 1 "is_word" ir ["thing"] (pI K)):k6 P w K mg base 2 "pairs" nv ["word"] (wG t6):=E.mkX λf fd F=>by
 refine F.okX nF (λvs H Q E h=>?_) (λcdv A outer s H vs Q E hr h=>?_)
 ·obtain⟨x,rfl,_⟩:=h;rfl
 ·obtain⟨x,rfl,h⟩:=h;refine⟨[some x,none,none,none,none],_,rfl,(L2.ig.h (aF (cA (jI (fD (dz (ae OO (hr.mono (by decide)) (by rfl) (aE (a6 0) aA)))))
   (aK (g9 iU NN bP rfl (by rfl) (aP bJ aA)))
   bL)
   (aF (eE (af (i:=1) nF.nd rfl (Or.inl rfl) (bn aA)))
   (aF (eE (af (i:=2) nF.nd rfl (Or.inl rfl) (bn aA)))
   (aF (eE (dH bA rfl (Cw (by rfl) B.enumerate (aE (a6 0) aA)) (jJ (n:=2) rfl (ce (bI (i:=3) nF.nd rfl (Or.inl rfl)) (ce (bI (i:=4) nF.nd rfl (Or.inl rfl)) hU)))
   (aK (cA (bD fM (a6 4) bJ (bK _))
    (aK (cO (du aQ aZ aY c6 (a6 1) (aE (a6 3) aA))))
    (aK (cO (du aQ aZ aY c6 (a6 2) (cI (bf (bx (oF aQ dc d9 qY (a6 1)) (aE (a6 3) aA))) aA))))))))
   (aK (eE (bB (a8 jA (by rfl) B.sorted dG (aE (a6 2) aA)))))))))),?_⟩
  rcases h with ⟨bs,ms,rfl,bal,hl,M,q⟩ | ⟨d,hd,ht,hw,qx⟩
  rotate_left
  ·nofun;refine qb hd ht ?_;rw[hw];nofun;exact⟨(by show 1<=sizeLine;decide),qx⟩
  nofun;refine⟨_,rfl,.inl ⟨_,rfl,pE bs,by rw[dM];lia,?_⟩⟩;rw[Do bal hl];nofun;refine⟨ac _,λwl hwl=>⟨ac _,λbl hbl=>⟨pE bs,?_⟩⟩⟩;have s1:aV H (bE H wl (.lst [])):=(aV.refl _).new hwl;have nbl:H bl=none:=s1.free hbl;have nwb:wl≠bl:=λe=>by subst e;rw[aC] at hbl;cases hbl
  refine Dy (x:=wd bs) (λi σ H2=>∃(ws:List Nat) (bw:List (Nat×Nat)) (x3 x4:Option V),σ=[some (.str (wd bs)),some (.ref wl),some (.ref bl),x3,x4]/\aV H H2/\H2 wl=some (.lst (jT ws))/\c7 H2 bl (wx bw)/\rg bs i ws bw)
   ⟨[],[],none,none,rfl,s1.new nbl,by rw[aI nwb,aC];rfl,⟨[],aC,.nil⟩,rg.start bs⟩ ?_ ?_
  ·rintro i c σ H2 p hc ⟨ws,bw,x3,x4,rfl,sm,hw,bo,S⟩ np;obtain⟨b,hb,rfl⟩:=HS hc;have hi:=(aH.mp hb).1;have hlen:=S.len;have nwp:wl≠p:=av hw np;have nHp:H p=none:=sm.free np;have hw2:∀o,(bE H2 p o) wl=some (.lst (jT ws)):=λo=>by rw[aI nwp];exact hw
   have sp:=(aV.refl H2).new (o:=.tup [.int i,.str ⟨#[AN b]⟩]) np;have bo2:=bo.same sp;nofun;refine⟨_,c8.of aC,rfl,?_⟩;nofun;simp only[uN];refine fV (λh1=>?_) (λh1=>?_)
   ·subst h1;refine⟨fP (hw2 _),_,hw2 _,by rw[Dd];exact aq (by lia),ws++[i],bw,_,_,rfl,(sm.new nHp).new hwl,?_,hZ bo2 (hw2 _) nwb.symm,S.opens hb⟩;rw[aC,qX]
   ·have hbf:b=false:=by cases b;rfl;exact absurd rfl h1
    subst hbf;obtain⟨ws',k,rfl⟩:=S.has bal hb;obtain⟨as,b1,b2⟩:=bo2;have hal:as.length=(wx bw).length:=ba b2;rw[wx,aD] at hal;have hlen':=S.len;simp only[aU,bu] at hlen';refine⟨fP b1,fP (hw2 _),_,.int k,hw2 _,BC ws' k,(by show 2<=sizeLine;decide),λt nt=>?_⟩;rw[BD] at nt ⊢;have bo3:=hZ (l:=wl) (ys:=jT ws') (show c7 _ bl (wx bw) from ⟨as,b1,b2⟩) (hw2 _) nwb.symm;obtain⟨as3,c1,c2⟩:=id bo3;have hal3:as3.length=(wx bw).length:=ba c2;rw[wx,aD] at hal3;have ntb:bl≠t:=av c1 nt;have ntw:wl≠t:=λe=>by subst e;rw[aC] at nt;cases nt
    have nHt:H t=none:=by
     have z:=((sm.new (o:=.tup [.int i,.str ⟨#[AN false]⟩]) nHp).new (o:=.lst (jT ws')) hwl).free nt;exact z
    refine⟨as3.map V.ref,by rw[aI ntb];exact c1,by rw[aD];exact aq (by lia),ws',bw++[(k,i)],_,_,rfl,(((sm.new nHp).new hwl).new nHt).new nbl,by rw[aI nwb,aI ntw,aC],?_,S.closes hb⟩;rw[wx,ar];exact B4 c1 c2 nt
  ·rintro σ H2 ⟨ws,bw,x3,x4,rfl,sm,hw,bo,S⟩;rw[E3] at S;nofun;obtain⟨as,b1,b2⟩:=id bo;have hlen:=S.len;have hbm:∀p∈wx bw,0<=p.2/\p.2<1000:=λp hp=>by
    obtain⟨x,hx,rfl⟩:=bM.mp hp;have:=(S.mate x hx).2;exact⟨by simp,by simp only;lia⟩
   refine⟨bl,as,wx bw,rfl,cW.of b1,b2,by rw[wx,aD];lia,hbm,λl' as' ps' nl' hP' hperm hsort=>?_⟩;obtain⟨ot,rfl,ho⟩:=Dh hperm;have e:ot=ms:=S.sorted bal M ho (hsort.of_map _ λa b z=>by
    unfold leB at z;simp only at z;lia)
   subst e;exact q l' _ (sm.free nl') (sm.new (sm.free nl')) (qm (l:=l') hP' nl')
def As (B:nZ mg) (E:Fn K mg "is_bow" lI ["thing"]) (Ng:fJ P w K mg base 1 "is_whole" iF ["thing"] (rT K)):fJ P w K mg base 2 "is_bow" lI ["thing"] z8:=E.mk' λf fd F=>by
 refine F.okS A9 (λvs H Q E h=>?_) (λcdv A outer s H vs Q E hr h=>?_)
 ·obtain⟨x,d,rfl,_⟩:=h;rfl
 ·obtain⟨x,d,rfl,hd,q⟩:=h;refine⟨[some x],_,rfl,(L2.ig.h (aF (cA (QW.pt (iV (fD (dz (a8 jP (by rfl) B.isinstance aX (aE (a6 0) (aE (iX (v:=.ty "tuple") (by rfl) B.tuple cK rfl) aA))))) (g6 (bD oT (a8 bR (by rfl) B.len aw (aE (a6 0) aA)) aG (bK _)))))
   (aK (bB eV))
   bL)
   (aK (bB (gF (ae Ng (hr.mono (by decide)) (by rfl) (aO (ak b6 (a6 0) aG (λ_ _=>rfl)) aA)) (gF (ae Ng (hr.mono (by decide)) (by rfl) (aO (ak b6 (a6 0) aG (λ_ _=>rfl)) aA)) (jK (cm kH (ak b6 (a6 0) aG (λ_ _=>rfl)) (ak b6 (a6 0) aG (λ_ _=>rfl)) (bK _))))))))),?_⟩
  cases hT:J9 d with
  | false=>
   nofun;refine iz hd ?_;nofun;rw[ER hT] at q;exact mQ hT q
  | true=>
   obtain⟨a,xs,ds,rfl,rfl,h1,h2⟩:=Hw hd hT;nofun;refine iz hd ?_;nofun;refine jw (λz=>nomatch z) ⟨_,.inr (c8.of h1),?_⟩;have hl:=h2.len;refine fV (λhn=>?_) (λhn=>?_)
   ·rw[yo (λz=>hn (by rw[hl,z];rfl))] at q;exact q
   ·have hn':xs.length=2:=Int.ofNat.inj (ky.mp hn);obtain⟨d,e,rfl⟩:=Ec (hl.symm.trans hn');obtain⟨x,y,rfl,hx,hy⟩:=vg h2;refine⟨_,x,c8.of h1,rfl,rq hx ?_⟩;nofun;cases ew:fy d with
    | false=>
     rw[Jn ew] at q;exact Fo q
    | true=>
     refine Fm ⟨_,y,c8.of h1,rfl,rq hy ?_⟩;nofun;cases ev:fy e with
     | false=>
      rw[Jm ev] at q;exact Fo q
     | true=>
      obtain⟨n1,rfl⟩:∃n,d=.int n:=⟨_,oY ew⟩
      obtain⟨n2,rfl⟩:∃n,e=.int n:=⟨_,oY ev⟩
      cases hx;cases hy;refine Fm ⟨_,_,c8.of h1,rfl,_,_,c8.of h1,rfl,?_⟩;nofun;exact q
def rM (B:nZ mg) (E:Fn K mg "fills_a_word" fS ["thing"]) (Qy:fJ P w K mg base 2 "is_bow" lI ["thing"] z8):fJ P w K mg base 3 "fills_a_word" fS ["thing"] zb:=E.mk' λf fd F=>by
 refine F.okS mP (λvs H Q E h=>?_) (λcdv A outer s H vs Q E hr h=>?_)
 ·obtain⟨x,d,rfl,_⟩:=h;rfl
 ·obtain⟨x,d,rfl,hd,q⟩:=h;refine⟨[some x,none],_,rfl,(L2.ig.h (aF (cA (QW.pt (iV (fD (dz (a8 jP (by rfl) B.isinstance aX (aE (a6 0) (aE (iX (v:=.ty "list") (by rfl) B.list eG rfl) aA))))) (g6 (bD uW (bF nJ aG (a8 bR (by rfl) B.len aw (aE (a6 0) aA))) (oE (by rfl) B.MOST_SIGNS) (bK _)))))
   (aK (bB eV))
   bL)
   (aF (cA (fD (dz (a8 (rF rfl) (by rfl) B.all me (jd (kF (own:=["bow"]) (ns:=[]) (caps:=[]) rfl ⟨rfl,by decide +kernel,by decide +kernel,by decide +kernel⟩ .nil (fE (a6 0)) (λC s H fp pn=>(bI (i:=0) (show List.Nodup ((["bow"]:List Str)++([]:List Str)) by decide +kernel) rfl (Or.inl rfl))) (λC s H fp pn=>jc) (λC s H fp pn=>(ae Qy (hr.mono (by decide)) (by rfl) (aE (a6 0) aA)))) aA))))
   (aK (bB eV))
   bL)
   (aF (af (i:=1) mP.nd rfl (Or.inl rfl) (bF nK (kF (own:=["bow"]) (ns:=[]) (caps:=[]) rfl ⟨rfl,by decide +kernel,by decide +kernel,by decide +kernel⟩ .nil (fE (a6 0)) (λC s H fp pn=>(bI (i:=0) (show List.Nodup ((["bow"]:List Str)++([]:List Str)) by decide +kernel) rfl (Or.inl rfl))) (λC s H fp pn=>jc) (λC s H fp pn=>(ak (pZ (K:=K) rfl) (a6 0) aG (λ_ _=>rfl)))) (kF (own:=["bow"]) (ns:=[]) (caps:=[]) rfl ⟨rfl,by decide +kernel,by decide +kernel,by decide +kernel⟩ .nil (fE (a6 0)) (λC s H fp pn=>(bI (i:=0) (show List.Nodup ((["bow"]:List Str)++([]:List Str)) by decide +kernel) rfl (Or.inl rfl))) (λC s H fp pn=>jc) (λC s H fp pn=>(ak (pZ (K:=K) rfl) (a6 0) aG (λ_ _=>rfl))))))
   (aK (bB (cm (oh (ij hr)) (a8 lO (by rfl) B.sorted dG (aE (a6 1) aA)) (cw (oX rfl) (by rfl) B.list eG (nI (cw B2 (by rfl) B.range iT (bx (a8 bR (by rfl) B.len aw (aE (a6 1) aA)) aA)) aA)) (bK _)))))))),?_⟩
  cases hL:isL d with
  | false=>
   nofun;refine xD hd ?_;nofun;rw[yp hL] at q;exact mQ hL (q H (aV.refl _))
  | true=>
   obtain⟨a,xs,ds,rfl,rfl,h1,h2⟩:=Fk hd hL;nofun;refine xD hd ?_;nofun;refine jw (by simp[isL]) ⟨_,.inl (cW.of h1),.inl ⟨by decide,by decide⟩,?_⟩;have hl:=h2.len;refine fV (λhn=>?_) (λhn=>?_)
   ·have e:kJ (.list ds)=false:=by
     show (decide (2*ds.length<=40)&&_)=false;rw[WB (by lia)];rfl
    rw[e] at q;exact q H (aV.refl _)
   ·have hn':xs.length<=20:=by lia
    have hz:xs.length<=sizeLine:=ah (aq (by lia));have hds:ds.length=xs.length:=hl.symm;have e0:kJ (.list ds)=(ds.all eO&&rD (ds.map dQ)):=by
     show (decide (2*ds.length<=40)&&_)=_;rw[WC (by lia)];rfl
    rw[e0] at q;refine⟨⟨_,cW.of h1⟩,oJ (cW.of h1) hz ((ds.map eO).map V.bl) (by simp[hds]) (λi x y Q' hx hy hq=>?_) λp1 n1=>?_⟩
    ·obtain⟨d,hd1,hd2⟩:=h2.get hx;nofun;refine⟨x,d,rfl,hd2,?_⟩;have ey:y=V.bl (eO d):=by simp[hd1] at hy;exact hy.symm
     rw[ey] at hq;exact hq
    ·have s1:aV H (bE H p1 (.lst ((ds.map eO).map V.bl))):=(aV.refl _).new n1;refine⟨p1,_,rfl,cW.of aC,_,rfl,?_⟩;have ea:(ds.map eO).all id=ds.all eO:=by rw[mG];rfl
     cases hb:ds.all eO with
     | false=>
      rw[hb] at q;exact mQ (show (ds.map eO).all id=false by rw[ea,hb]) (q _ s1)
     | true=>
      rw[hb,iA] at q;rw[cC] at hb;have hq1:=s1 _ _ h1;have two:∀{H':Hp},aV H H'->∀(i:Nat) x,xs[i]? = some x->∃t d,x=.ref t/\ds[i]? = some d/\bi H' t (dQ d):=fun {H'} sm i x hx=>by
       obtain⟨d,hd1,hd2⟩:=h2.get hx;obtain⟨t,rfl,ht⟩:=ES hd2 (hb d (bG hd1));exact⟨t,d,rfl,hd1,ht.same sm⟩
      refine jw (show ¬(ds.map eO).all id=false by rw[ea,cC.mpr hb];decide) ⟨⟨_,cW.of hq1⟩,oJ (cW.of hq1) hz (((ds.map dQ).map (·.1)).map V.int) (by simp[hds]) (λi x y Q' hx hy hq=>?_) λp2 n2=>?_⟩
      ·obtain⟨t,d,rfl,hd1,ht⟩:=two s1 i x hx;nofun;refine⟨_,_,c8.of ht,rfl,?_⟩;have ey:y=V.int (dQ d).1:=by simp[hd1] at hy;exact hy.symm
       rw[ey] at hq;exact hq
      ·have s2:=s1.new (o:=.lst (((ds.map dQ).map (·.1)).map V.int)) (s1.free n2);have hq2:=s2 _ _ h1;refine⟨⟨_,cW.of hq2⟩,oJ (cW.of hq2) hz (((ds.map dQ).map (·.2)).map V.int) (by simp[hds]) (λi x y Q' hx hy hq=>?_) λp3 n3=>?_⟩
       ·obtain⟨t,d,rfl,hd1,ht⟩:=two s2 i x hx;nofun;refine⟨_,_,c8.of ht,rfl,?_⟩;have ey:y=V.int (dQ d).2:=by simp[hd1] at hy;exact hy.symm
        rw[ey] at hq;exact hq
       ·have s3:=s2.new (o:=.lst (((ds.map dQ).map (·.2)).map V.int)) (s2.free n3);have n23:p2≠p3:=λe=>by subst e;rw[aC] at n3;cases n3
        refine⟨p2,p3,_,_,rfl,rfl,by rw[aI n23,aC],aC,by simp only[aD];exact ah (aq (by lia)),λp4 n4=>?_⟩;have ez:((ds.map dQ).map (·.1)).map V.int++((ds.map dQ).map (·.2)).map V.int=(i0 (ds.map dQ)).map V.int:=by rw[<-ar];rfl
        rw[ez];have s4:=s3.new (o:=.lst ((i0 (ds.map dQ)).map V.int)) (s3.free n4);have el:(i0 (ds.map dQ)).length=2*(ds.map dQ).length:=BQ _;have ed:(ds.map dQ).length=ds.length:=aD ..;refine⟨p4,_,rfl,cW.of aC,by lia,λl5 ms n5 hp hs=>?_⟩;have s5:=s4.new (o:=.lst (ms.map V.int)) (s4.free n5);have n45:p4≠l5:=λe=>by subst e;rw[aC] at n5;cases n5
        nofun;refine⟨_,.inl (cW.of (by rw[aI n45,aC])),λp6 n6=>⟨0,_,aC,⟨by decide,by decide,by lia,by rw[aD];lia,by rw[aD];lia⟩,λl7 n7=>?_⟩⟩;have s6:=s5.new (o:=.rng 0 (((i0 (ds.map dQ)).map V.int).length:Int)) (s5.free n6);have n56:l5≠p6:=λe=>by subst e;rw[aC] at n6;cases n6
        have n57:l5≠l7:=λe=>by subst e;rw[aI n56,aC] at n7;cases n7
        have eN:(((i0 (ds.map dQ)).map V.int).length - 0:Int).toNat=2*(ds.map dQ).length:=by rw[aD];lia
        refine xI (cW.of (by rw[aI n57,aI n56,aC])) (cW.of aC) ?_;rw[eN,wM hp hs];exact q _ (s6.new (s6.free n7))
def yY {t6:Addr} (NN:OwnCls "NoWord" t6 [.type "ValueError",.type "Exception",.type "BaseException",.type "object"] "ValueError.__new__" mg base) (B:nZ mg) (E:Fn K mg "word_of" jk ["bows"]) (O7:fJ P w K mg base 3 "fills_a_word" fS ["thing"] zb) (OP:fJ P w K mg base 1 "crossing" iG ["bows"] o7):k6 P w K mg base 4 "word_of" jk ["bows"] (uG t6):=E.mkX λf fd F=>by
 refine F.okX sN (λvs H Q E h=>?_) (λcdv A outer s H vs Q E hr h=>?_)
 ·obtain⟨x,d,rfl,_⟩:=h;rfl
 ·obtain⟨x,d,rfl,hd,qw⟩:=h;refine⟨[some x,none],_,rfl,(L2.ig.h (aF (cA (jI (fD (dz (ae O7 (hr.mono (by decide)) (by rfl) (aE (a6 0) aA)))))
   (aK (g9 iU NN bP rfl (by rfl) (aP bJ aA)))
   bL)
   (aF (cA (jI (bD vZ (ae OP (hr.mono (by decide)) (by rfl) (aE (a6 0) aA)) jL (bK _)))
   (aK (g9 iU NN bP rfl (by rfl) (aP bJ aA)))
   bL)
   (aF (eE (af (i:=1) sN.nd rfl (Or.inr rfl) (kF (own:=["bow"]) (ns:=[]) (caps:=[]) rfl ⟨rfl,by decide +kernel,by decide +kernel,by decide +kernel⟩ .nil (fE (a6 0)) (λC s H fp pn=>(bI (i:=0) (show List.Nodup ((["bow"]:List Str)++([]:List Str)) by decide +kernel) rfl (Or.inl rfl))) (λC s H fp pn=>jc) (λC s H fp pn=>(ak (pZ (K:=K) rfl) (a6 0) aG (λ_ _=>rfl))))))
   (aK (eE (bB (du lq m9 m8 zu bJ (jd (kF (own:=["end"]) (ns:=["firsts"]) (caps:=[1]) rfl ⟨rfl,by decide +kernel,by decide +kernel,by decide +kernel⟩ (.cons rfl rfl (.inl rfl) .nil) (dX (by rfl) B.range (cf (bF nJ aG (a8 bR (by rfl) B.len aw (aE (a6 0) aA))) aA)) (λC s H fp pn=>(bI (i:=0) (show List.Nodup ((["end"]:List Str)++(["firsts"]:List Str)) by decide +kernel) rfl (Or.inl rfl))) (λC s H fp pn=>jc) (λC s H fp pn=>(oC (bD (FW (K:=K) rfl (ij hr)) (a6 0) (a6 1) (by with_unfolding_all rfl)) bJ bJ))) aA))))))))),?_⟩
  nofun;refine⟨x,d,rfl,hd,λH1 s1=>?_⟩;cases hf:kJ d with
  | false=>
   have e:rj d=none:=by
    cases d<;>first | rfl | skip
    show (if kJ _&&_ then _ else none)=none;rw[hf];rfl
   nofun;have:=qw H1 s1;rw[e] at this;exact⟨(by show 1<=sizeLine;decide),this⟩
  | true=>
  obtain⟨ds,rfl⟩:∃ds,d=.list ds:=by cases d<;>first | exact⟨_,rfl⟩ | exact nomatch hf
  obtain⟨l,xs,rfl,h1,h2⟩:∃l xs,x=.ref l/\H l=some (.lst xs)/\gS H xs ds:=by cases hd with | lst h1 h2=>exact⟨_,_,rfl,h1,h2⟩
  have hb:ds.all eO=true:=by
   have z:(decide (2*ds.length<=40)&&(ds.all eO&&rD (ds.map dQ)))=true:=hf;rw[ai,ai] at z;exact z.2.1
  have hlen:2*ds.length<=40:=by
   have z:(decide (2*ds.length<=40)&&(ds.all eO&&rD (ds.map dQ)))=true:=hf;rw[ai] at z;exact WD z.1
  have bo:c7 H l (ds.map dQ):=xX h1 h2 hb;generalize hps:ds.map dQ=ps at *;have hlen:2*ps.length<=40:=by rw[<-hps,aD];exact hlen
  have bo1:=bo.same s1;have ew:rj (.list ds)=if (ps.all λp=>ps.all λq=>!bO p q)=true then some ps else none:=by
   show (if kJ (.list ds)&&(ds.map dQ).all (λp=>(ds.map dQ).all λq=>!bO p q) then some (ds.map dQ) else none)=_;rw[hf,hps];rfl
  nofun;refine⟨l,ps,rfl,bo1,λhc=>⟨trivial,?_⟩,λp hp q hq z t a b H2 nt s2 ht ta tb=>⟨trivial,?_⟩⟩
  rotate_left
  ·have:=qw H2 (s1.trans s2);rw[ew,Vy] at this
   ·skip
    exact mQ (λz=>nomatch z) ⟨(by show 1<=sizeLine;decide),this⟩
   ·intro z2;have:=cC.mp (cC.mp z2 p hp) q hq;rw[z] at this;cases this
  have q:∀H',aV H H'->Q (.str (wd (eM ps))) H':=λH' sm=>by
   have:=qw H' sm;rw[ew,Vz] at this
   ·exact this
   ·rw[cC];intro p hp;rw[cC];intro q hq;rw[hc p hp q hq];rfl
  nofun
  skip
  refine jw (λz=>z trivial) ?_;obtain⟨as,b1,bl,bg⟩:=bo1.get;have hz:(as.map V.ref).length<=sizeLine:=by rw[aD];exact ah (aq (by lia))
  refine⟨⟨_,cW.of b1⟩,oJ (cW.of b1) hz ((ps.map (·.1)).map V.int) (by simp[bl]) (λi x y Q' hx hy hq=>?_) λp2 n2=>?_⟩
  ·obtain⟨t,p,rfl,hp,ht⟩:=bg i x hx;nofun;refine⟨_,_,c8.of ht,rfl,?_⟩;have ey:y=V.int p.1:=by simp[hp] at hy;exact hy.symm
   rw[ey] at hq;exact hq
  ·have s2:=s1.new (o:=.lst ((ps.map (·.1)).map V.int)) (s1.free n2);have n12:l≠p2:=av b1 n2;have hj:JoinOk (Str.ofString "") ((eM ps).map sgn)=true:=by
    unfold JoinOk;have e:Builtin.Str.tooLong (((eM ps).map sgn).toArray.foldl (λa t=>a+t.length+(Str.ofString "").length) 0)=false:=by
     have h0:∀(bs:List Bool) (a:Nat),(bs.map sgn).foldl (λa t=>a+t.length+(Str.ofString "").length) a=a+bs.length:=by
      intro bs
      induction bs with
      | nil=>intro a;rfl
      | cons b bs ih=>
       intro a;rw[bC,mX,ih];have:(sgn b).length=1:=by show (sgn b).cps.size=1;rw[rW];rfl
       have h2:(Str.ofString "").length=0:=by rw[uz];rfl
       rw[this,h2,bq];lia
     rw[List.foldl_toArray',h0];have:(eM ps).length<=40:=by simp[eM];lia
     unfold Builtin.Str.tooLong;exact WB (by have:=aq (n:=0+(eM ps).length) (by lia);lia);simp
    rw[e];rfl
   refine⟨rfl,_,.inl (cW.of (by rw[aI n12];exact b1)),.inl ⟨by decide,by decide⟩,by rw[aD];lia,by rw[aD];lia,?_⟩;have en:(2*(as.map V.ref).length:Int).toNat=2*ps.length:=by rw[aD,bl];lia
   rw[en];refine BX (ah (aq (by lia))) (((eM ps).map sgn).map V.str) (by simp[eM]) (λi y Q' hi hy hq=>?_) λp3 n3=>?_
   ·nofun;refine Ft (ns:=ps.map (·.1)) (.inl (cW.of aC)) ?_;have ey:y=V.str (sgn (decide (((i:Nat):Int)∈ps.map (·.1)))):=by
     have e2:(((eM ps).map sgn).map V.str)[i]? = some (V.str (sgn (decide (((i:Nat):Int)∈ps.map (·.1))))):=by simp[eM,hi]
     rw[e2] at hy;exact(bZ hy).symm
    rw[ey] at hq;nofun;simp only[fH] at hq ⊢;refine fV (λz=>?_) (λz=>?_)
    ·rw[WC (by simpa using z)] at hq;exact hq
    ·rw[WB (by simpa using z)] at hq;exact hq
   ·refine⟨_,p3,_,rfl,rfl,cW.of aC,hj,?_⟩;rw[xC];exact q _ (s2.new (s2.free n3))
def tZ (E:Fn K mg "other_side" gX ["side"]):fJ P w K mg base 1 "other_side" gX ["side"] z0:=E.mk' λf fd F=>by
 refine F.okS tW (λvs H Q E h=>?_) (λcdv A outer s H vs Q E hr h=>?_)
 ·obtain⟨b,rfl,_⟩:=h;rfl
 ·obtain⟨b,rfl,q⟩:=h;refine⟨[some (.str (sd b))],_,rfl,(L2.ig.h (aK (bB (oC (bD fM (a6 0) bJ (bK _)) bJ bJ)))),?_⟩;nofun;simp only[Lo];refine fV (λh=>?_) (λh=>?_)
  ·subst h;exact q
  ·have e:b=true:=by cases b;exact absurd rfl h;rfl
   subst e;exact q
def rL (E:Fn K mg "side_of_step" fR ["maze","step"]) (PJ:fJ P w K mg base 1 "other_side" gX ["side"] z0):fJ P w K mg base 2 "side_of_step" fR ["maze","step"] wF:=E.mk' λf fd F=>by
 refine F.okS mO (λvs H Q E h=>?_) (λcdv A outer s H vs Q E hr h=>?_)
 ·obtain⟨m,o,b,ns,k,rfl,_⟩:=h;rfl
 ·obtain⟨m,o,b,ns,k,rfl,hm,q⟩:=h;refine⟨[some (.ref m),some (.int k),none],_,rfl,(L2.ig.h (aF (af (i:=2) mO.nd rfl (Or.inl rfl) (ak b6 (a6 0) aG (λ_ _=>rfl)))
   (aK (bB (oC (bD fM (bF fz (a6 1) aG) aG (bK _)) (a6 2) (ae PJ (hr.mono (by decide)) (by rfl) (aE (a6 2) aA))))))),?_⟩
  nofun;refine⟨_,_,c8.of hm.1,rfl,?_⟩;refine⟨by decide,fV (λh=>?_) (λh=>?_)⟩
  ·have e:odd k=false:=by simp[odd];lia
   rw[e,kW] at q;exact q
  ·have e:odd k=true:=by simp[odd];lia
   rw[e,Bool.xor_true] at q;exact⟨b,rfl,q⟩
def sZ (B:nZ mg) (E:Fn K mg "rows_of_way" fq ["maze"]):fJ P w K mg base 1 "rows_of_way" fq ["maze"] C2:=E.mk' λf fd F=>by
 refine F.okS nE (λvs H Q E h=>?_) (λcdv A outer s H vs Q E hr h=>?_)
 ·obtain⟨m,o,b,ns,rfl,_⟩:=h;rfl
 ·obtain⟨m,o,b,ns,rfl,hm,hl,q⟩:=h;refine⟨[some (.ref m),none],_,rfl,(L2.ig.h (aF (af (i:=1) nE.nd rfl (Or.inl rfl) (ak b6 (a6 0) aG (λ_ _=>rfl)))
   (aK (bB (bF nK (bF nK (bn (aP aG aA)) (cw qB (by rfl) B.list eG (aE (a6 1) aA))) (bn (cf (bF eF (a8 bR (by rfl) B.len aw (aE (a6 1) aA)) aG) aA))))))),?_⟩
  nofun;refine⟨_,_,c8.of hm.1,rfl,(by show 1<=sizeLine;decide),λp1 n1=>?_⟩;have s1:=(aV.refl H).new (o:=.lst [.int 0]) n1;refine⟨o,_,rfl,.inr (c8.of (s1 _ _ hm.2)),λp2 n2=>?_⟩;have s2:=s1.new (o:=.lst (ns.map V.int)) (s1.free n2);have e12:p1≠p2:=λe=>by subst e;rw[aC] at n2;cases n2
  refine⟨p1,p2,_,_,rfl,rfl,by rw[aI e12,aC],aC,ah (aq (by simp;lia)),λp3 n3=>?_⟩;have s3:=s2.new (o:=.lst ([.int 0]++ns.map V.int)) (s2.free n3);refine⟨o,_,rfl,.inr (c8.of (s3 _ _ hm.2)),(by show 1<=sizeLine;decide),λp4 n4=>?_⟩;have s4:=s3.new (o:=.lst [.int (((ns.map V.int).length:Int)+1)]) (s3.free n4);have e34:p3≠p4:=λe=>by subst e;rw[aC] at n4;cases n4
  refine⟨p3,p4,_,_,rfl,rfl,by rw[aI e34,aC],aC,ah (aq (by simp;lia)),λp5 n5=>?_⟩;have s5:=s4.new (o:=.lst ([.int 0]++ns.map V.int++[.int (((ns.map V.int).length:Int)+1)])) (s4.free n5);refine q p5 _ (s4.free n5) s5 ?_;rw[aC];simp[dI]
def yb (B:nZ mg) (E:Fn K mg "bows_of" ix ["maze"]) (O8:fJ P w K mg base 2 "side_of_step" fR ["maze","step"] wF) (Ow:fJ P w K mg base 1 "rows_of_way" fq ["maze"] C2):fJ P w K mg base 3 "bows_of" ix ["maze"] sL:=E.mk' λf fd F=>by
 refine F.okS kA (λvs H Q E h=>?_) (λcdv A outer s H vs Q E hr h=>?_)
 ·obtain⟨m,o,b,ns,rfl,_⟩:=h;rfl
 ·obtain⟨m,o,b,ns,rfl,hm,O,q⟩:=h;have hlen:=O.len;refine⟨[some (.ref m),none,none,none,none],_,rfl,(L2.ig.h (aF (af (i:=1) kA.nd rfl (Or.inl rfl) (ae Ow (hr.mono (by decide)) (by rfl) (aE (a6 0) aA)))
   (aF (af (i:=2) kA.nd rfl (Or.inl rfl) (Cz (uT bJ (bn aA) (uT bJ (bn aA) Ct)) rfl rfl (λz=>nomatch z) (by decide)))
   (aF (dH bA rfl (dX (by rfl) B.range (cf (bF qU (a8 bR (by rfl) B.len aw (aE (a6 1) aA)) aG) aA)) (bI (i:=3) kA.nd rfl (Or.inl rfl))
   (aF (af (i:=4) kA.nd rfl (Or.inl rfl) (cw jM (by rfl) B.tuple cK (bx (a8 lO (by rfl) B.sorted dG (aO (qS vG (a6 1) (pQ (a6 3)) (pQ (bF eF (a6 3) aG))) aA)) aA)))
    (aK (cO (du aQ aZ aY c6 (gM (kY hr) (a6 2) (ae O8 (hr.mono (by decide)) (by rfl) (aE (a6 0) (aE (a6 3) aA))) (λ_ _=>rfl)) (aE (a6 4) aA))))))
   (aK (bB (bf (bx (a8 jA (by rfl) B.sorted dG (aO (gM (kY hr) (a6 2) bJ (λ_ _=>rfl)) aA)) (bx (a8 jA (by rfl) B.sorted dG (aO (gM (kY hr) (a6 2) bJ (λ_ _=>rfl)) aA)) aA))))))))),?_⟩
  nofun;refine⟨m,o,b,ns,rfl,hm,by lia,λrl H1 nrl s1 hrl=>?_⟩;nofun;intro d nd;have sd1:=s1.new (o:=.dK []) (s1.free nd);refine⟨ac _,λl1 nl1=>?_⟩;have edl:d≠l1:=λe=>by subst e;rw[aC] at nl1;cases nl1
  have sl1:=sd1.new (o:=.lst []) (sd1.free nl1);refine⟨ac _,λr1 nr1=>?_⟩;have edr:d≠r1:=λe=>by subst e;rw[aI edl,aC] at nr1;cases nr1
  have elr:l1≠r1:=λe=>by subst e;rw[aC] at nr1;cases nr1
  have sr1:=sl1.new (o:=.lst []) (sl1.free nr1);refine⟨by rw[aI edr,aI edl,aC],[(.inr (Str.ofString "l"),.ref l1),(.inr (Str.ofString "r"),.ref r1)],rfl,(by show 2<=15;decide),?_⟩;have fd0:H d=none:=s1.free nd;have fl0:H l1=none:=sd1.free nl1;have fr0:H r1=none:=sl1.free nr1;have erl:rl≠d:=av hrl nd;have erl1:rl≠l1:=av (((aV.refl H1).new (o:=.dK []) nd) _ _ hrl) nl1;have erl2:rl≠r1:=av ((((aV.refl H1).new (o:=.dK []) nd).new (o:=.lst []) (((aV.refl H1).new (o:=.dK []) nd).free nl1)) _ _ hrl) nr1;generalize hkv:om [] [((.inr (Str.ofString "l"):Key),V.ref l1),(.inr (Str.ofString "r"),.ref r1)]=kvs;have kl:d6 kvs (.inr (Str.ofString "l"))=some (.ref l1):=by subst hkv;rfl
  have kr:d6 kvs (.inr (Str.ofString "r"))=some (.ref r1):=by subst hkv;rfl
  have ks:∀s:Bool,d6 kvs (.inr (sd s))=some (.ref (if s then r1 else l1)):=λs=>by cases s;exact kl;exact kr
  refine⟨_,.inl (cW.of (by rw[aI erl,aI erl2,aI erl1,aI erl];exact hrl)),by rw[aD,gZ];lia,by rw[aD,gZ];lia,?_⟩;have eN:(((dI ns).map V.int).length - 1:Int).toNat=ns.length+1:=by rw[aD,gZ];lia
  rw[eN];refine eg (n:=ns.length+1) (λi σ H2=>∃(x3 x4:Option V),σ=[some (.ref m),some (.ref rl),some (.ref d),x3,x4]/\aV H H2/\H2 rl=some (.lst ((dI ns).map V.int))/\H2 d=some (.dK kvs)/\c7 H2 l1 (aj b ns false i)/\c7 H2 r1 (aj b ns true i))
   ⟨none,none,rfl,sr1.new fd0,by rw[aI erl,aI erl2,aI erl1,aI erl];exact hrl,aC,⟨[],by rw[aI edl.symm,aI elr,aC];rfl,.nil⟩,⟨[],by rw[aI edr.symm,aC];rfl,.nil⟩⟩ ?_ ?_
  ·rintro i σ H2 hi ⟨x3,x4,rfl,sm,hrl2,hd2,bl,br⟩;nofun;refine⟨rl,_,rfl,cW.of hrl2,λp1 n1=>?_⟩;rw[GA (by lia)];have t1:=(aV.refl H2).new (o:=.lst ([bQ ns i,bQ ns (i+1)].map V.int)) n1;refine⟨p1,_,rfl,cW.of aC,(by show 2<64;decide),λp2 ms n2 hp hs=>?_⟩;rw[xm hp hs];have t2:=t1.new (o:=.lst ([min (bQ ns i) (bQ ns (i+1)),max (bQ ns i) (bQ ns (i+1))].map V.int)) (t1.free n2);refine⟨p2,_,rfl,.inl ⟨cW.of aC,λt n3=>?_⟩⟩;have t3:=t2.new (o:=.tup ([min (bQ ns i) (bQ ns (i+1)),max (bQ ns i) (bQ ns (i+1))].map V.int)) (t2.free n3);have sm3:=sm.trans t3;refine⟨m,o,b,ns,i,by simp,hm.same sm3,?_⟩;have bl3:=bl.same t3;have br3:=br.same t3;refine⟨_,.inl ⟨kvs,.inr (sd (b ^^ odd i)),.inl (t3 _ _ hd2),rfl,(ks _).symm⟩,?_⟩;have tt:bi (bE (bE (bE H2 p1 (.lst ([bQ ns i,bQ ns (i+1)].map V.int))) p2 (.lst ([min (bQ ns i) (bQ ns (i+1)),max (bQ ns i) (bQ ns (i+1))].map V.int))) t (.tup ([min (bQ ns i) (bQ ns (i+1)),max (bQ ns i) (bQ ns (i+1))].map V.int))) t (cV ns i):=aC;generalize bE (bE (bE H2 p1 (.lst ([bQ ns i,bQ ns (i+1)].map V.int))) p2 (.lst ([min (bQ ns i) (bQ ns (i+1)),max (bQ ns i) (bQ ns (i+1))].map V.int))) t (.tup ([min (bQ ns i) (bQ ns (i+1)),max (bQ ns i) (bQ ns (i+1))].map V.int))=H3 at *;cases hs:(b ^^ odd i) with
   | false=>
    have h1:bj b false i=true:=by simp[bj,hs]
    have h2:bj b true i=false:=by simp[bj,hs]
    rw[f7 h1,gK h2];obtain⟨as,b1,b2⟩:=bl3;have ha:as.length=(aj b ns false i).length:=ba b2;have:=gV b ns false i;refine⟨fP b1,l1,as.map V.ref,_,rfl,rfl,b1,by rw[aD];exact aq (by lia),_,_,rfl,sm3.new fl0,by rw[aI erl1];exact t3 _ _ hrl2,by rw[aI edl];exact t3 _ _ hd2,qk b1 b2 tt,hZ br3 b1 elr.symm⟩
   | true=>
    have h1:bj b true i=true:=by simp[bj,hs]
    have h2:bj b false i=false:=by simp[bj,hs]
    rw[f7 h1,gK h2];obtain⟨as,b1,b2⟩:=br3;have ha:as.length=(aj b ns true i).length:=ba b2;have:=gV b ns true i;refine⟨fP b1,r1,as.map V.ref,_,rfl,rfl,b1,by rw[aD];exact aq (by lia),_,_,rfl,sm3.new fr0,by rw[aI erl2];exact t3 _ _ hrl2,by rw[aI edr];exact t3 _ _ hd2,hZ bl3 b1 elr,qk b1 b2 tt⟩
  ·rintro σ H2 ⟨x3,x4,rfl,sm,hrl2,hd2,bl,br⟩;nofun;have bnd:∀s,∀p∈aj b ns s (ns.length+1),0<=p.2/\p.2<1000:=λs p hp=>by
    obtain⟨i,hi,_,rfl⟩:=dy hp;have:=O.step_in (i:=i) (by lia);have:=O.step_lt (i:=i) (by lia);lia
   obtain⟨as,b1,b2⟩:=bl;have:=gV b ns false (ns.length+1);refine⟨_,.inl ⟨kvs,.inr (Str.ofString "l"),.inl hd2,rfl,kl.symm⟩,l1,as,_,rfl,cW.of b1,b2,by lia,bnd false,λl as' L nl hP hp hs=>?_⟩;have t1:=(aV.refl H2).new (o:=.lst (as'.map V.ref)) nl;obtain⟨bs,c1,c2⟩:=br.same t1;have:=gV b ns true (ns.length+1);refine⟨_,.inl ⟨kvs,.inr (Str.ofString "r"),.inl (t1 _ _ hd2),rfl,kr.symm⟩,r1,bs,_,rfl,cW.of c1,c2,by lia,bnd true,λr bs' R nr hP2 hp2 hs2=>?_⟩;have t2:=(aV.refl (bE H2 l (.lst (as'.map V.ref)))).new (o:=.lst (bs'.map V.ref)) nr;refine⟨(by show 2<=sizeLine;decide),λt nt=>?_⟩;have t3:=(aV.refl (bE (bE H2 l (.lst (as'.map V.ref))) r (.lst (bs'.map V.ref)))).new (o:=.tup [.ref l,.ref r]) nt;have elr2:l≠r:=λe=>by subst e;rw[aC] at nr;cases nr
   refine q t l r L R _ (sm.free (t1.free (t2.free nt))) (sm.free nl) (sm.free (t1.free nr)) (((sm.trans t1).trans t2).trans t3) ⟨aC,?_,?_,⟨hp,hs⟩,⟨hp2,hs2⟩,elr2⟩
   ·exact((qm (l:=l) hP nl).same t2).same t3
   ·exact(qm (l:=r) hP2 nr).same t3
def y9 (B:nZ mg) (QP:∃a,mg "SIDES"=some (.ref a)/\∀H,c8 K H a (([("l":Str),"r"]:List Str).map V.str)) (E:Fn K mg "crossed" jr ["maze"]) (O4:fJ P w K mg base 3 "bows_of" ix ["maze"] sL) (OP:fJ P w K mg base 1 "crossing" iG ["bows"] o7):fJ P w K mg base 4 "crossed" jr ["maze"] uM:=E.mk' λf fd F=>by
 refine F.okS l8 (λvs H Q E h=>?_) (λcdv A outer s H vs Q E hr h=>?_)
 ·obtain⟨m,o,b,ns,rfl,_⟩:=h;rfl
 ·obtain⟨m,o,b,ns,rfl,hm,O,qn,qc⟩:=h;refine⟨[some (.ref m),none,none,none],_,rfl,(L2.ig.h (aF (dH bA rfl (Cv (by rfl) B.zip (aE (uU (by rfl) QP) (bx (ae O4 (hr.mono (by decide)) (by rfl) (aE (a6 0) aA)) aA))) (jJ (n:=2) rfl (ce (bI (i:=1) l8.nd rfl (Or.inl rfl)) (ce (bI (i:=2) l8.nd rfl (Or.inl rfl)) hU)))
   (aF (af (i:=3) l8.nd rfl (Or.inl rfl) (ae OP (hr.mono (by decide)) (by rfl) (aE (a6 2) aA)))
    (aK (cA (bD vZ (a6 3) jL (bK _))
    (aK (bB (bf (aE (a6 1) (aO (ak b6 (a6 3) aG (λ_ _=>rfl)) (aO (ak b6 (a6 3) aG (λ_ _=>rfl)) aA))))))
    bL))))
   (aK (bB jL)))),?_⟩
  nofun;intro a ha;refine⟨m,o,b,ns,rfl,hm,O,λt l r L R H1 nt nl nr s1 BO=>⟨a,t,rfl,⟨_,ha _⟩,⟨_,c8.of BO.tup⟩,?_⟩⟩;refine Dx (xs:=[V.str (sd false),.str (sd true)]) (ys:=[.ref l,.ref r]) (aJ _) (λi σ H'=>∃x1 x2 x3:Option V,σ=[some (.ref m),x1,x2,x3]/\aV H1 H'/\∀u:Bool,(if u then 2 else 1)<=i->∀p∈aj b ns u (ns.length+1),∀q∈aj b ns u (ns.length+1),bO p q=false)
   ⟨_,_,_,rfl,aV.refl _,λu hu=>by cases u<;>simp at hu⟩ (λi σ H' ⟨_,_,_,_,s2,_⟩=>⟨ha _,c8.of (s2 _ _ BO.tup)⟩) ?_ ?_
  ·rintro i x y σ H2 p hx hy ⟨x1,x2,x3,rfl,s2,hn⟩ np;obtain⟨u,lu,S,rfl,rfl,hBS,hS,hi⟩:∃(u:Bool) (lu:Addr) (S:List Bw),x=.str (sd u)/\y=.ref lu/\c7 H2 lu S/\tQ b ns u S/\i+1=(if u then 2 else 1):=by
    match i,hx,hy with
    | 0,hx,hy=>cases hx;cases hy;exact⟨false,l,L,rfl,rfl,BO.left.same s2,BO.isL,rfl⟩
    | 1,hx,hy=>cases hx;cases hy;exact⟨true,r,R,rfl,rfl,BO.right.same s2,BO.isR,rfl⟩
    | j+2,hx,hy=>simp at hx
   nofun;refine⟨_,c8.of aC,rfl,?_⟩;have s3:=(aV.refl H2).new (o:=.tup [.str (sd u),.ref lu]) np;nofun;refine⟨lu,S,rfl,hBS.same s3,λhc=>⟨trivial,?_⟩,λe1 h1 e2 h2 z t2 a2 b2 H3 nt2 s4 ht2 ta tb=>⟨trivial,?_⟩⟩
   ·nofun;refine jw (λz=>z trivial) ⟨_,_,_,rfl,s2.trans s3,λv hv=>?_⟩;by_cases e:v=u
    ·subst e;exact λp hp q hq=>hc p (hS.perm.mem_iff.mpr hp) q (hS.perm.mem_iff.mpr hq)
    ·refine hn v ?_;cases u<;>cases v<;>simp_all
   ·nofun;refine mQ (λz=>nomatch z) ⟨_,_,c8.of ht2,rfl,_,_,c8.of ht2,rfl,(by show 3<=sizeLine;decide),λt3 nt3=>?_⟩;have s5:=(aV.refl H3).new (o:=.tup [.str (sd u),.ref a2,.ref b2]) nt3;exact qc u e1 (hS.perm.mem_iff.mp h1) e2 (hS.perm.mem_iff.mp h2) z t3 _ ((((s1.trans s2).trans s3).trans s4).trans s5) ⟨a2,b2,aC,s5 _ _ ta,s5 _ _ tb⟩
  ·rintro σ H2 ⟨x1,x2,x3,rfl,s2,hn⟩;nofun;exact qn (λu=>hn u (by cases u<;>decide)) _ (s1.trans s2)
def s9 {R C fi:Addr} {fd:FuncData} {bmB:List Value} {B newId initId:String} (O:qr "Crossed" C fi bmB newId mg base) (F0:ExcBaseFacts B newId initId bmB) (u:MF K R initId) (hR:mg "RingError"=some (.ref R)) (k:GZ K C "bows") (F:vp K "__init__" "Crossed.__init__" ft fi fd) :
  nX P w K mg base xk 1 fi fd ["self","bows"] (z9 C "bows" Fa):=by
 refine F.okS sP (λvs H Q E h=>?_) (λcdv A outer s H vs Q E hr h=>?_)
 ·obtain⟨e,v,rfl,_⟩:=h;rfl
 ·obtain⟨e,v,rfl,ok,he,q⟩:=h;refine⟨[some (.ref e),some v],_,rfl,(L2.ig.h (aF (cO (Ad F0 O hR u (by rfl) (nI (a6 0) (nI (Eo hr bJ (a6 1)) aA)))) (aK (Cs k (a6 0) (a6 1))))),?_⟩;nofun;exact⟨by decide +kernel,ok,λz=>⟨e,_,rfl,he,he,λdx nd ne=>q dx nd ne⟩⟩
def JQ {M9 d7:Addr} (Qg:Jz P w K mg base 1 "Crossed" d7 "bows" Fa) (Qz:OwnCls "NoMaze" M9 [.type "ValueError",.type "Exception",.type "BaseException",.type "object"] "ValueError.__new__" mg base) (E:Fn K mg "vet" uR ["maze"]) (Qh:fJ P w K mg base 3 "is_maze" jo ["thing"] wK) (Qi:fJ P w K mg base 4 "crossed" jr ["maze"] uM):k6 P w K mg base 5 "vet" uR ["maze"] (C1 M9 d7):=E.mkX λf fd F=>by
 refine F.okX C9 (λvs H Q E h=>?_) (λcdv A outer s H vs Q E hr h=>?_)
 ·obtain⟨x,d,rfl,_⟩:=h;rfl
 ·obtain⟨x,d,rfl,hd,pl,h⟩:=h;refine⟨[some x,none],_,rfl,(L2.ig.h (aF (cA (jI (fD (dz (ae Qh (hr.mono (by decide)) (by rfl) (aE (a6 0) aA)))))
   (aK (g9 iU Qz bP rfl (by rfl) (aP bJ aA)))
   bL)
   (aF (eE (af (i:=1) C9.nd rfl (Or.inl rfl) (ae Qi (hr.mono (by decide)) (by rfl) (aE (a6 0) aA))))
   (aF (cA (jI (bD vZ (a6 1) jL (bK _)))
   (aK (yN Ab Qg (hr.mono (by lia)) (by rfl) (aE (a6 1) aA)))
   bL)
   (aK (eE (bB eV))))))),?_⟩
  nofun;refine⟨x,d,rfl,hd,pl,λH1 s1=>?_⟩;rcases h with ⟨hf,q⟩ | ⟨m,o,b,ns,rfl,hm,rfl,O,q,qc⟩
  ·rw[hf];nofun;exact⟨(by show 1<=sizeLine;decide),q _ s1⟩
  ·rw[JY O];nofun;refine⟨m,o,b,ns,rfl,hm.same s1,O,λnc H2 s2=>⟨trivial,?_⟩,λu p hp q' hq z t H2 s2 ct=>⟨trivial,?_⟩⟩
   ·nofun;exact jw (λz=>z trivial) (q nc _ (s1.trans s2))
   ·nofun;refine mQ (λz=>nomatch z) ⟨_,rfl,ct.ok O hp hq,λdx nd=>?_⟩;exact qc u p hp q' hq z t dx _ ((s1.trans s2).trans ((aV.refl _).new nd)) (ct.same ((aV.refl _).new nd)) aC
def va {t6:Addr} (NN:OwnCls "NoWord" t6 [.type "ValueError",.type "Exception",.type "BaseException",.type "object"] "ValueError.__new__" mg base) (B:nZ mg) (E:Fn K mg "vet_words" iQ ["left","right"]) (OO:fJ P w K mg base 1 "is_word" ir ["thing"] (pI K)):k6 P w K mg base 2 "vet_words" iQ ["left","right"] (C0 t6):=E.mkX λf fd F=>by
 refine F.okX vK (λvs H Q E h=>?_) (λcdv A outer s H vs Q E hr h=>?_)
 ·obtain⟨x,y,d,e,rfl,_⟩:=h;rfl
 ·obtain⟨x,y,d,e,rfl,hd,td,he,te,h⟩:=h;refine⟨[some x,some y],_,rfl,(L2.ig.h (aF (cA (jI (QW.pt (iV (fD (dz (ae OO (hr.mono (by decide)) (by rfl) (aE (a6 0) aA)))) (g6 (fD (dz (ae OO (hr.mono (by decide)) (by rfl) (aE (a6 1) aA))))))))
   (aK (g9 iU NN bP rfl (by rfl) (aP bJ aA)))
   bL)
   (aF (cA (jI (bD oT (a8 fb (by rfl) B.len aw (aE (a6 0) aA)) (a8 fb (by rfl) B.len aw (aE (a6 1) aA)) (bK _)))
   (aK (g9 iU NN bP rfl (by rfl) (aP bJ aA)))
   bL)
   (aK (eE (bB eV)))))),?_⟩
  nofun;refine qb hd td ?_;nofun;cases h1:lg d with
  | false=>
   have e1:rJ d e=false:=by unfold rJ;rw[h1];rfl
   rcases h with ⟨z,_⟩ | ⟨_,q⟩
   ·rw[e1] at z;cases z
   ·exact mQ rfl ⟨(by show 1<=sizeLine;decide),q⟩
  | true=>
  refine jw (λz=>nomatch z) (qb he te ?_);nofun;cases h2:lg e with
  | false=>
   have e1:rJ d e=false:=by unfold rJ;rw[h1,h2];rfl
   rcases h with ⟨z,_⟩ | ⟨_,q⟩
   ·rw[e1] at z;cases z
   ·exact mQ rfl ⟨(by show 1<=sizeLine;decide),q⟩
  | true=>
  refine jw (λz=>nomatch z) ?_;obtain⟨z1,rfl⟩:∃z,d=.str z:=by cases d<;>first | exact⟨_,rfl⟩ | exact nomatch h1
  obtain⟨z2,rfl⟩:∃z,e=.str z:=by cases e<;>first | exact⟨_,rfl⟩ | exact nomatch h2
  cases hd;cases he;have l1:z1.length<=sizeLine:=ah (aq td.2);have l2:z2.length<=sizeLine:=ah (aq te.2);have et:rJ (.str z1) (.str z2)=decide (z1.length=z2.length):=by unfold rJ;rw[h1,h2];rfl
  rw[et] at h;nofun;refine⟨l1,l2,fV (λhn=>?_) (λhn=>?_)⟩
  ·rcases h with ⟨z,_⟩ | ⟨_,q⟩
   ·exact absurd (WD z) (by lia)
   ·exact⟨(by show 1<=sizeLine;decide),q⟩
  ·rcases h with ⟨_,q⟩ | ⟨z,_⟩
   ·exact q
   ·exact absurd (of_decide_eq_false z) (by lia)
def wn {t6:Addr} (E:Fn K mg "partners" iq ["word"]) (Ra:k6 P w K mg base 2 "pairs" nv ["word"] (wG t6)):fJ P w K mg base 3 "partners" iq ["word"] l6:=E.mk' λf fd F=>by
 refine F.okS ka (λvs H Q E h=>?_) (λcdv A outer s H vs Q E hr h=>?_)
 ·obtain⟨bs,rfl,_⟩:=h;rfl
 ·obtain⟨bs,rfl,bal,hl,q⟩:=h;refine⟨[some (.str (wd bs)),none,none,none],_,rfl,(L2.ig.h (aF (af (i:=1) ka.nd rfl (Or.inl rfl) jv)
   (aF (dH bA rfl (fE (lK Ra (hr.mono (by decide)) (by rfl) (aE (a6 0) aA))) (jJ (n:=2) rfl (ce (bI (i:=2) ka.nd rfl (Or.inl rfl)) (ce (bI (i:=3) ka.nd rfl (Or.inl rfl)) hU)))
   (aF (iW (kY hr) (a6 1) (a6 2) (a6 3) rfl)
    (aK (iW (kY hr) (a6 1) (a6 3) (a6 2) rfl))))
   (aK (bB (a6 1)))))),?_⟩
  obtain⟨ms,M⟩:=pV bal bs.length (aJ _);have hml:=M.count bal;nofun;intro d nd;have s0:=(aV.refl H).new (o:=.dK []) nd;refine⟨_,rfl,.inl ⟨bs,ms,rfl,bal,hl,M,λl H1 nl s1 bo=>?_⟩⟩;have ndl:d≠l:=λe=>by subst e;rw[aC] at nl;cases nl
  obtain⟨as,b1,bl,bg⟩:=bo.get;refine⟨l,rfl,⟨_,cW.of b1⟩,?_⟩;refine iZ (xs:=as.map V.ref) (λi σ H2=>∃(kvs:HP) (x2 x3:Option V),σ=[some (.str (wd bs)),some (.ref d),x2,x3]/\aV H H2/\H2 d=some (.dK kvs)/\(∀b o,H1 b=some o->b≠d->H2 b=some o)/\kvs.length<=2*i/\∀p∈ms.take i,d6 kvs (.inl (p.1:Int))=some (.int (p.2:Nat))/\d6 kvs (.inl (p.2:Int))=some (.int (p.1:Nat)))
   ⟨[],_,_,rfl,s0.trans s1,s1 _ _ aC,λb o h _=>h,ac _,λp hp=>by simp at hp⟩ (λi σ H2 _ ⟨_,_,_,_,_,_,kp,_⟩=>cW.of (kp _ _ b1 ndl.symm)) ?_ ?_
  ·rintro i x σ H2 hx ⟨kvs,x2,x3,rfl,sm,hd,kp,hk,hv⟩;obtain⟨t,p,rfl,hp,ht⟩:=bg i x hx;obtain⟨⟨a,b⟩,hm,rfl⟩:∃q:Nat×Nat,ms[i]? = some q/\p=((q.1:Int),(q.2:Int)):=by
    unfold wx at hp;rw[bW] at hp;cases e:ms[i]? with
    | none=>rw[e] at hp;cases hp
    | some q=>rw[e] at hp;exact⟨q,rfl,(bZ hp).symm⟩
   have hi:i<ms.length:=(aH.mp hm).1;have ntd:t≠d:=λz=>by
    subst z;have:=s1 _ _ (L2.aC (H:=H) (a:=t) (o:=.dK []));rw[ht] at this;cases this
   have l1:kvs.length<sizeLine:=aq (by lia);have hS2:=dP kvs (.inl (a:Int):Key) (.int (b:Nat));have hS3:=dP (putK kvs (.inl (a:Int):Key) (.int (b:Nat))) (.inl (b:Int):Key) (.int (a:Nat));have l2:(putK kvs (.inl (a:Int):Key) (.int (b:Nat))).length<sizeLine:=aq (by lia);have ht2:=kp _ _ ht ntd;refine⟨t,_,rfl,c8.of ht2,rfl,?_⟩;nofun;refine⟨_,qK.k (k:=.inl (a:Int)) hd l1,_,qK.k (k:=.inl (b:Int)) aC l2,_,_,_,rfl,(sm.new nd).new nd,aC,λc o h hc=>by rw[aI hc,aI hc];exact kp c o h hc,by lia,λp hp=>?_⟩;have hab:=(M.mate _ (bG hm)).1;have val:∀x y,Pr bs x y->(x=a\/x=b\/d6 kvs (.inl (x:Int))=some (.int (y:Nat)))->d6 (putK (putK kvs (.inl (a:Int):Key) (.int (b:Nat))) (.inl (b:Int):Key) (.int (a:Nat))) (.inl (x:Int))=some (.int (y:Nat)):=λx y hxy hx=>by
    rw[fQ,fQ];by_cases c1:x=b
    ·subst c1;have e:a=y:=(Pr.symm (.inl hab)).uniq hxy;rw[Vz rfl,e]
    ·rw[Vy (λz=>c1 (by cases z;rfl))];by_cases c2:x=a
     ·subst c2;have e:b=y:=Pr.uniq (.inl hab) hxy;rw[Vz rfl,e]
     ·rw[Vy (λz=>c2 (by cases z;rfl))];rcases hx with h | h | h
      ·exact absurd h c2
      ·exact absurd h c1
      ·exact h
   rw[bV,hm] at hp;rcases a9.mp hp with hp | hp
   ·have hmp:=(M.mate _ (List.mem_of_mem_take hp)).1;exact⟨val _ _ (.inl hmp) (.inr (.inr (hv p hp).1)),val _ _ (.inr hmp) (.inr (.inr (hv p hp).2))⟩
   ·have e:p=(a,b):=by simpa using hp
    subst e;exact⟨val _ _ (.inl hab) (.inl rfl),val _ _ (.inr hab) (.inr (.inl rfl))⟩
  ·rintro σ H2 ⟨kvs,x2,x3,rfl,sm,hd,kp,hk,hv⟩;rw[aD,bl,wx,aD,cB] at hv;nofun;refine q d kvs H2 nd sm hd λx hx=>?_;rcases su bal hx with hm | hm
   ·obtain⟨m,hmm⟩:=M.all x hx hm.op;have e:=(M.mate _ hmm).1.uniq hm;have:=(hv _ hmm).1;rw[e] at this;exact this
   ·have h1:=jh hm.lt hm.ml;obtain⟨m,hmm⟩:=M.all _ h1 hm.op;have e:m=x:=(M.mate _ hmm).1.uniq hm;have:=(hv _ hmm).2;rw[e] at this;exact this
def tY (E:Fn K mg "round_from" gW ["end","lefts","rights"]):fJ P w K mg base 1 "round_from" gW ["end","lefts","rights"] zZ:=E.mk' λf fd F=>by
 refine F.okS gz (λvs H Q E h=>?_) (λcdv A outer s H vs Q E hr h=>?_)
 ·obtain⟨e,d1,d2,k1,k2,n,L,R,rfl,_⟩:=h;rfl
 ·obtain⟨e,d1,d2,k1,k2,n,L,R,rfl,hd1,hd2,hL,hR,PL,PR,n40,he,q⟩:=h;refine⟨[some (.int e),some (.ref d1),some (.ref d2),none,none,none],_,rfl,(L2.ig.h (aF (af (i:=3) gz.nd rfl (Or.inl rfl) (bn aA))
   (aF (af (i:=4) gz.nd rfl (Or.inl rfl) (a6 0))
   (aF (oB bA (QW.pt (iV (fD (Ac (a6 3) (λ_=>rfl))) (g6 (bD oT (a6 4) (a6 0) (bK _)))))
   (aF (af (i:=5) gz.nd rfl (Or.inl rfl) (gM (kY hr) (a6 1) (a6 4) (λ_ _=>rfl)))
    (aF (cO (du aQ aZ aY c6 (a6 3) (aE (a6 4) aA)))
    (aF (cO (du aQ aZ aY c6 (a6 3) (aE (a6 5) aA)))
    (aK (af (i:=4) gz.nd rfl (Or.inl rfl) (gM (kY hr) (a6 2) (a6 5) (λ_ _=>rfl))))))))
   (aK (bB (a6 3))))))),?_⟩
  nofun;refine⟨ac _,λl nl=>?_⟩;have nl1:l≠d1:=(av hd1 nl).symm;have nl2:l≠d2:=(av hd2 nl).symm;refine⟨λm σ H2=>∃(i:Nat) (x5:Option V),σ=[some (.int e),some (.ref d1),some (.ref d2),some (.ref l),some (.int (gq L R e i:Nat)),x5]/\aV H H2/\H2 l=some (.lst (hV (my L R e i)))/\Inj L R e i/\m=n-i,⟨_,0,_,rfl,(aV.refl H).new nl,aC,λj k hj=>by lia,rfl⟩,?_⟩;rintro m σ H2 ⟨i,x5,rfl,sm,hl,J,rfl⟩;nofun;have hle:=J.le PL PR he;have lt:=p8 (R:=R) PL PR he i;have hrl:(my L R e i).length=2*i:=vQ i;refine⟨!(hV (my L R e i)).isEmpty,.inl ⟨_,cW.of hl,rfl⟩,fV (λh0=>?_) (λh0=>fV (λhne=>?_) (λhne=>?_))⟩
  rotate_left 2
  ·have hi:0<i:=by
    cases i with
    | zero=>exact absurd rfl h0
    | succ i=>lia
   have hc:gq L R e i=e:=by lia
   exact q l _ H2 nl sm hl (Cj PL PR he J n40 hi hc)
  case' refine_1=>have hc:i=0\/gq L R e i≠e:=.inl (by
   cases i with
   | zero=>rfl
   | succ i=>rw[my] at h0;simp[hV] at h0)
  case' refine_2=>have hc:i=0\/gq L R e i≠e:=.inr (by lia)
  all_goals
   have J2:=J.next PL PR he hc;have hle2:=J2.le PL PR he;have g1:=j6.k (k:=.inl ((gq L R e i:Nat):Int)) (sm _ _ hd1);rw[hL _ lt] at g1;have g2:∀o,j6 (bE (bE H2 l (.lst (hV (my L R e i)++[V.int (gq L R e i:Nat)]))) l o) d2 (.int (L (gq L R e i):Nat)) (some (.int (R (L (gq L R e i)):Nat))):=λo=>by
    have:=j6.k (k:=.inl ((L (gq L R e i):Nat):Int)) (show (bE (bE H2 l (.lst (hV (my L R e i)++[V.int (gq L R e i:Nat)]))) l o) d2=some (.dK k2) by rw[aI nl2.symm,aI nl2.symm];exact sm _ _ hd2);rw[hR _ (PL.lt _ lt)] at this;exact this
   refine⟨_,λ_ _ z=>z,_,g1,fP hl,_,hl,aq (by simp[hV];lia),fP aC,_,aC,aq (by simp[hV];lia),_,g2 _,n-(i+1),by lia,i+1,_,rfl,(sm.new nl).new nl,?_,J2,rfl⟩;rw[aC,my];simp[hV]
def Ap {t6:Addr} (B:nZ mg) (E:Fn K mg "rounds" lF ["left","right"]) (Pp:k6 P w K mg base 2 "vet_words" iQ ["left","right"] (C0 t6)) (PK:fJ P w K mg base 3 "partners" iq ["word"] l6) (PM:fJ P w K mg base 1 "round_from" gW ["end","lefts","rights"] zZ):k6 P w K mg base 4 "rounds" lF ["left","right"] (uI t6):=E.mkX λf fd F=>by
 refine F.okX iO (λvs H Q E h=>?_) (λcdv A outer s H vs Q E hr h=>?_)
 ·obtain⟨x,y,d,e,rfl,_⟩:=h;rfl
 ·obtain⟨x,y,d,e,rfl,hd,td,he,te,h⟩:=h;refine⟨[some x,some y,none,none,none,none,none,none,none],_,rfl,(L2.ig.h (aF (cO (og Pp (hr.mono (by decide)) (by rfl) (aE (a6 0) (aE (a6 1) aA))))
   (aF (eE (af (i:=2) iO.nd rfl (Or.inl rfl) (ae PK (hr.mono (by decide)) (by rfl) (aE (a6 0) aA))))
   (aF (eE (af (i:=3) iO.nd rfl (Or.inl rfl) (ae PK (hr.mono (by decide)) (by rfl) (aE (a6 1) aA))))
   (aF (eE (af (i:=4) iO.nd rfl (Or.inl rfl) (bn aA)))
   (aF (eE (af (i:=5) iO.nd rfl (Or.inl rfl) jv))
   (aF (eE (dH bA rfl (dX (by rfl) B.range (bx (a8 fb (by rfl) B.len aw (aE (a6 0) aA)) aA)) (bI (i:=6) iO.nd rfl (Or.inl rfl))
   (aK (cA (sV (kY hr) (a6 6) (a6 5))
    (aF (af (i:=7) iO.nd rfl (Or.inl rfl) (ae PM (hr.mono (by decide)) (by rfl) (aE (a6 6) (aE (a6 2) (aE (a6 3) aA)))))
     (aF (cO (du aQ aZ aY c6 (a6 4) (aE (a6 7) aA)))
     (aK (dH bA rfl (fE (a6 7)) (bI (i:=8) iO.nd rfl (Or.inl rfl))
     (aK (iW (kY hr) (a6 5) (a6 8) eV rfl))))))
    bL))))
   (aK (eE (bB (a6 4))))))))))),?_⟩
  nofun;refine⟨x,y,d,e,rfl,hd,td,he,te,?_⟩;rcases h with ⟨bs,cs,rfl,rfl,T,q⟩ | h
  rotate_left
  ·exact .inr h
  refine .inl ⟨Ht T.bal T.balR T.len T.eq,?_⟩;cases hd;cases he;have hz:(wd bs).length<=sizeLine:=by rw[dM];exact ah (aq (by have:=T.len;lia))
  have hlen:=T.len;nofun;refine⟨bs,rfl,T.bal,T.len,λd1 k1 H1 n1 s1 h1 dc1=>?_⟩;refine⟨cs,rfl,T.balR,by rw[T.eq];exact T.len,λd2 k2 H2 n2 s2 h2 dc2=>?_⟩;nofun;refine⟨ac _,λl nl m nm=>?_⟩;have nlm:l≠m:=λz=>by subst z;rw[aC] at nm;cases nm
  have PL:=rY T.bal;have PR:=rY T.balR;rw[T.eq] at dc2 PR;have sHb:aV H H2:=s1.trans s2;have nlb:H2 l=none:=nl;have nmb:H2 m=none:=by rw[aI nlm.symm] at nm;exact nm
  have sz:∀k:Nat,k<=4000->k<sizeLine:=λk hk=>iI hk (by decide);have en:((wd bs).length:Int).toNat=bs.length:=by rw[dM];lia
  have hd1:=s2 _ _ h1;refine⟨hz,by lia,by rw[dM];lia,?_⟩;rw[en];refine eg (n:=bs.length) (λi σ H'=>∃(ws:List V) (kvs:HP) (x6 x7 x8:Option V),σ=[some (.str (wd bs)),some (.str (wd cs)),some (.ref d1),some (.ref d2),some (.ref l),some (.ref m),x6,x7,x8]/\aV H2 H'/\H' l=some (.lst ws)/\H' m=some (.dK kvs)/\rQ H' (λa=>H2 a=none/\a≠l/\a≠m) ws (rsF (mtF bs) (mtF cs) i)/\kvs.length<=80*i/\Bb bs.length (mtF bs) (mtF cs) i (rsF (mtF bs) (mtF cs) i) (λx=>(d6 kvs (.inl (x:Int))).isSome=true)/\∀r∈rsF (mtF bs) (mtF cs) i,r.length<=80)
   ⟨[],[],_,_,_,rfl,((aV.refl H2).new nlb).new nmb,by rw[aI nlm,aC],aC,.nil,ac _,?_,λr hr=>by cases hr⟩ ?_ ?_
  ·have:=Bb.start (n:=bs.length) (L:=mtF bs) (R:=mtF cs);refine⟨this.rn,λx=>Iff.intro (λh=>nomatch h) (λh=>?_),λx h=>by lia,this.len⟩;obtain⟨r,hr,_⟩:=h;cases hr
  ·rintro i σ H' hi ⟨ws,kvs,x6,x7,x8,rfl,sm,hl,hm,rf,hk,RI,h80⟩;have hrl:=RI.len;have hwl:=rf.len;nofun;rw[fH];refine⟨_,j6.k (k:=.inl (i:Int)) hm,?_⟩;nofun;by_cases hmi:(d6 kvs (.inl (i:Int))).isSome=true
   ·rw[hmi];have sk:=sR ((RI.mt i).mp hmi);rw[sk];exact jw (λz=>nomatch z) ⟨ws,kvs,_,_,_,rfl,sm,hl,hm,rf,by lia,RI.skip hmi,h80⟩
   ·have hmf:(d6 kvs (.inl (i:Int))).isSome=false:=by cases e:(d6 kvs (.inl (i:Int))).isSome<;>first | rfl | exact absurd e hmi
    rw[hmf];refine mQ rfl ⟨i,d1,d2,k1,k2,bs.length,mtF bs,mtF cs,rfl,sm _ _ hd1,sm _ _ h2,dc1,dc2,PL,PR,hlen,hi,λr rl H3 nr s3 hr3 X=>?_⟩;nofun;have nrl:r≠l:=av hl nr |>.symm
    have nrm:r≠m:=av hm nr |>.symm
    have RI2:=RI.add PL PR hmi X;have ad:=vM (L:=mtF bs) (R:=mtF cs) (i:=i) (λz=>hmi ((RI.mt i).mpr z));have eX:=X.is;rw[ad];have rf3:rQ (bE H3 l (.lst (ws++[.ref r]))) (λa=>H2 a=none/\a≠l/\a≠m) (ws++[.ref r]) (rsF (mtF bs) (mtF cs) i++[rl]):=gN (rf.imp λa o ⟨p1,p2,p3⟩ ha=>⟨by rw[aI p2];exact s3 _ _ ha,p1,p2,p3⟩) ⟨r,rfl,by rw[aI nrl];exact hr3,sm.free nr,nrl,nrm⟩;refine⟨fP (s3 _ _ hl),_,s3 _ _ hl,sz _ (by lia),⟨_,cW.of (show bE H3 l (.lst (ws++[.ref r])) r=some (.lst (hV rl)) by rw[aI nrl];exact hr3)⟩,?_⟩;have hXl:=X.len;refine iZ (xs:=hV rl) (λj σ H4=>∃(kv4:HP) (x8:Option V),σ=[some (.str (wd bs)),some (.str (wd cs)),some (.ref d1),some (.ref d2),some (.ref l),some (.ref m),some (.int i),some (.ref r),x8]/\aV H2 H4/\H4 l=some (.lst (ws++[.ref r]))/\H4 r=some (.lst (hV rl))/\rQ H4 (λa=>H2 a=none/\a≠l/\a≠m) (ws++[.ref r]) (rsF (mtF bs) (mtF cs) i++[rl])/\H4 m=some (.dK kv4)/\kv4.length<=kvs.length+j/\∀x:Nat,((d6 kv4 (.inl (x:Int))).isSome=true<->((d6 kvs (.inl (x:Int))).isSome=true\/x∈rl.take j)))
     ⟨kvs,_,rfl,(sm.trans s3).new nlb,aC,by rw[aI nrl];exact hr3,rf3,by rw[aI nlm.symm];exact s3 _ _ hm,by lia,λx=>by simp⟩ (λj σ H4 _ ⟨_,_,_,_,_,h,_⟩=>cW.of h) ?_ ?_
    ·rintro j x σ H4 hx ⟨kv4,x8,rfl,s4,hl4,hr4,rf4,hm4,hk4,hv4⟩;unfold hV at hx;obtain⟨y,hy,rfl⟩:=rZ hx;have hj:j<rl.length:=(aH.mp hy).1;have hS:=dP kv4 (.inl (y:Int):Key) (.bl true);nofun;refine⟨_,qK.k (k:=.inl (y:Int)) hm4 (sz _ (by lia)),_,_,rfl,s4.new nmb,by rw[aI nlm];exact hl4,by rw[aI nrm];exact hr4,rf4.imp (λa o ⟨p1,p2,p3⟩ ha=>⟨by rw[aI p3];exact ha,p1,p2,p3⟩),aC,by lia,λx=>?_⟩;rw[fQ,bV,hy,a9];by_cases c:x=y
     ·subst c;rw[Vz rfl];simp
     ·rw[Vy (λz=>c (by cases z;rfl)),hv4 x];simp[c]
    ·rintro σ H4 ⟨kv4,x8,rfl,s4,hl4,hr4,rf4,hm4,hk4,hv4⟩;have enl:(hV rl).length=rl.length:=by simp[hV]
     rw[enl] at hk4 hv4;rw[cB] at hv4;rw[<-eX];refine⟨_,kv4,_,_,_,rfl,s4,hl4,hm4,rf4,by lia,⟨RI2.rn,λx=>?_,λx hx=>?_,RI2.len⟩,λq hq=>?_⟩
     ·rw[hv4 x];exact RI2.mt x
     ·rw[hv4 x];exact RI2.upto x hx
     ·rcases a9.mp hq with z | z
      ·exact h80 q z
      ·rw[bc] at z;subst z;exact hXl
  ·rintro σ H' ⟨ws,kvs,x6,x7,x8,rfl,sm,hl,hm,rf,hk,RI,h80⟩;nofun;exact q l ws H' (sHb.free nlb) (sHb.trans sm) hl (rf.imp λa o ⟨p1,p2,p3⟩ ha=>⟨ha,sHb.free p1,p2⟩) (cH RI.len hlen) h80
def m5 (B:nZ mg) (E:Fn K mg "middle_put_outside" dN ["bows","middle"]):fJ P w K mg base 1 "middle_put_outside" dN ["bows","middle"] Gq:=E.mk' λf fd F=>by
 refine F.okS mZ (λvs H Q E h=>?_) (λcdv A outer s H vs Q E hr h=>?_)
 ·obtain⟨l,ps,n,rfl,_⟩:=h;rfl
 ·obtain⟨l,ps,n,rfl,hb,hl,q⟩:=h;have two:(2:Nat)<=sizeLine:=by decide
  refine⟨[some (.ref l),some (.int n)],_,rfl,(L2.ig.h (aK (bB (kF (own:=["bow"]) (ns:=["middle"]) (caps:=[1]) rfl ⟨rfl,by decide +kernel,by decide +kernel,by decide +kernel⟩ (.cons rfl rfl (.inl rfl) .nil) (fE (a6 0)) (λC s H fp pn=>(bI (i:=0) (show List.Nodup ((["bow"]:List Str)++(["middle"]:List Str)) by decide +kernel) rfl (Or.inl rfl))) (λC s H fp pn=>jc) (λC s H fp pn=>(oC (bD fM (ak (pZ (K:=K) rfl) (a6 0) aG (λ_ _=>rfl)) (a6 1) (bK _)) (bf (aP aG (aO (ak (pZ (K:=K) rfl) (a6 0) aG (λ_ _=>rfl)) aA))) (a6 0))))))),?_⟩;obtain⟨as,b1,bl,bg⟩:=hb.get;nofun;refine⟨⟨_,cW.of b1⟩,BY (xs:=as.map V.ref) (λi ys σ H3=>aV H H3/\(∃ts,ys=ts.map V.ref/\Paired (bi H3) ts ((ps.take i).map (pq n)))/\ys.length=i/\∃xa:Option V,σ=[xa,some (.int n)]) ⟨aV.refl _,⟨[],rfl,.nil⟩,rfl,_,rfl⟩ ?_ (by rw[aD];exact ah (aq (by lia))) ?_ ?_⟩
  ·rintro i ys σ H3 ⟨sm3,_,e,_⟩;exact⟨cW.of (sm3 _ _ b1),by lia⟩
  ·rintro i x ys σ H3 N hx ⟨sm3,⟨ts,rfl,pr3⟩,el,xa,rfl⟩ hN;obtain⟨t,y,rfl,hy,ht⟩:=bg i x hx;have ht':=ht.same sm3;nofun;have tk:ps.take (i+1)=ps.take i++[y]:=by rw[bV,hy];rfl
   refine⟨_,_,c8.of ht',rfl,?_⟩;nofun;refine fV (λe=>?_) (λe=>?_)
   ·refine⟨_,_,c8.of ht',rfl,two,λt2 nt2=>hN _ _ _ ⟨sm3.new (sm3.free nt2),⟨ts++[t2],by simp,?_⟩,by simp at el ⊢;lia,_,rfl⟩⟩;rw[tk,ar];refine gN (Paired.mapP pr3 λa p z=>bi.same ((aV.refl _).new nt2) z) ?_;show bi _ _ (pq n y);unfold pq;rw[Vz (by simpa using e)];exact aC
   ·refine hN _ _ _ ⟨sm3,⟨ts++[t],by simp,?_⟩,by simp at el ⊢;lia,_,rfl⟩;rw[tk,ar];refine gN pr3 ?_;show bi _ _ (pq n y);unfold pq;rw[Vy (by simpa using e)];exact ht'
  ·rintro ys σ H3 pn ⟨sm3,⟨ts,rfl,pr3⟩,el,xa,rfl⟩ npn;rw[aD,bl,cB] at pr3;have sn:=(aV.refl H3).new (o:=.lst (ts.map V.ref)) npn;exact q pn _ (sm3.free npn) (sm3.trans sn) ⟨ts,aC,Paired.mapP pr3 λa p z=>bi.same sn z⟩
def Av {M9 d7 p7 t6:Addr} (OQ:OwnCls "NoRound" p7 [.type "ValueError",.type "Exception",.type "BaseException",.type "object"] "ValueError.__new__" mg base) (B:nZ mg) (E:Fn K mg "closed" kD ["maze"]) (U9:k6 P w K mg base 5 "vet" uR ["maze"] (C1 M9 d7)) (O4:fJ P w K mg base 3 "bows_of" ix ["maze"] sL) (NO:fJ P w K mg base 1 "middle_put_outside" dN ["bows","middle"] Gq) (QQ:k6 P w K mg base 4 "word_of" jk ["bows"] (uG t6)):k6 P w K mg base 6 "closed" kD ["maze"] (sJ M9 d7 p7):=E.mkX λf fd F=>by
 refine F.okX qO (λvs H Q E h=>?_) (λcdv A outer s H vs Q E hr h=>?_)
 ·obtain⟨x,d,rfl,_⟩:=h;rfl
 ·obtain⟨x,d,rfl,hd,pl,h⟩:=h;have two:(2:Nat)<=sizeLine:=by decide
  refine⟨[some x,none,none],_,rfl,(L2.ig.h (aF (cO (og U9 (hr.mono (by decide)) (by rfl) (aE (a6 0) aA)))
   (aF (eE (af (i:=1) qO.nd rfl (Or.inr rfl) (a8 bR (by rfl) B.len aw (aO (ak b6 (a6 0) aG (λ_ _=>rfl)) aA))))
   (aF (cA (jI (bD fM (bF fz (a6 1) aG) aG (bK _)))
   (aK (g9 iU OQ bP rfl (by rfl) (aP bJ aA)))
   bL)
   (aF (eE (wZ (i:=2) qO.nd rfl (Or.inl rfl) (own:=["side_bows"]) (ns:=["rings"]) (caps:=[1]) rfl ⟨rfl,by decide +kernel,by decide +kernel,by decide +kernel⟩ (.cons rfl rfl (.inl rfl) .nil) (zl (ae O4 (hr.mono (by decide)) (by rfl) (aE (a6 0) aA))) (λC s H fp pn=>(bI (i:=0) (show List.Nodup ((["side_bows"]:List Str)++(["rings"]:List Str)) by decide +kernel) rfl (Or.inl rfl))) (λC s H fp pn=>jc) (λC s H fp pn=>(ae NO (hr.mono (by decide)) (by rfl) (aE (a6 0) (cf (bF eF (a6 1) aG) aA))))))
   (aK (eE (bB (bf (bx (lK QQ (hr.mono (by decide)) (by rfl) (aO (ak cP (a6 2) aG (λ_ _=>rfl)) aA)) (bx (lK QQ (hr.mono (by decide)) (by rfl) (aO (ak cP (a6 2) aG (λ_ _=>rfl)) aA)) aA))))))))))),?_⟩
  nofun;refine⟨x,d,rfl,hd,pl,?_⟩;rcases h with ⟨hf,q⟩ | ⟨m,o,b,ns,rfl,hm,rfl,O,qe,qo,qc⟩
  ·exact .inl ⟨hf,q⟩
  refine .inr ⟨m,o,b,ns,rfl,hm,rfl,O,λnc H1 s1=>?_,qc⟩;have hm1:=hm.same s1;nofun;refine⟨_,_,c8.of hm1.1,rfl,o,_,rfl,.inr (c8.of hm1.2),by decide,?_⟩;rw[aD];have nlen:=O.len;refine fV (λe=>⟨(by show 1<=sizeLine;decide),qe nc (by lia) _ s1⟩) (λe=>?_);obtain⟨k,hk⟩:∃k,ns.length+1=2*k:=⟨(ns.length+1) / 2,by lia⟩
  have qo:=qo nc k hk;refine⟨m,o,b,ns,rfl,hm1,O,λt l r L R H2 nt nl nr s2 BO=>⟨t,rfl,⟨_,c8.of BO.tup⟩,?_⟩⟩;have lL:=BO.isL.len O;have lR:=BO.isR.len O;refine EI (xs:=[V.ref l,.ref r]) (λi ys σ H3=>aV H2 H3/\(∃as,ys=as.map V.ref/\Paired (λa T=>c7 H3 a (T.map (pq ((ns.length:Int)+1)))) as ([L,R].take i))/\ys.length=i/\∃xa:Option V,σ=[xa,some (.int ns.length)]) ⟨aV.refl _,⟨[],rfl,.nil⟩,rfl,_,rfl⟩ ?_ two ?_ ?_
  ·rintro i ys σ H3 ⟨sm3,_,e,_⟩;exact⟨c8.of (sm3 _ _ BO.tup),by lia⟩
  ·rintro i x ys σ H3 N hx ⟨sm3,⟨ts,rfl,pr3⟩,el,xa,rfl⟩ hN;obtain⟨a,T,rfl,hT,hB,tl⟩:∃a T,x=.ref a/\[L,R][i]? = some T/\c7 H3 a T/\T.length<=21:=by
    match i,hx with
    | 0,hx=>cases hx;exact⟨_,_,rfl,rfl,BO.left.same sm3,lL⟩
    | 1,hx=>cases hx;exact⟨_,_,rfl,rfl,BO.right.same sm3,lR⟩
    | j+2,hx=>simp at hx
   nofun;refine⟨a,T,_,rfl,hB,by lia,λl' H4 nl' s4 hB'=>hN _ _ _ ⟨sm3.trans s4,⟨ts++[l'],by simp,?_⟩,by simp at el ⊢;lia,_,rfl⟩⟩;rw[bV,hT];exact gN (Paired.mapP pr3 λa p z=>z.same s4) hB'
  ·rintro ys σ H3 pn ⟨sm3,⟨ts,rfl,pr3⟩,el,xa,rfl⟩ npn;have sn:=(aV.refl H3).new (o:=.lst (ts.map V.ref)) npn;obtain⟨a1,a2,rfl,h1,h2⟩:∃a1 a2,ts=[a1,a2]/\c7 H3 a1 (L.map (pq ((ns.length:Int)+1)))/\c7 H3 a2 (R.map (pq ((ns.length:Int)+1))):=by
    cases pr3 with
    | cons x1 t1=>cases t1 with
     | cons x2 t2=>cases t2;exact⟨_,_,rfl,x1,x2⟩
   have hp:bE H3 pn (.lst ([a1,a2].map V.ref)) pn=some (.lst [.ref a1,.ref a2]):=aC;generalize bE H3 pn (.lst ([a1,a2].map V.ref))=H4 at sn hp ⊢;have h1:=h1.same sn;have h2:=h2.same sn;have s14:=s1.trans (s2.trans (sm3.trans sn));refine⟨pn,_,0,_,rfl,rfl,cW.of hp,rfl,_,_,rfl,xY h1,λH5 s5=>?_⟩;rw[uf BO.isL.perm O nc hk];refine⟨pn,_,1,_,rfl,rfl,cW.of (s5 _ _ hp),rfl,_,_,rfl,xY (h2.same s5),λH6 s6=>?_⟩;rw[uf BO.isR.perm O nc hk];refine⟨two,λt6 n6=>?_⟩;rw[EL BO.isL.perm,EL BO.isR.perm];exact qo _ _ ((s14.trans (s5.trans s6)).trans ((aV.refl _).new n6)) aC
def Aq {t6 p7:Addr} (OQ:OwnCls "NoRound" p7 [.type "ValueError",.type "Exception",.type "BaseException",.type "object"] "ValueError.__new__" mg base) (B:nZ mg) (E:Fn K mg "opened" lG ["left","right"]) (RA:k6 P w K mg base 4 "rounds" lF ["left","right"] (uI t6)):k6 P w K mg base 5 "opened" lG ["left","right"] (vB t6 p7):=E.mkX λf fd F=>by
 refine F.okX uP (λvs H Q E h=>?_) (λcdv A outer s H vs Q E hr h=>?_)
 ·obtain⟨x,y,d,e,rfl,_⟩:=h;rfl
 ·obtain⟨x,y,d,e,rfl,hd,td,he,te,h⟩:=h;have two:(2:Nat)<=sizeLine:=by decide
  refine⟨[some x,some y,none],_,rfl,(L2.ig.h (aF (af (i:=2) uP.nd rfl (Or.inl rfl) (og RA (hr.mono (by decide)) (by rfl) (aE (a6 0) (aE (a6 1) aA))))
   (aF (cA (jI (bD oT (a8 bR (by rfl) B.len aw (aE (a6 2) aA)) aG (bK _)))
   (aK (g9 iU OQ bP rfl (by rfl) (aP bJ aA)))
   bL)
   (aF (cA (jI (bD uW (a8 fb (by rfl) B.len aw (aE (a6 0) aA)) (oE (by rfl) B.MOST_ENDS) (bK _)))
   (aK (g9 iU OQ bP rfl (by rfl) (aP bJ aA)))
   bL)
   (aK (eE (bB (bf (aP bJ (bx (cw jM (by rfl) B.tuple cK (aO (qS vG (ak cP (a6 2) aG (λ_ _=>rfl)) (pQ aG) w4) aA)) aA)))))))))),?_⟩
  nofun;refine⟨x,y,d,e,rfl,hd,td,he,te,?_⟩;rcases h with ⟨bs,cs,rfl,rfl,T,q1,q2,q3⟩ | h
  rotate_left
  ·exact .inr h
  refine .inl ⟨bs,cs,rfl,rfl,T,λl ws H1 nl s1 hl rf h40 h80=>?_⟩;nofun;refine⟨_,.inl (cW.of hl),?_⟩;have wl:=rf.len;have bl:=T.len;rw[wl];refine fV (λe=>⟨(by show 1<=sizeLine;decide),q1 (by lia) _ s1⟩) (λe=>?_);have e1:(rsF (mtF bs) (mtF cs) bs.length).length=1:=by lia
  cases hd;refine⟨_,rfl,by rw[dM];exact ah (aq (by lia)),?_⟩;rw[dM];refine fV (λe=>⟨(by show 1<=sizeLine;decide),q2 (by lia) _ s1⟩) (λe2=>?_);obtain⟨r,hr⟩:=i7.mp e1;rw[hr] at rf;have q3:=q3 r hr (by lia);obtain⟨a,rfl,ha⟩:∃a,ws=[.ref a]/\H1 a=some (.lst (hV r)):=by
   cases rf with
   | cons x t=>cases t;obtain⟨a,rfl,h,_⟩:=x;exact⟨a,rfl,h⟩
  refine⟨_,_,cW.of hl,rfl,?_⟩;refine⟨a,_,rfl,cW.of ha,λp np=>⟨p,_,rfl,.inl ⟨cW.of aC,λo no=>⟨two,λm nm=>?_⟩⟩⟩⟩;rw[xM];rw[xM] at no nm;have t1:=(aV.refl H1).new (o:=.lst ((hV r).drop 1)) np;have t2:=(aV.refl _).new (o:=.tup ((hV r).drop 1)) no;have t3:=(aV.refl _).new (o:=.tup [V.str (Str.ofString "l"),.ref o]) nm;refine q3 m o _ (s1.trans (t1.trans (t2.trans t3))) ⟨aC,t3 _ _ ?_⟩;rw[aC];congr 2;unfold hV Fg;rw[<-List.map_drop,bS];rfl
def D5 {M9 d7 t6 Mb Mk p7 Mh Mc Mi Ml:Addr} (B:nZ mg) (Oz:mg "NoMaze"=some (.ref M9)) (O5:mg "Crossed"=some (.ref d7)) (RB:mg "NoWord"=some (.ref t6)) (Pq:mg "NoDrawing"=some (.ref Mb)) (Rb:mg "NoBow"=some (.ref Mk))
  (O6:mg "NoRound"=some (.ref p7)) (RC:mg "NoCode"=some (.ref Mh)) (QY:mg "NoNumber"=some (.ref Mc)) (RD:mg "NoName"=some (.ref Mi)) (Rc:mg "NoRow"=some (.ref Ml))
  (E:Fn K mg "_law_alone" nz ["_law_e"]):EY P w K mg base 1 "_law_alone" nz ["_law_e"] (wL K [M9,d7,t6,Mb,Mk,p7,Mh,Mc,Mi,Ml]):=E.mkH λf fd F a=>by
 refine F.okH pM (λvs H Q E h=>?_) (λcdv A outer s H vs Q E hr h=>?_)
 ·obtain⟨C,due,rfl,_⟩:=h;rfl
 ·obtain⟨C,due,rfl,hx,⟨D,hD⟩,J,hdue,q⟩:=h;refine⟨[some (.ref a),none],_,rfl,(L2.ig.h (aF (af (i:=1) pM.nd rfl (Or.inl rfl) (bn (bx (a8 (eQ (K:=K) rfl) (by rfl) B.isinstance aX (aE (a6 0) (aE (fv (by rfl) Oz) aA))) (bx (a8 (eQ (K:=K) rfl) (by rfl) B.isinstance aX (aE (a6 0) (aE (fv (by rfl) O5) aA))) (bx (a8 (eQ (K:=K) rfl) (by rfl) B.isinstance aX (aE (a6 0) (aE (fv (by rfl) RB) aA))) (bx (a8 (eQ (K:=K) rfl) (by rfl) B.isinstance aX (aE (a6 0) (aE (fv (by rfl) Pq) aA))) aA))))))
   (aF (af (i:=1) pM.nd rfl (Or.inl rfl) (bF nK (a6 1) (bn (bx (a8 (eQ (K:=K) rfl) (by rfl) B.isinstance aX (aE (a6 0) (aE (fv (by rfl) Rb) aA))) (bx (a8 (eQ (K:=K) rfl) (by rfl) B.isinstance aX (aE (a6 0) (aE (fv (by rfl) O6) aA))) (bx (a8 (eQ (K:=K) rfl) (by rfl) B.isinstance aX (aE (a6 0) (aE (fv (by rfl) RC) aA))) (bx (a8 (eQ (K:=K) rfl) (by rfl) B.isinstance aX (aE (a6 0) (aE (fv (by rfl) QY) aA))) aA)))))))
   (aF (af (i:=1) pM.nd rfl (Or.inl rfl) (bF nK (a6 1) (bn (bx (a8 (eQ (K:=K) rfl) (by rfl) B.isinstance aX (aE (a6 0) (aE (fv (by rfl) RD) aA))) (bx (a8 (eQ (K:=K) rfl) (by rfl) B.isinstance aX (aE (a6 0) (aE (fv (by rfl) Rc) aA))) (rB (pR (a8 (eQ (K:=K) rfl) (by rfl) B.isinstance aX (aE (a6 0) (aE (iX (v:=.ty "ValueError") (by rfl) B.ValueError L2.rO rfl) aA)))) aA))))))
   (aK (bB (gF (cm fM (a8 (tm (K:=K) rfl) (by rfl) B.len aw (jd (Ae (hx:=a) (own:=["_law_kind"]) (ns:=[]) (caps:=[]) hr.hd ⟨rfl,by decide +kernel,by decide +kernel,by decide +kernel⟩ .nil (a6 1) (λC s H fp pn=>(bI (i:=0) (show List.Nodup ((["_law_kind"]:List Str)++([]:List Str)) by decide +kernel) rfl (Or.inl rfl))) (λC s H fp pn=>(En (dz (a6 0)))) (λC s H fp pn=>(a6 0))) aA)) aG (bK _)) (jK (pR (ak (Dn (K:=K) rfl) (a6 1) aG (λ_ _=>rfl))))))))))),?_⟩
  nofun;refine t8 hx (J.kit 0 _ rfl) (t8 hx (J.kit 1 _ rfl) (t8 hx (J.kit 2 _ rfl) (t8 hx (J.kit 3 _ rfl) ⟨(by show 4<=sizeLine;decide),λp1 n1=>?_⟩)));have s1:=(aV.refl H).new (o:=.lst [.bl (decide (0=due)),.bl (decide (1=due)),.bl (decide (2=due)),.bl (decide (3=due))]) n1;have hx1:=hx.same s1;refine t8 hx1 (J.kit 4 _ rfl) (t8 hx1 (J.kit 5 _ rfl) (t8 hx1 (J.kit 6 _ rfl) (t8 hx1 (J.kit 7 _ rfl) ⟨(by show 4<=sizeLine;decide),λp2 n2=>?_⟩)));have n12:p1≠p2:=λe=>by subst e;rw[aC] at n2;cases n2
  have s2:=s1.new (o:=.lst [.bl (decide (4=due)),.bl (decide (5=due)),.bl (decide (6=due)),.bl (decide (7=due))]) (s1.free n2);refine⟨p1,p2,_,_,rfl,rfl,by rw[aI n12,aC],aC,(by show 8<=sizeLine;decide),λp3 n3=>?_⟩;have s3:=s2.new (o:=.lst ([.bl (decide (0=due)),.bl (decide (1=due)),.bl (decide (2=due)),.bl (decide (3=due))]++[.bl (decide (4=due)),.bl (decide (5=due)),.bl (decide (6=due)),.bl (decide (7=due))])) (s2.free n3);have hx3:=hx.same s3;refine t8 hx3 (J.kit 8 _ rfl) (t8 hx3 (J.kit 9 _ rfl) (LJ hx3 J.val ?_));nofun;refine⟨(by show 3<=sizeLine;decide),λp4 n4=>?_⟩;have n34:p3≠p4:=λe=>by subst e;rw[aC] at n4;cases n4
  have s4:=s3.new (o:=.lst [.bl (decide (8=due)),.bl (decide (9=due)),.bl !true]) (s3.free n4);refine⟨p3,p4,_,_,rfl,rfl,by rw[aI n34,aC],aC,(by show 11<=sizeLine;decide),λp5 n5=>?_⟩;have e11:[V.bl (decide (0=due)),.bl (decide (1=due)),.bl (decide (2=due)),.bl (decide (3=due))]++[.bl (decide (4=due)),.bl (decide (5=due)),.bl (decide (6=due)),.bl (decide (7=due))]++[.bl (decide (8=due)),.bl (decide (9=due)),.bl !true]=((List.range 10).map (λj=>decide (j=due))++[false]).map V.bl:=rfl;rw[e11];have s5:=s4.new (o:=.lst (((List.range 10).map (λj=>decide (j=due))++[false]).map V.bl)) (s4.free n5);have h5:=s5 _ _ hD;have g5:bE (bE (bE (bE (bE H p1 (.lst [.bl (decide (0=due)),.bl (decide (1=due)),.bl (decide (2=due)),.bl (decide (3=due))])) p2 (.lst [.bl (decide (4=due)),.bl (decide (5=due)),.bl (decide (6=due)),.bl (decide (7=due))])) p3 (.lst ([.bl (decide (0=due)),.bl (decide (1=due)),.bl (decide (2=due)),.bl (decide (3=due))]++[.bl (decide (4=due)),.bl (decide (5=due)),.bl (decide (6=due)),.bl (decide (7=due))]))) p4 (.lst [.bl (decide (8=due)),.bl (decide (9=due)),.bl !true])) p5 (.lst (((List.range 10).map (λj=>decide (j=due))++[false]).map V.bl)) p5=_:=aC;generalize bE (bE (bE (bE (bE H p1 (.lst [.bl (decide (0=due)),.bl (decide (1=due)),.bl (decide (2=due)),.bl (decide (3=due))])) p2 (.lst [.bl (decide (4=due)),.bl (decide (5=due)),.bl (decide (6=due)),.bl (decide (7=due))])) p3 (.lst ([.bl (decide (0=due)),.bl (decide (1=due)),.bl (decide (2=due)),.bl (decide (3=due))]++[.bl (decide (4=due)),.bl (decide (5=due)),.bl (decide (6=due)),.bl (decide (7=due))]))) p4 (.lst [.bl (decide (8=due)),.bl (decide (9=due)),.bl !true])) p5 (.lst (((List.range 10).map (λj=>decide (j=due))++[false]).map V.bl))=H5 at s5 h5 g5 ⊢;refine⟨p5,rfl,⟨_,cW.of g5⟩,yy (cW.of g5) h5 (by simp) λp6 n6=>?_⟩;have s6:=(aV.refl H5).new (o:=.lst ((((List.range 10).map (λj=>decide (j=due))++[false]).filter (·=true)).map V.bl)) n6;refine⟨p6,_,rfl,.inl (cW.of aC),mQ ?_ ⟨p5,_,10,.bl false,rfl,rfl,cW.of (s6 _ _ g5),?_,_,rfl,q _ (s5.trans s6)⟩⟩
  ·have hd:due=0\/due=1\/due=2\/due=3\/due=4\/due=5\/due=6\/due=7\/due=8\/due=9:=by lia
   rcases hd with rfl | rfl | rfl | rfl | rfl | rfl | rfl | rfl | rfl | rfl<;>rfl
  ·exact jN (j:=10) (by simp)
def ya (B:nZ mg) (E:Fn K mg "_law_cell_at" jt ["_law_script","_law_k"]):fJ P w K mg base 1 "_law_cell_at" jt ["_law_script","_law_k"] (zd K):=E.mk' λf fd F=>by
 refine F.okS yJ (λvs H Q E h=>?_) (λcdv A outer s H vs Q E hr h=>?_)
 ·obtain⟨a,ns,k,rfl,_⟩:=h;rfl
 ·obtain⟨a,ns,k,rfl,hS,q⟩:=h;refine⟨[some (.ref a),some (.int k)],_,rfl,(L2.ig.h (aF (cA (bD kH (a6 1) (a8 bR (by rfl) B.len aw (aE (a6 0) aA)) (bK _))
   (aK (bB (ak cP (a6 0) (a6 1) (λ_ _=>rfl))))
   bL)
   (aK (bB (bF eF (bF nJ aG (a6 1)) aG))))),?_⟩
  nofun;refine⟨_,.inl hS,?_⟩;rw[aD];refine fV (λh=>?_) (λh=>?_)
  ·have hk:k<ns.length:=by lia
   refine⟨_,.int (ns.getD k 0),hS,jN ?_,q _⟩;simp[bW,hk]
  ·exact⟨.inl ⟨by decide,by decide⟩,q _⟩
def Au (B:nZ mg) (E:Fn K mg "_law_digits" kC ["_law_cell","_law_many"]):fJ P w K mg base 1 "_law_digits" kC ["_law_cell","_law_many"] xv:=E.mk' λf fd F=>by
 refine F.okS iP (λvs H Q E h=>?_) (λcdv A outer s H vs Q E hr h=>?_)
 ·obtain⟨c,n,rfl,_⟩:=h;rfl
 ·obtain⟨c,n,rfl,n60,q⟩:=h;refine⟨[some (.int c),some (.int n),none,none,none],_,rfl,(L2.ig.h (aF (af (i:=2) iP.nd rfl (Or.inl rfl) (bF oH (a6 0) aG))
   (dm (cA (QW.pt (iV (bD fM (bF fz (a6 0) aG) aG (bK _)) (g6 (bD kH (a6 0) (bF JO aG aG) (bK _)))))
   (aF (af (i:=2) iP.nd rfl (Or.inl rfl) aG)
    (aK (dH bA rfl (dX (by rfl) B.range (aP aG aA)) (bI (i:=3) iP.nd rfl (Or.inl rfl))
    (aK (af (i:=2) iP.nd rfl (Or.inl rfl) (bF eF (bF nJ (a6 2) aG) (bF fz (bF nJ (bF fz (bF nJ (bF eF (a6 0) (bF nJ (a6 3) (a6 3))) aG) aG) aG) aG)))))))
   bL)
   (aF (af (i:=4) iP.nd rfl (Or.inl rfl) (bn aA))
   (aF (dH bA rfl (dX (by rfl) B.range (aE (a6 1) aA)) (bI (i:=3) iP.nd rfl (Or.inl rfl))
   (aF (cO (du aQ aZ aY c6 (a6 4) (cf (bF fz (a6 2) aG) aA)))
    (aK (af (i:=2) iP.nd rfl (Or.inl rfl) (bF oH (a6 2) aG)))))
   (aK (bB (a6 4)))))))),?_⟩
  nofun;refine⟨⟨by decide,by decide⟩,?_⟩;refine cJ (λσ H'=>∃(rest:Int) (x3:Option V),σ=[some (.int c),some (.int n),some (.int rest),x3,none]/\H'=H) ?_ ?_
  ·nofun;refine⟨by decide,fV (λ_=>⟨by decide,by decide,?_⟩) λ_=>⟨⟨by decide,by decide,by decide⟩,fV (λ_=>⟨by decide,by decide,?_⟩) λ_=>⟨_,_,rfl,trivial⟩⟩⟩
   all_goals
    refine eg (n:=Int.toNat 9) (λi σ H2=>∃(rest:Int) (x3:Option V),σ=[some (.int c),some (.int n),some (.int rest),x3,none]/\H2=H) ⟨_,_,rfl,rfl⟩ ?_ ?_
    ·rintro i σ H2 hi ⟨rest,x3,rfl,rfl⟩;have hi':i<9:=hi;nofun;refine⟨.inr ⟨by decide,by decide⟩,.inl ⟨by lia,by lia⟩,.inr ⟨by decide,by decide⟩,by decide,.inr ⟨by decide,by decide⟩,by decide,?_⟩;exact⟨_,_,rfl,by first | rfl | trivial⟩
    ·rintro σ H2 h;exact h
  ·rintro σ H' ⟨rest,x3,rfl,rfl⟩;nofun;refine⟨ac _,λl nl=>⟨by lia,by lia,?_⟩⟩;refine eg (n:=n) (λi σ H2=>∃(rest:Int) (ds:List Int) (x3:Option V),σ=[some (.int c),some (.int n),some (.int rest),x3,some (.ref l)]/\aV H' H2/\H2 l=some (.lst (ds.map V.int))/\ds.length=i)
    ⟨_,[],_,rfl,(aV.refl H').new nl,aC,rfl⟩ ?_ ?_
   ·rintro i σ H2 hi ⟨rest,ds,x3,rfl,sm,hl,hlen⟩;nofun;exact⟨fP hl,by decide,_,hl,by rw[aD];exact aq (by lia),⟨by decide,by decide⟩,_,ds++[_],_,rfl,sm.new nl,by rw[aC,ar];rfl,by simp[hlen]⟩
   ·rintro σ H2 ⟨rest,ds,x3,rfl,sm,hl,hlen⟩;nofun;exact q l ds H2 nl sm hl hlen
def D4 (B:nZ mg) (E:Fn K mg "_law_order" ny ["_law_cell","_law_n"]) (PB:fJ P w K mg base 1 "_law_digits" kC ["_law_cell","_law_many"] xv):fJ P w K mg base 2 "_law_order" ny ["_law_cell","_law_n"] wH:=E.mk' λf fd F=>by
 refine F.okS pK (λvs H Q E h=>?_) (λcdv A outer s H vs Q E hr h=>?_)
 ·obtain⟨c,n,rfl,_⟩:=h;rfl
 ·obtain⟨c,n,rfl,n60,q⟩:=h;refine⟨[some (.int c),some (.int n),none,none,none],_,rfl,(L2.ig.h (aF (af (i:=2) pK.nd rfl (Or.inl rfl) (bn aA))
   (aF (af (i:=3) pK.nd rfl (Or.inl rfl) (ae PB (hr.mono (by decide)) (by rfl) (aE (a6 0) (aE (a6 1) aA))))
   (aF (dH bA rfl (dX (by rfl) B.range (aE (a6 1) aA)) (bI (i:=4) pK.nd rfl (Or.inl rfl))
   (aK (cO (du aQ lA PySem.F.type_list_insert BE (a6 2) (cf (bF fz (ak cP (a6 3) (a6 4) (λ_ _=>rfl)) (bF eF (a6 4) aG)) (cf (bF eF (a6 4) aG) aA))))))
   (aK (bB (cw jM (by rfl) B.tuple cK (aE (a6 2) aA)))))))),?_⟩
  nofun;refine⟨ac _,λl nl=>⟨c,n,rfl,n60,λd ds H1 nd s1 hd hlen=>?_⟩⟩;nofun;have sl:=(aV.refl H).new (o:=.lst []) nl;have ne:d≠l:=λe=>by subst e;rw[aC] at nd;cases nd
  refine⟨by lia,by lia,eg (n:=n) (λi σ H2=>∃(ns:List Int) (x4:Option V),σ=[some (.int c),some (.int n),some (.ref l),some (.ref d),x4]/\aV H H2/\H2 d=some (.lst (ds.map V.int))/\H2 l=some (.lst (ns.map V.int))/\ns.Perm (cF 1 i))
   ⟨[],_,rfl,sl.trans s1,hd,s1 _ _ aC,.refl _⟩ ?_ ?_⟩
  ·rintro i σ H2 hi ⟨ns,x4,rfl,sm,hd2,hl2,pm⟩;have hl:ns.length=i:=by have:=pm.length_eq;rwa [pO] at this
   have hx:ds[i]? = some ds[i]:=aS (by lia);nofun;refine⟨fP hl2,_,.int ds[i],cW.of hd2,jN (by rw[bW,mB,hx];rfl),_,_,rfl,rfl,by lia,?_⟩;dsimp only;have m0:0<=ds[i] % ((0:Int)+i+1):=dw _ (by lia);have m1:ds[i] % ((0:Int)+i+1)<(0:Int)+i+1:=dL _ (by lia);generalize ds[i] % ((0:Int)+i+1)=r at m0 m1 ⊢;refine⟨l,_,r.toNat,.int ((0:Int)+i+1),rfl,by rw[gv m0],hl2,by rw[aD];lia,by rw[aD];lia,?_⟩;refine⟨ns.take r.toNat++((0:Int)+i+1)::ns.drop r.toNat,_,rfl,sm.new nl,by rw[aI ne];exact hd2,by rw[aC];simp,?_⟩;have e:cF 1 (i+1)=cF 1 i++[(0:Int)+i+1]:=by simp[cF,ff];lia
   rw[e];refine cL.trans ?_;rw[mf];exact((pm.cons _).trans (cc (l₁:=[_]) (l₂:=cF 1 i)))
  ·rintro σ H2 ⟨ns,x4,rfl,sm,hd2,hl2,pm⟩;have hl:ns.length=n:=by have:=pm.length_eq;rwa [pO] at this
   nofun;exact⟨_,.inl ⟨cW.of hl2,λt nt=>q t ns _ (sm.free nt) (sm.new (sm.free nt)) aC hl pm⟩⟩
def JU (B:nZ mg) (E:Fn K mg "_law_can" sQ ["_law_left","_law_right","_law_letter_here"]):fJ P w K mg base 1 "_law_can" sQ ["_law_left","_law_right","_law_letter_here"] xw:=E.mk' λf fd F=>by
 refine F.okS IR (λvs H Q E h=>?_) (λcdv A outer s H vs Q E hr h=>?_)
 ·obtain⟨oe,fd,A',B',st,f,k,rfl,_⟩:=h;rfl
 ·obtain⟨oe,fd,A',B',st,f,k,rfl,hk,G,q⟩:=h;refine⟨[some (.ref (A' false)),some (.ref (A' true)),some (.int k)],_,rfl,(L2.ig.h (aF (cA (bD fM (a6 2) aG (bK _))
   (aK (bB eV))
   bL)
   (aF (cA (bD fM (a6 2) aG (bK _))
   (aK (bB (cm (qV (ij hr)) (a6 1) (bn aA) (bK _))))
   bL)
   (aF (cA (bD fM (a6 2) aG (bK _))
   (aK (bB (cm (qV (ij hr)) (a6 0) (bn aA) (bK _))))
   bL)
   (aK (bB (gF (cm (qV (ij hr)) (a6 0) (bn aA) (bK _)) (gF (cm (qV (ij hr)) (a6 1) (bn aA) (bK _)) (jK (cm oT (ak b6 (ak cP (a6 0) (vU uv aG) (λ_ _=>rfl)) aG (λ_ _=>rfl)) (ak b6 (ak cP (a6 1) (vU uv aG) (λ_ _=>rfl)) aG (λ_ _=>rfl)) (bK _))))))))))),?_⟩
  have g1:=G.s true;have g0:=G.s false;nofun;rcases four hk with rfl | rfl | rfl | rfl
  ·exact mQ rfl (q _ (aV.refl _))
  ·refine jw (by decide) (mQ rfl ⟨ac _,λp np=>?_⟩);have s1:=(aV.refl H).new (o:=.lst []) np;refine nP (g1.same s1) aC ?_;have:=q _ s1;unfold pz at this;rw[Vy (by decide),Vz rfl,decide_not] at this;exact this
  ·refine jw (by decide) (jw (by decide) (mQ rfl ⟨ac _,λp np=>?_⟩));have s1:=(aV.refl H).new (o:=.lst []) np;refine nP (g0.same s1) aC ?_;have:=q _ s1;unfold pz at this;rw[Vy (by decide),Vy (by decide),decide_not] at this;exact this
  ·refine jw (by decide) (jw (by decide) (jw (by decide) ⟨ac _,λp np=>?_⟩));have s1:=(aV.refl H).new (o:=.lst []) np;refine nP (g0.same s1) aC ⟨_,rfl,?_⟩;have q1:=λH' s=>q H' s;unfold pz at q1;simp only[Vz] at q1;rcases k9 (st false) with e | ⟨S,o,l,e⟩
   ·rw[e] at q1 ⊢;exact jw (by simp) (by simpa using q1 _ s1)
   ·refine mQ (by rw[e];simp) ⟨ac _,λp2 np2=>?_⟩;have s2:=s1.trans ((aV.refl _).new (o:=.lst []) np2);refine nP (g1.same s2) aC ⟨_,rfl,?_⟩;rcases k9 (st true) with e' | ⟨S',o',l',e'⟩
    ·rw[e'] at q1 ⊢;exact jw (by simp) (by simpa using q1 _ s2)
    ·refine mQ (by rw[e'];simp) ?_;have z1:=g0.same s2;have z2:=g1.same s2;rw[e] at z1;rw[e'] at z2;obtain⟨cs,c,c1,c2,c3,_⟩:=nS z1;obtain⟨ds,d,d1,d2,d3,_⟩:=nS z2;refine⟨_,_,cW.of c1,tO _ _,c,_,_,_,rfl,rfl,c8.of c3,rfl,?_⟩;refine⟨_,_,cW.of d1,tO _ _,d,_,_,_,rfl,rfl,c8.of d3,rfl,?_⟩;have:=q1 _ s2;rw[e,e',oI,oI] at this;have e3:(decide (S++[(o,l)]≠[])&&(decide (S'++[(o',l')]≠[])&&decide (some l≠some l')))=decide (l≠l'):=by simp
     rw[e3] at this;show Kq (.int l) (.int l') _ Q;rw[Ge];rw[decide_not] at this;exact this
def pS (B:nZ mg) (E:Fn K mg "_law_closing_letter" dg ["_law_left","_law_right"]) (R6:fJ P w K mg base 1 "_law_can" sQ ["_law_left","_law_right","_law_letter_here"] xw):fJ P w K mg base 2 "_law_closing_letter" dg ["_law_left","_law_right"] sK:=E.mk' λf fd F=>by
 refine F.okS pL (λvs H Q E h=>?_) (λcdv A outer s H vs Q E hr h=>?_)
 ·obtain⟨oe,fd,A',B',st,f,rfl,_⟩:=h;rfl
 ·obtain⟨oe,fd,A',B',st,f,rfl,G,q⟩:=h;refine⟨[some (.ref (A' false)),some (.ref (A' true))],_,rfl,(L2.ig.h (aF (cA (dz (ae R6 (hr.mono (by decide)) (by rfl) (aE (a6 0) (aE (a6 1) (aP aG aA)))))
   (aK (bB aG))
   bL)
   (aF (cA (QW.pt (iV (bD (oh (ij hr)) (a6 1) (bn aA) (bK _)) (g6 (bD uW (a8 bR (by rfl) B.len aw (aE (a6 0) aA)) aG (bK _)))))
   (aK (bB aG))
   bL)
   (aK (bB aG))))),?_⟩
  nofun;refine⟨oe,fd,A',B',st,f,3,rfl,by decide,G,λH1 s1=>⟨_,rfl,?_⟩⟩;unfold EZ at q;refine fV (λh=>?_) (λh=>⟨ac _,λp np=>?_⟩)
  ·have:=q H1 s1;rw[Vz h] at this;exact this
  ·have s2:=s1.trans ((aV.refl _).new (o:=.lst []) np);refine nP ((G.s true).same s2) aC ⟨_,rfl,?_⟩;have q2:=q _ s2;rw[Vy h] at q2;refine fV (λh2=>?_) (λh2=>?_)
   ·rw[Vz (.inl (WD h2))] at q2;exact q2
   ·have h2':¬st true=[]:=λz=>h2 (WC z);obtain⟨as,a1,a2⟩:=(G.s false).same s2;have la:(as.map V.ref).length=(st false).length:=by rw[aD];exact ba a2
    refine⟨_,.inl (cW.of a1),?_⟩;rw[la];refine fV (λh3=>?_) (λh3=>?_)
    ·rw[Vz (.inr (by lia))] at q2;exact q2
    ·rw[Vy (λz=>z.elim h2' (λy=>h3 (by lia)))] at q2;exact q2
def Ar (B:nZ mg) (E:Fn K mg "_law_letter" lH ["_law_left","_law_right","_law_want","_law_after"]) (R6:fJ P w K mg base 1 "_law_can" sQ ["_law_left","_law_right","_law_letter_here"] xw) (Mj:fJ P w K mg base 2 "_law_closing_letter" dg ["_law_left","_law_right"] sK):fJ P w K mg base 3 "_law_letter" lH ["_law_left","_law_right","_law_want","_law_after"] uK:=E.mk' λf fd F=>by
 refine F.okS nq (λvs H Q E h=>?_) (λcdv A outer s H vs Q E hr h=>?_)
 ·obtain⟨oe,fd,A',B',st,f,d,g,rfl,_⟩:=h;rfl
 ·obtain⟨oe,fd,A',B',st,f,d,g,rfl,G,hl,q⟩:=h;refine⟨[some (.ref (A' false)),some (.ref (A' true)),some (.int d),some (.int g),none,none,none],_,rfl,(L2.ig.h (aF (dH bA rfl (dX (by rfl) B.range (aP aG aA)) (bI (i:=4) nq.nd rfl (Or.inl rfl))
   (aF (af (i:=5) nq.nd rfl (Or.inl rfl) (bF fz (bF eF (a6 2) (a6 4)) aG))
    (aF (af (i:=6) nq.nd rfl (Or.inl rfl) (bF eF (bF eF (a8 bR (by rfl) B.len aw (aE (a6 0) aA)) (a8 bR (by rfl) B.len aw (aE (a6 1) aA))) (ak cP (bn (aP aG (aP aG (aP aG (rB (vU uv aG) aA))))) (a6 5) (λ_ _=>rfl))))
    (aK (cA (QW.pt (zh (dz (ae R6 (hr.mono (by decide)) (by rfl) (aE (a6 0) (aE (a6 1) (aE (a6 5) aA))))) (wX (bD LF (a6 6) (bF eF aG (bF nJ aG (a6 3))) (bK _)))))
    (aK (bB (a6 5)))
    bL)))))
   (aK (bB (ae Mj (hr.mono (by decide)) (by rfl) (aE (a6 0) (aE (a6 1) aA))))))),?_⟩
  nofun;refine⟨by decide,by decide,?_⟩;refine eg (n:=Int.toNat 4) (λi σ H'=>∃x4 x5 x6:Option V,σ=[some (.ref (A' false)),some (.ref (A' true)),some (.int d),some (.int g),x4,x5,x6]/\aV H H') ⟨_,_,_,rfl,aV.refl _⟩ ?_ ?_
  ·rintro i σ H1 hi ⟨x4,x5,x6,rfl,s1⟩;nofun;obtain⟨as,a1,a2⟩:=(G.s false).same s1;obtain⟨bs,b1,b2⟩:=(G.s true).same s1;have la:(as.map V.ref).length=(st false).length:=by rw[aD];exact ba a2
   have lb:(bs.map V.ref).length=(st true).length:=by rw[aD];exact ba b2
   have m0:0<=(d+(0+(i:Int))) % 4:=dw _ (by decide);have m1:(d+(0+(i:Int))) % 4<4:=dL _ (by decide);generalize (d+(0+(i:Int))) % 4=z at m0 m1 ⊢;obtain⟨k,rfl⟩:∃k:Nat,z=k:=⟨z.toNat,by lia⟩
   have k4:k<4:=by lia
   refine⟨by decide,_,.inl (cW.of a1),_,.inl (cW.of b1),(by show 4<=sizeLine;decide),λp np=>?_⟩;rw[la,lb];have s2:=s1.trans ((aV.refl _).new (o:=.lst [V.int 2,V.int 0,V.int 0,V.int (-2)]) np);have hv:∃v:Int,tS [V.int 2,V.int 0,V.int 0,V.int (-2)] (k:Int)=some (.int v)/\((st false).length:Int)+(st true).length+v=qD ((st false).length+(st true).length) k:=by
    unfold qD;rcases four k4 with rfl | rfl | rfl | rfl
    ·exact⟨2,rfl,by simp⟩
    ·exact⟨0,rfl,by simp⟩
    ·exact⟨0,rfl,by simp⟩
    ·exact⟨-2,rfl,by simp;lia⟩
   obtain⟨v,hv,ev⟩:=hv;refine⟨_,_,cW.of aC,hv,?_⟩;rw[Hq,ev];refine⟨oe,fd,A',B',st,f,k,rfl,k4,G.same s2,λH3 s3=>⟨_,rfl,?_⟩⟩;refine fV (λhc=>⟨.inl ⟨by decide,by decide⟩,?_⟩) λ_=>⟨_,_,_,rfl,s2.trans s3⟩
   rw[Hq];refine⟨_,rfl,fV (λhd=>q _ _ (s2.trans s3) (.inr ⟨k4,hc,WD hd⟩)) λ_=>⟨_,_,_,rfl,s2.trans s3⟩⟩
  ·rintro σ H1 ⟨x4,x5,x6,rfl,s1⟩;nofun;exact⟨oe,fd,A',B',st,f,rfl,G.same s1,λH2 s2=>q _ _ (s1.trans s2) (.inl rfl)⟩
def yZ (B:nZ mg) (E:Fn K mg "_law_renamed" jm ["_law_ends","_law_gone","_law_kept"]):fJ P w K mg base 1 "_law_renamed" jm ["_law_ends","_law_gone","_law_kept"] ni:=E.mk' λf fd F=>by
 refine F.okS sO (λvs H Q E h=>?_) (λcdv A outer s H vs Q E hr h=>?_)
 ·obtain⟨oe,fd,A',B',st,f,u,x,y,rfl,_⟩:=h;rfl
 ·obtain⟨oe,fd,A',B',st,f,u,x,y,rfl,G,hl,q⟩:=h;refine⟨[some (.ref (A' u)),some (.int x),some (.int y),none],_,rfl,(L2.ig.h (aK (dH bA rfl (dX (by rfl) B.range (bx (a8 bR (by rfl) B.len aw (aE (a6 0) aA)) aA)) (bI (i:=3) sO.nd rfl (Or.inl rfl))
   (aK (cA (bD fM (ak b6 (ak cP (a6 0) (a6 3) (λ_ _=>rfl)) aG (λ_ _=>rfl)) (a6 1) (bK _))
    (aK (vS (bf (aO (ak b6 (ak cP (a6 0) (a6 3) (λ_ _=>rfl)) aG (λ_ _=>rfl)) (aE (a6 2) aA))) (vT (a6 0) (a6 3) set_list)))
    bL))))),?_⟩
  obtain⟨as,a1,a2⟩:=id (G.s u);have la:(as.map V.ref).length=(st u).length:=by rw[aD];exact ba a2
  nofun;refine⟨_,.inl (cW.of a1),?_⟩;rw[la];refine⟨by lia,by lia,?_⟩;have en:((st u).length:Int).toNat=(st u).length:=by lia
  rw[en];refine eg (n:=(st u).length) (λi σ H'=>∃x3:Option V,σ=[some (.ref (A' u)),some (.int x),some (.int y),x3]/\Fr A' B' H H'/\GS H' oe fd A' B' (λv=>if v=u then ((st u).take i).map (ii x y)++(st u).drop i else st v) f) ⟨_,rfl,Fr.refl _ _ _,?_⟩ ?_ ?_
  ·refine G.cg (λv=>?_) (λ_=>rfl);by_cases z:v=u
   ·subst z;simp
   ·simp[z]
  ·rintro i σ H1 hi ⟨x3,rfl,F1,G1⟩;nofun;obtain⟨e,he⟩:∃e,(st u)[i]? = some e:=⟨_,aS hi⟩
   obtain⟨r1,r2⟩:=Ck (st u) (ii x y) he;obtain⟨bs,b,c1,c2,c3,c4⟩:=G1.get u (i:=i) (e:=e) (by rw[Vz rfl];exact r1);refine⟨_,_,cW.of c1,by rw[fH];exact jN c2,b,_,_,_,rfl,rfl,c8.of c3,rfl,?_⟩;show Ks (.int e.2) (.int x) H1 _;rw[Gh];refine⟨_,rfl,?_⟩;simp only[WA];refine fV (λz=>?_) (λz=>?_)
   ·refine⟨_,_,cW.of c1,by rw[fH];exact jN c2,b,_,_,_,rfl,rfl,c8.of c3,rfl,(by show 2<=sizeLine;decide),λt nt=>?_⟩;have s6:=(aV.refl H1).new (o:=.tup [.int e.1,.int y]) nt;have G6:=G1.same s6;have c16:=s6 _ _ c1;refine⟨A' u,_,_,i,rfl,rfl,c16,by rw[fH];exact Fl (aH.mp c2).1,?_⟩;have G7:=G6.set u i (Paired.mapP c4 λa q z=>z.same s6) (t:=t) (q:=(e.1,y)) aC;refine⟨_,rfl,(F1.new nt).updA u,G7.cg (λv=>?_) λ_=>rfl⟩;by_cases zv:v=u
    ·subst zv;simp only[WE];have er:ii x y e=(e.1,y):=by unfold ii;rw[Vz z]
     rw[er] at r2;exact r2
    ·simp only[zv,WF]
   ·refine⟨_,rfl,F1,G1.cg (λv=>?_) λ_=>rfl⟩;by_cases zv:v=u
    ·subst zv;simp only[WE];have er:ii x y e=e:=by unfold ii;rw[Vy z]
     rw[er] at r2;rw[<-r2];exact(C6 r1).symm
    ·simp only[zv,WF]
  ·rintro σ H1 ⟨x3,rfl,F1,G1⟩;nofun;refine q _ F1 (G1.cg (λv=>?_) (λ_=>rfl));by_cases z:v=u
   ·subst z;simp
   ·simp[z]
def FZ (B:nZ mg) (E:Fn K mg "_law_ring" qP ["_law_left","_law_right","_law_bows_here","_law_row","_law_letter_here"]) (QR:fJ P w K mg base 1 "_law_renamed" jm ["_law_ends","_law_gone","_law_kept"] ni):fJ P w K mg base 2 "_law_ring" qP ["_law_left","_law_right","_law_bows_here","_law_row","_law_letter_here"] vA:=E.mk' λf fd F=>by
 refine F.okS nk (λvs H Q E h=>?_) (λcdv A outer s H vs Q E hr h=>?_)
 ·obtain⟨oe,fd,A',B',st,f,st',f',k,r,rfl,_⟩:=h;rfl
 ·obtain⟨oe,fd,A',B',st,f,st',f',k,r,rfl,G,hl,P',q⟩:=h;refine⟨[some (.ref (A' false)),some (.ref (A' true)),some (.ref fd),some (.int r),some (.int k),none,none,none,none],_,rfl,(L2.ig.h (dm (cA (bD fM (a6 4) aG (bK _))
   (aF (cO (du aQ aZ aY c6 (a6 0) (cI (bf (aE (a6 3) (aE (a6 3) aA))) aA)))
    (aK (cO (du aQ aZ aY c6 (a6 1) (cI (bf (aE (a6 3) (aE (a6 3) aA))) aA)))))
   bL)
   (dm (cA (bD fM (a6 4) aG (bK _))
   (aF (af (i:=5) nk.nd rfl (Or.inl rfl) (oF aQ dc d9 qY (a6 1)))
    (aF (cO (du aQ aZ aY c6 (ak cP (a6 2) aG (λ_ _=>rfl)) (cI (bf (aO (ak b6 (a6 5) aG (λ_ _=>rfl)) (aE (a6 3) aA))) aA)))
    (aK (cO (du aQ aZ aY c6 (a6 0) (cI (bf (aE (a6 3) (aO (ak b6 (a6 5) aG (λ_ _=>rfl)) aA))) aA))))))
   bL)
   (dm (cA (bD fM (a6 4) aG (bK _))
   (aF (af (i:=5) nk.nd rfl (Or.inl rfl) (oF aQ dc d9 qY (a6 0)))
    (aF (cO (du aQ aZ aY c6 (ak cP (a6 2) aG (λ_ _=>rfl)) (cI (bf (aO (ak b6 (a6 5) aG (λ_ _=>rfl)) (aE (a6 3) aA))) aA)))
    (aK (cO (du aQ aZ aY c6 (a6 1) (cI (bf (aE (a6 3) (aO (ak b6 (a6 5) aG (λ_ _=>rfl)) aA))) aA))))))
   bL)
   (aK (cA (bD fM (a6 4) aG (bK _))
   (aF (af (i:=6) nk.nd rfl (Or.inl rfl) (oF aQ dc d9 qY (a6 0)))
    (aF (af (i:=7) nk.nd rfl (Or.inl rfl) (oF aQ dc d9 qY (a6 1)))
    (aF (cO (du aQ aZ aY c6 (ak cP (a6 2) aG (λ_ _=>rfl)) (cI (bf (aO (ak b6 (a6 6) aG (λ_ _=>rfl)) (aE (a6 3) aA))) aA)))
    (aF (cO (du aQ aZ aY c6 (ak cP (a6 2) aG (λ_ _=>rfl)) (cI (bf (aO (ak b6 (a6 7) aG (λ_ _=>rfl)) (aE (a6 3) aA))) aA)))
    (aF (af (i:=8) nk.nd rfl (Or.inl rfl) (a8 (uj rfl) (by rfl) B.min md (aO (ak b6 (a6 6) aG (λ_ _=>rfl)) (aO (ak b6 (a6 7) aG (λ_ _=>rfl)) aA))))
    (aF (cO (ae QR (hr.mono (by decide)) (by rfl) (aE (a6 0) (bx (a8 (qj rfl) (by rfl) B.max ik (aO (ak b6 (a6 6) aG (λ_ _=>rfl)) (aO (ak b6 (a6 7) aG (λ_ _=>rfl)) aA))) (aE (a6 8) aA)))))
    (aK (cO (ae QR (hr.mono (by decide)) (by rfl) (aE (a6 1) (bx (a8 (qj rfl) (by rfl) B.max ik (aO (ak b6 (a6 6) aG (λ_ _=>rfl)) (aO (ak b6 (a6 7) aG (λ_ _=>rfl)) aA))) (aE (a6 8) aA))))))))))))
   bL)))))),?_⟩
  cases P' with
  | a=>
   refine cJ (λσ H'=>σ=[some (.ref (A' false)),some (.ref (A' true)),some (.ref fd),some (.int r),some (.int ((0:Nat):Int)),none,none,none,none]/\Fr A' B' H H'/\GS H' oe fd A' B' (λu=>st u++[((r:Int),(r:Int))]) f) ?_ ?_
   ·nofun;obtain⟨_,e0,_⟩:=G.s false;refine mQ rfl ⟨fP e0,(by show 2<=sizeLine;decide),λt nt=>?_⟩;obtain⟨xs,e,lx,G1⟩:=(G.new (o:=.tup [.int r,.int (r:Int)]) nt).push false (t:=t) (p:=((r:Int),(r:Int))) aC;have F1:=((Fr.refl A' B' H).new (o:=.tup [.int r,.int (r:Int)]) nt).updA (o:=.lst (xs++[.ref t])) false;refine⟨xs,e,aq (by have:=(hl false).1;lia),?_⟩;generalize bE (bE H t (.tup [.int r,.int (r:Int)])) (A' false) (.lst (xs++[.ref t]))=H1 at G1 F1 ⊢;obtain⟨_,e1,_⟩:=G1.s true;refine⟨fP e1,(by show 2<=sizeLine;decide),λt2 nt2=>?_⟩;obtain⟨ys,e2,ly,G2⟩:=(G1.new (o:=.tup [.int r,.int (r:Int)]) nt2).push true (t:=t2) (p:=((r:Int),(r:Int))) aC;refine⟨ys,e2,aq (by have:=(hl true).1;simp at ly;lia),trivial,(F1.new nt2).updA true,G2.cg (λu=>?_) λ_=>rfl⟩;cases u<;>simp
   rintro σ' H1 ⟨rfl,F1,G1⟩;refine cJ (λσ H'=>σ=[some (.ref (A' false)),some (.ref (A' true)),some (.ref fd),some (.int r),some (.int ((0:Nat):Int)),none,none,none,none]/\H1=H') ?_ ?_
   ·nofun;exact jw (by decide) ⟨trivial,trivial⟩
   rintro σ' H' ⟨rfl,rfl⟩;refine cJ (λσ H'=>σ=[some (.ref (A' false)),some (.ref (A' true)),some (.ref fd),some (.int r),some (.int ((0:Nat):Int)),none,none,none,none]/\H1=H') ?_ ?_
   ·nofun;exact jw (by decide) ⟨trivial,trivial⟩
   rintro σ' H' ⟨rfl,rfl⟩;nofun;exact jw (by decide) (q _ F1 G1)
  | @b S o l h=>
   refine cJ (λσ H'=>σ=[some (.ref (A' false)),some (.ref (A' true)),some (.ref fd),some (.int r),some (.int ((1:Nat):Int)),none,none,none,none]/\H=H') ?_ ?_
   ·nofun;exact jw (by decide) ⟨trivial,trivial⟩
   rintro σ' H' ⟨rfl,rfl⟩;refine cJ (λσ H'=>∃x5:Option V,σ=[some (.ref (A' false)),some (.ref (A' true)),some (.ref fd),some (.int r),some (.int ((1:Nat):Int)),x5,none,none,none]/\Fr A' B' H H'/\GS H' oe fd A' B' (λu=>if u=true then S else st u++[((r:Int),l)]) (λu=>if u=true then f u++[(o,(r:Int))] else f u)) ?_ ?_
   ·nofun;obtain⟨xs,a,e,ta,G1⟩:=G.pop h;have dl:(xs++[V.ref a]).dropLast=xs:=by simp
    refine mQ rfl ⟨fP e,_,.ref a,e,by simp,?_⟩;rw[dl];have t1:=k8 (ys:=xs) e ta;have F1:=(Fr.refl A' B' H).updA (o:=.lst xs) true;generalize bE H (A' true) (.lst xs)=H1 at G1 t1 F1 ⊢;refine G1.addG (u:=true) (r:=r) t1 (hl true).2 rfl λH2 F2 G2 k2=>?_;have F2:=F2 _ F1;obtain⟨_,e3,_⟩:=G2.s false;refine⟨fP e3,a,_,_,_,rfl,rfl,c8.of (k2 _ _ t1),rfl,(by show 2<=sizeLine;decide),λt nt=>?_⟩;obtain⟨ys,e2,ly,G3⟩:=(G2.new (o:=.tup [.int r,.int l]) nt).push false (t:=t) (p:=((r:Int),l)) aC;refine⟨ys,e2,aq (by have:=(hl false).1;simp at ly;lia),_,rfl,(F2.new nt).updA false,G3.cg (λu=>?_) λu=>?_⟩
    ·cases u<;>simp
    ·cases u<;>simp
   rintro σ' H1 ⟨x5,rfl,F1,G1⟩;refine cJ (λσ H'=>σ=[some (.ref (A' false)),some (.ref (A' true)),some (.ref fd),some (.int r),some (.int ((1:Nat):Int)),x5,none,none,none]/\H1=H') ?_ ?_
   ·nofun;exact jw (by decide) ⟨trivial,trivial⟩
   rintro σ' H' ⟨rfl,rfl⟩;nofun;exact jw (by decide) (q _ F1 G1)
  | @c S o l h=>
   refine cJ (λσ H'=>σ=[some (.ref (A' false)),some (.ref (A' true)),some (.ref fd),some (.int r),some (.int ((2:Nat):Int)),none,none,none,none]/\H=H') ?_ ?_
   ·nofun;exact jw (by decide) ⟨trivial,trivial⟩
   rintro σ' H' ⟨rfl,rfl⟩;refine cJ (λσ H'=>σ=[some (.ref (A' false)),some (.ref (A' true)),some (.ref fd),some (.int r),some (.int ((2:Nat):Int)),none,none,none,none]/\H=H') ?_ ?_
   ·nofun;exact jw (by decide) ⟨trivial,trivial⟩
   rintro σ' H' ⟨rfl,rfl⟩;refine cJ (λσ H'=>∃x5:Option V,σ=[some (.ref (A' false)),some (.ref (A' true)),some (.ref fd),some (.int r),some (.int ((2:Nat):Int)),x5,none,none,none]/\Fr A' B' H H'/\GS H' oe fd A' B' (λu=>if u=false then S else st u++[((r:Int),l)]) (λu=>if u=false then f u++[(o,(r:Int))] else f u)) ?_ ?_
   ·nofun;obtain⟨xs,a,e,ta,G1⟩:=G.pop h;have dl:(xs++[V.ref a]).dropLast=xs:=by simp
    refine mQ rfl ⟨fP e,_,.ref a,e,by simp,?_⟩;rw[dl];have t1:=k8 (ys:=xs) e ta;have F1:=(Fr.refl A' B' H).updA (o:=.lst xs) false;generalize bE H (A' false) (.lst xs)=H1 at G1 t1 F1 ⊢;refine G1.addG (u:=false) (r:=r) t1 (hl false).2 rfl λH2 F2 G2 k2=>?_;have F2:=F2 _ F1;obtain⟨_,e3,_⟩:=G2.s true;refine⟨fP e3,a,_,_,_,rfl,rfl,c8.of (k2 _ _ t1),rfl,(by show 2<=sizeLine;decide),λt nt=>?_⟩;obtain⟨ys,e2,ly,G3⟩:=(G2.new (o:=.tup [.int r,.int l]) nt).push true (t:=t) (p:=((r:Int),l)) aC;refine⟨ys,e2,aq (by have:=(hl true).1;simp at ly;lia),_,rfl,(F2.new nt).updA true,G3.cg (λu=>?_) λu=>?_⟩
    ·cases u<;>simp
    ·cases u<;>simp
   rintro σ' H1 ⟨x5,rfl,F1,G1⟩;nofun;exact jw (by decide) (q _ F1 G1)
  | @d n' f2 o1 l1 o2 l2 h h' ne=>
   refine cJ (λσ H'=>σ=[some (.ref (A' false)),some (.ref (A' true)),some (.ref fd),some (.int r),some (.int ((3:Nat):Int)),none,none,none,none]/\H=H') ?_ ?_
   ·nofun;exact jw (by decide) ⟨trivial,trivial⟩
   rintro σ' H' ⟨rfl,rfl⟩;refine cJ (λσ H'=>σ=[some (.ref (A' false)),some (.ref (A' true)),some (.ref fd),some (.int r),some (.int ((3:Nat):Int)),none,none,none,none]/\H=H') ?_ ?_
   ·nofun;exact jw (by decide) ⟨trivial,trivial⟩
   rintro σ' H' ⟨rfl,rfl⟩;refine cJ (λσ H'=>σ=[some (.ref (A' false)),some (.ref (A' true)),some (.ref fd),some (.int r),some (.int ((3:Nat):Int)),none,none,none,none]/\H=H') ?_ ?_
   ·nofun;exact jw (by decide) ⟨trivial,trivial⟩
   rintro σ' H' ⟨rfl,rfl⟩;nofun;refine mQ rfl ?_;obtain⟨xs,a,e,ta,G1⟩:=G.pop h;have dl:(xs++[V.ref a]).dropLast=xs:=by simp
   refine⟨fP e,_,.ref a,e,by simp,?_⟩;rw[dl];have t1:=k8 (ys:=xs) e ta;have F1:=(Fr.refl A' B' H).updA (o:=.lst xs) false;generalize bE H (A' false) (.lst xs)=H1 at G1 t1 F1 ⊢;obtain⟨ys,c,e2,tc,G2⟩:=G1.pop (u:=true) (S:=f2) (p:=(o2,l2)) (by simp only[iM,WF];exact h');have dl2:(ys++[V.ref c]).dropLast=ys:=by simp
   refine⟨fP e2,_,.ref c,e2,by simp,?_⟩;rw[dl2];have t2:=k8 (ys:=ys) e2 t1;have tc2:=k8 (ys:=ys) e2 tc;have F2:=F1.updA (o:=.lst ys) true;generalize bE H1 (A' true) (.lst ys)=H2 at G2 t2 tc2 F2 ⊢;refine G2.addG (u:=false) (r:=r) t2 (hl false).2 rfl λH3 F3 G3 k3=>?_;have F3:=F3 _ F2;refine G3.addG (u:=true) (r:=r) (k3 _ _ tc2) (by simp only[iM,WF];exact(hl true).2) rfl λH4 F4 G4 k4=>?_;have F4:=F4 _ F3;have ta4:=k4 _ _ (k3 _ _ t2);have tc4:=k4 _ _ (k3 _ _ tc2);clear k3 k4 F3 F2 F1 G1 G2 G3 t1 t2 tc2 tc e2 e ta;refine⟨a,_,_,_,rfl,rfl,c8.of ta4,rfl,c,_,_,_,rfl,rfl,c8.of tc4,rfl,_,_,rfl,?_⟩;have hh:=h;have lh:n'.length<=100:=by have:=(hl false).1;rw[h] at this;simp at this;lia
   have lh':f2.length<=100:=by have:=(hl true).1;rw[h'] at this;simp at this;lia
   refine⟨a,_,_,_,rfl,rfl,c8.of ta4,rfl,c,_,_,_,rfl,rfl,c8.of tc4,rfl,_,_,rfl,?_⟩;show ni [V.ref (A' false),V.int (if l2 > l1 then l2 else l1),V.int (if l2<l1 then l2 else l1)] H4 _ _;rw[Di,J1];refine⟨oe,fd,A',B',_,_,false,_,_,rfl,G4,by simp;lia,λH5 F5 G5=>?_⟩;have ta5:=G4.frT F5 ta4;have tc5:=G4.frT F5 tc4;have F5:=F4.trans F5;clear ta4 tc4 G4 F4;refine⟨a,_,_,_,rfl,rfl,c8.of ta5,rfl,c,_,_,_,rfl,rfl,c8.of tc5,rfl,_,_,rfl,?_⟩;show ni [V.ref (A' true),V.int (if l2 > l1 then l2 else l1),V.int (min l1 l2)] H5 _ _;rw[Di];refine⟨oe,fd,A',B',_,_,true,_,_,rfl,G5,by simp;lia,λH6 F6 G6=>q _ (F5.trans F6) (G6.cg (λu=>?_) λu=>?_)⟩
   ·cases u<;>simp
   ·cases u<;>simp
def Ao (B:nZ mg) (E:Fn K mg "_law_walked" lE ["_law_bows_here","_law_side","_law_n"]):fJ P w K mg base 1 "_law_walked" lE ["_law_bows_here","_law_side","_law_n"] uH:=E.mk' λf fd F=>by
 refine F.okS fm (λvs H Q E h=>?_) (λcdv A outer s H vs Q E hr h=>?_)
 ·obtain⟨b,fd,g,ns,Fs,n,rfl,_⟩:=h;rfl
 ·obtain⟨b,fd,g,ns,Fs,n,rfl,FO,rfl,q⟩:=h;have O:=FO.ord;have hn:=O.len;have hsum:=FO.sum;refine⟨[some (.ref fd),some (.str (sd b)),some (.int ns.length),none,none,none,none,none,none,none],_,rfl,(L2.ig.h (aF (af (i:=3) fm.nd rfl (Or.inl rfl) (bn (w5 jv (w5 jv aA))))
   (dm (dH bA rfl (dX (by rfl) B.range (aP aG aA)) (bI (i:=4) fm.nd rfl (Or.inl rfl))
   (aK (dH bA rfl (fE (ak cP (a6 0) (a6 4) (λ_ _=>rfl))) (jJ (n:=2) rfl (ce (bI (i:=5) fm.nd rfl (Or.inl rfl)) (ce (bI (i:=6) fm.nd rfl (Or.inl rfl)) hU)))
    (aF (iW (kY hr) (ak cP (a6 3) (a6 4) (λ_ _=>rfl)) (a6 5) (a6 6) rfl)
     (aK (iW (kY hr) (ak cP (a6 3) (a6 4) (λ_ _=>rfl)) (a6 6) (a6 5) rfl))))))
   (aF (af (i:=7) fm.nd rfl (Or.inl rfl) (cw oN (by rfl) B.int eU (kc (cm fM (a6 1) bJ (bK _)) aA)))
   (aF (af (i:=8) fm.nd rfl (Or.inl rfl) (bn aA))
   (aF (af (i:=9) fm.nd rfl (Or.inl rfl) aG)
   (aF (oB bA (bD oT (a6 9) (bF eF (a6 2) aG) (bK _))
   (aF (af (i:=9) fm.nd rfl (Or.inl rfl) (gM (kY hr) (ak cP (a6 3) (a6 7) (λ_ _=>rfl)) (a6 9) (λ_ _=>rfl)))
    (aF (af (i:=7) fm.nd rfl (Or.inl rfl) (bF qU aG (a6 7)))
    (aK (cO (du aQ aZ aY c6 (a6 8) (aE (a6 9) aA)))))))
   (aK (bB (cw jM (by rfl) B.tuple cK (aO (qS vG (a6 8) w4 (pQ (vU uv aG))) aA))))))))))),?_⟩
  nofun;intro d0 n0 d1 n1;refine⟨(by show 2<=sizeLine;decide),λdl nl=>?_⟩;have ne1:d0≠d1:=λe=>by subst e;rw[aC] at n1;cases n1
  have ne2:d1≠dl:=λe=>by subst e;rw[aC] at nl;cases nl
  have ne3:d0≠dl:=λe=>by subst e;rw[aI ne1,aC] at nl;cases nl
  have s1:=(aV.refl H).new (o:=.dK []) n0;have s2:=s1.trans ((aV.refl _).new (o:=.dK []) n1);have s3:=s2.trans ((aV.refl _).new (o:=.lst [.ref d0,.ref d1]) nl);have e0:bE (bE (bE H d0 (.dK [])) d1 (.dK [])) dl (.lst [.ref d0,.ref d1]) d0=some (.dK []):=by rw[aI ne3,aI ne1,aC]
  have e1:bE (bE (bE H d0 (.dK [])) d1 (.dK [])) dl (.lst [.ref d0,.ref d1]) d1=some (.dK []):=by rw[aI ne2,aC]
  have el:bE (bE (bE H d0 (.dK [])) d1 (.dK [])) dl (.lst [.ref d0,.ref d1]) dl=some (.lst [.ref d0,.ref d1]):=aC;have m1:=s1.free n1;have ml:=s2.free nl;generalize bE (bE (bE H d0 (.dK [])) d1 (.dK [])) dl (.lst [.ref d0,.ref d1])=H3 at s3 e0 e1 el ⊢;generalize hD:(λu:Bool=>if u then d1 else d0)=D;have D0:d0=D false:=by rw[<-hD];rfl
  have D1:d1=D true:=by rw[<-hD];rfl
  rw[D0,D1] at el;have eD:∀u,H3 (D u)=some (.dK []):=λu=>by cases u;rw[<-D0];exact e0;rw[<-D1];exact e1
  have nD:∀u,H (D u)=none:=λu=>by cases u;rw[<-D0];exact n0;rw[<-D1];exact m1
  have lD:∀u,dl≠D u:=λu=>by cases u;rw[<-D0];exact ne3.symm;rw[<-D1];exact ne2.symm
  have dD:D false≠D true:=by rw[<-D0,<-D1];exact ne1
  clear s1 s2 n1 nl e0 e1 hD;subst D0;nofun;refine cJ (λσ H'=>∃x4 x5 x6:Option V,σ=[some (.ref fd),some (.str (sd b)),some (.int ns.length),some (.ref dl),x4,x5,x6,none,none,none]/\aV H H'/\H' dl=some (.lst [.ref (D false),.ref (D true)])/\∀u,∃kvs,H' (D u)=some (.dK kvs)/\B8 kvs (Fs u)) ?_ ?_
  ·nofun;refine⟨by decide,by decide,?_⟩;refine eg (n:=Int.toNat 2) (λi σ H'=>∃x4 x5 x6:Option V,σ=[some (.ref fd),some (.str (sd b)),some (.int ns.length),some (.ref dl),x4,x5,x6,none,none,none]/\aV H H'/\H' dl=some (.lst [.ref (D false),.ref (D true)])/\∀u:Bool,∃kvs,H' (D u)=some (.dK kvs)/\B8 kvs (if (if u then 1 else 0)<i then Fs u else [])) ⟨_,_,_,rfl,s3,el,λu=>⟨[],eD u,by rw[Vy (by lia)];exact B8.nil⟩⟩ ?_ ?_
   ·rintro i σ H4 hi ⟨x4,x5,x6,rfl,s4,el4,hd4⟩;obtain⟨v,rfl⟩:∃v:Bool,i=if v then 1 else 0:=by
     have hi':i<2:=hi;rcases(show i=0\/i=1 by lia) with rfl | rfl
     ·exact⟨false,rfl⟩
     ·exact⟨true,rfl⟩
    have F4:=FO.same s4;obtain⟨cs,c1,cl,cg⟩:=(FO.bows v).get;nofun;refine⟨_,.ref (g v),cW.of F4.at_,by cases v<;>rfl,_,rfl,⟨_,cW.of (s4 _ _ c1)⟩,?_⟩;refine iZ (xs:=cs.map V.ref) (λj σ H'=>∃x5 x6:Option V,σ=[some (.ref fd),some (.str (sd b)),some (.int ns.length),some (.ref dl),some (.int (0+((if v then 1 else 0:Nat):Int))),x5,x6,none,none,none]/\aV H H'/\H' dl=some (.lst [.ref (D false),.ref (D true)])/\(∃kvs,H' (D v)=some (.dK kvs)/\B8 kvs ((Fs v).take j))/\∃kvs,H' (D (!v))=some (.dK kvs)/\B8 kvs (if v then Fs (!v) else [])) ?_ ?_ ?_ ?_
    ·refine⟨_,_,rfl,s4,el4,?_,?_⟩
     ·obtain⟨kvs,h1,h2⟩:=hd4 v;rw[Vy (by lia)] at h2;exact⟨kvs,h1,h2⟩
     ·obtain⟨kvs,h1,h2⟩:=hd4 (!v);refine⟨kvs,h1,?_⟩;cases v
      ·exact h2
      ·exact h2
    ·rintro j σ H' _ ⟨_,_,_,s5,_⟩;exact cW.of (s5 _ _ c1)
    ·rintro j x σ H5 hx ⟨x5,x6,rfl,s5,el5,⟨kvs,k1,k2⟩,⟨kvs',k1',k2'⟩⟩;obtain⟨a,p,rfl,hp,ta⟩:=cg j x hx;have hm:=bG hp;have hm':=(FO.perm v).mem_iff.mp hm;have tk:(Fs v).take (j+1)=(Fs v).take j++[p]:=by rw[bV,hp];rfl
     have lt:p.1≠p.2:=by
      obtain⟨i',hi',_,rfl⟩:=dy hm';have:=O.step_lt (i:=i') (by lia);lia
     have A2:=k2.add (p:=p) (λr hr x h1 h2=>O.uq ((FO.perm v).mem_iff.mp (List.mem_of_mem_take hr)) hm' h1 h2) lt;have fl:(Fs v).length<=30:=by cases v<;>lia
     have l1:kvs.length<sizeLine:=aq (by have:=k2.len;rw[cZ] at this;lia);have l2:(putK kvs (.inl p.1:Key) (.int p.2)).length<sizeLine:=aq (by have:=k2.len;have h1:=dP kvs (.inl p.1:Key) (.int p.2);rw[cZ] at this;lia);nofun;refine⟨_,c8.of (ta.same s5),rfl,?_⟩;nofun;have at5:tS [V.ref (D false),V.ref (D true)] (0+((if v then 1 else 0:Nat):Int))=some (.ref (D v)):=by cases v<;>rfl
     have el6:bE H5 (D v) (.dK (putK kvs (.inl p.1:Key) (.int p.2))) dl=some (.lst [.ref (D false),.ref (D true)]):=by rw[aI (lD v)];exact el5
     have el7:bE (bE H5 (D v) (.dK (putK kvs (.inl p.1:Key) (.int p.2)))) (D v) (.dK (putK (putK kvs (.inl p.1:Key) (.int p.2)) (.inl p.2:Key) (.int p.1))) dl=some (.lst [.ref (D false),.ref (D true)]):=by rw[aI (lD v)];exact el6
     have dv:D (!v)≠D v:=by cases v;exact dD.symm;exact dD
     refine⟨_,_,cW.of el5,at5,D v,_,rfl,qK.k (k:=.inl p.1) k1 l1,_,_,cW.of el6,at5,D v,_,rfl,qK.k (k:=.inl p.2) aC l2,_,_,rfl,(s5.new (nD v)).new (nD v),el7,⟨_,aC,by rw[tk];exact A2⟩,kvs',by rw[aI dv,aI dv];exact k1',k2'⟩
    ·rintro σ H5 ⟨x5,x6,rfl,s5,el5,⟨kvs,k1,k2⟩,⟨kvs',k1',k2'⟩⟩;rw[aD,cl,cB] at k2;refine⟨_,_,_,rfl,s5,el5,λu=>?_⟩;by_cases e:u=v
     ·subst e;exact⟨kvs,k1,by rw[Vz (by lia)];exact k2⟩
     ·have e2:u=!v:=by cases u<;>cases v<;>simp_all
      subst e2;refine⟨kvs',k1',?_⟩;cases v
      ·exact k2'
      ·exact k2'
   ·rintro σ H4 ⟨x4,x5,x6,rfl,s4,el4,hd4⟩;refine⟨_,_,_,rfl,s4,el4,λu=>?_⟩;obtain⟨kvs,h1,h2⟩:=hd4 u;rw[Vz (by cases u<;>decide)] at h2;exact⟨kvs,h1,h2⟩
  ·rintro σ H4 ⟨x4,x5,x6,rfl,s4,el4,hd4⟩;nofun;refine⟨ac _,λl nl=>?_⟩;have s5:=s4.trans ((aV.refl _).new (o:=.lst []) nl);have nl0:=s4.free nl;have lne:∀u,D u≠l:=λu=>by obtain⟨_,h1,_⟩:=hd4 u;exact av h1 nl
   have lnd:dl≠l:=av el4 nl;have hd5:∀u,∃kvs,bE H4 l (.lst []) (D u)=some (.dK kvs)/\B8 kvs (Fs u):=λu=>by
    obtain⟨kvs,h1,h2⟩:=hd4 u;exact⟨kvs,by rw[aI (lne u)];exact h1,h2⟩
   simp only[IM];refine⟨λm σ H2=>∃(i:Nat),σ=[some (.ref fd),some (.str (sd b)),some (.int ns.length),some (.ref dl),x4,x5,x6,some (.int (if (b ^^ odd i) then 1 else 0)),some (.ref l),some (.int (bQ ns i))]/\aV H H2/\H2 dl=some (.lst [.ref (D false),.ref (D true)])/\(∀u,∃kvs,H2 (D u)=some (.dK kvs)/\B8 kvs (Fs u))/\H2 l=some (.lst (((dI ns).drop 1).take i |>.map V.int))/\i<=ns.length+1/\m=ns.length+1-i,⟨_,0,by rw[vN,show odd 0=false from rfl,kW],s5,by rw[aI lnd];exact el4,hd5,aC,ac _,rfl⟩,?_⟩;rintro m σ H6 ⟨i,rfl,s6,el6,hd6,hl6,hi,rfl⟩;nofun;refine fV (λhne=>?_) (λhe=>?_)
   ·have hin:i<=ns.length:=by
     apply gp;intro z;have:i=ns.length+1:=by lia
     subst this;exact hne (fu ns)
    have on:cV ns i∈Fs (b ^^ odd i):=(FO.perm _).mem_iff.mpr (gx (by lia) (rC b i));obtain⟨kvs,k1,k2⟩:=hd6 (b ^^ odd i);have kg:=k2.at_ _ on;have kv:d6 kvs (.inl (bQ ns i):Key)=some (.int (bQ ns (i+1))):=by
     by_cases z:bQ ns i<=bQ ns (i+1)
     ·have e1:(cV ns i).1=bQ ns i:=by unfold cV;dsimp only;lia
      have e2:(cV ns i).2=bQ ns (i+1):=by unfold cV;dsimp only;lia
      rw[e1,e2] at kg;exact kg.1
     ·have e1:(cV ns i).2=bQ ns i:=by unfold cV;dsimp only;lia
      have e2:(cV ns i).1=bQ ns (i+1):=by unfold cV;dsimp only;lia
      rw[e1,e2] at kg;exact kg.2
    have gk:=j6.k (k:=.inl (bQ ns i)) k1;rw[kv] at gk;have ek:(1:Int)-(if (b ^^ odd i) then 1 else 0)=if (b ^^ odd (i+1)) then 1 else 0:=by
     rw[kI];cases b<;>cases odd i<;>rfl
    rw[ek];have tk:((dI ns).drop 1).take (i+1)=((dI ns).drop 1).take i++[bQ ns (i+1)]:=by
     rw[bV,List.getElem?_drop,Nat.add_comm 1 i,fT (by lia)];rfl
    refine⟨λσ' H'=>σ'=[some (.ref fd),some (.str (sd b)),some (.int ns.length),some (.ref dl),x4,x5,x6,some (.int (if (b ^^ odd (i+1)) then 1 else 0)),some (.ref l),some (.int (bQ ns (i+1)))]/\aV H H'/\H' dl=some (.lst [.ref (D false),.ref (D true)])/\(∀u,∃kvs,H' (D u)=some (.dK kvs)/\B8 kvs (Fs u))/\H' l=some (.lst (((dI ns).drop 1).take (i+1) |>.map V.int)),λσ' H' ⟨e,a,c,d,f⟩=>⟨ns.length+1-(i+1),by lia,i+1,e,a,c,d,f,by lia,rfl⟩,?_⟩;refine⟨_,.ref (D (b ^^ odd i)),cW.of el6,by cases (b ^^ odd i)<;>rfl,D (b ^^ odd i),_,rfl,gk,fP hl6,_,hl6,by rw[aD,cZ];exact aq (by lia),rfl,s6.new nl0,by rw[aI lnd];exact el6,λu=>?_,by rw[aC,tk,ar];rfl⟩;obtain⟨kvs,h1,h2⟩:=hd6 u;exact⟨kvs,by rw[aI (lne u)];exact h1,h2⟩
   ·have:i=ns.length+1:=O.row_inj (by lia) (by lia) ((ky.mp he).trans (fu ns).symm);subst this;have er:((dI ns).drop 1).take (ns.length+1)=ns++[(ns.length:Int)+1]:=by
     show (ns++[(ns.length:Int)+1]).take (ns.length+1)=_;rw[i6 (by simp)]
    rw[er] at hl6;rw[ar] at hl6;refine⟨l,_,rfl,cW.of hl6,λp np=>⟨p,_,rfl,.inl ⟨cW.of aC,λt nt=>?_⟩⟩⟩;rw[show (List.map V.int [(ns.length:Int)+1])=[V.int ((ns.length:Int)+1)] from rfl,BU] at nt ⊢;have s7:=s6.trans ((aV.refl _).new (o:=.lst (ns.map V.int)) np);exact q t _ (s7.free nt) (s7.trans ((aV.refl _).new nt)) aC
def F7 (B:nZ mg) (E:Fn K mg "_law_maze" qQ ["_law_cell","_law_rows"]) (PB:fJ P w K mg base 1 "_law_digits" kC ["_law_cell","_law_many"] xv) (Mj:fJ P w K mg base 2 "_law_closing_letter" dg ["_law_left","_law_right"] sK) (RE:fJ P w K mg base 3 "_law_letter" lH ["_law_left","_law_right","_law_want","_law_after"] uK)
  (SQ:fJ P w K mg base 2 "_law_ring" qP ["_law_left","_law_right","_law_bows_here","_law_row","_law_letter_here"] vA) (RF:fJ P w K mg base 1 "_law_walked" lE ["_law_bows_here","_law_side","_law_n"] uH):fJ P w K mg base 4 "_law_maze" qQ ["_law_cell","_law_rows"] z5:=E.mk' λf fd F=>by
 refine F.okS iB (λvs H Q E h=>?_) (λcdv A outer s H vs Q E hr h=>?_)
 ·obtain⟨c,n,rfl,_⟩:=h;rfl
 ·obtain⟨c,rw0,rfl,h9,q⟩:=h;refine⟨[some (.int c),some (.int rw0),none,none,none,none,none,none,none,none,none],_,rfl,(L2.ig.h (aF (af (i:=2) iB.nd rfl (Or.inl rfl) (ak yk bJ (bF fz (a6 0) aG) (λ_ _=>rfl)))
   (aF (af (i:=3) iB.nd rfl (Or.inl rfl) (ae PB (hr.mono (by decide)) (by rfl) (cf (bF oH (a6 0) aG) (aE (a6 1) aA))))
   (aF (af (i:=4) iB.nd rfl (Or.inl rfl) (bn aA))
   (aF (af (i:=5) iB.nd rfl (Or.inl rfl) (bn aA))
   (aF (af (i:=6) iB.nd rfl (Or.inl rfl) (bn (lM (bn aA) (lM (bn aA) aA))))
   (dm (cO (du aQ aZ aY c6 (ak cP (bn (aE (a6 4) (aE (a6 5) aA))) (cw oN (by rfl) B.int eU (kc (cm fM (a6 2) bJ (bK _)) aA)) (λ_ _=>rfl)) (cI (bf (aP aG (aP aG aA))) aA)))
   (aF (af (i:=7) iB.nd rfl (Or.inl rfl) aG)
   (dm (oB bA (QW.pt (iV (bD kH (a6 7) (a6 1) (bK _)) (g6 (bD uW (bF eF (a8 bR (by rfl) B.len aw (aE (a6 4) aA)) (a8 bR (by rfl) B.len aw (aE (a6 5) aA))) aG (bK _)))))
   (aF (af (i:=8) iB.nd rfl (Or.inl rfl) (ae Mj (hr.mono (by decide)) (by rfl) (aE (a6 4) (aE (a6 5) aA))))
    (aF (cA (bD kH (a6 7) (a6 1) (bK _))
    (aK (af (i:=8) iB.nd rfl (Or.inl rfl) (ae RE (hr.mono (by decide)) (by rfl) (aE (a6 4) (aE (a6 5) (cf (bF fz (ak cP (a6 3) (a6 7) (λ_ _=>rfl)) aG) (cf (bF qU (bF qU (a6 1) (a6 7)) aG) aA)))))))
    bL)
    (aF (af (i:=7) iB.nd rfl (Or.inl rfl) (bF eF (a6 7) aG))
    (aK (cO (ae SQ (hr.mono (by decide)) (by rfl) (aE (a6 4) (aE (a6 5) (aE (a6 6) (aE (a6 7) (aE (a6 8) aA))))))))))))
   (dm (dH bA rfl (dX (by rfl) B.range (aP aG aA)) (bI (i:=9) iB.nd rfl (Or.inl rfl))
   (aK (dH bA rfl (fE (ak cP (bn (aE (a6 4) (aE (a6 5) aA))) (a6 9) (λ_ _=>rfl))) (bI (i:=10) iB.nd rfl (Or.inl rfl))
    (aK (cO (du aQ aZ aY c6 (ak cP (a6 6) (a6 9) (λ_ _=>rfl)) (cI (bf (aO (ak b6 (a6 10) aG (λ_ _=>rfl)) (cf (bF eF (a6 7) aG) aA))) aA)))))))
   (aK (bB (bf (aE (a6 2) (bx (ae RF (hr.mono (by decide)) (by rfl) (aE (a6 6) (aE (a6 2) (aE (a6 7) aA)))) aA))))))))))))))),?_⟩
  nofun;refine⟨by decide,by decide,_,HE (dw _ (by decide)) (dL _ (by decide)),?_⟩;rw[HA];generalize decide (c % 2=1)=b;refine⟨⟨by decide,by decide⟩,_,rw0,rfl,by lia,λdl ds H1 nd s1 hd hdl=>?_⟩;refine⟨ac _,λp n0=>⟨ac _,λp1 n1=>⟨ac _,λq0 n2=>⟨ac _,λq1 n3=>⟨(by show 2<=sizeLine;decide),λfd n4=>?_⟩⟩⟩⟩⟩;refine cJ (λσ H'=>∃oe A' B',σ=[some (.int c),some (.int rw0),some (.str (sd b)),some (.ref dl),some (.ref (A' false)),some (.ref (A' true)),some (.ref fd),none,none,none,none]/\aV H H'/\(∀u,H (A' u)=none/\H (B' u)=none)/\H' dl=some (.lst (ds.map V.int))/\(∀u,dl≠A' u/\dl≠B' u)/\GS H' oe fd A' B' (λu=>if u=b then [((0:Int),(0:Int))] else []) (λ_=>[])) ?_ ?_
  ·have u1:=s1.trans ((aV.refl H1).new (o:=.lst []) n0);have v1:=(aV.refl H1).new (o:=.lst []) n0;have v2:=v1.trans ((aV.refl _).new (o:=.lst []) n1);have v3:=v2.trans ((aV.refl _).new (o:=.lst []) n2);have v4:=v3.trans ((aV.refl _).new (o:=.lst []) n3);have v5:=v4.trans ((aV.refl _).new (o:=.lst [.ref q0,.ref q1]) n4);have m1:=v1.free n1;have m2:=v2.free n2;have m3:=v3.free n3;have m4:=v4.free n4;have e01:p≠p1:=λe=>by subst e;rw[aC] at n1;cases n1
   have e12:p1≠q0:=λe=>by subst e;rw[aC] at n2;cases n2
   have e02:p≠q0:=λe=>by subst e;rw[aI e01,aC] at n2;cases n2
   have e23:q0≠q1:=λe=>by subst e;rw[aC] at n3;cases n3
   have e13:p1≠q1:=λe=>by subst e;rw[aI e12,aC] at n3;cases n3
   have e03:p≠q1:=λe=>by subst e;rw[aI e02,aI e01,aC] at n3;cases n3
   have e34:q1≠fd:=λe=>by subst e;rw[aC] at n4;cases n4
   have e24:q0≠fd:=λe=>by subst e;rw[aI e23,aC] at n4;cases n4
   have e14:p1≠fd:=λe=>by subst e;rw[aI e13,aI e12,aC] at n4;cases n4
   have e04:p≠fd:=λe=>by subst e;rw[aI e03,aI e02,aI e01,aC] at n4;cases n4
   have g0:bE (bE (bE (bE (bE H1 p (.lst [])) p1 (.lst [])) q0 (.lst [])) q1 (.lst [])) fd (.lst [.ref q0,.ref q1]) p=some (.lst []):=by rw[aI e04,aI e03,aI e02,aI e01,aC]
   have g1:bE (bE (bE (bE (bE H1 p (.lst [])) p1 (.lst [])) q0 (.lst [])) q1 (.lst [])) fd (.lst [.ref q0,.ref q1]) p1=some (.lst []):=by rw[aI e14,aI e13,aI e12,aC]
   have g2:bE (bE (bE (bE (bE H1 p (.lst [])) p1 (.lst [])) q0 (.lst [])) q1 (.lst [])) fd (.lst [.ref q0,.ref q1]) q0=some (.lst []):=by rw[aI e24,aI e23,aC]
   have g3:bE (bE (bE (bE (bE H1 p (.lst [])) p1 (.lst [])) q0 (.lst [])) q1 (.lst [])) fd (.lst [.ref q0,.ref q1]) q1=some (.lst []):=by rw[aI e34,aC]
   have g4:bE (bE (bE (bE (bE H1 p (.lst [])) p1 (.lst [])) q0 (.lst [])) q1 (.lst [])) fd (.lst [.ref q0,.ref q1]) fd=some (.lst [.ref q0,.ref q1]):=aC;generalize bE (bE (bE (bE (bE H1 p (.lst [])) p1 (.lst [])) q0 (.lst [])) q1 (.lst [])) fd (.lst [.ref q0,.ref q1])=H2 at v5 g0 g1 g2 g3 g4 ⊢;clear v1 v2 v3 v4 u1 n1 n2 n3 n4;generalize hA:(λu:Bool=>if u then p1 else p)=A';generalize hB:(λu:Bool=>if u then q1 else q0)=B';have A0:p=A' false:=by rw[<-hA];rfl
   have A1:p1=A' true:=by rw[<-hA];rfl
   have B0:q0=B' false:=by rw[<-hB];rfl
   have B1:q1=B' true:=by rw[<-hB];rfl
   clear hA hB;subst A0 A1 B0 B1;have gA:∀u,H2 (A' u)=some (.lst []):=λu=>by cases u;exact g0;exact g1
   have gB:∀u,H2 (B' u)=some (.lst []):=λu=>by cases u;exact g2;exact g3
   have nA:∀u,H1 (A' u)=none:=λu=>by cases u;exact n0;exact m1
   have nB:∀u,H1 (B' u)=none:=λu=>by cases u;exact m2;exact m3
   have ab:∀u v,A' u≠B' v:=λu v=>by cases u<;>cases v<;>assumption
   have fA:∀u,A' u≠fd:=λu=>by cases u<;>assumption
   have fB:∀u,B' u≠fd:=λu=>by cases u<;>assumption
   clear g0 g1 g2 g3 n0 m1 m2 m3 e02 e03 e12 e13 e04 e14 e24 e34;nofun;refine⟨(by show 2<=sizeLine;decide),λoe no=>?_⟩;have v6:=(aV.refl H2).new (o:=.lst [.ref (A' false),.ref (A' true)]) no;have go:bE H2 oe (.lst [.ref (A' false),.ref (A' true)]) oe=some (.lst [.ref (A' false),.ref (A' true)]):=aC;have nAo:∀u,A' u≠oe:=λu=>av (gA u) no;have nBo:∀u,B' u≠oe:=λu=>av (gB u) no;generalize bE H2 oe (.lst [.ref (A' false),.ref (A' true)])=H3 at v6 go ⊢;have gA3:=λu=>v6 _ _ (gA u);have gB3:=λu=>v6 _ _ (gB u);have g43:=v6 _ _ g4;refine⟨_,.ref (A' b),cW.of go,by simp only[IM];cases b<;>rfl,fP (gA3 b),(by show 2<=sizeLine;decide),λt nt=>?_⟩;have v7:=(aV.refl H3).new (o:=.tup [.int 0,.int 0]) nt;refine⟨A' b,[],_,rfl,rfl,v7 _ _ (gA3 b),by decide,?_⟩;rw[eh];have t5:bi (bE H3 t (.tup [.int 0,.int 0])) t (0,0):=aC;have eA:=v7 _ _ (gA3 b);have s5:aV H1 (bE (bE H3 t (.tup [.int 0,.int 0])) (A' b) (.lst [.ref t])):=((v5.trans v6).trans v7).new (nA b);have aa:∀u,u≠b->A' u≠A' b:=λu z=>by cases u<;>cases b<;>first | exact absurd rfl z | exact e01 | exact e01.symm
   refine⟨oe,A',B',rfl,s1.trans s5,λu=>⟨s1.free (nA u),s1.free (nB u)⟩,s5 _ _ hd,λu=>⟨av hd (nA u),av hd (nB u)⟩,⟨by rw[aI (nAo b).symm];exact v7 _ _ go,by rw[aI (fA b).symm];exact v7 _ _ g43,λu=>?_,λu=>⟨[],by rw[aI (ab b u).symm];exact v7 _ _ (gB3 u),.nil⟩,e01,e23,ab,λu=>⟨(nAo u).symm,(nBo u).symm,(fA u).symm,(fB u).symm⟩⟩⟩;by_cases z:u=b
   ·subst z;rw[Vz rfl];exact⟨[t],aC,.cons (k8 eA t5) .nil⟩
   ·rw[Vy z];exact⟨[],by rw[aI (aa u z)];exact v7 _ _ (gA3 u),.nil⟩
  rintro σ' H2 ⟨oe,A',B',rfl,s2,nAB,hd2,dn,G⟩;nofun;refine cJ (λσ H'=>∃(n:Nat) (st:Bool->List Oe) (f:Bool->List Bw) (is:List Pc) (x8:Option V),σ=[some (.int c),some (.int rw0),some (.str (sd b)),some (.ref dl),some (.ref (A' false)),some (.ref (A' true)),some (.ref fd),some (.int n),x8,none,none]/\aV H H'/\GS H' oe fd A' B' st f/\Gr b st f (n+1) is/\(st false).length+(st true).length=1/\n<=20) ?_ ?_
  ·nofun;refine⟨λm σ H'=>∃(n:Nat) (st:Bool->List Oe) (f:Bool->List Bw) (is:List Pc) (x8:Option V),σ=[some (.int c),some (.int rw0),some (.str (sd b)),some (.ref dl),some (.ref (A' false)),some (.ref (A' true)),some (.ref fd),some (.int n),x8,none,none]/\aV H H'/\H' dl=some (.lst (ds.map V.int))/\GS H' oe fd A' B' st f/\Gr b st f (n+1) is/\((st false).length+(st true).length) / 2<=n/\(((st false).length+(st true).length) / 2+n<=rw0\/n+AV st<=20)/\n<=20/\m=21-n,⟨_,0,_,_,_,none,rfl,s2,hd2,G,Gr.start b,by cases b<;>decide,.inl (by cases b<;>exact ac _),by decide,rfl⟩,?_⟩;rintro m σ H3 ⟨n,st,f,is,x8,rfl,s3,hd3,G3,GG,i1,i2,i3,rfl⟩;obtain⟨as,a1,a2⟩:=id (G3.s false);obtain⟨bs,b1,b2⟩:=id (G3.s true);have la:(as.map V.ref).length=(st false).length:=by rw[aD];exact ba a2
   have lb:(bs.map V.ref).length=(st true).length:=by rw[aD];exact ba b2
   have hmany:=GG.many;nofun;have e1:(n:Int)+1=((n+1:Nat):Int):=by lia
   rw[e1];have hsm:=GG.small;have step:(n<rw0\/1<(st false).length+(st true).length)->∀(k:Nat) H',aV H3 H'->(k=EZ st\/(n<rw0/\k<4/\pz st k=true/\qD ((st false).length+(st true).length) k<=1+2*((rw0:Int)-n - 1))) →
     vA [V.ref (A' false),V.ref (A' true),V.ref fd,V.int ((n+1:Nat):Int),V.int k] H' (λ_ H1=>(λσ' H'=>∃(st:Bool->List Oe) (f:Bool->List Bw) (is:List Pc) (x8:Option V),σ'=[some (.int c),some (.int rw0),some (.str (sd b)),some (.ref dl),some (.ref (A' false)),some (.ref (A' true)),some (.ref fd),some (.int ((n+1:Nat):Int)),x8,none,none]/\aV H H'/\H' dl=some (.lst (ds.map V.int))/\GS H' oe fd A' B' st f/\Gr b st f (n+1+1) is/\((st false).length+(st true).length) / 2<=n+1/\(((st false).length+(st true).length) / 2+(n+1)<=rw0\/n+1+AV st<=20)/\n+1<=20)
      [some (.int c),some (.int rw0),some (.str (sd b)),some (.ref dl),some (.ref (A' false)),some (.ref (A' true)),some (.ref fd),some (.int ((n+1:Nat):Int)),some (.int k),none,none] H1) E0:=λgo k H' s' hk=>by
    obtain⟨st',f',js,P,G',j1,j2,j3⟩:=GG.let_step h9 i1 i2 go hk;refine⟨oe,fd,A',B',st,f,st',f',k,n+1,rfl,G3.same s',λu=>⟨by have:=(hsm u).1;lia,by have:=(hsm u).2;lia⟩,P,λH5 F5 G5=>⟨st',f',js,_,rfl,Fr.toSame nAB (s3.trans s') F5,F5 _ _ dn (s' _ _ hd3),G5,G',j1,j2,j3⟩⟩
   have back:∀(σ':L2.St) (H':Hp),(∃(st:Bool->List Oe) (f:Bool->List Bw) (is:List Pc) (x8:Option V),σ'=[some (.int c),some (.int rw0),some (.str (sd b)),some (.ref dl),some (.ref (A' false)),some (.ref (A' true)),some (.ref fd),some (.int ((n+1:Nat):Int)),x8,none,none]/\aV H H'/\H' dl=some (.lst (ds.map V.int))/\GS H' oe fd A' B' st f/\Gr b st f (n+1+1) is/\((st false).length+(st true).length) / 2<=n+1/\(((st false).length+(st true).length) / 2+(n+1)<=rw0\/n+1+AV st<=20)/\n+1<=20)->∃m',m'<21-n/\∃(n:Nat) (st:Bool->List Oe) (f:Bool->List Bw) (is:List Pc) (x8:Option V),σ'=[some (.int c),some (.int rw0),some (.str (sd b)),some (.ref dl),some (.ref (A' false)),some (.ref (A' true)),some (.ref fd),some (.int n),x8,none,none]/\aV H H'/\H' dl=some (.lst (ds.map V.int))/\GS H' oe fd A' B' st f/\Gr b st f (n+1) is/\((st false).length+(st true).length) / 2<=n/\(((st false).length+(st true).length) / 2+n<=rw0\/n+AV st<=20)/\n<=20/\m'=21-n:=
    λσ' H' ⟨st',f',js,x8,e,a,c',d,g,h,i,j⟩=>⟨21-(n+1),by lia,n+1,st',f',js,x8,e,a,c',d,g,h,i,j,rfl⟩
   refine fV (λhlt=>?_) (λhge=>⟨_,.inl (cW.of a1),_,.inl (cW.of b1),?_⟩)
   ·refine⟨_,back,oe,fd,A',B',st,f,rfl,G3,λH4 s4=>mQ hlt ?_⟩;have hx:ds[n]? = some ds[n]:=aS (by lia);refine⟨_,_,cW.of (s4 _ _ hd3),jN (by rw[bW,hx];rfl),_,_,rfl,rfl,(by show (0:Int)<4;decide),?_⟩;exact⟨oe,fd,A',B',st,f,_,_,rfl,G3.same s4,λu=>by have:=(hsm u).1;lia,λk H5 s5 hk=>step (.inl (by lia)) k H5 (s4.trans s5) (hk.imp id λ⟨a,b,c⟩=>⟨by lia,a,b,c⟩)⟩
   ·rw[la,lb];refine fV (λhlt=>?_) (λhle=>?_)
    ·exact⟨_,back,oe,fd,A',B',st,f,rfl,G3,λH4 s4=>jw hge (step (.inr (by lia)) _ H4 s4 (.inl rfl))⟩
    ·exact⟨n,st,f,is,x8,rfl,s3,G3,GG,by lia,i3⟩
  rintro σ' H4 ⟨n,st,f,is,x8,rfl,s4,G4,GG,h1,h20⟩;nofun;obtain⟨t,o,l,ht,ht'⟩:∃t o l,st t=[(o,l)]/\st (!t)=[]:=by
   rcases(show (st false).length=1/\(st true).length=0\/(st true).length=1/\(st false).length=0 by lia) with ⟨h2,h3⟩ | ⟨h2,h3⟩
   ·obtain⟨⟨o,l⟩,e⟩:=i7.mp h2;exact⟨false,o,l,e,dE h3⟩
   ·obtain⟨⟨o,l⟩,e⟩:=i7.mp h2;exact⟨true,o,l,e,dE h3⟩
  obtain⟨ns,nl,np,hns⟩:=GG.last ht ht';have hsm:=GG.small;refine cJ (λσ H'=>∃(x9 x10:Option V),σ=[some (.int c),some (.int rw0),some (.str (sd b)),some (.ref dl),some (.ref (A' false)),some (.ref (A' true)),some (.ref fd),some (.int n),x8,x9,x10]/\aV H H'/\GS H' oe fd A' B' st (λu=>f u++(st u).map λe=>(e.1,((n+1:Nat):Int)))) ?_ ?_
  ·nofun;refine⟨by decide,by decide,?_⟩;refine eg (n:=Int.toNat 2) (λi σ H'=>∃(x9 x10:Option V),σ=[some (.int c),some (.int rw0),some (.str (sd b)),some (.ref dl),some (.ref (A' false)),some (.ref (A' true)),some (.ref fd),some (.int n),x8,x9,x10]/\aV H H'/\GS H' oe fd A' B' st (λu=>if (if u then 1 else 0)<i then f u++(st u).map (λe=>(e.1,((n+1:Nat):Int))) else f u)) ⟨_,_,rfl,s4,G4.cg (λ_=>rfl) λu=>by rw[Vy (by lia)]⟩ ?_ ?_
   ·rintro i σ H5 hi ⟨x9,x10,rfl,s5,G5⟩;obtain⟨v,rfl⟩:∃v:Bool,i=if v then 1 else 0:=by
     have hi':i<2:=hi;rcases(show i=0\/i=1 by lia) with rfl | rfl
     ·exact⟨false,rfl⟩
     ·exact⟨true,rfl⟩
    nofun;refine⟨(by show 2<=sizeLine;decide),λtl ntl=>?_⟩;have s6:=(aV.refl H5).new (o:=.lst [.ref (A' false),.ref (A' true)]) ntl;have gt:bE H5 tl (.lst [.ref (A' false),.ref (A' true)]) tl=some (.lst [.ref (A' false),.ref (A' true)]):=aC;generalize bE H5 tl (.lst [.ref (A' false),.ref (A' true)])=H6 at s6 gt ⊢;have G6:=G5.same s6;have s6:=s5.trans s6;clear G5 s5 ntl;obtain⟨as,a1,a2⟩:=id (G6.s v);have la:as.length=(st v).length:=ba a2;refine⟨_,.ref (A' v),cW.of gt,by cases v<;>rfl,_,rfl,⟨_,cW.of a1⟩,?_⟩;refine iZ (xs:=as.map V.ref) (λj σ H'=>∃(x10:Option V),σ=[some (.int c),some (.int rw0),some (.str (sd b)),some (.ref dl),some (.ref (A' false)),some (.ref (A' true)),some (.ref fd),some (.int n),x8,some (.int (0+((if v then 1 else 0:Nat):Int))),x10]/\aV H H'/\H' (A' v)=some (.lst (as.map V.ref))/\Paired (bi H') as (st v)/\GS H' oe fd A' B' st (λu=>if u=v then f v++((st v).take j).map (λe=>(e.1,((n+1:Nat):Int))) else if (if u then 1 else 0)<(if v then 1 else 0) then f u++(st u).map (λe=>(e.1,((n+1:Nat):Int))) else f u)) ?_ ?_ ?_ ?_
    ·refine⟨_,rfl,s6,a1,a2,G6.cg (λ_=>rfl) λu=>?_⟩;by_cases z:u=v
     ·subst z;rw[Vz rfl,Vy (by lia)];simp
     ·rw[Vy z]
    ·rintro j σ H' _ ⟨_,_,_,e,_⟩;exact cW.of e
    ·rintro j x σ H7 hx ⟨x10,rfl,s7,c1,c2,G7⟩;obtain⟨a,ha,rfl⟩:=rZ hx;have hj:j<(st v).length:=by rw[<-la];exact(aH.mp ha).1
     obtain⟨a',ha',ta⟩:=FQ c2 (aS hj);rw[ha] at ha';cases ha';nofun;rw[show (n:Int)+1=((n+1:Nat):Int) by lia];obtain⟨_,eB,_⟩:=G7.f_ v;refine⟨_,.ref (B' v),cW.of G7.fd_,by cases v<;>rfl,fP eB,_,_,c8.of ta,rfl,(by show 2<=sizeLine;decide),λt nt=>?_⟩;have w3:=(aV.refl H7).new (o:=.tup [.int ((st v)[j]).1,.int ((n+1:Nat):Int)]) nt;have t3:bi (bE H7 t (.tup [.int ((st v)[j]).1,.int ((n+1:Nat):Int)])) t (((st v)[j]).1,((n+1:Nat):Int)):=aC;obtain⟨ys,eY,lY,G8⟩:=(G7.new nt).add v t3;refine⟨B' v,ys,_,rfl,rfl,eY,aq ?_,_,rfl,(s7.trans w3).new (nAB v).2,by rw[aI (G6.ab v v)];exact w3 _ _ c1,Paired.mapP c2 λa' q' z=>k8 eY (z.same w3),G8.cg (λ_=>rfl) λu=>?_⟩
     ·rw[Vz rfl,aU,aD,cZ] at lY;have:=hsm v;lia
     ·by_cases z:u=v
      ·subst z;rw[Vz rfl,Vz rfl,Vz rfl,bV,aS hj,ar,cS];rfl
      ·rw[Vy z,Vy z,Vy z]
    ·rintro σ H7 ⟨x10,rfl,s7,c1,c2,G7⟩;refine⟨_,_,rfl,s7,G7.cg (λ_=>rfl) λu=>?_⟩;rw[aD,la,cB];cases u<;>cases v<;>simp
   ·rintro σ H5 ⟨x9,x10,rfl,s5,G5⟩;exact⟨_,_,rfl,s5,G5.cg (λ_=>rfl) λu=>by rw[Vz (by cases u<;>decide)]⟩
  rintro σ' H5 ⟨x9,x10,rfl,s5,G5⟩;nofun;have eP:∀u,(f u++(st u).map λe=>(e.1,((n+1:Nat):Int)))=if u=t then f u++[(o,((n+1:Nat):Int))] else f u:=λu=>by
   by_cases z:u=t
   ·subst z;rw[Vz rfl,ht];rfl
   ·have z':u=!t:=by cases u<;>cases t<;>simp_all
    rw[Vy z,z',ht'];simp
  have O:gm ns:=⟨by lia,np⟩
  refine⟨b,fd,B',ns,_,n,rfl,⟨G5.fd_,G5.f_,λu=>by rw[eP u];exact(hns u).1,O⟩,by lia,λt' H6 nt s6 ht6=>⟨(by show 2<=sizeLine;decide),λm nm=>?_⟩⟩;have s7:=s6.trans ((aV.refl H6).new (o:=.tup [.str (sd b),.ref t']) nm);exact q m t' b ns _ (s5.free (s6.free nm)) (s5.free nt) (s5.trans s7) ⟨aC,((aV.refl H6).new nm) _ _ ht6⟩ O λu=>(hns u).2
def F9 (B:nZ mg) (E:Fn K mg "_law_bows" nH ["_law_maze_here"]):fJ P w K mg base 1 "_law_bows" nH ["_law_maze_here"] rV:=E.mk' λf fd F=>by
 refine F.okS l9 (λvs H Q E h=>?_) (λcdv A outer s H vs Q E hr h=>?_)
 ·obtain⟨m,o,b,ns,rfl,_⟩:=h;rfl
 ·obtain⟨m,o,b,ns,rfl,hm,hl,q⟩:=h;refine⟨[some (.ref m),none,none,none,none,none],_,rfl,(L2.ig.h (aF (af (i:=1) l9.nd rfl (Or.inl rfl) (a8 bR (by rfl) B.len aw (aO (ak b6 (a6 0) aG (λ_ _=>rfl)) aA)))
   (dm (af (i:=2) l9.nd rfl (Or.inl rfl) (bF nK (bF nK (bn (aP aG aA)) (cw qB (by rfl) B.list eG (aO (ak b6 (a6 0) aG (λ_ _=>rfl)) aA))) (bn (cf (bF eF (a6 1) aG) aA))))
   (aF (af (i:=3) l9.nd rfl (Or.inl rfl) (bn (lM (bn aA) (lM (bn aA) aA))))
   (dm (af (i:=4) l9.nd rfl (Or.inl rfl) (cw oN (by rfl) B.int eU (kc (cm fM (ak b6 (a6 0) aG (λ_ _=>rfl)) bJ (bK _)) aA)))
   (aF (dH bA rfl (dX (by rfl) B.range (cf (bF eF (a6 1) aG) aA)) (bI (i:=5) l9.nd rfl (Or.inl rfl))
   (aF (cO (du aQ aZ aY c6 (ak cP (a6 3) (a6 4) (λ_ _=>rfl)) (cI (bf (bx (a8 (uj rfl) (by rfl) B.min md (aO (ak cP (a6 2) (a6 5) (λ_ _=>rfl)) (aO (ak cP (a6 2) (bF eF (a6 5) aG) (λ_ _=>rfl)) aA))) (bx (a8 (qj rfl) (by rfl) B.max ik (aO (ak cP (a6 2) (a6 5) (λ_ _=>rfl)) (aO (ak cP (a6 2) (bF eF (a6 5) aG) (λ_ _=>rfl)) aA))) aA))) aA)))
    (aK (af (i:=4) l9.nd rfl (Or.inl rfl) (bF qU aG (a6 4))))))
   (aK (bB (a6 3))))))))),?_⟩
  nofun;refine⟨_,_,c8.of hm.1,rfl,_,_,rfl,.inr (c8.of hm.2),?_⟩;rw[aD];refine cJ (λσ H'=>∃rl,σ=[some (.ref m),some (.int ns.length),some (.ref rl),none,none,none]/\aV H H'/\H rl=none/\H' rl=some (.lst ((dI ns).map V.int))) ?_ ?_
  ·nofun;refine⟨(by show 1<=sizeLine;decide),λp1 n1=>?_⟩;have s1:=(aV.refl H).new (o:=.lst [.int 0]) n1;refine⟨_,_,c8.of (s1 _ _ hm.1),rfl,o,_,rfl,.inr (c8.of (s1 _ _ hm.2)),λp2 n2=>?_⟩;have s2:=s1.new (o:=.lst (ns.map V.int)) (s1.free n2);have e12:p1≠p2:=λe=>by subst e;rw[aC] at n2;cases n2
   refine⟨p1,p2,_,_,rfl,rfl,by rw[aI e12,aC],aC,ah (aq (by simp;lia)),λp3 n3=>?_⟩;have s3:=s2.new (o:=.lst ([.int 0]++ns.map V.int)) (s2.free n3);refine⟨(by show 1<=sizeLine;decide),λp4 n4=>?_⟩;have s4:=s3.new (o:=.lst [.int ((ns.length:Int)+1)]) (s3.free n4);have e34:p3≠p4:=λe=>by subst e;rw[aC] at n4;cases n4
   refine⟨p3,p4,_,_,rfl,rfl,by rw[aI e34,aC],aC,ah (aq (by simp;lia)),λp5 n5=>?_⟩;have s5:=s4.new (o:=.lst ([.int 0]++ns.map V.int++[.int ((ns.length:Int)+1)])) (s4.free n5);exact⟨p5,rfl,s5,s4.free n5,by rw[aC];simp[dI]⟩
  rintro σ' H1 ⟨rl,rfl,s1,nrl,hrl⟩;nofun;refine⟨ac _,λp np=>⟨ac _,λp1 np1=>⟨(by show 2<=sizeLine;decide),λoe noe=>?_⟩⟩⟩;have u1:=(aV.refl H1).new (o:=.lst []) np;have u2:=u1.new (o:=.lst []) (u1.free np1);have u3:=u2.new (o:=.lst [.ref p,.ref p1]) (u2.free noe);have e1:p≠p1:=λe=>by subst e;rw[aC] at np1;cases np1
  have e2:p≠oe:=λe=>by subst e;rw[aI e1,aC] at noe;cases noe
  have e3:p1≠oe:=λe=>by subst e;rw[aC] at noe;cases noe
  have g1:bE (bE (bE H1 p (.lst [])) p1 (.lst [])) oe (.lst [.ref p,.ref p1]) p=some (.lst []):=by rw[aI e2,aI e1,aC]
  have g2:bE (bE (bE H1 p (.lst [])) p1 (.lst [])) oe (.lst [.ref p,.ref p1]) p1=some (.lst []):=by rw[aI e3,aC]
  have g3:bE (bE (bE H1 p (.lst [])) p1 (.lst [])) oe (.lst [.ref p,.ref p1]) oe=some (.lst [.ref p,.ref p1]):=aC;have np1':=u1.free np1;have noe':=u2.free noe;generalize bE (bE (bE H1 p (.lst [])) p1 (.lst [])) oe (.lst [.ref p,.ref p1])=H3 at u3 g1 g2 g3 ⊢;clear np1 noe u1 u2;generalize hA:(λu:Bool=>if u then p1 else p)=g;have A0:g false=p:=by rw[<-hA];rfl
  have A1:g true=p1:=by rw[<-hA];rfl
  have gA:∀u,H3 (g u)=some (.lst []):=λu=>by cases u;rw[A0];exact g1;rw[A1];exact g2
  have nA:∀u,H1 (g u)=none:=λu=>by cases u;rw[A0];exact np;rw[A1];exact np1'
  have oA:∀u,oe≠g u:=λu=>by cases u;rw[A0];exact e2.symm;rw[A1];exact e3.symm
  have rA:∀u,rl≠g u:=λu=>av hrl (nA u);rw[<-A0,<-A1] at g3 e1;have hrl3:=u3 _ _ hrl;have hm3:dj H3 m o b ns:=(hm.same s1).same u3;have nfd:=s1.free noe';have nfA:∀u,H (g u)=none:=λu=>s1.free (nA u);have s13:=s1.trans u3;refine cJ (λσ H'=>σ=[some (.ref m),some (.int ns.length),some (.ref rl),some (.ref oe),some (.int (if b then 1 else 0)),none]/\H3=H') ?_ ?_
  ·nofun;refine⟨_,_,c8.of hm3.1,rfl,?_⟩;nofun;simp only[IM];exact⟨by first | rfl | trivial,by first | rfl | trivial⟩
  rintro σ' H' ⟨rfl,rfl⟩;nofun;have hlr:((dI ns).map V.int).length=ns.length+2:=by rw[aD,gZ]
  refine⟨by lia,by lia,?_⟩;have en:((ns.length:Int)+1).toNat=ns.length+1:=by lia
  rw[en];refine eg (n:=ns.length+1) (λi σ H'=>∃x4:Option V,σ=[some (.ref m),some (.int ns.length),some (.ref rl),some (.ref oe),some (.int (if (b ^^ odd i) then 1 else 0)),x4]/\aV H H'/\H' rl=some (.lst ((dI ns).map V.int))/\H' oe=some (.lst [.ref (g false),.ref (g true)])/\∀u,c7 H' (g u) (aj b ns u i))
   ⟨none,by rw[show odd 0=false from rfl,kW],s13,hrl3,g3,λu=>⟨[],gA u,.nil⟩⟩ ?_ ?_
  ·rintro i σ H4 hi ⟨x4,rfl,sm,hr4,ho4,hb4⟩;have ek:(1:Int)-(if (b ^^ odd i) then 1 else 0)=if (b ^^ odd (i+1)) then 1 else 0:=by
    rw[kI];cases b<;>cases odd i<;>rfl
   have vk:tS ((dI ns).map V.int) (0+(i:Int))=some (.int (bQ ns i)):=by
    rw[fH];exact jN (by rw[bW,fT (by lia)];rfl)
   have at2:tS ((dI ns).map V.int) (0+(i:Int)+1)=some (.int (bQ ns (i+1))):=by
    rw[show (0:Int)+i+1=((i+1:Nat):Int) by lia];exact jN (by rw[bW,fT (by lia)];rfl)
   nofun;obtain⟨as,a1,a2⟩:=id (hb4 (b ^^ odd i));have la:as.length=(aj b ns (b ^^ odd i) i).length:=ba a2;have hlb:=gV b ns (b ^^ odd i) i;refine⟨_,.ref (g (b ^^ odd i)),cW.of ho4,by cases (b ^^ odd i)<;>rfl,fP a1,_,_,cW.of hr4,vk,_,_,cW.of hr4,at2,_,_,rfl,_,_,cW.of hr4,vk,_,_,cW.of hr4,at2,_,_,rfl,(by show 2<=sizeLine;decide),λt nt=>?_⟩;have emin:(if bQ ns (i+1)<bQ ns i then bQ ns (i+1) else bQ ns i)=(cV ns i).1:=by
    show _=min (bQ ns i) (bQ ns (i+1));rw[Int.min_def];split<;>split<;>lia
   have emax:(if bQ ns (i+1) > bQ ns i then bQ ns (i+1) else bQ ns i)=(cV ns i).2:=by
    show _=max (bQ ns i) (bQ ns (i+1));rw[Int.max_def];split<;>split<;>lia
   rw[emin,emax];have s5:=(aV.refl H4).new (o:=.tup [.int (cV ns i).1,.int (cV ns i).2]) nt;have t5:bi (bE H4 t (.tup [.int (cV ns i).1,.int (cV ns i).2])) t (cV ns i):=aC;have a15:=s5 _ _ a1;refine⟨g (b ^^ odd i),_,_,rfl,rfl,a15,by rw[aD];exact aq (by lia),_,by rw[ek],(sm.trans s5).new (nfA _),by rw[aI (rA _)];exact s5 _ _ hr4,by rw[aI (oA _)];exact s5 _ _ ho4,λu=>?_⟩;by_cases z:u=(b ^^ odd i)
   ·subst z;rw[f7 (rC b i)];exact qk a15 (Paired.mapP a2 λa q w=>w.same s5) t5
   ·have z':u=!(b ^^ odd i):=by revert z;cases u<;>cases (b ^^ odd i)<;>decide
    have gne:g u≠g (b ^^ odd i):=by
     cases u<;>cases hq:(b ^^ odd i)<;>first | exact absurd hq.symm z | exact e1 | exact e1.symm
    rw[z',gK (v9 b i),<-z'];exact hZ ((hb4 u).same s5) a15 gne
  ·rintro σ H4 ⟨x4,rfl,sm,hr4,ho4,hb4⟩;nofun;exact q oe g H4 nfd nfA sm ho4 hb4 e1
def y8 (E:Fn K mg "_law_crosses" jq ["_law_bows_here"]):fJ P w K mg base 1 "_law_crosses" jq ["_law_bows_here"] qu:=E.mk' λf fd F=>by
 refine F.okS jz (λvs H Q E h=>?_) (λcdv A outer s H vs Q E hr h=>?_)
 ·obtain⟨l,ps,rfl,_⟩:=h;rfl
 ·obtain⟨l,ps,rfl,hb,q⟩:=h;refine⟨[some (.ref l),none,none,none,none],_,rfl,(L2.ig.h (aF (dH bA rfl (fE (a6 0)) (jJ (n:=2) rfl (ce (bI (i:=1) jz.nd rfl (Or.inl rfl)) (ce (bI (i:=2) jz.nd rfl (Or.inl rfl)) hU)))
   (aK (dH bA rfl (fE (a6 0)) (jJ (n:=2) rfl (ce (bI (i:=3) jz.nd rfl (Or.inl rfl)) (ce (bI (i:=4) jz.nd rfl (Or.inl rfl)) hU)))
    (aK (cA (sW kH kH kH (a6 1) (a6 3) (a6 2) (a6 4))
     (aK (bB eV))
     bL)))))
   (aK (bB eV)))),?_⟩
  obtain⟨as,b1,bl,bg⟩:=hb.get;nofun;refine⟨⟨_,cW.of b1⟩,iZ (xs:=as.map V.ref) (λi σ H2=>∃x1 x2 x3 x4:Option V,σ=[some (.ref l),x1,x2,x3,x4]/\H=H2/\∀p∈ps.take i,∀q∈ps,bO p q=false) ⟨_,_,_,_,rfl,rfl,λp hp=>by simp at hp⟩ (λi σ H2 _ ⟨_,_,_,_,_,e,_⟩=>by rw[<-e];exact cW.of b1) ?_ ?_⟩
  ·rintro i x σ H2 hx ⟨x1,x2,x3,x4,rfl,rfl,hn⟩;obtain⟨a,p,rfl,hp,ta⟩:=bg i x hx;nofun;refine⟨_,c8.of ta,rfl,?_⟩;nofun;refine⟨⟨_,cW.of b1⟩,iZ (xs:=as.map V.ref) (λj σ H3=>∃x3 x4:Option V,σ=[some (.ref l),some (.int p.1),some (.int p.2),x3,x4]/\H=H3/\∀q∈ps.take j,bO p q=false) ⟨_,_,rfl,rfl,λp hp=>by simp at hp⟩ (λi σ H2 _ ⟨_,_,_,e,_⟩=>by rw[<-e];exact cW.of b1) ?_ ?_⟩
   ·rintro j y σ H3 hy ⟨y3,y4,rfl,rfl,hm⟩;obtain⟨c,q',rfl,hq,tc⟩:=bg j y hy;nofun;refine⟨_,c8.of tc,rfl,?_⟩;nofun;have nx:bO p q'=false->∃x3 x4:Option V,[some (V.ref l),some (V.int p.1),some (V.int p.2),some (V.int q'.1),some (V.int q'.2)]=[some (V.ref l),some (V.int p.1),some (V.int p.2),x3,x4]/\H=H/\∀q∈ps.take (j+1),bO p q=false:=λe=>by
     refine⟨_,_,rfl,rfl,λq2 hq2=>?_⟩;rw[bV,hq] at hq2;rcases a9.mp hq2 with z | z
     ·exact hm q2 z
     ·have e':q2=q':=by simpa using z
      rw[e'];exact e
    refine fV (λh1=>?_) (λh1=>by simpa using nx (by simp[bO,h1]));refine fV (λh2=>?_) (λh2=>by simpa using nx (by simp[bO,h2]));refine fV (λh3=>?_) (λh3=>by simpa using nx (by simp[bO,h3]));rw[ph (bG hp) (bG hq) (by simp[bO,h1,h2,h3])] at q;exact q
   ·rintro σ H3 ⟨y3,y4,rfl,rfl,hm⟩;refine⟨_,_,_,_,rfl,rfl,λp' hp'=>?_⟩;rw[bV,hp] at hp';rcases a9.mp hp' with z | z
    ·exact hn p' z
    ·have e:p'=p:=by simpa using z
     subst e;intro q2 hq2;refine hm q2 ?_;rw[aD,bl,cB];exact hq2
  ·rintro σ H2 ⟨x1,x2,x3,x4,rfl,rfl,hn⟩;nofun;rw[ke (λp hp=>hn p (by rw[aD,bl,cB];exact hp))] at q;exact q
def wu (E:Fn K mg "_law_drawable" iw ["_law_maze_here"]) (PN:fJ P w K mg base 1 "_law_bows" nH ["_law_maze_here"] rV) (QU:fJ P w K mg base 1 "_law_crosses" jq ["_law_bows_here"] qu):fJ P w K mg base 2 "_law_drawable" iw ["_law_maze_here"] Gs:=E.mk' λf fd F=>by
 refine F.okS qz (λvs H Q E h=>?_) (λcdv A outer s H vs Q E hr h=>?_)
 ·obtain⟨m,o,b,ns,rfl,_⟩:=h;rfl
 ·obtain⟨m,o,b,ns,rfl,hm,hl,q⟩:=h;refine⟨[some (.ref m),none],_,rfl,(L2.ig.h (aF (af (i:=1) qz.nd rfl (Or.inl rfl) (ae PN (hr.mono (by decide)) (by rfl) (aE (a6 0) aA)))
   (aK (bB (gF (pR (ae QU (hr.mono (by decide)) (by rfl) (aO (ak cP (a6 1) aG (λ_ _=>rfl)) aA))) (jK (pR (ae QU (hr.mono (by decide)) (by rfl) (aO (ak cP (a6 1) aG (λ_ _=>rfl)) aA))))))))),?_⟩
  nofun;refine⟨m,o,b,ns,rfl,hm,hl,λfd g H1 nf ng s1 hf hb ne=>?_⟩;refine⟨fd,_,_,_,rfl,rfl,cW.of hf,rfl,_,_,rfl,hb false,_,rfl,?_⟩;have:=q _ s1;unfold Gz at this;cases e:hW (aj b ns false (ns.length+1)) with
  | true=>
   rw[e] at this;exact jw (λz=>nomatch z) this
  | false=>
   rw[e] at this;refine mQ rfl ⟨fd,_,_,_,rfl,rfl,cW.of hf,rfl,_,_,rfl,hb true,_,rfl,?_⟩;rw[show (!false&&!hW (aj b ns true (ns.length+1)))=!hW (aj b ns true (ns.length+1)) from iA _] at this;exact this
def Ax (B:nZ mg) (E:Fn K mg "_law_across" lJ ["_law_word"]):fJ P w K mg base 1 "_law_across" lJ ["_law_word"] l6:=E.mk' λf fd F=>by
 refine F.okS nu (λvs H Q E h=>?_) (λcdv A outer s H vs Q E hr h=>?_)
 ·obtain⟨bs,rfl,_⟩:=h;rfl
 ·obtain⟨bs,rfl,bal,hl,q⟩:=h;refine⟨[some (.str (wd bs)),none,none,none],_,rfl,(L2.ig.h (aF (af (i:=1) nu.nd rfl (Or.inl rfl) jv)
   (aF (af (i:=2) nu.nd rfl (Or.inl rfl) (bn aA))
   (aF (dH bA rfl (dX (by rfl) B.range (bx (a8 fb (by rfl) B.len aw (aE (a6 0) aA)) aA)) (bI (i:=3) nu.nd rfl (Or.inl rfl))
   (aK (cA (bD fM (ak yk (a6 0) (a6 3) (λ_ _=>rfl)) bJ (bK _))
    (aK (cO (du aQ aZ aY c6 (a6 2) (aE (a6 3) aA))))
    (aF (iW (kY hr) (a6 1) (a6 3) (oF aQ dc d9 qY (a6 2)) rfl)
     (aK (iW (kY hr) (a6 1) (gM (kY hr) (a6 1) (a6 3) (λ_ _=>rfl)) (a6 3) rfl))))))
   (aK (bB (a6 1))))))),?_⟩
  have hz:(wd bs).length<=sizeLine:=by rw[dM];exact ah (aq (by lia))
  nofun;intro d nd;refine⟨ac _,λwl nw=>⟨hz,by lia,by rw[dM];lia,?_⟩⟩;have nwd:wl≠d:=λe=>by subst e;rw[aC] at nw;cases nw
  have s0:=(aV.refl H).new (o:=.dK []) nd;have nw0:H wl=none:=s0.free nw;refine eg (n:=((wd bs).length:Int).toNat) (λi σ H2=>∃(ws:List Nat) (bw:List (Nat×Nat)) (kvs:HP) (x3:Option V),σ=[some (.str (wd bs)),some (.ref d),some (.ref wl),x3]/\aV H H2/\H2 wl=some (.lst (jT ws))/\H2 d=some (.dK kvs)/\rg bs i ws bw/\kvs.length<=2*bw.length/\∀p∈bw,d6 kvs (.inl (p.1:Int))=some (.int (p.2:Nat))/\d6 kvs (.inl (p.2:Int))=some (.int (p.1:Nat)))
   ⟨[],[],[],none,rfl,s0.new nw0,aC,by rw[aI nwd.symm,aC],rg.start bs,ac _,(λp h=>nomatch h)⟩ ?_ ?_
  ·rintro i σ H2 hi ⟨ws,bw,kvs,x3,rfl,sm,hw,hd,S,hk,hv⟩;have hi':i<bs.length:=by rw[dM] at hi;lia
   obtain⟨b,hb⟩:∃b,bs[i]? = some b:=⟨bs[i],aS hi'⟩
   nofun;refine⟨hz,AN b,by rw[fH];exact jN (KQ hb),?_⟩;simp only[uN];rw[fH];have hSl:=S.len;have hwl:=S.il;refine fV (λhb1=>?_) (λhb1=>?_)
   ·subst hb1;refine⟨fP hw,_,hw,aq (by simp[jT];lia),ws++[i],bw,kvs,_,rfl,sm.new nw0,by rw[aC];simp[jT],by rw[aI nwd.symm];exact hd,S.opens hb,hk,hv⟩
   ·have hb2:b=false:=by cases b;rfl;exact absurd rfl hb1
    subst hb2;obtain⟨ws',p,rfl⟩:=S.has bal hb;have S2:=S.closes hb;have hpi:=(S2.mate (p,i) (by simp)).1;have ed:(jT (ws'++[p])).dropLast=jT ws':=by simp[jT]
    have el:(jT (ws'++[p]))[(jT (ws'++[p])).length - 1]? = some (.int (p:Nat)):=by simp[jT]
    refine⟨fP hw,_,.int (p:Nat),hw,el,?_⟩;rw[ed];have hS2:=dP kvs (.inl (i:Int):Key) (.int (p:Nat));have hS3:=dP (putK kvs (.inl (i:Int):Key) (.int (p:Nat))) (.inl (p:Int):Key) (.int (i:Nat));have l1:kvs.length<sizeLine:=aq (by lia);have l2:(putK kvs (.inl (i:Int):Key) (.int (p:Nat))).length<sizeLine:=aq (by lia);have hd2:bE H2 wl (.lst (jT ws')) d=some (.dK kvs):=by rw[aI nwd.symm];exact hd
    have gi:j6 (bE (bE H2 wl (.lst (jT ws'))) d (.dK (putK kvs (.inl (i:Int):Key) (.int (p:Nat))))) d (.int (i:Nat)) (some (.int (p:Nat))):=by
     have:=j6.k (k:=.inl (i:Int)) (L2.aC (H:=bE H2 wl (.lst (jT ws'))) (a:=d) (o:=.dK (putK kvs (.inl (i:Int):Key) (.int (p:Nat)))));rw[fQ,Vz rfl] at this;exact this
    refine⟨_,qK.k (k:=.inl (i:Int)) hd2 l1,_,gi,_,qK.k (k:=.inl (p:Int)) aC l2,ws',bw++[(p,i)],_,_,rfl,((sm.new nw0).new nd).new nd,by rw[aI nwd,aI nwd,aC],aC,S2,by simp;lia,λq hq=>?_⟩;have val:∀x y,Pr bs x y->(x=i\/x=p\/d6 kvs (.inl (x:Int))=some (.int (y:Nat)))->d6 (putK (putK kvs (.inl (i:Int):Key) (.int (p:Nat))) (.inl (p:Int):Key) (.int (i:Nat))) (.inl (x:Int))=some (.int (y:Nat)):=λx y hxy hx=>by
     rw[fQ,fQ];by_cases c1:x=p
     ·subst c1;have e:i=y:=Pr.uniq (.inl hpi) hxy;rw[Vz rfl,e]
     ·rw[Vy (λz=>c1 (by cases z;rfl))];by_cases c2:x=i
      ·subst c2;have e:p=y:=(Pr.symm (.inl hpi)).uniq hxy;rw[Vz rfl,e]
      ·rw[Vy (λz=>c2 (by cases z;rfl))];rcases hx with h | h | h
       ·exact absurd h c2
       ·exact absurd h c1
       ·exact h
    rcases a9.mp hq with hq | hq
    ·have hmp:=(S.mate q hq).1;exact⟨val _ _ (.inl hmp) (.inr (.inr (hv q hq).1)),val _ _ (.inr hmp) (.inr (.inr (hv q hq).2))⟩
    ·have e:q=(p,i):=by simpa using hq
     subst e;exact⟨val _ _ (.inl hpi) (.inr (.inl rfl)),val _ _ (.inr hpi) (.inl rfl)⟩
  ·rintro σ H2 ⟨ws,bw,kvs,x3,rfl,sm,hw,hd,S,hk,hv⟩;have en:((wd bs).length:Int).toNat=bs.length:=by rw[dM];lia
   rw[en] at S;nofun;obtain⟨ms,M⟩:=pV bal bs.length (aJ _);refine q d kvs H2 nd sm hd λx hx=>?_;rcases su bal hx with hm | hm
   ·obtain⟨m,hmm⟩:=M.all x hx hm.op;have e:=(M.mate _ hmm).1.uniq hm;have:=(hv _ ((S.mem bal M _).mpr hmm)).1;rw[e] at this;exact this
   ·have h1:=jh hm.lt hm.ml;obtain⟨m,hmm⟩:=M.all _ h1 hm.op;have e:m=x:=(M.mate _ hmm).1.uniq hm;have:=(hv _ ((S.mem bal M _).mpr hmm)).2;rw[e] at this;exact this
def wk (B:nZ mg) (E:Fn K mg "_law_rounds" ip ["_law_left","_law_right"]) (Qb:fJ P w K mg base 1 "_law_across" lJ ["_law_word"] l6):fJ P w K mg base 2 "_law_rounds" ip ["_law_left","_law_right"] uJ:=E.mk' λf fd F=>by
 refine F.okS eJ (λvs H Q E h=>?_) (λcdv A outer s H vs Q E hr h=>?_)
 ·obtain⟨bs,cs,rfl,_⟩:=h;rfl
 ·obtain⟨bs,cs,rfl,T,q⟩:=h;refine⟨[some (.str (wd bs)),some (.str (wd cs)),none,none,none,none,none,none,none],_,rfl,(L2.ig.h (aF (af (i:=2) eJ.nd rfl (Or.inl rfl) (ae Qb (hr.mono (by decide)) (by rfl) (aE (a6 0) aA)))
   (aF (af (i:=3) eJ.nd rfl (Or.inl rfl) (ae Qb (hr.mono (by decide)) (by rfl) (aE (a6 1) aA)))
   (aF (af (i:=4) eJ.nd rfl (Or.inl rfl) jv)
   (aF (af (i:=5) eJ.nd rfl (Or.inl rfl) (bn aA))
   (aF (dH bA rfl (dX (by rfl) B.range (bx (a8 fb (by rfl) B.len aw (aE (a6 0) aA)) aA)) (bI (i:=6) eJ.nd rfl (Or.inl rfl))
   (aF (af (i:=7) eJ.nd rfl (Or.inl rfl) (bn aA))
    (aF (af (i:=8) eJ.nd rfl (Or.inl rfl) (a6 6))
    (aF (oB bA (sV (kY hr) (a6 8) (a6 4))
    (aF (iW (kY hr) (a6 4) (a6 8) eV rfl)
     (aF (iW (kY hr) (a6 4) (gM (kY hr) (a6 2) (a6 8) (λ_ _=>rfl)) eV rfl)
     (aF (af (i:=7) eJ.nd rfl (Or.inl rfl) (bF nK (a6 7) (bn (aE (a6 8) (aO (gM (kY hr) (a6 2) (a6 8) (λ_ _=>rfl)) aA)))))
     (aK (af (i:=8) eJ.nd rfl (Or.inl rfl) (gM (kY hr) (a6 3) (gM (kY hr) (a6 2) (a6 8) (λ_ _=>rfl)) (λ_ _=>rfl))))))))
    (aK (cA (bD (qV (ij hr)) (a6 7) (bn aA) (bK _))
    (aK (cO (du aQ aZ aY c6 (a6 5) (aE (a6 7) aA))))
    bL))))))
   (aK (bB (a6 5))))))))),?_⟩
  have hz:(wd bs).length<=sizeLine:=by rw[dM];exact ah (aq (by have:=T.len;lia))
  have hlen:=T.len;nofun;refine⟨bs,rfl,T.bal,T.len,λd1 k1 H1 n1 s1 h1 dc1=>⟨cs,rfl,T.balR,by rw[T.eq];exact T.len,λd2 k2 H2 n2 s2 h2 dc2=>?_⟩⟩;nofun;intro g ng;refine⟨ac _,λfl nfl=>?_⟩;have ngf:g≠fl:=λz=>by subst z;rw[aC] at nfl;cases nfl
  have nfl2:H2 fl=none:=by rw[aI ngf.symm] at nfl;exact nfl
  have PL:=rY T.bal;have PR:=rY T.balR;have NL:=Dg T.bal;have NR:=Dg T.balR;rw[T.eq] at dc2 PR NR;have sHb:aV H H2:=s1.trans s2;have sz:∀k:Nat,k<=9000->k<sizeLine:=λk hk=>iI hk (by decide);have en:((wd bs).length:Int).toNat=bs.length:=by rw[dM];lia
  have hd1:=s2 _ _ h1;refine⟨hz,by lia,by rw[dM];lia,?_⟩;rw[en];refine eg (n:=bs.length) (λi σ H'=>∃(ws:List V) (kvs:HP) (x6 x7 x8:Option V),σ=[some (.str (wd bs)),some (.str (wd cs)),some (.ref d1),some (.ref d2),some (.ref g),some (.ref fl),x6,x7,x8]/\aV H2 H'/\H' fl=some (.lst ws)/\H' g=some (.dK kvs)/\rQ H' (λa=>H2 a=none/\a≠fl/\a≠g) ws (rsF (mtF bs) (mtF cs) i)/\kvs.length<=82*i/\Bb bs.length (mtF bs) (mtF cs) i (rsF (mtF bs) (mtF cs) i) (λx=>(d6 kvs (.inl (x:Int))).isSome=true))
   ⟨[],[],_,_,_,rfl,((aV.refl H2).new ng).new nfl2,aC,by rw[aI ngf,aC],.nil,ac _,?_⟩ ?_ ?_
  ·have:=Bb.start (n:=bs.length) (L:=mtF bs) (R:=mtF cs);refine⟨this.rn,λx=>Iff.intro (λh=>nomatch h) (λh=>?_),λx h=>by lia,this.len⟩;obtain⟨r,hr,_⟩:=h;cases hr
  ·rintro i σ H' hi ⟨ws,kvs,x6,x7,x8,rfl,sm,hfl,hg,rf,hk,RI⟩;have hrl:=RI.len;have hwl:=rf.len;have met:∀x:Nat,(d6 kvs (.inl (x:Int))).isSome=true<->∃r∈rsF (mtF bs) (mtF cs) i,x∈r:=RI.mt;nofun;rw[fH];refine⟨ac _,λo0 no0=>?_⟩;have nf0:fl≠o0:=av hfl no0;have ng0:g≠o0:=av hg no0;refine⟨λm σ H3=>∃(j:Nat) (o:Addr) (kv:HP),σ=[some (.str (wd bs)),some (.str (wd cs)),some (.ref d1),some (.ref d2),some (.ref g),some (.ref fl),some (.int i),some (.ref o),some (.int (gq (mtF bs) (mtF cs) i j:Nat))]/\aV H2 H3/\H3 fl=some (.lst ws)/\H3 g=some (.dK kv)/\H3 o=some (.lst (hV (my (mtF bs) (mtF cs) i j)))/\(H2 o=none/\o≠fl/\o≠g)/\rQ H3 (λa=>H2 a=none/\a≠fl/\a≠g) ws (rsF (mtF bs) (mtF cs) i)/\kv.length<=kvs.length+2*j/\(∀x:Nat,(d6 kv (.inl (x:Int))).isSome=true<->((d6 kvs (.inl (x:Int))).isSome=true\/x∈my (mtF bs) (mtF cs) i j))/\Inj (mtF bs) (mtF cs) i j/\(j=0\/¬(d6 kvs (.inl (i:Int))).isSome=true)/\m=41-j,
    ⟨_,0,o0,kvs,rfl,sm.new (sm.free no0),by rw[aI nf0];exact hfl,by rw[aI ng0];exact hg,aC,⟨sm.free no0,nf0.symm,ng0.symm⟩,rf.imp (λa o ⟨p1,p2,p3⟩ ha=>⟨by rw[aI (av ha no0)];exact ha,p1,p2,p3⟩),by lia,λx=>by simp[my],λj k hj=>by lia,.inl rfl,rfl⟩,?_⟩
   rintro m σ H3 ⟨j,o,kv,rfl,s3,hfl3,hg3,ho3,⟨no2,nof,nog⟩,rf3,hkv,hv,J,hj0,rfl⟩;have hle:=J.le PL PR hi;have lt:=p8 (R:=mtF cs) PL PR hi j;have hout:(¬(d6 kvs (.inl (i:Int))).isSome=true)->∀k,¬(d6 kvs (.inl (gq (mtF bs) (mtF cs) i k:Int))).isSome=true:=λhm k z=>(J8 PL PR RI.rn hi (λz=>hm ((met i).mpr z)) k).1 ((met _).mp z);nofun;refine⟨_,j6.k (k:=.inl ((gq (mtF bs) (mtF cs) i j:Nat):Int)) hg3,?_⟩;nofun;by_cases hin:(d6 kv (.inl ((gq (mtF bs) (mtF cs) i j:Nat):Int))).isSome=true
   ·rw[hin];refine jw (λz=>nomatch z) ⟨ac _,λe ne=>Fd (by rw[aI (av ho3 ne)];exact ho3) aC ?_⟩;have s4:=(aV.refl H3).new (o:=.lst []) ne;generalize bE H3 e (.lst [])=H4 at s4 ⊢;nofun;have rf4:=rf3.imp (H':=H4) (P':=λa=>H2 a=none/\a≠fl/\a≠g) λa o p ha=>⟨s4 _ _ ha,p⟩
    by_cases hmi:(d6 kvs (.inl (i:Int))).isSome=true
    ·have j0:j=0:=hj0.elim id λz=>absurd hmi z;subst j0;have sk:=sR ((met i).mp hmi);rw[sk];refine jw (λz=>nomatch z) ⟨ws,kv,_,_,_,rfl,s3.trans s4,s4 _ _ hfl3,s4 _ _ hg3,rf4,by lia,?_⟩;have RI2:=RI.skip hmi;exact⟨RI2.rn,λx=>by rw[hv x];simp[my];exact RI2.mt x,λx hx=>(hv x).mpr (.inl (RI2.upto x hx)),RI2.len⟩
    ·have hin2:gq (mtF bs) (mtF cs) i j∈my (mtF bs) (mtF cs) i j:=((hv _).mp hin).elim (λz=>absurd z (hout hmi j)) id;obtain⟨jp,hc⟩:=(HF PL PR NL NR hi J).mp hin2;have X:=Cj PL PR hi J hlen jp hc;have ad:=vM (L:=mtF bs) (R:=mtF cs) (i:=i) (λz=>hmi ((met i).mpr z));have RI2:=RI.add PL PR hmi X;rw[ad,<-X.is];have hne:(my (mtF bs) (mtF cs) i j).isEmpty=false:=by
      obtain⟨j',rfl⟩:∃j',j=j'+1:=⟨j - 1,by lia⟩
      rw[my];simp
     refine mQ hne ⟨fP (s4 _ _ hfl3),_,s4 _ _ hfl3,sz _ (by lia),_,kv,_,_,_,rfl,(s3.trans s4).new nfl2,aC,by rw[aI ngf];exact s4 _ _ hg3,?_,by lia,⟨RI2.rn,λx=>by rw[hv x];exact RI2.mt x,λx hx=>(hv x).mpr (RI2.upto x hx),RI2.len⟩⟩;exact gN (rf4.imp λa o ⟨p1,p2,p3⟩ ha=>⟨by rw[aI p2];exact ha,p1,p2,p3⟩) ⟨o,rfl,by rw[aI nof];exact s4 _ _ ho3,no2,nof,nog⟩
   ·have hif:(d6 kv (.inl ((gq (mtF bs) (mtF cs) i j:Nat):Int))).isSome=false:=by cases e:(d6 kv (.inl ((gq (mtF bs) (mtF cs) i j:Nat):Int))).isSome<;>first | rfl | exact absurd e hin
    rw[hif];have hmi:¬(d6 kvs (.inl (i:Int))).isSome=true:=hj0.elim (λz=>by subst z;exact λw=>hin ((hv _).mpr (.inl w))) id;have hc:j=0\/gq (mtF bs) (mtF cs) i j≠i:=by
     by_cases z:j=0
     ·exact .inl z
     ·exact .inr λw=>hin ((hv _).mpr (.inr ((HF PL PR NL NR hi J).mpr ⟨by lia,w⟩)))
    have J2:=J.next PL PR hi hc;have hle2:=J2.le PL PR hi;have k1l:=dP kv (.inl ((gq (mtF bs) (mtF cs) i j:Nat):Int):Key) (.bl true);have k2l:=dP (putK kv (.inl ((gq (mtF bs) (mtF cs) i j:Nat):Int):Key) (.bl true)) (.inl ((mtF bs (gq (mtF bs) (mtF cs) i j):Nat):Int):Key) (.bl true);have nd1:d1≠g:=λz=>by subst z;rw[hd1] at ng;cases ng
    have nd2:d2≠g:=λz=>by subst z;rw[h2] at ng;cases ng
    have gL:∀Hx:Hp,Hx d1=some (.dK k1)->j6 Hx d1 (.int (gq (mtF bs) (mtF cs) i j:Nat)) (some (.int (mtF bs (gq (mtF bs) (mtF cs) i j):Nat))):=λHx hx=>by
     have:=j6.k (k:=.inl ((gq (mtF bs) (mtF cs) i j:Nat):Int)) hx;rw[dc1 _ lt] at this;exact this
    have gR:∀Hx:Hp,Hx d2=some (.dK k2)->j6 Hx d2 (.int (mtF bs (gq (mtF bs) (mtF cs) i j):Nat)) (some (.int (gq (mtF bs) (mtF cs) i (j+1):Nat))):=λHx hx=>by
     have:=j6.k (k:=.inl ((mtF bs (gq (mtF bs) (mtF cs) i j):Nat):Int)) hx;rw[dc2 _ (PL.lt _ lt)] at this;exact this
    generalize hx0:gq (mtF bs) (mtF cs) i j=x at *;have hd1a:bE H3 g (.dK (putK kv (.inl (x:Int):Key) (.bl true))) d1=some (.dK k1):=by rw[aI nd1];exact s3 _ _ hd1
    refine mQ rfl ⟨_,λ_ _ z=>z,_,qK.k (k:=.inl (x:Int)) hg3 (sz _ (by lia)),_,gL _ hd1a,_,qK.k (k:=.inl ((mtF bs x:Nat):Int)) aC (sz _ (by lia)),_,gL _ (by rw[aI nd1];exact hd1a),(by show 2<=sizeLine;decide),λp np=>?_⟩;have sB:aV H2 (bE (bE H3 g (.dK (putK kv (.inl (x:Int):Key) (.bl true)))) g (.dK (putK (putK kv (.inl (x:Int):Key) (.bl true)) (.inl ((mtF bs x:Nat):Int):Key) (.bl true)))):=(s3.new ng).new ng;have kpB:∀b o,b≠g->H3 b=some o->(bE (bE H3 g (.dK (putK kv (.inl (x:Int):Key) (.bl true)))) g (.dK (putK (putK kv (.inl (x:Int):Key) (.bl true)) (.inl ((mtF bs x:Nat):Int):Key) (.bl true)))) b=some o:=λb o hb h=>by rw[aI hb,aI hb];exact h
    have gB:(bE (bE H3 g (.dK (putK kv (.inl (x:Int):Key) (.bl true)))) g (.dK (putK (putK kv (.inl (x:Int):Key) (.bl true)) (.inl ((mtF bs x:Nat):Int):Key) (.bl true)))) g=some (.dK (putK (putK kv (.inl (x:Int):Key) (.bl true)) (.inl ((mtF bs x:Nat):Int):Key) (.bl true))):=aC;generalize bE (bE H3 g (.dK (putK kv (.inl (x:Int):Key) (.bl true)))) g (.dK (putK (putK kv (.inl (x:Int):Key) (.bl true)) (.inl ((mtF bs x:Nat):Int):Key) (.bl true)))=HB at sB kpB gB np ⊢;have sC:=(aV.refl HB).new (o:=.lst [V.int (x:Nat),V.int (mtF bs x:Nat)]) np;have gC:bE HB p (.lst [V.int (x:Nat),V.int (mtF bs x:Nat)]) p=some (.lst [V.int (x:Nat),V.int (mtF bs x:Nat)]):=aC;generalize bE HB p (.lst [V.int (x:Nat),V.int (mtF bs x:Nat)])=HC at sC gC ⊢;have hrl2:(hV (my (mtF bs) (mtF cs) i j)).length=2*j:=by unfold hV;rw[aD,vQ]
    refine⟨o,p,_,_,rfl,rfl,sC _ _ (kpB _ _ nog ho3),gC,ah (sz _ (by rw[hrl2];simp;lia)),λp2 np2=>?_⟩;have sD:=(aV.refl HC).new (o:=.lst (hV (my (mtF bs) (mtF cs) i j)++[V.int (x:Nat),V.int (mtF bs x:Nat)])) np2;have gD:bE HC p2 (.lst (hV (my (mtF bs) (mtF cs) i j)++[V.int (x:Nat),V.int (mtF bs x:Nat)])) p2=some (.lst (hV (my (mtF bs) (mtF cs) i j)++[V.int (x:Nat),V.int (mtF bs x:Nat)])):=aC;generalize bE HC p2 (.lst (hV (my (mtF bs) (mtF cs) i j)++[V.int (x:Nat),V.int (mtF bs x:Nat)]))=HD at sD gD ⊢;have sCD:=sC.trans sD;have kpD:∀b o,b≠g->H3 b=some o->HD b=some o:=λb o hb h=>sCD _ _ (kpB b o hb h);have np2g:p2≠g:=(av (sC _ _ gB) np2).symm;have np2f:p2≠fl:=(av (sC _ _ (kpB _ _ ngf.symm hfl3)) np2).symm;have er:hV (my (mtF bs) (mtF cs) i j)++[V.int (x:Nat),V.int (mtF bs x:Nat)]=hV (my (mtF bs) (mtF cs) i (j+1)):=by
     rw[my,hx0];simp[hV]
    rw[er] at gD;refine⟨_,gL _ (kpD _ _ nd1 (s3 _ _ hd1)),_,gR _ (kpD _ _ nd2 (s3 _ _ h2)),41-(j+1),by lia,j+1,p2,_,rfl,sB.trans sCD,kpD _ _ ngf.symm hfl3,sCD _ _ gB,gD,⟨sB.free (sC.free np2),np2f,np2g⟩,rf3.imp (λa o ⟨q1,q2,q3⟩ ha=>⟨kpD _ _ q3 ha,q1,q2,q3⟩),by lia,λz=>?_,J2,.inr hmi,rfl⟩;rw[fQ,fQ,my,hx0,a9,a9,bc,bc];by_cases c1:z=mtF bs x
    ·subst c1;rw[Vz rfl];simp
    ·rw[Vy (λw=>c1 (by cases w;rfl))];by_cases c2:z=x
     ·subst c2;rw[Vz rfl];simp
     ·rw[Vy (λw=>c2 (by cases w;rfl)),hv z];simp[c1,c2]
  ·rintro σ H' ⟨ws,kvs,x6,x7,x8,rfl,sm,hfl,hg,rf,hk,RI⟩;nofun;exact q fl ws H' (sHb.free nfl2) (sHb.trans sm) hfl (rf.imp λa o ⟨p1,p2,p3⟩ ha=>⟨ha,sHb.free p1⟩)
def FY {M9 p7 d7:Addr} (O5:mg "Crossed"=some (.ref d7)) (Oz:mg "NoMaze"=some (.ref M9)) (O6:mg "NoRound"=some (.ref p7)) (XSC:PySem.W.exmOne K (.ref d7) (.ref d7)=some true) (XSM:PySem.W.exmOne K (.ref M9) (.ref M9)=some true) (XSR:PySem.W.exmOne K (.ref p7) (.ref p7)=some true) (XMC:PySem.W.exmOne K (.ref M9) (.ref d7)=some false) (XRC:PySem.W.exmOne K (.ref p7) (.ref d7)=some false) (XRM:PySem.W.exmOne K (.ref p7) (.ref M9)=some false) (IA:B7 K d7 "bows") (E:Fn K mg "_law_said" o9 ["_law_maze_here"])
  (PD:k6 P w K mg base 6 "closed" kD ["maze"] (sJ M9 d7 p7)):fJ P w K mg base 7 "_law_said" o9 ["_law_maze_here"] sI:=E.mk' λf fd F=>by
 refine F.okS ze (λvs H Q E h=>?_) (λcdv A outer s H vs Q E hr h=>?_)
 ·obtain⟨x,d,rfl,_⟩:=h;rfl
 ·obtain⟨x,d,rfl,hd,pl,h⟩:=h;have two:(2:Nat)<=sizeLine:=by decide
  refine⟨[some x,none],_,rfl,(L2.ig.h (aK (wY rfl rfl (IZ PD (hr.mono (by decide)) (by rfl) (aE (a6 0) aA)) (Gx (i:=1) rfl (by rfl) O5 ze.nd rfl rfl (λa=>(aK (bB (bf (aP bJ (tX (Cy (a6 1)) aA)))))) (zm rfl (by rfl) Oz (λa=>(aK (bB (bf (aP bJ (aP jL aA)))))) (zm rfl (by rfl) O6 (λa=>(aK (bB (bf (aP bJ (aP jL aA)))))) DB)))))),?_⟩;nofun;refine⟨x,d,rfl,hd,pl,?_⟩;rcases h with ⟨bad,q⟩ | ⟨m,o,b,ns,rfl,hm,rfl,O,qe,qo,qc⟩
  ·refine .inl ⟨bad,λH1 s1=>⟨M9,rfl,.inr ⟨XMC,.inl ⟨XSM,λa na=>?_⟩⟩⟩⟩;exact⟨two,λp np=>q p _ (s1.trans (((aV.refl H1).new na).trans ((aV.refl _).new np))) aC⟩
  refine .inr ⟨m,o,b,ns,rfl,hm,rfl,O,λnc ev H1 s1=>⟨p7,rfl,.inr ⟨XRC,.inr ⟨XRM,.inl ⟨XSR,λa na=>?_⟩⟩⟩⟩,λnc k hk t H1 s1 wt p np=>qo nc k hk t p _ (s1.trans ((aV.refl _).new np)) ((aV.refl _).new np _ _ wt) aC,λu p hp q' hq z t dx H1 s1 ct hdx=>⟨d7,rfl,.inl ⟨XSC,λa na=>?_⟩⟩⟩
  ·exact⟨two,λp np=>qe nc ev p _ (s1.trans (((aV.refl _).new na).trans ((aV.refl _).new np))) aC⟩
  ·have sx:=(aV.refl H1).new (o:=nO (some dx) d7 a) na;nofun;refine⟨a,d7,dx,_,rfl,aC,sx _ _ hdx,IA,two,λr nr=>?_⟩;have s2:=sx.trans ((aV.refl _).new (o:=.tup [.str (Str.ofString "crossed"),.ref t]) nr);exact qc u p q' ⟨hp,hq,z⟩ t r _ (s1.trans s2) (ct.same s2) aC
def Aw {M9 p7 d7 Ma:Addr} {ds:List Addr} (Od:mg "RingError"=some (.ref Ma)) (XMM:PySem.W.exmOne K (.ref M9) (.ref Ma)=some true) (XMR:PySem.W.exmOne K (.ref p7) (.ref Ma)=some true) (XMC:PySem.W.exmOne K (.ref d7) (.ref Ma)=some true) (KM:vq K M9) (KR:vq K p7) (KC:xf K d7) (JM:B5 K M9 ds 0) (JR:B5 K p7 ds 5) (JC:B5 K d7 ds 1) (E:Fn K mg "_law_by_any" kE ["_law_maze_here"])
  (PD:k6 P w K mg base 6 "closed" kD ["maze"] (sJ M9 d7 p7)) (Re:EY P w K mg base 1 "_law_alone" nz ["_law_e"] (wL K ds)):fJ P w K mg base 7 "_law_by_any" kE ["_law_maze_here"] vC:=E.mk' λf fd F=>by
 refine F.okS uQ (λvs H Q E h=>?_) (λcdv A outer s H vs Q E hr h=>?_)
 ·obtain⟨x,d,rfl,_⟩:=h;rfl
 ·obtain⟨x,d,rfl,hd,pl,q,h⟩:=h;refine⟨[some x,none],_,rfl,(L2.ig.h (aF (wY rfl rfl (Ep PD (hr.mono (by decide)) (by rfl) (aE (a6 0) aA)) (Gx (i:=1) rfl (by rfl) Od uQ.nd rfl rfl (λa=>(aK (bB (yR (a:=a) Re (mU.of (hr.mono (by decide))) (by rfl) (aE (a6 1) aA))))) DB))
   (aK (bB eV)))),?_⟩
  nofun;refine⟨x,d,rfl,hd,pl,?_⟩;rcases h with bad | ⟨m,o,b,ns,rfl,hm,rfl,O,h⟩
  ·refine .inl ⟨bad,λH1 s1=>⟨M9,rfl,.inl ⟨XMM,λa na=>?_⟩⟩⟩;exact⟨M9,0,rfl,.bare aC KM,⟨_,aC⟩,JM,by decide,λH' s2=>q _ (s1.trans (((aV.refl _).new na).trans s2))⟩
  refine .inr ⟨m,o,b,ns,rfl,hm,rfl,O,λnc ev H1 s1=>⟨p7,rfl,.inl ⟨XMR,λa na=>?_⟩⟩,λnc k hk t H1 s1 wt=>?_,λu p hp q' hq z t dx H1 s1 ct hdx=>⟨d7,rfl,.inl ⟨XMC,λa na=>?_⟩⟩⟩
  ·exact⟨p7,5,rfl,.bare aC KR,⟨_,aC⟩,JR,by decide,λH' s2=>q _ (s1.trans (((aV.refl _).new na).trans s2))⟩
  ·exact absurd h (λz=>z.elim (λz=>z nc) (λz=>by lia))
  ·have sx:=(aV.refl H1).new (o:=nO (some dx) d7 a) na;exact⟨d7,1,rfl,.dict aC (sx _ _ hdx) KC,⟨_,aC⟩,JC,by decide,λH' s2=>q _ (s1.trans (sx.trans s2))⟩
def JT (B:nZ mg) (E:Fn K mg "_law_due" uS ["_law_maze_here"]) (PN:fJ P w K mg base 1 "_law_bows" nH ["_law_maze_here"] rV):fJ P w K mg base 2 "_law_due" uS ["_law_maze_here"] C3:=E.mk' λf fd F=>by
 refine F.okS nG (λvs H Q E h=>?_) (λcdv A outer s H vs Q E hr h=>?_)
 ·obtain⟨m,o,b,ns,k,rfl,_⟩:=h;rfl
 ·obtain⟨m,o,b,ns,k,rfl,hm,O,hk,q⟩:=h;have two:(2:Nat)<=sizeLine:=by decide
  refine⟨[some (.ref m),none,none,none,none,none,none,none],_,rfl,(L2.ig.h (aF (af (i:=1) nG.nd rfl (Or.inl rfl) (a8 bR (by rfl) B.len aw (aO (ak b6 (a6 0) aG (λ_ _=>rfl)) aA)))
   (aF (af (i:=2) nG.nd rfl (Or.inl rfl) (bn aA))
   (aF (dH bA rfl (Cu (by rfl) B.zip (aP bJ (bx (ae PN (hr.mono (by decide)) (by rfl) (aE (a6 0) aA)) aA))) (jJ (n:=2) rfl (ce (bI (i:=3) nG.nd rfl (Or.inl rfl)) (ce (bI (i:=4) nG.nd rfl (Or.inl rfl)) hU)))
   (aF (wZ (i:=5) nG.nd rfl (Or.inl rfl) (own:=["_law_k"]) (ns:=[]) (caps:=[]) rfl ⟨rfl,by decide +kernel,by decide +kernel,by decide +kernel⟩ .nil (dX (by rfl) B.range (cf (bF eF (a6 1) aG) aA)) (λC s H fp pn=>(bI (i:=0) (show List.Nodup ((["_law_k"]:List Str)++([]:List Str)) by decide +kernel) rfl (Or.inl rfl))) (λC s H fp pn=>jc) (λC s H fp pn=>bJ))
    (aF (dH bA rfl (fE (a6 4)) (jJ (n:=2) rfl (ce (bI (i:=6) nG.nd rfl (Or.inl rfl)) (ce (bI (i:=7) nG.nd rfl (Or.inl rfl)) hU)))
    (aK (cA (QW.pt (zh (bD oT (a6 3) (ak b6 (a6 0) aG (λ_ _=>rfl)) (bK _)) (wX (bD fM (a6 7) (bF eF (a6 1) aG) (bK _)))))
     (aK (vS bJ (vT (a6 5) aG set_list)))
     (aK (vS bJ (vT (a6 5) (a6 6) set_list))))))
    (aK (cO (du aQ aZ aY c6 (a6 2) (bx (du lq m9 m8 zu bJ (aE (a6 5) aA)) aA)))))))
   (aK (bB (bf (aO (ak cP (a6 2) aG (λ_ _=>rfl)) (aO (ak cP (a6 2) aG (λ_ _=>rfl)) aA))))))))),?_⟩
  have nl:=O.len;nofun;refine⟨_,_,c8.of hm.1,rfl,o,_,rfl,.inr (c8.of hm.2),ac _,λw0 nw=>?_⟩;rw[aD];have s1:=(aV.refl H).new (o:=.lst []) nw;refine⟨m,o,b,ns,rfl,hm.same s1,by lia,λfl g H2 nf ng s2 hf hb ne=>?_⟩;have hw1:bE H w0 (.lst []) w0=some (.lst []):=aC;have hw2:=s2 _ _ hw1;have wf:w0≠fl:=av hw1 nf;have wg:∀u,g u≠w0:=λu=>(av hw1 (ng u)).symm;have s12:=s1.trans s2;have sl:Str.ofString ")"=sgn false:=by decide +kernel
  have so:Str.ofString "("=sgn true:=by decide +kernel
  rw[sl,so];refine⟨_,fl,rfl,⟨_,cW.of hf⟩,by decide +kernel,?_⟩;refine Dw (xs:=[V.ref (g false),.ref (g true)]) (by rw[yh];rfl) (λi σ H'=>∃x3 x4 x5 x6 x7:Option V,σ=[some (.ref m),some (.int ns.length),some (.ref w0),x3,x4,x5,x6,x7]/\aV H H'/\H' fl=some (.lst [.ref (g false),.ref (g true)])/\(∀u,c7 H' (g u) (aj b ns u (ns.length+1)))/\H' w0=some (.lst (([false,true].take i).map λu=>V.str (wd (oM b ns u))))) ⟨_,_,_,_,_,rfl,s12,hf,hb,hw2⟩ ?_ ?_ ?_
  ·rintro i σ H' ⟨_,_,_,_,_,rfl,_,hf,_⟩;exact cW.of hf
  ·rintro i x c σ H' p0 hx hc ⟨x3,x4,x5,x6,x7,rfl,sm,hf',hb',hw'⟩ np0;obtain⟨u,hu,rfl⟩:∃u,[false,true][i]? = some u/\x=.ref (g u):=by
    match i,hx with
    | 0,hx=>cases hx;exact⟨_,rfl,rfl⟩
    | 1,hx=>cases hx;exact⟨_,rfl,rfl⟩
    | j+2,hx=>simp at hx
   have hi2:i<2:=by
    rcases Nat.lt_or_ge i 2 with h | h
    ·exact h
    ·rw[mj (by simpa using h)] at hu;cases hu
   rw[Lx hc hu];have s0:=(aV.refl H').new (o:=.tup [.str (sd u),.ref (g u)]) np0;have hp0:bE H' p0 (.tup [.str (sd u),.ref (g u)]) p0=some (.tup [.str (sd u),.ref (g u)]):=aC;generalize bE H' p0 (.tup [.str (sd u),.ref (g u)])=H3 at s0 hp0 ⊢;have sm3:=sm.trans s0;have hf3:=s0 _ _ hf';have hb3:=λv=>(hb' v).same s0;have hw3:=s0 _ _ hw';nofun;refine⟨_,c8.of hp0,rfl,?_⟩;nofun;obtain⟨as,h1,pa⟩:=hb3 u;have al:=ba pa;have lS:(aj b ns u (ns.length+1)).length=k:=by rw[hk,nj]
   have top:=λp=>C4 (p:=p) O hk (u:=u) (b:=b);have SB:=λp (hp:p∈aj b ns u (ns.length+1))=>vH O hp;have SI:∀p∈aj b ns u (ns.length+1),p.2<=(ns.length:Int)+1:=λp hp=>by
    obtain⟨j,hj,_,rfl⟩:=dy hp;exact(O.step_in (i:=j) (by lia)).2
   have eW:oM b ns u=eM ((aj b ns u (ns.length+1)).map (pq ((ns.length:Int)+1))):=rfl;generalize hS:aj b ns u (ns.length+1)=S at pa al lS top SB SI eW;rw[show ((ns.length:Int)+1).toNat=2*k by lia];refine⟨by lia,by lia,?_⟩
   let bv:Nat->List Bool:=λi=>(List.range (2*k)).map λe:Nat=>decide ((e:Int)∈((S.take i).map (pq ((ns.length:Int)+1))).map (·.1))
   have bvl:∀i,(bv i).length=2*k:=λi=>by simp[bv]
   refine yz (n:=2*k) (λj ys σ H'=>H'=H3/\ys=(List.replicate j false).map λb=>V.str (sgn b)) ⟨rfl,rfl⟩ ?_ (ah (aq (by lia))) ?_ ?_
   ·rintro j ys σ H' ⟨rfl,rfl⟩;simp
   ·rintro j ys σ H' N hk ⟨rfl,rfl⟩ hN;nofun;exact hN _ _ _ ⟨rfl,by rw[List.replicate_succ',ar];rfl⟩
   ·rintro ys σ H4 p ⟨rfl,rfl⟩ np;have s4:=(aV.refl H4).new (o:=.lst ((List.replicate (2*k) false).map λb=>V.str (sgn b))) np;have e0:List.replicate (2*k) false=bv 0:=by
     apply jG
     ·simp[bv]
     ·intro i h1 h2;simp[bv]
    have hne:g u≠p:=av h1 np;have pw:p≠w0:=(av hw3 np).symm;have pf:fl≠p:=av hf3 np;have hm4:=hm.same sm3;refine⟨⟨_,cW.of (s4 _ _ h1)⟩,?_⟩;refine iZ (xs:=as.map V.ref) (λi σ H2=>∃x3 x4:Option V,σ=[some (.ref m),some (.int ns.length),some (.ref w0),some (.str (sd u)),some (.ref (g u)),some (.ref p),x3,x4]/\aV H4 H2/\H2 p=some (.lst ((bv i).map λb=>V.str (sgn b)))) ⟨_,_,rfl,s4,by rw[<-e0];exact aC⟩ ?_ ?_ ?_
    ·rintro i σ H2 _ ⟨_,_,rfl,s2,_⟩;exact cW.of (s2 _ _ h1)
    ·rintro i x σ H5 hx ⟨x3,x4,rfl,s5,hp⟩;obtain⟨a,ha,rfl⟩:=rZ hx;obtain⟨w,hw,tw⟩:=DW pa ha;have wm:=bG hw;have wb:=SB w wm;have wi:=SI w wm;have wt:=top w wm;nofun;refine⟨_,c8.of (s5 _ _ tw),rfl,?_⟩;nofun;have go:∀n:Nat,(pq ((ns.length:Int)+1) w).1=(n:Int)->n<2*k->(∃x3 x4:Option V,[some (V.ref m),some (V.int ns.length),some (V.ref w0),some (V.str (sd u)),some (V.ref (g u)),some (V.ref p),some (V.int w.1),some (V.int w.2)]=[some (V.ref m),some (V.int ns.length),some (V.ref w0),some (V.str (sd u)),some (V.ref (g u)),some (V.ref p),x3,x4]/\aV H4 (bE H5 p (.lst (((bv i).map λb=>V.str (sgn b)).set n (V.str (sgn true)))))/\bE H5 p (.lst (((bv i).map λb=>V.str (sgn b)).set n (V.str (sgn true)))) p=some (.lst ((bv (i+1)).map λb=>V.str (sgn b)))):=λn hn hlt=>by
      refine⟨_,_,rfl,s5.new np,?_⟩;rw[aC];congr 2;rw[show V.str (sgn true)=(λb=>V.str (sgn b)) true from rfl,<-List.map_set];congr 1;have etk:S.take (i+1)=S.take i++[w]:=by rw[bV,hw];rfl
      apply jG
      ·simp[bv]
      ·intro e g1 g2;rw[List.getElem_set];simp only[bv,List.getElem_map,List.getElem_range,etk,ar,a9,bC,eI,bc];by_cases z:n=e
       ·subst z;rw[Vz rfl];exact(WC (.inr (by lia))).symm
       ·rw[Vy z];exact decide_eq_decide.mpr ⟨λh=>.inl h,λh=>h.elim id λh=>by lia⟩
     refine⟨_,_,c8.of (s5 _ _ hm4.1),rfl,?_⟩;have last:w.2≠(ns.length:Int)+1->Gv (V.ref p) (V.int w.1) (V.str (sgn true)) H5 λH3=>∃x3 x4:Option V,[some (V.ref m),some (V.int ns.length),some (V.ref w0),some (V.str (sd u)),some (V.ref (g u)),some (V.ref p),some (V.int w.1),some (V.int w.2)]=[some (V.ref m),some (V.int ns.length),some (V.ref w0),some (V.str (sd u)),some (V.ref (g u)),some (V.ref p),x3,x4]/\aV H4 H3/\H3 p=some (.lst ((bv (i+1)).map λb=>V.str (sgn b))):=λz=>by
      obtain⟨n,hn⟩:=fY wb.1;refine⟨p,_,_,n,rfl,rfl,hp,?_,go n (by unfold pq;rw[Vy z];exact hn) (by lia)⟩;rw[aD,bvl,hn];unfold yl;rw[Vz (by lia),Vz (by lia)];rfl
     by_cases hub:u=b
     ·subst hub;rw[L2.Bs,WC rfl];exact⟨_,rfl,jw (by decide) (last λz=>wt z rfl)⟩
     ·rw[L2.Bs,WB (λz=>hub (IP z))];refine⟨_,rfl,mQ rfl (fV (λz=>?_) (λz=>last z))⟩;refine⟨p,_,_,0,rfl,rfl,hp,?_,go 0 (by unfold pq;rw[Vz z];rfl) (by lia)⟩;rw[aD,bvl];unfold yl;rw[Vz (by lia),Vz (by lia)];rfl
    ·rintro σ H5 ⟨x3,x4,rfl,s5,hp⟩;rw[aD,al] at hp;have e1:bv S.length=oM b ns u:=by
      rw[eW];simp only[bv,cB];unfold eM;rw[aD,lS]
     rw[e1] at hp;nofun;have hw5:=s5 _ _ hw3;refine⟨fP hw5,rfl,_,p,(oM b ns u).map sgn,rfl,rfl,cW.of (by rw[bS];exact hp),yB (by rw[kf u hk];lia),?_⟩;rw[xC];refine⟨_,hw5,by rw[aD,cZ];exact aq (by simp;lia),_,_,_,_,_,rfl,(sm3.trans s5).new nw,?_,λv=>hZ ((hb3 v).same s5) hw5 (wg v),?_⟩
     ·rw[aI wf.symm];exact s5 _ _ hf3
     ·rw[aC];have tk:[false,true].take (i+1)=[false,true].take i++[u]:=by rw[bV,hu];rfl
      rw[tk,ar];rfl
  ·rintro σ H' ⟨x3,x4,x5,x6,x7,rfl,sm,hf',hb',hw'⟩;nofun;exact⟨_,_,cW.of hw',rfl,_,_,cW.of hw',rfl,two,λp np=>q p _ (sm.trans ((aV.refl _).new np)) aC⟩
def t7 (B:nZ mg) (E:Fn K mg "_law_crossed_so" gY ["_law_maze_here","_law_told"]) (PN:fJ P w K mg base 1 "_law_bows" nH ["_law_maze_here"] rV):fJ P w K mg base 2 "_law_crossed_so" gY ["_law_maze_here","_law_told"] zc:=E.mk' λf fd F=>by
 refine F.okS oR (λvs H Q E h=>?_) (λcdv A outer s H vs Q E hr h=>?_)
 ·obtain⟨m,o,b,ns,t,u,p,q,rfl,_⟩:=h;rfl
 ·obtain⟨m,o,b,ns,t,u,p,q',rfl,hm,O,ct,cr,q⟩:=h;refine⟨[some (.ref m),some (.ref t),none],_,rfl,(L2.ig.h (aF (cA (QW.pt (iV (fD (dz (a8 jP (by rfl) B.isinstance aX (aE (a6 1) (aE (iX (v:=.ty "tuple") (by rfl) B.tuple cK rfl) aA))))) (iV (bD oT (a8 bR (by rfl) B.len aw (aE (a6 1) aA)) aG (bK _)) (g6 (bD (An (ij hr)) (ak b6 (a6 1) aG (λ_ _=>rfl)) (bf (aP bJ (aP bJ aA))) (by with_unfolding_all rfl))))))
   (aK (bB eV))
   bL)
   (aF (af (i:=2) oR.nd rfl (Or.inl rfl) (ak cP (ae PN (hr.mono (by decide)) (by rfl) (aE (a6 0) aA)) (cw oN (by rfl) B.int eU (kc (cm fM (ak b6 (a6 1) aG (λ_ _=>rfl)) bJ (bK _)) aA)) (λ_ _=>rfl)))
   (aK (bB (gF (cm (v8 (ij hr)) (ak b6 (a6 1) aG (λ_ _=>rfl)) (a6 2) (by with_unfolding_all rfl)) (gF (cm (v8 (ij hr)) (ak b6 (a6 1) aG (λ_ _=>rfl)) (a6 2) (by with_unfolding_all rfl)) (jK (yO kH kH kH (ak b6 (ak b6 (a6 1) aG (λ_ _=>rfl)) aG (λ_ _=>rfl)) (ak b6 (ak b6 (a6 1) aG (λ_ _=>rfl)) aG (λ_ _=>rfl)) (ak b6 (ak b6 (a6 1) aG (λ_ _=>rfl)) aG (λ_ _=>rfl)) (ak b6 (ak b6 (a6 1) aG (λ_ _=>rfl)) aG (λ_ _=>rfl))))))))))),?_⟩
  obtain⟨a,c,h1,h2,h3⟩:=ct;nofun;refine iz (.tup h1 (.cons (.str _) (.cons (.tup h2 (.cons (.int _) (.cons (.int _) .nil))) (.cons (.tup h3 (.cons (.int _) (.cons (.int _) .nil))) .nil)))) ⟨true,rfl,jw (by decide) ?_⟩;refine⟨_,.inr (c8.of h1),jw (λz=>z rfl) ⟨_,_,c8.of h1,rfl,by decide,λp1 n1=>?_⟩⟩;have s1:=(aV.refl H).new (o:=.tup [V.str (Str.ofString "l"),V.str (Str.ofString "r")]) n1;have g1:bE H p1 (.tup [V.str (Str.ofString "l"),V.str (Str.ofString "r")]) p1=some (.tup [V.str (Str.ofString "l"),V.str (Str.ofString "r")]):=aC;generalize bE H p1 (.tup [V.str (Str.ofString "l"),V.str (Str.ofString "r")])=H1 at s1 g1 ⊢;refine⟨.str (sd u),[.str (Str.ofString "l"),.str (Str.ofString "r")],p1,_,.str _,rfl,.inr (c8.of g1),.cons (.str _) (.cons (.str _) .nil),by cases u<;>decide +kernel,by decide +kernel,ac _,false,by cases u<;>decide +kernel,jw (by decide) ?_⟩;have nl:=O.len;refine⟨m,o,b,ns,rfl,hm.same s1,by lia,λfl g H2 nf ng s2 hf hb ne=>?_⟩;have s12:=s1.trans s2;have k2:=s12 _ _ h1;refine⟨_,_,c8.of k2,rfl,?_⟩;nofun;refine⟨_,.ref (g u),cW.of hf,by cases u<;>rfl,?_⟩;obtain⟨z1,z2,z3⟩:=ud cr.z;have ta:=bi.same s12 h2;have tc:=bi.same s12 h3;refine⟨_,_,c8.of k2,rfl,AD ta (hb u) ?_⟩;rw[Vy (by decide),WC cr.hp];refine⟨true,rfl,mQ rfl ⟨_,_,c8.of k2,rfl,AD tc (hb u) ?_⟩⟩;rw[Vy (by decide),WC cr.hq];refine⟨true,rfl,mQ rfl ⟨_,_,c8.of k2,rfl,a,_,0,_,rfl,rfl,c8.of ta,rfl,_,_,c8.of k2,rfl,c,_,0,_,rfl,rfl,c8.of tc,rfl,?_⟩⟩;nofun;refine mQ z1 ⟨_,_,c8.of k2,rfl,a,_,1,_,rfl,rfl,c8.of ta,rfl,?_⟩;nofun;refine mQ z2 ⟨_,_,c8.of k2,rfl,c,_,1,_,rfl,rfl,c8.of tc,rfl,?_⟩;nofun;rw[WC z3];exact q _ s12
def F8 {t6 p7:Addr} (B:nZ mg) (E:Fn K mg "_law_good" qR ["_law_maze_here"]) (Qj:fJ P w K mg base 7 "_law_said" o9 ["_law_maze_here"] sI) (O9:fJ P w K mg base 7 "_law_by_any" kE ["_law_maze_here"] vC) (QZ:fJ P w K mg base 2 "_law_drawable" iw ["_law_maze_here"] Gs) (PP:fJ P w K mg base 2 "_law_crossed_so" gY ["_law_maze_here","_law_told"] zc) (Ua:fJ P w K mg base 2 "_law_due" uS ["_law_maze_here"] C3) (Q0:fJ P w K mg base 2 "_law_rounds" ip ["_law_left","_law_right"] uJ) (Qc:k6 P w K mg base 5 "opened" lG ["left","right"] (vB t6 p7)):fJ P w K mg base 8 "_law_good" qR ["_law_maze_here"] za:=E.mk' λf fd F=>by
 refine F.okS vL (λvs H Q E h=>?_) (λcdv A outer s H vs Q E hr h=>?_)
 ·obtain⟨m,o,b,ns,rfl,_⟩:=h;rfl
 ·obtain⟨m,o,b,ns,rfl,hm,O,q⟩:=h;have two:(2:Nat)<=sizeLine:=by decide
  have nl:=O.len;refine⟨[some (.ref m),none,none],_,rfl,(L2.ig.h (dm (af (i:=1) vL.nd rfl (Or.inl rfl) (ae Qj (hr.mono (by decide)) (by rfl) (aE (a6 0) aA)))
   (aF (cA (fD (dz (ae QZ (hr.mono (by decide)) (by rfl) (aE (a6 0) aA))))
   (aK (bB (gF (cm fM (ak b6 (a6 1) aG (λ_ _=>rfl)) bJ (bK _)) (gF (ae PP (hr.mono (by decide)) (by rfl) (aE (a6 0) (aO (ak b6 (a6 1) aG (λ_ _=>rfl)) aA))) (jK (ae O9 (hr.mono (by decide)) (by rfl) (aE (a6 0) aA)))))))
   bL)
   (aF (cA (bD fM (bF fz (a8 bR (by rfl) B.len aw (aO (ak b6 (a6 0) aG (λ_ _=>rfl)) aA)) aG) aG (bK _))
   (aK (bB (gF (cm (oh (ij hr)) (a6 1) (bf (aP bJ (aP jL aA))) (bK _)) (jK (ae O9 (hr.mono (by decide)) (by rfl) (aE (a6 0) aA))))))
   bL)
   (aF (af (i:=2) vL.nd rfl (Or.inl rfl) (ae Ua (hr.mono (by decide)) (by rfl) (aE (a6 0) aA)))
   (aF (cA (QW.pt (iV (bD (qV (ij hr)) (a6 1) (bf (aP bJ (aE (a6 2) aA))) (bK _)) (g6 (bD oT (a8 bR (by rfl) B.len aw (bx (ae Q0 (hr.mono (by decide)) (by rfl) (aO (ak b6 (a6 2) aG (λ_ _=>rfl)) (aO (ak b6 (a6 2) aG (λ_ _=>rfl)) aA))) aA)) aG (bK _)))))
   (aK (bB eV))
   bL)
   (aF (cA (bD fM (ak b6 (a6 0) aG (λ_ _=>rfl)) bJ (bK _))
   (aK (bB (cm (oh (ij hr)) (lK Qc (hr.mono (by decide)) (by rfl) (aO (ak b6 (a6 2) aG (λ_ _=>rfl)) (aO (ak b6 (a6 2) aG (λ_ _=>rfl)) aA))) (a6 0) (bK _))))
   bL)
   (aK (bB (cm (oh (ij hr)) (lK Qc (hr.mono (by decide)) (by rfl) (aO (ak b6 (a6 2) aG (λ_ _=>rfl)) (aO (ak b6 (a6 2) aG (λ_ _=>rfl)) aA))) (bf (aP bJ (aO (ak b6 (a6 0) aG (λ_ _=>rfl)) aA))) (bK _))))))))))),?_⟩
  refine cJ (λσ H'=>∃p,σ=[some (.ref m),some (.ref p),none]/\aV H H'/\((∃u p1 q1 t,MK b ns u p1 q1/\jH H' t u p1 q1/\zG H' p "crossed" (.ref t))\/(NC b ns/\ns.length % 2=0/\zG H' p "round" .non)\/(NC b ns/\∃k,ns.length+1=2*k/\∃t,zE H' t b ns/\zG H' p "told" (.ref t)))) ?_ ?_
  ·nofun;exact⟨_,_,rfl,hm.dat,yd,.inr ⟨m,o,b,ns,rfl,hm,rfl,O,λnc ev p H1 s1 sy=>⟨p,rfl,s1,.inr (.inl ⟨nc,ev,sy⟩)⟩,λnc k hk t p H1 s1 wt sy=>⟨p,rfl,s1,.inr (.inr ⟨nc,k,hk,t,wt,sy⟩)⟩,λu p q cr t r H1 s1 ct sy=>⟨r,rfl,s1,.inl ⟨u,p,q,t,cr,ct,sy⟩⟩⟩⟩
  rintro σ H1 ⟨p,rfl,s1,h⟩;have hm1:=hm.same s1;nofun;refine⟨m,o,b,ns,rfl,hm1,by lia,λH2 s2=>⟨_,rfl,?_⟩⟩;have s12:=s1.trans s2;have hm2:=hm1.same s2;rcases h with ⟨u,p1,q1,t,cr,ct,sy⟩ | ⟨nc,ev,sy⟩ | ⟨nc,k,hk,t,wt,sy⟩
  ·have nn:¬NC b ns:=λnc=>by have:=nc u p1 cr.hp q1 cr.hq;rw[cr.z] at this;cases this
   have e:Gz b ns=false:=by
    cases z:Gz b ns with
    | false=>rfl
    | true=>exact absurd (Ff.mp z) nn
   rw[e];refine mQ rfl ?_;have sy2:=s2 _ _ sy;refine⟨_,_,c8.of sy2,rfl,?_⟩;rw[L2.zP,WC rfl];refine⟨_,rfl,mQ rfl ⟨_,_,c8.of sy2,rfl,m,o,b,ns,t,u,p1,q1,rfl,hm2,O,ct.same s2,cr,λH3 s3=>⟨_,rfl,mQ rfl ?_⟩⟩⟩;exact⟨_,_,rfl,(hm2.same s3).dat,yd,λH4 s4=>q _ (s12.trans (s3.trans s4)),.inr ⟨m,o,b,ns,rfl,hm2.same s3,rfl,O,.inl nn⟩⟩
  ·rw[Da nc];refine jw (by decide) ⟨_,_,c8.of hm2.1,rfl,o,_,rfl,.inr (c8.of hm2.2),by decide,?_⟩;rw[aD];refine mQ (by lia) ⟨two,λp2 n2=>?_⟩;have s3:=(aV.refl H2).new (o:=.tup [V.str (Str.ofString "round"),V.non]) n2;refine yu (d:=.tuple [.str (Str.ofString "round"),.none]) (.tup (s3 _ _ (s2 _ _ sy)) (.cons (.str _) (.cons .non .nil))) (.tup aC (.cons (.str _) (.cons .non .nil))) (by decide +kernel) (by decide +kernel) ⟨_,rfl,mQ rfl ?_⟩;exact⟨_,_,rfl,(hm2.same s3).dat,yd,λH4 s4=>q _ (s12.trans (s3.trans s4)),.inr ⟨m,o,b,ns,rfl,hm2.same s3,rfl,O,.inr ev⟩⟩
  ·rw[Da nc];refine jw (by decide) ⟨_,_,c8.of hm2.1,rfl,o,_,rfl,.inr (c8.of hm2.2),by decide,?_⟩;rw[aD];refine jw (by lia) ⟨m,o,b,ns,k,rfl,hm2,O,hk,λt3 H3 s3 wt3=>⟨two,λp4 n4=>?_⟩⟩;have s4:=(aV.refl H3).new (o:=.tup [V.str (Str.ofString "told"),.ref t3]) n4;have s24:=s2.trans (s3.trans s4);have dW:∀t' H',zE H' t' b ns->Dat H' (.ref t') (.tuple [.str (wd (oM b ns false)),.str (wd (oM b ns true))]):=λt' H' z=>.tup z (.cons (.str _) (.cons (.str _) .nil));have wt4:zE _ t3 b ns:=s4 _ _ wt3;have ly:(PyData.tuple [.str (Str.ofString "told"),.tuple [.str (wd (oM b ns false)),.str (wd (oM b ns true))]]).canLay0=true:=by
    show (PyData.strOk (Str.ofString "told")&&((PyData.strOk (wd (oM b ns false))&&(PyData.strOk (wd (oM b ns true))&&true))&&true))=true;rw[show PyData.strOk (wd (oM b ns false))=true from Bg _,show PyData.strOk (wd (oM b ns true))=true from Bg _,show PyData.strOk (Str.ofString "told")=true by decide +kernel];rfl
   refine yu (d:=.tuple [.str (Str.ofString "told"),.tuple [.str (wd (oM b ns false)),.str (wd (oM b ns true))]]) (.tup (s24 _ _ sy) (.cons (.str _) (.cons (dW _ _ (s24 _ _ wt)) .nil))) (.tup aC (.cons (.str _) (.cons (dW _ _ wt4) .nil))) ly (by show 1+max 0 (max (1+max 0 (max 0 0)) 0)<=60;decide) ⟨_,rfl,jw (by decide) ?_⟩;have hm4:=hm1.same s24;have s14:=s1.trans s24;generalize bE H3 p4 (.tup [V.str (Str.ofString "told"),.ref t3])=H4 at *;refine⟨t3,_,0,_,rfl,rfl,c8.of wt4,rfl,t3,_,1,_,rfl,rfl,c8.of wt4,rfl,_,_,rfl,AQ false true O hk,λl ws H5 nl5 s5 hl rf=>⟨l,_,rfl,.inl (cW.of hl),?_⟩⟩;rw[rf.len,GF O nc hk];refine jw (λz=>z rfl) ?_;have hm5:=hm4.same s5;have wt5:zE H5 t3 b ns:=s5 _ _ wt4;have s15:=s14.trans s5;refine⟨_,_,c8.of hm5.1,rfl,?_⟩;have tk:∀u,qF (G0 (oM b ns u)):=λu=>⟨pE _,by show (wd _).length<=1000;rw[dM,kf u hk];lia⟩
   have op:∀(v w:Bool) (Q':VK),v=b->w=!b->(∀m' o' H6,aV H5 H6->dj H6 m' o' false ns->Q' (.ref m') H6)->vB t6 p7 [.str (wd (oM b ns v)),.str (wd (oM b ns w))] H5 Q' E0:=λv w Q' ev ew hq=>by
    subst ev ew;refine⟨_,_,_,_,rfl,.str _,tk v,.str _,tk _,.inl ⟨_,_,rfl,rfl,AQ _ _ O hk,λz=>absurd (by rw[zB O nc hk];rfl) z,λz=>by rw[kf v hk] at z;lia,λr hr _ m' o' H6 s6 hm6=>hq m' o' H6 s6 ?_⟩⟩;rw[zB O nc hk] at hr;cases hr;rw[E1 O] at hm6;exact hm6
   cases b with
   | false=>
    rw[L2.zP,WC (show sd false=Str.ofString "l" from rfl)];refine⟨_,rfl,mQ rfl ⟨t3,_,0,_,rfl,rfl,c8.of wt5,rfl,t3,_,1,_,rfl,rfl,c8.of wt5,rfl,op _ _ _ rfl rfl λm' o' H6 s6 hm6=>MV hm6 (hm5.same s6) ?_⟩⟩;rw[WC rfl,WC rfl];exact q _ (s15.trans s6)
   | true=>
    rw[L2.zP,WB (by decide +kernel)];refine⟨_,rfl,jw (by decide) ⟨t3,_,1,_,rfl,rfl,c8.of wt5,rfl,t3,_,0,_,rfl,rfl,c8.of wt5,rfl,op _ _ _ rfl rfl λm' o' H6 s6 hm6=>⟨_,_,c8.of (hm5.same s6).1,rfl,two,λp7 n7=>?_⟩⟩⟩;have s7:=(aV.refl H6).new (o:=.tup [V.str (Str.ofString "l"),.ref o]) n7;refine MV (hm6.same s7) (o2:=o) (t:=false) (ns:=ns) ⟨aC,s7 _ _ (hm5.same s6).2⟩ ?_;rw[WC rfl,WC rfl];exact q _ (s15.trans (s6.trans s7))
def JS (B:nZ mg) (E:Fn K mg "law" pN ["_law_script"]) (OB:fJ P w K mg base 1 "_law_cell_at" jt ["_law_script","_law_k"] (zd K)) (Rf:fJ P w K mg base 2 "_law_order" ny ["_law_cell","_law_n"] wH) (SR:fJ P w K mg base 4 "_law_maze" qQ ["_law_cell","_law_rows"] z5) (Rg:fJ P w K mg base 8 "_law_good" qR ["_law_maze_here"] za) (Qj:fJ P w K mg base 7 "_law_said" o9 ["_law_maze_here"] sI) (O9:fJ P w K mg base 7 "_law_by_any" kE ["_law_maze_here"] vC):fJ P w K mg base 9 "law" pN ["_law_script"] (wI K):=E.mk' λf fd F=>by
 refine F.okS o8 (λvs H Q E h=>?_) (λcdv A outer s H vs Q E hr h=>?_)
 ·obtain⟨a,ns,rfl,_⟩:=h;rfl
 ·obtain⟨a,cs,rfl,hS,hlen,kQ⟩:=h;have two:(2:Nat)<=sizeLine:=by decide
  refine⟨[some (.ref a),none,none,none,none,none],_,rfl,(L2.ig.h (dm (af (i:=1) o8.nd rfl (Or.inl rfl) (ae SR (hr.mono (by decide)) (by rfl) (bx (ae OB (hr.mono (by decide)) (by rfl) (aE (a6 0) (aP aG aA))) (cf (bF fz (ae OB (hr.mono (by decide)) (by rfl) (aE (a6 0) (aP aG aA))) aG) aA))))
   (dm (cA (bD fM (bF fz (bF oH (ae OB (hr.mono (by decide)) (by rfl) (aE (a6 0) (aP aG aA))) aG) aG) aG (bK _))
   (aF (af (i:=2) o8.nd rfl (Or.inl rfl) (bF qU aG (bF fz (bF oH (ae OB (hr.mono (by decide)) (by rfl) (aE (a6 0) (aP aG aA))) aG) aG)))
    (aK (af (i:=1) o8.nd rfl (Or.inl rfl) (bf (aO (ak b6 (a6 1) aG (λ_ _=>rfl)) (cf (bF DZ (ak b6 (a6 1) aG (λ_ _=>rfl)) (cw (tN rfl) (by rfl) B.tuple cK (nI (cw ui (by rfl) B.range iT (cf (bF eF (a8 bR (by rfl) B.len aw (aO (ak b6 (a6 1) aG (λ_ _=>rfl)) aA)) aG) (aE (a6 2) aA))) aA))) aA))))))
   bL)
   (dm (af (i:=3) o8.nd rfl (Or.inl rfl) (ae OB (hr.mono (by decide)) (by rfl) (aE (a6 0) (aP aG aA))))
   (dm (af (i:=4) o8.nd rfl (Or.inl rfl) (bf (aO (ak yk bJ (bF fz (a6 3) aG) (λ_ _=>rfl)) (bx (ae Rf (hr.mono (by decide)) (by rfl) (cf (bF oH (a6 3) aG) (cf (bF fz (ae OB (hr.mono (by decide)) (by rfl) (aE (a6 0) (aP aG aA))) aG) aA))) aA))))
   (dm (cA (QW.pt (iV (fD (dz (ae Rg (hr.mono (by decide)) (by rfl) (aE (a6 1) aA)))) (g6 (fD (dz (ae Rg (hr.mono (by decide)) (by rfl) (aE (a6 4) aA)))))))
   (aK (bB eV))
   bL)
   (dm (af (i:=5) o8.nd rfl (Or.inl rfl) (bn (cI (bf (aP bJ (cI (bf (aP aG aA)) aA))) (cI (bf (aP bJ (cI (bf (aP aG aA)) aA))) (cI (bf (aP bJ (cI (bf (aP aG (aP aG aA))) aA))) (cI (bf (aP bJ (lM (bn (aP aG aA)) aA))) (lM (bn (aP bJ (cI (bf (aP aG aA)) aA))) (aP jL (cI (bf (aP bJ (cI (bf (aP eV aA)) aA))) (cI (bf (aP bJ (cI (bf (aP aG aA)) aA))) aA))))))))))
   (aK (bB (gF (cm (oh (ij hr)) (ae Qj (hr.mono (by decide)) (by rfl) (aO (ak cP (a6 5) (bF fz (a6 3) aG) (λ_ _=>rfl)) aA)) (bf (aP bJ (aP jL aA))) (bK _)) (jK (ae O9 (hr.mono (by decide)) (by rfl) (aO (ak cP (a6 5) (bF fz (a6 3) aG) (λ_ _=>rfl)) aA))))))))))))),?_⟩
  refine cJ (λσ H'=>∃m o b ns,σ=[some (.ref a),some (.ref m),none,none,none,none]/\aV H H'/\dj H' m o b ns/\gm ns/\NC b ns) ?_ ?_
  ·nofun;refine⟨a,cs,0,rfl,hS,λc0=>⟨a,cs,1,rfl,hS,λc1=>?_⟩⟩;nofun;have r0:0<=c1 % 10:=dw _ (by decide);have r1:c1 % 10<10:=dL _ (by decide);obtain⟨r,hr⟩:=fY r0;rw[hr] at r1 ⊢;exact⟨by decide,c0,r,rfl,by lia,λm o b ns H2 nm no s2 hm O nc=>⟨m,o,b,ns,rfl,s2,hm,O,nc⟩⟩
  rintro σ H2 ⟨m2,o2,b2,ns2,rfl,s2,hm2,O2,nc2⟩;refine cJ (λσ H'=>∃x2:Option V,∃m o b ns,σ=[some (.ref a),some (.ref m),x2,none,none,none]/\aV H2 H'/\dj H' m o b ns/\gm ns) ?_ ?_
  ·nofun;refine⟨a,cs,1,rfl,s2.seq hS,λc3=>?_⟩;nofun;refine⟨⟨by decide,by decide⟩,by decide,fV (λ_=>?_) (λ_=>⟨_,m2,o2,b2,ns2,rfl,aV.refl _,hm2,O2⟩)⟩;refine⟨a,cs,1,rfl,s2.seq hS,λc3'=>?_⟩;nofun;refine⟨⟨by decide,by decide⟩,by decide,_,_,c8.of hm2.1,rfl,_,_,c8.of hm2.1,rfl,_,_,c8.of hm2.1,rfl,o2,_,rfl,.inr (c8.of hm2.2),?_⟩;rw[aD];have l20:=O2.len;have q0:0<=c3' / 40 % 4:=dw _ (by decide);have q1:c3' / 40 % 4<4:=dL _ (by decide);generalize c3' / 40 % 4=q4 at q0 q1 ⊢;refine λp np=>⟨_,_,aC,⟨by lia,by lia,by lia,by lia,by lia⟩,λl nl=>?_⟩
   have t1:=(aV.refl H2).new (o:=.rng (((ns2.length:Nat):Int)+1) (21-q4)) np;have t2:=(aV.refl _).new (o:=.tup ((cF (((ns2.length:Nat):Int)+1) (21-q4-(((ns2.length:Nat):Int)+1)).toNat).map V.int)) nl;have t12:=t1.trans t2;generalize hk:(21-q4-(((ns2.length:Nat):Int)+1)).toNat=k at t2 t12 ⊢;have lr:(cF (((ns2.length:Nat):Int)+1) k).length=k:=by unfold cF;simp
   refine GH (t12 _ _ hm2.2) aC (by rw[aD,aD,lr];lia) λo' H4 s4 ho'=>⟨two,λm' nm'=>?_⟩
   rw[<-ar] at ho';have s5:=(aV.refl H4).new (o:=.tup [.str (sd b2),.ref o']) nm';have hk20:ns2.length+k<=20\/k=0:=by lia
   have mo:gm (ns2++cF (((ns2.length:Nat):Int)+1) k):=by
    rcases hk20 with h | h
    ·exact(zw O2 nc2 k h).1
    ·subst h;exact(zw O2 nc2 0 (by lia)).1
   exact⟨_,m',o',b2,_,rfl,t12.trans (s4.trans s5),⟨aC,s5 _ _ ho'⟩,mo⟩
  clear hm2 O2 nc2;rintro σ H3 ⟨x2,m2,o2,b2,ns2,rfl,s3,hm2,O2⟩;have s23:=s2.trans s3;clear s2 s3;refine cJ (λσ H'=>∃c2:Int,σ=[some (.ref a),some (.ref m2),x2,some (.int c2),none,none]/\H3=H') ?_ ?_
  ·nofun;exact⟨a,cs,2,rfl,s23.seq hS,λc2=>⟨c2,rfl,rfl⟩⟩
  rintro σ H' ⟨c2,rfl,rfl⟩;refine cJ (λσ H'=>∃m o b ns,σ=[some (.ref a),some (.ref m2),x2,some (.int c2),some (.ref m),none]/\aV H3 H'/\dj H' m o b ns/\gm ns) ?_ ?_
  ·nofun;refine⟨by decide,by decide,_,HE (dw _ (by decide)) (dL _ (by decide)),?_⟩;rw[HA];generalize decide (c2 % 2=1)=b;refine⟨⟨by decide,by decide⟩,a,cs,3,rfl,s23.seq hS,λc3=>?_⟩;nofun;have r0:0<=c3 % 10:=dw _ (by decide);have r1:c3 % 10<10:=dL _ (by decide);obtain⟨n,hn⟩:=fY r0;rw[hn] at r1 ⊢;refine⟨by decide,_,n,rfl,by lia,λl ns H1 nl s1 hl hln pm=>⟨two,λm nm=>?_⟩⟩;have s4:=(aV.refl H1).new (o:=.tup [.str (sd b),.ref l]) nm;exact⟨m,l,b,ns,rfl,s1.trans s4,⟨aC,s4 _ _ hl⟩,⟨by lia,by rw[hln];exact pm⟩⟩
  rintro σ H1 ⟨m1,o1,b1,ns1,rfl,s1,hm1,O1⟩;have hm2:=hm2.same s1;refine cJ (λσ H'=>σ=[some (.ref a),some (.ref m2),x2,some (.int c2),some (.ref m1),none]/\aV H1 H') ?_ ?_
  ·nofun;exact⟨m2,o2,b2,ns2,rfl,hm2,O2,λH4 s4=>⟨_,rfl,jw (by decide) ⟨m1,o1,b1,ns1,rfl,hm1.same s4,O1,λH5 s5=>⟨_,rfl,jw (by decide) ⟨trivial,s4.trans s5⟩⟩⟩⟩⟩
  rintro σ H4 ⟨rfl,s4⟩;clear hm1 hm2;refine cJ (λσ H'=>∃l xs,σ=[some (.ref a),some (.ref m2),x2,some (.int c2),some (.ref m1),some (.ref l)]/\aV H4 H'/\H' l=some (.lst xs)/\gS H' xs zq) ?_ ?_
  ·refine Jp (J3 (w:=View.all) (ds:=zq) ?_ (by show 8<=1000;decide) trivial λp xs H' _ s' _ g hL=>?_)
   ·exact .cons (.tup (.cons (.str _) (.cons (.tup (.cons (.int _) .nil) (by decide)) .nil)) (by decide)) (.cons (.tup (.cons (.str _) (.cons (.tup (.cons (.int _) .nil) (by decide)) .nil)) (by decide)) (.cons (.tup (.cons (.str _) (.cons (.tup (.cons (.int _) (.cons (.int _) .nil)) (by decide)) .nil)) (by decide)) (.cons (.tup (.cons (.str _) (.cons (.lst (.cons (.int _) .nil) (by decide)) .nil)) (by decide)) (.cons (.lst (.cons (.str _) (.cons (.tup (.cons (.int _) .nil) (by decide)) .nil)) (by decide)) (.cons .non (.cons (.tup (.cons (.str _) (.cons (.tup (.cons (.bl _) .nil) (by decide)) .nil)) (by decide)) (.cons (.tup (.cons (.str _) (.cons (.tup (.cons (.int _) .nil) (by decide)) .nil)) (by decide)) .nil)))))))
   ·nofun;exact⟨p,xs,rfl,s',g,hL⟩
  rintro σ' H5 ⟨l,xs,rfl,s5,hl,hL⟩;nofun;obtain⟨v,d,hv,hd,hD⟩:=Fy (i:=c2 % 8) hL (dw _ (by decide)) (by show c2 % 8<8;exact dL _ (by decide));obtain⟨bad,pl⟩:=Az d hd;refine⟨by decide,_,_,cW.of hl,hv,?_⟩;refine⟨v,d,rfl,hD,pl,.inl ⟨bad,λp H6 s6 sy=>⟨two,λp7 n7=>?_⟩⟩⟩;have s7:=(aV.refl H6).new (o:=.tup [V.str (Str.ofString "maze"),V.non]) n7;refine yu (d:=.tuple [.str (Str.ofString "maze"),.none]) (.tup (s7 _ _ sy) (.cons (.str _) (.cons .non .nil))) (.tup aC (.cons (.str _) (.cons .non .nil))) (by decide +kernel) (by decide +kernel) ⟨_,rfl,mQ rfl ?_⟩;have s67:=s6.trans s7;exact⟨by decide,_,_,cW.of (s67 _ _ hl),hv,v,d,rfl,hD.same s67,pl,λH8 s8=>kQ _,.inl bad⟩
end
def eS(K:WG)(x:Str)(st:Stmt):Prop:=∃(f:Addr) (oc:Value) (od an:Option Addr) (osl:Array (Option Value)) (kV doc pm cdv ct:Value),PySem.W.nsIn K mainGlobals x=some (some (.ref f))/\K.lookup f=some ⟨oc,od,.func (PySem.W.fnOf x x (jf st) (gf st) (ao st) .none kV doc pm an cdv ct),osl⟩/\PySem.W.codeIn K cdv x=true/\PySem.W.keepIn K (.ref f)=true
def fnIn{K:WG}{x:Str}{st:Stmt}{f:Addr}{oc:Value}{od an:Option Addr}{osl:Array (Option Value)}{kV doc pm cdv ct:Value}(a:PySem.W.nsIn K mainGlobals x=some (some (.ref f)))(l:K.lookup f=some ⟨oc,od,.func (PySem.W.fnOf x x (jf st) (gf st) (ao st) .none kV doc pm an cdv ct),osl⟩)(c:PySem.W.codeIn K cdv x=true)(k:PySem.W.keepIn K (.ref f)=true):eS K x st:=⟨_,_,_,_,_,_,_,_,_,_,a,l,c,k⟩
def cn{K:WG}{h:Heap}{mg:Str->Option Value}(X:K.In h)(G:h.Ns mainGlobals mg){x:Str}{st:Stmt}{ps:List Str}(a:eS K x st)
  (hb:∀(kV doc pm:Value) (an:Option Addr) (cdv ct:Value) (us:List Value),us.length=ps.length->bindArgs (PySem.W.fnOf x x (jf st) (gf st) (ao st) .none kV doc pm an cdv ct) ⟨us,[]⟩=pure (ps.zip us)):Fn K mg x st ps:=
 let ⟨f,_,_,_,_,_,_,_,_,_,a,l,c,k⟩:=a
 have F:=Dv (st:=st) l c k
 ⟨f,_,F,be X G a,F.binds hb⟩
def all_mk {l:PySem.W.OpenLaw} {w:World} {K:WG} {h:Heap} {mg:Str->Option Value} {fa:Addr} (X:K.In h) (G:h.Ns mainGlobals mg) (hfa:mg "law"=some (.ref fa))
  (Q1:eS K "crossing" iG)
  (Q2:eS K "is_whole" iF)
  (Qk:eS K "is_side" jn)
  (Q3:eS K "is_order" iu)
  (Ql:eS K "is_maze" jo)
  (Qm:eS K "is_word" ir)
  (Rh:eS K "pairs" nv)
  (RG:eS K "is_bow" lI)
  (Oa:eS K "fills_a_word" fS)
  (Qn:eS K "word_of" jk)
  (PQ:eS K "other_side" gX)
  (Ob:eS K "side_of_step" fR)
  (Ox:eS K "rows_of_way" fq)
  (Qo:eS K "bows_of" ix)
  (Qp:eS K "crossed" jr)
  (Ub:eS K "vet" uR)
  (Ps:eS K "vet_words" iQ)
  (Q4:eS K "partners" iq)
  (PU:eS K "round_from" gW)
  (RH:eS K "rounds" lF)
  (NP:eS K "middle_put_outside" dN)
  (RJ:eS K "closed" kD)
  (RK:eS K "opened" lG)
  (Ri:eS K "_law_alone" nz)
  (Qq:eS K "_law_cell_at" jt)
  (RL:eS K "_law_digits" kC)
  (Rj:eS K "_law_order" ny)
  (Uc:eS K "_law_can" sQ)
  (OS:eS K "_law_closing_letter" dg)
  (RM:eS K "_law_letter" lH)
  (Qr:eS K "_law_renamed" jm)
  (SS:eS K "_law_ring" qP)
  (RN:eS K "_law_walked" lE)
  (ST:eS K "_law_maze" qQ)
  (SU:eS K "_law_bows" nH)
  (Qs:eS K "_law_crosses" jq)
  (Q5:eS K "_law_drawable" iw)
  (RO:eS K "_law_across" lJ)
  (Q6:eS K "_law_rounds" ip)
  (SV:eS K "_law_said" o9)
  (RP:eS K "_law_by_any" kE)
  (Ud:eS K "_law_due" uS)
  (PV:eS K "_law_crossed_so" gY)
  (SW:eS K "_law_good" qR)
  (RQ:eS K "law" pN)
  {Rk:Tok} (PX:PySem.W.nsIn K mainGlobals "MOST_RINGS"=some (some (.int 20 Rk)))
  {Rl:Tok} (PY:PySem.W.nsIn K mainGlobals "MOST_SIGNS"=some (some (.int 40 Rl)))
  {SA:Tok} (Pt:PySem.W.nsIn K mainGlobals "MOST_ENDS"=some (some (.int 20 SA)))
  {Ma:Addr} (Pu:PySem.W.nsIn K mainGlobals "RingError"=some (some (.ref Ma)))
  {M9:Addr} (Pw:PySem.W.nsIn K mainGlobals "NoMaze"=some (some (.ref M9)))
  {d7:Addr} (QV:PySem.W.nsIn K mainGlobals "Crossed"=some (some (.ref d7)))
  {t6:Addr} (Px:PySem.W.nsIn K mainGlobals "NoWord"=some (some (.ref t6)))
  {Mb:Addr} (Py:PySem.W.nsIn K mainGlobals "NoDrawing"=some (some (.ref Mb)))
  {Mk:Addr} (Rn:PySem.W.nsIn K mainGlobals "NoBow"=some (some (.ref Mk)))
  {p7:Addr} (PH:PySem.W.nsIn K mainGlobals "NoRound"=some (some (.ref p7)))
  {Mh:Addr} (RS:PySem.W.nsIn K mainGlobals "NoCode"=some (some (.ref Mh)))
  {Mc:Addr} (Q7:PySem.W.nsIn K mainGlobals "NoNumber"=some (some (.ref Mc)))
  {Mi:Addr} (RT:PySem.W.nsIn K mainGlobals "NoName"=some (some (.ref Mi)))
  {Ml:Addr} (Ro:PySem.W.nsIn K mainGlobals "NoRow"=some (some (.ref Ml)))
  {NR:Addr} {dR_x dM_x:Option Addr} {cdR_x:ClassData} {slR_x slM_x:Array (Option Value)} {cM_x:Value} {es2_x:Array DictEntry} {ep2_x:Nat}
  (x_lkR:K.lookup Ma=some ⟨.type "type",dR_x,.cls cdR_x,slR_x⟩) (x_eR:cdR_x.ns=NR) (x_lkM:K.lookup NR=some ⟨cM_x,dM_x,.dict es2_x ep2_x,slM_x⟩) (x_nR:L2.strKeys es2_x=true)
  (x_r1:PySem.W.nsIn K NR "__init__"=some none)
  (x_r2:PySem.W.nsIn K NR "__getattribute__"=some none)
  (x_r3:PySem.W.nsIn K NR "__getattr__"=some none)
  (x_r4:PySem.W.nsIn K NR "args"=some none)
  (x_sp:PySem.W.specialIn K (.builtin "object.__class__") "__get__"=some (some (.builtin "getset_descriptor.__get__"))) (x_tk:PySem.W.takesIn K (.builtin "object.__class__")=some true) (x_rb:PySem.W.mroIn K Ma (.type "BaseException")=some true)
  (x_rd:PySem.W.readsIn K Ma (.type "type")=true) (x_sg:PySem.W.specialIn K (.ref Ma) "__getattribute__"=some (some (.builtin "type.__getattribute__"))) (x_fi:PySem.W.findCls K (.ref Ma) (.type "type") "__init__"=some (.val (.builtin "ValueError.__init__")))
  {SD:Option Addr} {Rp:ClassData} {Rq:Array (Option Value)} (x_lk_NoDrawing:K.lookup Mb=some ⟨.type "type",SD,.cls Rp,Rq⟩)
  {VE:Option Addr} {Ue:ClassData} {Ug:Array (Option Value)} (x_lk_NoBow:K.lookup Mk=some ⟨.type "type",VE,.cls Ue,Ug⟩)
  {Uh:Option Addr} {Tj:ClassData} {Tl:Array (Option Value)} (x_lk_NoCode:K.lookup Mh=some ⟨.type "type",Uh,.cls Tj,Tl⟩)
  {SX:Option Addr} {SE:ClassData} {SG:Array (Option Value)} (x_lk_NoNumber:K.lookup Mc=some ⟨.type "type",SX,.cls SE,SG⟩)
  {Ui:Option Addr} {Tn:ClassData} {To:Array (Option Value)} (x_lk_NoName:K.lookup Mi=some ⟨.type "type",Ui,.cls Tn,To⟩)
  {VF:Option Addr} {Uj:ClassData} {Uk:Array (Option Value)} (x_lk_NoRow:K.lookup Ml=some ⟨.type "type",VF,.cls Uj,Uk⟩)
  {RU:Addr} {Tp Ul:Str} {Tq:List Value} {Tr:Bool} {Ts:List Str} {SY:List Value} {Tt:Bool} {SZ:Option Bool} {Tu Tv:Option Addr} {Tw Tx Tz UA UB:Option Value} {S0:Array (Option Value)} {UC:Value} {R7:Array DictEntry} {UD:Nat}
  (Mf:K.lookup M9=some (excClassObj Tp Ul M9 RU Tq (.ref Ma::[.type "ValueError",.type "Exception",.type "BaseException",.type "object"]) Tr Ts SY Tt SZ Tu Tw Tx Tz UA UB "ValueError.__new__")) (OU:K.lookup RU=some ⟨UC,Tv,.dict R7 UD,S0⟩) (Of:L2.strKeys R7=true)
  (Og:PySem.W.nsIn K RU "__init__"=some none)
  (Oh:PySem.W.findIn K (.ref M9) "__getattribute__"=some (some (.builtin "BaseException.__getattribute__"))) (Oj:PySem.W.findIn K (.ref M9) "__getattr__"=some none) (Ol:PySem.W.findIn K (.ref M9) "__class__"=some (some (.builtin "object.__class__"))) (Om:PySem.W.mroIn K M9 (.type "object")=some true)
  (Pz:PySem.W.mroIn K M9 (.ref Ma)=some true) (QC:PySem.W.mroIn K M9 (.type "ValueError")=some true) (QD:PySem.W.mroIn K M9 (.ref M9)=some true) (OC:PySem.W.mroIn K M9 (.type "BaseException")=some true)
  (Mo:PySem.W.mroIn K M9 (.ref d7)=some false) (NZ:(Value.ref M9==Value.ref d7)=false)
  (Mw:PySem.W.mroIn K M9 (.ref t6)=some false) (Nh:(Value.ref M9==Value.ref t6)=false)
  (NE:PySem.W.mroIn K M9 (.ref Mb)=some false) (NF:(Value.ref M9==Value.ref Mb)=false)
  (OE:PySem.W.mroIn K M9 (.ref Mk)=some false) (OG:(Value.ref M9==Value.ref Mk)=false)
  (Mp:PySem.W.mroIn K M9 (.ref p7)=some false) (N0:(Value.ref M9==Value.ref p7)=false)
  (Ni:PySem.W.mroIn K M9 (.ref Mh)=some false) (Nj:(Value.ref M9==Value.ref Mh)=false)
  (NQ:PySem.W.mroIn K M9 (.ref Mc)=some false) (NS:(Value.ref M9==Value.ref Mc)=false)
  (Nk:PySem.W.mroIn K M9 (.ref Mi)=some false) (Nl:(Value.ref M9==Value.ref Mi)=false)
  (OH:PySem.W.mroIn K M9 (.ref Ml)=some false) (OI:(Value.ref M9==Value.ref Ml)=false)
  {RV:Addr} {UE Um:Str} {UF:List Value} {UG:Bool} {UH:List Str} {S3:List Value} {UI:Bool} {S4:Option Bool} {UJ UL:Option Addr} {UM UN UO UP UQ:Option Value} {S5:Array (Option Value)} {UR:Value} {R8:Array DictEntry} {US:Nat}
  (Mg:K.lookup t6=some (excClassObj UE Um t6 RV UF (.ref Ma::[.type "ValueError",.type "Exception",.type "BaseException",.type "object"]) UG UH S3 UI S4 UJ UM UN UO UP UQ "ValueError.__new__")) (OV:K.lookup RV=some ⟨UR,UL,.dict R8 US,S5⟩) (On:L2.strKeys R8=true)
  (Oq:PySem.W.nsIn K RV "__init__"=some none)
  (Os:PySem.W.findIn K (.ref t6) "__getattribute__"=some (some (.builtin "BaseException.__getattribute__"))) (Ot:PySem.W.findIn K (.ref t6) "__getattr__"=some none) (Ou:PySem.W.findIn K (.ref t6) "__class__"=some (some (.builtin "object.__class__"))) (Ov:PySem.W.mroIn K t6 (.type "object")=some true)
  (QJ:PySem.W.mroIn K t6 (.ref Ma)=some true) (QK:PySem.W.mroIn K t6 (.type "ValueError")=some true) (QL:PySem.W.mroIn K t6 (.ref t6)=some true) (OD:PySem.W.mroIn K t6 (.type "BaseException")=some true)
  (Mx:PySem.W.mroIn K t6 (.ref M9)=some false) (Nm:(Value.ref t6==Value.ref M9)=false)
  (Mq:PySem.W.mroIn K t6 (.ref d7)=some false) (N1:(Value.ref t6==Value.ref d7)=false)
  (NG:PySem.W.mroIn K t6 (.ref Mb)=some false) (NH:(Value.ref t6==Value.ref Mb)=false)
  (OK:PySem.W.mroIn K t6 (.ref Mk)=some false) (OL:(Value.ref t6==Value.ref Mk)=false)
  (Mr:PySem.W.mroIn K t6 (.ref p7)=some false) (N2:(Value.ref t6==Value.ref p7)=false)
  (Nn:PySem.W.mroIn K t6 (.ref Mh)=some false) (Np:(Value.ref t6==Value.ref Mh)=false)
  (NT:PySem.W.mroIn K t6 (.ref Mc)=some false) (NU:(Value.ref t6==Value.ref Mc)=false)
  (Nq:PySem.W.mroIn K t6 (.ref Mi)=some false) (Nr:(Value.ref t6==Value.ref Mi)=false)
  (OM:PySem.W.mroIn K t6 (.ref Ml)=some false) (ON:(Value.ref t6==Value.ref Ml)=false)
  {Qu:Addr} {S6 UT:Str} {S7:List Value} {S8:Bool} {S9:List Str} {SH:List Value} {Sa:Bool} {SJ:Option Bool} {Sb Sd:Option Addr} {Se Sf Sg Sh Si:Option Value} {SK:Array (Option Value)} {Sj:Value} {RW:Array DictEntry} {Sk:Nat}
  (Md:K.lookup p7=some (excClassObj S6 UT p7 Qu S7 (.ref Ma::[.type "ValueError",.type "Exception",.type "BaseException",.type "object"]) S8 S9 SH Sa SJ Sb Se Sf Sg Sh Si "ValueError.__new__")) (OT:K.lookup Qu=some ⟨Sj,Sd,.dict RW Sk,SK⟩) (OW:L2.strKeys RW=true)
  (OX:PySem.W.nsIn K Qu "__init__"=some none)
  (OY:PySem.W.findIn K (.ref p7) "__getattribute__"=some (some (.builtin "BaseException.__getattribute__"))) (OZ:PySem.W.findIn K (.ref p7) "__getattr__"=some none) (O0:PySem.W.findIn K (.ref p7) "__class__"=some (some (.builtin "object.__class__"))) (O3:PySem.W.mroIn K p7 (.type "object")=some true)
  (PZ:PySem.W.mroIn K p7 (.ref Ma)=some true) (P0:PySem.W.mroIn K p7 (.type "ValueError")=some true) (P3:PySem.W.mroIn K p7 (.ref p7)=some true) (NX:PySem.W.mroIn K p7 (.type "BaseException")=some true)
  (Ms:PySem.W.mroIn K p7 (.ref M9)=some false) (N3:(Value.ref p7==Value.ref M9)=false)
  (Mm:PySem.W.mroIn K p7 (.ref d7)=some false) (NV:(Value.ref p7==Value.ref d7)=false)
  (Mt:PySem.W.mroIn K p7 (.ref t6)=some false) (N4:(Value.ref p7==Value.ref t6)=false)
  (Mz:PySem.W.mroIn K p7 (.ref Mb)=some false) (NA:(Value.ref p7==Value.ref Mb)=false)
  (Nt:PySem.W.mroIn K p7 (.ref Mk)=some false) (Nu:(Value.ref p7==Value.ref Mk)=false)
  (N5:PySem.W.mroIn K p7 (.ref Mh)=some false) (N6:(Value.ref p7==Value.ref Mh)=false)
  (NI:PySem.W.mroIn K p7 (.ref Mc)=some false) (NJ:(Value.ref p7==Value.ref Mc)=false)
  (N7:PySem.W.mroIn K p7 (.ref Mi)=some false) (N8:(Value.ref p7==Value.ref Mi)=false)
  (Nv:PySem.W.mroIn K p7 (.ref Ml)=some false) (Nw:(Value.ref p7==Value.ref Ml)=false)
  {Qv:Addr} {Sl UU:Str} {Sm:List Value} {Sn:List Str} {SL:List Value} {So:Bool} {SM:Option Bool} {Sq Sr:Option Addr} {Ss Su Sv Sw Sx:Option Value} {SN:Array (Option Value)} {Sy:Value} {RX:Array DictEntry} {Sz:Nat}
  {Oc:Addr} {TB TC:Option Addr} {TD:Array (Option Value)} {TF TJ TK TL RY TN:Value}
  (Me:K.lookup d7=some (excClassObj Sl UU d7 Qv Sm (.ref Ma::[.type "ValueError",.type "Exception",.type "BaseException",.type "object"]) true Sn SL So SM Sq Ss Su Sv Sw Sx "ValueError.__new__")) (Oy:K.lookup Qv=some ⟨Sy,Sr,.dict RX Sz,SN⟩) (P4:L2.strKeys RX=true)
  (P5:PySem.W.nsIn K Qv "__init__"=some (some (.ref Oc)))
  (P6:PySem.W.findIn K (.ref d7) "__getattribute__"=some (some (.builtin "BaseException.__getattribute__"))) (P7:PySem.W.findIn K (.ref d7) "__getattr__"=some none) (P8:PySem.W.findIn K (.ref d7) "__class__"=some (some (.builtin "object.__class__"))) (P9:PySem.W.mroIn K d7 (.type "object")=some true)
  (Pa:PySem.W.mroIn K d7 (.ref Ma)=some true) (Pb:PySem.W.mroIn K d7 (.type "ValueError")=some true) (Pd:PySem.W.mroIn K d7 (.ref d7)=some true) (NY:PySem.W.mroIn K d7 (.type "BaseException")=some true)
  (Mu:PySem.W.mroIn K d7 (.ref M9)=some false) (N9:(Value.ref d7==Value.ref M9)=false)
  (Mv:PySem.W.mroIn K d7 (.ref t6)=some false) (Na:(Value.ref d7==Value.ref t6)=false)
  (NB:PySem.W.mroIn K d7 (.ref Mb)=some false) (ND:(Value.ref d7==Value.ref Mb)=false)
  (Nx:PySem.W.mroIn K d7 (.ref Mk)=some false) (Ny:(Value.ref d7==Value.ref Mk)=false)
  (Mn:PySem.W.mroIn K d7 (.ref p7)=some false) (NW:(Value.ref d7==Value.ref p7)=false)
  (Nb:PySem.W.mroIn K d7 (.ref Mh)=some false) (Nc:(Value.ref d7==Value.ref Mh)=false)
  (NK:PySem.W.mroIn K d7 (.ref Mc)=some false) (NM:(Value.ref d7==Value.ref Mc)=false)
  (Nd:PySem.W.mroIn K d7 (.ref Mi)=some false) (Nf:(Value.ref d7==Value.ref Mi)=false)
  (Nz:PySem.W.mroIn K d7 (.ref Ml)=some false) (OA:(Value.ref d7==Value.ref Ml)=false)
  (Pe:PySem.W.findIn K (.ref d7) "__setattr__"=some (some (.builtin "object.__setattr__"))) (Pf:PySem.W.findIn K (.ref d7) "bows"=some none)
  (Pg:K.lookup Oc=some ⟨TF,TB,.func (PySem.W.fnOf "__init__" "Crossed.__init__" (jf ft) (gf ft) (ao ft) .none TJ TK TL TC RY TN),TD⟩) (Ph:PySem.W.codeIn K RY "Crossed.__init__"=true) (Pi:PySem.W.keepIn K (.ref Oc)=true) (Pj:PySem.W.typeIn K (.ref Oc)=some (.type "function")) (Pk:PySem.W.keepIn K (.ref d7)=true)
  {Tb:Addr} {Tc:Obj} (Rr:PySem.W.nsIn K mainGlobals "SIDES"=some (some (.ref Tb))) (Rt:K.lookup Tb=some Tc) (Ru:L2.zF Tc ["l","r"])
  (Uo:PySem.W.nsIn K mainGlobals "len"=some none) (Rv:PySem.W.nsIn K mainGlobals "range"=some none) (Up:PySem.W.nsIn K mainGlobals "int"=some none) (TQ:PySem.W.nsIn K mainGlobals "list"=some none) (Rw:PySem.W.nsIn K mainGlobals "tuple"=some none) (Pm:PySem.W.nsIn K mainGlobals "isinstance"=some none) (Uq:PySem.W.nsIn K mainGlobals "str"=some none) (TR:PySem.W.nsIn K mainGlobals "bool"=some none) (RZ:PySem.W.nsIn K mainGlobals "sorted"=some none) (Ur:PySem.W.nsIn K mainGlobals "all"=some none) (Us:PySem.W.nsIn K mainGlobals "zip"=some none) (Ut:PySem.W.nsIn K mainGlobals "max"=some none) (Uu:PySem.W.nsIn K mainGlobals "min"=some none) (Q8:PySem.W.nsIn K mainGlobals "reversed"=some none) (QM:PySem.W.nsIn K mainGlobals "enumerate"=some none) (Pn:PySem.W.nsIn K mainGlobals "ValueError"=some none) :
  ∃fd:FuncData,(∀(s:Shared) (v:Value),BindsTo s fd ⟨[v],[]⟩ [("_law_script",v)])/\∀base:Heap,K.In base->base.Ns mainGlobals mg->nX l.prog w K mg base xk 9 fa fd ["_law_script"] (wI K):=by
 have B:nZ mg:=⟨bU X G Uo,bU X G Rv,bU X G Up,bU X G TQ,bU X G Rw,bU X G Pm,bU X G Uq,bU X G TR,bU X G RZ,bU X G Ur,bU X G Us,bU X G Ut,bU X G Uu,bU X G Q8,bU X G QM,bU X G Pn,⟨_,be X G PX⟩,⟨_,be X G PY⟩,⟨_,be X G Pt⟩⟩
 have Od:mg "RingError"=some (.ref Ma):=be X G Pu;have Oz:mg "NoMaze"=some (.ref M9):=be X G Pw;have O5:mg "Crossed"=some (.ref d7):=be X G QV;have RB:mg "NoWord"=some (.ref t6):=be X G Px;have Pq:mg "NoDrawing"=some (.ref Mb):=be X G Py;have Rb:mg "NoBow"=some (.ref Mk):=be X G Rn;have O6:mg "NoRound"=some (.ref p7):=be X G PH;have RC:mg "NoCode"=some (.ref Mh):=be X G RS;have QY:mg "NoNumber"=some (.ref Mc):=be X G Q7;have RD:mg "NoName"=some (.ref Mi):=be X G RT;have Rc:mg "NoRow"=some (.ref Ml):=be X G Ro;have Qw:L2.vq K M9/\∀base:Heap,K.In base->base.Ns mainGlobals mg->OwnCls "NoMaze" M9 [.type "ValueError",.type "Exception",.type "BaseException",.type "object"] "ValueError.__new__" mg base:=⟨(L2.jx X G Pw Mf x_lkR (L2.gG OU Of) Og x_eR (L2.gG x_lkM x_nR) x_r1 x_r2 x_r3 x_r4 dF Oh Oj Ol x_sp x_tk Om).2,λbase KB GB=>(L2.jx KB GB Pw Mf x_lkR (L2.gG OU Of) Og x_eR (L2.gG x_lkM x_nR) x_r1 x_r2 x_r3 x_r4 dF Oh Oj Ol x_sp x_tk Om).1⟩
 have UV:L2.LW K M9 [M9,d7,t6,Mb,Mk,p7,Mh,Mc,Mi,Ml] 0:=⟨Qw.1,λj d h=>match j,h with | 0,h=>by cases h;exact L2.pY | 1,h=>by cases h;exact L2.bT NZ Me Mo | 2,h=>by cases h;exact L2.bT Nh Mg Mw | 3,h=>by cases h;exact L2.bT NF x_lk_NoDrawing NE | 4,h=>by cases h;exact L2.bT OG x_lk_NoBow OE | 5,h=>by cases h;exact L2.bT N0 Md Mp | 6,h=>by cases h;exact L2.bT Nj x_lk_NoCode Ni | 7,h=>by cases h;exact L2.bT NS x_lk_NoNumber NQ | 8,h=>by cases h;exact L2.bT Nl x_lk_NoName Nk | 9,h=>by cases h;exact L2.bT OI x_lk_NoRow OH | j+10,h=>by simp at h,L2.pX (by decide) QC⟩
 have UW:PySem.W.exmOne K (.ref M9) (.ref Ma)=some true:=L2.dr x_lkR Pz x_rb;have UX:PySem.W.exmOne K (.ref M9) (.ref M9)=some true:=L2.dr Mf QD OC;have UY:PySem.W.exmOne K (.ref M9) (.ref t6)=some false:=L2.dr Mg Mw OD;have Td:PySem.W.exmOne K (.ref M9) (.ref p7)=some false:=L2.dr Md Mp NX;have Qd:PySem.W.exmOne K (.ref M9) (.ref d7)=some false:=L2.dr Me Mo NY;have R9:L2.vq K t6/\∀base:Heap,K.In base->base.Ns mainGlobals mg->OwnCls "NoWord" t6 [.type "ValueError",.type "Exception",.type "BaseException",.type "object"] "ValueError.__new__" mg base:=⟨(L2.jx X G Px Mg x_lkR (L2.gG OV On) Oq x_eR (L2.gG x_lkM x_nR) x_r1 x_r2 x_r3 x_r4 dF Os Ot Ou x_sp x_tk Ov).2,λbase KB GB=>(L2.jx KB GB Px Mg x_lkR (L2.gG OV On) Oq x_eR (L2.gG x_lkM x_nR) x_r1 x_r2 x_r3 x_r4 dF Os Ot Ou x_sp x_tk Ov).1⟩
 have VW:L2.LW K t6 [M9,d7,t6,Mb,Mk,p7,Mh,Mc,Mi,Ml] 2:=⟨R9.1,λj d h=>match j,h with | 0,h=>by cases h;exact L2.bT Nm Mf Mx | 1,h=>by cases h;exact L2.bT N1 Me Mq | 2,h=>by cases h;exact L2.pY | 3,h=>by cases h;exact L2.bT NH x_lk_NoDrawing NG | 4,h=>by cases h;exact L2.bT OL x_lk_NoBow OK | 5,h=>by cases h;exact L2.bT N2 Md Mr | 6,h=>by cases h;exact L2.bT Np x_lk_NoCode Nn | 7,h=>by cases h;exact L2.bT NU x_lk_NoNumber NT | 8,h=>by cases h;exact L2.bT Nr x_lk_NoName Nq | 9,h=>by cases h;exact L2.bT ON x_lk_NoRow OM | j+10,h=>by simp at h,L2.pX (by decide) QK⟩
 have VX:PySem.W.exmOne K (.ref t6) (.ref Ma)=some true:=L2.dr x_lkR QJ x_rb;have VY:PySem.W.exmOne K (.ref t6) (.ref t6)=some true:=L2.dr Mg QL OD;have UZ:PySem.W.exmOne K (.ref t6) (.ref M9)=some false:=L2.dr Mf Mx OC;have Te:PySem.W.exmOne K (.ref t6) (.ref p7)=some false:=L2.dr Md Mr NX;have Tf:PySem.W.exmOne K (.ref t6) (.ref d7)=some false:=L2.dr Me Mq NY;have Q9:L2.vq K p7/\∀base:Heap,K.In base->base.Ns mainGlobals mg->OwnCls "NoRound" p7 [.type "ValueError",.type "Exception",.type "BaseException",.type "object"] "ValueError.__new__" mg base:=⟨(L2.jx X G PH Md x_lkR (L2.gG OT OW) OX x_eR (L2.gG x_lkM x_nR) x_r1 x_r2 x_r3 x_r4 dF OY OZ O0 x_sp x_tk O3).2,λbase KB GB=>(L2.jx KB GB PH Md x_lkR (L2.gG OT OW) OX x_eR (L2.gG x_lkM x_nR) x_r1 x_r2 x_r3 x_r4 dF OY OZ O0 x_sp x_tk O3).1⟩
 have TU:L2.LW K p7 [M9,d7,t6,Mb,Mk,p7,Mh,Mc,Mi,Ml] 5:=⟨Q9.1,λj d h=>match j,h with | 0,h=>by cases h;exact L2.bT N3 Mf Ms | 1,h=>by cases h;exact L2.bT NV Me Mm | 2,h=>by cases h;exact L2.bT N4 Mg Mt | 3,h=>by cases h;exact L2.bT NA x_lk_NoDrawing Mz | 4,h=>by cases h;exact L2.bT Nu x_lk_NoBow Nt | 5,h=>by cases h;exact L2.pY | 6,h=>by cases h;exact L2.bT N6 x_lk_NoCode N5 | 7,h=>by cases h;exact L2.bT NJ x_lk_NoNumber NI | 8,h=>by cases h;exact L2.bT N8 x_lk_NoName N7 | 9,h=>by cases h;exact L2.bT Nw x_lk_NoRow Nv | j+10,h=>by simp at h,L2.pX (by decide) P0⟩
 have TV:PySem.W.exmOne K (.ref p7) (.ref Ma)=some true:=L2.dr x_lkR PZ x_rb;have TX:PySem.W.exmOne K (.ref p7) (.ref p7)=some true:=L2.dr Md P3 NX;have Qe:PySem.W.exmOne K (.ref p7) (.ref M9)=some false:=L2.dr Mf Ms OC;have Tg:PySem.W.exmOne K (.ref p7) (.ref t6)=some false:=L2.dr Mg Mt OD;have Qa:PySem.W.exmOne K (.ref p7) (.ref d7)=some false:=L2.dr Me Mm NY;have Po:=λ(base:Heap) (KB:K.In base) (GB:base.Ns mainGlobals mg)=>L2.yq (f:="bows") KB GB QV Me x_lkR (L2.gG Oy P4) P5 x_eR (L2.gG x_lkM x_nR) x_r1 x_r2 x_r3 x_r4 dF P6 P7 Pe Pf (by simp) F.store_ValueError.passes;have R0:L2.B7 K d7 "bows":=(Po h X G).2.1;have R1:=Dv (st:=ft) Pg Ph Pi;have TZ:L2.xf K d7:=L2.EB (cR:=.type "type") (cdR:=cdR_x) (dR:=dR_x) (slR:=slR_x) (NR:=NR) Me R0 P8 x_sp x_tk P9;have T1:L2.B5 K d7 [M9,d7,t6,Mb,Mk,p7,Mh,Mc,Mi,Ml] 1:=⟨λj d h=>match j,h with | 0,h=>by cases h;exact L2.bT N9 Mf Mu | 1,h=>by cases h;exact L2.pY | 2,h=>by cases h;exact L2.bT Na Mg Mv | 3,h=>by cases h;exact L2.bT ND x_lk_NoDrawing NB | 4,h=>by cases h;exact L2.bT Ny x_lk_NoBow Nx | 5,h=>by cases h;exact L2.bT NW Md Mn | 6,h=>by cases h;exact L2.bT Nc x_lk_NoCode Nb | 7,h=>by cases h;exact L2.bT NM x_lk_NoNumber NK | 8,h=>by cases h;exact L2.bT Nf x_lk_NoName Nd | 9,h=>by cases h;exact L2.bT OA x_lk_NoRow Nz | j+10,h=>by simp at h,L2.pX (by decide) Pb⟩
 have T2:PySem.W.exmOne K (.ref d7) (.ref Ma)=some true:=L2.dr x_lkR Pa x_rb;have T3:PySem.W.exmOne K (.ref d7) (.ref d7)=some true:=L2.dr Me Pd NY;have Th:PySem.W.exmOne K (.ref d7) (.ref M9)=some false:=L2.dr Mf Mu OC;have Ti:PySem.W.exmOne K (.ref d7) (.ref t6)=some false:=L2.dr Mg Mv OD;have T4:PySem.W.exmOne K (.ref d7) (.ref p7)=some false:=L2.dr Md Mn NX;have UK:L2.MF K Ma "ValueError.__init__":=⟨x_rd,x_sg,x_fi,L2.BL⟩
 have QP:=L2.Dt X G Rr Rt Ru;have T5:Fn K mg "crossing" iG ["bows"]:=cn X G Q1 λ_ _ _ _ _ _=>L2.qM λ_=>rfl;have T6:Fn K mg "is_whole" iF ["thing"]:=cn X G Q2 λ_ _ _ _ _ _=>L2.qM λ_=>rfl;have U0:Fn K mg "is_side" jn ["thing"]:=cn X G Qk λ_ _ _ _ _ _=>L2.qM λ_=>rfl;have T7:Fn K mg "is_order" iu ["thing"]:=cn X G Q3 λ_ _ _ _ _ _=>L2.qM λ_=>rfl;have U1:Fn K mg "is_maze" jo ["thing"]:=cn X G Ql λ_ _ _ _ _ _=>L2.qM λ_=>rfl;have U2:Fn K mg "is_word" ir ["thing"]:=cn X G Qm λ_ _ _ _ _ _=>L2.qM λ_=>rfl;have VG:Fn K mg "pairs" nv ["word"]:=cn X G Rh λ_ _ _ _ _ _=>L2.qM λ_=>rfl;have Uv:Fn K mg "is_bow" lI ["thing"]:=cn X G RG λ_ _ _ _ _ _=>L2.qM λ_=>rfl;have R3:Fn K mg "fills_a_word" fS ["thing"]:=cn X G Oa λ_ _ _ _ _ _=>L2.qM λ_=>rfl;have U3:Fn K mg "word_of" jk ["bows"]:=cn X G Qn λ_ _ _ _ _ _=>L2.qM λ_=>rfl;have Rx:Fn K mg "other_side" gX ["side"]:=cn X G PQ λ_ _ _ _ _ _=>L2.qM λ_=>rfl;have R4:Fn K mg "side_of_step" fR ["maze","step"]:=cn X G Ob λ_ _ _ _ _ _=>L2.zY λ_ _=>rfl;have R5:Fn K mg "rows_of_way" fq ["maze"]:=cn X G Ox λ_ _ _ _ _ _=>L2.qM λ_=>rfl;have U4:Fn K mg "bows_of" ix ["maze"]:=cn X G Qo λ_ _ _ _ _ _=>L2.qM λ_=>rfl;have U5:Fn K mg "crossed" jr ["maze"]:=cn X G Qp λ_ _ _ _ _ _=>L2.qM λ_=>rfl;have VZ:Fn K mg "vet" uR ["maze"]:=cn X G Ub λ_ _ _ _ _ _=>L2.qM λ_=>rfl;have SO:Fn K mg "vet_words" iQ ["left","right"]:=cn X G Ps λ_ _ _ _ _ _=>L2.zY λ_ _=>rfl;have T8:Fn K mg "partners" iq ["word"]:=cn X G Q4 λ_ _ _ _ _ _=>L2.qM λ_=>rfl;have Ry:Fn K mg "round_from" gW ["end","lefts","rights"]:=cn X G PU λ_ _ _ _ _ _=>L2.Ki λ_ _ _=>rfl;have Uw:Fn K mg "rounds" lF ["left","right"]:=cn X G RH λ_ _ _ _ _ _=>L2.zY λ_ _=>rfl;have QN:Fn K mg "middle_put_outside" dN ["bows","middle"]:=cn X G NP λ_ _ _ _ _ _=>L2.zY λ_ _=>rfl;have Ux:Fn K mg "closed" kD ["maze"]:=cn X G RJ λ_ _ _ _ _ _=>L2.qM λ_=>rfl;have Uy:Fn K mg "opened" lG ["left","right"]:=cn X G RK λ_ _ _ _ _ _=>L2.zY λ_ _=>rfl;have VH:Fn K mg "_law_alone" nz ["_law_e"]:=cn X G Ri λ_ _ _ _ _ _=>L2.qM λ_=>rfl;have U6:Fn K mg "_law_cell_at" jt ["_law_script","_law_k"]:=cn X G Qq λ_ _ _ _ _ _=>L2.zY λ_ _=>rfl;have Uz:Fn K mg "_law_digits" kC ["_law_cell","_law_many"]:=cn X G RL λ_ _ _ _ _ _=>L2.zY λ_ _=>rfl;have VI:Fn K mg "_law_order" ny ["_law_cell","_law_n"]:=cn X G Rj λ_ _ _ _ _ _=>L2.zY λ_ _=>rfl;have V0:Fn K mg "_law_can" sQ ["_law_left","_law_right","_law_letter_here"]:=cn X G Uc λ_ _ _ _ _ _=>L2.Ki λ_ _ _=>rfl;have Qx:Fn K mg "_law_closing_letter" dg ["_law_left","_law_right"]:=cn X G OS λ_ _ _ _ _ _=>L2.zY λ_ _=>rfl;have VA:Fn K mg "_law_letter" lH ["_law_left","_law_right","_law_want","_law_after"]:=cn X G RM λ_ _ _ _ _ _=>L2.MR λ_ _ _ _=>rfl;have U7:Fn K mg "_law_renamed" jm ["_law_ends","_law_gone","_law_kept"]:=cn X G Qr λ_ _ _ _ _ _=>L2.Ki λ_ _ _=>rfl;have VJ:Fn K mg "_law_ring" qP ["_law_left","_law_right","_law_bows_here","_law_row","_law_letter_here"]:=cn X G SS λ_ _ _ _ _ _=>L2.M2 λ_ _ _ _ _=>rfl;have VB:Fn K mg "_law_walked" lE ["_law_bows_here","_law_side","_law_n"]:=cn X G RN λ_ _ _ _ _ _=>L2.Ki λ_ _ _=>rfl;have VL:Fn K mg "_law_maze" qQ ["_law_cell","_law_rows"]:=cn X G ST λ_ _ _ _ _ _=>L2.zY λ_ _=>rfl;have VM:Fn K mg "_law_bows" nH ["_law_maze_here"]:=cn X G SU λ_ _ _ _ _ _=>L2.qM λ_=>rfl;have U8:Fn K mg "_law_crosses" jq ["_law_bows_here"]:=cn X G Qs λ_ _ _ _ _ _=>L2.qM λ_=>rfl;have T9:Fn K mg "_law_drawable" iw ["_law_maze_here"]:=cn X G Q5 λ_ _ _ _ _ _=>L2.qM λ_=>rfl;have VC:Fn K mg "_law_across" lJ ["_law_word"]:=cn X G RO λ_ _ _ _ _ _=>L2.qM λ_=>rfl;have Ta:Fn K mg "_law_rounds" ip ["_law_left","_law_right"]:=cn X G Q6 λ_ _ _ _ _ _=>L2.zY λ_ _=>rfl;have VN:Fn K mg "_law_said" o9 ["_law_maze_here"]:=cn X G SV λ_ _ _ _ _ _=>L2.qM λ_=>rfl;have VD:Fn K mg "_law_by_any" kE ["_law_maze_here"]:=cn X G RP λ_ _ _ _ _ _=>L2.qM λ_=>rfl;have V1:Fn K mg "_law_due" uS ["_law_maze_here"]:=cn X G Ud λ_ _ _ _ _ _=>L2.qM λ_=>rfl;have Rz:Fn K mg "_law_crossed_so" gY ["_law_maze_here","_law_told"]:=cn X G PV λ_ _ _ _ _ _=>L2.zY λ_ _=>rfl;have VO:Fn K mg "_law_good" qR ["_law_maze_here"]:=cn X G SW λ_ _ _ _ _ _=>L2.qM λ_=>rfl;have V2:Fn K mg "law" pN ["_law_script"]:=cn X G RQ λ_ _ _ _ _ _=>L2.qM λ_=>rfl;have key:∀base:Heap,K.In base->base.Ns mainGlobals mg->fJ l.prog w K mg base 9 "law" pN ["_law_script"] (wI K):=λbase KB GB=>by
  have Qz:=Qw.2 base KB GB;have NN:=R9.2 base KB GB;have OQ:=Q9.2 base KB GB;have Qg:L2.Jz l.prog w K mg base 1 "Crossed" d7 "bows" L2.Fa:=⟨Oc,_,_,_,_,_,_,(Po base KB GB).1,bP,s9 (Po base KB GB).1 bP UK Od (Po h X G).2.2 R1,Pj,Pk,R1.binds λ_ _ _ _ _ _=>L2.zY λ_ _=>rfl,L2.D6⟩
  have OP:=wv (P:=l.prog) (w:=w) (base:=base) T5;have Ng:=wq (P:=l.prog) (w:=w) (base:=base) B T6;have Qf:=y6 (P:=l.prog) (w:=w) (base:=base) QP U0;have QX:=wr B T7 Ng;have Qh:=y7 B U1 Qf QX;have OO:=y0 (P:=l.prog) (w:=w) (base:=base) B U2;have Ra:=D3 NN B VG OO;have Qy:=As B Uv Ng;have O7:=rM B R3 Qy;have QQ:=yY NN B U3 O7 OP;have PJ:=tZ (P:=l.prog) (w:=w) (base:=base) Rx;have O8:=rL R4 PJ;have Ow:=sZ (P:=l.prog) (w:=w) (base:=base) B R5;have O4:=yb B U4 O8 Ow;have Qi:=y9 B QP U5 O4 OP;have U9:=JQ Qg Qz VZ Qh Qi;have Pp:=va NN B SO OO;have PK:=wn T8 Ra;have PM:=tY (P:=l.prog) (w:=w) (base:=base) Ry;have RA:=Ap B Uw Pp PK PM;have NO:=m5 (P:=l.prog) (w:=w) (base:=base) B QN;have PD:=Av OQ B Ux U9 O4 NO QQ;have Qc:=Aq OQ B Uy RA;have Re:=D5 (P:=l.prog) (w:=w) (base:=base) B Oz O5 RB Pq Rb O6 RC QY RD Rc VH;have OB:=ya (P:=l.prog) (w:=w) (base:=base) B U6;have PB:=Au (P:=l.prog) (w:=w) (base:=base) B Uz;have Rf:=D4 B VI PB;have R6:=JU (P:=l.prog) (w:=w) (base:=base) B V0;have Mj:=pS B Qx R6;have RE:=Ar B VA R6 Mj;have QR:=yZ (P:=l.prog) (w:=w) (base:=base) B U7;have SQ:=FZ B VJ QR;have RF:=Ao (P:=l.prog) (w:=w) (base:=base) B VB;have SR:=F7 B VL PB Mj RE SQ RF;have PN:=F9 (P:=l.prog) (w:=w) (base:=base) B VM;have QU:=y8 (P:=l.prog) (w:=w) (base:=base) U8;have QZ:=wu T9 PN QU;have Qb:=Ax (P:=l.prog) (w:=w) (base:=base) B VC;have Q0:=wk B Ta Qb;have Qj:=FY O5 Oz O6 T3 UX TX Qd Qa Qe R0 VN PD;have O9:=Aw Od UW TV T2 Qw.1 Q9.1 TZ UV.d TU.d T1 VD PD Re;have Ua:=JT B V1 PN;have PP:=t7 B Rz PN;have Rg:=F8 B VO Qj O9 QZ PP Ua Q0 Qc;exact JS B V2 OB Rf SR Rg Qj O9
 obtain⟨f0,oc0,od0,VP,sl0,VQ,VR,VS,VT,VU,RQ,V3,_,_⟩:=RQ;have e:=hfa.symm.trans (be X G RQ);cases e;refine⟨PySem.W.fnOf "law" "law" (jf pN) (gf pN) (ao pN) .none VQ VR VS VP VT VU,λs v=>.of_eq rfl,λbase KB GB=>?_⟩;obtain⟨f,fd,F,m,b,ok⟩:=(key base KB GB).ex;rw[be X G RQ] at m;cases m;obtain⟨_,_,_,_,_,_,_,_,_,rfl,lk,_⟩:=F.ex;rw[V3] at lk;cases lk;exact ok
def walk{l:PySem.W.OpenLaw}{q:Program}{loose:List Str}{XP:(Str->Option Value)->Heap->Prop}{YP:World->Heap->Prop}{d:DefRec}{K:Params->WG}(hn:l.most=some 63)(hdf:d.params.defaults=[])
  (hY:∀(w:World) (h:Heap),YP w h->(K w.params).In h)
  (F:∀(w:World) (mg:Str->Option Value) (fa:Addr) (h:Heap),(K w.params).In h->h.Ns mainGlobals mg->mg d.name=some (.ref fa) →
   ∃fd:FuncData,(∀(s:Shared) (u:Value),BindsTo s fd ⟨[u],[]⟩ [("_law_script",u)])/\∀base:Heap,(K w.params).In base->base.Ns mainGlobals mg->nX l.prog w (K w.params) mg base xk 9 fa fd ["_law_script"] (wI (K w.params))) :
  PySem.W.WalkO q loose XP YP l.row.toRowW d [] (λf vs=>PySem.call f vs):=
 L2.zH (n:=63) (k:=9) (x:="_law_script") (CX:=λ_=>xk) (sp:=λw=>wI (K w.params)) hn (by decide) hdf ⟨rfl,by decide,by decide,rfl⟩ hY F (λ_ _ a ns hl _ hS=>⟨a,ns,rfl,hS,hl,λ_=>rfl⟩) λ_ _ _ _ _ z=>z
end Rm
open PySem PySem.W PyProof.Rows
local macro_rules | `(tactic| walk_at "kf") => `(tactic| exact Rm.fnIn (by k_is) (by k_is) (by k_is) (by k_is))
set_option maxRecDepth 100000 in
set_option maxHeartbeats 0 in
theorem PySem.Challenge.cw_ringmaze_k27_closed_and_opened_holds : PySem.Challenge.rw_ringmaze_k27_closed_and_opened.Holds := by
 w_on; o_law; k_head; (case hw => w_witness2)
 k_fill
 refine Rm.walk (l := PySem.Challenge.rw_ringmaze_k27_closed_and_opened) rfl rfl (λw h Y => PySem.W.kIn_of Y) ?F
 case F =>
  intro w mg fa h KX G hmg;refine' Rm.all_mk KX G hmg ?Q1 ?Q2 ?Qk ?Q3 ?Ql ?Qm ?Rh ?RG ?Oa ?Qn ?PQ ?Ob ?Ox ?Qo ?Qp ?Ub ?Ps ?Q4 ?PU ?RH ?NP ?RJ ?RK ?Ri ?Qq ?RL ?Rj ?Uc ?OS ?RM ?Qr ?SS ?RN ?ST ?SU ?Qs ?Q5 ?RO ?Q6 ?SV ?RP ?Ud ?PV ?SW ?RQ ?PX ?PY ?Pt ?Pu ?Pw ?QV ?Px ?Py ?Rn ?PH ?RS ?Q7 ?RT ?Ro ?x_lkR ?x_eR ?x_lkM ?x_nR ?x_r1 ?x_r2 ?x_r3 ?x_r4 ?x_sp ?x_tk ?x_rb ?x_rd ?x_sg ?x_fi ?x_lk_NoDrawing ?x_lk_NoBow ?x_lk_NoCode ?x_lk_NoNumber ?x_lk_NoName ?x_lk_NoRow ?Mf ?OU ?Of ?Og ?Oh ?Oj ?Ol ?Om ?Pz ?QC ?QD ?OC ?Mo ?NZ ?Mw ?Nh ?NE ?NF ?OE ?OG ?Mp ?N0 ?Ni ?Nj ?NQ ?NS ?Nk ?Nl ?OH ?OI ?Mg ?OV ?On ?Oq ?Os ?Ot ?Ou ?Ov ?QJ ?QK ?QL ?OD ?Mx ?Nm ?Mq ?N1 ?NG ?NH ?OK ?OL ?Mr ?N2 ?Nn ?Np ?NT ?NU ?Nq ?Nr ?OM ?ON ?Md ?OT ?OW ?OX ?OY ?OZ ?O0 ?O3 ?PZ ?P0 ?P3 ?NX ?Ms ?N3 ?Mm ?NV ?Mt ?N4 ?Mz ?NA ?Nt ?Nu ?N5 ?N6 ?NI ?NJ ?N7 ?N8 ?Nv ?Nw ?Me ?Oy ?P4 ?P5 ?P6 ?P7 ?P8 ?P9 ?Pa ?Pb ?Pd ?NY ?Mu ?N9 ?Mv ?Na ?NB ?ND ?Nx ?Ny ?Mn ?NW ?Nb ?Nc ?NK ?NM ?Nd ?Nf ?Nz ?OA ?Pe ?Pf ?Pg ?Ph ?Pi ?Pj ?Pk ?Rr ?Rt ?Ru ?Uo ?Rv ?Up ?TQ ?Rw ?Pm ?Uq ?TR ?RZ ?Ur ?Us ?Ut ?Uu ?Q8 ?QM ?Pn
  (case Q1 => walk_at "kf")
  (case Q2 => walk_at "kf")
  (case Qk => walk_at "kf")
  (case Q3 => walk_at "kf")
  (case Ql => walk_at "kf")
  (case Qm => walk_at "kf")
  (case Rh => walk_at "kf")
  (case RG => walk_at "kf")
  (case Oa => walk_at "kf")
  (case Qn => walk_at "kf")
  (case PQ => walk_at "kf")
  (case Ob => walk_at "kf")
  (case Ox => walk_at "kf")
  (case Qo => walk_at "kf")
  (case Qp => walk_at "kf")
  (case Ub => walk_at "kf")
  (case Ps => walk_at "kf")
  (case Q4 => walk_at "kf")
  (case PU => walk_at "kf")
  (case RH => walk_at "kf")
  (case NP => walk_at "kf")
  (case RJ => walk_at "kf")
  (case RK => walk_at "kf")
  (case Ri => walk_at "kf")
  (case Qq => walk_at "kf")
  (case RL => walk_at "kf")
  (case Rj => walk_at "kf")
  (case Uc => walk_at "kf")
  (case OS => walk_at "kf")
  (case RM => walk_at "kf")
  (case Qr => walk_at "kf")
  (case SS => walk_at "kf")
  (case RN => walk_at "kf")
  (case ST => walk_at "kf")
  (case SU => walk_at "kf")
  (case Qs => walk_at "kf")
  (case Q5 => walk_at "kf")
  (case RO => walk_at "kf")
  (case Q6 => walk_at "kf")
  (case SV => walk_at "kf")
  (case RP => walk_at "kf")
  (case Ud => walk_at "kf")
  (case PV => walk_at "kf")
  (case SW => walk_at "kf")
  (case RQ => walk_at "kf")
  (case PX => k_is)
  (case PY => k_is)
  (case Pt => k_is)
  (case Pu => k_is)
  (case Pw => k_is)
  (case QV => k_is)
  (case Px => k_is)
  (case Py => k_is)
  (case Rn => k_is)
  (case PH => k_is)
  (case RS => k_is)
  (case Q7 => k_is)
  (case RT => k_is)
  (case Ro => k_is)
  (case x_lkR => k_is)
  (case x_eR => first | rfl | k_is)
  (case x_lkM => k_is)
  (case x_nR => first | rfl | k_is)
  (case x_r1 => k_is)
  (case x_r2 => k_is)
  (case x_r3 => k_is)
  (case x_r4 => k_is)
  (case x_sp => k_is)
  (case x_tk => k_is)
  (case x_rb => k_is)
  (case x_rd => k_is)
  (case x_sg => k_is)
  (case x_fi => k_is)
  (case x_lk_NoDrawing => k_is)
  (case x_lk_NoBow => k_is)
  (case x_lk_NoCode => k_is)
  (case x_lk_NoNumber => k_is)
  (case x_lk_NoName => k_is)
  (case x_lk_NoRow => k_is)
  (case Mf => k_is)
  (case OU => k_is)
  (case Of => first | rfl | k_is)
  (case Og => k_is)
  (case Oh => k_is)
  (case Oj => k_is)
  (case Ol => k_is)
  (case Om => k_is)
  (case Pz => k_is)
  (case QC => k_is)
  (case QD => k_is)
  (case OC => k_is)
  (case Mo => k_is)
  (case NZ => first | rfl | k_is)
  (case Mw => k_is)
  (case Nh => first | rfl | k_is)
  (case NE => k_is)
  (case NF => first | rfl | k_is)
  (case OE => k_is)
  (case OG => first | rfl | k_is)
  (case Mp => k_is)
  (case N0 => first | rfl | k_is)
  (case Ni => k_is)
  (case Nj => first | rfl | k_is)
  (case NQ => k_is)
  (case NS => first | rfl | k_is)
  (case Nk => k_is)
  (case Nl => first | rfl | k_is)
  (case OH => k_is)
  (case OI => first | rfl | k_is)
  (case Mg => k_is)
  (case OV => k_is)
  (case On => first | rfl | k_is)
  (case Oq => k_is)
  (case Os => k_is)
  (case Ot => k_is)
  (case Ou => k_is)
  (case Ov => k_is)
  (case QJ => k_is)
  (case QK => k_is)
  (case QL => k_is)
  (case OD => k_is)
  (case Mx => k_is)
  (case Nm => first | rfl | k_is)
  (case Mq => k_is)
  (case N1 => first | rfl | k_is)
  (case NG => k_is)
  (case NH => first | rfl | k_is)
  (case OK => k_is)
  (case OL => first | rfl | k_is)
  (case Mr => k_is)
  (case N2 => first | rfl | k_is)
  (case Nn => k_is)
  (case Np => first | rfl | k_is)
  (case NT => k_is)
  (case NU => first | rfl | k_is)
  (case Nq => k_is)
  (case Nr => first | rfl | k_is)
  (case OM => k_is)
  (case ON => first | rfl | k_is)
  (case Md => k_is)
  (case OT => k_is)
  (case OW => first | rfl | k_is)
  (case OX => k_is)
  (case OY => k_is)
  (case OZ => k_is)
  (case O0 => k_is)
  (case O3 => k_is)
  (case PZ => k_is)
  (case P0 => k_is)
  (case P3 => k_is)
  (case NX => k_is)
  (case Ms => k_is)
  (case N3 => first | rfl | k_is)
  (case Mm => k_is)
  (case NV => first | rfl | k_is)
  (case Mt => k_is)
  (case N4 => first | rfl | k_is)
  (case Mz => k_is)
  (case NA => first | rfl | k_is)
  (case Nt => k_is)
  (case Nu => first | rfl | k_is)
  (case N5 => k_is)
  (case N6 => first | rfl | k_is)
  (case NI => k_is)
  (case NJ => first | rfl | k_is)
  (case N7 => k_is)
  (case N8 => first | rfl | k_is)
  (case Nv => k_is)
  (case Nw => first | rfl | k_is)
  (case Me => k_is)
  (case Oy => k_is)
  (case P4 => first | rfl | k_is)
  (case P5 => k_is)
  (case P6 => k_is)
  (case P7 => k_is)
  (case P8 => k_is)
  (case P9 => k_is)
  (case Pa => k_is)
  (case Pb => k_is)
  (case Pd => k_is)
  (case NY => k_is)
  (case Mu => k_is)
  (case N9 => first | rfl | k_is)
  (case Mv => k_is)
  (case Na => first | rfl | k_is)
  (case NB => k_is)
  (case ND => first | rfl | k_is)
  (case Nx => k_is)
  (case Ny => first | rfl | k_is)
  (case Mn => k_is)
  (case NW => first | rfl | k_is)
  (case Nb => k_is)
  (case Nc => first | rfl | k_is)
  (case NK => k_is)
  (case NM => first | rfl | k_is)
  (case Nd => k_is)
  (case Nf => first | rfl | k_is)
  (case Nz => k_is)
  (case OA => first | rfl | k_is)
  (case Pe => k_is)
  (case Pf => k_is)
  (case Pg => k_is)
  (case Ph => k_is)
  (case Pi => k_is)
  (case Pj => k_is)
  (case Pk => k_is)
  (case Rr => k_is)
  (case Rt => k_is)
  (case Ru => exact L2.A4 rfl rfl (by decide) (.cons ⟨_, rfl⟩ (.cons ⟨_, rfl⟩ .nil)))
  (case Uo => k_is)
  (case Rv => k_is)
  (case Up => k_is)
  (case TQ => k_is)
  (case Rw => k_is)
  (case Pm => k_is)
  (case Uq => k_is)
  (case TR => k_is)
  (case RZ => k_is)
  (case Ur => k_is)
  (case Us => k_is)
  (case Ut => k_is)
  (case Uu => k_is)
  (case Q8 => k_is)
  (case QM => k_is)
  (case Pn => k_is)
#print axioms PySem.Challenge.cw_ringmaze_k27_closed_and_opened_holds
