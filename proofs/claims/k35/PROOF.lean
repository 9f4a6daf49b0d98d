import PyProof.Rows.All
import Wide.All
import OpenK.AllK
import Wide.FinOn
import Lean
import PyProof.EqAt
import PyProof.EqKinds
import PyProof.TupleCall
import KE.LcSums
import PyProof.StrLawsJoin
import KE.KSortTup
import KE.KSortKey
import PyProof.WalkInts
import PyProof.MinMaxWalk
import KE.KRevIter
import KE.KSortedM
import PyProof.ReprLen
import PyProof.P3Eq
import PySem.Challenge.RW_ringmaze_k35_lists_of_mazes
abbrev K1:=@PySem.wpAny_mono
abbrev K2:=@PySem.wpAny_truthy_bool
abbrev K3:=@PySem.wpAny_execs_nil
abbrev K4:=@PySem.wpAny_holding
abbrev K5:=@PySem.wpAny_passesOwn
abbrev K6:=@PySem.wpAny_pure
abbrev K7:=@PySem.wpAny_pyNext_range_end
abbrev K8:=@PySem.wpAny_pyIter_rangeiter
abbrev K9:=@PySem.wpAny_pyIter_range
abbrev Ka:=@PySem.sizeLine_eq
abbrev Kb:=@PyProof.Rows.vals1
abbrev Kc:=@PySem.wpAny_Call_Name_kw
abbrev Kd:=@PySem.typeIs_str
abbrev Ke:=@PySem.call_meets
abbrev Kf:=@PySem.tupleKind_room_in1
abbrev Kg:=@PyProof.Rows.mirror_perm
abbrev Kh:=@PySem.wpAny_seqItems
abbrev Ki:=@PySem.wpAny_field
abbrev Kj:=@PySem.wpAny_setField_rec
abbrev Kl:=@PySem.post_val_or_str
abbrev Km:=@PyProof.Rows.ints_snoc
abbrev Kn:=@if_neg
abbrev Ko:=@if_pos
abbrev Kq:=@decide_eq_true_eq
abbrev Kr:=@decide_eq_false
abbrev Ks:=@decide_eq_true
abbrev Kt:=@of_decide_eq_true
abbrev Ku:=@if_true
abbrev Kv:=@if_false
abbrev Kw:=PySem.W.Frag
abbrev aA:=@PySem.Heap.get?_push_of_some
abbrev aB:=@List.length_map
abbrev aE:=@Nat.le_refl
abbrev aH:=@List.mem_cons
abbrev aI:=@List.getElem?_eq_getElem
abbrev aJ:=@List.getElem?_eq_some_iff
abbrev aK:=@List.mem_cons_of_mem
abbrev aL:=@List.mem_append
abbrev aN:=@List.map_append
abbrev aP:=@List.size_toArray
abbrev aQ:=@PySem.Heap.lt_size
abbrev aR:=@PySem.Heap.get?_push_size
abbrev aS:=@List.map_cons
abbrev aT:=@List.flatMap_cons
abbrev aU:=@Nat.lt_of_lt_of_le
abbrev aV:=@List.getElem?_append_right
abbrev aX:=@List.length_append
abbrev aZ:=@List.nil_sublist
abbrev a7:=@List.append_assoc
abbrev aa:=@Option.some.inj
abbrev ae:=@PySem.boot_len
abbrev af:=@List.mem_append_right
abbrev am:=@List.mem_cons_self
abbrev ao:=@List.exists_cons_of_length_eq_add_one
abbrev aq:=@Nat.ne_of_lt
abbrev ar:=@List.getElem?_map
abbrev au:=@List.eq_nil_of_length_eq_zero
abbrev av:=@Nat.le_trans
abbrev aw:=@PySem.W.mg_none_of
abbrev ax:=@List.nil_append
abbrev bA:=@List.drop_eq_getElem_cons
abbrev bC:=@List.mem_singleton
abbrev bD:=@Bool.false_ne_true
abbrev bE:=@Nat.zero_le
abbrev bH:=@PySem.PassesOwn.never
abbrev bI:=@List.mem_map
abbrev bJ:=@List.take_add_one
abbrev bK:=@List.getElem?_append_left
abbrev bM:=@List.mem_append_left
abbrev bO:=@List.count_eq_zero
abbrev bP:=@List.mem_of_getElem?
abbrev bS:=@PyProof.Rows.callWith_type1
abbrev bV:=@List.length_take
abbrev bX:=@PyProof.Rows.boot_isinstance
abbrev bZ:=@List.singleton_sublist
abbrev b9:=@List.append_nil
abbrev bf:=@PySem.F.plainAttrs_list
abbrev bg:=@Ne.symm
abbrev bi:=@List.length_cons
abbrev bj:=@List.map_map
abbrev bo:=@Array.getD_eq_getD_getElem?
abbrev br:=@List.count_cons
abbrev bx:=@Nat.mod_two_eq_zero_or_one
abbrev cA:=@List.getD_eq_getElem?_getD
abbrev cB:=@List.countP_cons
abbrev cH:=@List.take_length
abbrev cJ:=@List.count_append
abbrev cK:=@List.length_eq_zero_iff
abbrev cM:=@PySem.W.kia_one
abbrev cO:=@List.take_of_length_le
abbrev cP:=@PySem.mem_of_lookup
abbrev cQ:=@List.map_congr_left
abbrev cR:=@List.length_pos_iff
abbrev cU:=@PyProof.Rows.boot_int
abbrev cV:=@List.perm_append_comm
abbrev cW:=@List.mem_range
abbrev cX:=@List.nodup_cons
abbrev cZ:=@List.perm_middle
abbrev c6:=@List.not_mem_nil
abbrev c7:=@Nat.lt_irrefl
abbrev cf:=@PyProof.Rows.boot_list
abbrev ci:=@Nat.le_of_lt
abbrev cj:=@Array.length_toList
abbrev cn:=@Bool.false_eq_true
abbrev cu:=@Bool.and_eq_true
abbrev cy:=@PySem.F.type_list_append
abbrev cz:=@PySem.F.slot_list_append
abbrev dB:=@List.pairwise_append
abbrev dG:=@List.dropLast_concat_getLast
abbrev dJ:=@PySem.W.mg_of
abbrev dL:=@PySem.Paired.length
abbrev dM:=@Int.le_refl
abbrev dN:=@List.cons_append
abbrev dW:=@List.append_of_mem
abbrev d6:=@List.pairwise_iff_getElem
abbrev d8:=@Array.getElem?_eq_getElem
abbrev da:=@List.mem_filter
abbrev df:=@Nat.pow_le_pow_right
abbrev dg:=@List.any_eq_false
abbrev dm:=@List.length_reverse
abbrev dy:=@List.length_set
abbrev eA:=@List.find?_cons
abbrev eJ:=@PyProof.Rows.cnt_cons
abbrev eK:=@List.singleton_append
abbrev eO:=@List.length_singleton
abbrev eZ:=@Nat.le_succ
abbrev ef:=@PySem.Heap.size_push
abbrev fA:=@Nat.lt_or_ge
abbrev fB:=@List.mem_flatMap
abbrev fD:=@List.map_nil
abbrev fE:=@List.length_drop
abbrev fF:=@List.getElem_mem
abbrev fQ:=@List.range_succ
abbrev fR:=@List.cons.injEq
abbrev fW:=@Nat.add_sub_cancel
abbrev fX:=@List.filter_append
abbrev fc:=@PyProof.Rows.boot_tuple
abbrev fe:=@Nat.add_sub_cancel_left
abbrev ff:=@List.getElem?_cons_succ
abbrev fm:=@PySem.F.plainAttrs_str
abbrev fo:=@Nat.ne_of_gt
abbrev fq:=@Nat.lt_succ_of_lt
abbrev ft:=@List.pairwise_map
abbrev fu:=@List.length_eq_one_iff
abbrev fv:=@PySem.Heap.get?_update_other
abbrev fw:=@PySem.Heap.get?_push_ne
abbrev fz:=@PyProof.Rows.boot_max
abbrev gA:=@List.take_append_drop
abbrev gB:=@List.filterMap_append
abbrev gL:=@List.lookup_cons
abbrev gM:=@List.append_inj'
abbrev gN:=@Bool.not_eq_true
abbrev gS:=@List.cons.inj
abbrev gT:=@List.any_cons
abbrev gb:=@List.take_append_of_le_length
abbrev gc:=@List.getElem?_of_mem
abbrev gf:=@List.count_cons_self
abbrev gi:=@Option.map_some
abbrev gj:=@Nat.min_eq_left
abbrev gm:=@List.forIn_cons
abbrev gn:=@PySem.F.slot_zip_next
abbrev gp:=@Bool.eq_iff_iff
abbrev gq:=@List.flatMap_append
abbrev gu:=@List.filterMap_cons
abbrev gx:=@Eq.symm
abbrev iT:=@List.mem_filterMap
abbrev iU:=@List.drop_zero
abbrev iV:=@List.count_pos_iff
abbrev iW:=@List.Sublist.trans
abbrev iX:=@Int.emod_lt_of_pos
abbrev iY:=@PySem.F.args_str_split_2
abbrev iZ:=@PySem.Calls.spliced_cons
abbrev i0:=@PySem.Calls.Name_function_global
abbrev i3:=@Array.perm_iff_toList_perm
abbrev i5:=@List.rel_of_pairwise_cons
abbrev i6:=@Decidable.byContradiction
abbrev i7:=@Classical.byContradiction
abbrev ie:=@List.nodup_append
abbrev ig:=@Int.toNat_natCast
abbrev ii:=@PySem.F.entry_str_split
abbrev ij:=@PySem.Calls.spliced_nil
abbrev iq:=@PyProof.Rows.boot_sorted
abbrev ir:=@Option.isSome_iff_exists
abbrev iu:=@List.length_filterMap_le
abbrev ix:=@Bool.or_false
abbrev jL:=@Nat.max_eq_right
abbrev jM:=@List.sublist_append_iff
abbrev jN:=@List.reverse_eq_nil_iff
abbrev jO:=@List.getElem?_replicate
abbrev jP:=@List.flatMap_nil
abbrev jQ:=@List.filter_cons_of_pos
abbrev jR:=@List.filter_cons_of_neg
abbrev jS:=@List.filter_cons
abbrev jT:=@List.ext_getElem
abbrev jU:=@List.drop_length
abbrev jV:=@Int.eq_ofNat_of_zero_le
abbrev jW:=@PySem.Heap.size_update
abbrev jX:=@PySem.F.slot_str_split
abbrev jd:=@PySem.Txt.slice_le
abbrev je:=@PySem.W.cellsFrom_some
abbrev jf:=@PyProof.Rows.boot_bool
abbrev jg:=@List.range_succ_eq_map
abbrev jh:=@List.getElem?_set_self
abbrev ji:=@List.filter_eq_nil_iff
abbrev jj:=@List.drop_of_length_le
abbrev jm:=@Array.getElem?_eq_none
abbrev jp:=@List.of_mem_zip
abbrev jq:=@List.length_nil
abbrev jr:=@List.isPerm_iff
abbrev jt:=@Int.emod_nonneg
abbrev jv:=@Bool.or_eq_true
abbrev kB:=@PySem.F.type_str_join
abbrev kC:=@PySem.F.slot_str_join
abbrev kD:=@PyProof.Rows.boot_min
abbrev kE:=@PyProof.Rows.boot_abs
abbrev kF:=@List.length_replicate
abbrev kG:=@List.cons_lt_cons_iff
abbrev kH:=@List.Perm.append_left
abbrev kJ:=@Array.mem_of_getElem?
abbrev kZ:=@PySem.Draws.strAscii
abbrev k5:=@Bool.false_and
abbrev k6:=@Bool.and_false
abbrev mF:=@Nat.sub_self
abbrev mG:=@Nat.le_of_eq
set_option Elab.async false
set_option linter.all false
set_option maxRecDepth 100000
set_option maxHeartbeats 4000000
def PySem.W.Fast.tw581218879662548831:Nat:=0
def PySem.W.Fast.tw1437143357089479452:Nat:=0
def PySem.W.Fast.tw18411165913690543994:Nat:=0
def PySem.W.Fast.tw13541295823570646938:Nat:=0
def PySem.W.Fast.tw11909469544435348807:Nat:=0
def PySem.W.Fast.tw16732292559523771834:Nat:=0
def PySem.W.Fast.tw3030028344068005189:Nat:=0
def PySem.W.Fast.tw13377739049137236192:Nat:=0
def PySem.W.Fast.tw9440340334625390205:Nat:=0
def PySem.W.Fast.tw7094010567094280187:Nat:=0
def PySem.W.Fast.tw7756196008875941259:Nat:=0
def PySem.W.Fast.tw6938955677849027468:Nat:=0
def PySem.W.Fast.tw16256746151223381645:Nat:=0
def PySem.W.Fast.tw5834935746046549720:Nat:=0
def PySem.W.Fast.tw1434711532940283264:Nat:=0
def PySem.W.Fast.tw7955252710125565668:Nat:=0
def PySem.W.Fast.tw569707377151835279:Nat:=0
def PySem.W.Fast.tw3826355609297926468:Nat:=0
def PySem.W.Fast.tw1585516500931785904:Nat:=0
def PySem.W.Fast.tw568516122826538829:Nat:=0
def PySem.W.Fast.tw5398880296834297662:Nat:=0
def PySem.W.Fast.tw9165128618303760433:Nat:=0
def PySem.W.Fast.tw1089018008287469547:Nat:=0
def PySem.W.Fast.tw14755689982551528982:Nat:=0
def PySem.W.Fast.tw2259187221372689982:Nat:=0
def PySem.W.Fast.tw9001149239679039451:Nat:=0
def PySem.W.Fast.tw5396574869072438124:Nat:=0
def PySem.W.Fast.tw13428111630773397463:Nat:=0
def PySem.W.Fast.tw3302709386009861563:Nat:=0
def PySem.W.Fast.tw7520475274205163717:Nat:=0
def PySem.W.Fast.tw5187926203077806307:Nat:=0
def PySem.W.Fast.tw14399956819889922436:Nat:=0
def PySem.W.Fast.tw13126059582536995362:Nat:=0
def PySem.W.Fast.tw10169491152374272576:Nat:=0
def PySem.W.Fast.tw8063321799643081489:Nat:=0
def PySem.W.Fast.tw2965985302135109877:Nat:=0
def PySem.W.Fast.tw14098913174763723085:Nat:=0
def PySem.W.Fast.tw12445818842184669331:Nat:=0
def PySem.W.Fast.tw12676237288846004432:Nat:=0
def PySem.W.Fast.tw4218225672520141169:Nat:=0
namespace PySem.W.Fast
def tw566176032462184668:=0
def tw8946891668831438449:=0
def tw13822387839151575668:=0
def tw13126079653238325886:=0
def tw3439742935957303196:=0
def tw5555707735196271068:=0
def tw487051729675927781:=0
def tw13402632736630780308:=0
def tw15433648836765241182:=0
def tw15100331304188285316:=0
def tw2715932817547985046:=0
def tw1216518829225035905:=0
def tw2025738122434967300:=0
def tw2328165854570428283:=0
def tw13902270938853395075:=0
def tw2368412512051559137:=0
def tw14163790426309845008:=0
def tw15048594138143906372:=0
def tw9136411758723875928:=0
def tw622724172676659007:=0
def tw16581184275294747996:=0
def tw16432815322905450237:=0
def tw6594915887325355668:=0
def tw10698983043161938289:=0
def tw15812991947119142064:=0
def tw2915148522145088083:=0
def tw13837346099721882499:=0
def tw1568935058030036714:=0
def tw9515720620461778061:=0
def tw405847227519539808:=0
def tw16106845426598031064:=0
def tw7555630709191114878:=0
def tw13839780793351492914:=0
def tw4998077416064300330:=0
def tw10199384097899368812:=0
def tw16926254248188719301:=0
def tw10889384046192488649:=0
def tw1054986284305020216:=0
def tw11007126876472881351:=0
def tw12810609674271800717:=0
def tw1805237074684028777:=0
def tw4011507505656153136:=0
def tw17952614014489091197:=0
def tw161099708785185512:=0
def tw15811216150910089703:=0
def tw9292481746291393842:=0
def tw7304095973819126878:=0
def tw5109265786007671603:=0
def tw7836141315578168066:=0
def tw493322107626968111:=0
def tw11454592806410279881:=0
def tw6346533421520941946:=0
def tw4002810001456938689:=0
def tw2013221502457525945:=0
def tw8541619309708145415:=0
def tw5532448112964987012:=0
def tw13739935150596883548:=0
def tw10924349410070091471:=0
def tw16495597588158173420:=0
def tw7091533595455319638:=0
def tw7184256264661427123:=0
def tw11555381751356540698:=0
def tw4966038963754410094:=0
def tw11353288644679125300:=0
def tw5764774032592978771:=0
def tw8234085690474667353:=0
def tw3818454475178095340:=0
def tw13510072549779878671:=0
def tw4415576024100532768:=0
def tw5216537474138744094:=0
def tw17040424436396905970:=0
def tw8193729565891861145:=0
def tw10751174774811499151:=0
def tw16909488268098265246:=0
def tw17776717283653726826:=0
def tw1905187690305459945:=0
def tw6414602861940192885:=0
def tw16883881035496261604:=0
def tw15999243916368600949:=0
def tw4910399579045903830:=0
def tw3019740553744136464:=0
def tw13830571452900273361:=0
def tw6102860635692645434:=0
def tw9384724695798084066:=0
def tw4262030856439181897:=0
def tw14549274463472529482:=0
def tw1255072822050337250:=0
def tw4545521387284902041:=0
def tw3605208599377975984:=0
def tw10876700137363120179:=0
def tw3441732899937804382:=0
def tw11529272706738798538:=0
def tw9620301316982623167:=0
def tw9759072710317564652:=0
def tw2722270171077059898:=0
def tw10610584529940936554:=0
def tw4673896535953366952:=0
def tw17255892436678908348:=0
def tw16375166879175657595:=0
def tw18187412144818307010:=0
def tw10088472753205989399:=0
def tw5258724648452570435:=0
def tw2141313277861757835:=0
def tw6357434889232923981:=0
def tw17444264632941373323:=0
def tw4828377854086703224:=0
def tw4610339748285383576:=0
def tw12715035436691526776:=0
def tw6095844276927296162:=0
def tw10850381100728664680:=0
def tw814272790988502179:=0
def tw1105968708996483223:=0
def tw11993674229814320847:=0
def tw7895211034728535338:=0
def tw13152106862859496993:=0
def tw5546695881467377771:=0
def tw16788526640348752772:=0
def tw8014070571294888458:=0
def tw3719839781105898269:=0
def tw12921849785895943147:=0
def tw11086582048580000642:=0
def tw3829461248791837907:=0
def tw2571511311188054057:=0
def tw12995097330425131039:=0
def tw3678057814705081371:=0
def tw16925888540280911208:=0
def tw14433604189790017720:=0
def tw14469355583479176543:=0
def tw13633996509135140181:=0
def tw13758768783997292979:=0
def tw653897219669260498:=0
def tw15010615787083260465:=0
def tw16422586409176557858:=0
def tw15601421048727619986:=0
def tw14845799521423688215:=0
def tw12489673931810195270:=0
def tw7643488057641092170:=0
def tw17219048439834649129:=0
def tw541438222610985873:=0
def tw9775873784349961649:=0
def tw8577127230453694874:=0
def tw3717296394319859652:=0
def tw11039160476256174073:=0
def tw9076577118728768655:=0
def tw7849133550074995774:=0
def tw7600652253316729669:=0
def tw6211617057090833375:=0
def tw7789091593067125607:=0
def tw4965065617299970701:=0
def tw2657180785449190740:=0
def tw14893713269655941075:=0
def tw2074577427411555197:=0
def tw1500648112870144611:=0
def tw14285198306573331193:=0
def tw11083543985538695247:=0
def tw9870972772365152329:=0
def tw9826057957165472751:=0
def tw8975207356850570188:=0
def tw8931138840337962665:=0
def tw8484855570466120504:=0
def tw8314583397391745202:=0
def tw8122797580335384210:=0
def tw7831414884343163675:=0
def tw6935848816511534614:=0
def tw6316326746462113883:=0
def tw6079326762130690250:=0
def tw5960504119646856034:=0
def tw5447787681104965969:=0
def tw5329492825256098061:=0
def tw5055991410143148228:=0
def tw4958641226701115624:=0
def tw4937153184275305381:=0
def tw4465140283716133418:=0
def tw4037341970142038088:=0
def tw3997782608453367340:=0
def tw3936599484702590836:=0
def tw3556742528260282866:=0
def tw315010256221741835:=0
def tw2791928473221622257:=0
def tw272400540829423893:=0
def tw2675055861142430825:=0
def tw250935730671245333:=0
def tw2187354503877525186:=0
def tw2174143691563315623:=0
def tw18261504743129232171:=0
def tw18248812001418454228:=0
def tw18208135118501562096:=0
def tw18003866310483518859:=0
def tw17913165277782964297:=0
def tw17831969362926999884:=0
def tw17378289194515971887:=0
def tw17365411259565631773:=0
def tw17240563441875351240:=0
def tw17097905615078952650:=0
def tw16588641214399303395:=0
def tw15885337921606920542:=0
def tw15558065280977897746:=0
def tw15401041624875779987:=0
def tw15257088692913618276:=0
def tw15249944957769686381:=0
def tw14927376907987948398:=0
def tw1465341637300026986:=0
def tw14486738937076764102:=0
def tw14115119941276801965:=0
def tw14090738963304328452:=0
def tw14033653577444230348:=0
def tw13897620191106860116:=0
def tw13843862522435081862:=0
def tw1377502941113981385:=0
def tw13274834077751787647:=0
def tw13146137624760840715:=0
def tw12857059220029153079:=0
def tw12648673693602290825:=0
def tw12588885563063336475:=0
def tw12346601665297557635:=0
def tw11664238329023738172:=0
def tw11510559214244670175:=0
def tw10582980110484421464:=0
def tw1055061898121305700:=0
def tw10112032078757137984:=0
def tw10071609142817036394:=0
end PySem.W.Fast
local macro_rules | `(tactic| lia) => `(tactic| first | lia -verbose | omega)
namespace Rm
structure EW (R:List Int):Prop where
 nn:∀ x∈R,0<=x
 z1:R.count 0=1
 two:∀ x∈R,0<x->R.count x=2
 nc:∀ u v,[u,v,u,v].Sublist R->u=v
 top:∀ u,¬ [u,0,u].Sublist R
section
variable {U W:List Int} {x y:Int}
def fy{s1 s2:List Int}{a:Int}(h1:s1.Sublist U)(h2:s2.Sublist W)(ha:a=x\/a=y):(s1++a::s2).Sublist (U++x::y::W):=by
 refine h1.append ?_;rcases ha with rfl | rfl
 ·exact(h2.cons y).cons_cons a
 ·exact(h2.cons_cons a).cons x
def sub_0{s:List Int}(h:s.Sublist (U++W)):s.Sublist (U++x::y::W):=
 h.trans ((List.Sublist.refl U).append (((List.Sublist.refl W).cons y).cons x))
def yf{a b c d:Int}(h:[a,b,c,d].Sublist (U++W)):
  [a,b,c,d].Sublist W\/([a].Sublist U/\[b,c,d].Sublist W)\/([a,b].Sublist U/\[c,d].Sublist W)\/([a,b,c].Sublist U/\[d].Sublist W)\/[a,b,c,d].Sublist U:=by
 obtain⟨s1,s2,e,h1,h2⟩:=jM.mp h
 match s1,e with
 | [],e=>simp at e;subst e;exact .inl h2
 | [_],e=>simp at e;obtain⟨rfl,rfl⟩:=e;exact .inr (.inl ⟨h1,h2⟩)
 | [_,_],e=>simp at e;obtain⟨rfl,rfl,rfl⟩:=e;exact .inr (.inr (.inl ⟨h1,h2⟩))
 | [_,_,_],e=>simp at e;obtain⟨rfl,rfl,rfl,rfl⟩:=e;exact .inr (.inr (.inr (.inl ⟨h1,h2⟩)))
 | _::_::_::_::r,e=>simp at e;obtain⟨rfl,rfl,rfl,rfl,rfl,rfl⟩:=e;exact .inr (.inr (.inr (.inr h1)))
def sf{a b c:Int}(h:[a,b,c].Sublist (U++W)):
  [a,b,c].Sublist W\/([a].Sublist U/\[b,c].Sublist W)\/([a,b].Sublist U/\[c].Sublist W)\/[a,b,c].Sublist U:=by
 obtain⟨s1,s2,e,h1,h2⟩:=jM.mp h
 match s1,e with
 | [],e=>simp at e;subst e;exact .inl h2
 | [_],e=>simp at e;obtain⟨rfl,rfl⟩:=e;exact .inr (.inl ⟨h1,h2⟩)
 | [_,_],e=>simp at e;obtain⟨rfl,rfl,rfl⟩:=e;exact .inr (.inr (.inl ⟨h1,h2⟩))
 | _::_::_::r,e=>simp at e;obtain⟨rfl,rfl,rfl,rfl,rfl⟩:=e;exact .inr (.inr (.inr h1))
def DW{a:Int}{s l:List Int}(h:(a::s).Sublist l):s.Sublist l:=(List.sublist_cons_self a s).trans h
def Eb{a b c d:Int}{l:List Int}(h:[a,b,c,d].Sublist l):[a,b,c].Sublist l:=iW (by simp:[a,b,c].Sublist [a,b,c,d]) h
def GQ{a b c:Int}{l:List Int}(h:[a,b,c].Sublist l):[a,b].Sublist l:=iW (by simp) h
def GR{a b:Int}{l:List Int}(h:[a,b].Sublist l):[a].Sublist l:=iW (by simp) h
def EW.k1(E:EW (U++x::y::W)){a c v:Int}(ha:a=x\/a=y)(hc:c=x\/c=y)(h:[a,v,c,v].Sublist (U++W)):v=a\/v=c:=by
 rcases yf h with h | ⟨h1,h2⟩ | ⟨h1,h2⟩ | ⟨h1,h2⟩ | h
 ·exact .inr (E.nc _ _ (fy (aZ U) (DW h) hc)).symm
 ·exact .inr (E.nc _ _ (fy (aZ U) h2 hc)).symm
 ·exact .inl (E.nc _ _ (fy h1 (DW h2) ha)).symm
 ·exact .inl (E.nc _ _ (fy (GQ h1) h2 ha)).symm
 ·exact .inr (E.nc _ _ (fy (DW h) (aZ W) hc))
def EW.k2(E:EW (U++x::y::W)){a c u:Int}(ha:a=x\/a=y)(hc:c=x\/c=y)(h:[u,a,u,c].Sublist (U++W)):u=a\/u=c:=by
 rcases yf h with h | ⟨h1,h2⟩ | ⟨h1,h2⟩ | ⟨h1,h2⟩ | h
 ·exact .inl (E.nc _ _ (fy (aZ U) (Eb h) ha)).symm
 ·exact .inr (E.nc _ _ (fy h1 (DW h2) hc))
 ·exact .inr (E.nc _ _ (fy (GR h1) h2 hc))
 ·exact .inl (E.nc _ _ (fy h1 (aZ W) ha))
 ·exact .inl (E.nc _ _ (fy (Eb h) (aZ W) ha))
def EW.k3(E:EW (U++x::y::W)){a c:Int}(ha:a=x\/a=y)(hc:c=x\/c=y)(h:[a,0,c].Sublist (U++W)):False:=by
 rcases sf h with h | ⟨h1,h2⟩ | ⟨h1,h2⟩ | h
 ·exact E.top _ (fy (aZ U) (DW h) hc)
 ·exact E.top _ (fy (aZ U) h2 hc)
 ·exact E.top _ (fy h1 (aZ W) ha)
 ·exact E.top _ (fy (GQ h) (aZ W) ha)
def EW.k4(E:EW (U++x::y::W)){u v:Int}(h0:x=0\/y=0)(hv:v=x\/v=y)(h:[u,v,u].Sublist (U++W)):u=v:=by
 have hz:(0:Int)=x\/(0:Int)=y:=h0.imp gx gx;rcases sf h with h | ⟨h1,h2⟩ | ⟨h1,h2⟩ | h
 ·exact(E.nc _ _ (fy (aZ U) h hv)).symm
 ·exact(E.top _ (fy h1 (DW h2) hz)).elim
 ·exact(E.top _ (fy (GR h1) h2 hz)).elim
 ·exact E.nc _ _ (fy h (aZ W) hv)
end
def rn(lo hi v:Int):Int:=if v=hi then lo else v
def nX{lo hi v:Int}(hne:lo≠hi):∀l:List Int,(l.map (rn lo hi)).count v=if v=hi then 0 else if v=lo then l.count lo+l.count hi else l.count v
 | []=>by simp
 | a::l=>by
  have ih:=nX (v:=v) hne l;simp only[aS,br,ih,rn,beq_iff_eq];by_cases h1:v=hi
  ·subst h1;by_cases h2:a=v
   ·simp[h2,hne]
   ·simp[h2]
  ·by_cases h3:v=lo
   ·subst h3;by_cases h2:a=hi
    ·subst h2;simp[h1,bg h1];lia
    ·simp[h1,h2];lia
   ·by_cases h2:a=hi
    ·subst h2;simp[h1,h3,bg h3,bg h1]
    ·simp[h1,h2,h3]
def lT{U W:List Int}{x y v:Int}:(U++x::y::W).count v=(U++W).count v+(if x=v then 1 else 0)+(if y=v then 1 else 0):=by
 simp only[cJ,br,beq_iff_eq];lia
def kO{lo hi a:Int}:(a=hi/\rn lo hi a=lo)\/(a≠hi/\rn lo hi a=a):=by
 by_cases h:a=hi
 ·exact .inl ⟨h,by simp[rn,h]⟩
 ·exact .inr ⟨h,by simp[rn,h]⟩
def HP{f:Int->Int}{l:List Int}{u v p q:Int}(h:[u,v,p,q].Sublist (l.map f)):∃a b c d,[a,b,c,d].Sublist l/\u=f a/\v=f b/\p=f c/\q=f d:=by
 obtain⟨l',hl,e⟩:=List.sublist_map_iff.mp h;have hn:l'.length=4:=by have:=congrArg List.length e;simp at this;lia
 obtain⟨a,r,rfl⟩:=ao hn;obtain⟨b,r,rfl⟩:=ao (l:=r) (n:=2) (by simpa using hn);obtain⟨c,r,rfl⟩:=ao (l:=r) (n:=1) (by simpa using hn);obtain⟨d,r,rfl⟩:=ao (l:=r) (n:=0) (by simpa using hn);have:r=[]:=au (by simpa using hn);subst this;simp only[aS,fD,fR,and_true] at e;exact⟨a,b,c,d,hl,e⟩
def HQ{f:Int->Int}{l:List Int}{u v p:Int}(h:[u,v,p].Sublist (l.map f)):∃a b c,[a,b,c].Sublist l/\u=f a/\v=f b/\p=f c:=by
 obtain⟨l',hl,e⟩:=List.sublist_map_iff.mp h;have hn:l'.length=3:=by have:=congrArg List.length e;simp at this;lia
 obtain⟨a,r,rfl⟩:=ao hn;obtain⟨b,r,rfl⟩:=ao (l:=r) (n:=1) (by simpa using hn);obtain⟨c,r,rfl⟩:=ao (l:=r) (n:=0) (by simpa using hn);have:r=[]:=au (by simpa using hn);subst this;simp only[aS,fD,fR,and_true] at e;exact⟨a,b,c,hl,e⟩
def EW.join{U W:List Int}{x y lo hi:Int}(E:EW (U++x::y::W))(hlh:lo<hi)(hp:(lo=x/\hi=y)\/(lo=y/\hi=x)):EW ((U++W).map (rn lo hi)):=by
 have hne:lo≠hi:=by lia
 have hlo:lo=x\/lo=y:=hp.elim (λh=>.inl h.1) (λh=>.inr h.1);have hhi:hi=x\/hi=y:=hp.elim (λh=>.inr h.2) (λh=>.inl h.2);have mlo:lo∈U++x::y::W:=by rcases hlo with rfl | rfl<;>simp
 have mhi:hi∈U++x::y::W:=by rcases hhi with rfl | rfl<;>simp
 have n0:=E.nn _ mlo;have chi:(U++W).count hi=1:=by
  have:=E.two hi mhi (by lia);rw[lT] at this;rcases hp with ⟨rfl,rfl⟩ | ⟨rfl,rfl⟩
  ·rw[Kn hne,Ko rfl] at this;lia
  ·rw[Ko rfl,Kn hne] at this;lia
 have clo:(U++W).count lo=if lo=0 then 0 else 1:=by
  have e:(U++x::y::W).count lo=(U++W).count lo+1:=by
   rw[lT];rcases hp with ⟨rfl,rfl⟩ | ⟨rfl,rfl⟩
   ·rw[Ko rfl,Kn (bg hne)]
   ·rw[Ko rfl,Kn (bg hne)]
  by_cases h:lo=0
  ·rw[Ko h];have:=E.z1;rw[<-h,e] at this;lia
  ·rw[Kn h];have:=E.two lo mlo (by lia);lia
 have oth:∀v,v≠lo->v≠hi->(U++W).count v=(U++x::y::W).count v:=λv h1 h2=>by
  rw[lT];rcases hp with ⟨rfl,rfl⟩ | ⟨rfl,rfl⟩
  ·rw[Kn (bg h1),Kn (bg h2)];rfl
  ·rw[Kn (bg h2),Kn (bg h1)];rfl
 have mem0:∀v,v∈(U++W).map (rn lo hi)->v≠hi/\(v=lo\/v∈U++W):=λv hv=>by
  obtain⟨a,ha,rfl⟩:=bI.mp hv;rcases kO (lo:=lo) (hi:=hi) (a:=a) with ⟨h1,h2⟩ | ⟨h1,h2⟩
  ·rw[h2];exact⟨hne,.inl rfl⟩
  ·rw[h2];exact⟨h1,.inr ha⟩
 have inR:∀v,v∈U++W->v∈U++x::y::W:=λv hv=>by
  rcases aL.mp hv with h | h
  ·exact bM _ h
  ·exact af _ (aK _ (aK _ h))
 have pick:∀a c u,rn lo hi a=u->rn lo hi c=u->a=c\/(u=lo/\(a=x\/a=y)/\(c=x\/c=y)):=λa c u h1 h2=>by
  rcases kO (lo:=lo) (hi:=hi) (a:=a) with ⟨h3,h4⟩ | ⟨h3,h4⟩<;>rcases kO (lo:=lo) (hi:=hi) (a:=c) with ⟨h5,h6⟩ | ⟨h5,h6⟩
  ·exact .inl (h3.trans h5.symm)
  ·have e1:u=lo:=by rw[<-h1,h4]
   have e2:c=lo:=by rw[<-h6,h2,e1]
   exact .inr ⟨e1,h3▸hhi,e2▸hlo⟩
  ·have e1:u=lo:=by rw[<-h2,h6]
   have e2:a=lo:=by rw[<-h4,h1,e1]
   exact .inr ⟨e1,e2▸hlo,h5▸hhi⟩
  ·exact .inl (by rw[<-h4,<-h6,h1,h2])
 have xy:∀a:Int,a=x\/a=y->rn lo hi a=lo:=λa h=>by
  have:a=lo\/a=hi:=by
   rcases hp with ⟨rfl,rfl⟩ | ⟨rfl,rfl⟩
   ·exact h
   ·exact h.symm
  rcases this with rfl | rfl
  ·simp[rn,hne]
  ·simp[rn]
 refine⟨λv hv=>?_,?_,λv hv h0=>?_,λu v h=>?_,λu h=>?_⟩
 ·rcases(mem0 v hv).2 with rfl | h
  ·exact n0
  ·exact E.nn v (inR v h)
 ·rw[nX hne,Kn (by lia)];by_cases h:(0:Int)=lo
  ·rw[Ko h,clo,Ko h.symm,chi]
  ·rw[Kn h,oth 0 h (by lia),E.z1]
 ·obtain⟨h1,h2⟩:=mem0 v hv;rw[nX hne,Kn h1];by_cases h:v=lo
  ·rw[Ko h,clo,Kn (by lia),chi]
  ·rw[Kn h,oth v h h1];exact E.two v (inR v (h2.resolve_left h)) h0
 ·obtain⟨a,b,c,d,hl,e1,e2,e3,e4⟩:=HP h
  ·skip
   rcases pick a c u e1.symm e3.symm with rfl | ⟨hu,ha,hc⟩
   ·rcases pick b d v e2.symm e4.symm with rfl | ⟨hv,hb,hd⟩
    ·have:=E.nc _ _ (sub_0 hl);subst this;rw[e1,e2]
    ·rcases E.k2 hb hd hl with z | z
     ·rw[e1,z,hv];exact xy b hb
     ·rw[e1,z,hv];exact xy d hd
   ·rcases pick b d v e2.symm e4.symm with rfl | ⟨hv,hb,hd⟩
    ·rcases E.k1 ha hc hl with z | z
     ·rw[e2,z,hu];exact(xy a ha).symm
     ·rw[e2,z,hu];exact(xy c hc).symm
    ·rw[hu,hv]
 ·obtain⟨a,b,c,hl,e1,e2,e3⟩:=HQ h
  ·skip
   by_cases hl0:lo=0
   ·have h0n:(0:Int)∉U++W:=by rw[<-bO,<-hl0,clo,Ko hl0]
    have hb:b∈U++W:=hl.subset (by simp);have ha:a∈U++W:=hl.subset (by simp);have bh:b=hi:=by
     rcases kO (lo:=lo) (hi:=hi) (a:=b) with ⟨h3,h4⟩ | ⟨h3,h4⟩
     ·exact h3
     ·rw[h4] at e2;exact(h0n (e2▸hb)).elim
    have hz:x=0\/y=0:=hlo.elim (λz=>.inl (z▸hl0)) (λz=>.inr (z▸hl0));rcases pick a c u e1.symm e3.symm with rfl | ⟨hu,ha',hc'⟩
    ·have eab:a=b:=E.k4 hz (bh▸hhi) hl;have:=hl.count_le hi;rw[chi,eab,bh] at this;simp at this
    ·have:a=hi:=by
      have:a=lo\/a=hi:=by
       rcases hp with ⟨rfl,rfl⟩ | ⟨rfl,rfl⟩
       ·exact ha'
       ·exact ha'.symm
      rcases this with z | z
      ·exact(h0n (by rw[<-hl0,<-z];exact ha)).elim
      ·exact z
     have cc:=hl.count_le hi;rw[chi,this,bh] at cc;simp at cc
   ·have b0:b=0:=by
     rcases kO (lo:=lo) (hi:=hi) (a:=b) with ⟨h3,h4⟩ | ⟨h3,h4⟩
     ·rw[h4] at e2;exact(hl0 e2.symm).elim
     ·rw[h4] at e2;exact e2.symm
    subst b0;rcases pick a c u e1.symm e3.symm with rfl | ⟨hu,ha',hc'⟩
    ·exact E.top _ (sub_0 hl)
    ·exact E.k3 ha' hc' hl
def Gy{U W:List Int}{z v:Int}(hU:z∉U)(hW:z∉W)(hv:v≠z):¬[z,v,z].Sublist (U++z::z::W):=λh=>by
 have hw:∀{r:List Int},¬(v::z::r).Sublist W:=λh=>hW (h.subset (by simp));rcases sf h with h | ⟨h1,h2⟩ | ⟨h1,h2⟩ | h
 ·have h':[v,z].Sublist (z::W):=(List.cons_sublist_cons.mp h)
  cases h' with
  | cons _ h''=>exact hw h''
  | cons_cons _ _=>exact hv rfl
 ·exact hU (h1.subset (by simp))
 ·exact hU (h1.subset (by simp))
 ·exact hU (h.subset (by simp))
def A2{l:List Int}{z:Int}(h:z∉l):l.filter (λa=>!decide (a=z))=l:=
 List.filter_eq_self.mpr λa ha=>by simp only[Bool.not_eq_true',decide_eq_false_iff_not];exact λe=>h (e▸ha)
def EW.ins{U W:List Int}{z:Int}(E:EW (U++W))(hz:0<z)(hU:z∉U)(hW:z∉W):EW (U++z::z::W):=by
 have c0:(U++W).count z=0:=bO.mpr λh=>(aL.mp h).elim hU hW;have inn:∀v,v∈U++z::z::W->v=z\/v∈U++W:=λv h=>by
  simp only[aL,aH] at h ⊢;rcases h with h | h | h | h<;>simp[h]
 have fl:∀s:List Int,z∉s->s.Sublist (U++z::z::W)->s.Sublist (U++W):=λs hs h=>by
  have h2:=h.filter (λa=>!decide (a=z));have e1:=A2 hs;have e2:(U++z::z::W).filter (λa=>!decide (a=z))=U++W:=by
   rw[fX,jS,jS];simp only[decide_true,Bool.not_true,cn,Kv];rw[A2 hU,A2 hW]
  rw[e1,e2] at h2;exact h2
 refine⟨λv hv=>?_,?_,λv hv h0=>?_,λu v h=>?_,λu h=>?_⟩
 ·rcases inn v hv with rfl | h
  ·lia
  ·exact E.nn v h
 ·rw[lT,Kn (by lia),E.z1]
 ·rcases inn v hv with rfl | h
  ·rw[lT,c0,Ko rfl]
  ·by_cases hvz:z=v
   ·subst hvz;rw[lT,c0,Ko rfl]
   ·rw[lT,Kn hvz];exact E.two v h h0
 ·by_cases huv:u=v
  ·exact huv
  by_cases hu:u=z
  ·subst hu;exact(Gy hU hW (bg huv) (Eb h)).elim
  by_cases hv:v=z
  ·subst hv;exact(Gy hU hW huv (DW h)).elim
  exact E.nc _ _ (fl _ (by simp[bg hu,bg hv]) h)
 ·by_cases hu:u=z
  ·subst hu;exact Gy hU hW (by lia) h
  exact E.top _ (fl _ (by simp[bg hu];lia) h)
def kL(pre:List Int)(x:Int):Nat:=if 0<x then (if x∈pre then 41 else 40) else 42
def ba:List Int->List Int->List Nat
 | _,[]=>[]
 | pre,x::r=>kL pre x::ba (pre++[x]) r
def c8:∀(A pre B:List Int),ba pre (A++B)=ba pre A++ba (pre++A) B
 | [],pre,B=>by simp[ba]
 | x::A,pre,B=>by simp[ba,c8 A]
def bp:∀(A pre:List Int),(ba pre A).length=A.length
 | [],_=>rfl
 | x::A,pre=>by simp[ba,bp A]
def cS{A pre B:List Int}{x:Int}:ba pre (A++x::B)=ba pre A++kL (pre++A) x::ba (pre++A++[x]) B:=by rw[c8];rfl
def sn(pre:List Int)(x:Int):kL pre x=40\/kL pre x=41\/kL pre x=42:=by unfold kL;split<;>(try split)<;>simp
def so:∀(A pre:List Int),∀c∈ba pre A,c=40\/c=41\/c=42
 | [],_,c,h=>by simp[ba] at h
 | x::A,pre,c,h=>by
  rcases aH.mp h with rfl | h
  ·exact sn pre x
  ·exact so A _ c h
def gW{pre:List Int}{x:Int}(h0:0<x)(h:x∉pre):kL pre x=40:=by simp[kL,h0,h]
def gV{pre:List Int}{x:Int}(h0:0<x)(h:x∈pre):kL pre x=41:=by simp[kL,h0,h]
def vA{pre:List Int}:kL pre 0=42:=by simp[kL]
def dO{x y:Int}:∀(V pre pre':List Int),(∀v∈V,v≠x/\v≠y)->(∀v,v≠x->v≠y->(v∈pre<->v∈pre'))->ba pre V=ba pre' V
 | [],_,_,_,_=>rfl
 | v::V,pre,pre',hV,hp=>by
  have h1:=hV v (by simp);have e:kL pre v=kL pre' v:=by simp only[kL,hp v h1.1 h1.2]
  simp only[ba,e];rw[dO V (pre++[v]) (pre'++[v]) (λw hw=>hV w (aK _ hw)) λw a b=>by simp[hp w a b]]
def yl(V pre:List Int)(j:Nat):(ba pre V).take j=ba pre (V.take j):=by
 by_cases h:j<=V.length
 ·have e:ba pre V=ba pre (V.take j)++ba (pre++V.take j) (V.drop j):=by rw[<-c8,gA]
  rw[e,gb (by rw[bp,bV];lia),cO (by rw[bp,bV];lia)]
 ·rw[cO (by rw[bp];lia),cO (by lia)]
def vl(c:Nat):Int:=if c=40 then 1 else if c=41 then -1 else 0
def ps(cs:List Nat):Int:=(cs.map vl).sum
def lO:ps []=0:=rfl
def ki(c:Nat)(cs:List Nat):ps (c::cs)=vl c+ps cs:=by simp[ps]
def mM(a b:List Nat):ps (a++b)=ps a+ps b:=by simp[ps]
structure Cl (V:List Nat):Prop where
 z:ps V=0
 nn:∀ j,0<=ps (V.take j)
def mh{pre:List Int}:∀(V D o:List Int),o.Nodup->(∀v,v∈o<->D.count v=1)->(∀v∈D++V,0<v/\v∉pre/\(D++V).count v<=2) →
  ∃o':List Int,o'.Nodup/\(o'.length:Int)=o.length+ps (ba (pre++D) V)/\∀v,v∈o'<->(D++V).count v=1
 | [],D,o,nd,ho,h=>⟨o,nd,by simp[ba,lO],by simpa using ho⟩
 | v::V,D,o,nd,ho,h=>by
  have e:D++v::V=(D++[v])++V:=by simp
  obtain⟨h0,hp,h2⟩:=h v (by simp);have hc:(D++v::V).count v=D.count v+1+V.count v:=by simp[cJ,br];lia
  have hw:∀w,(D++[v]).count w=D.count w+if v=w then 1 else 0:=λw=>by simp[cJ,br]
  rw[e] at h ⊢;by_cases hv:v∈D
  ·have c1:D.count v=1:=by have:=iV.mpr hv;lia
   have vo:=(ho v).mpr c1;obtain⟨o',n',l',m'⟩:=mh (pre:=pre) V (D++[v]) (o.erase v) (nd.erase v) (λw=>by
    rw[nd.mem_erase_iff,ho w,hw w];by_cases e:v=w
    ·subst e;simp[c1]
    ·simp[e,bg e]) h
   refine⟨o',n',?_,m'⟩;have hl:=List.length_erase_of_mem vo;have hpos:=List.length_pos_of_mem vo;rw[l',ba,ki,gV h0 (af _ hv),hl,a7];have:vl 41=-1:=by decide
   lia
  ·have c0:D.count v=0:=bO.mpr hv;obtain⟨o',n',l',m'⟩:=mh (pre:=pre) V (D++[v]) (v::o) (cX.mpr ⟨λz=>(by rw[ho v,c0] at z;cases z),nd⟩) (λw=>by
    rw[aH,ho w,hw w];by_cases e:v=w
    ·subst e;simp[c0]
    ·simp[e,bg e]) h
   refine⟨o',n',?_,m'⟩;rw[l',ba,ki,gW h0 (λz=>(aL.mp z).elim hp hv),bi,a7];have:vl 40=1:=by decide
   lia
def GX{pre V:List Int}(h:∀v∈V,0<v/\v∉pre/\V.count v=2):Cl (ba pre V):=by
 refine⟨?_,λj=>?_⟩
 ·obtain⟨o,_,l,m⟩:=mh (pre:=pre) V [] [] .nil (by simp) (λv hv=>⟨(h v (by simpa using hv)).1,(h v (by simpa using hv)).2.1,by have:=(h v (by simpa using hv)).2.2;simp only[ax];lia⟩);have:o=[]:=by
   rcases o with _ | ⟨v,o⟩
   ·rfl
   ·have c:=(m v).mp (by simp);simp only[ax] at c;have hv:v∈V:=iV.mp (by lia);have:=(h v hv).2.2;lia
  subst this;simpa using l.symm
 ·rw[yl];obtain⟨o,_,l,m⟩:=mh (pre:=pre) (V.take j) [] [] .nil (by simp) (λv hv=>by
   have hv':v∈V:=List.mem_of_mem_take (by simpa using hv);have:=(h v hv').2.2;have c:=(List.take_sublist j V).count_le v;exact⟨(h v hv').1,(h v hv').2.1,by simp only[ax];lia⟩)
  simp at l;lia
def v9{A V B:List Int}{x v:Int}:(A++x::(V++x::B)).count v=A.count v+V.count v+B.count v+(if x=v then 2 else 0):=by
 simp only[cJ,br,beq_iff_eq];split<;>lia
def EW.seg{A V B:List Int}{x:Int}(E:EW (A++x::(V++x::B)))(hx:0<x):Cl (ba (A++[x]) V)/\x∉A/\x∉V/\x∉B:=by
 have c:=E.two x (by simp) hx;rw[v9,Ko rfl] at c;have nA:x∉A:=bO.mp (by lia);have nV:x∉V:=bO.mp (by lia);have nB:x∉B:=bO.mp (by lia);refine⟨GX λv hv=>?_,nA,nV,nB⟩;have vx:x≠v:=λe=>nV (e▸hv);have hs:[v].Sublist V:=bZ.mpr hv;have v0:v≠0:=λe=>by
  subst e;exact E.top x ((aZ A).append ((hs.append (((aZ B).cons_cons x):[x].Sublist (x::B))).cons_cons x))
 have hA:v∉A:=λh=>vx.symm (E.nc v x ((bZ.mpr h).append ((hs.append ((aZ B).cons_cons x)).cons_cons x)));have hB:v∉B:=λh=>vx (E.nc x v ((aZ A).append ((hs.append ((bZ.mpr h).cons_cons x)).cons_cons x)));have hn:=E.nn v (by simp[hv]);have c2:=E.two v (by simp[hv]) (by lia);rw[v9,Kn vx,bO.mpr hA,bO.mpr hB] at c2;exact⟨by lia,by simp[hA,bg vx],by lia⟩
inductive sP (cs:List Nat):Nat->Nat->Prop
 | star {P S:List Nat} {p:Nat} (h:cs=P++42::S) (hp:p=P.length):sP cs p p
 | right {P V S:List Nat} {p q:Nat} (h:cs=P++40::(V++41::S)) (c:Cl V) (hp:p=P.length) (hq:q=P.length+V.length+1):sP cs p q
 | left {P V S:List Nat} {p q:Nat} (h:cs=P++40::(V++41::S)) (c:Cl V) (hp:p=P.length+V.length+1) (hq:q=P.length):sP cs p q
def gO{P S:List Nat}{c d k:Nat}(h:k=P.length):(P++c::S).set k d=P++d::S:=by
 subst h;rw[List.set_append_right _ _ (aE _)];simp
def mr{P Q:List Nat}{a b k:Nat}(h:k=P.length):(P++a::b::Q).take k++(P++a::b::Q).drop (k+2)=P++Q/\(P++a::b::Q).length=P.length+Q.length+2:=by
 subst h;refine⟨?_,by simp;lia⟩;rw[List.take_left,List.drop_append];simp
def jn(cs:List Nat)(p a b m0 m1:Nat):List Nat:=((cs.set a m0).set b m1).take p++((cs.set a m0).set b m1).drop (p+2)
def E9{A V C F:List Nat}{a x y b p i j m0 m1:Nat}(hi:i=A.length)(hj:j=A.length+V.length+C.length+3)(hp:p=A.length+V.length+1):
  jn (A++a::(V++x::y::(C++b::F))) p i j m0 m1=A++m0::(V++(C++m1::F)):=by
 unfold jn;rw[gO hi,show A++m0::(V++x::y::(C++b::F))=(A++m0::(V++x::y::C))++b::F by simp,gO (by simp;lia),
  show (A++m0::(V++x::y::C))++m1::F=(A++m0::V)++x::y::(C++m1::F) by simp,(mr (by simp;lia)).1]
 simp
def AN{P C D F:List Nat}{x y b d p i j m0 m1:Nat}(hi:i=P.length+C.length+2)(hj:j=P.length+C.length+D.length+3)(hp:p=P.length):
  jn (P++x::y::(C++b::(D++d::F))) p i j m0 m1=P++(C++m0::(D++m1::F)):=by
 unfold jn;rw[show P++x::y::(C++b::(D++d::F))=(P++x::y::C)++b::(D++d::F) by simp,gO (by simp;lia),
  show (P++x::y::C)++m0::(D++d::F)=(P++x::y::(C++m0::D))++d::F by simp,gO (by simp;lia),
  show (P++x::y::(C++m0::D))++m1::F=P++x::y::(C++m0::(D++m1::F)) by simp,(mr hp).1]
def CG{A B C S:List Nat}{a b x y p i j m0 m1:Nat}(hi:i=A.length)(hj:j=A.length+B.length+1)(hp:p=A.length+B.length+C.length+2):
  jn (A++a::(B++b::(C++x::y::S))) p i j m0 m1=A++m0::(B++m1::(C++S)):=by
 unfold jn;rw[gO hi,show A++m0::(B++b::(C++x::y::S))=(A++m0::B)++b::(C++x::y::S) by simp,gO (by simp;lia),
  show (A++m0::B)++m1::(C++x::y::S)=(A++m0::(B++m1::C))++x::y::S by simp,(mr (by simp;lia)).1]
 simp
def GM{P C F:List Nat}{x y b p i j m0 m1:Nat}(hi:i=P.length)(hj:j=P.length+C.length+2)(hp:p=P.length):
  jn (P++x::y::(C++b::F)) p i j m0 m1=P++(C++m1::F):=by
 unfold jn;rw[gO hi,show P++m0::y::(C++b::F)=(P++m0::y::C)++b::F by simp,gO (by simp;lia),
  show (P++m0::y::C)++m1::F=P++m0::y::(C++m1::F) by simp,(mr hp).1]
def GN{A V S:List Nat}{a x y p i j m0 m1:Nat}(hi:i=A.length)(hj:j=A.length+V.length+2)(hp:p=A.length+V.length+1):
  jn (A++a::(V++x::y::S)) p i j m0 m1=A++m0::(V++S):=by
 unfold jn;rw[gO hi,show A++m0::(V++x::y::S)=(A++m0::(V++[x]))++y::S by simp,gO (by simp;lia),
  show (A++m0::(V++[x]))++m1::S=(A++m0::V)++x::m1::S by simp,(mr (by simp;lia)).1]
 simp
def AG{lo hi:Int}:∀{l:List Int},hi∉l->l.map (rn lo hi)=l
 | [],_=>rfl
 | a::l,h=>by
  simp only[aH,not_or] at h;rw[aS,AG h.2];simp[rn,bg h.1]
def Cs{lo hi:Int}:rn lo hi lo=lo:=by unfold rn;split<;>rfl
def Ct{lo hi:Int}:rn lo hi hi=lo:=by simp[rn]
structure G7 (cs:List Nat) (p:Nat) (st:Prop) (out:List Nat):Prop where
 ex:∃ q0 q1,sP cs p q0/\sP cs (p+1) q1/\q0≠p+1/\q0≠q1/\q0<cs.length/\q1<cs.length ∧
  ((st/\jn cs p (min q0 q1) (max q0 q1) 42 42=out)\/(¬ st/\jn cs p (min q0 q1) (max q0 q1) 40 41=out))
def EW.two_in{R:List Int}(E:EW R){A B:List Int}{x:Int}(e:R=A++x::B)(hx:0<x):(∃C D,A=C++x::D)\/(∃C D,B=C++x::D):=by
 have c:=E.two x (by rw[e];simp) hx;rw[e] at c;simp only[cJ,br,beq_self_eq_true,Ku] at c;by_cases h:x∈A
 ·exact .inl (dW h)
 ·have:=bO.mpr h;exact .inr (dW (iV.mp (by lia)))
section
variable {x y:Int}
def off{l:List Int}(h1:x∉l)(h2:y∉l):∀v∈l,v≠x/\v≠y:=λv hv=>⟨λe=>h1 (e▸hv),λe=>h2 (e▸hv)⟩
end
def EW.d{U W:List Int}{x y lo hi:Int}(E:EW (U++x::y::W))(hlh:lo<hi)(hp:(lo=x/\hi=y)\/(lo=y/\hi=x)):
  G7 (ba [] (U++x::y::W)) U.length (x=0\/y=0) (ba [] ((U++W).map (rn lo hi))):=by
 have hxy:x≠y:=by lia
 have x0:=E.nn x (by simp);have y0:=E.nn y (by simp);have rx:rn lo hi x=lo:=by rcases hp with ⟨rfl,rfl⟩ | ⟨rfl,rfl⟩;exact Cs;exact Ct
 have ry:rn lo hi y=lo:=by rcases hp with ⟨rfl,rfl⟩ | ⟨rfl,rfl⟩;exact Ct;exact Cs
 have hh:hi=x\/hi=y:=hp.elim (λh=>.inr h.2) (λh=>.inl h.2);have hl:lo=x\/lo=y:=hp.elim (λh=>.inl h.1) (λh=>.inr h.1);have mp:∀l:List Int,x∉l->y∉l->l.map (rn lo hi)=l:=λl h1 h2=>AG (by rcases hh with rfl | rfl<;>assumption);have ll:∀l:List Int,x∉l->y∉l->lo∉l:=λl h1 h2=>by rcases hl with rfl | rfl<;>assumption
 by_cases hx:x=0
 ·-- the mouth's piece on the left
  subst hx;have hy:0<y:=by lia
  have el:lo=0:=by lia
  rcases E.two_in (A:=U++[0]) (B:=W) (x:=y) (by simp) hy with ⟨C,D,e⟩ | ⟨C,D,e⟩
  ·exfalso;have:y∈U:=by
    have:y∈U++[0]:=by rw[e];simp
    simpa [bg hxy] using this
   exact E.top y ((bZ.mpr this).append (((aZ W).cons_cons y).cons_cons 0))
  ·subst e;obtain⟨cl,n1,n2,n3⟩:=EW.seg (A:=U++[0]) (V:=C) (B:=D) (x:=y) (by simpa using E) hy;have c0:=E.z1;simp only[cJ,br,beq_self_eq_true,Ku] at c0;have z1:(0:Int)∉U:=bO.mp (by lia);have z2:(0:Int)∉C:=bO.mp (by lia);have z3:(0:Int)∉D:=bO.mp (by lia);have n1':y∉U:=λh=>n1 (by simp[h]);have ec:ba [] (U++0::y::(C++y::D))=ba [] U++42::40::(ba (U++[0]++[y]) C++41::ba (U++[0]++[y]++C++[y]) D):=by
    rw[cS,ba,cS];simp only[ax];rw[vA,gW hy n1,gV hy (by simp)]
   have eo:ba [] ((U++(C++y::D)).map (rn lo hi))=ba [] U++(ba (U++[0]++[y]) C++42::ba (U++[0]++[y]++C++[y]) D):=by
    rw[aN,aN,aS,ry,mp U z1 n1',mp C z2 n2,mp D z3 n3,c8,cS,el,vA];rw[dO (x:=0) (y:=y) C _ (U++[0]++[y]) (off z2 n2) (λv a b=>by simp[a,b]),dO (x:=0) (y:=y) D _ (U++[0]++[y]++C++[y]) (off z3 n3) (λv a b=>by simp[a,b])]
   rw[ec,eo];have lU:=bp U [];have lC:=bp C (U++[0]++[y]);clear ec eo E c0;generalize ba [] U=u at *;generalize ba (U++[0]++[y]) C=c at *;generalize ba (U++[0]++[y]++C++[y]) D=d at *;refine⟨U.length,U.length+C.length+2,.star rfl (by lia),.right (P:=u++[42]) (V:=c) (S:=d) (by simp) cl (by simp;lia) (by simp;lia),by lia,by lia,by simp;lia,by simp;lia,.inl ⟨.inl rfl,?_⟩⟩;rw[gj (by lia),jL (by lia)];exact GM (by lia) (by lia) (by lia)
 ·have hx':0<x:=by lia
  by_cases hy:y=0
  ·subst hy;have el:lo=0:=by lia
   rcases E.two_in (A:=U) (B:=0::W) (x:=x) rfl hx' with ⟨A,V,e⟩ | ⟨C,D,e⟩
   ·subst e;have E':EW (A++x::(V++x::(0::W))):=by simpa using E
    obtain⟨cl,n1,n2,n3⟩:=E'.seg hx';have c0:=E.z1;simp only[cJ,br,beq_self_eq_true,Ku] at c0;have z1:(0:Int)∉A:=bO.mp (by lia);have z2:(0:Int)∉V:=bO.mp (by lia);have z3:(0:Int)∉W:=bO.mp (by lia);have n3':x∉W:=λh=>n3 (by simp[h]);have ec:ba [] (A++x::V++x::0::W)=ba [] A++40::(ba (A++[x]) V++41::42::ba (A++[x]++V++[x]++[0]) W):=by
     rw[show A++x::V++x::0::W=A++x::(V++x::0::W) by simp,cS,cS,ba];simp only[ax];rw[vA,gW hx' n1,gV hx' (by simp)]
    have eo:ba [] ((A++x::V++W).map (rn lo hi))=ba [] A++42::(ba (A++[x]) V++ba (A++[x]++V++[x]++[0]) W):=by
     rw[show A++x::V++W=A++x::(V++W) by simp,aN,aS,aN,rx,mp A n1 z1,mp V n2 z2,mp W n3' z3,cS,c8,el,vA];simp only[ax];rw[dO (x:=x) (y:=0) V _ (A++[x]) (off n2 z2) (λv a b=>by simp[a,b]),dO (x:=x) (y:=0) W _ (A++[x]++V++[x]++[0]) (off n3' z3) (λv a b=>by simp[a,b])]
    rw[ec,eo];have lA:=bp A [];have lV:=bp V (A++[x]);clear ec eo E E' c0;have lU:(A++x::V).length=A.length+V.length+1:=by simp;lia
    rw[lU];generalize ba [] A=a at *;generalize ba (A++[x]) V=v at *;generalize ba (A++[x]++V++[x]++[0]) W=w at *;refine⟨A.length,A.length+V.length+2,.left rfl cl (by lia) (by lia),.star (P:=a++40::(v++[41])) (S:=w) (by simp) (by simp;lia),by lia,by lia,by simp;lia,by simp;lia,.inl ⟨.inr rfl,?_⟩⟩;rw[gj (by lia),jL (by lia)];exact GN (by lia) (by lia) (by lia)
   ·exfalso;have:x∈W:=by
     have:x∈(0:Int)::W:=by rw[e];simp
     simpa [hxy] using this
    exact E.top x ((aZ U).append (((bZ.mpr this).cons_cons 0).cons_cons x))
  ·have hy':0<y:=by lia
   have hst:¬(x=0\/y=0):=by lia
   have hl0:0<lo:=by rcases hl with rfl | rfl<;>assumption
   rcases E.two_in (A:=U) (B:=y::W) (x:=x) rfl hx' with ⟨A,V,e⟩ | ⟨C,D,e⟩
   ·subst e;have E':EW (A++x::(V++x::(y::W))):=by simpa using E
    obtain⟨cl,n1,n2,n3⟩:=E'.seg hx';have n3':x∉W:=λh=>n3 (by simp[h]);rcases E.two_in (A:=A++x::V++[x]) (B:=W) (x:=y) (by simp) hy' with ⟨C,D,e⟩ | ⟨C,F,e⟩
    ·-- )):y begins ahead of x
     have yA:y∈A:=by
      have:y∈A++x::V++[x]:=by rw[e];simp
      simp only[aL,aH,bC,c6,or_false] at this;rcases this with (h | h | h) | h
      ·exact h
      ·exact absurd h.symm hxy
      ·exact absurd (E'.nc x y ((aZ A).append ((((bZ.mpr h).append (((aZ W).cons_cons y).cons_cons x))).cons_cons x))) hxy
      ·exact absurd h.symm hxy
     obtain⟨A,B,rfl⟩:=dW yA;have E2:EW (A++y::((B++x::(V++[x]))++y::W)):=by simpa using E
     obtain⟨cl2,m1,m2,m3⟩:=E2.seg hy';have xA:x∉A:=λh=>n1 (by simp[h]);have xB:x∉B:=λh=>n1 (by simp[h]);have yB:y∉B:=λh=>m2 (by simp[h]);have yV:y∉V:=λh=>m2 (by simp[h]);have ec:ba [] (A++y::B++x::V++x::y::W)=ba [] A++40::(ba (A++[y]) B++40::(ba (A++y::B++[x]) V++41::41::ba (A++[y]++B++[x]++V++[x]++[y]) W)):=by
      rw[show A++y::B++x::V++x::y::W=A++y::(B++x::(V++x::y::W)) by simp,cS,cS,cS,ba];simp only[ax];rw[gW hy' m1,gW hx' (by simp[xA,xB,hxy]),gV hx' (by simp),gV hy' (by simp)];simp
     have cl2':ba (A++[y]) (B++x::(V++[x]))=ba (A++[y]) B++40::(ba (A++y::B++[x]) V++[41]):=by
      rw[cS,c8,ba,ba];rw[gW hx' (by simp[xA,xB,hxy]),gV hx' (by simp)];simp
     rw[cl2'] at cl2;have eo:ba [] ((A++y::B++x::V++W).map (rn lo hi))=ba [] A++40::(ba (A++[y]) B++41::(ba (A++y::B++[x]) V++ba (A++[y]++B++[x]++V++[x]++[y]) W)):=by
      rw[show A++y::B++x::V++W=A++y::(B++x::(V++W)) by simp,aN,aS,aN,aS,aN,rx,ry,mp A xA m1,mp B xB yB,mp V n2 yV,mp W n3' m3,cS,cS,c8];simp only[ax];rw[gW hl0 (ll A xA m1),gV hl0 (by simp)];rw[dO (x:=x) (y:=y) B _ (A++[y]) (off xB yB) (λv a b=>by rcases hl with rfl | rfl<;>simp[a,b]),dO (x:=x) (y:=y) V _ (A++y::B++[x]) (off n2 yV) (λv a b=>by rcases hl with rfl | rfl<;>simp[a,b]),dO (x:=x) (y:=y) W _ (A++[y]++B++[x]++V++[x]++[y]) (off n3' m3) (λv a b=>by rcases hl with rfl | rfl<;>simp[a,b])]
     rw[ec,eo];have lA:=bp A [];have lB:=bp B (A++[y]);have lV:=bp V (A++y::B++[x]);clear ec eo E E' E2 cl2' e;have lU:(A++y::B++x::V).length=A.length+B.length+V.length+2:=by simp;lia
     rw[lU];generalize ba [] A=a at *;generalize ba (A++[y]) B=b at *;generalize ba (A++y::B++[x]) V=v at *;generalize ba (A++[y]++B++[x]++V++[x]++[y]) W=w at *;refine⟨A.length+B.length+1,A.length,.left (P:=a++40::b) (V:=v) (S:=41::w) (by simp) cl (by simp;lia) (by simp;lia),.left (P:=a) (V:=b++40::(v++[41])) (S:=w) (by simp) cl2 (by simp;lia) (by lia),by lia,by lia,by simp;lia,by simp;lia,.inr ⟨hst,?_⟩⟩;rw[Nat.min_eq_right (by lia),Nat.max_eq_left (by lia)];exact CG (by lia) (by lia) (by lia)
    ·-- )(
     subst e;have E2:EW ((A++x::V++[x])++y::(C++y::F)):=by simpa using E
     obtain⟨cl2,m1,m2,m3⟩:=E2.seg hy';have yA:y∉A:=λh=>m1 (by simp[h]);have yV:y∉V:=λh=>m1 (by simp[h]);have xC:x∉C:=λh=>n3' (by simp[h]);have xF:x∉F:=λh=>n3' (by simp[h]);have ec:ba [] (A++x::V++x::y::(C++y::F))=ba [] A++40::(ba (A++[x]) V++41::40::(ba (A++x::V++[x]++[y]) C++41::ba (A++[x]++V++[x]++[y]++C++[y]) F)):=by
      rw[show A++x::V++x::y::(C++y::F)=A++x::(V++x::y::(C++y::F)) by simp,cS,cS,ba,cS];simp only[ax];rw[gW hx' n1,gV hx' (by simp),gW hy' (by simp[yA,yV,bg hxy]),gV hy' (by simp)];simp
     have eo:ba [] ((A++x::V++(C++y::F)).map (rn lo hi))=ba [] A++40::(ba (A++[x]) V++(ba (A++x::V++[x]++[y]) C++41::ba (A++[x]++V++[x]++[y]++C++[y]) F)):=by
      rw[show A++x::V++(C++y::F)=A++x::(V++(C++y::F)) by simp,aN,aS,aN,aN,aS,rx,ry,mp A n1 yA,mp V n2 yV,mp C xC m2,mp F xF m3,cS,c8,cS];simp only[ax];rw[gW hl0 (ll A n1 yA),gV hl0 (by simp)];rw[dO (x:=x) (y:=y) V _ (A++[x]) (off n2 yV) (λv a b=>by rcases hl with rfl | rfl<;>simp[a,b]),dO (x:=x) (y:=y) C _ (A++x::V++[x]++[y]) (off xC m2) (λv a b=>by rcases hl with rfl | rfl<;>simp[a,b]),dO (x:=x) (y:=y) F _ (A++[x]++V++[x]++[y]++C++[y]) (off xF m3) (λv a b=>by rcases hl with rfl | rfl<;>simp[a,b])]
     rw[ec,eo];have lA:=bp A [];have lV:=bp V (A++[x]);have lC:=bp C (A++x::V++[x]++[y]);clear ec eo E E' E2;have lU:(A++x::V).length=A.length+V.length+1:=by simp;lia
     rw[lU];generalize ba [] A=a at *;generalize ba (A++[x]) V=v at *;generalize ba (A++x::V++[x]++[y]) C=c at *;generalize ba (A++[x]++V++[x]++[y]++C++[y]) F=f at *;refine⟨A.length,A.length+V.length+C.length+3,.left (P:=a) (V:=v) rfl cl (by lia) (by lia),.right (P:=a++40::(v++[41])) (V:=c) (S:=f) (by simp) cl2 (by simp;lia) (by simp;lia),by lia,by lia,by simp;lia,by simp;lia,.inr ⟨hst,?_⟩⟩;rw[gj (by lia),jL (by lia)];exact E9 (by lia) (by lia) (by lia)
   ·-- ((
    have xW:x∈W:=by
     have:x∈y::W:=by rw[e];simp
     simpa [hxy] using this
    rcases E.two_in (A:=U++[x]) (B:=W) (x:=y) (by simp) hy' with ⟨C',D',e'⟩ | ⟨C',D',e'⟩
    ·exfalso;have yU:y∈U:=by
      have:y∈U++[x]:=by rw[e'];simp
      simpa [bg hxy] using this
     exact hxy (E.nc y x ((bZ.mpr yU).append ((((bZ.mpr xW).cons_cons y)).cons_cons x))).symm
    ·subst e';have E1:EW ((U++[x])++y::(C'++y::D')):=by simpa using E
     obtain⟨cl2,m1,m2,m3⟩:=E1.seg hy';have yU:y∉U:=λh=>m1 (by simp[h]);have xD:x∈D':=by
      simp only[aL,aH] at xW;rcases xW with h | h | h
      ·exact absurd (E.nc x y ((aZ U).append (((aZ [y]).append ((bZ.mpr h).append ((aZ D').cons_cons y)) |> λz=>((bZ.mpr h).append ((aZ D').cons_cons y)).cons_cons y).cons_cons x))) hxy
      ·exact absurd h hxy
      ·exact h
     obtain⟨D,F,rfl⟩:=dW xD;have E2:EW (U++x::((y::(C'++y::D))++x::F)):=by simpa using E
     obtain⟨cl,n1,n2,n3⟩:=E2.seg hx';have xC:x∉C':=λh=>n2 (by simp[h]);have xD':x∉D:=λh=>n2 (by simp[h]);have yD:y∉D:=λh=>m3 (by simp[h]);have yF:y∉F:=λh=>m3 (by simp[h]);have ec:ba [] (U++x::y::(C'++y::(D++x::F)))=ba [] U++40::40::(ba (U++[x]++[y]) C'++41::(ba (U++[x]++[y]++C'++[y]) D++41::ba (U++[x]++[y]++C'++[y]++D++[x]) F)):=by
      rw[cS,ba,cS,cS];simp only[ax];rw[gW hx' n1,gW hy' m1,gV hy' (by simp),gV hx' (by simp)]
     have cl':ba (U++[x]) (y::(C'++y::D))=40::(ba (U++[x]++[y]) C'++41::ba (U++[x]++[y]++C'++[y]) D):=by
      rw[ba,cS];rw[gW hy' m1,gV hy' (by simp)]
     rw[cl'] at cl;have eo:ba [] ((U++(C'++y::(D++x::F))).map (rn lo hi))=ba [] U++(ba (U++[x]++[y]) C'++40::(ba (U++[x]++[y]++C'++[y]) D++41::ba (U++[x]++[y]++C'++[y]++D++[x]) F)):=by
      rw[aN,aN,aS,aN,aS,rx,ry,mp U n1 yU,mp C' xC m2,mp D xD' yD,mp F n3 yF,c8,cS,cS];simp only[ax];rw[gW hl0 (λh=>(aL.mp h).elim (ll U n1 yU) (ll C' xC m2)),gV hl0 (by simp)];rw[dO (x:=x) (y:=y) C' _ (U++[x]++[y]) (off xC m2) (λv a b=>by rcases hl with rfl | rfl<;>simp[a,b]),dO (x:=x) (y:=y) D _ (U++[x]++[y]++C'++[y]) (off xD' yD) (λv a b=>by rcases hl with rfl | rfl<;>simp[a,b]),dO (x:=x) (y:=y) F _ (U++[x]++[y]++C'++[y]++D++[x]) (off n3 yF) (λv a b=>by rcases hl with rfl | rfl<;>simp[a,b])]
     rw[ec,eo];have lU:=bp U [];have lC:=bp C' (U++[x]++[y]);have lD:=bp D (U++[x]++[y]++C'++[y]);clear ec eo E E1 E2 e cl';generalize ba [] U=u at *;generalize ba (U++[x]++[y]) C'=c at *;generalize ba (U++[x]++[y]++C'++[y]) D=d at *;generalize ba (U++[x]++[y]++C'++[y]++D++[x]) F=f at *;refine⟨U.length+C'.length+D.length+3,U.length+C'.length+2,.right (P:=u) (V:=40::(c++41::d)) (S:=f) (by simp) cl (by lia) (by simp;lia),.right (P:=u++[40]) (V:=c) (S:=d++41::f) (by simp) cl2 (by simp;lia) (by simp;lia),by lia,by lia,by simp;lia,by simp;lia,.inr ⟨hst,?_⟩⟩;rw[Nat.min_eq_right (by lia),Nat.max_eq_left (by lia)];exact AN (by lia) (by lia) (by lia)
def EW.same{U W:List Int}{x:Int}(E:EW (U++x::x::W)):sP (ba [] (U++x::x::W)) U.length (U.length+1):=by
 have x0:=E.nn x (by simp);have hx:0<x:=by
  rcases Int.lt_or_eq_of_le x0 with h | h
  ·exact h
  ·subst h;have:=E.z1;simp only[cJ,br,beq_self_eq_true,Ku] at this;lia
 obtain⟨_,n1,_,_⟩:=EW.seg (A:=U) (V:=[]) (B:=W) (x:=x) E hx;refine .right (P:=ba [] U) (V:=[]) (S:=ba (U++[x]++[x]) W) ?_ ⟨rfl,λj=>by simp[lO]⟩ (bp U []).symm (by simp[bp]);rw[cS,ba];simp only[ax];rw[gW hx n1,gV hx (by simp)]
def fH(L R:List Int):List Nat:=ba [] L++124::ba L R.reverse
def mx:List Int->Int
 | []=>0
 | x::l=>max x (mx l)
def vN:∀{l:List Int} {x:Int},x∈l->x<=mx l
 | a::l,x,h=>by
  simp only[mx];rcases aH.mp h with rfl | h
  ·lia
  ·have:=vN h;lia
def Cv:∀{l:List Int} {m:Int},0<=m->(∀x∈l,x<=m)->mx l<=m
 | [],m,h0,_=>h0
 | a::l,m,h0,h=>by
  have h1:=h a (by simp);have h2:=Cv h0 (λx hx=>h x (aK _ hx));simp only[mx];lia
def zz:∀(l:List Int),0<=mx l
 | []=>dM 0
 | a::l=>by have:=zz l;simp only[mx];lia
def GJ{l:List Int}{m:Int}(h:m∈l)(h0:0<=m)(hm:∀x∈l,x<=m):m=mx l:=by
 have h1:=vN h;have h2:=Cv h0 hm;lia
def ck(L R:List Int)(c:Nat):Option (List Int×List Int):=
 if c=97 then some (L++[1+mx (L++R)],R++[1+mx (L++R)])
 else if c=98 then (match R.getLast? with | some v=>some (L++[v],R.dropLast) | none=>none)
 else if c=99 then (match L.getLast? with | some v=>some (L.dropLast,R++[v]) | none=>none)
 else match L.getLast?,R.getLast? with
  | some x,some y=>if x=y then none else some (L.dropLast.map (rn (min x y) (max x y)),R.dropLast.map (rn (min x y) (max x y)))
  | _,_=>none
def EE(L R:List Int):Prop:=EW (L++R.reverse)
def be{l:List Int}(h:l≠[]):∃P x,l=P++[x]:=⟨l.dropLast,l.getLast h,(dG h).symm⟩
def lF{L Q:List Int}{v:Int}:ck L (Q++[v]) 98=some (L++[v],Q):=by simp[ck]
def ja{L:List Int}:ck L [] 98=none:=by simp[ck]
def lE{P R:List Int}{v:Int}:ck (P++[v]) R 99=some (P,R++[v]):=by simp[ck]
def j9{R:List Int}:ck [] R 99=none:=by simp[ck]
def kz{P Q:List Int}{x y:Int}:ck (P++[x]) (Q++[y]) 100=if x=y then none else some (P.map (rn (min x y) (max x y)),Q.map (rn (min x y) (max x y))):=by simp[ck]
def j8{R:List Int}:ck [] R 100=none:=by simp[ck]
def j7{L:List Int}:ck L [] 100=none:=by
 unfold ck;simp only[List.getLast?_nil];cases L.getLast?<;>simp
def tj{L R:List Int}(E:EE L R):0<1+mx (L++R)/\1+mx (L++R)∉L/\1+mx (L++R)∉R.reverse:=by
 have:=zz (L++R);refine⟨by lia,λh=>?_,λh=>?_⟩
 ·have:=vN (l:=L++R) (bM _ h);lia
 ·have:=vN (l:=L++R) (af _ (List.mem_reverse.mp h));lia
def yc{L R:List Int}(E:EE L R):ba [] L++[40,124,41]++ba L R.reverse=fH (L++[1+mx (L++R)]) (R++[1+mx (L++R)]):=by
 obtain⟨h0,h1,h2⟩:=tj E;generalize 1+mx (L++R)=z at *;unfold fH;rw[c8,ba,ba,ax,gW h0 h1,List.reverse_append,List.reverse_singleton,eK,ba,gV h0 (by simp)];simp;exact dO (x:=z) (y:=z) R.reverse L _ (off h2 h2) λv a b=>by simp[a]
def EE.a{L R:List Int}(E:EE L R):EE (L++[1+mx (L++R)]) (R++[1+mx (L++R)]):=by
 obtain⟨h0,h1,h2⟩:=tj E;unfold EE;have:=EW.ins E h0 h1 h2;simpa using this
def EE.b{L Q:List Int}{v:Int}(E:EE L (Q++[v])):EE (L++[v]) Q:=by unfold EE at *;simpa using E
def EE.c{P R:List Int}{v:Int}(E:EE (P++[v]) R):EE P (R++[v]):=by unfold EE at *;simpa using E
def EE.d{P Q:List Int}{x y:Int}(E:EE (P++[x]) (Q++[y]))(h:x≠y):EE (P.map (rn (min x y) (max x y))) (Q.map (rn (min x y) (max x y))):=by
 unfold EE at *;have:=EW.join (U:=P) (W:=Q.reverse) (x:=x) (y:=y) (lo:=min x y) (hi:=max x y) (by simpa using E) (by lia) (by lia);simpa using this
def EE.go{L R L' R':List Int}{c:Nat}(E:EE L R)(hc:c=97\/c=98\/c=99\/c=100)(h:ck L R c=some (L',R')):EE L' R':=by
 rcases hc with rfl | rfl | rfl | rfl
 ·simp only[ck,Ku,Option.some.injEq,Prod.mk.injEq] at h;obtain⟨rfl,rfl⟩:=h;exact E.a
 ·by_cases hR:R=[]
  ·subst hR;rw[ja] at h;cases h
  ·obtain⟨Q,v,rfl⟩:=be hR;rw[lF] at h;cases h;exact E.b
 ·by_cases hL:L=[]
  ·subst hL;rw[j9] at h;cases h
  ·obtain⟨P,v,rfl⟩:=be hL;rw[lE] at h;cases h;exact E.c
 ·by_cases hL:L=[]
  ·subst hL;rw[j8] at h;cases h
  ·by_cases hR:R=[]
   ·subst hR;rw[j7] at h;cases h
   ·obtain⟨P,x,rfl⟩:=be hL;obtain⟨Q,y,rfl⟩:=be hR;rw[kz] at h;by_cases e:x=y
    ·rw[Ko e] at h;cases h
    ·rw[Kn e] at h;cases h;exact E.d e
def EE.one:EE [0] []:=by
 refine⟨by simp,by decide,by simp,λu v h=>?_,λu h=>?_⟩
 ·have:=h.length_le;simp at this
 ·have:=h.length_le;simp at this
def EE.two:EE [] [0]:=EE.one
def yb{L Q:List Int}{v:Int}:ba [] L++[kL L v]++124::ba (L++[v]) Q.reverse=fH (L++[v]) Q:=by
 unfold fH;rw[c8];rfl
def lJ{L Q:List Int}{v:Int}:ba L (Q++[v]).reverse=kL L v::ba (L++[v]) Q.reverse:=by simp[ba]
def lK{P:List Int}{v:Int}:ba [] (P++[v])=ba [] P++[kL P v]:=by rw[c8];rfl
def ya{P R:List Int}{v:Int}:ba [] P++124::(kL P v::ba (P++[v]) R.reverse)=fH P (R++[v]):=by
 unfold fH;rw[lJ]
def qe{P Q:List Int}{x y:Int}(E:EE (P++[x]) (Q++[y]))(h:x≠y):∃q0 q1,sP (ba [] (P++x::y::Q.reverse)) P.length q0/\sP (ba [] (P++x::y::Q.reverse)) (P.length+1) q1/\q0≠P.length+1/\q0≠q1 ∧
  q0<(ba [] (P++x::y::Q.reverse)).length/\q1<(ba [] (P++x::y::Q.reverse)).length/\∃m0 m1,((x=0\/y=0)/\m0=42/\m1=42\/¬(x=0\/y=0)/\m0=40/\m1=41) ∧
  (((ba [] (P++x::y::Q.reverse)).set (min q0 q1) m0).set (max q0 q1) m1).take P.length++124::(((ba [] (P++x::y::Q.reverse)).set (min q0 q1) m0).set (max q0 q1) m1).drop (P.length+2)=fH (P.map (rn (min x y) (max x y))) (Q.map (rn (min x y) (max x y))):=by
 have E':EW (P++x::y::Q.reverse):=by unfold EE at E;simpa using E
 obtain⟨q0,q1,f0,f1,n1,n2,l0,l1,r⟩:=(E'.d (lo:=min x y) (hi:=max x y) (by lia) (by lia)).ex;have hl:(ba [] (P++x::y::Q.reverse)).length=P.length+Q.length+2:=by rw[bp];simp;lia
 have fin:∀m0 m1,jn (ba [] (P++x::y::Q.reverse)) P.length (min q0 q1) (max q0 q1) m0 m1=ba [] ((P++Q.reverse).map (rn (min x y) (max x y))) →
   (((ba [] (P++x::y::Q.reverse)).set (min q0 q1) m0).set (max q0 q1) m1).take P.length++124::(((ba [] (P++x::y::Q.reverse)).set (min q0 q1) m0).set (max q0 q1) m1).drop (P.length+2)=fH (P.map (rn (min x y) (max x y))) (Q.map (rn (min x y) (max x y))):=λm0 m1 hj=>by
  unfold jn at hj;unfold fH;rw[aN,c8 (P.map (rn (min x y) (max x y))) [],ax,List.map_reverse] at hj;obtain⟨e1,e2⟩:=List.append_inj hj (by rw[bp,aB,bV,dy,dy,hl];lia);rw[e1,e2]
 refine⟨q0,q1,f0,f1,n1,n2,l0,l1,?_⟩;rcases r with ⟨h1,h2⟩ | ⟨h1,h2⟩
 ·exact⟨42,42,.inl ⟨h1,rfl,rfl⟩,fin _ _ h2⟩
 ·exact⟨40,41,.inr ⟨h1,rfl,rfl⟩,fin _ _ h2⟩
def nU{P Q:List Int}{x:Int}(E:EE (P++[x]) (Q++[x])):sP (ba [] (P++x::x::Q.reverse)) P.length (P.length+1):=by
 have E':EW (P++x::x::Q.reverse):=by unfold EE at E;simpa using E
 exact E'.same
def p8{P Q:List Int}{x y:Int}:ba [] (P++[x])++ba (P++[x]) (Q++[y]).reverse=ba [] (P++x::y::Q.reverse):=by
 rw[show P++x::y::Q.reverse=(P++[x])++(Q++[y]).reverse by simp,c8 (P++[x]) []];rfl
def sP.walk{cs:List Nat}{p q:Nat}(h:sP cs p q):(cs[p]? = some 42/\q=p)\/∃(st:Int) (n:Nat) (d:Nat->Int),((st=1/\cs[p]? = some 40)\/(st=-1/\cs[p]? = some 41))/\d 0=st/\(∀j,j<n->d j≠0)/\d n=0/\(p:Int)+st*n=q ∧
  ∀j,j<n->∃i c:Nat,(p:Int)+st*j+st=i/\cs[i]? = some c/\d (j+1)=d j+vl c:=by
 cases h with
 | @star P S _ h hp=>exact .inl ⟨by rw[h,hp];simp,rfl⟩
 | @right P V S _ _ h c hp hq=>
  refine .inr ⟨1,V.length+1,λj=>1+ps ((V++[41]).take j),.inl ⟨rfl,by rw[h,hp];simp⟩,by simp[lO],λj hj=>?_,?_,by lia,λj hj=>?_⟩
  ·have:=c.nn j;simp only;rw[gb (by lia)];lia
  ·have:=c.z;simp only;rw[cO (by simp),mM,ki,lO,this];decide
  ·have hl:j<(V++[41]).length:=by simp;lia
   refine⟨p+j+1,(V++[41])[j],by lia,?_,?_⟩
   ·rw[h,hp,show P.length+j+1=P.length+(j+1) by lia,aV (by lia)];rw[show P.length+(j+1)-P.length=j+1 by lia,ff,show V++41::S=(V++[41])++S by simp,bK hl,aI hl]
   ·simp only;rw[bJ,aI hl,mM];simp[ki,lO];lia
 | @left P V S _ _ h c hp hq=>
  have hd:∀k,k<=V.length->ps (V.drop k)=- ps (V.take k):=λk hk=>by
   have:=mM (V.take k) (V.drop k);rw[gA,c.z] at this;lia
  refine .inr ⟨-1,V.length+1,λj=>-1+ps ((40::V).drop (V.length+1-j)),.inr ⟨rfl,?_⟩,?_,λj hj=>?_,?_,by lia,λj hj=>?_⟩
  ·rw[h,hp,show P.length+V.length+1=P.length+(V.length+1) by lia,aV (by lia)];rw[show P.length+(V.length+1)-P.length=V.length+1 by lia,ff,aV (aE _)];simp
  ·simp only;rw[jj (by simp)];simp[lO]
  ·have hk:V.length+1-j=(V.length-j)+1:=by lia
   simp only;rw[hk,List.drop_succ_cons,hd _ (by lia)];have:=c.nn (V.length-j);lia
  ·simp only;rw[mF,iU,ki,c.z];decide
  ·have hl:V.length-j<(40::V).length:=by simp;lia
   refine⟨P.length+(V.length-j),(40::V)[V.length-j],by lia,?_,?_⟩
   ·rw[h,aV (by lia)];rw[show P.length+(V.length-j)-P.length=V.length-j by lia,show 40::(V++41::S)=(40::V)++41::S by simp,bK hl,aI hl]
   ·simp only;have e1:V.length+1-(j+1)=V.length-j:=by lia
    have e2:V.length+1-j=(V.length-j)+1:=by lia
    rw[e1,e2,bA hl,ki];lia
def Fd:fH [0] []=[42,124]:=by decide
def Fc:fH [] [0]=[124,42]:=by decide
def wv{P Q:List Int}{x:Int}(E:EE (P++[x]) (Q++[x])):sP (ba [] (P++x::x::Q.reverse)) (P.length+1) P.length:=by
 have E':EW (P++x::x::Q.reverse):=by unfold EE at E;simpa using E
 have x0:=E'.nn x (by simp);have hx:0<x:=by
  rcases Int.lt_or_eq_of_le x0 with h | h
  ·exact h
  ·subst h;have:=E'.z1;simp only[cJ,br,beq_self_eq_true,Ku] at this;lia
 obtain⟨_,n1,_,_⟩:=EW.seg (A:=P) (V:=[]) (B:=Q.reverse) (x:=x) E' hx;refine .left (P:=ba [] P) (V:=[]) (S:=ba (P++[x]++[x]) Q.reverse) ?_ ⟨rfl,λj=>by simp[lO]⟩ (by simp[bp]) (bp P []).symm;rw[cS,ba];simp only[ax];rw[gW hx n1,gV hx (by simp)]
def Ff{P Q:List Int}{x y:Int}:(ba [] (P++x::y::Q))[P.length]? = some (kL P x)/\(ba [] (P++x::y::Q))[P.length+1]? = some (kL (P++[x]) y):=by
 rw[cS,ba];simp only[ax];have h:=bp P [];constructor
 ·rw[aV (by lia),h];simp
 ·rw[aV (by lia),h];simp
def qt{pre:List Int}{x:Int}(h:0<=x):kL pre x=42<->x=0:=by
 unfold kL;by_cases h0:0<x
 ·rw[Ko h0];split<;>(constructor<;>intro z<;>lia)
 ·rw[Kn h0];exact⟨λ_=>by lia,λ_=>rfl⟩
def sP.one{cs:List Nat}{p q q':Nat}(h:sP cs p q)(h':sP cs p q'):q=q':=by
 rcases h.walk with ⟨a,rfl⟩ | ⟨st,n,d,hs,d0,dn,dz,e,oA⟩
 ·rcases h'.walk with ⟨_,rfl⟩ | ⟨st,n,d,hs,_⟩
  ·rfl
  ·rcases hs with ⟨_,b⟩ | ⟨_,b⟩<;>(rw[a] at b;cases b)
 ·rcases h'.walk with ⟨a,rfl⟩ | ⟨st',n',d',hs',d0',dn',dz',e',stp'⟩
  ·rcases hs with ⟨_,b⟩ | ⟨_,b⟩<;>(rw[a] at b;cases b)
  ·have est:st=st':=by
    rcases hs with ⟨rfl,b⟩ | ⟨rfl,b⟩<;>rcases hs' with ⟨rfl,b'⟩ | ⟨rfl,b'⟩
    ·rfl
    ·rw[b] at b';cases b'
    ·rw[b] at b';cases b'
    ·rfl
   subst est;have hd:∀j,j<=n->j<=n'->d j=d' j:=by
    intro j
    induction j with
    | zero=>intro _ _;rw[d0,d0']
    | succ j ih=>
     intro h1 h2;obtain⟨i,c,e1,e2,e3⟩:=oA j (by lia);obtain⟨i',c',e1',e2',e3'⟩:=stp' j (by lia);have:i=i':=by lia
     subst this;rw[e2] at e2';cases e2';rw[e3,e3',ih (by lia) (by lia)]
   have:n=n':=by
    rcases Nat.lt_trichotomy n n' with h | h | h
    ·have:=hd n (aE _) (by lia);rw[dz] at this;exact absurd this.symm (dn' n h)
    ·exact h
    ·have:=hd n' (by lia) (aE _);rw[dz'] at this;exact absurd this (dn n' h)
   subst this;lia
def He:Option (List Int×List Int)->Option (List Nat)
 | none=>none
 | some (L,R)=>some (fH L R)
def uz{pre:List Int}{x:Int}(h:0<=x):kL pre x=42<->x=0:=by
 unfold kL;by_cases h0:0<x
 ·rw[Ko h0];split<;>(constructor<;>intro z<;>lia)
 ·rw[Kn h0];exact⟨λ_=>by lia,λ_=>rfl⟩
def Ag{A B:List Nat}(hA:124∉A):∀(X Y:List Nat),124∉X->X++124::Y=A++124::B->X=A/\Y=B:=by
 induction A with
 | nil=>
  intro X Y hX e;cases X with
  | nil=>simpa using e
  | cons x X=>simp at e hX;exact absurd e.1.symm hX.1
 | cons a A ih=>
  intro X Y hX e;simp only[aH,not_or] at hA;cases X with
  | nil=>simp at e;exact absurd e.1 hA.1
  | cons x X=>
   simp only[dN,fR] at e;simp only[aH,not_or] at hX;obtain⟨h1,h2⟩:=ih hA.2 X Y hX.2 e.2;exact⟨by rw[e.1,h1],h2⟩
def vM(pre A:List Int):124∉ba pre A:=λh=>by have:=so A pre 124 h;lia
def my{L R L' R':List Int}(h:fH L R=fH L' R'):ba [] L=ba [] L'/\ba L R.reverse=ba L' R'.reverse/\L.length=L'.length/\R.length=R'.length:=by
 obtain⟨h1,h2⟩:=Ag (vM [] L') _ _ (vM [] L) h;refine⟨h1,h2,?_,?_⟩
 ·rw[<-bp L [],h1,bp]
 ·have:=congrArg List.length h2;simpa [bp] using this
def Ef{L R L' R':List Int}{c:Nat}(E:EE L R)(E':EE L' R')(h:fH L R=fH L' R')(hc:c=97\/c=98\/c=99\/c=100):He (ck L R c)=He (ck L' R' c):=by
 obtain⟨h1,h2,l1,l2⟩:=my h;rcases hc with rfl | rfl | rfl | rfl
 ·show some (fH _ _)=some (fH _ _);rw[<-yc E,<-yc E',h1,h2]
 ·by_cases hR:R=[]
  ·have hR':R'=[]:=by subst hR;exact au l2.symm
   subst hR hR';rw[ja,ja]
  ·have hR':R'≠[]:=λe=>hR (by subst e;exact au l2);obtain⟨Q,v,rfl⟩:=be hR;obtain⟨Q',v',rfl⟩:=be hR';rw[lF,lF];show some (fH _ _)=some (fH _ _);rw[lJ,lJ] at h2;have h2a:=(gS h2).1;have h2b:=(gS h2).2;rw[<-yb,<-yb,h1,h2a,h2b]
 ·by_cases hL:L=[]
  ·have hL':L'=[]:=by subst hL;exact au l1.symm
   subst hL hL';rw[j9,j9]
  ·have hL':L'≠[]:=λe=>hL (by subst e;exact au l1);obtain⟨P,v,rfl⟩:=be hL;obtain⟨P',v',rfl⟩:=be hL';rw[lE,lE];show some (fH _ _)=some (fH _ _);rw[lK,lK] at h1;obtain⟨h1a,h1b⟩:=gM h1 rfl;rw[<-ya,<-ya,h1a,(gS h1b).1,h2]
 ·by_cases hL:L=[]
  ·have hL':L'=[]:=by subst hL;exact au l1.symm
   subst hL hL';rw[j8,j8]
  ·have hL':L'≠[]:=λe=>hL (by subst e;exact au l1);by_cases hR:R=[]
   ·have hR':R'=[]:=by subst hR;exact au l2.symm
    subst hR hR';rw[j7,j7]
   ·have hR':R'≠[]:=λe=>hR (by subst e;exact au l2);obtain⟨P,x,rfl⟩:=be hL;obtain⟨P',x',rfl⟩:=be hL';obtain⟨Q,y,rfl⟩:=be hR;obtain⟨Q',y',rfl⟩:=be hR';have ecs:ba [] (P++x::y::Q.reverse)=ba [] (P'++x'::y'::Q'.reverse):=by rw[<-p8,<-p8,h1,h2]
    have ep:P.length=P'.length:=by simpa using l1
    have nx:=E.nn x (by simp);have ny:=E.nn y (by simp);have nx':=E'.nn x' (by simp);have ny':=E'.nn y' (by simp);rw[lK,lK] at h1;obtain⟨_,h1b⟩:=gM h1 rfl;rw[lJ,lJ] at h2;have sx:x=0<->x'=0:=by rw[<-uz (pre:=P) nx,(gS h1b).1,uz nx']
    have sy:y=0<->y'=0:=by rw[<-uz (pre:=P++[x]) ny,(gS h2).1,uz ny']
    rw[kz,kz];by_cases e:x=y
    ·by_cases e':x'=y'
     ·rw[Ko e,Ko e']
     ·exfalso;subst e;obtain⟨q0,q1,f0,f1,n1,_⟩:=qe E' e';have:=nU E;rw[ecs,ep] at this;exact n1 (f0.one this)
    ·by_cases e':x'=y'
     ·exfalso;subst e';obtain⟨q0,q1,f0,f1,n1,_⟩:=qe E e;have:=nU E';rw[<-ecs,<-ep] at this;exact n1 (f0.one this)
     ·rw[Kn e,Kn e'];show some (fH _ _)=some (fH _ _);obtain⟨q0,q1,f0,f1,n1,_,_,_,m0,m1,hm,ht⟩:=qe E e;obtain⟨q0',q1',f0',f1',n1',_,_,_,m0',m1',hm',ht'⟩:=qe E' e';rw[<-ecs,<-ep] at f0' f1' ht';have e0:=f0.one f0';have e1:=f1.one f1';subst e0 e1;have em:m0=m0'/\m1=m1':=by
       rcases hm with ⟨a,b,c⟩ | ⟨a,b,c⟩<;>rcases hm' with ⟨a',b',c'⟩ | ⟨a',b',c'⟩
       ·exact⟨by rw[b,b'],by rw[c,c']⟩
       ·exact absurd (by rw[<-sx,<-sy];exact a) a'
       ·exact absurd (by rw[sx,sy];exact a') a
       ·exact⟨by rw[b,b'],by rw[c,c']⟩
      rw[<-ht,<-ht',em.1,em.2]
def dZ:Nat->List Int->List Int->Nat
 | 0,L,R=>if L.length+R.length=1 then 1 else 0
 | n+1,L,R=>(match ck L R 97 with | none=>0 | some (a,b)=>dZ n a b)+(match ck L R 98 with | none=>0 | some (a,b)=>dZ n a b)+(match ck L R 99 with | none=>0 | some (a,b)=>dZ n a b)+(match ck L R 100 with | none=>0 | some (a,b)=>dZ n a b)
def ko(n:Nat):Option (List Int×List Int)->Nat
 | none=>0
 | some (L,R)=>dZ n L R
def f9(n:Nat)(L R:List Int):dZ (n+1) L R=ko n (ck L R 97)+ko n (ck L R 98)+ko n (ck L R 99)+ko n (ck L R 100):=by
 rw[dZ];rcases ck L R 97 with _ | ⟨a,b⟩<;>rcases ck L R 98 with _ | ⟨a,b⟩<;>rcases ck L R 99 with _ | ⟨a,b⟩<;>rcases ck L R 100 with _ | ⟨a,b⟩<;>rfl
def vb:∀(n:Nat) {L R L' R':List Int},EE L R->EE L' R'->fH L R=fH L' R'->dZ n L R=dZ n L' R'
 | 0,L,R,L',R',E,E',h=>by
  obtain⟨_,_,l1,l2⟩:=my h;simp only[dZ,l1,l2]
 | n+1,L,R,L',R',E,E',h=>by
  have key:∀c,(c=97\/c=98\/c=99\/c=100)->ko n (ck L R c)=ko n (ck L' R' c):=λc hc=>by
   have hd:=Ef E E' h hc;cases e1:ck L R c with
   | none=>
    cases e2:ck L' R' c with
    | none=>rfl
    | some p=>rw[e1,e2] at hd;cases hd
   | some p=>
    cases e2:ck L' R' c with
    | none=>rw[e1,e2] at hd;cases hd
    | some q=>
     rw[e1,e2] at hd;obtain⟨a,b⟩:=p;obtain⟨a',b'⟩:=q;exact vb n (E.go hc e1) (E'.go hc e2) (aa hd)
  rw[f9,f9,key 97 (by lia),key 98 (by lia),key 99 (by lia),key 100 (by lia)]
def GT{L R L' R':List Int}{c:Nat}(h:ck L R c=some (L',R')):L.length+R.length<=L'.length+R'.length+2:=by
 unfold ck at h
 split at h
 ·cases h;simp;lia
 ·split at h
  ·split at h
   ·cases h;simp;lia
   ·cases h
  ·split at h
   ·split at h
    ·cases h;simp;lia
    ·cases h
   ·split at h
    ·split at h
     ·cases h
     ·cases h;simp;lia
    ·cases h
def nY:∀(n:Nat) {L R:List Int},2*n+1<L.length+R.length->dZ n L R=0
 | 0,L,R,h=>by simp only[dZ];rw[Kn (by lia)]
 | n+1,L,R,h=>by
  have key:∀c,ko n (ck L R c)=0:=λc=>by
   cases e1:ck L R c with
   | none=>rfl
   | some p=>
    obtain⟨a,b⟩:=p;have:=GT e1;exact nY n (by lia)
  rw[f9,key,key,key,key]
def EE.pos{L R:List Int}(E:EE L R):1<=L.length+R.length:=by
 have:=E.z1;have h:=List.count_le_length (l:=L++R.reverse) (a:=(0:Int));simp at h;simp at this;lia
end Rm
namespace L2
open PySem PySem.Spec PyProof.Rows
abbrev Key:=Sum Int Str
def oq:Key->Value->Bool
 | .inl k,v=>Value.isInt k v
 | .inr x,v=>Value.isStrOf x v
def HS(w:World):Key->Int
 | .inl k=>hashInt k
 | .inr x=>hashStr w x
def de:∀{k:Key} {v:Value},oq k v=true->(∃i t,k=Sum.inl i/\v=Value.int i t)\/(∃x t,k=Sum.inr x/\v=Value.str x t)
 | .inl i,v,h=>by
  obtain⟨t,e⟩:=Value.isInt_shape (k:=i) (v:=v) h;exact .inl ⟨i,t,rfl,e⟩
 | .inr x,v,h=>by
  obtain⟨t,e⟩:=Value.isStrOf_shape (x:=x) (v:=v) h;exact .inr ⟨x,t,rfl,e⟩
def wg(i:Int)(t:Tok):oq (.inl i) (.int i t)=true:=by simp[oq,Value.isInt]
def wf(x:Str)(t:Tok):oq (.inr x) (.str x t)=true:=by simp[oq,Value.isStrOf]
def E8(a b:Int):decide ((Sum.inl a:Key)=Sum.inl b)=(a==b):=by
 by_cases e:a=b
 ·subst e;simp
 ·have h:¬(Sum.inl a:Key)=Sum.inl b:=λq=>e (Sum.inl.inj q);rw[Kr h];exact(beq_eq_false_iff_ne.mpr e).symm
def E5(a b:Str):decide ((Sum.inr a:Key)=Sum.inr b)=decide (a=b):=by
 by_cases e:a=b
 ·subst e;simp
 ·have h:¬(Sum.inr a:Key)=Sum.inr b:=λq=>e (Sum.inr.inj q);rw[Kr h,Kr e]
def E7(a:Int)(b:Str):decide ((Sum.inl a:Key)=Sum.inr b)=false:=Kr (λq=>nomatch q)
def E6(a:Str)(b:Int):decide ((Sum.inr a:Key)=Sum.inl b)=false:=Kr (λq=>nomatch q)
def dj (prog : Program) (w : World) : PySem.KeyKind prog w Key where
  is := oq
  hash := HS w
  inj := fun v a b ha hb => by
    rcases de ha with ⟨i, t, rfl, rfl⟩ | ⟨x, t, rfl, rfl⟩
    · rcases de hb with ⟨j, u, rfl, e⟩ | ⟨y, u, rfl, e⟩
      · injection e with e1 _; rw [e1]
      · exact nomatch e
    · rcases de hb with ⟨j, u, rfl, e⟩ | ⟨y, u, rfl, e⟩
      · exact nomatch e
      · injection e with e1 _; rw [e1]
  byValue := fun k v h => by
    rcases de h with ⟨i, t, rfl, rfl⟩ | ⟨x, t, rfl, rfl⟩ <;> rfl
  pyHash := fun hv h => by
    rcases de hv with ⟨i, t, rfl, rfl⟩ | ⟨x, t, rfl, rfl⟩
    · exact wpAny_pyHash_int h
    · exact wpAny_pyHash_str h
  eqBool := fun hu hv h => by
    rcases de hu with ⟨i, t, rfl, rfl⟩ | ⟨x, t, rfl, rfl⟩
    · rcases de hv with ⟨j, u, rfl, rfl⟩ | ⟨y, u, rfl, rfl⟩
      · rw [E8] at h; exact wpAny_eqBool_int h
      · rw [E7] at h; exact SeqAt.EqAt.int_str i t y u _ _ _ _ h
    · rcases de hv with ⟨j, u, rfl, rfl⟩ | ⟨y, u, rfl, rfl⟩
      · rw [E6] at h; exact SeqAt.EqAt.str_int x t j u _ _ _ _ h
      · rw [E5] at h; exact wpAny_eqBool_str h
  «strs» := fun k x t v h => by
    rcases de h with ⟨i, u, rfl, e⟩ | ⟨y, u, rfl, e⟩
    · exact nomatch e
    · injection e with e1 _
      subst e1
      cases v <;> rfl
def rT(prog:Program)(w:World)(i:Int)(t:Tok):(dj prog w).is (.inl i) (.int i t)=true:=wg i t
def rS(prog:Program)(w:World)(x:Str)(t:Tok):(dj prog w).is (.inr x) (.str x t)=true:=wf x t
inductive V where
 | non | bl (b:Bool) | int (i:Int) | str (x:Str) | byt (b:Array UInt8) | flt (b:UInt64) | ref (a:Addr) | ty (n:String)
 deriving DecidableEq
def RelV:V->Value->Prop
 | .non,u=>u=Value.none
 | .bl b,u=>u=Value.bool b
 | .int i,u=>∃t,u=Value.int i t
 | .str x,u=>∃t,u=Value.str x t
 | .byt b,u=>∃t,u=Value.bytes b t
 | .flt b,u=>∃t,u=Value.float b t
 | .ref a,u=>u=Value.ref a
 | .ty n,u=>u=Value.type n
abbrev cE:List V->List Value->Prop:=Paired RelV
def cE.length{xs:List V}{us:List Value}(r:cE xs us):xs.length=us.length:=dL r
def cE.get:∀{xs:List V} {us:List Value} {i:Nat} {x:V},cE xs us->xs[i]? = some x->∃u,us[i]? = some u/\RelV x u
 | _,_,_,_,.nil,e=>by simp at e
 | _,_,0,_,.cons r _,e=>by simp at e;subst e;exact⟨_,rfl,r⟩
 | _,_,i+1,x,.cons _ t,e=>by
  obtain⟨u,h1,h2⟩:=cE.get (i:=i) (x:=x) t (by simpa using e);exact⟨u,by simpa using h1,h2⟩
def cE.set{x:V}{u:Value}(r:RelV x u):∀{xs:List V} {us:List Value} (i:Nat),cE xs us->cE (xs.set i x) (us.set i u)
 | _,_,_,.nil=>.nil
 | _,_,0,.cons _ t=>.cons r t
 | _,_,i+1,.cons q t=>.cons q (cE.set r i t)
def cE.append:∀{xs ys:List V} {us ws:List Value},cE xs us->cE ys ws->cE (xs++ys) (us++ws)
 | _,_,_,_,.nil,s=>s
 | _,_,_,_,.cons r t,s=>.cons r (cE.append t s)
def cE.take:∀{xs:List V} {us:List Value} (n:Nat),cE xs us->cE (xs.take n) (us.take n)
 | _,_,0,_=>.nil
 | _,_,_+1,.nil=>.nil
 | _,_,n+1,.cons r t=>.cons r (cE.take n t)
def cE.drop:∀{xs:List V} {us:List Value} (n:Nat),cE xs us->cE (xs.drop n) (us.drop n)
 | _,_,0,r=>r
 | _,_,_+1,.nil=>.nil
 | _,_,n+1,.cons _ t=>cE.drop n t
def nj:Option V->Option Value->Prop
 | some v,some u=>RelV v u
 | none,none=>True
 | _,_=>False
def KV{κ:Type}:List (κ×V)->List (κ×Value)->Prop:=Paired λ(p:κ×V) (q:κ×Value)=>p.1=q.1/\RelV p.2 q.2
def kV:Key->V
 | .inl i=>.int i
 | .inr x=>.str x
inductive HO where
  | lst (xs:List V)
  | tup (xs:List V)
  | dK (kvs:List (Key×V)) | dT (kvs:List (List Key×V))
  | set (S:Int->Bool) (n:Nat)
  | ins (C dx:Addr) (fs:List (Str×V))
  | own (x:Addr)
  | xd (fs:List (Str×V))
  | met (f x:Addr)
  | rng (lo hi:Int)
  | frz (o:Obj) (u:HO)
  | tbl (ps:Array Value)
  | ext (φ:Heap->Prop)
abbrev Hp:=Addr->Option HO
def upd(H:Hp)(a:Addr)(o:HO):Hp:=λb=>if b=a then some o else H b
def aO{H:Hp}{a:Addr}{o:HO}:upd H a o a=some o:=by unfold upd;rw[Ko rfl]
def a9{H:Hp}{a b:Addr}{o:HO}(h:b≠a):upd H a o b=H b:=by unfold upd;rw[Kn h]
def zw{H:Hp}{a b:Addr}{o u:HO}(h:H a=some o)(h':H b=some u)(d:o≠u):a≠b:=by
 intro e;subst e;rw[h] at h';exact d (aa h')
def bF{H:Hp}{a b:Addr}{o:HO}(h:H a=some o)(h':H b=none):a≠b:=by
 intro e;subst e;rw[h] at h';cases h'
section
variable (P:Program) (w:World)
def cg (H : Hp) (h : Heap) (a : Addr) : HO → Prop
 | .lst xs => xs.length ≤ sizeLine ∧ ∃ (its : List Value) (n : Nat), cE xs its ∧ h.get? a = some { cls := .type "list", data := .seq its.toArray n }
 | .tup xs => xs.length ≤ sizeLine ∧ ∃ its : List Value, cE xs its ∧ IsTup h a its.toArray
 | .dK kvs => kvs.length ≤ sizeLine ∧ (a == sysModules) = false ∧ ∃ vs, KV kvs vs ∧ h.DictOf (dj P w) a vs
 | .dT kvs => kvs.length ≤ sizeLine ∧ (a == sysModules) = false ∧ ∃ xs : List (List Key × Addr × Value),
   Paired (fun (p : List Key × V) (q : List Key × Addr × Value) => p.1 = q.1 ∧ H q.2.1 = some (.tup (p.1.map kV)) ∧ RelV p.2 q.2.2) kvs xs ∧
   ∃ o es ep, h.get? a = some o ∧ o.ExactDict ∧ o.data = .dict es ep ∧ es.toList = xs.map (entryOfKey (tupleKind (dj P w))) ∧ (xs.map (·.1)).Nodup
 | .set S n => h.SetOf (intKind P w) a S n
 | .ins C dx fs => H dx = some (.own a) ∧ fs.length ≤ 1000 ∧ dx ≠ a ∧ h.get? a = some (PySem.W.instObj C dx) ∧
   ∃ mA, h.Ns1 dx mA ∧ (∀ f, nj (fs.lookup f) (mA f)) ∧ PySem.Within mA (fs.map (·.1))
 | .own _ => ∃ o, h.get? a = some o
 | .xd fs => ∃ mA, h.Ns1 a mA ∧ ∀ f, nj (fs.lookup f) (mA f)
 | .rng lo hi => ∃ t u v, h.get? a = some { cls := .type "range", data := .fields #[.int lo t, .int hi u, .int 1 v] }
 | .frz o u => h.get? a = some o ∧ cg H h a u
 | .tbl ps => h.get? a = some { cls := .none, data := .fields ps }
 | .met f x => h.get? a = some (PySem.W.methodObj (.ref f) (.ref x))
 | .ext φ => φ h ∧ (∃ o, h.get? a = some o) ∧ ∀ h1 h2 : Heap, φ h1 → (∀ o, h1.get? a = some o → h2.get? a = some o) → φ h2
def lZ(H:Hp)(h:Heap):Prop:=∀a o,H a=some o->cg P w H h a o
end
section
variable {P:Program} {w:World} {H H':Hp} {h h':Heap} {a:Addr} {o:HO}
def cg.lt(x:cg P w H h a o):a<h.objs.size:=by
 cases o with
 | lst xs=>obtain⟨_,_,_,_,e⟩:=x;exact aQ e
 | tup xs=>obtain⟨_,_,_,p⟩:=x;exact p.lt
 | dK kvs=>obtain⟨_,_,_,_,o,_,_,e,_⟩:=x;exact aQ e
 | dT kvs=>obtain⟨_,_,_,_,o,_,_,e,_⟩:=x;exact aQ e
 | set S n=>obtain⟨o,_,_,_,e,_⟩:=x;exact aQ e
 | ins C dx fs=>obtain⟨_,_,_,e,_⟩:=x;exact aQ e
 | own y=>obtain⟨_,e⟩:=x;exact aQ e
 | xd fs=>obtain⟨_,⟨_,_,_,e,_⟩,_⟩:=x;exact aQ e
 | rng lo hi=>obtain⟨_,_,_,e⟩:=x;exact aQ e
 | frz ob u=>obtain⟨e,_⟩:=x;exact aQ e
 | tbl ps=>exact aQ (show h.get? a=some _ from x)
 | met f y=>exact aQ (show h.get? a=some _ from x)
 | ext φ=>obtain⟨_,⟨_,e⟩,_⟩:=x;exact aQ e
def Paired.mapP{α β:Type}{F G:α->β->Prop}:∀{l₁:List α} {l₂:List β},Paired F l₁ l₂->(∀a b,F a b->G a b)->Paired G l₁ l₂
 | _,_,.nil,_=>.nil
 | _,_,.cons r t,f=>.cons (f _ _ r) (Paired.mapP t f)
def cg.stay(x:cg P w H h a o)(k:∀b u,(b=a\/H b=some (.own a))->h.get? b=some u->h'.get? b=some u)
  (ho:∀b,H b=some (.own a)->H' b=some (.own a)) (ht:∀b xs,H b=some (.tup xs)->H' b=some (.tup xs)):cg P w H' h' a o:=by
 induction o with
 | lst xs=>obtain⟨z,its,n,r,e⟩:=x;exact⟨z,its,n,r,k _ _ (.inl rfl) e⟩
 | tup xs=>obtain⟨z,its,r,ob,e,c⟩:=x;exact⟨z,its,r,ob,k _ _ (.inl rfl) e,c⟩
 | dK kvs=>obtain⟨z,y,vs,r,ob,es,ep,e,c⟩:=x;exact⟨z,y,vs,r,ob,es,ep,k _ _ (.inl rfl) e,c⟩
 | dT kvs=>
  obtain⟨z,y,xs,r,ob,es,ep,e,c⟩:=x;exact⟨z,y,xs,Paired.mapP r λp q z=>⟨z.1,ht _ _ z.2.1,z.2.2⟩,ob,es,ep,k _ _ (.inl rfl) e,c⟩
 | set S n=>obtain⟨ob,es,ep,t,e,c⟩:=x;exact⟨ob,es,ep,t,k _ _ (.inl rfl) e,c⟩
 | ins C dx fs=>
  obtain⟨d,z,ne,e,mA,⟨od,es,ep,e2,c⟩,r⟩:=x;exact⟨ho _ d,z,ne,k _ _ (.inl rfl) e,mA,⟨od,es,ep,k _ _ (.inr d) e2,c⟩,r⟩
 | own y=>obtain⟨ob,e⟩:=x;exact⟨ob,k _ _ (.inl rfl) e⟩
 | xd fs=>obtain⟨mA,⟨od,es,ep,e,c⟩,r⟩:=x;exact⟨mA,⟨od,es,ep,k _ _ (.inl rfl) e,c⟩,r⟩
 | rng lo hi=>obtain⟨t,u,v,e⟩:=x;exact⟨t,u,v,k _ _ (.inl rfl) e⟩
 | frz ob u ih=>obtain⟨e,q⟩:=x;exact⟨k _ _ (.inl rfl) e,ih q⟩
 | tbl ps=>
  have e:h.get? a=some { cls:=.none,data:=.fields ps }:=x;show h'.get? a=some { cls:=.none,data:=.fields ps };exact k a _ (.inl rfl) e
 | met f y=>
  have e:h.get? a=some (PySem.W.methodObj (.ref f) (.ref y)):=x;show h'.get? a=some (PySem.W.methodObj (.ref f) (.ref y));exact k a _ (.inl rfl) e
 | ext φ=>obtain⟨p,⟨o,e⟩,st⟩:=x;exact⟨st _ _ p λo q=>k _ _ (.inl rfl) q,⟨o,k _ _ (.inl rfl) e⟩,st⟩
def lZ.lt(x:lZ P w H h)(e:H a=some o):a<h.objs.size:=(x a o e).lt
def lZ.fresh(x:lZ P w H h)(e:h.objs.size<=a):H a=none:=by
 cases q:H a with
 | none=>rfl
 | some u=>exact absurd (aU (x.lt q) e) (c7 _)
def lZ.kept(x:lZ P w H h)(k:∀b u,h.get? b=some u->h'.get? b=some u):lZ P w H h':=λa o e=>
 (x a o e).stay (λb u _ q=>k b u q) (λ_ q=>q) λ_ _ q=>q
def lZ.laid(x:lZ P w H h)(k:∀b u,h.get? b=some u->h'.get? b=some u)(hp:h.objs.size<=a)(new:cg P w (upd H a o) h' a o):lZ P w (upd H a o) h':=λb u e=>by
 have hn:=x.fresh hp;by_cases hb:b=a
 ·subst hb;rw[aO] at e;cases e;exact new
 ·rw[a9 hb] at e;exact(x b u e).stay (λc v _ q=>k c v q) (λc q=>by rw[a9 (bF q hn)];exact q) λc xs q=>by rw[a9 (bF q hn)];exact q
end
def Rd(H:Hp)(a:Addr)(u:HO):Prop:=H a=some u\/∃o,H a=some (.frz o u)
def Rd.ok{P:Program}{w:World}{H:Hp}{h:Heap}{a:Addr}{u:HO}(r:Rd H a u)(x:lZ P w H h):cg P w H h a u:=by
 rcases r with r | ⟨o,r⟩
 ·exact x a u r
 ·obtain⟨_,q⟩:=x a _ r;exact q
def G4:Option HO->Prop
 | some (.lst _)=>True
 | some (.dK _)=>True
 | some (.dT _)=>True
 | some (.set _ _)=>True
 | some (.ins _ _ _)=>True
 | some (.ext _)=>True
 | _=>False
section
variable {P:Program} {w:World} {H:Hp} {h h':Heap} {x e:Addr} {o':HO}
def lZ.write(ok:lZ P w H h)(mu:G4 (H x))(he:e=x\/H e=some (.own x))(k:∀b u,b≠e->h.get? b=some u->h'.get? b=some u)(heo:∃u,h'.get? e=some u)
  (new:cg P w (upd H x o') h' x o'):lZ P w (upd H x o') h':=λb u q=>by
 have nown:∀c y,H c=some (.own y)->c≠x:=λc y r z=>by subst z;rw[r] at mu;exact mu
 have ntup:∀c xs,H c=some (.tup xs)->c≠x:=λc xs r z=>by subst z;rw[r] at mu;exact mu
 by_cases hb:b=x
 ·subst hb;rw[aO] at q;cases q;exact new
 ·rw[a9 hb] at q;by_cases hbe:b=e
  ·have q':H b=some (.own x):=by
    rcases he with z | z
    ·exact absurd (hbe.trans z) hb
    ·rw[hbe];exact z
   rw[q] at q';cases q';obtain⟨v,hv⟩:=heo;exact⟨v,by rw[hbe];exact hv⟩
  ·refine(ok b u q).stay (λc v hc r=>k c v ?_ r) (λc r=>by rw[a9 (nown c b r)];exact r) λc xs r=>by rw[a9 (ntup c xs r)];exact r
   rcases hc with rfl | hc
   ·exact hbe
   ·rintro rfl;rcases he with z | z
    ·exact nown c b hc z
    ·rw[hc] at z;cases z;exact hb rfl
end
structure Un (fs ex:List Addr) (H H':Hp) (h h':Heap):Prop where
 keep:∀ b o,h.get? b=some o->H b=none->b∉fs->b∉ex->h'.get? b=some o
 slot:∀ b o,h.get? b=some o->H b=none->b∈fs->b∉ex->∃ sl,h'.get? b=some { o with slots:=sl }
 free:∀ b o,h.get? b=some o->H b=none->b∉ex->H' b=none
 there:∀ b o,h.get? b=some o->b∉ex->∃ o',h'.get? b=some o'
 tups:∀ b xs,H b=some (.tup xs)->H' b=some (.tup xs)
 frzs:∀ b o u,H b=some (.frz o u)->H' b=some (.frz o u)
 tbls:∀ b ps,H b=some (.tbl ps)->∃ more,H' b=some (.tbl (ps++more))
section
variable {fs ex:List Addr} {H H1:Hp} {h h1 h':Heap} {a x e:Addr} {o:HO}
def Un.any(u:Un fs ex H H1 h h1){b:Addr}{ob:Obj}(q:h.get? b=some ob)(n:H b=none)(hx:b∉ex):∃sl,h1.get? b=some { ob with slots:=sl }:=by
 by_cases hb:b∈fs
 ·exact u.slot b ob q n hb hx
 ·exact⟨ob.slots,u.keep b ob q n hb hx⟩
def Un.kept(k:∀b u,h.get? b=some u->h'.get? b=some u):Un fs ex H H h h':=
 ⟨λb ob q _ _ _=>k b ob q,λb ob q _ _ _=>⟨ob.slots,k b ob q⟩,λ_ _ _ n _=>n,λb ob q _=>⟨ob,k b ob q⟩,λ_ _ q=>q,λ_ _ _ q=>q,λ_ ps q=>⟨#[],by rw[q];simp⟩⟩
def Un.refl:Un fs ex H H h h:=Un.kept λ_ _ q=>q
def Un.laid(k:∀b u,h.get? b=some u->h'.get? b=some u)(hp:h.objs.size<=a)(hn:H a=none):Un fs ex H (upd H a o) h h' where
 keep:=λb u q _ _ _=>k b u q
 slot:=λb u q _ _ _=>⟨u.slots,k b u q⟩
 free:=λb u q n _=>by rw[a9 (aq (aU (aQ q) hp))];exact n
 there:=λb u q _=>⟨u,k b u q⟩
 tups:=λb xs q=>by rw[a9 (bF q hn)];exact q
 frzs:=λb u xs q=>by rw[a9 (bF q hn)];exact q
 tbls:=λb ps q=>⟨#[],by rw[a9 (bF q hn),q];simp⟩
def Un.write(mu:G4 (H x))(he:e=x\/H e=some (.own x))(k:∀b u,b≠e->h.get? b=some u->h'.get? b=some u)(heo:∃u,h'.get? e=some u):Un fs ex H (upd H x o) h h':=by
 have hx:∀b,H b=none->b≠x:=λb n z=>by subst z;rw[n] at mu;exact mu
 have hb:∀b,H b=none->b≠e:=λb n z=>by
  subst z;rcases he with r | r
  ·exact hx b n r
  ·rw[n] at r;cases r
 have hm:∀b u,H b=some u->¬G4 (some u)->b≠x:=λb u q nm z=>by subst z;rw[q] at mu;exact nm mu
 refine⟨λb u q n _ _=>k b u (hb b n) q,λb u q n _ _=>⟨u.slots,k b u (hb b n) q⟩,λb u q n _=>by rw[a9 (hx b n)];exact n,λb u q _=>?_,
  λb xs q=>by rw[a9 (hm b _ q λz=>z)];exact q,λb u xs q=>by rw[a9 (hm b _ q λz=>z)];exact q,λb ps q=>⟨#[],by rw[a9 (hm b _ q λz=>z),q];simp⟩⟩
 by_cases hbe:b=e
 ·subst hbe;exact heo
 ·exact⟨u,k b u hbe q⟩
end
def Gh(h:Heap)(H:Hp):List Addr:=(List.range h.objs.size).filter λa=>(H a).isSome
def qL(h:Heap)(H:Hp):Heap:=PySem.W.hideAll h (Gh h H)
def wq(h:Heap)(H:Hp):(qL h H).objs.size=h.objs.size:=PySem.W.hideAll_size _ _
def AX{h:Heap}{H:Hp}{b:Addr}{o:Obj}(e:h.get? b=some o)(n:H b=none):(qL h H).get? b=some o:=
 PySem.W.hideAll_get _ e λhm=>by
  have q:(H b).isSome=true:=(da.mp hm).2;rw[n] at q;simp at q
def Bs{h:Heap}{H:Hp}{b:Addr}{o:Obj}(e:(qL h H).get? b=some o):h.get? b=some o/\H b=none:=by
 have e':h.get? b=some o:=PySem.W.of_hideAll (Gh h H) e;refine⟨e',?_⟩;cases q:H b with
 | none=>rfl
 | some x=>
  have hm:b∈Gh h H:=da.mpr ⟨cW.mpr (aQ e'),by simp[q]⟩;have z:(qL h H).get? b=none:=PySem.W.hideAll_none (Gh h H) hm;rw[z] at e;cases e
def C2(g h:Heap)(L:Addr):List (Addr×Obj):=(List.range h.objs.size).filterMap λa=>if a=L\/(g.get? a).isSome=true then none else (h.get? a).map λo=>(a,o)
def rest(g h:Heap)(L d:Addr):List (Addr×Obj):=(C2 g h L).filter λp=>decide (p.1≠d)
structure Mod (K:Kw) (mg:Str->Option Value) (base:Heap):Prop where
 kin:K.In base
 glob:base.Ns mainGlobals mg
 blt:∃ mb,base.Ns builtinsNs mb/\∀ x:Str,x≠"__name__"->mb x=bootBuiltins x
 nolimit:base.NoLimit
structure Cx where
 prog:Program
 w:World
 K:Kw
 mg:Str->Option Value
 base:Heap
 A:Around
 N:List Str
 s₀:Shared
 H₀:Hp
 env:Env
 outer:List Env
 stack:List Env
 ex:List Addr
 fn:Str->Bool
 calm:Bool
 pn:List (Addr×Obj)
 xe:Value->Shared->Prop
def t9(l:List Env):List Addr:=l.filterMap (·.frame)
abbrev Cx.fs (X:Cx):List Addr:=t9 X.outer
def FE(sc:Scope)(x:Str):Prop:=sc.names.lookup x=some .local\/sc.names.lookup x=some .cell\/sc.names.lookup x=some .free
def Loc(sc:Scope)(x:Str):Prop:=sc.names.lookup x=some .local\/sc.names.lookup x=some .cell
def Look(env:Env)(h:Heap)(m:Str->Option Value)(x:Str)(u:Value):Prop:=
 (env.kindOf x=some .local/\m x=some u)\/((env.kindOf x=some .cell\/env.kindOf x=some .free)/\∃c,env.cells.lookup x=some c/\h.IsCell c (some u))
structure Cx.Ok (X:Cx):Prop where
 mod:Mod X.K X.mg X.base
 kind:X.env.scope.kind=.function
 glob:X.env.globals=mainGlobals
 blt:X.env.builtins=builtinsNs
 above:X.s₀.heap.objs.size<=X.env.locals
 inj:∀ x y c,X.env.cells.lookup x=some c->X.env.cells.lookup y=some c->x=y
 has:∀ x,(X.env.kindOf x=some .cell\/X.env.kindOf x=some .free)->∃ c,X.env.cells.lookup x=some c
 cab:∀ x c,X.fn x=true->X.env.cells.lookup x=some c->X.s₀.heap.objs.size<=c
 hd:X.calm=true->X.A.handled=none
 frames:X.A.frames=some X.stack
 stk:X.stack=X.outer\/(X.stack=X.env::X.outer/\X.env.frame=some X.env.locals)
 exf:∀ b∈X.ex,b≠X.env.locals/\∀ x c,X.env.cells.lookup x=some c->c≠b
 bs:∀ b o,X.base.get? b=some o->X.s₀.heap.get? b=some o/\X.H₀ b=none
 bsz:X.base.objs.size<=X.s₀.heap.objs.size
 noex:∀ b o,X.base.get? b=some o->b∉X.ex
 exfs:∀ b∈X.ex,b∉X.fs
 funs:X.s₀.heap.FunFrames X.base X.outer
 frf:∀ b∈X.fs,X.H₀ b=none
structure bY (X:Cx) (pins:List (Addr×Obj)) (σ:List (Option V)) (H:Hp) (s:Shared):Prop where
 ok:X.Ok
 os:s.os=X.s₀.os
 bare:AllBare s.gens
 base:Un X.fs X.ex X.H₀ H X.s₀.heap s.heap
 loc:∃ m,s.heap.Ns X.env.locals m/\∀ (i:Nat) (x:Str) (v:V),X.N[i]? = some x->σ[i]? = some (some v)->FE X.env.scope x->∃ u,RelV v u/\Look X.env s.heap m x u
 cell:∀ x c,X.env.cells.lookup x=some c->∃ v,s.heap.IsCell c v
 free:H X.env.locals=none
 freeC:∀ x c,X.env.cells.lookup x=some c->H c=none
 pin:∀ p∈X.pn++pins,s.heap.get? p.1=some p.2/\H p.1=none/\p.1≠X.env.locals/\p.1∉X.fs/\∀ v,p.2.data≠.cell v
 hok:lZ X.prog X.w H s.heap
 len:σ.length=X.N.length
section
variable {X:Cx} {pins:List (Addr×Obj)} {σ:List (Option V)} {H H':Hp} {s:Shared} {h':Heap}
def Cx.Ok.nofr(ok:X.Ok){b:Addr}{o:Obj}(e:X.base.get? b=some o):b∉X.fs:=λhb=>by
 have:=(ok.funs.mem hb).1;rw[e] at this;cases this
def bY.bs(I:bY X pins σ H s):∀b o,X.base.get? b=some o->s.heap.get? b=some o/\H b=none:=λb o e=>
 ⟨I.base.keep b o (I.ok.bs b o e).1 (I.ok.bs b o e).2 (I.ok.nofr e) (I.ok.noex b o e),I.base.free b o (I.ok.bs b o e).1 (I.ok.bs b o e).2 (I.ok.noex b o e)⟩
def bY.bk(I:bY X pins σ H s):∀b o,X.base.get? b=some o->s.heap.get? b=some o:=λb o e=>(I.bs b o e).1
def bY.mod(I:bY X pins σ H s):Mod X.K X.mg X.base:=I.ok.mod
def bY.kIn(I:bY X pins σ H s):X.K.In s.heap:=I.ok.mod.kin.keeps I.bk
def bY.lt(I:bY X pins σ H s):X.env.locals<s.heap.objs.size:=let ⟨_,hn,_⟩:=I.loc;hn.lt
def bY.sz(I:bY X pins σ H s):X.s₀.heap.objs.size<=s.heap.objs.size:=av I.ok.above (ci I.lt)
def bY.nofs(I:bY X pins σ H s){a:Addr}(h:s.heap.objs.size<=a):a∉X.fs:=λhb=>by
 obtain⟨_,o,ho,_⟩:=I.ok.funs.mem hb;exact absurd (aU (aQ ho) (av I.sz h)) (c7 _)
def bY.cne(I:bY X pins σ H s):∀x c,X.env.cells.lookup x=some c->c≠X.env.locals:=λx c e z=>by
 obtain⟨v,o,ho,hd⟩:=I.cell x c e;obtain⟨m,⟨o',es,ep,ho',hd',_⟩,_⟩:=I.loc;rw[z,ho'] at ho;cases ho;rw[hd'] at hd;cases hd
def bY.funs(I:bY X pins σ H s):s.heap.FunFrames X.base X.outer:=by
 have all:∀(l:List Env),(∀b∈t9 l,b∈X.fs)->X.s₀.heap.FunFrames X.base l->s.heap.FunFrames X.base l:=by
  intro l
  induction l with
  | nil=>intro _ _;trivial
  | cons env r ih=>
   intro hs hl;obtain⟨hk,⟨L,o,hf,hn,ho,hd⟩,hr⟩:=hl;have hL:L∈X.fs:=hs L (by unfold t9;rw[gu,hf];exact am);obtain⟨sl,e⟩:=I.base.slot L o ho (I.ok.frf L hL) hL λz=>I.ok.exfs L z hL;exact⟨hk,⟨L,_,hf,hn,e,hd⟩,ih (λb hb=>hs b (by unfold t9;rw[gu,hf];exact aK _ hb)) hr⟩
 exact all X.outer (λ_ hb=>hb) I.ok.funs
def bY.stack(I:bY X pins σ H s):s.heap.FunFrames X.base X.stack:=by
 rcases I.ok.stk with e | ⟨e,hf⟩
 ·rw[e];exact I.funs
 ·rw[e];obtain⟨m,hn,_⟩:=I.loc;refine .cons (by rw[I.ok.kind];decide) hf hn ?_ I.funs;exact Heap.get?_none_of_le (av I.ok.bsz I.ok.above)
def bY.stkSub(I:bY X pins σ H s):∀b∈t9 X.stack,b∈X.env.locals::X.fs:=λb hb=>by
 rcases I.ok.stk with e | ⟨e,hf⟩
 ·rw[e] at hb;exact aK _ hb
 ·rw[e] at hb;unfold t9 at hb;rw[gu,hf] at hb;exact hb
def bY.stkFree(I:bY X pins σ H s):∀b∈t9 X.stack,H b=none:=λb hb=>by
 rcases aH.mp (I.stkSub b hb) with e | hb
 ·rw[e];exact I.free
 ·obtain⟨_,o,ho,_⟩:=I.ok.funs.mem hb;exact I.base.free b o ho (I.ok.frf b hb) λz=>I.ok.exfs b z hb
def bY.step{g':Array GenState}{t':Nat}{d':Drawn}{ch:List Addr}(I:bY X pins σ H s)
  (hch:∀b∈ch,(b∈X.ex\/X.s₀.heap.objs.size<=b)/\b≠X.env.locals/\(∀x c,X.env.cells.lookup x=some c->c≠b)/\∀p∈X.pn++pins,p.1≠b)
  (keep:∀b o,b≠X.env.locals->b∉X.fs->b∉ch->s.heap.get? b=some o->H b=none->h'.get? b=some o)
  (slot:∀b o,b≠X.env.locals->b∈X.fs->b∉ch->s.heap.get? b=some o->H b=none->∃sl,h'.get? b=some { o with slots:=sl }) (free:∀b o,b∉ch->s.heap.get? b=some o->H b=none->H' b=none)
  (there:∀b o,b∉ch->s.heap.get? b=some o->∃o',h'.get? b=some o')
  (tups:∀b xs,H b=some (.tup xs)->H' b=some (.tup xs)) (frzs:∀b o u,H b=some (.frz o u)->H' b=some (.frz o u)) (tbls:∀b ps,H b=some (.tbl ps)->∃more,H' b=some (.tbl (ps++more)))
  (ns:∀m,s.heap.Ns X.env.locals m->h'.Ns X.env.locals m) (hok:lZ X.prog X.w H' h') (hg:AllBare g') :
  bY X pins σ H' { s with heap:=h',gens:=g',drawn:=d',toks:=t' }:=by
 have neL:∀b o,X.s₀.heap.get? b=some o->b≠X.env.locals:=λb o e=>aq (aU (aQ e) I.ok.above);have neC:∀b o,X.s₀.heap.get? b=some o->b∉X.ex->b∉ch:=λb o e hx hb=>by
  rcases(hch b hb).1 with z | z
  ·exact hx z
  ·exact absurd (aU (aQ e) z) (c7 _)
 have cellK:∀x c,X.env.cells.lookup x=some c->∀v,s.heap.IsCell c v->h'.IsCell c v:=λx c e v ⟨o,ho,hd⟩=>by
  have nch:c∉ch:=λz=>(hch c z).2.2.1 x c e rfl;by_cases hc:c∈X.fs
  ·obtain⟨sl,q⟩:=slot c o (I.cne x c e) hc nch ho (I.freeC x c e);exact⟨_,q,hd⟩
  ·exact⟨o,keep c o (I.cne x c e) hc nch ho (I.freeC x c e),hd⟩
 refine⟨I.ok,I.os,hg,⟨λb o e n hb hx=>?_,λb o e n hb hx=>?_,λb o e n hx=>?_,λb o e hx=>?_,λb xs e=>tups b xs (I.base.tups b xs e),λb o xs e=>frzs b o xs (I.base.frzs b o xs e),λb ps e=>?_⟩,?_,λx c e=>?_,?_,λx c e=>?_,λp hp=>?_,hok,I.len⟩
 ·exact keep b o (neL b o e) hb (neC b o e hx) (I.base.keep b o e n hb hx) (I.base.free b o e n hx)
 ·obtain⟨sl,e1⟩:=I.base.slot b o e n hb hx;obtain⟨sl',e2⟩:=slot b _ (neL b o e) hb (neC b o e hx) e1 (I.base.free b o e n hx);exact⟨sl',e2⟩
 ·obtain⟨o',e1⟩:=I.base.there b o e hx;exact free b o' (neC b o e hx) e1 (I.base.free b o e n hx)
 ·obtain⟨o',e1⟩:=I.base.there b o e hx;exact there b o' (neC b o e hx) e1
 ·obtain⟨m1,e1⟩:=I.base.tbls b ps e;obtain⟨m2,e2⟩:=tbls b _ e1;exact⟨m1++m2,by rw[e2,Array.append_assoc]⟩
 ·obtain⟨m,hn,hl⟩:=I.loc;refine⟨m,ns m hn,λi x v e1 e2 e3=>?_⟩;obtain⟨u,r,l⟩:=hl i x v e1 e2 e3;refine⟨u,r,?_⟩;rcases l with l | ⟨k,c,e,z⟩
  ·exact .inl l
  ·exact .inr ⟨k,c,e,cellK x c e _ z⟩
 ·obtain⟨v,z⟩:=I.cell x c e;exact⟨v,cellK x c e v z⟩
 ·obtain⟨m,⟨o,_,_,ho,_⟩,_⟩:=I.loc;exact free _ o (λz=>(hch _ z).2.1 rfl) ho I.free
 ·obtain⟨v,o,ho,hd⟩:=I.cell x c e;exact free c o (λz=>(hch c z).2.2.1 x c e rfl) ho (I.freeC x c e)
 ·obtain⟨e,n,ne,nf,d⟩:=I.pin p hp;have nch:p.1∉ch:=λz=>(hch p.1 z).2.2.2 p hp rfl;exact⟨keep p.1 p.2 ne nf nch e n,free p.1 p.2 nch e n,ne,nf,d⟩
def bY.un{t':Nat}(I:bY X pins σ H s)(u:Un X.fs [] H H' s.heap h')(hok:lZ X.prog X.w H' h'):bY X pins σ H' { s with heap:=h',toks:=t' }:=by
 obtain⟨m,⟨o,es,ep,ho,r⟩,_⟩:=id I.loc;obtain⟨sl,hL⟩:=u.any ho I.free (by simp);exact I.step (g':=s.gens) (d':=s.drawn) (ch:=[]) (λ_ z=>nomatch z) (λb o _ hb _ e n=>u.keep b o e n hb (by simp)) (λb o _ hb _ e n=>u.slot b o e n hb (by simp)) (λb o _ e n=>u.free b o e n (by simp)) (λb o _ e=>u.there b o e (by simp)) u.tups u.frzs u.tbls (λm' hm=>by
  obtain⟨o',es',ep',ho',r'⟩:=hm;rw[ho] at ho';cases ho';exact⟨_,es',ep',hL,r'⟩) hok I.bare
def bY.call{g':Array GenState}{t':Nat}{d':Drawn}{ch:List Addr}(I:bY X pins σ H s)(u:Un (t9 X.stack) ch H H' s.heap h')(hok:lZ X.prog X.w H' h')(hg:AllBare g')
  (hch:∀b∈ch,(b∈X.ex\/X.s₀.heap.objs.size<=b)/\b≠X.env.locals/\(∀x c,X.env.cells.lookup x=some c->c≠b)/\∀p∈X.pn++pins,p.1≠b) :
  bY X pins σ H' { s with heap:=h',gens:=g',drawn:=d',toks:=t' }:=by
 obtain⟨m,⟨o,es,ep,ho,r⟩,_⟩:=id I.loc;obtain⟨sl,hL⟩:=u.any ho I.free λz=>(hch _ z).2.1 rfl;exact I.step (ch:=ch) hch (λb o hL hb hc e n=>u.keep b o e n (λz=>(aH.mp (I.stkSub b z)).elim hL hb) hc) (λb o _ _ hc e n=>u.any e n hc) (λb o hc e n=>u.free b o e n hc) (λb o hc e=>u.there b o e hc) u.tups u.frzs u.tbls (λm' hm=>by
  obtain⟨o',es',ep',ho',r'⟩:=hm;rw[ho] at ho';cases ho';exact⟨_,es',ep',hL,r'⟩) hok hg
def bY.turned{t':Nat}{it:Addr}(I:bY X pins σ H s)(k:∀b o,b≠it->s.heap.get? b=some o->h'.get? b=some o)(hn:H it=none)(hL:it≠X.env.locals)
  (h1:it∈X.ex\/X.s₀.heap.objs.size<=it) (h2:∀x c,X.env.cells.lookup x=some c->c≠it) (h3:∀p∈X.pn++pins,p.1≠it):bY X pins σ H { s with heap:=h',toks:=t' }:=by
 have nit:∀b u,H b=some u->b≠it:=λb u e z=>by rw[z,hn] at e;cases e
 refine I.step (g':=s.gens) (d':=s.drawn) (ch:=[it]) (λb hb=>?_) (λb o _ _ hc e _=>k b o (λz=>hc (by simp[z])) e) (λb o _ _ hc e _=>⟨o.slots,k b o (λz=>hc (by simp[z])) e⟩) (λ_ _ _ _ n=>n)
  (λb o hc e=>⟨o,k b o (λz=>hc (by simp[z])) e⟩) (λ_ _ e=>e) (λ_ _ _ e=>e) (λb ps e=>⟨#[],by rw[e];simp⟩) (λm hm=>?_) (λb u e=>?_) I.bare
 ·have e:b=it:=by simpa using hb
  subst e;exact⟨h1,hL,h2,h3⟩
 ·obtain⟨o,es,ep,ho,r⟩:=hm;exact⟨o,es,ep,k _ o (bg hL) ho,r⟩
 ·refine(I.hok b u e).stay (λc v hc q=>k c v ?_ q) (λ_ q=>q) λ_ _ q=>q;rcases hc with z | z
  ·rw[z];exact nit b u e
  ·exact nit c _ z
def bY.tok(I:bY X pins σ H s)(t:Nat):bY X pins σ H { s with toks:=t }:=I.un (h':=s.heap) (t':=t) Un.refl I.hok
def bY.kept{t':Nat}(I:bY X pins σ H s)(k:∀b u,s.heap.get? b=some u->h'.get? b=some u):bY X pins σ H { s with heap:=h',toks:=t' }:=I.un (Un.kept k) (I.hok.kept k)
def bY.laid{a:Addr}{o:HO}{t':Nat}(I:bY X pins σ H s)(k:∀b u,s.heap.get? b=some u->h'.get? b=some u)(hp:s.heap.objs.size<=a)(new:cg X.prog X.w (upd H a o) h' a o):
  bY X pins σ (upd H a o) { s with heap:=h',toks:=t' }:=I.un (Un.laid k hp (I.hok.fresh hp)) (I.hok.laid k hp new)
def bY.write{x e:Addr}{o:HO}{t':Nat}(I:bY X pins σ H s)(mu:G4 (H x))(he:e=x\/H e=some (.own x))(k:∀b u,b≠e->s.heap.get? b=some u->h'.get? b=some u)(heo:∃u,h'.get? e=some u)
  (new:cg X.prog X.w (upd H x o) h' x o):bY X pins σ (upd H x o) { s with heap:=h',toks:=t' }:=I.un (Un.write mu he k heo) (I.hok.write mu he k heo new)
def bY.pins_of{pins':List (Addr×Obj)}(I:bY X pins σ H s)(h:∀p∈pins',s.heap.get? p.1=some p.2/\H p.1=none/\p.1≠X.env.locals/\p.1∉X.fs/\∀v,p.2.data≠.cell v):bY X pins' σ H s:=
 ⟨I.ok,I.os,I.bare,I.base,I.loc,I.cell,I.free,I.freeC,λp hp=>(aL.mp hp).elim (λz=>I.pin p (bM _ z)) (h p),I.hok,I.len⟩
def rQ{N:List Str}(hN:N.Nodup){i j:Nat}{x:Str}(a:N[i]? = some x)(b:N[j]? = some x):i=j:=by
 obtain⟨h1,e1⟩:=aJ.mp a;obtain⟨h2,e2⟩:=aJ.mp b;exact(List.getElem_inj hN).mp (e1.trans e2.symm)
def oZ{M:Model}{A:Around}{E:Value->Shared->Prop}{i:Nat}{x:Str}{v:V}{u:Value}{Q:Unit->Shared->Prop}(I:bY X pins σ H s)(hN:X.N.Nodup)(hi:X.N[i]? = some x)(hx:Loc X.env.scope x)(r:RelV v u)
  (h:∀s',bY X pins (σ.set i (some v)) H s'->(∃a,Heap.SameBut a s.heap s'.heap/\(a=X.env.locals\/X.env.cells.lookup x=some a))->Q () s') (hf:X.fn x=true\/X.env.scope.names.lookup x=some .local:=by first | exact .inl rfl | exact .inr rfl | assumption):wpAny M A (storeName X.env x u) Q E s:=by
 obtain⟨m,hn,hl⟩:=id I.loc;have hcls:(X.env.scope.kind==.class || (X.env.scope.kind==.module&&X.env.locals != X.env.globals))=false:=by rw[I.ok.kind];rfl
 have hiσ:i<σ.length:=by rw[I.len];exact(aJ.mp hi).1
 have cne:=I.cne;have tracked:∀{a:Addr} {h':Heap},(∃o,s.heap.get? a=some o/\H a=none)->Heap.SameBut a s.heap h'->lZ X.prog X.w H h':=fun {a h'} ha hs b ob e=>by
  obtain⟨_,_,hfree⟩:=ha;refine(I.hok b ob e).stay (λc w' hc q=>(hs.2 c ?_).trans q) (λ_ q=>q) λ_ _ q=>q;rintro rfl;rcases hc with rfl | hc
  ·rw[hfree] at e;cases e
  ·rw[hfree] at hc;cases hc
 rcases hx with hk | hk
 ·refine wpAny_storeName_local hk hn (λh' hn' hs=>?_) hcls;obtain⟨oL,_,_,hoL,_⟩:=id hn;refine h _ ⟨I.ok,I.os,I.bare,⟨λb o e n hb hx=>?_,λb o e n hb hx=>?_,I.base.free,λb o e hx=>?_,I.base.tups,I.base.frzs,I.base.tbls⟩,⟨_,hn',λj y v' e1 e2 e3=>?_⟩,λy c e=>?_,I.free,I.freeC,λp hp=>?_,tracked ⟨oL,hoL,I.free⟩ hs,by simpa using I.len⟩ ⟨_,hs,.inl rfl⟩
  ·exact(hs.2 b (aq (aU (aQ e) I.ok.above))).trans (I.base.keep b o e n hb hx)
  ·obtain⟨sl,e1⟩:=I.base.slot b o e n hb hx;exact⟨sl,(hs.2 b (aq (aU (aQ e) I.ok.above))).trans e1⟩
  ·obtain⟨o',e1⟩:=I.base.there b o e hx;exact⟨o',(hs.2 b (aq (aU (aQ e) I.ok.above))).trans e1⟩
  ·by_cases hj:j=i
   ·subst hj;rw[hi] at e1;cases e1;rw[jh hiσ] at e2;cases e2;exact⟨u,r,.inl ⟨hk,by simp⟩⟩
   ·rw[List.getElem?_set_ne (bg hj)] at e2;obtain⟨u',r',q⟩:=hl j y v' e1 e2 e3;refine⟨u',r',?_⟩;rcases q with ⟨k,e⟩ | ⟨k,c,e,z⟩
    ·refine .inl ⟨k,?_⟩;have:y≠x:=λe=>hj (rQ hN e1 (e▸hi));simp[this,e]
    ·exact .inr ⟨k,c,e,z.sameBut hs (cne y c e)⟩
  ·obtain⟨w',z⟩:=I.cell y c e;exact⟨w',z.sameBut hs (cne y c e)⟩
  ·obtain⟨e,n,ne,nf,d⟩:=I.pin p hp;exact⟨(hs.2 p.1 ne).trans e,n,ne,nf,d⟩
 ·have hfn:X.fn x=true:=by
   rcases hf with z | z
   ·exact z
   ·rw[z] at hk;cases hk
  obtain⟨c,hc⟩:=I.ok.has x (.inl hk);obtain⟨w',z⟩:=I.cell x c hc;refine wpAny_storeName_cell I.ok.kind hk hc z (λh' hc' hs=>?_);obtain⟨oc,hoc,hocd⟩:=id z;refine h { s with heap:=h' } ⟨I.ok,I.os,I.bare,⟨λb o e n hb hx=>?_,λb o e n hb hx=>?_,I.base.free,λb o e hx=>?_,I.base.tups,I.base.frzs,I.base.tbls⟩,⟨m,hn.sameBut hs (bg (cne x c hc)),λj y v' e1 e2 e3=>?_⟩,λy c' e=>?_,I.free,I.freeC,λp hp=>?_,tracked ⟨oc,hoc,I.freeC x c hc⟩ hs,by simpa using I.len⟩ ⟨c,hs,.inr hc⟩
  ·exact(hs.2 b (aq (aU (aQ e) (I.ok.cab x c hfn hc)))).trans (I.base.keep b o e n hb hx)
  ·obtain⟨sl,e1⟩:=I.base.slot b o e n hb hx;exact⟨sl,(hs.2 b (aq (aU (aQ e) (I.ok.cab x c hfn hc)))).trans e1⟩
  ·obtain⟨o',e1⟩:=I.base.there b o e hx;exact⟨o',(hs.2 b (aq (aU (aQ e) (I.ok.cab x c hfn hc)))).trans e1⟩
  ·by_cases hj:j=i
   ·subst hj;rw[hi] at e1;cases e1;rw[jh hiσ] at e2;cases e2;exact⟨u,r,.inr ⟨.inl hk,c,hc,hc'⟩⟩
   ·rw[List.getElem?_set_ne (bg hj)] at e2;obtain⟨u',r',q⟩:=hl j y v' e1 e2 e3;refine⟨u',r',?_⟩;rcases q with q | ⟨k,c',e,z'⟩
    ·exact .inl q
    ·refine .inr ⟨k,c',e,z'.sameBut hs ?_⟩;rintro rfl;exact hj (rQ hN e1 (I.ok.inj _ _ _ e hc▸hi))
  ·by_cases hcc:c'=c
   ·subst hcc;exact⟨_,hc'⟩
   ·obtain⟨w2,z2⟩:=I.cell y c' e;exact⟨w2,z2.sameBut hs hcc⟩
  ·obtain⟨e,n,ne,nf,d⟩:=I.pin p hp;refine⟨(hs.2 p.1 ?_).trans e,n,ne,nf,d⟩;intro q;rw[q,hoc] at e;have q':oc=p.2:=aa e;exact d w' (by rw[<-q'];exact hocd)
def mz{M:Model}{A:Around}{E:Value->Shared->Prop}{i:Nat}{x:Str}{v:V}{u:Value}{Q:Unit->Shared->Prop}(I:bY X pins σ H s)(hN:X.N.Nodup)(hi:X.N[i]? = some x)(hx:Loc X.env.scope x)(r:RelV v u)
  (h:∀s',bY X pins (σ.set i (some v)) H s'->Q () s') (hf:X.fn x=true\/X.env.scope.names.lookup x=some .local:=by first | exact .inl rfl | exact .inr rfl | assumption):wpAny M A (storeName X.env x u) Q E s:=
 oZ I hN hi hx r (λs' I' _=>h s' I') hf
def bY.call'{s':Shared}{ch:List Addr}(I:bY X pins σ H s)(ho:s'.os=s.os)(u:Un (t9 X.stack) ch H H' s.heap s'.heap)(hok:lZ X.prog X.w H' s'.heap)(hg:AllBare s'.gens)
  (hch:∀b∈ch,(b∈X.ex\/X.s₀.heap.objs.size<=b)/\b≠X.env.locals/\(∀x c,X.env.cells.lookup x=some c->c≠b)/\∀p∈X.pn++pins,p.1≠b):bY X pins σ H' s':=by
 obtain⟨h',g',d',t',o'⟩:=s';have e:o'=s.os:=ho;subst e;exact I.call (g':=g') (t':=t') (d':=d') u hok hg hch
end
abbrev XK:=Value->Option Addr->Hp->Prop
abbrev St:=List (Option V)
abbrev VK:=V->Hp->Prop
abbrev TE:=St->Hp->VK->Prop
abbrev TT:=St->Hp->(Bool->Hp->Prop)->Prop
abbrev TA:=St->Hp->(List V->Hp->Prop)->Prop
structure Ends where
 nx:St->Hp->Prop
 rt:VK
 bk:St->Hp->Prop:=fun _ _=>False
 ct:St->Hp->Prop:=fun _ _=>False
abbrev TS:=Ends->St->Hp->Prop
def EP(X:Cx)(pins:List (Addr×Obj))(σ:St)(Q:VK)(u:Value)(s':Shared):Prop:=∃v H',bY X pins σ H' s'/\RelV v u/\Q v H'
def TP(X:Cx)(pins:List (Addr×Obj))(σ:St)(Q:Bool->Hp->Prop)(b:Bool)(s':Shared):Prop:=∃H',bY X pins σ H' s'/\Q b H'
def AP(X:Cx)(pins:List (Addr×Obj))(σ:St)(Q:List V->Hp->Prop)(us:List Value)(s':Shared):Prop:=∃vs H',bY X pins σ H' s'/\cE vs us/\Q vs H'
def SP(X:Cx)(pins:List (Addr×Obj))(D:Ends)(f:Flow)(s':Shared):Prop:=
 match f with
 | .next=>∃σ' H',bY X pins σ' H' s'/\D.nx σ' H'
 | .brk=>∃σ' H',bY X pins σ' H' s'/\D.bk σ' H'
 | .cont=>∃σ' H',bY X pins σ' H' s'/\D.ct σ' H'
 | .ret u=>∃v σ' H',bY X pins σ' H' s'/\RelV v u/\D.rt v H'
def PE(X:Cx)(e:Expr)(t:TE):Prop:=
 ∀(pins:List (Addr×Obj)) (s:Shared) (σ:St) (H:Hp) (Q:VK),bY X pins σ H s->t σ H Q->wpAny (model X.prog X.w) X.A (eval e X.env) (EP X pins σ Q) X.xe s
def PT(X:Cx)(e:Expr)(t:TT):Prop:=
 ∀(pins:List (Addr×Obj)) (s:Shared) (σ:St) (H:Hp) (Q:Bool->Hp->Prop),bY X pins σ H s->t σ H Q->wpAny (model X.prog X.w) X.A (isTrue e X.env (eval e X.env)) (TP X pins σ Q) X.xe s
def PW(X:Cx)(e:Expr)(t:TT):Prop:=
 ∀(whole:Sem Value) (pins:List (Addr×Obj)) (s:Shared) (σ:St) (H:Hp) (Q:Bool->Hp->Prop),bY X pins σ H s->t σ H Q->wpAny (model X.prog X.w) X.A (isTrue e X.env whole) (TP X pins σ Q) X.xe s
def PW.pt{X:Cx}{e:Expr}{t:TT}(h:PW X e t):PT X e t:=h _
def PA(X:Cx)(es:List Expr)(t:TA):Prop:=
 ∀(pos:Pos) (pins:List (Addr×Obj)) (s:Shared) (σ:St) (H:Hp) (Q:List V->Hp->Prop),bY X pins σ H s->t σ H Q->wpAny (model X.prog X.w) X.A (spliced (backTo pos (starEach es X.env))) (AP X pins σ Q) X.xe s
def PS(X:Cx)(st:Stmt)(t:TS):Prop:=
 ∀(pins:List (Addr×Obj)) (s:Shared) (σ:St) (H:Hp) (D:Ends),bY X pins σ H s->t D σ H->wpAny (model X.prog X.w) X.A (exec st X.env) (SP X pins D) X.xe s
def sL(X:Cx)(st:List Stmt)(t:TS):Prop:=
 ∀(pins:List (Addr×Obj)) (s:Shared) (σ:St) (H:Hp) (D:Ends),bY X pins σ H s->t D σ H->wpAny (model X.prog X.w) X.A (execs st X.env) (SP X pins D) X.xe s
def dH{α:Type}{t:Sem α}{Q Q':α->Shared->Prop}{M:Model}{A:Around}{E:Value->Shared->Prop}{s:Shared}(h:wpAny M A t Q E s)(hQ:∀a s,Q a s->Q' a s):wpAny M A t Q' E s:=K1 h hQ λ_ _ x=>x
section
variable {X:Cx}
def bin{a b:Expr}{ta tb:TE}(ha:PE X a ta)(hb:PE X b tb){pins:List (Addr×Obj)}{s:Shared}{σ:St}{H:Hp}{R:V->V->Hp->Prop}(I:bY X pins σ H s)(h:ta σ H λx H1=>tb σ H1 λy H2=>R x y H2)
  {α:Type} {Q:α->Shared->Prop} {f:Value->Value->Sem α}
  (hf:∀v u s2 x y H2,bY X pins σ H2 s2->RelV x v->RelV y u->R x y H2->wpAny (model X.prog X.w) X.A (f v u) Q X.xe s2) :
  wpAny (model X.prog X.w) X.A (eval a X.env) (λv s₁=>wpAny (model X.prog X.w) X.A (eval b X.env) (λu s₂=>wpAny (model X.prog X.w) X.A (f v u) Q X.xe s₂) X.xe s₁) X.xe s:=by
 refine dH (ha pins s σ H _ I h) λv s1 ⟨x,H1,I1,r1,q1⟩=>?_;refine dH (hb pins s1 σ H1 _ I1 q1) λu s2 ⟨y,H2,I2,r2,q2⟩=>?_;exact hf v u s2 x y H2 I2 r1 r2 q2
def mw(i:Nat):TE:=λσ H Q=>∃v,σ[i]? = some (some v)/\Q v H
def tC(v:V):TE:=λ_ H Q=>Q v H
def ED {i:Nat} {x:Str} {pos:Pos} (hN:X.N[i]? = some x) (hv:FE X.env.scope x) (hd:(x==("__debug__":Str))=false:=by decide) (hcd:(x==("__classdict__":Str))=false:=by decide):PE X (.Name x pos) (mw i):=by
 intro pins s σ H Q I h;obtain⟨v,e,h⟩:=h;obtain⟨m,hn,hl⟩:=I.loc;obtain⟨u,r,l⟩:=hl i x v hN e hv;have fin:EP X pins σ Q u s:=⟨v,H,I,r,h⟩
 rcases l with ⟨hk,hm⟩ | ⟨hk,c,hc,hcell⟩
 ·exact wpAny_Name (wpAny_loadName_local I.ok.kind hk hn hm fin) hd
 ·rcases hk with hk | hk
  ·exact wpAny_Name (wpAny_loadName_cell I.ok.kind hk hc hcell fin) hd
  ·exact wpAny_Name (wpAny_loadName_free I.ok.kind hk hc hcell fin hcd) hd
def EL{i j pos}:PE X (.Constant (.int i) j pos) (tC (.int i)):=λ_ _ _ H _ I h=>wpAny_Constant_int ⟨.int i,H,I.tok _,⟨_,rfl⟩,h⟩
def GE{b j pos}:PE X (.Constant (.bool b) j pos) (tC (.bl b)):=λ_ _ _ H _ I h=>Constant_bool ⟨.bl b,H,I,rfl,h⟩
def EJ{j pos}:PE X (.Constant .none j pos) (tC .non):=λ_ _ _ H _ I h=>Constant_none ⟨.non,H,I,rfl,h⟩
def EG{x j pos}:PE X (.Constant (.str x) j pos) (tC (.str x)):=λ_ _ _ H _ I h=>Calls.Constant_str ⟨.str x,H,I.tok _,⟨_,rfl⟩,h⟩
def Gl(X:Cx)(x:Str):Prop:=X.env.kindOf x=some .globalImplicit
def vQ{E:Value->Shared->Prop}{pins:List (Addr×Obj)}{s:Shared}{σ:St}{H:Hp}{x:Str}{u:Value}{pos:Pos}{Q:Value->Shared->Prop}(I:bY X pins σ H s)(hg:Gl X x)(hm:X.mg x=some u)(h:Q u s)
  (hd:(x==("__debug__":Str))=false:=by decide):wpAny (model X.prog X.w) X.A (eval (.Name x pos) X.env) Q E s:=
 i0 I.ok.kind hg (Calls.loadGlobal_global (by rw[I.ok.glob];exact I.mod.glob.keeps I.bk) hm h) hd
def iR{E:Value->Shared->Prop}{pins:List (Addr×Obj)}{s:Shared}{σ:St}{H:Hp}{x:Str}{u:Value}{pos:Pos}{Q:Value->Shared->Prop}(I:bY X pins σ H s)(hg:Gl X x)(hm:X.mg x=none)(hv:bootBuiltins x=some u)(h:Q u s)
  (hn:x≠"__name__":=by decide) (hd:(x==("__debug__":Str))=false:=by decide):wpAny (model X.prog X.w) X.A (eval (.Name x pos) X.env) Q E s:=by
 obtain⟨mb,h1,h2⟩:=I.mod.blt;exact i0 I.ok.kind hg (Calls.loadGlobal_builtin (by rw[I.ok.glob];exact I.mod.glob.keeps I.bk) hm (by rw[I.ok.blt];exact h1.keeps I.bk) ((h2 x hn).trans hv) h) hd
def qB {x:Str} {v:V} {u:Value} {pos:Pos} (hg:Gl X x) (hm:X.mg x=some u) (r:RelV v u) (hd:(x==("__debug__":Str))=false:=by decide):PE X (.Name x pos) (tC v):=
 λ_ _ _ H _ I h=>vQ I hg hm ⟨v,H,I,r,h⟩ hd
def Bk {x:Str} {v:V} {u:Value} {pos:Pos} (hg:Gl X x) (hm:X.mg x=none) (hv:bootBuiltins x=some u) (r:RelV v u) (hn:x≠"__name__":=by decide) (hd:(x==("__debug__":Str))=false:=by decide):PE X (.Name x pos) (tC v):=
 λ_ _ _ H _ I h=>iR I hg hm hv ⟨v,H,I,r,h⟩ hn hd
variable {a b:Expr} {ta tb:TE} {pos:Pos}
def PC(X:Cx)(op:CmpOp)(a b:Expr)(t:TE):Prop:=
 ∀(pins:List (Addr×Obj)) (s:Shared) (σ:St) (H:Hp) (Q:VK),bY X pins σ H s->t σ H Q →
  wpAny (model X.prog X.w) X.A (eval a X.env) (λv s₁=>wpAny (model X.prog X.w) X.A (eval b X.env) (λu s₂=>wpAny (model X.prog X.w) X.A (compareOp op v u) (EP X pins σ Q) X.xe s₂) X.xe s₁) X.xe s
def zq(b:Expr){op:CmpOp}(h:op≠.In)(h2:op≠.NotIn):behindInMarks op b=false:=by
 have e1:(op==CmpOp.In)=false:=by cases op<;>first | rfl | exact absurd rfl h
 have e2:(op==CmpOp.NotIn)=false:=by cases op<;>first | rfl | exact absurd rfl h2
 cases b<;>simp[behindInMarks,e1,e2]
def tB(t:TE):TT:=λσ H Q=>t σ H λx H1=>∃c,x=.bl c/\Q c H1
def Dq{op:CmpOp}{t:TE}(h:PC X op a b t)(h1:behindInMarks op b=false:=by first | exact zq _ (by decide) (by decide) | rfl):PT X (.Compare a [op] [b] pos) (tB t):=by
 intro pins s σ H Q I hw;refine wpAny_isTrue_Compare1 (dH (h pins s σ H _ I hw) λv s1 h1=>dH h1 λu s2 h2=>dH h2 λc s3 ⟨x,H1,I1,r1,q1⟩=>?_) h1;obtain⟨d,rfl,q⟩:=q1;cases r1;exact K2 ⟨H1,I1,q⟩
def Do{e:Expr}{t:TE}(h:PE X e t)(he:∀whole,isTrue e X.env whole=(do let v <-whole;standAt e.pos;holding [v] (truthy v)):=by intro _;rfl):PT X e (tB t):=by
 intro pins s σ H Q I hw;refine isTrue_plain (dH (h pins s σ H _ I hw) λv s1 ⟨x,H1,I1,r1,q1⟩=>?_) (he _);obtain⟨d,rfl,q⟩:=q1;cases r1;exact K2 ⟨H1,I1,q⟩
variable {tA tB':TT} {rest:List Expr}
def Da(t u:TT):TT:=λσ H Q=>t σ H λc H1=>if c=true then u σ H1 Q else Q false H1
def HD(t u:TT):TT:=λσ H Q=>t σ H λc H1=>if c=true then Q true H1 else u σ H1 Q
def D4(t:TT):TT:=λσ H Q=>t σ H λc H1=>Q (!c) H1
def BY(ha:PT X a tA):PW X (.BoolOp .And [a] pos) tA:=by
 intro wh pins s σ H Q I h;refine isTrue_and (dH (ha pins s σ H Q I h) λc s1 e=>?_);cases c with
 | true=>exact isTrue_and_nil e
 | false=>exact e
def Dm(ha:PT X a tA):PW X (.BoolOp .Or [a] pos) tA:=by
 intro wh pins s σ H Q I h;refine isTrue_or (dH (ha pins s σ H Q I h) λc s1 e=>?_);cases c with
 | false=>exact isTrue_or_nil e
 | true=>exact e
def Dn(ha:PT X a tA)(hb:PW X (.BoolOp .And (b::rest) pos) tB'):PW X (.BoolOp .And (a::b::rest) pos) (Da tA tB'):=by
 intro wh pins s σ H Q I h;refine isTrue_and (dH (ha pins s σ H _ I h) λc s1 ⟨H1,I1,q1⟩=>?_);cases c with
 | true=>exact hb wh pins s1 σ H1 Q I1 q1
 | false=>exact⟨H1,I1,q1⟩
def Fv(ha:PT X a tA)(hb:PW X (.BoolOp .Or (b::rest) pos) tB'):PW X (.BoolOp .Or (a::b::rest) pos) (HD tA tB'):=by
 intro wh pins s σ H Q I h;refine isTrue_or (dH (ha pins s σ H _ I h) λc s1 ⟨H1,I1,q1⟩=>?_);cases c with
 | true=>exact⟨H1,I1,q1⟩
 | false=>exact hb wh pins s1 σ H1 Q I1 q1
def Dp(ha:PT X a tA):PT X (.UnaryOp .Not a pos) (D4 tA):=by
 intro pins s σ H Q I h;exact isTrue_not (ha pins s σ H (λc H1=>Q (!c) H1) I h)
def y9(ta tb:TE):TE:=λσ H Q=>ta σ H λx H1=>∃c,x=.bl c/\if c=true then tb σ H1 Q else Q (.bl false) H1
def D3(ta tb:TE):TE:=λσ H Q=>ta σ H λx H1=>∃c,x=.bl c/\if c=true then Q (.bl true) H1 else tb σ H1 Q
def yR(ta:TE):TE:=λσ H Q=>ta σ H λx H1=>∃c,x=.bl c/\Q (.bl (!c)) H1
def EH{op}{t:TE}(h:PE X a t):PE X (.BoolOp op [a] pos) t:=λpins s σ H Q I hw=>BoolOp_one (h pins s σ H Q I hw)
def EN(ha:PE X a ta)(hb:PE X (.BoolOp .And (b::rest) pos) tb):PE X (.BoolOp .And (a::b::rest) pos) (y9 ta tb):=by
 intro pins s σ H Q I h;refine BoolOp_and (dH (ha pins s σ H _ I h) λv s1 ⟨x,H1,I1,r1,q1⟩=>?_);obtain⟨c,rfl,q1⟩:=q1;cases r1;refine K2 ?_;cases c with
 | true=>exact hb pins s1 σ H1 Q I1 q1
 | false=>exact⟨.bl false,H1,I1,rfl,q1⟩
def Fz(ha:PE X a ta)(hb:PE X (.BoolOp .Or (b::rest) pos) tb):PE X (.BoolOp .Or (a::b::rest) pos) (D3 ta tb):=by
 intro pins s σ H Q I h;refine BoolOp_or (dH (ha pins s σ H _ I h) λv s1 ⟨x,H1,I1,r1,q1⟩=>?_);obtain⟨c,rfl,q1⟩:=q1;cases r1;refine K2 ?_;cases c with
 | false=>exact hb pins s1 σ H1 Q I1 q1
 | true=>exact⟨.bl true,H1,I1,rfl,q1⟩
def EI(ha:PE X a ta):PE X (.UnaryOp .Not a pos) (yR ta):=by
 intro pins s σ H Q I h;refine UnaryOp_ (dH (ha pins s σ H _ I h) λv s1 ⟨x,H1,I1,r1,q1⟩=>?_);obtain⟨c,rfl,q1⟩:=q1;cases r1;exact not_of (K2 ⟨.bl (!c),H1,I1,rfl,q1⟩)
def HE(t:TT)(ta tb:TE):TE:=λσ H Q=>t σ H λc H1=>if c=true then ta σ H1 Q else tb σ H1 Q
def zU{c:Expr}(hc:PT X c tA)(ha:PE X a ta)(hb:PE X b tb):PE X (.IfExp c a b pos) (HE tA ta tb):=by
 intro pins s σ H Q I h;refine wpAny_IfExp (dH (hc pins s σ H _ I h) λd s1 ⟨H1,I1,q1⟩=>?_);cases d with
 | true=>exact ha pins s1 σ H1 Q I1 q1
 | false=>exact hb pins s1 σ H1 Q I1 q1
end
def cL(K:Kw)(H:Hp)(a:Addr)(xs:List V):Prop:=
 Rd H a (.lst xs) ∨
  ∃(o:Obj) (its:Array Value) (n:Nat),K.lookup a=some o/\o.cls=.type "list"/\o.dict=none/\o.data=.seq its n/\its.size<=sizeLine/\cE xs its.toList
def dr(K:Kw)(H:Hp)(a:Addr)(xs:List V):Prop:=
 Rd H a (.tup xs) ∨
  ∃(o:Obj) (its:Array Value) (n:Nat),K.lookup a=some o/\o.cls=.type "tuple"/\o.data=.seq its n/\its.size<=sizeLine/\cE xs its.toList
def HW:Value->Option V
 | .none=>some .non
 | .bool b=>some (.bl b)
 | .int i _=>some (.int i)
 | .str x _=>some (.str x)
 | .bytes b _=>some (.byt b)
 | .float b _=>some (.flt b)
 | .ref a=>some (.ref a)
 | .type n=>some (.ty n)
 | _=>none
def RelV.abs{x:V}{u:Value}(r:RelV x u):HW u=some x:=by
 cases x with
 | non=>cases r;rfl
 | bl _=>cases r;rfl
 | int _=>obtain⟨t,rfl⟩:=r;rfl
 | str _=>obtain⟨t,rfl⟩:=r;rfl
 | byt _=>obtain⟨t,rfl⟩:=r;rfl
 | flt _=>obtain⟨t,rfl⟩:=r;rfl
 | ref _=>cases r;rfl
 | ty _=>cases r;rfl
def RelV.inj{x y:V}{u:Value}(r:RelV x u)(q:RelV y u):x=y:=aa (r.abs.symm.trans q.abs)
def cE.inj:∀{xs ys:List V} {us:List Value},cE xs us->cE ys us->xs=ys
 | _,_,_,.nil,.nil=>rfl
 | _,_,_,.cons r t,.cons r' t'=>by rw[r.inj r',cE.inj t t']
section
variable {X:Cx} {pins:List (Addr×Obj)} {σ:St} {H:Hp} {s:Shared} {a:Addr} {xs ys:List V}
def cL.of{K:Kw}(h:H a=some (.lst xs)):cL K H a xs:=.inl (.inl h)
def dr.of{K:Kw}(h:H a=some (.tup xs)):dr K H a xs:=.inl (.inl h)
def bY.list(I:bY X pins σ H s)(h:cL X.K H a xs):∃its:List Value,cE xs its/\PlainL s.heap a its.toArray/\xs.length<=sizeLine:=by
 rcases h with h | ⟨o,its,n,hk,hc,hd,hs,hz,r⟩
 ·obtain⟨z,its,n,r,e⟩:=h.ok I.hok;exact⟨its,r,⟨_,n,e,rfl,rfl,rfl⟩,z⟩
 ·refine⟨its.toList,r,⟨o,n,I.kIn a o hk,hc,hd,by simpa using hs⟩,?_⟩;have e:=r.length;simp only[cj] at e;lia
def bY.tuple(I:bY X pins σ H s)(h:dr X.K H a xs):∃its:List Value,cE xs its/\IsTup s.heap a its.toArray/\xs.length<=sizeLine:=by
 rcases h with h | ⟨o,its,n,hk,hc,hs,hz,r⟩
 ·obtain⟨z,its,r,p⟩:=h.ok I.hok;exact⟨its,r,p,z⟩
 ·refine⟨its.toList,r,⟨o,I.kIn a o hk,hc,n,by simpa using hs⟩,?_⟩;have e:=r.length;simp only[cj] at e;lia
def bY.list_inj(I:bY X pins σ H s)(h:cL X.K H a xs)(h':cL X.K H a ys):xs=ys:=by
 obtain⟨its,r,⟨o,n,e,_,_,d⟩,_⟩:=I.list h;obtain⟨its',r',⟨o',n',e',_,_,d'⟩,_⟩:=I.list h';rw[e] at e';cases e';rw[d] at d';injection d' with d1 _
 have:its=its':=by simpa using congrArg Array.toList d1
 subst this;exact r.inj r'
def bY.tuple_inj(I:bY X pins σ H s)(h:dr X.K H a xs)(h':dr X.K H a ys):xs=ys:=by
 obtain⟨its,r,⟨o,e,_,n,d⟩,_⟩:=I.tuple h;obtain⟨its',r',⟨o',e',_,n',d'⟩,_⟩:=I.tuple h';rw[e] at e';cases e';rw[d] at d';injection d' with d1 _
 have:its=its':=by simpa using congrArg Array.toList d1
 subst this;exact r.inj r'
end
abbrev Cx.wish (X:Cx) (E:Value->Shared->Prop):Cx:={ X with xe:=E }
abbrev Cx.nox (X:Cx):Cx:=X.wish λ_ _=>False
def Cx.Ok.wish{X:Cx}(ok:X.Ok)(E:Value->Shared->Prop):(X.wish E).Ok:=
 ⟨ok.mod,ok.kind,ok.glob,ok.blt,ok.above,ok.inj,ok.has,ok.cab,ok.hd,ok.frames,ok.stk,ok.exf,ok.bs,ok.bsz,ok.noex,ok.exfs,ok.funs,ok.frf⟩
def Cx.Ok.unwish{X:Cx}{E:Value->Shared->Prop}(ok:(X.wish E).Ok):X.Ok:=
 ⟨ok.mod,ok.kind,ok.glob,ok.blt,ok.above,ok.inj,ok.has,ok.cab,ok.hd,ok.frames,ok.stk,ok.exf,ok.bs,ok.bsz,ok.noex,ok.exfs,ok.funs,ok.frf⟩
section
variable {X:Cx} {pins:List (Addr×Obj)} {σ:St} {H:Hp} {s:Shared} {E:Value->Shared->Prop}
def bY.wish(I:bY X pins σ H s)(E:Value->Shared->Prop):bY (X.wish E) pins σ H s:=⟨I.ok.wish E,I.os,I.bare,I.base,I.loc,I.cell,I.free,I.freeC,I.pin,I.hok,I.len⟩
def bY.unwish(I:bY (X.wish E) pins σ H s):bY X pins σ H s:=⟨I.ok.unwish,I.os,I.bare,I.base,I.loc,I.cell,I.free,I.freeC,I.pin,I.hok,I.len⟩
def SP.unwish{D:Ends}{f:Flow}{s':Shared}(h:SP (X.wish E) pins D f s'):SP X pins D f s':=by
 cases f with
 | next=>obtain⟨σ',H',I,q⟩:=h;exact⟨σ',H',I.unwish,q⟩
 | brk=>obtain⟨σ',H',I,q⟩:=h;exact⟨σ',H',I.unwish,q⟩
 | cont=>obtain⟨σ',H',I,q⟩:=h;exact⟨σ',H',I.unwish,q⟩
 | ret u=>obtain⟨v,σ',H',I,r,q⟩:=h;exact⟨v,σ',H',I.unwish,r,q⟩
def sL.nox{st:List Stmt}{t:TS}(h:sL X.nox st t):sL X st t:=λpins s σ H D I hw=>
 K1 (h pins s σ H D (I.wish _) hw) (λ_ _ q=>q.unwish) λ_ _ z=>False.elim z
end
section
variable {X:Cx} {st:Stmt} {rest:List Stmt} {t u:TS} {e:Expr} {te:TE} {pos:Pos}
def yY:TS:=λD σ H=>D.nx σ H
def DY(t u:TS):TS:=λD σ H=>t { D with nx:=u D } σ H
def B1:sL X [] yY:=λ_ _ σ H _ I h=>K3 ⟨σ,H,I,h⟩
def zK(h1:PS X st t)(h2:sL X rest u):sL X (st::rest) (DY t u):=by
 intro pins s σ H D I h;refine wpAny_execs_cons (dH (h1 pins s σ H { D with nx:=u D } I h) λf s1 q=>?_);cases f with
 | next=>
  obtain⟨σ',H',I',q⟩:=q;exact h2 pins s1 σ' H' D I' q
 | ret v=>exact q
 | brk=>exact q
 | cont=>exact q
def B0(h1:PS X st t):sL X [st] t:=by
 intro pins s σ H D I h;refine wpAny_execs_cons (dH (h1 pins s σ H D I h) λf s1 q=>?_);cases f with
 | next=>exact K3 q
 | ret v=>exact q
 | brk=>exact q
 | cont=>exact q
def D7:TS:=λD σ H=>D.bk σ H
def Fb:TS:=λD σ H=>D.ct σ H
def bY.quiet{pins:List (Addr×Obj)}{σ:St}{H:Hp}{s:Shared}(I:bY X pins σ H s):interactive X.env=false:=by simp[interactive,I.ok.kind]
def y1(te:TE):TS:=λD σ H=>te σ H λ_ H1=>D.nx σ H1
def B4(he:PE X e te)(hs:swapsWith e none pos.line X.env=pure false:=by rfl):PS X (.Expr e pos) (y1 te):=by
 intro pins s σ H D I h;exact wpAny_Expr_any (dH (he pins s σ H _ I h) λv s1 ⟨x,H1,I1,r1,q1⟩=>⟨σ,H1,I1,q1⟩) I.quiet hs
def D0(te:TE):TS:=λD σ H=>te σ H D.rt
def Ds(he:PE X e te):PS X (.Return (some e) pos) (D0 te):=by
 intro pins s σ H D I h;exact wpAny_Return_some (dH (he pins s σ H _ I h) λv s1 ⟨x,H1,I1,r1,q1⟩=>⟨x,σ,H1,I1,r1,q1⟩)
def Fa:TS:=λD _ H=>D.rt .non H
def D5(c:TT)(t u:TS):TS:=λD σ H=>c σ H λb H1=>if b=true then t D σ H1 else u D σ H1
def Fw{c:Expr}{a b:List Stmt}{tc:TT}(hc:PT X c tc)(ha:sL X a t)(hb:sL X b u):PS X (.If c a b pos) (D5 tc t u):=by
 intro pins s σ H D I h;refine wpAny_If (dH (hc pins s σ H _ I h) λd s1 ⟨H1,I1,q1⟩=>?_);cases d with
 | true=>exact ha pins s1 σ H1 D I1 q1
 | false=>exact hb pins s1 σ H1 D I1 q1
def yZ:TS:=λ_ _ _=>False
def zM:PS X st yZ:=λ_ _ _ _ _ _ h=>h.elim
end
abbrev TG:=V->St->Hp->(St->Hp->Prop)->Prop
abbrev ve:=List V->St->Hp->(St->Hp->Prop)->Prop
def PG(X:Cx)(target:Expr)(t:TG):Prop:=
 ∀(pins:List (Addr×Obj)) (s:Shared) (σ:St) (H:Hp) (v:V) (u:Value) (Q:St->Hp->Prop),bY X pins σ H s->RelV v u->t v σ H Q →
  wpAny (model X.prog X.w) X.A (assign target X.env u) (λ_ s'=>∃σ' H',bY X pins σ' H' s'/\Q σ' H') X.xe s
def FG(X:Cx)(ts:List Expr)(t:ve):Prop:=
 ∀(pins:List (Addr×Obj)) (s:Shared) (σ:St) (H:Hp) (vs:List V) (us:List Value) (Q:St->Hp->Prop),bY X pins σ H s->cE vs us->t vs σ H Q →
  wpAny (model X.prog X.w) X.A (assignInOrder ((assignEach ts X.env).map (·.2)) us) (λ_ s'=>∃σ' H',bY X pins σ' H' s'/\Q σ' H') X.xe s
abbrev Ah:=V->V->V->Hp->(Hp->Prop)->Prop
def Ep(X:Cx)(t:Ah):Prop:=
 ∀(pins:List (Addr×Obj)) (s:Shared) (σ:St) (H:Hp) (o i v:V) (ov iv u:Value) (Q:Hp->Prop),bY X pins σ H s->RelV o ov->RelV i iv->RelV v u->t o i v H Q →
  wpAny (model X.prog X.w) X.A (setItem ov iv u) (λ_ s'=>∃H',bY X pins σ H' s'/\Q H') X.xe s
abbrev FF:=V->V->Hp->VK->Prop
def Gv(X:Cx)(op:Operator)(t:FF):Prop:=
 ∀(pins:List (Addr×Obj)) (s:Shared) (σ:St) (H:Hp) (x y:V) (v u:Value) (Q:VK),bY X pins σ H s->RelV x v->RelV y u->t x y H Q →
  wpAny (model X.prog X.w) X.A (inplaceOp op v u) (EP X pins σ Q) X.xe s
section
variable {X:Cx} {pos:Pos}
def mZ(i:Nat):TG:=λv σ H Q=>Q (σ.set i (some v)) H
def Be{i:Nat}{x:Str}(hN:X.N.Nodup)(hi:X.N[i]? = some x)(hx:Loc X.env.scope x)(hf:X.fn x=true\/X.env.scope.names.lookup x=some .local:=by first | exact .inl rfl | exact .inr rfl | assumption):PG X (.Name x pos) (mZ i):=by
 intro pins s σ H v u Q I r h;exact wpAny_assign_Name (mz I hN hi hx r (λs' I'=>⟨_,H,I',h⟩) hf)
def Eh:ve:=λvs σ H Q=>vs=[]/\Q σ H
def A0(t:TG)(u:ve):ve:=λvs σ H Q=>∃v r,vs=v::r/\t v σ H λσ' H'=>u r σ' H' Q
def Bc:FG X [] Eh:=by
 intro pins s σ H vs us Q I r h;obtain⟨e,h⟩:=h;subst e;cases r;exact assignInOrder_nil ⟨σ,H,I,h⟩
def zQ{e:Expr}{es:List Expr}{t:TG}{u:ve}(h1:PG X e t)(h2:FG X es u)
  (hs:(assignEach (e::es) X.env).map (·.2)=assign e X.env::(assignEach es X.env).map (·.2):=by rfl):FG X (e::es) (A0 t u):=by
 intro pins s σ H vs us Q I r h;obtain⟨v,vr,e1,h⟩:=h;subst e1;cases r with
 | cons r rr=>
  rw[hs];refine assignInOrder_cons (dH (h1 pins s σ H _ _ _ I r h) λ_ s1 ⟨σ1,H1,I1,q1⟩=>?_);exact h2 pins s1 σ1 H1 _ _ Q I1 rr q1
def AZ(K:Kw)(n:Nat)(t:ve):TG:=λv σ H Q=>∃a xs,v=.ref a/\dr K H a xs/\xs.length=n/\t xs σ H Q
def zR{es:List Expr}{k:Nat}{t:ve}{n:Nat}(hc:X.calm=true)(h:FG X es t)
  (hn:(assignEach es X.env).length=n:=by rfl) (hst:(assignEach es X.env).findIdx? (·.1)=none:=by rfl):PG X (.Tuple es k pos) (AZ X.K n t):=by
 intro pins s σ H v u Q I r hw;obtain⟨a,xs,e1,hq,hl,hw⟩:=hw;subst e1;cases r;obtain⟨its,rv,ht,hz⟩:=I.tuple hq;refine assign_Tuple_tuple (I.ok.hd hc) ht (by simp[hn,<-hl,rv.length]) hst λh' hx=>?_;have I1:bY X pins σ H { s with heap:=h' }:=I.kept (t':=s.toks) λb o e=>hx b o (aq (aQ e)) e;exact h pins _ σ H xs _ Q I1 (by simpa using rv) hw
def Eg(to ti:TE)(t:Ah):TG:=λv σ H Q=>to σ H λo H1=>ti σ H1 λi H2=>t o i v H2 λH3=>Q σ H3
def EA{o i:Expr}{to ti:TE}{t:Ah}(ho:PE X o to)(hi:PE X i ti)(hs:Ep X t)
  (ha:∀v,assign (.Subscript o i pos) X.env v=(do
   let ov <-holding [v] (eval o X.env)
   let iv <-holding [v,ov] (eval i X.env)
   standAt pos
   holding [v,ov,iv] (setItem ov iv v)
   release [v,ov,iv] []):=by intro _;rfl):PG X (.Subscript o i pos) (Eg to ti t):=by
 intro pins s σ H v u Q I r h;rw[ha];refine wpAny_bind (K4 (dH (ho pins s σ H _ I h) λov s1 ⟨x,H1,I1,r1,q1⟩=>?_));refine wpAny_bind (K4 (dH (hi pins s1 σ H1 _ I1 q1) λiv s2 ⟨y,H2,I2,r2,q2⟩=>?_));refine wpAny_bind (wpAny_standAt (wpAny_bind (K4 (dH (hs pins s2 σ H2 x y v ov iv u _ I2 r1 r2 r q2) λ_ s3 ⟨H3,I3,q3⟩=>?_))));exact wpAny_release ⟨σ,H3,I3,q3⟩
def sZ(te:TE)(g:TG):TS:=λD σ H=>te σ H λx H1=>g x σ H1 D.nx
def Dv{tg e:Expr}{te:TE}{g:TG}(he:PE X e te)(hg:PG X tg g)(hs:swapsWithSole [tg] e pos.line X.env=pure false:=by rfl)(hw:swappedStores [tg] e X.env=pure none:=by rfl)
  (h1:(assignEach [tg] X.env).map (·.2)=[assign tg X.env]:=by rfl):PS X (.Assign [tg] e pos) (sZ te g):=by
 intro pins s σ H D I h;refine wpAny_Assign_stores (dH (he pins s σ H _ I h) λv s1 ⟨x,H1,I1,r1,q1⟩=>?_) hs hw;rw[h1];exact dH (hg pins s1 σ H1 x v _ I1 r1 q1) λ_ s2 q=>q
def Dr{i:Nat}{x:Str}{e:Expr}{te:TE}{pos':Pos}(hN:X.N.Nodup)(hi:X.N[i]? = some x)(hx:Loc X.env.scope x)(he:PE X e te)(hs:swapsWith e (some (.Name x pos')) pos.line X.env=pure false:=by rfl)(hf:X.fn x=true\/X.env.scope.names.lookup x=some .local:=by first | exact .inl rfl | exact .inr rfl | assumption):
  PS X (.Assign [.Name x pos'] e pos) (sZ te (mZ i)):=by
 intro pins s σ H D I h;refine wpAny_Assign_Name (dH (he pins s σ H _ I h) λv s1 ⟨y,H1,I1,r1,q1⟩=>?_) hs;exact mz I1 hN hi hx r1 (λs2 I2=>⟨_,H1,I2,q1⟩) hf
def D9(i:Nat)(te:TE)(ti:FF):TS:=λD σ H=>∃x,σ[i]? = some (some x)/\te σ H λy H1=>ti x y H1 λz H2=>D.nx (σ.set i (some z)) H2
def Du{i:Nat}{x:Str}{e:Expr}{te:TE}{op:Operator}{ti:FF}{pos':Pos}(hN:X.N.Nodup)(hi:X.N[i]? = some x)(hx:Loc X.env.scope x)(he:PE X e te)(ho:Gv X op ti)(hf:X.fn x=true\/X.env.scope.names.lookup x=some .local:=by first | exact .inl rfl | exact .inr rfl | assumption):
  PS X (.AugAssign (.Name x pos') op e pos) (D9 i te ti):=by
 intro pins s σ H D I h;obtain⟨v,e1,h⟩:=h;obtain⟨m,hn,hl⟩:=I.loc;have vis:FE X.env.scope x:=by rcases hx with k | k;exact .inl k;exact .inr (.inl k)
 obtain⟨u,r,l⟩:=hl i x v hi e1 vis;refine wpAny_AugAssign_Name ?_;have go:wpAny (model X.prog X.w) X.A (eval e X.env) (λw s₂=>wpAny (model X.prog X.w) X.A (inplaceOp op u w) (λr s₃=>wpAny (model X.prog X.w) X.A (storeName X.env x r) (λ_=>SP X pins D .next) X.xe s₃) X.xe s₂) X.xe s:=by
  refine dH (he pins s σ H _ I h) λw s1 ⟨y,H1,I1,r1,q1⟩=>?_;refine dH (ho pins s1 σ H1 v y u w _ I1 r r1 q1) λz s2 ⟨zv,H2,I2,r2,q2⟩=>?_;exact mz I2 hN hi hx r2 (λs3 I3=>⟨_,H2,I3,q2⟩) hf
 rcases l with ⟨hk,hm⟩ | ⟨hk,c,hc,hcell⟩
 ·exact wpAny_loadName_local I.ok.kind hk hn hm go
 ·rcases hk with hk | hk
  ·exact wpAny_loadName_cell I.ok.kind hk hc hcell go
  ·rcases hx with k | k
   ·have:X.env.scope.names.lookup x=some .free:=hk;rw[k] at this;cases this
   ·have:X.env.scope.names.lookup x=some .free:=hk;rw[k] at this;cases this
def HU(f:Int->Int->Int):FF:=λx y H Q=>∃i j,x=.int i/\y=.int j/\Q (.int (f i j)) H
def AR:Gv X .Add (HU λi j=>i+j):=by
 intro pins s σ H x y v u Q I r1 r2 h;obtain⟨i,j,e1,e2,q⟩:=h;subst e1;subst e2;obtain⟨t,rfl⟩:=r1;obtain⟨t',rfl⟩:=r2;exact iadd_int ⟨.int _,H,I.tok _,⟨_,rfl⟩,q⟩
def Ea:Gv X .Sub (HU λi j=>i-j):=by
 intro pins s σ H x y v u Q I r1 r2 h;obtain⟨i,j,e1,e2,q⟩:=h;subst e1;subst e2;obtain⟨t,rfl⟩:=r1;obtain⟨t',rfl⟩:=r2;exact isub_int ⟨.int _,H,I.tok _,⟨_,rfl⟩,q⟩
end
section
variable {X:Cx} {pos:Pos}
def yM(c:TT)(tb:TS):TS:=λD σ H=>∃W:Nat->St->Hp->Prop,(∃m,W m σ H)/\∀m σ H,W m σ H →
 c σ H λb H1=>if b=true then ∃N:St->Hp->Prop,(∀σ' H',N σ' H'->∃m',m'<m/\W m' σ' H')/\tb { D with nx:=N,ct:=N,bk:=D.nx } σ H1 else D.nx σ H1
def zL{c:Expr}{body:List Stmt}{tc:TT}{tb:TS}(hp:PassesOwn (model X.prog X.w) X.A X.env X.xe)(hc:PT X c tc)(hb:sL X body tb):PS X (.While c body [] pos) (yM tc tb):=by
 intro pins s σ H D I h;obtain⟨W,⟨m0,w0⟩,turn⟩:=h;refine wpAny_While (codeAny_whileLoop (λn s'=>∃σ' H',bY X pins σ' H' s'/\W n σ' H') ?_ m0 ⟨σ,H,I,w0⟩);rintro n s1 ⟨σ1,H1,I1,w1⟩;refine K5 hp (dH (hc pins s1 σ1 H1 _ I1 (turn n σ1 H1 w1)) λb s2 ⟨H2,I2,q2⟩=>?_);cases b with
 | true=>
  obtain⟨N,hN,q2⟩:=q2;rw[Ko rfl];refine K5 hp (dH (hb pins s2 σ1 H2 _ I2 q2) λf s3 q3=>?_);cases f with
  | next=>
   obtain⟨σ3,H3,I3,n3⟩:=q3;obtain⟨m',hm,w3⟩:=hN σ3 H3 n3;exact⟨m',hm,σ3,H3,I3,w3⟩
  | cont=>
   obtain⟨σ3,H3,I3,n3⟩:=q3;obtain⟨m',hm,w3⟩:=hN σ3 H3 n3;exact⟨m',hm,σ3,H3,I3,w3⟩
  | brk=>exact q3
  | ret v=>exact q3
 | false=>
  rw[Kn bD];exact K3 ⟨σ1,H2,I2,q2⟩
end
structure It where
 go:Nat->Hp->Prop
 yld:Nat->Hp->V->Hp->Prop
 stop:Nat->Hp->Prop
def l3(X:Cx)(pins:List (Addr×Obj))(H:Hp)(b:Addr):Prop:=
 H b=none/\b≠X.env.locals/\b∉X.fs/\(b∈X.ex\/X.s₀.heap.objs.size<=b)/\(∀x c,X.env.cells.lookup x=some c->c≠b)/\∀p∈X.pn++pins,p.1≠b
def bY.fpOk{X:Cx}{pins:List (Addr×Obj)}{σ:St}{H H':Hp}{s:Shared}{b:Addr}(I:bY X pins σ H s)(hb:s.heap.objs.size<=b)(hn:H' b=none):l3 X pins H' b:=by
 refine⟨hn,fo (aU I.lt hb),I.nofs hb,.inr (av I.sz hb),λx c e z=>?_,λp hp z=>?_⟩
 ·obtain⟨v,q⟩:=I.cell x c e;exact absurd (aU q.lt (by rw[z];exact hb)) (c7 _)
 ·exact absurd (aU (aQ (I.pin p hp).1) (by rw[z];exact hb)) (c7 _)
structure Turn (P : Program) (w : World) (K : Kw) (tg : Expr) (J : It) (fp : List Addr) (it : Addr) (tn : Nat → Heap → Prop) : Prop where
  mem : it ∈ fp
  obj : ∀ i h, tn i h → ∀ b ∈ fp, ∃ o, h.get? b = some o ∧ ∀ v, o.data ≠ .cell v
  keep : ∀ i h h', tn i h → (∀ b ∈ fp, ∀ o, h.get? b = some o → h'.get? b = some o) → tn i h'
  item : ∀ (X : Cx), X.prog = P → X.w = w → X.K = K → X.calm = true → ∀ (i : Nat) (pins : List (Addr × Obj)) (s : Shared) (σ : St) (H : Hp) (E : Value → Shared → Prop), bY X pins σ H s → (∀ b ∈ fp, l3 X pins H b) → tn i s.heap → J.go i H →
    wpAny (model P w) X.A (pyNext (.ref it)) (fun r s1 => ∃ u, r = some u ∧
      wpAny (model P w) X.A (letOwnedTupleGo tg (.ref it) u) (fun _ s2 => ∃ x H', bY X pins σ H' s2 ∧ RelV x u ∧ J.yld i H x H' ∧ tn (i + 1) s2.heap ∧ ∀ b ∈ fp, H' b = none) E s1) E s
  done : ∀ (X : Cx), X.prog = P → X.w = w → X.K = K → X.calm = true → ∀ (i : Nat) (pins : List (Addr × Obj)) (s : Shared) (σ : St) (H : Hp) (E : Value → Shared → Prop), bY X pins σ H s → (∀ b ∈ fp, l3 X pins H b) → tn i s.heap → J.stop i H →
    wpAny (model P w) X.A (pyNext (.ref it)) (fun r s1 => r = none ∧ bY X pins σ H s1) E s
  self : ∀ (A : Around) (i : Nat) (s : Shared) (Q : Value → Shared → Prop) (E : Value → Shared → Prop), tn i s.heap → Q (.ref it) s → wpAny (model P w) A (pyIter (.ref it)) Q E s
abbrev TI:=St->Hp->(It->Hp->Prop)->Prop
def Gw(X:Cx)(pins:List (Addr×Obj))(σ:St)(tg:Expr)(R:It->Hp->Prop)(itv:Value)(s2:Shared):Prop:=
 ∃(it:Addr) (fp:List Addr) (tn:Nat->Heap->Prop) (J:It) (H':Hp),itv=.ref it/\bY X pins σ H' s2/\Turn X.prog X.w X.K tg J fp it tn/\tn 0 s2.heap/\(∀b∈fp,l3 X pins H' b)/\R J H'
def PI(X:Cx)(tg iter:Expr)(wi:TI):Prop:=
 ∀(pins:List (Addr×Obj)) (s:Shared) (σ:St) (H:Hp) (R:It->Hp->Prop),bY X pins σ H s->wi σ H R →
  wpAny (model X.prog X.w) X.A (eval iter X.env) (λv s1=>wpAny (model X.prog X.w) X.A (pyIter v) (Gw X pins σ tg R) X.xe s1) X.xe s
def pA {M : Model} {A : Around} {E : Value → Shared → Prop} {s : Shared} {tg : Expr} {it : Addr} {u : Value} {o : Obj} {n : String} {vs : Array Value} {Q : Unit → Shared → Prop} (ho : s.heap.get? it = some o) (hc : o.cls = .type n) (hd : o.data = .fields vs)
    (hn : ["enumerate", "zip", "dict_itemiterator", "dict_reverseitemiterator", "odict_iterator", "itertools.zip_longest", "itertools.pairwise"].contains n = false) (hQ : Q () s) : wpAny M A (letOwnedTupleGo tg (.ref it) u) Q E s := by
  unfold letOwnedTupleGo
  cases tg <;> first
    | exact K6 hQ
    | (cases u <;> first
        | exact K6 hQ
        | (refine wpAny_bind (wpAny_load ho ?_)
           rw [hc, hd]
           show wpAny M A (if (["enumerate", "zip", "dict_itemiterator", "dict_reverseitemiterator", "odict_iterator", "itertools.zip_longest", "itertools.pairwise"].contains n && vs[0]? == some (rawInt _)) = true then _ else _) Q E s
           rw [Kn (by intro h; rw [hn, k5] at h; cases h)]
           exact K6 hQ))
def C7(K:Kw)(a:Addr):It:=
 ⟨λi H=>∃xs x,cL K H a xs/\xs[i]? = some x,λi H x H'=>H'=H/\∀xs,cL K H a xs->xs[i]? = some x,λi H=>∃xs,cL K H a xs/\xs.length<=i⟩
def Ew(K:Kw)(a:Addr):It:=
 ⟨λi H=>∃xs x,dr K H a xs/\xs[i]? = some x,λi H x H'=>H'=H/\∀xs,dr K H a xs->xs[i]? = some x,λi H=>∃xs,dr K H a xs/\xs.length<=i⟩
def Al(lo:Int)(n:Nat):It:=⟨λi _=>i<n,λi H x H'=>H'=H/\x=.int (lo+i),λi _=>n<=i⟩
def vj {P : Program} {w : World} {K : Kw} {tg : Expr} (a it : Addr) : Turn P w K tg (C7 K a) [it] it (fun i h => h.IsListIter it a i) where
  mem := by simp
  obj := fun i h st b hb => by
    have e : b = it := by simpa using hb
    subst e
    obtain ⟨o, e, c, d⟩ := st
    exact ⟨o, e, fun v z => by rw [d] at z; cases z⟩
  keep := fun i h h' st k => st.at fun o e => k it (by simp) o e
  item := by
    intro X hP hw hK hc i pins s σ H E I hf st hg
    subst hP hw hK
    obtain ⟨xs, x, hq, hx⟩ := hg
    obtain ⟨its, rv, p, hz⟩ := I.list hq
    obtain ⟨u, hu, ru⟩ := rv.get hx
    obtain ⟨f0, f1, f2, f3, f4, f5⟩ := hf it (by simp)
    refine wpAny_pyNext_list_item st p.isList (x := u) (by simpa using hu) fun h' st' sb => ?_
    have I1 : bY X pins σ H { s with heap := h' } := I.turned (t' := s.toks) (fun b o hb e => (sb.2 b hb).trans e) f0 f1 f3 f4 f5
    obtain ⟨o, e, c, d⟩ := id st'
    exact ⟨u, rfl, pA (s := { s with heap := h' }) e c d (by decide) ⟨x, H, I1, ru, ⟨rfl, fun ys hy => by rw [I.list_inj hy hq]; exact hx⟩, st', fun b hb => (hf b hb).1⟩⟩
  done := by
    intro X hP hw hK hc i pins s σ H E I hf st hg
    subst hP hw hK
    obtain ⟨xs, hq, hx⟩ := hg
    obtain ⟨its, rv, p, hz⟩ := I.list hq
    obtain ⟨f0, f1, f2, f3, f4, f5⟩ := hf it (by simp)
    have hl := rv.length
    exact wpAny_pyNext_list_end (I.ok.hd hc) st p.isList (by simp; lia) fun h' eb => ⟨rfl, I.turned (t' := s.toks) (fun b o hb e => eb b o hb e) f0 f1 f3 f4 f5⟩
  self := fun _ _ _ _ _ st h => wpAny_pyIter_listiter st h
def sT {P : Program} {w : World} {K : Kw} {tg : Expr} (a it : Addr) : Turn P w K tg (Ew K a) [it] it (fun i h => h.IsTupleIter it a i) where
  mem := by simp
  obj := fun i h st b hb => by
    have e : b = it := by simpa using hb
    subst e
    obtain ⟨o, e, c, d⟩ := st
    exact ⟨o, e, fun v z => by rw [d] at z; cases z⟩
  keep := fun i h h' st k => st.at fun o e => k it (by simp) o e
  item := by
    intro X hP hw hK hc i pins s σ H E I hf st hg
    subst hP hw hK
    obtain ⟨xs, x, hq, hx⟩ := hg
    obtain ⟨its, rv, p, hz⟩ := I.tuple hq
    obtain ⟨u, hu, ru⟩ := rv.get hx
    obtain ⟨f0, f1, f2, f3, f4, f5⟩ := hf it (by simp)
    refine wpAny_pyNext_tuple_item st (show s.heap.IsTuple a its.toArray from p) (x := u) (by simpa using hu) fun h' st' sb => ?_
    have I1 : bY X pins σ H { s with heap := h' } := I.turned (t' := s.toks) (fun b o hb e => (sb.2 b hb).trans e) f0 f1 f3 f4 f5
    obtain ⟨o, e, c, d⟩ := id st'
    exact ⟨u, rfl, pA (s := { s with heap := h' }) e c d (by decide) ⟨x, H, I1, ru, ⟨rfl, fun ys hy => by rw [I.tuple_inj hy hq]; exact hx⟩, st', fun b hb => (hf b hb).1⟩⟩
  done := by
    intro X hP hw hK hc i pins s σ H E I hf st hg
    subst hP hw hK
    obtain ⟨xs, hq, hx⟩ := hg
    obtain ⟨its, rv, p, hz⟩ := I.tuple hq
    obtain ⟨f0, f1, f2, f3, f4, f5⟩ := hf it (by simp)
    have hl := rv.length
    exact wpAny_pyNext_tuple_end (I.ok.hd hc) st (show s.heap.IsTuple a its.toArray from p) (by simp; lia) fun h' eb => ⟨rfl, I.turned (t' := s.toks) (fun b o hb e => eb b o hb e) f0 f1 f3 f4 f5⟩
  self := fun _ _ _ _ _ st h => wpAny_pyIter_tupleiter st h
def sU {P : Program} {w : World} {K : Kw} {tg : Expr} (it : Addr) (lo : Int) (n : Nat) : Turn P w K tg (Al lo n) [it] it (fun i h => IsRangeIter h it (lo + (i : Nat) * 1) ((n : Int) - (i : Nat)) 1) where
  mem := by simp
  obj := fun i h st b hb => by
    have e : b = it := by simpa using hb
    subst e
    exact ⟨_, st, fun v z => by
      have z' : Data.fields _ = Data.cell v := z
      cases z'⟩
  keep := fun i h h' st k => k it (by simp) _ st
  item := by
    intro X hP hw hK hc i pins s σ H E I hf st hg
    subst hP hw hK
    obtain ⟨f0, f1, f2, f3, f4, f5⟩ := hf it (by simp)
    have W := Walks.range (prog := X.prog) (w := X.w) (I.ok.hd hc) it lo 1 n
    refine W.item i s _ _ hg st fun v h' tk hv st' kk => ?_
    obtain ⟨t, rfl⟩ := hv
    have I1 : bY X pins σ H { s with heap := h', toks := tk } := I.turned (fun b o hb e => kk b o (by simpa using hb) e) f0 f1 f3 f4 f5
    refine ⟨_, rfl, pA (s := { s with heap := h', toks := tk }) (n := "range_iterator") st' rfl rfl (by decide) ⟨.int (lo + i), H, I1, ⟨t, ?_⟩, ⟨rfl, rfl⟩, st', fun b hb => (hf b hb).1⟩⟩
    rw [Int.mul_one]
  done := by
    intro X hP hw hK hc i pins s σ H E I hf st hg
    subst hP hw hK
    obtain ⟨f0, f1, f2, f3, f4, f5⟩ := hf it (by simp)
    exact K7 (I.ok.hd hc) st (by have : n ≤ i := hg; lia) fun h' eb => ⟨rfl, I.turned (t' := s.toks) (fun b o hb e => eb b o hb e) f0 f1 f3 f4 f5⟩
  self := fun _ _ _ _ _ st h => K8 st h
section
variable {X:Cx} {tg:Expr}
def vU(K:Kw)(tl:TE):TI:=λσ H R=>tl σ H λx H1=>∃a,x=.ref a/\(∃xs,cL K H1 a xs)/\R (C7 K a) H1
def CL(K:Kw)(tl:TE):TI:=λσ H R=>tl σ H λx H1=>∃a,x=.ref a/\(∃xs,dr K H1 a xs)/\R (Ew K a) H1
def Ba{l:Expr}{tl:TE}(hl:PE X l tl):PI X tg l (vU X.K tl):=by
 intro pins s σ H R I h;refine dH (hl pins s σ H _ I h) λv s1 ⟨x,H1,I1,r1,q1⟩=>?_;obtain⟨a,e,⟨xs,hq⟩,q⟩:=q1;subst e;cases r1;obtain⟨its,rv,p,hz⟩:=I1.list hq;refine wpAny_pyIter_list p.isList ?_;refine⟨s1.heap.objs.size,[s1.heap.objs.size],_,_,H1,rfl,I1.kept (t':=s1.toks) λb o e=>aA _ e,vj a _,⟨_,aR _ rfl,rfl,rfl⟩,λb hb=>?_,q⟩;have e:b=s1.heap.objs.size:=by simpa using hb
 subst e;exact I1.fpOk (aE _) (I1.hok.fresh (aE _))
def Dy{l:Expr}{tl:TE}(hl:PE X l tl):PI X tg l (CL X.K tl):=by
 intro pins s σ H R I h;refine dH (hl pins s σ H _ I h) λv s1 ⟨x,H1,I1,r1,q1⟩=>?_;obtain⟨a,e,⟨xs,hq⟩,q⟩:=q1;subst e;cases r1;obtain⟨its,rv,p,hz⟩:=I1.tuple hq;refine wpAny_pyIter_tuple (show s1.heap.IsTuple a its.toArray from p) ?_;refine⟨s1.heap.objs.size,[s1.heap.objs.size],_,_,H1,rfl,I1.kept (t':=s1.toks) λb o e=>aA _ e,sT a _,⟨_,aR _ rfl,rfl,rfl⟩,λb hb=>?_,q⟩;have e:b=s1.heap.objs.size:=by simpa using hb
 subst e;exact I1.fpOk (aE _) (I1.hok.fresh (aE _))
def rA{pins:List (Addr×Obj)}{σ:St}{H:Hp}{s:Shared}{R:It->Hp->Prop}{E:Value->Shared->Prop}{lo hi:Int}{t u v:Tok}{tk:Nat}(I:bY X pins σ H s)(h1:-(2 ^ 62)<=lo)(h2:lo<2 ^ 62)(h3:-(2 ^ 62)<=hi)(h4:hi<2 ^ 62)
  (q:R (Al lo (hi-lo).toNat) H):wpAny (model X.prog X.w) X.A (pyIter (.ref s.heap.objs.size)) (Gw X pins σ tg R) E { s with heap:=s.heap.push { cls:=.type "range",data:=.fields #[.int lo t,.int hi u,.int 1 v] },toks:=tk }:=by
 refine K9 (IsRange.new ..) (small_one h1 h2 h3 h4) ?_;have I1:bY X pins σ H { s with heap:=s.heap.push { cls:=.type "range",data:=.fields #[.int lo t,.int hi u,.int 1 v] },toks:=tk }:=I.kept λb o e=>aA _ e;refine⟨(s.heap.push { cls:=.type "range",data:=.fields #[.int lo t,.int hi u,.int 1 v] }).objs.size,[(s.heap.push { cls:=.type "range",data:=.fields #[.int lo t,.int hi u,.int 1 v] }).objs.size],_,_,H,rfl,
  I1.kept (t':=tk) λb o e=>aA _ e,sU _ lo (hi-lo).toNat,?_,λb hb=>?_,q⟩
 ·have e1:lo+((0:Nat):Int)*1=lo:=by simp
  have e2:(((hi-lo).toNat:Nat):Int)-((0:Nat):Int)=Builtin.Range.rangeSize lo hi 1:=by rw[rangeSize_one];split<;>lia
  show IsRangeIter _ _ (lo+((0:Nat):Int)*1) ((((hi-lo).toNat:Nat):Int)-((0:Nat):Int)) 1;rw[e1,e2];exact aR _ rfl
 ·have e:b=(s.heap.push { cls:=.type "range",data:=.fields #[.int lo t,.int hi u,.int 1 v] }).objs.size:=by simpa using hb
  subst e;exact I1.fpOk (aE _) (I1.hok.fresh (aE _))
def vT(ta:TA):TI:=λσ H R=>ta σ H λvs H1=>∃j:Int,vs=[.int j]/\-(2 ^ 62)<=j/\j<2 ^ 62/\R (Al 0 j.toNat) H1
def vS(ta:TA):TI:=λσ H R=>ta σ H λvs H1=>∃i j:Int,vs=[.int i,.int j]/\(-(2 ^ 62)<=i/\i<2 ^ 62/\-(2 ^ 62)<=j/\j<2 ^ 62)/\R (Al i (j-i).toNat) H1
def wQ {a:Expr} {ta:TA} {p pos:Pos} (hg:Gl X "range") (hm:X.mg "range"=none) (ha:PA X [a] ta) (hs:starEach [a] X.env=[(false,eval a X.env)]:=by rfl):PI X tg (.Call (.Name "range" p) [a] [] pos) (vT ta):=by
 intro pins s σ H R I h;refine Call_ (iR I hg hm boot_range (bS (dH (ha pos pins s σ H _ I h) λus s1 ⟨vs,H1,I1,r1,q1⟩=>?_) hs rfl));obtain⟨j,e,q1,q2,q⟩:=q1;subst e;cases r1 with
 | cons r rr=>
  cases rr;obtain⟨t,rfl⟩:=r;exact call_range_1 (rA I1 (by lia) (by lia) q1 q2 (by simpa using q))
def wO {a b:Expr} {ta:TA} {p pos:Pos} (hg:Gl X "range") (hm:X.mg "range"=none) (ha:PA X [a,b] ta) (hs:starEach [a,b] X.env=[(false,eval a X.env),(false,eval b X.env)]:=by rfl) (hs2:starEach [b] X.env=[(false,eval b X.env)]:=by rfl) :
  PI X tg (.Call (.Name "range" p) [a,b] [] pos) (vS ta):=by
 intro pins s σ H R I h;refine Call_ (iR I hg hm boot_range (bS (dH (ha pos pins s σ H _ I h) λus s1 ⟨vs,H1,I1,r1,q1⟩=>?_) (by rw[hs,hs2]) (by rw[hs2];rfl)));obtain⟨i,j,e,⟨q1,q2,q3,q4⟩,q⟩:=q1;subst e;cases r1 with
 | cons r rr=>
  cases rr with
  | cons r' rr=>
   cases rr;obtain⟨t,rfl⟩:=r;obtain⟨t',rfl⟩:=r';exact call_range_2 (rA I1 q1 q2 q3 q4 q)
def mI(wi:TI)(g:TG)(tb:TS):TS:=λD σ H=>wi σ H λJ H1=>∃W:Nat->Nat->St->Hp->Prop,(∃m,W 0 m σ H1)/\∀i m σ H,W i m σ H →
 (J.stop i H/\D.nx σ H)\/(J.go i H/\∃N:St->Hp->Prop,(∀σ' H',N σ' H'->∃m',m'<m/\W (i+1) m' σ' H')/\∀x H',J.yld i H x H'->g x σ H' λσ2 H2=>tb { D with nx:=N,ct:=N,bk:=D.nx } σ2 H2)
def j4(fp:List Addr)(h:Heap):List (Addr×Obj):=fp.filterMap λb=>(h.get? b).map λo=>(b,o)
def iQ{fp:List Addr}{h:Heap}{b:Addr}{o:Obj}(hb:b∈fp)(e:h.get? b=some o):(b,o)∈j4 fp h:=iT.mpr ⟨b,hb,by rw[e];rfl⟩
def ol{fp:List Addr}{h:Heap}{p:Addr×Obj}(hp:p∈j4 fp h):p.1∈fp/\h.get? p.1=some p.2:=by
 obtain⟨b,hb,e⟩:=iT.mp hp;cases q:h.get? b with
 | none=>rw[q] at e;cases e
 | some o=>
  rw[q] at e;have e':(b,o)=p:=aa e;subst e';exact⟨hb,q⟩
def bY.pinned{pins:List (Addr×Obj)}{σ:St}{H:Hp}{s:Shared}{fp:List Addr}(I:bY X pins σ H s)(hf:∀b∈fp,l3 X pins H b)(ho:∀b∈fp,∃o,s.heap.get? b=some o/\∀v,o.data≠.cell v):bY X (pins++j4 fp s.heap) σ H s:=
 I.pins_of λp hp=>(aL.mp hp).elim (λz=>I.pin p (af _ z)) λz=>by
  obtain⟨hb,e⟩:=ol z;obtain⟨f0,f1,f2,_⟩:=hf p.1 hb;obtain⟨o,e',d⟩:=ho p.1 hb;rw[e] at e';cases e';exact⟨e,f0,f1,f2,d⟩
def bY.unpinned{pins pl:List (Addr×Obj)}{σ:St}{H:Hp}{s:Shared}(I:bY X (pins++pl) σ H s):bY X pins σ H s:=I.pins_of λp hp=>I.pin p (af _ (bM _ hp))
def Dt{iter:Expr}{body:List Stmt}{wi:TI}{g:TG}{tb:TS}{pos:Pos}(hp:PassesOwn (model X.prog X.w) X.A X.env X.xe)(hc:X.calm=true)(hi:PI X tg iter wi)(hg:PG X tg g)(hb:sL X body tb)
  (hs:∀x,foldedSetIterable iter X.env x=pure x:=by intro _;rfl):PS X (.For tg iter body [] pos) (mI wi g tb):=by
 intro pins s σ H D I h;refine wpAny_For (dH (hi pins s σ H _ I h) λv s1 h1=>dH h1 λitv s2 h2=>?_) hs;obtain⟨it,fp,tn,J,H2,e,I2,T,st2,f2,W,⟨m0,w0⟩,turn⟩:=h2;subst e;have stat:∀{H':Hp},(∀b∈fp,H' b=none)->∀b∈fp,l3 X pins H' b:=λhn b hb=>⟨hn b hb,(f2 b hb).2⟩
 refine codeAny_forLoop_any (λn s'=>∃i σ' H',bY X pins σ' H' s'/\tn i s'.heap/\(∀b∈fp,H' b=none)/\W i n σ' H') ?_ m0 ⟨0,σ,H2,I2,st2,λb hb=>(f2 b hb).1,w0⟩;rintro n s3 ⟨i,σ3,H3,I3,st3,fr3,w3⟩;rcases turn i n σ3 H3 w3 with ⟨stop,qn⟩ | ⟨go,N,hN,step⟩
 ·refine K5 hp (dH (T.done X rfl rfl rfl hc i pins s3 σ3 H3 X.xe I3 (stat fr3) st3 stop) λr s4 ⟨hr,I4⟩=>?_);subst hr;exact K3 ⟨σ3,H3,I4,qn⟩
 ·refine K5 hp (dH (T.item X rfl rfl rfl hc i pins s3 σ3 H3 X.xe I3 (stat fr3) st3 go) λr s4 ⟨u,hr,h4⟩=>?_);subst hr;refine K5 hp (dH h4 λ_ s5 ⟨x,H5,I5,r5,y5,st5,fr5⟩=>?_);have I5':=I5.pinned (stat fr5) (T.obj _ _ st5);refine K5 hp (dH (hg _ s5 σ3 H5 x u _ I5' r5 (step x H5 y5)) λ_ s6 ⟨σ6,H6,I6,q6⟩=>?_);refine K5 hp (dH (hb _ s6 σ6 H6 _ I6 q6) λf s7 q7=>?_);have again:∀{σ7:St} {H7:Hp},bY X (pins++j4 fp s5.heap) σ7 H7 s7->N σ7 H7->∃m,m<n/\∃i σ' H',bY X pins σ' H' s7/\tn i s7.heap/\(∀b∈fp,H' b=none)/\W i m σ' H':=fun {σ7 H7} I7 n7=>by
   obtain⟨m',hm,w7⟩:=hN σ7 H7 n7;refine⟨m',hm,i+1,σ7,H7,I7.unpinned,T.keep _ _ _ st5 λb hb o e=>(I7.pin (b,o) (af _ (af _ (iQ hb e)))).1,λb hb=>?_,w7⟩;obtain⟨o,e,d⟩:=T.obj _ _ st5 b hb;exact(I7.pin (b,o) (af _ (af _ (iQ hb e)))).2.1
  cases f with
  | next=>obtain⟨σ7,H7,I7,n7⟩:=q7;exact again I7 n7
  | cont=>obtain⟨σ7,H7,I7,n7⟩:=q7;exact again I7 n7
  | brk=>obtain⟨σ7,H7,I7,q7⟩:=q7;exact⟨σ7,H7,I7.unpinned,q7⟩
  | ret v=>obtain⟨x7,σ7,H7,I7,r7,q7⟩:=q7;exact⟨x7,σ7,H7,I7.unpinned,r7,q7⟩
end
def kU{K:Kw}{a:Addr}{xs:List V}{g:TG}{tb:TS}{D:Ends}{σ:St}{H:Hp}(Pv:Nat->St->Hp->Prop)(h0:Pv 0 σ H)(hl:∀i σ H,i<=xs.length->Pv i σ H->cL K H a xs)
  (hs:∀i x σ H,xs[i]? = some x->Pv i σ H->g x σ H λσ2 H2=>tb { D with nx:=Pv (i+1),ct:=Pv (i+1),bk:=D.nx } σ2 H2) (hd:∀σ H,Pv xs.length σ H->D.nx σ H) :
  ∃W:Nat->Nat->St->Hp->Prop,(∃m,W 0 m σ H)/\∀i m σ H,W i m σ H →
   ((C7 K a).stop i H/\D.nx σ H)\/((C7 K a).go i H/\∃N:St->Hp->Prop,(∀σ' H',N σ' H'->∃m',m'<m/\W (i+1) m' σ' H')/\∀x H',(C7 K a).yld i H x H'->g x σ H' λσ2 H2=>tb { D with nx:=N,ct:=N,bk:=D.nx } σ2 H2):=by
 refine⟨λi m σ H=>m=xs.length-i/\i<=xs.length/\Pv i σ H,⟨xs.length,by simp,bE _,h0⟩,?_⟩;rintro i m σ H ⟨rfl,hi,p⟩;have q:=hl i σ H hi p;by_cases hlt:i<xs.length
 ·refine .inr ⟨⟨xs,xs[i],q,by simp[hlt]⟩,Pv (i+1),λσ' H' p'=>⟨xs.length-(i+1),by lia,rfl,hlt,p'⟩,λx H' y=>?_⟩;obtain⟨e,y⟩:=y;subst e;exact hs i x σ _ (y xs q) p
 ·have e:i=xs.length:=by lia
  subst e;exact .inl ⟨⟨xs,q,aE _⟩,hd σ H p⟩
def CQ{K:Kw}{a:Addr}{xs:List V}{g:TG}{tb:TS}{D:Ends}{σ:St}{H:Hp}(Pv:Nat->St->Hp->Prop)(h0:Pv 0 σ H)(hl:∀i σ H,i<=xs.length->Pv i σ H->dr K H a xs)
  (hs:∀i x σ H,xs[i]? = some x->Pv i σ H->g x σ H λσ2 H2=>tb { D with nx:=Pv (i+1),ct:=Pv (i+1),bk:=D.nx } σ2 H2) (hd:∀σ H,Pv xs.length σ H->D.nx σ H) :
  ∃W:Nat->Nat->St->Hp->Prop,(∃m,W 0 m σ H)/\∀i m σ H,W i m σ H →
   ((Ew K a).stop i H/\D.nx σ H)\/((Ew K a).go i H/\∃N:St->Hp->Prop,(∀σ' H',N σ' H'->∃m',m'<m/\W (i+1) m' σ' H')/\∀x H',(Ew K a).yld i H x H'->g x σ H' λσ2 H2=>tb { D with nx:=N,ct:=N,bk:=D.nx } σ2 H2):=by
 refine⟨λi m σ H=>m=xs.length-i/\i<=xs.length/\Pv i σ H,⟨xs.length,by simp,bE _,h0⟩,?_⟩;rintro i m σ H ⟨rfl,hi,p⟩;have q:=hl i σ H hi p;by_cases hlt:i<xs.length
 ·refine .inr ⟨⟨xs,xs[i],q,by simp[hlt]⟩,Pv (i+1),λσ' H' p'=>⟨xs.length-(i+1),by lia,rfl,hlt,p'⟩,λx H' y=>?_⟩;obtain⟨e,y⟩:=y;subst e;exact hs i x σ _ (y xs q) p
 ·have e:i=xs.length:=by lia
  subst e;exact .inl ⟨⟨xs,q,aE _⟩,hd σ H p⟩
def kn{lo:Int}{n:Nat}{g:TG}{tb:TS}{D:Ends}{σ:St}{H:Hp}(Pv:Nat->St->Hp->Prop)(h0:Pv 0 σ H)
  (hs:∀i σ H,i<n->Pv i σ H->g (.int (lo+i)) σ H λσ2 H2=>tb { D with nx:=Pv (i+1),ct:=Pv (i+1),bk:=D.nx } σ2 H2) (hd:∀σ H,Pv n σ H->D.nx σ H) :
  ∃W:Nat->Nat->St->Hp->Prop,(∃m,W 0 m σ H)/\∀i m σ H,W i m σ H →
   ((Al lo n).stop i H/\D.nx σ H)\/((Al lo n).go i H/\∃N:St->Hp->Prop,(∀σ' H',N σ' H'->∃m',m'<m/\W (i+1) m' σ' H')/\∀x H',(Al lo n).yld i H x H'->g x σ H' λσ2 H2=>tb { D with nx:=N,ct:=N,bk:=D.nx } σ2 H2):=by
 refine⟨λi m σ H=>m=n-i/\i<=n/\Pv i σ H,⟨n,by simp,bE _,h0⟩,?_⟩;rintro i m σ H ⟨rfl,hi,p⟩;by_cases hlt:i<n
 ·refine .inr ⟨hlt,Pv (i+1),λσ' H' p'=>⟨n-(i+1),by lia,rfl,hlt,p'⟩,λx H' y=>?_⟩;obtain⟨e,y⟩:=y;subst e y;exact hs i σ _ hlt p
 ·have e:i=n:=by lia
  subst e;exact .inl ⟨aE _,hd σ H p⟩
abbrev R2:=V->V->Hp->VK->Prop
def jY(X:Cx)(f:Value->Value->Sem Value)(r:R2):Prop:=
 ∀(pins:List (Addr×Obj)) (s:Shared) (σ:St) (H:Hp) (x y:V) (v u:Value) (Q:VK),bY X pins σ H s->RelV x v->RelV y u->r x y H Q →
  wpAny (model X.prog X.w) X.A (f v u) (EP X pins σ Q) X.xe s
def Gs(X:Cx)(f:Value->Sem Value)(r:V->Hp->VK->Prop):Prop:=
 ∀(pins:List (Addr×Obj)) (s:Shared) (σ:St) (H:Hp) (x:V) (v:Value) (Q:VK),bY X pins σ H s->RelV x v->r x H Q →
  wpAny (model X.prog X.w) X.A (f v) (EP X pins σ Q) X.xe s
def fg(X:Cx)(f:Value)(r:List V->Hp->VK->Prop):Prop:=
 ∀(pins:List (Addr×Obj)) (s:Shared) (σ:St) (H:Hp) (xs:List V) (us:List Value) (Q:VK),bY X pins σ H s->cE xs us->r xs H Q →
  wpAny (model X.prog X.w) X.A (call f us) (EP X pins σ Q) X.xe s
def HX(X:Cx)(r:V->Hp->(Bool->Hp->Prop)->Prop):Prop:=
 ∀(pins:List (Addr×Obj)) (s:Shared) (σ:St) (H:Hp) (x:V) (v:Value) (Q:Bool->Hp->Prop),bY X pins σ H s->RelV x v->r x H Q →
  wpAny (model X.prog X.w) X.A (truthy v) (TP X pins σ Q) X.xe s
def yO(r:R2)(ta tb:TE):TE:=λσ H Q=>ta σ H λx H1=>tb σ H1 λy H2=>r x y H2 Q
def HB(r:V->Hp->VK->Prop)(ta:TE):TE:=λσ H Q=>ta σ H λx H1=>r x H1 Q
def rI(C:Int->Int->Prop)(g:Int->Int->V):R2:=λx y H Q=>∃i j,x=.int i/\y=.int j/\C i j/\Q (g i j) H
def BV(g:Int->Int->V):R2:=λx y H Q=>∃i j,x=.int i/\y=.int j/\Q (g i j) H
def rU(g:Int->V):V->Hp->VK->Prop:=λx H Q=>∃i,x=.int i/\Q (g i) H
section
variable {X:Cx} {a b:Expr} {ta tb:TE} {pos:Pos}
def El(ha:PE X a ta)(hb:PE X b tb){pins:List (Addr×Obj)}{s:Shared}{σ:St}{H:Hp}{R:V->V->Hp->Prop}(I:bY X pins σ H s)
  (h:ta σ H λx H1=>tb σ H1 λy H2=>R x y H2) {Q:Value->Shared->Prop} {f:Value->Value->Sem Value}
  (hf:∀v u s2 x y H2,bY X pins σ H2 s2->RelV x v->RelV y u->R x y H2->wpAny (model X.prog X.w) X.A (f v u) Q X.xe s2) :
  wpAny (model X.prog X.w) X.A (eval a X.env) (λv s₁=>wpAny (model X.prog X.w) X.A (eval b X.env) (λu s₂=>wpAny (model X.prog X.w) X.A (f v u) Q X.xe s₂) X.xe s₁) X.xe s:=by
 refine dH (ha pins s σ H _ I h) λv s1 ⟨x,H1,I1,r1,q1⟩=>?_;refine dH (hb pins s1 σ H1 _ I1 q1) λu s2 ⟨y,H2,I2,r2,q2⟩=>?_;exact hf v u s2 x y H2 I2 r1 r2 q2
def GA{op:Operator}{r:R2}(ho:jY X (binaryOp op) r)(ha:PE X a ta)(hb:PE X b tb):PE X (.BinOp a op b pos) (yO r ta tb):=by
 intro pins s σ H Q I h;exact wpAny_BinOp (El ha hb I h λv u s2 x y H2 I2 rx ry q=>ho pins s2 σ H2 x y v u Q I2 rx ry q)
def Fy{op:UnaryOp}{r:V->Hp->VK->Prop}(ho:Gs X (unaryOp op) r)(ha:PE X a ta):PE X (.UnaryOp op a pos) (HB r ta):=by
 intro pins s σ H Q I h;exact UnaryOp_ (dH (ha pins s σ H _ I h) λv s1 ⟨x,H1,I1,r1,q1⟩=>ho pins s1 σ H1 x v Q I1 r1 q1)
def Gp{f:Value->Value->Sem Value}{C:Int->Int->Prop}{g:Int->Int->Int}
  (rule:∀(i j:Int) (t u:Tok) (s:Shared) (Q:Value->Shared->Prop) (E:Value->Shared->Prop),C i j->Q (.int (g i j) s.toks) { s with toks:=s.toks+1 }->wpAny (model X.prog X.w) X.A (f (.int i t) (.int j u)) Q E s) :
  jY X f (rI C λi j=>.int (g i j)):=by
 intro pins s σ H x y v u Q I rx ry h;obtain⟨i,j,rfl,rfl,hc,q⟩:=h;obtain⟨t,rfl⟩:=rx;obtain⟨t',rfl⟩:=ry;exact rule i j t t' s _ _ hc ⟨.int (g i j),H,I.tok _,⟨_,rfl⟩,q⟩
def GH{f:Value->Value->Sem Value}{g:Int->Int->Int}
  (rule:∀(i j:Int) (t u:Tok) (s:Shared) (Q:Value->Shared->Prop) (E:Value->Shared->Prop),Q (.int (g i j) s.toks) { s with toks:=s.toks+1 }->wpAny (model X.prog X.w) X.A (f (.int i t) (.int j u)) Q E s) :
  jY X f (BV λi j=>.int (g i j)):=by
 intro pins s σ H x y v u Q I rx ry h;obtain⟨i,j,rfl,rfl,q⟩:=h;obtain⟨t,rfl⟩:=rx;obtain⟨t',rfl⟩:=ry;exact rule i j t t' s _ _ ⟨.int (g i j),H,I.tok _,⟨_,rfl⟩,q⟩
def Bq{f:Value->Value->Sem Value}{g:Int->Int->Bool}
  (rule:∀(i j:Int) (t u:Tok) (s:Shared) (Q:Value->Shared->Prop) (E:Value->Shared->Prop),Q (.bool (g i j)) s->wpAny (model X.prog X.w) X.A (f (.int i t) (.int j u)) Q E s) :
  jY X f (BV λi j=>.bl (g i j)):=by
 intro pins s σ H x y v u Q I rx ry h;obtain⟨i,j,rfl,rfl,q⟩:=h;obtain⟨t,rfl⟩:=rx;obtain⟨t',rfl⟩:=ry;exact rule i j t t' s _ _ ⟨.bl (g i j),H,I,rfl,q⟩
def Ga(i j:Int):Prop:=0<j/\j<1073741824
def Ha(i j:Int):Prop:=0<=j/\j<=1000000/\i.natAbs<2 ^ 64
def Ex(i j:Int):Prop:=(-(2 ^ 64)<i/\i<2 ^ 64)\/(-(2 ^ 64)<j/\j<2 ^ 64)
def Ex.ok{i j:Int}(h:Ex i j):IntMulOk i j:=by
 rcases h with ⟨h1,h2⟩ | ⟨h1,h2⟩
 ·exact .of_left (intBits_le_64 h1 h2)
 ·exact .of_right (intBits_le_64 h1 h2)
def eI:jY X (binaryOp .Add) (BV λi j=>.int (i+j)):=GH λ_ _ _ _ _ _ _ q=>add_int q
def gh:jY X (binaryOp .Sub) (BV λi j=>.int (i-j)):=GH λ_ _ _ _ _ _ _ q=>sub_int q
def kR:jY X (binaryOp .Mult) (rI Ex λi j=>.int (i*j)):=Gp λ_ _ _ _ _ _ _ hc q=>mul_int q hc.ok
def gQ:jY X (binaryOp .FloorDiv) (rI Ga λi j=>.int (i / j)):=Gp λi j _ _ _ _ _ hc q=>by
 have h1:(0:Int)<j:=hc.1;have h2:j<1073741824:=hc.2;exact floordiv_int (by lia) (by rw[Int.fdiv_eq_ediv_of_nonneg i (by lia)];exact q) (.inl (PyProof.noPylong_small (by lia)))
def iM:jY X (binaryOp .Mod) (rI (λ_ j=>0<j) λi j=>.int (i % j)):=Gp λi j _ _ _ _ _ hc q=>by
 have h1:(0:Int)<j:=hc;exact mod_int' (by lia) (by rw[Int.fmod_eq_emod_of_nonneg i (by lia)];exact q)
def tN:jY X (binaryOp .Pow) (rI Ha λi j=>.int (i ^ j.toNat)):=Gp λ_ _ _ _ _ _ _ hc q=>pow_int_small hc.1 hc.2.1 hc.2.2 q
def Ht{f:Value->Sem Value}{g:Int->Int}
  (rule:∀(i:Int) (t:Tok) (s:Shared) (Q:Value->Shared->Prop) (E:Value->Shared->Prop),Q (.int (g i) s.toks) { s with toks:=s.toks+1 }->wpAny (model X.prog X.w) X.A (f (.int i t)) Q E s) :
  Gs X f (rU λi=>.int (g i)):=by
 intro pins s σ H x v Q I rx h;obtain⟨i,rfl,q⟩:=h;obtain⟨t,rfl⟩:=rx;exact rule i t s _ _ ⟨.int (g i),H,I.tok _,⟨_,rfl⟩,q⟩
def eU:Gs X (unaryOp .USub) (rU λi=>.int (-i)):=Ht λ_ _ _ _ _ q=>neg_int q
end
def De:V->V->Bool
 | .non,.non=>true | .non,.int _=>true | .int _,.non=>true | .non,.bl _=>true | .bl _,.non=>true | .non,.str _=>true | .str _,.non=>true
 | .int _,.int _=>true | .bl _,.bl _=>true | .str _,.str _=>true | .byt _,.byt _=>true
 | .int _,.str _=>true | .str _,.int _=>true | .bl _,.str _=>true | .str _,.bl _=>true
 | _,_=>false
def Ft:R2:=λx y H Q=>De x y=true/\Q (.bl (decide (x=y))) H
def Gm:R2:=λx y H Q=>De x y=true/\Q (.bl (!decide (x=y))) H
def v5{i j:Int}:decide (V.int i=V.int j)=(i==j):=by
 rw[gp];simp
def A6{i j:Bool}:decide (V.bl i=V.bl j)=(i==j):=by
 rw[gp];simp
def v4{i j:Str}:decide (V.str i=V.str j)=(i==j):=by
 rw[gp];simp
def v6{i j:Array UInt8}:decide (V.byt i=V.byt j)=(i.toList==j.toList):=by
 rw[gp];cases i;cases j;simp
section
variable {X:Cx} {a b c:Expr} {ta tb tc:TE} {pos:Pos}
def cN{pins:List (Addr×Obj)}{σ:St}{H:Hp}{s:Shared}{Q:VK}{k k':Bool}(I:bY X pins σ H s)(q:Q (.bl k) H)(e:k=k'):EP X pins σ Q (.bool k') s:=by
 subst e;exact⟨.bl k,H,I,rfl,q⟩
def dX:jY X (compareOp .Eq) Ft:=by
 intro pins s σ H x y v u Q I rx ry h;obtain⟨hs,q⟩:=h;cases x with
 | non=>
  cases rx;cases y with
  | non=>cases ry;exact PySem.EqNone.eq_none_none (cN I q (by simp))
  | bl j=>cases ry;exact PySem.EqNone.eq_none_bool (cN I q (by simp))
  | int j=>obtain⟨t',rfl⟩:=ry;exact PySem.EqNone.eq_none_int (cN I q (by simp))
  | str j=>obtain⟨t',rfl⟩:=ry;exact PySem.EqNone.eq_none_str (cN I q (by simp))
  | _=>exact absurd (show false=true from hs) bD
 | bl i=>
  cases rx;cases y with
  | non=>cases ry;exact PySem.EqNone.eq_bool_none (cN I q (by simp))
  | bl j=>cases ry;exact eq_bool (cN I q A6)
  | str j=>obtain⟨t',rfl⟩:=ry;exact PySem.EqMixed.eq_bool_str (cN I q (by simp))
  | _=>exact absurd (show false=true from hs) bD
 | int i=>
  obtain⟨t,rfl⟩:=rx;cases y with
  | non=>cases ry;exact PySem.EqNone.eq_int_none (cN I q (by simp))
  | int j=>obtain⟨t',rfl⟩:=ry;exact eq_int (cN I q v5)
  | str j=>obtain⟨t',rfl⟩:=ry;exact PySem.EqMixed.eq_int_str (cN I q (by simp))
  | _=>exact absurd (show false=true from hs) bD
 | str i=>
  obtain⟨t,rfl⟩:=rx;cases y with
  | non=>cases ry;exact PySem.EqNone.eq_str_none (cN I q (by simp))
  | bl j=>cases ry;exact PySem.EqMixed.eq_str_bool (cN I q (by simp))
  | int j=>obtain⟨t',rfl⟩:=ry;exact PySem.EqMixed.eq_str_int (cN I q (by simp))
  | str j=>obtain⟨t',rfl⟩:=ry;exact eq_str (cN I q v4)
  | _=>exact absurd (show false=true from hs) bD
 | byt i=>
  obtain⟨t,rfl⟩:=rx;cases y with
  | byt j=>obtain⟨t',rfl⟩:=ry;exact PySem.W.eq_bytes (cN I q v6)
  | _=>exact absurd (show false=true from hs) bD
 | _=>cases y<;>exact absurd (show false=true from hs) bD
def mY:jY X (compareOp .NotEq) Gm:=by
 intro pins s σ H x y v u Q I rx ry h;obtain⟨hs,q⟩:=h;cases x with
 | non=>
  cases rx;cases y with
  | non=>cases ry;exact PySem.EqNone.ne_none_none (cN I q (by simp))
  | bl j=>cases ry;exact PySem.EqNone.ne_none_bool (cN I q (by simp))
  | int j=>obtain⟨t',rfl⟩:=ry;exact PySem.EqNone.ne_none_int (cN I q (by simp))
  | str j=>obtain⟨t',rfl⟩:=ry;exact PySem.EqNone.ne_none_str (cN I q (by simp))
  | _=>exact absurd (show false=true from hs) bD
 | bl i=>
  cases rx;cases y with
  | non=>cases ry;exact PySem.EqNone.ne_bool_none (cN I q (by simp))
  | bl j=>cases ry;exact ne_bool (cN I q (congrArg not A6))
  | str j=>obtain⟨t',rfl⟩:=ry;exact PySem.EqMixed.ne_bool_str (cN I q (by simp))
  | _=>exact absurd (show false=true from hs) bD
 | int i=>
  obtain⟨t,rfl⟩:=rx;cases y with
  | non=>cases ry;exact PySem.EqNone.ne_int_none (cN I q (by simp))
  | int j=>obtain⟨t',rfl⟩:=ry;exact ne_int (cN I q (congrArg not v5))
  | str j=>obtain⟨t',rfl⟩:=ry;exact PySem.EqMixed.ne_int_str (cN I q (by simp))
  | _=>exact absurd (show false=true from hs) bD
 | str i=>
  obtain⟨t,rfl⟩:=rx;cases y with
  | non=>cases ry;exact PySem.EqNone.ne_str_none (cN I q (by simp))
  | bl j=>cases ry;exact PySem.EqMixed.ne_str_bool (cN I q (by simp))
  | int j=>obtain⟨t',rfl⟩:=ry;exact PySem.EqMixed.ne_str_int (cN I q (by simp))
  | str j=>obtain⟨t',rfl⟩:=ry;exact ne_str (cN I q (congrArg not v4))
  | _=>exact absurd (show false=true from hs) bD
 | byt i=>
  obtain⟨t,rfl⟩:=rx;cases y with
  | byt j=>obtain⟨t',rfl⟩:=ry;exact PySem.W.ne_bytes (cN I q (congrArg not v6))
  | _=>exact absurd (show false=true from hs) bD
 | _=>cases y<;>exact absurd (show false=true from hs) bD
def kS:jY X (compareOp .Lt) (BV λi j=>.bl (decide (i<j))):=Bq λ_ _ _ _ _ _ _ q=>lt_int q
def vL:jY X (compareOp .LtE) (BV λi j=>.bl (decide (i<=j))):=Bq λ_ _ _ _ _ _ _ q=>le_int q
def rG:jY X (compareOp .Gt) (BV λi j=>.bl (decide (j<i))):=Bq λ_ _ _ _ _ _ _ q=>gt_int q
def GG:jY X (compareOp .GtE) (BV λi j=>.bl (decide (j<=i))):=Bq λ_ _ _ _ _ _ _ q=>ge_int q
def oi:jY X (compareOp .Lt) (λx y H Q=>∃i j,x=.str i/\y=.str j/\Q (.bl (decide (i.cps.toList<j.cps.toList))) H):=by
 intro pins s σ H x y v u Q I rx ry h;obtain⟨i,j,rfl,rfl,q⟩:=h;obtain⟨t,rfl⟩:=rx;obtain⟨t',rfl⟩:=ry;exact lt_str (cN I q rfl)
def oj:jY X (compareOp .In) (λx y H Q=>∃i j,x=.str i/\y=.str j/\Q (.bl (!(Builtin.Str.occurrences j i 0 j.length 1).isEmpty)) H):=by
 intro pins s σ H x y v u Q I rx ry h;obtain⟨i,j,rfl,rfl,q⟩:=h;obtain⟨t,rfl⟩:=rx;obtain⟨t',rfl⟩:=ry;exact in_str (cN I q rfl)
def tO:jY X (compareOp .Is) (λx y H Q=>y=.non/\Q (.bl (decide (x=.non))) H):=by
 intro pins s σ H x y v u Q I rx ry h;obtain⟨rfl,q⟩:=h;cases ry;refine is_none_gen (cN I q ?_);cases x<;>first
  | (cases rx;rfl)
  | (obtain⟨t,rfl⟩:=rx;rfl)
def vK:jY X (compareOp .IsNot) (λx y H Q=>y=.non/\Q (.bl (!decide (x=.non))) H):=by
 intro pins s σ H x y v u Q I rx ry h;obtain⟨rfl,q⟩:=h;cases ry;refine isnot_none_gen (cN I q ?_);cases x<;>first
  | (cases rx;rfl)
  | (obtain⟨t,rfl⟩:=rx;rfl)
def bG(b:Expr){op:CmpOp}(h:op≠.In:=by decide)(h2:op≠.NotIn:=by decide):behindInMarks op b=false:=by
 have e1:(op==CmpOp.In)=false:=by cases op<;>first | rfl | exact absurd rfl h
 have e2:(op==CmpOp.NotIn)=false:=by cases op<;>first | rfl | exact absurd rfl h2
 cases b<;>simp[behindInMarks,e1,e2]
def Bi{op:CmpOp}{r:R2}(ho:jY X (compareOp op) r)(ha:PE X a ta)(hb:PE X b tb)(hm:behindInMarks op b=false):PE X (.Compare a [op] [b] pos) (yO r ta tb):=by
 intro pins s σ H Q I h;exact wpAny_Compare1 (El ha hb I h λv u s2 x y H2 I2 rx ry q=>ho pins s2 σ H2 x y v u Q I2 rx ry q) hm
def qc(t:TE):TT:=λσ H Q=>t σ H λx H'=>∃k,x=.bl k/\Q k H'
def BZ{op:CmpOp}{r:R2}(ho:jY X (compareOp op) r)(ha:PE X a ta)(hb:PE X b tb)(hm:behindInMarks op b=false):PT X (.Compare a [op] [b] pos) (qc (yO r ta tb)):=by
 intro pins s σ H Q I h;refine wpAny_isTrue_Compare1 (dH (ha pins s σ H _ I h) λv s1 ⟨x,H1,I1,r1,q1⟩=>dH (hb pins s1 σ H1 _ I1 q1) λu s2 ⟨y,H2,I2,r2,q2⟩=>
  dH (ho pins s2 σ H2 x y v u _ I2 r1 r2 q2) λc s3 ⟨z,H3,I3,r3,k,e,q3⟩=>?_) hm
 subst e;cases r3;exact K2 ⟨H3,I3,q3⟩
def sY(r r':R2)(ta tb tc:TE):TE:=λσ H Q=>ta σ H λx H1=>tb σ H1 λy H2=>r x y H2 λz H3=>∃k,z=.bl k ∧
 (if k=true then tc σ H3 λw' H4=>r' y w' H4 Q else Q (.bl false) H3)
def zZ{op op':CmpOp}{r r':R2}(ho:jY X (compareOp op) r)(ho':jY X (compareOp op') r')(ha:PE X a ta)(hb:PE X b tb)(hc:PE X c tc)
  (hm:lastMarks [op,op'] [b,c]=false:=by with_unfolding_all rfl):PE X (.Compare a [op,op'] [b,c] pos) (sY r r' ta tb tc):=by
 intro pins s σ H Q I h;refine Compare_chain (dH (ha pins s σ H _ I h) λv s1 ⟨x,H1,I1,r1,q1⟩=>chain_link (dH (hb pins s1 σ H1 _ I1 q1) λu s2 ⟨y,H2,I2,r2,q2⟩=>
  dH (ho pins s2 σ H2 x y v u _ I2 r1 r2 q2) λd s3 ⟨z,H3,I3,r3,k,e,q3⟩=>?_)) hm
 subst e;cases r3;refine K2 ?_;cases k with
 | false=>exact ite_ff ⟨.bl false,H3,I3,rfl,q3⟩
 | true=>exact ite_tt (chain_last (dH (hc pins s3 σ H3 _ I3 q3) λw' s4 ⟨z',H4,I4,r4,q4⟩=>ho' pins s4 σ H4 y z' u w' Q I4 r2 r4 q4))
def C4(K:Kw)(x:V)(H:Hp)(k:Bool):Prop:=
 match x with
 | .non=>k=false
 | .bl b=>k=b
 | .int i=>k=(i != 0)
 | .str y=>y.length<=sizeLine/\k=((y.length:Int) != 0)
 | .byt y=>y.size<=sizeLine/\k=((y.size:Int) != 0)
 | .ref p=>(∃xs,cL K H p xs/\k=!xs.isEmpty)\/(∃xs,dr K H p xs/\k=!xs.isEmpty)\/∃kvs,H p=some (.dK kvs)/\k=!kvs.isEmpty
 | _=>False
def t7{κ:Type}{kvs:List (κ×V)}{vs:List (κ×Value)}(r:KV kvs vs):(!vs.isEmpty)=!kvs.isEmpty:=by
 cases r<;>rfl
def nP{xs:List V}{its:List Value}(r:cE xs its):(!its.toArray.isEmpty)=!xs.isEmpty:=by
 cases r<;>simp
def lR:(sizeLine:Nat)<2 ^ 63:=by rw[Ka];decide
def DV:HX X (λx H Q=>∃k,C4 X.K x H k/\Q k H):=by
 intro pins s σ H x v Q I rx h;obtain⟨k,e,q⟩:=h;have hl:=lR;have hs:sizeLine=16777216:=Ka;cases x with
 | non=>
  cases rx;have e':k=false:=e;subst e';exact truthy_none ⟨H,I,q⟩
 | bl b=>
  cases rx;have e':k=b:=e;subst e';exact K2 ⟨H,I,q⟩
 | int i=>
  obtain⟨t,rfl⟩:=rx;have e':k=(i != 0):=e;subst e';exact PySem.P.truthy_int ⟨H,I,q⟩
 | str y=>
  obtain⟨t,rfl⟩:=rx;obtain⟨hy,e'⟩:y.length<=sizeLine/\k=((y.length:Int) != 0):=e;subst e';exact PySem.P.truthy_str (by lia) ⟨H,I.tok _,q⟩
 | byt y=>
  obtain⟨t,rfl⟩:=rx;obtain⟨hy,e'⟩:y.size<=sizeLine/\k=((y.size:Int) != 0):=e;subst e';exact PySem.W.truthy_bytes (by lia) ⟨H,I.tok _,q⟩
 | ref p=>
  cases rx;have e':(∃xs,cL X.K H p xs/\k=!xs.isEmpty)\/(∃xs,dr X.K H p xs/\k=!xs.isEmpty)\/∃kvs,H p=some (.dK kvs)/\k=!kvs.isEmpty:=e;rcases e' with ⟨xs,hx,e'⟩ | ⟨xs,hx,e'⟩ | ⟨kvs,hx,e'⟩
  ·subst e';obtain⟨its,r,pl,hz⟩:=I.list hx;have hlen:=r.length;exact wpAny_truthy_list pl.isList (by simp only[aP];lia) ⟨H,I.tok _,by rw[nP r];exact q⟩
  ·subst e';obtain⟨its,r,pl,hz⟩:=I.tuple hx;have hlen:=r.length;exact truthy_tuple pl (by simp only[aP];lia) ⟨H,I.tok _,by rw[nP r];exact q⟩
  ·subst e';obtain⟨hz,hS,vs,r,m⟩:kvs.length<=sizeLine/\(p==sysModules)=false/\∃vs,KV kvs vs/\s.heap.DictOf (dj X.prog X.w) p vs:=I.hok p _ hx;have hlen:kvs.length=vs.length:=dL r;exact wpAny_truthy_dict hS m (by lia) ⟨H,I.tok _,by rw[t7 r];exact q⟩
 | _=>exact(show False from e).elim
def zJ(ha:PE X a ta)(he:∀whole,isTrue a X.env whole=(do let v <-whole;standAt a.pos;holding [v] (truthy v))):
  PT X a (λσ H Q=>ta σ H λx H'=>∃k,C4 X.K x H' k/\Q k H'):=by
 intro pins s σ H Q I h;exact isTrue_plain (dH (ha pins s σ H _ I h) λv s1 ⟨x,H1,I1,r1,q1⟩=>DV pins s1 σ H1 x v Q I1 r1 q1) (he _)
def cY:jY X (binaryOp .Add) (λx y H Q=>∃i j,x=.str i/\y=.str j/\i.length+j.length<=sizeLine/\Q (.str (i++j)) H):=by
 intro pins s σ H x y v u Q I rx ry h;obtain⟨i,j,rfl,rfl,hz,q⟩:=h;obtain⟨t,rfl⟩:=rx;obtain⟨t',rfl⟩:=ry;exact add_str (λt' tk=>⟨.str (i++j),H,I.tok _,⟨_,rfl⟩,q⟩) hz
def Kb{x:V}{us:List Value}(r:cE [x] us):∃u,us=[u]/\RelV x u:=by
 cases r with
 | cons r1 r2=>cases r2;exact⟨_,rfl,r1⟩
def vals2{x y:V}{us:List Value}(r:cE [x,y] us):∃u w',us=[u,w']/\RelV x u/\RelV y w':=by
 cases r with
 | cons r1 r2=>
  cases r2 with
  | cons r3 r4=>cases r4;exact⟨_,_,rfl,r1,r3⟩
def sF:fg X (.builtin "abs") (λxs H Q=>∃i,xs=[.int i]/\Q (.int (if i<0 then -i else i)) H):=by
 intro pins s σ H xs us Q I r h;obtain⟨i,rfl,q⟩:=h;obtain⟨u,rfl,t,rfl⟩:=Kb r;exact call_abs_int λu tk=>⟨.int (if i<0 then -i else i),H,I.tok _,⟨_,rfl⟩,q⟩
def pG (hc:X.calm=true):fg X (.builtin "max") (λxs H Q=>∃i j,xs=[.int i,.int j]/\Q (.int (if j > i then j else i)) H):=by
 intro pins s σ H xs us Q I r h;obtain⟨i,j,rfl,q⟩:=h;obtain⟨u,w',rfl,⟨t,rfl⟩,⟨t',rfl⟩⟩:=vals2 r;refine max_two_ints (I.ok.hd hc) λh' tk k=>⟨_,H,I.kept k,?_,q⟩
 by_cases hj:j > i
 ·rw[Ko hj,Ko hj];exact⟨_,rfl⟩
 ·rw[Kn hj,Kn hj];exact⟨_,rfl⟩
def pF (hc:X.calm=true):fg X (.builtin "min") (λxs H Q=>∃i j,xs=[.int i,.int j]/\Q (.int (if j<i then j else i)) H):=by
 intro pins s σ H xs us Q I r h;obtain⟨i,j,rfl,q⟩:=h;obtain⟨u,w',rfl,⟨t,rfl⟩,⟨t',rfl⟩⟩:=vals2 r;refine min_two_ints (I.ok.hd hc) λh' tk k=>⟨_,H,I.kept k,?_,q⟩
 by_cases hj:j<i
 ·rw[Ko hj,Ko hj];exact⟨_,rfl⟩
 ·rw[Kn hj,Kn hj];exact⟨_,rfl⟩
def jJ:fg X (.type "int") (λxs H Q=>(∃i,xs=[.int i]/\Q (.int i) H)\/∃k,xs=[.bl k]/\Q (.int (if k then 1 else 0)) H):=by
 intro pins s σ H xs us Q I r h;rcases h with ⟨i,rfl,q⟩ | ⟨k,rfl,q⟩
 ·obtain⟨u,rfl,t,rfl⟩:=Kb r;exact call_int_int ⟨.int i,H,I,⟨_,rfl⟩,q⟩
 ·obtain⟨u,rfl,r1⟩:=Kb r;cases r1;exact call_int_bool ⟨.int (if k then 1 else 0),H,I.tok _,⟨_,rfl⟩,q⟩
end
structure Es (h:Heap) (x dx C:Addr) (mA:Str->Option Value):Prop where
 obj:h.get? x=some (PySem.W.instObj C dx)
 ns:h.Ns1 dx mA
 ne:dx≠x
def wb{h:Heap}{dx:Addr}{mA:Str->Option Value}(n:h.Ns1 dx mA):∃od,h.get? dx=some od/\∀name,PySem.W.lookIn name od=some (mA name):=by
 obtain⟨o,es,ep,ho,hd,hk,_,hm⟩:=n;refine⟨o,ho,λname=>?_⟩;have e:=hm name;unfold nsFind findBy at e;rw[<-Array.find?_toList] at e;unfold PySem.W.lookIn;rw[hd];dsimp only
 split
 ·rename_i y q;rw[q] at e;exact congrArg some e
 ·rename_i q;rw[q] at e;have a:es.toList.any (·.refKey)=false:=by
   rw[dg];intro y hy;obtain⟨z,t,hkey⟩:=hk y (Array.mem_toList_iff.mp hy);simp[DictEntry.refKey,hkey]
  have a':¬es.toList.any (·.refKey)=true:=by rw[a];exact bD
  rw[Kn a'];exact congrArg some e
def Es.look{h:Heap}{x dx C:Addr}{mA:Str->Option Value}(I:Es h x dx C mA):∃od,PySem.W.InstAt h x (PySem.W.instObj C dx) C (some od)/\∀name,PySem.W.lookIn name od=some (mA name):=
 let ⟨od,ho,hl⟩:=wb I.ns
 ⟨od,⟨I.obj,rfl,rfl,ho⟩,hl⟩
def nj.some_of{v:V}{o:Option Value}(r:nj (some v) o):∃u,o=some u/\RelV v u:=by
 cases o with
 | none=>exact(show False from r).elim
 | some u=>exact⟨u,rfl,r⟩
section
variable {P:Program} {w:World} {H:Hp} {h:Heap} {a C dx:Addr} {fs:List (Str×V)}
def CJ(hok:lZ P w H h)(e:H a=some (.ins C dx fs)):∃mA,Es h a dx C mA/\(∀f,nj (fs.lookup f) (mA f))/\PySem.Within mA (fs.map (·.1))/\fs.length<=1000/\H dx=some (.own a):=by
 obtain⟨d,z,ne,ob,mA,n,r,q⟩:=(show cg P w H h a (.ins C dx fs) from hok a _ e)
 exact⟨mA,⟨ob,n,ne⟩,r,q,z,d⟩
end
structure HZ (K:Kw) (C:Addr):Prop where
 pg:PySem.W.plainGet K C Str.empty=true
 hd:PySem.W.hasDictIn K C=true
 po:PySem.W.plainOver K C=true
 sa:PySem.W.findIn K (.ref C) "__setattr__"=some (some (.builtin "object.__setattr__"))
def HZ.get{K:Kw}{C:Addr}(c:HZ K C)(f:Str):PySem.W.plainGet K C f=true:=c.pg
section
variable {X:Cx} {pins:List (Addr×Obj)} {σ:St} {H:Hp} {s:Shared} {A:Around} {E:Value->Shared->Prop} {Q:Value->Shared->Prop} {c:Value} {b:Bool}
inductive lX (K : Kw) (H : Hp) : V → Value → Prop where
 | non : lX K H .non (.type "NoneType")
 | bl (x : Bool) : lX K H (.bl x) (.type "bool")
 | int (i : Int) : lX K H (.int i) (.type "int")
 | str (x : Str) : lX K H (.str x) (.type "str")
 | flt (x : UInt64) : lX K H (.flt x) (.type "float")
 | lst {a : Addr} {xs : List V} (e : H a = some (.lst xs)) : lX K H (.ref a) (.type "list")
 | frz {a : Addr} {o : Obj} {xs : List V} (e : H a = some (.frz o (.lst xs))) : lX K H (.ref a) (.type "list")
 | tup {a : Addr} {xs : List V} (e : H a = some (.tup xs)) : lX K H (.ref a) (.type "tuple")
 | dK {a : Addr} {kvs : List (Key × V)} (e : H a = some (.dK kvs)) : lX K H (.ref a) (.type "dict")
 | dT {a : Addr} {kvs : List (List Key × V)} (e : H a = some (.dT kvs)) : lX K H (.ref a) (.type "dict")
 | ins {a C dx : Addr} {fs : List (Str × V)} (e : H a = some (.ins C dx fs)) (cl : HZ K C) (ha : PySem.W.findIn K (.ref C) "__class__" = some (some (.builtin "object.__class__")))
   (hn : PySem.W.specialIn K (.builtin "object.__class__") "__get__" = some (some (.builtin "getset_descriptor.__get__"))) (htk : PySem.W.takesIn K (.builtin "object.__class__") = some true)
   (hm : PySem.W.mroIn K C (.type "object") = some true) : lX K H (.ref a) (.ref C)
def wj{x:V}{u t:Value}(I:bY X pins σ H s)(rx:RelV x u)(ty:lX X.K H x t)(e:PySem.W.kitOne X.K t c=some b)(h:∀tk,Q (.bool b) { s with toks:=tk }):
  wpAny (model X.prog X.w) A (call (.builtin "isinstance") [u,c]) Q E s:=by
 cases ty with
 | non=>cases (show u=Value.none from rx);exact cM PySem.W.kitx_none I.kIn True.intro e (λz=>nomatch z) h
 | bl y=>cases (show u=Value.bool y from rx);exact cM PySem.W.kitx_bool I.kIn True.intro e (λz=>nomatch z) h
 | int i=>obtain⟨t,q⟩:=(show ∃t,u=Value.int i t from rx);cases q;exact cM PySem.W.kitx_int I.kIn True.intro e (λz=>nomatch z) h
 | str y=>obtain⟨t,q⟩:=(show ∃t,u=Value.str y t from rx);cases q;exact cM PySem.W.kitx_str I.kIn True.intro e (λz=>nomatch z) h
 | flt y=>obtain⟨t,q⟩:=(show ∃t,u=Value.float y t from rx);cases q;exact cM PySem.W.kitx_float I.kIn True.intro e (λz=>nomatch z) h
 | @lst a xs ea=>
  cases (show u=Value.ref a from rx);obtain⟨_,_,n,_,h1⟩:=(show cg X.prog X.w H s.heap a (.lst xs) from I.hok a _ ea)
  exact cM PySem.W.kitx_list I.kIn ⟨_,h1,rfl⟩ e (λz=>nomatch z) h
 | @frz a ob xs ea=>
  cases (show u=Value.ref a from rx);obtain⟨_,_,_,n,_,h1⟩:=(show cg X.prog X.w H s.heap a (.frz ob (.lst xs)) from I.hok a _ ea)
  exact cM PySem.W.kitx_list I.kIn ⟨_,h1,rfl⟩ e (λz=>nomatch z) h
 | @tup a xs ea=>
  cases (show u=Value.ref a from rx);obtain⟨_,_,_,p⟩:=(show cg X.prog X.w H s.heap a (.tup xs) from I.hok a _ ea)
  obtain⟨o,h1,h2,_⟩:=p;exact cM PySem.W.kitx_tuple I.kIn ⟨o,h1,h2⟩ e (λz=>nomatch z) h
 | @dK a kvs ea=>
  cases (show u=Value.ref a from rx);obtain⟨_,_,vs,_,p⟩:=(show cg X.prog X.w H s.heap a (.dK kvs) from I.hok a _ ea)
  obtain⟨o,es,ep,h1,h2,_⟩:=p;exact cM PySem.W.kitx_dict I.kIn ⟨o,h1,h2.1⟩ e (λz=>nomatch z) h
 | @dT a kvs ea=>
  cases (show u=Value.ref a from rx);obtain⟨_,_,xs,_,o,es,ep,h1,h2,_⟩:=(show cg X.prog X.w H s.heap a (.dT kvs) from I.hok a _ ea)
  exact cM PySem.W.kitx_dict I.kIn ⟨o,h1,h2.1⟩ e (λz=>nomatch z) h
 | @ins a C dx fs ea cl ha hn htk hm=>
  cases (show u=Value.ref a from rx);obtain⟨mA,O,_⟩:=CJ I.hok ea;obtain⟨od,J,_⟩:=O.look;exact cM (PySem.W.kitx_own (cl.get _) cl.hd ha hn htk hm) I.kIn J e (λz=>nomatch z) h
end
structure i4 (k:Nat) (A:Around):Prop where
 hd:A.handled=none
 dp:A.depth+3 * k+5<recursionLimit
 un:A.units+16 * k+200<cLine
 gd:A.guards=some []
def i4.mono{j k:Nat}{A:Around}(r:i4 k A)(h:j<=k):i4 j A:=⟨r.hd,by have:=r.dp;lia,by have:=r.un;lia,r.gd⟩
def i4.deeper{k:Nat}{A:Around}(r:i4 (k+1) A)(env:Env):i4 k (A.deeper env):=
 ⟨r.hd,by have:=r.dp;show A.depth+1+3*k+5<_;lia,by have:=r.un;show A.units+3+16*k+200<_;lia,r.gd⟩
def i4.depth{k:Nat}{A:Around}(r:i4 k A):A.depth<recursionLimit:=by have:=r.dp;lia
def i4.units{k:Nat}{A:Around}(r:i4 k A):A.units+64<cLine:=by have:=r.un;lia
def yT:TA:=λ_ H Q=>Q [] H
def dh(ta:TE)(tr:TA):TA:=λσ H Q=>ta σ H λx H1=>tr σ H1 λxs H2=>Q (x::xs) H2
section
variable {X:Cx} {e:Expr} {es:List Expr} {te:TE} {t:TA} {pos:Pos}
def EO:PA X [] yT:=λ_ _ _ _ H Q I h=>ij ⟨[],H,I,.nil,h⟩
def fO(ha:PE X e te)(hr:PA X es t)(hs:starEach (e::es) X.env=(false,eval e X.env)::starEach es X.env:=by rfl):PA X (e::es) (dh te t):=by
 intro pos pins s σ H Q I h;rw[hs];show wpAny _ _ (spliced ((false,eval e X.env)::backTo pos (starEach es X.env))) _ _ s;refine iZ (dH (ha pins s σ H _ I h) λu s1 ⟨x,H1,I1,r1,q1⟩=>?_);exact dH (hr pos pins s1 σ H1 _ I1 q1) λus s2 ⟨xs,H2,I2,r2,q2⟩=>⟨x::xs,H2,I2,.cons r1 r2,q2⟩
def DX(t:TA):TE:=λσ H Q=>t σ H λxs H1=>xs.length<=sizeLine/\∀p,H1 p=none->Q (.ref p) (upd H1 p (.tup xs))
def BK(t:TA):TE:=λσ H Q=>t σ H λxs H1=>xs.length<=sizeLine/\∀p,H1 p=none->Q (.ref p) (upd H1 p (.lst xs))
def EF{x1}(h:PA X es t):PE X (.Tuple es x1 pos) (DX t):=by
 intro pins s σ H Q I hq;refine wpAny_Tuple_spliced (dH (h pos pins s σ H _ I hq) λus s1 ⟨xs,H1,I1,r,z,q⟩=>⟨by rw[<-r.length];exact z,?_⟩);have hf:H1 s1.heap.objs.size=none:=I1.hok.fresh (aE _);refine⟨.ref s1.heap.objs.size,upd H1 s1.heap.objs.size (.tup xs),I1.laid (t':=s1.toks) (λb u e=>aA _ e) (aE _) ?_,rfl,q _ hf⟩;exact⟨z,us,r,⟨_,aR _ rfl,rfl,_,rfl⟩⟩
def EK(h:PA X es t):PE X (.List es pos) (BK t):=by
 intro pins s σ H Q I hq;refine wpAny_List_spliced (dH (h pos pins s σ H _ I hq) λus s1 ⟨xs,H1,I1,r,z,q⟩=>⟨by rw[<-r.length];exact z,?_⟩);have hf:H1 s1.heap.objs.size=none:=I1.hok.fresh (aE _);refine⟨.ref s1.heap.objs.size,upd H1 s1.heap.objs.size (.lst xs),I1.laid (t':=s1.toks) (λb u e=>aA _ e) (aE _) ?_,rfl,q _ hf⟩;exact⟨z,us,0,r,aR _ rfl⟩
end
abbrev Sp:=List V->Hp->VK->XK->Prop
abbrev Am:=List Env->Hp->Shared->XK->Value->Shared->Prop
structure C9 (P:Program) (w:World) (K:Kw) (mg:Str->Option Value) (base:Heap) (A:Around) (outer:List Env) (s:Shared) (H:Hp):Prop where
 frames:A.frames=some outer
 mod:Mod K mg base
 bs:∀ b o,base.get? b=some o->s.heap.get? b=some o/\H b=none
 bsz:base.objs.size<=s.heap.objs.size
 funs:s.heap.FunFrames base outer
 frf:∀ b∈t9 outer,H b=none
 hok:lZ P w H s.heap
 bare:AllBare s.gens
def CE(outer:List Env)(P:Program)(w:World)(H:Hp)(s:Shared)(Q:VK)(u:Value)(s':Shared):Prop:=
 ∃v H',s'.os=s.os/\AllBare s'.gens/\Un (t9 outer) [] H H' s.heap s'.heap/\lZ P w H' s'.heap/\RelV v u/\Q v H'
def CR(CX:Am)(outer:List Env)(P:Program)(w:World)(H:Hp)(s:Shared)(Q:VK)(E:XK)(r:Result)(s':Shared):Prop:=
 match r with
 | .ok (.ret u)=>CE outer P w H s Q u s'
 | .ok _=>False
 | .error e=>CX outer H s E e s'
structure nu (P:Program) (w:World) (K:Kw) (mg:Str->Option Value) (base:Heap) (CX:Am) (k:Nat) (f:Addr) (fd:FuncData) (ps:List Str) (sp:Sp):Prop where
 len:∀ vs H Q E,sp vs H Q E->vs.length=ps.length
 run:∀ (A:Around) (outer:List Env) (s:Shared) (H:Hp) (args:Args) (us:List Value) (vs:List V) (Q:VK) (E:XK),i4 k A->C9 P w K mg base A outer s H->BindsTo s fd args (ps.zip us)->cE vs us->sp vs H Q E →
  codeAny (model P w) A (.call (.ref f) args) (CR CX outer P w H s Q E) s
section
variable {X:Cx} {pins:List (Addr×Obj)} {σ:St} {H:Hp} {s s':Shared}
def bY.env0(I:bY X pins σ H s):C9 X.prog X.w X.K X.mg X.base X.A X.stack s H:=
 ⟨I.ok.frames,I.ok.mod,I.bs,av I.ok.bsz I.sz,I.stack,I.stkFree,I.hok,I.bare⟩
def bY.after{Q:VK}{u:Value}(I:bY X pins σ H s)(h:CE X.stack X.prog X.w H s Q u s'):EP X pins σ Q u s':=by
 obtain⟨v,H',os,bare,un,hok,r,q⟩:=h;obtain⟨hh,g,d,t,os'⟩:=s';obtain rfl:os'=s.os:=os;exact⟨v,H',I.call (h':=hh) (g':=g) (d':=d) (t':=t) (ch:=[]) un hok bare (λb z=>absurd z (by simp)),r,q⟩
end
def ue(sp:Sp)(dvs:List V)(E:XK)(t:TA):TE:=λσ H Q=>t σ H λvs H1=>sp (vs++dvs) H1 Q E
def Binds(K:Kw)(fd:FuncData)(ps:List Str)(ds:List Value):Prop:=
 ∀(s:Shared) (us:List Value),K.In s.heap->(us++ds).length=ps.length->BindsTo s fd ⟨us,[]⟩ (ps.zip (us++ds))
def Binds.all{K:Kw}{fd:FuncData}{ps:List Str}(h:∀us:List Value,us.length=ps.length->bindArgs fd ⟨us,[]⟩=pure (ps.zip us)):Binds K fd ps []:=λs us _ hl=>by
 rw[b9] at hl ⊢;exact .of_eq (h us hl)
def uK(CX:Am)(X:Cx)(E:XK):Prop:=∀(pins:List (Addr×Obj)) (σ:St) (H:Hp) (s:Shared) (e:Value) (s':Shared),bY X pins σ H s->CX X.stack H s E e s'->X.xe e s'
section
variable {X:Cx} {CX:Am} {k:Nat} {f:Addr} {fd:FuncData} {ps:List Str} {sp:Sp} {dvs:List V} {ds:List Value} {E:XK} {x:Str} {p pos:Pos} {e:Expr} {es:List Expr} {t:TA}
def Df{pins:List (Addr×Obj)}{σ:St}{H:Hp}{s:Shared}{Q:VK}{us:List Value}{vs:List V}(F:nu X.prog X.w X.K X.mg X.base CX k f fd ps sp)(hr:i4 k X.A)(hb:Binds X.K fd ps ds)(hd:cE dvs ds)(hx:uK CX X E)
  (I:bY X pins σ H s) (r:cE vs us) (h:sp (vs++dvs) H Q E):wpAny (model X.prog X.w) X.A (call (.ref f) us) (EP X pins σ Q) X.xe s:=by
 have r2:cE (vs++dvs) (us++ds):=r.append hd;have hl:(us++ds).length=ps.length:=by rw[<-r2.length];exact F.len _ _ _ _ h
 refine wpAny_call (codeAny_mono (F.run X.A X.stack s H ⟨us,[]⟩ (us++ds) (vs++dvs) Q E hr I.env0 (hb s us I.kIn hl) r2 h) λr s' hq=>?_);cases r with
 | error e=>exact hx pins σ H s e s' I hq
 | ok fl=>
  cases fl with
  | ret u=>exact I.after hq
  | next=>exact False.elim hq
  | brk=>exact False.elim hq
  | cont=>exact False.elim hq
def Bj(F:nu X.prog X.w X.K X.mg X.base CX k f fd ps sp)(hr:i4 k X.A)(hg:Gl X x)(hm:X.mg x=some (.ref f))(hk:PySem.W.keepIn X.K (.ref f)=true)(hb:Binds X.K fd ps ds)(hd:cE dvs ds)(hx:uK CX X E)
  (ha:PA X (e::es) t) (hdb:(x==("__debug__":Str))=false:=by decide) (he:starEach (e::es) X.env=(false,eval e X.env)::starEach es X.env:=by rfl) (hpl:(backTo pos (starEach es X.env)).any (·.1)=false:=by rfl) :
  PE X (.Call (.Name x p) (e::es) [] pos) (ue sp dvs E t):=by
 intro pins s σ H Q I h;refine Kc (vQ I hg hm ?_ hdb);refine PySem.W.callWith_K (h₀:=X.base) I.ok.mod.kin hk (dH (ha pos pins s σ H _ I h) λus s1 ⟨vs,H1,I1,r,q⟩=>⟨I1.kIn,?_⟩) he hpl;exact Df F hr hb hd hx I1 r q
end
structure bn (N P:List Str) (sc:Scope):Prop where
 kind:sc.kind=.function
 co:sc.isCoroutine=false
 gen:sc.isGenerator=false
 nd:N.Nodup
 pre:N.take P.length=P
 par:∀ x∈P,sc.names.lookup x=some .local\/sc.names.lookup x=some .cell
 nofree:∀ y∈sc.names,y.2≠.free
def pH{kindOf:Str->Option NameKind}{x:Str}:∀{binds:List (Str×Value)} {m:Str->Option Value},(∀v,(x,v)∉binds)->bindL kindOf binds m x=m x
 | [],_,_=>rfl
 | (n,v)::r,m,h=>by
  unfold bindL;rw[pH λw hw=>h w (aK _ hw)]
  split
  ·have:x≠n:=by rintro rfl;exact h v am
   simp[this]
  ·rfl
def pJ{kindOf:Str->Option NameKind}{x:Str}:∀{binds:List (Str×Value)} {m:Str->Option Value},(∀v,(x,v)∉binds)->bindC kindOf binds m x=m x
 | [],_,_=>rfl
 | (n,v)::r,m,h=>by
  unfold bindC;rw[pJ λw hw=>h w (aK _ hw)]
  split
  ·rfl
  ·have:x≠n:=by rintro rfl;exact h v am
   simp[this]
def pI{kindOf:Str->Option NameKind}{x:Str}{v:Value}:∀{P:List Str} {vs:List Value} {i:Nat} {m:Str->Option Value},P.Nodup->P[i]? = some x->vs[i]? = some v->kindOf x=some .local →
  bindL kindOf (P.zip vs) m x=some v
 | [],_,_,_,_,h,_,_=>by simp at h
 | _::_,[],_,_,_,_,h,_=>by simp at h
 | p::P,w::vs,0,m,nd,h1,h2,hk=>by
  simp at h1 h2;subst h1;subst h2;show bindL kindOf ((p,w)::P.zip vs) m p=_;unfold bindL;rw[pH λv hv=>(cX.mp nd).1 (jp hv).1,Ko hk];simp
 | p::P,w::vs,i+1,m,nd,h1,h2,hk=>by
  show bindL kindOf ((p,w)::P.zip vs) m x=_;unfold bindL;exact pI (i:=i) (cX.mp nd).2 (by simpa using h1) (by simpa using h2) hk
def pK{kindOf:Str->Option NameKind}{x:Str}{v:Value}:∀{P:List Str} {vs:List Value} {i:Nat} {m:Str->Option Value},P.Nodup->P[i]? = some x->vs[i]? = some v->kindOf x≠some .local →
  bindC kindOf (P.zip vs) m x=some v
 | [],_,_,_,_,h,_,_=>by simp at h
 | _::_,[],_,_,_,_,h,_=>by simp at h
 | p::P,w::vs,0,m,nd,h1,h2,hk=>by
  simp at h1 h2;subst h1;subst h2;show bindC kindOf ((p,w)::P.zip vs) m p=_;unfold bindC;rw[pJ λv hv=>(cX.mp nd).1 (jp hv).1,Kn hk];simp
 | p::P,w::vs,i+1,m,nd,h1,h2,hk=>by
  show bindC kindOf ((p,w)::P.zip vs) m x=_;unfold bindC;exact pK (i:=i) (cX.mp nd).2 (by simpa using h1) (by simpa using h2) hk
def start(N:List Str)(vs:List V):St:=vs.map some++List.replicate (N.length-vs.length) none
def rq(CX:Am)(P:Program)(w:World)(K:Kw)(mg:Str->Option Value)(base:Heap)(N:List Str)(qual:Str)(scope:Scope)(f:Addr)(cd:Value)(A:Around)(outer:List Env)(s:Shared)(H:Hp)(E:XK):Cx where
 prog:=P
 w:=w
 K:=K
 mg:=mg
 base:=base
 A:=A.deeper (envOfC qual scope s.heap.objs.size f cd)
 N:=N
 s₀:=s
 H₀:=H
 env:=envOfC qual scope s.heap.objs.size f cd
 outer:=outer
 stack:=envOfC qual scope s.heap.objs.size f cd::outer
 ex:=[]
 calm:=true
 fn:=λ_=>true
 pn:=[]
 xe:=λe s'=>wpAny (model P w) (A.deeper (envOfC qual scope s.heap.objs.size f cd)) (leaving (envOfC qual scope s.heap.objs.size f cd) e) (λ_ s''=>CX outer H s E e s'') (λe' s''=>CX outer H s E e' s'') s'
def sE{sc:Scope}{n:Nat}{x:Str}(h:sc.names.lookup x=some .cell):∃c,(cellsFrom n sc.names []).lookup x=some c:=by
 have q:=je sc.names n [] (.inl h);exact ir.mp q
def wn{CX:Am}{P:Program}{w:World}{K:Kw}{mg:Str->Option Value}{base:Heap}{N ps:List Str}{qual:Str}{scope:Scope}{f:Addr}{cd:Value}{A:Around}{outer:List Env}{s s1:Shared}{H:Hp}{E:XK}{us:List Value}{vs:List V}
  (S:bn N ps scope) (hd:A.handled=none) (e0:C9 P w K mg base A outer s H) (hl:vs.length=ps.length) (r:cE vs us)
  (x:InCallC s s.heap.objs.size (bindL (envOfC qual scope s.heap.objs.size f cd).kindOf (ps.zip us) λ_=>none) (cellsFrom (s.heap.objs.size+1) scope.names []) (bindC (envOfC qual scope s.heap.objs.size f cd).kindOf (ps.zip us) λ_=>none) s1) :
  bY (rq CX P w K mg base N qual scope f cd A outer s H E) [] (start N vs) H s1:=by
 have hpl:ps.length<=N.length:=by have:=congrArg List.length S.pre;rw[bV] at this;lia
 obtain⟨h1,tk,rfl,hk⟩:=x.done;have noA:∀b:Addr,b∉(rq CX P w K mg base N qual scope f cd A outer s H E).ex:=λb z=>absurd (show b∈([]:List Addr) from z) (by simp);refine⟨⟨e0.mod,S.kind,rfl,rfl,aE _,λy z c h1 h2=>?_,λy hy=>?_,λy c _ h=>?_,λ_=>hd,Around.frames_deeper e0.frames,.inr ⟨rfl,rfl⟩,λb z=>absurd z (noA b),e0.bs,e0.bsz,λb _ _=>noA b,λb z=>absurd z (noA b),e0.funs,e0.frf⟩,
  rfl,e0.bare,Un.kept hk,⟨_,x.toInCall.ns,λi y v h1 h2 h3=>?_⟩,λy c h=>⟨_,x.cell y c h⟩,e0.hok.fresh (aE _),λy c h=>?_,λp hp=>absurd (show p∈([]:List (Addr×Obj)) from hp) (by simp),e0.hok.kept hk,?_⟩
 ·exact name_of_addr x.apart (cP h1) (cP h2)
 ·have hy:scope.names.lookup y=some .cell\/scope.names.lookup y=some .free:=hy;rcases hy with hy | hy
  ·exact sE hy
  ·exact absurd rfl (S.nofree _ (cP hy))
 ·exact ci (x.above y c (cP h))
 ·have hi:i<vs.length:=by
   unfold start at h2;by_cases hi:i<vs.length
   ·exact hi
   ·rw[aV (by simpa using hi)] at h2;rw[jO] at h2
    split at h2<;>cases h2
  have ha:vs[i]? = some v:=by
   unfold start at h2;rw[bK (by simpa using hi),ar] at h2;cases e:vs[i]? with
   | none=>rw[e] at h2;cases h2
   | some a=>rw[e] at h2;cases h2;rfl
  obtain⟨u,hu,rv⟩:=r.get ha;have hp:ps[i]? = some y:=by
   rw[<-S.pre,List.getElem?_take_of_lt (by lia)];exact h1
  have ndP:ps.Nodup:=by rw[<-S.pre];exact S.nd.sublist (List.take_sublist _ _)
  refine⟨u,rv,?_⟩;rcases S.par y (bP hp) with k | k
  ·exact .inl ⟨k,pI ndP hp hu k⟩
  ·obtain⟨c,e⟩:=sE (n:=s.heap.objs.size+1) k;refine .inr ⟨.inl k,c,e,?_⟩;have q:=x.cell y c e;rw[pK ndP hp hu (by show scope.names.lookup y≠_;rw[k];decide)] at q;exact q
 ·exact e0.hok.fresh (ci (x.above y c (cP h)))
 ·unfold start;show _=N.length;rw[aX,aB,kF];lia
def GV{CX:Am}{P:Program}{w:World}{K:Kw}{mg:Str->Option Value}{base:Heap}{k:Nat}{f:Addr}{name qual:Str}{params:Arguments}{body:List Stmt}{scope:Scope}{dV kV doc pm cdv ct oc:Value}{an od:Option Addr}
  {osl:Array (Option Value)} {N ps:List Str} {sp:Sp} (lk:K.lookup f=some ⟨oc,od,.func (PySem.W.fnOf name qual params body scope dV kV doc pm an cdv ct),osl⟩) (hcd:PySem.W.codeIn K cdv qual=true) (S:bn N ps scope)
  (len:∀vs H Q E,sp vs H Q E->vs.length=ps.length)
  (hbody:∀(A:Around) (outer:List Env) (s:Shared) (H:Hp) (vs:List V) (Q:VK) (E:XK),i4 k (A.deeper (envOfC qual scope s.heap.objs.size f cdv))->sp vs H Q E →
   ∃t,sL (rq CX P w K mg base N qual scope f cdv A outer s H E) body t/\t { nx:=λ_ H'=>Q .non H',rt:=Q } (start N vs) H) :
  nu P w K mg base CX (k+1) f (PySem.W.fnOf name qual params body scope dV kV doc pm an cdv ct) ps sp:=by
 refine⟨len,λA outer s H args us vs Q E hr e0 hb r hsp=>?_⟩;have hl:=len _ _ _ _ hsp;have KX:K.In s.heap:=e0.mod.kin.keeps λb o e=>(e0.bs b o e).1;have lim:s.heap.NoLimit:=e0.mod.nolimit.keeps λb o e=>(e0.bs b o e).1;have hkind:∀y∈ps.zip us,scope.names.lookup y.1=some .local\/(scope.names.lookup y.1=some .cell/\((cellsFrom (s.heap.objs.size+1) scope.names []).lookup y.1).isSome=true):=λ⟨n,v⟩ hy=>by
  rcases S.par n (jp hy).1 with q | q
  ·exact .inl q
  ·exact .inr ⟨q,je _ _ _ (.inl q)⟩
 refine codeAny_call_function hr.depth (KX _ _ lk) rfl S.co S.gen rfl (PySem.W.codeRec_of KX hcd) (hb _ _ _ _ ?_);refine wpAny_newFunctionEnv_cells S.kind hkind λenv he s1 x=>?_;subst he;refine⟨lim.keeps x.toInCall.keep,codeAny_func ?_⟩;obtain⟨t,ht,hq⟩:=hbody A outer s H vs Q E (hr.deeper _) hsp;have I:bY (rq CX P w K mg base N qual scope f cdv A outer s H E) [] (start N vs) H s1:=wn S hr.hd e0 hl r x;refine K1 (ht [] s1 (start N vs) H _ I hq) (λfl s' hs=>?_) λe s' hs=>hs;have fin:∀{σ':St} {H':Hp} {v:V} {u:Value},bY (rq CX P w K mg base N qual scope f cdv A outer s H E) [] σ' H' s'->RelV v u->Q v H'->CE outer P w H s Q u s':=
  fun {σ' H' v u} J rv q=>⟨v,H',J.os,J.bare,J.base,J.hok,rv,q⟩
 cases fl with
 | ret u=>
  obtain⟨v,σ',H',J,rv,q⟩:=hs;exact fin J rv q
 | next=>
  obtain⟨σ',H',J,q⟩:=hs;exact fin (v:=V.non) (u:=Value.none) J rfl q
 | brk=>
  obtain⟨_,_,_,q⟩:=hs;exact False.elim q
 | cont=>
  obtain⟨_,_,_,q⟩:=hs;exact False.elim q
section
variable {X:Cx} {x:Str} {p pos:Pos} {e:Expr} {es:List Expr} {t:TA} {id T:String} {r:List V->Hp->VK->Prop}
def FA(r:List V->Hp->VK->Prop)(t:TA):TE:=λσ H Q=>t σ H λvs H1=>r vs H1 Q
def za (hc:fg X (.builtin id) r) (hg:Gl X x) (hm:X.mg x=none) (hv:bootBuiltins x=some (.builtin id)) (ha:PA X (e::es) t) (hn:x≠"__name__":=by decide) (hdb:(x==("__debug__":Str))=false:=by decide)
  (he:starEach (e::es) X.env=(false,eval e X.env)::starEach es X.env:=by rfl) (hpl:(backTo pos (starEach es X.env)).any (·.1)=false:=by rfl):PE X (.Call (.Name x p) (e::es) [] pos) (FA r t):=by
 intro pins s σ H Q I h;refine Kc (iR I hg hm hv ?_ hn hdb);exact PyProof.Rows.callWith_builtin1 (dH (ha pos pins s σ H _ I h) λus s1 ⟨vs,H1,I1,r1,q1⟩=>hc pins s1 σ H1 vs us Q I1 r1 q1) he hpl
def wR (hc:fg X (.type T) r) (hg:Gl X x) (hm:X.mg x=none) (hv:bootBuiltins x=some (.type T)) (ha:PA X (e::es) t) (hn:x≠"__name__":=by decide) (hdb:(x==("__debug__":Str))=false:=by decide)
  (he:starEach (e::es) X.env=(false,eval e X.env)::starEach es X.env:=by rfl) (hpl:(backTo pos (starEach es X.env)).any (·.1)=false:=by rfl):PE X (.Call (.Name x p) (e::es) [] pos) (FA r t):=by
 intro pins s σ H Q I h;refine Kc (iR I hg hm hv ?_ hn hdb);exact bS (dH (ha pos pins s σ H _ I h) λus s1 ⟨vs,H1,I1,r1,q1⟩=>hc pins s1 σ H1 vs us Q I1 r1 q1) he hpl
end
end L2
namespace HT
open PySem PyProof.Rows
section
def sIx(n d:Nat):Option Int->Nat
 | none=>d
 | some v=>if v<0 then (v+(n:Int)).toNat else min v.toNat n
def sIx_none(n d:Nat):sIx n d none=d:=rfl
def sIx_nat(n d k:Nat):sIx n d (some (k:Int))=min k n:=by
 show (if (k:Int)<0 then ((k:Int)+(n:Int)).toNat else min (k:Int).toNat n)=min k n;rw[Kn (by lia),ig]
end
end HT
namespace L2
open PySem PySem.Spec PyProof.Rows
abbrev TO:=St->Hp->(Option Int->Hp->Prop)->Prop
def PO(X:Cx)(e:Option Expr)(t:TO):Prop:=
 ∀(pins:List (Addr×Obj)) (s:Shared) (σ:St) (H:Hp) (Q:Option Int->Hp->Prop),bY X pins σ H s->t σ H Q →
  wpAny (model X.prog X.w) X.A (evalPart e X.env) (λu s'=>∃o H',bY X pins σ H' s'/\IsPart u o/\Q o H') X.xe s
def pR:TO:=λ_ H Q=>Q none H
def yN(t:TE):TO:=λσ H Q=>t σ H λx H1=>∃i,x=.int i/\Q (some i) H1
section
variable {X:Cx} {e:Expr} {te:TE} {lo hi:Option Expr} {tl th:TO} {pos p2:Pos}
def B8:PO X none pR:=by
 intro pins s σ H Q I h;rw[evalPart_none];exact K6 ⟨none,H,I,.none,h⟩
def B7(h:PE X e te):PO X (some e) (yN te):=by
 intro pins s σ H Q I hw;rw[evalPart_some];refine dH (h pins s σ H _ I hw) λu s1 ⟨x,H1,I1,r1,q1⟩=>?_;obtain⟨i,rfl,q⟩:=q1;obtain⟨t,rfl⟩:=r1;exact⟨some i,H1,I1,.int i t,q⟩
def Gu(X:Cx)(r:V->Option Int->Option Int->Hp->VK->Prop):Prop:=
 ∀(pins:List (Addr×Obj)) (s:Shared) (σ:St) (H:Hp) (x:V) (v vl vu:Value) (lo hi:Option Int) (sl:Addr) (Q:VK),bY X pins σ H s->RelV x v->s.heap.IsSliceOf sl vl vu .none->IsPart vl lo->IsPart vu hi->r x lo hi H Q →
  ∃T id,typeLookup (.type T) "__getitem__"=pure (some (.builtin id))/\s.TypeIs v T/\wpAny (model X.prog X.w) X.A (getItem v (.ref sl)) (EP X pins σ Q) X.xe s
def HC(r:V->Option Int->Option Int->Hp->VK->Prop)(te:TE)(tl th:TO):TE:=λσ H Q=>te σ H λx H1=>tl σ H1 λl H2=>th σ H2 λu H3=>r x l u H3 Q
def zT{r:V->Option Int->Option Int->Hp->VK->Prop}(hr:Gu X r)(he:PE X e te)(hl:PO X lo tl)(hu:PO X hi th):PE X (.Subscript e (.Slice lo hi none p2) pos) (HC r te tl th):=by
 intro pins s σ H Q I h;refine Subscript_ (dH (he pins s σ H _ I h) λv s1 ⟨x,H1,I1,r1,q1⟩=>?_);refine wpAny_Slice (dH (hl pins s1 σ H1 _ I1 q1) λvl s2 ⟨l,H2,I2,pl,q2⟩=>dH (hu pins s2 σ H2 _ I2 q2) λvu s3 ⟨u,H3,I3,pu,q3⟩=>?_);rw[evalPart_none];refine K6 ?_;have I4:bY X pins σ H3 { s3 with heap:=s3.heap.push { cls:=.type "slice",data:=.fields #[vl,vu,.none] } }:=I3.kept (t':=s3.toks) λb ob q=>aA _ q;obtain⟨T,id,hT,ht,hg⟩:=hr pins { s3 with heap:=s3.heap.push { cls:=.type "slice",data:=.fields #[vl,vu,.none] } } σ H3 x v vl vu l u s3.heap.objs.size Q I4 r1 (Heap.IsSliceOf.new ..) pl pu q3;show wpAny (model X.prog X.w) X.A (subscriptTail e (.Slice lo hi none p2) v (.ref s3.heap.objs.size)) (EP X pins σ Q) X.xe { s3 with heap:=s3.heap.push { cls:=.type "slice",data:=.fields #[vl,vu,.none] } };exact tail_any (ops:=[.ref s3.heap.objs.size,v]) ht hT hg (by with_unfolding_all rfl)
def m8(xs:List V)(lo hi:Option Int):List V:=(xs.drop (HT.sIx xs.length 0 lo)).take (HT.sIx xs.length xs.length hi-HT.sIx xs.length 0 lo)
def sA(xs:List V)(lo hi:Option Int):(m8 xs lo hi).length<=xs.length:=by
 unfold m8;rw[bV,fE];lia
end
def Ap(n:Nat)(i:Int):Option Nat:=if 0<=i then (if i<n then some i.toNat else none) else if -(n:Int)<=i then some (i+n).toNat else none
def pL{α:Type}(xs:List α)(i:Int):Option α:=(Ap xs.length i).bind λj=>xs[j]?
def vR{n:Nat}{i:Int}{j:Nat}(h:Ap n i=some j):seqIndex? i n=some j/\j<n/\-(n:Int)<=i/\i<n:=by
 unfold Ap at h;by_cases h0:0<=i
 ·rw[Ko h0] at h;by_cases h1:i<n
  ·rw[Ko h1] at h;have e:i.toNat=j:=aa h;exact⟨by rw[seqIndex_of h0 h1,e],by lia,by lia,h1⟩
  ·rw[Kn h1] at h;cases h
 ·rw[Kn h0] at h;by_cases h1:-(n:Int)<=i
  ·rw[Ko h1] at h;have e:(i+n).toNat=j:=aa h;exact⟨by rw[seqIndex_neg (by lia) h1,e],by lia,h1,by lia⟩
  ·rw[Kn h1] at h;cases h
def qR{α:Type}{xs:List α}{i:Int}{v:α}(h:pL xs i=some v):∃j,seqIndex? i xs.length=some j/\xs[j]? = some v/\j<xs.length/\-(xs.length:Int)<=i/\i<xs.length:=by
 unfold pL at h;cases e:Ap xs.length i with
 | none=>rw[e] at h;cases h
 | some j=>
  rw[e] at h;obtain⟨h1,h2,h3,h4⟩:=vR e;exact⟨j,h1,h,h2,h3,h4⟩
def ez{α:Type}{xs:List α}{j:Nat}{v:α}(h:xs[j]? = some v):pL xs (j:Int)=some v:=by
 have hj:j<xs.length:=(aJ.mp h).1;have e:Ap xs.length (j:Int)=some j:=by
  unfold Ap;rw[Ko (by lia),Ko (by lia)];simp
 unfold pL;rw[e];exact h
def vf(b:Expr):Prop:=∀o i,subscripted b false o i=operate [o,i] (getItem o i)
def FH(X:Cx)(r:R2):Prop:=
 ∀(value slice:Expr) (pins:List (Addr×Obj)) (s:Shared) (σ:St) (H:Hp) (x y:V) (v u:Value) (Q:VK),bY X pins σ H s->RelV x v->RelV y u->r x y H Q →
  subscripted slice false v u=operate [v,u] (getItem v u)->wpAny (model X.prog X.w) X.A (subscriptTail value slice v u) (EP X pins σ Q) X.xe s
def G5(X:Cx)(id:String)(r:V->List V->Hp->VK->Prop):Prop:=
 ∀(pins:List (Addr×Obj)) (s:Shared) (σ:St) (H:Hp) (x:V) (xs:List V) (v:Value) (us:List Value) (Q:VK),bY X pins σ H s->RelV x v->cE xs us->r x xs H Q →
  wpAny (model X.prog X.w) X.A (call (.builtin id) (v::us)) (EP X pins σ Q) X.xe s
section
variable {X:Cx} {a b:Expr} {ta tb:TE} {pos:Pos}
def GC{r:R2}(hr:FH X r)(ha:PE X a ta)(hb:PE X b tb)(hs:vf b):PE X (.Subscript a b pos) (yO r ta tb):=by
 intro pins s σ H Q I h;exact Subscript_ (El ha hb I h λv u s2 x y H2 I2 rx ry q=>hr a b pins s2 σ H2 x y v u Q I2 rx ry q (hs _ _))
def BU(K:Kw):R2:=λx y H Q=>∃p xs i v,x=.ref p/\y=.int i/\cL K H p xs/\pL xs i=some v/\Q v H
def Fp(K:Kw):R2:=λx y H Q=>∃p xs i v,x=.ref p/\y=.int i/\dr K H p xs/\pL xs i=some v/\Q v H
def Fq:R2:=λx y H Q=>∃z i c,x=.str z/\y=.int i/\z.length<=sizeLine/\pL z.cps.toList i=some c/\Q (.str ⟨#[c]⟩) H
def cI:FH X (BU X.K):=by
 intro value slice pins s σ H x y v u Q I rx ry h hs;obtain⟨p,xs,i,z,rfl,rfl,hq,he,q⟩:=h;cases rx;obtain⟨t,rfl⟩:=ry;obtain⟨its,r,pl,hz⟩:=I.list hq;obtain⟨j,h1,h2,h3,h4,h5⟩:=qR he;obtain⟨w,ew,rw'⟩:=r.get h2;have hl:=r.length;have hn:=lR;have fin:EP X pins σ Q w s:=⟨z,H,I,rw',q⟩
 by_cases h0:0<=i
 ·have hj:i.toNat=j:=by
   rw[seqIndex_of h0 h5] at h1;exact aa h1
  exact item_listR pl.isList h0 (by lia) (by rw[hj];simpa using ew) fin hs
 ·have hj:(i+(its.toArray.size:Int)).toNat=j:=by
   rw[seqIndex_neg (by lia) h4] at h1;rw[aP,<-hl];exact aa h1
  exact subscriptTail_builtinR (x:=w) pl.isList.typeIs slot_list_getitem.lookup
   (wpAny_getItem_list_neg (Q:=λr s'=>r=w/\EP X pins σ Q r s') pl.isList (by lia) (by rw[aP]<;>lia) (by lia) (by rw[hj];simpa using ew) ⟨rfl,fin⟩) hs
def fV:FH X (Fp X.K):=by
 intro value slice pins s σ H x y v u Q I rx ry h hs;obtain⟨p,xs,i,z,rfl,rfl,hq,he,q⟩:=h;cases rx;obtain⟨t,rfl⟩:=ry;obtain⟨its,r,pl,hz⟩:=I.tuple hq;obtain⟨j,h1,h2,h3,h4,h5⟩:=qR he;obtain⟨w,ew,rw'⟩:=r.get h2;have hl:=r.length;have hn:=lR;have fin:EP X pins σ Q w s:=⟨z,H,I,rw',q⟩
 exact subscriptTail_builtinR (x:=w) pl.typeIs slot_tuple_getitem.lookup
  (getItem_tuple (j:=j) (Q:=λr s'=>r=w/\EP X pins σ Q r s') pl (by lia) (by lia) (by rw[aP,<-hl];exact h1) (by simpa using ew) ⟨rfl,fin⟩) hs
def mQ:FH X Fq:=by
 intro value slice pins s σ H x y v u Q I rx ry h hs;obtain⟨z,i,c,rfl,rfl,hz,he,q⟩:=h;obtain⟨t,rfl⟩:=rx;obtain⟨t',rfl⟩:=ry;obtain⟨j,h1,h2,h3,h4,h5⟩:=qR he;have hl:z.cps.toList.length=z.length:=by simp[Str.length]
 rw[hl] at h1 h4 h5;have hn:=lR;exact tail_any (Kd s z t) slot_str_getitem.lookup (getItem_str (c:=c) (by
  have e1:decide (i < -(2 ^ 63:Int))=false:=Kr (by lia);have e2:decide (i>=2 ^ 63)=false:=Kr (by lia);rw[e1,e2,ix]) (by rw[h1];simpa using h2) ⟨.str ⟨#[c]⟩,H,I.tok _,⟨_,rfl⟩,q⟩) hs
def t3 (its:List Value) (n j:Nat) (u:Value):Obj.mapSeq (·.setIfInBounds j u) { cls:=.type "list",data:=.seq its.toArray n }={ cls:=.type "list",data:=.seq (its.set j u).toArray n }:=by
 simp[Obj.mapSeq]
def bY.lst{pins:List (Addr×Obj)}{σ:St}{H:Hp}{s:Shared}{p:Addr}{xs:List V}(I:bY X pins σ H s)(h:H p=some (.lst xs)):
  ∃(its:List Value) (n:Nat),cE xs its/\s.heap.get? p=some { cls:=.type "list",data:=.seq its.toArray n }/\xs.length<=sizeLine:=by
 obtain⟨z,its,n,r,e⟩:=I.hok p _ h;exact⟨its,n,r,e,z⟩
def bY.lstUpd{pins:List (Addr×Obj)}{σ:St}{H:Hp}{s:Shared}{p:Addr}{xs ys:List V}{its its':List Value}{n n':Nat}{f:Obj->Obj}(I:bY X pins σ H s)(h:H p=some (.lst xs))
  (ho:s.heap.get? p=some { cls:=.type "list",data:=.seq its.toArray n }) (hf:f { cls:=.type "list",data:=.seq its.toArray n }={ cls:=.type "list",data:=.seq its'.toArray n' }) (r:cE ys its') (hz:ys.length<=sizeLine) (t:Nat) :
  bY X pins σ (upd H p (.lst ys)) { s with heap:=s.heap.update p f,toks:=t }:=by
 have e:(s.heap.update p f).get? p=some { cls:=.type "list",data:=.seq its'.toArray n' }:=by
  rw[Heap.get?_update_self f ho (by rw[hf]<;>rfl),hf]
 refine I.write (x:=p) (e:=p) (by rw[h];trivial) (.inl rfl) (λb u hb q=>(fv _ _ (bg hb)).trans q) ⟨_,e⟩ ?_;exact⟨hz,its',n',r,e⟩
def Fl:V->V->V->Hp->(Hp->Prop)->Prop:=λo i v H Q=>∃p xs k j,o=.ref p/\i=.int k/\H p=some (.lst xs)/\Ap xs.length k=some j/\Q (upd H p (.lst (xs.set j v)))
def set_list:Ep X Fl:=by
 intro pins s σ H o i v ov iv u Q I ro ri rv h;obtain⟨p,xs,k,j,rfl,rfl,hp,hj,q⟩:=h;cases ro;obtain⟨t,rfl⟩:=ri;obtain⟨its,n,r,ho,hz⟩:=I.lst hp;obtain⟨h1,h2,h3,h4⟩:=vR hj;have hl:=r.length;have hn:=lR;have I':bY X pins σ (upd H p (.lst (xs.set j v))) { s with heap:=s.heap.update p (Obj.mapSeq (·.setIfInBounds j u)) }:=
  I.lstUpd hp ho (t3 its n j u) (r.set rv j) (by rw[dy];exact hz) s.toks
 by_cases h0:0<=k
 ·have hk:k.toNat=j:=by
   rw[seqIndex_of h0 h4] at h1;exact aa h1
  exact PySem.W.ki_setAt ho h0 (by lia) (by rw[aP,<-hl];exact h4) (by rw[hk];exact⟨_,I',q⟩)
 ·have hk:(k+(its.toArray.size:Int)).toNat=j:=by
   rw[seqIndex_neg (by lia) h3] at h1;rw[aP,<-hl];exact aa h1
  exact PySem.W.ki_setBack ho (by lia) (by rw[aP,<-hl];exact h3) (by lia) (by rw[hk];exact⟨_,I',q⟩)
def p7(lo hi:Option Int)(n:Nat):(sliceBounds lo hi none n).1=((HT.sIx n 0 lo:Nat):Int)/\(sliceBounds lo hi none n).2.1=((HT.sIx n n hi:Nat):Int)/\(sliceBounds lo hi none n).2.2=1:=by
 refine⟨?_,?_,rfl⟩
 ·cases lo with
  | none=>simp[sliceBounds,HT.sIx]
  | some i=>
   simp only[sliceBounds,HT.sIx,Option.getD_none,show (1:Int) > 0 by decide,Ku];by_cases h:i<0
   ·simp only[h,Ku]<;>lia
   ·simp only[h,Kv]<;>lia
 ·cases hi with
  | none=>simp[sliceBounds,HT.sIx]
  | some i=>
   simp only[sliceBounds,HT.sIx,Option.getD_none,show (1:Int) > 0 by decide,Ku];by_cases h:i<0
   ·simp only[h,Ku]<;>lia
   ·simp only[h,Kv]<;>lia
def oB(its:List Value)(lo hi:Option Int):slicePick its.toArray lo hi none=((its.drop (HT.sIx its.length 0 lo)).take (HT.sIx its.length its.length hi-HT.sIx its.length 0 lo)).toArray:=by
 obtain⟨h1,h2,h3⟩:=p7 lo hi its.toArray.size;unfold slicePick;rw[h1,h2,h3];simp only[sliceRange_one,pick_run,aP]<;>rfl
def yy(K:Kw):V->Option Int->Option Int->Hp->VK->Prop:=λx lo hi H Q=>∃a xs,x=.ref a/\cL K H a xs/\∀p,H p=none->Q (.ref p) (upd H p (.lst (m8 xs lo hi)))
def i8:Gu X (yy X.K):=by
 intro pins s σ H x v vl vu lo hi sl Q I rx hs pl pu h;obtain⟨a,xs,rfl,hx,q⟩:=h;cases rx;obtain⟨its,r,ht,hz⟩:=I.list hx;have hlen:=r.length;refine⟨"list",_,slot_list_getitem.lookup,ht.isList.typeIs,?_⟩;refine wpAny_getItem_list_slice ht.isList hs pl pu .none (by simp) ?_ (by rw[aP]<;>lia);rw[oB,<-hlen];refine⟨.ref s.heap.objs.size,_,I.laid (t':=s.toks) (o:=.lst (m8 xs lo hi)) (λb ob q=>aA _ q) (aE _) ?_,rfl,q _ (I.hok.fresh (aE _))⟩;exact⟨av (sA xs lo hi) hz,_,0,(r.drop (HT.sIx xs.length 0 lo)).take (HT.sIx xs.length xs.length hi-HT.sIx xs.length 0 lo),aR _ rfl⟩
def bq:fg X (.builtin "len") (λxs H Q=>∃p ys,xs=[.ref p]/\(cL X.K H p ys\/dr X.K H p ys)/\Q (.int ys.length) H):=by
 intro pins s σ H xs us Q I r h;obtain⟨p,ys,rfl,hq,q⟩:=h;obtain⟨u,rfl,rx⟩:=Kb r;cases rx;have hn:=lR;rcases hq with hq | hq
 ·obtain⟨its,r',pl,hz⟩:=I.list hq;have hlen:=r'.length;exact Calls.call_len_list pl.isList (by simp only[aP]<;>lia) ⟨.int ys.length,H,I.tok _,⟨s.toks+1,by rw[aP,hlen]⟩,q⟩
 ·obtain⟨its,r',pl,hz⟩:=I.tuple hq;have hlen:=r'.length;exact len_tuple pl (by simp only[aP]<;>lia) ⟨.int ys.length,H,I.tok _,⟨s.toks+1,by rw[aP,hlen]⟩,q⟩
def ce:fg X (.builtin "len") (λxs H Q=>∃z,xs=[.str z]/\z.length<=sizeLine/\Q (.int z.length) H):=by
 intro pins s σ H xs us Q I r h;obtain⟨z,rfl,hz,q⟩:=h;obtain⟨u,rfl,t,rfl⟩:=Kb r;have hn:=lR;exact len_str (by lia) ⟨.int z.length,H,I.tok _,⟨_,rfl⟩,q⟩
def jc:fg X (.type "list") (λxs H Q=>∃p ys,xs=[.ref p]/\(cL X.K H p ys\/dr X.K H p ys)/\∀l,H l=none->Q (.ref l) (upd H l (.lst ys))):=by
 intro pins s σ H xs us Q I r h;obtain⟨p,ys,rfl,hq,q⟩:=h;obtain⟨u,rfl,rx⟩:=Kb r;cases rx;have fin:∀(its:List Value),cE ys its->ys.length<=sizeLine->∀(h':Heap) (c':Nat),(∀b o',s.heap.get? b=some o'->h'.get? b=some o') →
   h'.get? s.heap.objs.size=some { cls:=.type "list",dict:=none,data:=.seq its.toArray c',slots:=#[] }->EP X pins σ Q (.ref s.heap.objs.size) { s with heap:=h' }:=λits r' hz h' c' kp e=>
  ⟨.ref s.heap.objs.size,_,I.laid (t':=s.toks) kp (aE _) (show cg X.prog X.w _ h' _ (.lst ys) from ⟨hz,its,c',r',e⟩),rfl,q _ (I.hok.fresh (aE _))⟩
 rcases hq with hq | hq
 ·obtain⟨its,r',pl,hz⟩:=I.list hq;have hlen:=r'.length;obtain⟨o,ho,hc,n,hd⟩:=pl.isList;exact call_list_seq p (.inl rfl) ho hc hd (λh' c' kp e=>fin its r' hz h' c' kp e) (by simp only[aP]<;>lia)
 ·obtain⟨its,r',pl,hz⟩:=I.tuple hq;have hlen:=r'.length;obtain⟨o,ho,hc,n,hd⟩:=pl;exact call_list_seq p (.inr rfl) ho hc hd (λh' c' kp e=>fin its r' hz h' c' kp e) (by simp only[aP]<;>lia)
def oP:fg X (.type "tuple") (λxs H Q=>∃p ys,xs=[.ref p]/\((cL X.K H p ys/\∀l,H l=none->Q (.ref l) (upd H l (.tup ys)))\/(dr X.K H p ys/\Q (.ref p) H))):=by
 intro pins s σ H xs us Q I r h;obtain⟨p,ys,rfl,h⟩:=h;obtain⟨u,rfl,rx⟩:=Kb r;cases rx;rcases h with ⟨hq,q⟩ | ⟨hq,q⟩
 ·obtain⟨its,r',pl,hz⟩:=I.list hq;have hlen:=r'.length;refine call_tuple_list pl.isList (λh' kp=>?_) (by simp only[aP]<;>lia);have I1:bY X pins σ H { s with heap:=h' }:=I.kept (t':=s.toks) kp;have I2:bY X pins σ (upd H h'.objs.size (.tup ys)) { s with heap:=h'.push { cls:=.type "tuple",data:=.seq its.toArray } }:=
   I1.laid (t':=s.toks) (λb o e=>aA _ e) (aE _) (show cg X.prog X.w _ _ _ (.tup ys) from ⟨hz,its,r',IsTup.new _ _⟩)
  exact⟨.ref h'.objs.size,_,I2,rfl,q _ (I1.hok.fresh (aE _))⟩
 ·obtain⟨its,r',pl,hz⟩:=I.tuple hq;exact call_tuple_same pl ⟨.ref p,H,I,rfl,q⟩
def Ez (K : Kw) (T : String) (x : V) (H : Hp) : Prop := match x with
 | .str _ => T = "str"
 | .int _ => T = "int"
 | .ref p => (T = "list" ∧ ∃ xs, cL K H p xs) ∨ (T = "tuple" ∧ ∃ o, K.lookup p = some o ∧ o.cls = .type "tuple" ∧ o.dict = none) ∨
   (T = "dict" ∧ ((∃ kvs, H p = some (.dK kvs)) ∨ ∃ kvs, H p = some (.dT kvs))) ∨ (T = "set" ∧ ∃ S n, H p = some (.set S n))
 | _ => False
def xv{pins:List (Addr×Obj)}{σ:St}{H:Hp}{s:Shared}{T:String}{x:V}{v:Value}(I:bY X pins σ H s)(r:RelV x v)(ty:Ez X.K T x H):
  s.TypeIs v T/\∀a,v=.ref a->∃ob,s.heap.get? a=some ob/\ob.dict=none:=by
 cases x with
 | str z=>
  obtain⟨t,rfl⟩:=r;cases (show T="str" from ty);exact⟨Kd s z t,λ_ e=>nomatch e⟩
 | int i=>
  obtain⟨t,rfl⟩:=r;cases (show T="int" from ty);exact⟨typeIs_int s i t,λ_ e=>nomatch e⟩
 | ref p=>
  cases r;rcases ty with ⟨rfl,xs,hq⟩ | ⟨rfl,o,hk,hc,hd⟩ | ⟨rfl,hk⟩ | ⟨rfl,S,n,hk⟩
  ·obtain⟨its,_,pl,_⟩:=I.list hq;refine⟨pl.isList.typeIs,λa e=>?_⟩;cases e;obtain⟨o,n,e,c,hd,_⟩:=pl;exact⟨o,e,hd⟩
  ·refine⟨⟨o,I.kIn p o hk,hc⟩,λa e=>?_⟩;cases e;exact⟨o,I.kIn _ o hk,hd⟩
  ·have z:∃o,s.heap.get? p=some o/\o.ExactDict:=by
    rcases hk with ⟨kvs,hk⟩ | ⟨kvs,hk⟩
    ·obtain⟨_,_,_,_,o,_,_,e,ex,_⟩:=I.hok p _ hk;exact⟨o,e,ex⟩
    ·obtain⟨_,_,_,_,o,_,_,e,ex,_⟩:=I.hok p _ hk;exact⟨o,e,ex⟩
   obtain⟨o,e,ex⟩:=z;refine⟨⟨o,e,ex.1⟩,λa e2=>?_⟩;cases e2;exact⟨o,e,ex.2.1⟩
  ·obtain⟨o,_,_,_,e,ex,_⟩:=I.hok p _ hk;refine⟨⟨o,e,ex.1⟩,λa e2=>?_⟩;cases e2;exact⟨o,e,ex.2.1⟩
 | _=>exact False.elim ty
def D8(K:Kw)(T:String)(r:V->List V->Hp->VK->Prop)(to:TE):TE:=λσ H Q=>to σ H λx H1=>Ez K T x H1/\r x [] H1 Q
def HF(K:Kw)(T:String)(r:V->List V->Hp->VK->Prop)(to:TE)(t:TA):TE:=λσ H Q=>to σ H λx H1=>Ez K T x H1/\t σ H1 λxs H2=>r x xs H2 Q
variable {o e:Expr} {es:List Expr} {to:TE} {t:TA} {name:Str} {apos cpos:Pos} {T id:String} {r:V->List V->Hp->VK->Prop}
def EM (pa:PlainAttrs T) (slot:Slot T name id) (hty:typeOf (.builtin id)=pure (.type "method_descriptor")) (hm:G5 X id r) (ho:PE X o to)
  (hbase:attributeBase o name X.env (eval o X.env)=eval o X.env:=by rfl) (hline:(apos.endLine==cpos.line)=true:=by rfl):PE X (.Call (.Attribute o name apos) [] [] cpos) (D8 X.K T r to):=by
 intro pins s σ H Q I h;refine wpAny_Call_method0_late hbase hline (dH (ho pins s σ H _ I h) λv s1 ⟨x,H1,I1,r1,ty,q1⟩=>?_);obtain⟨h1,h2⟩:=xv I1 r1 ty;exact⟨T,id,pa,slot,hty,h1,h2,Calls.callWith_builtin rfl (PySem.evalArgs_none (hm pins s1 σ H1 x [] v [] Q I1 r1 .nil q1))⟩
def GD (pa:PlainAttrs T) (slot:Slot T name id) (hty:typeOf (.builtin id)=pure (.type "method_descriptor")) (hm:G5 X id r) (ho:PE X o to) (ha:PA X (e::es) t)
  (hbase:attributeBase o name X.env (eval o X.env)=eval o X.env:=by rfl)
  (hfew:((backTo cpos (starEach (e::es) X.env)).all (λx=>!x.1)&&(backToKw cpos (keywordEach [] X.env)).all (λx=>x.1.isSome)
   && decide ((e::es).length+([]:List Keyword).length+(if ([]:List Keyword).isEmpty then 0 else 1)<30))=true:=by rfl)
  (hline:(apos.endLine==cpos.line)=true:=by rfl) (hs:starEach (e::es) X.env=(false,eval e X.env)::starEach es X.env:=by rfl) (hplain:(backTo cpos (starEach es X.env)).any (·.1)=false:=by rfl) :
  PE X (.Call (.Attribute o name apos) (e::es) [] cpos) (HF X.K T r to t):=by
 intro pins s σ H Q I h;refine wpAny_Call_method_late hbase hfew hline rfl (dH (ho pins s σ H _ I h) λv s1 ⟨x,H1,I1,r1,ty,q1⟩=>?_);obtain⟨h1,h2⟩:=xv I1 r1 ty;refine⟨T,id,pa,slot,hty,h1,h2,?_⟩;have hA:=ha cpos pins s1 σ H1 _ I1 q1;rw[hs] at hA ⊢;refine Calls.callWith_builtin (by show (false || (backTo cpos (starEach es X.env)).any (·.1))=false;rw[hplain]<;>rfl) (Calls.evalArgs_plain ?_);exact dH hA λus s2 ⟨vs,H2,I2,r2,q2⟩=>hm pins s2 σ H2 x vs v us Q I2 r1 r2 q2
/- xs.append(e),list.index on a module's tuple .. are G5 facts of 06m -/
end
def Eu(X:Cx)(id:String)(r:V->List V->Hp->VK->Prop):Prop:=
 ∀(pins:List (Addr×Obj)) (s:Shared) (σ:St) (H:Hp) (x:V) (xs:List V) (v:Value) (us:List Value) (Q:VK),bY X pins σ H s->RelV x v->cE xs us->r x xs H Q →
  wpAny (model X.prog X.w) X.A (call (.builtin id) (v::us)) (EP X pins σ Q) X.xe s
def cE.one:∀{x:V} {us:List Value},cE [x] us->∃u,us=[u]/\RelV x u
 | _,_,.cons r .nil=>⟨_,rfl,r⟩
def cE.two:∀{x y:V} {us:List Value},cE [x,y] us->∃u v,us=[u,v]/\RelV x u/\RelV y v
 | _,_,_,.cons r (.cons q .nil)=>⟨_,_,rfl,r,q⟩
def cE.zero:∀{us:List Value},cE [] us->us=[]
 | _,.nil=>rfl
def cE.dropLast{xs:List V}{us:List Value}(h:cE xs us):cE xs.dropLast us.dropLast:=by
 induction h with
 | nil=>exact .nil
 | cons r t ih=>
  cases t with
  | nil=>exact .nil
  | cons q t'=>exact .cons r ih
def tw{α:Type}(l:List α):l.eraseIdx (l.length - 1)=l.dropLast:=by
 induction l with
 | nil=>rfl
 | cons a r ih=>
  cases r with
  | nil=>rfl
  | cons b r=>
   have e:(a::b::r).length - 1=((b::r).length - 1)+1:=by
    have h1:(a::b::r).length=r.length+2:=rfl;have h2:(b::r).length=r.length+1:=rfl;lia
   rw[e,List.eraseIdx_cons_succ,ih]
   all_goals rfl
section
variable {X:Cx} {pins:List (Addr×Obj)} {σ:St} {H:Hp} {s:Shared} {l:Addr} {xs ys:List V}
def bY.lset{its its':List Value}{n:Nat}{f:Array Value->Array Value}{t':Nat}(I:bY X pins σ H s)(hH:H l=some (.lst xs))
  (e:s.heap.get? l=some { cls:=.type "list",data:=.seq its.toArray n }) (hf:f its.toArray=its'.toArray) (hv:cE ys its') (hz:ys.length<=sizeLine) :
  bY X pins σ (upd H l (.lst ys)) { s with heap:=s.heap.update l (Obj.mapSeq f),toks:=t' }:=by
 have q:=PySem.IsL.update e f;rw[hf] at q;refine I.write (x:=l) (e:=l) (by rw[hH];exact trivial) (.inl rfl) (λb' u hb hu=>(fv s.heap (Obj.mapSeq f) (bg hb)).trans hu) ⟨_,q⟩ ?_;exact⟨hz,its',_,hv,q⟩
def bY.lnew{its:List Value}{t':Nat}(I:bY X pins σ H s)(hv:cE ys its)(hz:ys.length<=sizeLine):
  bY X pins σ (upd H s.heap.objs.size (.lst ys)) { s with heap:=s.heap.push { cls:=.type "list",data:=.seq its.toArray },toks:=t' }:=
 I.laid (λ_ _ q=>aA _ q) (aE _) ⟨hz,its,0,hv,aR _ rfl⟩
def bY.fresh(I:bY X pins σ H s):H s.heap.objs.size=none:=I.hok.fresh (aE _)
def bY.lstM (I:bY X pins σ H s) (hH:H l=some (.lst xs)):xs.length<=sizeLine/\∃(its:List Value) (n:Nat),cE xs its/\xs.length=its.length/\s.heap.get? l=some { cls:=.type "list",data:=.seq its.toArray n }:=by
 obtain⟨z,its,n,r,e⟩:=I.hok l _ hH;exact⟨z,its,n,r,r.length,e⟩
end
section
variable {X:Cx}
def vE:V->List V->Hp->VK->Prop:=λx vs H Q=>∃l xs y,x=.ref l/\vs=[y]/\H l=some (.lst xs)/\xs.length<sizeLine/\Q .non (upd H l (.lst (xs++[y])))
def jG:Eu X "list.append" vE:=by
 intro pins s σ H x vs v us Q I rx rv h;obtain⟨l,xs,y,rfl,rfl,hH,hz,q⟩:=h;cases rx;obtain⟨u,rfl,ru⟩:=rv.one;obtain⟨z,its,n,r,hl,e⟩:=I.lstM hH;refine Ke F.slot_list_append ⟨_,e,rfl⟩ F.entry_list_append (F.args_list_append_2 _ _) (PySem.list_append l its.toArray n u (by rw[aP];lia)) ⟨e,?_⟩;refine⟨.non,_,I.lset (its':=its++[u]) hH e (by simp) (r.append (.cons ru .nil)) ?_,rfl,q⟩;rw[aX,eO];lia
def Fm:V->List V->Hp->VK->Prop:=λx vs H Q=>∃l xs y,x=.ref l/\vs=[]/\H l=some (.lst xs)/\xs[xs.length - 1]? = some y/\Q y (upd H l (.lst xs.dropLast))
def EX:Eu X "list.pop" Fm:=by
 intro pins s σ H x vs v us Q I rx rv h;obtain⟨l,xs,y,rfl,rfl,hH,hy,q⟩:=h;cases rx;have hus:=rv.zero;subst hus;obtain⟨z,its,n,r,hl,e⟩:=I.lstM hH;obtain⟨u,hu,ru⟩:=r.get hy;have hy':its.toArray[its.toArray.size - 1]? = some u:=by
  show its.toArray[its.length - 1]? = some u;rw[<-Array.getElem?_toList,<-hl];exact hu
 refine Ke F.slot_list_pop ⟨_,e,rfl⟩ F.entry_list_pop (F.args_list_pop_1 _) (MeetsSeq.list_pop_last l its.toArray n u hy' (by rw[aP];lia)) ⟨e,?_⟩;refine⟨y,_,I.lset (its':=its.dropLast) hH e ?_ r.dropLast ?_,ru,q⟩
 ·show its.toArray.eraseIdxIfInBounds (its.toArray.size - 1)=its.dropLast.toArray;rw[aP,List.eraseIdxIfInBounds_toArray,tw]
 ·rw[List.length_dropLast];lia
def Dk:V->List V->Hp->VK->Prop:=λx vs H Q=>∃l xs,x=.ref l/\vs=[]/\H l=some (.lst xs)/\Q .non (upd H l (.lst []))
def AE:Eu X "list.clear" Dk:=by
 intro pins s σ H x vs v us Q I rx rv h;obtain⟨l,xs,rfl,rfl,hH,q⟩:=h;cases rx;have hus:=rv.zero;subst hus;obtain⟨z,its,n,r,hl,e⟩:=I.lstM hH;refine Ke F.slot_list_clear ⟨_,e,rfl⟩ F.entry_list_clear (F.args_list_clear_1 _) (AutoSeq1.list_clear_list_0 l its.toArray n (by rw[aP];lia)) ⟨e,?_⟩;exact⟨.non,_,I.lset (its':=[]) (ys:=[]) hH e rfl .nil (bE _),rfl,q⟩
def Fu:R2:=λx y H Q=>∃l b xs zs,x=.ref l/\y=.ref b/\H l=some (.lst xs)/\H b=some (.lst zs)/\xs.length+zs.length<=sizeLine/\∀p,H p=none->Q (.ref p) (upd H p (.lst (xs++zs)))
def iN:jY X (binaryOp .Add) Fu:=by
 intro pins s σ H x y v u Q I rx ry h;obtain⟨l,b,xs,zs,rfl,rfl,hH,hB,hz,q⟩:=h;cases rx;cases ry;obtain⟨z,its,n,r,hl,e⟩:=I.lstM hH;obtain⟨z2,its2,n2,r2,hl2,e2⟩:=I.lstM hB;refine PySem.P.add_list e e2 ?_ (by rw[aP,aP];lia);have ea:its.toArray++its2.toArray=(its++its2).toArray:=by simp
 rw[ea];exact⟨.ref _,_,I.lnew (t':=s.toks) (r.append r2) (by rw[aX];lia),rfl,q _ I.fresh⟩
end
section
set_option maxRecDepth 100000 in
end
end L2
namespace Att
open PySem PySem.W PySem.Calls PyProof.Rows
def m7{P:Params}{h:Heap}:∀(ns:List Int) (vs:List Value),WellAll P h vs (ns.map WData.int)->IntsAre vs ns:=by
 intro ns
 induction ns with
 | nil=>
  intro vs w;rw[fD] at w;cases w;exact .nil
 | cons n ns ih=>
  intro vs w;rw[aS] at w;cases w with
  | cons a b=>
   cases a;exact .cons _ _ (ih _ b)
def vz{l:OpenLaw}{n:Nat}(hn:l.most=some n){P:Params}{h:Heap}{args:List WData}{vals:List Value}
  (hpre:l.row.toRowW.claim.pre args=true) (hwl:WellAll P h vals args) :
  ∃a vs ns,vals=[Value.ref a]/\args=[WData.list (ns.map WData.int)]/\h.get? a=some { cls:=.type "list",data:=.seq vs.toArray }/\IntsAre vs ns/\ns.length<=n:=by
 have hsh:WShape.hasAll [] args [.list .int]=true:=(pre_splitW hpre).1;have hc:l.pre.holds [] { args:=args }=true:=(pre_splitW hpre).2;obtain⟨d,r,rfl,h1,h2⟩:=hasAllW_cons hsh;obtain rfl:=hasAllW_nil h2;obtain⟨xs,rfl,h3⟩:=hasW_list h1;obtain⟨ns,rfl⟩:=items_int h3;have hlen:ns.length<=n:=by
  unfold OpenLaw.pre at hc;have h4:(WTm.not (.lt (.lit (.int (n:Int))) (.len (.arg 0)))).holds [] { args:=[.list (ns.map .int)] }=true:=by
   have h4:=(holds_andW hc).1;rw[hn] at h4;exact h4
  have h5:=condW_of h4 (w_not (w_lt w_lit (w_len_list (w_arg rfl))));rw[aB] at h5;refine Nat.le_of_not_lt λq=>?_;have q':(n:Int)<((ns.length:Nat):Int):=by lia
  first
   | (rw[Ks q'] at h5;exact absurd h5 (by decide))
   | (simp at h5;lia)
 cases hwl with
 | cons w1 w2=>
  cases w2;cases w1 with
  | list ho hall=>exact⟨_,_,ns,rfl,rfl,ho,m7 ns _ hall,hlen⟩
def wM(l:OpenLaw)(args:List WData):l.row.toRowW.claim.post args (.bool true) args=true:=
 postW_of (r:=l.row.toRowW) (X:=(true==true))
  (show WShape.has [] (.bool true) .bool=true by first | rfl | decide | simp[WShape.has,WShape.arms,WShape.armsAll])
  (show (WTm.eq .res (.lit (.bool true))).value [] { args:=args,res:=some (.bool true),after:=args }=some (.bool (true==true)) from w_eq_bool (w_res rfl) w_lit) rfl
def attach_call{l:OpenLaw}{n:Nat}{q:Program}{loose:List Str}{XP:(Str->Option Value)->Heap->Prop}{YP:World->Heap->Prop}{d:DefRec}
  (hn:l.most=some n) (hdf:d.params.defaults=[])
  (call:∀(w:World) (s₀ s₁:Shared) (mg mb:Str->Option Value) (fa:Addr) (o:Obj) (pm cd doc:Value) (a:Addr) (vs:List Value) (ns:List Int),
   Ground q loose [] XP w s₀ mg mb s₁.heap->YP w s₁.heap →
   s₁.heap.get? fa=some o->o.data=.func (docDef d.name d.params d.body d.scope pm cd doc)->s₁.heap.CodeRec cd d.name->mg d.name=some (.ref fa) →
   s₁.heap.get? a=some { cls:=.type "list",data:=.seq vs.toArray }->IntsAre vs ns->ns.length<=n->s₁.gens=#[] →
   codeAny (model l.prog w) callerA (.call (.ref fa) ⟨[.ref a],[]⟩) (λr s'=>r=.ok (.ret (.bool true))/\OldK s₁.heap s'.heap/\s'.os=s₁.os/\AllBare s'.gens) s₁) :
  WalkO q loose XP YP l.row.toRowW d [] (λf vs=>PySem.call f vs):=by
 intro w s₀ s₁ mg mb G Y fa o pm cd doc dV kV ho hd hcd hD hmg hg args vals as hpre hlay hrd hwl hlo;obtain rfl:dV=.none:=Dflts.none hD hdf;obtain rfl:kV=.none:=Dflts.noKw hD;obtain⟨a,vs,ns,rfl,rfl,hobj,hints,hlen⟩:=vz hn hpre hwl;refine enter_call (codeAny_mono (call w s₀ s₁ mg mb fa o pm cd doc a vs ns G Y ho (fd_plain hd) hcd hmg hobj hints hlen hg) λr s' hq=>?_);obtain⟨rfl,h2,h3,h4⟩:=hq;exact⟨.inl ⟨.bool true,.bool true,[],rfl,λ_=>rfl,.bool true,wM l _,λ_=>⟨List.Pairwise.nil,λ_ hm=>(nomatch hm)⟩⟩,h2,h3,h4⟩
end Att
namespace L2
open PySem PySem.Spec PyProof.Rows
def k8:∀{vs:List Value} {ns:List Int},IntsAre vs ns->cE (ns.map V.int) vs
 | _,_,.nil=>.nil
 | _,_,.cons n t h=>.cons ⟨t,rfl⟩ (k8 h)
def Er(H:Hp):Prop:=∀b,H b=none\/∃o xs,H b=some (.frz o (.lst xs))
def AM{P:Program}{w:World}{K:Kw}{mg mb:Str->Option Value}{CX:Am}{k:Nat}{fa a:Addr}{fd:FuncData}{x:Str}{sp:Sp}{s₁:Shared}{vs:List Value}{ns:List Int}
  (KX:K.In s₁.heap) (hns:s₁.heap.Ns mainGlobals mg) (hb:s₁.heap.Ns builtinsNs mb) (hbb:∀x:Str,x≠"__name__"->mb x=bootBuiltins x) (hlim:s₁.heap.NoLimit) (hg:s₁.gens=#[])
  (ha:s₁.heap.get? a=some { cls:=.type "list",data:=.seq vs.toArray }) (hi:IntsAre vs ns) (hl:ns.length<=sizeLine) (hr:i4 k callerA)
  (F:∀base:Heap,K.In base->base.Ns mainGlobals mg->nu P w K mg base CX k fa fd [x] sp) (hbind:∀(s:Shared) (u:Value),BindsTo s fd ⟨[u],[]⟩ [(x,u)])
  (hsp:∀H:Hp,Er H->cL K H a (ns.map V.int)->sp [.ref a] H (λv _=>v=.bl true) λ_ _ _=>False)
  (hCX:∀H e s',CX [] H s₁ (λ_ _ _=>False) e s'->False) :
  codeAny (model P w) callerA (.call (.ref fa) ⟨[.ref a],[]⟩) (λr s'=>r=.ok (.ret (.bool true))/\OldK s₁.heap s'.heap/\s'.os=s₁.os/\AllBare s'.gens) s₁:=by
 have rv:=k8 hi;have lenV:=hi.length;have core:∀H:Hp,Er H->cL K H a (ns.map V.int)->lZ P w H s₁.heap->(∀b,H b≠none->b=a)->(H a≠none->K.lookup a=none) →
   codeAny (model P w) callerA (.call (.ref fa) ⟨[.ref a],[]⟩) (λr s'=>r=.ok (.ret (.bool true))/\OldK s₁.heap s'.heap/\s'.os=s₁.os/\AllBare s'.gens) s₁:=by
  intro H hO hS hok hA hK;have base_of:∀{b:Addr} {o:Obj},s₁.heap.get? b=some o->H b=none->(qL s₁.heap H).get? b=some o:=λe n=>AX e n;have noA:∀{b:Addr} {o:Obj} {es:Array DictEntry} {ep:Nat},s₁.heap.get? b=some o->o.data=.dict es ep->H b=none:=fun {b o es ep} e d=>by
   cases q:H b with
   | none=>rfl
   | some u=>
    have e':b=a:=hA b (by rw[q];simp);subst e';rw[ha] at e;cases e;have d':Data.seq vs.toArray _=Data.dict es ep:=d;cases d'
  have nsK:∀{b:Addr} {m:Str->Option Value},s₁.heap.Ns b m->(qL s₁.heap H).Ns b m:=fun {b m} ⟨o,es,ep,e,d,r⟩=>⟨o,es,ep,base_of e (noA e d),d,r⟩
  have hKb:K.In (qL s₁.heap H):=λb o e=>base_of (KX b o e) (by
   cases q:H b with
   | none=>rfl
   | some u=>
    have e':b=a:=hA b (by rw[q];simp);subst e';rw[hK (by rw[q];simp)] at e;cases e)
  have hM:Mod K mg (qL s₁.heap H):=⟨hKb,nsK hns,⟨mb,nsK hb,hbb⟩,let ⟨mc,h1,h2⟩:=hlim;⟨mc,nsK h1,h2⟩⟩
  have e0:C9 P w K mg (qL s₁.heap H) callerA [] s₁ H:=⟨rfl,hM,λb o e=>Bs e,mG (wq _ _),trivial,λb hb=>absurd (show b∈([]:List Addr) from hb) (by simp),hok,.of_eq hg⟩
  refine codeAny_mono ((F _ hKb (nsK hns)).run callerA [] s₁ H ⟨[.ref a],[]⟩ [.ref a] [.ref a] _ _ hr e0 (hbind s₁ (.ref a)) (.cons rfl .nil) (hsp H hO hS)) λr s' h=>?_;cases r with
  | error e=>exact(hCX H e s' h).elim
  | ok fl=>
   cases fl with
   | next=>exact False.elim h
   | brk=>exact False.elim h
   | cont=>exact False.elim h
   | ret u=>
    obtain⟨v,H',os,bare,un,hok',r',q⟩:=h;have q':v=.bl true:=q;subst q';obtain rfl:u=Value.bool true:=r';refine⟨rfl,OldK.of_keep λb o e=>?_,os,bare⟩;cases q:H b with
    | none=>exact un.keep b o e q (by intro z;exact absurd (show b∈([]:List Addr) from z) (by simp)) (by simp)
    | some u=>
     rcases hO b with z | ⟨ob,xs,z⟩
     ·rw[q] at z;cases z
     ·have z2:=un.frzs b ob _ z;obtain⟨e1,_⟩:=hok b _ z;obtain⟨e2,_⟩:=hok' b _ z2;rw[e] at e1;cases e1;exact e2
 cases hk:K.lookup a with
 | some o=>
  have e:=KX a o hk;rw[ha] at e;cases e;refine core (λ_=>none) (λ_=>.inl rfl) (.inr ⟨_,vs.toArray,_,hk,rfl,rfl,rfl,by rw[aP,lenV];exact hl,by simpa using rv⟩) (λb u z=>by have z':(none:Option HO)=some u:=z;cases z') (λb z=>absurd rfl z) λz=>absurd rfl z
 | none=>
  refine core (λb=>if b=a then some (.frz { cls:=.type "list",data:=.seq vs.toArray } (.lst (ns.map V.int))) else none) (λb=>?_) (.inl (.inr ⟨{ cls:=.type "list",data:=.seq vs.toArray },Ko rfl⟩)) (λb u z=>?_) (λb z=>?_) λ_=>hk
  ·by_cases hb:b=a
   ·exact .inr ⟨_,_,Ko hb⟩
   ·exact .inl (Kn hb)
  ·by_cases hb:b=a
   ·have z':=(Ko hb).symm.trans z;cases z';subst hb;exact⟨ha,by rw[aB];exact hl,vs,_,rv,ha⟩
   ·have z':=(Kn hb).symm.trans z;cases z'
  ·by_cases hb:b=a
   ·exact hb
   ·exact absurd (Kn hb) z
abbrev Hn {K:Kw} {h:Heap} (_:K.In h):Kw:=K
def uO{l:PySem.W.OpenLaw}{n k:Nat}{q:Program}{loose:List Str}{XP:(Str->Option Value)->Heap->Prop}{YP:World->Heap->Prop}{d:DefRec}{K:Params->Kw}{CX:World->Am}{sp:World->Sp}{x:Str}
  (hn:l.most=some n) (hn2:n<=sizeLine) (hdf:d.params.defaults=[]) (hr:i4 k callerA)
  (hY:∀(w:World) (h:Heap),YP w h->(K w.params).In h)
  (F:∀(w:World) (mg:Str->Option Value) (fa:Addr) (h:Heap),(K w.params).In h->h.Ns mainGlobals mg->mg d.name=some (.ref fa) →
   ∃fd:FuncData,(∀(s:Shared) (u:Value),BindsTo s fd ⟨[u],[]⟩ [(x,u)]) ∧
    ∀base:Heap,(K w.params).In base->base.Ns mainGlobals mg->nu l.prog w (K w.params) mg base (CX w) k fa fd [x] (sp w))
  (hsp:∀(w:World) (H:Hp) (a:Addr) (ns:List Int),ns.length<=n->Er H->cL (K w.params) H a (ns.map V.int)->sp w [.ref a] H (λv _=>v=.bl true) λ_ _ _=>False)
  (hCX:∀(w:World) (H:Hp) (s:Shared) (e:Value) (s':Shared),CX w [] H s (λ_ _ _=>False) e s'->False) :
  PySem.W.WalkO q loose XP YP l.row.toRowW d [] (λf vs=>PySem.call f vs):=by
 refine Att.attach_call hn hdf λw s₀ s₁ mg mb fa o pm cd doc a vs ns G Y ho hd hcd hmg hobj hints hlen hg=>?_;have KX:=hY w _ Y;obtain⟨fd,hb,hF⟩:=F w mg fa _ KX G.T.g hmg;exact AM KX G.T.g G.T.b G.T.builtins G.T.nolimit hg hobj hints (av hlen hn2) hr hF hb (λH hO hS=>hsp w H a ns hlen hO hS) λH e s'=>hCX w H s₁ e s'
end L2
/- THE LAST THEOREM (shape;LID,My.* are yours):
   My.Adr: a structure of the addresses that your layer names (classes,functions);My.Txt K t: a structure (Prop) of the equations over K;
   My.txt_mk:{K} {implicit addresses ..} (e1:nsIn K mainGlobals "law"=some (some (.ref f))) (e2:K.lookup f=some ⟨oc,od,.func (fnOf "law" "law" params body scope dV kV doc pm an cdv ct),sl⟩) (e3:codeIn K cdv "law"=true) ..:∃t,My.Txt K t
set_option maxRecDepth 100000 in
set_option maxHeartbeats 0 in
theorem PySem.Challenge.cw_LID_holds : PySem.Challenge.rw_LID.Holds := by
 w_on; o_law; k_head; (case hw => w_witness2)
 k_fill
 refine L2.uO (l := PySem.Challenge.rw_LID) (n := 63) (k := 40) (x := "script") (CX := λw => ..) (sp := λ_ => My.sp_law) rfl (by decide) rfl ⟨rfl, by decide, by decide⟩ (λw h Y => PySem.W.kIn_of Y) ?F ?S ?C
 case F =>
  intro w mg fa h KX G hmg;have T : ∃t, My.Txt (L2.Hn KX) t := by
   dsimp only [L2.Hn]                          -- K must stand as «<heap const> w.params» for k_is;refine' My.txt_mk ?e1 ?e2 ?e3 ..
   (case e1 => PySem.W.k_is)                    -- in the order: a name -> its address -> its object -> its parts
   (case e2 => PySem.W.k_is)
   ..
  obtain ⟨t, T⟩ := T;have e0 := hmg.symm.trans (dJ KX G T.law);cases e0                                       -- fa is the law's own address;exact ⟨_, λs u => .of_eq rfl, λbase kb nb => My.law_fn T kb nb⟩     -- if «.of_eq rfl» comes too early: refine' ⟨_, ?b, λbase kb nb => My.law_fn T kb nb⟩; exact λs u => .of_eq rfl
 case S => exact λw H a ns hl hO hS => ..
 case C => exact ..
(the tactic k_is has no namespace: write k_is) -/
namespace L2
open PySem PySem.Spec PyProof.Rows
def ic(s:Stmt):Arguments:=match s with
 | .FunctionDef _ a _ _ _ _ _ _ _ _=>a
 | _=>{ posonlyargs:=[],args:=[],vararg:=none,kwonlyargs:=[],kw_defaults:=[],kwarg:=none,defaults:=[] }
def gR(s:Stmt):List Stmt:=match s with
 | .FunctionDef _ _ b _ _ _ _ _ _ _=>b
 | _=>[]
def ay(s:Stmt):Scope:=match s with
 | .FunctionDef _ _ _ _ _ _ sc _ _ _=>sc
 | _=>{ kind:=.function,names:=[],isGenerator:=false,isCoroutine:=false }
abbrev Au:Am:=λ_ _ _ _ _ _=>False
abbrev E0:XK:=λ_ _ _=>False
def GF{X:Cx}:uK Au X E0:=λ_ _ _ _ _ _ _ h=>h.elim
structure As (K:Kw) (x qual:Str) (st:Stmt) (f:Addr) (fd:FuncData):Prop where
 ex:∃ (oc:Value) (od:Option Addr) (kV doc pm:Value) (an:Option Addr) (cdv ct:Value) (osl:Array (Option Value)),
  fd=PySem.W.fnOf x qual (ic st) (gR st) (ay st) .none kV doc pm an cdv ct/\K.lookup f=some ⟨oc,od,.func fd,osl⟩/\PySem.W.codeIn K cdv qual=true
 kp:PySem.W.keepIn K (.ref f)=true
section
variable {P:Program} {w:World} {K:Kw} {mg:Str->Option Value} {base:Heap}
def As.ok{x qual:Str}{st:Stmt}{f:Addr}{fd:FuncData}{N ps:List Str}{k:Nat}{sp:Sp}(F:As K x qual st f fd)(S:bn N ps (ay st))(len:∀vs H Q E,sp vs H Q E->vs.length=ps.length)
  (hbody:∀(cdv:Value) (A:Around) (outer:List Env) (s:Shared) (H:Hp) (vs:List V) (Q:VK) (E:XK),i4 k (A.deeper (envOfC qual (ay st) s.heap.objs.size f cdv))->sp vs H Q E →
   ∃t,sL (rq Au P w K mg base N qual (ay st) f cdv A outer s H E).nox (gR st) t/\t { nx:=λ_ H'=>Q .non H',rt:=Q } (start N vs) H):nu P w K mg base Au (k+1) f fd ps sp:=by
 obtain⟨oc,od,kV,doc,pm,an,cdv,ct,osl,rfl,lk,hcd⟩:=F.ex;refine GV lk hcd S len λA outer s H vs Q E hr hsp=>?_;obtain⟨t,h,q⟩:=hbody cdv A outer s H vs Q E hr hsp;exact⟨t,h.nox,q⟩
def As.binds{x qual:Str}{st:Stmt}{f:Addr}{fd:FuncData}{ps:List Str}(F:As K x qual st f fd)
  (h:∀(kV doc pm:Value) (an:Option Addr) (cdv ct:Value) (us:List Value),us.length=ps.length->bindArgs (PySem.W.fnOf x qual (ic st) (gR st) (ay st) .none kV doc pm an cdv ct) ⟨us,[]⟩=pure (ps.zip us)):Binds K fd ps []:=by
 obtain⟨oc,od,kV,doc,pm,an,cdv,ct,osl,rfl,lk,hcd⟩:=F.ex;exact .all (h kV doc pm an cdv ct)
def Ei{x qual:Str}{st:Stmt}{f:Addr}{oc:Value}{od an:Option Addr}{osl:Array (Option Value)}{kV doc pm cdv ct:Value}(l:K.lookup f=some ⟨oc,od,.func (PySem.W.fnOf x qual (ic st) (gR st) (ay st) .none kV doc pm an cdv ct),osl⟩)
  (c:PySem.W.codeIn K cdv qual=true) (k:PySem.W.keepIn K (.ref f)=true):As K x qual st f (PySem.W.fnOf x qual (ic st) (gR st) (ay st) .none kV doc pm an cdv ct):=⟨⟨oc,od,kV,doc,pm,an,cdv,ct,osl,rfl,l,c⟩,k⟩
end
def dC{n:Nat}(h:n<=1000):n<sizeLine:=Nat.lt_of_le_of_lt h (by decide)
section
variable {X:Cx}
def pv (i:Nat) {x:Str} {pos:Pos} (hN:X.N[i]? = some x:=by rfl) (hv:FE X.env.scope x:=by first | exact Or.inl rfl | exact Or.inr (Or.inl rfl) | exact Or.inr (Or.inr rfl)) (hd:(x==("__debug__":Str))=false:=by decide)
  (hcd:(x==("__classdict__":Str))=false:=by decide):PE X (.Name x pos) (mw i):=ED hN hv hd hcd
end
def GP{A B:Prop}(h:B):if false=true then A else B:=by
 rw[Kn bD];exact h
def GO{A B:Prop}(h:A):if true=true then A else B:=by
 rw[Ko rfl];exact h
def g0{c A B:Prop} [Decidable c] (h1:c->A) (h2:¬c->B):if c then A else B:=by
 by_cases h:c
 ·rw[Ko h];exact h1 h
 ·rw[Kn h];exact h2 h
def a6(H H':Hp):Prop:=∀b o,H b=some o->H' b=some o
def a6.refl(H:Hp):a6 H H:=λ_ _ h=>h
def a6.trans{H H1 H2:Hp}(a:a6 H H1)(b:a6 H1 H2):a6 H H2:=λc o h=>b c o (a c o h)
def a6.free{H H':Hp}(e:a6 H H'){l:Addr}(h:H' l=Option.none):H l=Option.none:=by
 cases q:H l with
 | none=>rfl
 | some o=>
  rw[e l o q] at h;cases h
def a6.seq{K:Kw}{H H':Hp}{a:Addr}{xs:List V}(e:a6 H H')(h:cL K H a xs):cL K H' a xs:=by
 rcases h with (h | ⟨o,h⟩) | h
 ·exact .inl (.inl (e _ _ h))
 ·exact .inl (.inr ⟨o,e _ _ h⟩)
 ·exact .inr h
section
variable {κ:Type} [DecidableEq κ]
def gU(kvs:List (κ×V))(k:κ):Option V:=(kvs.find? λkv=>decide (kv.1=k)).map (·.2)
def putK(kvs:List (κ×V))(k:κ)(v:V):List (κ×V):=
 if (kvs.any λkv=>decide (kv.1=k))=true then kvs.map (λkv=>if kv.1=k then (kv.1,v) else kv) else kvs++[(k,v)]
def eR{p:κ×V}{r:List (κ×V)}{k:κ}(e:p.1=k):gU (p::r) k=some p.2:=by simp[gU,eA,e]
def eS{p:κ×V}{r:List (κ×V)}{k:κ}(e:¬p.1=k):gU (p::r) k=gU r k:=by simp[gU,eA,e]
def l9(k:κ):∀kvs:List (κ×V),(kvs.any λkv=>decide (kv.1=k))=(gU kvs k).isSome
 | []=>rfl
 | p::r=>by
  rw[gT];by_cases e:p.1=k
  ·simp only[eR e,Ks e,Bool.true_or,Option.isSome_some]
  ·rw[eS e,Kr e,Bool.false_or];exact l9 k r
def q9(k j:κ)(y:V):∀kvs:List (κ×V),gU (kvs.map λkv=>if kv.1=k then (kv.1,y) else kv) j=(gU kvs j).map λx=>if j=k then y else x
 | []=>rfl
 | p::r=>by
  have ih:=q9 k j y r;rw[aS];by_cases h:p.1=k
  ·rw[Ko h];by_cases e:p.1=j
   ·rw[eR (p:=(p.1,y)) e,eR e,gi,Ko (e.symm.trans h)]
   ·rw[eS (p:=(p.1,y)) e,eS e,ih]
  ·rw[Kn h];by_cases e:p.1=j
   ·rw[eR (p:=p) e,eR e,gi,Kn (λz=>h (e.trans z))]
   ·rw[eS (p:=p) e,eS e,ih]
def oX(k j:κ)(y:V):∀kvs:List (κ×V),gU kvs k=none->gU (kvs++[(k,y)]) j=if j=k then some y else gU kvs j
 | [],_=>by
  by_cases e:k=j
  ·rw[Ko e.symm];exact eR (p:=(k,y)) e
  ·rw[Kn (λz=>e z.symm)];exact eS (p:=(k,y)) e
 | p::r,hn=>by
  rw[dN];have hk:¬p.1=k:=λz=>by rw[eR z] at hn;cases hn
  rw[eS hk] at hn;have ih:=oX k j y r hn;by_cases e:p.1=j
  ·rw[eR e,eR e,Kn (λz=>hk (e.trans z))]
  ·rw[eS e,eS e,ih]
def mq(kvs:List (κ×V))(k j:κ)(y:V):gU (putK kvs k y) j=if j=k then some y else gU kvs j:=by
 unfold putK;by_cases a:(kvs.any λkv=>decide (kv.1=k))=true
 ·rw[Ko a,q9];rw[l9] at a;by_cases e:j=k
  ·obtain⟨x,hx⟩:=ir.mp a;rw[Ko e,e,hx,gi,Ko rfl]
  ·rw[Kn e];cases gU kvs j with
   | none=>rfl
   | some x=>rw[gi,Kn e]
 ·rw[Kn a];refine oX k j y kvs ?_;rw[l9] at a;cases q:gU kvs k with
  | none=>rfl
  | some x=>rw[q] at a;exact(a rfl).elim
def dc(kvs:List (κ×V))(k:κ)(v:V):(putK kvs k v).length<=kvs.length+1:=by
 unfold putK
 split
 ·rw[aB];lia
 ·rw[aX,bi,jq];lia
def nj.isSome_eq{o:Option V}{u:Option Value}(r:nj o u):o.isSome=u.isSome:=by
 cases o with
 | none=>cases u with
  | none=>rfl
  | some _=>exact(show False from r).elim
 | some _=>cases u with
  | none=>exact(show False from r).elim
  | some _=>rfl
def KV.val{kvs:List (κ×V)}{vs:List (κ×Value)}(r:KV kvs vs)(k:κ):nj (gU kvs k) (valueAt vs k):=by
 unfold KV at r
 induction r with
 | nil=>exact True.intro
 | @cons p q ps qs h t ih=>
  obtain⟨h1,h2⟩:=h;by_cases e:p.1=k
  ·have e':q.1=k:=h1.symm.trans e;have b:valueAt (q::qs) k=some q.2:=by simp[valueAt,eA,e']
   rw[eR e,b];exact h2
  ·have e':¬q.1=k:=λz=>e (h1.trans z);have b:valueAt (q::qs) k=valueAt qs k:=by simp[valueAt,eA,e']
   rw[eS e,b];exact ih
def KV.any{kvs:List (κ×V)}{vs:List (κ×Value)}(r:KV kvs vs)(k:κ):(kvs.any λkv=>decide (kv.1=k))=vs.any λkv=>decide (kv.1=k):=by
 unfold KV at r
 induction r with
 | nil=>rfl
 | cons h t ih=>rw[gT,gT,ih,h.1]
def KV.repl{kvs:List (κ×V)}{vs:List (κ×Value)}(r:KV kvs vs)(k:κ){y:V}{u:Value}(ry:RelV y u):
  KV (kvs.map λkv=>if kv.1=k then (kv.1,y) else kv) (vs.map λkv=>if kv.1=k then (kv.1,u) else kv):=by
 unfold KV at r ⊢
 induction r with
 | nil=>exact .nil
 | @cons p q ps qs h t ih=>
  rw[aS,aS];refine .cons ?_ ih;obtain⟨h1,h2⟩:=h;by_cases e:p.1=k
  ·rw[Ko e,Ko (h1.symm.trans e)];exact⟨h1,ry⟩
  ·rw[Kn e,Kn (λz=>e (h1.trans z))];exact⟨h1,h2⟩
def KV.put{kvs:List (κ×V)}{vs:List (κ×Value)}(r:KV kvs vs)(k:κ){y:V}{u:Value}(ry:RelV y u):KV (putK kvs k y) (stored vs k u):=by
 unfold putK stored;rw[r.any k];by_cases e:(vs.any λkv=>decide (kv.1=k))=true
 ·rw[Ko e,Ko e];exact r.repl k ry
 ·rw[Kn e,Kn e];exact Paired.snoc r ⟨rfl,ry⟩
def KV.length{kvs:List (κ×V)}{vs:List (κ×Value)}(r:KV kvs vs):kvs.length=vs.length:=dL r
end
def rW{P:Program}{w:World}{k:Key}{u:Value}(r:RelV (kV k) u):(dj P w).is k u=true:=by
 cases k with
 | inl i=>obtain⟨t,e⟩:=(show ∃t,u=Value.int i t from r);subst e;exact rT P w i t
 | inr x=>obtain⟨t,e⟩:=(show ∃t,u=Value.str x t from r);subst e;exact rS P w x t
def ot{P:Program}{w:World}:∀{ks:List Key} {us:List Value},cE (ks.map kV) us->ItemsAre (dj P w) ks us
 | [],_,r=>by rw[fD] at r;cases r;exact .nil
 | k::ks,_,r=>by
  rw[aS] at r;cases r with
  | cons h t=>exact .cons (rW h) (ot t)
abbrev KT (H:Hp):List (List Key×V)->List (List Key×Addr×Value)->Prop:=Paired λp q=>p.1=q.1/\H q.2.1=some (.tup (p.1.map kV))/\RelV p.2 q.2.2
def KT.val{H:Hp}{kvs:List (List Key×V)}{xs:List (List Key×Addr×Value)}(r:KT H kvs xs)(k:List Key):nj (gU kvs k) ((atKey xs k).map (·.2)):=by
 induction r with
 | nil=>exact True.intro
 | @cons p q ps qs h t ih=>
  obtain⟨h1,_,h2⟩:=h;by_cases e:p.1=k
  ·have e':q.1=k:=h1.symm.trans e;have b:atKey (q::qs) k=some q.2:=by simp[atKey,eA,e']
   rw[eR e,b];exact h2
  ·have e':¬q.1=k:=λz=>e (h1.trans z);have b:atKey (q::qs) k=atKey qs k:=by simp[atKey,eA,e']
   rw[eS e,b];exact ih
def KT.repl{H:Hp}{kvs:List (List Key×V)}{xs:List (List Key×Addr×Value)}(r:KT H kvs xs)(k:List Key){y:V}{u:Value}(ry:RelV y u):
  KT H (kvs.map λkv=>if kv.1=k then (kv.1,y) else kv) (xs.map (putAt k u)):=by
 induction r with
 | nil=>exact .nil
 | @cons p q ps qs h t ih=>
  rw[aS,aS];refine .cons ?_ ih;obtain⟨h1,h2,h3⟩:=h;unfold putAt;by_cases e:p.1=k
  ·rw[Ko e,Ko (h1.symm.trans e)];exact⟨h1,h2,ry⟩
  ·rw[Kn e,Kn (λz=>e (h1.trans z))];exact⟨h1,h2,h3⟩
def KT.put{H:Hp}{kvs:List (List Key×V)}{xs:List (List Key×Addr×Value)}(r:KT H kvs xs)(k:List Key){b:Addr}{y:V}{u:Value}(hb:H b=some (.tup (k.map kV)))(ry:RelV y u):
  KT H (putK kvs k y) (storedH xs k b u):=by
 have e:(kvs.any λkv=>decide (kv.1=k))=(atKey xs k).isSome:=by
  rw[l9,(r.val k).isSome_eq,Option.isSome_map]
 unfold putK storedH;rw[e];by_cases q:(atKey xs k).isSome=true
 ·rw[Ko q,Ko q];exact r.repl k ry
 ·rw[Kn q,Kn q];exact Paired.snoc r ⟨rfl,hb,ry⟩
def KT.keeps{H H':Hp}{kvs:List (List Key×V)}{xs:List (List Key×Addr×Value)}(r:KT H kvs xs)(ht:∀b ys,H b=some (.tup ys)->H' b=some (.tup ys)):KT H' kvs xs:=
 Paired.mapP r λ_ _ z=>⟨z.1,ht _ _ z.2.1,z.2.2⟩
section
variable {P:Program} {w:World} {H:Hp} {h:Heap} {a:Addr}
def Cu{u:HO}(ok:lZ P w H h)(e:Rd H a u):cg P w H h a u:=e.ok ok
def vZ{kvs:List (Key×V)}(ok:lZ P w H h)(e:Rd H a (.dK kvs)):kvs.length<=sizeLine/\(a==sysModules)=false/\∃vs,KV kvs vs/\h.DictOf (dj P w) a vs:=
 show cg P w H h a (.dK kvs) from Cu ok e
def DB{kvs:List (Key×V)}(ok:lZ P w H h)(e:H a=some (.dK kvs)):kvs.length<=sizeLine/\(a==sysModules)=false/\∃vs,KV kvs vs/\h.DictOf (dj P w) a vs:=vZ ok (.inl e)
def qK{ks:List Key}(ok:lZ P w H h)(e:H a=some (.tup (ks.map kV))):(tupleKind (dj P w)).is h ks a:=by
 obtain⟨_,its,r,o,h1,h2,n,h3⟩:=(show cg P w H h a (.tup (ks.map kV)) from ok a _ e)
 exact⟨o,its.toArray,n,h1,h2,h3,by simpa using ot r⟩
def vY{kvs:List (List Key×V)}(ok:lZ P w H h)(e:Rd H a (.dT kvs)):kvs.length<=sizeLine/\(a==sysModules)=false ∧
  ∃xs,KT H kvs xs/\h.DictOfH (tupleKind (dj P w)) a xs:=by
 obtain⟨z,y,xs,r,o,es,ep,h1,h2,h3,h4,h5⟩:=(show cg P w H h a (.dT kvs) from Cu ok e)
 refine⟨z,y,xs,r,o,es,ep,h1,h2,h3,h4,λx hx=>?_,h5⟩;have all:∀{l:List (List Key×V)} {m:List (List Key×Addr×Value)},KT H l m->∀x∈m,(tupleKind (dj P w)).is h x.1 x.2.1:=by
  intro l m q
  induction q with
  | nil=>intro x hx;exact nomatch hx
  | @cons p q ps qs hq t ih=>
   intro x hx;rcases aH.mp hx with e | hx
   ·subst e;exact qK ok (by rw[<-hq.1];exact hq.2.1)
   ·exact ih x hx
 exact all r x hx
def GW{kvs:List (List Key×V)}(ok:lZ P w H h)(e:H a=some (.dT kvs)):kvs.length<=sizeLine/\(a==sysModules)=false ∧
  ∃xs,KT H kvs xs/\h.DictOfH (tupleKind (dj P w)) a xs:=vY ok (.inl e)
end
def kI(H:Hp)(a:Addr)(y:V)(r:Option V):Prop:=
 (∃kvs k,Rd H a (.dK kvs)/\y=kV k/\r=gU kvs k)\/∃kvs k b,Rd H a (.dT kvs)/\y=.ref b/\H b=some (.tup (k.map kV))/\r=gU kvs k
def nv(H:Hp)(a:Addr)(y v:V)(H':Hp):Prop:=
 (∃kvs k,H a=some (.dK kvs)/\y=kV k/\kvs.length<sizeLine/\H'=upd H a (.dK (putK kvs k v))) ∨
 ∃kvs k b,H a=some (.dT kvs)/\y=.ref b/\H b=some (.tup (k.map kV))/\kvs.length<sizeLine/\H'=upd H a (.dT (putK kvs k v))
def kI.k{H:Hp}{a:Addr}{kvs:List (Key×V)}{k:Key}(e:H a=some (.dK kvs)):kI H a (kV k) (gU kvs k):=.inl ⟨kvs,k,.inl e,rfl,rfl⟩
def kI.t{H:Hp}{a b:Addr}{kvs:List (List Key×V)}{k:List Key}(e:H a=some (.dT kvs))(eb:H b=some (.tup (k.map kV))):kI H a (.ref b) (gU kvs k):=.inr ⟨kvs,k,b,.inl e,rfl,eb,rfl⟩
def nv.k{H:Hp}{a:Addr}{kvs:List (Key×V)}{k:Key}{v:V}(e:H a=some (.dK kvs))(hl:kvs.length<sizeLine):nv H a (kV k) v (upd H a (.dK (putK kvs k v))):=.inl ⟨kvs,k,e,rfl,hl,rfl⟩
def nv.t{H:Hp}{a b:Addr}{kvs:List (List Key×V)}{k:List Key}{v:V}(e:H a=some (.dT kvs))(eb:H b=some (.tup (k.map kV)))(hl:kvs.length<sizeLine):
  nv H a (.ref b) v (upd H a (.dT (putK kvs k v))):=.inr ⟨kvs,k,b,e,rfl,eb,hl,rfl⟩
section
variable {X:Cx} {pins:List (Addr×Obj)} {σ:St} {H:Hp} {s:Shared} {a:Addr} {y v:V} {u r:Value} {o:Option V} {A:Around} {E:Value->Shared->Prop}
def bY.big(I:bY X pins σ H s):sysModules<s.heap.objs.size:=by
 have h:mainGlobals<s.heap.objs.size:=(I.mod.glob.keeps I.bk).lt;exact Nat.lt_trans (by decide) h
def wx{Q:Value->Shared->Prop}(hu:A.units+1<cLine)(I:bY X pins σ H s)(g:kI H a y (some v))(ry:RelV y u)(h:∀w' s',bY X pins σ H s'->RelV v w'->Q w' s'):
  wpAny (model X.prog X.w) A (getItem (.ref a) u) Q E s:=by
 rcases g with ⟨kvs,k,e,ey,l⟩ | ⟨kvs,k,b,e,ey,eb,l⟩
 ·subst ey;obtain⟨z,hd,vs,rel,dd⟩:=vZ I.hok e;obtain⟨w',hw,rw'⟩:=nj.some_of (v:=v) (o:=valueAt vs k) (by rw[l];exact rel.val k);exact wpAny_getItem_of (rW ry) dd.mapOf hw (h w' _ (I.tok _) rw')
 ·subst ey;cases (show u=Value.ref b from ry);obtain⟨z,hd,xs,rel,dd⟩:=vY I.hok e;obtain⟨w',hw,rw'⟩:=nj.some_of (v:=v) (o:=(atKey xs k).map (·.2)) (by rw[l];exact rel.val k);obtain⟨p,hp,hp2⟩:=Option.map_eq_some_iff.mp hw;refine wpAny_getItem_heap (Kf hu) (qK I.hok eb) dd hp ?_;rw[hp2];exact h w' _ (I.tok _) rw'
def CV{Q:Value->Shared->Prop}(hu:A.units+1<cLine)(I:bY X pins σ H s)(g:kI H a y o)(ry:RelV y u)(h:∀s',bY X pins σ H s'->Q (.bool (!o.isSome)) s'):
  wpAny (model X.prog X.w) A (compareOp .NotIn u (.ref a)) Q E s:=by
 rcases g with ⟨kvs,k,e,ey,l⟩ | ⟨kvs,k,b,e,ey,eb,l⟩
 ·subst ey;obtain⟨z,hd,vs,rel,dd⟩:=vZ I.hok e;refine wpAny_notIn_of (rW ry) hd dd.mapOf ?_;rw[<-(rel.val k).isSome_eq,<-l];exact h _ (I.tok _)
 ·subst ey;cases (show u=Value.ref b from ry);obtain⟨z,hd,xs,rel,dd⟩:=vY I.hok e;refine wpAny_notIn_heap (Kf hu) (qK I.hok eb) hd dd ?_;have q:=(rel.val k).isSome_eq;rw[Option.isSome_map] at q;rw[<-q,<-l];exact h _ (I.tok _)
def qN{h':Heap}{t':Nat}{ob:HO}(I:bY X pins σ H s)(mu:G4 (H a))(hs:Heap.SameBut a s.heap h')(he:∃q,h'.get? a=some q)(new:cg X.prog X.w (upd H a ob) h' a ob):
  bY X pins σ (upd H a ob) { s with heap:=h',toks:=t' }:=
 I.write (x:=a) (e:=a) mu (.inl rfl) (λb q hb z=>(hs.2 b hb).trans z) he new
def A5{P:Program}{w:World}{H':Hp}{h':Heap}{kvs:List (Key×V)}{vs:List (Key×Value)}(z:kvs.length<=sizeLine)(hd:(a==sysModules)=false)(rel:KV kvs vs)(dd:h'.DictOf (dj P w) a vs):
  cg P w H' h' a (.dK kvs):=⟨z,hd,vs,rel,dd⟩
def ww{H':Hp}{Q:Unit->Shared->Prop}(hu:A.units+1<cLine)(I:bY X pins σ H s)(g:nv H a y v H')(ry:RelV y u)(rv:RelV v r)(h:∀s',bY X pins σ H' s'->Q () s'):
  wpAny (model X.prog X.w) A (setItem (.ref a) u r) Q E s:=by
 rcases g with ⟨kvs,k,e,ey,l,eH⟩ | ⟨kvs,k,b,e,ey,eb,l,eH⟩
 ·subst ey eH;obtain⟨z,hd,vs,rel,dd⟩:=DB I.hok e;have hz:vs.length<=sizeLine:=by rw[<-rel.length];exact z
  have hl:(putK kvs k v).length<=sizeLine:=by have:=dc kvs k v;lia
  refine wpAny_setItem_pairs (hsz:=hz) (rW ry) dd λh' dd' hs=>h _ ?_;have he:∃q,h'.get? a=some q:=let ⟨q,_,_,hq,_⟩:=dd';⟨q,hq⟩;exact qN I (by rw[e];exact True.intro) hs he (A5 hl hd (rel.put k rv) dd')
 ·subst ey eH;cases (show u=Value.ref b from ry);obtain⟨z,hd,xs,rel,dd⟩:=GW I.hok e;have hz:xs.length<=sizeLine:=by rw[<-dL rel];exact z
  have hl:(putK kvs k v).length<=sizeLine:=by have:=dc kvs k v;lia
  refine wpAny_setItem_heap (hsz:=hz) (Kf hu) (qK I.hok eb) dd λh' dd' hs=>h _ ?_;obtain⟨q,es,ep,hq,h2,h3,h4,_,h5⟩:=dd';refine qN I (by rw[e];exact True.intro) hs ⟨q,hq⟩ ⟨hl,hd,_,(rel.put k eb rv).keeps λc ys ec=>?_,q,es,ep,hq,h2,h3,h4,h5⟩;rw[a9 (zw ec e (λz=>nomatch z))];exact ec
end
def Et(i:Expr):Prop:=∀ov iv,subscripted i false ov iv=operate [ov,iv] (getItem ov iv)
def BL{prog:Program}{w:World}{A:Around}{E:Value->Shared->Prop}{s:Shared}{env:Env}{value slice:Expr}{pos:Pos}{T id:String}{Q:Value->Shared->Prop}
  (hl:typeLookup (.type T) "__getitem__"=pure (some (.builtin id))) (hs:Et slice)
  (h:wpAny (model prog w) A (eval value env) (λo s₁=>wpAny (model prog w) A (eval slice env) (λi s₂=>s₂.TypeIs o T/\wpAny (model prog w) A (getItem o i) Q E s₂) E s₁) E s) :
  wpAny (model prog w) A (eval (.Subscript value slice pos) env) Q E s:=by
 refine Subscript_ (K1 h (λo s₁ h₁=>K1 h₁ (λi s₂ h₂=>?_) λ_ _ x=>x) λ_ _ x=>x);obtain⟨hT,h₂⟩:=h₂;unfold subscriptTail;refine wpAny_bind ?_;rw[getitemInPython_of_ne hT.not_modules];refine wpAny_bind (wpAny_specialOf hT hl ?_);have fin:wpAny (model prog w) A (subscripted slice false o i) (λr s₃=>wpAny (model prog w) A (letTemporaryGo value o r>>=λ_=>pure r) Q E s₃) E s₂:=by
  rw[hs o i];exact wpAny_operating (K1 h₂ (λr s₃ h₃=>wpAny_bind (wpAny_letTemporaryGo (K6 h₃))) λ_ _ x=>x)
 first
  | exact K6 (wpAny_bind fin)
  | exact wpAny_bind (K6 (wpAny_bind fin))
  | exact wpAny_bind fin
def rj {X:Cx} {pins:List (Addr×Obj)} {σ:St} {H:Hp} {s:Shared} {a:Addr} {y:V} {o:Option V} (I:bY X pins σ H s) (g:kI H a y o):s.TypeIs (.ref a) "dict":=by
 rcases g with ⟨kvs,k,e,_,_⟩ | ⟨kvs,k,b,e,_,_,_⟩
 ·obtain⟨_,_,vs,_,dd⟩:=vZ I.hok e;exact dd.typeIs
 ·obtain⟨_,_,xs,_,dd⟩:=vY I.hok e;exact dd.typeIs
def y4(td ty:TE):TE:=λσ H Q=>td σ H λx H1=>ty σ H1 λy H2=>∃a v,x=.ref a/\kI H2 a y (some v)/\Q v H2
def m9(ty td:TE):TE:=λσ H Q=>ty σ H λy H1=>td σ H1 λx H2=>∃a o,x=.ref a/\kI H2 a y o/\Q (.bl (!o.isSome)) H2
def yt(td ty tv:TE):TS:=λD σ H=>tv σ H λv H1=>td σ H1 λx H2=>ty σ H2 λy H3=>∃a H4,x=.ref a/\nv H3 a y v H4/\D.nx σ H4
section
variable {X:Cx} {o i value:Expr} {pos pos':Pos} {td ty tv:TE}
def Bg(hu:X.A.units+1<cLine)(ho:PE X o td)(hi:PE X i ty)(hs:Et i):PE X (.Subscript o i pos) (y4 td ty):=by
 intro pins s σ H Q I h;refine BL PySem.F.slot_dict_getitem.lookup hs (dH (ho pins s σ H _ I h) λu s1 ⟨x,H1,I1,rx,q1⟩=>dH (hi pins s1 σ H1 _ I1 q1) λiv s2 ⟨y,H2,I2,ry,a,v,ex,g,q2⟩=>?_);subst ex;obtain rfl:u=Value.ref a:=rx;exact⟨rj I2 g,wx hu I2 g ry λw' s3 I3 rw'=>⟨v,H2,I3,rw',q2⟩⟩
def wU(hu:X.A.units+1<cLine)(hi:PE X i ty)(ho:PE X o td):PC X .NotIn i o (m9 ty td):=by
 intro pins s σ H Q I h;refine dH (hi pins s σ H _ I h) λiv s1 ⟨y,H1,I1,ry,q1⟩=>dH (ho pins s1 σ H1 _ I1 q1) λu s2 ⟨x,H2,I2,rx,a,ov,ex,g,q2⟩=>?_;subst ex;obtain rfl:u=Value.ref a:=rx;exact CV hu I2 g ry λs3 I3=>⟨.bl (!ov.isSome),H2,I3,rfl,q2⟩
def B5(hu:X.A.units+1<cLine)(ho:PE X o td)(hi:PE X i ty)(hv:PE X value tv)(hs:swapsWith value (some (.Subscript o i pos')) pos.line X.env=pure false):
  PS X (.Assign [.Subscript o i pos'] value pos) (yt td ty tv):=by
 intro pins s σ H D I h;refine wpAny_Assign_Subscript (dH (hv pins s σ H _ I h) λr s1 ⟨v,H1,I1,rv,q1⟩=>dH (ho pins s1 σ H1 _ I1 q1) λu s2 ⟨x,H2,I2,rx,q2⟩=>dH (hi pins s2 σ H2 _ I2 q2) λiv s3 ⟨y,H3,I3,ry,a,H4,ex,g,q3⟩=>?_) hs;subst ex;obtain rfl:u=Value.ref a:=rx;exact ww hu I3 g ry rv λs4 I4=>⟨σ,H4,I4,q3⟩
end
def rh {P:Program} {w:World} {H:Hp} (h:Heap) (hb:sysModules<h.objs.size):cg P w H (h.push { cls:=.type "dict",data:=.dict #[] }) h.objs.size (.dK []):=
 ⟨bE _,beq_eq_false_iff_ne.mpr (bg (aq hb)),[],.nil,Heap.DictOf.new h⟩
def A4 {P:Program} {w:World} {H:Hp} (h:Heap) (hb:sysModules<h.objs.size):cg P w H (h.push { cls:=.type "dict",data:=.dict #[] }) h.objs.size (.dT []):=
 ⟨bE _,beq_eq_false_iff_ne.mpr (bg (aq hb)),[],.nil,_,#[],0,aR _ rfl,⟨rfl,rfl,rfl⟩,rfl,rfl,List.nodup_nil⟩
def sX:TE:=λ_ H Q=>∀p,H p=none->Q (.ref p) (upd H p (.dK []))
def sW:TE:=λ_ H Q=>∀p,H p=none->Q (.ref p) (upd H p (.dT []))
section
variable {X:Cx} {pos:Pos}
def zY:PE X (.Dict [] [] pos) sX:=λpins s σ H Q I h=>
 wpAny_Dict_empty ⟨.ref s.heap.objs.size,_,I.laid (a:=s.heap.objs.size) (o:=.dK []) (t':=s.toks) (λ_ _ q=>aA _ q) (aE _) (rh s.heap I.big),rfl,h _ (I.hok.fresh (aE _))⟩
def zX:PE X (.Dict [] [] pos) sW:=λpins s σ H Q I h=>
 wpAny_Dict_empty ⟨.ref s.heap.objs.size,_,I.laid (a:=s.heap.objs.size) (o:=.dT []) (t':=s.toks) (λ_ _ q=>aA _ q) (aE _) (A4 s.heap I.big),rfl,h _ (I.hok.fresh (aE _))⟩
end
def lI:List (TE×TE)->St->Hp->(List (V×V)->Hp->Prop)->Prop
 | [],_,H,Q=>Q [] H
 | (tk,tv)::r,σ,H,Q=>tk σ H λx H1=>tv σ H1 λy H2=>lI r σ H2 λps H3=>Q ((x,y)::ps) H3
abbrev VV:List (V×V)->List (Value×Value)->Prop:=Paired λp q=>RelV p.1 q.1/\RelV p.2 q.2
def G0(X:Cx)(pos:Pos)(keys:List (Option Expr))(values:List Expr)(trs:List (TE×TE)):Prop:=
 ∀(pins:List (Addr×Obj)) (s:Shared) (σ:St) (H:Hp) (Q:List (V×V)->Hp->Prop),bY X pins σ H s->lI trs σ H Q →
  wpAny (model X.prog X.w) X.A (evalPairs (pairTrees keys values X.env pos)) (λvs s'=>∃ps H',bY X pins σ H' s'/\VV ps vs/\Q ps H') X.xe s
def B6{X:Cx}{pos:Pos}:G0 X pos [] [] []:=λpins s σ H Q I h=>pairTrees_nil_walk ⟨[],H,I,.nil,h⟩
def zN{X:Cx}{pos:Pos}{k v:Expr}{ks:List (Option Expr)}{vs:List Expr}{tk tv:TE}{trs:List (TE×TE)}(hk:PE X k tk)(hv:PE X v tv)(hr:G0 X pos ks vs trs):
  G0 X pos (some k::ks) (v::vs) ((tk,tv)::trs):=λpins s σ H Q I h=>
 pairTrees_cons_walk (dH (hk pins s σ H _ I h) λu s1 ⟨x,H1,I1,rx,q1⟩=>dH (hv pins s1 σ H1 _ I1 q1) λw2 s2 ⟨y,H2,I2,ry,q2⟩=>
  dH (hr pins s2 σ H2 _ I2 q2) λws s3 ⟨ps,H3,I3,rel,q3⟩=>⟨(x,y)::ps,H3,I3,.cons ⟨rx,ry⟩ rel,q3⟩)
def mP(kvs more:List (Key×V)):List (Key×V):=more.foldl (λacc kv=>putK acc kv.1 kv.2) kvs
def KV.merge:∀{more:List (Key×V)} {rs:List (Key×Value)} {kvs:List (Key×V)} {vs:List (Key×Value)},KV more rs->KV kvs vs->KV (mP kvs more) (merged vs rs):=by
 intro more rs kvs vs r;unfold KV at r
 induction r generalizing kvs vs with
 | nil=>intro q;exact q
 | @cons p q ps qs h t ih=>
  intro r0;have e:KV (putK kvs p.1 p.2) (stored vs q.1 q.2):=by
   have:=r0.put p.1 h.2;rw[<-h.1];exact this
  exact ih e
def ky:∀(more kvs:List (Key×V)),(mP kvs more).length<=kvs.length+more.length
 | [],kvs=>by show kvs.length<=kvs.length+0;lia
 | p::r,kvs=>by
  have h1:=ky r (putK kvs p.1 p.2);have h2:=dc kvs p.1 p.2;show (mP (putK kvs p.1 p.2) r).length<=_;rw[bi];lia
def n9{P:Program}{w:World}:∀{kvs:List (Key×V)} {ws:List (Value×Value)},VV (kvs.map λkv=>(kV kv.1,kv.2)) ws->∃rs,Carries (dj P w) ws rs/\KV kvs rs
 | [],_,r=>by rw[fD] at r;cases r;exact⟨[],True.intro,.nil⟩
 | p::kvs,_,r=>by
  rw[aS] at r;cases r with
  | @cons a b as bs h t=>
   obtain⟨rs,c,q⟩:=n9 (P:=P) (w:=w) t;obtain⟨b1,b2⟩:=b;exact⟨(p.1,b2)::rs,⟨rW h.1,rfl,c⟩,.cons ⟨rfl,h.2⟩ q⟩
def y3(trs:List (TE×TE)):TE:=λσ H Q=>∀p,H p=none->lI trs σ (upd H p (.dK [])) λps H2=>H2 p=some (.dK [])/\∃kvs:List (Key×V),ps=kvs.map (λkv=>(kV kv.1,kv.2))/\kvs.length<=15/\Q (.ref p) (upd H2 p (.dK (mP [] kvs)))
def Bf{X:Cx}{pos:Pos}{keys:List (Option Expr)}{values:List Expr}{trs:List (TE×TE)}(h:G0 X pos keys values trs)(hall:keys.all (·.isSome)=true)(hl:keys.length=values.length)(h0:keys≠[])
  (h15:keys.length<=15):PE X (.Dict keys values pos) (y3 trs):=by
 intro pins s σ H Q I q;have hn:=I.hok.fresh (aE s.heap.objs.size);have I1:=I.laid (a:=s.heap.objs.size) (o:=.dK []) (h':=s.heap.push { cls:=.type "dict",data:=.dict #[] }) (t':=s.toks) (λ_ _ q=>aA _ q) (aE _) (rh s.heap I.big);refine wpAny_Dict_walk (knd:=dj X.prog X.w) hall hl h0 h15 (dH (h pins _ σ _ _ I1 (q _ hn)) λws s2 ⟨ps,H2,I2,rel,e,kvs,ep,lk,q2⟩=>?_);subst ep;obtain⟨rs,c,rk⟩:=n9 (P:=X.prog) (w:=X.w) rel;obtain⟨z,hd,vs0,r0,dd⟩:=DB I2.hok e;cases r0;refine⟨rs,c,dd,λh' dd' hs=>⟨.ref s.heap.objs.size,_,?_,rfl,q2⟩⟩;have hz:(mP [] kvs).length<=sizeLine:=by
  have h1:=ky kvs [];rw[jq] at h1;rw[Ka];lia
 have he:∃q,h'.get? s.heap.objs.size=some q:=let ⟨q,_,_,hq,_⟩:=dd';⟨q,hq⟩;exact qN I2 (by rw[e];exact True.intro) hs he (A5 hz hd (rk.merge .nil) dd')
mutual
inductive Rep (K:Kw) (H:Hp):V->PyData->Prop
 | non:Rep K H .non .none
 | bl (b:Bool):Rep K H (.bl b) (.bool b)
 | int (i:Int):Rep K H (.int i) (.int i)
 | str (x:Str):Rep K H (.str x) (.str x)
 | tup {a:Addr} {xs:List V} {ds:List PyData}:dr K H a xs->lY K H xs ds->Rep K H (.ref a) (.tuple ds)
 | lst {a:Addr} {xs:List V} {ds:List PyData}:cL K H a xs->lY K H xs ds->Rep K H (.ref a) (.list ds)
inductive lY (K:Kw) (H:Hp):List V->List PyData->Prop
 | nil:lY K H [] []
 | cons {x:V} {xs:List V} {d:PyData} {ds:List PyData}:Rep K H x d->lY K H xs ds->lY K H (x::xs) (d::ds)
end
section
variable {X:Cx} {pins:List (Addr×Obj)} {σ:St} {H:Hp} {s:Shared}
mutual
def Rep.reads(I:bY X pins σ H s):∀{x:V} {d:PyData} {u:Value},Rep X.K H x d->RelV x u->∃as,Reads s.heap u d as
 | _,_,_,.non,r=>by cases r;exact⟨_,.none⟩
 | _,_,_,.bl b,r=>by cases r;exact⟨_,.bool b⟩
 | _,_,_,.int i,r=>by obtain⟨t,rfl⟩:=r;exact⟨_,.int i t⟩
 | _,_,_,.str x,r=>by obtain⟨t,rfl⟩:=r;exact⟨_,.str x t⟩
 | _,_,_,.tup h hl,r=>by
  cases r;obtain⟨its,vs,⟨o,e,c,n,dd⟩,_⟩:=I.tuple h;obtain⟨as,ra⟩:=lY.reads I hl vs;exact⟨_,.tuple e c dd (by simpa using ra)⟩
 | _,_,_,.lst h hl,r=>by
  cases r;obtain⟨its,vs,pl,_⟩:=I.list h;obtain⟨o,e,c,n,dd⟩:=pl.isList;obtain⟨as,ra⟩:=lY.reads I hl vs;exact⟨_,.list e c dd (by simpa using ra)⟩
def lY.reads(I:bY X pins σ H s):∀{xs:List V} {ds:List PyData} {us:List Value},lY X.K H xs ds->cE xs us->∃as,ReadsAll s.heap us ds as
 | _,_,_,.nil,.nil=>⟨_,.nil⟩
 | _,_,_,.cons h hl,.cons r rs=>by
  obtain⟨as,ra⟩:=Rep.reads I h r;obtain⟨bs,rb⟩:=lY.reads I hl rs;exact⟨_,.cons ra rb⟩
end
end
def zA(K:Kw)(neg:Bool):R2:=λx y H Q=>∃d e,Rep K H x d/\Rep K H y e/\d.canLay0=true/\e.canLay0=true/\min d.depth e.depth<=60 ∧
 Q (.bl (if neg then !PyData.eqv d e else PyData.eqv d e)) H
section
variable {X:Cx}
def zf(hu:X.A.units+64<cLine):jY X (compareOp .Eq) (zA X.K false):=by
 intro pins s σ H x y v u Q I rx ry h;obtain⟨d,e,h1,h2,h3,h4,h5,q⟩:=h;obtain⟨as,ra⟩:=h1.reads I rx;obtain⟨bs,rb⟩:=h2.reads I ry;exact SeqAt.compareEq_reads ra rb h3 h4 (by lia) ⟨.bl _,H,I,rfl,q⟩
def EQ(hu:X.A.units+64<cLine):jY X (compareOp .NotEq) (zA X.K true):=by
 intro pins s σ H x y v u Q I rx ry h;obtain⟨d,e,h1,h2,h3,h4,h5,q⟩:=h;obtain⟨as,ra⟩:=h1.reads I rx;obtain⟨bs,rb⟩:=h2.reads I ry;exact SeqAt.compareNe_reads ra rb h3 h4 (by lia) ⟨.bl _,H,I,rfl,q⟩
open Classical in
noncomputable def eqR (h:Heap) (d:PyData) (u:Value):Bool:=if z:∃e as,Reads h u e as/\e.canLay0=true then PyData.eqv z.choose d else false
def uA{h:Heap}{d e:PyData}{u:Value}{as:List Addr}(r:Reads h u e as)(c:e.canLay0=true):eqR h d u=PyData.eqv e d:=by
 have z:∃e as,Reads h u e as/\e.canLay0=true:=⟨e,as,r,c⟩
 unfold eqR;rw[dif_pos z];obtain⟨as',r',c'⟩:=z.choose_spec;rw[SeqAt.Reads.unique _ _ _ _ _ c' r' r]
def qS{h:Heap}{d:PyData}:∀{us:List Value} {es:List PyData} {as:List Addr},ReadsAll h us es as->PyData.canLayAll0 es=true->us.any (eqR h d)=es.any λe=>PyData.eqv e d
 | _,_,_,.nil,_=>rfl
 | _,_,_,.cons r rs,c=>by
  have c':(PyData.canLay0 _&&PyData.canLayAll0 _)=true:=c;rw[cu] at c';rw[gT,gT,uA r c'.1,qS rs c'.2]
def mn{A:Around}{s:Shared}{d:PyData}{x:Value}{bs:List Addr}(rx:Reads s.heap x d bs)(cx:d.canLay0=true)(hu:A.units+d.depth<cLine):
  ∀{us:List Value} {es:List PyData} {as:List Addr},ReadsAll s.heap us es as->PyData.canLayAll0 es=true->∀u∈us,SeqAt.EqAt A s u x (eqR s.heap d u)
 | _,_,_,.nil,_=>λu hu=>nomatch hu
 | _,_,_,.cons r rs,c=>λu hm=>by
  have c':(PyData.canLay0 _&&PyData.canLayAll0 _)=true:=c;rw[cu] at c';rcases aH.mp hm with rfl | hm
  ·rw[uA r c'.1];exact SeqAt.eqAt_reads _ _ A s _ _ _ _ r rx c'.1 cx (by lia)
  ·exact mn rx cx hu rs c'.2 u hm
def Fs(K:Kw)(neg:Bool):R2:=λx y H Q=>∃d es p xs,Rep K H x d/\y=.ref p/\(cL K H p xs\/dr K H p xs)/\lY K H xs es/\d.canLay0=true/\PyData.canLayAll0 es=true/\d.depth<=60 ∧
 Q (.bl (if neg then !(es.any λe=>PyData.eqv e d) else es.any λe=>PyData.eqv e d)) H
def ze(hu:X.A.units+64<cLine):jY X (compareOp .In) (Fs X.K false):=by
 intro pins s σ H x y v u Q I rx ry h;obtain⟨d,es,p,xs,h1,rfl,hq,h2,h3,h4,h5,q⟩:=h;cases ry;obtain⟨as,ra⟩:=h1.reads I rx;rcases hq with hq | hq
 ·obtain⟨its,r,pl,hz⟩:=I.list hq;obtain⟨bs,rb⟩:=h2.reads I r;refine SeqAt.in_listAt (eqR s.heap d) pl.isList (λz hz=>mn (A:=X.A.in1) ra h3 (by show X.A.units+1+d.depth<cLine;lia) rb h4 z (by simpa using hz)) ⟨.bl _,H,I,rfl,?_⟩;rw[show its.toArray.any (eqR s.heap d)=its.any (eqR s.heap d) by simp,qS rb h4];exact q
 ·obtain⟨its,r,pl,hz⟩:=I.tuple hq;obtain⟨bs,rb⟩:=h2.reads I r;refine SeqAt.in_tupleAt (eqR s.heap d) pl (λz hz=>mn (A:=X.A.in1) ra h3 (by show X.A.units+1+d.depth<cLine;lia) rb h4 z (by simpa using hz)) ⟨.bl _,H,I,rfl,?_⟩;rw[show its.toArray.any (eqR s.heap d)=its.any (eqR s.heap d) by simp,qS rb h4];exact q
def wF(K:Kw):List V->Hp->VK->Prop:=λxs H Q=>∃x T t b,xs=[x,.ty T]/\lX K H x t/\PySem.W.kitOne K t (.type T)=some b/\Q (.bl b) H
def g9:fg X (.builtin "isinstance") (wF X.K):=by
 intro pins s σ H xs us Q I r h;obtain⟨x,T,t,b,rfl,ty,e,q⟩:=h;obtain⟨u,w,rfl,rx,rw'⟩:=cE.two r;cases (show w=Value.type T from rw');exact wj I rx ty e λtk=>⟨.bl b,H,I.tok tk,rfl,q⟩
def pS(r r' r2:R2)(ta tb tc td:TE):TE:=λσ H Q=>ta σ H λx H1=>tb σ H1 λy H2=>r x y H2 λz H3=>∃k,z=.bl k ∧
 (if k=true then tc σ H3 λw' H4=>r' y w' H4 λz2 H5=>∃k2,z2=.bl k2/\(if k2=true then td σ H5 λe H6=>r2 w' e H6 Q else Q (.bl false) H5) else Q (.bl false) H3)
def wL{a b c d:Expr}{ta tb tc td:TE}{pos:Pos}{op op' op2:CmpOp}{r r' r2:R2}(ho:jY X (compareOp op) r)(ho':jY X (compareOp op') r')(ho2:jY X (compareOp op2) r2)(ha:PE X a ta)(hb:PE X b tb)(hc:PE X c tc)(hd:PE X d td)
  (hm:lastMarks [op,op',op2] [b,c,d]=false:=by with_unfolding_all rfl):PT X (.Compare a [op,op',op2] [b,c,d] pos) (qc (pS r r' r2 ta tb tc td)):=by
 intro pins s σ H Q I h;refine isTrue_chain (dH (ha pins s σ H _ I h) λv s1 ⟨x,H1,I1,r1,q1⟩=>test_link (dH (hb pins s1 σ H1 _ I1 q1) λu s2 ⟨y,H2,I2,r2',q2⟩=>
  dH (ho pins s2 σ H2 x y v u _ I2 r1 r2' q2) λe s3 ⟨z,H3,I3,r3,k,ek,q3⟩=>?_)) hm
 subst ek;cases r3;refine K2 ?_;cases k with
 | false=>
  obtain⟨k',e',q'⟩:=q3;cases e';exact ite_ff ⟨H3,I3,q'⟩
 | true=>
  refine ite_tt (test_link (dH (hc pins s3 σ H3 _ I3 q3) λw' s4 ⟨z',H4,I4,r4,q4⟩=>dH (ho' pins s4 σ H4 y z' u w' _ I4 r2' r4 q4) λd' s5 ⟨z2,H5,I5,r5,k2,e2,q5⟩=>?_));subst e2;cases r5;refine K2 ?_;cases k2 with
  | false=>
   obtain⟨k',e',q'⟩:=q5;cases e';exact ite_ff ⟨H5,I5,q'⟩
  | true=>
   refine ite_tt (test_last (dH (hd pins s5 σ H5 _ I5 q5) λw2 s6 ⟨z6,H6,I6,r6,q6⟩=>dH (ho2 pins s6 σ H6 z' z6 w' w2 _ I6 r4 r6 q6) λd7 s7 ⟨z7,H7,I7,r7,k7,e7,q7⟩=>?_));subst e7;cases r7;exact K2 ⟨H7,I7,q7⟩
def fI(lo:Int)(n:Nat):List Int:=(List.range n).map λ(i:Nat)=>lo+(i:Int)
def u7:∀{xs:List V} {us:List Value},xs.length=us.length->(∀(j:Nat) x u,xs[j]? = some x->us[j]? = some u->RelV x u)->cE xs us
 | [],[],_,_=>.nil
 | [],_::_,h,_=>by simp at h
 | _::_,[],h,_=>by simp at h
 | x::xs,u::us,h,f=>.cons (f 0 x u rfl rfl) (u7 (by simpa using h) λj a b ha hb=>f (j+1) a b (by simpa using ha) (by simpa using hb))
def t6{lo:Int}{n:Nat}{acc:Array Value}(h:ItemsOf (λi v=>∃t,v=.int (lo+i*1) t) acc n):cE ((fI lo n).map V.int) acc.toList:=by
 refine u7 (by simp[fI,h.1]) λj x u hx hu=>?_;obtain⟨t,rfl⟩:=h.2 j u (by simpa using hu);have hj:j<n:=by
  have:=(aJ.mp hx).1;simpa [fI] using this
 have e:((fI lo n).map V.int)[j]? = some (.int (lo+(j:Int))):=by simp[fI,hj]
 rw[e] at hx;cases hx;exact⟨t,by simp⟩
def xH:fg X (.type "range") (λxs H Q=>∃i j:Int,xs=[.int i,.int j]/\∀p,H p=none->Q (.ref p) (upd H p (.rng i j))):=by
 intro pins s σ H xs us Q I r h;obtain⟨i,j,rfl,q⟩:=h;obtain⟨u,u',rfl,⟨t,rfl⟩,t',rfl⟩:=cE.two r;exact call_range_2 ⟨.ref s.heap.objs.size,_,I.laid (λb o e=>aA _ e) (aE _) (show cg X.prog X.w _ _ _ (.rng i j) from ⟨_,_,_,aR _ rfl⟩),rfl,q _ (I.hok.fresh (aE _))⟩
def oR (hc:X.calm=true):fg X (.type "list") (λxs H Q=>∃p lo hi,xs=[.ref p]/\H p=some (.rng lo hi)/\(-(2 ^ 30)<=lo/\lo<2 ^ 30/\-(2 ^ 30)<=hi/\hi<2 ^ 30/\(hi-lo).toNat<=1000) ∧
  ∀l,H l=none->Q (.ref l) (upd H l (.lst ((fI lo (hi-lo).toNat).map V.int)))):=by
 intro pins s σ H xs us Q I r h;obtain⟨p,lo,hi,rfl,hp,⟨b1,b2,b3,b4,b5⟩,q⟩:=h;obtain⟨u,rfl,rx⟩:=Kb r;cases rx;obtain⟨t,u,v,e⟩:=(show cg X.prog X.w H s.heap p (.rng lo hi) from I.hok p _ hp)
 have hn:Builtin.Range.rangeSize lo hi 1=(((hi-lo).toNat:Nat):Int):=by rw[rangeSize_one];split<;>lia
 refine call_list_range (n:=(hi-lo).toNat) (I.ok.hd hc) (show IsRange s.heap p lo hi 1 t u v from e) (small_one (by lia) (by lia) (by lia) (by lia)) hn (by lia) λh' tk acc' c' kp e' hit=>?_;have hv:=t6 hit;have hz:((fI lo (hi-lo).toNat).map V.int).length<=sizeLine:=by
  rw[aB,fI,aB,List.length_range];exact ci (dC b5)
 exact⟨.ref s.heap.objs.size,_,I.laid kp (aE _) (show cg X.prog X.w _ h' _ (.lst _) from ⟨hz,acc'.toList,c',hv,by simpa using e'⟩),rfl,q _ (I.hok.fresh (aE _))⟩
end
structure Fn (K:Kw) (mg:Str->Option Value) (x:Str) (st:Stmt) (ps:List Str):Prop where
 ex:∃ f fd,As K x x st f fd/\mg x=some (.ref f)/\Binds K fd ps []
structure eQ (P:Program) (w:World) (K:Kw) (mg:Str->Option Value) (base:Heap) (k:Nat) (x:Str) (st:Stmt) (ps:List Str) (sp:Sp):Prop where
 ex:∃ f fd,As K x x st f fd/\mg x=some (.ref f)/\Binds K fd ps []/\nu P w K mg base Au k f fd ps sp
def Fn.mk'{P:Program}{w:World}{K:Kw}{mg:Str->Option Value}{base:Heap}{k:Nat}{x:Str}{st:Stmt}{ps:List Str}{sp:Sp}(E:Fn K mg x st ps)
  (h:∀f fd,As K x x st f fd->nu P w K mg base Au k f fd ps sp):eQ P w K mg base k x st ps sp:=by
 obtain⟨f,fd,F,m,b⟩:=E.ex;exact⟨f,fd,F,m,b,h f fd F⟩
def a6.new{H H2:Hp}{l:Addr}{o:HO}(s:a6 H H2)(h:H l=none):a6 H (upd H2 l o):=λb u e=>by rw[a9 (bF e h)];exact s b u e
def ib{α β:Type}{R:α->β->Prop}:∀{xs:List α} {ys:List β} {x:α} {y:β},Paired R xs ys->R x y->Paired R (xs++[x]) (ys++[y])
 | _,_,_,_,.nil,h=>.cons h .nil
 | _,_,_,_,.cons r t,h=>.cons r (ib t h)
def j5{α β:Type}{R S:α->β->Prop}:∀{xs:List α} {ys:List β},Paired R xs ys->(∀a b,R a b->S a b)->Paired S xs ys
 | _,_,.nil,_=>.nil
 | _,_,.cons r t,f=>.cons (f _ _ r) (j5 t f)
def iK{α β:Type}{R:α->β->Prop}:∀{xs:List α} {ys:List β} {i:Nat} {x:α},Paired R xs ys->xs[i]? = some x->∃y,ys[i]? = some y/\R x y
 | _,_,_,_,.nil,e=>by simp at e
 | _,_,0,_,.cons r _,e=>by simp at e;subst e;exact⟨_,rfl,r⟩
 | _,_,i+1,x,.cons _ t,e=>by
  obtain⟨y,h1,h2⟩:=iK (i:=i) (x:=x) t (by simpa using e);exact⟨y,by simpa using h1,h2⟩
def zW {X:Cx} {x:Str} {i:Int} {pos:Pos} (hg:Gl X x) (hm:∃t,X.mg x=some (.int i t)) (hd:(x==("__debug__":Str))=false:=by decide):PE X (.Name x pos) (tC (.int i)):=
 let ⟨t,h⟩:=hm
 qB hg h ⟨t,rfl⟩ hd
def z9{X:Cx}{k:Nat}{x:Str}{st:Stmt}{ps:List Str}{sp:Sp}{e:Expr}{es:List Expr}{t:TA}{p pos:Pos}(D:eQ X.prog X.w X.K X.mg X.base k x st ps sp)(hr:i4 k X.A)(hg:Gl X x)(ha:PA X (e::es) t)
  (hdb:(x==("__debug__":Str))=false:=by decide) (he:starEach (e::es) X.env=(false,eval e X.env)::starEach es X.env:=by rfl) (hpl:(backTo pos (starEach es X.env)).any (·.1)=false:=by rfl) :
  PE X (.Call (.Name x p) (e::es) [] pos) (ue sp [] E0 t):=by
 obtain⟨f,fd,F,m,b,G⟩:=D.ex;exact Bj G hr hg m F.kp b .nil GF ha hdb he hpl
section
variable {σ:St} {H:Hp} {Q:VK} {D:Ends}
def DG{v:V}:mw 0 (some v::σ) H Q=Q v H:=propext ⟨λ⟨_,e,h⟩=>by cases e;exact h,λh=>⟨v,rfl,h⟩⟩
def xS{i:Nat}{x:Option V}:mw (i+1) (x::σ) H Q=mw i σ H Q:=rfl
def Hb{v:V}:tC v σ H Q=Q v H:=rfl
def FR{r:R2}{ta tb:TE}:yO r ta tb σ H Q=ta σ H λx H1=>tb σ H1 λy H2=>r x y H2 Q:=rfl
def FK{r:V->Hp->VK->Prop}{ta:TE}:HB r ta σ H Q=ta σ H λx H1=>r x H1 Q:=rfl
def BG{g:Int->Int->V}{i j:Int}:BV g (.int i) (.int j) H Q=Q (g i j) H:=propext ⟨λ⟨_,_,e,e',h⟩=>by cases e;cases e';exact h,λh=>⟨i,j,rfl,rfl,h⟩⟩
def Hs{C:Int->Int->Prop}{g:Int->Int->V}{i j:Int}:rI C g (.int i) (.int j) H Q=(C i j/\Q (g i j) H):=propext ⟨λ⟨_,_,e,e',h⟩=>by cases e;cases e';exact h,λh=>⟨i,j,rfl,rfl,h⟩⟩
def Hr{g:Int->V}{i:Int}:rU g (.int i) H Q=Q (g i) H:=propext ⟨λ⟨_,e,h⟩=>by cases e;exact h,λh=>⟨i,rfl,h⟩⟩
def F4{i j:Int}:Ft (.int i) (.int j) H Q=Q (.bl (decide (i=j))) H:=propext ⟨λ⟨_,h⟩=>by simpa using h,λh=>⟨rfl,by simpa using h⟩⟩
def FT{i j:Int}:Gm (.int i) (.int j) H Q=Q (.bl (!decide (i=j))) H:=propext ⟨λ⟨_,h⟩=>by simpa using h,λh=>⟨rfl,by simpa using h⟩⟩
def F3{i j:Str}:Ft (.str i) (.str j) H Q=Q (.bl (decide (i=j))) H:=propext ⟨λ⟨_,h⟩=>by simpa using h,λh=>⟨rfl,by simpa using h⟩⟩
def FS{i j:Str}:Gm (.str i) (.str j) H Q=Q (.bl (!decide (i=j))) H:=propext ⟨λ⟨_,h⟩=>by simpa using h,λh=>⟨rfl,by simpa using h⟩⟩
def F5{i j:Bool}:Ft (.bl i) (.bl j) H Q=Q (.bl (decide (i=j))) H:=propext ⟨λ⟨_,h⟩=>by simpa using h,λh=>⟨rfl,by simpa using h⟩⟩
def FU{i j:Bool}:Gm (.bl i) (.bl j) H Q=Q (.bl (!decide (i=j))) H:=propext ⟨λ⟨_,h⟩=>by simpa using h,λh=>⟨rfl,by simpa using h⟩⟩
def F2{b:Bool}{q:Bool->Prop}:(∃k,V.bl b=.bl k/\q k)=q b:=propext ⟨λ⟨_,e,h⟩=>by cases e;exact h,λh=>⟨b,rfl,h⟩⟩
def F1{b:Int}{q:Int->Prop}:(∃k,V.int b=.int k/\q k)=q b:=propext ⟨λ⟨_,e,h⟩=>by cases e;exact h,λh=>⟨b,rfl,h⟩⟩
def DT{i j:Str}{q:Str->Str->Prop}:(∃a b,V.str i=.str a/\V.str j=.str b/\q a b)=q i j:=
 propext ⟨λ⟨_,_,e,e',h⟩=>by cases e;cases e';exact h,λh=>⟨i,j,rfl,rfl,h⟩⟩
def Hc{CX:Am}{P:Program}{w:World}{K:Kw}{mg:Str->Option Value}{base:Heap}{N:List Str}{qual:Str}{scope:Scope}{f:Addr}{cd:Value}{A:Around}{outer:List Env}{s:Shared}{H:Hp}{E:XK}:(rq CX P w K mg base N qual scope f cd A outer s H E).K=K:=rfl
def Cm{i:Nat}{te:TE}{ti:FF}:D9 i te ti D σ H=mw i σ H λx _=>te σ H λy H1=>ti x y H1 λz H2=>D.nx (σ.set i (some z)) H2:=rfl
def Gz{f:Int->Int->Int}{i j:Int}:HU f (.int i) (.int j) H Q=Q (.int (f i j)) H:=propext ⟨λ⟨_,_,e,e',h⟩=>by cases e;cases e';exact h,λh=>⟨i,j,rfl,rfl,h⟩⟩
def DM{a b:Bool}{q:Bool->Bool->Prop}:(∃c d,V.bl a=.bl c/\V.bl b=.bl d/\q c d)=q a b:=propext ⟨λ⟨_,_,e,e',h⟩=>by cases e;cases e';exact h,λh=>⟨a,b,rfl,rfl,h⟩⟩
def F0{a:Addr}{q:Addr->Prop}:(∃b,V.ref a=.ref b/\q b)=q a:=propext ⟨λ⟨_,e,h⟩=>by cases e;exact h,λh=>⟨a,rfl,h⟩⟩
def DL{α:Type}{a:Addr}{q:Addr->α->Prop}:(∃b y,V.ref a=.ref b/\q b y)=∃y,q a y:=propext ⟨λ⟨_,y,e,h⟩=>by cases e;exact⟨y,h⟩,λ⟨y,h⟩=>⟨a,y,rfl,h⟩⟩
def DR{i:Int}{q:Int->Prop}:(∃j,[V.int i]=[.int j]/\q j)=q i:=propext ⟨λ⟨_,e,h⟩=>by cases e;exact h,λh=>⟨i,rfl,h⟩⟩
def DP{i:Str}{q:Str->Prop}:(∃j,[V.str i]=[.str j]/\q j)=q i:=propext ⟨λ⟨_,e,h⟩=>by cases e;exact h,λh=>⟨i,rfl,h⟩⟩
def DQ{α:Type}{i:Addr}{q:Addr->α->Prop}:(∃j y,[V.ref i]=[.ref j]/\q j y)=∃y,q i y:=propext ⟨λ⟨_,y,e,h⟩=>by cases e;exact⟨y,h⟩,λ⟨y,h⟩=>⟨i,y,rfl,h⟩⟩
def DN{α β:Type}{i:Addr}{q:Addr->α->β->Prop}:(∃j y z,[V.ref i]=[.ref j]/\q j y z)=∃y z,q i y z:=propext ⟨λ⟨_,y,z,e,h⟩=>by cases e;exact⟨y,z,h⟩,λ⟨y,z,h⟩=>⟨i,y,z,rfl,h⟩⟩
def DO{i j:Int}{q:Int->Int->Prop}:(∃a b,[V.int i,V.int j]=[.int a,.int b]/\q a b)=q i j:=propext ⟨λ⟨_,_,e,h⟩=>by cases e;exact h,λh=>⟨i,j,rfl,h⟩⟩
def DH{b:Bool}{q:Int->Prop}{r:Bool->Prop}:((∃i,[V.bl b]=[.int i]/\q i)\/∃k,[V.bl b]=[.bl k]/\r k)=r b:=
 propext ⟨λh=>by rcases h with ⟨_,e,_⟩ | ⟨_,e,h⟩<;>cases e;exact h,λh=>.inr ⟨b,rfl,h⟩⟩
def FW{z:Str}{i:Int}:Fq (.str z) (.int i) H Q=(z.length<=sizeLine/\∃c,pL z.cps.toList i=some c/\Q (.str ⟨#[c]⟩) H):=
 propext ⟨λ⟨_,_,c,e,e',h1,h2,h3⟩=>by cases e;cases e';exact⟨h1,c,h2,h3⟩,λ⟨h1,c,h2,h3⟩=>⟨z,i,c,rfl,rfl,h1,h2,h3⟩⟩
def FX{K:Kw}{p:Addr}{i:Int}:BU K (.ref p) (.int i) H Q=∃xs v,cL K H p xs/\pL xs i=some v/\Q v H:=
 propext ⟨λ⟨_,xs,_,v,e,e',h⟩=>by cases e;cases e';exact⟨xs,v,h⟩,λ⟨xs,v,h⟩=>⟨p,xs,i,v,rfl,rfl,h⟩⟩
def FV{K:Kw}{p:Addr}{i:Int}:Fp K (.ref p) (.int i) H Q=∃xs v,dr K H p xs/\pL xs i=some v/\Q v H:=
 propext ⟨λ⟨_,xs,_,v,e,e',h⟩=>by cases e;cases e';exact⟨xs,v,h⟩,λ⟨xs,v,h⟩=>⟨p,xs,i,v,rfl,rfl,h⟩⟩
def F8{l:Addr}{y:V}:vE (.ref l) [y] H Q=∃xs,H l=some (.lst xs)/\xs.length<sizeLine/\Q .non (upd H l (.lst (xs++[y]))):=
 propext ⟨λ⟨_,xs,_,e,e',h⟩=>by cases e;cases e';exact⟨xs,h⟩,λ⟨xs,h⟩=>⟨l,xs,y,rfl,rfl,h⟩⟩
def FQ{l:Addr}:Fm (.ref l) [] H Q=∃xs y,H l=some (.lst xs)/\xs[xs.length - 1]? = some y/\Q y (upd H l (.lst xs.dropLast)):=
 propext ⟨λ⟨_,xs,y,e,_,h⟩=>by cases e;exact⟨xs,y,h⟩,λ⟨xs,y,h⟩=>⟨l,xs,y,rfl,rfl,h⟩⟩
def fP{α:Type}{f:α->V}{l:List α}{k:Nat}{y:V}(h:(l.map f)[k]? = some y):∃x,l[k]? = some x/\y=f x:=by
 rw[ar] at h;cases e:l[k]? with
 | none=>rw[e] at h;cases h
 | some x=>rw[e] at h;exact⟨x,rfl,(aa h).symm⟩
def oV {K:Kw} {l:Addr} {xs:List V} (h:H l=some (.lst xs)):Ez K "list" (.ref l) H:=.inl ⟨rfl,xs,cL.of h⟩
def xT{t:TE}{q:Bool->Hp->Prop}:qc t σ H q=t σ H λx H'=>∃k,x=.bl k/\q k H':=rfl
def FL{t:TE}{q:Bool->Hp->Prop}:tB t σ H q=t σ H λx H'=>∃k,x=.bl k/\q k H':=rfl
def w_and{t u:TT}{q:Bool->Hp->Prop}:Da t u σ H q=t σ H λc H1=>if c=true then u σ H1 q else q false H1:=rfl
def w_or{t u:TT}{q:Bool->Hp->Prop}:HD t u σ H q=t σ H λc H1=>if c=true then q true H1 else u σ H1 q:=rfl
def w_not{t:TT}{q:Bool->Hp->Prop}:D4 t σ H q=t σ H λc H1=>q (!c) H1:=rfl
def xt{ta tb:TE}:y9 ta tb σ H Q=ta σ H λx H1=>∃c,x=.bl c/\if c=true then tb σ H1 Q else Q (.bl false) H1:=rfl
def Ce{ta tb:TE}:D3 ta tb σ H Q=ta σ H λx H1=>∃c,x=.bl c/\if c=true then Q (.bl true) H1 else tb σ H1 Q:=rfl
def x9{ta:TE}:yR ta σ H Q=ta σ H λx H1=>∃c,x=.bl c/\Q (.bl (!c)) H1:=rfl
def FY{t:TT}{ta tb:TE}:HE t ta tb σ H Q=t σ H λc H1=>if c=true then ta σ H1 Q else tb σ H1 Q:=rfl
def Cc{t u:TS}:DY t u D σ H=t { nx:=u D,rt:=D.rt,bk:=D.bk,ct:=D.ct } σ H:=rfl
def w_next:yY D σ H=D.nx σ H:=rfl
def Cj:D7 D σ H=D.bk σ H:=rfl
def xq:Fb D σ H=D.ct σ H:=rfl
def xn{te:TE}:y1 te D σ H=te σ H λ_ H1=>D.nx σ H1:=rfl
def Cd{te:TE}:D0 te D σ H=te σ H D.rt:=rfl
def xY:Fa D σ H=D.rt .non H:=rfl
def Ci{c:TT}{t u:TS}:D5 c t u D σ H=c σ H λb H1=>if b=true then t D σ H1 else u D σ H1:=rfl
def Co{te:TE}{g:TG}:sZ te g D σ H=te σ H λx H1=>g x σ H1 D.nx:=rfl
def uS{i:Nat}{v:V}{q:St->Hp->Prop}:mZ i v σ H q=q (σ.set i (some v)) H:=rfl
def xX{v:V}{x:Option V}:List.set (x::σ) 0 (some v)=some v::σ:=rfl
def xV{i:Nat}{v:V}{x:Option V}:List.set (x::σ) (i+1) (some v)=x::List.set σ i (some v):=rfl
def Cf{q:List V->Hp->Prop}:yT σ H q=q [] H:=rfl
def xr{ta:TE}{tr:TA}{q:List V->Hp->Prop}:dh ta tr σ H q=ta σ H λx H1=>tr σ H1 λxs H2=>q (x::xs) H2:=rfl
def F6{r:List V->Hp->VK->Prop}{t:TA}:FA r t σ H Q=t σ H λvs H1=>r vs H1 Q:=rfl
def Cb{t:TA}:DX t σ H Q=t σ H λxs H1=>xs.length<=sizeLine/\∀p,H1 p=none->Q (.ref p) (upd H1 p (.tup xs)):=rfl
def Cg{t:TA}:BK t σ H Q=t σ H λxs H1=>xs.length<=sizeLine/\∀p,H1 p=none->Q (.ref p) (upd H1 p (.lst xs)):=rfl
def w_call{sp:Sp}{dvs:List V}{E:XK}{t:TA}:ue sp dvs E t σ H Q=t σ H λvs H1=>sp (vs++dvs) H1 Q E:=rfl
def F7{K:Kw}{T:String}{r:V->List V->Hp->VK->Prop}{to:TE}{t:TA}:HF K T r to t σ H Q=to σ H λx H1=>Ez K T x H1/\t σ H1 λxs H2=>r x xs H2 Q:=rfl
def Ck{K:Kw}{T:String}{r:V->List V->Hp->VK->Prop}{to:TE}:D8 K T r to σ H Q=to σ H λx H1=>Ez K T x H1/\r x [] H1 Q:=rfl
def kq(J:It)(g:TG)(tb:TS)(D:Ends)(σ:St)(H1:Hp):Prop:=∃W:Nat->Nat->St->Hp->Prop,(∃m,W 0 m σ H1)/\∀i m σ H,W i m σ H →
 (J.stop i H/\D.nx σ H)\/(J.go i H/\∃N:St->Hp->Prop,(∀σ' H',N σ' H'->∃m',m'<m/\W (i+1) m' σ' H')/\∀x H',J.yld i H x H'->g x σ H' λσ2 H2=>tb { D with nx:=N,ct:=N,bk:=D.nx } σ2 H2)
def xm{ta:TA}{g:TG}{tb:TS}:mI (vT ta) g tb D σ H=ta σ H λvs H1=>∃j:Int,vs=[.int j]/\-(2 ^ 62)<=j/\j<2 ^ 62/\kq (Al 0 j.toNat) g tb D σ H1:=rfl
def xl{ta:TA}{g:TG}{tb:TS}:mI (vS ta) g tb D σ H=ta σ H λvs H1=>∃i j:Int,vs=[.int i,.int j]/\(-(2 ^ 62)<=i/\i<2 ^ 62/\-(2 ^ 62)<=j/\j<2 ^ 62)/\kq (Al i (j-i).toNat) g tb D σ H1:=rfl
def xj{K:Kw}{tl:TE}{g:TG}{tb:TS}:mI (vU K tl) g tb D σ H=tl σ H λx H1=>∃a,x=.ref a/\(∃xs,cL K H1 a xs)/\kq (C7 K a) g tb D σ H1:=rfl
def xh{K:Kw}{tl:TE}{g:TG}{tb:TS}:mI (CL K tl) g tb D σ H=tl σ H λx H1=>∃a,x=.ref a/\(∃xs,dr K H1 a xs)/\kq (Ew K a) g tb D σ H1:=rfl
def xf{K:Kw}{n:Nat}{t:ve}{v:V}{q:St->Hp->Prop}:AZ K n t v σ H q=∃a xs,v=.ref a/\dr K H a xs/\xs.length=n/\t xs σ H q:=rfl
def DI{q:St->Hp->Prop}:Eh [] σ H q=q σ H:=propext ⟨λh=>h.2,λh=>⟨rfl,h⟩⟩
def BC{t:TG}{u:ve}{v:V}{r:List V}{q:St->Hp->Prop}:A0 t u (v::r) σ H q=t v σ H λσ' H'=>u r σ' H' q:=propext ⟨λ⟨_,_,e,h⟩=>by cases e;exact h,λh=>⟨v,r,rfl,h⟩⟩
def qZ{r r' r2:R2}{ta tb tc td:TE}:pS r r' r2 ta tb tc td σ H Q=ta σ H λx H1=>tb σ H1 λy H2=>r x y H2 λz H3=>∃k,z=.bl k ∧
 (if k=true then tc σ H3 λw' H4=>r' y w' H4 λz2 H5=>∃k2,z2=.bl k2/\(if k2=true then td σ H5 λe H6=>r2 w' e H6 Q else Q (.bl false) H5) else Q (.bl false) H3):=rfl
def u5{r r':R2}{ta tb tc:TE}:sY r r' ta tb tc σ H Q=ta σ H λx H1=>tb σ H1 λy H2=>r x y H2 λz H3=>∃k,z=.bl k ∧
 (if k=true then tc σ H3 λw' H4=>r' y w' H4 Q else Q (.bl false) H3):=rfl
end
def u9{P:List Value->Prop}(h:∀a:Value,P [a]):∀us:List Value,us.length=1->P us
 | [a],_=>h a
def Hd{P:List Value->Prop}{n:Nat}(h:∀(a:Value) (r:List Value),r.length=n->P (a::r)):∀us:List Value,us.length=n+1->P us
 | a::r,e=>h a r (Nat.succ.inj e)
def sS{P:List Value->Prop}(h:∀a b:Value,P [a,b]):∀us:List Value,us.length=2->P us:=Hd λa=>u9 λb=>h a b
def Gf{P:List Value->Prop}(h:∀a b c:Value,P [a,b,c]):∀us:List Value,us.length=3->P us:=Hd λa=>sS λb c=>h a b c
section
variable {X:Cx} {pins:List (Addr×Obj)} {σ:St} {H:Hp} {s:Shared} {h':Heap}
def bY.turnNew{fp:List Addr}{p:Addr}{o:HO}{t':Nat}(I:bY X pins σ H s)(hf:∀b∈fp,l3 X pins H b)(k:∀b u,b∉fp->s.heap.get? b=some u->h'.get? b=some u)(hp:s.heap.objs.size<=p)
  (new:cg X.prog X.w (upd H p o) h' p o):bY X pins σ (upd H p o) { s with heap:=h',toks:=t' }:=by
 have hn:H p=none:=I.hok.fresh hp;have nfp:∀b u,H b=some u->b∉fp:=λb u e z=>by rw[(hf b z).1] at e;cases e
 refine I.step (g':=s.gens) (d':=s.drawn) (ch:=fp) (λb hb=>?_) (λb u _ _ hc e _=>k b u hc e) (λb u _ _ hc e _=>⟨u.slots,k b u hc e⟩)
  (λb u _ e n=>by rw[a9 (aq (aU (aQ e) hp))];exact n) (λb u hc e=>⟨u,k b u hc e⟩) (λb xs e=>by rw[a9 (bF e hn)];exact e)
  (λb u xs e=>by rw[a9 (bF e hn)];exact e) (λb ps e=>⟨#[],by rw[a9 (bF e hn),e];simp⟩) (λm hm=>?_) (λb u e=>?_) I.bare
 ·obtain⟨_,f1,_,f3,f4,f5⟩:=hf b hb;exact⟨f3,f1,f4,f5⟩
 ·obtain⟨ob,es,ep,ho,r⟩:=hm;exact⟨ob,es,ep,k _ ob (λz=>(hf _ z).2.1 rfl) ho,r⟩
 ·by_cases hb:b=p
  ·subst hb;rw[aO] at e;cases e;exact new
  ·rw[a9 hb] at e;refine(I.hok b u e).stay (λc v hc q=>k c v ?_ q) (λc q=>by rw[a9 (bF q hn)];exact q) λc xs q=>by rw[a9 (bF q hn)];exact q
   rcases hc with z | z
   ·rw[z];exact nfp b u e
   ·exact nfp c _ z
end
def FI(x:Str):It:=⟨λi _=>i<x.cps.size,λi H v H'=>H'=H/\∃c,x.cps[i]? = some c/\v=.str ⟨#[c]⟩,λi _=>x.cps.size<=i⟩
def yL {P : Program} {w : World} {K : Kw} {tg : Expr} (it : Addr) (x : Str) (t : Tok) : Turn P w K tg (FI x) [it] it (fun i h => h.IsStrIter it "str_ascii_iterator" x t i) where
  mem := by simp
  obj := fun i h st b hb => by
    have e : b = it := by simpa using hb
    subst e
    obtain ⟨o, e, c, d⟩ := st
    exact ⟨o, e, fun v z => by rw [d] at z; cases z⟩
  keep := fun i h h' st k => by
    obtain ⟨o, e, r⟩ := st
    exact ⟨o, k it (by simp) o e, r⟩
  item := by
    intro X hP hw hK hc i pins s σ H E I hf st hg
    subst hP hw hK
    obtain ⟨f0, f1, f2, f3, f4, f5⟩ := hf it (by simp)
    have hx : x.cps[i]? = some x.cps[i] := d8 hg
    refine wpAny_pyNext_ascii_item st hx fun h' st' sb => ?_
    have I1 : bY X pins σ H { s with heap := h', toks := s.toks + 1 } := I.turned (t' := s.toks + 1) (fun b o hb e => (sb.2 b hb).trans e) f0 f1 f3 f4 f5
    obtain ⟨o, e, c, d⟩ := id st'
    exact ⟨_, rfl, pA (s := { s with heap := h', toks := s.toks + 1 }) e c d (by decide) ⟨.str ⟨#[x.cps[i]]⟩, H, I1, ⟨_, rfl⟩, ⟨rfl, _, hx, rfl⟩, st', fun b hb => (hf b hb).1⟩⟩
  done := by
    intro X hP hw hK hc i pins s σ H E I hf st hg
    subst hP hw hK
    obtain ⟨f0, f1, f2, f3, f4, f5⟩ := hf it (by simp)
    exact wpAny_pyNext_ascii_end (I.ok.hd hc) st (jm hg) fun h' eb => ⟨rfl, I.turned (t' := s.toks) (fun b o hb e => eb b o hb e) f0 f1 f3 f4 f5⟩
  self := fun _ _ _ _ _ st h => wpAny_pyIter_striter_ascii st h
def CM(tl:TE):TI:=λσ H R=>tl σ H λx H1=>∃z,x=.str z/\z.cps.all (·<128)=true/\R (FI z) H1
def Dz{X:Cx}{tg l:Expr}{tl:TE}(hl:PE X l tl):PI X tg l (CM tl):=by
 intro pins s σ H R I h;refine dH (hl pins s σ H _ I h) λv s1 ⟨x,H1,I1,r1,z,e,ha,q⟩=>?_;subst e;obtain⟨t,rfl⟩:=r1;refine wpAny_pyIter_ascii ha ?_;exact⟨s1.heap.objs.size,[s1.heap.objs.size],_,_,H1,rfl,I1.kept (t':=s1.toks) λb o e=>aA _ e,yL _ z t,⟨_,aR _ rfl,rfl,rfl⟩,
  λb hb=>by
   have e:b=s1.heap.objs.size:=by simpa using hb
   subst e;exact I1.fpOk (aE _) (I1.hok.fresh (aE _)),q⟩
def Gx(x:Str):It:=⟨λi _=>i<x.cps.size,λi H v H'=>∃p c,H p=none/\x.cps[i]? = some c/\v=.ref p/\H'=upd H p (.tup [.int i,.str ⟨#[c]⟩]),λi _=>i=x.cps.size⟩
def vk {P : Program} {w : World} {K : Kw} {elts : List Expr} {x1 : Nat} {pos : Pos} (e it : Addr) (hne : e ≠ it) (x : Str) (t : Tok) :
    Turn P w K (.Tuple elts x1 pos) (Gx x) [e, it] e (fun i h => (∃ old, IsEnum h e it i old) ∧ h.IsStrIter it "str_ascii_iterator" x t i) where
  mem := by simp
  obj := fun i h st b hb => by
    obtain ⟨⟨old, he⟩, o, ei, c, d⟩ := st
    rcases aH.mp hb with z | z
    · subst z; exact ⟨_, he, fun v z => by cases z⟩
    · have z' : b = it := by simpa using z
      subst z'
      exact ⟨o, ei, fun v z => by rw [d] at z; cases z⟩
  keep := fun i h h' st k => by
    obtain ⟨⟨old, he⟩, o, ei, r⟩ := st
    exact ⟨⟨old, k e (by simp) _ he⟩, o, k it (by simp) o ei, r⟩
  item := by
    intro X hP hw hK hc i pins s σ H E I hf st hg
    subst hP hw hK
    obtain ⟨⟨old, he⟩, hst⟩ := st
    have D : Draws X.prog X.w X.A.in1 it [it] x.cps.size _ _ := kZ (show X.A.in1.handled = none from I.ok.hd hc) it x t
    refine wpAny_pyNext_enum_itemD D he hst hg hne (by simpa using hne) fun v h' tk hv ho st' ht hsz kp => ?_
    obtain ⟨c, u, hx, rfl⟩ := hv
    refine ⟨_, rfl, wpAny_letOwnedTupleGo_enum ho fun h2 he2 hs2 => ?_⟩
    have het : s.heap.objs.size ≠ e := fo (aQ he)
    have ht2 : h2.get? s.heap.objs.size = some { cls := .type "tuple", data := .seq #[.int i tk, .str ⟨#[c]⟩ u] } := (hs2.2 _ het).trans ht
    have hn : H s.heap.objs.size = none := I.hok.fresh (aE _)
    refine ⟨.ref s.heap.objs.size, upd H s.heap.objs.size (.tup [.int i, .str ⟨#[c]⟩]), I.turnNew (fp := [e, it]) hf (fun b o hb q => ?_) (aE _) (show cg X.prog X.w _ h2 _ (.tup _) from ⟨(by show 2 ≤ sizeLine; decide), [.int i tk, .str ⟨#[c]⟩ u], .cons ⟨_, rfl⟩ (.cons ⟨_, rfl⟩ .nil), _, ht2, rfl, _, rfl⟩), rfl, ⟨_, c, hn, hx, rfl, rfl⟩, ⟨⟨_, by exact_mod_cast he2⟩, ?_⟩, fun b hb => ?_⟩
    · have n1 : b ≠ e := fun z => hb (by simp [z])
      have n2 : b ≠ it := fun z => hb (by simp [z])
      exact (hs2.2 b n1).trans (kp b o n1 n2 q)
    · obtain ⟨o, ei, r⟩ := st'
      exact ⟨o, (hs2.2 it hne.symm).trans ei, r⟩
    · have hb' := (hf b hb).1
      rw [a9 (fun z => ?_)]
      · exact hb'
      · obtain ⟨o, q, _⟩ := hst
        rcases aH.mp hb with y | y
        · exact het (z.symm.trans y)
        · have y' : b = it := by simpa using y
          exact absurd (y'.symm.trans z) (aq (aQ q))
  done := by
    intro X hP hw hK hc i pins s σ H E I hf st hg
    subst hP hw hK
    obtain ⟨⟨old, he⟩, hst⟩ := st
    have hg' : i = x.cps.size := hg
    subst hg'
    obtain ⟨f0, f1, f2, f3, f4, f5⟩ := hf it (by simp)
    have D : Draws X.prog X.w X.A.in1 it [it] x.cps.size _ _ := kZ (show X.A.in1.handled = none from I.ok.hd hc) it x t
    exact wpAny_pyNext_enum_endD D he hst fun h' eb => ⟨rfl, I.turned (t' := s.toks) (fun b o hb q => eb b o hb q) f0 f1 f3 f4 f5⟩
  self := fun _ _ _ _ _ st h => by
    obtain ⟨⟨old, he⟩, _⟩ := st
    exact wpAny_pyIter_enum he h
def AV(ta:TA):TI:=λσ H R=>ta σ H λvs H1=>∃z,vs=[.str z]/\z.cps.all (·<128)=true/\R (Gx z) H1
def Bb {X:Cx} {a:Expr} {ta:TA} {elts:List Expr} {x1:Nat} {p pos tpos:Pos} (hg:Gl X "enumerate") (hm:X.mg "enumerate"=none) (ha:PA X [a] ta) (hs:starEach [a] X.env=[(false,eval a X.env)]:=by rfl) :
  PI X (.Tuple elts x1 tpos) (.Call (.Name "enumerate" p) [a] [] pos) (AV ta):=by
 intro pins s σ H R I h;refine Call_ (iR I hg hm boot_enumerate (bS (dH (ha pos pins s σ H _ I h) λus s1 ⟨vs,H1,I1,r1,z,e,hz,q⟩=>?_) hs rfl));subst e;obtain⟨u,rfl,t,rfl⟩:=Kb r1;refine call_enumerate_str λh' he hit hsz kp=>?_;have ht:strIterType z="str_ascii_iterator":=by unfold strIterType;rw[Ko hz]
 rw[ht] at hit;refine wpAny_pyIter_enum he ?_;have I2:bY X pins σ H1 { s1 with heap:=h' }:=I1.kept (t':=s1.toks) kp;exact⟨s1.heap.objs.size+1,[s1.heap.objs.size+1,s1.heap.objs.size],_,_,H1,rfl,I2,vk _ _ (Nat.succ_ne_self _) z t,⟨⟨_,he⟩,hit⟩,
  λb hb=>by
   have hle:s1.heap.objs.size<=b:=by
    rcases aH.mp hb with y | y
    ·rw[y];exact eZ _
    ·have y':b=s1.heap.objs.size:=by simpa using y
     exact mG y'.symm
   exact I1.fpOk hle (I1.hok.fresh hle),q⟩
section
variable {σ:St} {H:Hp} {D:Ends}
def xi{tl:TE}{g:TG}{tb:TS}:mI (CM tl) g tb D σ H=tl σ H λx H1=>∃z,x=.str z/\z.cps.all (·<128)=true/\kq (FI z) g tb D σ H1:=rfl
def xk{ta:TA}{g:TG}{tb:TS}:mI (AV ta) g tb D σ H=ta σ H λvs H1=>∃z,vs=[.str z]/\z.cps.all (·<128)=true/\kq (Gx z) g tb D σ H1:=rfl
def FZ{a:Str}{q:Str->Prop}:(∃b,V.str a=.str b/\q b)=q a:=propext ⟨λ⟨_,e,h⟩=>by cases e;exact h,λh=>⟨a,rfl,h⟩⟩
def CS{x:Str}{g:TG}{tb:TS}(Pv:Nat->St->Hp->Prop)(h0:Pv 0 σ H)
  (hs:∀i c σ H,x.cps[i]? = some c->Pv i σ H->g (.str ⟨#[c]⟩) σ H λσ2 H2=>tb { D with nx:=Pv (i+1),ct:=Pv (i+1),bk:=D.nx } σ2 H2) (hd:∀σ H,Pv x.cps.size σ H->D.nx σ H):kq (FI x) g tb D σ H:=by
 refine⟨λi m σ H=>m+i=x.cps.size/\Pv i σ H,⟨x.cps.size,rfl,h0⟩,?_⟩;rintro i m σ H ⟨hm,hp⟩;by_cases hi:i<x.cps.size
 ·refine .inr ⟨hi,Pv (i+1),λσ' H' h=>⟨m - 1,by lia,by lia,h⟩,?_⟩;rintro v H' ⟨rfl,c,hc,rfl⟩;exact hs i c σ H' hc hp
 ·have e:i=x.cps.size:=by lia
  subst e;exact .inl ⟨aE _,hd σ H hp⟩
def rZ{x:Str}{g:TG}{tb:TS}(Pv:Nat->St->Hp->Prop)(h0:Pv 0 σ H)
  (hs:∀i c σ H p,x.cps[i]? = some c->Pv i σ H->H p=none->g (.ref p) σ (upd H p (.tup [.int i,.str ⟨#[c]⟩])) λσ2 H2=>tb { D with nx:=Pv (i+1),ct:=Pv (i+1),bk:=D.nx } σ2 H2) (hd:∀σ H,Pv x.cps.size σ H->D.nx σ H):kq (Gx x) g tb D σ H:=by
 refine⟨λi m σ H=>m+i=x.cps.size/\Pv i σ H,⟨x.cps.size,rfl,h0⟩,?_⟩;rintro i m σ H ⟨hm,hp⟩;by_cases hi:i<x.cps.size
 ·refine .inr ⟨hi,Pv (i+1),λσ' H' h=>⟨m - 1,by lia,by lia,h⟩,?_⟩;rintro v H' ⟨p,c,hn,hc,rfl,rfl⟩;exact hs i c σ H p hc hp hn
 ·have e:i=x.cps.size:=by lia
  subst e;exact .inl ⟨rfl,hd σ H hp⟩
end
def jI:∀{ns:List Int} {us:List Value},cE (ns.map V.int) us->IntsAre us ns
 | [],_,.nil=>.nil
 | n::ns,_,.cons ⟨t,e⟩ r=>by subst e;exact .cons n t (jI r)
def oW:∀{ts:List Str} {us:List Value},cE (ts.map V.str) us->∃l:List (Str×Tok),us=strValues l/\l.map (·.1)=ts
 | [],_,.nil=>⟨[],rfl,rfl⟩
 | t::ts,_,.cons ⟨k,e⟩ r=>by
  subst e;obtain⟨l,e1,e2⟩:=oW r;exact⟨(t,k)::l,by rw[e1];rfl,by rw[aS,e2]⟩
section
variable {X:Cx}
def Dj(K:Kw):List V->Hp->VK->Prop:=λxs H Q=>∃(p:Addr) (ns:List Int),xs=[.ref p]/\cL K H p (ns.map V.int)/\ns.length<64 ∧
 ∀(l:Addr) (ms:List Int),H l=none->ms.Perm ns->ms.Pairwise (·<=·)->Q (.ref l) (upd H l (.lst (ms.map V.int)))
def mU:fg X (.builtin "sorted") (Dj X.K):=by
 intro pins s σ H xs us Q I r h;obtain⟨p,ns,rfl,hq,hl,q⟩:=h;obtain⟨u,rfl,rx⟩:=Kb r;cases rx;obtain⟨its,rv,pl,hz⟩:=I.list hq;have hi:=jI rv;have hlen:its.length=ns.length:=by have:=rv.length;simpa using this.symm
 refine sorted_ints pl.isList hi (by lia) λout ms hm hp hs=>?_;obtain⟨c,hc⟩:=sortedAll_at s.heap its out;have hml:ms.length=ns.length:=hp.length_eq;exact⟨.ref (s.heap.objs.size+1),upd H (s.heap.objs.size+1) (.lst (ms.map V.int)),I.laid (t':=s.toks) (λb o e=>sortedAll_old e) (eZ _)
  (show cg X.prog X.w _ _ _ (.lst _) from ⟨by rw[aB,hml];exact ci (dC (by lia)),out.toList,c,k8 hm,by simpa using hc⟩),rfl,q _ ms (I.hok.fresh (eZ _)) hp hs⟩
def rJoin(K:Kw):V->List V->Hp->VK->Prop:=λx vs H Q=>∃(z:Str) (p:Addr) (ts:List Str),x=.str z/\vs=[.ref p]/\cL K H p (ts.map V.str)/\JoinOk z ts=true/\Q (.str (Txt.join z ts)) H
def vO:Eu X "str.join" (rJoin X.K):=by
 intro pins s σ H x xs v us Q I r rv h;obtain⟨z,p,ts,rfl,rfl,hq,ok,q⟩:=h;obtain⟨t,rfl⟩:=r;obtain⟨u,rfl,rx⟩:=Kb rv;cases rx;obtain⟨its,rv',pl,hz⟩:=I.list hq;obtain⟨l,rfl,e⟩:=oW rv';exact SC.join pl.isList e ok λt' k=>⟨.str _,H,I.tok k,⟨t',rfl⟩,q⟩
end
mutual
inductive Dat (H:Hp):V->PyData->Prop
 | non:Dat H .non .none
 | bl (b:Bool):Dat H (.bl b) (.bool b)
 | int (i:Int):Dat H (.int i) (.int i)
 | str (x:Str):Dat H (.str x) (.str x)
 | tup {a:Addr} {xs:List V} {ds:List PyData}:H a=some (.tup xs)->iw H xs ds->Dat H (.ref a) (.tuple ds)
 | lst {a:Addr} {xs:List V} {ds:List PyData}:H a=some (.lst xs)->iw H xs ds->Dat H (.ref a) (.list ds)
inductive iw (H:Hp):List V->List PyData->Prop
 | nil:iw H [] []
 | cons {x:V} {xs:List V} {d:PyData} {ds:List PyData}:Dat H x d->iw H xs ds->iw H (x::xs) (d::ds)
end
mutual
def Dat.rep{K:Kw}{H:Hp}:∀{x:V} {d:PyData},Dat H x d->Rep K H x d
 | _,_,.non=>.non
 | _,_,.bl b=>.bl b
 | _,_,.int i=>.int i
 | _,_,.str x=>.str x
 | _,_,.tup h r=>.tup (dr.of h) (iw.rep r)
 | _,_,.lst h r=>.lst (cL.of h) (iw.rep r)
def iw.rep{K:Kw}{H:Hp}:∀{xs:List V} {ds:List PyData},iw H xs ds->lY K H xs ds
 | _,_,.nil=>.nil
 | _,_,.cons h r=>.cons (Dat.rep h) (iw.rep r)
end
mutual
def Dat.same{H H':Hp}(s:a6 H H'):∀{x:V} {d:PyData},Dat H x d->Dat H' x d
 | _,_,.non=>.non
 | _,_,.bl b=>.bl b
 | _,_,.int i=>.int i
 | _,_,.str x=>.str x
 | _,_,.tup h r=>.tup (s _ _ h) (iw.same s r)
 | _,_,.lst h r=>.lst (s _ _ h) (iw.same s r)
def iw.same{H H':Hp}(s:a6 H H'):∀{xs:List V} {ds:List PyData},iw H xs ds->iw H' xs ds
 | _,_,.nil=>.nil
 | _,_,.cons h r=>.cons (Dat.same s h) (iw.same s r)
end
def Hu:PyData->Value
 | .none=>.type "NoneType"
 | .bool _=>.type "bool"
 | .int _=>.type "int"
 | .str _=>.type "str"
 | .list _=>.type "list"
 | .tuple _=>.type "tuple"
 | .dict _=>.type "dict"
def Dat.ty{K:Kw}{H:Hp}{x:V}{d:PyData}(h:Dat H x d):lX K H x (Hu d):=by
 cases h with
 | non=>exact .non
 | bl b=>exact .bl b
 | int i=>exact .int i
 | str x=>exact .str x
 | tup h _=>exact .tup h
 | lst h _=>exact .lst h
def isI:PyData->Bool | .int _=>true | .bool _=>true | _=>false
def Gq:PyData->Bool | .bool _=>true | _=>false
def Hk:PyData->Bool | .str _=>true | _=>false
def Hj:PyData->Bool | .tuple _=>true | _=>false
def Hl:PyData->Bool | .list _=>true | _=>false
section
variable {K:Kw} {H:Hp} {x:V} {d:PyData} {Q:VK}
def CI (h:Dat H x d) (q:Q (.bl (isI d)) H):wF K [x,.ty "int"] H Q:=⟨x,"int",_,isI d,rfl,h.ty,by cases h<;>rfl,q⟩
def AQ (h:Dat H x d) (q:Q (.bl (Gq d)) H):wF K [x,.ty "bool"] H Q:=⟨x,"bool",_,Gq d,rfl,h.ty,by cases h<;>rfl,q⟩
def CH (h:Dat H x d) (q:Q (.bl (Hk d)) H):wF K [x,.ty "str"] H Q:=⟨x,"str",_,Hk d,rfl,h.ty,by cases h<;>rfl,q⟩
def ou (h:Dat H x d) (q:Q (.bl (Hj d)) H):wF K [x,.ty "tuple"] H Q:=⟨x,"tuple",_,Hj d,rfl,h.ty,by cases h<;>rfl,q⟩
def AO (h:Dat H x d) (q:Q (.bl (Hl d)) H):wF K [x,.ty "list"] H Q:=⟨x,"list",_,Hl d,rfl,h.ty,by cases h<;>rfl,q⟩
end
def ints_rep{K:Kw}{H:Hp}:∀(ns:List Int),lY K H (ns.map V.int) (ns.map PyData.int)
 | []=>.nil
 | n::ns=>.cons (.int n) (ints_rep ns)
def mD:∀ms ns:List Int,PyData.eqvAll (ms.map PyData.int) (ns.map PyData.int)=decide (ms=ns)
 | [],[]=>rfl
 | [],_::_=>by simp[PyData.eqvAll]
 | _::_,[]=>by simp[PyData.eqvAll]
 | p::ps,q::qs=>by
  show (PyData.eqv (.int p) (.int q)&&PyData.eqvAll (ps.map PyData.int) (qs.map PyData.int))=_;rw[mD ps qs];by_cases h1:p=q<;>by_cases h2:ps=qs<;>simp[PyData.eqv,h1,h2]
def f7:∀ns:List Int,PyData.canLayAll0 (ns.map PyData.int)=true
 | []=>rfl
 | n::ns=>by
  show (PyData.canLay0 (.int n)&&PyData.canLayAll0 (ns.map PyData.int))=true;rw[f7 ns];rfl
def j6:∀ns:List Int,PyData.depthAll (ns.map PyData.int)=0
 | []=>rfl
 | n::ns=>by
  show max (PyData.depth (.int n)) (PyData.depthAll (ns.map PyData.int))=0;rw[j6 ns];rfl
def A3{K:Kw}{H:Hp}{a b:Addr}{ms ns:List Int}{Q:VK}(ha:cL K H a (ms.map V.int))(hb:cL K H b (ns.map V.int))(q:Q (.bl (decide (ms=ns))) H):zA K false (.ref a) (.ref b) H Q:=by
 refine⟨.list (ms.map PyData.int),.list (ns.map PyData.int),.lst ha (ints_rep ms),.lst hb (ints_rep ns),f7 ms,f7 ns,?_,?_⟩
 ·refine av (Nat.min_le_left _ _) ?_;show PyData.depthAll (ms.map PyData.int)+1<=60;rw[j6];decide
 ·show Q (.bl (PyData.eqvAll (ms.map PyData.int) (ns.map PyData.int))) H;rw[mD];exact q
def jz(env:Env):List (Str×NameKind)->List (Str×Addr)->List (Str×Addr)
 | [],acc=>acc
 | (n,k)::r,acc=>jz env r (if (k==NameKind.free)=true then (n,(env.cells.lookup n).getD 0)::acc else acc)
def oO{scope:Scope}{env:Env}(h:∀x∈scope.names,x.2=.free->∃c,env.cells.lookup x.1=some c):closureFor scope env=pure (jz env scope.names []):=by
 simp only[closureFor];generalize ([]:List (Str×Addr))=acc
 revert h
 generalize scope.names=l;intro h
 induction l generalizing acc with
 | nil=>rfl
 | cons x l ih=>
  obtain⟨n,k⟩:=x;have ih':=λacc=>ih acc λy hy=>h y (aK _ hy);rw[gm];cases hk:(k==NameKind.free) with
  | false=>
   simp only[cn,Kv,pure_bind];rw[show jz env ((n,k)::l) acc=jz env l acc by simp[jz,hk]];exact ih' acc
  | true=>
   obtain⟨c,hc⟩:=h (n,k) am (by simpa using hk);have e:cellOf env n=pure c:=by unfold cellOf;rw[hc]
   simp only[Ku,e,pure_bind];rw[show jz env ((n,k)::l) acc=jz env l ((n,c)::acc) by simp[jz,hk,hc]];exact ih' ((n,c)::acc)
def kX{env:Env}{x:Str}{c:Addr}:∀{l:List (Str×NameKind)} {acc:List (Str×Addr)},(∀y∈l,y.2=.free->∃c,env.cells.lookup y.1=some c)->(jz env l acc).lookup x=some c->acc.lookup x=some c\/env.cells.lookup x=some c
 | [],acc,_,h=>.inl h
 | (n,k)::l,acc,hf,h=>by
  have ih:=kX (l:=l) (acc:=if (k==NameKind.free)=true then (n,(env.cells.lookup n).getD 0)::acc else acc) (λy hy=>hf y (aK _ hy)) h;rcases ih with e | e
  ·cases hk:(k==NameKind.free) with
   | false=>rw[hk] at e;exact .inl (by simpa using e)
   | true=>
    rw[hk] at e;simp only[Ku,gL] at e;cases hx:x==n with
    | false=>rw[hx] at e;exact .inl e
    | true=>
     rw[hx] at e;obtain⟨c',hc⟩:=hf (n,k) am (by simpa using hk);have hxn:x=n:=by simpa using hx
     subst hxn;rw[hc] at e;simp only[Option.getD_some] at e;exact .inr (hc.trans e)
  ·exact .inr e
def pC{env:Env}{x:Str}:∀{l:List (Str×NameKind)} {acc:List (Str×Addr)},(∃c,acc.lookup x=some c)->∃c,(jz env l acc).lookup x=some c
 | [],acc,h=>h
 | (n,k)::l,acc,h=>by
  refine pC (l:=l) ?_;cases hk:(k==NameKind.free) with
  | false=>simpa using h
  | true=>
   simp only[Ku,gL];cases hx:x==n with
   | false=>exact h
   | true=>exact⟨_,rfl⟩
def nZ{env:Env}{x:Str}:∀{l:List (Str×NameKind)} {acc:List (Str×Addr)},(x,NameKind.free)∈l->∃c,(jz env l acc).lookup x=some c
 | [],_,h=>nomatch h
 | (n,k)::l,acc,h=>by
  rcases aH.mp h with e | e
  ·cases e;refine pC (l:=l) ?_;simp
  ·exact nZ (l:=l) e
def xM(env:Env)(p:Str×NameKind):Str×NameKind:=if (p.2==NameKind.free&&env.scope.kind==.function&&env.kindOf p.1==some .cell) then (p.1,NameKind.cell) else p
def kt(scope:Scope)(env:Env):(relabel scope env).names=scope.names.map (xM env):=by
 show scope.names.map _=_;congr 1
def BO(env:Env)(p:Str×NameKind):(xM env p).1=p.1:=by unfold xM;split<;>rfl
def lQ{env:Env}{x:Str}:∀{names:List (Str×NameKind)},(names.map (xM env)).lookup x=(names.lookup x).map λk=>(xM env (x,k)).2
 | []=>rfl
 | (n,q)::r=>by
  rw[aS];have e:xM env (n,q)=(n,(xM env (n,q)).2):=Prod.ext (BO env _) rfl;rw[e,gL,gL];cases hx:x==n with
  | true=>
   have hxn:x=n:=by simpa using hx
   subst hxn;rfl
  | false=>exact lQ (names:=r)
def lu{scope:Scope}{env:Env}{x:Str}{k:NameKind}(h:(relabel scope env).names.lookup x=some k):scope.names.lookup x=some k\/(k=.cell/\scope.names.lookup x=some .free):=by
 rw[kt,lQ] at h;cases e:scope.names.lookup x with
 | none=>rw[e] at h;cases h
 | some q=>
  rw[e] at h;have h':(xM env (x,q)).2=k:=aa h;unfold xM at h'
  split at h'
  ·rename_i hc;have hq:q=.free:=by
    have:=(cu _ _).mp ((cu _ _).mp hc).1;simpa using this.1
   exact .inr ⟨h'.symm,by rw[hq]⟩
  ·exact .inl (by rw[<-h'])
def pq{scope:Scope}{env:Env}{x:Str}(h:scope.names.lookup x=some .free):(relabel scope env).names.lookup x=some .cell\/(relabel scope env).names.lookup x=some .free:=by
 rw[kt,lQ,h];show some (xM env (x,.free)).2=_\/some (xM env (x,.free)).2=_;unfold xM
 split
 ·exact .inl rfl
 ·exact .inr rfl
def qO(X:Cx)(N:List Str)(scope:Scope)(C:Addr)(s:Shared)(H:Hp)(fp:List Addr)(pn:List (Addr×Obj)):Cx:=
 { X with N:=N,s₀:=s,H₀:=H,env:=compEnvC scope (jz X.env scope.names []) C X.env,outer:=X.stack,ex:=fp,fn:=λ_=>false,pn:=pn,xe:=λ_ _=>False }
structure l4 (scope:Scope) (ns:List Str):Prop where
 kind:scope.kind=.function
 nocell:∀ y∈scope.names,y.2≠.cell
 names:∀ y∈scope.names,y.2=.local->scope.names.lookup y.1=some .local
 frees:∀ y∈scope.names,y.2=.free->y.1∈ns
inductive k0 (X:Cx) (scope:Scope):List Str->List Nat->Prop
 | nil:k0 X scope [] []
 | cons {x:Str} {i:Nat} {ns:List Str} {is:List Nat}:X.N[i]? = some x->scope.names.lookup x=some .free->(X.env.kindOf x=some .cell\/X.env.kindOf x=some .free)->k0 X scope ns is->k0 X scope (x::ns) (i::is)
def k0.mem{X:Cx}{scope:Scope}{ns:List Str}{is:List Nat}{x:Str}(c:k0 X scope ns is)(h:x∈ns):X.env.kindOf x=some .cell\/X.env.kindOf x=some .free:=by
 induction c with
 | nil=>exact nomatch h
 | cons _ _ k _ ih=>
  rcases aH.mp h with e | e
  ·subst e;exact k
  ·exact ih e
def k0.len{X:Cx}{scope:Scope}{ns:List Str}{is:List Nat}(c:k0 X scope ns is):is.length=ns.length:=by
 induction c with
 | nil=>rfl
 | cons _ _ _ _ ih=>simp[ih]
def k0.at_{X:Cx}{scope:Scope}{ns:List Str}{is:List Nat}(c:k0 X scope ns is){j:Nat}{x:Str}(h:ns[j]? = some x):
  ∃i,is[j]? = some i/\X.N[i]? = some x/\scope.names.lookup x=some .free/\(X.env.kindOf x=some .cell\/X.env.kindOf x=some .free):=by
 induction c generalizing j with
 | nil=>simp at h
 | cons a b k _ ih=>
  cases j with
  | zero=>simp at h;subst h;exact⟨_,rfl,a,b,k⟩
  | succ j=>exact ih (by simpa using h)
def wr(σ:St)(i:Nat):Option V:=(σ[i]?).join
def g6(k:Nat)(caps:List Nat)(σ:St):St:=List.replicate k none++caps.map λi=>wr σ i
section
variable {X:Cx} {pins:List (Addr×Obj)} {σ:St} {H:Hp} {s s4:Shared}
def uE{own ns:List Str}{caps:List Nat}{scope:Scope}{C:Addr}{fp:List Addr}(I:bY X pins σ H s)(S:l4 scope ns)(cp:k0 X scope ns caps)(hf:∀b∈fp,l3 X pins H b)
  (hfl:∀b∈fp,b<s.heap.objs.size) (hC:s.heap.objs.size<=C) (os:s4.os=s.os) (gens:s4.gens=s.gens) (k:∀b o,s.heap.get? b=some o->s4.heap.get? b=some o) {m:Str->Option Value} (hn:s4.heap.Ns C m) :
  bY (qO X (own++ns) scope C s H fp (X.pn++pins)) [] (g6 own.length caps σ) H s4:=by
 have cells:∀x c,(jz X.env scope.names []).lookup x=some c->X.env.cells.lookup x=some c:=λx c e=>by
  rcases kX (λy hy hfr=>I.ok.has y.1 (cp.mem (S.frees y hy hfr))) e with z | z
  ·simp at z
  ·exact z
 have neL:C≠X.env.locals:=fo (aU I.lt hC);have inFs:∀b,b∈t9 X.stack->b=X.env.locals\/b∈X.fs:=λb hb=>aH.mp (I.stkSub b hb);have nst:∀b,b≠X.env.locals->b∉X.fs->b∉t9 X.stack:=λb h1 h2 z=>(inFs b z).elim h1 h2;have cle:∀x c,X.env.cells.lookup x=some c->c<s.heap.objs.size:=λx c e=>by obtain⟨v,q⟩:=I.cell x c e;exact q.lt
 refine⟨⟨I.ok.mod,S.kind,I.ok.glob,I.ok.blt,hC,λx y c h1 h2=>I.ok.inj x y c (cells _ _ h1) (cells _ _ h2),λx hx=>?_,(λx c h=>nomatch h),I.ok.hd,I.ok.frames,.inl rfl,λb hb=>⟨λz=>?_,λx c e=>(hf b hb).2.2.2.2.1 x c (cells _ _ e)⟩,
   I.bs,av I.ok.bsz I.sz,λb o e hb=>?_,λb hb=>nst b (hf b hb).2.1 (hf b hb).2.2.1,I.stack,I.stkFree⟩,
  os,by rw[gens];exact I.bare,Un.kept k,⟨m,hn,λi x v e1 e2 e3=>?_⟩,λx c e=>?_,?_,λx c e=>I.freeC x c (cells _ _ e),λp hp=>?_,I.hok.kept k,?_⟩
 ·have hx':(relabel scope X.env).names.lookup x=some .cell\/(relabel scope X.env).names.lookup x=some .free:=hx;have hfree:scope.names.lookup x=some .free:=by
   rcases hx' with z | z
   ·rcases lu z with q | q
    ·exact absurd rfl (S.nocell _ (cP q))
    ·exact q.2
   ·rcases lu z with q | q
    ·exact q
    ·exact absurd q.1 (by decide)
  exact nZ (cP hfree)
 ·exact absurd (aU (hfl b hb) hC) (by rw[show b=C from z];exact c7 _)
 ·obtain⟨f0,f1,f2,f3,f4,f5⟩:=hf b hb;rcases f3 with z | z
  ·exact I.ok.noex b o e z
  ·exact absurd (aU (aQ e) (av I.ok.bsz z)) (c7 _)
 ·have e2':(List.replicate own.length none++caps.map λi=>wr σ i)[i]? = some (some v):=e2;have e1':(own++ns)[i]? = some x:=e1;by_cases hi:i<own.length
  ·rw[bK (by simpa using hi),jO,Ko hi] at e2';cases e2'
  ·rw[aV (by simpa using hi),kF,ar] at e2';rw[aV (by lia)] at e1';obtain⟨i',h1,h2,h3,h4⟩:=cp.at_ e1';rw[h1] at e2';have e4:(σ[i']?).join=some v:=aa e2';have e5:σ[i']? = some (some v):=by
    cases q:σ[i']? with
    | none=>rw[q] at e4;cases e4
    | some w'=>rw[q] at e4;rw[show w'=some v from e4]
   obtain⟨m',hn',hl'⟩:=I.loc;have vis:FE X.env.scope x:=h4.elim (λz=>.inr (.inl z)) λz=>.inr (.inr z);obtain⟨u,r,l⟩:=hl' i' x v h2 e5 vis;refine⟨u,r,.inr ⟨pq h3,?_⟩⟩;obtain⟨c,hc⟩:=nZ (env:=X.env) (acc:=[]) (cP h3);rcases l with ⟨z,_⟩ | ⟨_,c',e6,z⟩
   ·rcases h4 with y | y<;>· rw[y] at z;cases z
   ·have:=cells _ _ hc;rw[e6] at this;cases this;obtain⟨o,ho,hd⟩:=z;exact⟨_,hc,o,k _ _ ho,hd⟩
 ·obtain⟨v,o,ho,hd⟩:=I.cell x c (cells _ _ e);exact⟨v,o,k _ _ ho,hd⟩
 ·exact I.hok.fresh hC
 ·have hp':p∈X.pn++pins:=by simpa [qO] using hp
  obtain⟨a1,a2,a3,a4,a5⟩:=I.pin p hp';exact⟨k _ _ a1,a2,aq (aU (aQ a1) hC),nst _ a3 a4,a5⟩
 ·show (g6 own.length caps σ).length=(own++ns).length;simp[g6,cp.len]
end
def PF(X:Cx)(ifs:List Expr)(t:TT):Prop:=
 ∀(pins:List (Addr×Obj)) (s:Shared) (σ:St) (H:Hp) (Q:Bool->Hp->Prop),bY X pins σ H s->t σ H Q →
  wpAny (model X.prog X.w) X.A (forIn ifs true λc r=>if r=true then do let ok <-isTrue c X.env (eval c X.env);pure (ForInStep.yield ok) else pure (ForInStep.yield r)) (TP X pins σ Q) X.xe s
def ud:TT:=λ_ H q=>q true H
def EC{X:Cx}:PF X [] ud:=λ_ _ _ H _ I h=>K6 ⟨H,I,h⟩
def EB{X:Cx}{c:Expr}{t:TT}(h:PT X c t):PF X [c] t:=by
 intro pins s σ H Q I hq;rw[gm];simp only[Ku,bind_assoc,pure_bind];refine wpAny_bind (dH (h pins s σ H Q I hq) λb s1 q=>?_);exact K6 q
def ju(J:It)(g:TG)(tf:TT)(te:TE)(Q:VK)(σ:St)(H1:Hp):Prop:=∃W:Nat->Nat->List V->St->Hp->Prop,(∃m,W 0 m [] σ H1)/\∀i m ys σ H,W i m ys σ H →
 (J.stop i H/\ys.length<=sizeLine/\∀p,H p=none->Q (.ref p) (upd H p (.lst ys))) ∨
 (J.go i H/\ys.length<sizeLine/\∀x H',J.yld i H x H'->g x σ H' λσ2 H2=>tf σ2 H2 λb H3=>
  if b=true then te σ2 H3 λy H4=>∃m',m'<m/\W (i+1) m' (ys++[y]) σ2 H4 else ∃m',m'<m/\W (i+1) m' ys σ2 H3)
section
variable {X:Cx} {pins:List (Addr×Obj)} {σ:St} {H:Hp} {s:Shared}
def oN {prog : Program} {w : World} {A : Around} {R : Result → Shared → Prop} {s : Shared} {elt target iter : Expr} {ifs : List Expr} {scope : Scope} {pos : Pos} {it acc : Value} {env : Env} (I : Nat → Shared → Prop)
  (turn : ∀ n s, I n s → wpAny (model prog w) A (pyNext it) (fun r s₁ => match r with
   | none => R (.ok .next) s₁
   | some v => wpAny (model prog w) A (letOwnedTupleGo target it v) (fun _ s₁ => wpAny (model prog w) A (assign target env v) (fun _ s₂ =>
     wpAny (model prog w) A (forIn ifs true fun c r => if r = true then do let ok ← isTrue c env (eval c env); pure (ForInStep.yield ok) else pure (ForInStep.yield r)) (fun ok s₃ =>
      if ok = true then wpAny (model prog w) A (eval elt env) (fun x s₄ =>
       wpAny (model prog w) A (call (.builtin "list.append") [acc, x]) (fun _ s₅ => ∃ m, m < n ∧ I m s₅) (notedBy (model prog w) A env fun e s' => R (.error e) s') s₄) (notedBy (model prog w) A env fun e s' => R (.error e) s') s₃
      else ∃ m, m < n ∧ I m s₃) (notedBy (model prog w) A env fun e s' => R (.error e) s') s₂) (notedBy (model prog w) A env fun e s' => R (.error e) s') s₁) (notedBy (model prog w) A env fun e s' => R (.error e) s') s₁) (notedBy (model prog w) A env fun e s' => R (.error e) s') s)
  (n : Nat) (h : I n s) : codeAny (model prog w) A (.compLoop (.ListComp elt [⟨target, iter, ifs, 0⟩] scope pos) 0 it acc env) R s := by
 refine codeAny_loop rfl I (fun n s hI => ?_) n h
 show wpAny _ A ((compTurn (.ListComp elt [⟨target, iter, ifs, 0⟩] scope pos) 0 it acc env).onRaise (fun x => do noteFrame x env; theTreesLotGoes x)) _ _ s
 refine wpAny_noted ?_
 rw [compTurn_list]
 refine wpAny_bind (wpAny_standAt (wpAny_bind (K1 (turn n s hI) (fun r s₁ h₁ => ?_) fun _ _ h' => h')))
 cases r with
 | none => exact K6 h₁
 | some v =>
  refine wpAny_bind (K1 h₁ (fun _ s₁ h₁ => ?_) fun _ _ h' => h')
  refine wpAny_bind (K1 h₁ (fun _ s₂ h₂ => wpAny_bind (K1 h₂ (fun ok s₃ h₃ => ?_) fun _ _ h' => h')) fun _ _ h' => h')
  cases ok with
  | false => exact K6 ⟨rfl, h₃⟩
  | true =>
   exact wpAny_bind (wpAny_bind (K1 h₃ (fun x s₄ h₄ => wpAny_bind (K1 h₄ (fun _ s₅ h₅ => K6 (K6 ⟨rfl, h₅⟩)) fun _ _ h' => h')) fun _ _ h' => h'))
def sC{own ns:List Str}{caps:List Nat}{elt tg iter:Expr}{ifs:List Expr}{scope:Scope}{pos:Pos}{it:Addr}{fp:List Addr}{tn:Nat->Heap->Prop}{J:It}{g:TG}{tf:TT}{te:TE}{Q:VK}{E:Value->Shared->Prop}{RR:Value->Addr->Result->Shared->Prop}
  (hc:X.calm=true) (S:l4 scope ns) (cp:k0 X scope ns caps)
  (hg:∀C s H fp pn,PG (qO X (own++ns) scope C s H fp pn) tg g) (ht:∀C s H fp pn,PF (qO X (own++ns) scope C s H fp pn) ifs tf) (he:∀C s H fp pn,PE (qO X (own++ns) scope C s H fp pn) elt te)
  (I:bY X pins σ H s) (T:Turn X.prog X.w X.K tg J fp it tn) (st:tn 0 s.heap) (hf:∀b∈fp,l3 X pins H b) (hJ:ju J g tf te Q (g6 own.length caps σ) H)
  (fin:∀D C m s' H' ys,D≠C->s'.heap.Ns C m->l3 X pins (upd H' D (.lst ys)) C->bY X pins σ (upd H' D (.lst ys)) s'->Q (.ref D) (upd H' D (.lst ys))->RR (.ref D) C (.ok .next) s') :
  wpAny (model X.prog X.w) X.A (newList []) (λacc s₃=>wpAny (model X.prog X.w) X.A (newFunctionEnv scope X.env.globals (jz X.env scope.names []) [] X.env.qual none .none (some X.env)) (λcenv s₄=>
   codeAny (model X.prog X.w) X.A (.compStart (.ListComp elt [⟨tg,iter,ifs,0⟩] scope pos) 0 (.ref it) acc { cenv with scope:=relabel scope X.env }) (RR acc cenv.locals) s₄) E s₃) E s:=by
 refine wpAny_newObj_type (wpAny_newFunctionEnv S.nocell (by intro y hy;simp at hy) (λh₁ hns₁ hsb₁=>?_) S.kind);dsimp only at hns₁ hsb₁ ⊢;generalize hH2:s.heap.push { cls:=.type "list",dict:=none,data:=.seq ([]:List Value).toArray }=H2 at hns₁ hsb₁ ⊢;have hC:H2.objs.size=s.heap.objs.size+1:=by rw[<-hH2,ef]
 have hDC:s.heap.objs.size≠H2.objs.size:=by rw[hC];exact aq (Nat.lt_succ_self _)
 have hCle:s.heap.objs.size<=H2.objs.size:=by rw[hC];exact eZ _
 have old:∀b o,s.heap.get? b=some o->h₁.get? b=some o:=λb o e=>hsb₁.extBut b o (by rw[hC];exact aq (fq (aQ e))) (aA _ (hH2▸aA _ e));have hacc:h₁.PlainList s.heap.objs.size #[]:=⟨_,hsb₁.extBut _ _ hDC (aA _ (hH2▸aR _ rfl))⟩
 have hfl:∀b∈fp,b<s.heap.objs.size:=λb hb=>by obtain⟨o,e,_⟩:=T.obj _ _ st b hb;exact aQ e
 generalize hD:s.heap.objs.size=D at hDC hacc ⊢;generalize hCe:H2.objs.size=C at hns₁ hsb₁ hDC hCle hC ⊢;have hDle:s.heap.objs.size<=D:=by rw[hD];exact aE _
 have hCle':s.heap.objs.size<=C:=by rw[hD];rw[hD] at hCle;exact hCle
 have I₁:bY (qO X (own++ns) scope C s H fp (X.pn++pins)) [] (g6 own.length caps σ) H { s with heap:=h₁,toks:=s.toks+([]:List (Str×Value)).length }:=
  uE I S cp hf hfl hCle' rfl rfl old hns₁
 have st₁:tn 0 h₁:=T.keep _ _ _ st λb _ o e=>old b o e;generalize hY:qO X (own++ns) scope C s H fp (X.pn++pins)=Y at I₁;have hgY:PG Y tg g:=hY▸hg C s H fp (X.pn++pins);have htY:PF Y ifs tf:=hY▸ht C s H fp (X.pn++pins);have heY:PE Y elt te:=hY▸he C s H fp (X.pn++pins);have yP:Y.prog=X.prog:=by rw[<-hY];rfl
 have yW:Y.w=X.w:=by rw[<-hY];rfl
 have yK:Y.K=X.K:=by rw[<-hY];rfl
 have yA:Y.A=X.A:=by rw[<-hY];rfl
 have yC:Y.calm=true:=by rw[<-hY];exact hc
 have yE:Y.env=compEnvC scope (jz X.env scope.names []) C X.env:=by rw[<-hY];rfl
 have yX:Y.xe=λ_ _=>False:=by rw[<-hY];rfl
 have yF:Y.fs=t9 X.stack:=by rw[<-hY];rfl
 have yQ:Y.pn=X.pn++pins:=by rw[<-hY];rfl
 have yI:Y.ex=fp:=by rw[<-hY];rfl
 have yS:Y.s₀=s:=by rw[<-hY];rfl
 have yH:Y.H₀=H:=by rw[<-hY];rfl
 have cells:∀x c,Y.env.cells.lookup x=some c->X.env.cells.lookup x=some c:=λx c e=>by
  rw[yE] at e;rcases kX (λy hy hfr=>I.ok.has y.1 (cp.mem (S.frees y hy hfr))) (show (jz X.env scope.names []).lookup x=some c from e) with z | z
  ·simp at z
  ·exact z
 have nst:∀b,b≠X.env.locals->b∉X.fs->b∉Y.fs:=λb h1 h2 z=>by
  rw[yF] at z;exact(aH.mp (I.stkSub b z)).elim h1 h2
 have fpY:∀{H':Hp},(∀b∈fp,H' b=none)->∀b∈fp,l3 Y [] H' b:=fun {H'} hn b hb=>by
  obtain⟨f0,f1,f2,f3,f4,f5⟩:=hf b hb;refine⟨hn b hb,?_,nst b f1 f2,.inl (by rw[yI];exact hb),λx c e=>f4 x c (cells x c e),λp hp=>f5 p (by simpa [yQ] using hp)⟩;rw[yE];exact aq (aU (hfl b hb) hCle')
 have fpD:∀{H':Hp},H' D=none->l3 Y [] H' D:=fun {H'} hn=>by
  obtain⟨f0,f1,f2,f3,f4,f5⟩:=I.fpOk (H':=H') hDle hn;refine⟨hn,by rw[yE];exact hDC,nst D f1 f2,.inr (by rw[yS];exact hDle),λx c e=>f4 x c (cells x c e),λp hp=>f5 p (by simpa [yQ] using hp)⟩
 have hDf:D∉fp:=λz=>c7 _ (aU (hfl D z) hDle);have objD:∀{h:Heap} {us:List Value},h.PlainList D us.toArray->∃o,h.get? D=some o/\∀v,o.data≠.cell v:=fun {h us} ⟨n,e⟩=>⟨_,e,λv z=>by cases z⟩
 have noErr:∀{α:Type} {t:Sem α} {Qt:α->Shared->Prop} {sx:Shared} {E':Value->Shared->Prop},wpAny (model Y.prog Y.w) Y.A t Qt Y.xe sx->wpAny (model X.prog X.w) X.A t Qt E' sx:=fun {α t Qt sx E'} h=>by
  rw[yP,yW,yA,yX] at h;exact K1 h (λ_ _ q=>q) λ_ _ f=>f.elim
 obtain⟨W,⟨m0,w0⟩,turn⟩:=hJ;have TY:Turn Y.prog Y.w Y.K tg J fp it tn:=by rw[yP,yW,yK];exact T
 have loop:∀s₃:Shared,s₃={ s with heap:=h₁,toks:=s.toks+([]:List (Str×Value)).length } →
   codeAny (model X.prog X.w) X.A (.compLoop (.ListComp elt [⟨tg,iter,ifs,0⟩] scope pos) 0 (.ref it) (.ref D) (compEnvC scope (jz X.env scope.names []) C X.env)) (RR (.ref D) C) s₃:=by
  rintro s₃ rfl;refine oN (λn s'=>∃i ys us σ' H',bY Y [] σ' H' s'/\tn i s'.heap/\(∀b∈fp,H' b=none)/\H' D=none/\s'.heap.PlainList D us.toArray/\cE ys us/\W i n ys σ' H') ?_ m0
   ⟨0,[],[],_,H,I₁,st₁,λb hb=>(hf b hb).1,I.hok.fresh hDle,hacc,.nil,w0⟩
  rintro n s3 ⟨i,ys,us,σ3,H3,I3,st3,fr3,hD3,Gn,v3,w3⟩;have fD3:∀b∈[D],l3 Y [] H3 b:=λb hb=>by
   have e:b=D:=by simpa using hb
   subst e;exact fpD hD3
  have I3':bY Y ([]++j4 [D] s3.heap) σ3 H3 s3:=I3.pinned fD3 λb hb=>by
   have e:b=D:=by simpa using hb
   subst e;exact objD Gn
  rw[ax] at I3';have fpY':∀{H':Hp},(∀b∈fp,H' b=none)->∀b∈fp,l3 Y (j4 [D] s3.heap) H' b:=fun {H'} hn b hb=>by
   obtain⟨f0,f1,f2,f3,f4,f5⟩:=fpY hn b hb;refine⟨f0,f1,f2,f3,f4,λp hp=>?_⟩;rcases aL.mp hp with z | z
   ·exact f5 p (by simpa using z)
   ·have e:p.1=D:=by simpa using (ol z).1
    exact λq=>hDf (by rw[<-e,q];exact hb)
  obtain⟨oD,eD,cD⟩:=objD Gn;have keepD:∀{σ':St} {H':Hp} {s':Shared} {pl:List (Addr×Obj)},bY Y (j4 [D] s3.heap++pl) σ' H' s'->s'.heap.PlainList D us.toArray/\H' D=none:=fun {σ' H' s' pl} I'=>by
   have:=I'.pin (D,oD) (af _ (bM _ (iQ (by simp) eD)));refine⟨?_,this.2.1⟩;obtain⟨k,e⟩:=Gn;rw[e] at eD;cases eD;exact⟨k,this.1⟩
  rcases turn i n ys σ3 H3 w3 with ⟨stop,hlen,qn⟩ | ⟨go,hlen,step⟩
  ·refine noErr (dH (TY.done Y rfl rfl rfl yC i _ s3 σ3 H3 Y.xe I3' (fpY' fr3) st3 stop) λr s4 ⟨hr,I4⟩=>?_);subst hr;obtain⟨pl4,hD4⟩:=keepD (pl:=[]) (by rw[b9];exact I4);have hun:Un (t9 X.stack) fp H H3 s.heap s4.heap:=by have:=I4.base;rw[yF,yI,yS,yH] at this;exact this
   have hok:lZ X.prog X.w H3 s4.heap:=by have:=I4.hok;rw[yP,yW] at this;exact this
   obtain⟨m4,hn4,_⟩:=I4.loc;rw[yE] at hn4;have hC4:H3 C=none:=by have:=I4.free;rw[yE] at this;exact this
   have ne:∀b u,H3 b=some u->b≠D:=λb u e z=>by rw[z,hD4] at e;cases e
   refine fin D C m4 s4 H3 ys hDC hn4 (I.fpOk hCle' (by rw[a9 (bg hDC)];exact hC4)) (I.call' (ch:=fp) ?_ ?_ ?_ I4.bare ?_) (qn D hD4)
   ·have:=I4.os;rw[yS] at this;exact this
   ·exact⟨hun.keep,hun.slot,λb o e n hx=>by rw[a9 (λz=>by rw[z] at e;exact absurd (aQ e) (Nat.not_lt.mpr hDle))];exact hun.free b o e n hx,hun.there,
     λb xs e=>by have:=hun.tups b xs e;rw[a9 (ne _ _ this)];exact this,λb o u e=>by have:=hun.frzs b o u e;rw[a9 (ne _ _ this)];exact this,
     λb ps e=>by obtain⟨more,q⟩:=hun.tbls b ps e;exact⟨more,by rw[a9 (ne _ _ q)];exact q⟩⟩
   ·intro b u e;by_cases hb:b=D
    ·subst hb;rw[aO] at e;cases e;obtain⟨k,e4⟩:=pl4;exact⟨hlen,us,k,v3,e4⟩
    ·rw[a9 hb] at e;exact(hok b u e).stay (λc v _ q=>q) (λc q=>by rw[a9 (ne _ _ q)];exact q) λc xs q=>by rw[a9 (ne _ _ q)];exact q
   ·intro b hb;obtain⟨f0,f1,f2,f3,f4,f5⟩:=hf b hb;exact⟨f3,f1,f4,f5⟩
  ·refine noErr (dH (TY.item Y rfl rfl rfl yC i _ s3 σ3 H3 Y.xe I3' (fpY' fr3) st3 go) λr s4 ⟨u,hr,h4⟩=>?_);subst hr;refine noErr (dH h4 λ_ s5 ⟨x,H5,I5,r5,y5,st5,fr5⟩=>?_);have I5':=I5.pinned (fpY' fr5) (T.obj _ _ st5);rw[<-yE];refine noErr (dH (hgY _ s5 σ3 H5 x u _ I5' r5 (step x H5 y5)) λ_ s6 ⟨σ6,H6,I6,q6⟩=>?_);refine noErr (dH (htY _ s6 σ6 H6 _ I6 q6) λok s7 ⟨H7,I7,q7⟩=>?_);have fpK:∀{σ':St} {H':Hp} {s':Shared},bY Y (j4 [D] s3.heap++j4 fp s5.heap) σ' H' s'->tn (i+1) s'.heap/\∀b∈fp,H' b=none:=fun {σ' H' s'} I'=>
    ⟨T.keep _ _ _ st5 λb hb o e=>(I'.pin (b,o) (af _ (af _ (iQ hb e)))).1,λb hb=>by
     obtain⟨o,e,_⟩:=T.obj _ _ st5 b hb;exact(I'.pin (b,o) (af _ (af _ (iQ hb e)))).2.1⟩
   cases ok with
   | false=>
    rw[Kn bD] at q7 ⊢;obtain⟨m',hm,w7⟩:=q7;obtain⟨pl7,hD7⟩:=keepD I7;obtain⟨st7,fr7⟩:=fpK I7;exact⟨m',hm,i+1,ys,us,σ6,H7,I7.pins_of (λp hp=>nomatch hp),st7,fr7,hD7,pl7,v3,w7⟩
   | true=>
    rw[Ko rfl] at q7 ⊢;refine noErr (dH (heY _ s7 σ6 H7 _ I7 q7) λy s8 ⟨yv,H8,I8,r8,m',hm,w8⟩=>?_);obtain⟨pl8,hD8⟩:=keepD I8;obtain⟨st8,fr8⟩:=fpK I8;have hul:us.length=ys.length:=v3.length.symm;refine wpAny_list_append_plain (hsz:=by rw[aP,hul];exact ci hlen) pl8 λh9 pl9 sb9=>?_;obtain⟨d0,d1,d2,d3,d4,d5⟩:=fpD hD8;refine⟨m',hm,i+1,ys++[yv],us++[y],σ6,H8,?_,?_,fr8,hD8,by simpa using pl9,v3.append (.cons r8 .nil),w8⟩
    ·exact(I8.pins_of (pins':=[]) λp hp=>nomatch hp).turned (t':=s8.toks) (λb o hb e=>(sb9.2 b hb).trans e) hD8 d1 d3 d4 d5
    ·exact T.keep _ _ _ st8 λb hb o e=>(sb9.2 b (λz=>hDf (z▸hb))).trans e
 exact codeAny_compStart_list (loop _ rfl) (T.self _ 0 _ _ _ st₁ (loop _ rfl))
def kr(k:Nat)(caps:List Nat)(wi:TI)(g:TG)(tf:TT)(te:TE):TE:=λσ H Q=>wi σ H λJ H1=>ju J g tf te Q (g6 k caps σ) H1
def k0.cl{scope:Scope}{ns:List Str}{caps:List Nat}(I:bY X pins σ H s)(S:l4 scope ns)(cp:k0 X scope ns caps):closureFor scope X.env=pure (jz X.env scope.names []):=
 oO λy hy hfr=>I.ok.has y.1 (cp.mem (S.frees y hy hfr))
def Bh{own ns:List Str}{caps:List Nat}{elt tg iter:Expr}{ifs:List Expr}{scope:Scope}{pos:Pos}{wi:TI}{g:TG}{tf:TT}{te:TE}(hc:X.calm=true)(S:l4 scope ns)(cp:k0 X scope ns caps)(hi:PI X tg iter wi)
  (hg:∀C s H fp pn,PG (qO X (own++ns) scope C s H fp pn) tg g) (ht:∀C s H fp pn,PF (qO X (own++ns) scope C s H fp pn) ifs tf) (he:∀C s H fp pn,PE (qO X (own++ns) scope C s H fp pn) elt te)
  (hs:∀x,foldedSetIterable iter X.env x=pure x:=by intro _;rfl):PE X (.ListComp elt [⟨tg,iter,ifs,0⟩] scope pos) (kr own.length caps wi g tf te):=by
 intro pins s σ H Q I h;rw[eval_ListComp];refine wpAny_comprehension_free (use:=none) rfl hs (cp.cl I S) S.kind S.names (dH (hi pins s σ H _ I h) λv s1 h1=>dH h1 λitv s2 h2=>?_);obtain⟨it,fp,tn,J,H2,e,I2,T,st2,f2,hJ⟩:=h2;subst e;refine sC hc S cp hg ht he I2 T st2 f2 hJ (RR:=λacc C=>compPost (model X.prog X.w) X.A X.xe none (EP X pins σ Q) acc C) λD C m s' H' ys hDC hn fC I' q=>?_;refine⟨m,hn,λh' hs'=>⟨.ref D,_,?_,rfl,q⟩⟩;obtain⟨f0,f1,f2,f3,f4,f5⟩:=fC;exact I'.turned (t':=s'.toks) (λb o hb e=>(hs'.2 b hb).trans e) f0 f1 f3 f4 f5
def B3{i:Nat}{x:Str}{own ns:List Str}{caps:List Nat}{elt tg iter:Expr}{ifs:List Expr}{scope:Scope}{pos pos' spos:Pos}{wi:TI}{g:TG}{tf:TT}{te:TE}(hN:X.N.Nodup)(hi:X.N[i]? = some x)(hx:Loc X.env.scope x)(hc:X.calm=true)(S:l4 scope ns)(cp:k0 X scope ns caps)(hit:PI X tg iter wi)
  (hg:∀C s H fp pn,PG (qO X (own++ns) scope C s H fp pn) tg g) (ht:∀C s H fp pn,PF (qO X (own++ns) scope C s H fp pn) ifs tf) (he:∀C s H fp pn,PE (qO X (own++ns) scope C s H fp pn) elt te)
  (hs:∀x,foldedSetIterable iter X.env x=pure x:=by intro _;rfl) (hsw:swapsWith (.ListComp elt [⟨tg,iter,ifs,0⟩] scope pos) (some (.Name x pos')) spos.line X.env=pure true:=by rfl)
  (hf:X.fn x=true\/X.env.scope.names.lookup x=some .local:=by first | exact .inl rfl | exact .inr rfl | assumption) :
  PS X (.Assign [.Name x pos'] (.ListComp elt [⟨tg,iter,ifs,0⟩] scope pos) spos) (sZ (kr own.length caps wi g tf te) (mZ i)):=by
 intro pins s σ H D I h;rw[exec_Assign_Name_used _ _ _ _ hsw];refine wpAny_bind (wpAny_standAt (wpAny_bind ?_));show wpAny _ X.A (do let _ <-comprehension (.ListComp elt [⟨tg,iter,ifs,0⟩] scope pos) scope X.env _ (newList []) false (eval iter X.env) (some (assign (.Name x pos') X.env))) _ _ s;refine wpAny_bind (K1 (wpAny_comprehension_free (use:=some (assign (.Name x pos') X.env)) (Q:=λ_ s'=>SP X pins D .next s') rfl hs (cp.cl I S) S.kind S.names
  (dH (hit pins s σ H _ I h) λv s1 h1=>dH h1 λitv s2 h2=>?_)) (λ_ s' hq=>K6 (K6 hq)) λ_ _ e=>e)
 obtain⟨it,fp,tn,J,H2,e,I2,T,st2,f2,hJ⟩:=h2;subst e;refine sC hc S cp hg ht he I2 T st2 f2 hJ (RR:=λacc C=>compPost (model X.prog X.w) X.A X.xe (some (assign (.Name x pos') X.env)) (λ_ s'=>SP X pins D .next s') acc C) λL C m s' H' ys hDC hn fC I' q=>?_;show wpAny _ X.A (assign (.Name x pos') X.env (.ref L)) _ _ _;refine wpAny_assign_Name (oZ I' hN hi hx (v:=.ref L) (u:=.ref L) rfl (λs'' I'' ⟨a,sb,ha⟩=>?_) hf);obtain⟨f0,f1,f2,f3,f4,f5⟩:=fC;have hCa:C≠a:=by
  rcases ha with z | z
  ·rw[z];exact f1
  ·exact λy=>f4 _ _ z y.symm
 exact⟨m,hn.sameBut sb hCa,λh' hs'=>⟨_,_,I''.turned (t':=s''.toks) (λb o hb e=>(hs'.2 b hb).trans e) f0 f1 f3 f4 f5,q⟩⟩
def uY{k:Nat}{caps:List Nat}{K:Kw}{tl:TE}{g:TG}{tf:TT}{te:TE}{Q:VK}:kr k caps (vU K tl) g tf te σ H Q=tl σ H λx H1=>∃a,x=.ref a/\(∃xs,cL K H1 a xs)/\ju (C7 K a) g tf te Q (g6 k caps σ) H1:=rfl
def uX{k:Nat}{caps:List Nat}{K:Kw}{tl:TE}{g:TG}{tf:TT}{te:TE}{Q:VK}:kr k caps (CL K tl) g tf te σ H Q=tl σ H λx H1=>∃a,x=.ref a/\(∃xs,dr K H1 a xs)/\ju (Ew K a) g tf te Q (g6 k caps σ) H1:=rfl
def u4{k:Nat}{caps:List Nat}{ta:TA}{g:TG}{tf:TT}{te:TE}{Q:VK}:kr k caps (vT ta) g tf te σ H Q=ta σ H λvs H1=>∃j:Int,vs=[.int j]/\-(2 ^ 62)<=j/\j<2 ^ 62/\ju (Al 0 j.toNat) g tf te Q (g6 k caps σ) H1:=rfl
def uZ{k:Nat}{caps:List Nat}{ta:TA}{g:TG}{tf:TT}{te:TE}{Q:VK}:kr k caps (vS ta) g tf te σ H Q=ta σ H λvs H1=>∃i j:Int,vs=[.int i,.int j]/\(-(2 ^ 62)<=i/\i<2 ^ 62/\-(2 ^ 62)<=j/\j<2 ^ 62)/\ju (Al i (j-i).toNat) g tf te Q (g6 k caps σ) H1:=rfl
def uR{x:Str}{l:List Str}{caps:List Nat}:g6 (x::l).length caps σ=none::g6 l.length caps σ:=rfl
def uP{i:Nat}{is:List Nat}:g6 ([]:List Str).length (i::is) σ=wr σ i::g6 ([]:List Str).length is σ:=rfl
def uQ:g6 ([]:List Str).length [] σ=[]:=rfl
def xc{x:Option V}:wr (x::σ) 0=x:=rfl
def w_getS{x:Option V}{i:Nat}:wr (x::σ) (i+1)=wr σ i:=rfl
def xb{q:Bool->Hp->Prop}:ud σ H q=q true H:=rfl
end
section
variable {K:Kw} {a:Addr} {xs:List V} {g:TG} {tf:TT} {te:TE} {Q:VK} {σ:St} {H:Hp}
def v8{J:It}(n:Nat)(hsz:n<=sizeLine)(Pv:Nat->List V->St->Hp->Prop)(h0:Pv 0 [] σ H)(hlen:∀i ys σ H,Pv i ys σ H->ys.length<=i)(hgo:∀i ys σ H,i<n->Pv i ys σ H->J.go i H)(hstop:∀ys σ H,Pv n ys σ H->J.stop n H)
  (hs:∀i ys σ H x H' (N:List V->St->Hp->Prop),i<n->Pv i ys σ H->J.yld i H x H'->(∀ys σ H,Pv (i+1) ys σ H->N ys σ H)->g x σ H' λσ2 H2=>tf σ2 H2 λb H3=>if b=true then te σ2 H3 λy H4=>N (ys++[y]) σ2 H4 else N ys σ2 H3)
  (hd:∀ys σ H p,Pv n ys σ H->H p=none->Q (.ref p) (upd H p (.lst ys))):ju J g tf te Q σ H:=by
 refine⟨λi m ys σ H=>m=n-i/\i<=n/\Pv i ys σ H,⟨n,by simp,bE _,h0⟩,?_⟩;rintro i m ys σ H ⟨rfl,hi,p⟩;have hy:=hlen i ys σ H p;by_cases hlt:i<n
 ·refine .inr ⟨hgo i ys σ H hlt p,by lia,λx H' y=>?_⟩;exact hs i ys σ H x H' (λys σ H=>∃m',m'<n-i/\m'=n-(i+1)/\i+1<=n/\Pv (i+1) ys σ H) hlt p y λys σ H z=>⟨n-(i+1),by lia,rfl,hlt,z⟩
 ·have e:i=n:=by lia
  subst e;exact .inl ⟨hstop ys σ H p,by lia,λp' hp=>hd ys σ H p' p hp⟩
def iF(Pv:Nat->List V->St->Hp->Prop)(h0:Pv 0 [] σ H)(hl:∀i ys σ H,Pv i ys σ H->cL K H a xs/\ys.length<=i)(hsz:xs.length<=sizeLine)
  (hs:∀i x ys σ H (N:List V->St->Hp->Prop),xs[i]? = some x->Pv i ys σ H->(∀ys σ H,Pv (i+1) ys σ H->N ys σ H)->g x σ H λσ2 H2=>tf σ2 H2 λb H3=>if b=true then te σ2 H3 λy H4=>N (ys++[y]) σ2 H4 else N ys σ2 H3)
  (hd:∀ys σ H p,Pv xs.length ys σ H->H p=none->Q (.ref p) (upd H p (.lst ys))):ju (C7 K a) g tf te Q σ H:=by
 refine v8 xs.length hsz Pv h0 (λi ys σ H p=>(hl i ys σ H p).2) (λi ys σ H hi p=>⟨xs,xs[i],(hl i ys σ H p).1,by simp[hi]⟩) (λys σ H p=>⟨xs,(hl _ ys σ H p).1,aE _⟩) ?_ hd;rintro i ys σ H x H' N hi p ⟨rfl,y⟩ hN;exact hs i x ys σ H' N (y xs (hl i ys σ _ p).1) p hN
end
def fx{c:Prop} [Decidable c] {A B:Prop} (h:¬c) (b:B):if c then A else B:=by rw[Kn h];exact b
def kj{c:Prop} [Decidable c] {A B:Prop} (h:c) (a:A):if c then A else B:=by rw[Ko h];exact a
section
variable {X:Cx} {K:Kw}
def rX(h:X.K=K):FH X (BU K):=h▸cI
def Bd{es:List Expr}{k:Nat}{t:ve}{n:Nat}{pos:Pos}(hK:X.K=K)(hc:X.calm=true)(h:FG X es t)
  (hn:(assignEach es X.env).length=n:=by rfl) (hst:(assignEach es X.env).findIdx? (·.1)=none:=by rfl):PG X (.Tuple es k pos) (AZ K n t):=hK▸zR hc h hn hst
end
def uI (o:Obj) (xs:List Str):Prop:=o.cls=.type "tuple"/\∃its n,o.data=.seq its n/\its.size<=sizeLine/\cE (xs.map V.str) its.toList
def vm {o:Obj} {xs:List Str} {its:Array Value} {n:Nat} (h1:o.cls=.type "tuple") (h2:o.data=.seq its n) (h3:its.size<=sizeLine) (h4:cE (xs.map V.str) its.toList):uI o xs:=⟨h1,its,n,h2,h3,h4⟩
def AY{K:Kw}{h:Heap}{mg:Str->Option Value}{x:Str}{a:Addr}{o:Obj}{xs:List Str}(X:K.In h)(G:h.Ns mainGlobals mg)(y:PySem.W.nsIn K mainGlobals x=some (some (.ref a)))(l:K.lookup a=some o)(t:uI o xs):
  ∃a,mg x=some (.ref a)/\∀H,dr K H a (xs.map V.str):=by
 obtain⟨h1,its,n,h2,h3,h4⟩:=t;exact⟨a,dJ X G y,λH=>.inr ⟨o,its,n,l,h1,h2,h3,h4⟩⟩
def sV(K:Kw)(xs:List V):TE:=λ_ H Q=>∀a,(∀H,dr K H a xs)->Q (.ref a) H
def zV {X:Cx} {x:Str} {K:Kw} {xs:List V} {pos:Pos} (hg:Gl X x) (hm:∃a,X.mg x=some (.ref a)/\∀H,dr K H a xs) (hd:(x==("__debug__":Str))=false:=by decide):PE X (.Name x pos) (sV K xs):=by
 obtain⟨a,h1,h2⟩:=hm;intro pins s σ H Q I h;exact qB (v:=.ref a) hg h1 rfl hd pins s σ H Q I (h a h2)
def BB{K:Kw}{xs:List V}{σ:St}{H:Hp}{Q:VK}:sV K xs σ H Q=∀a,(∀H,dr K H a xs)->Q (.ref a) H:=rfl
def D6(t u:TS):TS:=λD σ H=>∃J:St->Hp->Prop,t { D with nx:=J } σ H/\∀σ' H',J σ' H'->u D σ' H'
def B2{X:Cx}{st:Stmt}{rest:List Stmt}{t u:TS}(h1:PS X st t)(h2:sL X rest u):sL X (st::rest) (D6 t u):=by
 intro pins s σ H D I h;obtain⟨J,h,hJ⟩:=h;refine wpAny_execs_cons (dH (h1 pins s σ H { D with nx:=J } I h) λf s1 q=>?_);cases f with
 | next=>
  obtain⟨σ',H',I',q⟩:=q;exact h2 pins s1 σ' H' D I' (hJ _ _ q)
 | ret v=>exact q
 | brk=>exact q
 | cont=>exact q
section
variable {X:Cx} {es:List Expr} {te:TE} {t:TA}
def zc{a0:PySem.Expr}{a1:PySem.Operator}{a2:PySem.Expr}{a3:PySem.Pos}(ha:PE X (Expr.BinOp a0 a1 a2 a3) te)(hr:PA X es t):PA X ((Expr.BinOp a0 a1 a2 a3)::es) (dh te t):=fO ha hr rfl
def tL{a0:PySem.UnaryOp}{a1:PySem.Expr}{a2:PySem.Pos}(ha:PE X (Expr.UnaryOp a0 a1 a2) te)(hr:PA X es t):PA X ((Expr.UnaryOp a0 a1 a2)::es) (dh te t):=fO ha hr rfl
def rE{a0:PySem.Expr}{a1:List Comprehension}{a2:PySem.Scope}{a3:PySem.Pos}(ha:PE X (Expr.ListComp a0 a1 a2 a3) te)(hr:PA X es t):PA X ((Expr.ListComp a0 a1 a2 a3)::es) (dh te t):=fO ha hr rfl
def tM{a0:PySem.Expr}{a1:List CmpOp}{a2:List Expr}{a3:PySem.Pos}(ha:PE X (Expr.Compare a0 a1 a2 a3) te)(hr:PA X es t):PA X ((Expr.Compare a0 a1 a2 a3)::es) (dh te t):=fO ha hr rfl
def Bo{a0:PySem.Expr}{a1:List Expr}{a2:List Keyword}{a3:PySem.Pos}(ha:PE X (Expr.Call a0 a1 a2 a3) te)(hr:PA X es t):PA X ((Expr.Call a0 a1 a2 a3)::es) (dh te t):=fO ha hr rfl
def rF{a0:PySem.Const}{a1:Nat}{a2:PySem.Pos}(ha:PE X (Expr.Constant a0 a1 a2) te)(hr:PA X es t):PA X ((Expr.Constant a0 a1 a2)::es) (dh te t):=fO ha hr rfl
def qC{a0:PySem.Expr}{a1:PySem.Expr}{a2:PySem.Pos}(ha:PE X (Expr.Subscript a0 a1 a2) te)(hr:PA X es t):PA X ((Expr.Subscript a0 a1 a2)::es) (dh te t):=fO ha hr rfl
def Bl{a0:PySem.Str}{a1:PySem.Pos}(ha:PE X (Expr.Name a0 a1) te)(hr:PA X es t):PA X ((Expr.Name a0 a1)::es) (dh te t):=fO ha hr rfl
def Bm{a0:List Expr}{a1:PySem.Pos}(ha:PE X (Expr.List a0 a1) te)(hr:PA X es t):PA X ((Expr.List a0 a1)::es) (dh te t):=fO ha hr rfl
def zb{a0:List Expr}{a1:Nat}{a2:PySem.Pos}(ha:PE X (Expr.Tuple a0 a1 a2) te)(hr:PA X es t):PA X ((Expr.Tuple a0 a1 a2)::es) (dh te t):=fO ha hr rfl
def Bn{a0:List (Option Expr)}{a1:List Expr}{a2:PySem.Pos}(ha:PE X (Expr.Dict a0 a1 a2) te)(hr:PA X es t):PA X ((Expr.Dict a0 a1 a2)::es) (dh te t):=fO ha hr rfl
end
def xg{to ti:TE}{t:Ah}{v:V}{σ:St}{H:Hp}{q:St->Hp->Prop}:Eg to ti t v σ H q=to σ H λo H1=>ti σ H1 λi H2=>t o i v H2 λH3=>q σ H3:=rfl
def cT{t u:TS}{D:Ends}{σ:St}{H:Hp}(J:St->Hp->Prop)(h1:t { nx:=J,rt:=D.rt,bk:=D.bk,ct:=D.ct } σ H)(h2:∀σ' H',J σ' H'->u D σ' H'):D6 t u D σ H:=⟨J,h1,h2⟩
end L2
namespace Rm
def dl(b:Bool):Int:=if b then 1 else -1
def D(bs:List Bool)(i:Nat):Int:=((bs.take i).map dl).sum
structure G6 (bs:List Bool) (k m:Nat):Prop where
 lt:k<m
 ml:m<bs.length
 op:bs[k]? = some true
 cl:bs[m]? = some false
 eq:D bs (m+1)=D bs k
 gt:∀ i,k<i->i<=m->D bs k<D bs i
end Rm
namespace L2
open PySem PySem.Spec PyProof.Rows
def As.okS{P:Program}{w:World}{K:Kw}{mg:Str->Option Value}{base:Heap}{x qual:Str}{st:Stmt}{f:Addr}{fd:FuncData}{N ps:List Str}{k:Nat}{sp:Sp}(F:As K x qual st f fd)(S:bn N ps (ay st))(len:∀vs H Q E,sp vs H Q E->vs.length=ps.length)
  (hbody:∀(cdv:Value) (A:Around) (outer:List Env) (s:Shared) (H:Hp) (vs:List V) (Q:VK) (E:XK),i4 k (A.deeper (envOfC qual (ay st) s.heap.objs.size f cdv))->sp vs H Q E →
   ∃(σ:St) (t:TS),start N vs=σ/\sL (rq Au P w K mg base N qual (ay st) f cdv A outer s H E).nox (gR st) t/\t { nx:=λ_ H'=>Q .non H',rt:=Q } σ H):nu P w K mg base Au (k+1) f fd ps sp:=
 F.ok S len λcdv A outer s H vs Q E hr h=>by
  obtain⟨σ,t,e,h1,h2⟩:=hbody cdv A outer s H vs Q E hr h;exact⟨t,h1,by rw[e];exact h2⟩
def oy{A:Around}{k:Nat}(hr:i4 k A):A.units+64<cLine:=hr.units
end L2
namespace Rm
open PySem L2
def Hx(b:Bool):Nat:=if b then 40 else 41
def wd(bs:List Bool):Str:=⟨(bs.map Hx).toArray⟩
abbrev Bw:=Int×Int
def Cp(H:Hp)(a:Addr)(p:Bw):Prop:=H a=some (.tup [.int p.1,.int p.2])
def An(H:Hp)(l:Addr)(ps:List Bw):Prop:=∃as:List Addr,H l=some (.lst (as.map V.ref))/\Paired (Cp H) as ps
def xI{H:Hp}{l t:Addr}{as:List Addr}{ps:List Bw}{x y:Int}(h1:H l=some (.lst (as.map V.ref)))(h2:Paired (Cp H) as ps)(ht:H t=none):
  An (upd (upd H t (.tup [.int x,.int y])) l (.lst (as.map V.ref++[V.ref t]))) l (ps++[(x,y)]):=by
 have ntl:t≠l:=λe=>by subst e;rw[h1] at ht;cases ht
 refine⟨as++[t],by rw[aO,aN];rfl,ib (j5 h2 λa p z=>?_) ?_⟩
 ·have z':H a=some (.tup [.int p.1,.int p.2]):=z;have n1:a≠l:=zw z' h1 (by intro q;cases q);have n2:a≠t:=bF z' ht;show upd _ _ _ a=_;rw[a9 n1,a9 n2];exact z'
 ·show upd _ _ _ t=_;rw[a9 ntl,aO]
def lS(p q:Bw):Bool:=decide (p.1<q.1)&&(decide (q.1<p.2)&&decide (p.2<q.2))
def jx(ws:List Nat):List V:=ws.map λ(n:Nat)=>V.int (n:Int)
def rR(ws:List Nat):(jx ws).length=ws.length:=by simp[jx]
def mO(ws:List Nat)(k:Nat):jx (ws++[k])=jx ws++[.int k]:=by simp[jx]
def w5(ws:List Nat)(k:Nat):(jx (ws++[k])).dropLast=jx ws:=by rw[mO];simp
def w4(ws:List Nat)(k:Nat):(jx (ws++[k]))[(jx (ws++[k])).length - 1]? = some (.int k):=by rw[mO];simp
def pW (K:Kw):Sp:=λvs H Q _=>∃(x:V) (t:Value) (b c:Bool),vs=[x]/\lX K H x t/\PySem.W.kitOne K t (.type "int")=some b/\PySem.W.kitOne K t (.type "bool")=some c/\Q (.bl (b&&!c)) H
def qm(K:Kw):Sp:=λvs H Q _=>∃(a:Addr) (ns:List Int),vs=[.ref a]/\cL K H a (ns.map V.int)/\ns.length<=63/\∀H',Q (.bl true) H'
end Rm
namespace Rm
open PySem PySem.W PyProof.Rows
section
variable {r:Nat->Int} {N:Nat} {cmp:Nat->Nat->(Bool->Shared->Prop)->Shared->Prop} {s:Shared}
def Told(r:Nat->Int)(N:Nat)(cmp:Nat->Nat->(Bool->Shared->Prop)->Shared->Prop)(s:Shared):Prop:=
 ∀i j,i<N->j<N->∀C:Bool->Shared->Prop,C (decide (r i<r j)) s->cmp i j C s
def In(N:Nat)(p:Array Nat):Prop:=p.size=N/\∀i,p.getD i 0<N
def Kk(r:Nat->Int)(p:Array Nat)(i:Nat):Int:=r (p.getD i 0)
def sN(r:Nat->Int)(p:Array Nat)(k:Nat):Prop:=∀i j,i<=j->j<k->Kk r p i<=Kk r p j
def DF(r:Nat->Int)(p:Array Nat)(k:Nat):Prop:=∀i j,i<=j->j<k->Kk r p j<=Kk r p i
def kY{p q:Array Nat}{i j:Nat}(h:p[i]? = q[j]?):Kk r p i=Kk r q j:=by
 unfold Kk;rw[bo,bo,h]
def qU{p:Array Nat}{i j:Nat}(hj:j<=p.size)(k:Nat):Kk r (kas_rev p i j) k=if i<=k/\k<j then Kk r p (i+j - 1-k) else Kk r p k:=by
 have e:=getElem?_mirror_all (i:=i) hj k;unfold kas_rev;by_cases h1:i<=k/\k<j
 ·rw[Ko h1] at e ⊢;exact kY e
 ·rw[Kn h1] at e ⊢;exact kY e
def pM{p:Array Nat}{src d:Nat}(hs:src<p.size)(hd:d<=src)(k:Nat):Kk r (bubble p src d) k=if k=src-d then Kk r p src else if src-d<k/\k<=src then Kk r p (k - 1) else Kk r p k:=by
 have e:=getElem?_bubble hs d hd k;by_cases h1:k=src-d
 ·rw[Ko h1] at e ⊢;exact kY e
 ·rw[Kn h1] at e ⊢;by_cases h2:src-d<k/\k<=src
  ·rw[Ko h2] at e ⊢;exact kY e
  ·rw[Kn h2] at e ⊢;exact kY e
def In.of_perm{p q:Array Nat}(h:In N p)(hp:q.Perm p):In N q:=by
 refine⟨hp.size_eq.trans h.1,λi=>?_⟩;rw[bo];cases e:q[i]? with
 | none=>
  have:=h.2 N;rw[bo,jm (mG h.1)] at this;exact this
 | some x=>
  have hx:x∈q:=kJ e;have hx':x∈p:=hp.mem_iff.mp hx;obtain⟨j,hj,rfl⟩:=Array.mem_iff_getElem.mp hx';have:=h.2 j;rw[bo,d8 hj] at this;exact this
def In.rev{p:Array Nat}(h:In N p)(i j:Nat):In N (kas_rev p i j):=h.of_perm (Kg _ _ _ _)
def nh(T:Told r N cmp s){G:Nat->Shared->Prop}{p:Array Nat}(hp:In N p):∀(f n:Nat),1<=n->sN r p n->(∀m,n<=m->m<=n+f->sN r p m->(m<n+f->Kk r p m<Kk r p (m - 1))->G m s)->(kas_asc p f n).kasWp cmp G s
 | 0,n,_,ha,hG=>hG n (aE _) (aE _) ha (λh=>absurd h (by lia))
 | f+1,n,h1,ha,hG=>by
  refine T _ _ (hp.2 _) (hp.2 _) _ ?_;by_cases c:Kk r p n<Kk r p (n - 1)
  ·have c':r (p.getD n 0)<r (p.getD (n - 1) 0):=c;rw[Ks c'];exact hG n (aE _) (by lia) ha λ_=>c
  ·have c':¬r (p.getD n 0)<r (p.getD (n - 1) 0):=c;rw[Kr c'];refine nh T hp f (n+1) (by lia) (λi j hij hj=>?_) λm a b c2 d=>hG m (by lia) (by lia) c2 λe=>d (by lia);by_cases e:j=n
   ·subst e;by_cases e2:i=j
    ·subst e2;exact dM _
    ·have:=ha i (j - 1) (by lia) (by lia);lia
   ·exact ha i j hij (by lia)
def En(r:Nat->Int)(p:Array Nat)(n q:Nat):Prop:=q<n/\∀k,n-(q+1)<=k->k<n->Kk r p k=Kk r p (n - 1)
def qz{p:Array Nat}{n q:Nat}(hn:n<=p.size)(h:En r p n q)(k:Nat):Kk r (kas_rev p (n-(q+1)) n) k=Kk r p k:=by
 rw[qU hn]
 split
 ·rw[h.2 _ (by have:=h.1;lia) (by lia),h.2 k (by lia) (by lia)]
 ·rfl
def DF.same{p p':Array Nat}{n:Nat}(h:DF r p n)(e:∀k,Kk r p' k=Kk r p k):DF r p' n:=λi j a b=>by rw[e,e];exact h i j a b
def mR(T:Told r N cmp s){G:Array Nat×Nat×Nat->Shared->Prop}:∀(f:Nat) (p:Array Nat) (n q:Nat),In N p->n+f<=N->DF r p n->En r p n q →
  (∀p' n' q',p'.Perm p->n<=n'->n'<=n+f->DF r p' n'->En r p' n' q'->G (p',n',q') s)->(kas_desc f p n q).kasWp cmp G s
 | 0,p,n,q,_,_,hd,ht,hG=>hG p n q (.refl _) (aE _) (aE _) hd ht
 | f+1,p,n,q,hp,hN,hd,ht,hG=>by
  refine T _ _ (hp.2 _) (hp.2 _) _ ?_;by_cases c:Kk r p n<Kk r p (n - 1)
  ·have c':r (p.getD n 0)<r (p.getD (n - 1) 0):=c;rw[Ks c'];have hq:=ht.1;have grow:∀p':Array Nat,p'.Perm p->(∀k,Kk r p' k=Kk r p k)->(kas_desc f p' (n+1) 0).kasWp cmp G s:=λp' hpp e=>by
    refine mR T f p' (n+1) 0 (hp.of_perm hpp) (by lia) (λi j hij hj=>?_) ⟨by lia,λk h1 h2=>by have e9:k=n:=(by lia);rw[e9];rfl⟩ λp2 n2 q2 a b c2 d e2=>hG p2 n2 q2 (a.trans hpp) (by lia) (by lia) d e2;rw[e,e];by_cases e3:j=n
    ·subst e3;by_cases e4:i=j
     ·subst e4;exact dM _
     ·have:=hd i (j - 1) (by lia) (by lia);lia
    ·exact hd i j hij (by lia)
   show KasT.kasWp cmp (if true=true then (if q > 0 then kas_desc f (kas_rev p (n-(q+1)) n) (n+1) 0 else kas_desc f p (n+1) 0) else _) G s;rw[Ko rfl]
   split
   ·exact grow _ (Kg _ _ _ _) (qz (by rw[hp.1];lia) ht)
   ·exact grow p (.refl _) λ_=>rfl
  ·have c':¬r (p.getD n 0)<r (p.getD (n - 1) 0):=c;rw[Kr c'];show KasT.kasWp cmp (if false=true then _ else KasT.ask (p.getD (n - 1) 0) (p.getD n 0) λd=>if d=true then .ret (p,n,q) else kas_desc f p (n+1) (q+1)) G s;rw[Kn (by simp)];refine T _ _ (hp.2 _) (hp.2 _) _ ?_;by_cases d:Kk r p (n - 1)<Kk r p n
   ·have d':r (p.getD (n - 1) 0)<r (p.getD n 0):=d;rw[Ks d'];exact hG p n q (.refl _) (aE _) (by lia) hd ht
   ·have d':¬r (p.getD (n - 1) 0)<r (p.getD n 0):=d;rw[Kr d'];have hq:=ht.1;have eq:Kk r p n=Kk r p (n - 1):=by lia
    refine mR T f p (n+1) (q+1) hp (by lia) (λi j hij hj=>?_) ⟨by lia,λk h1 h2=>?_⟩ λp2 n2 q2 a b c2 d2 e2=>hG p2 n2 q2 a (by lia) (by lia) d2 e2
    ·by_cases e3:j=n
     ·subst e3;by_cases e4:i=j
      ·subst e4;exact dM _
      ·have:=hd i (j - 1) (by lia) (by lia);lia
     ·exact hd i j hij (by lia)
    ·show Kk r p k=Kk r p n;by_cases e3:k=n
     ·rw[e3]
     ·rw[eq];exact ht.2 k (by lia) (by lia)
def FJ(r:Nat->Int)(p:Array Nat)(nrem:Nat)(G:Nat×Array Nat->Shared->Prop)(s:Shared):Prop:=∀n p',p'.Perm p->1<=n->n<=nrem->sN r p' n->G (n,p') s
def mt(T:Told r N cmp s){G:Nat×Array Nat->Shared->Prop}{p:Array Nat}{n:Nat}(hp:In N p)(h1:1<=n)(hn:n<=N)(hd:DF r p n)(hG:FJ r p N G s):(kas_tail3 n N p).kasWp cmp G s:=by
 unfold kas_tail3;rw[KasT.kasWp_bind];refine nh T (hp.rev 0 n) (N-n) n h1 (λi j hij hj=>?_) λm a b c _=>hG m _ (Kg _ _ _ _) (by lia) (by lia) c;rw[qU (by rw[hp.1];exact hn),qU (by rw[hp.1];exact hn),Ko (by lia),Ko (by lia)];exact hd _ _ (by lia) (by lia)
def FJ.perm{p q:Array Nat}{G:Nat×Array Nat->Shared->Prop}(h:FJ r p N G s)(hp:q.Perm p):FJ r q N G s:=λn p' a b c d=>h n p' (a.trans hp) b c d
def lG(T:Told r N cmp s){G:Nat×Array Nat->Shared->Prop}{p:Array Nat}{n:Nat}(hp:In N p)(hn:n+1<=N)(h1:1<=n)(hd:DF r p (n+1))(hG:FJ r p N G s):(kas_descPart n N p).kasWp cmp G s:=by
 unfold kas_descPart;rw[KasT.kasWp_bind];refine mR T _ p (n+1) 0 hp (by lia) hd ⟨by lia,λk a b=>by have e9:k=n:=(by lia);rw[e9];rfl⟩ λp' n' q' a b c d e=>?_;dsimp only;have hp':=hp.of_perm a
 split
 ·exact mt T (hp'.rev _ _) (by lia) (by lia) (d.same (qz (by rw[hp'.1];lia) e)) (hG.perm ((Kg _ _ _ _).trans a))
 ·exact mt T hp' (by lia) (by lia) d (hG.perm a)
def uD(T:Told r N cmp s){G:Nat×Array Nat->Shared->Prop}{p:Array Nat}(hp:In N p)(hN:1<=N)(hG:FJ r p N G s):(kas_count N p).kasWp cmp G s:=by
 unfold kas_count;rw[KasT.kasWp_bind];refine nh T hp (N - 1) 1 (aE _) (λi j a b=>by have e9:i=j:=(by lia);rw[e9];exact dM _) λn h1 h2 ha hb=>?_;by_cases e:n=N
 ·subst e;rw[Ko (by simp)];exact hG n p (.refl _) h1 (aE _) ha
 ·rw[Kn (by simp[e])];have hlt:=hb (by lia)
  split
  ·refine T _ _ (hp.2 _) (hp.2 _) _ ?_;by_cases c:Kk r p 0<Kk r p (n - 1)
   ·have c':r (p.getD 0 0)<r (p.getD (n - 1) 0):=c;rw[Ks c'];exact hG n p (.refl _) h1 (by lia) ha
   ·have c':¬r (p.getD 0 0)<r (p.getD (n - 1) 0):=c;rw[Kr c'];have alike:∀k,k<n->Kk r p k=Kk r p (n - 1):=λk hk=>by
     have a1:=ha 0 k (by lia) hk;have a2:=ha k (n - 1) (by lia) (by lia);lia
    have same:∀k,Kk r (kas_rev p 0 n) k=Kk r p k:=λk=>by
     rw[qU (by rw[hp.1];lia)]
     split
     ·rw[alike _ (by lia),alike k (by lia)]
     ·rfl
    refine lG T (hp.rev 0 n) (by lia) h1 (DF.same (p:=p) (λi j hij hj=>?_) same) (hG.perm (Kg _ _ _ _));by_cases e3:j=n
    ·subst e3;by_cases e4:i=j
     ·subst e4;exact dM _
     ·rw[alike i (by lia)];lia
    ·rw[alike i (by lia),alike j (by lia)];exact dM _
  ·have:n=1:=by lia
   subst this;refine lG T hp (by lia) (aE _) (λi j hij hj=>?_) hG;have hj':j=0\/j=1:=by lia
   have hi':i=0\/i=1:=by lia
   rcases hj' with rfl | rfl<;>rcases hi' with rfl | rfl
   ·exact dM _
   ·lia
   ·have:Kk r p 1<Kk r p 0:=hlt;lia
   ·exact dM _
def place_spec(T:Told r N cmp s){G:Nat->Shared->Prop}{p:Array Nat}{k:Nat}(hp:In N p)(hs:sN r p k):∀(f l e:Nat),e<=k->e<=l+f->l<=e->(∀i,i<l->Kk r p i<=Kk r p k)->(∀i,e<=i->i<k->Kk r p k<Kk r p i) →
  (∀l,l<=k->(∀i,i<l->Kk r p i<=Kk r p k)->(∀i,l<=i->i<k->Kk r p k<Kk r p i)->G l s)->(kas_place p k f l e).kasWp cmp G s
 | 0,l,e,h1,h2,h3,h4,h5,hG=>by
  have:l=e:=by lia
  subst this;exact hG l h1 h4 h5
 | f+1,l,e,h1,h2,h3,h4,h5,hG=>by
  unfold kas_place
  split
  ·have:l=e:=by lia
   subst this;exact hG l h1 h4 h5
  ·refine T _ _ (hp.2 _) (hp.2 _) _ ?_;by_cases c:Kk r p k<Kk r p ((l+e) / 2)
   ·have c':r (p.getD k 0)<r (p.getD ((l+e) / 2) 0):=c;rw[Ks c'];refine place_spec T hp hs f l ((l+e) / 2) (by lia) (by lia) (by lia) h4 (λi a b=>?_) hG;have:=hs ((l+e) / 2) i a b;lia
   ·have c':¬r (p.getD k 0)<r (p.getD ((l+e) / 2) 0):=c;rw[Kr c'];refine place_spec T hp hs f ((l+e) / 2+1) e h1 (by lia) (by lia) (λi a=>?_) h5 hG;have:=hs i ((l+e) / 2) (by lia) (by lia);lia
def uH{p:Array Nat}{k l:Nat}(hk:k<p.size)(hs:sN r p k)(hl:l<=k)(h1:∀i,i<l->Kk r p i<=Kk r p k)(h2:∀i,l<=i->i<k->Kk r p k<Kk r p i):sN r (bubble p k (k-l)) (k+1):=λi j hij hj=>by
 rw[pM hk (by lia),pM hk (by lia)];have e:k-(k-l)=l:=by lia
 rw[e];by_cases i1:i=l
 ·rw[Ko i1];by_cases j1:j=l
  ·rw[Ko j1];exact dM _
  ·rw[Kn j1,Ko (by lia)];have:=h2 (j - 1) (by lia) (by lia);lia
 ·rw[Kn i1];by_cases i2:l<i/\i<=k
  ·rw[Ko i2,Kn (by lia),Ko (by lia)];exact hs _ _ (by lia) (by lia)
  ·rw[Kn i2];by_cases j1:j=l
   ·rw[Ko j1];exact h1 i (by lia)
   ·rw[Kn j1];by_cases j2:l<j/\j<=k
    ·rw[Ko j2];exact hs _ _ (by lia) (by lia)
    ·rw[Kn j2];exact hs _ _ (by lia) (by lia)
def sI(T:Told r N cmp s){G:Array Nat->Shared->Prop}:∀(f:Nat) (p:Array Nat) (k:Nat),In N p->k+f=N->sN r p k->(∀p',p'.Perm p->sN r p' N->G p' s)->(kas_bin f p k).kasWp cmp G s
 | 0,p,k,hp,hk,hs,hG=>hG p (.refl _) (by have e9:k=N:=(by lia);rw[<-e9];exact hs)
 | f+1,p,k,hp,hk,hs,hG=>by
  unfold kas_bin;rw[KasT.kasWp_bind];refine place_spec T hp hs k 0 k (aE _) (by lia) (by lia) (λi h=>absurd h (by lia)) (λi h h'=>absurd h' (by lia)) λl h1 h2 h3=>?_;refine sI T f _ (k+1) (hp.of_perm (bubble_perm _ _ _)) (by lia) (uH (by rw[hp.1];lia) hs h1 h2 h3) λp' a b=>hG p' (a.trans (bubble_perm _ _ _)) b
def vq(T:Told r N cmp s){G:Array Nat->Shared->Prop}(hN:1<=N)(hG:∀p:Array Nat,p.Perm (List.toArray (List.range N))->sN r p N->G p s):(kas_sort N).kasWp cmp G s:=by
 have h0:In N (List.toArray (List.range N)):=⟨by simp,λi=>by
  rw[bo];cases e:(List.toArray (List.range N))[i]? with
  | none=>exact hN
  | some x=>
   have:=kJ e;simpa using this⟩
 unfold kas_sort;rw[KasT.kasWp_bind];refine uD T h0 hN λn p a b c d=>?_;dsimp only;have hp:=h0.of_perm a
 split
 ·have e:max n 1=n:=by lia
  rw[e];exact sI T _ p n hp (by lia) d λp' x y=>hG p' (x.trans a) y
 ·have:n=N:=by lia
  subst this;exact hG p a d
end
section
variable {prog:Program} {w:World} {A:Around} {E:Value->Shared->Prop} {s:Shared}
def jo(vs:List Value)(p:Array Nat):Array Value:=List.toArray (p.toList.map λi=>vs.getD i Value.none)
def vv:∀vs:List Value,vs.length<2->(vs.toArray.zip vs.toArray).map (·.2)=jo vs (List.toArray (List.range vs.length))
 | [],_=>by simp[jo]
 | [v],_=>by simp[jo]
 | _::_::_,h=>by simp at h;lia
def Kp(a:Addr)(h h':Heap):Prop:=∀b o,b≠a->h.get? b=some o->h'.get? b=some o
def nM {a:Addr} {vs:List Value} {n:Nat} {P:PySem.Fin->Shared->Prop} {r:Nat->Int} (κ:SortKind) (ho:s.heap.get? a=some (seqObj "list" vs.toArray n)) (h64:vs.length<64)
  (hk:2<=vs.length->∀(h':Heap) (Q:SortKind->Shared->Prop),Kp a s.heap h'->Q κ { s with heap:=h' }->wpAny (model prog w) A (keyKind' vs.toArray) Q E { s with heap:=h' })
  (hc:∀i j,i<vs.length->j<vs.length->∀(h':Heap) (C:Bool->Shared->Prop),Kp a s.heap h'->C (decide (r i<r j)) { s with heap:=h' }->wpAny (model prog w) A (keyLt' κ (vs.getD i Value.none) (vs.getD j Value.none)) C (λ_ _=>False) { s with heap:=h' })
  (h:∀p:Array Nat,p.Perm (List.toArray (List.range vs.length))->sN r p vs.length->P (.done (.ret .none)) { s with heap:=sortedHeap s.heap a vs (jo vs p) }) :
  wpAny (model prog w) A (Builtin.«list.sort» ⟨[.ref a],[]⟩) P E s:=by
 rw[list_sort_plain];have ha:a<s.heap.objs.size:=aQ ho;refine wpAny_bind (listItems_at ho rfl ?_);refine wpAny_bind (listUpdate_at ho rfl ?_);obtain⟨e1,ho1⟩:∃e1,(s.heap.update a (Obj.mapSeq λ_=>#[])).get? a=some (seqObj "list" #[] e1):=⟨_,get?_update_seq ho (λ_=>#[])⟩
 refine wpAny_bind (seqEpoch_at ho1 rfl ?_);refine wpAny_bind (wpAny_newTuple ?_);refine wpAny_bind (wpAny_newList ?_);refine K4 ?_;have ho6:(((s.heap.update a (Obj.mapSeq λ_=>#[])).push (seqObj "tuple" vs.toArray 0)).push (seqObj "list" #[] 0)).get? a=some (seqObj "list" #[] e1):=by
  rw[fw _ _ _ (by rw[size_push',jW];exact aq (fq ha)),fw _ _ _ (by rw[jW];exact aq ha)];exact ho1
 have kp6:Kp a s.heap (((s.heap.update a (Obj.mapSeq λ_=>#[])).push (seqObj "tuple" vs.toArray 0)).push (seqObj "list" #[] 0)):=λb o hb e=>
  aA _ (aA _ (by rw[Heap.get?_update_ne _ _ _ _ hb];exact e))
 show wpAny (model prog w) A _ P E { s with heap:=((s.heap.update a (Obj.mapSeq λ_=>#[])).push (seqObj "tuple" vs.toArray 0)).push (seqObj "list" #[] 0) };dsimp only;have hsz:vs.toArray.size=vs.length:=by simp
 by_cases h2:vs.toArray.size<2
 ·rw[Ko h2,Ko h2];refine wpAny_bind (K6 ?_);rw[StateT.run_pure];refine wpAny_bind (K6 ?_);dsimp only;refine wpAny_bind (seqEpoch_at ho6 rfl ?_);refine wpAny_bind (listUpdate_at ho6 rfl ?_ (hsz2:=by rw[Array.size_map];show (pairsOf vs).size<=_;rw[pairsOf_size,Ka];lia));simp only[bne_self_eq_false,cn,Kv];have e:(arrOf (SortSt.mk' general' (vs.toArray.zip vs.toArray) #[] 7 none)).map (·.2)=jo vs (List.toArray (List.range vs.length)):=by
   exact vv vs (by lia)
  rw[e];refine K6 (h (List.toArray (List.range vs.length)) (Array.Perm.refl _) ?_);intro i j hij hj;have e9:i=j:=by lia
  rw[e9];exact dM _
 ·rw[Kn h2,Kn h2];refine wpAny_bind (hk (by lia) _ _ kp6 ?_);have T:Told r vs.length (kas_ask prog w A κ vs) { s with heap:=((s.heap.update a (Obj.mapSeq λ_=>#[])).push (seqObj "tuple" vs.toArray 0)).push (seqObj "list" #[] 0) }:=λi j hi hj C hC=>hc i j hi hj _ C kp6 hC;refine wpAny_bind (K1 (kat_run (ks:=vs) (vs:=vs) (Q:=λst' s'=>s'={ s with heap:=((s.heap.update a (Obj.mapSeq λ_=>#[])).push (seqObj "tuple" vs.toArray 0)).push (seqObj "list" #[] 0) }/\∃p:Array Nat,p.size=vs.length/\arrOf st'=p.map (kas_item (vs.toArray.zip vs.toArray))/\failedOf st'=none/\p.Perm (List.toArray (List.range vs.length))/\sN r p vs.length)
   (G:=λp s'=>s'={ s with heap:=((s.heap.update a (Obj.mapSeq λ_=>#[])).push (seqObj "tuple" vs.toArray 0)).push (seqObj "list" #[] 0) }/\p.Perm (List.toArray (List.range vs.length))/\sN r p vs.length)
   rfl (by lia) h64 (λp' st' s' a1 a2 a3 a4=>⟨a4.1,p',a1,a2,a3,a4.2⟩) (vq T (by lia) λp hp ha=>⟨rfl,hp,ha⟩)) ?_ λ_ _ e=>e)
  rintro⟨⟨⟩,st'⟩ s' ⟨rfl,p,hps,har,hf,hp,hs⟩;dsimp only;have hout:=kat_snds (ks:=vs) (vs:=vs) rfl har;rw[hout];refine wpAny_bind (seqEpoch_at ho6 rfl ?_);refine wpAny_bind (listUpdate_at ho6 rfl ?_ (hsz2:=by rw[aP,aB,cj,hps,Ka];lia));rw[hf];simp only[bne_self_eq_false,cn,Kv];exact K6 (h p hp hs)
def kK {l:Addr} {vs:List Value} {Q:Value->Shared->Prop} {r:Nat->Int} (κ:SortKind) (hcol:∀(A:Around) (E:Value->Shared->Prop) (Q:List Value->Shared->Prop),Q vs { s with heap:=(s.heap.push (seqObj "list" #[] 0)).update s.heap.objs.size (Obj.mapSeq (·++vs.toArray)) }->wpAny (model prog w) A (collect (.ref l)) Q E s) (h64:vs.length<64)
  (hk:2<=vs.length->∀(h':Heap) (Q:SortKind->Shared->Prop),(∀b o,s.heap.get? b=some o->h'.get? b=some o)->Q κ { s with heap:=h' }->wpAny (model prog w) A.in1.in1 (keyKind' vs.toArray) Q (λ_ _=>False) { s with heap:=h' })
  (hc:∀i j,i<vs.length->j<vs.length->∀(h':Heap) (C:Bool->Shared->Prop),(∀b o,s.heap.get? b=some o->h'.get? b=some o)->C (decide (r i<r j)) { s with heap:=h' }->wpAny (model prog w) A.in1.in1 (keyLt' κ (vs.getD i Value.none) (vs.getD j Value.none)) C (λ_ _=>False) { s with heap:=h' })
  (h:∀p:Array Nat,p.Perm (List.toArray (List.range vs.length))->sN r p vs.length->Q (.ref (s.heap.objs.size+1)) { s with heap:=sortedAll s.heap vs (jo vs p) }) :
  wpAny (model prog w) A (call (.builtin "sorted") [.ref l]) Q E s:=by
 refine Calls.call_function_entry kind_sorted plain_sorted entry_sorted (args_sorted1 _) ?_;unfold Builtin.«sorted»;refine wpAny_bind (m:=checkCount "sorted" 1 1 _) (K6 ?_);refine wpAny_bind (hcol _ _ _ ?_);refine wpAny_bind (wpAny_newList ?_);have hsz:((s.heap.push (seqObj "list" #[] 0)).update s.heap.objs.size (Obj.mapSeq (·++vs.toArray))).objs.size=s.heap.objs.size+1:=by
  rw[jW,size_push']
 have hoL:(((s.heap.push (seqObj "list" #[] 0)).update s.heap.objs.size (Obj.mapSeq (·++vs.toArray))).push (seqObj "list" vs.toArray 0)).get? (s.heap.objs.size+1)=some (seqObj "list" vs.toArray 0):=by
  rw[<-hsz];exact aR _ rfl
 have keep:∀b o,s.heap.get? b=some o->(((s.heap.push (seqObj "list" #[] 0)).update s.heap.objs.size (Obj.mapSeq (·++vs.toArray))).push (seqObj "list" vs.toArray 0)).get? b=some o:=λb o q=>by
  have hlt:b<s.heap.objs.size:=aQ q;rw[fw _ _ _ (by rw[hsz];exact aq (fq hlt)),Heap.get?_update_ne _ _ _ _ (aq hlt),fw _ _ _ (aq hlt)];exact q
 have keep2:∀h',Kp (s.heap.objs.size+1) (((s.heap.push (seqObj "list" #[] 0)).update s.heap.objs.size (Obj.mapSeq (·++vs.toArray))).push (seqObj "list" vs.toArray 0)) h'->∀b o,s.heap.get? b=some o->h'.get? b=some o:=λh' k b o q=>
  k b o (aq (fq (aQ q))) (keep b o q)
 show wpAny _ _ _ _ _ { s with heap:=((s.heap.push (seqObj "list" #[] 0)).update s.heap.objs.size (Obj.mapSeq (·++vs.toArray))).push (seqObj "list" vs.toArray 0) };rw[hsz];refine wpAny_bind (K4 (wpAny_call_entry slot_list_sort ⟨_,hoL,rfl⟩ entry_list_sort (nM (r:=r) κ hoL h64 (λh2 h' Q k q=>?_) (λi j hi hj h' C k q=>?_) λp hp ha=>⟨_,rfl,?_⟩) (args_list_sort _)))
 ·exact K1 (hk h2 h' Q (keep2 h' k) q) (λ_ _ z=>z) λ_ _ z=>z.elim
 ·exact hc i j hi hj h' C (keep2 h' k) q
 ·exact K6 ⟨_,rfl,h p hp ha⟩
def qr{l:Addr}{vs:List Value}{Q:Value->Shared->Prop}{r:Nat->Int}(κ:SortKind)(hl:s.heap.IsList l vs.toArray)(h64:vs.length<64)
  (hk:2<=vs.length->∀(h':Heap) (Q:SortKind->Shared->Prop),(∀b o,s.heap.get? b=some o->h'.get? b=some o)->Q κ { s with heap:=h' }->wpAny (model prog w) A.in1.in1 (keyKind' vs.toArray) Q (λ_ _=>False) { s with heap:=h' })
  (hc:∀i j,i<vs.length->j<vs.length->∀(h':Heap) (C:Bool->Shared->Prop),(∀b o,s.heap.get? b=some o->h'.get? b=some o)->C (decide (r i<r j)) { s with heap:=h' }->wpAny (model prog w) A.in1.in1 (keyLt' κ (vs.getD i Value.none) (vs.getD j Value.none)) C (λ_ _=>False) { s with heap:=h' })
  (h:∀p:Array Nat,p.Perm (List.toArray (List.range vs.length))->sN r p vs.length->Q (.ref (s.heap.objs.size+1)) { s with heap:=sortedAll s.heap vs (jo vs p) }) :
  wpAny (model prog w) A (call (.builtin "sorted") [.ref l]) Q E s:=
 kK κ (λA E Q q=>collect_list hl q (by rw[Ka];lia)) h64 hk hc h
def sD{l:Addr}{vs:List Value}{Q:List Value->Shared->Prop}(hl:IsTup s.heap l vs.toArray)
  (h:Q vs { s with heap:=(s.heap.push (seqObj "list" #[] 0)).update s.heap.objs.size (Obj.mapSeq (·++vs.toArray)) }) (hsz:vs.length<=sizeLine) :
  wpAny (model prog w) A (collect (.ref l)) Q E s:=by
 obtain⟨o,ho,hc,n,hd⟩:=id hl;unfold collect;refine wpAny_bind (wpAny_runValue (codeAny_builtin entry_proto_collect' ?_));show wpAny _ _ (do again (.builtin "list.__iadd__" ⟨[<-newList [],.ref l],[]⟩)) _ _ s;refine wpAny_bind (wpAny_newList (K6 ⟨Code.quiet_builtin _ (by decide +kernel),codeAny_builtin entry_list_iadd' ?_⟩));show wpAny _ _ (Builtin.List.listExtendWith (.ref s.heap.objs.size) (.ref l) (.ref s.heap.objs.size)) _ _ { s with heap:=s.heap.push (seqObj "list" #[] 0) };unfold Builtin.List.listExtendWith;have ho':(s.heap.push (seqObj "list" #[] 0)).get? l=some o:=aA _ ho;refine wpAny_bind (wpAny_typeOf (T:="tuple") ⟨o,ho',hc⟩ ?_);have ht:(Value.type "tuple"==Value.type "tuple")=true:=by rfl
 rw[Ko (by rw[ht];simp)];refine wpAny_bind (listItems_at ho' hd ?_);refine wpAny_bind (listItems_at (xs:=#[]) (n:=0) (aR _ rfl) rfl ?_);rw[Kn (by simp)];refine wpAny_bind (listUpdate_at (xs:=#[]) (n:=0) (aR _ rfl) rfl ?_ (bE _) (by show (#[]++vs.toArray).size<=sizeLine+1;simp only[Array.size_append,aP,jq];lia));refine K6 ?_;show wpAny (model prog w) A (do
   let o <-load s.heap.objs.size
   match o.data with
   | .seq xs _=>pure xs.toList
   | _=>unsupported "internal:collect") Q E { s with heap:=(s.heap.push (seqObj "list" #[] 0)).update s.heap.objs.size (Obj.mapSeq (·++vs.toArray)) }
 refine wpAny_bind (wpAny_load (get?_update_seq (aR _ rfl) _) ?_);show wpAny _ _ (pure ((#[]:Array Value)++vs.toArray).toList) Q E _;rw[show ((#[]:Array Value)++vs.toArray).toList=vs by simp];exact K6 h
def pY{l:Addr}{vs:List Value}{Q:Value->Shared->Prop}{r:Nat->Int}(κ:SortKind)(hl:IsTup s.heap l vs.toArray)(h64:vs.length<64)
  (hk:2<=vs.length->∀(h':Heap) (Q:SortKind->Shared->Prop),(∀b o,s.heap.get? b=some o->h'.get? b=some o)->Q κ { s with heap:=h' }->wpAny (model prog w) A.in1.in1 (keyKind' vs.toArray) Q (λ_ _=>False) { s with heap:=h' })
  (hc:∀i j,i<vs.length->j<vs.length->∀(h':Heap) (C:Bool->Shared->Prop),(∀b o,s.heap.get? b=some o->h'.get? b=some o)->C (decide (r i<r j)) { s with heap:=h' }->wpAny (model prog w) A.in1.in1 (keyLt' κ (vs.getD i Value.none) (vs.getD j Value.none)) C (λ_ _=>False) { s with heap:=h' })
  (h:∀p:Array Nat,p.Perm (List.toArray (List.range vs.length))->sN r p vs.length->Q (.ref (s.heap.objs.size+1)) { s with heap:=sortedAll s.heap vs (jo vs p) }) :
  wpAny (model prog w) A (call (.builtin "sorted") [.ref l]) Q E s:=
 kK κ (λA E Q q=>sD hl q (by rw[Ka];lia)) h64 hk hc h
end
end Rm
namespace Rm
open PySem PySem.W PyProof.Rows L2
def pick{α:Type}(d:α)(xs:List α)(p:Array Nat):List α:=p.toList.map λi=>xs.getD i d
def wN{α:Type}(d:α)(xs:List α){p:Array Nat}(hp:p.Perm (List.toArray (List.range xs.length))):(pick d xs p).Perm xs:=by
 have h1:p.toList.Perm (List.range xs.length):=by simpa using i3.mp hp
 have h2:=h1.map λi=>xs.getD i d;have e:(List.range xs.length).map (λi=>xs.getD i d)=xs:=by
  apply jT
  ·simp
  ·intro i h1 h2;simp at h1;simp[h1]
 rw[e] at h2;exact h2
def zP{r:Nat->Int}{n:Nat}{p:Array Nat}(hn:p.size=n)(ha:sN r p n){α:Type}(d:α)(xs:List α)(f:α->Int)(hf:∀i,r i=f (xs.getD i d)):(pick d xs p).Pairwise λa b=>f a<=f b:=by
 rw[d6];intro i j hi hj hij;have hi':i<p.size:=by simpa [pick] using hi
 have hj':j<p.size:=by simpa [pick] using hj
 have h1:=ha i j (ci hij) (by lia);unfold Kk at h1;rw[hf,hf] at h1;simp only[bo,d8 hi',d8 hj',Option.getD_some] at h1;simpa [pick] using h1
end Rm
namespace L2
open PySem PySem.W PySem.Spec PyProof.Rows Rm
section
variable {X:Cx}
def ints_getD:∀{us:List Value} {ns:List Int},IntsAre us ns->∀i,i<us.length->∃t,us.getD i Value.none=.int (ns.getD i 0) t
 | _,_,.nil,i,h=>by simp at h
 | _,_,.cons n t r,0,_=>⟨t,rfl⟩
 | _,_,.cons n t r,i+1,h=>by
  obtain⟨t',e⟩:=ints_getD r i (by simpa using h);exact⟨t',by simpa using e⟩
def ox{us:List Value}{ns:List Int}(hi:IntsAre us ns):∀(p:List Nat),(∀i∈p,i<us.length)->IntsAre (p.map λi=>us.getD i Value.none) (p.map λi=>ns.getD i 0)
 | [],_=>.nil
 | i::p,h=>by
  obtain⟨t,e⟩:=ints_getD hi i (h i am);rw[aS,aS,e];exact .cons _ t (ox hi p λj hj=>h j (aK _ hj))
def nQ{us:List Value}{ns:List Int}(hi:IntsAre us ns):us.length=ns.length:=by
 induction hi with
 | nil=>rfl
 | cons _ _ _ ih=>simp[ih]
def rY:∀{us:List Value} {ns:List Int},IntsAre us ns->∀v∈us,∃n t,v=Value.int n t
 | _,_,.nil,v,h=>nomatch h
 | _,_,.cons n t r,v,h=>by
  rcases aH.mp h with rfl | h
  ·exact⟨n,t,rfl⟩
  ·exact rY r v h
def Di(K:Kw):List V->Hp->VK->Prop:=λxs H Q=>∃(p:Addr) (ns:List Int),xs=[.ref p]/\(cL K H p (ns.map V.int)\/dr K H p (ns.map V.int))/\ns.length<64 ∧
 ∀(l:Addr) (ms:List Int),H l=none->ms.Perm ns->ms.Pairwise (·<=·)->Q (.ref l) (upd H l (.lst (ms.map V.int)))
def mE:fg X (.builtin "sorted") (Di X.K):=by
 intro pins s σ H xs us Q I r h;obtain⟨p,ns,rfl,hq,hl,q⟩:=h;obtain⟨u,rfl,rx⟩:=Kb r;cases rx;have fin:∀its:List Value,IntsAre its ns->∀pr:Array Nat,pr.Perm (List.toArray (List.range its.length))->sN (λi=>ns.getD i 0) pr its.length →
   EP X pins σ Q (.ref (s.heap.objs.size+1)) { s with heap:=sortedAll s.heap its (jo its pr) }:=λits hi pr hp ha=>by
  obtain⟨c,hc⟩:=sortedAll_at s.heap its (jo its pr);have hil:=nQ hi;have hin:∀i∈pr.toList,i<its.length:=λi him=>by
   have h1:pr.toList.Perm (List.range its.length):=by simpa using i3.mp hp
   simpa using h1.mem_iff.mp him
  have hp':pr.Perm (List.toArray (List.range ns.length)):=by rw[<-hil];exact hp
  have hpk:=wN 0 ns hp';have hlen:=hpk.length_eq;refine⟨.ref (s.heap.objs.size+1),upd H (s.heap.objs.size+1) (.lst ((pick 0 ns pr).map V.int)),I.laid (t':=s.toks) (λb o e=>sortedAll_old e) (eZ _)
   (show cg X.prog X.w _ _ _ (.lst _) from ⟨by rw[aB,hlen];exact ci (dC (by lia)),(jo its pr).toList,c,k8 ?_,by simpa using hc⟩),rfl,q _ _ (I.hok.fresh (eZ _)) hpk ?_⟩
  ·have:=ox hi pr.toList hin;simpa [jo,pick] using this
  ·exact zP (n:=its.length) (by have:=hp.size_eq;simpa using this) ha 0 ns (λx=>x) λi=>rfl
 have kind:∀(A:Around) (its:List Value),IntsAre its ns->2<=its.length->∀(h':Heap) (Q:SortKind->Shared->Prop),Q oneType' { s with heap:=h' }->wpAny (model X.prog X.w) A (keyKind' its.toArray) Q (λ_ _=>False) { s with heap:=h' }:=λA its hi h2 h' Q q'=>by
  refine kas_kind (T:=.type "int") h2 (λv hv=>?_) (by decide) (by decide) q';obtain⟨n,t,rfl⟩:=rY hi v hv;exact(show Looks _ _ (pure (Value.type "int")) (Value.type "int") from .now)
 have lt:∀(A:Around) (its:List Value),IntsAre its ns->∀i j,i<its.length->j<its.length->∀(h':Heap) (C:Bool->Shared->Prop),C (decide (ns.getD i 0<ns.getD j 0)) { s with heap:=h' } →
   wpAny (model X.prog X.w) A (keyLt' oneType' (its.getD i Value.none) (its.getD j Value.none)) C (λ_ _=>False) { s with heap:=h' }:=λA its hi i j h1 h2 h' C q'=>by
  obtain⟨t,e⟩:=ints_getD hi i h1;obtain⟨t',e'⟩:=ints_getD hi j h2;rw[e,e'];exact kat_lt_int q'
 rcases hq with hq | hq
 ·obtain⟨its,rv,pl,hz⟩:=I.list hq;have hi:=jI rv;have hil:=nQ hi;exact qr (r:=λi=>ns.getD i 0) oneType' pl.isList (by lia) (λh2 h' Q k q'=>kind _ its hi h2 h' Q q') (λi j h1 h2 h' C k q'=>lt _ its hi i j h1 h2 h' C q') (fin its hi)
 ·obtain⟨its,rv,pl,hz⟩:=I.tuple hq;have hi:=jI rv;have hil:=nQ hi;exact pY (r:=λi=>ns.getD i 0) oneType' pl (by lia) (λh2 h' Q k q'=>kind _ its hi h2 h' Q q') (λi j h1 h2 h' C k q'=>lt _ its hi i j h1 h2 h' C q') (fin its hi)
end
end L2
namespace L2
open PySem PySem.Spec PyProof.Rows
section
variable {X:Cx} {σ:St} {H:Hp} {a:Addr} {o:Obj}
def xp{td ty:TE}{Q:VK}:y4 td ty σ H Q=td σ H λx H1=>ty σ H1 λy H2=>∃a v,x=.ref a/\kI H2 a y (some v)/\Q v H2:=rfl
def xo{td ty tv:TE}{D:Ends}:yt td ty tv D σ H=tv σ H λv H1=>td σ H1 λx H2=>ty σ H2 λy H3=>∃a H4,x=.ref a/\nv H3 a y v H4/\D.nx σ H4:=rfl
def BE{Q:VK}:sW σ H Q=∀p,H p=none->Q (.ref p) (upd H p (.dT [])):=rfl
def uV{Q:VK}:sX σ H Q=∀p,H p=none->Q (.ref p) (upd H p (.dK [])):=rfl
def qX{ty td:TE}{Q:VK}:m9 ty td σ H Q=ty σ H λy H1=>td σ H1 λx H2=>∃a o,x=.ref a/\kI H2 a y o/\Q (.bl (!o.isSome)) H2:=rfl
def wK{k d:Expr}{ty td:TE}{pos:Pos}(hu:X.A.units+1<cLine)(hk:PE X k ty)(hd:PE X d td)(hm:behindInMarks .NotIn d=false:=by first | rfl | with_unfolding_all rfl):PT X (.Compare k [.NotIn] [d] pos) (tB (m9 ty td)):=Dq (wU hu hk hd) hm
end
section
def oM{A:Around}{k:Nat}(hr:i4 k A):A.units+1<cLine:=by have:=hr.units;lia
end
def zp:typeLookup (.type "list_reverseiterator") "__len__"=pure none:=by rw[typeLookup_type,builtinLookup_eq_fast];kernel_rfl
def CN:typeLookup (.type "list_reverseiterator") "__length_hint__"=pure (some (.builtin "list_reverseiterator.__length_hint__")):=by rw[typeLookup_type,builtinLookup_eq_fast];kernel_rfl
section
variable {prog:Program} {w:World} {A:Around} {E:Value->Shared->Prop} {s:Shared}
def AW{I l:Addr}{i:Int}{Q:Bool->Shared->Prop}(hit:s.heap.IsRevIter I l i)(h:Q false s):wpAny (model prog w) A (Builtin.List.listLengthHint (.ref I)) Q E s:=by
 unfold Builtin.List.listLengthHint;refine wpAny_bind (wpAny_specialOf hit.typeIs zp ?_);show wpAny _ A (specialOf (Value.ref I) (Str.ofString "__length_hint__")>>=_) _ _ _;refine wpAny_bind (wpAny_specialOf hit.typeIs CN ?_);generalize hid:("list_reverseiterator.__length_hint__":String)=id0
 wp_delta
 rw[show splitId id0=some ("list_reverseiterator","__length_hint__") from by subst hid;decide +kernel];subst hid;refine wpAny_bind (wpAny_isInstance (b:=true) hit.typeIs (by rw[isSubtype_type];kernel_rfl) ?_);refine K6 ?_;exact h
def tu{R:Result->Shared->Prop}{l I:Addr}{items:Array Value}(hh:A.handled=none)(hit:s.heap.IsRevIter I l ((items.size:Int) - 1))(hl:s.heap.IsList l items)(hne:l≠I)(hlen:items.size<=1000)(S:Addr)(res:Value)(c₀:Nat)
  (hS:s.heap.get? S=some { cls:=.type "list",data:=.seq #[] c₀ }) (hSI:S≠I) (hSl:S≠l)
  (hR:∀h' tk acc' c',(∀b o,b≠S->b≠I->s.heap.get? b=some o->h'.get? b=some o)->h'.get? S=some { cls:=.type "list",dict:=none,data:=.seq acc' c',slots:=#[] } →
   ItemsOf (λi v=>items[items.size - 1-i]? = some v) acc' items.size->R (.ok (.ret res)) { s with heap:=h',toks:=tk }) :
  wpAny (model prog w) A.in1 (Builtin.List.listExtendWith (.ref S) (.ref I) res)
   (λfin s'=>match fin with | .done f=>R (.ok f) s' | .again c'=>c'.quiet=true/\codeAny (model prog w) A c' R s') (λe s'=>R (.error e) s') s:=by
 have hSf:S∉[I,l]:=λhm=>by
  rcases aH.mp hm with e | e
  ·exact hSI e
  ·exact hSl (bC.mp e)
 have W:=(Walks.listRev (prog:=prog) (w:=w) (A:=A.in1) hh I l hne items).toS;have h1:Builtin.List.listSameRef (.ref S) (.ref I)=false:=by simp[Builtin.List.listSameRef,hSI]
 have h2:(Value.type "list_reverseiterator"==Value.type "list")=false:=by decide
 have h3:(Value.type "list_reverseiterator"==Value.type "tuple")=false:=by decide
 have hz:((items.size:Int) - 1-((0:Nat):Int))=(items.size:Int) - 1:=by simp
 unfold Builtin.List.listExtendWith;refine wpAny_bind (wpAny_typeOf hit.typeIs ?_);simp only[h1,h2,h3,ix,cn,Kv];refine wpAny_bind (wpAny_pyIter_revIter hit ?_);refine wpAny_bind (K4 (AW hit ?_));refine K6 ⟨plainId_quiet F.plain_extend_loop _,?_⟩;refine codeAny_extend_loopS W (ci (dC hlen)) S hSf res items.size 0 _ #[] c₀ rfl (bE _) ⟨bE _,by rw[hz];exact hit,hl⟩ hS (ItemsOf.nil _) λs' acc' c' hm hS' hacc=>?_;rw[Moved.eq_with hm];refine hR s'.heap s'.toks acc' c' (λb o hb hb2 e=>hm.heap b o (λhmem=>?_) e) hS' hacc;rcases aH.mp hmem with e' | hmem
 ·exact hb e'
 ·exact hb2 (bC.mp hmem)
def AS{R:Result->Shared->Prop}{l I:Addr}{items:Array Value}(hh:A.handled=none)(hit:s.heap.IsRevIter I l ((items.size:Int) - 1))(hl:s.heap.IsList l items)(hne:l≠I)(hlen:items.size<=1000)(S:Addr)
  (hS:s.heap.get? S=some { cls:=.type "list",data:=.seq #[] }) (hSI:S≠I) (hSl:S≠l)
  (hR:∀h' tk acc' c',(∀b o,b≠S->b≠I->s.heap.get? b=some o->h'.get? b=some o)->h'.get? S=some { cls:=.type "list",dict:=none,data:=.seq acc' c',slots:=#[] } →
   ItemsOf (λi v=>items[items.size - 1-i]? = some v) acc' items.size->R (.ok (.ret .none)) { s with heap:=h',toks:=tk }) :
  wpAny (model prog w) A.in1 (Builtin.«list.__init__» ⟨[.ref S,.ref I],[]⟩)
   (λfin s'=>match fin with | .done f=>R (.ok f) s' | .again c'=>c'.quiet=true/\codeAny (model prog w) A c' R s') (λe s'=>R (.error e) s') s:=by
 show wpAny _ _ (do let old <-Builtin.List.listItems (.ref S);Builtin.List.listUpdate (.ref S) (λ_=>#[]);letGo old.toList.reverse;Builtin.List.listExtendWith (.ref S) (.ref I) .none) _ _ s;refine wpAny_bind ?_;unfold Builtin.List.listItems;refine wpAny_bind (Kh hS rfl (K6 ?_));show wpAny _ _ (updateSeq S (λ_=>#[])>>=λ_=>letGo (#[]:Array Value).toList.reverse>>=λ_=>Builtin.List.listExtendWith (.ref S) (.ref I) .none) _ _ s;refine wpAny_bind (wpAny_updateSeq hS rfl ?_);have hS₂:=Heap.get?_update_self (Obj.mapSeq (λ_=>(#[]:Array Value))) hS rfl;have oth:∀b o,b≠S->s.heap.get? b=some o->(s.heap.update S (Obj.mapSeq (λ_=>(#[]:Array Value)))).get? b=some o:=
  λb o hb e=>(fv _ _ (bg hb)).trans e
 refine wpAny_bind (wpAny_letGo ?_);refine tu hh (hit.at λo e=>oth I o hSI.symm e) (hl.at λo e=>oth l o hSl.symm e) hne hlen S .none _ hS₂ hSI hSl λh' tk acc' c' hk hS' hacc=>?_;exact hR h' tk acc' c' (λb o hb hb2 e=>hk b o hb hb2 (oth b o hb e)) hS' hacc
def oS{Q:Value->Shared->Prop}{l I:Addr}{items:Array Value}(hh:A.handled=none)(hit:s.heap.IsRevIter I l ((items.size:Int) - 1))(hl:s.heap.IsList l items)(hne:l≠I)(hlen:items.size<=1000)
  (hQ:∀h' tk acc' c',(∀b o,b≠I->s.heap.get? b=some o->h'.get? b=some o) →
   h'.get? s.heap.objs.size=some { cls:=.type "list",dict:=none,data:=.seq acc' c',slots:=#[] }->ItemsOf (λi v=>items[items.size - 1-i]? = some v) acc' items.size->Q (.ref s.heap.objs.size) { s with heap:=h',toks:=tk }) :
  wpAny (model prog w) A (call (.type "list") [.ref I]) Q E s:=by
 refine callType_codes (Q₁:=λobj s₁=>obj=.ref s.heap.objs.size/\s₁={ s with heap:=s.heap.push { cls:=.type "list",data:=.seq #[] } }) F.called_list (F.typeCall_list_1 _) F.entry_list_init
  (code_list_new _ ⟨rfl,rfl⟩) λobj s₁ h₁=>?_
 obtain⟨rfl,rfl⟩:=h₁;have hS:(s.heap.push { cls:=.type "list",data:=.seq #[] }).get? s.heap.objs.size=some { cls:=.type "list",data:=.seq #[] }:=aR _ rfl;obtain⟨o1,e1,_⟩:=id hit;obtain⟨o2,e2,_⟩:=id hl;have n1:s.heap.objs.size≠I:=(aq (aQ e1)).symm;have n2:s.heap.objs.size≠l:=(aq (aQ e2)).symm;refine⟨⟨_,hS,rfl⟩,F.args_list_init_2 _ _,AS (A:=A.in1) hh (hit.at λo e=>aA _ e) (hl.at λo e=>aA _ e) hne hlen _ hS n1 n2 λh' tk acc' c' hk hS' hacc=>?_⟩;exact⟨rfl,hQ h' tk acc' c' (λb o hb e=>hk b o (aq (aQ e)) hb (aA _ e)) hS' hacc⟩
end
def DZ(te:TE):TE:=λσ H Q=>te σ H λx H1=>∃(a:Addr) (xs:List V),x=.ref a/\H1 a=some (.lst xs)/\xs.length<=1000/\∀l,H1 l=none->Q (.ref l) (upd H1 l (.lst xs.reverse))
def w_rev{te:TE}{σ:St}{H:Hp}{Q:VK}:DZ te σ H Q=te σ H λx H1=>∃(a:Addr) (xs:List V),x=.ref a/\H1 a=some (.lst xs)/\xs.length<=1000/\∀l,H1 l=none->Q (.ref l) (upd H1 l (.lst xs.reverse)):=rfl
def xu{xs:List V}{us:List Value}(r:cE xs us):∀{i:Nat} {x:V} {u:Value},xs[i]? = some x->us[i]? = some u->RelV x u:=by
 induction r with
 | nil=>intro i x u h;simp at h
 | cons a b ih=>
  intro i x u h h';cases i with
  | zero=>cases h;cases h';exact a
  | succ i=>exact ih h h'
def u6{xs:List V}{us:List Value}(hl:xs.length=us.length)(h:∀(i:Nat) x u,xs[i]? = some x->us[i]? = some u->RelV x u):cE xs us:=by
 induction xs generalizing us with
 | nil=>cases us with | nil=>exact .nil | cons a b=>simp at hl
 | cons x xs ih=>
  cases us with
  | nil=>simp at hl
  | cons u us=>exact .cons (h 0 x u rfl rfl) (ih (by simpa using hl) λi y v h1 h2=>h (i+1) y v h1 h2)
def tK {X:Cx} {e:Expr} {te:TE} {p p2 pos2 pos:Pos} (hc:X.calm=true) (hgl:Gl X "list") (hml:X.mg "list"=none) (hgr:Gl X "reversed") (hmr:X.mg "reversed"=none) (he:PE X e te)
  (hs:starEach [.Call (.Name "reversed" p2) [e] [] pos2] X.env=[(false,eval (.Call (.Name "reversed" p2) [e] [] pos2) X.env)]:=by rfl) (hs2:starEach [e] X.env=[(false,eval e X.env)]:=by rfl) :
  PE X (.Call (.Name "list" p) [.Call (.Name "reversed" p2) [e] [] pos2] [] pos) (DZ te):=by
 intro pins s σ H Q I h;refine Kc (iR I hgl hml boot_list ?_);refine bS ?_ hs rfl;rw[hs];show wpAny _ _ (spliced ((false,eval (.Call (.Name "reversed" p2) [e] [] pos2) X.env)::[])) _ _ s;refine iZ (Kc (iR I hgr hmr boot_reversed (bS ?_ hs2 rfl)));rw[hs2];show wpAny _ _ (spliced ((false,eval e X.env)::[])) _ _ s;refine iZ (dH (he pins s σ H _ I h) λu s1 ⟨x,H1,I1,r1,a,xs,ex,hx,hle,q⟩=>?_);subst ex;cases r1;obtain⟨hz,its,n,rv,hlen,ho⟩:=I1.lstM hx;have hL:s1.heap.IsList a its.toArray:=⟨_,ho,rfl,n,rfl⟩
 have hsz:its.toArray.size=its.length:=by simp
 have hal:=aQ ho;refine ij (call_reversed_list hL (ij ?_));refine oS (I:=s1.heap.objs.size) (l:=a) (items:=its.toArray) (I1.ok.hd hc) ⟨_,aR _ rfl,rfl,rfl⟩ (hL.at λo e=>aA _ e) (aq hal) (by rw[hsz];lia) λh' tk acc' c' kp e' hit=>?_;have sz:(s1.heap.push (revObj a ((its.toArray.size:Int) - 1))).objs.size=s1.heap.objs.size+1:=ef _ _;have hv:cE xs.reverse acc'.toList:=by
  obtain⟨a1,a2⟩:=hit;rw[hsz] at a1 a2;have al:acc'.toList.length=its.length:=by rw[<-a1];simp
  refine u6 (by rw[dm,hlen,al]) λi x u h1 h2=>?_;have hu:acc'[i]? = some u:=by simpa using h2
  have h3:=a2 i u hu;have hi:i<its.length:=by rw[<-a1];exact(Array.getElem?_eq_some_iff.mp hu).1
  rw[List.getElem?_reverse (by rw[hlen];exact hi),hlen] at h1;have h4:its[its.length - 1-i]? = some u:=by simpa using h3
  exact xu rv h1 h4
 refine⟨.ref _,_,I1.laid (h':=h') (t':=tk) (λb o e=>kp b o (aq (aQ e)) (aA _ e)) (by rw[sz];exact eZ _) (show cg X.prog X.w _ h' _ (.lst _) from ⟨by rw[dm];exact hz,acc'.toList,c',hv,by simpa using e'⟩),rfl,q _ (I1.hok.fresh (by rw[sz];exact eZ _))⟩
structure QE (X:Cx) (e:Expr) (t:TE):Prop where
 h:PE X e t
structure QT (X:Cx) (e:Expr) (t:TT):Prop where
 h:PT X e t
structure QA (X:Cx) (es:List Expr) (t:TA):Prop where
 h:PA X es t
structure QS (X:Cx) (st:Stmt) (t:TS):Prop where
 h:PS X st t
structure jK (X:Cx) (sts:List Stmt) (t:TS):Prop where
 h:sL X sts t
structure QG (X:Cx) (e:Expr) (t:TG):Prop where
 h:PG X e t
structure GY (X:Cx) (es:List Expr) (t:ve):Prop where
 h:FG X es t
structure QF (X:Cx) (es:List Expr) (t:TT):Prop where
 h:PF X es t
structure QW (X:Cx) (e:Expr) (t:TT):Prop where
 h:PW X e t
structure QO (X:Cx) (e:Option Expr) (t:TO):Prop where
 h:PO X e t
structure C5 (X:Cx) (pos:Pos) (keys:List (Option Expr)) (values:List Expr) (trs:List (TE×TE)):Prop where
 h:G0 X pos keys values trs
structure QI (X:Cx) (tg iter:Expr) (t:TI):Prop where
 h:PI X tg iter t
def QW.pt{X:Cx}{e:Expr}{t:TT}(h:QW X e t):QT X e t:=⟨h.h.pt⟩
section
variable {X:Cx}
def aF{i j pos}:QE X (.Constant (.int i) j pos) (tC (.int i)):=⟨EL ⟩
end
section
variable {X:Cx}
def ip{b j pos}:QE X (.Constant (.bool b) j pos) (tC (.bl b)):=⟨GE ⟩
end
section
variable {X:Cx}
def fN{j pos}:QE X (.Constant .none j pos) (tC .non):=⟨EJ ⟩
end
section
variable {X:Cx}
def bQ{x j pos}:QE X (.Constant (.str x) j pos) (tC (.str x)):=⟨EG ⟩
end
section
variable {X:Cx}
def gZ {x:Str} {v:V} {u:Value} {pos:Pos} (hg:Gl X x) (hm:X.mg x=none) (hv:bootBuiltins x=some u) (r:RelV v u) (hn:x≠"__name__":=by decide) (hd:(x==("__debug__":Str))=false:=by decide):QE X (.Name x pos) (tC v):=⟨Bk hg hm hv r hn hd⟩
end
section
variable {X:Cx} {pos:Pos}
def fj{e:Expr}{t:TE}(h:QE X e t)(he:∀whole,isTrue e X.env whole=(do let v <-whole;standAt e.pos;holding [v] (truthy v)):=by intro _;rfl):QT X e (tB t):=⟨Do h.h he⟩
end
section
variable {X:Cx} {a:Expr} {pos:Pos} {tA:TT}
def jA(ha:QT X a tA):QW X (.BoolOp .And [a] pos) tA:=⟨BY ha.h⟩
end
section
variable {X:Cx} {a:Expr} {pos:Pos} {tA:TT}
def j3(ha:QT X a tA):QW X (.BoolOp .Or [a] pos) tA:=⟨Dm ha.h⟩
end
section
variable {X:Cx} {a b:Expr} {pos:Pos} {tA tB':TT} {rest:List Expr}
def kf(ha:QT X a tA)(hb:QW X (.BoolOp .And (b::rest) pos) tB'):QW X (.BoolOp .And (a::b::rest) pos) (Da tA tB'):=⟨Dn ha.h hb.h⟩
end
section
variable {X:Cx} {a b:Expr} {pos:Pos} {tA tB':TT} {rest:List Expr}
def iI(ha:QT X a tA)(hb:QW X (.BoolOp .Or (b::rest) pos) tB'):QW X (.BoolOp .Or (a::b::rest) pos) (HD tA tB'):=⟨Fv ha.h hb.h⟩
end
section
variable {X:Cx} {a:Expr} {pos:Pos} {tA:TT}
def gP(ha:QT X a tA):QT X (.UnaryOp .Not a pos) (D4 tA):=⟨Dp ha.h⟩
end
section
variable {X:Cx} {a:Expr} {pos:Pos}
def mf{op}{t:TE}(h:QE X a t):QE X (.BoolOp op [a] pos) t:=⟨EH h.h⟩
end
section
variable {X:Cx} {a b:Expr} {ta tb:TE} {pos:Pos} {rest:List Expr}
def pz(ha:QE X a ta)(hb:QE X (.BoolOp .And (b::rest) pos) tb):QE X (.BoolOp .And (a::b::rest) pos) (y9 ta tb):=⟨EN ha.h hb.h⟩
end
section
variable {X:Cx} {a b:Expr} {ta tb:TE} {pos:Pos} {rest:List Expr}
def Dl(ha:QE X a ta)(hb:QE X (.BoolOp .Or (b::rest) pos) tb):QE X (.BoolOp .Or (a::b::rest) pos) (D3 ta tb):=⟨Fz ha.h hb.h⟩
end
section
variable {X:Cx} {a:Expr} {ta:TE} {pos:Pos}
def vI(ha:QE X a ta):QE X (.UnaryOp .Not a pos) (yR ta):=⟨EI ha.h⟩
end
section
variable {X:Cx} {a b:Expr} {ta tb:TE} {pos:Pos} {tA:TT}
def eG{c:Expr}(hc:QT X c tA)(ha:QE X a ta)(hb:QE X b tb):QE X (.IfExp c a b pos) (HE tA ta tb):=⟨zU hc.h ha.h hb.h⟩
end
section
variable {X:Cx}
def bU  : jK X [] yY:=⟨B1 ⟩
end
section
variable {X:Cx} {st:Stmt} {rest:List Stmt} {t u:TS}
def aG(h1:QS X st t)(h2:jK X rest u):jK X (st::rest) (DY t u):=⟨zK h1.h h2.h⟩
end
section
variable {X:Cx} {st:Stmt} {t:TS}
def aM(h1:QS X st t):jK X [st] t:=⟨B0 h1.h⟩
end
section
variable {X:Cx} {e:Expr} {te:TE} {pos:Pos}
def gY(he:QE X e te)(hs:swapsWith e none pos.line X.env=pure false:=by rfl):QS X (.Expr e pos) (y1 te):=⟨B4 he.h hs⟩
end
section
variable {X:Cx} {e:Expr} {te:TE} {pos:Pos}
def bB(he:QE X e te):QS X (.Return (some e) pos) (D0 te):=⟨Ds he.h⟩
end
section
variable {X:Cx} {t u:TS} {pos:Pos}
def cF{c:Expr}{a b:List Stmt}{tc:TT}(hc:QT X c tc)(ha:jK X a t)(hb:jK X b u):QS X (.If c a b pos) (D5 tc t u):=⟨Fw hc.h ha.h hb.h⟩
end
section
variable {X:Cx} {st:Stmt}
def jC  : QS X st yZ:=⟨zM ⟩
end
section
variable {X:Cx} {pos:Pos}
def bb{i:Nat}{x:Str}(hN:X.N.Nodup)(hi:X.N[i]? = some x)(hx:Loc X.env.scope x)(hf:X.fn x=true\/X.env.scope.names.lookup x=some .local:=by first | exact .inl rfl | exact .inr rfl | assumption):QG X (.Name x pos) (mZ i):=⟨Be hN hi hx hf⟩
end
section
variable {X:Cx}
def jD  : GY X [] Eh:=⟨Bc ⟩
end
section
variable {X:Cx}
def d9{e:Expr}{es:List Expr}{t:TG}{u:ve}(h1:QG X e t)(h2:GY X es u)(hs:(assignEach (e::es) X.env).map (·.2)=assign e X.env::(assignEach es X.env).map (·.2):=by rfl):GY X (e::es) (A0 t u):=⟨zQ h1.h h2.h hs⟩
end
section
variable {X:Cx} {pos:Pos}
def lx{es:List Expr}{k:Nat}{t:ve}{n:Nat}(hc:X.calm=true)(h:GY X es t)(hn:(assignEach es X.env).length=n:=by rfl)(hst:(assignEach es X.env).findIdx? (·.1)=none:=by rfl):QG X (.Tuple es k pos) (AZ X.K n t):=⟨zR hc h.h hn hst⟩
end
section
variable {X:Cx} {pos:Pos}
def BX{o i:Expr}{to ti:TE}{t:Ah}(ho:QE X o to)(hi:QE X i ti)(hs:Ep X t)(ha:∀v,assign (.Subscript o i pos) X.env v=(do
   let ov <-holding [v] (eval o X.env)
   let iv <-holding [v,ov] (eval i X.env)
   standAt pos
   holding [v,ov,iv] (setItem ov iv v)
   release [v,ov,iv] []):=by intro _;rfl):QG X (.Subscript o i pos) (Eg to ti t):=⟨EA ho.h hi.h hs ha⟩
end
section
variable {X:Cx} {pos:Pos}
def vF{tg e:Expr}{te:TE}{g:TG}(he:QE X e te)(hg:QG X tg g)(hs:swapsWithSole [tg] e pos.line X.env=pure false:=by rfl)(hw:swappedStores [tg] e X.env=pure none:=by rfl)(h1:(assignEach [tg] X.env).map (·.2)=[assign tg X.env]:=by rfl):QS X (.Assign [tg] e pos) (sZ te g):=⟨Dv he.h hg.h hs hw h1⟩
end
section
variable {X:Cx} {pos:Pos}
def ai{i:Nat}{x:Str}{e:Expr}{te:TE}{pos':Pos}(hN:X.N.Nodup)(hi:X.N[i]? = some x)(hx:Loc X.env.scope x)(he:QE X e te)(hs:swapsWith e (some (.Name x pos')) pos.line X.env=pure false:=by rfl)(hf:X.fn x=true\/X.env.scope.names.lookup x=some .local:=by first | exact .inl rfl | exact .inr rfl | assumption):QS X (.Assign [.Name x pos'] e pos) (sZ te (mZ i)):=⟨Dr hN hi hx he.h hs hf⟩
end
section
variable {X:Cx} {pos:Pos}
def pw{i:Nat}{x:Str}{e:Expr}{te:TE}{op:Operator}{ti:FF}{pos':Pos}(hN:X.N.Nodup)(hi:X.N[i]? = some x)(hx:Loc X.env.scope x)(he:QE X e te)(ho:Gv X op ti)(hf:X.fn x=true\/X.env.scope.names.lookup x=some .local:=by first | exact .inl rfl | exact .inr rfl | assumption):QS X (.AugAssign (.Name x pos') op e pos) (D9 i te ti):=⟨Du hN hi hx he.h ho hf⟩
end
section
variable {X:Cx} {pos:Pos}
def kg{c:Expr}{body:List Stmt}{tc:TT}{tb:TS}(hp:PassesOwn (model X.prog X.w) X.A X.env X.xe)(hc:QT X c tc)(hb:jK X body tb):QS X (.While c body [] pos) (yM tc tb):=⟨zL hp hc.h hb.h⟩
end
section
variable {X:Cx} {tg:Expr}
def dw{l:Expr}{tl:TE}(hl:QE X l tl):QI X tg l (vU X.K tl):=⟨Ba hl.h⟩
end
section
variable {X:Cx} {tg:Expr}
def BW{l:Expr}{tl:TE}(hl:QE X l tl):QI X tg l (CL X.K tl):=⟨Dy hl.h⟩
end
section
variable {X:Cx} {tg:Expr}
def tJ {a:Expr} {ta:TA} {p pos:Pos} (hg:Gl X "range") (hm:X.mg "range"=none) (ha:QA X [a] ta) (hs:starEach [a] X.env=[(false,eval a X.env)]:=by rfl):QI X tg (.Call (.Name "range" p) [a] [] pos) (vT ta):=⟨wQ hg hm ha.h hs⟩
end
section
variable {X:Cx} {tg:Expr}
def lN {a b:Expr} {ta:TA} {p pos:Pos} (hg:Gl X "range") (hm:X.mg "range"=none) (ha:QA X [a,b] ta) (hs:starEach [a,b] X.env=[(false,eval a X.env),(false,eval b X.env)]:=by rfl) (hs2:starEach [b] X.env=[(false,eval b X.env)]:=by rfl):QI X tg (.Call (.Name "range" p) [a,b] [] pos) (vS ta):=⟨wO hg hm ha.h hs hs2⟩
end
section
variable {X:Cx} {tg:Expr}
def di{iter:Expr}{body:List Stmt}{wi:TI}{g:TG}{tb:TS}{pos:Pos}(hp:PassesOwn (model X.prog X.w) X.A X.env X.xe)(hc:X.calm=true)(hi:QI X tg iter wi)(hg:QG X tg g)(hb:jK X body tb)(hs:∀x,foldedSetIterable iter X.env x=pure x:=by intro _;rfl):QS X (.For tg iter body [] pos) (mI wi g tb):=⟨Dt hp hc hi.h hg.h hb.h hs⟩
end
section
variable {X:Cx} {a b:Expr} {ta tb:TE} {pos:Pos}
def aW{op:Operator}{r:R2}(ho:jY X (binaryOp op) r)(ha:QE X a ta)(hb:QE X b tb):QE X (.BinOp a op b pos) (yO r ta tb):=⟨GA ho ha.h hb.h⟩
end
section
variable {X:Cx} {a:Expr} {ta:TE} {pos:Pos}
def eX{op:UnaryOp}{r:V->Hp->VK->Prop}(ho:Gs X (unaryOp op) r)(ha:QE X a ta):QE X (.UnaryOp op a pos) (HB r ta):=⟨Fy ho ha.h⟩
end
section
variable {X:Cx} {a b:Expr} {ta tb:TE} {pos:Pos}
def dQ{op:CmpOp}{r:R2}(ho:jY X (compareOp op) r)(ha:QE X a ta)(hb:QE X b tb)(hm:behindInMarks op b=false):QE X (.Compare a [op] [b] pos) (yO r ta tb):=⟨Bi ho ha.h hb.h hm⟩
end
section
variable {X:Cx} {a b:Expr} {ta tb:TE} {pos:Pos}
def ac{op:CmpOp}{r:R2}(ho:jY X (compareOp op) r)(ha:QE X a ta)(hb:QE X b tb)(hm:behindInMarks op b=false):QT X (.Compare a [op] [b] pos) (qc (yO r ta tb)):=⟨BZ ho ha.h hb.h hm⟩
end
section
variable {X:Cx} {a b c:Expr} {ta tb tc:TE} {pos:Pos}
def wJ{op op':CmpOp}{r r':R2}(ho:jY X (compareOp op) r)(ho':jY X (compareOp op') r')(ha:QE X a ta)(hb:QE X b tb)(hc:QE X c tc)(hm:lastMarks [op,op'] [b,c]=false:=by with_unfolding_all rfl):QE X (.Compare a [op,op'] [b,c] pos) (sY r r' ta tb tc):=⟨zZ ho ho' ha.h hb.h hc.h hm⟩
end
section
variable {X:Cx} {a:Expr} {ta:TE} {pos:Pos}
def jB(ha:QE X a ta)(he:∀whole,isTrue a X.env whole=(do let v <-whole;standAt a.pos;holding [v] (truthy v))):QT X a (λσ H Q=>ta σ H λx H'=>∃k,C4 X.K x H' k/\Q k H'):=⟨zJ ha.h he⟩
end
section
variable {X:Cx}
def aC  : QA X [] yT:=⟨EO ⟩
end
section
variable {X:Cx} {e:Expr} {es:List Expr} {te:TE} {t:TA}
def zG(ha:QE X e te)(hr:QA X es t)(hs:starEach (e::es) X.env=(false,eval e X.env)::starEach es X.env:=by rfl):QA X (e::es) (dh te t):=⟨fO ha.h hr.h hs⟩
end
section
variable {X:Cx} {es:List Expr} {t:TA} {pos:Pos}
def fM{x1}(h:QA X es t):QE X (.Tuple es x1 pos) (DX t):=⟨EF h.h⟩
end
section
variable {X:Cx} {es:List Expr} {t:TA} {pos:Pos}
def cw(h:QA X es t):QE X (.List es pos) (BK t):=⟨EK h.h⟩
end
section
variable {X:Cx} {x:Str} {p pos:Pos} {e:Expr} {es:List Expr} {t:TA} {id:String} {r:List V->Hp->VK->Prop}
def ah (hc:fg X (.builtin id) r) (hg:Gl X x) (hm:X.mg x=none) (hv:bootBuiltins x=some (.builtin id)) (ha:QA X (e::es) t) (hn:x≠"__name__":=by decide) (hdb:(x==("__debug__":Str))=false:=by decide) (he:starEach (e::es) X.env=(false,eval e X.env)::starEach es X.env:=by rfl) (hpl:(backTo pos (starEach es X.env)).any (·.1)=false:=by rfl):QE X (.Call (.Name x p) (e::es) [] pos) (FA r t):=⟨za hc hg hm hv ha.h hn hdb he hpl⟩
end
section
variable {X:Cx} {x:Str} {p pos:Pos} {e:Expr} {es:List Expr} {t:TA} {T:String} {r:List V->Hp->VK->Prop}
def dD (hc:fg X (.type T) r) (hg:Gl X x) (hm:X.mg x=none) (hv:bootBuiltins x=some (.type T)) (ha:QA X (e::es) t) (hn:x≠"__name__":=by decide) (hdb:(x==("__debug__":Str))=false:=by decide) (he:starEach (e::es) X.env=(false,eval e X.env)::starEach es X.env:=by rfl) (hpl:(backTo pos (starEach es X.env)).any (·.1)=false:=by rfl):QE X (.Call (.Name x p) (e::es) [] pos) (FA r t):=⟨wR hc hg hm hv ha.h hn hdb he hpl⟩
end
section
variable {X:Cx}
def fL  : QO X none pR:=⟨B8 ⟩
end
section
variable {X:Cx} {e:Expr} {te:TE}
def fK(h:QE X e te):QO X (some e) (yN te):=⟨B7 h.h⟩
end
section
variable {X:Cx} {e:Expr} {te:TE} {lo hi:Option Expr} {tl th:TO} {pos p2:Pos}
def eF{r:V->Option Int->Option Int->Hp->VK->Prop}(hr:Gu X r)(he:QE X e te)(hl:QO X lo tl)(hu:QO X hi th):QE X (.Subscript e (.Slice lo hi none p2) pos) (HC r te tl th):=⟨zT hr he.h hl.h hu.h⟩
end
section
variable {X:Cx} {a b:Expr} {ta tb:TE} {pos:Pos}
def bW{r:R2}(hr:FH X r)(ha:QE X a ta)(hb:QE X b tb)(hs:vf b):QE X (.Subscript a b pos) (yO r ta tb):=⟨GC hr ha.h hb.h hs⟩
end
section
variable {X:Cx} {o:Expr} {to:TE} {name:Str} {apos cpos:Pos} {T id:String} {r:V->List V->Hp->VK->Prop}
def vJ (pa:PlainAttrs T) (slot:Slot T name id) (hty:typeOf (.builtin id)=pure (.type "method_descriptor")) (hm:G5 X id r) (ho:QE X o to) (hbase:attributeBase o name X.env (eval o X.env)=eval o X.env:=by rfl) (hline:(apos.endLine==cpos.line)=true:=by rfl):QE X (.Call (.Attribute o name apos) [] [] cpos) (D8 X.K T r to):=⟨EM pa slot hty hm ho.h hbase hline⟩
end
section
variable {X:Cx} {o e:Expr} {es:List Expr} {to:TE} {t:TA} {name:Str} {apos cpos:Pos} {T id:String} {r:V->List V->Hp->VK->Prop}
def io (pa:PlainAttrs T) (slot:Slot T name id) (hty:typeOf (.builtin id)=pure (.type "method_descriptor")) (hm:G5 X id r) (ho:QE X o to) (ha:QA X (e::es) t) (hbase:attributeBase o name X.env (eval o X.env)=eval o X.env:=by rfl) (hfew:((backTo cpos (starEach (e::es) X.env)).all (λx=>!x.1)&&(backToKw cpos (keywordEach [] X.env)).all (λx=>x.1.isSome)
   && decide ((e::es).length+([]:List Keyword).length+(if ([]:List Keyword).isEmpty then 0 else 1)<30))=true:=by rfl) (hline:(apos.endLine==cpos.line)=true:=by rfl) (hs:starEach (e::es) X.env=(false,eval e X.env)::starEach es X.env:=by rfl) (hplain:(backTo cpos (starEach es X.env)).any (·.1)=false:=by rfl):QE X (.Call (.Attribute o name apos) (e::es) [] cpos) (HF X.K T r to t):=⟨GD pa slot hty hm ho.h ha.h hbase hfew hline hs hplain⟩
end
section
variable {X:Cx}
def aY (i:Nat) {x:Str} {pos:Pos} (hN:X.N[i]? = some x:=by rfl) (hv:FE X.env.scope x:=by first | exact Or.inl rfl | exact Or.inr (Or.inl rfl) | exact Or.inr (Or.inr rfl)) (hd:(x==("__debug__":Str))=false:=by decide) (hcd:(x==("__classdict__":Str))=false:=by decide):QE X (.Name x pos) (mw i):=⟨pv i hN hv hd hcd⟩
end
section
variable {X:Cx}
def tG{a b c d:Expr}{ta tb tc td:TE}{pos:Pos}{op op' op2:CmpOp}{r r' r2:R2}(ho:jY X (compareOp op) r)(ho':jY X (compareOp op') r')(ho2:jY X (compareOp op2) r2)(ha:QE X a ta)(hb:QE X b tb)(hc:QE X c tc)(hd:QE X d td)(hm:lastMarks [op,op',op2] [b,c,d]=false:=by with_unfolding_all rfl):QT X (.Compare a [op,op',op2] [b,c,d] pos) (qc (pS r r' r2 ta tb tc td)):=⟨wL ho ho' ho2 ha.h hb.h hc.h hd.h hm⟩
end
section
def oh {X:Cx} {x:Str} {i:Int} {pos:Pos} (hg:Gl X x) (hm:∃t,X.mg x=some (.int i t)) (hd:(x==("__debug__":Str))=false:=by decide):QE X (.Name x pos) (tC (.int i)):=⟨zW hg hm hd⟩
end
section
def a8 {X:Cx} {k:Nat} {x:Str} {st:Stmt} {ps:List Str} {sp:Sp} {e:Expr} {es:List Expr} {t:TA} {p pos:Pos} (D:eQ X.prog X.w X.K X.mg X.base k x st ps sp) (hr:i4 k X.A) (hg:Gl X x) (ha:QA X (e::es) t) (hdb:(x==("__debug__":Str))=false:=by decide) (he:starEach (e::es) X.env=(false,eval e X.env)::starEach es X.env:=by rfl) (hpl:(backTo pos (starEach es X.env)).any (·.1)=false:=by rfl):QE X (.Call (.Name x p) (e::es) [] pos) (ue sp [] E0 t):=⟨z9 D hr hg ha.h hdb he hpl⟩
end
section
def vG{X:Cx}{tg l:Expr}{tl:TE}(hl:QE X l tl):QI X tg l (CM tl):=⟨Dz hl.h⟩
end
section
def rB {X:Cx} {a:Expr} {ta:TA} {elts:List Expr} {x1:Nat} {p pos tpos:Pos} (hg:Gl X "enumerate") (hm:X.mg "enumerate"=none) (ha:QA X [a] ta) (hs:starEach [a] X.env=[(false,eval a X.env)]:=by rfl):QI X (.Tuple elts x1 tpos) (.Call (.Name "enumerate" p) [a] [] pos) (AV ta):=⟨Bb hg hm ha.h hs⟩
end
section
def kh{X:Cx}:QF X [] ud:=⟨EC ⟩
end
section
def vH{X:Cx}{c:Expr}{t:TT}(h:QT X c t):QF X [c] t:=⟨EB h.h⟩
end
section
variable {X:Cx} {H:Hp} {s:Shared}
def iJ{own ns:List Str}{caps:List Nat}{elt tg iter:Expr}{ifs:List Expr}{scope:Scope}{pos:Pos}{wi:TI}{g:TG}{tf:TT}{te:TE}(hc:X.calm=true)(S:l4 scope ns)(cp:k0 X scope ns caps)(hi:QI X tg iter wi)(hg:∀C s H fp pn,QG (qO X (own++ns) scope C s H fp pn) tg g)(ht:∀C s H fp pn,QF (qO X (own++ns) scope C s H fp pn) ifs tf)(he:∀C s H fp pn,QE (qO X (own++ns) scope C s H fp pn) elt te)(hs:∀x,foldedSetIterable iter X.env x=pure x:=by intro _;rfl):QE X (.ListComp elt [⟨tg,iter,ifs,0⟩] scope pos) (kr own.length caps wi g tf te):=⟨Bh hc S cp hi.h (λC s H fp pn=>(hg C s H fp pn).h) (λC s H fp pn=>(ht C s H fp pn).h) (λC s H fp pn=>(he C s H fp pn).h) hs⟩
end
section
variable {X:Cx} {H:Hp} {s:Shared}
def zB{i:Nat}{x:Str}{own ns:List Str}{caps:List Nat}{elt tg iter:Expr}{ifs:List Expr}{scope:Scope}{pos pos' spos:Pos}{wi:TI}{g:TG}{tf:TT}{te:TE}(hN:X.N.Nodup)(hi:X.N[i]? = some x)(hx:Loc X.env.scope x)(hc:X.calm=true)(S:l4 scope ns)(cp:k0 X scope ns caps)(hit:QI X tg iter wi)(hg:∀C s H fp pn,QG (qO X (own++ns) scope C s H fp pn) tg g)(ht:∀C s H fp pn,QF (qO X (own++ns) scope C s H fp pn) ifs tf)(he:∀C s H fp pn,QE (qO X (own++ns) scope C s H fp pn) elt te)(hs:∀x,foldedSetIterable iter X.env x=pure x:=by intro _;rfl)(hsw:swapsWith (.ListComp elt [⟨tg,iter,ifs,0⟩] scope pos) (some (.Name x pos')) spos.line X.env=pure true:=by rfl)(hf:X.fn x=true\/X.env.scope.names.lookup x=some .local:=by first | exact .inl rfl | exact .inr rfl | assumption):QS X (.Assign [.Name x pos'] (.ListComp elt [⟨tg,iter,ifs,0⟩] scope pos) spos) (sZ (kr own.length caps wi g tf te) (mZ i)):=⟨B3 hN hi hx hc S cp hit.h (λC s H fp pn=>(hg C s H fp pn).h) (λC s H fp pn=>(ht C s H fp pn).h) (λC s H fp pn=>(he C s H fp pn).h) hs hsw hf⟩
end
section
variable {X:Cx} {K:Kw}
def zE{es:List Expr}{k:Nat}{t:ve}{n:Nat}{pos:Pos}(hK:X.K=K)(hc:X.calm=true)(h:GY X es t)(hn:(assignEach es X.env).length=n:=by rfl)(hst:(assignEach es X.env).findIdx? (·.1)=none:=by rfl):QG X (.Tuple es k pos) (AZ K n t):=⟨Bd hK hc h.h hn hst⟩
end
section
def wG {X:Cx} {x:Str} {K:Kw} {xs:List V} {pos:Pos} (hg:Gl X x) (hm:∃a,X.mg x=some (.ref a)/\∀H,dr K H a xs) (hd:(x==("__debug__":Str))=false:=by decide):QE X (.Name x pos) (sV K xs):=⟨zV hg hm hd⟩
end
section
def cm{X:Cx}{st:Stmt}{rest:List Stmt}{t u:TS}(h1:QS X st t)(h2:jK X rest u):jK X (st::rest) (D6 t u):=⟨B2 h1.h h2.h⟩
end
section
variable {X:Cx} {es:List Expr} {te:TE} {t:TA}
def cG{a0:PySem.Expr}{a1:PySem.Operator}{a2:PySem.Expr}{a3:PySem.Pos}(ha:QE X (Expr.BinOp a0 a1 a2 a3) te)(hr:QA X es t):QA X ((Expr.BinOp a0 a1 a2 a3)::es) (dh te t):=⟨zc ha.h hr.h⟩
end
section
variable {X:Cx} {es:List Expr} {te:TE} {t:TA}
def mX{a0:PySem.UnaryOp}{a1:PySem.Expr}{a2:PySem.Pos}(ha:QE X (Expr.UnaryOp a0 a1 a2) te)(hr:QA X es t):QA X ((Expr.UnaryOp a0 a1 a2)::es) (dh te t):=⟨tL ha.h hr.h⟩
end
section
variable {X:Cx} {es:List Expr} {te:TE} {t:TA}
def gw{a0:PySem.Expr}{a1:List Comprehension}{a2:PySem.Scope}{a3:PySem.Pos}(ha:QE X (Expr.ListComp a0 a1 a2 a3) te)(hr:QA X es t):QA X ((Expr.ListComp a0 a1 a2 a3)::es) (dh te t):=⟨rE ha.h hr.h⟩
end
section
variable {X:Cx} {es:List Expr} {te:TE} {t:TA}
def eY{a0:PySem.Expr}{a1:List CmpOp}{a2:List Expr}{a3:PySem.Pos}(ha:QE X (Expr.Compare a0 a1 a2 a3) te)(hr:QA X es t):QA X ((Expr.Compare a0 a1 a2 a3)::es) (dh te t):=⟨tM ha.h hr.h⟩
end
section
variable {X:Cx} {es:List Expr} {te:TE} {t:TA}
def dR{a0:PySem.Expr}{a1:List Expr}{a2:List Keyword}{a3:PySem.Pos}(ha:QE X (Expr.Call a0 a1 a2 a3) te)(hr:QA X es t):QA X ((Expr.Call a0 a1 a2 a3)::es) (dh te t):=⟨Bo ha.h hr.h⟩
end
section
variable {X:Cx} {es:List Expr} {te:TE} {t:TA}
def bc{a0:PySem.Const}{a1:Nat}{a2:PySem.Pos}(ha:QE X (Expr.Constant a0 a1 a2) te)(hr:QA X es t):QA X ((Expr.Constant a0 a1 a2)::es) (dh te t):=⟨rF ha.h hr.h⟩
end
section
variable {X:Cx} {es:List Expr} {te:TE} {t:TA}
def bT{a0:PySem.Expr}{a1:PySem.Expr}{a2:PySem.Pos}(ha:QE X (Expr.Subscript a0 a1 a2) te)(hr:QA X es t):QA X ((Expr.Subscript a0 a1 a2)::es) (dh te t):=⟨qC ha.h hr.h⟩
end
section
variable {X:Cx} {es:List Expr} {te:TE} {t:TA}
def aD{a0:PySem.Str}{a1:PySem.Pos}(ha:QE X (Expr.Name a0 a1) te)(hr:QA X es t):QA X ((Expr.Name a0 a1)::es) (dh te t):=⟨Bl ha.h hr.h⟩
end
section
variable {X:Cx} {es:List Expr} {te:TE} {t:TA}
def ly{a0:List Expr}{a1:PySem.Pos}(ha:QE X (Expr.List a0 a1) te)(hr:QA X es t):QA X ((Expr.List a0 a1)::es) (dh te t):=⟨Bm ha.h hr.h⟩
end
section
variable {X:Cx} {es:List Expr} {te:TE} {t:TA}
def mL{a0:List Expr}{a1:Nat}{a2:PySem.Pos}(ha:QE X (Expr.Tuple a0 a1 a2) te)(hr:QA X es t):QA X ((Expr.Tuple a0 a1 a2)::es) (dh te t):=⟨zb ha.h hr.h⟩
end
section
variable {X:Cx} {es:List Expr} {te:TE} {t:TA}
def zH{a0:List (Option Expr)}{a1:List Expr}{a2:PySem.Pos}(ha:QE X (Expr.Dict a0 a1 a2) te)(hr:QA X es t):QA X ((Expr.Dict a0 a1 a2)::es) (dh te t):=⟨Bn ha.h hr.h⟩
end
section
variable {X:Cx} {o i:Expr} {pos:Pos} {td ty:TE}
def kP(hu:X.A.units+1<cLine)(ho:QE X o td)(hi:QE X i ty)(hs:Et i):QE X (.Subscript o i pos) (y4 td ty):=⟨Bg hu ho.h hi.h hs⟩
end
section
variable {X:Cx} {o i value:Expr} {pos pos':Pos} {td ty tv:TE}
def lw(hu:X.A.units+1<cLine)(ho:QE X o td)(hi:QE X i ty)(hv:QE X value tv)(hs:swapsWith value (some (.Subscript o i pos')) pos.line X.env=pure false):QS X (.Assign [.Subscript o i pos'] value pos) (yt td ty tv):=⟨B5 hu ho.h hi.h hv.h hs⟩
end
section
variable {X:Cx} {pos:Pos}
def wI  : QE X (.Dict [] [] pos) sX:=⟨zY ⟩
end
section
variable {X:Cx} {pos:Pos}
def wH  : QE X (.Dict [] [] pos) sW:=⟨zX ⟩
end
section
def zC{X:Cx}{pos:Pos}:C5 X pos [] [] []:=⟨B6 ⟩
end
section
def og{X:Cx}{pos:Pos}{k v:Expr}{ks:List (Option Expr)}{vs:List Expr}{tk tv:TE}{trs:List (TE×TE)}(hk:QE X k tk)(hv:QE X v tv)(hr:C5 X pos ks vs trs):C5 X pos (some k::ks) (v::vs) ((tk,tv)::trs):=⟨zN hk.h hv.h hr.h⟩
end
section
def zF{X:Cx}{pos:Pos}{keys:List (Option Expr)}{values:List Expr}{trs:List (TE×TE)}(h:C5 X pos keys values trs)(hall:keys.all (·.isSome)=true)(hl:keys.length=values.length)(h0:keys≠[])(h15:keys.length<=15):QE X (.Dict keys values pos) (y3 trs):=⟨Bf h.h hall hl h0 h15⟩
end
section
variable {X:Cx}
def tF{k d:Expr}{ty td:TE}{pos:Pos}(hu:X.A.units+1<cLine)(hk:QE X k ty)(hd:QE X d td)(hm:behindInMarks .NotIn d=false:=by first | rfl | with_unfolding_all rfl):QT X (.Compare k [.NotIn] [d] pos) (tB (m9 ty td)):=⟨wK hu hk.h hd.h hm⟩
end
section
def rC {X:Cx} {e:Expr} {te:TE} {p p2 pos2 pos:Pos} (hc:X.calm=true) (hgl:Gl X "list") (hml:X.mg "list"=none) (hgr:Gl X "reversed") (hmr:X.mg "reversed"=none) (he:QE X e te) (hs:starEach [.Call (.Name "reversed" p2) [e] [] pos2] X.env=[(false,eval (.Call (.Name "reversed" p2) [e] [] pos2) X.env)]:=by rfl) (hs2:starEach [e] X.env=[(false,eval e X.env)]:=by rfl):QE X (.Call (.Name "list" p) [.Call (.Name "reversed" p2) [e] [] pos2] [] pos) (DZ te):=⟨tK hc hgl hml hgr hmr he.h hs hs2⟩
end
open AutoSeq1 (wpAny_loadPart')
section
variable {X:Cx} {pins:List (Addr×Obj)} {σ:St} {H:Hp} {s:Shared} {h':Heap}
def bY.turnAll{fp:List Addr}{t':Nat}(I:bY X pins σ H s)(hf:∀b∈fp,l3 X pins H b)(k:∀b u,b∉fp->s.heap.get? b=some u->h'.get? b=some u):bY X pins σ H { s with heap:=h',toks:=t' }:=by
 have nfp:∀b u,H b=some u->b∉fp:=λb u e z=>by rw[(hf b z).1] at e;cases e
 refine I.step (g':=s.gens) (d':=s.drawn) (ch:=fp) (λb hb=>?_) (λb o _ _ hc e _=>k b o hc e) (λb o _ _ hc e _=>⟨o.slots,k b o hc e⟩) (λ_ _ _ _ n=>n)
  (λb o hc e=>⟨o,k b o hc e⟩) (λ_ _ e=>e) (λ_ _ _ e=>e) (λb ps e=>⟨#[],by rw[e];simp⟩) (λm hm=>?_) (λb u e=>?_) I.bare
 ·obtain⟨_,f1,_,f3,f4,f5⟩:=hf b hb;exact⟨f3,f1,f4,f5⟩
 ·obtain⟨ob,es,ep,ho,r⟩:=hm;exact⟨ob,es,ep,k _ ob (λz=>(hf _ z).2.1 rfl) ho,r⟩
 ·refine(I.hok b u e).stay (λc v hc q=>k c v ?_ q) (λ_ q=>q) λ_ _ q=>q;rcases hc with z | z
  ·rw[z];exact nfp b u e
  ·exact nfp c _ z
end
def G9(K:Kw)(a:Addr):It:=
 ⟨λi H=>∃xs x,dr K H a xs/\xs[i]? = some x,λi H v H'=>∃p x,H p=none/\(∀xs,dr K H a xs->xs[i]? = some x)/\v=.ref p/\H'=upd H p (.tup [.int i,x]),λi H=>∃xs,dr K H a xs/\xs.length=i⟩
def Ed(K:Kw)(ta:TA):TI:=λσ H R=>ta σ H λvs H1=>∃a,vs=[.ref a]/\(∃xs,dr K H1 a xs)/\R (G9 K a) H1
def Ho(K:Kw)(a b:Addr):It:=
  ⟨λi H=>∃xs ys x y,cL K H a xs/\cL K H b ys/\xs[i]? = some x/\ys[i]? = some y,
   λi H v H'=>∃p x y,H p=none/\(∀xs,cL K H a xs->xs[i]? = some x)/\(∀ys,cL K H b ys->ys[i]? = some y)/\v=.ref p/\H'=upd H p (.tup [x,y]),
   λi H=>∃xs ys,cL K H a xs/\cL K H b ys/\(xs.length<=i\/ys.length<=i)⟩
def HV(K:Kw)(ta:TA):TI:=λσ H R=>ta σ H λvs H1=>∃a b,vs=[.ref a,.ref b]/\(∃xs,cL K H1 a xs)/\(∃ys,cL K H1 b ys)/\R (Ho K a b) H1
end L2
namespace L2
open PySem PySem.Spec PyProof.Rows HT
section
variable {σ:St} {H:Hp} {D:Ends} {K:Kw}
def uU{ta:TA}{g:TG}{tb:TS}:mI (Ed K ta) g tb D σ H=ta σ H λvs H1=>∃a,vs=[.ref a]/\(∃xs,dr K H1 a xs)/\kq (G9 K a) g tb D σ H1:=rfl
def uW{k:Nat}{caps:List Nat}{ta:TA}{g:TG}{tf:TT}{te:TE}{Q:VK}:kr k caps (HV K ta) g tf te σ H Q=ta σ H λvs H1=>∃a b,vs=[.ref a,.ref b]/\(∃xs,cL K H1 a xs)/\(∃ys,cL K H1 b ys)/\ju (Ho K a b) g tf te Q (g6 k caps σ) H1:=rfl
end
end L2
namespace L2
open PySem PySem.Spec PyProof.Rows
structure ni (z TI TO i1 i2:Addr) (f1 f2:List Addr):Prop where
 tz:TI≠z
 oz:TO≠z
 az:i1≠z
 bz:i2≠z
 to:TI≠TO
 ta:TI≠i1
 tb:TI≠i2
 oa:TO≠i1
 ob:TO≠i2
 ab:i1≠i2
 z1:z∉f1
 o1:TO∉f1
 b1:i2∉f1
 z2:z∉f2
 o2:TO∉f2
 a2:i1∉f2
section
variable {prog:Program} {w:World} {A:Around} {E:Value->Shared->Prop} {s:Shared} {z TI TO i1 i2:Addr} {f1 f2:List Addr} {n1 n2 k:Nat} {P1 P2:Nat->Value->Prop} {S1 S2:Nat->Heap->Prop} {a b:Value}
def dv{it:Addr}{fp:List Addr}{n i:Nat}{P:Nat->Value->Prop}{S:Nat->Heap->Prop}{h h':Heap}{c:Addr}(D:Draws prog w A it fp n P S)(st:S i h)(sb:Heap.SameBut c h h')(hc:c∉fp):S i h':=
 D.frame i h h' st λb hb o e=>(sb.2 b (λq=>hc (q▸hb))).trans e
def vh{Q:Value->Shared->Prop}(D1:Draws prog w A i1 f1 n1 P1 S1)(D2:Draws prog w A i2 f2 n2 P2 S2)(ap:ni z TI TO i1 i2 f1 f2)(hz:IsZip s.heap z TI TO .none)(hTI:IsPair s.heap TI (.ref i1) (.ref i2))(hTO:IsPair s.heap TO a b)(h1:S1 k s.heap)(h2:S2 k s.heap)(k1:k<n1)(k2:k<n2)
  (hQ:∀(h':Heap) (x y:Value) (tk:Nat),P1 k x->P2 k y->IsZip h' z TI TO (rawInt s.heap.objs.size)->IsPair h' TO x y->S1 (k+1) h'->S2 (k+1) h'->IsPair h' s.heap.objs.size x y->(∀c o,c≠z->c≠TO->c≠i1->c≠i2->s.heap.get? c=some o->h'.get? c=some o)->Q (.ref s.heap.objs.size) { s with heap:=h',toks:=tk }) :
  wpAny (model prog w) A (Builtin.«zip.__next__» ⟨[.ref z],[]⟩) (λfin s'=>∃v,fin=.done (.ret v)/\Q v s') E s:=by
 show wpAny _ _ (field (.ref z) 2>>=_) _ _ _;refine wpAny_bind (Ki hz rfl (x:=.bool false) rfl ?_);show wpAny _ _ (field (.ref z) 3>>=_) _ _ _;refine wpAny_bind (Ki hz rfl (x:=.ref TI) rfl ?_);refine wpAny_bind (Kh hTI rfl ?_);show wpAny _ _ (Builtin.SmallTypes.ownedTupleIsFree (.ref z)>>=_) _ _ _;refine wpAny_bind ?_;unfold Builtin.SmallTypes.ownedTupleIsFree;refine wpAny_bind (Ki hz rfl (x:=.none) rfl (K6 ?_));simp only[Ku];refine wpAny_bind (wpAny_rule ?_);refine wpAny_bind (Ki hz rfl (x:=.ref TO) rfl ?_);refine wpAny_bind (Kj hz (by simp) λg1 hz1 b1=>?_)
 replace hz1:IsZip g1 z TI TO .ellipsis:=hz1
 refine wpAny_bind ?_;simp only[List.zipIdx_cons,List.zipIdx_nil,gm,List.forIn_nil];refine wpAny_bind (wpAny_bind (wpAny_onRaise ?_));show wpAny _ _ (Builtin.SmallTypes.nextOf (.ref i1)>>=_) _ _ _;refine wpAny_bind (D1.item k { s with heap:=g1 } _ _ k1 (dv D1 h1 b1 ap.z1) λx g2 t2 px s2 b2=>K6 ?_);have hT2:IsPair g2 TO a b:=b2.extBut _ _ ap.oa (b1.extBut _ _ ap.oz hTO);refine wpAny_bind (Kh hT2 rfl ?_);refine wpAny_bind (wpAny_updateSeq_pair hT2 λg3 hT3 b3=>?_)
 replace hT3:IsPair g3 TO x b:=hT3
 refine wpAny_bind (wpAny_letGo (K6 ?_));refine wpAny_bind (wpAny_bind (wpAny_onRaise ?_));show wpAny _ _ (Builtin.SmallTypes.nextOf (.ref i2)>>=_) _ _ _;refine wpAny_bind (D2.item k { s with heap:=g3,toks:=t2 } _ _ k2 (dv D2 (dv D2 (dv D2 h2 b1 ap.z2) b2 ap.a2) b3 ap.o2) λy g4 t4 py s4 b4=>K6 ?_);have hT4:IsPair g4 TO x b:=b4.extBut _ _ ap.ob hT3;refine wpAny_bind (Kh hT4 rfl ?_);refine wpAny_bind (wpAny_updateSeq_pair hT4 λg5 hT5 b5=>?_)
 replace hT5:IsPair g5 TO x y:=hT5
 refine wpAny_bind (wpAny_letGo (K6 (K6 ?_)));refine wpAny_bind (Kh hT5 rfl ?_);refine wpAny_bind (wpAny_newTuple ?_);have hsz:g5.objs.size=s.heap.objs.size:=by rw[b5.1,b4.1,b3.1,b2.1,b1.1]
 have hz5:IsZip g5 z TI TO .ellipsis:=b5.extBut _ _ ap.oz.symm (b4.extBut _ _ ap.bz.symm (b3.extBut _ _ ap.oz.symm (b2.extBut _ _ ap.az.symm hz1)));have kp5:∀c o,c≠z->c≠TO->c≠i1->c≠i2->s.heap.get? c=some o->g5.get? c=some o:=λc o c1 c2 c3 c4 e=>b5.extBut _ _ c2 (b4.extBut _ _ c4 (b3.extBut _ _ c2 (b2.extBut _ _ c3 (b1.extBut _ _ c1 e))));have w1:S1 (k+1) g5:=dv D1 (dv D1 (dv D1 s2 b3 ap.o1) b4 ap.b1) b5 ap.o1;have w2:S2 (k+1) g5:=dv D2 s4 b5 ap.o2;have zlt:z<g5.objs.size:=aQ hz5;show wpAny _ _ (Builtin.SmallTypes.ownedTupleHandOut (.ref z) (.ref g5.objs.size)>>=_) _ _ _;refine wpAny_bind ?_;unfold Builtin.SmallTypes.ownedTupleHandOut;have hz6:IsZip (g5.push { cls:=.type "tuple",data:=.seq #[x,y] }) z TI TO .ellipsis:=aA _ hz5;refine wpAny_bind (Kj hz6 (by simp) λg7 hz7 b7=>?_)
 replace hz7:IsZip g7 z TI TO (rawInt g5.objs.size):=hz7
 refine Kj hz7 (by simp) λg8 hz8 b8=>?_
 replace hz8:IsZip g8 z TI TO (rawInt g5.objs.size):=hz8
 have up:∀c o,c≠z->g5.get? c=some o->g8.get? c=some o:=λc o c1 e=>b8.extBut _ _ c1 (b7.extBut _ _ c1 (aA _ e));have hP:IsPair g8 g5.objs.size x y:=b8.extBut _ _ (fo zlt) (b7.extBut _ _ (fo zlt) (aR _ rfl));rw[hsz] at hz8 hP;refine K6 ⟨_,rfl,?_⟩;show Q (.ref g5.objs.size) _;rw[hsz];exact hQ g8 x y t4 px py hz8 (up _ _ ap.oz hT5) (D1.frame _ _ _ w1 λc hc o e=>up c o (λq=>ap.z1 (q▸hc)) e) (D2.frame _ _ _ w2 λc hc o e=>up c o (λq=>ap.z2 (q▸hc)) e) hP λc o c1 c2 c3 c4 e=>up c o c1 (kp5 c o c1 c2 c3 c4 e)
def xO{Q:Fin->Shared->Prop}(D1:Draws prog w A i1 f1 n1 P1 S1)(ap:ni z TI TO i1 i2 f1 f2)(hz:IsZip s.heap z TI TO .none)(hTI:IsPair s.heap TI (.ref i1) (.ref i2))(h1:S1 n1 s.heap)
  (hE:∀h' e,(∀c o,c≠z->c≠i1->s.heap.get? c=some o->h'.get? c=some o)->(∃o,h'.get? e=some o/\o.cls=.type "StopIteration")->E (.ref e) { s with heap:=h' }):wpAny (model prog w) A (Builtin.«zip.__next__» ⟨[.ref z],[]⟩) Q E s:=by
 show wpAny _ _ (field (.ref z) 2>>=_) _ _ _;refine wpAny_bind (Ki hz rfl (x:=.bool false) rfl ?_);show wpAny _ _ (field (.ref z) 3>>=_) _ _ _;refine wpAny_bind (Ki hz rfl (x:=.ref TI) rfl ?_);refine wpAny_bind (Kh hTI rfl ?_);show wpAny _ _ (Builtin.SmallTypes.ownedTupleIsFree (.ref z)>>=_) _ _ _;refine wpAny_bind ?_;unfold Builtin.SmallTypes.ownedTupleIsFree;refine wpAny_bind (Ki hz rfl (x:=.none) rfl (K6 ?_));simp only[Ku];refine wpAny_bind (wpAny_rule ?_);refine wpAny_bind (Ki hz rfl (x:=.ref TO) rfl ?_);refine wpAny_bind (Kj hz (by simp) λg1 hz1 b1=>?_)
 replace hz1:IsZip g1 z TI TO .ellipsis:=hz1
 refine wpAny_bind ?_;simp only[List.zipIdx_cons,List.zipIdx_nil,gm,List.forIn_nil];refine wpAny_bind (wpAny_bind (wpAny_onRaise ?_));show wpAny _ _ (Builtin.SmallTypes.nextOf (.ref i1)>>=_) _ _ _;refine wpAny_bind (D1.done { s with heap:=g1 } _ _ (dv D1 h1 b1 ap.z1) λg2 e b2 he=>?_);obtain⟨oe,hoe,hce⟩:=he;have hz2:IsZip g2 z TI TO .ellipsis:=b2 _ _ ap.az.symm hz1;have hez:e≠z:=λx=>by subst x;rw[hz2] at hoe;cases hoe;simp at hce
 exact Kj hz2 (by simp) λg3 _ b3=>hE g3 e (λc o c1 c3 x=>b3.extBut _ _ c1 (b2 _ _ c3 (b1.extBut _ _ c1 x))) ⟨oe,b3.extBut _ _ hez hoe,hce⟩
def tZ{Q:Option Value->Shared->Prop}(D1:Draws prog w A.in1 i1 f1 n1 P1 S1)(D2:Draws prog w A.in1 i2 f2 n2 P2 S2)(ap:ni z TI TO i1 i2 f1 f2)(hz:IsZip s.heap z TI TO .none)(hTI:IsPair s.heap TI (.ref i1) (.ref i2))(hTO:IsPair s.heap TO a b)(h1:S1 k s.heap)(h2:S2 k s.heap)(k1:k<n1)(k2:k<n2)
  (hQ:∀(h':Heap) (x y:Value) (tk:Nat),P1 k x->P2 k y->IsZip h' z TI TO (rawInt s.heap.objs.size)->IsPair h' TO x y->S1 (k+1) h'->S2 (k+1) h'->IsPair h' s.heap.objs.size x y->(∀c o,c≠z->c≠TO->c≠i1->c≠i2->s.heap.get? c=some o->h'.get? c=some o)->Q (some (.ref s.heap.objs.size)) { s with heap:=h',toks:=tk }) :
  wpAny (model prog w) A (pyNext (.ref z)) Q E s:=by
 have hT:s.TypeIs (.ref z) "zip":=⟨_,hz,rfl⟩
 unfold pyNext;exact wpAny_bind (wpAny_attempt (wpAny_callSpecial?_slot (name:=Str.ofString "__next__") hT gn (wpAny_call_entry gn hT F.entry_zip_next (vh D1 D2 ap hz hTI hTO h1 h2 k1 k2 λh' x y tk q1 q2 q3 q4 q5 q6 q7 q8=>K6 (hQ h' x y tk q1 q2 q3 q4 q5 q6 q7 q8)) (F.args_zip_next_1 _))))
def wZ{Q:Option Value->Shared->Prop}(D1:Draws prog w A.in1 i1 f1 n1 P1 S1)(ap:ni z TI TO i1 i2 f1 f2)(hz:IsZip s.heap z TI TO .none)(hTI:IsPair s.heap TI (.ref i1) (.ref i2))(h1:S1 n1 s.heap)
  (hQ:∀h',(∀c o,c≠z->c≠i1->s.heap.get? c=some o->h'.get? c=some o)->Q none { s with heap:=h' }):wpAny (model prog w) A (pyNext (.ref z)) Q E s:=by
 have hT:s.TypeIs (.ref z) "zip":=⟨_,hz,rfl⟩
 unfold pyNext;refine wpAny_bind (wpAny_attempt (wpAny_callSpecial?_slot (name:=Str.ofString "__next__") hT gn (wpAny_call_entry gn hT F.entry_zip_next (xO D1 ap hz hTI h1 λh' e hk he=>?_) (F.args_zip_next_1 _))));obtain⟨o,ho,hc⟩:=he;exact wpAny_bind (wpAny_isInstance (T:="StopIteration") (b:=true) ⟨o,ho,hc⟩ isSubtype_stop (K6 (hQ _ hk)))
end
def G8(K:Kw)(a b:Addr):It:=
  ⟨λi H=>∃xs ys x y,dr K H a xs/\dr K H b ys/\xs[i]? = some x/\ys[i]? = some y,
   λi H v H'=>∃p x y,H p=none/\(∀xs,dr K H a xs->xs[i]? = some x)/\(∀ys,dr K H b ys->ys[i]? = some y)/\v=.ref p/\H'=upd H p (.tup [x,y]),
   λi H=>∃xs,dr K H a xs/\xs.length=i⟩
def GS(K:Kw)(ta:TA):TI:=λσ H R=>ta σ H λvs H1=>∃a b,vs=[.ref a,.ref b]/\(∃xs,dr K H1 a xs)/\(∃ys,dr K H1 b ys)/\R (G8 K a b) H1
def uT{K:Kw}{σ:St}{H:Hp}{D:Ends}{ta:TA}{g:TG}{tb:TS}:mI (GS K ta) g tb D σ H=ta σ H λvs H1=>∃a b,vs=[.ref a,.ref b]/\(∃xs,dr K H1 a xs)/\(∃ys,dr K H1 b ys)/\kq (G8 K a b) g tb D σ H1:=rfl
end L2
namespace Rm
open PySem L2
def yw(lo:Int)(n:Nat):(fI lo n).length=n:=by simp[fI]
def pP(d:PyData):Bool:=isI d&&!Gq d
def xR{K:Kw}{H:Hp}{x:V}{d:PyData}{Q:VK}{E:XK}(h:Dat H x d)(q:Q (.bl (pP d)) H):pW K [x] H Q E:=
 ⟨x,_,isI d,Gq d,rfl,h.ty,by cases h<;>rfl,by cases h<;>rfl,q⟩
def intOf:PyData->Int
 | .int n=>n
 | _=>0
def sR:∀{d:PyData},pP d=true->d=.int (intOf d)
 | .int n,_=>rfl
def yk:PyData->Bool
 | .str z=>decide (z=Str.ofString "l") || decide (z=Str.ofString "r")
 | _=>false
def AF{x:Int}{n:Nat}:x∈fI 1 n<->1<=x/\x<=n:=by
 unfold fI;rw[bI];constructor
 ·rintro⟨i,hi,rfl⟩;have:=cW.mp hi;lia
 ·rintro⟨h1,h2⟩;exact⟨(x - 1).toNat,cW.mpr (by lia),by lia⟩
def yx(n:Nat):(fI 1 n).Pairwise (·<=·):=by
 unfold fI;rw[ft,d6];intro i j hi hj hij;simp;lia
def tE(n:Nat):(fI 1 n).Nodup:=by
 unfold fI List.Nodup;rw[ft];exact(List.nodup_range (n:=n)).imp λh e=>h (by lia)
def pZ{ms ns:List Int}(hp:ms.Perm ns)(hs:ms.Pairwise (·<=·)):decide (ms=fI 1 ns.length)=ns.isPerm (fI 1 ns.length):=by
 by_cases h:ns.Perm (fI 1 ns.length)
 ·rw[jr.mpr h];exact Ks (PySem.W.ksm_same (hp.trans h) hs (yx _))
 ·have h2:ns.isPerm (fI 1 ns.length)=false:=by
   cases e:ns.isPerm (fI 1 ns.length) with
   | false=>rfl
   | true=>exact absurd (jr.mp e) h
  rw[h2];exact Kr λe=>h (e▸hp.symm)
def AL:(Str.ofString "l")=⟨#[108]⟩:=by decide +kernel
def AK:(Str.ofString "r")=⟨#[114]⟩:=by decide +kernel
def yj (d:PyData):([PyData.str (Str.ofString "l"),.str (Str.ofString "r")].any λe=>PyData.eqv e d)=yk d:=by
 cases d with
 | str z=>
  show (decide (Str.ofString "l"=z) || (decide (Str.ofString "r"=z) || false))=_;rw[ix];show _=(decide (z=Str.ofString "l") || decide (z=Str.ofString "r"))
  congr 1
  ·exact decide_eq_decide.mpr ⟨gx,gx⟩
  ·exact decide_eq_decide.mpr ⟨gx,gx⟩
 | _=>rfl
structure Pl (d:PyData) (n:Nat):Prop where
 lay:d.canLay0=true
 deep:d.depth<=n
def qo:Sp:=λvs H Q _=>∃x d,vs=[x]/\Dat H x d/\Pl d 60/\Q (.bl (yk d)) H
mutual
def HR:PyData->Bool
 | .list _=>false
 | .tuple ds=>Bv ds
 | .dict _=>false
 | _=>true
def Bv:List PyData->Bool
 | []=>true
 | d::ds=>HR d&&Bv ds
end
mutual
def CU{H:Hp}{l:Addr}{ys:List V}{o:HO}(hl:H l=some (.lst ys)):∀{x:V} {d:PyData},Dat H x d->HR d=true->Dat (upd H l o) x d
 | _,_,.non,_=>.non
 | _,_,.bl b,_=>.bl b
 | _,_,.int i,_=>.int i
 | _,_,.str x,_=>.str x
 | _,_,.tup h r,n=>.tup (by rw[a9 (zw h hl (by intro q;cases q))];exact h) (rm hl r n)
 | _,_,.lst h r,n=>nomatch n
def rm{H:Hp}{l:Addr}{ys:List V}{o:HO}(hl:H l=some (.lst ys)):∀{xs:List V} {ds:List PyData},iw H xs ds->Bv ds=true->iw (upd H l o) xs ds
 | _,_,.nil,_=>.nil
 | _,_,.cons h r,n=>by
  have n':(HR _&&Bv _)=true:=n;rw[cu] at n';exact .cons (CU hl h n'.1) (rm hl r n'.2)
end
def nR{H:Hp}:∀ns:List Int,iw H (ns.map V.int) (ns.map PyData.int)
 | []=>.nil
 | n::ns=>.cons (.int n) (nR ns)
end Rm
namespace L2
open PySem PySem.Spec PyProof.Rows
section
variable {σ:St} {H:Hp}
def DS{trs:List (TE×TE)}{Q:VK}:y3 trs σ H Q=∀p,H p=none->lI trs σ (upd H p (.dK [])) λps H2=>H2 p=some (.dK [])/\∃kvs:List (Key×V),ps=kvs.map (λkv=>(kV kv.1,kv.2))/\kvs.length<=15/\Q (.ref p) (upd H2 p (.dK (mP [] kvs))):=rfl
def FP{Q:List (V×V)->Hp->Prop}:lI [] σ H Q=Q [] H:=rfl
def FO{tk tv:TE}{r:List (TE×TE)}{Q:List (V×V)->Hp->Prop}:lI ((tk,tv)::r) σ H Q=tk σ H λx H1=>tv σ H1 λy H2=>lI r σ H2 λps H3=>Q ((x,y)::ps) H3:=rfl
def FN{r:V->Option Int->Option Int->Hp->VK->Prop}{te:TE}{tl th:TO}{Q:VK}:HC r te tl th σ H Q=te σ H λx H1=>tl σ H1 λl H2=>th σ H2 λu H3=>r x l u H3 Q:=rfl
def xZ{t:TE}{Q:Option Int->Hp->Prop}:yN t σ H Q=t σ H λx H1=>∃i,x=.int i/\Q (some i) H1:=rfl
def qW{Q:Option Int->Hp->Prop}:pR σ H Q=Q none H:=rfl
end
end L2
namespace Rm
open PySem L2
def sd (b:Bool):Str:=if b then Str.ofString "r" else Str.ofString "l"
def Fh (b:Bool):(sd b=Str.ofString "l")=(b=false):=by cases b<;>simp[sd,AL,AK]
def HG (b:Bool):(sd b=Str.ofString "r")=(b=true):=by cases b<;>simp[sd,AL,AK]
def E3:(Str.ofString "lr")=⟨#[108,114]⟩:=by decide +kernel
def GL {i:Int} (h0:0<=i) (h1:i<2):pL (Str.ofString "lr").cps.toList i=some (if i=1 then 114 else 108):=by
 have e:i=0\/i=1:=by lia
 rw[E3];rcases e with rfl | rfl<;>rfl
def GK(i:Int):(⟨#[if i=1 then 114 else 108]⟩:Str)=sd (decide (i=1)):=by
 by_cases h:i=1
 ·simp[h,sd,AK]
 ·simp[h,sd,AL]
def odd(i:Nat):Bool:=i % 2==1
def iO(i:Nat):odd (i+1)=!odd i:=by
 unfold odd;rcases bx i with h | h<;>simp[Nat.add_mod,h]
def eW(ns:List Int):List Int:=0::(ns++[(ns.length:Int)+1])
def mJ(ns:List Int):(eW ns).length=ns.length+2:=by simp[eW]
def bN(ns:List Int)(i:Nat):Int:=(eW ns).getD i 0
def fh(ns:List Int)(i:Nat):Bw:=(min (bN ns i) (bN ns (i+1)),max (bN ns i) (bN ns (i+1)))
def c9(b s:Bool)(i:Nat):Bool:=(b ^^ odd i)==s
def bu(b:Bool)(ns:List Int)(s:Bool)(m:Nat):List Bw:=((List.range m).filter (c9 b s)).map (fh ns)
def rH(b:Bool)(i:Nat):c9 b (b ^^ odd i) i=true:=by simp[c9]
structure mH (ns:List Int):Prop where
 len:ns.length<=20
 perm:ns.Perm (fI 1 ns.length)
def mH.mem{ns:List Int}(O:mH ns){x:Int}:x∈ns<->1<=x/\x<=ns.length:=O.perm.mem_iff.trans AF
def mH.rows_nodup{ns:List Int}(O:mH ns):(eW ns).Nodup:=by
 have nd:ns.Nodup:=O.perm.nodup_iff.mpr (tE _);unfold eW;rw[cX,ie];refine⟨λh=>?_,nd,by simp,λa ha b hb e=>?_⟩
 ·rcases aL.mp h with z | z
  ·have:=O.mem.mp z;lia
  ·have:(0:Int)=ns.length+1:=by simpa using z
   lia
 ·have:b=(ns.length:Int)+1:=by simpa using hb
  have:=O.mem.mp ha;lia
def mH.rows_mem{ns:List Int}(O:mH ns){x:Int}(h:x∈eW ns):0<=x/\x<=(ns.length:Int)+1:=by
 unfold eW at h;rcases aH.mp h with z | z
 ·lia
 ·rcases aL.mp z with z | z
  ·have:=O.mem.mp z;lia
  ·have:x=(ns.length:Int)+1:=by simpa using z
   lia
def fi{ns:List Int}{i:Nat}(h:i<ns.length+2):(eW ns)[i]? = some (bN ns i):=by
 unfold bN;have:i<(eW ns).length:=by rw[mJ];exact h
 simp[List.getD,this]
def mH.row_inj{ns:List Int}(O:mH ns){i j:Nat}(hi:i<ns.length+2)(hj:j<ns.length+2)(h:bN ns i=bN ns j):i=j:=by
 have h1:=aJ.mp (fi hi);have h2:=aJ.mp (fi hj);exact(List.getElem_inj O.rows_nodup (h₀:=h1.1) (h₁:=h2.1)).mp (h1.2.trans (h.trans h2.2.symm))
def mH.row_in{ns:List Int}(O:mH ns){i:Nat}(hi:i<ns.length+2):0<=bN ns i/\bN ns i<=(ns.length:Int)+1:=O.rows_mem (bP (fi hi))
def Dg(ns:List Int):bN ns 0=0:=rfl
def o8(ns:List Int):bN ns (ns.length+1)=(ns.length:Int)+1:=by simp[bN,eW,List.getD]
def yu{ns:List Int}{i:Nat}{x:Int}(h:(ns++[(ns.length:Int)+1])[i]? = some x):bN ns (i+1)=x:=by simp only[bN,eW,List.getD,ff,h];rfl
def mK{ns:List Int}{i:Nat}{x:Int}(h:ns[i]? = some x):bN ns (i+1)=x:=yu (by rw[bK (aJ.mp h).1];exact h)
def mH.step_lt{ns:List Int}(O:mH ns){i:Nat}(hi:i<=ns.length):(fh ns i).1<(fh ns i).2:=by
 have:bN ns i≠bN ns (i+1):=λe=>by
  have:=O.row_inj (by lia) (by lia) e;lia
 show min (bN ns i) (bN ns (i+1))<max (bN ns i) (bN ns (i+1));lia
def mH.step_in{ns:List Int}(O:mH ns){i:Nat}(hi:i<=ns.length):0<=(fh ns i).1/\(fh ns i).2<=(ns.length:Int)+1:=by
 have h1:=O.row_in (i:=i) (by lia);have h2:=O.row_in (i:=i+1) (by lia);show 0<=min (bN ns i) (bN ns (i+1))/\max (bN ns i) (bN ns (i+1))<=_;lia
def lg{b:Bool}{ns:List Int}{s:Bool}{m:Nat}{p:Bw}(h:p∈bu b ns s m):∃i,i<m/\c9 b s i=true/\p=fh ns i:=by
 unfold bu at h;obtain⟨i,hi,rfl⟩:=bI.mp h;obtain⟨h1,h2⟩:=da.mp hi;exact⟨i,cW.mp h1,h2,rfl⟩
def lh{b:Bool}{ns:List Int}{s:Bool}{m i:Nat}(h:i<m)(hs:c9 b s i=true):fh ns i∈bu b ns s m:=
 bI.mpr ⟨i,da.mpr ⟨cW.mpr h,hs⟩,rfl⟩
def qM(x:Int)(p:Bw):Bool:=decide (x=p.1) || decide (x=p.2)
def mH.has_iff{ns:List Int}(O:mH ns){i j:Nat}(hi:i<ns.length+2)(hj:j<=ns.length):qM (bN ns i) (fh ns j)=decide (j=i\/j+1=i):=by
 have e:qM (bN ns i) (fh ns j)=decide (bN ns i=bN ns j\/bN ns i=bN ns (j+1)):=by
  show (decide (bN ns i=min (bN ns j) (bN ns (j+1))) || decide (bN ns i=max (bN ns j) (bN ns (j+1))))=_;rw[<-Bool.decide_or];exact decide_eq_decide.mpr (by lia)
 rw[e];refine decide_eq_decide.mpr ⟨λh=>?_,λh=>?_⟩
 ·rcases h with h | h
  ·exact .inl (O.row_inj hi (by lia) h).symm
  ·exact .inr (O.row_inj hi (by lia) h).symm
 ·rcases h with rfl | rfl
  ·exact .inl rfl
  ·exact .inr rfl
def o9{k:Nat}:∀{m:Nat},k<m->(List.range m).filter (λj=>decide (j=k))=[k]
 | m+1,h=>by
  rw[fQ,fX];by_cases e:k=m
  ·subst e;have:(List.range k).filter (λj=>decide (j=k))=[]:=ji.mpr λx hx=>by have:=cW.mp hx;simp;lia
   simp[this]
  ·have hm:¬m=k:=λz=>e z.symm;rw[o9 (m:=m) (by lia)];simp[hm]
def qG{b s:Bool}{j k:Nat}(h1:c9 b s j=true)(h2:c9 b s k=true)(h:j=k+1):False:=by
 subst h;simp only[c9,iO,beq_iff_eq] at h1 h2;cases b<;>cases s<;>cases hk:odd k<;>simp[hk] at h1 h2
def mH.only{ns:List Int}(O:mH ns){b s:Bool}{i k:Nat}(hk:k<=ns.length)(hs:c9 b s k=true)(h:k=i\/k+1=i):(bu b ns s (ns.length+1)).filter (qM (bN ns i))=[fh ns k]:=by
 unfold bu;rw[List.filter_map,List.filter_filter];have e:(List.range (ns.length+1)).filter (λa=>(qM (bN ns i)∘fh ns) a&&c9 b s a)=(List.range (ns.length+1)).filter (λj=>decide (j=k)):=by
  refine List.filter_congr λj hj=>?_;have hj:=cW.mp hj;show (qM (bN ns i) (fh ns j)&&c9 b s j)=_;rw[O.has_iff (by lia) (by lia)];by_cases e:j=k
  ·subst e;simp[hs,h]
  ·cases hsj:c9 b s j with
   | false=>simp[e]
   | true=>
    have:¬(j=i\/j+1=i):=λz=>by
     have:j=k+1\/k=j+1:=by lia
     rcases this with z | z
     ·exact qG hsj hs z
     ·exact qG hs hsj z
    simp[this,e]
 rw[e,o9 (by lia)];rfl
def gk(H:Hp)(m o:Addr)(b:Bool)(ns:List Int):Prop:=H m=some (.tup [.str (sd b),.ref o])/\H o=some (.tup (ns.map V.int))
def gk.same{H H':Hp}{m o:Addr}{b:Bool}{ns:List Int}(h:gk H m o b ns)(s:a6 H H'):gk H' m o b ns:=⟨s _ _ h.1,s _ _ h.2⟩
def uk:Sp:=λvs H Q _=>∃b,vs=[.str (sd b)]/\Q (.str (sd !b)) H
end Rm
namespace L2
open PySem PySem.Spec PyProof.Rows
def Fk:V->Option Int->Option Int->Hp->VK->Prop:=λx lo hi H Q=>∃z,x=.str z/\z.length<=sizeLine/\Q (.str (Txt.slice z lo hi)) H
section
variable {X:Cx}
def yg:Gu X Fk:=by
 intro pins s σ H x v vl vu lo hi sl Q I rx hs pl pu h;obtain⟨z,rfl,hz,q⟩:=h;obtain⟨t,rfl⟩:=rx;have fin:∀t' k,EP X pins σ Q (.str (Txt.slice z lo hi) t') { s with toks:=k }:=λt' k=>⟨.str _,H,I.tok k,⟨t',rfl⟩,q⟩
 refine⟨"str",_,F.slot_str_getitem.lookup,Kd _ _ _,?_⟩;cases pl with
 | none=>
  cases pu with
  | none=>exact wpAny_getItem_str_slice (l:=none) (u:=none) (st:=none) hs rfl (Kl ⟨av (jd z _ _) hz,fin⟩)
  | int j u=>exact wpAny_getItem_str_slice (l:=none) (u:=some (j,u)) (st:=none) hs rfl (Kl ⟨av (jd z _ _) hz,fin⟩)
 | int i w=>
  cases pu with
  | none=>exact wpAny_getItem_str_slice (l:=some (i,w)) (u:=none) (st:=none) hs rfl (Kl ⟨av (jd z _ _) hz,fin⟩)
  | int j u=>exact wpAny_getItem_str_slice (l:=some (i,w)) (u:=some (j,u)) (st:=none) hs rfl (Kl ⟨av (jd z _ _) hz,fin⟩)
def FM{z:Str}{lo hi:Option Int}{H:Hp}{Q:VK}:Fk (.str z) lo hi H Q=(z.length<=sizeLine/\Q (.str (Txt.slice z lo hi)) H):=
 propext ⟨λ⟨_,e,h⟩=>by cases e;exact h,λh=>⟨z,rfl,h⟩⟩
end
end L2
namespace Rm
open PySem L2
def wo(H:Hp)(m:Addr):Hp:=λb=>if b=m then none else H b
def pO(H:Hp)(m:Addr):a6 (wo H m) H:=λb o e=>by
 unfold wo at e;by_cases h:b=m
 ·rw[Ko h] at e;cases e
 ·rw[Kn h] at e;exact e
def uN(H:Hp)(m:Addr)(o:HO):wo (upd H m o) m=wo H m:=by
 funext b;unfold wo;by_cases h:b=m
 ·rw[Ko h,Ko h]
 ·rw[Kn h,Kn h,a9 h]
def sQ{H:Hp}{m t:Addr}{o:HO}(h:H t=none):a6 (wo H m) (wo (upd H t o) m):=λb u e=>by
 have e':=pO H m b u e;unfold wo at e ⊢;by_cases hb:b=m
 ·rw[Ko hb] at e;cases e
 ·rw[Kn hb,a9 (bF e' h)];exact e'
def Ca{H:Hp}{m t:Addr}{u:HO}(h:t≠m)(e:H t=some u):wo H m t=some u:=by unfold wo;rw[Kn h];exact e
def Az{H:Hp}{m:Addr}(h:H m=none):wo H m=H:=by
 funext b;unfold wo;by_cases e:b=m
 ·rw[Ko e,e,h]
 ·rw[Kn e]
end Rm
namespace L2
open PySem PySem.Spec PyProof.Rows PySem.Builtin PySem.Builtin.Str
def vn{prog:Program}{w:World}{A:Around}{E:Value->Shared->Prop}{s:Shared}{x y:Str}{t u:Tok}{Q:Value->Shared->Prop}(hy:(y.length==0)=false)(hsz:x.length+2<=sizeLine)
  (hq:∀(l:List (Str×Tok)) (k:Nat),l.map (·.1)=Txt.split x y->Q (.ref s.heap.objs.size) { s with heap:=s.heap.push { cls:=.type "list",data:=.seq (strValues l).toArray },toks:=k }) :
  wpAny (model prog w) A (call (.builtin "str.split") [.str x t,.str y u]) Q E s:=by
 have hle:=split_le x y;cases h1:(decide (x.length<y.length) || decide (strKind x<strKind y))
 ·cases hf:(occurrences x y 0 x.length (x.length+1)).isEmpty
  ·have es:Txt.split x y=partsBetween x (occurrences x y 0 x.length (x.length+1)) y.length:=(Kn (ne_true_of_eq_false h1)).trans (Kn (ne_true_of_eq_false hf));rw[es] at hle;refine Ke jX (Kd _ _ _) ii (iY _ _) (meets_str_split_sep x y t u h1 hy hf (av (Nat.le_add_right _ _) hsz) (av hle hsz)) ?_;show wants Q E _ { s with toks:=_,heap:=s.heap.push { cls:=.type "list",data:=.seq (strsFrom s.toks (partsBetween x (occurrences x y 0 x.length (x.length+1)) y.length)).toArray } };rw[strsFrom_eq];exact hq (numbered s.toks _) _ ((numbered_texts _ _).trans es.symm)
  ·exact Ke jX (Kd _ _ _) ii (iY _ _) (meets_str_split_not_found x y t u h1 hy hf)
    (hq [(x,t)] s.toks ((Kn (ne_true_of_eq_false h1)).trans (Ko hf)).symm)
 ·exact Ke jX (Kd _ _ _) ii (iY _ _) (meets_str_split_cannot_occur x y t u h1)
   (hq [(x,t)] s.toks (Ko h1).symm)
def l6:∀(l:List (Str×Tok)),cE ((l.map (·.1)).map V.str) (strValues l)
 | []=>.nil
 | (a,t)::l=>.cons ⟨t,rfl⟩ (l6 l)
section
variable {X:Cx}
def Dh:V->List V->Hp->VK->Prop:=λx vs H Q=>∃z y,x=.str z/\vs=[.str y]/\(y.length==0)=false/\z.length<=100000/\∀l,H l=none->Q (.ref l) (upd H l (.lst ((Txt.split z y).map V.str)))
def AC:Eu X "str.split" Dh:=by
 intro pins s σ H x xs v us Q I r rv h;obtain⟨z,y,rfl,rfl,hy,hz,q⟩:=h;obtain⟨t,rfl⟩:=r;obtain⟨u,rfl,t2,rfl⟩:=Kb rv;have hz2:z.length+2<=sizeLine:=by rw[Ka];lia
 refine vn hy hz2 λl k e=>?_;have hl:((Txt.split z y).map V.str).length<=sizeLine:=by rw[aB];exact av (split_le z y) hz2
 have hv:cE ((Txt.split z y).map V.str) (strValues l):=e▸l6 l;exact⟨.ref s.heap.objs.size,_,I.laid (λb o e=>aA _ e) (aE _) (show cg X.prog X.w _ _ _ (.lst _) from ⟨hl,strValues l,_,hv,aR _ rfl⟩),rfl,q _ (I.hok.fresh (aE _))⟩
def oQ (hc:X.calm=true):fg X (.type "list") (λxs H Q=>∃z,xs=[.str z]/\z.cps.size<=1000/\∀l,H l=none->Q (.ref l) (upd H l (.lst (z.cps.toList.map λc=>V.str ⟨#[c]⟩)))):=by
 intro pins s σ H xs us Q I r h;obtain⟨z,rfl,hz,q⟩:=h;obtain⟨u,rfl,t,rfl⟩:=Kb r;have hz2:z.cps.size<=sizeLine:=ci (dC hz);refine call_list_str (I.ok.hd hc) z t (λh' tk acc' c' kp e' hit=>?_) hz2;have hv:cE (z.cps.toList.map λc=>V.str ⟨#[c]⟩) acc'.toList:=by
  refine u6 (by simp[hit.1]) λi x u h1 h2=>?_;obtain⟨c,t',hc',rfl⟩:=hit.2 i u (by simpa using h2);have:x=V.str ⟨#[c]⟩:=by
   rw[ar] at h1;have:z.cps.toList[i]? = some c:=by simpa using hc'
   rw[this] at h1;exact(aa h1).symm
  subst this;exact⟨t',rfl⟩
 have hl:(z.cps.toList.map λc=>V.str ⟨#[c]⟩).length<=sizeLine:=by simpa using hz2
 exact⟨.ref s.heap.objs.size,_,I.laid kp (aE _) (show cg X.prog X.w _ h' _ (.lst _) from ⟨hl,acc'.toList,c',hv,by simpa using e'⟩),rfl,q _ (I.hok.fresh (aE _))⟩
def Fo(K:Kw):List V->Hp->VK->Prop:=λxs H Q=>∃(p:Addr) (ns:List Int),xs=[.ref p]/\cL K H p (ns.map V.int)/\0<ns.length/\∀M,M∈ns->(∀a∈ns,a<=M)->Q (.int M) H
def uG (hc:X.calm=true):fg X (.builtin "max") (Fo X.K):=by
 intro pins s σ H xs us Q I r h;obtain⟨p,ns,rfl,hq,hn,q⟩:=h;obtain⟨u,rfl,rx⟩:=Kb r;cases rx;obtain⟨its,rv,pl,hz⟩:=I.list hq;have hi:=jI rv;have hl:=pl.isList;obtain⟨xs,e⟩:=hi.allInts.items;have hns:ns=xs.toList.map (·.1):=by rw[<-hi.numsOf,<-nums_intItems,<-e]
 have hsz:0<xs.size:=by
  have h3:=hn;rw[hns,aB,cj] at h3;exact h3
 rw[e] at hl;refine max_intList (I.ok.hd hc) hl hsz λv h' tk hv hk=>?_;obtain⟨t,rfl⟩:=intItems_at hv;obtain⟨h1,h2⟩:=argBest_gt (numAt xs) (xs.size - 1);refine⟨.int _,H,I.kept hk,⟨t,rfl⟩,q _ ?_ λa ha=>?_⟩
 ·rw[hns,numAt_eq];exact getD_mem (by rw[aB,cj];lia)
 ·rw[hns] at ha;obtain⟨j,hj,rfl⟩:=mem_getD ha;rw[aB,cj] at hj;rw[<-numAt_eq];exact h2 j (by lia)
end
abbrev Ge (h:Heap) (l:Addr):Heap:=h.push { cls:=.type "list_iterator",data:=.fields #[.ref l,.int 0 0] }
abbrev Gd (h:Heap) (l:Addr) (z:Str) (t:Tok):Heap:=(Ge h l).push { cls:=.type "str_ascii_iterator",data:=.fields #[.str z t,.int 0 0] }
abbrev Gc (h:Heap) (l:Addr) (z:Str) (t:Tok):Heap:=(Gd h l z t).push { cls:=.type "tuple",data:=.seq #[.ref h.objs.size,.ref (Ge h l).objs.size] }
abbrev Gb (h:Heap) (l:Addr) (z:Str) (t:Tok):Heap:=(Gc h l z t).push { cls:=.type "tuple",data:=.seq #[.none,.none] }
abbrev Ey (h:Heap) (l:Addr) (z:Str) (t:Tok):Heap:=(Gb h l z t).push { cls:=.type "zip",data:=.fields #[.none,.bool false,.bool false,.ref (Gd h l z t).objs.size,.ref (Gc h l z t).objs.size] }
def CC (l1:Addr) (xs:Array Value) (z:Str) (t:Tok) (ha:z.cps.all (·<128)=true):Meets (Builtin.«zip.__new__» ⟨[.type "zip",.ref l1,.str z t],[]⟩) (λ_ R s=>s.heap.IsList l1 xs/\R (.ok (.ret (.ref (Gb s.heap l1 z t).objs.size))) { s with heap:=Ey s.heap l1 z t }):=.of_wp λprog w A R s h=>by
  obtain⟨hp,g,d,tk,os⟩:=s;obtain⟨hl1,h⟩:=h;have hsub:=sub_zip;have hL1:Heap.IsList (Shared.heap ⟨hp,g,d,tk,os⟩) l1 xs:=hl1
  wp_walk using wpAny_pyIter_list hL1,wpAny_pyIter_ascii ha;exact⟨_,rfl,h⟩
def Ej{prog:Program}{w:World}{A:Around}{E:Value->Shared->Prop}{s:Shared}{l1:Addr}{xs:Array Value}{z:Str}{t:Tok}{Q:Value->Shared->Prop}(ha:z.cps.all (·<128)=true)(hl1:s.heap.IsList l1 xs)
  (h:∀h' n,n=s.heap.objs.size->IsZip h' (n+4) (n+2) (n+3) .none->IsPair h' (n+2) (.ref n) (.ref (n+1))->IsPair h' (n+3) .none .none->h'.IsListIter n l1 0->h'.IsStrIter (n+1) "str_ascii_iterator" z t 0->(∀c o,s.heap.get? c=some o->h'.get? c=some o)->Q (.ref (n+4)) { s with heap:=h' }):wpAny (model prog w) A (call (.type "zip") [.ref l1,.str z t]) Q E s:=by
 refine callType_new F.called_zip (by decide) (F.typeCall_zip_2 _ _) (F.newCall_zip_2 _ _) (λobj=>F.args_object_init_3 obj _ _) F.entry_zip_new (CC l1 xs z t ha) ⟨hl1,?_⟩;have z1:(Ge s.heap l1).objs.size=s.heap.objs.size+1:=ef ..;have z2:(Gd s.heap l1 z t).objs.size=s.heap.objs.size+2:=by rw[ef,z1]
 have z3:(Gc s.heap l1 z t).objs.size=s.heap.objs.size+3:=by rw[ef,z2]
 have z4:(Gb s.heap l1 z t).objs.size=s.heap.objs.size+4:=by rw[ef,z3]
 have g5:(Ey s.heap l1 z t).get? (Gb s.heap l1 z t).objs.size=some _:=aR _ rfl;have g4:(Ey s.heap l1 z t).get? (Gc s.heap l1 z t).objs.size=some _:=aA _ (aR _ rfl);have g3:(Ey s.heap l1 z t).get? (Gd s.heap l1 z t).objs.size=some _:=aA _ (aA _ (aR _ rfl));have g2:(Ey s.heap l1 z t).get? (Ge s.heap l1).objs.size=some _:=aA _ (aA _ (aA _ (aR _ rfl)));have g1:(Ey s.heap l1 z t).get? s.heap.objs.size=some _:=aA _ (aA _ (aA _ (aA _ (aR _ rfl))));show _/\_;rw[z2,z3,z4] at g5;rw[z1,z2] at g3;rw[z3] at g4;rw[z1] at g2;rw[z4];exact⟨⟨_,g5,rfl⟩,h _ _ rfl g5 g3 g4 ⟨_,g1,rfl,rfl⟩ ⟨_,g2,rfl,rfl⟩ λc o x=>aA _ (aA _ (aA _ (aA _ (aA _ x))))⟩
def C8(K:Kw)(a:Addr)(z:Str):It:=
  ⟨λi H=>∃xs x,cL K H a xs/\xs[i]? = some x/\i<z.cps.size,
   λi H v H'=>∃p x c,H p=none/\(∀xs,cL K H a xs->xs[i]? = some x)/\z.cps[i]? = some c/\v=.ref p/\H'=upd H p (.tup [x,.str ⟨#[c]⟩]),
   λi H=>∃xs,cL K H a xs/\xs.length=i⟩
def vi {P : Program} {w : World} {K : Kw} {elts : List Expr} {x1 : Nat} {pos : Pos} (n a : Addr) (ha : a < n) (z : Str) (t : Tok) :
    Turn P w K (.Tuple elts x1 pos) (C8 K a z) [n + 4, n + 2, n + 3, n, n + 1] (n + 4) (fun i h => IsZip h (n + 4) (n + 2) (n + 3) .none ∧ IsPair h (n + 2) (.ref n) (.ref (n + 1)) ∧ (∃ u v, IsPair h (n + 3) u v) ∧ h.IsListIter n a i ∧ h.IsStrIter (n + 1) "str_ascii_iterator" z t i) := by
  have hap : ni (n + 4) (n + 2) (n + 3) n (n + 1) [n, a] [n + 1] := by
    have h1 : @LT.lt Nat _ a n := ha
    constructor <;> first
      | (intro h; simp only [aH, c6, or_false] at h; rcases h with h | h <;> (have h' : @Eq Nat _ _ := h; lia))
      | (intro h; simp only [bC] at h; have h' : @Eq Nat _ _ := h; lia)
      | (intro h; have h' : @Eq Nat _ _ := h; lia)
  exact {
    mem := by simp
    obj := fun i h st c hb => by
      obtain ⟨h1, h2, ⟨u, v, h3⟩, ⟨o4, e4, c4, d4⟩, ⟨o5, e5, c5, d5⟩⟩ := st
      simp only [aH, c6, or_false] at hb
      rcases hb with rfl | rfl | rfl | rfl | rfl
      · exact ⟨_, h1, fun v z => by cases z⟩
      · exact ⟨_, h2, fun v z => by cases z⟩
      · exact ⟨_, h3, fun v z => by cases z⟩
      · exact ⟨o4, e4, fun v z => by rw [d4] at z; cases z⟩
      · exact ⟨o5, e5, fun v z => by rw [d5] at z; cases z⟩
    keep := fun i h h' st k => by
      obtain ⟨h1, h2, ⟨u, v, h3⟩, h4, ⟨o5, e5, r5⟩⟩ := st
      exact ⟨k _ (by simp) _ h1, k _ (by simp) _ h2, ⟨u, v, k _ (by simp) _ h3⟩, h4.at fun o e => k _ (by simp) o e, ⟨o5, k _ (by simp) o5 e5, r5⟩⟩
    item := by
      intro X hP hw hK hc i pins s σ H E I hf st hg
      subst hP hw hK
      obtain ⟨h1, h2, ⟨u0, v0, h3⟩, h4, h5⟩ := st
      obtain ⟨xs, x, hqa, hx, hi⟩ := hg
      obtain ⟨ia, ra, pa, _⟩ := I.list hqa
      obtain ⟨ua, hua, rua⟩ := ra.get hx
      have hA : X.A.in1.handled = none := I.ok.hd hc
      have la : i < ia.toArray.size := by rw [aP]; exact (aJ.mp hua).1
      refine tZ (Draws.list hA n a (aq ha) ia.toArray) (kZ hA (n + 1) z t) hap h1 h2 h3 ⟨h4, pa.isList⟩ h5 la hi fun h' x' y' tk e1 e2 hz ho hi1 hi2 hp kp => ?_
      have e1' : x' = ua := by have : ia[i]? = some x' := by simpa using e1
                               rw [hua] at this; cases this; rfl
      obtain ⟨c, u, hcx, e2'⟩ := e2
      subst e1' e2'
      refine ⟨_, rfl, wpAny_letOwnedTupleGo_zip hz fun hh hz2 hs2 => ?_⟩
      have hn : H s.heap.objs.size = none := I.hok.fresh (aE _)
      have lz : s.heap.objs.size ≠ n + 4 := fo (aQ h1)
      have ht2 : hh.get? s.heap.objs.size = some { cls := .type "tuple", data := .seq #[x', .str ⟨#[c]⟩ u] } := (hs2.2 _ lz).trans hp
      refine ⟨.ref s.heap.objs.size, upd H s.heap.objs.size (.tup [x, .str ⟨#[c]⟩]), I.turnNew (fp := [n + 4, n + 2, n + 3, n, n + 1]) hf (fun c o hb q => ?_) (aE _) (show cg X.prog X.w _ hh _ (.tup _) from ⟨(by show 2 ≤ sizeLine; decide), [x', .str ⟨#[c]⟩ u], .cons rua (.cons ⟨u, rfl⟩ .nil), _, ht2, rfl, _, rfl⟩), rfl, ⟨_, x, c, hn, fun zs hz => by rw [I.list_inj hz hqa]; exact hx, hcx, rfl, rfl⟩, ?_, fun c hb => ?_⟩
      · simp only [aH, c6, or_false, not_or] at hb
        exact (hs2.2 c hb.1).trans (kp c o hb.1 hb.2.2.1 hb.2.2.2.1 hb.2.2.2.2 q)
      · obtain ⟨o5, e5, r5⟩ := hi2
        exact ⟨hz2, (hs2.2 _ hap.tz).trans (kp _ _ hap.tz hap.to hap.ta hap.tb h2), ⟨_, _, (hs2.2 _ hap.oz).trans ho⟩, hi1.1.at fun o e => (hs2.2 _ hap.az).trans e, ⟨o5, (hs2.2 _ hap.bz).trans e5, r5⟩⟩
      · have hb' := (hf c hb).1
        rw [a9 (fun z => ?_)]
        · exact hb'
        · have hz4 : @LT.lt Nat _ (n + 4) s.heap.objs.size := aQ h1
          have z' : @Eq Nat c s.heap.objs.size := z
          simp only [aH, c6, or_false] at hb
          rcases hb with h | h | h | h | h <;> (have h' : @Eq Nat _ _ := h; lia)
    done := by
      intro X hP hw hK hc i pins s σ H E I hf st hg
      subst hP hw hK
      obtain ⟨h1, h2, ⟨u0, v0, h3⟩, h4, h5⟩ := st
      obtain ⟨xs, hqa, hx⟩ := hg
      obtain ⟨ia, ra, pa, _⟩ := I.list hqa
      have la := ra.length
      have hA : X.A.in1.handled = none := I.ok.hd hc
      have ei : ia.toArray.size = i := by rw [aP]; lia
      refine wZ (Draws.list hA n a (aq ha) ia.toArray) hap h1 h2 ⟨by rw [ei]; exact h4, pa.isList⟩ fun h' kp => ⟨rfl, I.turnAll (t' := s.toks) hf fun c o hb q => ?_⟩
      simp only [aH, c6, or_false, not_or] at hb
      exact kp c o hb.1 hb.2.2.2.1 q
    self := fun _ _ _ _ _ st h => wpAny_pyIter_zip st.1 h }
def Cw(K:Kw)(ta:TA):TI:=λσ H R=>ta σ H λvs H1=>∃a z,vs=[.ref a,.str z]/\(∃xs,cL K H1 a xs)/\z.cps.all (·<128)=true/\R (C8 K a z) H1
def zD {X:Cx} {a b:Expr} {ta:TA} {elts:List Expr} {x1:Nat} {p pos tpos:Pos} (hg:Gl X "zip") (hm:X.mg "zip"=none) (ha:QA X [a,b] ta) (hs:starEach [a,b] X.env=(false,eval a X.env)::starEach [b] X.env:=by rfl) (hpl:(backTo pos (starEach [b] X.env)).any (·.1)=false:=by rfl) :
  QI X (.Tuple elts x1 tpos) (.Call (.Name "zip" p) [a,b] [] pos) (Cw X.K ta):=⟨by
 intro pins s σ H R I h;refine Call_ (iR I hg hm boot_zip (bS (dH (ha.h pos pins s σ H _ I h) λus s1 ⟨vs,H1,I1,r1,z1,z,e,⟨xs,hx⟩,hz,q⟩=>?_) hs hpl));subst e;obtain⟨u,u',rfl,r2,r3⟩:=vals2 r1;cases r2;obtain⟨t,rfl⟩:=r3;obtain⟨ia,ra,pa,_⟩:=I1.list hx;obtain⟨oa,hoa,_⟩:=id pa.isList;refine Ej hz pa.isList λh' n en hz hti hto hi1 hi2 kp=>?_;refine wpAny_pyIter_zip hz ?_;have I2:bY X pins σ H1 { s1 with heap:=h' }:=I1.kept (t':=s1.toks) kp;refine⟨_,_,_,_,H1,rfl,I2,vi n z1 (by rw[en];exact aQ hoa) z t,⟨hz,hti,⟨_,_,hto⟩,hi1,hi2⟩,λb hb=>?_,q⟩;have hle:s1.heap.objs.size<=b:=by
  simp only[aH,c6,or_false] at hb;have en':@Eq Nat n s1.heap.objs.size:=en;show @LE.le Nat _ _ _;rcases hb with h | h | h | h | h<;>(have h':@Eq Nat _ _:=h;lia)
 exact I1.fpOk hle (I1.hok.fresh hle)⟩
def BD{K:Kw}{σ:St}{H:Hp}{D:Ends}{ta:TA}{g:TG}{tb:TS}:mI (Cw K ta) g tb D σ H=ta σ H λvs H1=>∃a z,vs=[.ref a,.str z]/\(∃xs,cL K H1 a xs)/\z.cps.all (·<128)=true/\kq (C8 K a z) g tb D σ H1:=rfl
def A1{K:Kw}{σ:St}{H:Hp}{D:Ends}{a:Addr}{xs:List V}{z:Str}{g:TG}{tb:TS}(hle:xs.length<=z.cps.size)(Pv:Nat->St->Hp->Prop)(h0:Pv 0 σ H)(hl:∀i σ H,Pv i σ H->cL K H a xs)
  (hs:∀i x c σ H p,xs[i]? = some x->z.cps[i]? = some c->Pv i σ H->H p=none->g (.ref p) σ (upd H p (.tup [x,.str ⟨#[c]⟩])) λσ2 H2=>tb { D with nx:=Pv (i+1),ct:=Pv (i+1),bk:=D.nx } σ2 H2) (hd:∀σ H,Pv xs.length σ H->D.nx σ H):kq (C8 K a z) g tb D σ H:=by
 refine⟨λi m σ H=>m+i=xs.length/\Pv i σ H,⟨xs.length,rfl,h0⟩,?_⟩;rintro i m σ H ⟨hm,hp⟩;have q1:=hl i σ H hp;by_cases hi:i<xs.length
 ·refine .inr ⟨⟨xs,xs[i],q1,by simp[hi],aU hi hle⟩,Pv (i+1),λσ' H' h=>⟨m - 1,by lia,by lia,h⟩,?_⟩;rintro v H' ⟨p,x,c,hn,hx,hc,rfl,rfl⟩;exact hs i x c σ H p (hx xs q1) hc hp hn
 ·have e:i=xs.length:=by lia
  subst e;exact .inl ⟨⟨xs,q1,rfl⟩,hd σ H hp⟩
end L2
namespace Rm
open PySem L2 PyProof.Rows
def seg(ns:List Int)(s c:Nat):List Int:=((ns.take c).drop s).map (· - (s:Int))
def j5{α β:Type}{R T:α->β->Prop}(f:∀a b,R a b->T a b):∀{xs:List α} {ys:List β},Paired R xs ys->Paired T xs ys
 | _,_,.nil=>.nil
 | _,_,.cons r t=>.cons (f _ _ r) (j5 f t)
def iK{α β:Type}{R:α->β->Prop}:∀{xs:List α} {ys:List β},Paired R xs ys->∀{i:Nat} {x:α},xs[i]? = some x->∃y,ys[i]? = some y/\R x y
 | _,_,.nil,i,x,h=>by simp at h
 | _,_,.cons r t,0,x,h=>by simp at h;subst h;exact⟨_,rfl,r⟩
 | _,_,.cons r t,i+1,x,h=>iK t (by simpa using h)
def Hw{K:Kw}{H:Hp}{a b o1 o2:Addr}{s t:Bool}{ms ns:List Int}{Q:VK}(ha:gk H a o1 s ms)(hb:gk H b o2 t ns)(q:Q (.bl (decide (s=t)&&decide (ms=ns))) H):zA K false (.ref a) (.ref b) H Q:=by
 refine⟨.tuple [.str (sd s),.tuple (ms.map PyData.int)],.tuple [.str (sd t),.tuple (ns.map PyData.int)],.tup (dr.of ha.1) (.cons (.str _) (.cons (.tup (dr.of ha.2) (ints_rep ms)) .nil)),.tup (dr.of hb.1) (.cons (.str _) (.cons (.tup (dr.of hb.2) (ints_rep ns)) .nil)),?_,?_,?_,?_⟩
 ·show (PyData.canLay0 (.str (sd s))&&(PyData.canLayAll0 (ms.map PyData.int)&&true))=true;rw[f7];cases s<;>decide +kernel
 ·show (PyData.canLay0 (.str (sd t))&&(PyData.canLayAll0 (ns.map PyData.int)&&true))=true;rw[f7];cases t<;>decide +kernel
 ·refine av (Nat.min_le_left _ _) ?_;show max 0 (max (PyData.depthAll (ms.map PyData.int)+1) 0)+1<=60;rw[j6];decide
 ·show Q (.bl (PyData.eqv (.str (sd s)) (.str (sd t))&&(PyData.eqvAll (ms.map PyData.int) (ns.map PyData.int)&&true))) H;rw[mD,Bool.and_true];have e:PyData.eqv (.str (sd s)) (.str (sd t))=decide (s=t):=by cases s<;>cases t<;>decide +kernel
  rw[e];exact q
def uv(K:Kw):Sp:=λvs H Q _=>∃(a:Addr) (ns:List Int) (k:Nat),vs=[.ref a,.int k]/\cL K H a (ns.map V.int)/\∀v:Int,Q (.int v) H
end Rm
namespace Rm
open PySem L2
def tx(cs:List Nat):Str:=⟨cs.toArray⟩
def oC(c:Nat):V:=V.str ⟨#[c]⟩
def b6(cs:List Nat):(tx cs).length=cs.length:=by simp[tx,Str.length]
def lH(cs:List Nat):(tx cs).cps.toList=cs:=by simp[tx]
def k9(cs:List Nat):(tx cs).cps.size=cs.length:=by simp[tx]
def dY(a b:List Nat):tx a++tx b=tx (a++b):=by
 show Str.mk _=Str.mk _;simp[tx]
def xw{a b:List Nat}(h:tx a=tx b):a=b:=by
 have:=congrArg (λz:Str=>z.cps.toList) h;simpa [tx] using this
def yd(z:Str):z=tx z.cps.toList:=by cases z;simp[tx]
def lP(c:Nat):(⟨#[c]⟩:Str)=tx [c]:=rfl
def yr:Str.ofString "|"=tx [124]:=by decide +kernel
def ph:Str.ofString "("=tx [40]:=by decide +kernel
def qy:Str.ofString ")"=tx [41]:=by decide +kernel
def oG:Str.ofString "*"=tx [42]:=by decide +kernel
def HI:Str.ofString "**"=tx [42,42]:=by decide +kernel
def HK:Str.ofString "()"=tx [40,41]:=by decide +kernel
def Fi:Str.ofString "(|)"=tx [40,124,41]:=by decide +kernel
def HJ:Str.ofString "*|"=tx [42,124]:=by decide +kernel
def HN:Str.ofString "|*"=tx [124,42]:=by decide +kernel
def Cr:Str.ofString ""=tx []:=by decide +kernel
def Gk:Str.ofString "a"=tx [97]:=by decide +kernel
def Gj:Str.ofString "b"=tx [98]:=by decide +kernel
def Gi:Str.ofString "c"=tx [99]:=by decide +kernel
def HM:Str.ofString "d"=tx [100]:=by decide +kernel
def HL:Str.ofString "l"=tx [108]:=by decide +kernel
def pj:Str.ofString "abcd"=tx [97,98,99,100]:=by decide +kernel
def fk{a b:Nat}:((⟨#[a]⟩:Str)=tx [b])=(a=b):=propext ⟨λh=>by have:=xw (show tx [a]=tx [b] from h);simpa using this,λh=>by rw[h];rfl⟩
def yG{cs:List Nat}(h:∀c∈cs,c<128):(tx cs).cps.all (·<128)=true:=by
 rw[<-Array.all_toList,lH,List.all_eq_true];intro c hc;exact Ks (h c hc)
def F9{cs:List Nat}{i:Nat}{c:Nat}(h:cs[i]? = some c):pL (tx cs).cps.toList (i:Int)=some c:=by rw[lH];exact ez h
def va(c:Nat):∀(a b:List Nat),PyProof.Rows.cnt c (a++b)=PyProof.Rows.cnt c a+PyProof.Rows.cnt c b
 | [],b=>by rw[PyProof.Rows.cnt_nil,ax];lia
 | x::a,b=>by rw[dN,eJ,eJ,va c a b];lia
def qP{c:Nat}:∀{a:List Nat},c∉a->PyProof.Rows.cnt c a=0
 | [],_=>PyProof.Rows.cnt_nil c
 | x::a,h=>by
  simp only[aH,not_or] at h;rw[eJ,qP h.2,Kn (bg h.1)];rfl
def C1{A B:List Nat}(hA:124∉A):∀(X Y:List Nat),124∉X->X++124::Y=A++124::B->X=A/\Y=B:=by
 induction A with
 | nil=>
  intro X Y hX e;cases X with
  | nil=>simpa using e
  | cons x X=>simp at e hX;exact absurd e.1.symm hX.1
 | cons a A ih=>
  intro X Y hX e;simp only[aH,not_or] at hA;cases X with
  | nil=>simp at e;exact absurd e.1 hA.1
  | cons x X=>
   simp only[dN,fR] at e;simp only[aH,not_or] at hX;obtain⟨h1,h2⟩:=ih hA.2 X Y hX.2 e.2;exact⟨by rw[e.1,h1],h2⟩
def vp{A B:List Nat}(hA:124∉A)(hB:124∉B):Txt.split (tx (A++124::B)) (tx [124])=[tx A,tx B]:=by
 have hc:Rm.tx [124]=(⟨#[124]⟩:Str):=rfl;rw[hc];have hl:=PyProof.Rows.split_len (tx (A++124::B)) 124;have hf:=StrLaws.split_free (tx (A++124::B)) 124;have hj:=StrLaws.join_split (tx (A++124::B)) ⟨#[124]⟩;rw[lH,va,eJ,qP hA,qP hB,Ko rfl] at hl;generalize Txt.split (tx (A++124::B)) ⟨#[124]⟩=l at *;have h2:l.length=2:=by lia
 obtain⟨p,r,rfl⟩:=ao h2;obtain⟨q,r,rfl⟩:=ao (l:=r) (n:=0) (by simpa using h2);have:r=[]:=au (by simpa using h2);subst this;have fp:=hf p (by simp);have e:p.cps.toList++124::q.cps.toList=A++124::B:=by
  have hj':p++(⟨#[124]⟩:Str)++q=tx (A++124::B):=hj;have:=congrArg (λz:Str=>z.cps.toList) hj';rw[lH] at this;rw[<-this];show _=(p.cps++#[124]++q.cps).toList;simp
 obtain⟨e1,e2⟩:=C1 hA _ _ fp e;rw[yd p,yd q,e1,e2]
def Av{n:Nat}:Builtin.Str.strSliceIndices none (some (-1)) 1 n=List.range (n - 1):=by
 unfold Builtin.Str.strSliceIndices sliceRange;simp only[show (1:Int) > 0 by decide,Ku,show (-1:Int)<0 by decide];have e:max 0 (min (-1+(n:Int)) (n:Int))=((n - 1:Nat):Int):=by lia
 rw[e];have e2:(if (0:Int)<((n - 1:Nat):Int) then (((n - 1:Nat):Int) - 0+1 - 1) / 1 else 0).toNat=n - 1:=by split<;>lia
 rw[e2];have e3:(λk:Nat=>(0+1*(k:Int)).toNat)=id:=by funext k;show (0+1*(k:Int)).toNat=k;lia
 rw[e3,List.map_id]
def Aw{n p:Nat}(h:p<=n):Builtin.Str.strSliceIndices (some (p:Int)) none 1 n=(List.range (n-p)).map (p+·):=by
 unfold Builtin.Str.strSliceIndices sliceRange;simp only[show (1:Int) > 0 by decide,Ku];have e:max 0 (min (if (p:Int)<0 then (p:Int)+n else p) (n:Int))=p:=by rw[Kn (by lia)];lia
 rw[e];have e2:(if (p:Int)<n then ((n:Int)-p+1 - 1) / 1 else 0).toNat=n-p:=by split<;>lia
 rw[e2];refine cQ λk _=>?_;show ((p:Int)+1*(k:Int)).toNat=p+k;lia
def pN{α:Type}(l:List α):∀p,p<=l.length->(List.range p).filterMap (λi=>l[i]?)=l.take p
 | 0,_=>rfl
 | p+1,h=>by
  rw[fQ,gB,pN l p (by lia),bJ];have:l[p]? = some l[p]:=aI (by lia);simp[this]
def Ax{α:Type}(l:List α)(p:Nat)(h:p<=l.length):((List.range (l.length-p)).map (p+·)).filterMap (λi=>l[i]?)=l.drop p:=by
 rw[List.filterMap_map];have e:((λi=>l[i]?)∘λx=>p+x)=λj=>(l.drop p)[j]?:=by funext j;show l[p+j]? = _;rw[List.getElem?_drop]
 rw[e,pN _ _ (by rw[fE];lia),cO (by rw[fE];lia)]
def xx(cs:List Nat):(λi:Nat=>(tx cs).cps[i]?)=λi=>cs[i]?:=by funext i;simp[tx]
def BH{P:List Nat}{c:Nat}:Txt.slice (tx (P++[c])) none (some (-1))=tx P:=by
 unfold Txt.slice;rw[b6,Av];have e:(P++[c]).length - 1=P.length:=by simp
 rw[e]
 split
 ·rename_i h;simp at h
 ·rw[xx,pN _ _ (by simp),List.take_left];rfl
def BI{cs:List Nat}{p:Nat}(h:p<=cs.length):Txt.slice (tx cs) (some (p:Int)) none=tx (cs.drop p):=by
 unfold Txt.slice;rw[b6,Aw h]
 split
 ·rename_i c;have:cs.length-p=cs.length:=by simpa using c
  have hz:p=0\/cs.length=0:=by lia
  rcases hz with rfl | hz
  ·rfl
  ·have:=cK.mp hz;subst this;simp
 ·rw[xx,Ax _ _ h];rfl
def gK{α:Type}{P:List α}{c:α}:pL (P++[c]) (-1)=some c:=by
 unfold pL Ap;have e:(P++[c]).length=P.length+1:=by simp
 rw[e,Kn (by decide),Ko (by lia)];show (P++[c])[(-1+((P.length+1:Nat):Int)).toNat]? = some c;rw[show (-1+((P.length+1:Nat):Int)).toNat=P.length by lia];simp
def A7{xs:List V}{k:Nat}(h:k<=xs.length):m8 xs none (some (k:Int))=xs.take k:=by
 unfold m8;rw[HT.sIx_nat,HT.sIx_none,gj h];rfl
def uB{xs:List V}{k:Nat}(h:k<=xs.length):m8 xs (some (k:Int)) none=xs.drop k:=by
 unfold m8;rw[HT.sIx_nat,HT.sIx_none,show min k xs.length=k by lia];exact cO (by rw[fE];lia)
def A8{P:List V}{c:V}:m8 (P++[c]) none (some (-1))=P:=by
 unfold m8;have e:HT.sIx (P++[c]).length (P++[c]).length (some (-1))=P.length:=by unfold HT.sIx;simp;lia
 rw[e,HT.sIx_none,iU];simp
def A9{P:List V}{c:V}:m8 (P++[c]) (some (-1)) none=[c]:=by
 unfold m8;have e:HT.sIx (P++[c]).length 0 (some (-1))=P.length:=by unfold HT.sIx;simp;lia
 rw[e,HT.sIx_none,List.drop_left];simp
def uc:∀(cs:List Nat) (acc:Array Nat),(cs.map λc=>(⟨#[c]⟩:Str)).foldl (λacc p=>acc++(Str.ofString "").cps++p.cps) acc=acc++cs.toArray
 | [],acc=>by simp
 | c::cs,acc=>by
  rw[aS,List.foldl_cons,uc cs];have:(Str.ofString "").cps=#[]:=by decide +kernel
  rw[this];simp
def ub (cs:List Nat):Txt.join (Str.ofString "") (cs.map λc=>(⟨#[c]⟩:Str))=tx cs:=by
 cases cs with
 | nil=>rfl
 | cons c cs=>
  show Str.mk (((((c::cs).map λc=>(⟨#[c]⟩:Str)).drop 1).foldl (λacc p=>acc++(Str.ofString "").cps++p.cps) (((c::cs).map λc=>(⟨#[c]⟩:Str)).headD Str.empty).cps))=_;rw[aS,List.drop_one,List.tail_cons,List.headD_cons,uc];simp[tx]
def oY {cs:List Nat} (hl:cs.length<=900):JoinOk (Str.ofString "") (cs.map λc=>(⟨#[c]⟩:Str))=true:=by
 unfold JoinOk;have e:Builtin.Str.tooLong ((cs.map λc=>(⟨#[c]⟩:Str)).toArray.foldl (λa t=>a+t.length+(Str.ofString "").length) 0)=false:=by
  have h0:∀(cs:List Nat) (a:Nat),(cs.map λc=>(⟨#[c]⟩:Str)).foldl (λa t=>a+t.length+(Str.ofString "").length) a=a+cs.length:=by
   intro cs
   induction cs with
   | nil=>intro a;rfl
   | cons b cs ih=>
    intro a;rw[aS,List.foldl_cons,ih];have h1:(⟨#[b]⟩:Str).length=1:=rfl;have h2:(Str.ofString "").length=0:=by decide +kernel
    rw[h1,h2,bi];lia
  rw[List.foldl_toArray',h0];unfold Builtin.Str.tooLong;exact Kr (by have:=dC (n:=0+cs.length) (by lia);lia);simp
 rw[e];rfl
def oH:Option (List Int×List Int)->V
 | none=>.non
 | some (L,R)=>.str (tx (fH L R))
def jH(c:Nat):Prop:=c=97\/c=98\/c=99\/c=100
def eP(H:Hp)(a:Addr)(L R:List Int):Prop:=∃l r,H a=some (.tup [.ref l,.ref r])/\H l=some (.lst (L.map V.int))/\H r=some (.lst (R.map V.int))
def eP.same{H H':Hp}{a:Addr}{L R:List Int}(h:eP H a L R)(s:a6 H H'):eP H' a L R:=let ⟨l,r,h1,h2,h3⟩:=h;⟨l,r,s _ _ h1,s _ _ h2,s _ _ h3⟩
def Hq(H:Hp)(v:V):Option (List Int×List Int)->Prop
 | none=>v=.non
 | some (L,R)=>∃a,v=.ref a/\eP H a L R
def iG(c:Nat):List Int×List Int:=if c=108 then ([0],[]) else ([],[0])
def ma:Sp:=λvs H Q _=>∃c:Nat,vs=[.str ⟨#[c]⟩]/\Q (.str (tx (fH (iG c).1 (iG c).2))) H
def qh:Sp:=λvs H Q _=>∃(a:Addr) (cs:List Nat) (p q:Nat),vs=[.ref a,.int (p:Nat)]/\H a=some (.lst (cs.map oC))/\cs.length<=900/\sP cs p q/\Q (.int (q:Nat)) H
def um:Sp:=λvs H Q _=>∃(L R:List Int) (x y:Int),vs=[.str (tx (ba [] (L++[x]))),.str (tx (ba (L++[x]) (R++[y]).reverse))]/\EE (L++[x]) (R++[y])/\L.length+R.length<=400/\∀H',a6 H H'->Q (oH (ck (L++[x]) (R++[y]) 100)) H'
def pX:Sp:=λvs H Q _=>∃(L R:List Int) (c:Nat),vs=[.str (tx (fH L R)),.str ⟨#[c]⟩]/\jH c/\EE L R/\L.length+R.length<=400/\∀H',a6 H H'->Q (oH (ck L R c)) H'
def qi:Sp:=λvs H Q _=>∃n:Int,vs=[.int n]/\∀m:Int,0<=m->m<2 ^ 61->Q (.int m) H
def uj:Sp:=λvs H Q _=>∃n:Int,vs=[.int n]/\∀m:Int,Q (.int m) H
def Fe:Sp:=λvs H Q _=>∃(a:Addr) (L R:List Int) (c:Nat),vs=[.ref a,.str ⟨#[c]⟩]/\eP H a L R/\jH c/\EE L R/\L.length+R.length<=400/\∀v H',a6 H H'->Hq H' v (ck L R c)->Q v H'
def uq:Sp:=λvs H Q _=>∃c:Nat,vs=[.str ⟨#[c]⟩]/\∀a H',a6 H H'->eP H' a (iG c).1 (iG c).2->Q (.ref a) H'
def uf(L R:List Int):(fH L R).length=L.length+R.length+1:=by unfold fH;simp[bp];lia
def CP{L R L' R':List Int}{c:Nat}(h:ck L R c=some (L',R')):L'.length+R'.length<=L.length+R.length+2:=by
 unfold ck at h
 split at h
 ·cases h;simp;lia
 ·split at h
  ·split at h
   ·cases h;simp;lia
   ·cases h
  ·split at h
   ·split at h
    ·cases h;simp;lia
    ·cases h
   ·split at h
    ·split at h
     ·cases h
     ·cases h;simp;lia
    ·cases h
def zr(pre A:List Int):124∉ba pre A:=λh=>by have:=so A pre 124 h;lia
section
variable {K:Kw} {H:Hp} {Q:VK} {a b:Addr} {xs ys:List V}
def zu{R:Addr->Hp->Prop}{o:HO}(q:∀p H',H p=none->a6 H H'->H' p=some o->R p H'):∀p,H p=none->R p (upd H p o):=λp hp=>q p _ hp ((a6.refl H).new hp) aO
def n8(ha:H a=some (.lst xs))(hb:H b=some (.lst ys))(hz:xs.length+ys.length<=1000)(q:∀p H',H p=none->a6 H H'->H' p=some (.lst (xs++ys))->Q (.ref p) H'):Fu (.ref a) (.ref b) H Q:=
 ⟨a,b,xs,ys,rfl,rfl,ha,hb,ci (dC hz),zu (R:=λp H'=>Q (.ref p) H') q⟩
def Dc{k:Nat}(ha:H a=some (.lst xs))(h:k<=xs.length)(q:∀p H',H p=none->a6 H H'->H' p=some (.lst (xs.take k))->Q (.ref p) H'):yy K (.ref a) none (some (k:Int)) H Q:=
 ⟨a,xs,rfl,cL.of ha,by rw[A7 h];exact zu (R:=λp H'=>Q (.ref p) H') q⟩
def yh{k:Nat}(ha:H a=some (.lst xs))(h:k<=xs.length)(q:∀p H',H p=none->a6 H H'->H' p=some (.lst (xs.drop k))->Q (.ref p) H'):yy K (.ref a) (some (k:Int)) none H Q:=
 ⟨a,xs,rfl,cL.of ha,by rw[uB h];exact zu (R:=λp H'=>Q (.ref p) H') q⟩
def md{c:V}(ha:H a=some (.lst (xs++[c])))(q:∀p H',H p=none->a6 H H'->H' p=some (.lst xs)->Q (.ref p) H'):yy K (.ref a) none (some (-1)) H Q:=
 ⟨a,xs++[c],rfl,cL.of ha,by rw[A8];exact zu (R:=λp H'=>Q (.ref p) H') q⟩
def uy{c:V}(ha:H a=some (.lst (xs++[c])))(q:∀p H',H p=none->a6 H H'->H' p=some (.lst [c])->Q (.ref p) H'):yy K (.ref a) (some (-1)) none H Q:=
 ⟨a,xs++[c],rfl,cL.of ha,by rw[A9];exact zu (R:=λp H'=>Q (.ref p) H') q⟩
def eP.new{l r:Addr}{L R:List Int}(hl:H l=some (.lst (L.map V.int)))(hr:H r=some (.lst (R.map V.int)))(na:H a=none):eP (upd H a (.tup [.ref l,.ref r])) a L R:=
 ⟨l,r,aO,by rw[a9 (bF hl na)];exact hl,by rw[a9 (bF hr na)];exact hr⟩
def Km(L:List Int)(x:Int):(L++[x]).map V.int=L.map V.int++[V.int x]:=by simp
end
def jw{n:Nat}(h:n<=900):n<=sizeLine:=ci (dC (by lia))
def jZ{K:Kw}{H:Hp}{cs:List Nat}(h:cs.length<=900):C4 K (.str (tx cs)) H (!cs.isEmpty):=by
 refine⟨by rw[b6];exact jw h,?_⟩;rw[b6];cases cs with
 | nil=>rfl
 | cons a cs=>
  show true=(((cs.length+1:Nat):Int) != 0)
  have:((cs.length+1:Nat):Int)≠0:=by lia
  simp[bne,this];lia
def AU {K:Kw} {H:Hp} {t:Addr} {a b:Nat} {Q:VK} (ha:a=40\/a=41\/a=42) (hb:b=40\/b=41\/b=42) (h:H t=some (.tup [oC a,oC b])) (q:Q (.bl (decide (a=42) || decide (b=42))) H):Fs K false (.str (Str.ofString "*")) (.ref t) H Q:=by
 refine⟨.str (Str.ofString "*"),[.str ⟨#[a]⟩,.str ⟨#[b]⟩],t,_,.str _,rfl,.inr (dr.of h),.cons (.str _) (.cons (.str _) .nil),by decide +kernel,(by rcases ha with rfl | rfl | rfl<;>rcases hb with rfl | rfl | rfl<;>decide +kernel),by decide +kernel,?_⟩;have e:∀c:Nat,PyData.eqv (.str ⟨#[c]⟩) (.str (Str.ofString "*"))=decide (c=42):=λc=>by
  show decide ((⟨#[c]⟩:Str)=Str.ofString "*")=_;rw[oG];exact decide_eq_decide.mpr (by rw[fk])
 show Q (.bl (PyData.eqv (.str ⟨#[a]⟩) (.str (Str.ofString "*")) || (PyData.eqv (.str ⟨#[b]⟩) (.str (Str.ofString "*")) || false))) H;rw[e,e,ix];exact q
def zS{ms:List Int}{a b:Nat}(hp:ms.Perm [(a:Int),(b:Int)])(hs:ms.Pairwise (·<=·)):ms=[((min a b:Nat):Int),((max a b:Nat):Int)]:=by
 have hl:=hp.length_eq
 match ms,hl with
 | [u,v],_=>
  have h1:u=a\/u=b:=by simpa using hp.mem_iff.mp (by simp:u∈[u,v])
  have h2:v=a\/v=b:=by simpa using hp.mem_iff.mp (by simp:v∈[u,v])
  have h3:(a:Int)=u\/(a:Int)=v:=by simpa using hp.mem_iff.mpr (by simp:(a:Int)∈[(a:Int),(b:Int)])
  have h4:(b:Int)=u\/(b:Int)=v:=by simpa using hp.mem_iff.mpr (by simp:(b:Int)∈[(a:Int),(b:Int)])
  have h5:u<=v:=by simpa using hs
  have e1:u=((min a b:Nat):Int):=by lia
  have e2:v=((max a b:Nat):Int):=by lia
  rw[e1,e2]
def ym(cs:List Nat)(i c:Nat):(cs.map oC).set i (V.str ⟨#[c]⟩)=(cs.set i c).map oC:=by rw[List.map_set];rfl
def vB(cs:List Nat):cs.map oC=(cs.map λc=>(⟨#[c]⟩:Str)).map V.str:=by rw[bj];rfl
end Rm
namespace L2
open PySem PySem.Spec PyProof.Rows
section
variable {X:Cx}
def Fj(K:Kw):List V->Hp->VK->Prop:=λxs H Q=>∃(p:Addr) (ns:List Int),xs=[.ref p]/\cL K H p (ns.map V.int)/\PySem.SumFits ns/\Q (.int ns.sum) H
def uF (hc:X.calm=true):fg X (.builtin "sum") (Fj X.K):=by
 intro pins s σ H xs us Q I r h;obtain⟨p,ns,rfl,hq,hf,q⟩:=h;obtain⟨u,rfl,rx⟩:=Kb r;cases rx;obtain⟨its,rv,pl,hz⟩:=I.list hq;have hi:=jI rv;have hl:=pl.isList;obtain⟨xs,e⟩:=hi.allInts.items;have hns:ns=xs.toList.map (·.1):=by rw[<-hi.numsOf,<-nums_intItems,<-e]
 have hsz:xs.size=ns.length:=by rw[hns,aB,cj]
 rw[e] at hl;refine sum_intList (I.ok.hd hc) hl (λj hj=>?_) λh' tk t' hk=>?_
 ·have:=hf j (by lia);rw[preSum_eq,numAt_eq,<-hns];exact this
 ·refine⟨.int ns.sum,H,I.kept hk,⟨t',?_⟩,q⟩;rw[preSum_eq,<-hns,hsz,cH]
end
def jE {X:Cx} {x:Str} {z:Str} {pos:Pos} (hg:Gl X x) (hm:∃t,X.mg x=some (.str z t)) (hd:(x==("__debug__":Str))=false:=by decide):QE X (.Name x pos) (tC (.str z)):=
 let ⟨t,h⟩:=hm
 ⟨qB hg h ⟨t,rfl⟩ hd⟩
def BF{k:Nat}{caps:List Nat}{tl:TE}{g:TG}{tf:TT}{te:TE}{σ:St}{H:Hp}{Q:VK}:kr k caps (CM tl) g tf te σ H Q=tl σ H λx H1=>∃z,x=.str z/\z.cps.all (·<128)=true/\ju (FI z) g tf te Q (g6 k caps σ) H1:=rfl
def Ab{x:Str}{g:TG}{tf:TT}{te:TE}{σ:St}{H:Hp}{Q:VK}(Pv:Nat->List V->St->Hp->Prop)(h0:Pv 0 [] σ H)(hl:∀i ys σ H,Pv i ys σ H->ys.length<=i)(hsz:x.cps.size<=sizeLine)
  (hs:∀i c ys σ H (N:List V->St->Hp->Prop),x.cps[i]? = some c->Pv i ys σ H->(∀ys σ H,Pv (i+1) ys σ H->N ys σ H)->g (.str ⟨#[c]⟩) σ H λσ2 H2=>tf σ2 H2 λb H3=>if b=true then te σ2 H3 λy H4=>N (ys++[y]) σ2 H4 else N ys σ2 H3)
  (hd:∀ys σ H p,Pv x.cps.size ys σ H->H p=none->Q (.ref p) (upd H p (.lst ys))):ju (FI x) g tf te Q σ H:=by
 refine v8 x.cps.size hsz Pv h0 hl (λi ys σ H hi p=>hi) (λys σ H p=>aE _) ?_ hd;rintro i ys σ H v H' N hi p ⟨rfl,c,hc,rfl⟩ hN;exact hs i c ys σ H' N hc p hN
def fits_of:∀{ns:List Int},(∀x∈ns,0<=x/\x<=2 ^ 40)->ns.length<=1000->PySem.SumFits ns:=by
 intro ns h hl j hj;have hs:∀l:List Int,(∀x∈l,0<=x/\x<=2 ^ 40)->0<=l.sum/\l.sum<=2 ^ 40*l.length:=by
  intro l
  induction l with
  | nil=>intro _;simp
  | cons a l ih=>
   intro hh;have h1:=hh a (by simp);have h2:=ih λx hx=>hh x (aK _ hx);simp only[List.sum_cons,bi];lia
 have h1:=h (ns.getD j 0) (by rw[cA,aI hj];exact fF hj);have h2:=hs (ns.take (j+1)) λx hx=>h x (List.mem_of_mem_take hx);have h3:(ns.take (j+1)).length<=1000:=by rw[bV];lia
 exact⟨⟨by lia,by lia⟩,⟨by lia,by lia⟩⟩
end L2
namespace Rm
open PySem L2
def qQ:∀(n:Nat) (L R:List Int),dZ n L R<=4 ^ n
 | 0,L,R=>by simp only[dZ];split<;>simp
 | n+1,L,R=>by
  have key:∀o,ko n o<=4 ^ n:=λo=>by
   rcases o with _ | ⟨a,b⟩
   ·exact bE _
   ·exact qQ n a b
  rw[f9,Nat.pow_succ];have h1:=key (ck L R 97);have h2:=key (ck L R 98);have h3:=key (ck L R 99);have h4:=key (ck L R 100);lia
def jF(L R:List Int):List (List Int×List Int):=[97,98,99,100].filterMap (ck L R)
def xE(n:Nat)(L R:List Int):dZ (n+1) L R=((jF L R).map λp=>dZ n p.1 p.2).sum:=by
 rw[f9];unfold jF;rcases h1:ck L R 97 with _ | ⟨a,b⟩<;>rcases h2:ck L R 98 with _ | ⟨a',b'⟩<;>rcases h3:ck L R 99 with _ | ⟨c,d⟩<;>rcases h4:ck L R 100 with _ | ⟨c',d'⟩<;>simp[List.filterMap,h1,h2,h3,h4,ko]<;>lia
def zt{L R:List Int}{p:List Int×List Int}(h:p∈jF L R):∃c,jH c/\ck L R c=some p:=by
 obtain⟨c,hc,e⟩:=iT.mp h;refine⟨c,?_,e⟩;simp only[aH,c6,or_false] at hc;exact hc
def mN(L R:List Int):(jF L R).length<=4:=iu _ _
def iS(kvs:List (List Key×V)):Prop:=∀k v,gU kvs k=some v->∃(L R:List Int) (m:Nat),EE L R/\k=[.inr (tx (fH L R)),.inl (m:Int)]/\v=.int ((dZ m L R:Nat):Int)
def Af:Nat->Nat
 | 0=>0
 | n+1=>4*Af n+1
def sg:Sp:=λvs H Q _=>∃(L R:List Int),vs=[.str (tx (fH L R))]/\L.length+R.length<=400/\Q (.int ((L.length+R.length:Nat):Int)) H
def nD:Sp:=λvs H Q _=>∃(L R:List Int) (n:Nat),vs=[.str (tx (fH L R)),.int (n:Nat)]/\L.length+R.length<=400/\n<=100/\Q (.bl (decide (L.length+R.length<=2*n+1))) H
def Gg(p:List Int×List Int):V:=.str (tx (fH p.1 p.2))
def ul:Sp:=λvs H Q _=>∃(L R:List Int),vs=[.str (tx (fH L R))]/\EE L R/\L.length+R.length<=400/\∀l H',H l=none->a6 H H'->H' l=some (.lst ((jF L R).map Gg))->Q (.ref l) H'
def nC(n:Nat):Sp:=λvs H Q _=>∃(L R:List Int) (m:Nat) (d:Addr) (kvs:List (List Key×V)),vs=[.str (tx (fH L R)),.int (m:Nat),.ref d]/\m<n/\m<=12/\EE L R/\L.length+R.length+2*m<=400/\H d=some (.dT kvs)/\iS kvs/\kvs.length+Af m<=10000000 ∧
 ∀H' kvs',a6 (wo H d) (wo H' d)->H' d=some (.dT kvs')->iS kvs'->kvs'.length<=kvs.length+Af m->Q (.int ((dZ m L R:Nat):Int)) H'
def ur:Sp:=λvs H Q _=>∃(L R:List Int) (m:Nat),vs=[.str (tx (fH L R)),.int (m:Nat)]/\m<=12/\EE L R/\L.length+R.length+2*m<=400/\∀H',a6 H H'->Q (.int ((dZ m L R:Nat):Int)) H'
def iS.nil:iS []:=λk v h=>nomatch h
def iS.put{kvs:List (List Key×V)}{L R:List Int}{m:Nat}(h:iS kvs)(E:EE L R):iS (putK kvs [.inr (tx (fH L R)),.inl (m:Int)] (.int ((dZ m L R:Nat):Int))):=λk v hv=>by
 rw[mq] at hv;by_cases e:k=[.inr (tx (fH L R)),.inl (m:Int)]
 ·rw[Ko e] at hv;exact⟨L,R,m,E,e,(aa hv).symm⟩
 ·rw[Kn e] at hv;exact h k v hv
def iS.get{kvs:List (List Key×V)}{L R:List Int}{m:Nat}{v:V}(h:iS kvs)(E:EE L R)(e:gU kvs [.inr (tx (fH L R)),.inl (m:Int)]=some v):v=.int ((dZ m L R:Nat):Int):=by
 obtain⟨L',R',m',E',ek,ev⟩:=h _ _ e;simp only[fR,Sum.inr.injEq,Sum.inl.injEq,and_true] at ek;have em:m=m':=by lia
 subst em;rw[ev,vb m E' E (xw ek.1).symm]
def Ay{H H':Hp}{f:Addr}(s:a6 H H'):a6 (wo H f) (wo H' f):=λb o e=>by
 by_cases h:b=f
 ·subst h;unfold wo at e;rw[Ko rfl] at e;cases e
 ·unfold wo at e ⊢;rw[Kn h] at e ⊢;exact s b o e
def xQ{H H':Hp}{f l:Addr}{o:HO}(s:a6 (wo H f) (wo H' f))(h:H l=some o)(hne:l≠f):H' l=some o:=pO H' f _ _ (s _ _ (Ca hne h))
def qd(n:Nat):∀l:List (List Int×List Int),(l.map λp=>((dZ n p.1 p.2:Nat):Int)).sum=(((l.map λp=>dZ n p.1 p.2).sum:Nat):Int)
 | []=>rfl
 | p::l=>by simp only[aS,List.sum_cons,qd n l];lia
def Ek:∀m,m<=12->Af m<=10000000:=by decide
end Rm
set_option maxHeartbeats 400000
namespace Rm
def fU(L R:List Int):List Nat->Nat->Option Nat
 | [],i=>if L.length+R.length=1 then none else some i
 | c::cs,i=>match ck L R c with | none=>some i | some p=>fU p.1 p.2 cs (i+1)
def lq{L R:List Int}{c:Nat}{cs:List Nat}{i:Nat}(h:ck L R c=none):fU L R (c::cs) i=some i:=by simp only[fU,h]
def ke{L R L' R':List Int}{c:Nat}{cs:List Nat}{i:Nat}(h:ck L R c=some (L',R')):fU L R (c::cs) i=fU L' R' cs (i+1):=by simp only[fU,h]
def isIn(k:Bool)(c:Nat):Bool:=c==97 || (if k then c==99 else c==98)
def jy(m:Nat->Option Nat)(a b:Nat):Nat->Option Nat:=λx=>if x=a then some b else if x=b then some a else m x
abbrev Ar:=List Nat×(Nat->Option Nat)
def oA(k:Bool)(s:Ar)(row c:Nat):Ar:=if isIn k c then (s.1++[row],s.2) else match s.1.getLast? with | some o=>(s.1.dropLast,jy s.2 row o) | none=>s
def ug(k b:Bool):Ar:=(if k=b then [0] else [],λ_=>none)
def stN(k b:Bool)(cs:List Nat):Nat->Ar
 | 0=>ug k b
 | i+1=>oA k (stN k b cs i) (i+1) (cs.getD i 0)
def se{k:Bool}{s:Ar}{row c:Nat}(h:isIn k c=true):oA k s row c=(s.1++[row],s.2):=by unfold oA;rw[Ko h]
def pT{k:Bool}{s:Ar}{P:List Nat}{o row c:Nat}(h:isIn k c=false)(e:s.1=P++[o]):oA k s row c=(P,jy s.2 row o):=by
 unfold oA;rw[Kn (by rw[h];decide),e];simp
structure sO (k b:Bool) (i:Nat) (s:Ar):Prop where
 nd:s.1.Nodup
 le:∀ x∈s.1,x<=i
 out:∀ x∈s.1,s.2 x=none
 sym:∀ x y,s.2 x=some y->s.2 y=some x
 irr:∀ x y,s.2 x=some y->y≠x
 bd:∀ x y,s.2 x=some y->x<=i
 tot:∀ x,x<=i->(x=0->k=b)->x∈s.1\/∃ y,s.2 x=some y
 z:k≠b->0∉s.1/\s.2 0=none
def sO.zero(k b:Bool):sO k b 0 (ug k b):=by
 unfold ug;refine⟨?_,λx h=>?_,λ_ _=>rfl,λ_ _ h=>(by cases h),λ_ _ h=>(by cases h),λ_ _ h=>(by cases h),λx hx h=>.inl ?_,λh=>⟨?_,rfl⟩⟩
 ·dsimp only;split<;>simp
 ·dsimp only at h;split at h<;>simp at h;lia
 ·have hx0:x=0:=by lia
  dsimp only;rw[Ko (h hx0),hx0];simp
 ·dsimp only;rw[Kn h];simp
def nN{l:List Nat}(h:l≠[]):∃P x,l=P++[x]:=⟨l.dropLast,l.getLast h,(dG h).symm⟩
def sO.step{k b:Bool}{i c:Nat}{s:Ar}(I:sO k b i s)(h:isIn k c=false->s.1≠[]):sO k b (i+1) (oA k s (i+1) c):=by
 have new:s.2 (i+1)=none:=by
  cases e:s.2 (i+1) with
  | none=>rfl
  | some y=>have:=I.bd _ _ e;lia
 by_cases hc:isIn k c=true
 ·rw[se hc];refine⟨?_,λx hx=>?_,λx hx=>?_,I.sym,I.irr,λx y e=>by have:=I.bd x y e;lia,λx hx h0=>?_,λhk=>⟨?_,(I.z hk).2⟩⟩
  ·rw[ie];refine⟨I.nd,by simp,λa ha b hb e=>?_⟩;have:=I.le a ha;simp at hb;lia
  ·rcases aL.mp hx with h1 | h1
   ·have:=I.le x h1;lia
   ·simp at h1;lia
  ·rcases aL.mp hx with h1 | h1
   ·exact I.out x h1
   ·simp at h1;subst h1;exact new
  ·by_cases e:x=i+1
   ·exact .inl (by subst e;simp)
   ·rcases I.tot x (by lia) h0 with h1 | h1
    ·exact .inl (bM _ h1)
    ·exact .inr h1
  ·intro z;rcases aL.mp z with h1 | h1
   ·exact(I.z hk).1 h1
   ·simp at h1
 ·have hc':isIn k c=false:=by simpa using hc
  obtain⟨P,o,e⟩:=nN (h hc');rw[pT hc' e];have om:o∈s.1:=by rw[e];simp
  have ole:=I.le o om;have on:=I.out o om;have nd:=I.nd;rw[e,ie] at nd;have onP:o∉P:=λz=>nd.2.2 o z o (by simp) rfl;have inP:∀x∈P,x∈s.1:=λx hx=>by rw[e];exact bM _ hx
  have ms:∀x y,jy s.2 (i+1) o x=some y->(x=i+1/\y=o)\/(x=o/\y=i+1)\/(x≠i+1/\x≠o/\s.2 x=some y):=λx y h=>by
   unfold jy at h
   split at h
   ·rename_i z;cases h;exact .inl ⟨z,rfl⟩
   ·split at h
    ·rename_i z;cases h;exact .inr (.inl ⟨z,rfl⟩)
    ·rename_i z1 z2;exact .inr (.inr ⟨z1,z2,h⟩)
  have mo:∀x,x≠i+1->x≠o->jy s.2 (i+1) o x=s.2 x:=λx h1 h2=>by unfold jy;rw[Kn h1,Kn h2]
  refine⟨nd.1,λx hx=>by have:=I.le x (inP x hx);lia,λx hx=>?_,λx y h=>?_,λx y h=>?_,λx y h=>?_,λx hx h0=>?_,λhk=>⟨λz=>(I.z hk).1 (inP 0 z),?_⟩⟩<;>dsimp only at *
  ·have:=I.le x (inP x hx);rw[mo x (by lia) (λz=>onP (z▸hx))];exact I.out x (inP x hx)
  ·rcases ms x y h with ⟨rfl,rfl⟩ | ⟨rfl,rfl⟩ | ⟨h1,h2,h3⟩
   ·unfold jy;rw[Kn (by lia),Ko rfl]
   ·unfold jy;rw[Ko rfl]
   ·have hy:=I.sym x y h3;rw[mo y (λz=>by rw[z,new] at hy;cases hy) (λz=>by rw[z,on] at hy;cases hy)];exact hy
  ·rcases ms x y h with ⟨rfl,rfl⟩ | ⟨rfl,rfl⟩ | ⟨h1,h2,h3⟩
   ·lia
   ·lia
   ·exact I.irr x y h3
  ·rcases ms x y h with ⟨rfl,rfl⟩ | ⟨rfl,rfl⟩ | ⟨h1,h2,h3⟩
   ·lia
   ·lia
   ·have:=I.bd x y h3;lia
  ·by_cases z1:x=i+1
   ·exact .inr ⟨o,by unfold jy;rw[Ko z1]⟩
   ·by_cases z2:x=o
    ·exact .inr ⟨i+1,by unfold jy;rw[Kn z1,Ko z2]⟩
    ·rcases I.tot x (by lia) h0 with h1 | ⟨y,h1⟩
     ·rw[e] at h1;rcases aL.mp h1 with h2 | h2
      ·exact .inl h2
      ·simp at h2;exact absurd h2 z2
     ·exact .inr ⟨y,by rw[mo x z1 z2];exact h1⟩
  ·rw[mo 0 (by lia) (λz=>(I.z hk).1 (z▸om))];exact(I.z hk).2
def pU{k:Bool}{s:Ar}{row c:Nat}:(oA k s row c).1.length=if isIn k c then s.1.length+1 else s.1.length - 1:=by
 unfold oA
 split
 ·simp
 ·cases e:s.1.getLast? with
  | none=>simp at e;simp[e]
  | some o=>simp
def nS{L R L' R':List Int}{c:Nat}(hc:c=97\/c=98\/c=99\/c=100)(h:ck L R c=some (L',R')):
  (isIn false c=false->L≠[])/\(isIn true c=false->R≠[])/\L'.length=(if isIn false c then L.length+1 else L.length - 1)/\R'.length=(if isIn true c then R.length+1 else R.length - 1):=by
 rcases hc with rfl | rfl | rfl | rfl
 ·simp only[ck,Ku,Option.some.injEq,Prod.mk.injEq] at h;obtain⟨rfl,rfl⟩:=h;simp[isIn]
 ·by_cases hR:R=[]
  ·subst hR;rw[ja] at h;cases h
  ·obtain⟨Q,v,rfl⟩:=be hR;rw[lF] at h;cases h;simp[isIn]
 ·by_cases hL:L=[]
  ·subst hL;rw[j9] at h;cases h
  ·obtain⟨P,v,rfl⟩:=be hL;rw[lE] at h;cases h;simp[isIn]
 ·by_cases hL:L=[]
  ·subst hL;rw[j8] at h;cases h
  ·by_cases hR:R=[]
   ·subst hR;rw[j7] at h;cases h
   ·obtain⟨P,x,rfl⟩:=be hL;obtain⟨Q,y,rfl⟩:=be hR;rw[kz] at h;by_cases e:x=y
    ·rw[Ko e] at h;cases h
    ·rw[Kn e] at h;cases h;simp[isIn]
structure Run (b:Bool) (cs:List Nat) (i:Nat) (L R:List Int):Prop where
 ee:EE L R
 li:sO false b i (stN false b cs i)
 ri:sO true b i (stN true b cs i)
 ll:(stN false b cs i).1.length=L.length
 rl:(stN true b cs i).1.length=R.length
def Run.step{b:Bool}{cs:List Nat}{i c:Nat}{L R L' R':List Int}(h:Run b cs i L R)(e:cs[i]? = some c)(hc:c=97\/c=98\/c=99\/c=100)(g:ck L R c=some (L',R')):Run b cs (i+1) L' R':=by
 obtain⟨n1,n2,s1,s2⟩:=nS hc g;have eg:cs.getD i 0=c:=by rw[cA,e];rfl
 have k1:isIn false c=false->(stN false b cs i).1≠[]:=λz=>by have:=cR.mpr (n1 z);exact cR.mp (by rw[h.ll];exact this)
 have k2:isIn true c=false->(stN true b cs i).1≠[]:=λz=>by have:=cR.mpr (n2 z);exact cR.mp (by rw[h.rl];exact this)
 refine⟨h.ee.go hc g,?_,?_,?_,?_⟩
 ·show sO false b (i+1) (oA false _ _ _);rw[eg];exact h.li.step k1
 ·show sO true b (i+1) (oA true _ _ _);rw[eg];exact h.ri.step k2
 ·show (oA false _ _ _).1.length=_;rw[eg,pU,s1,h.ll]
 ·show (oA true _ _ _).1.length=_;rw[eg,pU,s2,h.rl]
def Run.zero(b:Bool)(cs:List Nat):Run b cs 0 (if b then [] else [0]) (if b then [0] else []):=by
 cases b
 ·exact⟨EE.one,.zero _ _,.zero _ _,rfl,rfl⟩
 ·exact⟨EE.two,.zero _ _,.zero _ _,rfl,rfl⟩
def rg(n:Nat)(s:Ar)(x:Nat):Option Nat:=if x∈s.1 then some (n+1) else s.2 x
structure DD (n:Nat) (b:Bool) (f:Bool->Nat->Option Nat):Prop where
 sym:∀ k x y,f k x=some y->y<=n->f k y=some x
 irr:∀ k x y,f k x=some y->x<=n->y≠x
 tot:∀ k x,x<=n->(x=0->k=b)->∃ y,f k x=some y/\y<=n+1
 z:f (!b) 0=none
def fin2(b:Bool)(cs:List Nat)(k:Bool):Nat->Option Nat:=rg cs.length (stN k b cs cs.length)
def EY{b:Bool}{cs:List Nat}(h:∀k,sO k b cs.length (stN k b cs cs.length)):DD cs.length b (fin2 b cs):=by
 refine⟨λk x y e hy=>?_,λk x y e hx=>?_,λk x hx h0=>?_,?_⟩
 ·unfold fin2 rg at e ⊢
  split at e
  ·cases e;lia
  ·have e2:=(h k).sym x y e;rw[Kn (λz=>by rw[(h k).out y z] at e2;cases e2)];exact e2
 ·unfold fin2 rg at e
  split at e
  ·cases e;lia
  ·exact(h k).irr x y e
 ·unfold fin2 rg
  split
  ·exact⟨_,rfl,by lia⟩
  ·rename_i nx;rcases(h k).tot x hx h0 with h1 | ⟨y,h1⟩
   ·exact absurd h1 nx
   ·exact⟨y,h1,by have:=(h k).bd y x ((h k).sym x y h1);lia⟩
 ·unfold fin2 rg;have:=(h (!b)).z (by cases b<;>decide);rw[Kn this.1];exact this.2
def pth(f:Bool->Nat->Option Nat)(b:Bool):Nat->Nat×Bool
 | 0=>(0,b)
 | i+1=>((f (pth f b i).2 (pth f b i).1).getD 0,!(pth f b i).2)
def qA{f:Bool->Nat->Option Nat}{b:Bool}:∀i j,i % 2=j % 2->(pth f b i).2=(pth f b j).2:=by
 have h:∀i,(pth f b i).2=(b ^^ decide (i % 2=1)):=by
  intro i
  induction i with
  | zero=>simp[pth]
  | succ i ih=>
   show (!(pth f b i).2)=_;rw[ih];rcases bx i with e | e
   ·have e2:(i+1) % 2=1:=by lia
    simp[e,e2]
   ·have e2:(i+1) % 2=0:=by lia
    simp[e,e2]
 intro i j e;rw[h,h,e]
structure Aq (n:Nat) (b:Bool) (f:Bool->Nat->Option Nat) (N:Nat):Prop where
 le:∀ i,i<N->(pth f b i).1<=n
 st:∀ i,i<N->f (pth f b i).2 (pth f b i).1=some (pth f b (i+1)).1
section
variable {n:Nat} {b:Bool} {f:Bool->Nat->Option Nat}
def DD.back(M:DD n b f){N i:Nat}(V:Aq n b f N)(hi:i<N)(hl:(pth f b (i+1)).1<=n):f (pth f b i).2 (pth f b (i+1)).1=some (pth f b i).1:=M.sym _ _ _ (V.st i hi) hl
def DD.nz(M:DD n b f){N:Nat}(V:Aq n b f N)(h1:1<=N):(pth f b N).1≠0:=by
 intro h0;obtain⟨i,rfl⟩:∃i,N=i+1:=⟨N - 1,by lia⟩
 have e0:=M.back V (i:=i) (by lia) (by rw[h0];lia);rw[h0] at e0;have hb:(pth f b i).2=b:=by
  cases hh:(pth f b i).2==b with
  | true=>exact beq_iff_eq.mp hh
  | false=>
   have:(pth f b i).2=!b:=by
    have:=beq_eq_false_iff_ne.mp hh;cases hb2:(pth f b i).2<;>cases b<;>simp_all
   rw[this,M.z] at e0;cases e0
 have ev:i % 2=0:=by
  rcases bx i with e | e
  ·exact e
  ·have:=qA (f:=f) (b:=b) i 1 e;rw[hb] at this;have h2:(pth f b 1).2=!b:=rfl;rw[h2] at this;cases b<;>cases this
 have pal:∀j,j<=i+1->(pth f b (i+1-j)).1=(pth f b j).1:=by
  intro j
  induction j with
  | zero=>intro _;rw[Nat.sub_zero];exact h0
  | succ j ih=>
   intro hj;have e1:=ih (by lia);have e2:i+1-j=(i-j)+1:=by lia
   rw[e2] at e1;have hjn:j<i+1:=by lia
   have b1:=M.back V (i:=i-j) (by lia) (by rw[e1];exact V.le j hjn);rw[e1,qA (i-j) j (by lia),V.st j hjn] at b1;rw[show i+1-(j+1)=i-j by lia];exact(aa b1).symm
 have t:=pal (i / 2) (by lia);rw[show i+1-i / 2=i / 2+1 by lia] at t;exact M.irr _ _ _ (V.st (i / 2) (by lia)) (V.le _ (by lia)) t
def Hh:∀(n:Nat) (g:Nat->Nat),(∀i,i<=n->g i<n)->∃i j,i<j/\j<=n/\g i=g j
 | 0,g,h=>absurd (h 0 (by lia)) (by lia)
 | n+1,g,h=>by
  by_cases hv:∃i,i<=n/\g i=g (n+1)
  ·obtain⟨i,hi,e⟩:=hv;exact⟨i,n+1,by lia,by lia,e⟩
  ·have hv':∀i,i<=n->g i≠g (n+1):=λi hi e=>hv ⟨i,hi,e⟩;obtain⟨i,j,h1,h2,h3⟩:=Hh n (λi=>if g i=n then g (n+1) else g i) (λi hi=>by
    have a:=h i (by lia);have c:=h (n+1) (by lia);have d:=hv' i hi;show (if g i=n then g (n+1) else g i)<n
    split<;>lia)
   refine⟨i,j,h1,by lia,?_⟩;have d1:=hv' i (by lia);have d2:=hv' j (by lia)
   split at h3<;>split at h3<;>lia
def DD.ends(M:DD n b f):∃T,1<=T/\T<=2*n+4/\Aq n b f T/\(pth f b T).1=n+1:=by
 have go:∀N,N<=2*n+4->(∃T,1<=T/\T<=2*n+4/\Aq n b f T/\(pth f b T).1=n+1)\/(Aq n b f N/\(pth f b N).1<=n):=by
  intro N
  induction N with
  | zero=>intro _;exact .inr ⟨⟨λi h=>by lia,λi h=>by lia⟩,bE _⟩
  | succ N ih=>
   intro hN;rcases ih (by lia) with h | ⟨V,hl⟩
   ·exact .inl h
   ·have h0:(pth f b N).1=0->(pth f b N).2=b:=λz=>by
     rcases Nat.eq_zero_or_pos N with e | e
     ·subst e;rfl
     ·exact absurd z (M.nz V e)
    obtain⟨y,e1,e2⟩:=M.tot _ _ hl h0;have ey:(pth f b (N+1)).1=y:=by show (f _ _).getD 0=y;rw[e1];rfl
    have V':Aq n b f (N+1):=⟨λi hi=>by
      rcases fA i N with h | h
      ·exact V.le i h
      ·rw[show i=N by lia];exact hl,λi hi=>by
      rcases fA i N with h | h
      ·exact V.st i h
      ·rw[show i=N by lia,ey];exact e1⟩
    by_cases hy:y=n+1
    ·exact .inl ⟨N+1,by lia,hN,V',ey.trans hy⟩
    ·exact .inr ⟨V',by rw[ey];lia⟩
 rcases go (2*n+4) (aE _) with h | ⟨V,hl⟩
 ·exact h
 ·exfalso;obtain⟨i,j,h1,h2,h3⟩:=Hh (n+1) (λi=>(pth f b (2*i)).1) (λi hi=>by have:=V.le (2*i) (by lia);lia);have bk:∀d,d<=2*i->(pth f b (2*i-d)).1=(pth f b (2*j-d)).1:=by
   intro d
   induction d with
   | zero=>intro _;exact h3
   | succ d ih=>
    intro hd;have e1:=ih (by lia);rw[show 2*i-d=(2*i-(d+1))+1 by lia,show 2*j-d=(2*j-(d+1))+1 by lia] at e1;have b1:=M.back V (i:=2*i-(d+1)) (by lia) (V.le _ (by lia));have b2:=M.back V (i:=2*j-(d+1)) (by lia) (V.le _ (by lia));rw[e1,qA (2*i-(d+1)) (2*j-(d+1)) (by lia),b2] at b1;exact(aa b1).symm
  have e0:=bk (2*i) (aE _);rw[mF] at e0;exact M.nz (N:=2*j - 2*i) ⟨λt ht=>V.le t (by lia),λt ht=>V.st t (by lia)⟩ (by lia) e0.symm
end
def nW(L:List Int)(p:Nat):Prop:=1<=p/\p<L.length/\L[p-1]?≠L[p]?
instance (L:List Int) (p:Nat):Decidable (nW L p):=by unfold nW;infer_instance
def qI(L:List Int)(p:Nat):Nat:=if nW L p then 0 else if p=0 then (if L[0]? = L[1]? then 2 else 1) else if p=L.length then (if L[p-2]? = L[p-1]? then 2 else 1) else 1
def EV(L:List Int)(p:Nat):qI L p<=2:=by unfold qI;(repeat' split)<;>lia
def AB{L:List Int}{p:Nat}(h:nW L p):qI L p=0:=by unfold qI;rw[Ko h]
def Th(L:List Int):Prop:=∀i,i+2<L.length->¬(L[i]? = L[i+1]?/\L[i+1]? = L[i+2]?)
def EW.th{R:List Int}(E:EW R):Th R:=λi hi ⟨e1,e2⟩=>by
 have e:R=R.take i++(R[i]::R[i+1]::R[i+2]::R.drop (i+3)):=by
  conv=>lhs;rw[<-gA i R]
  rw[bA (by lia:i<R.length),bA (by lia:i+1<R.length),bA (by lia:i+1+1<R.length)]
 rw[aI (by lia),aI (by lia)] at e1 e2;have a1:=aa e1;have a2:=aa e2;have hm:R[i]∈R:=fF _;have c3:3<=R.count R[i]:=by
  have c1:R.count R[i]=(R.take i++(R[i]::R[i+1]::R[i+2]::R.drop (i+3))).count R[i]:=by rw[<-e]
  rw[c1,<-a2,<-a1,cJ,gf,gf,gf];lia
 have n0:=E.nn _ hm;by_cases z:R[i]=0
 ·have:=E.z1;rw[<-z] at this;lia
 ·have:=E.two _ hm (by lia);lia
def EW.three{R:List Int}(E:EW R)(h:1<R.length):3<=R.length:=by
 match R,E,h with
 | [a,b],E,_=>
  exfalso;have z:=E.z1;have na:=E.nn a (by simp);have nb:=E.nn b (by simp);by_cases ha:a=0
  ·by_cases hb:b=0
   ·subst ha hb;simp at z
   ·have:=E.two b (by simp) (by lia);subst ha;simp[br,bg hb] at this
  ·have:=E.two a (by simp) (by lia);by_cases hb:b=a
   ·subst hb;simp[br,ha] at z
   ·simp[br,hb] at this
 | _::_::_::_,_,_=>simp
def uJ(L R:List Int):Nat:=if L.length+R.length<=1 then 0 else 3*((L.length+R.length) / 2 - 1)+1+qI (L++R.reverse) L.length
def DC{L R:List Int}(E:EE L R):uJ L R<=3*((L.length+R.length) / 2):=by
 unfold uJ
 split
 ·lia
 ·have h3:3<=(L++R.reverse).length:=E.three (by simp;lia);have:=EV (L++R.reverse) L.length;simp at h3;lia
def Ee{L:List Int}(th:Th L)(h3:3<=L.length):∃p,nW L p:=by
 by_cases h:L[0]? = L[1]?
 ·exact⟨2,by lia,by lia,λz=>th 0 (by lia) ⟨h,z⟩⟩
 ·exact⟨1,by lia,by lia,h⟩
structure Ai (L:List Int) (p best:Nat):Prop where
 d:nW L best
 m:∀ k,nW L k->((best:Int) - p).natAbs<=((k:Int) - p).natAbs
def ES{L:List Int}{p best:Nat}(th:Th L)(h3:3<=L.length)(hp:p<=L.length)(N:Ai L p best)(h:best<p):qI L (p - 1)+1<=qI L p:=by
 have nd:¬nW L p:=λz=>by have:=N.m p z;lia
 obtain⟨b1,b2,b3⟩:=N.d;unfold qI;rw[Kn nd,Kn (by lia:¬p=0)];by_cases hl:p=L.length
 ·rw[Ko hl];by_cases e:L[p-2]? = L[p-1]?
  ·rw[Ko e];have e1:¬nW L (p - 1):=λz=>z.2.2 (by rw[show p - 1 - 1=p - 2 by lia];exact e);rw[Kn e1,Kn (by lia),Kn (by lia)];lia
  ·rw[Kn e];have e1:nW L (p - 1):=⟨by lia,by lia,by rw[show p - 1 - 1=p - 2 by lia];exact e⟩
   rw[Ko e1];lia
 ·rw[Kn hl];have ee:L[p-1]? = L[p]?:=i7 λz=>nd ⟨by lia,by lia,z⟩;have b4:best=p - 1:=by
   rcases(show p=1\/2<=p by lia) with e | e
   ·lia
   ·have:=th (p - 2) (by lia);rw[show p - 2+1=p - 1 by lia,show p - 2+2=p by lia] at this;have e1:nW L (p - 1):=⟨by lia,by lia,by rw[show p - 1 - 1=p - 2 by lia];exact λz=>this ⟨z,ee⟩⟩
    have:=N.m _ e1;lia
  rw[<-b4,Ko N.d];lia
def ET{L:List Int}{p best:Nat}(th:Th L)(h3:3<=L.length)(hp:p<=L.length)(N:Ai L p best)(h:p<best):qI L (p+1)+1<=qI L p:=by
 have nd:¬nW L p:=λz=>by have:=N.m p z;lia
 obtain⟨b1,b2,b3⟩:=N.d;by_cases h0:p=0
 ·subst h0;have m0:qI L 0=if L[0]? = L[1]? then 2 else 1:=by unfold qI;rw[Kn nd,Ko rfl]
  by_cases e:L[0]? = L[1]?
  ·have e1:¬nW L 1:=λz=>z.2.2 e;have m1:qI L 1=1:=by unfold qI;rw[Kn e1,Kn (by lia),Kn (by lia)]
   rw[m0,Ko e,m1];lia
  ·have e1:nW L 1:=⟨by lia,by lia,e⟩
   rw[m0,Kn e,AB e1];lia
 ·have mp:qI L p=1:=by unfold qI;rw[Kn nd,Kn h0,Kn (by lia)]
  have ee:L[p-1]? = L[p]?:=i7 λz=>nd ⟨by lia,by lia,z⟩;have b4:best=p+1:=by
   rcases(show p+1=L.length\/p+1<L.length by lia) with e | e
   ·lia
   ·have:=th (p - 1) (by lia);rw[show p - 1+1=p by lia,show p - 1+2=p+1 by lia] at this;have e1:nW L (p+1):=⟨by lia,by lia,by rw[show p+1 - 1=p by lia];exact λz=>this ⟨ee,z⟩⟩
    have:=N.m _ e1;lia
  rw[mp,<-b4,AB N.d];lia
def xG(p best:Nat):Nat:=if best=p then 100 else if best<p then 99 else 98
def Ad{L R:List Int}{best:Nat}(E:EE L R)(h:1<L.length+R.length)(N:Ai (L++R.reverse) L.length best):∃L' R',ck L R (xG L.length best)=some (L',R')/\EE L' R'/\uJ L' R'+1<=uJ L R:=by
 have hl:(L++R.reverse).length=L.length+R.length:=by simp
 have h3:3<=(L++R.reverse).length:=E.three (by lia);have th:Th (L++R.reverse):=E.th;obtain⟨b1,b2,b3⟩:=N.d;have p1:uJ L R=3*((L.length+R.length) / 2 - 1)+1+qI (L++R.reverse) L.length:=by unfold uJ;rw[Kn (by lia)]
 unfold xG;by_cases e:best=L.length
 ·rw[Ko e];have hL:L≠[]:=λz=>by rw[z] at e;simp at e;lia
  have hR:R≠[]:=λz=>by rw[z] at b2;simp at b2;lia
  obtain⟨P,x,rfl⟩:=be hL;obtain⟨Q,y,rfl⟩:=be hR;have hxy:x≠y:=λz=>b3 (by
   subst z e;simp[List.getElem?_append])
  rw[kz,Kn hxy];have E':=E.d hxy;refine⟨_,_,rfl,E',?_⟩;have:=DC E';rw[aB,aB] at this;rw[p1];simp only[aX,eO];simp only[aX,eO] at h hl;lia
 ·rw[Kn e];by_cases c:best<L.length
  ·rw[Ko c];have hL:L≠[]:=λz=>by rw[z] at c;simp at c
   obtain⟨P,x,rfl⟩:=be hL;rw[lE];have E':=E.c;refine⟨_,_,rfl,E',?_⟩;have nc:=ES th h3 (by simp) N c;have er:P++(R++[x]).reverse=(P++[x])++R.reverse:=by simp
   have p2:uJ P (R++[x])=3*(((P++[x]).length+R.length) / 2 - 1)+1+qI ((P++[x])++R.reverse) ((P++[x]).length - 1):=by
    unfold uJ;have hh:P.length+(R++[x]).length=(P++[x]).length+R.length:=by simp;lia
    rw[hh,Kn (by lia),er];congr 2;simp
   rw[p1,p2];lia
  ·rw[Kn c];have hR:R≠[]:=λz=>by rw[z] at b2;simp at b2;lia
   obtain⟨Q,y,rfl⟩:=be hR;rw[lF];have E':=E.b;refine⟨_,_,rfl,E',?_⟩;have nb:=ET th h3 (by simp) N (by lia);have er:(L++[y])++Q.reverse=L++(Q++[y]).reverse:=by simp
   have p2:uJ (L++[y]) Q=3*((L.length+(Q++[y]).length) / 2 - 1)+1+qI (L++(Q++[y]).reverse) (L.length+1):=by
    unfold uJ;have hh:(L++[y]).length+Q.length=L.length+(Q++[y]).length:=by simp;lia
    rw[hh,Kn (by lia),er];congr 2;simp
   rw[p1,p2];lia
def km{L R L' R':List Int}{c:Nat}(hc:c=97\/c=98\/c=99\/c=100)(h:ck L R c=some (L',R')):L'.length+R'.length<=L.length+R.length+2:=by
 obtain⟨_,_,s1,s2⟩:=nS hc h
 split at s1<;>split at s2<;>lia
def GU(L R:List Int):∃L' R',ck L R 97=some (L',R'):=⟨_,_,rfl⟩
end Rm
namespace Rm
open PySem L2
structure View where
 φ:Hp->Hp
 ok:Hp->Prop
 new:∀ {H t o},ok H->H t=none->ok (upd H t o)/\a6 (φ H) (φ (upd H t o))/\φ (upd H t o) t=some o
def View.all:View:=⟨id,λ_=>True,λ_ h=>⟨trivial,(a6.refl _).new h,aO⟩⟩
def View.but(m:Addr):View:=⟨λH=>wo H m,λH=>∃o,H m=some o,fun {H t o} ⟨u,hu⟩ h=>⟨⟨u,by rw[a9 (bF hu h)];exact hu⟩,sQ h,Ca (bF hu h).symm aO⟩⟩
structure DE (w:View) (σ:St) (H0:Hp) (te:TE) (d:PyData):Prop where
 run:∀ (H:Hp) (Q:VK),w.ok H->a6 H0 H->a6 (w.φ H0) (w.φ H)->(∀ x H',w.ok H'->a6 H H'->a6 (w.φ H) (w.φ H')->Dat (w.φ H') x d->Q x H')->te σ H Q
structure DA (w:View) (σ:St) (H0:Hp) (ta:TA) (ds:List PyData):Prop where
 run:∀ (H:Hp) (Q:List V->Hp->Prop),w.ok H->a6 H0 H->a6 (w.φ H0) (w.φ H)->(∀ xs H',w.ok H'->a6 H H'->a6 (w.φ H) (w.φ H')->iw (w.φ H') xs ds->Q xs H')->ta σ H Q
abbrev sM (cs:List Nat):Prop:=∀c∈cs,jH c
def Fg(b:Bool):Nat:=if b then 114 else 108
def bL(b:Bool):List Int:=if b then [] else [0]
def bR(b:Bool):List Int:=if b then [0] else []
def p9(b:Bool):iG (Fg b)=(bL b,bR b):=by cases b<;>rfl
def HH(b:Bool):sd b=⟨#[Fg b]⟩:=by cases b<;>decide +kernel
def nG{b:Bool}{cs:List Nat}(hl:sM cs)(h:fU (bL b) (bR b) cs 0=none):∀i,i<=cs.length->∃L R,Run b cs i L R/\fU L R (cs.drop i) i=none
 | 0,_=>⟨_,_,Run.zero b cs,by rw[iU];exact h⟩
 | i+1,hi=>by
  obtain⟨L,R,r,e⟩:=nG hl h i (by lia);have hc:cs[i]? = some cs[i]:=aI (by lia);have lt:=hl _ (bP hc);rw[bA (by lia:i<cs.length)] at e;cases g:ck L R cs[i] with
  | none=>rw[lq g] at e;cases e
  | some p=>
   obtain⟨L',R'⟩:=p;rw[ke g] at e;exact⟨L',R',r.step hc lt g,e⟩
def BN{b:Bool}{cs:List Nat}(hl:sM cs)(h:fU (bL b) (bR b) cs 0=none):∃L R,Run b cs cs.length L R/\L.length+R.length=1:=by
 obtain⟨L,R,r,e⟩:=nG hl h cs.length (aE _);rw[jU] at e;refine⟨L,R,r,?_⟩;unfold fU at e
 split at e
 ·assumption
 ·cases e
def ye{b:Bool}{cs:List Nat}(hl:sM cs)(h:fU (bL b) (bR b) cs 0=none)(k:Bool)(i:Nat)(hi:i<cs.length)(hk:isIn k (cs.getD i 0)=false):(stN k b cs i).1≠[]:=by
 obtain⟨L,R,r,e⟩:=nG hl h i (by lia);have hc:cs[i]? = some cs[i]:=aI (by lia);have lt:=hl _ (bP hc);rw[bA (by lia:i<cs.length)] at e;have eg:cs.getD i 0=cs[i]:=by rw[cA,hc];rfl
 rw[eg] at hk;cases g:ck L R cs[i] with
 | none=>rw[lq g] at e;cases e
 | some p=>
  obtain⟨L',R'⟩:=p;obtain⟨n1,n2,_,_⟩:=nS lt g;cases k
  ·exact cR.mp (by rw[r.ll];exact cR.mpr (n1 hk))
  ·exact cR.mp (by rw[r.rl];exact cR.mpr (n2 hk))
def BR{b:Bool}{cs:List Nat}(hl:sM cs)(h:fU (bL b) (bR b) cs 0=none):DD cs.length b (fin2 b cs):=by
 obtain⟨L,R,r,_⟩:=BN hl h;exact EY λk=>by cases k;exact r.li;exact r.ri
structure kA (kvs:List (Key×V)) (n:Nat) (m:Nat->Option Nat):Prop where
 get:∀ r,r<=n->gU kvs (.inl (r:Int):Key)=(m r).map fun x=>V.int (x:Nat)
 len:kvs.length<=100
def kA.nil{n:Nat}:kA [] n (λ_=>none):=⟨λ_ _=>rfl,by decide⟩
def ordF(f:Bool->Nat->Option Nat)(b:Bool)(n:Nat):List Int:=(List.range n).map λi=>((pth f b (i+1)).1:Int)
def uL(H:Hp)(a:Addr)(b:Bool)(cs:List Nat):Prop:=∃o T,H a=some (.tup [.str (sd b),.ref o])/\1<=T/\T<=2*cs.length+4/\Aq cs.length b (fin2 b cs) T/\(pth (fin2 b cs) b T).1=cs.length+1/\H o=some (.tup ((ordF (fin2 b cs) b (T - 1)).map V.int))
def ui:Sp:=λvs H Q _=>∃(k b:Bool) (cs:List Nat),vs=[.str (tx cs),.str (tx [97,if k then 99 else 98]),.bl (decide (k=b))]/\sM cs/\cs.length<=20/\(∀i,i<cs.length->isIn k (cs.getD i 0)=false->(stN k b cs i).1≠[]) ∧
 ∀d kvs H',a6 H H'->H d=none->H' d=some (.dK kvs)->kA kvs cs.length (fin2 b cs k)->Q (.ref d) H'
def kA.put{kvs:List (Key×V)}{n a b:Nat}{m:Nat->Option Nat}(h:kA kvs n m)(hl:kvs.length<100):kA (putK kvs (.inl (a:Int):Key) (.int (b:Nat))) n (λx=>if x=a then some b else m x):=by
 refine⟨λr hr=>?_,by have:=dc kvs (.inl (a:Int):Key) (.int (b:Nat));lia⟩;rw[mq];by_cases e:r=a
 ·subst e;rw[Ko rfl,Ko rfl];rfl
 ·have ne:¬((.inl (r:Int):Key)=.inl (a:Int)):=λz=>e (by have:=Sum.inl.inj z;lia);rw[Kn ne,Kn e];exact h.get r hr
def kA.congr{kvs:List (Key×V)}{n:Nat}{m m':Nat->Option Nat}(h:kA kvs n m)(e:∀x,x<=n->m x=m' x):kA kvs n m':=⟨λr hr=>by rw[h.get r hr,e r hr],h.len⟩
def CB{m:Nat->Option Nat}{a o:Nat}(h:o≠a):(λx=>if x=o then some a else (λx=>if x=a then some o else m x) x)=jy m a o:=by
 funext x;unfold jy;by_cases e:x=a
 ·subst e;simp[bg h]
 ·simp[e]
def wu(n:Nat)(W:List Nat)(m:Nat->Option Nat)(j:Nat):Nat->Option Nat:=λx=>if x∈W.take j then some (n+1) else m x
def wt{n o j:Nat}{W:List Nat}{m:Nat->Option Nat}(h:W[j]? = some o):(λx=>if x=o then some (n+1) else wu n W m j x)=wu n W m (j+1):=by
 funext x;unfold wu;rw[bJ,h];by_cases e:x=o
 ·subst e;simp
 ·simp[e]
def pV(k b:Bool)(cs:List Nat):∀i,(stN k b cs i).1.length<=i+1
 | 0=>by unfold stN ug;dsimp only;split<;>simp
 | i+1=>by
  have:=pV k b cs i;show (oA k _ _ _).1.length<=_;rw[pU]
  split<;>lia
def zI{f:Bool->Nat->Option Nat}{b:Bool}(i:Nat):(pth f b (i+1)).2=!(pth f b i).2:=rfl
def wV{f:Bool->Nat->Option Nat}{b:Bool}(i:Nat):ordF f b (i+1)=ordF f b i++[((pth f b (i+1)).1:Int)]:=by unfold ordF;rw[fQ,aN];rfl
def zd{f:Bool->Nat->Option Nat}{b:Bool}(i:Nat):(ordF f b i).length=i:=by simp[ordF]
def Eo{n:Nat}{b:Bool}{f:Bool->Nat->Option Nat}{T T':Nat}(V:Aq n b f T)(e:(pth f b T).1=n+1)(V':Aq n b f T')(e':(pth f b T').1=n+1):T=T':=by
 rcases Nat.lt_trichotomy T T' with h | h | h
 ·have:=V'.le T h;lia
 ·exact h
 ·have:=V.le T' h;lia
def o3:Sp:=λvs H Q _=>∃(a:Addr) (L R:List Int),vs=[.ref a]/\eP H a L R/\EE L R/\1<L.length+R.length/\L.length+R.length<=100/\∀best H',a6 H H'->Ai (L++R.reverse) L.length best->Q (.str ⟨#[xG L.length best]⟩) H'
def Ao(L:List Int)(p i:Nat)(v:V):Prop:=(v=.non/\∀k,k<i->¬nW L k)\/∃best:Nat,v=.int best/\nW L best/\∀k,k<i->nW L k->((best:Int)-p).natAbs<=((k:Int)-p).natAbs
def Aa{tc:TT}{σ:L2.St}{H:Hp}{C0:Bool->Hp->Prop}(P:Bool->Hp->Prop)(h:∀C:Bool->Hp->Prop,(∀k H',P k H'->C k H')->tc σ H C)(hk:∀k H',P k H'->C0 k H'):tc σ H C0:=h C0 hk
def AH{cs:List Nat}{c:Nat}(h:sM cs)(hc:jH c):sM (cs++[c]):=λx hx=>by
 rcases aL.mp hx with h1 | h1
 ·exact h x h1
 ·simp at h1;subst h1;exact hc
def C3 (r:Int):∃c:Nat,pL (Str.ofString "abcd").cps.toList (r % 4)=some c/\jH c:=by
 have h:r % 4=0\/r % 4=1\/r % 4=2\/r % 4=3:=by lia
 rcases h with e | e | e | e<;>rw[e]
 ·exact⟨97,by decide +kernel,.inl rfl⟩
 ·exact⟨98,by decide +kernel,.inr (.inl rfl)⟩
 ·exact⟨99,by decide +kernel,.inr (.inr (.inl rfl))⟩
 ·exact⟨100,by decide +kernel,.inr (.inr (.inr rfl))⟩
def Ae(p best:Nat):jH (xG p best):=by
 unfold xG
 split
 ·exact .inr (.inr (.inr rfl))
 ·split
  ·exact .inr (.inr (.inl rfl))
  ·exact .inr (.inl rfl)
abbrev Oe:=Int×Int
def chain:Bool->List Int->Bool->List Bw
 | s,a::b::rest,t=>(if (!s)=t then [(min a b,max a b)] else [])++chain (!s) (b::rest) t
 | _,_,_=>[]
def dq(s:Bool)(R:List Int):Bool:=s ^^ odd R.length
def vX(R:List Int):Int:=R.head?.getD 0
def ltZ(R:List Int):Int:=R.getLast?.getD 0
def nO(s:Bool)(a:Int)(R:List Int):dq s (a::R)=dq (!s) R:=by
 unfold dq;rw[bi,iO];cases s<;>cases odd R.length<;>rfl
def t5(s:Bool)(R:List Int)(r:Int):dq s (R++[r])=!dq s R:=by
 unfold dq;rw[aX,eO,iO];cases s<;>cases odd R.length<;>rfl
def AI(R:List Int)(r:Int):ltZ (R++[r])=r:=by simp[ltZ]
def AJ(a b:Int)(R:List Int):ltZ (a::b::R)=ltZ (b::R):=by simp[ltZ]
def vV(R:List Int):vX R.reverse=ltZ R:=by simp[vX,ltZ]
def qJ(R:List Int):ltZ R.reverse=vX R:=by simp[vX,ltZ]
def vW{R S:List Int}(h:R≠[]):vX (R++S)=vX R:=by cases R with | nil=>exact absurd rfl h | cons a R=>rfl
def vP{R S:List Int}(h:S≠[]):ltZ (R++S)=ltZ S:=by
 unfold ltZ;rw[List.getLast?_append];cases e:S.getLast? with
 | none=>exact absurd (List.getLast?_eq_none_iff.mp e) h
 | some x=>rfl
def lW:∀{R:List Int} (s:Bool) (r:Int) (S:List Int) (t:Bool),R≠[]->chain s (R++r::S) t=chain s R t++(if dq s R=t then [(min (ltZ R) r,max (ltZ R) r)] else [])++chain (dq s R) (r::S) t
 | [a],s,r,S,t,_=>by
  show (if (!s)=t then [(min a r,max a r)] else [])++chain (!s) (r::S) t=[]++_++_;have e:dq s [a]=!s:=by cases s<;>rfl
  rw[e];rfl
 | a::b::R,s,r,S,t,_=>by
  show (if (!s)=t then [(min a b,max a b)] else [])++chain (!s) ((b::R)++r::S) t=((if (!s)=t then [(min a b,max a b)] else [])++chain (!s) (b::R) t)++_++_;rw[lW (!s) r S t (by simp),nO s a (b::R),AJ];simp only[a7]
def chain_snoc{R:List Int}(s:Bool)(r:Int)(t:Bool)(h:R≠[]):chain s (R++[r]) t=chain s R t++(if dq s R=t then [(min (ltZ R) r,max (ltZ R) r)] else []):=by
 rw[lW s r [] t h];show _++[]=_;rw[b9]
def mT:∀(R:List Int) (s t:Bool),(chain (dq s R) R.reverse t).Perm (chain s R t)
 | [],_,_=>.refl _
 | [a],s,t=>.refl _
 | a::b::R,s,t=>by
  have ih:=mT (b::R) (!s) t;rw[List.reverse_cons,nO,chain_snoc _ _ _ (by simp)];have e:dq (dq (!s) (b::R)) (b::R).reverse=!s:=by
   unfold dq;rw[dm];cases s<;>cases odd (b::R).length<;>rfl
  rw[e,qJ];show (chain (dq (!s) (b::R)) (b::R).reverse t++(if (!s)=t then [(min b a,max b a)] else [])).Perm ((if (!s)=t then [(min a b,max a b)] else [])++chain (!s) (b::R) t);rw[Int.min_comm b a,Int.max_comm b a];exact cV.trans (ih.append_left _)
structure Pc where
 lab:Int
 rows:List Int
 s:Bool
 main:Bool
def Pc.fst(p:Pc):Oe×Bool:=((vX p.rows,p.lab),p.s)
def Pc.lst(p:Pc):Oe×Bool:=((ltZ p.rows,p.lab),dq p.s p.rows)
def Pc.more(p:Pc):List (Oe×Bool):=if p.main then [] else [p.fst]
def Pc.ends(p:Pc):List (Oe×Bool):=p.lst::p.more
def Pc.rev(p:Pc):Pc:={ p with rows:=p.rows.reverse,s:=dq p.s p.rows }
def Pc.bows(t:Bool)(p:Pc):List Bw:=chain p.s p.rows t
def pp(p:Pc):p.rev.lst=p.fst:=by
 show ((ltZ p.rows.reverse,p.lab),dq (dq p.s p.rows) p.rows.reverse)=((vX p.rows,p.lab),p.s)
 rw[qJ];congr 1;unfold dq;rw[dm];cases p.s<;>cases odd p.rows.length<;>rfl
def BP(p:Pc):p.rev.fst=p.lst:=by
 show ((vX p.rows.reverse,p.lab),dq p.s p.rows)=_;rw[vV];rfl
def dF(st:Bool->List Oe):List (Oe×Bool):=(st false).map (·,false)++(st true).map (·,true)
def jb{st:Bool->List Oe}{t:Bool}{st':List Oe}{e:Oe}(h:st t=st'++[e]):(dF st).Perm ((e,t)::dF λu=>if u=t then st' else st u):=by
 unfold dF;cases t with
 | false=>
  simp only[h,Ku,Bool.true_eq_false,Kv,aN,aS,fD,a7,dN,ax];exact cZ
 | true=>
  simp only[h,Ku,cn,Kv,aN,aS,fD];rw[<-a7];exact cV
def kW{st:Bool->List Oe}{t:Bool}{e:Oe}:(dF λu=>if u=t then st u++[e] else st u).Perm ((e,t)::dF st):=by
 have h:=jb (st:=λu=>if u=t then st u++[e] else st u) (t:=t) (st':=st t) (e:=e) (by simp);refine h.trans ?_;have:(λu=>if u=t then st t else if u=t then st u++[e] else st u)=st:=by
  funext u;by_cases z:u=t
  ·simp[z]
  ·simp[z]
 rw[this]
structure oT (st:List Oe) (f:List Bw) (r:Nat):Prop where
 inc:st.Pairwise fun a b=>a.1<b.1
 low:∀ e∈st,0<=e.1/\e.1<r
 bow:∀ p∈f,0<=p.1/\p.1<p.2/\p.2<r
 nc:∀ p∈f,∀ q∈f,lS p q=false
 un:∀ p∈f,∀ e∈st,¬ (p.1<e.1/\e.1<p.2)
def oT.push{st:List Oe}{f:List Bw}{r:Nat}(S:oT st f r)(l:Int):oT (st++[((r:Int),l)]) f (r+1):=by
 refine⟨dB.mpr ⟨S.inc,by simp,λa ha b hb=>?_⟩,λe h=>?_,λp h=>by have:=S.bow p h;lia,S.nc,λp hp e h=>?_⟩
 ·have e:b=((r:Int),l):=by simpa using hb
  subst e;exact(S.low a ha).2
 ·rcases aL.mp h with z | z
  ·have:=S.low e z;lia
  ·have e':e=((r:Int),l):=by simpa using z
   subst e';simp only;lia
 ·rcases aL.mp h with z | z
  ·exact S.un p hp e z
  ·have e':e=((r:Int),l):=by simpa using z
   subst e';have:=S.bow p hp;simp only;lia
def oT.close{st:List Oe}{f:List Bw}{r:Nat}{o l:Int}(S:oT (st++[(o,l)]) f r):oT st (f++[(o,(r:Int))]) (r+1):=by
 have ho:=S.low (o,l) (by simp);simp only at ho;have low:∀e∈st,e.1<o:=λe he=>(dB.mp S.inc).2.2 e he (o,l) (by simp);have cr:∀p q:Bw,(¬(p.1<q.1/\q.1<p.2/\p.2<q.2))->lS p q=false:=λp q h=>by
  unfold lS;by_cases a:p.1<q.1
  ·by_cases b:q.1<p.2
   ·have c:¬p.2<q.2:=λc=>h ⟨a,b,c⟩;simp[c]
   ·simp[b]
  ·simp[a]
 refine⟨(dB.mp S.inc).1,λe h=>by have:=S.low e (bM _ h);lia,λp h=>?_,λp hp q hq=>?_,λp hp e h=>?_⟩
 ·rcases aL.mp h with z | z
  ·have:=S.bow p z;lia
  ·have e':p=(o,(r:Int)):=by simpa using z
   subst e';simp only;lia
 ·rcases aL.mp hp with z | z
  ·rcases aL.mp hq with y | y
   ·exact S.nc p z q y
   ·have e':q=(o,(r:Int)):=by simpa using y
    subst e';have h1:=S.un p z (o,l) (by simp);exact cr _ _ λh=>h1 ⟨h.1,h.2.1⟩
  ·have e':p=(o,(r:Int)):=by simpa using z
   subst e';rcases aL.mp hq with y | y
   ·have h1:=S.bow q y;exact cr _ _ λh=>by simp only at h;lia
   ·have e':q=(o,(r:Int)):=by simpa using y
    subst e';exact cr _ _ λh=>by simp only at h;lia
 ·have h1:=low e h;rcases aL.mp hp with z | z
  ·exact S.un p z e (bM _ h)
  ·have e':p=(o,(r:Int)):=by simpa using z
   subst e';simp only;lia
def oT.map{st:List Oe}{f:List Bw}{r:Nat}(S:oT st f r)(g:Int->Int):oT (st.map λe=>(e.1,g e.2)) f r:=by
 refine⟨?_,λe h=>?_,S.bow,S.nc,λp hp e h=>?_⟩
 ·rw[ft];exact S.inc
 ·obtain⟨x,hx,rfl⟩:=bI.mp h;exact S.low x hx
 ·obtain⟨x,hx,rfl⟩:=bI.mp h;exact S.un p hp x hx
structure Gr (b:Bool) (st:Bool->List Oe) (f:Bool->List Bw) (r:Nat) (is:List Pc):Prop where
 ne:∀ p∈is,p.rows≠[]
 rows:(is.flatMap Pc.rows).Perm (fI 0 r)
 labs:(is.map Pc.lab).Nodup
 lr:∀ p∈is,p.lab<r
 one:is.countP Pc.main=1
 hd:∀ p∈is,p.main=true->p.rows.head? = some 0/\p.s=!b
 ends:(dF st).Perm (is.flatMap Pc.ends)
 bows:∀ t,(f t).Perm (is.flatMap (Pc.bows t))
 stk:∀ t,oT (st t) (f t) r
section
variable {b:Bool} {st:Bool->List Oe} {f:Bool->List Bw} {r:Nat} {is js:List Pc} {p q:Pc}
def Gr.perm(G:Gr b st f r is)(h:is.Perm js):Gr b st f r js:=
 ⟨λp hp=>G.ne p (h.mem_iff.mpr hp),(h.flatMap_right _).symm.trans G.rows,(h.map _).nodup_iff.mp G.labs,λp hp=>G.lr p (h.mem_iff.mpr hp),(h.countP_eq _).symm.trans G.one,λp hp=>G.hd p (h.mem_iff.mpr hp),
  G.ends.trans (h.flatMap_right _),λt=>(G.bows t).trans (h.flatMap_right _),G.stk⟩
def Gr.flip(G:Gr b st f r (p::is))(h:p.main=false):Gr b st f r (p.rev::is):=by
 have more:p.more=[p.fst]:=by unfold Pc.more;rw[h];rfl
 have more':p.rev.more=[p.lst]:=by
  unfold Pc.more;rw[show p.rev.main=false from h,BP];rfl
 refine⟨λq hq=>?_,?_,G.labs,λq hq=>?_,?_,λq hq hm=>?_,?_,λt=>?_,G.stk⟩
 ·rcases aH.mp hq with z | z
  ·subst z;exact λe=>G.ne p am (jN.mp e)
  ·exact G.ne q (aK _ z)
 ·exact((List.reverse_perm p.rows).append_right _).trans G.rows
 ·rcases aH.mp hq with z | z
  ·subst z;exact G.lr p am
  ·exact G.lr q (aK _ z)
 ·have:=G.one;rw[cB] at this ⊢;exact this
 ·rcases aH.mp hq with z | z
  ·subst z;rw[show p.rev.main=false from h] at hm;cases hm
  ·exact G.hd q (aK _ z) hm
 ·refine G.ends.trans ?_;rw[aT,aT];refine List.Perm.append_right _ ?_;unfold Pc.ends;rw[more,more',pp];exact List.Perm.swap _ _ _
 ·refine(G.bows t).trans ?_;rw[aT,aT];exact(mT p.rows p.s t).symm.append_right _
def Gr.pick(G:Gr b st f r is){e:Oe×Bool}(h:e∈dF st):∃p js,p.lst=e/\Gr b st f r (p::js)/\∀q∈js,q∈is:=by
 obtain⟨p,hp,he⟩:=fB.mp (G.ends.mem_iff.mp h);obtain⟨A,B,rfl⟩:=dW hp;have G1:=G.perm cZ;have sub:∀q∈A++B,q∈A++p::B:=λq hq=>by
  rcases aL.mp hq with z | z
  ·exact bM _ z
  ·exact af _ (aK _ z)
 rcases aH.mp he with z | z
 ·exact⟨p,A++B,z.symm,G1,sub⟩
 ·unfold Pc.more at z;cases hm:p.main with
  | true=>rw[hm] at z;cases z
  | false=>
   rw[hm] at z;have e':e=p.fst:=by simpa using z
   exact⟨p.rev,A++B,by rw[pp,e'],G1.flip hm,sub⟩
def nI(r:Nat):fI 0 (r+1)=fI 0 r++[(r:Int)]:=by
 unfold fI;rw[fQ,aN];simp
def Gr.opA(G:Gr b st f r is):Gr b (λu=>st u++[((r:Int),(r:Int))]) f (r+1) (⟨r,[(r:Int)],false,false⟩::is):=by
 refine⟨λq hq=>?_,?_,?_,λq hq=>?_,?_,λq hq hm=>?_,?_,λt=>?_,λt=>(G.stk t).push _⟩
 ·rcases aH.mp hq with z | z
  ·subst z;simp
  ·exact G.ne q z
 ·rw[nI];exact(G.rows.cons (r:Int)).trans (cV (l₁:=[(r:Int)]) (l₂:=fI 0 r))
 ·rw[aS,cX];refine⟨λz=>?_,G.labs⟩;obtain⟨q,hq,e⟩:=bI.mp z;have:=G.lr q hq;simp only at e;lia
 ·rcases aH.mp hq with z | z
  ·subst z;simp only;lia
  ·have:=G.lr q z;lia
 ·rw[cB,G.one];rfl
 ·rcases aH.mp hq with z | z
  ·subst z;cases hm
  ·exact G.hd q z hm
 ·have h1:=kW (st:=st) (t:=false) (e:=((r:Int),(r:Int)));have h2:=kW (st:=λu=>if u=false then st u++[((r:Int),(r:Int))] else st u) (t:=true) (e:=((r:Int),(r:Int)));have e:(λu=>if u=true then (if u=false then st u++[((r:Int),(r:Int))] else st u)++[((r:Int),(r:Int))] else if u=false then st u++[((r:Int),(r:Int))] else st u)=λu=>st u++[((r:Int),(r:Int))]:=by
   funext u;cases u<;>rfl
  rw[e] at h2;refine h2.trans ((h1.cons _).trans ?_);rw[aT];exact((G.ends.cons _).cons _)
 ·refine(G.bows t).trans ?_;rw[aT];exact .refl _
def Gr.ext{t:Bool}{st':List Oe}{o l:Int}(G:Gr b st f r (p::is))(hl:p.lst=((o,l),t))(hs:st t=st'++[(o,l)]):
  Gr b (λu=>if u=t then st' else st u++[((r:Int),l)]) (λu=>if u=t then f u++[(o,(r:Int))] else f u) (r+1) ({ p with rows:=p.rows++[(r:Int)] }::is):=by
 have pne:=G.ne p am;have e1:ltZ p.rows=o:=congrArg (λx=>x.1.1) hl;have e2:p.lab=l:=congrArg (λx=>x.1.2) hl;have e3:dq p.s p.rows=t:=congrArg (λx=>x.2) hl;have low:=(G.stk t).low (o,l) (by rw[hs];simp);simp only at low;have lst':Pc.lst { p with rows:=p.rows++[(r:Int)] }=(((r:Int),l),!t):=by
  show ((ltZ (p.rows++[(r:Int)]),p.lab),dq p.s (p.rows++[(r:Int)]))=_;rw[AI,t5,e2,e3]
 have more':Pc.more { p with rows:=p.rows++[(r:Int)] }=p.more:=by
  unfold Pc.more Pc.fst;rw[vW pne]
 refine⟨λq hq=>?_,?_,G.labs,λq hq=>?_,?_,λq hq hm=>?_,?_,λu=>?_,λu=>?_⟩
 ·rcases aH.mp hq with z | z
  ·subst z;simp
  ·exact G.ne q (aK _ z)
 ·have h1:=G.rows;rw[aT] at h1 ⊢;rw[nI];show ((p.rows++[(r:Int)])++is.flatMap Pc.rows).Perm _;rw[a7];exact(cZ (l₁:=p.rows) (a:=(r:Int)) (l₂:=is.flatMap Pc.rows)).trans ((h1.cons _).trans (cV (l₁:=[(r:Int)])))
 ·rcases aH.mp hq with z | z
  ·subst z;have:=G.lr p am;simp only;lia
  ·have:=G.lr q (aK _ z);lia
 ·have:=G.one;rw[cB] at this ⊢;exact this
 ·rcases aH.mp hq with z | z
  ·subst z;obtain⟨a,c⟩:=G.hd p am hm;refine⟨?_,c⟩;show (p.rows++[(r:Int)]).head? = _;rw[List.head?_append,a];rfl
  ·exact G.hd q (aK _ z) hm
 ·have h1:=(jb hs).symm.trans G.ends;rw[aT] at h1 ⊢;have h2:(dF λu=>if u=t then st' else st u).Perm (p.more++is.flatMap Pc.ends):=by
   have e:p.ends++is.flatMap Pc.ends=((o,l),t)::(p.more++is.flatMap Pc.ends):=by
    unfold Pc.ends;rw[hl];rfl
   rw[e] at h1;exact h1.cons_inv
  have e:(λu=>if u=t then st' else st u++[((r:Int),l)])=λu=>if u=(!t) then (if u=t then st' else st u)++[((r:Int),l)] else (if u=t then st' else st u):=by
   funext u;cases u<;>cases t<;>rfl
  rw[e];refine kW.trans ((h2.cons _).trans ?_);have e4:Pc.ends { p with rows:=p.rows++[(r:Int)] }=(((r:Int),l),!t)::p.more:=by
   unfold Pc.ends;rw[lst',more']
  rw[e4];exact .refl _
 ·have h1:=G.bows u;rw[aT] at h1 ⊢;have e4:Pc.bows u { p with rows:=p.rows++[(r:Int)] }=p.bows u++if u=t then [(o,(r:Int))] else []:=by
   show chain p.s (p.rows++[(r:Int)]) u=chain p.s p.rows u++_;rw[chain_snoc _ _ _ pne,e1,e3];have m1:min o (r:Int)=o:=by lia
   have m2:max o (r:Int)=(r:Int):=by lia
   rw[m1,m2];congr 1;cases t<;>cases u<;>rfl
  rw[e4];by_cases z:u=t
  ·rw[Ko z,Ko z,a7];exact(h1.append_right _).trans (by rw[a7];exact kH _ cV)
  ·rw[Kn z,Kn z,b9];exact h1
 ·by_cases z:u=t
  ·subst z;simp only[Ku];have:=G.stk u;rw[hs] at this;exact this.close
  ·simp only[z,Kv];exact(G.stk u).push l
def Gr.pick2{o1 l1 o2 l2:Int}{n' f':List Oe}(G:Gr b st f r is)(h1:st false=n'++[(o1,l1)])(h2:st true=f'++[(o2,l2)])(hne:l1≠l2):∃p q js,p.lst=((o1,l1),false)/\q.lst=((o2,l2),true)/\Gr b st f r (p::q::js):=by
 obtain⟨p,js,hp,G1,_⟩:=G.pick (e:=((o1,l1),false)) (by unfold dF;rw[h1];simp);have hm:((o2,l2),true)∈dF st:=by unfold dF;rw[h2];simp
 obtain⟨q,hq,he⟩:=fB.mp (G1.ends.mem_iff.mp hm);have lab:∀(x:Pc) e,e∈x.ends->e.1.2=x.lab:=λx e h=>by
  rcases aH.mp h with z | z
  ·subst z;rfl
  ·unfold Pc.more at z;cases hm:x.main with
   | true=>rw[hm] at z;cases z
   | false=>
    rw[hm] at z;have e':e=x.fst:=by simpa using z
    subst e';rfl
 have pl:p.lab=l1:=congrArg (λx=>x.1.2) hp;have ql:=lab q _ he;rcases aH.mp hq with z | z
 ·subst z;simp only at ql;exact absurd (pl.symm.trans ql.symm) hne
 ·obtain⟨A,B,rfl⟩:=dW z;have G2:Gr b st f r (q::p::(A++B)):=G1.perm ((cZ.cons p).trans (List.Perm.swap _ _ _));rcases aH.mp he with y | y
  ·exact⟨p,q,A++B,hp,y.symm,G2.perm (List.Perm.swap _ _ _)⟩
  ·unfold Pc.more at y;cases hm:q.main with
   | true=>rw[hm] at y;cases y
   | false=>
    rw[hm] at y;have e':((o2,l2),true)=q.fst:=by simpa using y
    exact⟨p,q.rev,A++B,hp,by rw[pp,<-e'],(G2.flip hm).perm (List.Perm.swap _ _ _)⟩
def iH(x y:Int)(e:Oe):Oe:=(e.1,if e.2=x then y else e.2)
def Gr.join0{ta:Bool}{o:Bool->Int}{la lb l1 l2:Int}{st':Bool->List Oe}(G:Gr b st f r (p::q::is))(hp:p.lst=((o ta,la),ta))(hq:q.lst=((o (!ta),lb),!ta))(hs:∀u,st u=st' u++[(o u,if u=ta then la else lb)])(hm:q.main=false)(hlab:(l1=la/\l2=lb)\/(l1=lb/\l2=la)):
  Gr b (λu=>(st' u).map (iH l2 l1)) (λu=>f u++[(o u,(r:Int))]) (r+1) (⟨l1,p.rows++(r:Int)::q.rows.reverse,p.s,p.main⟩::is):=by
 have pne:=G.ne p am;have qne:=G.ne q (aK _ am);have qrne:q.rows.reverse≠[]:=λe=>qne (jN.mp e);have p1:ltZ p.rows=o ta:=congrArg (λx=>x.1.1) hp;have p2:p.lab=la:=congrArg (λx=>x.1.2) hp;have p3:dq p.s p.rows=ta:=congrArg (λx=>x.2) hp;have q1:ltZ q.rows=o (!ta):=congrArg (λx=>x.1.1) hq;have q2:q.lab=lb:=congrArg (λx=>x.1.2) hq;have q3:dq q.s q.rows=!ta:=congrArg (λx=>x.2) hq;have low:∀u,0<=o u/\o u<r:=λu=>(G.stk u).low (o u,if u=ta then la else lb) (by rw[hs u];simp);have nd:=G.labs;rw[aS,aS,cX,cX,p2,q2] at nd;obtain⟨n1,n2,n3⟩:=nd;have nab:la≠lb:=λe=>n1 (by rw[e];exact am);have nla:∀x∈is,x.lab≠la:=λx hx e=>n1 (aK _ (bI.mpr ⟨x,hx,e⟩));have nlb:∀x∈is,x.lab≠lb:=λx hx e=>n2 (bI.mpr ⟨x,hx,e⟩);have n1':∀x∈is,x.lab≠l1:=λx hx=>by rcases hlab with ⟨e,_⟩ | ⟨e,_⟩<;>rw[e];exact nla x hx;exact nlb x hx
 have n2':∀x∈is,x.lab≠l2:=λx hx=>by rcases hlab with ⟨_,e⟩ | ⟨_,e⟩<;>rw[e];exact nlb x hx;exact nla x hx
 have rla:(if la=l2 then l1 else la)=l1:=by
  rcases hlab with ⟨e,e'⟩ | ⟨e,e'⟩
  ·rw[e',Kn nab,e]
  ·rw[e',Ko rfl]
 have rlb:(if lb=l2 then l1 else lb)=l1:=by
  rcases hlab with ⟨e,e'⟩ | ⟨e,e'⟩
  ·rw[e',Ko rfl]
  ·rw[e',Kn nab.symm,e]
 refine⟨λx hx=>?_,?_,?_,λx hx=>?_,?_,λx hx hmx=>?_,?_,λu=>?_,λu=>?_⟩
 ·rcases aH.mp hx with z | z
  ·subst z;simp
  ·exact G.ne x (aK _ (aK _ z))
 ·have h1:=G.rows;rw[aT,aT] at h1;rw[aT,nI];show ((p.rows++(r:Int)::q.rows.reverse)++is.flatMap Pc.rows).Perm _;rw[a7,dN];refine cZ.trans (List.Perm.trans ?_ (cV (l₁:=[(r:Int)])));refine List.Perm.cons _ (List.Perm.trans ?_ h1);exact kH _ ((List.reverse_perm q.rows).append_right _)
 ·rw[aS,cX];refine⟨λz=>?_,n3⟩;obtain⟨x,hx,e⟩:=bI.mp z;exact n1' x hx e
 ·rcases aH.mp hx with z | z
  ·subst z;have h1:=G.lr p am;have h2:=G.lr q (aK _ am);simp only;rcases hlab with ⟨e,_⟩ | ⟨e,_⟩<;>rw[e]<;>lia
  ·have:=G.lr x (aK _ (aK _ z));lia
 ·have:=G.one;rw[cB,cB,hm] at this;rw[cB];simpa using this
 ·rcases aH.mp hx with z | z
  ·subst z;obtain⟨a,c⟩:=G.hd p am hmx;refine⟨?_,c⟩;show (p.rows++(r:Int)::q.rows.reverse).head? = _;rw[List.head?_append,a];rfl
  ·exact G.hd x (aK _ (aK _ z)) hmx
 ·have h0:(dF st).Perm (((o ta,la),ta)::((o (!ta),lb),!ta)::dF st'):=by
   have e1:(dF st).Perm _:=jb (t:=ta) (hs ta);refine e1.trans ?_;rw[Ko rfl];refine List.Perm.cons _ ?_;have e2:=jb (st:=λu=>if u=ta then st' ta else st u) (t:=!ta) (st':=st' (!ta)) (e:=(o (!ta),lb)) (by
    have z:¬(!ta)=ta:=by cases ta<;>decide
    simp only[z,Kv];rw[hs (!ta),Kn z])
   refine e2.trans (List.Perm.cons _ ?_);have:(λu=>if u=(!ta) then st' (!ta) else if u=ta then st' ta else st u)=st':=by
    funext u;cases u<;>cases ta<;>rfl
   rw[this]
  have h1:=h0.symm.trans G.ends;rw[aT,aT] at h1;have eqm:q.more=[q.fst]:=by unfold Pc.more;rw[hm];rfl
  have h2:(dF st').Perm (p.more++(q.fst::is.flatMap Pc.ends)):=by
   have e:(p.ends++(q.ends++is.flatMap Pc.ends)).Perm (((o ta,la),ta)::((o (!ta),lb),!ta)::(p.more++(q.fst::is.flatMap Pc.ends))):=by
    unfold Pc.ends;rw[hp,hq,eqm];refine List.Perm.cons _ ?_;exact cZ
   exact(h1.trans e).cons_inv.cons_inv
  have hmap:(dF λu=>(st' u).map (iH l2 l1))=(dF st').map λx=>(iH l2 l1 x.1,x.2):=by
   unfold dF;rw[aN,bj,bj,bj,bj];rfl
  rw[hmap];refine(h2.map _).trans ?_;rw[aN,aS,aT];have r1:(is.flatMap Pc.ends).map (λx=>(iH l2 l1 x.1,x.2))=is.flatMap Pc.ends:=by
   have:∀x∈is.flatMap Pc.ends,(iH l2 l1 x.1,x.2)=x:=λx hx=>by
    obtain⟨y,hy,he⟩:=fB.mp hx;have:x.1.2=y.lab:=by
     rcases aH.mp he with z | z
     ·subst z;rfl
     ·unfold Pc.more at z;cases hm:y.main with
      | true=>rw[hm] at z;cases z
      | false=>
       rw[hm] at z;have e':x=y.fst:=by simpa using z
       subst e';rfl
    unfold iH;rw[Kn (by rw[this];exact n2' y hy)]
   exact(cQ this).trans (List.map_id _)
  have r2:(iH l2 l1 q.fst.1,q.fst.2)=Pc.lst ⟨l1,p.rows++(r:Int)::q.rows.reverse,p.s,p.main⟩:=by
   show ((vX q.rows,if q.lab=l2 then l1 else q.lab),q.s)=((ltZ (p.rows++(r:Int)::q.rows.reverse),l1),dq p.s (p.rows++(r:Int)::q.rows.reverse))
   rw[q2,rlb,vP (by simp)];have e1:ltZ ((r:Int)::q.rows.reverse)=vX q.rows:=by
    have:(r:Int)::q.rows.reverse=[(r:Int)]++q.rows.reverse:=rfl;rw[this,vP qrne,qJ]
   rw[e1];congr 1;unfold dq at p3 q3 ⊢;rw[aX,bi,dm];have:odd (p.rows.length+(q.rows.length+1))=(odd p.rows.length ^^ !odd q.rows.length):=by
    unfold odd;rcases bx p.rows.length with h | h<;>rcases bx q.rows.length with h' | h'<;>simp[Nat.add_mod,h,h']
   rw[this]
   revert p3 q3
   cases p.s<;>cases q.s<;>cases odd p.rows.length<;>cases odd q.rows.length<;>cases ta<;>decide
  have r3:p.more.map (λx=>(iH l2 l1 x.1,x.2))=Pc.more ⟨l1,p.rows++(r:Int)::q.rows.reverse,p.s,p.main⟩:=by
   unfold Pc.more;cases hmp:p.main with
   | true=>rfl
   | false=>
    show [((vX p.rows,if p.lab=l2 then l1 else p.lab),p.s)]=[((vX (p.rows++(r:Int)::q.rows.reverse),l1),p.s)]
    rw[vW pne,p2,rla]
  rw[r1,r2,r3];exact cZ
 ·have h1:=G.bows u;rw[aT,aT] at h1;rw[aT];have e4:(Pc.bows u ⟨l1,p.rows++(r:Int)::q.rows.reverse,p.s,p.main⟩).Perm ((o u,(r:Int))::(p.bows u++q.bows u)):=by
   show (chain p.s (p.rows++(r:Int)::q.rows.reverse) u).Perm _;rw[lW _ _ _ _ pne,p1,p3];obtain⟨x,R,hR⟩:∃x R,q.rows.reverse=x::R:=by
    cases e:q.rows.reverse with
    | nil=>exact absurd e qrne
    | cons x R=>exact⟨x,R,rfl⟩
   have hx:x=o (!ta):=by
    rw[<-q1,<-vV,hR];rfl
   have e5:chain ta ((r:Int)::q.rows.reverse) u=(if (!ta)=u then [(o (!ta),(r:Int))] else [])++chain (!ta) q.rows.reverse u:=by
    rw[hR];show (if (!ta)=u then [(min (r:Int) x,max (r:Int) x)] else [])++chain (!ta) (x::R) u=_;have:=low (!ta);rw[hx];have m1:min (r:Int) (o (!ta))=o (!ta):=by lia
    have m2:max (r:Int) (o (!ta))=(r:Int):=by lia
    rw[m1,m2]
   have m1:min (o ta) (r:Int)=o ta:=by have:=low ta;lia
   have m2:max (o ta) (r:Int)=(r:Int):=by have:=low ta;lia
   rw[e5,m1,m2];have cq:(chain (!ta) q.rows.reverse u).Perm (q.bows u):=by
    have:=mT q.rows q.s u;rw[q3] at this;exact this
   by_cases z:ta=u
   ·have z':¬(!ta)=u:=by rw[<-z];cases ta<;>decide
    rw[Ko z,Kn z',<-z,ax,a7];refine(cZ (l₁:=chain p.s p.rows ta) (a:=(o ta,(r:Int))) (l₂:=chain (!ta) q.rows.reverse ta)).trans ?_;rw[<-z] at cq;exact(cq.append_left _).cons _
   ·have z':(!ta)=u:=by revert z;cases ta<;>cases u<;>decide
    rw[Kn z,Ko z',b9];refine(cZ (l₁:=chain p.s p.rows u) (a:=(o (!ta),(r:Int))) (l₂:=chain (!ta) q.rows.reverse u)).trans ?_;rw[<-z'];rw[<-z'] at cq;exact(cq.append_left _).cons _
  refine List.Perm.trans ?_ (e4.symm.append_right _);refine(cV (l₁:=f u) (l₂:=[(o u,(r:Int))])).trans ?_;refine List.Perm.cons _ (h1.trans ?_);show (Pc.bows u p++(Pc.bows u q++is.flatMap (Pc.bows u))).Perm ((Pc.bows u p++Pc.bows u q)++is.flatMap (Pc.bows u));rw[a7]
 ·have:=G.stk u;rw[hs u] at this;exact this.close.map λx=>if x=l2 then l1 else x
def Gr.many(G:Gr b st f r is):(st false).length+(st true).length+1=2*is.length:=by
 have h1:=G.ends.length_eq;unfold dF at h1;rw[aX,aB,aB] at h1;have h2:∀js:List Pc,(js.flatMap Pc.ends).length+js.countP Pc.main=2*js.length:=by
  intro js
  induction js with
  | nil=>rfl
  | cons p js ih=>
   rw[aT,aX,cB,bi];have:p.ends.length+(if p.main=true then 1 else 0)=2:=by
    unfold Pc.ends Pc.more;cases p.main<;>rfl
   lia
 have:=h2 is;rw[G.one] at this;lia
def Gr.start (b : Bool) : Gr b (fun u => if u = b then [((0 : Int), (0 : Int))] else []) (fun _ => []) 1 [⟨0, [0], !b, true⟩] := by
  refine ⟨fun p hp => ?_, ?_, by simp, fun p hp => ?_, rfl, fun p hp _ => ?_, ?_, fun t => .refl _, fun t => ?_⟩
  · have e : p = ⟨0, [0], !b, true⟩ := by simpa using hp
    subst e; simp
  · exact .refl _
  · have e : p = ⟨0, [0], !b, true⟩ := by simpa using hp
    subst e; exact (by decide : (0 : Int) < 1)
  · have e : p = ⟨0, [0], !b, true⟩ := by simpa using hp
    subst e; exact ⟨rfl, rfl⟩
  · cases b <;> exact .refl _
  · by_cases z : t = b
    · simp only [z, Ku]
      exact ⟨by simp, fun e h => by have e' : e = (0, 0) := by simpa using h
                                    subst e'; decide, fun p h => (nomatch h), fun p h => (nomatch h), fun p h => (nomatch h)⟩
    · simp only [z, Kv]
      exact ⟨.nil, fun p h => (nomatch h), fun p h => (nomatch h), fun p h => (nomatch h), fun p h => (nomatch h)⟩
def Gr.last{t:Bool}{o l:Int}(G:Gr b st f r is)(h1:st t=[(o,l)])(h2:st (!t)=[]):
  ∃ns:List Int,ns.length+1=r/\ns.Perm (fI 1 ns.length)/\∀u,(if u=t then f u++[(o,(r:Int))] else f u).Perm (bu b ns u (ns.length+1))/\∀p∈bu b ns u (ns.length+1),∀q∈bu b ns u (ns.length+1),lS p q=false:=by
 have hl:=G.many;have h3:(st false).length+(st true).length=1:=by
  cases t
  ·rw[h1,show st true=[] from h2];rfl
  ·rw[h1,show st false=[] from h2];rfl
 obtain⟨p,rfl⟩:∃p,is=[p]:=by
  match is,(show is.length=1 by lia) with
  | [p],_=>exact⟨p,rfl⟩
 have hm:p.main=true:=by
  have:=G.one;rw[cB] at this;cases z:p.main with
  | true=>rfl
  | false=>rw[z] at this;simp at this
 obtain⟨hd,hs⟩:=G.hd p (by simp) hm;have he:=G.ends;have hp:p.lst=((o,l),t):=by
  have e:dF st=[((o,l),t)]:=by
   unfold dF;cases t
   ·rw[h1,show st true=[] from h2];rfl
   ·rw[h1,show st false=[] from h2];rfl
  rw[e,aT,jP,b9] at he;unfold Pc.ends Pc.more at he;rw[hm] at he;have:=List.perm_singleton.mp he.symm;simpa using this
 have G':=G.ext hp (st':=[]) h1;obtain⟨ns,hns⟩:∃ns,p.rows=0::ns:=by
  cases e:p.rows with
  | nil=>rw[e] at hd;cases hd
  | cons a R=>rw[e] at hd;cases hd;exact⟨R,rfl⟩
 have hr:=G.rows;rw[aT,jP,b9,hns] at hr;have hlen:=hr.length_eq;rw[bi,yw] at hlen;have hr1:ns.Perm (fI 1 ns.length):=by
  have e:fI 0 r=0::fI 1 ns.length:=by
   rw[<-hlen];unfold fI;rw[jg,aS,bj];congr 1;refine cQ λi _=>?_;simp only[Function.comp]
   push_cast
   lia
  rw[e] at hr;exact hr.cons_inv
 have er:p.rows++[(r:Int)]=eW ns:=by
  rw[hns,<-hlen];unfold eW
  push_cast
  rfl
 have ch:∀(k m:Nat) (u:Bool),m=ns.length+1-k->k<=ns.length+1->chain (!(b ^^ odd k)) ((eW ns).drop k) u=(((List.range m).map (·+k)).filter (c9 b u)).map (fh ns):=by
  intro k m
  induction m generalizing k with
  | zero=>
   intro u hm hk;have e:k=ns.length+1:=by lia
   have:(eW ns).drop k=[bN ns k]:=by
    have h:=aJ.mp (fi (ns:=ns) (i:=k) (by lia));rw[bA h.1,h.2,jj (by rw[mJ];lia)]
   rw[this];rfl
  | succ m ih=>
   intro u hm hk;have h:=aJ.mp (fi (ns:=ns) (i:=k) (by lia));have h':=aJ.mp (fi (ns:=ns) (i:=k+1) (by lia));have ih':=ih (k+1) u (by lia) (by lia);rw[bA h.1,h.2,bA h'.1,h'.2];show (if (!!(b ^^ odd k))=u then [(min (bN ns k) (bN ns (k+1)),max (bN ns k) (bN ns (k+1)))] else [])++chain (!!(b ^^ odd k)) (bN ns (k+1)::(eW ns).drop (k+1+1)) u=_;have e2:chain (!!(b ^^ odd k)) (bN ns (k+1)::(eW ns).drop (k+1+1)) u=(((List.range m).map (·+(k+1))).filter (c9 b u)).map (fh ns):=by
    rw[<-ih',iO];have e3:(!(b ^^ !odd k))=!!(b ^^ odd k):=by cases b<;>cases odd k<;>rfl
    rw[e3];congr 1;rw[bA h'.1,h'.2]
   rw[e2,jg,aS,bj,jS];have e4:((λx=>x+k)∘Nat.succ)=λx=>x+(k+1):=by funext x;simp only[Function.comp];lia
   rw[e4];show _=List.map (fh ns) (if c9 b u (0+k)=true then _ else _);rw[Nat.zero_add];have e5:c9 b u k=decide ((!!(b ^^ odd k))=u):=by unfold c9;cases b<;>cases u<;>cases odd k<;>rfl
   rw[e5];by_cases z:(!!(b ^^ odd k))=u
   ·rw[Ko z,Ks z,Ko rfl];rfl
   ·rw[Kn z,Kr z,Kn bD];rfl
 have sb:∀u,Pc.bows u { p with rows:=p.rows++[(r:Int)] }=bu b ns u (ns.length+1):=λu=>by
  show chain p.s (p.rows++[(r:Int)]) u=_;have:=ch 0 (ns.length+1) u rfl (bE _);rw[show odd 0=false from rfl,Bool.xor_false] at this;rw[hs,er];refine Eq.trans this ?_;unfold bu;congr 2;simp
 have pu:∀u,(if u=t then f u++[(o,(r:Int))] else f u).Perm (bu b ns u (ns.length+1)):=λu=>by
  have:=G'.bows u;rw[aT,jP,b9,sb u] at this;exact this
 refine⟨ns,hlen,hr1,λu=>⟨pu u,λx hx y hy=>?_⟩⟩;exact(G'.stk u).nc x ((pu u).mem_iff.mpr hx) y ((pu u).mem_iff.mpr hy)
end
def NC(b:Bool)(ns:List Int):Prop:=∀u,∀p∈bu b ns u (ns.length+1),∀q∈bu b ns u (ns.length+1),lS p q=false
inductive qT (st:Bool->List Oe) (f:Bool->List Bw) (r:Nat):Nat->(Bool->List Oe)->(Bool->List Bw)->Prop
 | a:qT st f r 0 (fun u=>st u++[((r:Int),(r:Int))]) f
 | b {S:List Oe} {o l:Int}:st true=S++[(o,l)]->qT st f r 1 (fun u=>if u=true then S else st u++[((r:Int),l)]) (fun u=>if u=true then f u++[(o,(r:Int))] else f u)
 | c {S:List Oe} {o l:Int}:st false=S++[(o,l)]->qT st f r 2 (fun u=>if u=false then S else st u++[((r:Int),l)]) (fun u=>if u=false then f u++[(o,(r:Int))] else f u)
 | d {n' f':List Oe} {o1 l1 o2 l2:Int}:st false=n'++[(o1,l1)]->st true=f'++[(o2,l2)]->l1≠l2->qT st f r 3 (fun u=>(if u then f' else n').map (iH (max l1 l2) (min l1 l2))) (fun u=>f u++[(if u then o2 else o1,(r:Int))])
section
variable {b:Bool} {st:Bool->List Oe} {f:Bool->List Bw} {r:Nat} {is:List Pc}
def Gr.joinS{o1 l1 o2 l2 x y:Int}{n' f':List Oe}(G:Gr b st f r is)(h1:st false=n'++[(o1,l1)])(h2:st true=f'++[(o2,l2)])(hne:l1≠l2)(hxy:(y=l1/\x=l2)\/(y=l2/\x=l1)):
  ∃js,Gr b (λu=>(if u then f' else n').map (iH x y)) (λu=>f u++[(if u then o2 else o1,(r:Int))]) (r+1) js:=by
 obtain⟨p,q,js,hp,hq,G2⟩:=G.pick2 h1 h2 hne;cases hm:q.main with
 | false=>
  exact⟨_,G2.join0 (ta:=false) (o:=λu=>if u then o2 else o1) (st':=λu=>if u then f' else n') hp hq (λu=>by cases u;exact h1;exact h2) hm hxy⟩
 | true=>
  have hm2:p.main=false:=by
   have:=G2.one;rw[cB,cB,hm] at this;cases z:p.main with
   | false=>rfl
   | true=>rw[z] at this;simp at this
  have G3:=G2.perm (List.Perm.swap q p js);exact⟨_,G3.join0 (ta:=true) (o:=λu=>if u then o2 else o1) (st':=λu=>if u then f' else n') hq hp (λu=>by cases u;exact h1;exact h2) hm2 hxy.symm⟩
def qT.gr{st':Bool->List Oe}{f':Bool->List Bw}{k:Nat}(P:qT st f r k st' f')(G:Gr b st f r is):∃js,Gr b st' f' (r+1) js:=by
 cases P with
 | a=>exact⟨_,G.opA⟩
 | @b S o l h=>obtain⟨p,js,hp,G1,_⟩:=G.pick (e:=((o,l),true)) (by unfold dF;rw[h];simp);exact⟨_,G1.ext hp h⟩
 | @c S o l h=>obtain⟨p,js,hp,G1,_⟩:=G.pick (e:=((o,l),false)) (by unfold dF;rw[h];simp);exact⟨_,G1.ext hp h⟩
 | d h h' ne=>exact G.joinS h h' ne (by lia)
def Hm(L:List Int)(p:Nat):Prop:=1<=p/\p<L.length/\L[p-1]?≠L[p]?
instance (L:List Int) (p:Nat):Decidable (Hm L p):=by unfold Hm;infer_instance
end
end Rm
namespace Rm
open PySem L2 PyProof.Rows
section
variable {σ:L2.St} {H0:Hp}
abbrev D1 (σ:L2.St) (H0:Hp) (te:TE) (d:PyData):Prop:=DE View.all σ H0 te d
abbrev D2 (σ:L2.St) (H0:Hp) (ta:TA) (ds:List PyData):Prop:=DA View.all σ H0 ta ds
end
def qV(b:Bool)(ns:List Int):PyData:=.tuple [.str (sd b),.tuple (ns.map PyData.int)]
def gk.dat{H:Hp}{m o:Addr}{b:Bool}{ns:List Int}(h:gk H m o b ns):Dat H (.ref m) (qV b ns):=.tup h.1 (.cons (.str _) (.cons (.tup h.2 (nR ns)) .nil))
def t0{b:Bool}{ns:List Int}:Pl (qV b ns) 60:=by
 refine⟨?_,?_⟩
 ·show (PyData.canLay0 (.str (sd b))&&(PyData.canLayAll0 (ns.map PyData.int)&&true))=true;rw[f7];cases b<;>decide +kernel
 ·show max 0 (max (PyData.depthAll (ns.map PyData.int)+1) 0)+1<=60;rw[j6];decide
def oo:∀{ds:List PyData},(∀d∈ds,d.canLay0=true)->PyData.canLayAll0 ds=true
 | [],_=>rfl
 | d::ds,h=>by
  show (d.canLay0&&PyData.canLayAll0 ds)=true;rw[h d (by simp),oo λe he=>h e (by simp[he])];rfl
def m5{k:Nat}:∀{ds:List PyData},(∀d∈ds,d.depth<=k)->PyData.depthAll ds<=k
 | [],_=>bE _
 | d::ds,h=>by
  show max d.depth (PyData.depthAll ds)<=k;exact Nat.max_le.mpr ⟨h d (by simp),m5 λe he=>h e (by simp[he])⟩
def zO{ds:List PyData}{k:Nat}(h:∀d∈ds,Pl d k):Pl (.tuple ds) (k+1):=⟨oo λd hd=>(h d hd).lay,Nat.succ_le_succ (m5 λd hd=>(h d hd).deep)⟩
def Pl.le{d:PyData}{j k:Nat}(h:Pl d j)(e:j<=k):Pl d k:=⟨h.lay,av h.deep e⟩
def Dx(n:Int){k:Nat}:Pl (.int n) k:=⟨rfl,bE _⟩
def Dw{z:Str}{k:Nat}(h:PyData.canLay0 (.str z)=true):Pl (.str z) k:=⟨h,bE _⟩
def Fx(b:Bool){k:Nat}:Pl (.str (sd b)) k:=Dw (by cases b<;>decide +kernel)
def B9(ns:List Int){k:Nat}:∀d∈ns.map PyData.int,Pl d k:=λd hd=>by obtain⟨n,_,rfl⟩:=bI.mp hd;exact Dx n
def Hv{d:PyData}{k:Nat}(h:Pl d k):∀e∈[d],Pl e k:=λe he=>by rw[bC] at he;subst he;exact h
def Hg{d e:PyData}{k:Nat}(h:Pl d k)(g:Pl e k):∀f∈[d,e],Pl f k:=λf hf=>by
 rcases aH.mp hf with rfl | hf
 ·exact h
 ·exact Hv g f hf
def Gn{d e f:PyData}{k:Nat}(h:Pl d k)(g:Pl e k)(i:Pl f k):∀x∈[d,e,f],Pl x k:=λx hx=>by
 rcases aH.mp hx with rfl | hx
 ·exact h
 ·exact Hg g i x hx
def Bz{b:Bool}{ns:List Int}{k:Nat}(hk:2<=k):Pl (qV b ns) k:=(zO (Hg (Fx b) (zO (B9 ns (k:=0))))).le hk
def De:PyData->Bool
 | .none | .bool _ | .int _ | .str _=>true
 | _=>false
structure Hy (S:List Bw) (n:Int):Prop where
 lt:∀ p∈S,p.1<p.2
 bd:∀ p∈S,0<=p.1/\p.2<=n+1
 has:∀ x,1<=x->x<=n->∃ p∈S,p.1=x\/p.2=x
 one:∀ p∈S,∀ q∈S,∀ x,(p.1=x\/p.2=x)->(q.1=x\/q.2=x)->p=q
 nc:∀ p∈S,∀ q∈S,lS p q=false
def t8{x:Int}{p:Bw}:qM x p=true<->(p.1=x\/p.2=x):=by
 unfold qM;rw[jv,Kq,Kq];exact⟨λh=>h.imp gx gx,λh=>h.imp gx gx⟩
def yi{b:Bool}{ns:List Int}(O:mH ns)(nc:NC b ns)(u:Bool):Hy (bu b ns u (ns.length+1)) ns.length where
 lt:=λp hp=>by obtain⟨i,hi,_,rfl⟩:=lg hp;exact O.step_lt (by lia)
 bd:=λp hp=>by obtain⟨i,hi,_,rfl⟩:=lg hp;exact O.step_in (by lia)
 has:=λx h1 h2=>by
  obtain⟨i,hi⟩:=gc (O.mem.mpr ⟨h1,h2⟩);have il:=(aJ.mp hi).1;have er:=mK hi;have:c9 b u i=true\/c9 b u (i+1)=true:=by
   unfold c9;rw[iO];cases b<;>cases u<;>cases odd i<;>simp
  rcases this with s | s
  ·refine⟨_,lh (by lia) s,?_⟩;rw[<-t8,<-er,O.has_iff (by lia) (by lia)];simp
  ·refine⟨_,lh (by lia) s,?_⟩;rw[<-t8,<-er,O.has_iff (by lia) (by lia)];simp
 one:=λp hp q hq x h1 h2=>by
  obtain⟨i,hi,si,rfl⟩:=lg hp;obtain⟨j,hj,sj,rfl⟩:=lg hq;have hx:∃k,k<ns.length+2/\x=bN ns k/\(i=k\/i+1=k):=by
   have e:x=bN ns i\/x=bN ns (i+1):=by
    have h1':min (bN ns i) (bN ns (i+1))=x\/max (bN ns i) (bN ns (i+1))=x:=h1;lia
   rcases e with e | e
   ·exact⟨i,by lia,e,.inl rfl⟩
   ·exact⟨i+1,by lia,e,.inr rfl⟩
  obtain⟨k,hk,rfl,ik⟩:=hx;have h2':=t8.mpr h2;rw[O.has_iff hk (by lia)] at h2';have jk:=Kt h2';have:i=j\/i=j+1\/j=i+1:=by lia
  rcases this with z | z | z
  ·rw[z]
  ·exact absurd z λz=>qG si sj z
  ·exact absurd z λz=>qG sj si z
 nc:=nc u
end Rm
namespace Rm
open PySem L2
def rD{α β:Type}{F:α->β->Prop}{l:List α}{m:List β}(h:Paired F l m):∀{i:Nat} {a:α},l[i]? = some a->∃b,m[i]? = some b/\F a b:=by
 induction h with
 | nil=>intro i a h;simp at h
 | cons r _ ih=>
  intro i a h;cases i with
  | zero=>cases h;exact⟨_,rfl,r⟩
  | succ i=>exact ih h
end Rm
namespace Rm
open PySem L2 PyProof.Rows
def nz(x:Nat):Int:=(x:Int)
structure Sd (u b:Bool) (cs:List Nat) (i:Nat) (S:List Oe) (F:List Bw):Prop where
 row:S.map (·.1)=(stN u b cs i).1.map nz
 bow:∀ p∈F,∃ x y:Nat,p=(nz x,nz y)/\(stN u b cs i).2 x=some y/\1<=y/\y<=i/\isIn u (cs.getD (y - 1) 0)=false/\(x=0\/isIn u (cs.getD (x - 1) 0)=true)
 top:∀ x∈(stN u b cs i).1,x=0\/isIn u (cs.getD (x - 1) 0)=true
section
variable {u b:Bool} {cs:List Nat} {i c:Nat} {S:List Oe} {F:List Bw}
def Sd.push(h:Sd u b cs i S F)(hc:cs.getD i 0=c)(hi:isIn u c=true)(l:Int):Sd u b cs (i+1) (S++[(((i+1:Nat):Int),l)]) F:=by
 have e:stN u b cs (i+1)=((stN u b cs i).1++[i+1],(stN u b cs i).2):=by
  show oA u (stN u b cs i) (i+1) (cs.getD i 0)=_;rw[hc,se hi]
 refine⟨by rw[e,aN,aN,h.row];rfl,λp hp=>?_,λx hx=>?_⟩
 ·obtain⟨x,y,e1,e2,e3,e4,e5,e6⟩:=h.bow p hp;rw[e];exact⟨x,y,e1,e2,e3,by lia,e5,e6⟩
 ·rw[e] at hx;rcases aL.mp hx with z | z
  ·exact h.top x z
  ·rw[bC] at z;subst z;exact .inr (by rw[fW,hc];exact hi)
def Sd.pop{o l:Int}(h:Sd u b cs i (S++[(o,l)]) F)(I:sO u b i (stN u b cs i))(hc:cs.getD i 0=c)(hi:isIn u c=false):Sd u b cs (i+1) S (F++[(o,((i+1:Nat):Int))]):=by
 have hr:=h.row;rw[aN] at hr;obtain⟨P,w,hs⟩:=nN (l:=(stN u b cs i).1) (λz=>by rw[z] at hr;simp at hr);rw[hs,aN] at hr;obtain⟨r1,r2⟩:=gM hr rfl;have ow:o=nz w:=by simpa using r2
 have e:stN u b cs (i+1)=(P,jy (stN u b cs i).2 (i+1) w):=by
  show oA u (stN u b cs i) (i+1) (cs.getD i 0)=_;rw[hc,pT hi hs]
 have wm:w∈(stN u b cs i).1:=by rw[hs];simp
 have wl:=I.le w wm;refine⟨by rw[e];exact r1,λp hp=>?_,λx hx=>?_⟩
 ·rw[e];rcases aL.mp hp with z | z
  ·obtain⟨x,y,e1,e2,e3,e4,e5,e6⟩:=h.bow p z;refine⟨x,y,e1,?_,e3,by lia,e5,e6⟩;have n1:x≠i+1:=λz=>by have:=I.bd x y e2;lia
   have n2:x≠w:=λz=>by rw[z,I.out w wm] at e2;cases e2
   show jy _ _ _ x=_;unfold jy;rw[Kn n1,Kn n2];exact e2
  ·rw[bC] at z;subst z;refine⟨w,i+1,by rw[ow];rfl,?_,by lia,by lia,by rw[fW,hc];exact hi,h.top w wm⟩;show jy _ _ _ w=_;unfold jy;rw[Kn (by lia),Ko rfl]
 ·rw[e] at hx;exact h.top x (by rw[hs];exact bM _ hx)
def Sd.lab(h:Sd u b cs i S F)(g:Oe->Oe)(hg:∀e,(g e).1=e.1):Sd u b cs i (S.map g) F:=by
 refine⟨?_,h.bow,h.top⟩;rw[<-h.row,bj];exact cQ λe _=>hg e
end
structure HY (g:Int->Int) (L R:List Int) (st:Bool->List Oe):Prop where
 inj:∀ x∈L++R,∀ y∈L++R,g x=g y->x=y
 l:(st false).map (·.2)=L.map g
 r:(st true).map (·.2)=R.map g
structure Sm (b:Bool) (cs:List Nat) (i:Nat) (L R:List Int) (st:Bool->List Oe) (f:Bool->List Bw):Prop where
 gr:∃ is,Gr b st f (i+1) is
 lab:∃ g,HY g L R st
 sd:∀ u,Sd u b cs i (st u) (f u)
def Sm.start(b:Bool)(cs:List Nat):Sm b cs 0 (bL b) (bR b) (λu=>if u=b then [((0:Int),(0:Int))] else []) (λ_=>[]):=by
 refine⟨⟨_,Gr.start b⟩,⟨id,?_⟩,λu=>?_⟩
 ·cases b
  ·exact⟨λx _ y _ h=>h,rfl,rfl⟩
  ·exact⟨λx _ y _ h=>h,rfl,rfl⟩
 ·refine⟨?_,(λp h=>nomatch h),λx hx=>?_⟩
  ·show _=(ug u b).1.map nz;unfold ug;by_cases h:u=b
   ·rw[Ko h,Ko h];rfl
   ·rw[Kn h,Kn h];rfl
  ·have hx:x∈(ug u b).1:=hx;unfold ug at hx
   split at hx
   ·left;simpa using hx
   ·cases hx
def Gr.lab_lt{b:Bool}{st:Bool->List Oe}{f:Bool->List Bw}{r:Nat}{is:List Pc}(G:Gr b st f r is){u:Bool}{e:Oe}(h:e∈st u):e.2<r:=by
 have hm:(e,u)∈dF st:=by
  unfold dF;cases u
  ·exact bM _ (bI.mpr ⟨e,h,rfl⟩)
  ·exact af _ (bI.mpr ⟨e,h,rfl⟩)
 obtain⟨p,hp,he⟩:=fB.mp (G.ends.mem_iff.mp hm);have hl:=G.lr p hp;unfold Pc.ends at he;rcases aH.mp he with z | z
 ·have:e=(ltZ p.rows,p.lab):=congrArg Prod.fst z;rw[this];exact hl
 ·unfold Pc.more at z
  split at z
  ·cases z
  ·have:e=(vX p.rows,p.lab):=by rw[bC] at z;exact congrArg Prod.fst z
   rw[this];exact hl
def mC{α β:Type}{f:α->β}{l:List α}{Q:List β}{v:β}(h:l.map f=Q++[v]):∃S e,l=S++[e]/\S.map f=Q/\f e=v:=by
 have hne:l≠[]:=λz=>by rw[z] at h;simp at h
 refine⟨l.dropLast,l.getLast hne,(dG hne).symm,?_⟩;rw[<-dG hne,aN] at h;obtain⟨h1,h2⟩:=gM h rfl;exact⟨h1,by simpa using h2⟩
section
variable {b:Bool} {cs:List Nat} {i c:Nat} {L R L' R':List Int} {st:Bool->List Oe} {f:Bool->List Bw}
def Sm.la(h:Sm b cs i L R st f)(E:EE L R)(hc:cs.getD i 0=97):Sm b cs (i+1) (L++[1+mx (L++R)]) (R++[1+mx (L++R)]) (λu=>st u++[(((i+1:Nat):Int),((i+1:Nat):Int))]) f:=by
 obtain⟨is,G⟩:=h.gr;obtain⟨g,M⟩:=h.lab;obtain⟨f0,f1,f2⟩:=tj E;have f2:1+mx (L++R)∉R:=λz=>f2 (List.mem_reverse.mpr z);refine⟨(qT.a (st:=st) (f:=f) (r:=i+1)).gr G,⟨λx=>if x=1+mx (L++R) then ((i+1:Nat):Int) else g x,?_⟩,λu=>(h.sd u).push hc (by cases u<;>rfl) _⟩;generalize 1+mx (L++R)=m at f1 f2;have gl:∀x∈L++R,g x<((i+1:Nat):Int):=λx hx=>by
  rcases aL.mp hx with z | z
  ·have:g x∈(st false).map (·.2):=by rw[M.l];exact bI.mpr ⟨x,z,rfl⟩
   obtain⟨e,he,e2⟩:=bI.mp this;rw[<-e2];exact G.lab_lt he
  ·have:g x∈(st true).map (·.2):=by rw[M.r];exact bI.mpr ⟨x,z,rfl⟩
   obtain⟨e,he,e2⟩:=bI.mp this;rw[<-e2];exact G.lab_lt he
 have ng:∀x∈L++R,x≠m:=λx hx z=>by
  rcases aL.mp hx with w | w
  ·exact f1 (z▸w)
  ·exact f2 (z▸w)
 have mm:∀l:List Int,(∀x∈l,x∈L++R)->l.map g++[((i+1:Nat):Int)]=(l++[m]).map (λx=>if x=m then ((i+1:Nat):Int) else g x):=λl hl=>by
  rw[aN];congr 1
  ·exact cQ λx hx=>by rw[Kn (ng x (hl x hx))]
  ·simp
 have mem:∀x,x∈(L++[m])++(R++[m])->x=m\/x∈L++R:=λx hx=>by
  simp only[aL,bC] at hx ⊢;rcases hx with (z | z) | (z | z)
  ·exact .inr (.inl z)
  ·exact .inl z
  ·exact .inr (.inr z)
  ·exact .inl z
 refine⟨λx hx y hy e=>?_,?_,?_⟩
 ·rcases mem x hx with z | z<;>rcases mem y hy with w | w
  ·rw[z,w]
  ·rw[Ko z,Kn (ng y w)] at e;have:=gl y w;lia
  ·rw[Kn (ng x z),Ko w] at e;have:=gl x z;lia
  ·rw[Kn (ng x z),Kn (ng y w)] at e;exact M.inj x z y w e
 ·show (st false++_).map _=_;rw[aN,M.l];exact mm L λx hx=>bM _ hx
 ·show (st true++_).map _=_;rw[aN,M.r];exact mm R λx hx=>af _ hx
def Sm.lb{Q:List Int}{v:Int}(h:Sm b cs i L (Q++[v]) st f)(I:∀u,sO u b i (stN u b cs i))(hc:cs.getD i 0=98):∃st' f',Sm b cs (i+1) (L++[v]) Q st' f':=by
 obtain⟨is,G⟩:=h.gr;obtain⟨g,M⟩:=h.lab;have hr:=M.r;rw[aN] at hr;obtain⟨S,⟨o,l⟩,e1,e2,e3⟩:=mC hr;have e3:l=g v:=e3;refine⟨_,_,(qT.b (st:=st) (f:=f) (r:=i+1) e1).gr G,⟨g,λx hx y hy e=>M.inj x ?_ y ?_ e,?_,?_⟩,λu=>?_⟩
 ·simp only[aL,bC] at hx ⊢;rcases hx with (z | z) | z<;>simp[z]
 ·simp only[aL,bC] at hy ⊢;rcases hy with (z | z) | z<;>simp[z]
 ·simp[M.l,e3]
 ·simpa using e2
 ·have hs:=h.sd u;cases u with
  | false=>simpa using hs.push hc (by rfl) l
  | true=>
   rw[e1] at hs;simpa using hs.pop (I true) hc (by rfl)
def Sm.lc{P:List Int}{v:Int}(h:Sm b cs i (P++[v]) R st f)(I:∀u,sO u b i (stN u b cs i))(hc:cs.getD i 0=99):∃st' f',Sm b cs (i+1) P (R++[v]) st' f':=by
 obtain⟨is,G⟩:=h.gr;obtain⟨g,M⟩:=h.lab;have hr:=M.l;rw[aN] at hr;obtain⟨S,⟨o,l⟩,e1,e2,e3⟩:=mC hr;have e3:l=g v:=e3;refine⟨_,_,(qT.c (st:=st) (f:=f) (r:=i+1) e1).gr G,⟨g,λx hx y hy e=>M.inj x ?_ y ?_ e,?_,?_⟩,λu=>?_⟩
 ·simp only[aL,bC] at hx ⊢;rcases hx with z | (z | z)<;>simp[z]
 ·simp only[aL,bC] at hy ⊢;rcases hy with z | (z | z)<;>simp[z]
 ·simpa using e2
 ·simp[M.r,e3]
 ·have hs:=h.sd u;cases u with
  | true=>simpa using hs.push hc (by rfl) l
  | false=>
   rw[e1] at hs;simpa using hs.pop (I false) hc (by rfl)
def Sm.ld{P Q:List Int}{x y:Int}(h:Sm b cs i (P++[x]) (Q++[y]) st f)(I:∀u,sO u b i (stN u b cs i))(hc:cs.getD i 0=100)(hxy:x≠y):∃st' f',Sm b cs (i+1) (P.map (rn (min x y) (max x y))) (Q.map (rn (min x y) (max x y))) st' f':=by
 obtain⟨is,G⟩:=h.gr;obtain⟨g,M⟩:=h.lab;have hl:=M.l;have hr:=M.r;rw[aN] at hl hr;obtain⟨n',⟨o1,l1⟩,e1,e2,e3⟩:=mC hl;obtain⟨f',⟨o2,l2⟩,d1,d2,d3⟩:=mC hr;have e3:l1=g x:=e3;have d3:l2=g y:=d3;have mx1:x∈(P++[x])++(Q++[y]):=by simp
 have my1:y∈(P++[x])++(Q++[y]):=by simp
 have hne:l1≠l2:=λz=>hxy (M.inj x mx1 y my1 (by rw[<-e3,<-d3];exact z));have lohi:(min x y=x/\max x y=y)\/(min x y=y/\max x y=x):=by lia
 have LOHI:(min l1 l2=l1/\max l1 l2=l2)\/(min l1 l2=l2/\max l1 l2=l1):=by lia
 have lne:min x y≠max x y:=by lia
 have Lne:min l1 l2≠max l1 l2:=by lia
 have xy:∀v∈(P++[x])++(Q++[y]),(g v=l1->v=x)/\(g v=l2->v=y):=λv hv=>⟨λz=>M.inj v hv x mx1 (by rw[z,e3]),λz=>M.inj v hv y my1 (by rw[z,d3])⟩
 generalize min x y=lo at *;generalize max x y=hi at *;generalize min l1 l2=Lo at *;generalize max l1 l2=Hi at *;refine⟨λu=>(if u then f' else n').map (iH Hi Lo),λu=>f u++[(if u then o2 else o1,((i+1:Nat):Int))],?_,⟨λw=>if w=lo then Lo else g w,?_⟩,λu=>?_⟩
 ·exact G.joinS e1 d1 hne (by rcases LOHI with ⟨a,b⟩ | ⟨a,b⟩<;>simp[a,b])
 ·have key:∀v∈(P++[x])++(Q++[y]),(if rn lo hi v=lo then Lo else g (rn lo hi v))=rn Lo Hi (g v):=λv hv=>by
   obtain⟨k1,k2⟩:=xy v hv;unfold rn;by_cases v1:v=hi
   ·rw[Ko v1,Ko rfl];have:g v=Lo\/g v=Hi:=by
     rcases lohi with ⟨a,c⟩ | ⟨a,c⟩<;>rcases LOHI with ⟨a',c'⟩ | ⟨a',c'⟩<;>rw[v1,c]<;>simp only[<-e3,<-d3]<;>lia
    split
    ·rfl
    ·lia
   ·rw[Kn v1];by_cases v2:v=lo
    ·rw[Ko v2];have:g v=Lo\/g v=Hi:=by
      rcases lohi with ⟨a,c⟩ | ⟨a,c⟩<;>rcases LOHI with ⟨a',c'⟩ | ⟨a',c'⟩<;>rw[v2,a]<;>simp only[<-e3,<-d3]<;>lia
     split
     ·rfl
     ·lia
    ·rw[Kn v2,Kn];intro z;rcases lohi with ⟨a,c⟩ | ⟨a,c⟩<;>rcases LOHI with ⟨a',c'⟩ | ⟨a',c'⟩<;>lia
  have sub:∀w,w∈P.map (rn lo hi)++Q.map (rn lo hi)->∃v∈(P++[x])++(Q++[y]),w=rn lo hi v:=λw hw=>by
   rcases aL.mp hw with z | z
   ·obtain⟨v,hv,e⟩:=bI.mp z;exact⟨v,by simp[hv],e.symm⟩
   ·obtain⟨v,hv,e⟩:=bI.mp z;exact⟨v,by simp[hv],e.symm⟩
  have rnn:∀v,rn lo hi v≠hi:=λv=>by unfold rn;split<;>lia
  have inL:∀w,w∈P.map (rn lo hi)++Q.map (rn lo hi)->w=lo\/(w∈(P++[x])++(Q++[y])/\w≠hi):=λw hw=>by
   obtain⟨v,hv,rfl⟩:=sub w hw;by_cases z:v=hi
   ·left;unfold rn;rw[Ko z]
   ·right;exact⟨by unfold rn;rw[Kn z];exact hv,rnn v⟩
  have noLo:∀w,w∈(P++[x])++(Q++[y])->w≠hi->w≠lo->g w≠Lo:=λw hw n1 n2 z=>by
   obtain⟨k1,k2⟩:=xy w hw;rcases lohi with ⟨a,c⟩ | ⟨a,c⟩<;>rcases LOHI with ⟨a',c'⟩ | ⟨a',c'⟩<;>lia
  refine⟨λv hv w hw e=>?_,?_,?_⟩
  ·rcases inL v hv with z | ⟨z,zn⟩<;>rcases inL w hw with t | ⟨t,tn⟩
   ·rw[z,t]
   ·by_cases tl:w=lo
    ·rw[z,tl]
    ·rw[Ko z,Kn tl] at e;exact absurd e.symm (noLo w t tn tl)
   ·by_cases zl:v=lo
    ·rw[zl,t]
    ·rw[Kn zl,Ko t] at e;exact absurd e (noLo v z zn zl)
   ·by_cases zl:v=lo
    ·by_cases tl:w=lo
     ·rw[zl,tl]
     ·rw[Ko zl,Kn tl] at e;exact absurd e.symm (noLo w t tn tl)
    ·by_cases tl:w=lo
     ·rw[Kn zl,Ko tl] at e;exact absurd e (noLo v z zn zl)
     ·rw[Kn zl,Kn tl] at e;exact M.inj v z w t e
  ·show (n'.map (iH Hi Lo)).map (·.2)=_;rw[bj,bj];have:n'.map ((·.2)∘iH Hi Lo)=(n'.map (·.2)).map (rn Lo Hi):=by rw[bj];rfl
   rw[this,e2,bj];exact cQ λv hv=>(key v (by simp[hv])).symm
  ·show (f'.map (iH Hi Lo)).map (·.2)=_;rw[bj,bj];have:f'.map ((·.2)∘iH Hi Lo)=(f'.map (·.2)).map (rn Lo Hi):=by rw[bj];rfl
   rw[this,d2,bj];exact cQ λv hv=>(key v (by simp[hv])).symm
 ·have hs:=h.sd u;cases u with
  | false=>
   rw[e1] at hs;exact(hs.pop (I false) hc (by rfl)).lab _ λe=>rfl
  | true=>
   rw[d1] at hs;exact(hs.pop (I true) hc (by rfl)).lab _ λe=>rfl
def Sm.step(h:Sm b cs i L R st f)(Rn:Run b cs i L R)(e:cs[i]? = some c)(hc:jH c)(g:ck L R c=some (L',R')):∃st' f',Sm b cs (i+1) L' R' st' f':=by
 have hg:cs.getD i 0=c:=by rw[cA,e];rfl
 have I:∀u,sO u b i (stN u b cs i):=λu=>by cases u;exact Rn.li;exact Rn.ri
 rcases hc with rfl | rfl | rfl | rfl
 ·cases g;exact⟨_,_,h.la Rn.ee hg⟩
 ·by_cases z:R=[]
  ·subst z;rw[ja] at g;cases g
  ·obtain⟨Q,v,rfl⟩:=be z;rw[lF] at g;cases g;exact h.lb I hg
 ·by_cases z:L=[]
  ·subst z;rw[j9] at g;cases g
  ·obtain⟨P,v,rfl⟩:=be z;rw[lE] at g;cases g;exact h.lc I hg
 ·by_cases z:L=[]
  ·subst z;rw[j8] at g;cases g
  ·by_cases z2:R=[]
   ·subst z2;rw[j7] at g;cases g
   ·obtain⟨P,x,rfl⟩:=be z;obtain⟨Q,y,rfl⟩:=be z2;rw[kz] at g
    split at g
    ·cases g
    ·cases g;exact h.ld I hg (by assumption)
end
def mH.row_leC{ns:List Int}(O:mH ns){j:Nat}(h:j<ns.length+1):0<=bN ns j/\bN ns j<=ns.length:=by
 have h1:=O.row_in (i:=j) (by lia);have:bN ns j≠(ns.length:Int)+1:=λe=>by
  rw[<-o8 ns] at e;have:=O.row_inj (by lia) (by lia) e;lia
 lia
def ux{b:Bool}{cs:List Nat}(hl:sM cs)(h:fU (bL b) (bR b) cs 0=none):∀i,i<=cs.length->∃L R st f,Run b cs i L R/\fU L R (cs.drop i) i=none/\Sm b cs i L R st f
 | 0,_=>⟨_,_,_,_,Run.zero b cs,h,Sm.start b cs⟩
 | i+1,hi=>by
  obtain⟨L,R,st,f,rn,re,sm⟩:=ux hl h i (by lia);have hi':i<cs.length:=by lia
  rw[bA hi'] at re;have hc:jH cs[i]:=hl _ (fF hi');cases g:ck L R cs[i] with
  | none=>rw[lq g] at re;cases re
  | some p=>
   obtain⟨L',R'⟩:=p;rw[ke g] at re;obtain⟨st',f',sm'⟩:=sm.step rn (aI hi') hc g;exact⟨L',R',st',f',rn.step (aI hi') hc g,re,sm'⟩
structure xL (b:Bool) (cs:List Nat) (ns:List Int):Prop where
 len:ns.length=cs.length
 ord:mH ns
 nc:NC b ns
 step:∀ j,j<=cs.length->fin2 b cs (b ^^ odd j) (bN ns j).toNat=some (bN ns (j+1)).toNat
 lets:∀ u,∀ r:Nat,1<=r->r<=cs.length->decide ((r:Int)∈(bu b ns u (ns.length+1)).map (·.1))=isIn u (cs.getD (r - 1) 0)
def wy{b:Bool}{cs:List Nat}(hl:sM cs)(h20:cs.length<=20)(h:fU (bL b) (bR b) cs 0=none):∃ns,xL b cs ns:=by
 obtain⟨L,R,st,f,rn,re,sm⟩:=ux hl h cs.length (aE _);rw[jU] at re;have one:L.length+R.length=1:=by
  unfold fU at re
  split at re
  ·assumption
  ·cases re
 obtain⟨g,M⟩:=sm.lab;obtain⟨is,G⟩:=sm.gr;have I:∀u,sO u b cs.length (stN u b cs cs.length):=λu=>by cases u;exact rn.li;exact rn.ri
 have l1:(st false).length=L.length:=by have:=congrArg List.length M.l;simpa using this
 have l2:(st true).length=R.length:=by have:=congrArg List.length M.r;simpa using this
 obtain⟨t,o,l,h1,h2⟩:∃t o l,st t=[(o,l)]/\st (!t)=[]:=by
  by_cases z:(st false).length=1
  ·obtain⟨⟨o,l⟩,e⟩:=fu.mp z;exact⟨false,o,l,e,cK.mp (by show (st true).length=0;lia)⟩
  ·obtain⟨⟨o,l⟩,e⟩:=fu.mp (show (st true).length=1 by lia);exact⟨true,o,l,e,cK.mp (by show (st false).length=0;lia)⟩
 obtain⟨ns,e1,e2,e3⟩:=G.last h1 h2;have en:ns.length=cs.length:=by lia
 have O:mH ns:=⟨by lia,e2⟩
 have NCs:NC b ns:=λu=>(e3 u).2;have lt:=(sm.sd t).row;rw[h1] at lt;obtain⟨w,hw⟩:∃w,(stN t b cs cs.length).1=[w]:=by
  have:(stN t b cs cs.length).1.length=1:=by have:=congrArg List.length lt;simpa using this.symm
  exact fu.mp this
 have ow:o=nz w:=by rw[hw] at lt;simpa using lt
 have fin_in:∀u x y,(stN u b cs cs.length).2 x=some y->fin2 b cs u x=some y:=λu x y e=>by
  unfold fin2 rg;rw[Kn (λz=>by rw[(I u).out x z] at e;cases e)];exact e
 have pairs:∀u,∀p∈bu b ns u (ns.length+1),∃x y:Nat,p=(nz x,nz y)/\fin2 b cs u x=some y/\(y<=cs.length->fin2 b cs u y=some x/\1<=y/\isIn u (cs.getD (y - 1) 0)=false)/\(x=0\/isIn u (cs.getD (x - 1) 0)=true):=by
  intro u p hp;have hp:=(e3 u).1.mem_iff.mpr hp;have old:p∈f u->∃x y:Nat,p=(nz x,nz y)/\fin2 b cs u x=some y/\(y<=cs.length->fin2 b cs u y=some x/\1<=y/\isIn u (cs.getD (y - 1) 0)=false)/\(x=0\/isIn u (cs.getD (x - 1) 0)=true):=λhp=>by
   obtain⟨x,y,p1,p2,p3,p4,p5,p6⟩:=(sm.sd u).bow p hp;exact⟨x,y,p1,fin_in u x y p2,λ_=>⟨fin_in u y x ((I u).sym x y p2),p3,p5⟩,p6⟩
  by_cases ut:u=t
  ·rw[Ko ut] at hp;rcases aL.mp hp with z | z
   ·exact old z
   ·rw[bC] at z;subst ut;refine⟨w,cs.length+1,by rw[z,ow];rfl,?_,λz=>by lia,(sm.sd u).top w (by rw[hw];simp)⟩;unfold fin2 rg;rw[Ko (by rw[hw];simp)]
  ·rw[Kn ut] at hp;exact old hp
 refine⟨ns,en,O,NCs,λj hj=>?_,λu r hr1 hr2=>?_⟩
 ·obtain⟨x,y,p1,p2,p3,p4⟩:=pairs _ _ (lh (b:=b) (ns:=ns) (m:=ns.length+1) (i:=j) (by lia) (rH b j));have q1:min (bN ns j) (bN ns (j+1))=nz x:=congrArg Prod.fst p1;have q2:max (bN ns j) (bN ns (j+1))=nz y:=congrArg Prod.snd p1;have b1:=O.row_leC (j:=j) (by lia);unfold nz at q1 q2;by_cases le:bN ns j<=bN ns (j+1)
  ·rw[show (bN ns j).toNat=x by lia,show (bN ns (j+1)).toNat=y by lia];exact p2
  ·rw[show (bN ns j).toNat=y by lia,show (bN ns (j+1)).toNat=x by lia];exact(p3 (by lia)).1
 ·cases hi:isIn u (cs.getD (r - 1) 0) with
  | true=>
   refine Ks ?_;obtain⟨p,hp,e⟩:=(yi O NCs u).has (r:Int) (by lia) (by lia);rcases e with e | e
   ·exact bI.mpr ⟨p,hp,e⟩
   ·obtain⟨x,y,p1,p2,p3,p4⟩:=pairs u p hp;rw[p1] at e;have e:nz y=(r:Int):=e;unfold nz at e;have ey:y=r:=by lia
    subst ey;rw[(p3 hr2).2.2] at hi;cases hi
  | false=>
   refine Kr λz=>?_;obtain⟨p,hp,e⟩:=bI.mp z;obtain⟨x,y,p1,p2,p3,p4⟩:=pairs u p hp;rw[p1] at e;have e:nz x=(r:Int):=e;unfold nz at e;have ex:x=r:=by lia
   subst ex;rcases p4 with z | z
   ·lia
   ·rw[hi] at z;cases z
section
variable {b:Bool} {cs:List Nat} {ns:List Int}
def xL.pth(C:xL b cs ns):∀j,j<=cs.length+1->pth (fin2 b cs) b j=((bN ns j).toNat,b ^^ odd j)
 | 0,_=>by
  show (0,b)=_;rw[Dg];cases b<;>rfl
 | j+1,h=>by
  have ih:=C.pth j (by lia);show ((fin2 b cs (Rm.pth (fin2 b cs) b j).2 (Rm.pth (fin2 b cs) b j).1).getD 0,!(Rm.pth (fin2 b cs) b j).2)=_;rw[ih];simp only;rw[C.step j (by lia),iO];cases b<;>cases odd j<;>rfl
def xL.vld(C:xL b cs ns):Aq cs.length b (fin2 b cs) (cs.length+1):=by
 refine⟨λi hi=>?_,λi hi=>?_⟩
 ·rw[C.pth i (by lia)];have:=C.ord.row_leC (j:=i) (by rw[C.len];lia);have:=C.len;simp only;lia
 ·rw[C.pth i (by lia),C.pth (i+1) (by lia)];exact C.step i (by lia)
def xL.last(C:xL b cs ns):(Rm.pth (fin2 b cs) b (cs.length+1)).1=cs.length+1:=by
 rw[C.pth _ (aE _)];simp only;rw[<-C.len,o8];lia
def xL.ordF(C:xL b cs ns):ordF (fin2 b cs) b cs.length=ns:=by
 unfold Rm.ordF;apply jT
 ·simp[C.len]
 ·intro i h1 h2;have hi:i<cs.length:=by simpa using h1
  simp only[List.getElem_map,List.getElem_range];rw[C.pth _ (by lia)];simp only;rw[mK (aI h2)];have:=C.ord.mem.mp (fF h2);lia
def uL.maze{H:Hp}{a:Addr}(h:uL H a b cs)(C:xL b cs ns):∃o,gk H a o b ns:=by
 obtain⟨o,T,h1,h2,h3,V,e,h4⟩:=h;have:=Eo V e C.vld C.last;subst this;rw[fW,C.ordF] at h4;exact⟨o,h1,h4⟩
end
def we(l r:Bool):Nat:=if l then (if r then 97 else 98) else if r then 99 else 100
def mS(b:Bool)(ns:List Int):List Nat:=(List.range ns.length).map λi:Nat=>we (decide (((i+1:Nat):Int)∈(bu b ns false (ns.length+1)).map (·.1))) (decide (((i+1:Nat):Int)∈(bu b ns true (ns.length+1)).map (·.1)))
def CF{c:Nat}(h:jH c):we (isIn false c) (isIn true c)=c:=by rcases h with rfl | rfl | rfl | rfl<;>rfl
def xL.code{b:Bool}{cs:List Nat}{ns:List Int}(C:xL b cs ns)(hl:sM cs):mS b ns=cs:=by
 unfold mS;apply jT
 ·simp[C.len]
 ·intro i h1 h2;simp only[List.getElem_map,List.getElem_range];rw[C.lets false (i+1) (by lia) (by lia),C.lets true (i+1) (by lia) (by lia),fW];have e:cs.getD i 0=cs[i]:=by rw[cA,aI h2];rfl
  rw[e,CF (hl _ (fF h2))]
def BQ{L R:List Int}{i:Nat}(E:EE L R)(h:L.length+R.length<=1):fU L R [] i=none:=by
 have z:=E.z1;have:L.length+R.length=1:=by
  have h2:(L++R.reverse).length≠0:=λe=>by rw[cK.mp e] at z;simp at z
  simp at h2;have:L.length+R.length≠0:=λe=>h2 (cK.mp (by lia)) (cK.mp (by lia));lia
 show (if L.length+R.length=1 then none else some i)=none;rw[Ko this]
end Rm
namespace L2
open PySem PySem.Spec PyProof.Rows
def Ak(lo:Int)(n:Nat):It:=⟨λi _=>i<n,λi H x H'=>H'=H/\x=.int (lo+i*2),λi _=>n<=i⟩
def qb {P : Program} {w : World} {K : Kw} {tg : Expr} (it : Addr) (lo : Int) (n : Nat) : Turn P w K tg (Ak lo n) [it] it (fun i h => IsRangeIter h it (lo + (i : Nat) * 2) ((n : Int) - (i : Nat)) 2) where
  mem := by simp
  obj := fun i h st b hb => by
    have e : b = it := by simpa using hb
    subst e
    exact ⟨_, st, fun v z => by
      have z' : Data.fields _ = Data.cell v := z
      cases z'⟩
  keep := fun i h h' st k => k it (by simp) _ st
  item := by
    intro X hP hw hK hc i pins s σ H E I hf st hg
    subst hP hw hK
    obtain ⟨f0, f1, f2, f3, f4, f5⟩ := hf it (by simp)
    have W := Walks.range (prog := X.prog) (w := X.w) (I.ok.hd hc) it lo 2 n
    refine W.item i s _ _ hg st fun v h' tk hv st' kk => ?_
    obtain ⟨t, rfl⟩ := hv
    have I1 : bY X pins σ H { s with heap := h', toks := tk } := I.turned (fun b o hb e => kk b o (by simpa using hb) e) f0 f1 f3 f4 f5
    exact ⟨_, rfl, pA (s := { s with heap := h', toks := tk }) (n := "range_iterator") st' rfl rfl (by decide) ⟨.int (lo + i * 2), H, I1, ⟨t, rfl⟩, ⟨rfl, rfl⟩, st', fun b hb => (hf b hb).1⟩⟩
  done := by
    intro X hP hw hK hc i pins s σ H E I hf st hg
    subst hP hw hK
    obtain ⟨f0, f1, f2, f3, f4, f5⟩ := hf it (by simp)
    exact K7 (I.ok.hd hc) st (by have : n ≤ i := hg; lia) fun h' eb => ⟨rfl, I.turned (t' := s.toks) (fun b o hb e => eb b o hb e) f0 f1 f3 f4 f5⟩
  self := fun _ _ _ _ _ st h => K8 st h
def ku(a b:Int):Builtin.Range.rangeSize a b 2=(((b-a+1) / 2).toNat:Int):=by
 unfold Builtin.Range.rangeSize;simp
 split<;>lia
def vt{a b:Int}(ha:-(2 ^ 61)<=a)(ha':a<2 ^ 61)(hb:-(2 ^ 61)<=b)(hb':b<2 ^ 61):Builtin.Range.small a b 2=true:=by
 unfold Builtin.Range.small;rw[ku];simp only[Builtin.Range.rangeFitsLong,cu,jv,Kq,beq_iff_eq,show (2:Int) > 0 by decide,Ku];lia
section
variable {X:Cx} {tg:Expr}
def wD{pins:List (Addr×Obj)}{σ:St}{H:Hp}{s:Shared}{R:It->Hp->Prop}{E:Value->Shared->Prop}{lo hi:Int}{t u v:Tok}{tk:Nat}(I:bY X pins σ H s)(h1:-(2 ^ 61)<=lo)(h2:lo<2 ^ 61)(h3:-(2 ^ 61)<=hi)(h4:hi<2 ^ 61)
  (q:R (Ak lo ((hi-lo+1) / 2).toNat) H):wpAny (model X.prog X.w) X.A (pyIter (.ref s.heap.objs.size)) (Gw X pins σ tg R) E { s with heap:=s.heap.push { cls:=.type "range",data:=.fields #[.int lo t,.int hi u,.int 2 v] },toks:=tk }:=by
 refine K9 (IsRange.new ..) (vt h1 h2 h3 h4) ?_;have I1:bY X pins σ H { s with heap:=s.heap.push { cls:=.type "range",data:=.fields #[.int lo t,.int hi u,.int 2 v] },toks:=tk }:=I.kept λb o e=>aA _ e;refine⟨(s.heap.push { cls:=.type "range",data:=.fields #[.int lo t,.int hi u,.int 2 v] }).objs.size,[(s.heap.push { cls:=.type "range",data:=.fields #[.int lo t,.int hi u,.int 2 v] }).objs.size],_,_,H,rfl,
  I1.kept (t':=tk) λb o e=>aA _ e,qb _ lo ((hi-lo+1) / 2).toNat,?_,λb hb=>?_,q⟩
 ·have e1:lo+((0:Nat):Int)*2=lo:=by simp
  have e2:((((hi-lo+1) / 2).toNat:Nat):Int)-((0:Nat):Int)=Builtin.Range.rangeSize lo hi 2:=by rw[ku];simp
  show IsRangeIter _ _ (lo+((0:Nat):Int)*2) (((((hi-lo+1) / 2).toNat:Nat):Int)-((0:Nat):Int)) 2;rw[e1,e2];exact aR _ rfl
 ·have e:b=(s.heap.push { cls:=.type "range",data:=.fields #[.int lo t,.int hi u,.int 2 v] }).objs.size:=by simpa using hb
  subst e;exact I1.fpOk (aE _) (I1.hok.fresh (aE _))
def Cz(ta:TA):TI:=λσ H R=>ta σ H λvs H1=>∃i j:Int,vs=[.int i,.int j,.int 2]/\(-(2 ^ 61)<=i/\i<2 ^ 61/\-(2 ^ 61)<=j/\j<2 ^ 61)/\R (Ak i ((j-i+1) / 2).toNat) H1
def tI {a b c:Expr} {ta:TA} {p pos:Pos} (hg:Gl X "range") (hm:X.mg "range"=none) (ha:QA X [a,b,c] ta) (hs:starEach [a,b,c] X.env=(false,eval a X.env)::starEach [b,c] X.env:=by rfl) (hpl:(backTo pos (starEach [b,c] X.env)).any (·.1)=false:=by rfl) :
  QI X tg (.Call (.Name "range" p) [a,b,c] [] pos) (Cz ta):=⟨by
 intro pins s σ H R I h;refine Call_ (iR I hg hm boot_range (bS (dH (ha.h pos pins s σ H _ I h) λus s1 ⟨vs,H1,I1,r1,q1⟩=>?_) hs hpl));obtain⟨i,j,e,⟨q1,q2,q3,q4⟩,q⟩:=q1;subst e;cases r1 with
 | cons r rr=>
  cases rr with
  | cons r' rr=>
   cases rr with
   | cons r'' rr=>
    cases rr;obtain⟨t,rfl⟩:=r;obtain⟨t',rfl⟩:=r';obtain⟨t'',rfl⟩:=r'';exact call_range_3 (by decide) (wD I1 q1 q2 q3 q4 q)⟩
def DK{σ:St}{H:Hp}{D:Ends}{ta:TA}{g:TG}{tb:TS}:mI (Cz ta) g tb D σ H=ta σ H λvs H1=>∃i j:Int,vs=[.int i,.int j,.int 2]/\(-(2 ^ 61)<=i/\i<2 ^ 61/\-(2 ^ 61)<=j/\j<2 ^ 61)/\kq (Ak i ((j-i+1) / 2).toNat) g tb D σ H1:=rfl
def tq{lo:Int}{n:Nat}{g:TG}{tb:TS}{D:Ends}{σ:St}{H:Hp}(Pv:Nat->St->Hp->Prop)(h0:Pv 0 σ H)
  (hs:∀i σ H,i<n->Pv i σ H->g (.int (lo+i*2)) σ H λσ2 H2=>tb { D with nx:=Pv (i+1),ct:=Pv (i+1),bk:=D.nx } σ2 H2) (hd:∀σ H,Pv n σ H->D.nx σ H):kq (Ak lo n) g tb D σ H:=by
 refine⟨λi m σ H=>m+i=n/\Pv i σ H,⟨n,rfl,h0⟩,?_⟩;rintro i m σ H ⟨hm,hp⟩;by_cases hi:i<n
 ·refine .inr ⟨hi,Pv (i+1),λσ' H' h=>⟨m - 1,by lia,by lia,h⟩,?_⟩;rintro v H' ⟨rfl,rfl⟩;exact hs i σ H' hi hp
 ·have e:i=n:=by lia
  subst e;exact .inl ⟨aE _,hd σ H hp⟩
end
end L2
namespace Rm
open PySem L2
def Em(d:PyData)(n:Nat):Bool:=pP d&&(decide (0<=intOf d)&&decide (intOf d<n))
def uw:Sp:=λvs H Q _=>∃v d n,vs=[v,.int ((n:Nat):Int)]/\Dat H v d/\Q (.bl (Em d n)) H
def AA(a b:List Int):mx (a++b)=max (mx a) (mx b):=by
 induction a with
 | nil=>have:=zz b;simp only[ax,mx];lia
 | cons x a ih=>simp only[dN,mx,ih];lia
def CA(a b:List Int):mx (a++b)=mx (b++a):=by rw[AA,AA];lia
def FB:Option (List Int×List Int)->Option (List Int×List Int)
 | none=>none
 | some (a,b)=>some (b,a)
def CO(L R:List Int):ck R L 97=FB (ck L R 97)/\ck R L 98=FB (ck L R 99)/\ck R L 99=FB (ck L R 98)/\ck R L 100=FB (ck L R 100):=by
 refine⟨?_,?_,?_,?_⟩
 ·simp[ck,FB,CA R L]
 ·by_cases hL:L=[]
  ·subst hL;rw[ja,j9];rfl
  ·obtain⟨P,v,rfl⟩:=be hL;rw[lF,lE];rfl
 ·by_cases hR:R=[]
  ·subst hR;rw[ja,j9];rfl
  ·obtain⟨P,v,rfl⟩:=be hR;rw[lF,lE];rfl
 ·by_cases hL:L=[]
  ·subst hL;rw[j8,j7];rfl
  ·by_cases hR:R=[]
   ·subst hR;rw[j8,j7];rfl
   ·obtain⟨P,x,rfl⟩:=be hL;obtain⟨Q,y,rfl⟩:=be hR;rw[kz,kz];by_cases e:x=y
    ·rw[Ko e,Ko e.symm];rfl
    ·rw[Kn e,Kn (bg e),Int.min_comm y x,Int.max_comm y x];rfl
def cmp_swap:∀(n:Nat) (L R:List Int),dZ n R L=dZ n L R
 | 0,L,R=>by simp only[dZ];rw[Nat.add_comm]
 | n+1,L,R=>by
  have key:∀o,ko n (FB o)=ko n o:=λo=>by
   rcases o with _ | ⟨a,b⟩
   ·rfl
   ·exact cmp_swap n a b
  obtain⟨h1,h2,h3,h4⟩:=CO L R;rw[f9,f9,h1,h2,h3,h4,key,key,key,key];lia
def dP(o:List Int):List Int:=[0]++o++[(o.length:Int)+1]
def FD(r:List Int)(k:Nat):Int×Int:=(min (r.getD k 0) (r.getD (k+1) 0),max (r.getD k 0) (r.getD (k+1) 0))
def mV(r:List Int)(t:Nat)(n:Nat):List (Int×Int):=(List.range n).map λj=>FD r (t+j*2)
def x2(a b:Int×Int):Bool:=decide (a.1<b.1)&&(decide (b.1<a.2)&&decide (a.2<b.2))
def xP(bs:List (Int×Int)):Bool:=bs.any λa=>bs.any λb=>x2 a b
def pQ(o:List Int)(t:Nat):Bool:=xP (mV (dP o) t ((o.length+2-t) / 2))
def uC(o:List Int):Bool:=pQ o 0 || pQ o 1
def HA(H:Hp)(a:Addr)(o:List Int):Prop:=H a=some (.tup (o.map V.int))
def Cq:Sp:=λvs H Q _=>∃(z:Str) (a:Addr) (o:List Int),vs=[.str z,.ref a]/\HA H a o/\o.length<=20/\∀H',a6 H H'->Q (.bl (uC o)) H'
def DU{cs:List Nat}{i:Nat}:(tx cs).cps[i]? = cs[i]?:=by simp[tx]
def BJ{cs:List Nat}(h:∀c∈cs,c<128):(tx cs).cps.all (·<128)=true:=by
 rw[Array.all_eq_true'];intro x hx;have:=h x (by simpa [tx] using hx);exact Ks this
def yJ{cs:List Nat}(h:sM cs):(tx cs).cps.all (·<128)=true:=BJ λx hx=>by rcases h x hx with z | z | z | z<;>lia
end Rm
namespace Rm
open PySem L2 PyProof.Rows
def sG(o:List Int){k:Nat}(h:k<=o.length):FD (dP o) k=fh o k:=by
 have e:dP o=eW o:=by simp[dP,eW]
 unfold FD fh bN;rw[e]
def vc{b:Bool}{o:List Int}{t:Nat}{u:Bool}(ht:t=0/\u=b\/t=1/\u=!b){p:Bw}:p∈mV (dP o) t ((o.length+2-t) / 2)<->p∈bu b o u (o.length+1):=by
 unfold mV bu;rw[bI,bI];constructor
 ·rintro⟨j,hj,rfl⟩;have hj:=cW.mp hj;refine⟨t+j*2,da.mpr ⟨cW.mpr (by lia),?_⟩,(sG o (by lia)).symm⟩;unfold c9 odd;rcases ht with ⟨rfl,rfl⟩ | ⟨rfl,rfl⟩
  ·rw[show (0+j*2) % 2=0 by lia];cases u<;>rfl
  ·rw[show (1+j*2) % 2=1 by lia];cases b<;>rfl
 ·rintro⟨i,hi,rfl⟩;obtain⟨h1,h2⟩:=da.mp hi;have h1:=cW.mp h1;have h3:i % 2=t:=by
   unfold c9 odd at h2;rcases bx i with e | e
   ·rw[e] at h2;rcases ht with ⟨rfl,rfl⟩ | ⟨rfl,rfl⟩
    ·exact e
    ·cases b<;>cases h2
   ·rw[e] at h2;rcases ht with ⟨rfl,rfl⟩ | ⟨rfl,rfl⟩
    ·cases u<;>cases h2
    ·exact e
  exact⟨i / 2,cW.mpr (by lia),by rw[show t+i / 2*2=i by lia];exact sG o (by lia)⟩
def uM{ps qs:List Bw}(h:∀p,p∈ps<->p∈qs):xP ps=false<->∀p∈qs,∀q∈qs,lS p q=false:=by
 unfold xP;rw[dg];constructor
 ·intro z p hp q hq;have:=z p ((h p).mpr hp);rw[gN,dg] at this;have:=this q ((h q).mpr hq);rw[gN] at this;exact this
 ·intro z p hp;rw[gN,dg];intro q hq;rw[gN];exact z p ((h p).mp hp) q ((h q).mp hq)
def CW(b:Bool)(o:List Int):uC o=false<->NC b o:=by
 unfold uC pQ;rw[Bool.or_eq_false_iff,uM (λp=>vc (b:=b) (.inl ⟨rfl,rfl⟩)),uM (λp=>vc (b:=b) (.inr ⟨rfl,rfl⟩))];constructor
 ·rintro⟨h1,h2⟩ u;by_cases e:u=b
  ·rw[e];exact h1
  ·have:u=!b:=by cases u<;>cases b<;>first | rfl | exact absurd rfl e
   rw[this];exact h2
 ·intro h;exact⟨h b,h (!b)⟩
def rf{b u:Bool}{ns:List Int}(O:mH ns){i k:Nat}(hi:i<ns.length+2)(hk:k<=ns.length)(hs:c9 b u k=true)(h:k=i\/k+1=i):decide (bN ns i∈(bu b ns u (ns.length+1)).map (·.1))=decide (bN ns i<bN ns (if k=i then i+1 else k)):=by
 have on:=O.only (b:=b) hk hs h;have ne:=O.step_lt (i:=k) hk;have ne:min (bN ns k) (bN ns (k+1))<max (bN ns k) (bN ns (k+1)):=ne;have e:(bN ns i∈(bu b ns u (ns.length+1)).map (·.1))<->(fh ns k).1=bN ns i:=by
  rw[bI];constructor
  ·rintro⟨p,hp,e⟩;have:p∈(bu b ns u (ns.length+1)).filter (qM (bN ns i)):=da.mpr ⟨hp,by unfold qM;rw[e];simp⟩;rw[on,bC] at this;rw[<-this];exact e
  ·intro e;exact⟨fh ns k,lh (by lia) hs,e⟩
 refine decide_eq_decide.mpr (e.trans ?_);show min (bN ns k) (bN ns (k+1))=_<->_;rcases h with rfl | rfl
 ·rw[Ko rfl];lia
 ·rw[Kn (by lia)];lia
def wc(b:Bool)(ns:List Int)(i:Nat):Nat:=if odd i=!b then we (!decide (bN ns (i - 1)<bN ns i)) (!decide (bN ns (i+1)<bN ns i)) else we (!decide (bN ns (i+1)<bN ns i)) (!decide (bN ns (i - 1)<bN ns i))
def CD{b:Bool}{ns:List Int}(O:mH ns){i:Nat}(h1:1<=i)(h2:i<=ns.length):wc b ns i=we (decide (bN ns i∈(bu b ns false (ns.length+1)).map (·.1))) (decide (bN ns i∈(bu b ns true (ns.length+1)).map (·.1))):=by
 have na:bN ns (i - 1)≠bN ns i:=λe=>by have:=O.row_inj (by lia) (by lia) e;lia
 have nb:bN ns (i+1)≠bN ns i:=λe=>by have:=O.row_inj (by lia) (by lia) e;lia
 have ea:(!decide (bN ns (i - 1)<bN ns i))=decide (bN ns i<bN ns (i - 1)):=by rw[<-decide_not];exact decide_eq_decide.mpr (by lia)
 have eb:(!decide (bN ns (i+1)<bN ns i))=decide (bN ns i<bN ns (i+1)):=by rw[<-decide_not];exact decide_eq_decide.mpr (by lia)
 have fa:∀u,c9 b u (i - 1)=true->decide (bN ns i∈(bu b ns u (ns.length+1)).map (·.1))=decide (bN ns i<bN ns (i - 1)):=λu hs=>by
  have:=rf O (i:=i) (k:=i - 1) (by lia) (by lia) hs (.inr (by lia));rw[Kn (by lia)] at this;exact this
 have fb:∀u,c9 b u i=true->decide (bN ns i∈(bu b ns u (ns.length+1)).map (·.1))=decide (bN ns i<bN ns (i+1)):=λu hs=>by
  have:=rf O (i:=i) (k:=i) (by lia) (by lia) hs (.inl rfl);rw[Ko rfl] at this;exact this
 have op:odd (i - 1)=!odd i:=by
  have:=iO (i - 1);rw[show i - 1+1=i by lia] at this;rw[this,Bool.not_not]
 unfold wc;rw[ea,eb];by_cases h:odd i=!b
 ·rw[Ko h,fa false (by unfold c9;rw[op,h];cases b<;>rfl),fb true (by unfold c9;rw[h];cases b<;>rfl)]
 ·have h':odd i=b:=by cases b<;>cases z:odd i<;>simp_all
  rw[Kn h,fb false (by unfold c9;rw[h'];cases b<;>rfl),fa true (by unfold c9;rw[op,h'];cases b<;>rfl)]
def qk:Sp:=λvs H Q _=>∃(b:Bool) (o:Addr) (ns:List Int),vs=[.str (sd b),.ref o]/\H o=some (.tup (ns.map V.int))/\mH ns/\∀H',a6 H H'->Q (.str (tx (mS b ns))) H'
def sK (p q:Bool):pL (Str.ofString "abcd").cps.toList (2*(if p=true then 1 else 0)+if q=true then 1 else 0)=some (we (!p) (!q)):=by
 rw[pj,lH];cases p<;>cases q<;>rfl
def wz{b:Bool}{ns:List Int}{i k:Nat}(O:mH ns)(hi:i<ns.length)(hk:k+1<=ns.length)(er:bN ns (k+1)=1+i):(mS b ns).take (i+1)=(mS b ns).take i++[wc b ns (k+1)]:=by
 rw[CD O (by lia) hk,er];have e1:((i+1:Nat):Int)=1+i:=by lia
 rw[bJ];congr 1;unfold mS;rw[ar,List.getElem?_range hi,<-e1];rfl
def rO (k:Nat) (b:Bool):(decide (((k:Nat):Int) % 2=1)=decide (sd b=Str.ofString "l"))<->odd k=!b:=by
 have e1:decide (((k:Nat):Int) % 2=1)=odd k:=by
  unfold odd;rcases bx k with h | h
  ·rw[h,Kr (by lia)];rfl
  ·rw[h,Ks (by lia)];rfl
 have e2:decide (sd b=Str.ofString "l")=!b:=by cases b<;>decide +kernel
 rw[e1,e2]
def CT{K:Kw}{H:Hp}{x y:V}{d:PyData}{neg:Bool}{Q:VK}(hx:Dat H x d)(hy:Dat H y d)(lay:d.canLay0=true)(dp:d.depth<=60)(q:Q (.bl (!neg)) H):zA K neg x y H Q:=by
 refine⟨_,_,hx.rep,hy.rep,lay,lay,by rw[Nat.min_self];exact dp,?_⟩;rw[PySem.SeqAt.eqv_refl _ lay];cases neg
 ·exact q
 ·exact q
def fG(S:List Int->List Int->List (List Nat))(c:Nat):Option (List Int×List Int)->List (List Nat)
 | none=>[]
 | some (L,R)=>(S L R).map (c::·)
def cC:Nat->List Int->List Int->List (List Nat)
 | 0,L,R=>if L.length+R.length=1 then [[]] else []
 | n+1,L,R=>fG (cC n) 97 (ck L R 97)++fG (cC n) 98 (ck L R 98)++fG (cC n) 99 (ck L R 99)++fG (cC n) 100 (ck L R 100)
def ka:∀(n:Nat) (L R:List Int),(cC n L R).length=dZ n L R
 | 0,L,R=>by
  unfold cC dZ
  split<;>rfl
 | n+1,L,R=>by
  have key:∀c o,(fG (cC n) c o).length=ko n o:=λc o=>by
   rcases o with _ | ⟨a,b⟩
   ·rfl
   ·show ((cC n a b).map _).length=dZ n a b;rw[aB,ka n a b]
  rw[f9];unfold cC;simp only[aX,key]
def wa(c n:Nat)(L R:List Int):Nat:=(if 97<c then ko n (ck L R 97) else 0)+(if 98<c then ko n (ck L R 98) else 0)+(if 99<c then ko n (ck L R 99) else 0)
def rP:List Nat->List Int->List Int->Nat
 | [],_,_=>0
 | c::cs,L,R=>wa c cs.length L R+(match ck L R c with | none=>0 | some (L',R')=>rP cs L' R')
def dU{n c:Nat}{o:Option (List Int×List Int)}:(fG (cC n) c o).length=ko n o:=by
 rcases o with _ | ⟨a,b⟩
 ·rfl
 ·show ((cC n a b).map _).length=dZ n a b;rw[aB,ka n a b]
def Dd{n c i:Nat}{L R L' R':List Int}{cs:List Nat}(hc:jH c)(g:ck L R c=some (L',R'))(h:(cC n L' R')[i]? = some cs):(cC (n+1) L R)[wa c n L R+i]? = some (c::cs):=by
 have hi:i<(cC n L' R').length:=(aJ.mp h).1;have at_:(fG (cC n) c (ck L R c))[i]? = some (c::cs):=by
  rw[g];show ((cC n L' R').map (c::·))[i]? = _;rw[ar,h];rfl
 have hl:i<(fG (cC n) c (ck L R c)).length:=(aJ.mp at_).1;unfold cC wa;rcases hc with rfl | rfl | rfl | rfl
 ·simp only[c7,show ¬(98:Nat)<97 by decide,show ¬(99:Nat)<97 by decide,Kv,Nat.zero_add];rw[a7,a7,bK hl];exact at_
 ·simp only[c7,show (97:Nat)<98 by decide,show ¬(99:Nat)<98 by decide,Kv,Ku,Nat.add_zero];rw[a7,a7,aV (by rw[dU];lia),dU,fe,bK hl];exact at_
 ·simp only[c7,show (97:Nat)<99 by decide,show (98:Nat)<99 by decide,Kv,Ku,Nat.add_zero];rw[a7,aV (by rw[aX,dU,dU];lia),aX,dU,dU,fe,bK hl];exact at_
 ·simp only[show (97:Nat)<100 by decide,show (98:Nat)<100 by decide,show (99:Nat)<100 by decide,Ku];rw[aV (by rw[aX,aX,dU,dU,dU];lia),aX,aX,dU,dU,dU,fe];exact at_
def sr:∀{cs:List Nat} {L R:List Int} {i:Nat},sM cs->fU L R cs i=none->(cC cs.length L R)[rP cs L R]? = some cs
 | [],L,R,i,_,h=>by
  unfold fU at h
  split at h
  ·rename_i e;show (if L.length+R.length=1 then [[]] else [])[0]? = _;rw[Ko e];rfl
  ·cases h
 | c::cs,L,R,i,hl,h=>by
  cases g:ck L R c with
  | none=>rw[lq g] at h;cases h
  | some p=>
   obtain⟨L',R'⟩:=p;rw[ke g] at h;have:=sr (λx hx=>hl x (aK _ hx)) h;have e:rP (c::cs) L R=wa c cs.length L R+rP cs L' R':=by
    show wa c cs.length L R+(match ck L R c with | none=>0 | some (L',R')=>rP cs L' R')=_;rw[g]
   rw[e];exact Dd (hl c am) g this
def CY{n c i:Nat}{o:Option (List Int×List Int)}{cs:List Nat}(h:(fG (cC n) c o)[i]? = some cs):∃L' R' ds,o=some (L',R')/\cs=c::ds/\(cC n L' R')[i]? = some ds:=by
 rcases o with _ | ⟨a,b⟩
 ·simp[fG] at h
 ·have h:((cC n a b).map (c::·))[i]? = some cs:=h;rw[ar] at h;cases e:(cC n a b)[i]? with
  | none=>rw[e] at h;cases h
  | some ds=>rw[e] at h;cases h;exact⟨a,b,ds,rfl,rfl,e⟩
def BM{n k:Nat}{L R:List Int}{cs:List Nat}(h:(cC (n+1) L R)[k]? = some cs):∃c i L' R' ds,jH c/\ck L R c=some (L',R')/\k=wa c n L R+i/\cs=c::ds/\(cC n L' R')[i]? = some ds:=by
 unfold cC at h;rw[a7,a7] at h;have la:=dU (n:=n) (c:=97) (o:=ck L R 97);have lb:=dU (n:=n) (c:=98) (o:=ck L R 98);have lc:=dU (n:=n) (c:=99) (o:=ck L R 99);have go:∀c j,jH c->(fG (cC n) c (ck L R c))[j]? = some cs->k=wa c n L R+j->∃c i L' R' ds,jH c/\ck L R c=some (L',R')/\k=wa c n L R+i/\cs=c::ds/\(cC n L' R')[i]? = some ds:=λc j hc h e=>by
  obtain⟨L',R',ds,h1,h2,h3⟩:=CY h;exact⟨c,j,L',R',ds,hc,h1,e,h2,h3⟩
 by_cases h1:k<(fG (cC n) 97 (ck L R 97)).length
 ·rw[bK h1] at h;exact go 97 k (.inl rfl) h (by simp[wa])
 ·rw[aV (by lia)] at h;by_cases h2:k-(fG (cC n) 97 (ck L R 97)).length<(fG (cC n) 98 (ck L R 98)).length
  ·rw[bK h2] at h;exact go 98 _ (.inr (.inl rfl)) h (by simp[wa];lia)
  ·rw[aV (by lia)] at h;by_cases h3:k-(fG (cC n) 97 (ck L R 97)).length-(fG (cC n) 98 (ck L R 98)).length<(fG (cC n) 99 (ck L R 99)).length
   ·rw[bK h3] at h;exact go 99 _ (.inr (.inr (.inl rfl))) h (by simp[wa];lia)
   ·rw[aV (by lia)] at h;exact go 100 _ (.inr (.inr (.inr rfl))) h (by simp[wa];lia)
def vC:∀{n:Nat} {L R:List Int} {k:Nat} {cs:List Nat},(cC n L R)[k]? = some cs->cs.length=n/\sM cs/\(∀i,fU L R cs i=none)/\k=rP cs L R
 | 0,L,R,k,cs,h=>by
  unfold cC at h
  split at h
  ·rename_i e;cases k with
   | zero=>cases h;exact⟨rfl,(λx hx=>by cases hx),λi=>by unfold fU;rw[Ko e],rfl⟩
   | succ k=>simp at h
  ·simp at h
 | n+1,L,R,k,cs,h=>by
  obtain⟨c,i,L',R',ds,hc,g,e,rfl,h'⟩:=BM h;obtain⟨h1,h2,h3,h4⟩:=vC h';refine⟨by rw[bi,h1],λx hx=>?_,λj=>by rw[ke g];exact h3 _,?_⟩
  ·rcases aH.mp hx with z | z
   ·rw[z];exact hc
   ·exact h2 x z
  ·show k=wa c ds.length L R+(match ck L R c with | none=>0 | some (L',R')=>rP ds L' R')
   rw[g,h1,e,h4]
def yn{n:Nat}{L R:List Int}(h:2*n+1<L.length+R.length):cC n L R=[]:=by
 have:=ka n L R;rw[nY n h] at this;exact cK.mp this
def iL(b:Bool)(cs:List Nat):List Int:=ordF (fin2 b cs) b cs.length
structure xN (b:Bool) (cs:List Nat):Prop where
 lts:sM cs
 len:cs.length<=20
 res:fU (bL b) (bR b) cs 0=none
def xN.maze{b:Bool}{cs:List Nat}(C:xN b cs):xL b cs (iL b cs):=by
 obtain⟨ns,M⟩:=wy C.lts C.len C.res;have:iL b cs=ns:=M.ordF;rw[this];exact M
def xN.code{b:Bool}{cs:List Nat}(C:xN b cs):mS b (iL b cs)=cs:=C.maze.code C.lts
def lj{b:Bool}{n k:Nat}{cs:List Nat}(hn:n<=20)(h:(cC n (bL b) (bR b))[k]? = some cs):xN b cs/\cs.length=n/\k=rP cs (bL b) (bR b):=by
 obtain⟨h1,h2,h3,h4⟩:=vC h;exact⟨⟨h2,by lia,h3 0⟩,h1,h4⟩
abbrev m6:=List Nat×List Int×List Int
def mW(n:Nat)(ps:List m6):List (List Nat):=ps.flatMap λp=>(cC n p.2.1 p.2.2).map (p.1++·)
def iP(p:m6)(n c:Nat):List m6:=match ck p.2.1 p.2.2 c with | none=>[] | some (L,R)=>if L.length+R.length<=2*n+1 then [(p.1++[c],L,R)] else []
def mB(p:m6)(n:Nat):List m6:=iP p n 97++iP p n 98++iP p n 99++iP p n 100
def sJ(n:Nat)(ps qs:List m6):mW n (ps++qs)=mW n ps++mW n qs:=by unfold mW;rw[gq]
def Bt(p:m6)(n c:Nat):mW n (iP p n c)=(fG (cC n) c (ck p.2.1 p.2.2 c)).map (p.1++·):=by
 unfold iP;cases ck p.2.1 p.2.2 c with
 | none=>rfl
 | some q=>
  obtain⟨L,R⟩:=q;simp only
  split
  ·show (((cC n L R).map (p.1++[c]++·))++[])=((cC n L R).map (c::·)).map (p.1++·);rw[b9,bj];exact cQ λx _=>by simp
  ·rename_i h;show []=((cC n L R).map (c::·)).map (p.1++·);rw[yn (by lia)];rfl
def Bu(p:m6)(n:Nat):mW n (mB p n)=(cC (n+1) p.2.1 p.2.2).map (p.1++·):=by
 unfold mB cC;simp only[sJ,Bt,aN]
def qf(n:Nat):∀ps:List m6,mW n (ps.flatMap λp=>mB p n)=mW (n+1) ps
 | []=>rfl
 | p::ps=>by
  rw[aT,sJ,Bu,qf n ps];unfold mW;rw[aT]
end Rm
namespace L2
open PySem PySem.Spec PyProof.Rows
section
variable {X:Cx}
def pB{h:Heap}{d:PyData}:∀{us:List Value} {es:List PyData} {as:List Addr},ReadsAll h us es as->PyData.canLayAll0 es=true->us.countP (eqR h d)=es.countP λe=>PyData.eqv e d
 | _,_,_,.nil,_=>rfl
 | _,_,_,.cons r rs,c=>by
  have c':(PyData.canLay0 _&&PyData.canLayAll0 _)=true:=c;rw[cu] at c';rw[cB,cB,uA r c'.1,pB rs c'.2]
def vD(K:Kw):V->List V->Hp->VK->Prop:=λx vs H Q=>∃d es p xs y,x=.ref p/\vs=[y]/\Rep K H y d/\cL K H p xs/\lY K H xs es/\d.canLay0=true/\PyData.canLayAll0 es=true/\d.depth<=60/\Q (.int ((es.countP λe=>PyData.eqv e d:Nat):Int)) H
def w9 (hu:X.A.units+64<cLine):Eu X "list.count" (vD X.K):=by
 intro pins s σ H x vs v us Q I rx rv h;obtain⟨d,es,p,xs,y,rfl,rfl,h1,hq,h2,h3,h4,h5,q⟩:=h;cases rx;obtain⟨u,rfl,ru⟩:=rv.one;obtain⟨as,ra⟩:=h1.reads I ru;obtain⟨its,r,pl,hz⟩:=I.list hq;obtain⟨bs,rb⟩:=h2.reads I r;obtain⟨⟨cls,dd,data,sl⟩,ho,hc,n,hd⟩:=id pl.isList;simp only at hc hd;subst hc hd;refine Ke F.slot_list_count ⟨_,ho,rfl⟩ F.entry_list_count (F.args_list_count_2 _ _) (SeqAt.list_countAt p its.toArray n dd sl u (eqR s.heap d)) ⟨ho,λz hz=>mn (A:=X.A.in1) ra h3 (by show X.A.units+1+d.depth<cLine;lia) rb h4 z (by simpa using hz),?_⟩;refine⟨.int _,H,I.tok _,⟨_,by rw[List.toList_toArray,pB rb h4]⟩,q⟩
def qY{K:Kw}{p:Addr}{y:V}{H:Hp}{Q:VK}:vD K (.ref p) [y] H Q=∃d es xs,Rep K H y d/\cL K H p xs/\lY K H xs es/\d.canLay0=true/\PyData.canLayAll0 es=true/\d.depth<=60/\Q (.int ((es.countP λe=>PyData.eqv e d:Nat):Int)) H:=propext ⟨λ⟨d,es,_,xs,_,e,e',h⟩=>by cases e;cases e';exact⟨d,es,xs,h⟩,λ⟨d,es,xs,h⟩=>⟨d,es,p,xs,y,rfl,rfl,h⟩⟩
def BS:V->List V->Hp->VK->Prop:=λx vs H Q=>∃z y,x=.str z/\vs=[.str y]/\∃(i:Nat) (rest:List Nat),Builtin.Str.occurrences z y 0 z.length 1=i::rest/\Q (.int i) H
def xU{z y:Str}{H:Hp}{Q:VK}:BS (.str z) [.str y] H Q=∃(i:Nat) (rest:List Nat),Builtin.Str.occurrences z y 0 z.length 1=i::rest/\Q (.int i) H:=propext ⟨λ⟨_,_,e,e',h⟩=>by cases e;cases e';exact h,λh=>⟨z,y,rfl,rfl,h⟩⟩
end
def Aj(lo:Int)(n:Nat):It:=⟨λi _=>i<n,λi H x H'=>H'=H/\x=.int (lo+i*(-1)),λi _=>n<=i⟩
def qa {P : Program} {w : World} {K : Kw} {tg : Expr} (it : Addr) (lo : Int) (n : Nat) : Turn P w K tg (Aj lo n) [it] it (fun i h => IsRangeIter h it (lo + (i : Nat) * (-1)) ((n : Int) - (i : Nat)) (-1)) where
  mem := by simp
  obj := fun i h st b hb => by
    have e : b = it := by simpa using hb
    subst e
    exact ⟨_, st, fun v z => by
      have z' : Data.fields _ = Data.cell v := z
      cases z'⟩
  keep := fun i h h' st k => k it (by simp) _ st
  item := by
    intro X hP hw hK hc i pins s σ H E I hf st hg
    subst hP hw hK
    obtain ⟨f0, f1, f2, f3, f4, f5⟩ := hf it (by simp)
    have W := Walks.range (prog := X.prog) (w := X.w) (I.ok.hd hc) it lo (-1) n
    refine W.item i s _ _ hg st fun v h' tk hv st' kk => ?_
    obtain ⟨t, rfl⟩ := hv
    have I1 : bY X pins σ H { s with heap := h', toks := tk } := I.turned (fun b o hb e => kk b o (by simpa using hb) e) f0 f1 f3 f4 f5
    exact ⟨_, rfl, pA (s := { s with heap := h', toks := tk }) (n := "range_iterator") st' rfl rfl (by decide) ⟨.int (lo + i * (-1)), H, I1, ⟨t, rfl⟩, ⟨rfl, rfl⟩, st', fun b hb => (hf b hb).1⟩⟩
  done := by
    intro X hP hw hK hc i pins s σ H E I hf st hg
    subst hP hw hK
    obtain ⟨f0, f1, f2, f3, f4, f5⟩ := hf it (by simp)
    exact K7 (I.ok.hd hc) st (by have : n ≤ i := hg; lia) fun h' eb => ⟨rfl, I.turned (t' := s.toks) (fun b o hb e => eb b o hb e) f0 f1 f3 f4 f5⟩
  self := fun _ _ _ _ _ st h => K8 st h
def kx(a b:Int):Builtin.Range.rangeSize a b (-1)=((a-b).toNat:Int):=by
 unfold Builtin.Range.rangeSize;simp
 split<;>lia
def vw{a b:Int}(ha:-(2 ^ 61)<=a)(ha':a<2 ^ 61)(hb:-(2 ^ 61)<=b)(hb':b<2 ^ 61):Builtin.Range.small a b (-1)=true:=by
 unfold Builtin.Range.small;rw[kx];simp only[Builtin.Range.rangeFitsLong,cu,jv,Kq,beq_iff_eq,show ¬(-1:Int) > 0 by decide,Kv];lia
section
variable {X:Cx} {tg:Expr}
def wC{pins:List (Addr×Obj)}{σ:St}{H:Hp}{s:Shared}{R:It->Hp->Prop}{E:Value->Shared->Prop}{lo hi:Int}{t u v:Tok}{tk:Nat}(I:bY X pins σ H s)(h1:-(2 ^ 61)<=lo)(h2:lo<2 ^ 61)(h3:-(2 ^ 61)<=hi)(h4:hi<2 ^ 61)
  (q:R (Aj lo (lo-hi).toNat) H):wpAny (model X.prog X.w) X.A (pyIter (.ref s.heap.objs.size)) (Gw X pins σ tg R) E { s with heap:=s.heap.push { cls:=.type "range",data:=.fields #[.int lo t,.int hi u,.int (-1) v] },toks:=tk }:=by
 refine K9 (IsRange.new ..) (vw h1 h2 h3 h4) ?_;have I1:bY X pins σ H { s with heap:=s.heap.push { cls:=.type "range",data:=.fields #[.int lo t,.int hi u,.int (-1) v] },toks:=tk }:=I.kept λb o e=>aA _ e;refine⟨(s.heap.push { cls:=.type "range",data:=.fields #[.int lo t,.int hi u,.int (-1) v] }).objs.size,[(s.heap.push { cls:=.type "range",data:=.fields #[.int lo t,.int hi u,.int (-1) v] }).objs.size],_,_,H,rfl,
  I1.kept (t':=tk) λb o e=>aA _ e,qa _ lo (lo-hi).toNat,?_,λb hb=>?_,q⟩
 ·have e1:lo+((0:Nat):Int)*(-1)=lo:=by simp
  have e2:(((lo-hi).toNat:Nat):Int)-((0:Nat):Int)=Builtin.Range.rangeSize lo hi (-1):=by rw[kx];simp
  show IsRangeIter _ _ (lo+((0:Nat):Int)*(-1)) ((((lo-hi).toNat:Nat):Int)-((0:Nat):Int)) (-1);rw[e1,e2];exact aR _ rfl
 ·have e:b=(s.heap.push { cls:=.type "range",data:=.fields #[.int lo t,.int hi u,.int (-1) v] }).objs.size:=by simpa using hb
  subst e;exact I1.fpOk (aE _) (I1.hok.fresh (aE _))
def Cy(ta:TA):TI:=λσ H R=>ta σ H λvs H1=>∃i j:Int,vs=[.int i,.int j,.int (-1)]/\(-(2 ^ 61)<=i/\i<2 ^ 61/\-(2 ^ 61)<=j/\j<2 ^ 61)/\R (Aj i (i-j).toNat) H1
def tH {a b c:Expr} {ta:TA} {p pos:Pos} (hg:Gl X "range") (hm:X.mg "range"=none) (ha:QA X [a,b,c] ta) (hs:starEach [a,b,c] X.env=(false,eval a X.env)::starEach [b,c] X.env:=by rfl) (hpl:(backTo pos (starEach [b,c] X.env)).any (·.1)=false:=by rfl) :
  QI X tg (.Call (.Name "range" p) [a,b,c] [] pos) (Cy ta):=⟨by
 intro pins s σ H R I h;refine Call_ (iR I hg hm boot_range (bS (dH (ha.h pos pins s σ H _ I h) λus s1 ⟨vs,H1,I1,r1,q1⟩=>?_) hs hpl));obtain⟨i,j,e,⟨q1,q2,q3,q4⟩,q⟩:=q1;subst e;cases r1 with
 | cons r rr=>
  cases rr with
  | cons r' rr=>
   cases rr with
   | cons r'' rr=>
    cases rr;obtain⟨t,rfl⟩:=r;obtain⟨t',rfl⟩:=r';obtain⟨t'',rfl⟩:=r'';exact call_range_3 (by decide) (wC I1 q1 q2 q3 q4 q)⟩
def DJ{σ:St}{H:Hp}{D:Ends}{ta:TA}{g:TG}{tb:TS}:mI (Cy ta) g tb D σ H=ta σ H λvs H1=>∃i j:Int,vs=[.int i,.int j,.int (-1)]/\(-(2 ^ 61)<=i/\i<2 ^ 61/\-(2 ^ 61)<=j/\j<2 ^ 61)/\kq (Aj i (i-j).toNat) g tb D σ H1:=rfl
def tm{lo:Int}{n:Nat}{g:TG}{tb:TS}{D:Ends}{σ:St}{H:Hp}(Pv:Nat->St->Hp->Prop)(h0:Pv 0 σ H)
  (hs:∀i σ H,i<n->Pv i σ H->g (.int (lo+i*(-1))) σ H λσ2 H2=>tb { D with nx:=Pv (i+1),ct:=Pv (i+1),bk:=D.nx } σ2 H2) (hd:∀σ H,Pv n σ H->D.nx σ H):kq (Aj lo n) g tb D σ H:=by
 refine⟨λi m σ H=>m+i=n/\Pv i σ H,⟨n,rfl,h0⟩,?_⟩;rintro i m σ H ⟨hm,hp⟩;by_cases hi:i<n
 ·refine .inr ⟨hi,Pv (i+1),λσ' H' h=>⟨m - 1,by lia,by lia,h⟩,?_⟩;rintro v H' ⟨rfl,rfl⟩;exact hs i σ H' hi hp
 ·have e:i=n:=by lia
  subst e;exact .inl ⟨aE _,hd σ H hp⟩
end
end L2
namespace Rm
open PySem L2 PyProof.Rows
def qg:Sp:=λvs H Q _=>∃(b:Bool) (cs:List Nat),vs=[.str (sd b),.str (tx cs)]/\xN b cs/\∀H',a6 H H'->Q (.bl true) H'
def sh:Sp:=λvs H Q _=>∃(b:Bool) (cs:List Nat),vs=[.str (sd b),.str (tx cs)]/\xN b cs/\∀m o H',a6 H H'->gk H' m o b (iL b cs)->Q (.ref m) H'
def uu:Sp:=λvs H Q _=>∃(r:Int) (b:Bool) (m:Nat),vs=[.int r,.str (sd b),.int m]/\m<=5/\∀cs H',a6 H H'->xN b cs->cs.length<=4*m->Q (.str (tx cs)) H'
def o0:Sp:=λvs H Q _=>∃(b:Bool) (n:Nat),vs=[.str (sd b),.int (n:Nat)]/\n<=9/\∀l H',H l=none->a6 H H'->H' l=some (.lst ((cC n (bL b) (bR b)).map λcs=>V.str (tx cs)))->Q (.ref l) H'
def vg(H:Hp)(b:Bool)(as:List Addr)(ss:List (List Nat)):Prop:=Paired (λa cs=>∃o,gk H a o b (iL b cs)) as ss
def vg.same{H H':Hp}{b:Bool}{as:List Addr}{ss:List (List Nat)}(h:vg H b as ss)(s:a6 H H'):vg H' b as ss:=Paired.mapP h λ_ _ ⟨o,z⟩=>⟨o,z.same s⟩
def qj:Sp:=λvs H Q _=>∃(b:Bool) (n:Nat),vs=[.str (sd b),.int (n:Nat)]/\n<=9/\∀l as H',H l=none->a6 H H'->H' l=some (.lst (as.map V.ref))->vg H' b as (cC n (bL b) (bR b))->Q (.ref l) H'
def xK(H:Hp)(a:Addr)(p:m6):Prop:=H a=some (.tup [.str (tx p.1),.str (tx (fH p.2.1 p.2.2))])
def GZ(H:Hp)(l:Addr)(ps:List m6):Prop:=∃as:List Addr,H l=some (.lst (as.map V.ref))/\Paired (xK H) as ps
structure C6 (i n:Nat) (ps:List m6):Prop where
 ee:∀ p∈ps,EE p.2.1 p.2.2
 len:∀ p∈ps,p.1.length=i
 sz:∀ p∈ps,p.2.1.length+p.2.2.length<=2 * i+1
 en:∀ p∈ps,p.2.1.length+p.2.2.length<=2 * n+1
def mi{p q:m6}{n c i:Nat}(hc:jH c)(E:EE p.2.1 p.2.2)(hl:p.1.length=i)(hs:p.2.1.length+p.2.2.length<=2*i+1)(h:q∈iP p n c):EE q.2.1 q.2.2/\q.1.length=i+1/\q.2.1.length+q.2.2.length<=2*(i+1)+1/\q.2.1.length+q.2.2.length<=2*n+1:=by
 unfold iP at h
 split at h
 ·cases h
 ·rename_i L R g
  split at h
  ·rename_i hle;rw[bC] at h;subst h;have:=km hc g;exact⟨E.go hc g,by simp[hl],by simp only;lia,hle⟩
  ·cases h
def kT(p:m6)(n c:Nat):(iP p n c).length<=1:=by
 unfold iP
 split
 ·exact bE _
 ·split
  ·exact aE _
  ·exact bE _
def zo(p:m6)(n:Nat):(mB p n).length<=4:=by
 have h1:=kT p n 97;have h2:=kT p n 98;have h3:=kT p n 99;have h4:=kT p n 100;unfold mB;simp only[aX];lia
def C6.next{i n:Nat}{ps:List m6}(I:C6 i (n+1) ps):C6 (i+1) n (ps.flatMap λp=>mB p n):=by
 have key:∀q∈ps.flatMap λp=>mB p n,EE q.2.1 q.2.2/\q.1.length=i+1/\q.2.1.length+q.2.2.length<=2*(i+1)+1/\q.2.1.length+q.2.2.length<=2*n+1:=λq hq=>by
  obtain⟨p,hp,hq⟩:=fB.mp hq;unfold mB at hq;simp only[aL] at hq;rcases hq with ((h | h) | h) | h
  ·exact mi (.inl rfl) (I.ee p hp) (I.len p hp) (I.sz p hp) h
  ·exact mi (.inr (.inl rfl)) (I.ee p hp) (I.len p hp) (I.sz p hp) h
  ·exact mi (.inr (.inr (.inl rfl))) (I.ee p hp) (I.len p hp) (I.sz p hp) h
  ·exact mi (.inr (.inr (.inr rfl))) (I.ee p hp) (I.len p hp) (I.sz p hp) h
 exact⟨λq hq=>(key q hq).1,λq hq=>(key q hq).2.1,λq hq=>(key q hq).2.2.1,λq hq=>(key q hq).2.2.2⟩
def nT(n:Nat):∀ps:List m6,(ps.flatMap λp=>mB p n).length<=4*ps.length
 | []=>aE _
 | p::ps=>by
  rw[aT,aX,bi];have:=nT n ps;have:=zo p n;lia
def vd{i:Nat}:∀{ps:List m6},C6 i 0 ps->mW 0 ps=ps.map (·.1)
 | [],_=>rfl
 | p::ps,I=>by
  have I':C6 i 0 ps:=⟨λq h=>I.ee q (aK _ h),λq h=>I.len q (aK _ h),λq h=>I.sz q (aK _ h),λq h=>I.en q (aK _ h)⟩
  have e:=I.en p am;have e1:=(I.ee p am).pos;have:cC 0 p.2.1 p.2.2=[[]]:=by unfold cC;rw[Ko (by lia)]
  show (cC 0 p.2.1 p.2.2).map (p.1++·)++mW 0 ps=p.1::ps.map (·.1);rw[this,vd I'];simp
def C6.start(b:Bool)(n:Nat):C6 0 n [([],bL b,bR b)]:=by
 have e:(bL b).length+(bR b).length=1:=by cases b<;>rfl
 refine⟨λp hp=>?_,λp hp=>?_,λp hp=>?_,λp hp=>?_⟩<;>rw[bC] at hp<;>subst hp
 ·cases b;exact EE.one;exact EE.two
 ·rfl
 ·simp only;lia
 ·simp only;lia
def xJ(b:Bool)(n:Nat):mW n [([],bL b,bR b)]=cC n (bL b) (bR b):=by
 show (cC n (bL b) (bR b)).map ([]++·)++[]=_;simp
def rV:List Nat:=[97,98,99,100]
def tY(p:m6)(n k:Nat):List m6:=(rV.take k).flatMap (iP p n)
def zm(p:m6)(n:Nat):tY p n 4=mB p n:=by
 show iP p n 97++(iP p n 98++(iP p n 99++(iP p n 100++[])))=_;unfold mB;simp
def wY{p:m6}{n k c:Nat}(h:rV[k]? = some c):tY p n (k+1)=tY p n k++iP p n c:=by
 unfold tY;rw[bJ,h,gq];simp
def zk(p:m6)(n k:Nat):(tY p n k).length<=4:=by
 have:∀l:List Nat,(l.flatMap (iP p n)).length<=l.length:=by
  intro l
  induction l with
  | nil=>exact aE _
  | cons c l ih=>
   rw[aT,aX,bi];have:=kT p n c;lia
 have h:=this (rV.take k);have:(rV.take k).length<=4:=by rw[bV];show min k 4<=4;lia
 unfold tY;lia
def xK.same{H H':Hp}{a:Addr}{p:m6}(h:xK H a p)(s:a6 H H'):xK H' a p:=s _ _ h
def xK.upd{H:Hp}{a l:Addr}{p:m6}{xs ys:List V}(h:xK H a p)(hl:H l=some (.lst xs)):xK (upd H l (.lst ys)) a p:=by
 have:a≠l:=λe=>by subst e;unfold xK at h;rw[hl] at h;cases h
 unfold xK;rw[a9 this];exact h
def EZ{k c:Nat}(h:rV[k]? = some c):jH c:=by
 match k,h with
 | 0,h=>cases h;exact .inl rfl
 | 1,h=>cases h;exact .inr (.inl rfl)
 | 2,h=>cases h;exact .inr (.inr (.inl rfl))
 | 3,h=>cases h;exact .inr (.inr (.inr rfl))
 | j+4,h=>simp[rV] at h
def uh:Sp:=λvs H Q _=>∃n:Nat,vs=[.int (n:Nat)]/\n<=20/\Q (.bl true) H
def CZ{k n:Nat}(h:k<n):Em (.int (k:Nat)) n=true:=by
 show (true&&(decide ((0:Int)<=(k:Int))&&decide ((k:Int)<(n:Int))))=true;rw[Ks (by lia),Ks (by lia)];rfl
def EU(b:Bool)(ms ns:List Int):PyData.eqv (qV b ms) (qV b ns)=decide (ms=ns):=by
 show (PyData.eqv (.str (sd b)) (.str (sd b))&&(PyData.eqvAll (ms.map PyData.int) (ns.map PyData.int)&&true))=_;rw[mD,Bool.and_true];have e:PyData.eqv (.str (sd b)) (.str (sd b))=true:=by cases b<;>decide +kernel
 rw[e,Bool.true_and]
def vy{b:Bool}{n:Nat}(hn:n<=20):(cC n (bL b) (bR b)).Nodup:=by
 refine d6.mpr λi j hi hj lt e=>?_;have h1:=(lj hn (aI hi)).2.2;have h2:=(lj hn (aI hj)).2.2;rw[e,<-h2] at h1;lia
def Bp{b:Bool}{cs ds:List Nat}(C:xN b cs)(D:xN b ds)(e:iL b cs=iL b ds):cs=ds:=by rw[<-C.code,e,D.code]
def zy{b:Bool}{n:Nat}{cs:List Nat}(hn:n<=20)(C:xN b cs)(hm:cs∈cC n (bL b) (bR b)):((cC n (bL b) (bR b)).map λds=>qV b (iL b ds)).countP (λe=>PyData.eqv e (qV b (iL b cs)))=1:=by
 rw[List.countP_map,List.countP_congr (q:=λds=>ds==cs)]
 ·have:=(vy (b:=b) hn).count (a:=cs);rw[Ko hm] at this;exact this
 ·intro ds hd;obtain⟨k,hk⟩:=gc hd;have D:=(lj hn hk).1;show PyData.eqv (qV b (iL b ds)) (qV b (iL b cs))=true<->_;rw[EU];simp only[Kq,beq_iff_eq];exact⟨Bp D C,λe=>by rw[e]⟩
def mj{H:Hp}{b:Bool}{as:List Addr}{ss:List (List Nat)}(h:vg H b as ss):iw H (as.map V.ref) (ss.map λds=>qV b (iL b ds)):=by
 induction h with
 | nil=>exact .nil
 | cons r t ih=>
  obtain⟨o,z⟩:=r;exact .cons z.dat ih
def qH(b:Bool):∀ss:List (List Nat),PyData.canLayAll0 (ss.map λds=>qV b (iL b ds))=true
 | []=>rfl
 | s::ss=>by
  show ((qV b (iL b s)).canLay0&&PyData.canLayAll0 (ss.map λds=>qV b (iL b ds)))=true;rw[qH b ss,(t0 (b:=b) (ns:=iL b s)).lay];rfl
def zx{H:Hp}{b:Bool}{as:List Addr}{ss:List (List Nat)}{k:Nat}{cs:List Nat}(h:vg H b as ss)(e:ss[k]? = some cs):∃m o,as[k]? = some m/\gk H m o b (iL b cs):=by
 induction h generalizing k with
 | nil=>simp at e
 | cons r t ih=>
  cases k with
  | zero=>cases e;obtain⟨o,z⟩:=r;exact⟨_,o,rfl,z⟩
  | succ k=>exact ih e
def By{H:Hp}{b:Bool}{as:List Addr}{ss:List (List Nat)}(h:vg H b as ss):as.length=ss.length:=by
 induction h with
 | nil=>rfl
 | cons r t ih=>simp[ih]
def E4{a b:Nat}(h:a<b)(x y:List Nat):a::x<b::y:=kG.mpr (.inl h)
def sB{S:List Int->List Int->List (List Nat)}{c:Nat}{o:Option (List Int×List Int)}{x:List Nat}(h:x∈fG S c o):∃y,x=c::y:=by
 rcases o with _ | ⟨a,b⟩
 ·cases h
 ·obtain⟨y,_,rfl⟩:=bI.mp h;exact⟨y,rfl⟩
def lL:∀(n:Nat) (L R:List Int),(cC n L R).Pairwise (·<·)
 | 0,L,R=>by
  unfold cC
  split
  ·exact List.pairwise_singleton _ _
  ·exact .nil
 | n+1,L,R=>by
  have one:∀c o,(fG (cC n) c o).Pairwise (·<·):=λc o=>by
   rcases o with _ | ⟨a,b⟩
   ·exact .nil
   ·exact ft.mpr ((lL n a b).imp λh=>kG.mpr (.inr ⟨rfl,h⟩))
  have two:∀{c d o p},c<d->∀x∈fG (cC n) c o,∀y∈fG (cC n) d p,x<y:=λh x hx y hy=>by
   obtain⟨u,rfl⟩:=sB hx;obtain⟨v,rfl⟩:=sB hy;exact E4 h u v
  unfold cC;refine dB.mpr ⟨dB.mpr ⟨dB.mpr ⟨one _ _,one _ _,two (by decide)⟩,one _ _,λx hx y hy=>?_⟩,one _ _,λx hx y hy=>?_⟩
  ·rcases aL.mp hx with h | h
   ·exact two (by decide) x h y hy
   ·exact two (by decide) x h y hy
  ·rcases aL.mp hx with h | h
   ·rcases aL.mp h with h | h
    ·exact two (by decide) x h y hy
    ·exact two (by decide) x h y hy
   ·exact two (by decide) x h y hy
def o6:∀{l:List (List Nat)} {k:Nat} {x:List Nat},l.Pairwise (·<·)->l[k]? = some x->(l.filter λy=>decide (y<x)).length=k
 | [],k,x,_,e=>by simp at e
 | y::t,0,x,h,e=>by
  cases e;rw[jR (by simpa using List.lt_irrefl _),ji.mpr λz hz=>by simpa using List.lt_asymm (i5 h hz)];rfl
 | y::t,k+1,x,h,e=>by
  have e:t[k]? = some x:=e;rw[jQ (by simpa using i5 h (bP e)),bi,o6 h.of_cons e]
def yo{n k:Nat}{L R:List Int}{a b:List Nat}(h1:(cC n L R)[k]? = some a)(h2:(cC n L R)[k+1]? = some b):a<b:=by
 obtain⟨i1,rfl⟩:=aJ.mp h1;obtain⟨i2,rfl⟩:=aJ.mp h2;exact d6.mp (lL n L R) _ _ i1 i2 (by lia)
def qp:Sp:=λvs H Q _=>∃n:Nat,vs=[.int (n:Nat)]/\n<=12/\∀H',a6 H H'->Q (.int ((dZ n [0] []:Nat):Int)) H'
def uo:Sp:=λvs H Q _=>∃m o b ns,vs=[.ref m,.str (sd b),.int ((ns.length:Nat):Int)]/\gk H m o b ns/\mH ns/\NC b ns/\∀H',a6 H H'->Q (.bl true) H'
def Ac(n:Nat)(b:Bool):dZ n (bL b) (bR b)=dZ n [0] []:=by
 cases b
 ·rfl
 ·exact cmp_swap n [0] []
def Bx(b:Bool)(ss:List (List Nat)):(PyData.list (ss.map λds=>qV b (iL b ds))).canLay0=true:=qH b ss
def w6(b:Bool)(ss:List (List Nat)):(PyData.list (ss.map λds=>qV b (iL b ds))).depth<=60:=by
 have:∀ss:List (List Nat),PyData.depthAll (ss.map λds=>qV b (iL b ds))<=50:=by
  intro ss
  induction ss with
  | nil=>exact bE _
  | cons s ss ih=>
   show max ((qV b (iL b s)).depth) (PyData.depthAll (ss.map λds=>qV b (iL b ds)))<=50;exact Nat.max_le.mpr ⟨(Bz (k:=50) (by decide)).deep,ih⟩
 show PyData.depthAll _+1<=60;have:=this ss;lia
def vg.upd{H:Hp}{b:Bool}{as:List Addr}{ss:List (List Nat)}{l:Addr}{xs ys:List V}(h:vg H b as ss)(hl:H l=some (.lst xs)):vg (upd H l (.lst ys)) b as ss:=Paired.mapP h λa cs ⟨o,z⟩=>⟨o,by
 have h1:a≠l:=λe=>by have:=z.1;rw[e,hl] at this;cases this
 have h2:o≠l:=λe=>by have:=z.2;rw[e,hl] at this;cases this
 exact⟨by rw[a9 h1];exact z.1,by rw[a9 h2];exact z.2⟩⟩
end Rm
namespace L2
open PySem PySem.Spec PyProof.Rows
abbrev TH:=Ends->St->Addr->Option Addr->Hp->Prop
end L2
namespace Rm
open PySem L2 PyProof.Rows
def Pr(bs:List Bool)(x y:Nat):Prop:=G6 bs x y\/G6 bs y x
open Classical in
noncomputable def mtF (bs:List Bool) (x:Nat):Nat:=if h:∃y,Pr bs x y then h.choose else x
def gv(g:List Int)(x:Nat):Int:=g.getD x 0
def FC(L R:Nat->Nat)(e:Nat):Nat->Nat
 | 0=>e
 | i+1=>R (L (FC L R e i))
def Hf(L R:Nat->Nat)(e:Nat):Nat->List Nat
 | 0=>[]
 | i+1=>Hf L R e i++[FC L R e i]++[L (FC L R e i)]
def Inj(L R:Nat->Nat)(e i:Nat):Prop:=∀j k,j<i->k<i->FC L R e j=FC L R e k->j=k
structure Hz (L R:Nat->Nat) (e i:Nat):Prop where
 pos:0<i
 inj:Inj L R e i
 back:FC L R e i=e
open Classical in
noncomputable def perF (L R:Nat->Nat) (e:Nat):Nat:=if h:∃i,Hz L R e i then h.choose else 0
noncomputable def rdF (L R:Nat->Nat) (e:Nat):List Nat:=Hf L R e (perF L R e)
open Classical in
noncomputable def rsF (L R:Nat->Nat):Nat->List (List Nat)
 | 0=>[]
 | i+1=>if ∃r∈rsF L R i,i∈r then rsF L R i else rsF L R i++[rdF L R i]
def rk(G:Nat->Bool):Nat->Nat
 | 0=>0
 | k+1=>if G k then rk G k else rk G k+1
def dK(G:Nat->Bool)(bs:List Bool):Nat->Int
 | 0=>0
 | k+1=>if G k then dK G bs k else dK G bs k+((bs[k]?).toList.map dl).sum
end Rm
namespace L2
open PySem PySem.Spec PyProof.Rows
def yz:V->List V->Hp->VK->Prop:=λx vs H Q=>∃(l:Addr) (ks:List Int) (z:Int) (j:Nat),x=.ref l/\vs=[.int z]/\H l=some (.lst (ks.map V.int))/\ks.length<=1000/\ks[j]? = some z/\(∀m,m<j->ks[m]?≠some z)/\Q (.int j) H
def AD {X:Cx}:Eu X "list.index" yz:=by
 intro pins s σ H x vs v us Q I rx rv h;obtain⟨l,ks,z,j,rfl,rfl,hH,hsz,hj,hno,q⟩:=h;cases rx;obtain⟨u,rfl,ru⟩:=rv.one;obtain⟨t,rfl⟩:=ru;obtain⟨c,its,n,r,hl,e⟩:=I.lstM hH;have at_:∀(m:Nat) (k:Int),ks[m]? = some k->∃t,its[m]? = some (Value.int k t):=λm k hk=>by
  obtain⟨w,hw,t,ht⟩:=r.get (show (ks.map V.int)[m]? = some (V.int k) by rw[ar,hk];rfl);exact⟨t,by rw[hw,ht]⟩
 have ln:its.length=ks.length:=by have:=r.length;rw[aB] at this;exact this.symm
 have jl:j<ks.length:=(aJ.mp hj).1
 let f:Value->Bool:=λy=>match y with | .int v _=>v==z | _=>false
 refine Ke F.slot_list_index ⟨_,e,rfl⟩ F.entry_list_index (F.args_list_index_2 _ _)
  (MeetsSeq.list_index l its.toArray n (.int z t) f (λy hy=>?_) j (by rw[aP];lia) (by lia) ?_ ?_) ⟨e,⟨.int j,H,I.tok _,⟨_,rfl⟩,q⟩⟩
 ·obtain⟨m,hm,rfl⟩:=List.getElem_of_mem (List.mem_toArray.mp hy);obtain⟨t',ht⟩:=at_ m ks[m] (aI (by lia));rw[aI hm] at ht;rw[aa ht];exact MeetsSeq.EqGives.int _ _ _ _
 ·obtain⟨t',ht⟩:=at_ j z hj;have h2:its.toArray[j]'(by rw[aP];lia)=Value.int z t':=by
   rw[List.getElem_toArray];rw[aI (by lia)] at ht;exact aa ht
  rw[h2];exact beq_self_eq_true z
 ·intro m hm hmj;obtain⟨t',ht⟩:=at_ m ks[m] (aI (by lia));have h2:its.toArray[m]=Value.int (ks[m]'(by lia)) t':=by
   rw[List.getElem_toArray];rw[aI (by lia)] at ht;exact aa ht
  rw[h2];have:=hno m hmj;rw[aI (by lia)] at this;exact beq_false_of_ne λz=>this (by rw[z])
def BA{l:Addr}{z:Int}{H:Hp}{Q:VK}:yz (.ref l) [.int z] H Q=∃(ks:List Int) (j:Nat),H l=some (.lst (ks.map V.int))/\ks.length<=1000/\ks[j]? = some z/\(∀m,m<j->ks[m]?≠some z)/\Q (.int j) H:=
 propext ⟨λ⟨_,ks,_,j,e,e',h⟩=>by cases e;cases e';exact⟨ks,j,h⟩,λ⟨ks,j,h⟩=>⟨l,ks,z,j,rfl,rfl,h⟩⟩
end L2
namespace Rm
open PySem L2 PyProof.Rows
def top(i:Nat):Stmt:=PySem.Challenge.pw_ringmaze_k35_lists_of_mazes.main.body.getD i (.Pass ⟨0,0,0,0⟩)
abbrev gE:Stmt:=top 8
def qv:bn ["thing"] ["thing"] (ay gE):=⟨rfl,rfl,rfl,by decide +kernel,rfl,by decide +kernel,by decide +kernel⟩
abbrev gF:Stmt:=top 9
def qw:bn ["thing","bound"] ["thing","bound"] (ay gF):=⟨rfl,rfl,rfl,by decide +kernel,rfl,by decide +kernel,by decide +kernel⟩
abbrev hZ:Stmt:=top 10
def su:bn ["thing"] ["thing"] (ay hZ):=⟨rfl,rfl,rfl,by decide +kernel,rfl,by decide +kernel,by decide +kernel⟩
abbrev eh:Stmt:=top 12
def oE:bn ["side"] ["side"] (ay eh):=⟨rfl,rfl,rfl,by decide +kernel,rfl,by decide +kernel,by decide +kernel⟩
abbrev i9:Stmt:=top 15
def yq:bn ["side"] ["side"] (ay i9):=⟨rfl,rfl,rfl,by decide +kernel,rfl,by decide +kernel,by decide +kernel⟩
abbrev du:Stmt:=top 16
def oF:bn ["state"] ["state"] (ay du):=⟨rfl,rfl,rfl,by decide +kernel,rfl,by decide +kernel,by decide +kernel⟩
abbrev f6:Stmt:=top 17
def dt:bn ["signs","place","stride","depth","here"] ["signs","place"] (ay f6):=⟨rfl,rfl,rfl,by decide +kernel,rfl,by decide +kernel,by decide +kernel⟩
abbrev iz:Stmt:=top 18
def fY:bn ["left","right","signs","inner_right","inner_left","far","marks","place","mark"] ["left","right"] (ay iz):=⟨rfl,rfl,rfl,by decide +kernel,rfl,by decide +kernel,by decide +kernel⟩
abbrev kN:Stmt:=top 19
def me:bn ["state","letter","halves","left","right"] ["state","letter"] (ay kN):=⟨rfl,rfl,rfl,by decide +kernel,rfl,by decide +kernel,by decide +kernel⟩
abbrev gD:Stmt:=top 23
def gX:bn ["side","code","state","at","sign"] ["side","code"] (ay gD):=⟨rfl,rfl,rfl,by decide +kernel,rfl,by decide +kernel,by decide +kernel⟩
abbrev eB:Stmt:=top 24
def dA:bn ["code","inwards","begins_here","told","waiting","place","letter","row","outer"] ["code","inwards","begins_here"] (ay eB):=⟨rfl,rfl,rfl,by decide +kernel,rfl,by decide +kernel,by decide +kernel⟩
abbrev gG:Stmt:=top 25
def fS:bn ["side","code","across","order","bow_side","row"] ["side","code"] (ay gG):=⟨rfl,rfl,rfl,by decide +kernel,rfl,by decide +kernel,by decide +kernel⟩
abbrev gI:Stmt:=top 27
def tD:bn ["state","rows"] ["state","rows"] (ay gI):=⟨rfl,rfl,rfl,by decide +kernel,rfl,by decide +kernel,by decide +kernel⟩
abbrev eC:Stmt:=top 28
def kM:bn ["state","reached"] ["state"] (ay eC):=⟨rfl,rfl,rfl,by decide +kernel,rfl,by decide +kernel,by decide +kernel⟩
abbrev dI:Stmt:=top 29
def j0:bn ["state","rows","known","key"] ["state","rows","known"] (ay dI):=⟨rfl,rfl,rfl,by decide +kernel,rfl,by decide +kernel,by decide +kernel⟩
abbrev eE:Stmt:=top 30
def nF:bn ["state","rows"] ["state","rows"] (ay eE):=⟨rfl,rfl,rfl,by decide +kernel,rfl,by decide +kernel,by decide +kernel⟩
abbrev fZ:Stmt:=top 31
def pf:bn ["n"] ["n"] (ay fZ):=⟨rfl,rfl,rfl,by decide +kernel,rfl,by decide +kernel,by decide +kernel⟩
abbrev kd:Stmt:=top 32
def yp:bn ["n"] ["n"] (ay kd):=⟨rfl,rfl,rfl,by decide +kernel,rfl,by decide +kernel,by decide +kernel⟩
abbrev gH:Stmt:=top 33
def db:bn ["side","n","begins","rows","longer","code","state","letter","ahead"] ["side","n"] (ay gH):=⟨rfl,rfl,rfl,by decide +kernel,rfl,by decide +kernel,by decide +kernel⟩
abbrev iy:Stmt:=top 34
def wA:bn ["side","n"] ["side","n"] (ay iy):=⟨rfl,rfl,rfl,by decide +kernel,rfl,by decide +kernel,by decide +kernel⟩
abbrev iE:Stmt:=top 36
def sv:bn ["_law_script","_law_k"] ["_law_script","_law_k"] (ay iE):=⟨rfl,rfl,rfl,by decide +kernel,rfl,by decide +kernel,by decide +kernel⟩
abbrev kc:Stmt:=top 37
def qu:bn ["_law_cell","_law_rest"] ["_law_cell"] (ay kc):=⟨rfl,rfl,rfl,by decide +kernel,rfl,by decide +kernel,by decide +kernel⟩
abbrev gz:Stmt:=top 38
def lM:bn ["_law_cell","_law_top"] ["_law_cell"] (ay gz):=⟨rfl,rfl,rfl,by decide +kernel,rfl,by decide +kernel,by decide +kernel⟩
abbrev iB:Stmt:=top 39
def fT:bn ["_law_side","_law_order","_law_road","_law_turn","_law_bows","_law_k","_law_one","_law_other"] ["_law_side","_law_order"] (ay iB):=⟨rfl,rfl,rfl,by decide +kernel,rfl,by decide +kernel,by decide +kernel⟩
abbrev wB:Stmt:=top 40
def o7:bn ["_law_ends","_law_letter","_law_left","_law_right","_law_new","_law_low","_law_high"] ["_law_ends","_law_letter"] (ay wB):=⟨rfl,rfl,rfl,by decide +kernel,rfl,by decide +kernel,by decide +kernel⟩
abbrev gJ:Stmt:=top 41
def qx:bn ["_law_side"] ["_law_side"] (ay gJ):=⟨rfl,rfl,rfl,by decide +kernel,rfl,by decide +kernel,by decide +kernel⟩
abbrev iD:Stmt:=top 42
def gC:bn ["_law_ends","_law_row","_law_here","_law_best","_law_k"] ["_law_ends"] (ay iD):=⟨rfl,rfl,rfl,by decide +kernel,rfl,by decide +kernel,by decide +kernel⟩
abbrev iC:Stmt:=top 43
def eV:bn ["_law_rest","_law_side","_law_many","_law_ends","_law_code","_law_letter"] ["_law_rest","_law_side","_law_many"] (ay iC):=⟨rfl,rfl,rfl,by decide +kernel,rfl,by decide +kernel,by decide +kernel⟩
abbrev eu:Stmt:=top 44
def cv:bn ["_law_side","_law_order","_law_road","_law_code","_law_ring","_law_at","_law_ahead","_law_behind"] ["_law_side","_law_order"] (ay eu):=⟨rfl,rfl,rfl,by decide +kernel,rfl,by decide +kernel,by decide +kernel⟩
abbrev iA:Stmt:=top 45
def nE:bn ["_law_found","_law_side","_law_n","_law_ring"] ["_law_found","_law_side","_law_n"] (ay iA):=⟨rfl,rfl,rfl,by decide +kernel,rfl,by decide +kernel,by decide +kernel⟩
abbrev lm:Stmt:=top 46
def gg:bn ["_law_script","_law_head","_law_side","_law_n","_law_found","_law_codes","_law_maze","_law_k","_law_kept","_law_code"] ["_law_script"] (ay lm):=⟨rfl,rfl,rfl,by decide +kernel,rfl,by decide +kernel,by decide +kernel⟩
structure oU (mg:Str->Option Value):Prop where
 len:mg "len"=none
 range:mg "range"=none
 int:mg "int"=none
 list:mg "list"=none
 tuple:mg "tuple"=none
 isinstance:mg "isinstance"=none
 str:mg "str"=none
 bool:mg "bool"=none
 sorted:mg "sorted"=none
 all:mg "all"=none
 zip:mg "zip"=none
 max:mg "max"=none
 min:mg "min"=none
 reversed:mg "reversed"=none
 enumerate:mg "enumerate"=none
 abs:mg "abs"=none
 sum:mg "sum"=none
 ValueError:mg "ValueError"=none
 MOST_RINGS:∃ t,mg "MOST_RINGS"=some (.int 20 t)
 LETTERS:∃ t,mg "LETTERS"=some (.str (Str.ofString "abcd") t)
 LEFT_INWARDS:∃ t,mg "LEFT_INWARDS"=some (.str (Str.ofString "ab") t)
 RIGHT_INWARDS:∃ t,mg "RIGHT_INWARDS"=some (.str (Str.ofString "ac") t)
local macro_rules | `(tactic| nofun) => `(tactic| (try dsimp (maxSteps := 3000000) only [L2.xS, L2.Hb, L2.FR, L2.FK, L2.Cm, L2.Hc, L2.xT, L2.FL, L2.w_and, L2.w_or, L2.w_not, L2.xt, L2.Ce, L2.x9, L2.FY, L2.Cc, L2.w_next, L2.Cj, L2.xq, L2.xn, L2.Cd, L2.xY, L2.Ci, L2.Co, L2.uS, L2.xX, L2.xV, L2.Cf, L2.xr, L2.F6, L2.Cb, L2.Cg, L2.w_call, L2.F7, L2.Ck, L2.u5, L2.qZ, L2.xm, L2.xl, L2.xj, L2.xh, L2.xf, L2.xi, L2.xk, L2.uY, L2.uX, L2.u4, L2.uZ, L2.uW, L2.uU, L2.uT, L2.xb, L2.uR, L2.uP, L2.uQ, L2.xc, L2.w_getS, L2.xg, L2.FN, L2.xZ, L2.qW, L2.xp, L2.xo, L2.qX, L2.uV]); (try simp (maxSteps := 3000000) only [L2.DG, L2.xS, L2.Hb, L2.FR, L2.FK, L2.BG, L2.Hs, L2.Hr, L2.F4, L2.FT, L2.F3, L2.FS, L2.F5, L2.FU, L2.F2, L2.F1, L2.DM, L2.DT, L2.Cm, L2.Gz, Ku, Kv, cn, L2.Hc, L2.F0, L2.DL, L2.DR, L2.DP, L2.DQ, L2.DN, L2.DO, L2.DH, L2.FW, L2.FX, L2.FV, L2.F8, L2.FQ, L2.xT, L2.FL, L2.w_and, L2.w_or, L2.w_not, L2.xt, L2.Ce, L2.x9, L2.FY, L2.Cc, L2.w_next, L2.Cj, L2.xq, L2.xn, L2.Cd, L2.xY, L2.Ci, L2.Co, L2.uS, L2.xX, L2.xV, L2.Cf, L2.xr, L2.F6, L2.Cb, L2.Cg, L2.w_call, L2.F7, L2.Ck, L2.u5, L2.qZ, L2.xm, L2.xl, L2.xj, L2.xh, L2.xf, L2.DI, L2.BC, b9, Kq, Bool.not_eq_true', decide_eq_false_iff_not, L2.xi, L2.xk, L2.uY, L2.uX, L2.u4, L2.uZ, L2.uW, L2.BF, L2.uU, L2.uT, L2.BD, L2.DK, L2.DJ, L2.xb, L2.FZ, L2.uR, L2.uP, L2.uQ, L2.xc, L2.w_getS, L2.BB, L2.xg, L2.FN, L2.xZ, L2.qW, L2.FM, L2.xp, L2.xo, L2.qX, L2.uV, L2.BE, L2.DS, L2.FP, L2.FO, L2.w_rev, L2.BA, L2.xU, L2.qY]))
section
variable {P:Program} {w:World} {K:Kw} {mg:Str->Option Value} {base:Heap}
def rK (B:oU mg) (E:Fn K mg "is_whole" gE ["thing"]):eQ P w K mg base 1 "is_whole" gE ["thing"] (pW K):=E.mk' λf fd F=>by
 refine F.okS qv (λvs H Q E h=>?_) (λcdv A outer s H vs Q E hr h=>?_)
 ·obtain⟨x,t,b,c,rfl,_⟩:=h;rfl
 ·obtain⟨x,t,b,c,rfl,ty,e1,e2,q⟩:=h;refine⟨[some x],_,rfl,(L2.jK.h (aM (bB (pz (ah g9 (by rfl) B.isinstance bX (aD (aY 0) (aD (gZ (v:=.ty "int") (by rfl) B.int cU rfl) aC))) (mf (vI (ah g9 (by rfl) B.isinstance bX (aD (aY 0) (aD (gZ (v:=.ty "bool") (by rfl) B.bool jf rfl) aC))))))))),?_⟩;nofun;refine⟨_,_,_,b,rfl,ty,e1,?_⟩;nofun;cases b with
  | false=>exact GP q
  | true=>exact GO ⟨_,_,_,c,rfl,ty,e2,_,rfl,q⟩
def rL (E:Fn K mg "is_below" gF ["thing","bound"]) (Ic:eQ P w K mg base 1 "is_whole" gE ["thing"] (pW K)):eQ P w K mg base 2 "is_below" gF ["thing","bound"] uw:=E.mk' λf fd F=>by
 refine F.okS qw (λvs H Q E h=>?_) (λcdv A outer s H vs Q E hr h=>?_)
 ·obtain⟨v,d,n,rfl,_⟩:=h;rfl
 ·obtain⟨v,d,n,rfl,hd,q⟩:=h;refine⟨[some v,some (.int n)],_,rfl,(L2.jK.h (aM (bB (pz (a8 Ic (hr.mono (by decide)) (by rfl) (aD (aY 0) aC)) (mf (wJ vL kS aF (aY 0) (aY 1))))))),?_⟩;nofun;refine xR hd ?_;unfold Em at q;nofun;cases hw:pP d with
  | false=>
   rw[hw] at q;exact GP q
  | true=>
   rw[hw] at q;have ed:=sR hw;generalize intOf d=z at ed q;subst ed;cases hd;refine GO ?_;nofun;by_cases h0:0<=z
   ·rw[Ko h0];rw[Ks h0] at q;exact q
   ·rw[Kn h0];rw[Kr h0] at q;exact q
def tQ (JV:∃a,mg "SIDES"=some (.ref a)/\∀H,dr K H a (([("l":Str),"r"]:List Str).map V.str)) (E:Fn K mg "is_side" hZ ["thing"]):eQ P w K mg base 1 "is_side" hZ ["thing"] qo:=E.mk' λf fd F=>by
 refine F.okS su (λvs H Q E h=>?_) (λcdv A outer s H vs Q E hr h=>?_)
 ·obtain⟨x,d,rfl,_⟩:=h;rfl
 ·obtain⟨x,d,rfl,hd,pl,q⟩:=h;refine⟨[some x],_,rfl,(L2.jK.h (aM (bB (dQ (ze (oy hr)) (aY 0) (wG (by rfl) JV) (by with_unfolding_all rfl))))),?_⟩;nofun;intro a ha;refine⟨d,[.str (Str.ofString "l"),.str (Str.ofString "r")],a,_,hd.rep,rfl,.inr (ha H),.cons (.str _) (.cons (.str _) .nil),pl.lay,by decide +kernel,pl.deep,?_⟩;rw[yj];exact q
def oI (E:Fn K mg "other_side" eh ["side"]):eQ P w K mg base 1 "other_side" eh ["side"] uk:=E.mk' λf fd F=>by
 refine F.okS oE (λvs H Q E h=>?_) (λcdv A outer s H vs Q E hr h=>?_)
 ·obtain⟨b,rfl,_⟩:=h;rfl
 ·obtain⟨b,rfl,q⟩:=h;refine⟨[some (.str (sd b))],_,rfl,(L2.jK.h (aM (bB (eG (ac dX (aY 0) bQ (bG _)) bQ bQ)))),?_⟩;nofun;simp only[Fh];refine g0 (λh=>?_) (λh=>?_)
  ·subst h;exact q
  ·have e:b=true:=by cases b;exact absurd rfl h;rfl
   subst e;exact q
def zj (E:Fn K mg "begun" i9 ["side"]):eQ P w K mg base 1 "begun" i9 ["side"] ma:=E.mk' λf fd F=>by
 refine F.okS yq (λvs H Q E h=>?_) (λcdv A outer s H vs Q E hr h=>?_)
 ·obtain⟨c,rfl,_⟩:=h;rfl
 ·obtain⟨c,rfl,q⟩:=h;refine⟨[some (.str ⟨#[c]⟩)],_,rfl,(L2.jK.h (aM (bB (eG (ac dX (aY 0) bQ (bG _)) bQ bQ)))),?_⟩;nofun;rw[HL,HJ,HN];simp only[fk];unfold iG at q;refine g0 (λh=>?_) (λh=>?_)
  ·rw[Ko h] at q;dsimp only at q;rw[Fd] at q;exact q
  ·rw[Kn h] at q;dsimp only at q;rw[Fc] at q;exact q
def oK (B:oU mg) (E:Fn K mg "leading_on" du ["state"]):eQ P w K mg base 1 "leading_on" du ["state"] sg:=E.mk' λf fd F=>by
 refine F.okS oF (λvs H Q E h=>?_) (λcdv A outer s H vs Q E hr h=>?_)
 ·obtain⟨L,R,rfl,_⟩:=h;rfl
 ·obtain⟨L,R,rfl,hl,q⟩:=h;refine⟨[some (.str (tx (fH L R)))],_,rfl,(L2.jK.h (aM (bB (aW gh (ah ce (by rfl) B.len ae (aD (aY 0) aC)) aF)))),?_⟩;nofun;rw[b6,uf];refine⟨jw (by lia),?_⟩;have e:((L.length+R.length+1:Nat):Int) - 1=((L.length+R.length:Nat):Int):=by lia
  rw[e];exact q
def qE (E:Fn K mg "other_end" f6 ["signs","place"]):eQ P w K mg base 1 "other_end" f6 ["signs","place"] qh:=E.mk' λf fd F=>by
 refine F.okS dt (λvs H Q E h=>?_) (λcdv A outer s H vs Q E hr h=>?_)
 ·obtain⟨a,cs,p,q,rfl,_⟩:=h;rfl
 ·obtain⟨a,cs,p,q,rfl,ha,hl,far,hq⟩:=h;have rd:∀(i c:Nat),cs[i]? = some c->pL (cs.map oC) (i:Int)=some (V.str ⟨#[c]⟩):=λi c h=>ez (by rw[ar,h];rfl);refine⟨[some (.ref a),some (.int (p:Nat)),none,none,none],_,rfl,(L2.jK.h (aG (cF (ac dX (bW cI (aY 0) (aY 1) (λ_ _=>rfl)) bQ (bG _))
   (aM (bB (aY 1)))
   bU)
   (aG (ai (i:=2) dt.nd rfl (Or.inl rfl) (eG (ac dX (bW cI (aY 0) (aY 1) (λ_ _=>rfl)) bQ (bG _)) aF (eX eU aF)))
   (aG (ai (i:=3) dt.nd rfl (Or.inl rfl) (aY 2))
   (aG (ai (i:=4) dt.nd rfl (Or.inl rfl) (aY 1))
   (aG (kg bH (ac mY (aY 3) aF (bG _))
   (aG (pw (i:=4) dt.nd rfl (Or.inl rfl) (aY 2) AR)
    (aM (cF (ac dX (bW cI (aY 0) (aY 4) (λ_ _=>rfl)) bQ (bG _))
    (aM (pw (i:=3) dt.nd rfl (Or.inl rfl) aF AR))
    (aM (cF (ac dX (bW cI (aY 0) (aY 4) (λ_ _=>rfl)) bQ (bG _))
     (aM (pw (i:=3) dt.nd rfl (Or.inl rfl) aF Ea))
     bU))))))
   (aM (bB (aY 4))))))))),?_⟩
  rcases far.walk with ⟨h0,rfl⟩ | ⟨st,n,d,hs,d0,dn,dz,eq,oA⟩
  ·nofun;refine⟨_,_,cL.of ha,rd _ _ h0,?_⟩;nofun;rw[oG,ph];simp only[fk,Ku];exact hq
  ·rcases hs with ⟨rfl,h0⟩ | ⟨rfl,h0⟩
   ·nofun;refine⟨_,_,cL.of ha,rd _ _ h0,?_⟩;nofun;simp only[oG,ph,qy,fk];refine fx (by decide) ⟨_,_,cL.of ha,rd _ _ h0,?_⟩;nofun;simp only[oG,ph,qy,fk];refine kj (by decide) ?_;refine⟨λm σ H3=>∃j:Nat,j<=n/\m=n-j/\σ=[some (.ref a),some (.int (p:Nat)),some (.int 1),some (.int (d j)),some (.int ((p:Int)+1*j))]/\H3=H,⟨_,0,bE _,rfl,by simp[d0],rfl⟩,?_⟩;rintro m σ H3 ⟨j,hj,rfl,rfl,rfl⟩;nofun;refine g0 (λh=>?_) (λh=>?_)
    ·have hjn:j<n:=by
      rcases fA j n with z | z
      ·exact z
      ·have:j=n:=by lia
       subst this;exact absurd dz h
     obtain⟨i,c,ei,hc,ed⟩:=oA j hjn;rw[ei];refine⟨_,λ_ _ z=>z,_,_,cL.of ha,rd _ _ hc,?_⟩;nofun;simp only[oG,ph,qy,fk];have fin:d (j+1)=d j+vl c:=ed;unfold vl at fin;have ej:(p:Int)+1*((j+1:Nat):Int)=i:=by rw[<-ei];lia
     refine g0 (λhc1=>?_) (λhc1=>⟨_,_,cL.of ha,rd _ _ hc,?_⟩)
     ·rw[Ko hc1] at fin;exact⟨n-(j+1),by lia,j+1,hjn,rfl,by rw[fin,ej],trivial⟩
     ·nofun;simp only[oG,ph,qy,fk];rw[Kn hc1] at fin;refine g0 (λhc2=>?_) (λhc2=>?_)
      ·rw[Ko hc2] at fin;exact⟨n-(j+1),by lia,j+1,hjn,rfl,by rw[fin,ej];rfl,trivial⟩
      ·rw[Kn hc2] at fin;exact⟨n-(j+1),by lia,j+1,hjn,rfl,by rw[fin,ej,Int.add_zero],trivial⟩
    ·have hjn:j=n:=by
      rcases fA j n with z | z
      ·exact absurd (Classical.not_not.mp h) (dn j z)
      ·lia
     subst hjn;rw[eq];exact hq
   ·nofun;refine⟨_,_,cL.of ha,rd _ _ h0,?_⟩;nofun;simp only[oG,ph,qy,fk];refine fx (by decide) ⟨_,_,cL.of ha,rd _ _ h0,?_⟩;nofun;simp only[oG,ph,qy,fk];refine fx (by decide) ?_;refine⟨λm σ H3=>∃j:Nat,j<=n/\m=n-j/\σ=[some (.ref a),some (.int (p:Nat)),some (.int (-1)),some (.int (d j)),some (.int ((p:Int)+(-1)*j))]/\H3=H,⟨_,0,bE _,rfl,by simp[d0],rfl⟩,?_⟩;rintro m σ H3 ⟨j,hj,rfl,rfl,rfl⟩;nofun;refine g0 (λh=>?_) (λh=>?_)
    ·have hjn:j<n:=by
      rcases fA j n with z | z
      ·exact z
      ·have:j=n:=by lia
       subst this;exact absurd dz h
     obtain⟨i,c,ei,hc,ed⟩:=oA j hjn;rw[ei];refine⟨_,λ_ _ z=>z,_,_,cL.of ha,rd _ _ hc,?_⟩;nofun;simp only[oG,ph,qy,fk];have fin:d (j+1)=d j+vl c:=ed;unfold vl at fin;have ej:(p:Int)+(-1)*((j+1:Nat):Int)=i:=by rw[<-ei];lia
     refine g0 (λhc1=>?_) (λhc1=>⟨_,_,cL.of ha,rd _ _ hc,?_⟩)
     ·rw[Ko hc1] at fin;exact⟨n-(j+1),by lia,j+1,hjn,rfl,by rw[fin,ej],trivial⟩
     ·nofun;simp only[oG,ph,qy,fk];rw[Kn hc1] at fin;refine g0 (λhc2=>?_) (λhc2=>?_)
      ·rw[Ko hc2] at fin;exact⟨n-(j+1),by lia,j+1,hjn,rfl,by rw[fin,ej];rfl,trivial⟩
      ·rw[Kn hc2] at fin;exact⟨n-(j+1),by lia,j+1,hjn,rfl,by rw[fin,ej,Int.add_zero],trivial⟩
    ·have hjn:j=n:=by
      rcases fA j n with z | z
      ·exact absurd (Classical.not_not.mp h) (dn j z)
      ·lia
     subst hjn;rw[eq];exact hq
def wX (B:oU mg) (E:Fn K mg "joined" iz ["left","right"]) (IF:eQ P w K mg base 1 "other_end" f6 ["signs","place"] qh):eQ P w K mg base 2 "joined" iz ["left","right"] um:=E.mk' λf fd F=>by
 refine F.okS fY (λvs H Q E h=>?_) (λcdv A outer s H vs Q E hr h=>?_)
 ·obtain⟨L,R,x,y,rfl,_⟩:=h;rfl
 ·obtain⟨L,R,x,y,rfl,EE,hl,q⟩:=h;have hA:=p8 (P:=L) (Q:=R) (x:=x) (y:=y);have lA:(tx (ba [] (L++[x]))).length=L.length+1:=by rw[b6,bp];simp
  have lB:(tx (ba (L++[x]) (R++[y]).reverse)).length=R.length+1:=by rw[b6,bp];simp
  refine⟨[some (.str (tx (ba [] (L++[x])))),some (.str (tx (ba (L++[x]) (R++[y]).reverse))),none,none,none,none,none,none,none],_,rfl,(L2.jK.h (aG (ai (i:=2) fY.nd rfl (Or.inl rfl) (dD (oQ rfl) (by rfl) B.list cf (cG (aW cY (aY 0) (aY 1)) aC)))
   (aG (ai (i:=3) fY.nd rfl (Or.inl rfl) (ah ce (by rfl) B.len ae (aD (aY 0) aC)))
   (aG (ai (i:=4) fY.nd rfl (Or.inl rfl) (aW gh (aY 3) aF))
   (aG (ai (i:=5) fY.nd rfl (Or.inl rfl) (cw (dR (a8 IF (hr.mono (by decide)) (by rfl) (aD (aY 2) (aD (aY 4) aC))) (dR (a8 IF (hr.mono (by decide)) (by rfl) (aD (aY 2) (aD (aY 3) aC))) aC))))
   (aG (cF (ac dX (bW cI (aY 5) aF (λ_ _=>rfl)) (aY 3) (bG _))
   (aM (bB fN))
   bU)
   (cm (ai (i:=6) fY.nd rfl (Or.inl rfl) (eG (ac (ze (oy hr)) bQ (fM (bT (bW cI (aY 2) (aY 4) (λ_ _=>rfl)) (bT (bW cI (aY 2) (aY 3) (λ_ _=>rfl)) aC))) (by with_unfolding_all rfl)) bQ bQ))
   (aG (di bH rfl (zD (by rfl) B.zip (dR (ah mU (by rfl) B.sorted iq (aD (aY 5) aC)) (aD (aY 6) aC))) (lx (n:=2) rfl (d9 (bb (i:=7) fY.nd rfl (Or.inl rfl)) (d9 (bb (i:=8) fY.nd rfl (Or.inl rfl)) jD)))
   (aM (vF (aY 8) (BX (aY 2) (aY 7) set_list))))
   (aM (bB (aW cY (aW cY (io fm kC kB vO bQ (bT (eF i8 (aY 2) fL (fK (aY 4))) aC)) bQ) (io fm kC kB vO bQ (bT (eF i8 (aY 2) (fK (aW eI (aY 3) aF)) fL) aC))))))))))))),?_⟩
  nofun;rw[dY,hA,lH,k9,lA,lB,show (λc:Nat=>V.str (⟨#[c]⟩:Str))=oC from rfl];obtain⟨s0,s1⟩:=Ff (P:=L) (Q:=R.reverse) (x:=x) (y:=y);have c0:=sn L x;have c1:=sn (L++[x]) y;have z0:=qt (pre:=L) (x:=x) (EE.nn x (by simp));have z1:=qt (pre:=L++[x]) (x:=y) (EE.nn y (by simp));have lC:(ba [] (L++x::y::R.reverse)).length=L.length+R.length+2:=by rw[bp];simp;lia
  have e1:((L.length+1:Nat):Int) - 1=(L.length:Nat):=by lia
  rw[kz] at q;refine⟨jw (by lia),by lia,λl nl=>⟨jw (by lia),?_⟩⟩;rw[e1];by_cases exy:x=y
  ·subst exy;rw[Ko rfl] at q;have f0:=nU EE;have f1:=wv EE;refine⟨l,_,L.length,L.length+1,rfl,aO,by lia,f0,l,_,L.length+1,L.length,rfl,aO,by lia,f1,(by show 2<=sizeLine;decide),λp np=>⟨_,_,cL.of aO,rfl,?_⟩⟩;nofun;exact(q _ (((a6.refl H).new nl).trans ((a6.refl _).new np)))
  ·rw[Kn exy] at q;obtain⟨q0,q1,f0,f1,n1,n2,b0,b1,m0,m1,hm,ht⟩:=qe EE exy;generalize ba [] (L++x::y::R.reverse)=cs at *;have h1:upd H l (.lst (cs.map oC)) l=some (.lst (cs.map oC)):=aO;have sH:=(a6.refl H).new (o:=.lst (cs.map oC)) nl;refine⟨l,cs,L.length,q0,rfl,h1,by lia,f0,l,cs,L.length+1,q1,rfl,h1,by lia,f1,(by show 2<=sizeLine;decide),λp np=>⟨_,_,cL.of aO,rfl,?_⟩⟩;nofun;refine fx (by lia) ?_;have npl:l≠p:=bF h1 np;have h2:upd (upd H l (.lst (cs.map oC))) p (.lst [V.int q0,V.int q1]) l=some (.lst (cs.map oC)):=by rw[a9 npl];exact h1
   have hp2:upd (upd H l (.lst (cs.map oC))) p (.lst [V.int q0,V.int q1]) p=some (.lst [V.int q0,V.int q1]):=aO;have s2:=sH.trans ((a6.refl _).new (o:=.lst [V.int q0,V.int q1]) np);generalize upd (upd H l (.lst (cs.map oC))) p (.lst [V.int q0,V.int q1])=H2 at h2 hp2 s2 ⊢;refine cT (λσ H'=>σ=[some (.str (tx (ba [] (L++[x])))),some (.str (tx (ba (L++[x]) (R++[y]).reverse))),some (.ref l),some (.int ((L.length+1:Nat):Int)),some (.int (L.length:Nat)),some (.ref p),some (.str (tx [m0,m1])),none,none]/\a6 H2 H') ?_ ?_
   ·nofun;refine⟨_,oC (kL L x),cL.of h2,ez (by rw[ar,s0];rfl),_,oC (kL (L++[x]) y),cL.of h2,ez (by rw[ar,s1];rfl),(by show 2<=sizeLine;decide),λt nt=>AU c0 c1 aO ⟨_,rfl,?_⟩⟩;simp only[HI,HK];rcases hm with ⟨hz,rfl,rfl⟩ | ⟨hz,rfl,rfl⟩
    ·refine kj ?_ ⟨rfl,(a6.refl _).new nt⟩;rcases hz with z | z
     ·rw[Ks (z0.mpr z)];rfl
     ·rw[Ks (z1.mpr z),Bool.or_true]
    ·refine fx ?_ ⟨rfl,(a6.refl _).new nt⟩;rw[Kr (λz=>hz (.inl (z0.mp z))),Kr (λz=>hz (.inr (z1.mp z)))];decide
   ·rintro σ H3 ⟨rfl,s3⟩;have hl3:=s3 _ _ h2;have s03:a6 H H3:=s2.trans s3;have hz:(m0=42\/m0=40)/\(m1=42\/m1=41):=by rcases hm with ⟨_,rfl,rfl⟩ | ⟨_,rfl,rfl⟩<;>simp
    nofun;refine⟨p,[(q0:Int),(q1:Int)],rfl,cL.of (s3 _ _ hp2),(by show 2<64;decide),λl2 ms nl2 pm ps'=>?_⟩;have em:=zS pm ps';subst em;have nll:l≠l2:=bF hl3 nl2;refine⟨l2,tx [m0,m1],rfl,⟨_,cL.of aO⟩,yG (by intro c hc;simp at hc;lia),A1 (xs:=[V.int ((min q0 q1:Nat):Int),V.int ((max q0 q1:Nat):Int)]) (by rw[k9];exact aE 2)
     (λi σ H'=>∃x7 x8,σ=[some (.str (tx (ba [] (L++[x])))),some (.str (tx (ba (L++[x]) (R++[y]).reverse))),some (.ref l),some (.int ((L.length+1:Nat):Int)),some (.int (L.length:Nat)),some (.ref p),some (.str (tx [m0,m1])),x7,x8]/\a6 H H'/\H' l2=some (.lst [V.int ((min q0 q1:Nat):Int),V.int ((max q0 q1:Nat):Int)]) ∧
      H' l=some (.lst ((match i with | 0=>cs | 1=>cs.set (min q0 q1) m0 | _=>(cs.set (min q0 q1) m0).set (max q0 q1) m1).map oC)))
     ⟨none,none,rfl,s03.trans ((a6.refl _).new nl2),aO,by rw[a9 nll];exact hl3⟩ (λi σ H' ⟨_,_,_,_,e,_⟩=>cL.of e) ?_ ?_⟩
    ·rintro i v c σ H' t hv hc ⟨x7,x8,rfl,sm,h4,h5⟩ nt;have ntl:l≠t:=bF h5 nt;have ntl2:l2≠t:=bF h4 nt;nofun;refine⟨_,dr.of aO,rfl,?_⟩;nofun;have h5':upd H' t (.tup [v,V.str ⟨#[c]⟩]) l=H' l:=a9 ntl;rw[h5] at h5';have sm2:a6 H (upd H' t (.tup [v,V.str ⟨#[c]⟩])):=sm.trans ((a6.refl _).new nt)
     match i,hv,hc,h5' with
     | 0,hv,hc,h5'=>
      have ec:c=m0:=by simpa [tx] using hc.symm
      subst ec;cases hv;have h6:_=some (HO.lst (cs.map oC)):=h5';refine⟨l,_,_,min q0 q1,rfl,rfl,h6,?_,_,_,rfl,sm2.new nl,?_,?_⟩
      ·unfold Ap;rw[aB,Ko (by lia),Ko (by lia),ig]
      ·rw[a9 (bg nll),a9 ntl2];exact h4
      ·rw[aO];exact congrArg (λz=>some (HO.lst z)) (ym cs (min q0 q1) c)
     | 1,hv,hc,h5'=>
      have ec:c=m1:=by simpa [tx] using hc.symm
      subst ec;cases hv;have h6:_=some (HO.lst ((cs.set (min q0 q1) m0).map oC)):=h5';refine⟨l,_,_,max q0 q1,rfl,rfl,h6,?_,_,_,rfl,sm2.new nl,?_,?_⟩
      ·unfold Ap;rw[aB,dy,Ko (by lia),Ko (by lia),ig]
      ·rw[a9 (bg nll),a9 ntl2];exact h4
      ·rw[aO];exact congrArg (λz=>some (HO.lst z)) (ym (cs.set (min q0 q1) m0) (max q0 q1) c)
     | i+2,hv,_,_=>simp at hv
    ·rintro σ H' ⟨x7,x8,rfl,sm,h4,h5⟩;have h5:H' l=some (.lst (((cs.set (min q0 q1) m0).set (max q0 q1) m1).map oC)):=h5;have ld:((cs.set (min q0 q1) m0).set (max q0 q1) m1).length=L.length+R.length+2:=by rw[dy,dy,lC]
     generalize (cs.set (min q0 q1) m0).set (max q0 q1) m1=ds at h5 ld ht;nofun;refine⟨rfl,Dc h5 (by rw[aB];lia) λp1 H1 n1 t1 g1=>?_⟩;rw[<-List.map_take,vB] at g1;have lt1:(ds.take L.length).length<=900:=by rw[bV];lia
     refine⟨_,p1,_,rfl,rfl,cL.of g1,oY lt1,?_⟩;rw[ub,yr];refine⟨_,_,rfl,rfl,by rw[b6,b6];exact jw (by rw[bV];simp;lia),rfl,?_⟩;have e2:((L.length+1:Nat):Int)+1=((L.length+2:Nat):Int):=by lia
     rw[e2];refine yh (t1 _ _ h5) (by rw[aB];lia) λp2 H2' n2' t2 g2=>?_;rw[<-List.map_drop,vB] at g2;have lt2:(ds.drop (L.length+2)).length<=900:=by rw[fE];lia
     refine⟨_,p2,_,rfl,rfl,cL.of g2,oY lt2,?_⟩;rw[ub];refine⟨_,_,rfl,rfl,?_,?_⟩
     ·rw[dY,b6,b6];exact jw (by simp;lia)
     ·rw[dY,dY,a7,eK,ht];exact q _ (sm.trans (t1.trans t2))
def Br (B:oU mg) (E:Fn K mg "step" kN ["state","letter"]) (JM:eQ P w K mg base 2 "joined" iz ["left","right"] um):eQ P w K mg base 3 "step" kN ["state","letter"] pX:=E.mk' λf fd F=>by
 refine F.okS me (λvs H Q E h=>?_) (λcdv A outer s H vs Q E hr h=>?_)
 ·obtain⟨L,R,c,rfl,_⟩:=h;rfl
 ·obtain⟨L,R,c,rfl,hc,EE,hl,q⟩:=h;have l1:=bp L [];have l2:(ba L R.reverse).length=R.length:=by rw[bp];simp
  have sp:Txt.split (tx (fH L R)) (Str.ofString "|")=[tx (ba [] L),tx (ba L R.reverse)]:=by rw[yr];exact vp (zr [] L) (zr L R.reverse)
  refine⟨[some (.str (tx (fH L R))),some (.str ⟨#[c]⟩),none,none,none],_,rfl,(L2.jK.h (aG (ai (i:=2) me.nd rfl (Or.inl rfl) (io fm PySem.F.slot_str_split PySem.F.type_str_split AC (aY 0) (bc bQ aC)))
   (aG (ai (i:=3) me.nd rfl (Or.inl rfl) (bW cI (aY 2) aF (λ_ _=>rfl)))
   (aG (ai (i:=4) me.nd rfl (Or.inl rfl) (bW cI (aY 2) aF (λ_ _=>rfl)))
   (aG (cF (ac dX (aY 1) bQ (bG _))
   (aM (bB (aW cY (aW cY (aY 3) bQ) (aY 4))))
   bU)
   (aG (cF (ac dX (aY 1) bQ (bG _))
   (aM (bB (eG (jB (aY 4) (λ_=>rfl)) (aW cY (aW cY (aW cY (aY 3) (bW mQ (aY 4) aF (λ_ _=>rfl))) bQ) (eF yg (aY 4) (fK aF) fL)) fN)))
   bU)
   (aG (cF (ac dX (aY 1) bQ (bG _))
   (aM (bB (eG (jB (aY 3) (λ_=>rfl)) (aW cY (aW cY (aW cY (eF yg (aY 3) fL (fK (eX eU aF))) bQ) (bW mQ (aY 3) (eX eU aF) (λ_ _=>rfl))) (aY 4)) fN)))
   bU)
   (aM (bB (eG (QW.pt (kf (jB (aY 3) (λ_=>rfl)) (jA (jB (aY 4) (λ_=>rfl))))) (a8 JM (hr.mono (by decide)) (by rfl) (aD (aY 3) (aD (aY 4) aC))) fN)))))))))),?_⟩
  nofun;refine⟨rfl,tx (fH L R),_,rfl,rfl,by decide +kernel,by rw[b6,uf];lia,λl nl=>?_⟩;rw[sp];refine⟨l,_,0,.str (tx (ba [] L)),rfl,rfl,cL.of aO,rfl,?_⟩;refine⟨l,_,1,.str (tx (ba L R.reverse)),rfl,rfl,cL.of aO,rfl,?_⟩;simp only[Gk,Gj,Gi,HM,yr,Fi,fk];have sH:=(a6.refl H).new (o:=.lst (List.map V.str [tx (ba [] L),tx (ba L R.reverse)])) nl;generalize upd H l (.lst (List.map V.str [tx (ba [] L),tx (ba L R.reverse)]))=H1 at *;have qq:=q H1 sH;clear sp nl;rcases hc with rfl | rfl | rfl | rfl
  ·refine kj rfl ⟨_,_,rfl,rfl,?_,_,_,rfl,rfl,?_,?_⟩
   ·rw[b6,b6];exact jw (by simp;lia)
   ·rw[dY,b6,b6];exact jw (by simp;lia)
   ·rw[dY,dY,yc EE];exact qq
  ·refine fx (by decide) (kj rfl ?_);by_cases hR:R=[]
   ·subst hR;rw[ja] at qq;exact⟨_,jZ (by lia),fx (by simp[ba]) qq⟩
   ·obtain⟨R',v,rfl⟩:=be hR;rw[lF] at qq;rw[lJ] at l2 ⊢;simp at l2 hl;refine⟨_,jZ (by simp;lia),kj rfl ⟨_,0,kL L v,rfl,rfl,?_,F9 (i:=0) rfl,_,_,rfl,rfl,?_,?_,?_⟩⟩
    ·rw[b6];exact jw (by simp;lia)
    ·rw[lP,b6,b6];exact jw (by simp;lia)
    ·rw[lP,dY,b6,b6];exact jw (by simp;lia)
    ·have e:=BI (cs:=kL L v::ba (L++[v]) R'.reverse) (p:=1) (by simp);refine⟨_,rfl,?_,?_⟩
     ·rw[b6];exact jw (by simp;lia)
     ·have e':Txt.slice (tx (kL L v::ba (L++[v]) R'.reverse)) (some 1) none=tx (ba (L++[v]) R'.reverse):=e;rw[e'];refine⟨_,_,rfl,rfl,?_,?_⟩
      ·rw[lP,dY,dY,b6,b6];exact jw (by simp;lia)
      ·have f:=yb (L:=L) (Q:=R') (v:=v);rw[lP,dY,dY,dY,a7 (ba [] L++[kL L v]) [124],eK,f];exact qq
  ·refine fx (by decide) (fx (by decide) (kj rfl ?_));by_cases hL:L=[]
   ·subst hL;rw[j9] at qq;exact⟨_,jZ (by simp[ba]),fx (by decide) qq⟩
   ·obtain⟨L',v,rfl⟩:=be hL;rw[lE] at qq;have e:=BH (P:=ba [] L') (c:=kL L' v);rw[lK] at l1 ⊢;simp at l1 hl;refine⟨_,jZ (by simp;lia),kj (by simp) ⟨_,rfl,?_,?_⟩⟩
    ·rw[b6];exact jw (by simp;lia)
    ·rw[e];refine⟨_,_,rfl,rfl,?_,_,-1,kL L' v,rfl,rfl,?_,by rw[lH];exact gK,_,_,rfl,rfl,?_,_,_,rfl,rfl,?_,?_⟩
     ·rw[b6,b6];exact jw (by simp;lia)
     ·rw[b6];exact jw (by simp;lia)
     ·rw[lP,dY,b6,b6];exact jw (by simp;lia)
     ·rw[lP,dY,dY,b6,b6];exact jw (by simp;lia)
     ·have f:=ya (P:=L') (R:=R) (v:=v);rw[lP,dY,dY,dY];have g:ba [] L'++[124]++[kL L' v]++ba (L'++[v]) R.reverse=ba [] L'++124::(kL L' v::ba (L'++[v]) R.reverse):=by simp
      rw[g,f];exact qq
  ·refine fx (by decide) (fx (by decide) (fx (by decide) ?_));by_cases hL:L=[]
   ·subst hL;rw[j8] at qq;exact⟨_,jZ (by simp[ba]),fx (by decide) qq⟩
   ·by_cases hR:R=[]
    ·subst hR;rw[j7] at qq;obtain⟨L',v,rfl⟩:=be hL;exact⟨_,jZ (by rw[l1];lia),kj (by rw[lK];simp) ⟨_,jZ (by lia),fx (by simp[ba]) qq⟩⟩
    ·obtain⟨L',x,rfl⟩:=be hL;obtain⟨R',y,rfl⟩:=be hR;refine⟨_,jZ (by lia),kj (by rw[lK];simp) ⟨_,jZ (by lia),kj (by rw[lJ];rfl) ⟨L',R',x,y,rfl,EE,by simp at hl;lia,λH' s'=>q H' (sH.trans s')⟩⟩⟩
def CK {c:Nat} (h:jH c):(Builtin.Str.occurrences (Str.ofString "abcd") ⟨#[c]⟩ 0 (Str.ofString "abcd").length 1).isEmpty=false:=by rcases h with rfl | rfl | rfl | rfl<;>decide +kernel
def rJ (B:oU mg) (E:Fn K mg "vet_code" gD ["side","code"]) (IC:eQ P w K mg base 1 "begun" i9 ["side"] ma) (IL:eQ P w K mg base 3 "step" kN ["state","letter"] pX) (d7:eQ P w K mg base 1 "leading_on" du ["state"] sg):eQ P w K mg base 4 "vet_code" gD ["side","code"] qg:=E.mk' λf fd F=>by
 refine F.okS gX (λvs H Q E h=>?_) (λcdv A outer s H vs Q E hr h=>?_)
 ·obtain⟨b,cs,rfl,_⟩:=h;rfl
 ·obtain⟨b,cs,rfl,C,q⟩:=h;have lt:=C.lts;have hn:=C.len;have hres:=C.res;refine⟨[some (.str (sd b)),some (.str (tx cs)),none,none,none],_,rfl,(L2.jK.h (aG (cF (QW.pt (iI (gP (fj (ah g9 (by rfl) B.isinstance bX (aD (aY 1) (aD (gZ (v:=.ty "str") (by rfl) B.str PyProof.Rows.boot_str rfl) aC))))) (j3 (ac rG (ah ce (by rfl) B.len ae (aD (aY 1) aC)) (oh (by rfl) B.MOST_RINGS) (bG _)))))
   (aM jC)
   bU)
   (aG (ai (i:=2) gX.nd rfl (Or.inl rfl) (a8 IC (hr.mono (by decide)) (by rfl) (aD (aY 0) aC)))
   (aG (di bH rfl (rB (by rfl) B.enumerate (aD (aY 1) aC)) (lx (n:=2) rfl (d9 (bb (i:=3) gX.nd rfl (Or.inl rfl)) (d9 (bb (i:=4) gX.nd rfl (Or.inl rfl)) jD)))
   (aG (ai (i:=2) gX.nd rfl (Or.inl rfl) (eG (ac oj (aY 4) (jE (by rfl) B.LETTERS) (by with_unfolding_all rfl)) (a8 IL (hr.mono (by decide)) (by rfl) (aD (aY 2) (aD (aY 4) aC))) fN))
    (aM (cF (ac tO (aY 2) fN (bG _))
    (aM jC)
    bU))))
   (aG (cF (ac mY (a8 d7 (hr.mono (by decide)) (by rfl) (aD (aY 2) aC)) aF (bG _))
   (aM jC)
   bU)
   (aM (bB ip))))))),?_⟩
  nofun;refine CH (.str _) ⟨true,rfl,fx (by decide) ⟨by rw[b6];exact jw (by lia),fx (by rw[b6];lia) ⟨Fg b,by rw[HH],?_⟩⟩⟩;rw[p9];nofun;refine⟨yJ lt,rZ (x:=tx cs) (λi σ H2=>∃(L R:List Int) (x3 x4:Option V),σ=[some (.str (sd b)),some (.str (tx cs)),some (.str (tx (fH L R))),x3,x4]/\a6 H H2/\Run b cs i L R/\L.length+R.length<=2*i+1/\fU (bL b) (bR b) cs 0=fU L R (cs.drop i) i)
   ⟨bL b,bR b,_,_,rfl,a6.refl _,Run.zero b cs,by cases b<;>decide,by rw[iU]⟩ ?_ ?_⟩
  ·rintro i c σ H2 p hc ⟨L,R,x3,x4,rfl,sm,run,hl,er⟩ np;have hc':cs[i]? = some c:=by rw[<-hc,show (tx cs).cps[i]? = cs[i]? by simp[tx]]
   have hi:=(aJ.mp hc').1;have lc:=lt c (bP hc');have ed:cs.drop i=c::cs.drop (i+1):=by rw[bA hi];congr 1;exact(aJ.mp hc').2
   have s2:=sm.trans ((a6.refl _).new (o:=.tup [.int i,.str ⟨#[c]⟩]) np);nofun;refine⟨_,dr.of aO,rfl,?_⟩;nofun;refine kj (CK lc) ⟨L,R,c,rfl,lc,run.ee,by lia,λH3 s3=>?_⟩;rw[ed] at er;have s4:=s2.trans s3;cases g:ck L R c with
   | none=>
    rw[lq g] at er;rw[hres] at er;cases er
   | some pr=>
    obtain⟨L',R'⟩:=pr;rw[ke g] at er;refine⟨trivial,fx (λz=>nomatch z) ⟨L',R',_,_,rfl,s4,run.step hc' lc g,?_,er⟩⟩;have:=km lc g;lia
  ·rintro σ H2 ⟨L,R,x3,x4,rfl,sm,run,hl,er⟩;rw[k9] at run er hl;rw[jU] at er;have er2:fU (bL b) (bR b) cs 0=if L.length+R.length=1 then none else some cs.length:=er
   nofun;refine⟨L,R,rfl,by lia,?_⟩;nofun;by_cases e1:L.length+R.length=1
   ·rw[Ko e1] at er2;exact fx (λz=>by lia) (q _ sm)
   ·rw[Kn e1,hres] at er2;cases er2
def Ec{k:Bool}{c:Nat}(h:jH c):(Builtin.Str.occurrences (tx [97,if k=true then 99 else 98]) ⟨#[c]⟩ 0 (tx [97,if k=true then 99 else 98]).length 1).isEmpty=!(isIn k c):=by
 cases k<;>rcases h with rfl | rfl | rfl | rfl<;>decide +kernel
def nJ (B:oU mg) (E:Fn K mg "rows_across" eB ["code","inwards","begins_here"]):eQ P w K mg base 1 "rows_across" eB ["code","inwards","begins_here"] ui:=E.mk' λf fd F=>by
 refine F.okS dA (λvs H Q E h=>?_) (λcdv A outer s H vs Q E hr h=>?_)
 ·obtain⟨k,b,cs,rfl,_⟩:=h;rfl
 ·obtain⟨k,b,cs,rfl,lt,hn,ne,q⟩:=h;refine⟨[some (.str (tx cs)),some (.str (tx [97,if k then 99 else 98])),some (.bl (decide (k=b))),none,none,none,none,none,none],_,rfl,(L2.jK.h (aG (ai (i:=3) dA.nd rfl (Or.inl rfl) wI)
   (cm (ai (i:=4) dA.nd rfl (Or.inl rfl) (eG (jB (aY 2) (λ_=>rfl)) (cw (bc aF aC)) (cw aC)))
   (cm (di bH rfl (rB (by rfl) B.enumerate (aD (aY 0) aC)) (lx (n:=2) rfl (d9 (bb (i:=5) dA.nd rfl (Or.inl rfl)) (d9 (bb (i:=6) dA.nd rfl (Or.inl rfl)) jD)))
   (aG (ai (i:=7) dA.nd rfl (Or.inl rfl) (aW eI (aY 5) aF))
    (aM (cF (ac oj (aY 6) (aY 1) (by with_unfolding_all rfl))
    (aM (gY (io bf cz cy jG (aY 4) (aD (aY 7) aC))))
    (aG (ai (i:=8) dA.nd rfl (Or.inl rfl) (vJ bf PySem.F.slot_list_pop PySem.F.type_list_pop EX (aY 4)))
     (aG (lw (oM hr) (aY 3) (aY 7) (aY 8) rfl)
     (aM (lw (oM hr) (aY 3) (aY 8) (aY 7) rfl))))))))
   (aG (di bH rfl (dw (aY 4)) (bb (i:=8) dA.nd rfl (Or.inl rfl))
   (aM (lw (oM hr) (aY 3) (aY 8) (aW eI (ah ce (by rfl) B.len ae (aD (aY 0) aC)) aF) rfl)))
   (aM (bB (aY 3)))))))),?_⟩
  nofun;intro d nd;have sd0:=(a6.refl H).new (o:=.dK []) nd;refine cT (λσ H'=>∃wl,σ=[some (.str (tx cs)),some (.str (tx [97,if k then 99 else 98])),some (.bl (decide (k=b))),some (.ref d),some (.ref wl),none,none,none,none]/\a6 H H'/\H wl=none/\wl≠d/\H' d=some (.dK [])/\H' wl=some (.lst (jx (ug k b).1))) ?_ ?_
  ·nofun;refine⟨decide (k=b),rfl,?_⟩;have go:∀l p,upd H d (.dK []) p=none->l=jx (ug k b).1->∃wl,([some (.str (tx cs)),some (.str (tx [97,if k then 99 else 98])),some (.bl (decide (k=b))),some (.ref d),some (.ref p),none,none,none,none]:L2.St)=[some (.str (tx cs)),some (.str (tx [97,if k then 99 else 98])),some (.bl (decide (k=b))),some (.ref d),some (.ref wl),none,none,none,none]/\a6 H (upd (upd H d (.dK [])) p (.lst l))/\H wl=none/\wl≠d/\upd (upd H d (.dK [])) p (.lst l) d=some (.dK [])/\upd (upd H d (.dK [])) p (.lst l) wl=some (.lst (jx (ug k b).1)):=λl p np e=>by
    have nep:d≠p:=λz=>by subst z;rw[aO] at np;cases np
    exact⟨p,rfl,sd0.trans ((a6.refl _).new np),sd0.free np,nep.symm,by rw[a9 nep,aO],by rw[aO,e]⟩
   by_cases e:k=b
   ·exact kj (by simp[e]) ⟨(by show 1<=sizeLine;decide),λp np=>go _ p np (by unfold ug;dsimp only;rw[Ko e];rfl)⟩
   ·exact fx (by simp[e]) ⟨bE _,λp np=>go _ p np (by unfold ug;dsimp only;rw[Kn e];rfl)⟩
  ·rintro σ H1 ⟨wl,rfl,s1,nw,nwd,hd1,hw1⟩;nofun;refine cT (λσ H'=>∃(x5 x6 x7 x8:Option V) (kvs:List (Key×V)),σ=[some (.str (tx cs)),some (.str (tx [97,if k then 99 else 98])),some (.bl (decide (k=b))),some (.ref d),some (.ref wl),x5,x6,x7,x8]/\a6 H H'/\H' d=some (.dK kvs)/\kvs.length<=40/\kA kvs cs.length (stN k b cs cs.length).2/\H' wl=some (.lst (jx (stN k b cs cs.length).1))) ?_ ?_
   ·nofun;refine⟨yJ lt,rZ (x:=tx cs) (λi σ H'=>∃(x5 x6 x7 x8:Option V) (kvs:List (Key×V)),σ=[some (.str (tx cs)),some (.str (tx [97,if k then 99 else 98])),some (.bl (decide (k=b))),some (.ref d),some (.ref wl),x5,x6,x7,x8]/\a6 H H'/\H' d=some (.dK kvs)/\kvs.length<=2*i/\kA kvs cs.length (stN k b cs i).2/\(∀x∈(stN k b cs i).1,x<=i)/\H' wl=some (.lst (jx (stN k b cs i).1)))
     ⟨_,_,_,_,[],rfl,s1,hd1,bE _,kA.nil,λx hx=>by (unfold stN ug at hx;dsimp only at hx;split at hx<;>simp at hx;lia),hw1⟩ ?_ ?_⟩
    ·rintro i c σ H2 p hc ⟨x5,x6,x7,x8,kvs,rfl,sm,hd2,hk,rp,le,hw2⟩ np;have hc':cs[i]? = some c:=by rw[<-hc,DU]
     have hi:=(aJ.mp hc').1;have lc:=lt c (bP hc');have eg:cs.getD i 0=c:=by rw[cA,hc'];rfl
     have s2:=sm.trans ((a6.refl _).new (o:=.tup [.int i,.str ⟨#[c]⟩]) np);have dp:d≠p:=bF hd2 np;have wp:wl≠p:=bF hw2 np;have hd3:upd H2 p (.tup [.int i,.str ⟨#[c]⟩]) d=some (.dK kvs):=by rw[a9 dp];exact hd2
     have hw3:upd H2 p (.tup [.int i,.str ⟨#[c]⟩]) wl=some (.lst (jx (stN k b cs i).1)):=by rw[a9 wp];exact hw2
     have sl:=pV k b cs i;nofun;refine⟨_,dr.of aO,rfl,?_⟩;generalize upd H2 p (.tup [.int i,.str ⟨#[c]⟩])=H3 at s2 hd3 hw3 ⊢;nofun;have ei:(i:Int)+1=((i+1:Nat):Int):=by lia
     rw[ei,Ec lc];by_cases hin:isIn k c=true
     ·have es:stN k b cs (i+1)=((stN k b cs i).1++[i+1],(stN k b cs i).2):=by show oA k _ _ _=_;rw[eg,se hin]
      refine kj (by rw[hin];rfl) ⟨oV hw3,_,hw3,by rw[rR];exact dC (by lia),_,_,_,_,kvs,rfl,s2.new nw,by rw[a9 nwd.symm];exact hd3,by lia,by rw[es];exact rp,?_,by rw[aO,es,mO]⟩;rw[es];intro x hx;rcases aL.mp hx with h1 | h1
      ·have:=le x h1;lia
      ·simp at h1;lia
     ·have hin':isIn k c=false:=by simpa using hin
      obtain⟨Pq,o,eo⟩:=nN (ne i hi (by rw[eg];exact hin'));have es:stN k b cs (i+1)=(Pq,jy (stN k b cs i).2 (i+1) o):=by show oA k _ _ _=_;rw[eg,pT hin' eo]
      have ole:o<=i:=le o (by rw[eo];simp);rw[eo] at hw3;refine fx (by rw[hin'];decide) ⟨oV hw3,_,.int o,hw3,w4 Pq o,?_⟩;rw[w5];have l1:kvs.length<sizeLine:=dC (by lia);have l2:(putK kvs (.inl ((i+1:Nat):Int):Key) (.int (o:Nat))).length<sizeLine:=dC (by have:=dc kvs (.inl ((i+1:Nat):Int):Key) (.int (o:Nat));lia);have hd4:upd H3 wl (.lst (jx Pq)) d=some (.dK kvs):=by rw[a9 nwd.symm];exact hd3
      have r1:=rp.put (a:=i+1) (b:=o) (by lia);have ln1:=dc kvs (.inl ((i+1:Nat):Int):Key) (.int (o:Nat));have r2:=r1.put (a:=o) (b:=i+1) (by lia);rw[CB (by lia)] at r2;have ln2:=dc (putK kvs (.inl ((i+1:Nat):Int):Key) (.int (o:Nat))) (.inl (o:Int):Key) (.int ((i+1:Nat)));refine⟨_,nv.k (k:=.inl ((i+1:Nat):Int)) hd4 l1,_,nv.k (k:=.inl (o:Int)) aO l2,_,_,_,_,_,rfl,((s2.new nw).new nd).new nd,aO,by lia,by rw[es];exact r2,?_,?_⟩
      ·rw[es];intro x hx;have:=le x (by rw[eo];exact bM _ hx);lia
      ·rw[a9 nwd,a9 nwd,aO,es]
    ·rintro σ H2 ⟨x5,x6,x7,x8,kvs,rfl,sm,hd2,hk,rp,le,hw2⟩;rw[k9] at hk rp hw2;exact⟨_,_,_,_,kvs,rfl,sm,hd2,by lia,rp,hw2⟩
   ·rintro σ H2 ⟨x5,x6,x7,x8,kvs,rfl,sm,hd2,hk,rp,hw2⟩;have sl:=pV k b cs cs.length;nofun;have wd:wl≠d:=nwd;refine⟨⟨_,cL.of hw2⟩,kU (xs:=jx (stN k b cs cs.length).1) (λj σ H'=>∃(x8:Option V) (kvs:List (Key×V)),σ=[some (.str (tx cs)),some (.str (tx [97,if k then 99 else 98])),some (.bl (decide (k=b))),some (.ref d),some (.ref wl),x5,x6,x7,x8]/\a6 H H'/\H' d=some (.dK kvs)/\kvs.length<=40+j/\kA kvs cs.length (wu cs.length (stN k b cs cs.length).1 (stN k b cs cs.length).2 j)/\H' wl=some (.lst (jx (stN k b cs cs.length).1)))
     ⟨_,kvs,rfl,sm,hd2,hk,rp.congr λx _=>by simp[wu],hw2⟩ ?_ ?_ ?_⟩
    ·rintro j σ H' _ ⟨_,_,_,_,_,_,_,h⟩;exact cL.of h
    ·rintro j x σ H3 hx ⟨x8',kvs',rfl,s3,hd3,hk3,rp3,hw3⟩;obtain⟨o,ho,rfl⟩:=fP hx;have hj:=(aJ.mp ho).1;nofun;rw[b6];refine⟨jw (by lia),_,nv.k (k:=.inl (o:Int)) hd3 (dC (by lia)),_,_,rfl,s3.new nd,aO,?_,?_,by rw[a9 wd];exact hw3⟩
     ·have:=dc kvs' (.inl (o:Int):Key) (.int (((cs.length:Nat):Int)+1));lia
     ·have r1:=rp3.put (a:=o) (b:=cs.length+1) (by lia);rw[wt ho] at r1;exact r1
    ·rintro σ H3 ⟨x8',kvs',rfl,s3,hd3,hk3,rp3,hw3⟩;nofun;refine q d kvs' H3 s3 nd hd3 (rp3.congr λx _=>?_);unfold wu fin2 rg;rw[rR,cH]
def tS (B:oU mg) (E:Fn K mg "decoded" gG ["side","code"]) (Iq:eQ P w K mg base 1 "is_side" hZ ["thing"] qo) (IM:eQ P w K mg base 1 "other_side" eh ["side"] uk) (Ie:eQ P w K mg base 4 "vet_code" gD ["side","code"] qg) (IA:eQ P w K mg base 1 "rows_across" eB ["code","inwards","begins_here"] ui):eQ P w K mg base 5 "decoded" gG ["side","code"] sh:=E.mk' λf fd F=>by
 refine F.okS fS (λvs H Q E h=>?_) (λcdv A outer s H vs Q E hr h=>?_)
 ·obtain⟨b,cs,rfl,_⟩:=h;rfl
 ·obtain⟨b,cs,rfl,C,q⟩:=h;have lt:=C.lts;have hn:=C.len;have hr0:=C.res;have q:∀a H',a6 H H'->uL H' a b cs->Q (.ref a) H':=λa H' s' ca=>by obtain⟨o,z⟩:=ca.maze C.maze;exact q a o H' s' z
  refine⟨[some (.str (sd b)),some (.str (tx cs)),none,none,none,none],_,rfl,(L2.jK.h (aG (cF (gP (fj (a8 Iq (hr.mono (by decide)) (by rfl) (aD (aY 0) aC))))
   (aM jC)
   bU)
   (aG (gY (a8 Ie (hr.mono (by decide)) (by rfl) (aD (aY 0) (aD (aY 1) aC))))
   (cm (ai (i:=2) fS.nd rfl (Or.inl rfl) (zF (og bQ (a8 IA (hr.mono (by decide)) (by rfl) (aD (aY 1) (aD (jE (by rfl) B.LEFT_INWARDS) (eY (dQ dX (aY 0) bQ (bG _)) aC)))) (og bQ (a8 IA (hr.mono (by decide)) (by rfl) (aD (aY 1) (aD (jE (by rfl) B.RIGHT_INWARDS) (eY (dQ dX (aY 0) bQ (bG _)) aC)))) zC)) rfl rfl (λz=>nomatch z) (by decide)))
   (aG (ai (i:=3) fS.nd rfl (Or.inl rfl) (cw aC))
   (aG (ai (i:=4) fS.nd rfl (Or.inl rfl) (aY 0))
   (aG (ai (i:=5) fS.nd rfl (Or.inl rfl) (kP (oM hr) (kP (oM hr) (aY 2) (aY 4) (λ_ _=>rfl)) aF (λ_ _=>rfl)))
   (aG (kg bH (ac vL (aY 5) (ah ce (by rfl) B.len ae (aD (aY 1) aC)) (bG _))
   (aG (gY (io bf cz cy jG (aY 3) (aD (aY 5) aC)))
    (aG (ai (i:=4) fS.nd rfl (Or.inl rfl) (a8 IM (hr.mono (by decide)) (by rfl) (aD (aY 4) aC)))
    (aM (ai (i:=5) fS.nd rfl (Or.inl rfl) (kP (oM hr) (kP (oM hr) (aY 2) (aY 4) (λ_ _=>rfl)) (aY 5) (λ_ _=>rfl)))))))
   (aM (bB (fM (aD (aY 0) (dR (dD oP (by rfl) B.tuple fc (aD (aY 3) aC)) aC))))))))))))),?_⟩
  nofun;have e1:yk (.str (sd b))=true:=by cases b<;>decide +kernel
  refine⟨_,_,rfl,.str _,⟨by cases b<;>decide +kernel,by cases b<;>decide +kernel⟩,?_⟩;rw[e1];refine⟨true,rfl,fx (by decide) ⟨b,cs,rfl,C,λH1 s1=>?_⟩⟩;obtain⟨T,t1,t2,VT,eT⟩:=(BR lt hr0).ends;have a1:Str.ofString "ab"=tx [97,if false=true then 99 else 98]:=by decide +kernel
  have a2:Str.ofString "ac"=tx [97,if true=true then 99 else 98]:=by decide +kernel
  refine cT (λσ H'=>∃(dd:Addr) (kvs:List (Key×V)) (D:Bool->Addr),σ=[some (.str (sd b)),some (.str (tx cs)),some (.ref dd),none,none,none]/\a6 H H'/\H' dd=some (.dK kvs)/\∀u,gU kvs (.inr (sd u):Key)=some (.ref (D u))/\∃kk,H' (D u)=some (.dK kk)/\kA kk cs.length (fin2 b cs u)) ?_ ?_
  ·nofun;intro dd nd;refine⟨false,b,cs,by rw[<-a1];cases b<;>simp[Fh],lt,hn,ye lt hr0 false,λd1 k1 H2 s2 n1 h1 r1=>?_⟩;nofun;refine⟨true,b,cs,by rw[<-a2];cases b<;>simp[HG],lt,hn,ye lt hr0 true,λd2 k2 H3 s3 n2 h2 r2=>?_⟩;nofun;have f1:dd≠d1:=bF aO n1;have f2:dd≠d2:=bF (s2 _ _ aO) n2;refine⟨s3 _ _ (s2 _ _ aO),[((.inr (Str.ofString "l"):Key),V.ref d1),(.inr (Str.ofString "r"),.ref d2)],rfl,(by show 2<=15;decide),dd,_,λu=>if u then d2 else d1,rfl,(((s1.trans ((a6.refl _).new nd)).trans s2).trans s3).new (s1.free nd),aO,λu=>?_⟩;cases u
   ·exact⟨rfl,k1,by show upd _ _ _ d1=_;rw[a9 f1.symm];exact s3 _ _ h1,r1⟩
   ·exact⟨rfl,k2,by show upd _ _ _ d2=_;rw[a9 f2.symm];exact h2,r2⟩
  ·rintro σ H2 ⟨dd,kvs,D,rfl,s2,hdd,hD⟩;nofun;refine⟨bE _,λp np=>?_⟩;have pd:dd≠p:=bF hdd np;have pD:∀u,D u≠p:=λu=>by obtain⟨_,kk,h,_⟩:=hD u;exact bF h np
   have nH:H p=none:=s2.free np;have look:∀(H':Hp) (u:Bool) (r y:Nat),H' dd=some (.dK kvs)->(∀u,∃kk,H' (D u)=some (.dK kk)/\kA kk cs.length (fin2 b cs u))->r<=cs.length->fin2 b cs u r=some y->kI H' dd (.str (sd u)) (some (.ref (D u)))/\kI H' (D u) (.int (r:Nat)) (some (.int (y:Nat))):=λH' u r y h1 h2 hr hf=>by
    obtain⟨kk,g1,g2⟩:=h2 u;have e1:=kI.k (k:=.inr (sd u)) h1;rw[(hD u).1] at e1;have e2:=kI.k (k:=.inl (r:Int)) g1;rw[g2.get r hr,hf] at e2;exact⟨e1,e2⟩
   have hd0:upd H2 p (.lst []) dd=some (.dK kvs):=by rw[a9 pd];exact hdd
   have hD0:∀u,∃kk,upd H2 p (.lst []) (D u)=some (.dK kk)/\kA kk cs.length (fin2 b cs u):=λu=>by obtain⟨_,kk,h,r⟩:=hD u;exact⟨kk,by rw[a9 (pD u)];exact h,r⟩
   obtain⟨g1,g2⟩:=look _ b 0 _ hd0 hD0 (bE _) (VT.st 0 (by lia));refine⟨_,g1,_,_,rfl,g2,?_⟩;refine⟨λm σ H'=>∃(j:Nat),σ=[some (.str (sd b)),some (.str (tx cs)),some (.ref dd),some (.ref p),some (.str (sd (pth (fin2 b cs) b j).2)),some (.int ((pth (fin2 b cs) b (j+1)).1:Nat))]/\a6 H H'/\H' dd=some (.dK kvs)/\(∀u,∃kk,H' (D u)=some (.dK kk)/\kA kk cs.length (fin2 b cs u))/\H' p=some (.lst ((ordF (fin2 b cs) b j).map V.int))/\j+1<=T/\m=T-j,⟨_,0,rfl,s2.new nH,hd0,hD0,aO,t1,rfl⟩,?_⟩;rintro m σ H3 ⟨j,rfl,s3,hd3,hD3,hl3,hj,rfl⟩;nofun;refine⟨by rw[b6];exact jw (by lia),?_⟩;rw[b6];refine g0 (λhle=>?_) (λhgt=>?_)
   ·have hjT:j+1<T:=by
     apply i6;intro z;have:j+1=T:=by lia
     rw[this,eT] at hle;lia
    obtain⟨g3,g4⟩:=look (upd H3 p (.lst ((ordF (fin2 b cs) b (j+1)).map V.int))) (pth (fin2 b cs) b (j+1)).2 _ _ (by rw[a9 pd];exact hd3) (λu=>by obtain⟨kk,h,r⟩:=hD3 u;exact⟨kk,by rw[a9 (pD u)];exact h,r⟩) (VT.le (j+1) hjT) (VT.st (j+1) hjT);refine⟨λσ' H'=>σ'=[some (.str (sd b)),some (.str (tx cs)),some (.ref dd),some (.ref p),some (.str (sd (pth (fin2 b cs) b (j+1)).2)),some (.int ((pth (fin2 b cs) b (j+1+1)).1:Nat))]/\a6 H H'/\H' dd=some (.dK kvs)/\(∀u,∃kk,H' (D u)=some (.dK kk)/\kA kk cs.length (fin2 b cs u))/\H' p=some (.lst ((ordF (fin2 b cs) b (j+1)).map V.int)),λσ' H' ⟨e,a,c,d,f⟩=>⟨T-(j+1),by lia,j+1,e,a,c,d,f,hjT,rfl⟩,?_⟩;have el:(ordF (fin2 b cs) b j).map V.int++[V.int ((pth (fin2 b cs) b (j+1)).1:Nat)]=(ordF (fin2 b cs) b (j+1)).map V.int:=by rw[wV,aN];rfl
    refine⟨oV hl3,_,hl3,by rw[aB,zd];exact dC (by lia),?_⟩;rw[el];refine⟨_,rfl,?_⟩;nofun;rw[<-zI];exact⟨_,g3,_,_,rfl,g4,rfl,s3.new nH,by rw[a9 pd];exact hd3,λu=>by obtain⟨kk,h,r⟩:=hD3 u;exact⟨kk,by rw[a9 (pD u)];exact h,r⟩,aO⟩
   ·have ejT:j+1=T:=by
     apply i6;intro z;have:=VT.le (j+1) (by lia);lia
    refine⟨_,.inl ⟨cL.of hl3,λo no=>⟨(by show 2<=sizeLine;decide),λr nr=>?_⟩⟩⟩;have ne:o≠r:=λz=>by subst z;rw[aO] at nr;cases nr
    refine q r _ ((s3.trans ((a6.refl _).new no)).trans ((a6.refl _).new nr)) ⟨o,T,aO,t1,t2,VT,eT,?_⟩;rw[a9 ne,aO,<-ejT];rfl
def tX (E:Fn K mg "can_end" gI ["state","rows"]) (d7:eQ P w K mg base 1 "leading_on" du ["state"] sg):eQ P w K mg base 2 "can_end" gI ["state","rows"] nD:=E.mk' λf fd F=>by
 refine F.okS tD (λvs H Q E h=>?_) (λcdv A outer s H vs Q E hr h=>?_)
 ·obtain⟨L,R,n,rfl,_⟩:=h;rfl
 ·obtain⟨L,R,n,rfl,hl,hn,q⟩:=h;refine⟨[some (.str (tx (fH L R))),some (.int (n:Nat))],_,rfl,(L2.jK.h (aM (bB (dQ vL (a8 d7 (hr.mono (by decide)) (by rfl) (aD (aY 0) aC)) (aW eI (aW kR aF (aY 1)) aF) (bG _))))),?_⟩;nofun;refine⟨L,R,rfl,hl,?_⟩;nofun;refine⟨.inl ⟨by decide,by decide⟩,?_⟩;have e:decide (((L.length+R.length:Nat):Int)<=2*(n:Int)+1)=decide (L.length+R.length<=2*n+1):=decide_eq_decide.mpr (by lia);rw[e];exact q
def nK (B:oU mg) (E:Fn K mg "next_states" eC ["state"]) (IL:eQ P w K mg base 3 "step" kN ["state","letter"] pX):eQ P w K mg base 4 "next_states" eC ["state"] ul:=E.mk' λf fd F=>by
 refine F.okS kM (λvs H Q E h=>?_) (λcdv A outer s H vs Q E hr h=>?_)
 ·obtain⟨L,R,rfl,_⟩:=h;rfl
 ·obtain⟨L,R,rfl,EE,hl,q⟩:=h;refine⟨[some (.str (tx (fH L R))),none],_,rfl,(L2.jK.h (aG (zB (i:=1) kM.nd rfl (Or.inl rfl) (own:=["letter"]) (ns:=["state"]) (caps:=[0]) rfl ⟨rfl,by decide +kernel,by decide +kernel,by decide +kernel⟩ (.cons rfl rfl (.inl rfl) .nil) (vG (jE (by rfl) B.LETTERS)) (λC s H fp pn=>(bb (i:=0) (show List.Nodup ((["letter"]:List Str)++(["state"]:List Str)) by decide +kernel) rfl (Or.inl rfl))) (λC s H fp pn=>kh) (λC s H fp pn=>(a8 IL (hr.mono (by decide)) (by rfl) (aD (aY 1) (aD (aY 0) aC)))))
   (aM (bB (iJ (own:=["ahead"]) (ns:=[]) (caps:=[]) rfl ⟨rfl,by decide +kernel,by decide +kernel,by decide +kernel⟩ .nil (dw (aY 1)) (λC s H fp pn=>(bb (i:=0) (show List.Nodup ((["ahead"]:List Str)++([]:List Str)) by decide +kernel) rfl (Or.inl rfl))) (λC s H fp pn=>(vH (ac vK (aY 0) fN (bG _)))) (λC s H fp pn=>(aY 0))))))),?_⟩
  nofun;rw[pj];refine⟨by decide +kernel,Ab (λi ys σ H'=>a6 H H'/\ys=([97,98,99,100].take i).map (λc=>oH (ck L R c))/\∃x0,σ=[x0,some (.str (tx (fH L R)))]) ⟨a6.refl _,rfl,_,rfl⟩ ?_ (by rw[k9];exact jw (by decide)) ?_ ?_⟩
  ·rintro i ys σ H' ⟨_,rfl,_⟩;simp;lia
  ·rintro i c ys σ H1 N hc ⟨s1,rfl,x0,rfl⟩ hN;have h1:[97,98,99,100][i]? = some c:=by simpa [tx] using hc
   have hc':jH c:=by
    have:=bP h1;simp only[aH,c6,or_false] at this;exact this
   nofun;refine⟨L,R,c,rfl,hc',EE,hl,λH2 s2=>hN _ _ _ ⟨s1.trans s2,?_,_,rfl⟩⟩;rw[bJ,h1,aN];rfl
  ·rintro ys σ H1 p ⟨s1,rfl,x0,rfl⟩ np;have e4:(tx [97,98,99,100]).cps.size=4:=by rw[k9];rfl
   rw[e4];have s2:=s1.trans ((a6.refl H1).new (o:=.lst (([97,98,99,100].take 4).map (λc=>oH (ck L R c)))) np);have h2:upd H1 p (.lst (([97,98,99,100].take 4).map (λc=>oH (ck L R c)))) p=some (.lst ([97,98,99,100].map (λc=>oH (ck L R c)))):=aO;generalize upd H1 p (.lst (([97,98,99,100].take 4).map (λc=>oH (ck L R c))))=H2 at s2 h2 ⊢;refine⟨p,rfl,⟨_,cL.of h2⟩,iF (xs:=[97,98,99,100].map (λc=>oH (ck L R c))) (λi ys σ H'=>H'=H2/\ys=(([97,98,99,100].take i).filterMap (ck L R)).map Gg/\∃x0,σ=[x0]) ⟨rfl,rfl,_,rfl⟩ ?_ (jw (by simp)) ?_ ?_⟩
   ·rintro i ys σ H' ⟨rfl,rfl,_⟩;refine⟨cL.of h2,?_⟩;rw[aB];exact av (iu _ _) (by rw[bV];lia)
   ·rintro i x ys σ H' N hx ⟨rfl,rfl,x0,rfl⟩ hN;obtain⟨c,hc,rfl⟩:=fP hx;have et:[97,98,99,100].take (i+1)=[97,98,99,100].take i++[c]:=by rw[bJ,hc];rfl
    nofun;refine⟨trivial,?_⟩;cases hg:ck L R c with
    | none=>exact fx (λz=>z rfl) (hN _ _ _ ⟨rfl,by rw[et,gB];simp[hg],_,rfl⟩)
    | some p=>
     obtain⟨L',R'⟩:=p;exact kj (λz=>nomatch z) (hN _ _ _ ⟨rfl,by rw[et,gB];simp[hg,Gg,oH],_,rfl⟩)
   ·rintro ys σ H' p2 ⟨rfl,rfl,_⟩ np2;exact q p2 _ (s2.free np2) (s2.trans ((a6.refl _).new np2)) aO
def zh (E:Fn K mg "ends_from" dI ["state","rows","known"]):eQ P w K mg base 5 "ends_from" dI ["state","rows","known"] (nC 0):=E.mk' λf fd F=>by
 refine F.okS j0 (λvs H Q E h=>?_) (λcdv A outer s H vs Q E hr h=>?_)
 ·obtain⟨L,R,m,d,kvs,rfl,_⟩:=h;rfl
 ·obtain⟨L,R,m,d,kvs,rfl,hm,_⟩:=h;lia
def qF (B:oU mg) {n:Nat} (E:Fn K mg "ends_from" dI ["state","rows","known"]) (ID:eQ P w K mg base 2 "can_end" gI ["state","rows"] nD) (IG:eQ P w K mg base 4 "next_states" eC ["state"] ul) (IW:eQ P w K mg base (5+n) "ends_from" dI ["state","rows","known"] (nC n)):eQ P w K mg base (5+n+1) "ends_from" dI ["state","rows","known"] (nC (n+1)):=E.mk' λf fd F=>by
 refine F.okS j0 (λvs H Q E h=>?_) (λcdv A outer s H vs Q E hr h=>?_)
 ·obtain⟨L,R,m,d,kvs,rfl,_⟩:=h;rfl
 ·obtain⟨L,R,m,d,kvs,rfl,hm,m12,EE,hl,hd,mo,hb,q⟩:=h;refine⟨[some (.str (tx (fH L R))),some (.int (m:Nat)),some (.ref d),none],_,rfl,(L2.jK.h (aG (cF (gP (fj (a8 ID (hr.mono (by lia)) (by rfl) (aD (aY 0) (aD (aY 1) aC)))))
   (aM (bB aF))
   bU)
   (aG (cF (ac dX (aY 1) aF (bG _))
   (aM (bB aF))
   bU)
   (aG (ai (i:=3) j0.nd rfl (Or.inl rfl) (fM (aD (aY 0) (aD (aY 1) aC))))
   (aG (cF (tF (oM hr) (aY 3) (aY 2))
   (aM (lw (oM hr) (aY 2) (aY 3) (ah (uF rfl) (by rfl) B.sum PyProof.Rows.boot_sum (gw (iJ (own:=["ahead"]) (ns:=["known","rows"]) (caps:=[2,1]) rfl ⟨rfl,by decide +kernel,by decide +kernel,by decide +kernel⟩ (.cons rfl rfl (.inl rfl) (.cons rfl rfl (.inl rfl) .nil)) (dw (a8 IG (hr.mono (by lia)) (by rfl) (aD (aY 0) aC))) (λC s H fp pn=>(bb (i:=0) (show List.Nodup ((["ahead"]:List Str)++(["known","rows"]:List Str)) by decide +kernel) rfl (Or.inl rfl))) (λC s H fp pn=>kh) (λC s H fp pn=>(a8 IW (hr.mono (by lia)) (by rfl) (aD (aY 0) (cG (aW gh (aY 2) aF) (aD (aY 1) aC)))))) aC)) rfl))
   bU)
   (aM (bB (kP (oM hr) (aY 2) (aY 3) (λ_ _=>rfl))))))))),?_⟩
  nofun;refine⟨L,R,m,rfl,by lia,by lia,_,rfl,?_⟩;by_cases hce:L.length+R.length<=2*m+1
  ·rw[Ks hce];refine fx (λz=>nomatch z) (g0 (λh0=>?_) (λh0=>?_))
   ·have m0:m=0:=by lia
    subst m0;have hp:=EE.pos;have e:dZ 0 L R=1:=by simp only[dZ];exact Ko (by lia)
    have qq:=q H kvs (a6.refl _) hd mo (by lia);rw[e] at qq;exact qq
   ·obtain⟨m',rfl⟩:∃m',m=m'+1:=⟨m - 1,by lia⟩
    have hbud:Af (m'+1)=4*Af m'+1:=rfl;refine⟨(by show 2<=sizeLine;decide),λb nb=>?_⟩;have ndb:d≠b:=bF hd nb;have s2:a6 (wo H d) (wo (upd H b (.tup [V.str (tx (fH L R)),V.int ((m'+1:Nat):Int)])) d):=sQ nb;have hd2:upd H b (.tup [V.str (tx (fH L R)),V.int ((m'+1:Nat):Int)]) d=some (.dT kvs):=by rw[a9 ndb];exact hd
    have hb2:upd H b (.tup [V.str (tx (fH L R)),V.int ((m'+1:Nat):Int)]) b=some (.tup ([(.inr (tx (fH L R)):Key),.inl ((m'+1:Nat):Int)].map kV)):=aO;generalize upd H b (.tup [V.str (tx (fH L R)),V.int ((m'+1:Nat):Int)])=H2 at s2 hd2 hb2 ⊢;nofun;refine⟨_,kI.t hd2 hb2,?_⟩;cases hv:gU kvs [.inr (tx (fH L R)),.inl ((m'+1:Nat):Int)] with
    | some v=>
     have ev:=mo.get EE hv;subst ev;refine fx (λz=>nomatch z) ⟨_,?_,q H2 kvs s2 hd2 mo (by lia)⟩;have:=kI.t hd2 hb2;rw[hv] at this;exact this
    | none=>
     refine kj rfl ⟨L,R,rfl,EE,by lia,λl H3 nl s3 h3=>?_⟩;have hd3:=s3 _ _ hd2;have hb3:=s3 _ _ hb2;have nld:l≠d:=(bF hd2 nl).symm;have nbd:b≠d:=bg ndb;refine⟨l,rfl,⟨_,cL.of h3⟩,iF (xs:=(jF L R).map Gg) (λi ys σ H'=>∃kvs',a6 (wo H3 d) (wo H' d)/\H' d=some (.dT kvs')/\iS kvs'/\kvs'.length<=kvs.length+i*Af m'/\ys=((jF L R).take i).map (λp=>V.int ((dZ m' p.1 p.2:Nat):Int))/\∃x0,σ=[x0,some (.ref d),some (.int ((m'+1:Nat):Int))])
      ⟨kvs,a6.refl _,hd3,mo,by lia,rfl,_,rfl⟩ ?_ (jw (by rw[aB];have:=mN L R;lia)) ?_ ?_⟩
     ·rintro i ys σ H' ⟨kvs',s',_,_,_,rfl,_⟩;exact⟨cL.of (xQ s' h3 nld),by rw[aB,bV];lia⟩
     ·rintro i x ys σ H' N hx ⟨kvs',s',hd',mo',hl',rfl,x0,rfl⟩ hN;obtain⟨p,hp,rfl⟩:=fP hx;obtain⟨c,hc,hg⟩:=zt (bP hp);obtain⟨L',R'⟩:=p;have hgl:=CP hg;have hi:i<4:=aU (aJ.mp hp).1 (mN L R);have hmul:i*Af m'<=3*Af m':=Nat.mul_le_mul_right _ (by lia);have em:((m'+1:Nat):Int) - 1=(m':Nat):=by lia
      nofun;rw[em];refine⟨L',R',m',d,kvs',rfl,by lia,by lia,EE.go hc hg,by lia,hd',mo',by lia,λH5 kvs5 s5 h5 mo5 l5=>hN _ _ _ ⟨kvs5,s'.trans s5,h5,mo5,?_,?_,_,rfl⟩⟩
      ·rw[Nat.succ_mul];lia
      ·rw[bJ,hp,aN];rfl
     ·rintro ys σ H' p ⟨kvs',s',hd',mo',hl',rfl,x0,rfl⟩ np;rw[aB,cH];rw[aB] at hl';have hn4:=mN L R;have hmul:(jF L R).length*Af m'<=4*Af m':=Nat.mul_le_mul_right _ hn4;have npd:d≠p:=bF hd' np;have hb':=xQ s' hb3 nbd;have npb:b≠p:=bF hb' np;refine⟨p,(jF L R).map (λp=>((dZ m' p.1 p.2:Nat):Int)),rfl,cL.of (by rw[aO,bj];rfl),fits_of ?_ (by rw[aB];lia),?_⟩
      ·intro x hx;obtain⟨e,_,rfl⟩:=bI.mp hx;have h1:=qQ m' e.1 e.2;have h2:4 ^ m'<=4 ^ 12:=df (by decide) (by lia);have h3:(4:Nat) ^ 12=16777216:=by decide
       lia
      ·rw[qd,<-xE];have hd6:upd H' p (.lst ((jF L R).map (λp=>V.int ((dZ m' p.1 p.2:Nat):Int)))) d=some (.dT kvs'):=by rw[a9 npd];exact hd'
       have hb6:upd H' p (.lst ((jF L R).map (λp=>V.int ((dZ m' p.1 p.2:Nat):Int)))) b=some (.tup ([(.inr (tx (fH L R)):Key),.inl ((m'+1:Nat):Int)].map kV)):=by rw[a9 npb];exact hb'
       have s6:a6 (wo H' d) (wo (upd H' p (.lst ((jF L R).map (λp=>V.int ((dZ m' p.1 p.2:Nat):Int))))) d):=sQ np;generalize upd H' p (.lst ((jF L R).map (λp=>V.int ((dZ m' p.1 p.2:Nat):Int))))=H6 at hd6 hb6 s6 ⊢;have hlp:=dc kvs' [(.inr (tx (fH L R)):Key),.inl ((m'+1:Nat):Int)] (V.int ((dZ (m'+1) L R:Nat):Int));have hb7:upd H6 d (.dT (putK kvs' [(.inr (tx (fH L R)):Key),.inl ((m'+1:Nat):Int)] (V.int ((dZ (m'+1) L R:Nat):Int)))) b=some (.tup ([(.inr (tx (fH L R)):Key),.inl ((m'+1:Nat):Int)].map kV)):=by rw[a9 nbd];exact hb6
       refine⟨_,nv.t hd6 hb6 (by show kvs'.length<16777216;lia),V.int ((dZ (m'+1) L R:Nat):Int),?_,q _ _ ?_ aO (mo'.put EE) ?_⟩
       ·have:=kI.t (H:=upd H6 d (.dT (putK kvs' [(.inr (tx (fH L R)):Key),.inl ((m'+1:Nat):Int)] (V.int ((dZ (m'+1) L R:Nat):Int))))) aO hb7;rw[mq,Ko rfl] at this;exact this
       ·rw[uN];exact s2.trans ((Ay s3).trans (s'.trans s6))
       ·lia
  ·rw[Kr hce];have e:=nY m (L:=L) (R:=R) (by lia);have qq:=q H kvs (a6.refl _) hd mo (by lia);rw[e] at qq;exact kj rfl qq
def nL (E:Fn K mg "completions" eE ["state","rows"]) (IW:eQ P w K mg base 18 "ends_from" dI ["state","rows","known"] (nC 13)):eQ P w K mg base 19 "completions" eE ["state","rows"] ur:=E.mk' λf fd F=>by
 refine F.okS nF (λvs H Q E h=>?_) (λcdv A outer s H vs Q E hr h=>?_)
 ·obtain⟨L,R,m,rfl,_⟩:=h;rfl
 ·obtain⟨L,R,m,rfl,m12,EE,hl,q⟩:=h;refine⟨[some (.str (tx (fH L R))),some (.int (m:Nat))],_,rfl,(L2.jK.h (aM (bB (a8 IW (hr.mono (by decide)) (by rfl) (aD (aY 0) (aD (aY 1) (zH wH aC))))))),?_⟩;nofun;intro p np;refine⟨L,R,m,p,[],rfl,by lia,m12,EE,hl,aO,iS.nil,by have:=Ek m m12;simpa using this,λH' kvs' s' h' mo' l'=>q H' ?_⟩;rw[uN,Az np] at s';exact s'.trans (pO _ _)
def qD (B:oU mg) (E:Fn K mg "vet_rings" fZ ["n"]) (Ig:eQ P w K mg base 2 "is_below" gF ["thing","bound"] uw):eQ P w K mg base 3 "vet_rings" fZ ["n"] uh:=E.mk' λf fd F=>by
 refine F.okS pf (λvs H Q E h=>?_) (λcdv A outer s H vs Q E hr h=>?_)
 ·obtain⟨n,rfl,_⟩:=h;rfl
 ·obtain⟨n,rfl,hn,q⟩:=h;refine⟨[some (.int (n:Nat))],_,rfl,(L2.jK.h (aG (cF (gP (fj (a8 Ig (hr.mono (by decide)) (by rfl) (aD (aY 0) (cG (aW eI (oh (by rfl) B.MOST_RINGS) aF) aC)))))
   (aM jC)
   bU)
   (aM (bB ip)))),?_⟩
  nofun;refine⟨_,_,21,rfl,.int _,?_⟩;rw[CZ (by lia)];exact⟨_,rfl,fx (by decide) q⟩
def zi (E:Fn K mg "count" kd ["n"]) (IX:eQ P w K mg base 3 "vet_rings" fZ ["n"] uh) (IH:eQ P w K mg base 19 "completions" eE ["state","rows"] ur) (IC:eQ P w K mg base 1 "begun" i9 ["side"] ma):eQ P w K mg base 20 "count" kd ["n"] qp:=E.mk' λf fd F=>by
 refine F.okS yp (λvs H Q E h=>?_) (λcdv A outer s H vs Q E hr h=>?_)
 ·obtain⟨n,rfl,_⟩:=h;rfl
 ·obtain⟨n,rfl,hn,q⟩:=h;refine⟨[some (.int n)],_,rfl,(L2.jK.h (aG (gY (a8 IX (hr.mono (by decide)) (by rfl) (aD (aY 0) aC)))
   (aM (bB (a8 IH (hr.mono (by decide)) (by rfl) (dR (a8 IC (hr.mono (by decide)) (by rfl) (bc bQ aC)) (aD (aY 0) aC))))))),?_⟩
  nofun;refine⟨n,rfl,by lia,?_⟩;rw[HL];exact⟨108,rfl,[0],[],n,rfl,hn,EE.one,by simp;lia,λH' s'=>q H' s'⟩
def rM (B:oU mg) (E:Fn K mg "codes_of" gH ["side","n"]) (IC:eQ P w K mg base 1 "begun" i9 ["side"] ma) (IL:eQ P w K mg base 3 "step" kN ["state","letter"] pX) (ID:eQ P w K mg base 2 "can_end" gI ["state","rows"] nD):eQ P w K mg base 4 "codes_of" gH ["side","n"] o0:=E.mk' λf fd F=>by
 refine F.okS db (λvs H Q E h=>?_) (λcdv A outer s H vs Q E hr h=>?_)
 ·obtain⟨b,n,rfl,_⟩:=h;rfl
 ·obtain⟨b,n,rfl,hn,q⟩:=h;refine⟨[some (.str (sd b)),some (.int n),none,none,none,none,none,none,none],_,rfl,(L2.jK.h (aG (ai (i:=2) db.nd rfl (Or.inl rfl) (cw (mL (fM (bc bQ (dR (a8 IC (hr.mono (by decide)) (by rfl) (aD (aY 0) aC)) aC))) aC)))
   (aG (di bH rfl (tH (by rfl) B.range (cG (aW gh (aY 1) aF) (mX (eX eU aF) (mX (eX eU aF) aC)))) (bb (i:=3) db.nd rfl (Or.inl rfl))
   (aG (ai (i:=4) db.nd rfl (Or.inl rfl) (cw aC))
    (aG (di bH rfl (dw (aY 2)) (lx (n:=2) rfl (d9 (bb (i:=5) db.nd rfl (Or.inl rfl)) (d9 (bb (i:=6) db.nd rfl (Or.inl rfl)) jD)))
    (aM (di bH rfl (vG (jE (by rfl) B.LETTERS)) (bb (i:=7) db.nd rfl (Or.inl rfl))
     (aG (ai (i:=8) db.nd rfl (Or.inl rfl) (a8 IL (hr.mono (by decide)) (by rfl) (aD (aY 6) (aD (aY 7) aC))))
      (aM (cF (QW.pt (kf (ac vK (aY 8) fN (bG _)) (jA (fj (a8 ID (hr.mono (by decide)) (by rfl) (aD (aY 8) (aD (aY 3) aC)))))))
      (aM (gY (io bf cz cy jG (aY 4) (mL (fM (cG (aW cY (aY 5) (aY 7)) (aD (aY 8) aC))) aC))))
      bU))))))
    (aM (ai (i:=2) db.nd rfl (Or.inl rfl) (aY 4))))))
   (aM (bB (iJ (own:=["code","state"]) (ns:=[]) (caps:=[]) rfl ⟨rfl,by decide +kernel,by decide +kernel,by decide +kernel⟩ .nil (dw (aY 2)) (λC s H fp pn=>(zE (K:=K) (n:=2) rfl rfl (d9 (bb (i:=0) (show List.Nodup ((["code","state"]:List Str)++([]:List Str)) by decide +kernel) rfl (Or.inl rfl)) (d9 (bb (i:=1) (show List.Nodup ((["code","state"]:List Str)++([]:List Str)) by decide +kernel) rfl (Or.inl rfl)) jD)))) (λC s H fp pn=>kh) (λC s H fp pn=>(aY 0)))))))),?_⟩
  nofun;refine⟨Fg b,by rw[HH],?_⟩;rw[p9];have two:(2:Nat)<=sizeLine:=by decide
  have one:(1:Nat)<=sizeLine:=by decide
  refine⟨two,λp0 n0=>⟨one,λl0 nl0=>?_⟩⟩;have s0:=(a6.refl H).new (o:=.tup [.str (Str.ofString ""),.str (tx (fH (bL b) (bR b)))]) n0;have h0:upd H p0 (.tup [.str (Str.ofString ""),.str (tx (fH (bL b) (bR b)))]) p0=some (.tup [.str (Str.ofString ""),.str (tx (fH (bL b) (bR b)))]):=aO;have s1:=(a6.refl _).new (o:=.lst [.ref p0]) nl0;refine⟨_,_,rfl,⟨by lia,by lia,by lia,by lia⟩,?_⟩;rw[show ((n:Int) - 1 - -1).toNat=n by lia];refine tm (n:=n) (λi σ H'=>∃(l:Addr) (ps:List m6) (x3 x4 x5 x6 x7 x8:Option V),σ=[some (.str (sd b)),some (.int n),some (.ref l),x3,x4,x5,x6,x7,x8]/\a6 H H'/\H l=none/\GZ H' l ps/\C6 i (n-i) ps/\ps.length<=4 ^ i/\mW (n-i) ps=cC n (bL b) (bR b))
   ⟨l0,[([],bL b,bR b)],_,_,_,_,_,_,rfl,s0.trans s1,s0.free nl0,⟨[p0],aO,.cons (s1 _ _ (by rw[h0,Cr])) .nil⟩,C6.start b _,aE _,xJ b _⟩ ?_ ?_
  ·rintro i σ H1 hi ⟨l,ps,x3,x4,x5,x6,x7,x8,rfl,sm,nl,⟨as,hl,pa⟩,I,hlen,hall⟩;obtain⟨r,hr0⟩:∃r,n-i=r+1:=⟨n-i - 1,by lia⟩
   rw[hr0] at I hall;have er:(n:Int) - 1+(i:Int)*(-1)=(r:Nat):=by lia
   have p4:ps.length<=262144:=av hlen (av (df (by decide) (show i<=9 by lia)) (by decide));have al:=dL pa;nofun;rw[er];refine⟨bE _,λq0 nq=>?_⟩;have sq:=(a6.refl H1).new (o:=.lst []) nq;have hq0:upd H1 q0 (.lst []) q0=some (.lst []):=aO;generalize upd H1 q0 (.lst [])=H2 at sq hq0 ⊢;refine⟨⟨_,cL.of (sq _ _ hl)⟩,?_⟩;refine kU (xs:=as.map V.ref) (λj σ H3=>∃x5 x6 x7 x8:Option V,σ=[some (.str (sd b)),some (.int n),some (.ref l),some (.int r),some (.ref q0),x5,x6,x7,x8]/\a6 H1 H3/\GZ H3 q0 ((ps.take j).flatMap λp=>mB p r)) ⟨_,_,_,_,rfl,sq,⟨[],hq0,.nil⟩⟩ ?_ ?_ ?_
   ·rintro j σ H3 _ ⟨_,_,_,_,rfl,s3,_⟩;exact cL.of (s3 _ _ hl)
   ·rintro j x σ H3 hx ⟨y5,y6,y7,y8,rfl,s3,hq3⟩;obtain⟨a,ha,rfl⟩:=fP hx;obtain⟨p,hp,tp⟩:=rD pa ha;have pm:=bP hp;have jl:=(aJ.mp hp).1;have pE:=I.ee p pm;have pl:=I.len p pm;have ps':=I.sz p pm;nofun;refine⟨_,dr.of (s3 _ _ tp),rfl,?_⟩;nofun;refine⟨by decide +kernel,?_⟩;have ex:(Str.ofString "abcd").cps=rV.toArray:=by decide +kernel
    refine CS (x:=Str.ofString "abcd") (λk σ H4=>∃x7 x8:Option V,σ=[some (.str (sd b)),some (.int n),some (.ref l),some (.int r),some (.ref q0),some (.str (tx p.1)),some (.str (tx (fH p.2.1 p.2.2))),x7,x8]/\a6 H1 H4/\GZ H4 q0 (((ps.take j).flatMap λp=>mB p r)++tY p r k)) ⟨_,_,rfl,s3,by show GZ H3 q0 (_++[]);rw[b9];exact hq3⟩ ?_ ?_
    ·rintro k c σ H4 hc ⟨z7,z8,rfl,s4,bs,hb,pb⟩;rw[ex] at hc;have hc:rV[k]? = some c:=by simpa using hc
     have lc:=EZ hc;have bl:=dL pb;have bsz:bs.length<=1100000:=by
      rw[bl,aX];have h1:=nT r (ps.take j);have h2:=zk p r k;rw[bV] at h1;lia
     nofun;refine⟨p.2.1,p.2.2,c,rfl,lc,pE,by lia,λH5 s5=>?_⟩;rw[wY hc];refine⟨trivial,?_⟩;have pb5:Paired (xK H5) bs _:=Paired.mapP pb λa p z=>xK.same z s5;have hb5:=s5 _ _ hb;have s45:=s4.trans s5;cases g:ck p.2.1 p.2.2 c with
     | none=>
      have e0:iP p r c=[]:=by unfold iP;rw[g]
      rw[e0,b9];exact fx (λz=>z rfl) ⟨_,_,rfl,s45,bs,hb5,pb5⟩
     | some pr=>
      obtain⟨L',R'⟩:=pr;have lp:=km lc g;refine kj (λz=>nomatch z) ⟨L',R',r,rfl,by lia,by lia,_,rfl,?_⟩;refine g0 (λh=>?_) (λh=>?_)
      ·have h:=Kt h;have e0:iP p r c=[(p.1++[c],L',R')]:=by
        unfold iP;rw[g];exact Ko h
       rw[e0];refine⟨oV hb5,by rw[b6];exact jw (by show p.1.length+1<=900;lia),two,λt nt=>?_⟩;have st:=(a6.refl H5).new (o:=.tup [.str (tx p.1++⟨#[c]⟩),oH (some (L',R'))]) nt;have hbt:=st _ _ hb5;refine⟨_,hbt,by rw[aB,Ka];lia,_,_,rfl,(s45.trans st).new nq,bs++[t],by rw[aO];simp,?_⟩;rw[<-a7];refine ib (Paired.mapP pb5 λa p z=>(xK.same z st).upd hbt) (xK.upd (xs:=bs.map V.ref) ?_ hbt);show upd H5 t _ t=_;rw[aO,<-dY];rfl
      ·have h:¬L'.length+R'.length<=2*r+1:=λz=>h (Ks z);have e0:iP p r c=[]:=by
        unfold iP;rw[g];exact Kn h
       rw[e0,b9];exact⟨_,_,rfl,s45,bs,hb5,pb5⟩
    ·rintro σ H4 ⟨z7,z8,rfl,s4,hq4⟩;rw[show (Str.ofString "abcd").cps.size=4 by rw[ex];rfl,zm] at hq4;refine⟨_,_,_,_,rfl,s4,?_⟩;rw[bJ,hp,gq];show GZ H4 q0 (_++(mB p r++[]));rw[b9];exact hq4
   ·rintro σ H3 ⟨y5,y6,y7,y8,rfl,s3,hq3⟩;rw[aB,al,cH] at hq3;nofun;have fl:=nT r ps;refine⟨q0,_,_,_,_,_,_,_,rfl,sm.trans s3,sm.free nq,hq3,?_,?_,?_⟩
    ·rw[show n-(i+1)=r by lia];exact I.next
    ·rw[Nat.pow_succ];lia
    ·rw[show n-(i+1)=r by lia,qf];exact hall
  ·rintro σ H1 ⟨l,ps,x3,x4,x5,x6,x7,x8,rfl,sm,nl,⟨as,hl,pa⟩,I,hlen,hall⟩;rw[mF] at I hall;have p4:ps.length<=262144:=av hlen (av (df (by decide) hn) (by decide));have al:=dL pa;have hm:ps.map (·.1)=cC n (bL b) (bR b):=by rw[<-vd I];exact hall
   nofun;refine⟨⟨_,cL.of hl⟩,?_⟩;refine iF (xs:=as.map V.ref) (λk ys σ H'=>H'=H1/\ys=((ps.take k).map (·.1)).map (λcs=>V.str (tx cs))/\∃x0 x1,σ=[x0,x1]) ⟨rfl,rfl,_,_,rfl⟩ ?_ (by rw[aB,Ka];lia) ?_ ?_
   ·rintro k ys σ H' ⟨rfl,rfl,_⟩;exact⟨cL.of hl,by simp;lia⟩
   ·rintro k x ys σ H' N hx ⟨rfl,rfl,x0,x1,rfl⟩ hN;obtain⟨a,ha,rfl⟩:=fP hx;obtain⟨p,hp,tp⟩:=rD pa ha;nofun;refine⟨_,dr.of tp,rfl,?_⟩;nofun;refine hN _ _ _ ⟨rfl,?_,_,_,rfl⟩;rw[bJ,hp];simp
   ·rintro ys σ H' t ⟨rfl,rfl,_⟩ nt;rw[aB,al,cH,hm];exact q t _ (sm.free nt) (sm.trans ((a6.refl _).new nt)) aO
def wW (B:oU mg) (E:Fn K mg "listed" iy ["side","n"]) (Ih:eQ P w K mg base 4 "codes_of" gH ["side","n"] o0) (l8:eQ P w K mg base 5 "decoded" gG ["side","code"] sh):eQ P w K mg base 6 "listed" iy ["side","n"] qj:=E.mk' λf fd F=>by
 refine F.okS wA (λvs H Q E h=>?_) (λcdv A outer s H vs Q E hr h=>?_)
 ·obtain⟨b,n,rfl,_⟩:=h;rfl
 ·obtain⟨b,n,rfl,hn,q⟩:=h;refine⟨[some (.str (sd b)),some (.int n)],_,rfl,(L2.jK.h (aM (bB (iJ (own:=["code"]) (ns:=["side"]) (caps:=[0]) rfl ⟨rfl,by decide +kernel,by decide +kernel,by decide +kernel⟩ (.cons rfl rfl (.inl rfl) .nil) (dw (a8 Ih (hr.mono (by decide)) (by rfl) (aD (aY 0) (aD (aY 1) aC)))) (λC s H fp pn=>(bb (i:=0) (show List.Nodup ((["code"]:List Str)++(["side"]:List Str)) by decide +kernel) rfl (Or.inl rfl))) (λC s H fp pn=>kh) (λC s H fp pn=>(a8 l8 (hr.mono (by decide)) (by rfl) (aD (aY 1) (aD (aY 0) aC)))))))),?_⟩;nofun;refine⟨b,n,rfl,hn,λl H1 nl s1 hl=>⟨l,rfl,⟨_,cL.of hl⟩,?_⟩⟩;have sl:(cC n (bL b) (bR b)).length<=262144:=by
   rw[ka];exact av (qQ n _ _) (av (df (by decide) hn) (by decide))
  refine iF (xs:=(cC n (bL b) (bR b)).map λcs=>V.str (tx cs)) (λk ys σ H'=>a6 H1 H'/\(∃as,ys=as.map V.ref/\vg H' b as ((cC n (bL b) (bR b)).take k))/\ys.length=k/\∃x0,σ=[x0,some (.str (sd b))]) ⟨a6.refl _,⟨[],rfl,.nil⟩,rfl,_,rfl⟩ ?_ (by rw[aB,Ka];lia) ?_ ?_
  ·rintro k ys σ H' ⟨s2,_,e,_⟩;exact⟨cL.of (s2 _ _ hl),by lia⟩
  ·rintro k x ys σ H' N hx ⟨s2,⟨as,rfl,ml⟩,el,x0,rfl⟩ hN;obtain⟨cs,hc,rfl⟩:=fP hx;obtain⟨C,_,_⟩:=lj (by lia) hc;nofun;refine⟨b,cs,rfl,C,λm o H3 s3 hm=>hN _ _ _ ⟨s2.trans s3,⟨as++[m],by simp,?_⟩,by simp at el ⊢;lia,_,rfl⟩⟩;rw[bJ,hc];exact ib (ml.same s3) ⟨o,hm⟩
  ·rintro ys σ H' t ⟨s2,⟨as,rfl,ml⟩,el,_⟩ nt;rw[aB,cH] at ml;have st:=(a6.refl H').new (o:=.lst (as.map V.ref)) nt;exact q t as _ ((s1.trans s2).free nt) (s1.trans (s2.trans st)) aO (ml.same st)
def tW (B:oU mg) (E:Fn K mg "_law_cell_at" iE ["_law_script","_law_k"]):eQ P w K mg base 1 "_law_cell_at" iE ["_law_script","_law_k"] (uv K):=E.mk' λf fd F=>by
 refine F.okS sv (λvs H Q E h=>?_) (λcdv A outer s H vs Q E hr h=>?_)
 ·obtain⟨a,ns,k,rfl,_⟩:=h;rfl
 ·obtain⟨a,ns,k,rfl,hS,q⟩:=h;refine⟨[some (.ref a),some (.int k)],_,rfl,(L2.jK.h (aG (cF (ac kS (aY 1) (ah bq (by rfl) B.len ae (aD (aY 0) aC)) (bG _))
   (aM (bB (bW cI (aY 0) (aY 1) (λ_ _=>rfl))))
   bU)
   (aM (bB (aW eI (aW kR aF (aY 1)) aF))))),?_⟩
  nofun;refine⟨_,.inl hS,?_⟩;rw[aB];refine g0 (λh=>?_) (λh=>?_)
  ·have hk:k<ns.length:=by lia
   refine⟨_,.int (ns.getD k 0),hS,ez ?_,q _⟩;simp[ar,hk]
  ·exact⟨.inl ⟨by decide,by decide⟩,q _⟩
def zg (E:Fn K mg "_law_mixed" kc ["_law_cell"]):eQ P w K mg base 1 "_law_mixed" kc ["_law_cell"] qi:=E.mk' λf fd F=>by
 refine F.okS qu (λvs H Q E h=>?_) (λcdv A outer s H vs Q E hr h=>?_)
 ·obtain⟨n,rfl,_⟩:=h;rfl
 ·obtain⟨n,rfl,q⟩:=h;refine⟨[some (.int n),none],_,rfl,(L2.jK.h (aG (ai (i:=1) qu.nd rfl (Or.inl rfl) (aW iM (aW kR (aW eI (aW iM (aY 0) (aW tN aF aF)) aF) aF) (aW gh (aW tN aF aF) aF)))
   (aM (bB (aW gQ (aW iM (aW kR (aY 1) aF) (aW gh (aW tN aF aF) aF)) aF))))),?_⟩
  nofun;refine⟨⟨by decide,by decide,by decide⟩,by decide,.inr ⟨by decide,by decide⟩,⟨by decide,by decide,by decide⟩,by decide,.inr ⟨by decide,by decide⟩,⟨by decide,by decide,by decide⟩,by decide,⟨by decide,by decide⟩,?_⟩;have e:((2:Int) ^ Int.toNat 61 - 1)=2305843009213693951:=by decide
  rw[e];refine q _ ?_ ?_<;>lia
def tP (E:Fn K mg "_law_rest_of" gz ["_law_cell"]) (JL:eQ P w K mg base 1 "_law_mixed" kc ["_law_cell"] qi):eQ P w K mg base 2 "_law_rest_of" gz ["_law_cell"] uj:=E.mk' λf fd F=>by
 refine F.okS lM (λvs H Q E h=>?_) (λcdv A outer s H vs Q E hr h=>?_)
 ·obtain⟨n,rfl,_⟩:=h;rfl
 ·obtain⟨n,rfl,q⟩:=h;refine⟨[some (.int n),none],_,rfl,(L2.jK.h (aG (cF (ac dX (aW iM (aY 0) aF) aF (bG _))
   (aM (bB (a8 JL (hr.mono (by decide)) (by rfl) (cG (aW gQ (aY 0) aF) aC))))
   bU)
   (aG (ai (i:=1) lM.nd rfl (Or.inl rfl) aF)
   (aG (kg bH (ac vL (aY 1) (aW gQ (aY 0) aF) (bG _))
   (aM (ai (i:=1) lM.nd rfl (Or.inl rfl) (aW kR aF (aY 1)))))
   (aM (bB (aW eI (aW gQ (aY 0) aF) (aW kR (aY 1) (a8 JL (hr.mono (by decide)) (by rfl) (cG (aW gQ (aY 0) aF) aC)))))))))),?_⟩
  nofun;refine⟨by decide,g0 (λh=>⟨⟨by decide,by decide⟩,_,rfl,λm _ _=>q m⟩) (λh=>?_)⟩;refine⟨λm σ H3=>∃t:Int,σ=[some (.int n),some (.int t)]/\1<=t/\m=(n / 2+1-t).toNat/\H3=H,⟨_,1,rfl,by decide,rfl,rfl⟩,?_⟩;rintro m σ H3 ⟨t,rfl,ht,rfl,rfl⟩;nofun;refine⟨⟨by decide,by decide⟩,g0 (λh=>?_) (λh=>?_)⟩
  ·refine⟨_,λ_ _ z=>z,.inl ⟨by decide,by decide⟩,_,?_,4*t,rfl,by lia,rfl,rfl⟩;lia
  ·refine⟨⟨by decide,by decide⟩,⟨by decide,by decide⟩,_,rfl,λm h1 h2=>?_⟩;nofun;exact⟨.inr ⟨by lia,by lia⟩,q _⟩
def tT (B:oU mg) (E:Fn K mg "_law_crosses" iB ["_law_side","_law_order"]):eQ P w K mg base 1 "_law_crosses" iB ["_law_side","_law_order"] Cq:=E.mk' λf fd F=>by
 refine F.okS fT (λvs H Q E h=>?_) (λcdv A outer s H vs Q E hr h=>?_)
 ·obtain⟨z,a,o,rfl,_⟩:=h;rfl
 ·obtain⟨z,a,o,rfl,ha,hl,q⟩:=h;refine⟨[some (.str z),some (.ref a),none,none,none,none,none,none],_,rfl,(L2.jK.h (aG (ai (i:=2) fT.nd rfl (Or.inl rfl) (aW iN (aW iN (cw (bc aF aC)) (dD jc (by rfl) B.list cf (aD (aY 1) aC))) (cw (cG (aW eI (ah bq (by rfl) B.len ae (aD (aY 1) aC)) aF) aC))))
   (aG (di bH rfl (tJ (by rfl) B.range (bc aF aC)) (bb (i:=3) fT.nd rfl (Or.inl rfl))
   (aG (ai (i:=4) fT.nd rfl (Or.inl rfl) (cw aC))
    (aG (di bH rfl (tI (by rfl) B.range (aD (aY 3) (cG (aW gh (ah bq (by rfl) B.len ae (aD (aY 2) aC)) aF) (bc aF aC)))) (bb (i:=5) fT.nd rfl (Or.inl rfl))
    (aM (gY (io bf cz cy jG (aY 4) (mL (fM (dR (ah (pF rfl) (by rfl) B.min kD (bT (bW cI (aY 2) (aY 5) (λ_ _=>rfl)) (bT (bW cI (aY 2) (aW eI (aY 5) aF) (λ_ _=>rfl)) aC))) (dR (ah (pG rfl) (by rfl) B.max fz (bT (bW cI (aY 2) (aY 5) (λ_ _=>rfl)) (bT (bW cI (aY 2) (aW eI (aY 5) aF) (λ_ _=>rfl)) aC))) aC))) aC)))))
    (aM (di bH rfl (dw (aY 4)) (bb (i:=6) fT.nd rfl (Or.inl rfl))
    (aM (di bH rfl (dw (aY 4)) (bb (i:=7) fT.nd rfl (Or.inl rfl))
     (aM (cF (tG kS kS kS (bW fV (aY 6) aF (λ_ _=>rfl)) (bW fV (aY 7) aF (λ_ _=>rfl)) (bW fV (aY 6) aF (λ_ _=>rfl)) (bW fV (aY 7) aF (λ_ _=>rfl)))
      (aM (bB ip))
      bU)))))))))
   (aM (bB ip))))),?_⟩
  nofun;have two:(2:Nat)<=sizeLine:=by decide
  have one:(1:Nat)<=sizeLine:=by decide
  refine⟨one,λp0 n0=>?_⟩;have s0:=(a6.refl H).new (o:=.lst [V.int 0]) n0;have hp0:upd H p0 (.lst [V.int 0]) p0=some (.lst [V.int 0]):=aO;generalize upd H p0 (.lst [V.int 0])=H0 at s0 hp0 ⊢;have ha0:H0 a=some (.tup (o.map V.int)):=s0 _ _ ha;refine⟨_,.inr (dr.of ha0),λl1 n1=>?_⟩;have s1:=(a6.refl H0).new (o:=.lst (o.map V.int)) n1;refine n8 (s1 _ _ hp0) aO (by simp;lia) λp2 H2 n2 s2 h2=>?_;have s02:=s0.trans (s1.trans s2);refine⟨_,.inr (dr.of (s02 _ _ ha)),one,λp3 n3=>?_⟩;rw[aB];have s3:=(a6.refl H2).new (o:=.lst [V.int ((o.length:Int)+1)]) n3;refine n8 (s3 _ _ h2) aO (by simp;lia) λrd H4 n4 s4 h4=>?_;have s04:=s02.trans (s3.trans s4);have erd:[V.int 0]++o.map V.int++[V.int ((o.length:Int)+1)]=(dP o).map V.int:=by simp[dP]
  rw[erd] at h4;have hrl:(dP o).length=o.length+2:=by simp[dP]
  have rdat:∀k:Nat,k<o.length+2->pL ((dP o).map V.int) (k:Int)=some (V.int ((dP o).getD k 0)):=λk hk=>ez (by
   rw[ar,aI (by lia),cA,aI (by lia)];rfl)
  clear erd h2 hp0 ha0;refine⟨by decide,by decide,?_⟩;refine kn (n:=Int.toNat 2) (λi σ H'=>∃(x3 x4 x5 x6 x7:Option V),σ=[some (.str z),some (.ref a),some (.ref rd),x3,x4,x5,x6,x7]/\a6 H4 H'/\∀t,t<i->pQ o t=false) ⟨_,_,_,_,_,rfl,a6.refl _,λt ht=>absurd ht (Nat.not_lt_zero t)⟩ ?_ ?_
  ·rintro i σ H5 hi ⟨x3,x4,x5,x6,x7,rfl,s5,hno⟩;have hi2:i<2:=hi;have h5:=s5 _ _ h4;generalize hnn:(o.length+2-i) / 2=nn;nofun;rw[Int.zero_add];refine⟨bE _,λbw nbw=>?_⟩;have s6:=(a6.refl H5).new (o:=.lst []) nbw;have hb6:upd H5 bw (.lst []) bw=some (.lst []):=aO;generalize upd H5 bw (.lst [])=H6 at s6 hb6 ⊢;refine⟨_,.inl (cL.of (s6 _ _ h5)),_,_,rfl,?_⟩;rw[aB,hrl];refine⟨⟨by lia,by lia,by lia,by lia⟩,?_⟩;have en:((((o.length+2:Nat):Int) - 1-(i:Int)+1) / 2).toNat=nn:=by lia
   rw[en];refine tq (λj σ H'=>∃(x5 x6 x7:Option V),σ=[some (.str z),some (.ref a),some (.ref rd),some (.int (i:Int)),some (.ref bw),x5,x6,x7]/\a6 H5 H'/\An H' bw (mV (dP o) i j)) ⟨_,_,_,rfl,s6,⟨[],hb6,.nil⟩⟩ ?_ ?_
   ·rintro j σ H7 hj ⟨x5,x6,x7,rfl,s7,as,hbw,prs⟩;have h7:=s7 _ _ h5;have hal:as.length=(mV (dP o) i j).length:=dL prs;have hbl:(mV (dP o) i j).length=j:=by simp[mV]
    have k1:(i:Int)+(j:Int)*2=((i+j*2:Nat):Int):=by lia
    have k2:((i+j*2:Nat):Int)+1=((i+j*2+1:Nat):Int):=by lia
    have r1:=rdat (i+j*2) (by lia);have r2:=rdat (i+j*2+1) (by lia);nofun;rw[k1,k2];refine⟨oV hbw,_,_,cL.of h7,r1,_,_,cL.of h7,r2,_,_,rfl,_,_,cL.of h7,r1,_,_,cL.of h7,r2,_,_,rfl,two,λt nt=>?_⟩;have ntb:bw≠t:=bF hbw nt;refine⟨as.map V.ref,by rw[a9 ntb];exact hbw,dC (by rw[aB];lia),_,_,_,rfl,(s7.trans ((a6.refl _).new nt)).new nbw,?_⟩;have ebw:mV (dP o) i (j+1)=mV (dP o) i j++[FD (dP o) (i+j*2)]:=by
     unfold mV;rw[fQ,aN];rfl
    have em:FD (dP o) (i+j*2)=((if (dP o).getD (i+j*2+1) 0<(dP o).getD (i+j*2) 0 then (dP o).getD (i+j*2+1) 0 else (dP o).getD (i+j*2) 0),(if (dP o).getD (i+j*2+1) 0 > (dP o).getD (i+j*2) 0 then (dP o).getD (i+j*2+1) 0 else (dP o).getD (i+j*2) 0)):=by
     unfold FD;generalize (dP o).getD (i+j*2) 0=u;generalize (dP o).getD (i+j*2+1) 0=v;have e1:min u v=if v<u then v else u:=by rw[Int.min_def];split<;>split<;>lia
     have e2:max u v=if v > u then v else u:=by rw[Int.max_def];split<;>split<;>lia
     rw[e1,e2]
    rw[ebw,em];exact xI hbw prs nt
   ·rintro σ H7 ⟨x5,x6,x7,rfl,s7,as,hbw,prs⟩;have hal:as.length=(mV (dP o) i nn).length:=dL prs;have etr:pQ o i=xP (mV (dP o) i nn):=by unfold pQ;rw[hnn]
    generalize mV (dP o) i nn=bs at prs hal etr;have hit:∀a∈bs,∀b∈bs,x2 a b=true->uC o=true:=λu hu v hv huv=>by
     have:pQ o i=true:=by
      rw[etr];unfold xP;exact List.any_eq_true.mpr ⟨u,hu,List.any_eq_true.mpr ⟨v,hv,huv⟩⟩
     unfold uC;have:i=0\/i=1:=by lia
     rcases this with rfl | rfl
     ·rw[‹pQ o 0=true›];rfl
     ·rw[‹pQ o 1=true›,Bool.or_true]
    nofun;refine⟨⟨_,cL.of hbw⟩,kU (xs:=as.map V.ref) (λj σ H'=>∃(x6 x7:Option V),σ=[some (.str z),some (.ref a),some (.ref rd),some (.int (i:Int)),some (.ref bw),x5,x6,x7]/\H'=H7/\∀u∈bs.take j,bs.any (λv=>x2 u v)=false) ⟨_,_,rfl,rfl,λu hu=>by simp at hu⟩ (λj σ H' _ ⟨_,_,_,e,_⟩=>by rw[e];exact cL.of hbw) ?_ ?_⟩
    ·rintro j x σ H' hx ⟨x6,x7,rfl,rfl,hnj⟩;obtain⟨aj,haj,rfl⟩:=fP hx;obtain⟨u,huj,hu⟩:=L2.iK prs haj;have etk:bs.take (j+1)=bs.take j++[u]:=by rw[bJ,huj];rfl
     nofun;refine⟨⟨_,cL.of hbw⟩,kU (xs:=as.map V.ref) (λk σ H''=>∃(x7:Option V),σ=[some (.str z),some (.ref a),some (.ref rd),some (.int (i:Int)),some (.ref bw),x5,some (.ref aj),x7]/\H''=H'/\∀v∈bs.take k,x2 u v=false) ⟨_,rfl,rfl,λv hv=>by simp at hv⟩ (λk σ H'' _ ⟨_,_,e,_⟩=>by rw[e];exact cL.of hbw) ?_ ?_⟩
     ·rintro k y σ H'' hy ⟨x7,rfl,rfl,hnk⟩;obtain⟨ak,hak,rfl⟩:=fP hy;obtain⟨v,hvk,hv⟩:=L2.iK prs hak;have etk2:bs.take (k+1)=bs.take k++[v]:=by rw[bJ,hvk];rfl
      have hu':H'' aj=some (.tup [V.int u.1,V.int u.2]):=hu;have hv':H'' ak=some (.tup [V.int v.1,V.int v.2]):=hv;have nx:x2 u v=false->∃(x7:Option V),[some (V.str z),some (V.ref a),some (V.ref rd),some (V.int (i:Int)),some (V.ref bw),x5,some (V.ref aj),some (V.ref ak)]=[some (.str z),some (.ref a),some (.ref rd),some (.int (i:Int)),some (.ref bw),x5,some (.ref aj),x7]/\H''=H''/\∀v∈bs.take (k+1),x2 u v=false:=λhz=>⟨_,rfl,rfl,λw hw=>by
       rw[etk2] at hw;rcases aL.mp hw with h | h
       ·exact hnk w h
       ·have:w=v:=by simpa using h
        subst this;exact hz⟩
      nofun;refine⟨_,_,dr.of hu',rfl,_,_,dr.of hv',rfl,?_⟩;rw[BG];by_cases c1:u.1<v.1
      ·refine⟨_,rfl,kj (Ks c1) ⟨_,_,dr.of hu',rfl,?_⟩⟩;rw[BG];by_cases c2:v.1<u.2
       ·refine⟨_,rfl,kj (Ks c2) ⟨_,_,dr.of hv',rfl,?_⟩⟩;rw[BG];by_cases c3:u.2<v.2
        ·have ht:x2 u v=true:=by unfold x2;rw[Ks c1,Ks c2,Ks c3];rfl
         have ec:=hit u (bP huj) v (bP hvk) ht;rw[ec] at q;exact⟨_,rfl,kj (Ks c3) (q _ (s04.trans (s5.trans s7)))⟩
        ·exact⟨_,rfl,fx (by rw[Kr c3];exact λz=>nomatch z) (nx (by unfold x2;rw[Kr c3,k6,k6]))⟩
       ·exact⟨_,rfl,fx (by rw[Kr c2];exact λz=>nomatch z) (nx (by unfold x2;rw[Kr c2,k5,k6]))⟩
      ·exact⟨_,rfl,fx (by rw[Kr c1];exact λz=>nomatch z) (nx (by unfold x2;rw[Kr c1,k5]))⟩
     ·rintro σ H'' ⟨x7,rfl,rfl,hnk⟩;rw[aB,hal,cH] at hnk;refine⟨_,_,rfl,rfl,λw hw=>?_⟩;rw[etk] at hw;rcases aL.mp hw with h | h
      ·exact hnj w h
      ·have:w=u:=by simpa using h
       subst this;exact dg.mpr λv hv=>by rw[hnk v hv];exact λz=>nomatch z
    ·rintro σ H' ⟨x6,x7,rfl,rfl,hnj⟩;rw[aB,hal,cH] at hnj;refine⟨_,_,_,_,_,rfl,s5.trans s7,λt ht=>?_⟩;rcases fA t i with h | h
     ·exact hno t h
     ·have:t=i:=by lia
      subst this;rw[etr];exact dg.mpr λu hu=>by rw[hnj u hu];exact λz=>nomatch z
  ·rintro σ H5 ⟨x3,x4,x5,x6,x7,rfl,s5,hno⟩;have e0:=hno 0 (by decide);have e1:=hno 1 (by decide);have ec:uC o=false:=by unfold uC;rw[e0,e1];rfl
   rw[ec] at q;nofun;exact q _ (s04.trans s5)
def v7{H:Hp}{a0:Addr}{ns:List Int}{lo hi:Int}{Q:VK}(h:H a0=some (.lst (ns.map V.int)))(hl:ns.length<=900)(q:∀p H',a6 H H'->H' p=some (.lst ((ns.map (rn lo hi)).map V.int))->Q (.ref p) H'):
  ju (C7 K a0) (mZ 0) ud (yO (BU K) (BK (dh (mw 0) (dh (mw 1) yT))) (FA (λxs H Q=>(∃i,xs=[V.int i]/\Q (V.int i) H)\/∃k,xs=[V.bl k]/\Q (V.int (if k=true then 1 else 0)) H) (dh (yO Ft (mw 0) (mw 2)) yT))) Q [none,some (V.int lo),some (V.int hi)] H:=by
 refine iF (xs:=ns.map V.int) (λi ys σ H'=>a6 H H'/\ys=((ns.take i).map (rn lo hi)).map V.int/\∃x0,σ=[x0,some (V.int lo),some (V.int hi)]) ⟨a6.refl _,by simp,_,rfl⟩ ?_ (by rw[aB];exact jw hl) ?_ ?_
 ·rintro i ys σ H' ⟨sm,rfl,_⟩;exact⟨cL.of (sm _ _ h),by simp;lia⟩
 ·rintro i x ys σ H' N hx ⟨sm,rfl,x0,rfl⟩ hN;obtain⟨v,hv,rfl⟩:=fP hx;have etk:ns.take (i+1)=ns.take i++[v]:=by rw[bJ,hv];rfl
  nofun;refine⟨(by show 2<=sizeLine;decide),λp np=>⟨_,V.int (rn lo hi v),cL.of aO,?_,hN _ _ _ ⟨sm.trans ((a6.refl _).new np),?_,_,rfl⟩⟩⟩
  ·unfold rn;by_cases e:v=hi
   ·rw[Ko e,Ko e];rfl
   ·rw[Kn e,Kn e];rfl
  ·rw[etk];simp
 ·rintro ys σ H' p ⟨sm,rfl,_⟩ np;have eL:(ns.map V.int).length=ns.length:=aB ..;rw[eL,cH];exact q p _ (sm.trans ((a6.refl _).new np)) aO
def GI (B:oU mg) (E:Fn K mg "_law_go" wB ["_law_ends","_law_letter"]):eQ P w K mg base 1 "_law_go" wB ["_law_ends","_law_letter"] Fe:=E.mk' λf fd F=>by
 refine F.okS o7 (λvs H Q E h=>?_) (λcdv A outer s H vs Q E hr h=>?_)
 ·obtain⟨a,L,R,c,rfl,_⟩:=h;rfl
 ·obtain⟨a,L,R,c,rfl,⟨l,r,ha,hL,hR⟩,hc,EE,hl,q⟩:=h;have two:(2:Nat)<=sizeLine:=by decide
  have one:(1:Nat)<=sizeLine:=by decide
  refine⟨[some (.ref a),some (.str ⟨#[c]⟩),none,none,none,none,none],_,rfl,(L2.jK.h (aG (vF (aY 0) (lx (n:=2) rfl (d9 (bb (i:=2) o7.nd rfl (Or.inl rfl)) (d9 (bb (i:=3) o7.nd rfl (Or.inl rfl)) jD))))
   (aG (cF (ac dX (aY 1) bQ (bG _))
   (aG (ai (i:=4) o7.nd rfl (Or.inl rfl) (aW eI aF (ah (uG rfl) (by rfl) B.max fz (cG (aW iN (aY 2) (aY 3)) aC))))
    (aM (bB (fM (cG (aW iN (aY 2) (cw (aD (aY 4) aC))) (cG (aW iN (aY 3) (cw (aD (aY 4) aC))) aC))))))
   bU)
   (aG (cF (QW.pt (kf (ac dX (aY 1) bQ (bG _)) (jA (ac rG (ah bq (by rfl) B.len ae (aD (aY 3) aC)) aF (bG _)))))
   (aM (bB (fM (cG (aW iN (aY 2) (eF i8 (aY 3) (fK (eX eU aF)) fL)) (bT (eF i8 (aY 3) fL (fK (eX eU aF))) aC)))))
   bU)
   (aG (cF (QW.pt (kf (ac dX (aY 1) bQ (bG _)) (jA (ac rG (ah bq (by rfl) B.len ae (aD (aY 2) aC)) aF (bG _)))))
   (aM (bB (fM (bT (eF i8 (aY 2) fL (fK (eX eU aF))) (cG (aW iN (aY 3) (eF i8 (aY 2) (fK (eX eU aF)) fL)) aC)))))
   bU)
   (aG (cF (QW.pt (iI (ac mY (aY 1) bQ (bG _)) (iI (ac dX (ah bq (by rfl) B.len ae (aD (aY 2) aC)) aF (bG _)) (iI (ac dX (ah bq (by rfl) B.len ae (aD (aY 3) aC)) aF (bG _)) (j3 (ac dX (bW cI (aY 2) (eX eU aF) (λ_ _=>rfl)) (bW cI (aY 3) (eX eU aF) (λ_ _=>rfl)) (bG _)))))))
   (aM (bB fN))
   bU)
   (aG (ai (i:=5) o7.nd rfl (Or.inr rfl) (ah (pF rfl) (by rfl) B.min kD (bT (bW cI (aY 2) (eX eU aF) (λ_ _=>rfl)) (bT (bW cI (aY 3) (eX eU aF) (λ_ _=>rfl)) aC))))
   (aG (ai (i:=6) o7.nd rfl (Or.inr rfl) (ah (pG rfl) (by rfl) B.max fz (bT (bW cI (aY 2) (eX eU aF) (λ_ _=>rfl)) (bT (bW cI (aY 3) (eX eU aF) (λ_ _=>rfl)) aC))))
   (aM (bB (fM (gw (iJ (own:=["_law_end"]) (ns:=["_law_low","_law_high"]) (caps:=[5,6]) rfl ⟨rfl,by decide +kernel,by decide +kernel,by decide +kernel⟩ (.cons rfl rfl (.inl rfl) (.cons rfl rfl (.inl rfl) .nil)) (dw (eF i8 (aY 2) fL (fK (eX eU aF)))) (λC s H fp pn=>(bb (i:=0) (show List.Nodup ((["_law_end"]:List Str)++(["_law_low","_law_high"]:List Str)) by decide +kernel) rfl (Or.inl rfl))) (λC s H fp pn=>kh) (λC s H fp pn=>(bW (rX (K:=K) rfl) (cw (aD (aY 0) (aD (aY 1) aC))) (dD jJ (by rfl) B.int cU (eY (dQ dX (aY 0) (aY 2) (bG _)) aC)) (λ_ _=>rfl)))) (gw (iJ (own:=["_law_end"]) (ns:=["_law_low","_law_high"]) (caps:=[5,6]) rfl ⟨rfl,by decide +kernel,by decide +kernel,by decide +kernel⟩ (.cons rfl rfl (.inl rfl) (.cons rfl rfl (.inl rfl) .nil)) (dw (eF i8 (aY 3) fL (fK (eX eU aF)))) (λC s H fp pn=>(bb (i:=0) (show List.Nodup ((["_law_end"]:List Str)++(["_law_low","_law_high"]:List Str)) by decide +kernel) rfl (Or.inl rfl))) (λC s H fp pn=>kh) (λC s H fp pn=>(bW (rX (K:=K) rfl) (cw (aD (aY 0) (aD (aY 1) aC))) (dD jJ (by rfl) B.int cU (eY (dQ dX (aY 0) (aY 2) (bG _)) aC)) (λ_ _=>rfl)))) aC))))))))))))),?_⟩
  nofun;refine⟨_,dr.of ha,rfl,?_⟩;nofun;simp only[Gk,Gj,Gi,HM,fk];rcases hc with rfl | rfl | rfl | rfl
  ·refine kj rfl (n8 hL hR (by simp;lia) λp1 H1 n1 s1 h1=>?_);rw[<-aN] at h1;have z1:=EE.z1;have cl:=List.count_le_length (a:=(0:Int)) (l:=L++R.reverse);have nn:∀x∈L++R,0<=x:=λx hx=>EE.nn x (by simpa using hx);have hpos:0<(L++R).length:=by rw[z1] at cl;simp at cl ⊢;lia
   refine⟨p1,L++R,rfl,cL.of h1,hpos,λM hM hmx=>?_⟩;have eM:=GJ hM (nn M hM) hmx;nofun;refine⟨one,λp2 n2=>?_⟩;have s2:=(a6.refl H1).new (o:=.lst [V.int (1+M)]) n2;refine n8 ((s1.trans s2) _ _ hL) aO (by simp;lia) λp3 H3 n3 s3 h3=>⟨one,λp4 n4=>?_⟩
   have s4:=(a6.refl H3).new (o:=.lst [V.int (1+M)]) n4;have s04:=s1.trans (s2.trans (s3.trans s4));refine n8 (s04 _ _ hR) aO (by simp;lia) λp5 H5 n5 s5 h5=>⟨two,λb nb=>?_⟩
   have s05:=s04.trans s5;rw[eM] at h3 h5;have h3':H5 p3=some (.lst ((L++[1+mx (L++R)]).map V.int)):=by rw[Km];exact(s4.trans s5) _ _ h3
   have h5':H5 p5=some (.lst ((R++[1+mx (L++R)]).map V.int)):=by rw[Km];exact h5
   exact q _ _ (s05.trans ((a6.refl _).new nb)) ⟨b,rfl,eP.new h3' h5' nb⟩
  ·refine fx (by decide) (kj rfl ⟨_,.inl (cL.of hR),?_⟩);by_cases hR0:R=[]
   ·subst hR0;rw[ja] at q;exact fx (by simp) (fx (by decide) (kj (by decide) (q _ _ (a6.refl _) rfl)))
   ·obtain⟨R',v,rfl⟩:=be hR0;rw[lF] at q;have hR':=hR;rw[Km] at hR';refine kj (by simp) (uy hR' λp1 H1 n1 s1 h1=>n8 (s1 _ _ hL) h1 (by simp;simp at hl;lia) λp2 H2 n2 s2 h2=>md ((s1.trans s2) _ _ hR') λp3 H3 n3 s3 h3=>⟨two,λb nb=>?_⟩);have h2':H3 p2=some (.lst ((L++[v]).map V.int)):=by rw[Km];exact s3 _ _ h2
    exact q _ _ ((s1.trans (s2.trans s3)).trans ((a6.refl _).new nb)) ⟨b,rfl,eP.new h2' h3 nb⟩
  ·refine fx (by decide) (fx (by decide) (kj rfl ⟨_,.inl (cL.of hL),?_⟩));by_cases hL0:L=[]
   ·subst hL0;rw[j9] at q;exact fx (by simp) (kj (by decide) (q _ _ (a6.refl _) rfl))
   ·obtain⟨L',v,rfl⟩:=be hL0;rw[lE] at q;have hL':=hL;rw[Km] at hL';refine kj (by simp) (md hL' λp1 H1 n1 s1 h1=>uy (s1 _ _ hL') λp2 H2 n2 s2 h2=>n8 ((s1.trans s2) _ _ hR) h2 (by simp;simp at hl;lia) λp3 H3 n3 s3 h3=>⟨two,λb nb=>?_⟩);have h3':H3 p3=some (.lst ((R++[v]).map V.int)):=by rw[Km];exact h3
    exact q _ _ ((s1.trans (s2.trans s3)).trans ((a6.refl _).new nb)) ⟨b,rfl,eP.new ((s2.trans s3) _ _ h1) h3' nb⟩
  ·refine fx (by decide) (fx (by decide) (fx (by decide) (fx (by decide) ⟨_,.inl (cL.of hL),?_⟩)));by_cases hL0:L=[]
   ·subst hL0;rw[j8] at q;exact kj rfl (q _ _ (a6.refl _) rfl)
   ·obtain⟨L',x,rfl⟩:=be hL0;refine fx (by simp;lia) ⟨_,.inl (cL.of hR),?_⟩;by_cases hR0:R=[]
    ·subst hR0;rw[j7] at q;exact kj rfl (q _ _ (a6.refl _) rfl)
    ·obtain⟨R',y,rfl⟩:=be hR0;rw[kz] at q;have hL':=hL;have hR':=hR;rw[Km] at hL' hR';refine fx (by simp;lia) ⟨_,_,cL.of hL',gK,_,_,cL.of hR',gK,?_⟩;nofun;by_cases exy:x=y
     ·rw[Ko exy] at q;exact kj exy (q _ _ (a6.refl _) rfl)
     ·rw[Kn exy] at q;refine fx exy ⟨_,_,cL.of hL',gK,_,_,cL.of hR',gK,_,_,rfl,_,_,cL.of hL',gK,_,_,cL.of hR',gK,_,_,rfl,?_⟩;have e1:(if y<x then y else x)=min x y:=by rw[Int.min_def];split<;>split<;>lia
      have e2:(if y > x then y else x)=max x y:=by rw[Int.max_def];split<;>split<;>lia
      rw[e1,e2];nofun;simp at hl;refine md hL' λp1 H1 n1 s1 h1=>⟨p1,rfl,⟨_,cL.of h1⟩,v7 h1 (by lia) λp2 H2 s2 h2=>md ((s1.trans s2) _ _ hR') λp3 H3 n3 s3 h3=>⟨p3,rfl,⟨_,cL.of h3⟩,v7 h3 (by lia) λp4 H4 s4 h4=>⟨two,λb nb=>?_⟩⟩⟩
      exact q _ _ ((s1.trans (s2.trans (s3.trans s4))).trans ((a6.refl _).new nb)) ⟨b,rfl,eP.new ((s3.trans s4) _ _ h2) h4 nb⟩
def rN (E:Fn K mg "_law_at_first" gJ ["_law_side"]):eQ P w K mg base 1 "_law_at_first" gJ ["_law_side"] uq:=E.mk' λf fd F=>by
 refine F.okS qx (λvs H Q E h=>?_) (λcdv A outer s H vs Q E hr h=>?_)
 ·obtain⟨c,rfl,_⟩:=h;rfl
 ·obtain⟨c,rfl,q⟩:=h;refine⟨[some (.str ⟨#[c]⟩)],_,rfl,(L2.jK.h (aG (cF (ac dX (aY 0) bQ (bG _))
   (aM (bB (fM (ly (cw (bc aF aC)) (ly (cw aC) aC)))))
   bU)
   (aM (bB (fM (ly (cw aC) (ly (cw (bc aF aC)) aC))))))),?_⟩
  nofun;rw[HL];simp only[fk];unfold iG at q;refine g0 (λh=>?_) (λh=>?_)
  ·rw[Ko h] at q;refine⟨by decide,λl nl=>⟨bE _,λr nr=>⟨(by show 2<=sizeLine;decide),λa na=>?_⟩⟩⟩;have hl:=a9 (o:=.lst []) (H:=upd H l (.lst [V.int 0])) (λz:l=r=>by rw[z,aO] at nr;cases nr);rw[aO] at hl;exact q a _ ((((a6.refl H).new nl).trans ((a6.refl _).new nr)).trans ((a6.refl _).new na)) (eP.new (L:=[0]) (R:=[]) hl aO na)
  ·rw[Kn h] at q;refine⟨bE _,λl nl=>⟨by decide,λr nr=>⟨(by show 2<=sizeLine;decide),λa na=>?_⟩⟩⟩;have hl:=a9 (o:=.lst [V.int 0]) (H:=upd H l (.lst [])) (λz:l=r=>by rw[z,aO] at nr;cases nr);rw[aO] at hl;exact q a _ ((((a6.refl H).new nl).trans ((a6.refl _).new nr)).trans ((a6.refl _).new na)) (eP.new (L:=[]) (R:=[0]) hl aO na)
def tV (B:oU mg) (E:Fn K mg "_law_closing" iD ["_law_ends"]):eQ P w K mg base 1 "_law_closing" iD ["_law_ends"] o3:=E.mk' λf fd F=>by
 refine F.okS gC (λvs H Q E h=>?_) (λcdv A outer s H vs Q E hr h=>?_)
 ·obtain⟨a,L,R,rfl,_⟩:=h;rfl
 ·obtain⟨a,L,R,rfl,⟨l,r,ha,hL,hR⟩,ee,h1,h2,q⟩:=h;refine⟨[some (.ref a),none,none,none,none],_,rfl,(L2.jK.h (aG (ai (i:=1) gC.nd rfl (Or.inl rfl) (aW iN (bW fV (aY 0) aF (λ_ _=>rfl)) (rC rfl (by rfl) B.list (by rfl) B.reversed (bW fV (aY 0) aF (λ_ _=>rfl)))))
   (aG (ai (i:=2) gC.nd rfl (Or.inl rfl) (ah bq (by rfl) B.len ae (bT (bW fV (aY 0) aF (λ_ _=>rfl)) aC)))
   (aG (ai (i:=3) gC.nd rfl (Or.inl rfl) fN)
   (aG (di bH rfl (lN (by rfl) B.range (bc aF (dR (ah bq (by rfl) B.len ae (aD (aY 1) aC)) aC))) (bb (i:=4) gC.nd rfl (Or.inl rfl))
   (aM (cF (QW.pt (kf (ac mY (bW cI (aY 1) (aW gh (aY 4) aF) (λ_ _=>rfl)) (bW cI (aY 1) (aY 4) (λ_ _=>rfl)) (bG _)) (jA (QW.pt (iI (ac tO (aY 3) fN (bG _)) (j3 (ac kS (ah sF (by rfl) B.abs kE (cG (aW gh (aY 4) (aY 2)) aC)) (ah sF (by rfl) B.abs kE (cG (aW gh (aY 3) (aY 2)) aC)) (bG _))))))))
    (aM (ai (i:=3) gC.nd rfl (Or.inl rfl) (aY 4)))
    bU)))
   (aG (cF (ac dX (aY 3) (aY 2) (bG _))
   (aM (bB bQ))
   bU)
   (aM (bB (bW cI (cw (bc bQ (bc bQ aC))) (dD jJ (by rfl) B.int cU (eY (dQ kS (aY 3) (aY 2) (bG _)) aC)) (λ_ _=>rfl)))))))))),?_⟩
  nofun;have two:(2:Nat)<=sizeLine:=by decide
  refine⟨_,_,dr.of ha,rfl,_,_,dr.of ha,rfl,r,_,rfl,hR,by rw[aB];lia,λp1 n1=>?_⟩;have s1:=(a6.refl H).new (o:=.lst (R.map V.int).reverse) n1;have hL1:=s1 _ _ hL;refine n8 hL1 aO (by simp;lia) λp2 H2 n2 s2 h2'=>?_;have s3:=s1.trans s2;have hrow:H2 p2=some (.lst ((L++R.reverse).map V.int)):=by rw[h2',aN,List.map_reverse]
  have wl:(L++R.reverse).length=L.length+R.length:=by simp
  have h3:3<=(L++R.reverse).length:=ee.three (by lia);have th:Th (L++R.reverse):=ee.th;generalize hW:L++R.reverse=W at *;refine⟨_,_,dr.of (s3 _ _ ha),rfl,l,_,rfl,.inl (cL.of (s3 _ _ hL)),p2,_,rfl,.inl (cL.of hrow),⟨by decide,by decide,by lia,by rw[aB];lia⟩,?_⟩;rw[aB,aB,show ((W.length:Int) - 1).toNat=W.length - 1 by lia];refine kn (n:=W.length - 1) (λi σ H'=>∃(v:V) (x4:Option V),σ=[some (.ref a),some (.ref p2),some (.int (L.length:Nat)),some v,x4]/\a6 H H'/\H' p2=some (.lst (W.map V.int))/\Ao W L.length (1+i) v) ⟨_,_,rfl,s3,hrow,.inl ⟨rfl,λk hk z=>by have:=z.1;lia⟩⟩ ?_ ?_
  ·rintro i σ H3 hi ⟨v,x4,rfl,s4,hr3,bv⟩;have g1:W[i]? = some W[i]:=aI (by lia);have g2:W[i+1]? = some W[i+1]:=aI (by lia);have a1:pL (W.map V.int) ((1:Int)+i - 1)=some (.int W[i]):=by rw[show (1:Int)+i - 1=((i:Nat):Int) by lia];exact ez (by rw[ar,g1];rfl)
   have a2:pL (W.map V.int) ((1:Int)+i)=some (.int W[i+1]):=by rw[show (1:Int)+i=((i+1:Nat):Int) by lia];exact ez (by rw[ar,g2];rfl)
   have dE:nW W (1+i)<->W[i]≠W[i+1]:=by
    unfold nW;rw[show 1+i - 1=i by lia,show 1+i=i+1 by lia,g1,g2];constructor
    ·rintro⟨_,_,z⟩ e;exact z (by rw[e])
    ·intro z;exact⟨by lia,by lia,λe=>z (aa e)⟩
   have keep:∀v,Ao W L.length (1+i) v->¬nW W (1+i)->Ao W L.length (1+(i+1)) v:=λv h nd=>by
    rcases h with ⟨rfl,h⟩ | ⟨best,rfl,h1,h⟩
    ·exact .inl ⟨rfl,λk hk=>by
      by_cases e:k=1+i
      ·rw[e];exact nd
      ·exact h k (by lia)⟩
    ·exact .inr ⟨best,rfl,h1,λk hk hd=>by
      by_cases e:k=1+i
      ·rw[e] at hd;exact absurd hd nd
      ·exact h k (by lia) hd⟩
   nofun;refine⟨_,_,cL.of hr3,a1,_,_,cL.of hr3,a2,?_⟩;nofun;have ek:(1:Int)+i=((1+i:Nat):Int):=by lia
   refine g0 (λhne=>⟨trivial,?_⟩) (λheq=>⟨v,_,rfl,s4,hr3,keep v bv (λz=>heq (dE.mp z))⟩);have hd:=dE.mpr hne;rcases bv with ⟨rfl,h⟩ | ⟨best,rfl,h1',h⟩
   ·refine kj rfl ⟨_,_,rfl,s4,hr3,.inr ⟨1+i,by rw[ek],hd,λk hk hk2=>?_⟩⟩;by_cases e:k=1+i
    ·rw[e];exact aE _
    ·exact absurd hk2 (h k (by lia))
   ·refine fx (λz=>nomatch z) ?_;nofun;refine g0 (λhlt=>⟨_,_,rfl,s4,hr3,.inr ⟨1+i,by rw[ek],hd,λk hk hk2=>?_⟩⟩) (λhge=>⟨_,_,rfl,s4,hr3,.inr ⟨best,rfl,h1',λk hk hk2=>?_⟩⟩)
    ·by_cases e:k=1+i
     ·rw[e];exact aE _
     ·have:=h k (by lia) hk2
      split at hlt<;>split at hlt<;>lia
    ·by_cases e:k=1+i
     ·subst e
      split at hge<;>split at hge<;>lia
     ·exact h k (by lia) hk2
  ·rintro σ H3 ⟨v,x4,rfl,s4,hr3,bv⟩;obtain⟨best,rfl,bd,bm⟩:∃best:Nat,v=.int best/\nW W best/\∀k,k<W.length->nW W k->((best:Int)-L.length).natAbs<=((k:Int)-L.length).natAbs:=by
    rcases bv with ⟨rfl,h⟩ | ⟨best,rfl,h1,h⟩
    ·obtain⟨k,hk⟩:=Ee th h3;exact absurd hk (h k (by have:=hk.2.1;lia))
    ·exact⟨best,rfl,h1,λk hk hd=>h k (by lia) hd⟩
   have N:Ai W L.length best:=⟨bd,λk hk=>bm k hk.2.1 hk⟩
   nofun;refine g0 (λe=>?_) (λe=>⟨two,λp np=>⟨_,.str ⟨#[xG L.length best]⟩,cL.of aO,?_,q best _ (s4.trans ((a6.refl _).new np)) N⟩⟩)
   ·have:=q best H3 s4 N;rw[show xG L.length best=100 by unfold xG;rw[Ko (by lia)]] at this;rw[HM];exact this
   ·have ne:¬best=L.length:=λz=>e (by rw[z]);by_cases c:best<L.length
    ·rw[show xG L.length best=99 by unfold xG;rw[Kn ne,Ko c],Ko (by lia),Gj,Gi];rfl
    ·rw[show xG L.length best=98 by unfold xG;rw[Kn ne,Kn c],Kn (by lia),Gj,Gi];rfl
def tU (B:oU mg) (E:Fn K mg "_law_code_by" iC ["_law_rest","_law_side","_law_many"]) (Ii:eQ P w K mg base 1 "_law_at_first" gJ ["_law_side"] uq) (KI:eQ P w K mg base 1 "_law_go" wB ["_law_ends","_law_letter"] Fe) (Ir:eQ P w K mg base 1 "_law_closing" iD ["_law_ends"] o3):eQ P w K mg base 2 "_law_code_by" iC ["_law_rest","_law_side","_law_many"] uu:=E.mk' λf fd F=>by
 refine F.okS eV (λvs H Q E h=>?_) (λcdv A outer s H vs Q E hr h=>?_)
 ·obtain⟨r,b,m,rfl,_⟩:=h;rfl
 ·obtain⟨r,b,m,rfl,hm,q⟩:=h;refine⟨[some (.int r),some (.str (sd b)),some (.int m),none,none,none],_,rfl,(L2.jK.h (aG (ai (i:=3) eV.nd rfl (Or.inl rfl) (a8 Ii (hr.mono (by decide)) (by rfl) (aD (aY 1) aC)))
   (aG (ai (i:=4) eV.nd rfl (Or.inl rfl) bQ)
   (aG (kg bH (QW.pt (iI (ac kS (ah ce (by rfl) B.len ae (aD (aY 4) aC)) (aY 2) (bG _)) (j3 (ac rG (ah bq (by rfl) B.len ae (cG (aW iN (bW fV (aY 3) aF (λ_ _=>rfl)) (bW fV (aY 3) aF (λ_ _=>rfl))) aC)) aF (bG _)))))
   (aG (ai (i:=5) eV.nd rfl (Or.inl rfl) (eG (ac GG (ah ce (by rfl) B.len ae (aD (aY 4) aC)) (aY 2) (bG _)) (a8 Ir (hr.mono (by decide)) (by rfl) (aD (aY 3) aC)) (bW mQ bQ (aW iM (aY 0) aF) (λ_ _=>rfl))))
    (aG (cF (QW.pt (kf (ac kS (ah ce (by rfl) B.len ae (aD (aY 4) aC)) (aY 2) (bG _)) (jA (ac tO (a8 KI (hr.mono (by decide)) (by rfl) (aD (aY 3) (aD (aY 5) aC))) fN (bG _)))))
    (aM (ai (i:=5) eV.nd rfl (Or.inl rfl) bQ))
    bU)
    (aG (ai (i:=0) eV.nd rfl (Or.inl rfl) (aW gQ (aY 0) aF))
    (aG (ai (i:=3) eV.nd rfl (Or.inl rfl) (a8 KI (hr.mono (by decide)) (by rfl) (aD (aY 3) (aD (aY 5) aC))))
    (aM (ai (i:=4) eV.nd rfl (Or.inl rfl) (aW cY (aY 4) (aY 5)))))))))
   (aM (bB (aY 4))))))),?_⟩
  nofun;refine⟨Fg b,by rw[HH],λa0 H1 s1 e0=>?_⟩;rw[p9] at e0;nofun;refine⟨λM σ H2=>∃(r':Int) (cs:List Nat) (L R:List Int) (a:Addr) (x5:Option V),σ=[some (.int r'),some (.str (sd b)),some (.int m),some (.ref a),some (.str (tx cs)),x5]/\a6 H H2/\eP H2 a L R/\EE L R/\(∀ds,fU (bL b) (bR b) (cs++ds) 0=fU L R ds cs.length)/\sM cs/\L.length+R.length<=2*cs.length+1/\(cs.length<=m\/(m<=cs.length/\cs.length+uJ L R<=4*m))/\M=40-cs.length,
   ⟨_,r,[],bL b,bR b,a0,_,rfl,s1,e0,(by cases b;exact EE.one;exact EE.two),(λds=>rfl),(λx hx=>by cases hx),by cases b<;>decide,.inl (bE _),rfl⟩,?_⟩
  rintro M σ H2 ⟨r',cs,L,R,a,x5,rfl,s2,ea,ee,wk,lt,hs,hi,rfl⟩;have hle:cs.length<=20:=by lia
  refine Aa (λk H'=>a6 H H'/\a6 H2 H'/\(k=true->cs.length<m\/1<L.length+R.length)/\(k=false->m<=cs.length/\L.length+R.length<=1)) (λC hC=>?_) ?_
  ·obtain⟨l,r2,ha,hL,hR⟩:=ea;nofun;rw[b6];refine⟨jw (by lia),?_⟩;refine g0 (λh=>hC true H2 ⟨s2,a6.refl _,λ_=>.inl (by lia),λz=>nomatch z⟩) (λh=>?_);refine⟨_,_,dr.of ha,rfl,_,_,dr.of ha,rfl,n8 hL hR (by rw[aB,aB];lia) λp1 H3 n1 s3 h3=>⟨p1,_,rfl,.inl (cL.of h3),?_⟩⟩;rw[aX,aB,aB];refine hC _ H3 ⟨s2.trans s3,s3,λz=>.inr (by have:=Kt z;lia),λz=>⟨by lia,by have:=of_decide_eq_false z;lia⟩⟩
  ·rintro k H3 ⟨s3,s32,k1,k2⟩;cases k
   ·obtain⟨h1,h2⟩:=k2 rfl;nofun;refine q cs H3 s3 ⟨lt,hle,?_⟩ (by lia);have:=wk [];rw[b9] at this;rw[this];exact BQ ee h2
   ·have h1:=k1 rfl;have ea3:=ea.same s32;nofun;refine⟨λσ' H'=>∃(r':Int) (cs':List Nat) (L R:List Int) (a:Addr) (x5:Option V),σ'=[some (.int r'),some (.str (sd b)),some (.int m),some (.ref a),some (.str (tx cs')),x5]/\a6 H H'/\eP H' a L R/\EE L R/\(∀ds,fU (bL b) (bR b) (cs'++ds) 0=fU L R ds cs'.length)/\sM cs'/\L.length+R.length<=2*cs'.length+1/\(cs'.length<=m\/(m<=cs'.length/\cs'.length+uJ L R<=4*m))/\cs'.length=cs.length+1,λσ' H' ⟨r',cs',L,R,a,x5,e1,e2,e3,e4,e9,e5,e6,e7,e8⟩=>⟨40-cs'.length,by lia,r',cs',L,R,a,x5,e1,e2,e3,e4,e9,e5,e6,e7,rfl⟩,by rw[b6];exact jw (by lia),?_⟩;have nxt:∀(H4:Hp) (c:Nat) (L' R':List Int) (v:V) (x5:Option V) (r1:Int),a6 H H4->Hq H4 v (some (L',R'))->jH c->ck L R c=some (L',R')->(cs.length+1<=m\/(m<=cs.length+1/\cs.length+1+uJ L' R'<=4*m))->∃(r':Int) (cs':List Nat) (L R:List Int) (a:Addr) (x5':Option V),([some (.int r1),some (.str (sd b)),some (.int m),some v,some (.str (tx cs++⟨#[c]⟩)),x5]:L2.St)=[some (.int r'),some (.str (sd b)),some (.int m),some (.ref a),some (.str (tx cs')),x5']/\a6 H H4/\eP H4 a L R/\EE L R/\(∀ds,fU (bL b) (bR b) (cs'++ds) 0=fU L R ds cs'.length)/\sM cs'/\L.length+R.length<=2*cs'.length+1/\(cs'.length<=m\/(m<=cs'.length/\cs'.length+uJ L R<=4*m))/\cs'.length=cs.length+1:=λH4 c L' R' v x5 r1 z1 z2 z3 z4 z5=>by
     obtain⟨a',rfl,ea'⟩:=z2;have:=km z3 z4;have el:(cs++[c]).length=cs.length+1:=by simp
     exact⟨r1,cs++[c],L',R',a',x5,by rw[<-dY];rfl,z1,ea',ee.go z3 z4,(λds=>by rw[a7,wk,eK,ke z4,el]),AH lt z3,by lia,by rw[el];exact z5,el⟩
    have cd:Ga r' 4:=⟨by decide,by decide⟩
    have sl:∀c:Nat,(tx cs).length+(⟨#[c]⟩:Str).length<=sizeLine:=λc=>by rw[b6];exact jw (by show cs.length+1<=900;lia)
    rw[b6];refine g0 (λhm1=>?_) (λhm1=>?_)
    ·have hs1:1<L.length+R.length:=by lia
     refine⟨a,L,R,rfl,ea3,ee,hs1,by lia,λbest H4 s4 N=>?_⟩;obtain⟨L',R',g,ee',pc⟩:=Ad ee hs1 N;have p20:cs.length+uJ L R<=4*m:=by
      rcases hi with h | h
      ·have:=DC ee;lia
      ·exact h.2
     refine⟨jw (by lia),fx (by lia) ⟨cd,a,L,R,xG L.length best,rfl,ea3.same s4,Ae _ _,ee,by lia,λv H5 s5 gv=>⟨_,_,rfl,rfl,sl _,?_⟩⟩⟩;rw[g] at gv;exact nxt H5 _ L' R' v _ _ ((s3.trans s4).trans s5) gv (Ae _ _) g (.inr ⟨by lia,by lia⟩)
    ·obtain⟨c,hc,lc⟩:=C3 r';refine⟨by decide,by decide +kernel,c,hc,jw (by lia),kj (by lia) ⟨a,L,R,c,rfl,ea3,lc,ee,by lia,λv H4 s4 gv=>⟨trivial,?_⟩⟩⟩;cases g:ck L R c with
     | none=>
      rw[g] at gv;refine kj gv ⟨cd,a,L,R,97,by rw[Gk];rfl,ea3.same s4,.inl rfl,ee,by lia,λv2 H5 s5 gv2=>?_⟩;obtain⟨L',R',ga⟩:=GU L R;rw[ga] at gv2;rw[Gk,<-b6 cs];exact⟨sl 97,nxt H5 97 L' R' v2 _ _ ((s3.trans s4).trans s5) gv2 (.inl rfl) ga (.inl (by lia))⟩
     | some pr=>
      obtain⟨L',R'⟩:=pr;rw[g] at gv;obtain⟨a',rfl,ea'⟩:=gv;refine fx (λz=>nomatch z) ⟨cd,a,L,R,c,rfl,ea3.same s4,lc,ee,by lia,λv2 H5 s5 gv2=>?_⟩;rw[g] at gv2;rw[<-b6 cs];exact⟨sl c,nxt H5 c L' R' v2 _ _ ((s3.trans s4).trans s5) gv2 lc g (.inl (by lia))⟩
def oJ (B:oU mg) (E:Fn K mg "_law_letters_of" eu ["_law_side","_law_order"]):eQ P w K mg base 1 "_law_letters_of" eu ["_law_side","_law_order"] qk:=E.mk' λf fd F=>by
 refine F.okS cv (λvs H Q E h=>?_) (λcdv A outer s H vs Q E hr h=>?_)
 ·obtain⟨b,o,ns,rfl,_⟩:=h;rfl
 ·obtain⟨b,o,ns,rfl,ho,O,q⟩:=h;have nlen:=O.len;refine⟨[some (.str (sd b)),some (.ref o),none,none,none,none,none,none],_,rfl,(L2.jK.h (aG (ai (i:=2) cv.nd rfl (Or.inl rfl) (aW iN (aW iN (cw (bc aF aC)) (dD jc (by rfl) B.list cf (aD (aY 1) aC))) (cw (cG (aW eI (ah bq (by rfl) B.len ae (aD (aY 1) aC)) aF) aC))))
   (aG (ai (i:=3) cv.nd rfl (Or.inl rfl) bQ)
   (aG (di bH rfl (lN (by rfl) B.range (bc aF (cG (aW eI (ah bq (by rfl) B.len ae (aD (aY 1) aC)) aF) aC))) (bb (i:=4) cv.nd rfl (Or.inl rfl))
   (aG (ai (i:=5) cv.nd rfl (Or.inl rfl) (io bf PySem.F.slot_list_index PySem.F.type_list_index AD (aY 2) (aD (aY 4) aC)))
    (aG (ai (i:=6) cv.nd rfl (Or.inl rfl) (dD jJ (by rfl) B.int cU (eY (dQ kS (bW cI (aY 2) (aW gh (aY 5) aF) (λ_ _=>rfl)) (aY 4) (bG _)) aC)))
    (aG (ai (i:=7) cv.nd rfl (Or.inl rfl) (dD jJ (by rfl) B.int cU (eY (dQ kS (bW cI (aY 2) (aW eI (aY 5) aF) (λ_ _=>rfl)) (aY 4) (bG _)) aC)))
    (aM (cF (ac dX (dQ dX (aW iM (aY 5) aF) aF (bG _)) (dQ dX (aY 0) bQ (bG _)) (bG _))
    (aM (ai (i:=3) cv.nd rfl (Or.inl rfl) (aW cY (aY 3) (bW mQ bQ (aW eI (aW kR aF (aY 6)) (aY 7)) (λ_ _=>rfl)))))
    (aM (ai (i:=3) cv.nd rfl (Or.inl rfl) (aW cY (aY 3) (bW mQ bQ (aW eI (aW kR aF (aY 7)) (aY 6)) (λ_ _=>rfl)))))))))))
   (aM (bB (aY 3))))))),?_⟩
  nofun;have one:(1:Nat)<=sizeLine:=by decide
  refine⟨one,λp0 n0=>?_⟩;have s0:=(a6.refl H).new (o:=.lst [V.int 0]) n0;have hp0:upd H p0 (.lst [V.int 0]) p0=some (.lst [V.int 0]):=aO;generalize upd H p0 (.lst [V.int 0])=H0 at s0 hp0 ⊢;refine⟨_,.inr (dr.of (s0 _ _ ho)),λl1 n1=>?_⟩;have s1:=(a6.refl H0).new (o:=.lst (ns.map V.int)) n1;refine n8 (s1 _ _ hp0) aO (by simp;lia) λp2 H2 n2 s2 h2=>?_;have s02:=s0.trans (s1.trans s2);refine⟨_,.inr (dr.of (s02 _ _ ho)),one,λp3 n3=>?_⟩;rw[aB];have s3:=(a6.refl H2).new (o:=.lst [V.int ((ns.length:Int)+1)]) n3;refine n8 (s3 _ _ h2) aO (by simp;lia) λrd H4 n4 s4 h4=>?_;have s04:=s02.trans (s3.trans s4);have erd:[V.int 0]++ns.map V.int++[V.int ((ns.length:Int)+1)]=(eW ns).map V.int:=by simp[eW]
  rw[erd] at h4;refine⟨_,.inr (dr.of (s04 _ _ ho)),⟨by decide,by decide,by simp;lia,by simp;lia⟩,?_⟩;rw[aB,show ((ns.length:Int)+1 - 1).toNat=ns.length by lia];have cl:(mS b ns).length=ns.length:=by simp[mS]
  refine kn (n:=ns.length) (λi σ H2=>∃x4 x5 x6 x7:Option V,σ=[some (.str (sd b)),some (.ref o),some (.ref rd),some (.str (tx ((mS b ns).take i))),x4,x5,x6,x7]/\H4=H2) ⟨_,_,_,_,by rw[Cr];rfl,rfl⟩ ?_ ?_
  ·rintro i σ H5 hi ⟨x4,x5,x6,x7,rfl,rfl⟩;obtain⟨k,hk⟩:=gc (O.mem.mpr (show (1:Int)<=1+i/\(1:Int)+i<=ns.length by lia));have kl:=(aJ.mp hk).1;have er:bN ns (k+1)=1+i:=mK hk;have rz:∀j,j<ns.length+2->((eW ns).map V.int)[j]? = some (.int (bN ns j)):=λj hj=>by rw[ar,fi hj];rfl
   have ll:=mJ ns;nofun;refine⟨oV h4,eW ns,k+1,h4,by lia,by rw[fi (by lia),er],λm hm z=>?_,?_⟩
   ·rw[fi (by lia)] at z;have:=O.row_inj (i:=m) (j:=k+1) (by lia) (by lia) (by rw[er];exact aa z);lia
   refine⟨_,.int (bN ns k),cL.of h4,by rw[show ((k+1:Nat):Int) - 1=(k:Nat) by lia];exact ez (rz k (by lia)),?_⟩;nofun;refine⟨_,.int (bN ns (k+2)),cL.of h4,by rw[show ((k+1:Nat):Int)+1=(k+2:Nat) by lia];exact ez (rz (k+2) (by lia)),?_⟩;nofun;have tk:=wz (b:=b) O hi (by lia) er;have sl:∀c:Nat,(tx ((mS b ns).take i)).length+(⟨#[c]⟩:Str).length<=sizeLine:=λc=>by rw[b6,bV];exact jw (by show _+1<=900;lia)
   have fin:∀c:Nat,wc b ns (k+1)=c->tx ((mS b ns).take i)++(⟨#[c]⟩:Str)=tx ((mS b ns).take (i+1)):=λc e=>by rw[tk,e,<-dY];rfl
   refine⟨by decide,g0 (λh=>?_) (λh=>?_)⟩
   ·have h:=(rO (k+1) b).mp h;refine⟨by split<;>exact .inl ⟨by decide,by decide⟩,by rw[pj,b6];exact jw (by decide),?_⟩;have:=sK (decide (bN ns k<1+(i:Int))) (decide (bN ns (k+2)<1+(i:Int)));simp only[Kq] at this;refine⟨_,this,sl _,?_⟩;rw[fin _ (by unfold wc;rw[Ko h,er];rfl)];exact⟨_,_,_,_,rfl,trivial⟩
   ·have h:¬odd (k+1)=!b:=λz=>h ((rO (k+1) b).mpr z);refine⟨by split<;>exact .inl ⟨by decide,by decide⟩,by rw[pj,b6];exact jw (by decide),?_⟩;have:=sK (decide (bN ns (k+2)<1+(i:Int))) (decide (bN ns k<1+(i:Int)));simp only[Kq] at this;refine⟨_,this,sl _,?_⟩;rw[fin _ (by unfold wc;rw[Kn h,er];rfl)];exact⟨_,_,_,_,rfl,trivial⟩
  ·rintro σ H5 ⟨x4,x5,x6,x7,rfl,rfl⟩;nofun;have:=q _ s04;rw[cO (by lia)];exact this
def tR (B:oU mg) (E:Fn K mg "_law_is_maze" iA ["_law_found","_law_side","_law_n"]) (Iu:eQ P w K mg base 1 "_law_crosses" iB ["_law_side","_law_order"] Cq):eQ P w K mg base 2 "_law_is_maze" iA ["_law_found","_law_side","_law_n"] uo:=E.mk' λf fd F=>by
 refine F.okS nE (λvs H Q E h=>?_) (λcdv A outer s H vs Q E hr h=>?_)
 ·obtain⟨m,o,b,ns,rfl,_⟩:=h;rfl
 ·obtain⟨m,o,b,ns,rfl,hm,O,nc,q⟩:=h;refine⟨[some (.ref m),some (.str (sd b)),some (.int (ns.length:Nat)),none],_,rfl,(L2.jK.h (aG (cF (QW.pt (iI (gP (fj (ah g9 (by rfl) B.isinstance bX (aD (aY 0) (aD (gZ (v:=.ty "tuple") (by rfl) B.tuple fc rfl) aC))))) (iI (ac mY (ah bq (by rfl) B.len ae (aD (aY 0) aC)) aF (bG _)) (iI (ac mY (bW fV (aY 0) aF (λ_ _=>rfl)) (aY 1) (bG _)) (j3 (gP (fj (ah g9 (by rfl) B.isinstance bX (bT (bW fV (aY 0) aF (λ_ _=>rfl)) (aD (gZ (v:=.ty "tuple") (by rfl) B.tuple fc rfl) aC))))))))))
   (aM (bB ip))
   bU)
   (aG (di bH rfl (BW (bW fV (aY 0) aF (λ_ _=>rfl))) (bb (i:=3) nE.nd rfl (Or.inl rfl))
   (aM (cF (QW.pt (iI (gP (fj (ah g9 (by rfl) B.isinstance bX (aD (aY 3) (aD (gZ (v:=.ty "int") (by rfl) B.int cU rfl) aC))))) (j3 (fj (ah g9 (by rfl) B.isinstance bX (aD (aY 3) (aD (gZ (v:=.ty "bool") (by rfl) B.bool jf rfl) aC)))))))
    (aM (bB ip))
    bU)))
   (aM (bB (pz (dQ (zf (oy hr)) (ah mE (by rfl) B.sorted iq (bT (bW fV (aY 0) aF (λ_ _=>rfl)) aC)) (dD (oR rfl) (by rfl) B.list cf (zG (dD xH (by rfl) B.range PyProof.Rows.boot_range (bc aF (cG (aW eI (aY 2) aF) aC))) aC)) (bG _)) (mf (vI (a8 Iu (hr.mono (by decide)) (by rfl) (aD (aY 1) (bT (bW fV (aY 0) aF (λ_ _=>rfl)) aC))))))))))),?_⟩
  nofun;have l20:=O.len;refine ou hm.dat ⟨_,rfl,fx (λz=>nomatch z) ⟨_,.inr (dr.of hm.1),fx (by simp) ⟨_,_,dr.of hm.1,rfl,?_⟩⟩⟩;refine⟨rfl,_,rfl,fx (by simp) ⟨_,_,dr.of hm.1,rfl,ou (.tup hm.2 (nR ns)) ⟨_,rfl,fx (λz=>nomatch z) ⟨_,_,dr.of hm.1,rfl,o,rfl,⟨_,dr.of hm.2⟩,?_⟩⟩⟩⟩;refine CQ (xs:=ns.map V.int) (λ_ σ H'=>∃x,σ=[some (.ref m),some (.str (sd b)),some (.int (ns.length:Nat)),x]/\H'=H) ⟨_,rfl,rfl⟩ (λ_ σ H' _ ⟨_,_,e⟩=>by rw[e];exact dr.of hm.2) ?_ ?_
  ·rintro i x σ H' hx ⟨x3,rfl,rfl⟩;obtain⟨z,_,rfl⟩:=fP hx;nofun;exact CI (.int z) ⟨_,rfl,fx (λz=>nomatch z) (AQ (.int z) ⟨_,rfl,fx (λz=>nomatch z) ⟨_,rfl,rfl⟩⟩)⟩
  ·rintro σ H' ⟨x3,rfl,rfl⟩;nofun;refine⟨_,_,dr.of hm.1,rfl,o,ns,rfl,.inr (dr.of hm.2),by lia,λl5 ms n5 hp hs p6 n6=>⟨_,_,aO,⟨by decide,by decide,by lia,by lia,by lia⟩,λl7 n7=>?_⟩⟩;have s5:=(a6.refl H').new (o:=.lst (ms.map V.int)) n5;have s6:=s5.new (o:=.rng 1 ((ns.length:Int)+1)) (s5.free n6);have n56:l5≠p6:=λe=>by subst e;rw[aO] at n6;cases n6
   have n57:l5≠l7:=λe=>by subst e;rw[a9 n56,aO] at n7;cases n7
   have eN:((ns.length:Int)+1 - 1).toNat=ns.length:=by lia
   have s7:=s6.new (o:=.lst ((fI 1 ((ns.length:Int)+1 - 1).toNat).map V.int)) (s6.free n7);refine A3 (cL.of (by rw[a9 n57,a9 n56,aO])) (cL.of aO) ⟨_,rfl,kj (by rw[eN,pZ hp hs];exact jr.mpr O.perm) ?_⟩;refine⟨_,_,dr.of (s7 _ _ hm.1),rfl,_,o,ns,rfl,s7 _ _ hm.2,l20,λH8 s8=>⟨_,rfl,?_⟩⟩;rw[(CW b ns).mpr nc];exact q _ (s7.trans s8)
def ER (B:oU mg) (E:Fn K mg "law" lm ["_law_script"]) (Ib:eQ P w K mg base 1 "_law_cell_at" iE ["_law_script","_law_k"] (uv K)) (Iv:eQ P w K mg base 2 "_law_rest_of" gz ["_law_cell"] uj) (Iw:eQ P w K mg base 2 "_law_code_by" iC ["_law_rest","_law_side","_law_many"] uu) (IY:eQ P w K mg base 6 "listed" iy ["side","n"] qj) (JW:eQ P w K mg base 20 "count" kd ["n"] qp) (Iy:eQ P w K mg base 2 "_law_is_maze" iA ["_law_found","_law_side","_law_n"] uo) (IP:eQ P w K mg base 1 "_law_letters_of" eu ["_law_side","_law_order"] qk) (l8:eQ P w K mg base 5 "decoded" gG ["side","code"] sh):eQ P w K mg base 21 "law" lm ["_law_script"] (qm K):=E.mk' λf fd F=>by
 refine F.okS gg (λvs H Q E h=>?_) (λcdv A outer s H vs Q E hr h=>?_)
 ·obtain⟨a,ns,rfl,_⟩:=h;rfl
 ·obtain⟨a,cs0,rfl,hS,hlen,kQ⟩:=h;have two:(2:Nat)<=sizeLine:=by decide
  refine⟨[some (.ref a),none,none,none,none,none,none,none,none,none],_,rfl,(L2.jK.h (cm (ai (i:=1) gg.nd rfl (Or.inl rfl) (a8 Ib (hr.mono (by decide)) (by rfl) (aD (aY 0) (bc aF aC))))
   (cm (ai (i:=2) gg.nd rfl (Or.inl rfl) (bW mQ bQ (aW iM (aY 1) aF) (λ_ _=>rfl)))
   (cm (ai (i:=3) gg.nd rfl (Or.inl rfl) (aW iM (aW gQ (aY 1) aF) aF))
   (cm (cF (ac dX (aW iM (aW gQ (aY 1) aF) aF) aF (bG _))
   (aM (ai (i:=3) gg.nd rfl (Or.inl rfl) aF))
   bU)
   (cm (cF (ac dX (aW iM (aW gQ (aY 1) aF) aF) aF (bG _))
   (aM (ai (i:=3) gg.nd rfl (Or.inl rfl) aF))
   bU)
   (cm (ai (i:=4) gg.nd rfl (Or.inl rfl) (a8 IY (hr.mono (by decide)) (by rfl) (aD (aY 2) (aD (aY 3) aC))))
   (cm (cF (QW.pt (iI (gP (fj (ah g9 (by rfl) B.isinstance bX (aD (aY 4) (aD (gZ (v:=.ty "list") (by rfl) B.list cf rfl) aC))))) (j3 (ac mY (ah bq (by rfl) B.len ae (aD (aY 4) aC)) (a8 JW (hr.mono (by decide)) (by rfl) (aD (aY 3) aC)) (bG _)))))
   (aM (bB ip))
   bU)
   (cm (ai (i:=5) gg.nd rfl (Or.inl rfl) (cw aC))
   (cm (di bH rfl (dw (aY 4)) (bb (i:=6) gg.nd rfl (Or.inl rfl))
   (aG (cF (gP (fj (a8 Iy (hr.mono (by decide)) (by rfl) (aD (aY 6) (aD (aY 2) (aD (aY 3) aC))))))
    (aM (bB ip))
    bU)
    (aM (gY (io bf cz cy jG (aY 5) (dR (a8 IP (hr.mono (by decide)) (by rfl) (aD (aY 2) (bT (bW fV (aY 6) aF (λ_ _=>rfl)) aC))) aC))))))
   (cm (di bH rfl (lN (by rfl) B.range (bc aF (dR (ah bq (by rfl) B.len ae (aD (aY 5) aC)) aC))) (bb (i:=7) gg.nd rfl (Or.inl rfl))
   (aM (cF (gP (ac oi (bW cI (aY 5) (aW gh (aY 7) aF) (λ_ _=>rfl)) (bW cI (aY 5) (aY 7) (λ_ _=>rfl)) (bG _)))
    (aM (bB ip))
    bU)))
   (cm (ai (i:=8) gg.nd rfl (Or.inl rfl) (dD jc (by rfl) B.list cf (aD (aY 4) aC)))
   (cm (gY (vJ bf PySem.F.slot_list_clear PySem.F.type_list_clear AE (aY 4)))
   (cm (cF (ac (EQ (oy hr)) (a8 IY (hr.mono (by decide)) (by rfl) (aD (aY 2) (aD (aY 3) aC))) (aY 8) (bG _))
   (aM (bB ip))
   bU)
   (cm (ai (i:=9) gg.nd rfl (Or.inr rfl) (a8 Iw (hr.mono (by decide)) (by rfl) (dR (a8 Iv (hr.mono (by decide)) (by rfl) (dR (a8 Ib (hr.mono (by decide)) (by rfl) (aD (aY 0) (bc aF aC))) aC)) (aD (aY 2) (cG (aW iM (aW gQ (aY 1) aF) aF) aC)))))
   (aG (cF (ac mY (ah ce (by rfl) B.len ae (aD (aY 9) aC)) (aY 3) (bG _))
   (aM (bB (Dl (dQ rG (ah ce (by rfl) B.len ae (aD (aY 9) aC)) aF (bG _)) (mf (dQ dX (io bf PySem.F.slot_list_count PySem.F.type_list_count (w9 (oy hr)) (a8 IY (hr.mono (by decide)) (by rfl) (aD (aY 2) (dR (ah ce (by rfl) B.len ae (aD (aY 9) aC)) aC))) (dR (a8 l8 (hr.mono (by decide)) (by rfl) (aD (aY 2) (aD (aY 9) aC))) aC)) aF (bG _))))))
   bU)
   (aM (bB (dQ (zf (oy hr)) (bW cI (aY 8) (ah bq (by rfl) B.len ae (gw (iJ (own:=["_law_one"]) (ns:=["_law_code"]) (caps:=[9]) rfl ⟨rfl,by decide +kernel,by decide +kernel,by decide +kernel⟩ (.cons rfl rfl (.inl rfl) .nil) (dw (aY 5)) (λC s H fp pn=>(bb (i:=0) (show List.Nodup ((["_law_one"]:List Str)++(["_law_code"]:List Str)) by decide +kernel) rfl (Or.inl rfl))) (λC s H fp pn=>(vH (ac oi (aY 0) (aY 1) (bG _)))) (λC s H fp pn=>(aY 0))) aC)) (λ_ _=>rfl)) (a8 l8 (hr.mono (by decide)) (by rfl) (aD (aY 2) (aD (aY 9) aC))) (bG _)))))))))))))))))))),?_⟩
  refine cT (λσ H'=>∃c0:Int,σ=[some (.ref a),some (.int c0),none,none,none,none,none,none,none,none]/\H=H') ?_ ?_
  ·nofun;exact⟨a,cs0,0,rfl,hS,λc0=>⟨c0,rfl,rfl⟩⟩
  rintro σ H' ⟨c0,rfl,rfl⟩;refine cT (λσ H'=>σ=[some (.ref a),some (.int c0),some (.str (sd (decide (c0 % 2=1)))),none,none,none,none,none,none,none]/\H=H') ?_ ?_
  ·nofun;refine⟨by decide,by decide,_,GL (jt _ (by decide)) (iX _ (by decide)),?_⟩;rw[GK];exact⟨rfl,trivial⟩
  rintro σ H' ⟨rfl,rfl⟩;generalize hb:decide (c0 % 2=1)=b;refine cT (λσ H'=>∃n:Nat,n<=9/\σ=[some (.ref a),some (.int c0),some (.str (sd b)),some (.int (n:Nat)),none,none,none,none,none,none]/\H=H') ?_ ?_
  ·nofun;have m0:0<=c0 / 2 % 8:=jt _ (by decide);have m1:c0 / 2 % 8<8:=iX _ (by decide);obtain⟨m,hm⟩:=jV m0;rw[hm] at m1 ⊢;exact⟨⟨by decide,by decide⟩,by decide,m,by lia,rfl,trivial⟩
  rintro σ H' ⟨n,hn,rfl,rfl⟩;refine cT (λσ H'=>∃n:Nat,n<=9/\σ=[some (.ref a),some (.int c0),some (.str (sd b)),some (.int (n:Nat)),none,none,none,none,none,none]/\H=H') ?_ ?_
  ·nofun;exact⟨⟨by decide,by decide⟩,by decide,g0 (λ_=>⟨8,by decide,rfl,trivial⟩) (λ_=>⟨n,hn,rfl,trivial⟩)⟩
  clear hn;rintro σ H' ⟨n,hn,rfl,rfl⟩;refine cT (λσ H'=>∃n:Nat,n<=9/\σ=[some (.ref a),some (.int c0),some (.str (sd b)),some (.int (n:Nat)),none,none,none,none,none,none]/\H=H') ?_ ?_
  ·nofun;exact⟨⟨by decide,by decide⟩,by decide,g0 (λ_=>⟨9,by decide,rfl,trivial⟩) (λ_=>⟨n,hn,rfl,trivial⟩)⟩
  clear hn;rintro σ H' ⟨n,hn,rfl,rfl⟩;refine cT (λσ H'=>∃l as,σ=[some (.ref a),some (.int c0),some (.str (sd b)),some (.int (n:Nat)),some (.ref l),none,none,none,none,none]/\H l=none/\a6 H H'/\H' l=some (.lst (as.map V.ref))/\vg H' b as (cC n (bL b) (bR b))) ?_ ?_
  ·nofun;exact⟨b,n,rfl,hn,λl as H' nl s' hl ml=>⟨l,as,rfl,nl,s',hl,ml⟩⟩
  rintro σ H1 ⟨l,as,rfl,nl,s1,hl,ml⟩;have sl:(cC n (bL b) (bR b)).length<=262144:=by
   rw[ka];exact av (qQ _ _ _) (av (df (by decide) hn) (by decide))
  have al:=By ml;refine cT (λσ H'=>σ=[some (.ref a),some (.int c0),some (.str (sd b)),some (.int (n:Nat)),some (.ref l),none,none,none,none,none]/\a6 H1 H') ?_ ?_
  ·nofun;refine AO (.lst hl (mj ml)) ?_;refine⟨_,rfl,fx (λz=>nomatch z) ⟨_,.inl (cL.of hl),n,rfl,by lia,λH2 s2=>⟨rfl,_,rfl,fx ?_ ⟨trivial,s2⟩⟩⟩⟩;rw[aB,al,ka,Ac];simp
  rintro σ H2 ⟨rfl,s2⟩;have hl2:=s2 _ _ hl;have ml2:=ml.same s2;have s02:=s1.trans s2;clear ml hl s1 s2;refine cT (λσ H'=>∃c,σ=[some (.ref a),some (.int c0),some (.str (sd b)),some (.int (n:Nat)),some (.ref l),some (.ref c),none,none,none,none]/\H2 c=none/\H'=upd H2 c (.lst [])) ?_ ?_
  ·nofun;exact⟨by decide,λp np=>⟨p,rfl,np,rfl⟩⟩
  rintro σ H' ⟨c,rfl,nc,rfl⟩;refine cT (λσ H'=>∃x,σ=[some (.ref a),some (.int c0),some (.str (sd b)),some (.int (n:Nat)),some (.ref l),some (.ref c),x,none,none,none]/\a6 H2 H'/\H' c=some (.lst ((cC n (bL b) (bR b)).map λcs=>V.str (tx cs)))) ?_ ?_
  ·nofun;refine⟨⟨_,cL.of ((a6.refl H2).new nc _ _ hl2)⟩,kU (xs:=as.map V.ref) (λi σ H'=>∃x,σ=[some (.ref a),some (.int c0),some (.str (sd b)),some (.int (n:Nat)),some (.ref l),some (.ref c),x,none,none,none]/\a6 H2 H'/\H' c=some (.lst (((cC n (bL b) (bR b)).take i).map λcs=>V.str (tx cs)))) ⟨_,rfl,(a6.refl H2).new nc,aO⟩ (λ_ σ H' _ ⟨_,_,s,_⟩=>cL.of (s _ _ hl2)) ?_ ?_⟩
   ·rintro i x σ H3 hx ⟨x6,rfl,s3,hc⟩;obtain⟨m,hm,rfl⟩:=fP hx;have hi:=(aJ.mp hm).1;obtain⟨ds,hd⟩:∃ds,(cC n (bL b) (bR b))[i]? = some ds:=⟨_,aI (by lia)⟩
    obtain⟨D,dl,dk⟩:=lj (by lia) hd;obtain⟨m',o,hm',hz⟩:=zx (ml2.same s3) hd;rw[hm] at hm';cases hm';have M:=D.maze;nofun;have dl2:((n:Nat):Int)=(((iL b ds).length:Nat):Int):=by rw[M.len,dl]
    rw[dl2];refine⟨m,o,b,_,rfl,hz,M.ord,M.nc,λH4 s4=>⟨_,rfl,fx (λz=>nomatch z) ?_⟩⟩;have s24:=s3.trans s4;refine⟨.inl ⟨rfl,_,cL.of (s4 _ _ hc)⟩,_,_,dr.of (hz.same s4).1,rfl,b,o,_,rfl,(hz.same s4).2,M.ord,λH5 s5=>?_⟩;rw[D.code];refine⟨_,s5 _ _ (s4 _ _ hc),by rw[aB,bV,Ka];lia,_,rfl,(s24.trans s5).new nc,?_⟩;rw[aO,bJ,hd,aN];rfl
   ·rintro σ H3 ⟨x6,rfl,s3,hc⟩;rw[aB,al,cH] at hc;exact⟨_,rfl,s3,hc⟩
  rintro σ H3 ⟨x6,rfl,s3,hc⟩;refine cT (λσ H'=>∃x,σ=[some (.ref a),some (.int c0),some (.str (sd b)),some (.int (n:Nat)),some (.ref l),some (.ref c),x6,x,none,none]/\H3=H') ?_ ?_
  ·nofun;refine⟨_,.inl (cL.of hc),⟨by decide,by decide,by lia,by rw[aB];lia⟩,?_⟩;rw[aB];refine kn (λ_ σ H'=>∃x,σ=[some (.ref a),some (.int c0),some (.str (sd b)),some (.int (n:Nat)),some (.ref l),some (.ref c),x6,x,none,none]/\H3=H') ⟨_,rfl,rfl⟩ ?_ (λσ H' h=>h);rintro i σ H' hi ⟨x7,rfl,rfl⟩;obtain⟨ds,hd⟩:∃ds,(cC n (bL b) (bR b))[i]? = some ds:=⟨_,aI (by lia)⟩
   obtain⟨es,he⟩:∃es,(cC n (bL b) (bR b))[i+1]? = some es:=⟨_,aI (by lia)⟩
   nofun;have e0:(1:Int)+(i:Int) - 1=(i:Nat):=by lia
   have e1:(1:Int)+(i:Int)=((i+1:Nat):Int):=by lia
   rw[e0,e1];refine⟨_,_,cL.of hc,ez (by rw[ar,hd];rfl),_,_,cL.of hc,ez (by rw[ar,he];rfl),tx ds,tx es,rfl,rfl,fx ?_ ⟨_,rfl,trivial⟩⟩;have:=yo hd he;simpa [tx] using this
  rintro σ H' ⟨x7,rfl,rfl⟩;refine cT (λσ H'=>∃k,σ=[some (.ref a),some (.int c0),some (.str (sd b)),some (.int (n:Nat)),some (.ref l),some (.ref c),x6,x7,some (.ref k),none]/\H3 k=none/\H'=upd H3 k (.lst (as.map V.ref))) ?_ ?_
  ·nofun;exact⟨_,.inl (cL.of (s3 _ _ hl2)),λk nk=>⟨k,rfl,nk,rfl⟩⟩
  rintro σ H' ⟨k,rfl,nk,rfl⟩;have sk:=s3.new (o:=.lst (as.map V.ref)) (s3.free nk);have hk:upd H3 k (.lst (as.map V.ref)) k=some (.lst (as.map V.ref)):=aO;have hc4:=(a6.refl H3).new (o:=.lst (as.map V.ref)) nk _ _ hc;have nkl:k≠l:=λe=>by rw[e,s3 _ _ hl2] at nk;cases nk
  have ncl:c≠l:=λe=>by rw[e,hl2] at nc;cases nc
  generalize upd H3 k (.lst (as.map V.ref))=H4 at sk hk hc4 ⊢;refine cT (λσ H'=>σ=[some (.ref a),some (.int c0),some (.str (sd b)),some (.int (n:Nat)),some (.ref l),some (.ref c),x6,x7,some (.ref k),none]/\H'=upd H4 l (.lst [])) ?_ ?_
  ·nofun;have hl4:=sk _ _ hl2;exact⟨.inl ⟨rfl,_,cL.of hl4⟩,l,_,rfl,rfl,hl4,trivial,rfl⟩
  rintro σ H' ⟨rfl,rfl⟩;have s05:=(s02.trans sk).new (o:=.lst []) nl;have ml5:vg (upd H4 l (.lst [])) b as (cC n (bL b) (bR b)):=vg.upd (ml2.same sk) (sk _ _ hl2);have hk5:upd H4 l (.lst []) k=some (.lst (as.map V.ref)):=by rw[a9 nkl];exact hk
  have hc5:upd H4 l (.lst []) c=some (.lst ((cC n (bL b) (bR b)).map λcs=>V.str (tx cs))):=by rw[a9 ncl];exact hc4
  generalize upd H4 l (.lst [])=H5 at s05 ml5 hk5 hc5 ⊢;clear sk hk hc4 nkl ncl hc s3 ml2 hl2 s02 nk nc nl;refine cT (λσ H'=>σ=[some (.ref a),some (.int c0),some (.str (sd b)),some (.int (n:Nat)),some (.ref l),some (.ref c),x6,x7,some (.ref k),none]/\a6 H5 H') ?_ ?_
  ·nofun;refine⟨b,n,rfl,hn,λl2 as2 H6 _ s6 hl6 ml6=>?_⟩;exact CT (.lst hl6 (mj ml6)) (.lst (s6 _ _ hk5) (mj (ml5.same s6))) (Bx b _) (w6 b _) ⟨_,rfl,fx (by decide) ⟨trivial,s6⟩⟩
  rintro σ H6 ⟨rfl,s6⟩;have s06:=s05.trans s6;refine cT (λσ H'=>∃cs,σ=[some (.ref a),some (.int c0),some (.str (sd b)),some (.int (n:Nat)),some (.ref l),some (.ref c),x6,x7,some (.ref k),some (.str (tx cs))]/\a6 H6 H'/\xN b cs/\cs.length<=12) ?_ ?_
  ·nofun;refine⟨a,cs0,1,rfl,s06.seq hS,λc1=>⟨c1,rfl,λr=>?_⟩⟩;nofun;have m0:0<=c0 / 128 % 4:=jt _ (by decide);have m1:c0 / 128 % 4<4:=iX _ (by decide);obtain⟨m,hm⟩:=jV m0;rw[hm] at m1 ⊢;exact⟨⟨by decide,by decide⟩,by decide,r,b,m,rfl,by lia,λcs H' s' C h4=>⟨cs,rfl,s',C,by lia⟩⟩
  rintro σ H7 ⟨cs,rfl,s7,C,h12⟩;have s57:=s6.trans s7;have hk7:=s57 _ _ hk5;have hc7:=s57 _ _ hc5;have ml7:=ml5.same s57;clear s05 s06 s6 s7 s57 ml5 hc5 hk5;nofun;rw[b6];refine⟨jw (by lia),g0 (λ_=>⟨jw (by lia),g0 (λ_=>kQ _) (λh8=>⟨jw (by lia),?_⟩)⟩) (λe=>?_)⟩
  ·refine⟨b,_,rfl,by lia,λl8 as8 H8 _ s8 hl8 ml8=>⟨.inl ⟨rfl,_,cL.of hl8⟩,b,cs,rfl,C,λm o H9 s9 hz=>?_⟩⟩;dsimp only;rw[qY];refine⟨_,_,_,hz.dat.rep,cL.of (s9 _ _ hl8),(mj (ml8.same s9)).rep,t0.lay,qH b _,t0.deep,?_⟩;rw[zy (by lia) C (bP (sr C.lts C.res))];exact⟨rfl,kQ _⟩
  ·have en:cs.length=n:=by lia
   have hat:=sr C.lts C.res;rw[en] at hat;have ex:∀i,(((cC n (bL b) (bR b)).map λcs=>V.str (tx cs)):List V)[i]? = (((cC n (bL b) (bR b))[i]?).map λcs=>V.str (tx cs)):=λi=>ar;refine⟨⟨_,cL.of hc7⟩,iF (xs:=(cC n (bL b) (bR b)).map λcs=>V.str (tx cs)) (λi ys σ H'=>H'=H7/\ys=(((cC n (bL b) (bR b)).take i).filter λy=>decide (y<cs)).map (λcs=>V.str (tx cs))/\∃x0,σ=[x0,some (.str (tx cs))]) ⟨rfl,rfl,_,rfl⟩ ?_ (by rw[aB,Ka];lia) ?_ ?_⟩
   ·rintro i ys σ H' ⟨rfl,rfl,_⟩;refine⟨cL.of hc7,?_⟩;rw[aB];exact av (List.length_filter_le _ _) (by rw[bV];lia)
   ·rintro i x ys σ H' N hx ⟨rfl,rfl,x0,rfl⟩ hN;obtain⟨ds,hd,rfl⟩:=fP hx;nofun;have tl:∀u:List Nat,(tx u).cps.toList=u:=λu=>by simp[tx]
    rw[tl,tl];refine g0 (λh=>hN _ _ _ ⟨rfl,?_,_,rfl⟩) (λh=>hN _ _ _ ⟨rfl,?_,_,rfl⟩)
    ·rw[bJ,hd,fX,aN];show _=_++List.map _ (List.filter _ [ds]);rw[jQ (by simpa using h)];rfl
    ·rw[bJ,hd,fX,aN];show _=_++List.map _ (List.filter _ [ds]);rw[jR (by simpa using h)];simp
   ·rintro ys σ H' t ⟨rfl,rfl,x0,rfl⟩ nt;rw[aB,cH];have st:=(a6.refl H').new (o:=.lst (((cC n (bL b) (bR b)).filter λy=>decide (y<cs)).map (λcs=>V.str (tx cs)))) nt;obtain⟨m,o,hm,hz⟩:=zx (ml7.same st) hat;refine⟨t,_,rfl,.inl (cL.of aO),_,.ref m,cL.of (st _ _ hk7),?_,b,cs,rfl,C,λm2 o2 H9 s9 hz2=>?_⟩
    ·rw[aB,o6 (lL n _ _) hat];exact ez (by rw[ar,hm];rfl)
    ·refine Hw (hz.same s9) hz2 ?_;rw[Ks rfl,Ks rfl];exact kQ _
end
def fJ(K:Kw)(x:Str)(st:Stmt):Prop:=∃(f:Addr) (oc:Value) (od an:Option Addr) (osl:Array (Option Value)) (kV doc pm cdv ct:Value),PySem.W.nsIn K mainGlobals x=some (some (.ref f))/\K.lookup f=some ⟨oc,od,.func (PySem.W.fnOf x x (ic st) (gR st) (ay st) .none kV doc pm an cdv ct),osl⟩/\PySem.W.codeIn K cdv x=true/\PySem.W.keepIn K (.ref f)=true
def fnIn{K:Kw}{x:Str}{st:Stmt}{f:Addr}{oc:Value}{od an:Option Addr}{osl:Array (Option Value)}{kV doc pm cdv ct:Value}(a:PySem.W.nsIn K mainGlobals x=some (some (.ref f)))(l:K.lookup f=some ⟨oc,od,.func (PySem.W.fnOf x x (ic st) (gR st) (ay st) .none kV doc pm an cdv ct),osl⟩)(c:PySem.W.codeIn K cdv x=true)(k:PySem.W.keepIn K (.ref f)=true):fJ K x st:=⟨_,_,_,_,_,_,_,_,_,_,a,l,c,k⟩
def dS{K:Kw}{h:Heap}{mg:Str->Option Value}(X:K.In h)(G:h.Ns mainGlobals mg){x:Str}{st:Stmt}{ps:List Str}(a:fJ K x st)
  (hb:∀(kV doc pm:Value) (an:Option Addr) (cdv ct:Value) (us:List Value),us.length=ps.length->bindArgs (PySem.W.fnOf x x (ic st) (gR st) (ay st) .none kV doc pm an cdv ct) ⟨us,[]⟩=pure (ps.zip us)):Fn K mg x st ps:=
 let ⟨f,_,_,_,_,_,_,_,_,_,a,l,c,k⟩:=a
 have F:=Ei (st:=st) l c k
 ⟨f,_,F,dJ X G a,F.binds hb⟩
def all_mk {l:PySem.W.OpenLaw} {w:World} {K:Kw} {h:Heap} {mg:Str->Option Value} {fa:Addr} (X:K.In h) (G:h.Ns mainGlobals mg) (hfa:mg "law"=some (.ref fa))
  (Ij:fJ K "is_whole" gE)
  (Ik:fJ K "is_below" gF)
  (Iz:fJ K "is_side" hZ)
  (IQ:fJ K "other_side" eh)
  (JX:fJ K "begun" i9)
  (IR:fJ K "leading_on" du)
  (IZ:fJ K "other_end" f6)
  (JN:fJ K "joined" iz)
  (Jb:fJ K "step" kN)
  (Il:fJ K "vet_code" gD)
  (II:fJ K "rows_across" eB)
  (JA:fJ K "decoded" gG)
  (JB:fJ K "can_end" gI)
  (IJ:fJ K "next_states" eC)
  (I0:fJ K "ends_from" dI)
  (IK:fJ K "completions" eE)
  (I9:fJ K "vet_rings" fZ)
  (JY:fJ K "count" kd)
  (Im:fJ K "codes_of" gH)
  (JO:fJ K "listed" iy)
  (JC:fJ K "_law_cell_at" iE)
  (JZ:fJ K "_law_mixed" kc)
  (JD:fJ K "_law_rest_of" gz)
  (JE:fJ K "_law_crosses" iB)
  (KN:fJ K "_law_go" wB)
  (Io:fJ K "_law_at_first" gJ)
  (JF:fJ K "_law_closing" iD)
  (JG:fJ K "_law_code_by" iC)
  (IS:fJ K "_law_letters_of" eu)
  (JH:fJ K "_law_is_maze" iA)
  (JP:fJ K "law" lm)
  {J0:Tok} (IT:PySem.W.nsIn K mainGlobals "MOST_RINGS"=some (some (.int 20 J0)))
  {Jl:Tok} (JI:PySem.W.nsIn K mainGlobals "LETTERS"=some (some (.str (Str.ofString "abcd") Jl)))
  {JQ:Tok} (IE:PySem.W.nsIn K mainGlobals "LEFT_INWARDS"=some (some (.str (Str.ofString "ab") JQ)))
  {JK:Tok} (IB:PySem.W.nsIn K mainGlobals "RIGHT_INWARDS"=some (some (.str (Str.ofString "ac") JK)))
  {Jj:Addr} {Jk:Obj} (J1:PySem.W.nsIn K mainGlobals "SIDES"=some (some (.ref Jj))) (J2:K.lookup Jj=some Jk) (J3:L2.uI Jk ["l","r"])
  (Jv:PySem.W.nsIn K mainGlobals "len"=some none) (J4:PySem.W.nsIn K mainGlobals "range"=some none) (Jw:PySem.W.nsIn K mainGlobals "int"=some none) (Jc:PySem.W.nsIn K mainGlobals "list"=some none) (J5:PySem.W.nsIn K mainGlobals "tuple"=some none) (IU:PySem.W.nsIn K mainGlobals "isinstance"=some none) (Jx:PySem.W.nsIn K mainGlobals "str"=some none) (Jd:PySem.W.nsIn K mainGlobals "bool"=some none) (JR:PySem.W.nsIn K mainGlobals "sorted"=some none) (Jy:PySem.W.nsIn K mainGlobals "all"=some none) (Jz:PySem.W.nsIn K mainGlobals "zip"=some none) (KA:PySem.W.nsIn K mainGlobals "max"=some none) (KC:PySem.W.nsIn K mainGlobals "min"=some none) (Ip:PySem.W.nsIn K mainGlobals "reversed"=some none) (Ia:PySem.W.nsIn K mainGlobals "enumerate"=some none) (KD:PySem.W.nsIn K mainGlobals "abs"=some none) (KF:PySem.W.nsIn K mainGlobals "sum"=some none) (IV:PySem.W.nsIn K mainGlobals "ValueError"=some none) :
  ∃fd:FuncData,(∀(s:Shared) (v:Value),BindsTo s fd ⟨[v],[]⟩ [("_law_script",v)])/\∀base:Heap,K.In base->base.Ns mainGlobals mg->nu l.prog w K mg base Au 21 fa fd ["_law_script"] (qm K):=by
 have B:oU mg:=⟨aw X G Jv,aw X G J4,aw X G Jw,aw X G Jc,aw X G J5,aw X G IU,aw X G Jx,aw X G Jd,aw X G JR,aw X G Jy,aw X G Jz,aw X G KA,aw X G KC,aw X G Ip,aw X G Ia,aw X G KD,aw X G KF,aw X G IV,⟨_,dJ X G IT⟩,⟨_,dJ X G JI⟩,⟨_,dJ X G IE⟩,⟨_,dJ X G IB⟩⟩
 have JV:=L2.AY X G J1 J2 J3;have Je:Fn K mg "is_whole" gE ["thing"]:=dS X G Ij λ_ _ _ _ _ _=>L2.u9 λ_=>rfl;have Jf:Fn K mg "is_below" gF ["thing","bound"]:=dS X G Ik λ_ _ _ _ _ _=>L2.sS λ_ _=>rfl;have Jm:Fn K mg "is_side" hZ ["thing"]:=dS X G Iz λ_ _ _ _ _ _=>L2.u9 λ_=>rfl;have J6:Fn K mg "other_side" eh ["side"]:=dS X G IQ λ_ _ _ _ _ _=>L2.u9 λ_=>rfl;have KJ:Fn K mg "begun" i9 ["side"]:=dS X G JX λ_ _ _ _ _ _=>L2.u9 λ_=>rfl;have J7:Fn K mg "leading_on" du ["state"]:=dS X G IR λ_ _ _ _ _ _=>L2.u9 λ_=>rfl;have J9:Fn K mg "other_end" f6 ["signs","place"]:=dS X G IZ λ_ _ _ _ _ _=>L2.sS λ_ _=>rfl;have KG:Fn K mg "joined" iz ["left","right"]:=dS X G JN λ_ _ _ _ _ _=>L2.sS λ_ _=>rfl;have KO:Fn K mg "step" kN ["state","letter"]:=dS X G Jb λ_ _ _ _ _ _=>L2.sS λ_ _=>rfl;have Jg:Fn K mg "vet_code" gD ["side","code"]:=dS X G Il λ_ _ _ _ _ _=>L2.sS λ_ _=>rfl;have JS:Fn K mg "rows_across" eB ["code","inwards","begins_here"]:=dS X G II λ_ _ _ _ _ _=>L2.Gf λ_ _ _=>rfl;have Jn:Fn K mg "decoded" gG ["side","code"]:=dS X G JA λ_ _ _ _ _ _=>L2.sS λ_ _=>rfl;have Jo:Fn K mg "can_end" gI ["state","rows"]:=dS X G JB λ_ _ _ _ _ _=>L2.sS λ_ _=>rfl;have JT:Fn K mg "next_states" eC ["state"]:=dS X G IJ λ_ _ _ _ _ _=>L2.u9 λ_=>rfl;have JJ:Fn K mg "ends_from" dI ["state","rows","known"]:=dS X G I0 λ_ _ _ _ _ _=>L2.Gf λ_ _ _=>rfl;have JU:Fn K mg "completions" eE ["state","rows"]:=dS X G IK λ_ _ _ _ _ _=>L2.sS λ_ _=>rfl;have Ja:Fn K mg "vet_rings" fZ ["n"]:=dS X G I9 λ_ _ _ _ _ _=>L2.u9 λ_=>rfl;have KL:Fn K mg "count" kd ["n"]:=dS X G JY λ_ _ _ _ _ _=>L2.u9 λ_=>rfl;have Jh:Fn K mg "codes_of" gH ["side","n"]:=dS X G Im λ_ _ _ _ _ _=>L2.sS λ_ _=>rfl;have KH:Fn K mg "listed" iy ["side","n"]:=dS X G JO λ_ _ _ _ _ _=>L2.sS λ_ _=>rfl;have Jp:Fn K mg "_law_cell_at" iE ["_law_script","_law_k"]:=dS X G JC λ_ _ _ _ _ _=>L2.sS λ_ _=>rfl;have KM:Fn K mg "_law_mixed" kc ["_law_cell"]:=dS X G JZ λ_ _ _ _ _ _=>L2.u9 λ_=>rfl;have Jq:Fn K mg "_law_rest_of" gz ["_law_cell"]:=dS X G JD λ_ _ _ _ _ _=>L2.u9 λ_=>rfl;have Jr:Fn K mg "_law_crosses" iB ["_law_side","_law_order"]:=dS X G JE λ_ _ _ _ _ _=>L2.sS λ_ _=>rfl;have K0:Fn K mg "_law_go" wB ["_law_ends","_law_letter"]:=dS X G KN λ_ _ _ _ _ _=>L2.sS λ_ _=>rfl;have Ji:Fn K mg "_law_at_first" gJ ["_law_side"]:=dS X G Io λ_ _ _ _ _ _=>L2.u9 λ_=>rfl;have Js:Fn K mg "_law_closing" iD ["_law_ends"]:=dS X G JF λ_ _ _ _ _ _=>L2.u9 λ_=>rfl;have Jt:Fn K mg "_law_code_by" iC ["_law_rest","_law_side","_law_many"]:=dS X G JG λ_ _ _ _ _ _=>L2.Gf λ_ _ _=>rfl;have J8:Fn K mg "_law_letters_of" eu ["_law_side","_law_order"]:=dS X G IS λ_ _ _ _ _ _=>L2.sS λ_ _=>rfl;have Ju:Fn K mg "_law_is_maze" iA ["_law_found","_law_side","_law_n"]:=dS X G JH λ_ _ _ _ _ _=>L2.Gf λ_ _ _=>rfl;have KY:Fn K mg "law" lm ["_law_script"]:=dS X G JP λ_ _ _ _ _ _=>L2.u9 λ_=>rfl;have key:∀base:Heap,K.In base->base.Ns mainGlobals mg->eQ l.prog w K mg base 21 "law" lm ["_law_script"] (qm K):=λbase KB GB=>by
  have Ic:=rK (P:=l.prog) (w:=w) (base:=base) B Je;have Ig:=rL Jf Ic;have Iq:=tQ (P:=l.prog) (w:=w) (base:=base) JV Jm;have IM:=oI (P:=l.prog) (w:=w) (base:=base) J6;have IC:=zj (P:=l.prog) (w:=w) (base:=base) KJ;have d7:=oK (P:=l.prog) (w:=w) (base:=base) B J7;have IF:=qE (P:=l.prog) (w:=w) (base:=base) J9;have JM:=wX B KG IF;have IL:=Br B KO JM;have Ie:=rJ B Jg IC IL d7;have IA:=nJ (P:=l.prog) (w:=w) (base:=base) B JS;have l8:=tS B Jn Iq IM Ie IA;have ID:=tX Jo d7;have IG:=nK B JT IL;have D_ends:∀n,eQ l.prog w K mg base (5+n) "ends_from" dI ["state","rows","known"] (nC n):=by
   intro n
   induction n with
   | zero=>exact zh JJ
   | succ n ih=>exact qF B JJ ID IG ih
  have IH:=nL JU (D_ends 13);have IX:=qD B Ja Ig;have JW:=zi KL IX IH IC;have Ih:=rM B Jh IC IL ID;have IY:=wW B KH Ih l8;have Ib:=tW (P:=l.prog) (w:=w) (base:=base) B Jp;have JL:=zg (P:=l.prog) (w:=w) (base:=base) KM;have Iv:=tP Jq JL;have Iu:=tT (P:=l.prog) (w:=w) (base:=base) B Jr;have KI:=GI (P:=l.prog) (w:=w) (base:=base) B K0;have Ii:=rN (P:=l.prog) (w:=w) (base:=base) Ji;have Ir:=tV (P:=l.prog) (w:=w) (base:=base) B Js;have Iw:=tU B Jt Ii KI Ir;have IP:=oJ (P:=l.prog) (w:=w) (base:=base) B J8;have Iy:=tR B Ju Iu;exact ER B KY Ib Iv Iw IY JW Iy IP l8
 obtain⟨f0,oc0,od0,KP,sl0,KQ,KR,KS,KU,KW,JP,KZ,_,_⟩:=JP;have e:=hfa.symm.trans (dJ X G JP);cases e;refine⟨PySem.W.fnOf "law" "law" (ic lm) (gR lm) (ay lm) .none KQ KR KS KP KU KW,λs v=>.of_eq rfl,λbase KB GB=>?_⟩;obtain⟨f,fd,F,m,b,ok⟩:=(key base KB GB).ex;rw[dJ X G JP] at m;cases m;obtain⟨_,_,_,_,_,_,_,_,_,rfl,lk,_⟩:=F.ex;rw[KZ] at lk;cases lk;exact ok
def walk{l:PySem.W.OpenLaw}{q:Program}{loose:List Str}{XP:(Str->Option Value)->Heap->Prop}{YP:World->Heap->Prop}{d:DefRec}{K:Params->Kw}(hn:l.most=some 63)(hdf:d.params.defaults=[])
  (hY:∀(w:World) (h:Heap),YP w h->(K w.params).In h)
  (F:∀(w:World) (mg:Str->Option Value) (fa:Addr) (h:Heap),(K w.params).In h->h.Ns mainGlobals mg->mg d.name=some (.ref fa) →
   ∃fd:FuncData,(∀(s:Shared) (u:Value),BindsTo s fd ⟨[u],[]⟩ [("_law_script",u)])/\∀base:Heap,(K w.params).In base->base.Ns mainGlobals mg->nu l.prog w (K w.params) mg base Au 21 fa fd ["_law_script"] (qm (K w.params))) :
  PySem.W.WalkO q loose XP YP l.row.toRowW d [] (λf vs=>PySem.call f vs):=
 L2.uO (n:=63) (k:=21) (x:="_law_script") (CX:=λ_=>Au) (sp:=λw=>qm (K w.params)) hn (by decide) hdf ⟨rfl,by decide,by decide,rfl⟩ hY F (λ_ _ a ns hl _ hS=>⟨a,ns,rfl,hS,hl,λ_=>rfl⟩) λ_ _ _ _ _ z=>z
end Rm
open PySem PySem.W PyProof.Rows
local macro_rules | `(tactic| walk_at "kf") => `(tactic| exact Rm.fnIn (by k_is) (by k_is) (by k_is) (by k_is))
set_option maxRecDepth 100000 in
set_option maxHeartbeats 0 in
theorem PySem.Challenge.cw_ringmaze_k35_lists_of_mazes_holds : PySem.Challenge.rw_ringmaze_k35_lists_of_mazes.Holds := by
 w_on; o_law; k_head; (case hw => w_witness2)
 k_fill
 refine Rm.walk (l := PySem.Challenge.rw_ringmaze_k35_lists_of_mazes) rfl rfl (λw h Y => PySem.W.kIn_of Y) ?F
 case F =>
  intro w mg fa h KX G hmg;refine' Rm.all_mk KX G hmg ?Ij ?Ik ?Iz ?IQ ?JX ?IR ?IZ ?JN ?Jb ?Il ?II ?JA ?JB ?IJ ?I0 ?IK ?I9 ?JY ?Im ?JO ?JC ?JZ ?JD ?JE ?KN ?Io ?JF ?JG ?IS ?JH ?JP ?IT ?JI ?IE ?IB ?J1 ?J2 ?J3 ?Jv ?J4 ?Jw ?Jc ?J5 ?IU ?Jx ?Jd ?JR ?Jy ?Jz ?KA ?KC ?Ip ?Ia ?KD ?KF ?IV
  (case Ij => walk_at "kf")
  (case Ik => walk_at "kf")
  (case Iz => walk_at "kf")
  (case IQ => walk_at "kf")
  (case JX => walk_at "kf")
  (case IR => walk_at "kf")
  (case IZ => walk_at "kf")
  (case JN => walk_at "kf")
  (case Jb => walk_at "kf")
  (case Il => walk_at "kf")
  (case II => walk_at "kf")
  (case JA => walk_at "kf")
  (case JB => walk_at "kf")
  (case IJ => walk_at "kf")
  (case I0 => walk_at "kf")
  (case IK => walk_at "kf")
  (case I9 => walk_at "kf")
  (case JY => walk_at "kf")
  (case Im => walk_at "kf")
  (case JO => walk_at "kf")
  (case JC => walk_at "kf")
  (case JZ => walk_at "kf")
  (case JD => walk_at "kf")
  (case JE => walk_at "kf")
  (case KN => walk_at "kf")
  (case Io => walk_at "kf")
  (case JF => walk_at "kf")
  (case JG => walk_at "kf")
  (case IS => walk_at "kf")
  (case JH => walk_at "kf")
  (case JP => walk_at "kf")
  (case IT => k_is)
  (case JI => k_is)
  (case IE => k_is)
  (case IB => k_is)
  (case J1 => k_is)
  (case J2 => k_is)
  (case J3 => exact L2.vm rfl rfl (by decide) (.cons ⟨_, rfl⟩ (.cons ⟨_, rfl⟩ .nil)))
  (case Jv => k_is)
  (case J4 => k_is)
  (case Jw => k_is)
  (case Jc => k_is)
  (case J5 => k_is)
  (case IU => k_is)
  (case Jx => k_is)
  (case Jd => k_is)
  (case JR => k_is)
  (case Jy => k_is)
  (case Jz => k_is)
  (case KA => k_is)
  (case KC => k_is)
  (case Ip => k_is)
  (case Ia => k_is)
  (case KD => k_is)
  (case KF => k_is)
  (case IV => k_is)
#print axioms PySem.Challenge.cw_ringmaze_k35_lists_of_mazes_holds
