import PyProof.Rows.All
import Wide.All
import OpenK.AllK
import Wide.FinOn
import Lean
import PyProof.EqAt
import PyProof.EqKinds
import PyProof.TupleCall
import KE.LcSums
import PyProof.StrLawsJoin
import KE.KSortTup
import KE.KSortKey
import PyProof.WalkInts
import PyProof.MinMaxWalk
import KE.KRevIter
import KE.KSortedM
import PyProof.ReprLen
import PyProof.P3Eq
import PySem.Challenge.RW_ringmaze_k38_whole_list_of_drawable_ones
abbrev Ka:=@PySem.wpAny_eqBool_int
abbrev Kb:=@PySem.wpAny_mono
abbrev Kc:=@PySem.wpAny_truthy_bool
abbrev Kd:=@PySem.wpAny_pure
abbrev Ke:=@PySem.wpAny_pyNext_range_end
abbrev Kf:=@PySem.wpAny_pyIter_rangeiter
abbrev Kg:=@PySem.wpAny_pyIter_range
abbrev Kh:=@PySem.sizeLine_eq
abbrev Ki:=@PySem.wpAny_Call_Name_kw
abbrev Kj:=@PySem.wpAny_field
abbrev Kl:=@PySem.wpAny_holding
abbrev Km:=@PySem.wpAny_call_entry
abbrev Kn:=@PySem.wpAny_newObj_type
abbrev Ko:=@PySem.typeIs_str
abbrev Kq:=@PySem.call_meets
abbrev Ks:=@PySem.tupleKind_room_in1
abbrev Ku:=@PyProof.Rows.mirror_perm
abbrev Kv:=@PyProof.Rows.listUpdate_at
abbrev Kw:=@PyProof.Rows.seqEpoch_at
abbrev Kx:=@PySem.wpAny_newList
abbrev Ky:=@PySem.wpAny_execs_nil
abbrev Kz:=@PySem.wpAny_passesOwn
abbrev LA:=@PySem.wpAny_seqItems
abbrev LB:=@PySem.wpAny_rule
abbrev LC:=@PySem.wpAny_setField_rec
abbrev LD:=@PySem.wpAny_pyIter_zip
abbrev LF:=@PySem.post_val_or_str
abbrev LG:=@PyProof.Rows.wpS_bind
abbrev LH:=@PyProof.Rows.wpS_get
abbrev LI:=@PyProof.Rows.wpS_lift
abbrev LJ:=@PyProof.Rows.wpS_pure
abbrev LK:=@PyProof.Rows.wpS_modify
abbrev LL:=@if_neg
abbrev LM:=@if_pos
abbrev LN:=@decide_eq_true_eq
abbrev LO:=@decide_eq_false
abbrev LP:=@decide_eq_true
abbrev LQ:=@of_decide_eq_true
abbrev LR:=@if_true
abbrev LS:=@if_false
abbrev LU:=PySem.W.Frag
abbrev aA:=@PySem.Heap.get?_push_of_some
abbrev aB:=@Nat.le_refl
abbrev aC:=@List.length_map
abbrev aD:=@List.mem_cons_of_mem
abbrev aE:=@List.mem_append
abbrev aF:=@List.mem_cons
abbrev aH:=@List.size_toArray
abbrev aI:=@List.getElem?_eq_some_iff
abbrev aK:=@List.append_assoc
abbrev aM:=@List.map_append
abbrev aN:=@PySem.Heap.lt_size
abbrev aP:=@PySem.Heap.get?_push_size
abbrev aQ:=@List.mem_singleton
abbrev aR:=@List.length_append
abbrev aS:=@List.getElem?_eq_getElem
abbrev aW:=@List.flatMap_cons
abbrev aY:=@Bool.false_eq_true
abbrev aZ:=@List.map_cons
abbrev a6:=@Nat.zero_le
abbrev a7:=@Nat.lt_of_lt_of_le
abbrev a8:=@List.getElem?_append_right
abbrev a9:=@Nat.ne_of_lt
abbrev aa:=@List.mem_append_right
abbrev ae:=@List.mem_append_left
abbrev ai:=@List.nil_sublist
abbrev am:=@List.mem_cons_self
abbrev aq:=@List.exists_cons_of_length_eq_add_one
abbrev au:=@Bool.false_ne_true
abbrev av:=@PySem.PassesOwn.never
abbrev aw:=@List.mem_map
abbrev ax:=@List.mem_of_getElem?
abbrev ay:=@List.nil_append
abbrev bB:=@List.drop_eq_getElem_cons
abbrev bC:=@Array.getD_eq_getD_getElem?
abbrev bD:=@List.take_add_one
abbrev bE:=@PySem.W.mg_none_of
abbrev bG:=@List.getElem?_append_left
abbrev bH:=@List.pairwise_append
abbrev bJ:=@Nat.le_trans
abbrev bM:=@List.perm_append_comm
abbrev bO:=@List.count_eq_zero
abbrev bQ:=@Array.length_toList
abbrev bS:=@List.length_take
abbrev bT:=@Option.some.inj
abbrev bV:=@List.getElem?_map
abbrev bX:=@Array.toList_append
abbrev bY:=@PyProof.Rows.callWith_type1
abbrev bZ:=@List.take_of_length_le
abbrev b6:=@List.singleton_sublist
abbrev b9:=@List.map_map
abbrev ba:=@List.not_mem_nil
abbrev bb:=@List.length_cons
abbrev be:=@List.append_nil
abbrev bf:=@List.getD_eq_getElem?_getD
abbrev bi:=@List.take_append_drop
abbrev bn:=@Array.Perm.refl
abbrev bu:=@PySem.Paired.length
abbrev bv:=@Array.size_reverse
abbrev bx:=@PyProof.Rows.slot_tuple_getitem
abbrev cA:=@Int.le_refl
abbrev cB:=@List.map_congr_left
abbrev cE:=@PySem.F.plainAttrs_list
abbrev cF:=@List.take_length
abbrev cH:=@Ne.symm
abbrev cI:=@Array.toList_reverse
abbrev cJ:=@Nat.zero_add
abbrev cL:=@PySem.boot_len
abbrev cN:=@Nat.le_of_lt
abbrev cP:=@Nat.mod_two_eq_zero_or_one
abbrev cQ:=@Array.perm_iff_toList_perm
abbrev cR:=@PySem.W.kia_one
abbrev cT:=@List.perm_middle
abbrev cU:=@List.length_drop
abbrev cV:=@List.countP_cons
abbrev cW:=@Bool.and_eq_true
abbrev cX:=@Array.getElem?_eq_getElem
abbrev c8:=@PySem.mem_of_lookup
abbrev c9:=@List.length_pos_iff
abbrev cf:=@List.count_append
abbrev cg:=@PyProof.Rows.boot_sorted
abbrev ci:=@Nat.lt_irrefl
abbrev cj:=@List.mem_range
abbrev cm:=@List.nodup_cons
abbrev cn:=@List.count_cons
abbrev cw:=@List.length_eq_zero_iff
abbrev dF:=@Nat.lt_succ_of_lt
abbrev dG:=@PySem.Heap.get?_push_ne
abbrev dJ:=@List.Perm.append_left
abbrev dM:=@List.append_of_mem
abbrev dN:=@Array.size_extract
abbrev dP:=@PySem.F.type_list_append
abbrev dQ:=@PySem.F.slot_list_append
abbrev dR:=@Int.le_of_lt
abbrev dW:=@PySem.Heap.size_push
abbrev d8:=@List.dropLast_concat_getLast
abbrev dc:=@PySem.W.mg_of
abbrev dj:=@PySem.F.slot_tuple_iterator_next
abbrev dq:=@List.pairwise_iff_getElem
abbrev dr:=@List.range_succ
abbrev dw:=@List.any_eq_false
abbrev eE:=@List.reverse_append
abbrev eF:=@List.getElem_of_mem
abbrev eM:=@List.mem_flatMap
abbrev eO:=@List.cons_append
abbrev eP:=@PySem.Heap.size_update
abbrev eU:=@List.eq_nil_of_length_eq_zero
abbrev et:=@Int.le_trans
abbrev eu:=@Array.getElem?_eq_none
abbrev fA:=@List.mem_filter
abbrev fB:=@List.length_set
abbrev fD:=@List.find?_cons
abbrev fH:=@PyProof.Rows.cnt_cons
abbrev fI:=@List.singleton_append
abbrev fK:=@List.reverse_perm
abbrev fL:=@Int.toNat_natCast
abbrev fP:=@Nat.le_succ
abbrev fT:=@Nat.ne_of_gt
abbrev fU:=@Nat.lt_or_ge
abbrev fV:=@List.map_nil
abbrev fX:=@PySem.Calls.call_function_entry
abbrev fY:=@List.flatMap_append
abbrev fZ:=@PySem.Heap.get?_update_ne
abbrev fb:=@PySem.F.args_tuple_add_2
abbrev fc:=@Prod.mk.injEq
abbrev fe:=@Nat.min_eq_left
abbrev ff:=@List.of_mem_zip
abbrev fj:=@Nat.add_sub_cancel
abbrev fu:=@PySem.F.entry_tuple_add
abbrev fv:=@PyProof.Rows.boot_tuple
abbrev fw:=@Nat.add_sub_cancel_left
abbrev fx:=@List.getElem?_replicate
abbrev fy:=@List.getElem?_cons_succ
abbrev gE:=@PySem.F.slot_tuple_add
abbrev gF:=@PySem.F.plainAttrs_str
abbrev gG:=@PyProof.Rows.boot_list
abbrev gH:=@Nat.add_zero
abbrev gI:=@List.nodup_append
abbrev gJ:=@List.length_eq_one_iff
abbrev gK:=@List.getElem?_set_self
abbrev gL:=@List.drop_sublist
abbrev gM:=@List.drop_of_length_le
abbrev gN:=@List.Perm.append_right
abbrev gO:=@Bool.and_false
abbrev gP:=@Array.toList_push
abbrev gQ:=@Array.getElem?_reverse
abbrev gR:=@Array.getElem?_extract
abbrev gb:=@List.lookup_cons
abbrev gc:=@List.getElem_mem
abbrev gg:=@Bool.not_eq_true
abbrev gj:=@List.any_cons
abbrev iA:=@Nat.pow_le_pow_right
abbrev iB:=@List.take_append_of_le_length
abbrev iC:=@List.mem_of_mem_take
abbrev iD:=@List.map_eq_cons_iff
abbrev iF:=@Array.mem_toList_iff
abbrev iG:=@Array.getElem_toList
abbrev iJ:=@Option.map_some
abbrev iK:=@List.foldl_cons
abbrev iL:=@PySem.F.slot_zip_next
abbrev iM:=@PySem.F.args_tuple_iterator_next_1
abbrev iN:=@Bool.eq_iff_iff
abbrev iP:=@List.length_reverse
abbrev iQ:=@List.filterMap_cons
abbrev iV:=@Nat.sub_self
abbrev iW:=@PySem.F.entry_tuple_iterator_next
abbrev iX:=@Eq.symm
abbrev ir:=@List.filter_append
abbrev iu:=@List.drop_zero
abbrev iw:=@List.count_pos_iff
abbrev ix:=@List.Sublist.trans
abbrev iy:=@Int.emod_lt_of_pos
abbrev iz:=@PySem.F.args_str_split_2
abbrev jA:=@PySem.Calls.Name_function_global
abbrev jD:=@Decidable.byContradiction
abbrev jG:=@List.take_sublist
abbrev jH:=@List.pairwise_map
abbrev jI:=@PySem.F.entry_str_split
abbrev jP:=@PySem.F.slot_list_insert
abbrev jQ:=@Option.isSome_iff_exists
abbrev jU:=@Bool.not_true
abbrev jg:=@Option.getD_some
abbrev jh:=@Nat.max_eq_right
abbrev ji:=@List.sublist_append_iff
abbrev jj:=@List.reverse_eq_nil_iff
abbrev jm:=@List.mem_reverse
abbrev jo:=@List.flatMap_nil
abbrev jp:=@List.filter_cons
abbrev jq:=@List.ext_getElem
abbrev jr:=@List.drop_length
abbrev jt:=@PySem.F.slot_str_split
abbrev kK:=@PySem.Txt.slice_le
abbrev kL:=@PySem.W.cellsFrom_some
abbrev kM:=@Nat.le_of_eq
abbrev kN:=@List.range_succ_eq_map
abbrev kS:=@List.forIn_cons
abbrev kT:=@List.cons.injEq
abbrev kU:=@Int.emod_nonneg
abbrev kW:=@Bool.or_eq_true
abbrev k6:=@PySem.F.type_str_join
abbrev k8:=@PySem.F.slot_str_join
abbrev k9:=@List.length_singleton
abbrev ka:=@List.length_replicate
abbrev kd:=@Array.mem_of_getElem?
abbrev ke:=@Array.mem_iff_getElem
abbrev kf:=@Array.getElem?_toList
abbrev lN:=@PySem.Draws.strAscii
abbrev lP:=@Bool.false_and
abbrev mC:=@Bool.or_false
set_option Elab.async false
set_option linter.all false
set_option maxRecDepth 100000
set_option maxHeartbeats 4000000
def PySem.W.Fast.tw3530762126033689972:Nat:=0
def PySem.W.Fast.tw11133781598974966183:Nat:=0
def PySem.W.Fast.tw15969948384884199909:Nat:=0
def PySem.W.Fast.tw3771551672984882361:Nat:=0
def PySem.W.Fast.tw4478530666597009608:Nat:=0
def PySem.W.Fast.tw4413838141643131084:Nat:=0
def PySem.W.Fast.tw13651181361169459907:Nat:=0
def PySem.W.Fast.tw7870836442048534598:Nat:=0
def PySem.W.Fast.tw17380950889231147742:Nat:=0
def PySem.W.Fast.tw5200417375738309475:Nat:=0
def PySem.W.Fast.tw18361297098258683904:Nat:=0
def PySem.W.Fast.tw2716158743180807889:Nat:=0
def PySem.W.Fast.tw1965310704114564479:Nat:=0
def PySem.W.Fast.tw1010828688522150070:Nat:=0
def PySem.W.Fast.tw2545308095094892241:Nat:=0
def PySem.W.Fast.tw8719428869718696529:Nat:=0
def PySem.W.Fast.tw1774561691877068471:Nat:=0
def PySem.W.Fast.tw2830196934994595435:Nat:=0
def PySem.W.Fast.tw10748443088126972839:Nat:=0
def PySem.W.Fast.tw8626622581443251015:Nat:=0
def PySem.W.Fast.tw10257634606490929769:Nat:=0
def PySem.W.Fast.tw4445716566261857748:Nat:=0
def PySem.W.Fast.tw5612679331079823114:Nat:=0
def PySem.W.Fast.tw1753941182516438794:Nat:=0
def PySem.W.Fast.tw10640976363666021796:Nat:=0
def PySem.W.Fast.tw17949766579753389523:Nat:=0
def PySem.W.Fast.tw5681344324646294922:Nat:=0
def PySem.W.Fast.tw2232318866801334517:Nat:=0
def PySem.W.Fast.tw4923178200686502819:Nat:=0
namespace PySem.W.Fast
def tw8406877325039376641:=0
def tw14361386055974193272:=0
def tw3514220254766843145:=0
def tw9169694153290379375:=0
def tw8137356898791855575:=0
def tw7944929435832395103:=0
def tw16968924496400981292:=0
def tw7354852052947096267:=0
def tw11551627934832101365:=0
def tw4972491589365773225:=0
def tw7116470149878609033:=0
def tw10624056121020657987:=0
def tw795168594485749240:=0
def tw17167438915219133679:=0
def tw13512617415242409993:=0
def tw11759298476260630256:=0
def tw10825825149806112638:=0
def tw12919521730326609199:=0
def tw13318934391907146159:=0
def tw1511854702679211126:=0
def tw10233883921561692306:=0
def tw10123719040767749352:=0
def tw13971746399693776888:=0
def tw7394444711455997051:=0
def tw17641544744331503552:=0
def tw4481136087127019143:=0
def tw1907038504950693033:=0
def tw1768918640299769098:=0
def tw4717503218606519539:=0
def tw7703485179944367649:=0
def tw1821852164804868336:=0
def tw14218692410767536553:=0
def tw5770176022958597052:=0
def tw4709232009199007265:=0
def tw13519070576541540828:=0
def tw16221153368726753861:=0
def tw12032368075965128470:=0
def tw1671358530767129592:=0
def tw8814086004859928697:=0
def tw2011858664172287345:=0
def tw2081785738574504864:=0
def tw7567223749016710564:=0
def tw3046270429944961629:=0
def tw550510039436408897:=0
def tw17712141518310723202:=0
def tw3183436369215476360:=0
def tw10659531225663130479:=0
def tw8968539860655331053:=0
def tw12402510071072215129:=0
def tw3942604889056774405:=0
def tw13674508323678378015:=0
def tw16000883380087675072:=0
def tw16418486347462785565:=0
def tw3759013906244145330:=0
def tw11288297667807103264:=0
def tw8994484287333347765:=0
def tw12706697369149839921:=0
def tw17707152310522052523:=0
def tw8588252791362124133:=0
def tw276059578894819971:=0
def tw982908954479120947:=0
def tw17764069598055479602:=0
def tw2963937408407908478:=0
def tw9495167936445978294:=0
def tw9158163129964128873:=0
def tw8771975567325842217:=0
def tw14584791999066905980:=0
def tw12974222506071459826:=0
def tw5357342124937689994:=0
def tw8576544526615189838:=0
def tw14881910090691481846:=0
def tw13328476578302713446:=0
def tw8601996360169152471:=0
def tw4969856960691828036:=0
def tw4584826168258408391:=0
def tw3538029321374469955:=0
def tw11101325054192468693:=0
def tw17339092519043080395:=0
def tw16524792363316652217:=0
def tw785478416955166485:=0
def tw8454296178150645086:=0
def tw1073099041358389200:=0
def tw15449806302794828750:=0
def tw17904259405361892336:=0
def tw2831621064392557594:=0
def tw6191195152587145310:=0
def tw10758712214613562136:=0
def tw16372848958985981173:=0
def tw6659480479618564875:=0
def tw9838708605503373067:=0
def tw16756156190706524897:=0
def tw11779679608438687995:=0
def tw11407375084060108884:=0
def tw12700663326784494065:=0
def tw10753976126792301228:=0
def tw4007270294122221540:=0
def tw12942820650579128740:=0
def tw10708608862126994437:=0
def tw4473551369689743872:=0
def tw15198704509474348993:=0
def tw14040601948762849158:=0
def tw12099026031009711945:=0
def tw6633938697189625393:=0
def tw3553802857480653627:=0
def tw13700405423989068084:=0
def tw13241066090325499016:=0
def tw9440812009741304540:=0
def tw5545308787495354345:=0
def tw8256509542864129908:=0
def tw15276994460189408446:=0
def tw7264410935448902442:=0
def tw9856569189263796287:=0
def tw5633430108572846684:=0
def tw267945284467297482:=0
def tw10779516274663735005:=0
def tw10832649057924067154:=0
def tw76345707481430130:=0
def tw4031452506565031385:=0
def tw1363737808805570234:=0
def tw8201650891400599796:=0
def tw467862980645713877:=0
def tw17908829387817402030:=0
def tw15445059127591812476:=0
def tw5095726340372366400:=0
def tw4482731894928057407:=0
def tw16819302639117521338:=0
def tw13453643439389050468:=0
def tw11344111040362196966:=0
def tw9813153180550442708:=0
def tw9798088442655720232:=0
def tw9555523255228109289:=0
def tw8453396614209162228:=0
def tw8397427943078957255:=0
def tw8045604509099941675:=0
def tw8027788086250944742:=0
def tw790754735998845490:=0
def tw7879298852683646716:=0
def tw7846062969140005893:=0
def tw7585785405661576554:=0
def tw745931714025857836:=0
def tw7339093193623687306:=0
def tw7172619931167510087:=0
def tw677462371660032292:=0
def tw6210240630684574222:=0
def tw5932812011187121995:=0
def tw5929386707970980292:=0
def tw533580920518193642:=0
def tw4918680255663286338:=0
def tw3236623738972394364:=0
def tw3117593779479142107:=0
def tw3027095248866083893:=0
def tw2935901172399496811:=0
def tw2516314386049816021:=0
def tw2472472184173394999:=0
def tw2465610728147446137:=0
def tw18113363435560666799:=0
def tw18019277709956453878:=0
def tw17916823461137388910:=0
def tw17639500392552340972:=0
def tw17634621770281564068:=0
def tw17524355343494796572:=0
def tw17147718854803220786:=0
def tw16398597900008473944:=0
def tw15685354600868102753:=0
def tw15333390138937643354:=0
def tw14895548935575822059:=0
def tw14827232708792139903:=0
def tw14263389623049396035:=0
def tw14134942932066568015:=0
def tw14087917002383064225:=0
def tw13792778368859948014:=0
def tw13369381481950499345:=0
def tw13203262285556058249:=0
def tw12933167740148150246:=0
def tw12749207268181280664:=0
def tw12670261142045402787:=0
def tw12415287589995456239:=0
def tw12110084796692472362:=0
def tw11707666575519463726:=0
def tw11340245755484259697:=0
def tw1112493369050243830:=0
def tw10437581819245566796:=0
end PySem.W.Fast
local macro_rules | `(tactic| lia) => `(tactic| first | lia -verbose | omega)
namespace Rm
structure EW (R:List Int):Prop where
 nn:∀ x∈R,0<=x
 z1:R.count 0=1
 two:∀ x∈R,0<x->R.count x=2
 nc:∀ u v,[u,v,u,v].Sublist R->u=v
 top:∀ u,¬ [u,0,u].Sublist R
section
variable {U W:List Int} {x y:Int}
theorem gT{s1 s2:List Int}{a:Int}(h1:s1.Sublist U)(h2:s2.Sublist W)(ha:a=x\/a=y):(s1++a::s2).Sublist (U++x::y::W):=by
 refine h1.append ?_;rcases ha with rfl | rfl
 ·exact(h2.cons y).cons_cons a
 ·exact(h2.cons_cons a).cons x
theorem sub_0{s:List Int}(h:s.Sublist (U++W)):s.Sublist (U++x::y::W):=
 h.trans ((List.Sublist.refl U).append (((List.Sublist.refl W).cons y).cons x))
theorem zO{a b c d:Int}(h:[a,b,c,d].Sublist (U++W)):
  [a,b,c,d].Sublist W\/([a].Sublist U/\[b,c,d].Sublist W)\/([a,b].Sublist U/\[c,d].Sublist W)\/([a,b,c].Sublist U/\[d].Sublist W)\/[a,b,c,d].Sublist U:=by
 obtain⟨s1,s2,e,h1,h2⟩:=ji.mp h
 match s1,e with
 | [],e=>simp at e;subst e;exact .inl h2
 | [_],e=>simp at e;obtain⟨rfl,rfl⟩:=e;exact .inr (.inl ⟨h1,h2⟩)
 | [_,_],e=>simp at e;obtain⟨rfl,rfl,rfl⟩:=e;exact .inr (.inr (.inl ⟨h1,h2⟩))
 | [_,_,_],e=>simp at e;obtain⟨rfl,rfl,rfl,rfl⟩:=e;exact .inr (.inr (.inr (.inl ⟨h1,h2⟩)))
 | _::_::_::_::r,e=>simp at e;obtain⟨rfl,rfl,rfl,rfl,rfl,rfl⟩:=e;exact .inr (.inr (.inr (.inr h1)))
theorem uM{a b c:Int}(h:[a,b,c].Sublist (U++W)):
  [a,b,c].Sublist W\/([a].Sublist U/\[b,c].Sublist W)\/([a,b].Sublist U/\[c].Sublist W)\/[a,b,c].Sublist U:=by
 obtain⟨s1,s2,e,h1,h2⟩:=ji.mp h
 match s1,e with
 | [],e=>simp at e;subst e;exact .inl h2
 | [_],e=>simp at e;obtain⟨rfl,rfl⟩:=e;exact .inr (.inl ⟨h1,h2⟩)
 | [_,_],e=>simp at e;obtain⟨rfl,rfl,rfl⟩:=e;exact .inr (.inr (.inl ⟨h1,h2⟩))
 | _::_::_::r,e=>simp at e;obtain⟨rfl,rfl,rfl,rfl,rfl⟩:=e;exact .inr (.inr (.inr h1))
theorem Di{a:Int}{s l:List Int}(h:(a::s).Sublist l):s.Sublist l:=(List.sublist_cons_self a s).trans h
theorem E7{a b c d:Int}{l:List Int}(h:[a,b,c,d].Sublist l):[a,b,c].Sublist l:=ix (by simp:[a,b,c].Sublist [a,b,c,d]) h
theorem GR{a b c:Int}{l:List Int}(h:[a,b,c].Sublist l):[a,b].Sublist l:=ix (by simp) h
theorem GS{a b:Int}{l:List Int}(h:[a,b].Sublist l):[a].Sublist l:=ix (by simp) h
theorem EW.k1(E:EW (U++x::y::W)){a c v:Int}(ha:a=x\/a=y)(hc:c=x\/c=y)(h:[a,v,c,v].Sublist (U++W)):v=a\/v=c:=by
 rcases zO h with h | ⟨h1,h2⟩ | ⟨h1,h2⟩ | ⟨h1,h2⟩ | h
 ·exact .inr (E.nc _ _ (gT (ai U) (Di h) hc)).symm
 ·exact .inr (E.nc _ _ (gT (ai U) h2 hc)).symm
 ·exact .inl (E.nc _ _ (gT h1 (Di h2) ha)).symm
 ·exact .inl (E.nc _ _ (gT (GR h1) h2 ha)).symm
 ·exact .inr (E.nc _ _ (gT (Di h) (ai W) hc))
theorem EW.k2(E:EW (U++x::y::W)){a c u:Int}(ha:a=x\/a=y)(hc:c=x\/c=y)(h:[u,a,u,c].Sublist (U++W)):u=a\/u=c:=by
 rcases zO h with h | ⟨h1,h2⟩ | ⟨h1,h2⟩ | ⟨h1,h2⟩ | h
 ·exact .inl (E.nc _ _ (gT (ai U) (E7 h) ha)).symm
 ·exact .inr (E.nc _ _ (gT h1 (Di h2) hc))
 ·exact .inr (E.nc _ _ (gT (GS h1) h2 hc))
 ·exact .inl (E.nc _ _ (gT h1 (ai W) ha))
 ·exact .inl (E.nc _ _ (gT (E7 h) (ai W) ha))
theorem EW.k3(E:EW (U++x::y::W)){a c:Int}(ha:a=x\/a=y)(hc:c=x\/c=y)(h:[a,0,c].Sublist (U++W)):False:=by
 rcases uM h with h | ⟨h1,h2⟩ | ⟨h1,h2⟩ | h
 ·exact E.top _ (gT (ai U) (Di h) hc)
 ·exact E.top _ (gT (ai U) h2 hc)
 ·exact E.top _ (gT h1 (ai W) ha)
 ·exact E.top _ (gT (GR h) (ai W) ha)
theorem EW.k4(E:EW (U++x::y::W)){u v:Int}(h0:x=0\/y=0)(hv:v=x\/v=y)(h:[u,v,u].Sublist (U++W)):u=v:=by
 have hz:(0:Int)=x\/(0:Int)=y:=h0.imp iX iX;rcases uM h with h | ⟨h1,h2⟩ | ⟨h1,h2⟩ | h
 ·exact(E.nc _ _ (gT (ai U) h hv)).symm
 ·exact(E.top _ (gT h1 (Di h2) hz)).elim
 ·exact(E.top _ (gT (GS h1) h2 hz)).elim
 ·exact E.nc _ _ (gT h (ai W) hv)
end
def rn(lo hi v:Int):Int:=if v=hi then lo else v
theorem pC{lo hi v:Int}(hne:lo≠hi):∀l:List Int,(l.map (rn lo hi)).count v=if v=hi then 0 else if v=lo then l.count lo+l.count hi else l.count v
 | []=>by simp
 | a::l=>by
  have ih:=pC (v:=v) hne l;simp only[aZ,cn,ih,rn,beq_iff_eq];by_cases h1:v=hi
  ·subst h1;by_cases h2:a=v
   ·simp[h2,hne]
   ·simp[h2]
  ·by_cases h3:v=lo
   ·subst h3;by_cases h2:a=hi
    ·subst h2;simp[h1,cH h1];lia
    ·simp[h1,h2];lia
   ·by_cases h2:a=hi
    ·subst h2;simp[h1,h3,cH h3,cH h1]
    ·simp[h1,h2,h3]
theorem mL{U W:List Int}{x y v:Int}:(U++x::y::W).count v=(U++W).count v+(if x=v then 1 else 0)+(if y=v then 1 else 0):=by
 simp only[cf,cn,beq_iff_eq];lia
theorem km{lo hi a:Int}:(a=hi/\rn lo hi a=lo)\/(a≠hi/\rn lo hi a=a):=by
 by_cases h:a=hi
 ·exact .inl ⟨h,by simp[rn,h]⟩
 ·exact .inr ⟨h,by simp[rn,h]⟩
theorem HU{f:Int->Int}{l:List Int}{u v p q:Int}(h:[u,v,p,q].Sublist (l.map f)):∃a b c d,[a,b,c,d].Sublist l/\u=f a/\v=f b/\p=f c/\q=f d:=by
 obtain⟨l',hl,e⟩:=List.sublist_map_iff.mp h;have hn:l'.length=4:=by have:=congrArg List.length e;simp at this;lia
 obtain⟨a,r,rfl⟩:=aq hn;obtain⟨b,r,rfl⟩:=aq (l:=r) (n:=2) (by simpa using hn);obtain⟨c,r,rfl⟩:=aq (l:=r) (n:=1) (by simpa using hn);obtain⟨d,r,rfl⟩:=aq (l:=r) (n:=0) (by simpa using hn);have:r=[]:=eU (by simpa using hn);subst this;simp only[aZ,fV,kT,and_true] at e;exact⟨a,b,c,d,hl,e⟩
theorem HV{f:Int->Int}{l:List Int}{u v p:Int}(h:[u,v,p].Sublist (l.map f)):∃a b c,[a,b,c].Sublist l/\u=f a/\v=f b/\p=f c:=by
 obtain⟨l',hl,e⟩:=List.sublist_map_iff.mp h;have hn:l'.length=3:=by have:=congrArg List.length e;simp at this;lia
 obtain⟨a,r,rfl⟩:=aq hn;obtain⟨b,r,rfl⟩:=aq (l:=r) (n:=1) (by simpa using hn);obtain⟨c,r,rfl⟩:=aq (l:=r) (n:=0) (by simpa using hn);have:r=[]:=eU (by simpa using hn);subst this;simp only[aZ,fV,kT,and_true] at e;exact⟨a,b,c,hl,e⟩
theorem EW.join{U W:List Int}{x y lo hi:Int}(E:EW (U++x::y::W))(hlh:lo<hi)(hp:(lo=x/\hi=y)\/(lo=y/\hi=x)):EW ((U++W).map (rn lo hi)):=by
 have hne:lo≠hi:=by lia
 have hlo:lo=x\/lo=y:=hp.elim (λh=>.inl h.1) (λh=>.inr h.1);have hhi:hi=x\/hi=y:=hp.elim (λh=>.inr h.2) (λh=>.inl h.2);have mlo:lo∈U++x::y::W:=by rcases hlo with rfl | rfl<;>simp
 have mhi:hi∈U++x::y::W:=by rcases hhi with rfl | rfl<;>simp
 have n0:=E.nn _ mlo;have chi:(U++W).count hi=1:=by
  have:=E.two hi mhi (by lia);rw[mL] at this;rcases hp with ⟨rfl,rfl⟩ | ⟨rfl,rfl⟩
  ·rw[LL hne,LM rfl] at this;lia
  ·rw[LM rfl,LL hne] at this;lia
 have clo:(U++W).count lo=if lo=0 then 0 else 1:=by
  have e:(U++x::y::W).count lo=(U++W).count lo+1:=by
   rw[mL];rcases hp with ⟨rfl,rfl⟩ | ⟨rfl,rfl⟩
   ·rw[LM rfl,LL (cH hne)]
   ·rw[LM rfl,LL (cH hne)]
  by_cases h:lo=0
  ·rw[LM h];have:=E.z1;rw[<-h,e] at this;lia
  ·rw[LL h];have:=E.two lo mlo (by lia);lia
 have oth:∀v,v≠lo->v≠hi->(U++W).count v=(U++x::y::W).count v:=λv h1 h2=>by
  rw[mL];rcases hp with ⟨rfl,rfl⟩ | ⟨rfl,rfl⟩
  ·rw[LL (cH h1),LL (cH h2)];rfl
  ·rw[LL (cH h2),LL (cH h1)];rfl
 have mem0:∀v,v∈(U++W).map (rn lo hi)->v≠hi/\(v=lo\/v∈U++W):=λv hv=>by
  obtain⟨a,ha,rfl⟩:=aw.mp hv;rcases km (lo:=lo) (hi:=hi) (a:=a) with ⟨h1,h2⟩ | ⟨h1,h2⟩
  ·rw[h2];exact⟨hne,.inl rfl⟩
  ·rw[h2];exact⟨h1,.inr ha⟩
 have inR:∀v,v∈U++W->v∈U++x::y::W:=λv hv=>by
  rcases aE.mp hv with h | h
  ·exact ae _ h
  ·exact aa _ (aD _ (aD _ h))
 have pick:∀a c u,rn lo hi a=u->rn lo hi c=u->a=c\/(u=lo/\(a=x\/a=y)/\(c=x\/c=y)):=λa c u h1 h2=>by
  rcases km (lo:=lo) (hi:=hi) (a:=a) with ⟨h3,h4⟩ | ⟨h3,h4⟩<;>rcases km (lo:=lo) (hi:=hi) (a:=c) with ⟨h5,h6⟩ | ⟨h5,h6⟩
  ·exact .inl (h3.trans h5.symm)
  ·have e1:u=lo:=by rw[<-h1,h4]
   have e2:c=lo:=by rw[<-h6,h2,e1]
   exact .inr ⟨e1,h3▸hhi,e2▸hlo⟩
  ·have e1:u=lo:=by rw[<-h2,h6]
   have e2:a=lo:=by rw[<-h4,h1,e1]
   exact .inr ⟨e1,e2▸hlo,h5▸hhi⟩
  ·exact .inl (by rw[<-h4,<-h6,h1,h2])
 have xy:∀a:Int,a=x\/a=y->rn lo hi a=lo:=λa h=>by
  have:a=lo\/a=hi:=by
   rcases hp with ⟨rfl,rfl⟩ | ⟨rfl,rfl⟩
   ·exact h
   ·exact h.symm
  rcases this with rfl | rfl
  ·simp[rn,hne]
  ·simp[rn]
 refine⟨λv hv=>?_,?_,λv hv h0=>?_,λu v h=>?_,λu h=>?_⟩
 ·rcases(mem0 v hv).2 with rfl | h
  ·exact n0
  ·exact E.nn v (inR v h)
 ·rw[pC hne,LL (by lia)];by_cases h:(0:Int)=lo
  ·rw[LM h,clo,LM h.symm,chi]
  ·rw[LL h,oth 0 h (by lia),E.z1]
 ·obtain⟨h1,h2⟩:=mem0 v hv;rw[pC hne,LL h1];by_cases h:v=lo
  ·rw[LM h,clo,LL (by lia),chi]
  ·rw[LL h,oth v h h1];exact E.two v (inR v (h2.resolve_left h)) h0
 ·obtain⟨a,b,c,d,hl,e1,e2,e3,e4⟩:=HU h
  ·skip
   rcases pick a c u e1.symm e3.symm with rfl | ⟨hu,ha,hc⟩
   ·rcases pick b d v e2.symm e4.symm with rfl | ⟨hv,hb,hd⟩
    ·have:=E.nc _ _ (sub_0 hl);subst this;rw[e1,e2]
    ·rcases E.k2 hb hd hl with z | z
     ·rw[e1,z,hv];exact xy b hb
     ·rw[e1,z,hv];exact xy d hd
   ·rcases pick b d v e2.symm e4.symm with rfl | ⟨hv,hb,hd⟩
    ·rcases E.k1 ha hc hl with z | z
     ·rw[e2,z,hu];exact(xy a ha).symm
     ·rw[e2,z,hu];exact(xy c hc).symm
    ·rw[hu,hv]
 ·obtain⟨a,b,c,hl,e1,e2,e3⟩:=HV h
  ·skip
   by_cases hl0:lo=0
   ·have h0n:(0:Int)∉U++W:=by rw[<-bO,<-hl0,clo,LM hl0]
    have hb:b∈U++W:=hl.subset (by simp);have ha:a∈U++W:=hl.subset (by simp);have bh:b=hi:=by
     rcases km (lo:=lo) (hi:=hi) (a:=b) with ⟨h3,h4⟩ | ⟨h3,h4⟩
     ·exact h3
     ·rw[h4] at e2;exact(h0n (e2▸hb)).elim
    have hz:x=0\/y=0:=hlo.elim (λz=>.inl (z▸hl0)) (λz=>.inr (z▸hl0));rcases pick a c u e1.symm e3.symm with rfl | ⟨hu,ha',hc'⟩
    ·have eab:a=b:=E.k4 hz (bh▸hhi) hl;have:=hl.count_le hi;rw[chi,eab,bh] at this;simp at this
    ·have:a=hi:=by
      have:a=lo\/a=hi:=by
       rcases hp with ⟨rfl,rfl⟩ | ⟨rfl,rfl⟩
       ·exact ha'
       ·exact ha'.symm
      rcases this with z | z
      ·exact(h0n (by rw[<-hl0,<-z];exact ha)).elim
      ·exact z
     have cc:=hl.count_le hi;rw[chi,this,bh] at cc;simp at cc
   ·have b0:b=0:=by
     rcases km (lo:=lo) (hi:=hi) (a:=b) with ⟨h3,h4⟩ | ⟨h3,h4⟩
     ·rw[h4] at e2;exact(hl0 e2.symm).elim
     ·rw[h4] at e2;exact e2.symm
    subst b0;rcases pick a c u e1.symm e3.symm with rfl | ⟨hu,ha',hc'⟩
    ·exact E.top _ (sub_0 hl)
    ·exact E.k3 ha' hc' hl
theorem HF{U W:List Int}{z v:Int}(hU:z∉U)(hW:z∉W)(hv:v≠z):¬[z,v,z].Sublist (U++z::z::W):=λh=>by
 have hw:∀{r:List Int},¬(v::z::r).Sublist W:=λh=>hW (h.subset (by simp));rcases uM h with h | ⟨h1,h2⟩ | ⟨h1,h2⟩ | h
 ·have h':[v,z].Sublist (z::W):=(List.cons_sublist_cons.mp h)
  cases h' with
  | cons _ h''=>exact hw h''
  | cons_cons _ _=>exact hv rfl
 ·exact hU (h1.subset (by simp))
 ·exact hU (h1.subset (by simp))
 ·exact hU (h.subset (by simp))
theorem Ad{l:List Int}{z:Int}(h:z∉l):l.filter (λa=>!decide (a=z))=l:=
 List.filter_eq_self.mpr λa ha=>by simp only[Bool.not_eq_true',decide_eq_false_iff_not];exact λe=>h (e▸ha)
theorem EW.ins{U W:List Int}{z:Int}(E:EW (U++W))(hz:0<z)(hU:z∉U)(hW:z∉W):EW (U++z::z::W):=by
 have c0:(U++W).count z=0:=bO.mpr λh=>(aE.mp h).elim hU hW;have inn:∀v,v∈U++z::z::W->v=z\/v∈U++W:=λv h=>by
  simp only[aE,aF] at h ⊢;rcases h with h | h | h | h<;>simp[h]
 have fl:∀s:List Int,z∉s->s.Sublist (U++z::z::W)->s.Sublist (U++W):=λs hs h=>by
  have h2:=h.filter (λa=>!decide (a=z));have e1:=Ad hs;have e2:(U++z::z::W).filter (λa=>!decide (a=z))=U++W:=by
   rw[ir,jp,jp];simp only[decide_true,jU,aY,LS];rw[Ad hU,Ad hW]
  rw[e1,e2] at h2;exact h2
 refine⟨λv hv=>?_,?_,λv hv h0=>?_,λu v h=>?_,λu h=>?_⟩
 ·rcases inn v hv with rfl | h
  ·lia
  ·exact E.nn v h
 ·rw[mL,LL (by lia),E.z1]
 ·rcases inn v hv with rfl | h
  ·rw[mL,c0,LM rfl]
  ·by_cases hvz:z=v
   ·subst hvz;rw[mL,c0,LM rfl]
   ·rw[mL,LL hvz];exact E.two v h h0
 ·by_cases huv:u=v
  ·exact huv
  by_cases hu:u=z
  ·subst hu;exact(HF hU hW (cH huv) (E7 h)).elim
  by_cases hv:v=z
  ·subst hv;exact(HF hU hW huv (Di h)).elim
  exact E.nc _ _ (fl _ (by simp[cH hu,cH hv]) h)
 ·by_cases hu:u=z
  ·subst hu;exact HF hU hW (by lia) h
  exact E.top _ (fl _ (by simp[cH hu];lia) h)
def l8(pre:List Int)(x:Int):Nat:=if 0<x then (if x∈pre then 41 else 40) else 42
def bm:List Int->List Int->List Nat
 | _,[]=>[]
 | pre,x::r=>l8 pre x::bm (pre++[x]) r
theorem dC:∀(A pre B:List Int),bm pre (A++B)=bm pre A++bm (pre++A) B
 | [],pre,B=>by simp[bm]
 | x::A,pre,B=>by simp[bm,dC A]
theorem cM:∀(A pre:List Int),(bm pre A).length=A.length
 | [],_=>rfl
 | x::A,pre=>by simp[bm,cM A]
theorem ce{A pre B:List Int}{x:Int}:bm pre (A++x::B)=bm pre A++l8 (pre++A) x::bm (pre++A++[x]) B:=by rw[dC];rfl
theorem uQ(pre:List Int)(x:Int):l8 pre x=40\/l8 pre x=41\/l8 pre x=42:=by unfold l8;split<;>(try split)<;>simp
theorem zY:∀(A pre:List Int),∀c∈bm pre A,c=40\/c=41\/c=42
 | [],_,c,h=>by simp[bm] at h
 | x::A,pre,c,h=>by
  rcases aF.mp h with rfl | h
  ·exact uQ pre x
  ·exact zY A _ c h
theorem gm{pre:List Int}{x:Int}(h0:0<x)(h:x∉pre):l8 pre x=40:=by simp[l8,h0,h]
theorem gk{pre:List Int}{x:Int}(h0:0<x)(h:x∈pre):l8 pre x=41:=by simp[l8,h0,h]
theorem vm{pre:List Int}:l8 pre 0=42:=by simp[l8]
theorem df{x y:Int}:∀(V pre pre':List Int),(∀v∈V,v≠x/\v≠y)->(∀v,v≠x->v≠y->(v∈pre<->v∈pre'))->bm pre V=bm pre' V
 | [],_,_,_,_=>rfl
 | v::V,pre,pre',hV,hp=>by
  have h1:=hV v (by simp);have e:l8 pre v=l8 pre' v:=by simp only[l8,hp v h1.1 h1.2]
  simp only[bm,e];rw[df V (pre++[v]) (pre'++[v]) (λw hw=>hV w (aD _ hw)) λw a b=>by simp[hp w a b]]
theorem zX(V pre:List Int)(j:Nat):(bm pre V).take j=bm pre (V.take j):=by
 by_cases h:j<=V.length
 ·have e:bm pre V=bm pre (V.take j)++bm (pre++V.take j) (V.drop j):=by rw[<-dC,bi]
  rw[e,iB (by rw[cM,bS];lia),bZ (by rw[cM,bS];lia)]
 ·rw[bZ (by rw[cM];lia),bZ (by lia)]
def vl(c:Nat):Int:=if c=40 then 1 else if c=41 then -1 else 0
def ps(cs:List Nat):Int:=(cs.map vl).sum
theorem mG:ps []=0:=rfl
theorem lY(c:Nat)(cs:List Nat):ps (c::cs)=vl c+ps cs:=by simp[ps]
theorem nD(a b:List Nat):ps (a++b)=ps a+ps b:=by simp[ps]
structure Cl (V:List Nat):Prop where
 z:ps V=0
 nn:∀ j,0<=ps (V.take j)
theorem oB{pre:List Int}:∀(V D o:List Int),o.Nodup->(∀v,v∈o<->D.count v=1)->(∀v∈D++V,0<v/\v∉pre/\(D++V).count v<=2) →
  ∃o':List Int,o'.Nodup/\(o'.length:Int)=o.length+ps (bm (pre++D) V)/\∀v,v∈o'<->(D++V).count v=1
 | [],D,o,nd,ho,h=>⟨o,nd,by simp[bm,mG],by simpa using ho⟩
 | v::V,D,o,nd,ho,h=>by
  have e:D++v::V=(D++[v])++V:=by simp
  obtain⟨h0,hp,h2⟩:=h v (by simp);have hc:(D++v::V).count v=D.count v+1+V.count v:=by simp[cf,cn];lia
  have hw:∀w,(D++[v]).count w=D.count w+if v=w then 1 else 0:=λw=>by simp[cf,cn]
  rw[e] at h ⊢;by_cases hv:v∈D
  ·have c1:D.count v=1:=by have:=iw.mpr hv;lia
   have vo:=(ho v).mpr c1;obtain⟨o',n',l',m'⟩:=oB (pre:=pre) V (D++[v]) (o.erase v) (nd.erase v) (λw=>by
    rw[nd.mem_erase_iff,ho w,hw w];by_cases e:v=w
    ·subst e;simp[c1]
    ·simp[e,cH e]) h
   refine⟨o',n',?_,m'⟩;have hl:=List.length_erase_of_mem vo;have hpos:=List.length_pos_of_mem vo;rw[l',bm,lY,gk h0 (aa _ hv),hl,aK];have:vl 41=-1:=by decide
   lia
  ·have c0:D.count v=0:=bO.mpr hv;obtain⟨o',n',l',m'⟩:=oB (pre:=pre) V (D++[v]) (v::o) (cm.mpr ⟨λz=>(by rw[ho v,c0] at z;cases z),nd⟩) (λw=>by
    rw[aF,ho w,hw w];by_cases e:v=w
    ·subst e;simp[c0]
    ·simp[e,cH e]) h
   refine⟨o',n',?_,m'⟩;rw[l',bm,lY,gm h0 (λz=>(aE.mp z).elim hp hv),bb,aK];have:vl 40=1:=by decide
   lia
theorem G0{pre V:List Int}(h:∀v∈V,0<v/\v∉pre/\V.count v=2):Cl (bm pre V):=by
 refine⟨?_,λj=>?_⟩
 ·obtain⟨o,_,l,m⟩:=oB (pre:=pre) V [] [] .nil (by simp) (λv hv=>⟨(h v (by simpa using hv)).1,(h v (by simpa using hv)).2.1,by have:=(h v (by simpa using hv)).2.2;simp only[ay];lia⟩);have:o=[]:=by
   rcases o with _ | ⟨v,o⟩
   ·rfl
   ·have c:=(m v).mp (by simp);simp only[ay] at c;have hv:v∈V:=iw.mp (by lia);have:=(h v hv).2.2;lia
  subst this;simpa using l.symm
 ·rw[zX];obtain⟨o,_,l,m⟩:=oB (pre:=pre) (V.take j) [] [] .nil (by simp) (λv hv=>by
   have hv':v∈V:=iC (by simpa using hv);have:=(h v hv').2.2;have c:=(jG j V).count_le v;exact⟨(h v hv').1,(h v hv').2.1,by simp only[ay];lia⟩)
  simp at l;lia
theorem wZ{A V B:List Int}{x v:Int}:(A++x::(V++x::B)).count v=A.count v+V.count v+B.count v+(if x=v then 2 else 0):=by
 simp only[cf,cn,beq_iff_eq];split<;>lia
theorem EW.seg{A V B:List Int}{x:Int}(E:EW (A++x::(V++x::B)))(hx:0<x):Cl (bm (A++[x]) V)/\x∉A/\x∉V/\x∉B:=by
 have c:=E.two x (by simp) hx;rw[wZ,LM rfl] at c;have nA:x∉A:=bO.mp (by lia);have nV:x∉V:=bO.mp (by lia);have nB:x∉B:=bO.mp (by lia);refine⟨G0 λv hv=>?_,nA,nV,nB⟩;have vx:x≠v:=λe=>nV (e▸hv);have hs:[v].Sublist V:=b6.mpr hv;have v0:v≠0:=λe=>by
  subst e;exact E.top x ((ai A).append ((hs.append (((ai B).cons_cons x):[x].Sublist (x::B))).cons_cons x))
 have hA:v∉A:=λh=>vx.symm (E.nc v x ((b6.mpr h).append ((hs.append ((ai B).cons_cons x)).cons_cons x)));have hB:v∉B:=λh=>vx (E.nc x v ((ai A).append ((hs.append ((b6.mpr h).cons_cons x)).cons_cons x)));have hn:=E.nn v (by simp[hv]);have c2:=E.two v (by simp[hv]) (by lia);rw[wZ,LL vx,bO.mpr hA,bO.mpr hB] at c2;exact⟨by lia,by simp[hA,cH vx],by lia⟩
inductive yL (cs:List Nat):Nat->Nat->Prop
 | star {P S:List Nat} {p:Nat} (h:cs=P++42::S) (hp:p=P.length):yL cs p p
 | right {P V S:List Nat} {p q:Nat} (h:cs=P++40::(V++41::S)) (c:Cl V) (hp:p=P.length) (hq:q=P.length+V.length+1):yL cs p q
 | left {P V S:List Nat} {p q:Nat} (h:cs=P++40::(V++41::S)) (c:Cl V) (hp:p=P.length+V.length+1) (hq:q=P.length):yL cs p q
theorem gh{P S:List Nat}{c d k:Nat}(h:k=P.length):(P++c::S).set k d=P++d::S:=by
 subst h;rw[List.set_append_right _ _ (aB _)];simp
theorem oH{P Q:List Nat}{a b k:Nat}(h:k=P.length):(P++a::b::Q).take k++(P++a::b::Q).drop (k+2)=P++Q/\(P++a::b::Q).length=P.length+Q.length+2:=by
 subst h;refine⟨?_,by simp;lia⟩;rw[List.take_left,List.drop_append];simp
def jn(cs:List Nat)(p a b m0 m1:Nat):List Nat:=((cs.set a m0).set b m1).take p++((cs.set a m0).set b m1).drop (p+2)
theorem E5{A V C F:List Nat}{a x y b p i j m0 m1:Nat}(hi:i=A.length)(hj:j=A.length+V.length+C.length+3)(hp:p=A.length+V.length+1):
  jn (A++a::(V++x::y::(C++b::F))) p i j m0 m1=A++m0::(V++(C++m1::F)):=by
 unfold jn;rw[gh hi,show A++m0::(V++x::y::(C++b::F))=(A++m0::(V++x::y::C))++b::F by simp,gh (by simp;lia),
  show (A++m0::(V++x::y::C))++m1::F=(A++m0::V)++x::y::(C++m1::F) by simp,(oH (by simp;lia)).1]
 simp
theorem AY{P C D F:List Nat}{x y b d p i j m0 m1:Nat}(hi:i=P.length+C.length+2)(hj:j=P.length+C.length+D.length+3)(hp:p=P.length):
  jn (P++x::y::(C++b::(D++d::F))) p i j m0 m1=P++(C++m0::(D++m1::F)):=by
 unfold jn;rw[show P++x::y::(C++b::(D++d::F))=(P++x::y::C)++b::(D++d::F) by simp,gh (by simp;lia),
  show (P++x::y::C)++m0::(D++d::F)=(P++x::y::(C++m0::D))++d::F by simp,gh (by simp;lia),
  show (P++x::y::(C++m0::D))++m1::F=P++x::y::(C++m0::(D++m1::F)) by simp,(oH hp).1]
theorem Bx{A B C S:List Nat}{a b x y p i j m0 m1:Nat}(hi:i=A.length)(hj:j=A.length+B.length+1)(hp:p=A.length+B.length+C.length+2):
  jn (A++a::(B++b::(C++x::y::S))) p i j m0 m1=A++m0::(B++m1::(C++S)):=by
 unfold jn;rw[gh hi,show A++m0::(B++b::(C++x::y::S))=(A++m0::B)++b::(C++x::y::S) by simp,gh (by simp;lia),
  show (A++m0::B)++m1::(C++x::y::S)=(A++m0::(B++m1::C))++x::y::S by simp,(oH (by simp;lia)).1]
 simp
theorem GP{P C F:List Nat}{x y b p i j m0 m1:Nat}(hi:i=P.length)(hj:j=P.length+C.length+2)(hp:p=P.length):
  jn (P++x::y::(C++b::F)) p i j m0 m1=P++(C++m1::F):=by
 unfold jn;rw[gh hi,show P++m0::y::(C++b::F)=(P++m0::y::C)++b::F by simp,gh (by simp;lia),
  show (P++m0::y::C)++m1::F=P++m0::y::(C++m1::F) by simp,(oH hp).1]
theorem GQ{A V S:List Nat}{a x y p i j m0 m1:Nat}(hi:i=A.length)(hj:j=A.length+V.length+2)(hp:p=A.length+V.length+1):
  jn (A++a::(V++x::y::S)) p i j m0 m1=A++m0::(V++S):=by
 unfold jn;rw[gh hi,show A++m0::(V++x::y::S)=(A++m0::(V++[x]))++y::S by simp,gh (by simp;lia),
  show (A++m0::(V++[x]))++m1::S=(A++m0::V)++x::m1::S by simp,(oH (by simp;lia)).1]
 simp
theorem AQ{lo hi:Int}:∀{l:List Int},hi∉l->l.map (rn lo hi)=l
 | [],_=>rfl
 | a::l,h=>by
  simp only[aF,not_or] at h;rw[aZ,AQ h.2];simp[rn,cH h.1]
theorem Cq{lo hi:Int}:rn lo hi lo=lo:=by unfold rn;split<;>rfl
theorem Cr{lo hi:Int}:rn lo hi hi=lo:=by simp[rn]
structure Ge (cs:List Nat) (p:Nat) (st:Prop) (out:List Nat):Prop where
 ex:∃ q0 q1,yL cs p q0/\yL cs (p+1) q1/\q0≠p+1/\q0≠q1/\q0<cs.length/\q1<cs.length ∧
  ((st/\jn cs p (min q0 q1) (max q0 q1) 42 42=out)\/(¬ st/\jn cs p (min q0 q1) (max q0 q1) 40 41=out))
theorem EW.two_in{R:List Int}(E:EW R){A B:List Int}{x:Int}(e:R=A++x::B)(hx:0<x):(∃C D,A=C++x::D)\/(∃C D,B=C++x::D):=by
 have c:=E.two x (by rw[e];simp) hx;rw[e] at c;simp only[cf,cn,beq_self_eq_true,LR] at c;by_cases h:x∈A
 ·exact .inl (dM h)
 ·have:=bO.mpr h;exact .inr (dM (iw.mp (by lia)))
section
variable {x y:Int}
theorem off{l:List Int}(h1:x∉l)(h2:y∉l):∀v∈l,v≠x/\v≠y:=λv hv=>⟨λe=>h1 (e▸hv),λe=>h2 (e▸hv)⟩
end
theorem EW.d{U W:List Int}{x y lo hi:Int}(E:EW (U++x::y::W))(hlh:lo<hi)(hp:(lo=x/\hi=y)\/(lo=y/\hi=x)):
  Ge (bm [] (U++x::y::W)) U.length (x=0\/y=0) (bm [] ((U++W).map (rn lo hi))):=by
 have hxy:x≠y:=by lia
 have x0:=E.nn x (by simp);have y0:=E.nn y (by simp);have rx:rn lo hi x=lo:=by rcases hp with ⟨rfl,rfl⟩ | ⟨rfl,rfl⟩;exact Cq;exact Cr
 have ry:rn lo hi y=lo:=by rcases hp with ⟨rfl,rfl⟩ | ⟨rfl,rfl⟩;exact Cr;exact Cq
 have hh:hi=x\/hi=y:=hp.elim (λh=>.inr h.2) (λh=>.inl h.2);have hl:lo=x\/lo=y:=hp.elim (λh=>.inl h.1) (λh=>.inr h.1);have mp:∀l:List Int,x∉l->y∉l->l.map (rn lo hi)=l:=λl h1 h2=>AQ (by rcases hh with rfl | rfl<;>assumption);have ll:∀l:List Int,x∉l->y∉l->lo∉l:=λl h1 h2=>by rcases hl with rfl | rfl<;>assumption
 by_cases hx:x=0
 ·-- the mouth's piece on the left
  subst hx;have hy:0<y:=by lia
  have el:lo=0:=by lia
  rcases E.two_in (A:=U++[0]) (B:=W) (x:=y) (by simp) hy with ⟨C,D,e⟩ | ⟨C,D,e⟩
  ·exfalso;have:y∈U:=by
    have:y∈U++[0]:=by rw[e];simp
    simpa [cH hxy] using this
   exact E.top y ((b6.mpr this).append (((ai W).cons_cons y).cons_cons 0))
  ·subst e;obtain⟨cl,n1,n2,n3⟩:=EW.seg (A:=U++[0]) (V:=C) (B:=D) (x:=y) (by simpa using E) hy;have c0:=E.z1;simp only[cf,cn,beq_self_eq_true,LR] at c0;have z1:(0:Int)∉U:=bO.mp (by lia);have z2:(0:Int)∉C:=bO.mp (by lia);have z3:(0:Int)∉D:=bO.mp (by lia);have n1':y∉U:=λh=>n1 (by simp[h]);have ec:bm [] (U++0::y::(C++y::D))=bm [] U++42::40::(bm (U++[0]++[y]) C++41::bm (U++[0]++[y]++C++[y]) D):=by
    rw[ce,bm,ce];simp only[ay];rw[vm,gm hy n1,gk hy (by simp)]
   have eo:bm [] ((U++(C++y::D)).map (rn lo hi))=bm [] U++(bm (U++[0]++[y]) C++42::bm (U++[0]++[y]++C++[y]) D):=by
    rw[aM,aM,aZ,ry,mp U z1 n1',mp C z2 n2,mp D z3 n3,dC,ce,el,vm];rw[df (x:=0) (y:=y) C _ (U++[0]++[y]) (off z2 n2) (λv a b=>by simp[a,b]),df (x:=0) (y:=y) D _ (U++[0]++[y]++C++[y]) (off z3 n3) (λv a b=>by simp[a,b])]
   rw[ec,eo];have lU:=cM U [];have lC:=cM C (U++[0]++[y]);clear ec eo E c0;generalize bm [] U=u at *;generalize bm (U++[0]++[y]) C=c at *;generalize bm (U++[0]++[y]++C++[y]) D=d at *;refine⟨U.length,U.length+C.length+2,.star rfl (by lia),.right (P:=u++[42]) (V:=c) (S:=d) (by simp) cl (by simp;lia) (by simp;lia),by lia,by lia,by simp;lia,by simp;lia,.inl ⟨.inl rfl,?_⟩⟩;rw[fe (by lia),jh (by lia)];exact GP (by lia) (by lia) (by lia)
 ·have hx':0<x:=by lia
  by_cases hy:y=0
  ·subst hy;have el:lo=0:=by lia
   rcases E.two_in (A:=U) (B:=0::W) (x:=x) rfl hx' with ⟨A,V,e⟩ | ⟨C,D,e⟩
   ·subst e;have E':EW (A++x::(V++x::(0::W))):=by simpa using E
    obtain⟨cl,n1,n2,n3⟩:=E'.seg hx';have c0:=E.z1;simp only[cf,cn,beq_self_eq_true,LR] at c0;have z1:(0:Int)∉A:=bO.mp (by lia);have z2:(0:Int)∉V:=bO.mp (by lia);have z3:(0:Int)∉W:=bO.mp (by lia);have n3':x∉W:=λh=>n3 (by simp[h]);have ec:bm [] (A++x::V++x::0::W)=bm [] A++40::(bm (A++[x]) V++41::42::bm (A++[x]++V++[x]++[0]) W):=by
     rw[show A++x::V++x::0::W=A++x::(V++x::0::W) by simp,ce,ce,bm];simp only[ay];rw[vm,gm hx' n1,gk hx' (by simp)]
    have eo:bm [] ((A++x::V++W).map (rn lo hi))=bm [] A++42::(bm (A++[x]) V++bm (A++[x]++V++[x]++[0]) W):=by
     rw[show A++x::V++W=A++x::(V++W) by simp,aM,aZ,aM,rx,mp A n1 z1,mp V n2 z2,mp W n3' z3,ce,dC,el,vm];simp only[ay];rw[df (x:=x) (y:=0) V _ (A++[x]) (off n2 z2) (λv a b=>by simp[a,b]),df (x:=x) (y:=0) W _ (A++[x]++V++[x]++[0]) (off n3' z3) (λv a b=>by simp[a,b])]
    rw[ec,eo];have lA:=cM A [];have lV:=cM V (A++[x]);clear ec eo E E' c0;have lU:(A++x::V).length=A.length+V.length+1:=by simp;lia
    rw[lU];generalize bm [] A=a at *;generalize bm (A++[x]) V=v at *;generalize bm (A++[x]++V++[x]++[0]) W=w at *;refine⟨A.length,A.length+V.length+2,.left rfl cl (by lia) (by lia),.star (P:=a++40::(v++[41])) (S:=w) (by simp) (by simp;lia),by lia,by lia,by simp;lia,by simp;lia,.inl ⟨.inr rfl,?_⟩⟩;rw[fe (by lia),jh (by lia)];exact GQ (by lia) (by lia) (by lia)
   ·exfalso;have:x∈W:=by
     have:x∈(0:Int)::W:=by rw[e];simp
     simpa [hxy] using this
    exact E.top x ((ai U).append (((b6.mpr this).cons_cons 0).cons_cons x))
  ·have hy':0<y:=by lia
   have hst:¬(x=0\/y=0):=by lia
   have hl0:0<lo:=by rcases hl with rfl | rfl<;>assumption
   rcases E.two_in (A:=U) (B:=y::W) (x:=x) rfl hx' with ⟨A,V,e⟩ | ⟨C,D,e⟩
   ·subst e;have E':EW (A++x::(V++x::(y::W))):=by simpa using E
    obtain⟨cl,n1,n2,n3⟩:=E'.seg hx';have n3':x∉W:=λh=>n3 (by simp[h]);rcases E.two_in (A:=A++x::V++[x]) (B:=W) (x:=y) (by simp) hy' with ⟨C,D,e⟩ | ⟨C,F,e⟩
    ·-- )):y begins ahead of x
     have yA:y∈A:=by
      have:y∈A++x::V++[x]:=by rw[e];simp
      simp only[aE,aF,aQ,ba,or_false] at this;rcases this with (h | h | h) | h
      ·exact h
      ·exact absurd h.symm hxy
      ·exact absurd (E'.nc x y ((ai A).append ((((b6.mpr h).append (((ai W).cons_cons y).cons_cons x))).cons_cons x))) hxy
      ·exact absurd h.symm hxy
     obtain⟨A,B,rfl⟩:=dM yA;have E2:EW (A++y::((B++x::(V++[x]))++y::W)):=by simpa using E
     obtain⟨cl2,m1,m2,m3⟩:=E2.seg hy';have xA:x∉A:=λh=>n1 (by simp[h]);have xB:x∉B:=λh=>n1 (by simp[h]);have yB:y∉B:=λh=>m2 (by simp[h]);have yV:y∉V:=λh=>m2 (by simp[h]);have ec:bm [] (A++y::B++x::V++x::y::W)=bm [] A++40::(bm (A++[y]) B++40::(bm (A++y::B++[x]) V++41::41::bm (A++[y]++B++[x]++V++[x]++[y]) W)):=by
      rw[show A++y::B++x::V++x::y::W=A++y::(B++x::(V++x::y::W)) by simp,ce,ce,ce,bm];simp only[ay];rw[gm hy' m1,gm hx' (by simp[xA,xB,hxy]),gk hx' (by simp),gk hy' (by simp)];simp
     have cl2':bm (A++[y]) (B++x::(V++[x]))=bm (A++[y]) B++40::(bm (A++y::B++[x]) V++[41]):=by
      rw[ce,dC,bm,bm];rw[gm hx' (by simp[xA,xB,hxy]),gk hx' (by simp)];simp
     rw[cl2'] at cl2;have eo:bm [] ((A++y::B++x::V++W).map (rn lo hi))=bm [] A++40::(bm (A++[y]) B++41::(bm (A++y::B++[x]) V++bm (A++[y]++B++[x]++V++[x]++[y]) W)):=by
      rw[show A++y::B++x::V++W=A++y::(B++x::(V++W)) by simp,aM,aZ,aM,aZ,aM,rx,ry,mp A xA m1,mp B xB yB,mp V n2 yV,mp W n3' m3,ce,ce,dC];simp only[ay];rw[gm hl0 (ll A xA m1),gk hl0 (by simp)];rw[df (x:=x) (y:=y) B _ (A++[y]) (off xB yB) (λv a b=>by rcases hl with rfl | rfl<;>simp[a,b]),df (x:=x) (y:=y) V _ (A++y::B++[x]) (off n2 yV) (λv a b=>by rcases hl with rfl | rfl<;>simp[a,b]),df (x:=x) (y:=y) W _ (A++[y]++B++[x]++V++[x]++[y]) (off n3' m3) (λv a b=>by rcases hl with rfl | rfl<;>simp[a,b])]
     rw[ec,eo];have lA:=cM A [];have lB:=cM B (A++[y]);have lV:=cM V (A++y::B++[x]);clear ec eo E E' E2 cl2' e;have lU:(A++y::B++x::V).length=A.length+B.length+V.length+2:=by simp;lia
     rw[lU];generalize bm [] A=a at *;generalize bm (A++[y]) B=b at *;generalize bm (A++y::B++[x]) V=v at *;generalize bm (A++[y]++B++[x]++V++[x]++[y]) W=w at *;refine⟨A.length+B.length+1,A.length,.left (P:=a++40::b) (V:=v) (S:=41::w) (by simp) cl (by simp;lia) (by simp;lia),.left (P:=a) (V:=b++40::(v++[41])) (S:=w) (by simp) cl2 (by simp;lia) (by lia),by lia,by lia,by simp;lia,by simp;lia,.inr ⟨hst,?_⟩⟩;rw[Nat.min_eq_right (by lia),Nat.max_eq_left (by lia)];exact Bx (by lia) (by lia) (by lia)
    ·-- )(
     subst e;have E2:EW ((A++x::V++[x])++y::(C++y::F)):=by simpa using E
     obtain⟨cl2,m1,m2,m3⟩:=E2.seg hy';have yA:y∉A:=λh=>m1 (by simp[h]);have yV:y∉V:=λh=>m1 (by simp[h]);have xC:x∉C:=λh=>n3' (by simp[h]);have xF:x∉F:=λh=>n3' (by simp[h]);have ec:bm [] (A++x::V++x::y::(C++y::F))=bm [] A++40::(bm (A++[x]) V++41::40::(bm (A++x::V++[x]++[y]) C++41::bm (A++[x]++V++[x]++[y]++C++[y]) F)):=by
      rw[show A++x::V++x::y::(C++y::F)=A++x::(V++x::y::(C++y::F)) by simp,ce,ce,bm,ce];simp only[ay];rw[gm hx' n1,gk hx' (by simp),gm hy' (by simp[yA,yV,cH hxy]),gk hy' (by simp)];simp
     have eo:bm [] ((A++x::V++(C++y::F)).map (rn lo hi))=bm [] A++40::(bm (A++[x]) V++(bm (A++x::V++[x]++[y]) C++41::bm (A++[x]++V++[x]++[y]++C++[y]) F)):=by
      rw[show A++x::V++(C++y::F)=A++x::(V++(C++y::F)) by simp,aM,aZ,aM,aM,aZ,rx,ry,mp A n1 yA,mp V n2 yV,mp C xC m2,mp F xF m3,ce,dC,ce];simp only[ay];rw[gm hl0 (ll A n1 yA),gk hl0 (by simp)];rw[df (x:=x) (y:=y) V _ (A++[x]) (off n2 yV) (λv a b=>by rcases hl with rfl | rfl<;>simp[a,b]),df (x:=x) (y:=y) C _ (A++x::V++[x]++[y]) (off xC m2) (λv a b=>by rcases hl with rfl | rfl<;>simp[a,b]),df (x:=x) (y:=y) F _ (A++[x]++V++[x]++[y]++C++[y]) (off xF m3) (λv a b=>by rcases hl with rfl | rfl<;>simp[a,b])]
     rw[ec,eo];have lA:=cM A [];have lV:=cM V (A++[x]);have lC:=cM C (A++x::V++[x]++[y]);clear ec eo E E' E2;have lU:(A++x::V).length=A.length+V.length+1:=by simp;lia
     rw[lU];generalize bm [] A=a at *;generalize bm (A++[x]) V=v at *;generalize bm (A++x::V++[x]++[y]) C=c at *;generalize bm (A++[x]++V++[x]++[y]++C++[y]) F=f at *;refine⟨A.length,A.length+V.length+C.length+3,.left (P:=a) (V:=v) rfl cl (by lia) (by lia),.right (P:=a++40::(v++[41])) (V:=c) (S:=f) (by simp) cl2 (by simp;lia) (by simp;lia),by lia,by lia,by simp;lia,by simp;lia,.inr ⟨hst,?_⟩⟩;rw[fe (by lia),jh (by lia)];exact E5 (by lia) (by lia) (by lia)
   ·-- ((
    have xW:x∈W:=by
     have:x∈y::W:=by rw[e];simp
     simpa [hxy] using this
    rcases E.two_in (A:=U++[x]) (B:=W) (x:=y) (by simp) hy' with ⟨C',D',e'⟩ | ⟨C',D',e'⟩
    ·exfalso;have yU:y∈U:=by
      have:y∈U++[x]:=by rw[e'];simp
      simpa [cH hxy] using this
     exact hxy (E.nc y x ((b6.mpr yU).append ((((b6.mpr xW).cons_cons y)).cons_cons x))).symm
    ·subst e';have E1:EW ((U++[x])++y::(C'++y::D')):=by simpa using E
     obtain⟨cl2,m1,m2,m3⟩:=E1.seg hy';have yU:y∉U:=λh=>m1 (by simp[h]);have xD:x∈D':=by
      simp only[aE,aF] at xW;rcases xW with h | h | h
      ·exact absurd (E.nc x y ((ai U).append (((ai [y]).append ((b6.mpr h).append ((ai D').cons_cons y)) |> λz=>((b6.mpr h).append ((ai D').cons_cons y)).cons_cons y).cons_cons x))) hxy
      ·exact absurd h hxy
      ·exact h
     obtain⟨D,F,rfl⟩:=dM xD;have E2:EW (U++x::((y::(C'++y::D))++x::F)):=by simpa using E
     obtain⟨cl,n1,n2,n3⟩:=E2.seg hx';have xC:x∉C':=λh=>n2 (by simp[h]);have xD':x∉D:=λh=>n2 (by simp[h]);have yD:y∉D:=λh=>m3 (by simp[h]);have yF:y∉F:=λh=>m3 (by simp[h]);have ec:bm [] (U++x::y::(C'++y::(D++x::F)))=bm [] U++40::40::(bm (U++[x]++[y]) C'++41::(bm (U++[x]++[y]++C'++[y]) D++41::bm (U++[x]++[y]++C'++[y]++D++[x]) F)):=by
      rw[ce,bm,ce,ce];simp only[ay];rw[gm hx' n1,gm hy' m1,gk hy' (by simp),gk hx' (by simp)]
     have cl':bm (U++[x]) (y::(C'++y::D))=40::(bm (U++[x]++[y]) C'++41::bm (U++[x]++[y]++C'++[y]) D):=by
      rw[bm,ce];rw[gm hy' m1,gk hy' (by simp)]
     rw[cl'] at cl;have eo:bm [] ((U++(C'++y::(D++x::F))).map (rn lo hi))=bm [] U++(bm (U++[x]++[y]) C'++40::(bm (U++[x]++[y]++C'++[y]) D++41::bm (U++[x]++[y]++C'++[y]++D++[x]) F)):=by
      rw[aM,aM,aZ,aM,aZ,rx,ry,mp U n1 yU,mp C' xC m2,mp D xD' yD,mp F n3 yF,dC,ce,ce];simp only[ay];rw[gm hl0 (λh=>(aE.mp h).elim (ll U n1 yU) (ll C' xC m2)),gk hl0 (by simp)];rw[df (x:=x) (y:=y) C' _ (U++[x]++[y]) (off xC m2) (λv a b=>by rcases hl with rfl | rfl<;>simp[a,b]),df (x:=x) (y:=y) D _ (U++[x]++[y]++C'++[y]) (off xD' yD) (λv a b=>by rcases hl with rfl | rfl<;>simp[a,b]),df (x:=x) (y:=y) F _ (U++[x]++[y]++C'++[y]++D++[x]) (off n3 yF) (λv a b=>by rcases hl with rfl | rfl<;>simp[a,b])]
     rw[ec,eo];have lU:=cM U [];have lC:=cM C' (U++[x]++[y]);have lD:=cM D (U++[x]++[y]++C'++[y]);clear ec eo E E1 E2 e cl';generalize bm [] U=u at *;generalize bm (U++[x]++[y]) C'=c at *;generalize bm (U++[x]++[y]++C'++[y]) D=d at *;generalize bm (U++[x]++[y]++C'++[y]++D++[x]) F=f at *;refine⟨U.length+C'.length+D.length+3,U.length+C'.length+2,.right (P:=u) (V:=40::(c++41::d)) (S:=f) (by simp) cl (by lia) (by simp;lia),.right (P:=u++[40]) (V:=c) (S:=d++41::f) (by simp) cl2 (by simp;lia) (by simp;lia),by lia,by lia,by simp;lia,by simp;lia,.inr ⟨hst,?_⟩⟩;rw[Nat.min_eq_right (by lia),Nat.max_eq_left (by lia)];exact AY (by lia) (by lia) (by lia)
theorem EW.same{U W:List Int}{x:Int}(E:EW (U++x::x::W)):yL (bm [] (U++x::x::W)) U.length (U.length+1):=by
 have x0:=E.nn x (by simp);have hx:0<x:=by
  rcases Int.lt_or_eq_of_le x0 with h | h
  ·exact h
  ·subst h;have:=E.z1;simp only[cf,cn,beq_self_eq_true,LR] at this;lia
 obtain⟨_,n1,_,_⟩:=EW.seg (A:=U) (V:=[]) (B:=W) (x:=x) E hx;refine .right (P:=bm [] U) (V:=[]) (S:=bm (U++[x]++[x]) W) ?_ ⟨rfl,λj=>by simp[mG]⟩ (cM U []).symm (by simp[cM]);rw[ce,bm];simp only[ay];rw[gm hx n1,gk hx (by simp)]
def mR(L R:List Int):List Nat:=bm [] L++124::bm L R.reverse
def mx:List Int->Int
 | []=>0
 | x::l=>max x (mx l)
theorem AL:∀{l:List Int} {x:Int},x∈l->x<=mx l
 | a::l,x,h=>by
  simp only[mx];rcases aF.mp h with rfl | h
  ·lia
  ·have:=AL h;lia
theorem Cw:∀(l:List Int),0<=mx l
 | []=>cA 0
 | a::l=>by have:=Cw l;simp only[mx];lia
def eL(L R:List Int)(c:Nat):Option (List Int×List Int):=
 if c=97 then some (L++[1+mx (L++R)],R++[1+mx (L++R)])
 else if c=98 then (match R.getLast? with | some v=>some (L++[v],R.dropLast) | none=>none)
 else if c=99 then (match L.getLast? with | some v=>some (L.dropLast,R++[v]) | none=>none)
 else match L.getLast?,R.getLast? with
  | some x,some y=>if x=y then none else some (L.dropLast.map (rn (min x y) (max x y)),R.dropLast.map (rn (min x y) (max x y)))
  | _,_=>none
def EE(L R:List Int):Prop:=EW (L++R.reverse)
theorem dO{l:List Int}(h:l≠[]):∃P x,l=P++[x]:=⟨l.dropLast,l.getLast h,(d8 h).symm⟩
theorem tW{L Q:List Int}{v:Int}:eL L (Q++[v]) 98=some (L++[v],Q):=by simp[eL]
theorem rJ{L:List Int}:eL L [] 98=none:=by simp[eL]
theorem tV{P R:List Int}{v:Int}:eL (P++[v]) R 99=some (P,R++[v]):=by simp[eL]
theorem rH{R:List Int}:eL [] R 99=none:=by simp[eL]
theorem tU{P Q:List Int}{x y:Int}:eL (P++[x]) (Q++[y]) 100=if x=y then none else some (P.map (rn (min x y) (max x y)),Q.map (rn (min x y) (max x y))):=by simp[eL]
theorem rG{R:List Int}:eL [] R 100=none:=by simp[eL]
theorem rF{L:List Int}:eL L [] 100=none:=by
 unfold eL;simp only[List.getLast?_nil];cases L.getLast?<;>simp
theorem rK{L R:List Int}(E:EE L R):0<1+mx (L++R)/\1+mx (L++R)∉L/\1+mx (L++R)∉R.reverse:=by
 have:=Cw (L++R);refine⟨by lia,λh=>?_,λh=>?_⟩
 ·have:=AL (l:=L++R) (ae _ h);lia
 ·have:=AL (l:=L++R) (aa _ (jm.mp h));lia
theorem Fq{L R:List Int}(E:EE L R):bm [] L++[40,124,41]++bm L R.reverse=mR (L++[1+mx (L++R)]) (R++[1+mx (L++R)]):=by
 obtain⟨h0,h1,h2⟩:=rK E;generalize 1+mx (L++R)=z at *;unfold mR;rw[dC,bm,bm,ay,gm h0 h1,eE,List.reverse_singleton,fI,bm,gk h0 (by simp)];simp;exact df (x:=z) (y:=z) R.reverse L _ (off h2 h2) λv a b=>by simp[a]
theorem EE.a{L R:List Int}(E:EE L R):EE (L++[1+mx (L++R)]) (R++[1+mx (L++R)]):=by
 obtain⟨h0,h1,h2⟩:=rK E;unfold EE;have:=EW.ins E h0 h1 h2;simpa using this
theorem EE.b{L Q:List Int}{v:Int}(E:EE L (Q++[v])):EE (L++[v]) Q:=by unfold EE at *;simpa using E
theorem EE.c{P R:List Int}{v:Int}(E:EE (P++[v]) R):EE P (R++[v]):=by unfold EE at *;simpa using E
theorem EE.d{P Q:List Int}{x y:Int}(E:EE (P++[x]) (Q++[y]))(h:x≠y):EE (P.map (rn (min x y) (max x y))) (Q.map (rn (min x y) (max x y))):=by
 unfold EE at *;have:=EW.join (U:=P) (W:=Q.reverse) (x:=x) (y:=y) (lo:=min x y) (hi:=max x y) (by simpa using E) (by lia) (by lia);simpa using this
theorem EE.go{L R L' R':List Int}{c:Nat}(E:EE L R)(hc:c=97\/c=98\/c=99\/c=100)(h:eL L R c=some (L',R')):EE L' R':=by
 rcases hc with rfl | rfl | rfl | rfl
 ·simp only[eL,LR,Option.some.injEq,fc] at h;obtain⟨rfl,rfl⟩:=h;exact E.a
 ·by_cases hR:R=[]
  ·subst hR;rw[rJ] at h;cases h
  ·obtain⟨Q,v,rfl⟩:=dO hR;rw[tW] at h;cases h;exact E.b
 ·by_cases hL:L=[]
  ·subst hL;rw[rH] at h;cases h
  ·obtain⟨P,v,rfl⟩:=dO hL;rw[tV] at h;cases h;exact E.c
 ·by_cases hL:L=[]
  ·subst hL;rw[rG] at h;cases h
  ·by_cases hR:R=[]
   ·subst hR;rw[rF] at h;cases h
   ·obtain⟨P,x,rfl⟩:=dO hL;obtain⟨Q,y,rfl⟩:=dO hR;rw[tU] at h;by_cases e:x=y
    ·rw[LM e] at h;cases h
    ·rw[LL e] at h;cases h;exact E.d e
theorem EE.one:EE [0] []:=by
 refine⟨by simp,by decide,by simp,λu v h=>?_,λu h=>?_⟩
 ·have:=h.length_le;simp at this
 ·have:=h.length_le;simp at this
theorem EE.two:EE [] [0]:=EE.one
theorem Fp{L Q:List Int}{v:Int}:bm [] L++[l8 L v]++124::bm (L++[v]) Q.reverse=mR (L++[v]) Q:=by
 unfold mR;rw[dC];rfl
theorem uR{L Q:List Int}{v:Int}:bm L (Q++[v]).reverse=l8 L v::bm (L++[v]) Q.reverse:=by simp[bm]
theorem uS{P:List Int}{v:Int}:bm [] (P++[v])=bm [] P++[l8 P v]:=by rw[dC];rfl
theorem Fo{P R:List Int}{v:Int}:bm [] P++124::(l8 P v::bm (P++[v]) R.reverse)=mR P (R++[v]):=by
 unfold mR;rw[uR]
theorem Fm{P Q:List Int}{x y:Int}(E:EE (P++[x]) (Q++[y]))(h:x≠y):∃q0 q1,yL (bm [] (P++x::y::Q.reverse)) P.length q0/\yL (bm [] (P++x::y::Q.reverse)) (P.length+1) q1/\q0≠P.length+1/\q0≠q1 ∧
  q0<(bm [] (P++x::y::Q.reverse)).length/\q1<(bm [] (P++x::y::Q.reverse)).length/\∃m0 m1,((x=0\/y=0)/\m0=42/\m1=42\/¬(x=0\/y=0)/\m0=40/\m1=41) ∧
  (((bm [] (P++x::y::Q.reverse)).set (min q0 q1) m0).set (max q0 q1) m1).take P.length++124::(((bm [] (P++x::y::Q.reverse)).set (min q0 q1) m0).set (max q0 q1) m1).drop (P.length+2)=mR (P.map (rn (min x y) (max x y))) (Q.map (rn (min x y) (max x y))):=by
 have E':EW (P++x::y::Q.reverse):=by unfold EE at E;simpa using E
 obtain⟨q0,q1,f0,f1,n1,n2,l0,l1,r⟩:=(E'.d (lo:=min x y) (hi:=max x y) (by lia) (by lia)).ex;have hl:(bm [] (P++x::y::Q.reverse)).length=P.length+Q.length+2:=by rw[cM];simp;lia
 have fin:∀m0 m1,jn (bm [] (P++x::y::Q.reverse)) P.length (min q0 q1) (max q0 q1) m0 m1=bm [] ((P++Q.reverse).map (rn (min x y) (max x y))) →
   (((bm [] (P++x::y::Q.reverse)).set (min q0 q1) m0).set (max q0 q1) m1).take P.length++124::(((bm [] (P++x::y::Q.reverse)).set (min q0 q1) m0).set (max q0 q1) m1).drop (P.length+2)=mR (P.map (rn (min x y) (max x y))) (Q.map (rn (min x y) (max x y))):=λm0 m1 hj=>by
  unfold jn at hj;unfold mR;rw[aM,dC (P.map (rn (min x y) (max x y))) [],ay,List.map_reverse] at hj;obtain⟨e1,e2⟩:=List.append_inj hj (by rw[cM,aC,bS,fB,fB,hl];lia);rw[e1,e2]
 refine⟨q0,q1,f0,f1,n1,n2,l0,l1,?_⟩;rcases r with ⟨h1,h2⟩ | ⟨h1,h2⟩
 ·exact⟨42,42,.inl ⟨h1,rfl,rfl⟩,fin _ _ h2⟩
 ·exact⟨40,41,.inr ⟨h1,rfl,rfl⟩,fin _ _ h2⟩
theorem Ae{P Q:List Int}{x:Int}(E:EE (P++[x]) (Q++[x])):yL (bm [] (P++x::x::Q.reverse)) P.length (P.length+1):=by
 have E':EW (P++x::x::Q.reverse):=by unfold EE at E;simpa using E
 exact E'.same
theorem BW{P Q:List Int}{x y:Int}:bm [] (P++[x])++bm (P++[x]) (Q++[y]).reverse=bm [] (P++x::y::Q.reverse):=by
 rw[show P++x::y::Q.reverse=(P++[x])++(Q++[y]).reverse by simp,dC (P++[x]) []];rfl
theorem yL.walk{cs:List Nat}{p q:Nat}(h:yL cs p q):(cs[p]? = some 42/\q=p)\/∃(st:Int) (n:Nat) (d:Nat->Int),((st=1/\cs[p]? = some 40)\/(st=-1/\cs[p]? = some 41))/\d 0=st/\(∀j,j<n->d j≠0)/\d n=0/\(p:Int)+st*n=q ∧
  ∀j,j<n->∃i c:Nat,(p:Int)+st*j+st=i/\cs[i]? = some c/\d (j+1)=d j+vl c:=by
 cases h with
 | @star P S _ h hp=>exact .inl ⟨by rw[h,hp];simp,rfl⟩
 | @right P V S _ _ h c hp hq=>
  refine .inr ⟨1,V.length+1,λj=>1+ps ((V++[41]).take j),.inl ⟨rfl,by rw[h,hp];simp⟩,by simp[mG],λj hj=>?_,?_,by lia,λj hj=>?_⟩
  ·have:=c.nn j;simp only;rw[iB (by lia)];lia
  ·have:=c.z;simp only;rw[bZ (by simp),nD,lY,mG,this];decide
  ·have hl:j<(V++[41]).length:=by simp;lia
   refine⟨p+j+1,(V++[41])[j],by lia,?_,?_⟩
   ·rw[h,hp,show P.length+j+1=P.length+(j+1) by lia,a8 (by lia)];rw[show P.length+(j+1)-P.length=j+1 by lia,fy,show V++41::S=(V++[41])++S by simp,bG hl,aS hl]
   ·simp only;rw[bD,aS hl,nD];simp[lY,mG];lia
 | @left P V S _ _ h c hp hq=>
  have hd:∀k,k<=V.length->ps (V.drop k)=- ps (V.take k):=λk hk=>by
   have:=nD (V.take k) (V.drop k);rw[bi,c.z] at this;lia
  refine .inr ⟨-1,V.length+1,λj=>-1+ps ((40::V).drop (V.length+1-j)),.inr ⟨rfl,?_⟩,?_,λj hj=>?_,?_,by lia,λj hj=>?_⟩
  ·rw[h,hp,show P.length+V.length+1=P.length+(V.length+1) by lia,a8 (by lia)];rw[show P.length+(V.length+1)-P.length=V.length+1 by lia,fy,a8 (aB _)];simp
  ·simp only;rw[gM (by simp)];simp[mG]
  ·have hk:V.length+1-j=(V.length-j)+1:=by lia
   simp only;rw[hk,List.drop_succ_cons,hd _ (by lia)];have:=c.nn (V.length-j);lia
  ·simp only;rw[iV,iu,lY,c.z];decide
  ·have hl:V.length-j<(40::V).length:=by simp;lia
   refine⟨P.length+(V.length-j),(40::V)[V.length-j],by lia,?_,?_⟩
   ·rw[h,a8 (by lia)];rw[show P.length+(V.length-j)-P.length=V.length-j by lia,show 40::(V++41::S)=(40::V)++41::S by simp,bG hl,aS hl]
   ·simp only;have e1:V.length+1-(j+1)=V.length-j:=by lia
    have e2:V.length+1-j=(V.length-j)+1:=by lia
    rw[e1,e2,bB hl,lY];lia
theorem Fl:mR [0] []=[42,124]:=by decide
theorem Fk:mR [] [0]=[124,42]:=by decide
theorem xm{P Q:List Int}{x:Int}(E:EE (P++[x]) (Q++[x])):yL (bm [] (P++x::x::Q.reverse)) (P.length+1) P.length:=by
 have E':EW (P++x::x::Q.reverse):=by unfold EE at E;simpa using E
 have x0:=E'.nn x (by simp);have hx:0<x:=by
  rcases Int.lt_or_eq_of_le x0 with h | h
  ·exact h
  ·subst h;have:=E'.z1;simp only[cf,cn,beq_self_eq_true,LR] at this;lia
 obtain⟨_,n1,_,_⟩:=EW.seg (A:=P) (V:=[]) (B:=Q.reverse) (x:=x) E' hx;refine .left (P:=bm [] P) (V:=[]) (S:=bm (P++[x]++[x]) Q.reverse) ?_ ⟨rfl,λj=>by simp[mG]⟩ (by simp[cM]) (cM P []).symm;rw[ce,bm];simp only[ay];rw[gm hx n1,gk hx (by simp)]
theorem Fs{P Q:List Int}{x y:Int}:(bm [] (P++x::y::Q))[P.length]? = some (l8 P x)/\(bm [] (P++x::y::Q))[P.length+1]? = some (l8 (P++[x]) y):=by
 rw[ce,bm];simp only[ay];have h:=cM P [];constructor
 ·rw[a8 (by lia),h];simp
 ·rw[a8 (by lia),h];simp
theorem sT{pre:List Int}{x:Int}(h:0<=x):l8 pre x=42<->x=0:=by
 unfold l8;by_cases h0:0<x
 ·rw[LM h0];split<;>(constructor<;>intro z<;>lia)
 ·rw[LL h0];exact⟨λ_=>by lia,λ_=>rfl⟩
def Ib:Option (List Int×List Int)->Option (List Nat)
 | none=>none
 | some (L,R)=>some (mR L R)
def lj:Nat->List Int->List Int->Nat
 | 0,L,R=>if L.length+R.length=1 then 1 else 0
 | n+1,L,R=>(match eL L R 97 with | none=>0 | some (a,b)=>lj n a b)+(match eL L R 98 with | none=>0 | some (a,b)=>lj n a b)+(match eL L R 99 with | none=>0 | some (a,b)=>lj n a b)+(match eL L R 100 with | none=>0 | some (a,b)=>lj n a b)
def pG(n:Nat):Option (List Int×List Int)->Nat
 | none=>0
 | some (L,R)=>lj n L R
theorem nM(n:Nat)(L R:List Int):lj (n+1) L R=pG n (eL L R 97)+pG n (eL L R 98)+pG n (eL L R 99)+pG n (eL L R 100):=by
 rw[lj];rcases eL L R 97 with _ | ⟨a,b⟩<;>rcases eL L R 98 with _ | ⟨a,b⟩<;>rcases eL L R 99 with _ | ⟨a,b⟩<;>rcases eL L R 100 with _ | ⟨a,b⟩<;>rfl
theorem GV{L R L' R':List Int}{c:Nat}(h:eL L R c=some (L',R')):L.length+R.length<=L'.length+R'.length+2:=by
 unfold eL at h
 split at h
 ·cases h;simp;lia
 ·split at h
  ·split at h
   ·cases h;simp;lia
   ·cases h
  ·split at h
   ·split at h
    ·cases h;simp;lia
    ·cases h
   ·split at h
    ·split at h
     ·cases h
     ·cases h;simp;lia
    ·cases h
theorem t9:∀(n:Nat) {L R:List Int},2*n+1<L.length+R.length->lj n L R=0
 | 0,L,R,h=>by simp only[lj];rw[LL (by lia)]
 | n+1,L,R,h=>by
  have key:∀c,pG n (eL L R c)=0:=λc=>by
   cases e1:eL L R c with
   | none=>rfl
   | some p=>
    obtain⟨a,b⟩:=p;have:=GV e1;exact t9 n (by lia)
  rw[nM,key,key,key,key]
theorem EE.pos{L R:List Int}(E:EE L R):1<=L.length+R.length:=by
 have:=E.z1;have h:=List.count_le_length (l:=L++R.reverse) (a:=(0:Int));simp at h;simp at this;lia
end Rm
namespace L2
open PySem PySem.Spec PyProof.Rows
abbrev Key:=Sum Int Str
def qM:Key->Value->Bool
 | .inl k,v=>Value.isInt k v
 | .inr x,v=>Value.isStrOf x v
def HZ(w:World):Key->Int
 | .inl k=>hashInt k
 | .inr x=>hashStr w x
theorem dv:∀{k:Key} {v:Value},qM k v=true->(∃i t,k=Sum.inl i/\v=Value.int i t)\/(∃x t,k=Sum.inr x/\v=Value.str x t)
 | .inl i,v,h=>by
  obtain⟨t,e⟩:=Value.isInt_shape (k:=i) (v:=v) h;exact .inl ⟨i,t,rfl,e⟩
 | .inr x,v,h=>by
  obtain⟨t,e⟩:=Value.isStrOf_shape (x:=x) (v:=v) h;exact .inr ⟨x,t,rfl,e⟩
theorem xf(i:Int)(t:Tok):qM (.inl i) (.int i t)=true:=by simp[qM,Value.isInt]
theorem xc(x:Str)(t:Tok):qM (.inr x) (.str x t)=true:=by simp[qM,Value.isStrOf]
theorem E4(a b:Int):decide ((Sum.inl a:Key)=Sum.inl b)=(a==b):=by
 by_cases e:a=b
 ·subst e;simp
 ·have h:¬(Sum.inl a:Key)=Sum.inl b:=λq=>e (Sum.inl.inj q);rw[LO h];exact(beq_eq_false_iff_ne.mpr e).symm
theorem EY(a b:Str):decide ((Sum.inr a:Key)=Sum.inr b)=decide (a=b):=by
 by_cases e:a=b
 ·subst e;simp
 ·have h:¬(Sum.inr a:Key)=Sum.inr b:=λq=>e (Sum.inr.inj q);rw[LO h,LO e]
theorem E3(a:Int)(b:Str):decide ((Sum.inl a:Key)=Sum.inr b)=false:=LO (λq=>nomatch q)
theorem EZ(a:Str)(b:Int):decide ((Sum.inr a:Key)=Sum.inl b)=false:=LO (λq=>nomatch q)
def eC (prog : Program) (w : World) : PySem.KeyKind prog w Key where
  is := qM
  hash := HZ w
  inj := fun v a b ha hb => by
    rcases dv ha with ⟨i, t, rfl, rfl⟩ | ⟨x, t, rfl, rfl⟩
    · rcases dv hb with ⟨j, u, rfl, e⟩ | ⟨y, u, rfl, e⟩
      · injection e with e1 _; rw [e1]
      · exact nomatch e
    · rcases dv hb with ⟨j, u, rfl, e⟩ | ⟨y, u, rfl, e⟩
      · exact nomatch e
      · injection e with e1 _; rw [e1]
  byValue := fun k v h => by
    rcases dv h with ⟨i, t, rfl, rfl⟩ | ⟨x, t, rfl, rfl⟩ <;> rfl
  pyHash := fun hv h => by
    rcases dv hv with ⟨i, t, rfl, rfl⟩ | ⟨x, t, rfl, rfl⟩
    · exact wpAny_pyHash_int h
    · exact wpAny_pyHash_str h
  eqBool := fun hu hv h => by
    rcases dv hu with ⟨i, t, rfl, rfl⟩ | ⟨x, t, rfl, rfl⟩
    · rcases dv hv with ⟨j, u, rfl, rfl⟩ | ⟨y, u, rfl, rfl⟩
      · rw [E4] at h; exact Ka h
      · rw [E3] at h; exact SeqAt.EqAt.int_str i t y u _ _ _ _ h
    · rcases dv hv with ⟨j, u, rfl, rfl⟩ | ⟨y, u, rfl, rfl⟩
      · rw [EZ] at h; exact SeqAt.EqAt.str_int x t j u _ _ _ _ h
      · rw [EY] at h; exact wpAny_eqBool_str h
  «strs» := fun k x t v h => by
    rcases dv h with ⟨i, u, rfl, e⟩ | ⟨y, u, rfl, e⟩
    · exact nomatch e
    · injection e with e1 _
      subst e1
      cases v <;> rfl
theorem tM(prog:Program)(w:World)(i:Int)(t:Tok):(eC prog w).is (.inl i) (.int i t)=true:=xf i t
theorem tL(prog:Program)(w:World)(x:Str)(t:Tok):(eC prog w).is (.inr x) (.str x t)=true:=xc x t
inductive V where
 | non | bl (b:Bool) | int (i:Int) | str (x:Str) | byt (b:Array UInt8) | flt (b:UInt64) | ref (a:Addr) | ty (n:String)
 deriving DecidableEq
def RelV:V->Value->Prop
 | .non,u=>u=Value.none
 | .bl b,u=>u=Value.bool b
 | .int i,u=>∃t,u=Value.int i t
 | .str x,u=>∃t,u=Value.str x t
 | .byt b,u=>∃t,u=Value.bytes b t
 | .flt b,u=>∃t,u=Value.float b t
 | .ref a,u=>u=Value.ref a
 | .ty n,u=>u=Value.type n
abbrev bj:List V->List Value->Prop:=Paired RelV
theorem bj.length{xs:List V}{us:List Value}(r:bj xs us):xs.length=us.length:=bu r
theorem bj.get:∀{xs:List V} {us:List Value} {i:Nat} {x:V},bj xs us->xs[i]? = some x->∃u,us[i]? = some u/\RelV x u
 | _,_,_,_,.nil,e=>by simp at e
 | _,_,0,_,.cons r _,e=>by simp at e;subst e;exact⟨_,rfl,r⟩
 | _,_,i+1,x,.cons _ t,e=>by
  obtain⟨u,h1,h2⟩:=bj.get (i:=i) (x:=x) t (by simpa using e);exact⟨u,by simpa using h1,h2⟩
theorem bj.set{x:V}{u:Value}(r:RelV x u):∀{xs:List V} {us:List Value} (i:Nat),bj xs us->bj (xs.set i x) (us.set i u)
 | _,_,_,.nil=>.nil
 | _,_,0,.cons _ t=>.cons r t
 | _,_,i+1,.cons q t=>.cons q (bj.set r i t)
theorem bj.append:∀{xs ys:List V} {us ws:List Value},bj xs us->bj ys ws->bj (xs++ys) (us++ws)
 | _,_,_,_,.nil,s=>s
 | _,_,_,_,.cons r t,s=>.cons r (bj.append t s)
theorem bj.take:∀{xs:List V} {us:List Value} (n:Nat),bj xs us->bj (xs.take n) (us.take n)
 | _,_,0,_=>.nil
 | _,_,_+1,.nil=>.nil
 | _,_,n+1,.cons r t=>.cons r (bj.take n t)
theorem bj.drop:∀{xs:List V} {us:List Value} (n:Nat),bj xs us->bj (xs.drop n) (us.drop n)
 | _,_,0,r=>r
 | _,_,_+1,.nil=>.nil
 | _,_,n+1,.cons _ t=>bj.drop n t
def pL:Option V->Option Value->Prop
 | some v,some u=>RelV v u
 | none,none=>True
 | _,_=>False
def KV{κ:Type}:List (κ×V)->List (κ×Value)->Prop:=Paired λ(p:κ×V) (q:κ×Value)=>p.1=q.1/\RelV p.2 q.2
def kV:Key->V
 | .inl i=>.int i
 | .inr x=>.str x
inductive HO where
  | lst (xs:List V)
  | tup (xs:List V)
  | dK (kvs:List (Key×V)) | dT (kvs:List (List Key×V))
  | set (S:Int->Bool) (n:Nat)
  | ins (C dx:Addr) (fs:List (Str×V))
  | own (x:Addr)
  | xd (fs:List (Str×V))
  | met (f x:Addr)
  | rng (lo hi:Int)
  | frz (o:Obj) (u:HO)
  | tbl (ps:Array Value)
  | ext (φ:Heap->Prop)
abbrev Hp:=Addr->Option HO
def upd(H:Hp)(a:Addr)(o:HO):Hp:=λb=>if b=a then some o else H b
theorem aG{H:Hp}{a:Addr}{o:HO}:upd H a o a=some o:=by unfold upd;rw[LM rfl]
theorem aX{H:Hp}{a b:Addr}{o:HO}(h:b≠a):upd H a o b=H b:=by unfold upd;rw[LL h]
theorem wA{H:Hp}{a b:Addr}{o u:HO}(h:H a=some o)(h':H b=some u)(d:o≠u):a≠b:=by
 intro e;subst e;rw[h] at h';exact d (bT h')
theorem bK{H:Hp}{a b:Addr}{o:HO}(h:H a=some o)(h':H b=none):a≠b:=by
 intro e;subst e;rw[h] at h';cases h'
section
variable (P:Program) (w:World)
def dI (H : Hp) (h : Heap) (a : Addr) : HO → Prop
 | .lst xs => xs.length ≤ sizeLine ∧ ∃ (its : List Value) (n : Nat), bj xs its ∧ h.get? a = some { cls := .type "list", data := .seq its.toArray n }
 | .tup xs => xs.length ≤ sizeLine ∧ ∃ its : List Value, bj xs its ∧ IsTup h a its.toArray
 | .dK kvs => kvs.length ≤ sizeLine ∧ (a == sysModules) = false ∧ ∃ vs, KV kvs vs ∧ h.DictOf (eC P w) a vs
 | .dT kvs => kvs.length ≤ sizeLine ∧ (a == sysModules) = false ∧ ∃ xs : List (List Key × Addr × Value),
   Paired (fun (p : List Key × V) (q : List Key × Addr × Value) => p.1 = q.1 ∧ H q.2.1 = some (.tup (p.1.map kV)) ∧ RelV p.2 q.2.2) kvs xs ∧
   ∃ o es ep, h.get? a = some o ∧ o.ExactDict ∧ o.data = .dict es ep ∧ es.toList = xs.map (entryOfKey (tupleKind (eC P w))) ∧ (xs.map (·.1)).Nodup
 | .set S n => h.SetOf (intKind P w) a S n
 | .ins C dx fs => H dx = some (.own a) ∧ fs.length ≤ 1000 ∧ dx ≠ a ∧ h.get? a = some (PySem.W.instObj C dx) ∧
   ∃ mA, h.Ns1 dx mA ∧ (∀ f, pL (fs.lookup f) (mA f)) ∧ PySem.Within mA (fs.map (·.1))
 | .own _ => ∃ o, h.get? a = some o
 | .xd fs => ∃ mA, h.Ns1 a mA ∧ ∀ f, pL (fs.lookup f) (mA f)
 | .rng lo hi => ∃ t u v, h.get? a = some { cls := .type "range", data := .fields #[.int lo t, .int hi u, .int 1 v] }
 | .frz o u => h.get? a = some o ∧ dI H h a u
 | .tbl ps => h.get? a = some { cls := .none, data := .fields ps }
 | .met f x => h.get? a = some (PySem.W.methodObj (.ref f) (.ref x))
 | .ext φ => φ h ∧ (∃ o, h.get? a = some o) ∧ ∀ h1 h2 : Heap, φ h1 → (∀ o, h1.get? a = some o → h2.get? a = some o) → φ h2
def mO(H:Hp)(h:Heap):Prop:=∀a o,H a=some o->dI P w H h a o
end
section
variable {P:Program} {w:World} {H H':Hp} {h h':Heap} {a:Addr} {o:HO}
theorem dI.lt(x:dI P w H h a o):a<h.objs.size:=by
 cases o with
 | lst xs=>obtain⟨_,_,_,_,e⟩:=x;exact aN e
 | tup xs=>obtain⟨_,_,_,p⟩:=x;exact p.lt
 | dK kvs=>obtain⟨_,_,_,_,o,_,_,e,_⟩:=x;exact aN e
 | dT kvs=>obtain⟨_,_,_,_,o,_,_,e,_⟩:=x;exact aN e
 | set S n=>obtain⟨o,_,_,_,e,_⟩:=x;exact aN e
 | ins C dx fs=>obtain⟨_,_,_,e,_⟩:=x;exact aN e
 | own y=>obtain⟨_,e⟩:=x;exact aN e
 | xd fs=>obtain⟨_,⟨_,_,_,e,_⟩,_⟩:=x;exact aN e
 | rng lo hi=>obtain⟨_,_,_,e⟩:=x;exact aN e
 | frz ob u=>obtain⟨e,_⟩:=x;exact aN e
 | tbl ps=>exact aN (show h.get? a=some _ from x)
 | met f y=>exact aN (show h.get? a=some _ from x)
 | ext φ=>obtain⟨_,⟨_,e⟩,_⟩:=x;exact aN e
theorem Paired.mapP{α β:Type}{F G:α->β->Prop}:∀{l₁:List α} {l₂:List β},Paired F l₁ l₂->(∀a b,F a b->G a b)->Paired G l₁ l₂
 | _,_,.nil,_=>.nil
 | _,_,.cons r t,f=>.cons (f _ _ r) (Paired.mapP t f)
theorem dI.stay(x:dI P w H h a o)(k:∀b u,(b=a\/H b=some (.own a))->h.get? b=some u->h'.get? b=some u)
  (ho:∀b,H b=some (.own a)->H' b=some (.own a)) (ht:∀b xs,H b=some (.tup xs)->H' b=some (.tup xs)):dI P w H' h' a o:=by
 induction o with
 | lst xs=>obtain⟨z,its,n,r,e⟩:=x;exact⟨z,its,n,r,k _ _ (.inl rfl) e⟩
 | tup xs=>obtain⟨z,its,r,ob,e,c⟩:=x;exact⟨z,its,r,ob,k _ _ (.inl rfl) e,c⟩
 | dK kvs=>obtain⟨z,y,vs,r,ob,es,ep,e,c⟩:=x;exact⟨z,y,vs,r,ob,es,ep,k _ _ (.inl rfl) e,c⟩
 | dT kvs=>
  obtain⟨z,y,xs,r,ob,es,ep,e,c⟩:=x;exact⟨z,y,xs,Paired.mapP r λp q z=>⟨z.1,ht _ _ z.2.1,z.2.2⟩,ob,es,ep,k _ _ (.inl rfl) e,c⟩
 | set S n=>obtain⟨ob,es,ep,t,e,c⟩:=x;exact⟨ob,es,ep,t,k _ _ (.inl rfl) e,c⟩
 | ins C dx fs=>
  obtain⟨d,z,ne,e,mA,⟨od,es,ep,e2,c⟩,r⟩:=x;exact⟨ho _ d,z,ne,k _ _ (.inl rfl) e,mA,⟨od,es,ep,k _ _ (.inr d) e2,c⟩,r⟩
 | own y=>obtain⟨ob,e⟩:=x;exact⟨ob,k _ _ (.inl rfl) e⟩
 | xd fs=>obtain⟨mA,⟨od,es,ep,e,c⟩,r⟩:=x;exact⟨mA,⟨od,es,ep,k _ _ (.inl rfl) e,c⟩,r⟩
 | rng lo hi=>obtain⟨t,u,v,e⟩:=x;exact⟨t,u,v,k _ _ (.inl rfl) e⟩
 | frz ob u ih=>obtain⟨e,q⟩:=x;exact⟨k _ _ (.inl rfl) e,ih q⟩
 | tbl ps=>
  have e:h.get? a=some { cls:=.none,data:=.fields ps }:=x;show h'.get? a=some { cls:=.none,data:=.fields ps };exact k a _ (.inl rfl) e
 | met f y=>
  have e:h.get? a=some (PySem.W.methodObj (.ref f) (.ref y)):=x;show h'.get? a=some (PySem.W.methodObj (.ref f) (.ref y));exact k a _ (.inl rfl) e
 | ext φ=>obtain⟨p,⟨o,e⟩,st⟩:=x;exact⟨st _ _ p λo q=>k _ _ (.inl rfl) q,⟨o,k _ _ (.inl rfl) e⟩,st⟩
theorem mO.lt(x:mO P w H h)(e:H a=some o):a<h.objs.size:=(x a o e).lt
theorem mO.fresh(x:mO P w H h)(e:h.objs.size<=a):H a=none:=by
 cases q:H a with
 | none=>rfl
 | some u=>exact absurd (a7 (x.lt q) e) (ci _)
theorem mO.kept(x:mO P w H h)(k:∀b u,h.get? b=some u->h'.get? b=some u):mO P w H h':=λa o e=>
 (x a o e).stay (λb u _ q=>k b u q) (λ_ q=>q) λ_ _ q=>q
theorem mO.laid(x:mO P w H h)(k:∀b u,h.get? b=some u->h'.get? b=some u)(hp:h.objs.size<=a)(new:dI P w (upd H a o) h' a o):mO P w (upd H a o) h':=λb u e=>by
 have hn:=x.fresh hp;by_cases hb:b=a
 ·subst hb;rw[aG] at e;cases e;exact new
 ·rw[aX hb] at e;exact(x b u e).stay (λc v _ q=>k c v q) (λc q=>by rw[aX (bK q hn)];exact q) λc xs q=>by rw[aX (bK q hn)];exact q
end
def Rd(H:Hp)(a:Addr)(u:HO):Prop:=H a=some u\/∃o,H a=some (.frz o u)
theorem Rd.ok{P:Program}{w:World}{H:Hp}{h:Heap}{a:Addr}{u:HO}(r:Rd H a u)(x:mO P w H h):dI P w H h a u:=by
 rcases r with r | ⟨o,r⟩
 ·exact x a u r
 ·obtain⟨_,q⟩:=x a _ r;exact q
def Gb:Option HO->Prop
 | some (.lst _)=>True
 | some (.dK _)=>True
 | some (.dT _)=>True
 | some (.set _ _)=>True
 | some (.ins _ _ _)=>True
 | some (.ext _)=>True
 | _=>False
section
variable {P:Program} {w:World} {H:Hp} {h h':Heap} {x e:Addr} {o':HO}
theorem mO.write(ok:mO P w H h)(mu:Gb (H x))(he:e=x\/H e=some (.own x))(k:∀b u,b≠e->h.get? b=some u->h'.get? b=some u)(heo:∃u,h'.get? e=some u)
  (new:dI P w (upd H x o') h' x o'):mO P w (upd H x o') h':=λb u q=>by
 have nown:∀c y,H c=some (.own y)->c≠x:=λc y r z=>by subst z;rw[r] at mu;exact mu
 have ntup:∀c xs,H c=some (.tup xs)->c≠x:=λc xs r z=>by subst z;rw[r] at mu;exact mu
 by_cases hb:b=x
 ·subst hb;rw[aG] at q;cases q;exact new
 ·rw[aX hb] at q;by_cases hbe:b=e
  ·have q':H b=some (.own x):=by
    rcases he with z | z
    ·exact absurd (hbe.trans z) hb
    ·rw[hbe];exact z
   rw[q] at q';cases q';obtain⟨v,hv⟩:=heo;exact⟨v,by rw[hbe];exact hv⟩
  ·refine(ok b u q).stay (λc v hc r=>k c v ?_ r) (λc r=>by rw[aX (nown c b r)];exact r) λc xs r=>by rw[aX (ntup c xs r)];exact r
   rcases hc with rfl | hc
   ·exact hbe
   ·rintro rfl;rcases he with z | z
    ·exact nown c b hc z
    ·rw[hc] at z;cases z;exact hb rfl
end
structure Un (fs ex:List Addr) (H H':Hp) (h h':Heap):Prop where
 keep:∀ b o,h.get? b=some o->H b=none->b∉fs->b∉ex->h'.get? b=some o
 slot:∀ b o,h.get? b=some o->H b=none->b∈fs->b∉ex->∃ sl,h'.get? b=some { o with slots:=sl }
 free:∀ b o,h.get? b=some o->H b=none->b∉ex->H' b=none
 there:∀ b o,h.get? b=some o->b∉ex->∃ o',h'.get? b=some o'
 tups:∀ b xs,H b=some (.tup xs)->H' b=some (.tup xs)
 frzs:∀ b o u,H b=some (.frz o u)->H' b=some (.frz o u)
 tbls:∀ b ps,H b=some (.tbl ps)->∃ more,H' b=some (.tbl (ps++more))
section
variable {fs ex:List Addr} {H H1:Hp} {h h1 h':Heap} {a x e:Addr} {o:HO}
theorem Un.any(u:Un fs ex H H1 h h1){b:Addr}{ob:Obj}(q:h.get? b=some ob)(n:H b=none)(hx:b∉ex):∃sl,h1.get? b=some { ob with slots:=sl }:=by
 by_cases hb:b∈fs
 ·exact u.slot b ob q n hb hx
 ·exact⟨ob.slots,u.keep b ob q n hb hx⟩
theorem Un.kept(k:∀b u,h.get? b=some u->h'.get? b=some u):Un fs ex H H h h':=
 ⟨λb ob q _ _ _=>k b ob q,λb ob q _ _ _=>⟨ob.slots,k b ob q⟩,λ_ _ _ n _=>n,λb ob q _=>⟨ob,k b ob q⟩,λ_ _ q=>q,λ_ _ _ q=>q,λ_ ps q=>⟨#[],by rw[q];simp⟩⟩
theorem Un.refl:Un fs ex H H h h:=Un.kept λ_ _ q=>q
theorem Un.laid(k:∀b u,h.get? b=some u->h'.get? b=some u)(hp:h.objs.size<=a)(hn:H a=none):Un fs ex H (upd H a o) h h' where
 keep:=λb u q _ _ _=>k b u q
 slot:=λb u q _ _ _=>⟨u.slots,k b u q⟩
 free:=λb u q n _=>by rw[aX (a9 (a7 (aN q) hp))];exact n
 there:=λb u q _=>⟨u,k b u q⟩
 tups:=λb xs q=>by rw[aX (bK q hn)];exact q
 frzs:=λb u xs q=>by rw[aX (bK q hn)];exact q
 tbls:=λb ps q=>⟨#[],by rw[aX (bK q hn),q];simp⟩
theorem Un.write(mu:Gb (H x))(he:e=x\/H e=some (.own x))(k:∀b u,b≠e->h.get? b=some u->h'.get? b=some u)(heo:∃u,h'.get? e=some u):Un fs ex H (upd H x o) h h':=by
 have hx:∀b,H b=none->b≠x:=λb n z=>by subst z;rw[n] at mu;exact mu
 have hb:∀b,H b=none->b≠e:=λb n z=>by
  subst z;rcases he with r | r
  ·exact hx b n r
  ·rw[n] at r;cases r
 have hm:∀b u,H b=some u->¬Gb (some u)->b≠x:=λb u q nm z=>by subst z;rw[q] at mu;exact nm mu
 refine⟨λb u q n _ _=>k b u (hb b n) q,λb u q n _ _=>⟨u.slots,k b u (hb b n) q⟩,λb u q n _=>by rw[aX (hx b n)];exact n,λb u q _=>?_,
  λb xs q=>by rw[aX (hm b _ q λz=>z)];exact q,λb u xs q=>by rw[aX (hm b _ q λz=>z)];exact q,λb ps q=>⟨#[],by rw[aX (hm b _ q λz=>z),q];simp⟩⟩
 by_cases hbe:b=e
 ·subst hbe;exact heo
 ·exact⟨u,k b u hbe q⟩
end
def Gs(h:Heap)(H:Hp):List Addr:=(List.range h.objs.size).filter λa=>(H a).isSome
def rE(h:Heap)(H:Hp):Heap:=PySem.W.hideAll h (Gs h H)
theorem xi(h:Heap)(H:Hp):(rE h H).objs.size=h.objs.size:=PySem.W.hideAll_size _ _
theorem A7{h:Heap}{H:Hp}{b:Addr}{o:Obj}(e:h.get? b=some o)(n:H b=none):(rE h H).get? b=some o:=
 PySem.W.hideAll_get _ e λhm=>by
  have q:(H b).isSome=true:=(fA.mp hm).2;rw[n] at q;simp at q
theorem Bl{h:Heap}{H:Hp}{b:Addr}{o:Obj}(e:(rE h H).get? b=some o):h.get? b=some o/\H b=none:=by
 have e':h.get? b=some o:=PySem.W.of_hideAll (Gs h H) e;refine⟨e',?_⟩;cases q:H b with
 | none=>rfl
 | some x=>
  have hm:b∈Gs h H:=fA.mpr ⟨cj.mpr (aN e'),by simp[q]⟩;have z:(rE h H).get? b=none:=PySem.W.hideAll_none (Gs h H) hm;rw[z] at e;cases e
def CO(g h:Heap)(L:Addr):List (Addr×Obj):=(List.range h.objs.size).filterMap λa=>if a=L\/(g.get? a).isSome=true then none else (h.get? a).map λo=>(a,o)
def rest(g h:Heap)(L d:Addr):List (Addr×Obj):=(CO g h L).filter λp=>decide (p.1≠d)
structure Mod (K:LU) (mg:Str->Option Value) (base:Heap):Prop where
 kin:K.In base
 glob:base.Ns mainGlobals mg
 blt:∃ mb,base.Ns builtinsNs mb/\∀ x:Str,x≠"__name__"->mb x=bootBuiltins x
 nolimit:base.NoLimit
structure Cx where
 prog:Program
 w:World
 K:LU
 mg:Str->Option Value
 base:Heap
 A:Around
 N:List Str
 s₀:Shared
 H₀:Hp
 env:Env
 outer:List Env
 stack:List Env
 ex:List Addr
 fn:Str->Bool
 calm:Bool
 pn:List (Addr×Obj)
 xe:Value->Shared->Prop
def uz(l:List Env):List Addr:=l.filterMap (·.frame)
abbrev Cx.fs (X:Cx):List Addr:=uz X.outer
def Ey(sc:Scope)(x:Str):Prop:=sc.names.lookup x=some .local\/sc.names.lookup x=some .cell\/sc.names.lookup x=some .free
def Loc(sc:Scope)(x:Str):Prop:=sc.names.lookup x=some .local\/sc.names.lookup x=some .cell
def Look(env:Env)(h:Heap)(m:Str->Option Value)(x:Str)(u:Value):Prop:=
 (env.kindOf x=some .local/\m x=some u)\/((env.kindOf x=some .cell\/env.kindOf x=some .free)/\∃c,env.cells.lookup x=some c/\h.IsCell c (some u))
structure Cx.Ok (X:Cx):Prop where
 mod:Mod X.K X.mg X.base
 kind:X.env.scope.kind=.function
 glob:X.env.globals=mainGlobals
 blt:X.env.builtins=builtinsNs
 above:X.s₀.heap.objs.size<=X.env.locals
 inj:∀ x y c,X.env.cells.lookup x=some c->X.env.cells.lookup y=some c->x=y
 has:∀ x,(X.env.kindOf x=some .cell\/X.env.kindOf x=some .free)->∃ c,X.env.cells.lookup x=some c
 cab:∀ x c,X.fn x=true->X.env.cells.lookup x=some c->X.s₀.heap.objs.size<=c
 hd:X.calm=true->X.A.handled=none
 frames:X.A.frames=some X.stack
 stk:X.stack=X.outer\/(X.stack=X.env::X.outer/\X.env.frame=some X.env.locals)
 exf:∀ b∈X.ex,b≠X.env.locals/\∀ x c,X.env.cells.lookup x=some c->c≠b
 bs:∀ b o,X.base.get? b=some o->X.s₀.heap.get? b=some o/\X.H₀ b=none
 bsz:X.base.objs.size<=X.s₀.heap.objs.size
 noex:∀ b o,X.base.get? b=some o->b∉X.ex
 exfs:∀ b∈X.ex,b∉X.fs
 funs:X.s₀.heap.FunFrames X.base X.outer
 frf:∀ b∈X.fs,X.H₀ b=none
structure bW (X:Cx) (pins:List (Addr×Obj)) (σ:List (Option V)) (H:Hp) (s:Shared):Prop where
 ok:X.Ok
 os:s.os=X.s₀.os
 bare:AllBare s.gens
 base:Un X.fs X.ex X.H₀ H X.s₀.heap s.heap
 loc:∃ m,s.heap.Ns X.env.locals m/\∀ (i:Nat) (x:Str) (v:V),X.N[i]? = some x->σ[i]? = some (some v)->Ey X.env.scope x->∃ u,RelV v u/\Look X.env s.heap m x u
 cell:∀ x c,X.env.cells.lookup x=some c->∃ v,s.heap.IsCell c v
 free:H X.env.locals=none
 freeC:∀ x c,X.env.cells.lookup x=some c->H c=none
 pin:∀ p∈X.pn++pins,s.heap.get? p.1=some p.2/\H p.1=none/\p.1≠X.env.locals/\p.1∉X.fs/\∀ v,p.2.data≠.cell v
 hok:mO X.prog X.w H s.heap
 len:σ.length=X.N.length
section
variable {X:Cx} {pins:List (Addr×Obj)} {σ:List (Option V)} {H H':Hp} {s:Shared} {h':Heap}
theorem Cx.Ok.nofr(ok:X.Ok){b:Addr}{o:Obj}(e:X.base.get? b=some o):b∉X.fs:=λhb=>by
 have:=(ok.funs.mem hb).1;rw[e] at this;cases this
theorem bW.bs(I:bW X pins σ H s):∀b o,X.base.get? b=some o->s.heap.get? b=some o/\H b=none:=λb o e=>
 ⟨I.base.keep b o (I.ok.bs b o e).1 (I.ok.bs b o e).2 (I.ok.nofr e) (I.ok.noex b o e),I.base.free b o (I.ok.bs b o e).1 (I.ok.bs b o e).2 (I.ok.noex b o e)⟩
theorem bW.bk(I:bW X pins σ H s):∀b o,X.base.get? b=some o->s.heap.get? b=some o:=λb o e=>(I.bs b o e).1
theorem bW.mod(I:bW X pins σ H s):Mod X.K X.mg X.base:=I.ok.mod
theorem bW.kIn(I:bW X pins σ H s):X.K.In s.heap:=I.ok.mod.kin.keeps I.bk
theorem bW.lt(I:bW X pins σ H s):X.env.locals<s.heap.objs.size:=let ⟨_,hn,_⟩:=I.loc;hn.lt
theorem bW.sz(I:bW X pins σ H s):X.s₀.heap.objs.size<=s.heap.objs.size:=bJ I.ok.above (cN I.lt)
theorem bW.nofs(I:bW X pins σ H s){a:Addr}(h:s.heap.objs.size<=a):a∉X.fs:=λhb=>by
 obtain⟨_,o,ho,_⟩:=I.ok.funs.mem hb;exact absurd (a7 (aN ho) (bJ I.sz h)) (ci _)
theorem bW.cne(I:bW X pins σ H s):∀x c,X.env.cells.lookup x=some c->c≠X.env.locals:=λx c e z=>by
 obtain⟨v,o,ho,hd⟩:=I.cell x c e;obtain⟨m,⟨o',es,ep,ho',hd',_⟩,_⟩:=I.loc;rw[z,ho'] at ho;cases ho;rw[hd'] at hd;cases hd
theorem bW.funs(I:bW X pins σ H s):s.heap.FunFrames X.base X.outer:=by
 have all:∀(l:List Env),(∀b∈uz l,b∈X.fs)->X.s₀.heap.FunFrames X.base l->s.heap.FunFrames X.base l:=by
  intro l
  induction l with
  | nil=>intro _ _;trivial
  | cons env r ih=>
   intro hs hl;obtain⟨hk,⟨L,o,hf,hn,ho,hd⟩,hr⟩:=hl;have hL:L∈X.fs:=hs L (by unfold uz;rw[iQ,hf];exact am);obtain⟨sl,e⟩:=I.base.slot L o ho (I.ok.frf L hL) hL λz=>I.ok.exfs L z hL;exact⟨hk,⟨L,_,hf,hn,e,hd⟩,ih (λb hb=>hs b (by unfold uz;rw[iQ,hf];exact aD _ hb)) hr⟩
 exact all X.outer (λ_ hb=>hb) I.ok.funs
theorem bW.stack(I:bW X pins σ H s):s.heap.FunFrames X.base X.stack:=by
 rcases I.ok.stk with e | ⟨e,hf⟩
 ·rw[e];exact I.funs
 ·rw[e];obtain⟨m,hn,_⟩:=I.loc;refine .cons (by rw[I.ok.kind];decide) hf hn ?_ I.funs;exact Heap.get?_none_of_le (bJ I.ok.bsz I.ok.above)
theorem bW.stkSub(I:bW X pins σ H s):∀b∈uz X.stack,b∈X.env.locals::X.fs:=λb hb=>by
 rcases I.ok.stk with e | ⟨e,hf⟩
 ·rw[e] at hb;exact aD _ hb
 ·rw[e] at hb;unfold uz at hb;rw[iQ,hf] at hb;exact hb
theorem bW.stkFree(I:bW X pins σ H s):∀b∈uz X.stack,H b=none:=λb hb=>by
 rcases aF.mp (I.stkSub b hb) with e | hb
 ·rw[e];exact I.free
 ·obtain⟨_,o,ho,_⟩:=I.ok.funs.mem hb;exact I.base.free b o ho (I.ok.frf b hb) λz=>I.ok.exfs b z hb
theorem bW.step{g':Array GenState}{t':Nat}{d':Drawn}{ch:List Addr}(I:bW X pins σ H s)
  (hch:∀b∈ch,(b∈X.ex\/X.s₀.heap.objs.size<=b)/\b≠X.env.locals/\(∀x c,X.env.cells.lookup x=some c->c≠b)/\∀p∈X.pn++pins,p.1≠b)
  (keep:∀b o,b≠X.env.locals->b∉X.fs->b∉ch->s.heap.get? b=some o->H b=none->h'.get? b=some o)
  (slot:∀b o,b≠X.env.locals->b∈X.fs->b∉ch->s.heap.get? b=some o->H b=none->∃sl,h'.get? b=some { o with slots:=sl }) (free:∀b o,b∉ch->s.heap.get? b=some o->H b=none->H' b=none)
  (there:∀b o,b∉ch->s.heap.get? b=some o->∃o',h'.get? b=some o')
  (tups:∀b xs,H b=some (.tup xs)->H' b=some (.tup xs)) (frzs:∀b o u,H b=some (.frz o u)->H' b=some (.frz o u)) (tbls:∀b ps,H b=some (.tbl ps)->∃more,H' b=some (.tbl (ps++more)))
  (ns:∀m,s.heap.Ns X.env.locals m->h'.Ns X.env.locals m) (hok:mO X.prog X.w H' h') (hg:AllBare g') :
  bW X pins σ H' { s with heap:=h',gens:=g',drawn:=d',toks:=t' }:=by
 have neL:∀b o,X.s₀.heap.get? b=some o->b≠X.env.locals:=λb o e=>a9 (a7 (aN e) I.ok.above);have neC:∀b o,X.s₀.heap.get? b=some o->b∉X.ex->b∉ch:=λb o e hx hb=>by
  rcases(hch b hb).1 with z | z
  ·exact hx z
  ·exact absurd (a7 (aN e) z) (ci _)
 have cellK:∀x c,X.env.cells.lookup x=some c->∀v,s.heap.IsCell c v->h'.IsCell c v:=λx c e v ⟨o,ho,hd⟩=>by
  have nch:c∉ch:=λz=>(hch c z).2.2.1 x c e rfl;by_cases hc:c∈X.fs
  ·obtain⟨sl,q⟩:=slot c o (I.cne x c e) hc nch ho (I.freeC x c e);exact⟨_,q,hd⟩
  ·exact⟨o,keep c o (I.cne x c e) hc nch ho (I.freeC x c e),hd⟩
 refine⟨I.ok,I.os,hg,⟨λb o e n hb hx=>?_,λb o e n hb hx=>?_,λb o e n hx=>?_,λb o e hx=>?_,λb xs e=>tups b xs (I.base.tups b xs e),λb o xs e=>frzs b o xs (I.base.frzs b o xs e),λb ps e=>?_⟩,?_,λx c e=>?_,?_,λx c e=>?_,λp hp=>?_,hok,I.len⟩
 ·exact keep b o (neL b o e) hb (neC b o e hx) (I.base.keep b o e n hb hx) (I.base.free b o e n hx)
 ·obtain⟨sl,e1⟩:=I.base.slot b o e n hb hx;obtain⟨sl',e2⟩:=slot b _ (neL b o e) hb (neC b o e hx) e1 (I.base.free b o e n hx);exact⟨sl',e2⟩
 ·obtain⟨o',e1⟩:=I.base.there b o e hx;exact free b o' (neC b o e hx) e1 (I.base.free b o e n hx)
 ·obtain⟨o',e1⟩:=I.base.there b o e hx;exact there b o' (neC b o e hx) e1
 ·obtain⟨m1,e1⟩:=I.base.tbls b ps e;obtain⟨m2,e2⟩:=tbls b _ e1;exact⟨m1++m2,by rw[e2,Array.append_assoc]⟩
 ·obtain⟨m,hn,hl⟩:=I.loc;refine⟨m,ns m hn,λi x v e1 e2 e3=>?_⟩;obtain⟨u,r,l⟩:=hl i x v e1 e2 e3;refine⟨u,r,?_⟩;rcases l with l | ⟨k,c,e,z⟩
  ·exact .inl l
  ·exact .inr ⟨k,c,e,cellK x c e _ z⟩
 ·obtain⟨v,z⟩:=I.cell x c e;exact⟨v,cellK x c e v z⟩
 ·obtain⟨m,⟨o,_,_,ho,_⟩,_⟩:=I.loc;exact free _ o (λz=>(hch _ z).2.1 rfl) ho I.free
 ·obtain⟨v,o,ho,hd⟩:=I.cell x c e;exact free c o (λz=>(hch c z).2.2.1 x c e rfl) ho (I.freeC x c e)
 ·obtain⟨e,n,ne,nf,d⟩:=I.pin p hp;have nch:p.1∉ch:=λz=>(hch p.1 z).2.2.2 p hp rfl;exact⟨keep p.1 p.2 ne nf nch e n,free p.1 p.2 nch e n,ne,nf,d⟩
theorem bW.un{t':Nat}(I:bW X pins σ H s)(u:Un X.fs [] H H' s.heap h')(hok:mO X.prog X.w H' h'):bW X pins σ H' { s with heap:=h',toks:=t' }:=by
 obtain⟨m,⟨o,es,ep,ho,r⟩,_⟩:=id I.loc;obtain⟨sl,hL⟩:=u.any ho I.free (by simp);exact I.step (g':=s.gens) (d':=s.drawn) (ch:=[]) (λ_ z=>nomatch z) (λb o _ hb _ e n=>u.keep b o e n hb (by simp)) (λb o _ hb _ e n=>u.slot b o e n hb (by simp)) (λb o _ e n=>u.free b o e n (by simp)) (λb o _ e=>u.there b o e (by simp)) u.tups u.frzs u.tbls (λm' hm=>by
  obtain⟨o',es',ep',ho',r'⟩:=hm;rw[ho] at ho';cases ho';exact⟨_,es',ep',hL,r'⟩) hok I.bare
theorem bW.call{g':Array GenState}{t':Nat}{d':Drawn}{ch:List Addr}(I:bW X pins σ H s)(u:Un (uz X.stack) ch H H' s.heap h')(hok:mO X.prog X.w H' h')(hg:AllBare g')
  (hch:∀b∈ch,(b∈X.ex\/X.s₀.heap.objs.size<=b)/\b≠X.env.locals/\(∀x c,X.env.cells.lookup x=some c->c≠b)/\∀p∈X.pn++pins,p.1≠b) :
  bW X pins σ H' { s with heap:=h',gens:=g',drawn:=d',toks:=t' }:=by
 obtain⟨m,⟨o,es,ep,ho,r⟩,_⟩:=id I.loc;obtain⟨sl,hL⟩:=u.any ho I.free λz=>(hch _ z).2.1 rfl;exact I.step (ch:=ch) hch (λb o hL hb hc e n=>u.keep b o e n (λz=>(aF.mp (I.stkSub b z)).elim hL hb) hc) (λb o _ _ hc e n=>u.any e n hc) (λb o hc e n=>u.free b o e n hc) (λb o hc e=>u.there b o e hc) u.tups u.frzs u.tbls (λm' hm=>by
  obtain⟨o',es',ep',ho',r'⟩:=hm;rw[ho] at ho';cases ho';exact⟨_,es',ep',hL,r'⟩) hok hg
theorem bW.turned{t':Nat}{it:Addr}(I:bW X pins σ H s)(k:∀b o,b≠it->s.heap.get? b=some o->h'.get? b=some o)(hn:H it=none)(hL:it≠X.env.locals)
  (h1:it∈X.ex\/X.s₀.heap.objs.size<=it) (h2:∀x c,X.env.cells.lookup x=some c->c≠it) (h3:∀p∈X.pn++pins,p.1≠it):bW X pins σ H { s with heap:=h',toks:=t' }:=by
 have nit:∀b u,H b=some u->b≠it:=λb u e z=>by rw[z,hn] at e;cases e
 refine I.step (g':=s.gens) (d':=s.drawn) (ch:=[it]) (λb hb=>?_) (λb o _ _ hc e _=>k b o (λz=>hc (by simp[z])) e) (λb o _ _ hc e _=>⟨o.slots,k b o (λz=>hc (by simp[z])) e⟩) (λ_ _ _ _ n=>n)
  (λb o hc e=>⟨o,k b o (λz=>hc (by simp[z])) e⟩) (λ_ _ e=>e) (λ_ _ _ e=>e) (λb ps e=>⟨#[],by rw[e];simp⟩) (λm hm=>?_) (λb u e=>?_) I.bare
 ·have e:b=it:=by simpa using hb
  subst e;exact⟨h1,hL,h2,h3⟩
 ·obtain⟨o,es,ep,ho,r⟩:=hm;exact⟨o,es,ep,k _ o (cH hL) ho,r⟩
 ·refine(I.hok b u e).stay (λc v hc q=>k c v ?_ q) (λ_ q=>q) λ_ _ q=>q;rcases hc with z | z
  ·rw[z];exact nit b u e
  ·exact nit c _ z
theorem bW.tok(I:bW X pins σ H s)(t:Nat):bW X pins σ H { s with toks:=t }:=I.un (h':=s.heap) (t':=t) Un.refl I.hok
theorem bW.kept{t':Nat}(I:bW X pins σ H s)(k:∀b u,s.heap.get? b=some u->h'.get? b=some u):bW X pins σ H { s with heap:=h',toks:=t' }:=I.un (Un.kept k) (I.hok.kept k)
theorem bW.laid{a:Addr}{o:HO}{t':Nat}(I:bW X pins σ H s)(k:∀b u,s.heap.get? b=some u->h'.get? b=some u)(hp:s.heap.objs.size<=a)(new:dI X.prog X.w (upd H a o) h' a o):
  bW X pins σ (upd H a o) { s with heap:=h',toks:=t' }:=I.un (Un.laid k hp (I.hok.fresh hp)) (I.hok.laid k hp new)
theorem bW.write{x e:Addr}{o:HO}{t':Nat}(I:bW X pins σ H s)(mu:Gb (H x))(he:e=x\/H e=some (.own x))(k:∀b u,b≠e->s.heap.get? b=some u->h'.get? b=some u)(heo:∃u,h'.get? e=some u)
  (new:dI X.prog X.w (upd H x o) h' x o):bW X pins σ (upd H x o) { s with heap:=h',toks:=t' }:=I.un (Un.write mu he k heo) (I.hok.write mu he k heo new)
theorem bW.pins_of{pins':List (Addr×Obj)}(I:bW X pins σ H s)(h:∀p∈pins',s.heap.get? p.1=some p.2/\H p.1=none/\p.1≠X.env.locals/\p.1∉X.fs/\∀v,p.2.data≠.cell v):bW X pins' σ H s:=
 ⟨I.ok,I.os,I.bare,I.base,I.loc,I.cell,I.free,I.freeC,λp hp=>(aE.mp hp).elim (λz=>I.pin p (ae _ z)) (h p),I.hok,I.len⟩
theorem tJ{N:List Str}(hN:N.Nodup){i j:Nat}{x:Str}(a:N[i]? = some x)(b:N[j]? = some x):i=j:=by
 obtain⟨h1,e1⟩:=aI.mp a;obtain⟨h2,e2⟩:=aI.mp b;exact(List.getElem_inj hN).mp (e1.trans e2.symm)
theorem pz{M:Model}{A:Around}{E:Value->Shared->Prop}{i:Nat}{x:Str}{v:V}{u:Value}{Q:Unit->Shared->Prop}(I:bW X pins σ H s)(hN:X.N.Nodup)(hi:X.N[i]? = some x)(hx:Loc X.env.scope x)(r:RelV v u)
  (h:∀s',bW X pins (σ.set i (some v)) H s'->(∃a,Heap.SameBut a s.heap s'.heap/\(a=X.env.locals\/X.env.cells.lookup x=some a))->Q () s') (hf:X.fn x=true\/X.env.scope.names.lookup x=some .local:=by first | exact .inl rfl | exact .inr rfl | assumption):wpAny M A (storeName X.env x u) Q E s:=by
 obtain⟨m,hn,hl⟩:=id I.loc;have hcls:(X.env.scope.kind==.class || (X.env.scope.kind==.module&&X.env.locals != X.env.globals))=false:=by rw[I.ok.kind];rfl
 have hiσ:i<σ.length:=by rw[I.len];exact(aI.mp hi).1
 have cne:=I.cne;have tracked:∀{a:Addr} {h':Heap},(∃o,s.heap.get? a=some o/\H a=none)->Heap.SameBut a s.heap h'->mO X.prog X.w H h':=fun {a h'} ha hs b ob e=>by
  obtain⟨_,_,hfree⟩:=ha;refine(I.hok b ob e).stay (λc w' hc q=>(hs.2 c ?_).trans q) (λ_ q=>q) λ_ _ q=>q;rintro rfl;rcases hc with rfl | hc
  ·rw[hfree] at e;cases e
  ·rw[hfree] at hc;cases hc
 rcases hx with hk | hk
 ·refine wpAny_storeName_local hk hn (λh' hn' hs=>?_) hcls;obtain⟨oL,_,_,hoL,_⟩:=id hn;refine h _ ⟨I.ok,I.os,I.bare,⟨λb o e n hb hx=>?_,λb o e n hb hx=>?_,I.base.free,λb o e hx=>?_,I.base.tups,I.base.frzs,I.base.tbls⟩,⟨_,hn',λj y v' e1 e2 e3=>?_⟩,λy c e=>?_,I.free,I.freeC,λp hp=>?_,tracked ⟨oL,hoL,I.free⟩ hs,by simpa using I.len⟩ ⟨_,hs,.inl rfl⟩
  ·exact(hs.2 b (a9 (a7 (aN e) I.ok.above))).trans (I.base.keep b o e n hb hx)
  ·obtain⟨sl,e1⟩:=I.base.slot b o e n hb hx;exact⟨sl,(hs.2 b (a9 (a7 (aN e) I.ok.above))).trans e1⟩
  ·obtain⟨o',e1⟩:=I.base.there b o e hx;exact⟨o',(hs.2 b (a9 (a7 (aN e) I.ok.above))).trans e1⟩
  ·by_cases hj:j=i
   ·subst hj;rw[hi] at e1;cases e1;rw[gK hiσ] at e2;cases e2;exact⟨u,r,.inl ⟨hk,by simp⟩⟩
   ·rw[List.getElem?_set_ne (cH hj)] at e2;obtain⟨u',r',q⟩:=hl j y v' e1 e2 e3;refine⟨u',r',?_⟩;rcases q with ⟨k,e⟩ | ⟨k,c,e,z⟩
    ·refine .inl ⟨k,?_⟩;have:y≠x:=λe=>hj (tJ hN e1 (e▸hi));simp[this,e]
    ·exact .inr ⟨k,c,e,z.sameBut hs (cne y c e)⟩
  ·obtain⟨w',z⟩:=I.cell y c e;exact⟨w',z.sameBut hs (cne y c e)⟩
  ·obtain⟨e,n,ne,nf,d⟩:=I.pin p hp;exact⟨(hs.2 p.1 ne).trans e,n,ne,nf,d⟩
 ·have hfn:X.fn x=true:=by
   rcases hf with z | z
   ·exact z
   ·rw[z] at hk;cases hk
  obtain⟨c,hc⟩:=I.ok.has x (.inl hk);obtain⟨w',z⟩:=I.cell x c hc;refine wpAny_storeName_cell I.ok.kind hk hc z (λh' hc' hs=>?_);obtain⟨oc,hoc,hocd⟩:=id z;refine h { s with heap:=h' } ⟨I.ok,I.os,I.bare,⟨λb o e n hb hx=>?_,λb o e n hb hx=>?_,I.base.free,λb o e hx=>?_,I.base.tups,I.base.frzs,I.base.tbls⟩,⟨m,hn.sameBut hs (cH (cne x c hc)),λj y v' e1 e2 e3=>?_⟩,λy c' e=>?_,I.free,I.freeC,λp hp=>?_,tracked ⟨oc,hoc,I.freeC x c hc⟩ hs,by simpa using I.len⟩ ⟨c,hs,.inr hc⟩
  ·exact(hs.2 b (a9 (a7 (aN e) (I.ok.cab x c hfn hc)))).trans (I.base.keep b o e n hb hx)
  ·obtain⟨sl,e1⟩:=I.base.slot b o e n hb hx;exact⟨sl,(hs.2 b (a9 (a7 (aN e) (I.ok.cab x c hfn hc)))).trans e1⟩
  ·obtain⟨o',e1⟩:=I.base.there b o e hx;exact⟨o',(hs.2 b (a9 (a7 (aN e) (I.ok.cab x c hfn hc)))).trans e1⟩
  ·by_cases hj:j=i
   ·subst hj;rw[hi] at e1;cases e1;rw[gK hiσ] at e2;cases e2;exact⟨u,r,.inr ⟨.inl hk,c,hc,hc'⟩⟩
   ·rw[List.getElem?_set_ne (cH hj)] at e2;obtain⟨u',r',q⟩:=hl j y v' e1 e2 e3;refine⟨u',r',?_⟩;rcases q with q | ⟨k,c',e,z'⟩
    ·exact .inl q
    ·refine .inr ⟨k,c',e,z'.sameBut hs ?_⟩;rintro rfl;exact hj (tJ hN e1 (I.ok.inj _ _ _ e hc▸hi))
  ·by_cases hcc:c'=c
   ·subst hcc;exact⟨_,hc'⟩
   ·obtain⟨w2,z2⟩:=I.cell y c' e;exact⟨w2,z2.sameBut hs hcc⟩
  ·obtain⟨e,n,ne,nf,d⟩:=I.pin p hp;refine⟨(hs.2 p.1 ?_).trans e,n,ne,nf,d⟩;intro q;rw[q,hoc] at e;have q':oc=p.2:=bT e;exact d w' (by rw[<-q'];exact hocd)
theorem oJ{M:Model}{A:Around}{E:Value->Shared->Prop}{i:Nat}{x:Str}{v:V}{u:Value}{Q:Unit->Shared->Prop}(I:bW X pins σ H s)(hN:X.N.Nodup)(hi:X.N[i]? = some x)(hx:Loc X.env.scope x)(r:RelV v u)
  (h:∀s',bW X pins (σ.set i (some v)) H s'->Q () s') (hf:X.fn x=true\/X.env.scope.names.lookup x=some .local:=by first | exact .inl rfl | exact .inr rfl | assumption):wpAny M A (storeName X.env x u) Q E s:=
 pz I hN hi hx r (λs' I' _=>h s' I') hf
theorem bW.call'{s':Shared}{ch:List Addr}(I:bW X pins σ H s)(ho:s'.os=s.os)(u:Un (uz X.stack) ch H H' s.heap s'.heap)(hok:mO X.prog X.w H' s'.heap)(hg:AllBare s'.gens)
  (hch:∀b∈ch,(b∈X.ex\/X.s₀.heap.objs.size<=b)/\b≠X.env.locals/\(∀x c,X.env.cells.lookup x=some c->c≠b)/\∀p∈X.pn++pins,p.1≠b):bW X pins σ H' s':=by
 obtain⟨h',g',d',t',o'⟩:=s';have e:o'=s.os:=ho;subst e;exact I.call (g':=g') (t':=t') (d':=d') u hok hg hch
end
abbrev XK:=Value->Option Addr->Hp->Prop
abbrev St:=List (Option V)
abbrev VK:=V->Hp->Prop
abbrev TE:=St->Hp->VK->Prop
abbrev TT:=St->Hp->(Bool->Hp->Prop)->Prop
abbrev TA:=St->Hp->(List V->Hp->Prop)->Prop
structure Ends where
 nx:St->Hp->Prop
 rt:VK
 bk:St->Hp->Prop:=fun _ _=>False
 ct:St->Hp->Prop:=fun _ _=>False
abbrev TS:=Ends->St->Hp->Prop
def EP(X:Cx)(pins:List (Addr×Obj))(σ:St)(Q:VK)(u:Value)(s':Shared):Prop:=∃v H',bW X pins σ H' s'/\RelV v u/\Q v H'
def TP(X:Cx)(pins:List (Addr×Obj))(σ:St)(Q:Bool->Hp->Prop)(b:Bool)(s':Shared):Prop:=∃H',bW X pins σ H' s'/\Q b H'
def AP(X:Cx)(pins:List (Addr×Obj))(σ:St)(Q:List V->Hp->Prop)(us:List Value)(s':Shared):Prop:=∃vs H',bW X pins σ H' s'/\bj vs us/\Q vs H'
def SP(X:Cx)(pins:List (Addr×Obj))(D:Ends)(f:Flow)(s':Shared):Prop:=
 match f with
 | .next=>∃σ' H',bW X pins σ' H' s'/\D.nx σ' H'
 | .brk=>∃σ' H',bW X pins σ' H' s'/\D.bk σ' H'
 | .cont=>∃σ' H',bW X pins σ' H' s'/\D.ct σ' H'
 | .ret u=>∃v σ' H',bW X pins σ' H' s'/\RelV v u/\D.rt v H'
def PE(X:Cx)(e:Expr)(t:TE):Prop:=
 ∀(pins:List (Addr×Obj)) (s:Shared) (σ:St) (H:Hp) (Q:VK),bW X pins σ H s->t σ H Q->wpAny (model X.prog X.w) X.A (eval e X.env) (EP X pins σ Q) X.xe s
def PT(X:Cx)(e:Expr)(t:TT):Prop:=
 ∀(pins:List (Addr×Obj)) (s:Shared) (σ:St) (H:Hp) (Q:Bool->Hp->Prop),bW X pins σ H s->t σ H Q->wpAny (model X.prog X.w) X.A (isTrue e X.env (eval e X.env)) (TP X pins σ Q) X.xe s
def PW(X:Cx)(e:Expr)(t:TT):Prop:=
 ∀(whole:Sem Value) (pins:List (Addr×Obj)) (s:Shared) (σ:St) (H:Hp) (Q:Bool->Hp->Prop),bW X pins σ H s->t σ H Q->wpAny (model X.prog X.w) X.A (isTrue e X.env whole) (TP X pins σ Q) X.xe s
theorem PW.pt{X:Cx}{e:Expr}{t:TT}(h:PW X e t):PT X e t:=h _
def PA(X:Cx)(es:List Expr)(t:TA):Prop:=
 ∀(pos:Pos) (pins:List (Addr×Obj)) (s:Shared) (σ:St) (H:Hp) (Q:List V->Hp->Prop),bW X pins σ H s->t σ H Q->wpAny (model X.prog X.w) X.A (spliced (backTo pos (starEach es X.env))) (AP X pins σ Q) X.xe s
def PS(X:Cx)(st:Stmt)(t:TS):Prop:=
 ∀(pins:List (Addr×Obj)) (s:Shared) (σ:St) (H:Hp) (D:Ends),bW X pins σ H s->t D σ H->wpAny (model X.prog X.w) X.A (exec st X.env) (SP X pins D) X.xe s
def Ej(X:Cx)(st:List Stmt)(t:TS):Prop:=
 ∀(pins:List (Addr×Obj)) (s:Shared) (σ:St) (H:Hp) (D:Ends),bW X pins σ H s->t D σ H->wpAny (model X.prog X.w) X.A (execs st X.env) (SP X pins D) X.xe s
theorem dk{α:Type}{t:Sem α}{Q Q':α->Shared->Prop}{M:Model}{A:Around}{E:Value->Shared->Prop}{s:Shared}(h:wpAny M A t Q E s)(hQ:∀a s,Q a s->Q' a s):wpAny M A t Q' E s:=Kb h hQ λ_ _ x=>x
section
variable {X:Cx}
theorem bin{a b:Expr}{ta tb:TE}(ha:PE X a ta)(hb:PE X b tb){pins:List (Addr×Obj)}{s:Shared}{σ:St}{H:Hp}{R:V->V->Hp->Prop}(I:bW X pins σ H s)(h:ta σ H λx H1=>tb σ H1 λy H2=>R x y H2)
  {α:Type} {Q:α->Shared->Prop} {f:Value->Value->Sem α}
  (hf:∀v u s2 x y H2,bW X pins σ H2 s2->RelV x v->RelV y u->R x y H2->wpAny (model X.prog X.w) X.A (f v u) Q X.xe s2) :
  wpAny (model X.prog X.w) X.A (eval a X.env) (λv s₁=>wpAny (model X.prog X.w) X.A (eval b X.env) (λu s₂=>wpAny (model X.prog X.w) X.A (f v u) Q X.xe s₂) X.xe s₁) X.xe s:=by
 refine dk (ha pins s σ H _ I h) λv s1 ⟨x,H1,I1,r1,q1⟩=>?_;refine dk (hb pins s1 σ H1 _ I1 q1) λu s2 ⟨y,H2,I2,r2,q2⟩=>?_;exact hf v u s2 x y H2 I2 r1 r2 q2
def uL(i:Nat):TE:=λσ H Q=>∃v,σ[i]? = some (some v)/\Q v H
def tC(v:V):TE:=λ_ H Q=>Q v H
theorem EC {i:Nat} {x:Str} {pos:Pos} (hN:X.N[i]? = some x) (hv:Ey X.env.scope x) (hd:(x==("__debug__":Str))=false:=by decide) (hcd:(x==("__classdict__":Str))=false:=by decide):PE X (.Name x pos) (uL i):=by
 intro pins s σ H Q I h;obtain⟨v,e,h⟩:=h;obtain⟨m,hn,hl⟩:=I.loc;obtain⟨u,r,l⟩:=hl i x v hN e hv;have fin:EP X pins σ Q u s:=⟨v,H,I,r,h⟩
 rcases l with ⟨hk,hm⟩ | ⟨hk,c,hc,hcell⟩
 ·exact wpAny_Name (wpAny_loadName_local I.ok.kind hk hn hm fin) hd
 ·rcases hk with hk | hk
  ·exact wpAny_Name (wpAny_loadName_cell I.ok.kind hk hc hcell fin) hd
  ·exact wpAny_Name (wpAny_loadName_free I.ok.kind hk hc hcell fin hcd) hd
def Gl(X:Cx)(x:Str):Prop:=X.env.kindOf x=some .globalImplicit
theorem wI{E:Value->Shared->Prop}{pins:List (Addr×Obj)}{s:Shared}{σ:St}{H:Hp}{x:Str}{u:Value}{pos:Pos}{Q:Value->Shared->Prop}(I:bW X pins σ H s)(hg:Gl X x)(hm:X.mg x=some u)(h:Q u s)
  (hd:(x==("__debug__":Str))=false:=by decide):wpAny (model X.prog X.w) X.A (eval (.Name x pos) X.env) Q E s:=
 jA I.ok.kind hg (Calls.loadGlobal_global (by rw[I.ok.glob];exact I.mod.glob.keeps I.bk) hm h) hd
theorem jM{E:Value->Shared->Prop}{pins:List (Addr×Obj)}{s:Shared}{σ:St}{H:Hp}{x:Str}{u:Value}{pos:Pos}{Q:Value->Shared->Prop}(I:bW X pins σ H s)(hg:Gl X x)(hm:X.mg x=none)(hv:bootBuiltins x=some u)(h:Q u s)
  (hn:x≠"__name__":=by decide) (hd:(x==("__debug__":Str))=false:=by decide):wpAny (model X.prog X.w) X.A (eval (.Name x pos) X.env) Q E s:=by
 obtain⟨mb,h1,h2⟩:=I.mod.blt;exact jA I.ok.kind hg (Calls.loadGlobal_builtin (by rw[I.ok.glob];exact I.mod.glob.keeps I.bk) hm (by rw[I.ok.blt];exact h1.keeps I.bk) ((h2 x hn).trans hv) h) hd
theorem qu {x:Str} {v:V} {u:Value} {pos:Pos} (hg:Gl X x) (hm:X.mg x=some u) (r:RelV v u) (hd:(x==("__debug__":Str))=false:=by decide):PE X (.Name x pos) (tC v):=
 λ_ _ _ H _ I h=>wI I hg hm ⟨v,H,I,r,h⟩ hd
variable {a b:Expr} {ta tb:TE} {pos:Pos}
def PC(X:Cx)(op:CmpOp)(a b:Expr)(t:TE):Prop:=
 ∀(pins:List (Addr×Obj)) (s:Shared) (σ:St) (H:Hp) (Q:VK),bW X pins σ H s->t σ H Q →
  wpAny (model X.prog X.w) X.A (eval a X.env) (λv s₁=>wpAny (model X.prog X.w) X.A (eval b X.env) (λu s₂=>wpAny (model X.prog X.w) X.A (compareOp op v u) (EP X pins σ Q) X.xe s₂) X.xe s₁) X.xe s
theorem AI(b:Expr){op:CmpOp}(h:op≠.In)(h2:op≠.NotIn):behindInMarks op b=false:=by
 have e1:(op==CmpOp.In)=false:=by cases op<;>first | rfl | exact absurd rfl h
 have e2:(op==CmpOp.NotIn)=false:=by cases op<;>first | rfl | exact absurd rfl h2
 cases b<;>simp[behindInMarks,e1,e2]
def tB(t:TE):TT:=λσ H Q=>t σ H λx H1=>∃c,x=.bl c/\Q c H1
theorem HS{op:CmpOp}{t:TE}(h:PC X op a b t)(h1:behindInMarks op b=false:=by first | exact AI _ (by decide) (by decide) | rfl):PT X (.Compare a [op] [b] pos) (tB t):=by
 intro pins s σ H Q I hw;refine wpAny_isTrue_Compare1 (dk (h pins s σ H _ I hw) λv s1 h1=>dk h1 λu s2 h2=>dk h2 λc s3 ⟨x,H1,I1,r1,q1⟩=>?_) h1;obtain⟨d,rfl,q⟩:=q1;cases r1;exact Kc ⟨H1,I1,q⟩
def Fj(t u:TT):TT:=λσ H Q=>t σ H λc H1=>if c=true then u σ H1 Q else Q false H1
def Hx(t u:TT):TT:=λσ H Q=>t σ H λc H1=>if c=true then Q true H1 else u σ H1 Q
def Fa(t:TT):TT:=λσ H Q=>t σ H λc H1=>Q (!c) H1
def Fi(ta tb:TE):TE:=λσ H Q=>ta σ H λx H1=>∃c,x=.bl c/\if c=true then tb σ H1 Q else Q (.bl false) H1
def HI(ta tb:TE):TE:=λσ H Q=>ta σ H λx H1=>∃c,x=.bl c/\if c=true then Q (.bl true) H1 else tb σ H1 Q
def Cg(ta:TE):TE:=λσ H Q=>ta σ H λx H1=>∃c,x=.bl c/\Q (.bl (!c)) H1
def Hy(t:TT)(ta tb:TE):TE:=λσ H Q=>t σ H λc H1=>if c=true then ta σ H1 Q else tb σ H1 Q
end
def cy(K:LU)(H:Hp)(a:Addr)(xs:List V):Prop:=
 Rd H a (.lst xs) ∨
  ∃(o:Obj) (its:Array Value) (n:Nat),K.lookup a=some o/\o.cls=.type "list"/\o.dict=none/\o.data=.seq its n/\its.size<=sizeLine/\bj xs its.toList
def eR(K:LU)(H:Hp)(a:Addr)(xs:List V):Prop:=
 Rd H a (.tup xs) ∨
  ∃(o:Obj) (its:Array Value) (n:Nat),K.lookup a=some o/\o.cls=.type "tuple"/\o.data=.seq its n/\its.size<=sizeLine/\bj xs its.toList
def Hf:Value->Option V
 | .none=>some .non
 | .bool b=>some (.bl b)
 | .int i _=>some (.int i)
 | .str x _=>some (.str x)
 | .bytes b _=>some (.byt b)
 | .float b _=>some (.flt b)
 | .ref a=>some (.ref a)
 | .type n=>some (.ty n)
 | _=>none
theorem RelV.abs{x:V}{u:Value}(r:RelV x u):Hf u=some x:=by
 cases x with
 | non=>cases r;rfl
 | bl _=>cases r;rfl
 | int _=>obtain⟨t,rfl⟩:=r;rfl
 | str _=>obtain⟨t,rfl⟩:=r;rfl
 | byt _=>obtain⟨t,rfl⟩:=r;rfl
 | flt _=>obtain⟨t,rfl⟩:=r;rfl
 | ref _=>cases r;rfl
 | ty _=>cases r;rfl
theorem RelV.inj{x y:V}{u:Value}(r:RelV x u)(q:RelV y u):x=y:=bT (r.abs.symm.trans q.abs)
theorem bj.inj:∀{xs ys:List V} {us:List Value},bj xs us->bj ys us->xs=ys
 | _,_,_,.nil,.nil=>rfl
 | _,_,_,.cons r t,.cons r' t'=>by rw[r.inj r',bj.inj t t']
section
variable {X:Cx} {pins:List (Addr×Obj)} {σ:St} {H:Hp} {s:Shared} {a:Addr} {xs ys:List V}
theorem cy.of{K:LU}(h:H a=some (.lst xs)):cy K H a xs:=.inl (.inl h)
theorem eR.of{K:LU}(h:H a=some (.tup xs)):eR K H a xs:=.inl (.inl h)
theorem bW.list(I:bW X pins σ H s)(h:cy X.K H a xs):∃its:List Value,bj xs its/\PlainL s.heap a its.toArray/\xs.length<=sizeLine:=by
 rcases h with h | ⟨o,its,n,hk,hc,hd,hs,hz,r⟩
 ·obtain⟨z,its,n,r,e⟩:=h.ok I.hok;exact⟨its,r,⟨_,n,e,rfl,rfl,rfl⟩,z⟩
 ·refine⟨its.toList,r,⟨o,n,I.kIn a o hk,hc,hd,by simpa using hs⟩,?_⟩;have e:=r.length;simp only[bQ] at e;lia
theorem bW.tuple(I:bW X pins σ H s)(h:eR X.K H a xs):∃its:List Value,bj xs its/\IsTup s.heap a its.toArray/\xs.length<=sizeLine:=by
 rcases h with h | ⟨o,its,n,hk,hc,hs,hz,r⟩
 ·obtain⟨z,its,r,p⟩:=h.ok I.hok;exact⟨its,r,p,z⟩
 ·refine⟨its.toList,r,⟨o,I.kIn a o hk,hc,n,by simpa using hs⟩,?_⟩;have e:=r.length;simp only[bQ] at e;lia
theorem bW.list_inj(I:bW X pins σ H s)(h:cy X.K H a xs)(h':cy X.K H a ys):xs=ys:=by
 obtain⟨its,r,⟨o,n,e,_,_,d⟩,_⟩:=I.list h;obtain⟨its',r',⟨o',n',e',_,_,d'⟩,_⟩:=I.list h';rw[e] at e';cases e';rw[d] at d';injection d' with d1 _
 have:its=its':=by simpa using congrArg Array.toList d1
 subst this;exact r.inj r'
theorem bW.tuple_inj(I:bW X pins σ H s)(h:eR X.K H a xs)(h':eR X.K H a ys):xs=ys:=by
 obtain⟨its,r,⟨o,e,_,n,d⟩,_⟩:=I.tuple h;obtain⟨its',r',⟨o',e',_,n',d'⟩,_⟩:=I.tuple h';rw[e] at e';cases e';rw[d] at d';injection d' with d1 _
 have:its=its':=by simpa using congrArg Array.toList d1
 subst this;exact r.inj r'
end
abbrev Cx.wish (X:Cx) (E:Value->Shared->Prop):Cx:={ X with xe:=E }
abbrev Cx.nox (X:Cx):Cx:=X.wish λ_ _=>False
theorem Cx.Ok.wish{X:Cx}(ok:X.Ok)(E:Value->Shared->Prop):(X.wish E).Ok:=
 ⟨ok.mod,ok.kind,ok.glob,ok.blt,ok.above,ok.inj,ok.has,ok.cab,ok.hd,ok.frames,ok.stk,ok.exf,ok.bs,ok.bsz,ok.noex,ok.exfs,ok.funs,ok.frf⟩
theorem Cx.Ok.unwish{X:Cx}{E:Value->Shared->Prop}(ok:(X.wish E).Ok):X.Ok:=
 ⟨ok.mod,ok.kind,ok.glob,ok.blt,ok.above,ok.inj,ok.has,ok.cab,ok.hd,ok.frames,ok.stk,ok.exf,ok.bs,ok.bsz,ok.noex,ok.exfs,ok.funs,ok.frf⟩
section
variable {X:Cx} {pins:List (Addr×Obj)} {σ:St} {H:Hp} {s:Shared} {E:Value->Shared->Prop}
theorem bW.wish(I:bW X pins σ H s)(E:Value->Shared->Prop):bW (X.wish E) pins σ H s:=⟨I.ok.wish E,I.os,I.bare,I.base,I.loc,I.cell,I.free,I.freeC,I.pin,I.hok,I.len⟩
theorem bW.unwish(I:bW (X.wish E) pins σ H s):bW X pins σ H s:=⟨I.ok.unwish,I.os,I.bare,I.base,I.loc,I.cell,I.free,I.freeC,I.pin,I.hok,I.len⟩
theorem SP.unwish{D:Ends}{f:Flow}{s':Shared}(h:SP (X.wish E) pins D f s'):SP X pins D f s':=by
 cases f with
 | next=>obtain⟨σ',H',I,q⟩:=h;exact⟨σ',H',I.unwish,q⟩
 | brk=>obtain⟨σ',H',I,q⟩:=h;exact⟨σ',H',I.unwish,q⟩
 | cont=>obtain⟨σ',H',I,q⟩:=h;exact⟨σ',H',I.unwish,q⟩
 | ret u=>obtain⟨v,σ',H',I,r,q⟩:=h;exact⟨v,σ',H',I.unwish,r,q⟩
theorem Ej.nox{st:List Stmt}{t:TS}(h:Ej X.nox st t):Ej X st t:=λpins s σ H D I hw=>
 Kb (h pins s σ H D (I.wish _) hw) (λ_ _ q=>q.unwish) λ_ _ z=>False.elim z
end
section
variable {X:Cx} {t u:TS} {te:TE}
def Ci:TS:=λD σ H=>D.nx σ H
def F6(t u:TS):TS:=λD σ H=>t { D with nx:=u D } σ H
def Dn:TS:=λD σ H=>D.bk σ H
def Ff:TS:=λD σ H=>D.ct σ H
theorem bW.quiet{pins:List (Addr×Obj)}{σ:St}{H:Hp}{s:Shared}(I:bW X pins σ H s):interactive X.env=false:=by simp[interactive,I.ok.kind]
def Cj(te:TE):TS:=λD σ H=>te σ H λ_ H1=>D.nx σ H1
def F8(te:TE):TS:=λD σ H=>te σ H D.rt
def F7:TS:=λD _ H=>D.rt .non H
def Fd(c:TT)(t u:TS):TS:=λD σ H=>c σ H λb H1=>if b=true then t D σ H1 else u D σ H1
def Dk:TS:=λ_ _ _=>False
end
abbrev TG:=V->St->Hp->(St->Hp->Prop)->Prop
abbrev yO:=List V->St->Hp->(St->Hp->Prop)->Prop
def PG(X:Cx)(target:Expr)(t:TG):Prop:=
 ∀(pins:List (Addr×Obj)) (s:Shared) (σ:St) (H:Hp) (v:V) (u:Value) (Q:St->Hp->Prop),bW X pins σ H s->RelV v u->t v σ H Q →
  wpAny (model X.prog X.w) X.A (assign target X.env u) (λ_ s'=>∃σ' H',bW X pins σ' H' s'/\Q σ' H') X.xe s
def IJ(X:Cx)(ts:List Expr)(t:yO):Prop:=
 ∀(pins:List (Addr×Obj)) (s:Shared) (σ:St) (H:Hp) (vs:List V) (us:List Value) (Q:St->Hp->Prop),bW X pins σ H s->bj vs us->t vs σ H Q →
  wpAny (model X.prog X.w) X.A (assignInOrder ((assignEach ts X.env).map (·.2)) us) (λ_ s'=>∃σ' H',bW X pins σ' H' s'/\Q σ' H') X.xe s
abbrev CS:=V->V->V->Hp->(Hp->Prop)->Prop
def G9(X:Cx)(t:CS):Prop:=
 ∀(pins:List (Addr×Obj)) (s:Shared) (σ:St) (H:Hp) (o i v:V) (ov iv u:Value) (Q:Hp->Prop),bW X pins σ H s->RelV o ov->RelV i iv->RelV v u->t o i v H Q →
  wpAny (model X.prog X.w) X.A (setItem ov iv u) (λ_ s'=>∃H',bW X pins σ H' s'/\Q H') X.xe s
abbrev G6:=V->V->Hp->VK->Prop
def Hk(X:Cx)(op:Operator)(t:G6):Prop:=
 ∀(pins:List (Addr×Obj)) (s:Shared) (σ:St) (H:Hp) (x y:V) (v u:Value) (Q:VK),bW X pins σ H s->RelV x v->RelV y u->t x y H Q →
  wpAny (model X.prog X.w) X.A (inplaceOp op v u) (EP X pins σ Q) X.xe s
section
variable {X:Cx} {pos:Pos}
def ou(i:Nat):TG:=λv σ H Q=>Q (σ.set i (some v)) H
def GX:yO:=λvs σ H Q=>vs=[]/\Q σ H
def DI(t:TG)(u:yO):yO:=λvs σ H Q=>∃v r,vs=v::r/\t v σ H λσ' H'=>u r σ' H' Q
def CD(K:LU)(n:Nat)(t:yO):TG:=λv σ H Q=>∃a xs,v=.ref a/\eR K H a xs/\xs.length=n/\t xs σ H Q
theorem zm{es:List Expr}{k:Nat}{t:yO}{n:Nat}(hc:X.calm=true)(h:IJ X es t)
  (hn:(assignEach es X.env).length=n:=by rfl) (hst:(assignEach es X.env).findIdx? (·.1)=none:=by rfl):PG X (.Tuple es k pos) (CD X.K n t):=by
 intro pins s σ H v u Q I r hw;obtain⟨a,xs,e1,hq,hl,hw⟩:=hw;subst e1;cases r;obtain⟨its,rv,ht,hz⟩:=I.tuple hq;refine assign_Tuple_tuple (I.ok.hd hc) ht (by simp[hn,<-hl,rv.length]) hst λh' hx=>?_;have I1:bW X pins σ H { s with heap:=h' }:=I.kept (t':=s.toks) λb o e=>hx b o (a9 (aN e)) e;exact h pins _ σ H xs _ Q I1 (by simpa using rv) hw
def GW(to ti:TE)(t:CS):TG:=λv σ H Q=>to σ H λo H1=>ti σ H1 λi H2=>t o i v H2 λH3=>Q σ H3
def zL(te:TE)(g:TG):TS:=λD σ H=>te σ H λx H1=>g x σ H1 D.nx
def Fh(i:Nat)(te:TE)(ti:G6):TS:=λD σ H=>∃x,σ[i]? = some (some x)/\te σ H λy H1=>ti x y H1 λz H2=>D.nx (σ.set i (some z)) H2
def Ha(f:Int->Int->Int):G6:=λx y H Q=>∃i j,x=.int i/\y=.int j/\Q (.int (f i j)) H
theorem AZ:Hk X .Add (Ha λi j=>i+j):=by
 intro pins s σ H x y v u Q I r1 r2 h;obtain⟨i,j,e1,e2,q⟩:=h;subst e1;subst e2;obtain⟨t,rfl⟩:=r1;obtain⟨t',rfl⟩:=r2;exact iadd_int ⟨.int _,H,I.tok _,⟨_,rfl⟩,q⟩
theorem E6:Hk X .Sub (Ha λi j=>i-j):=by
 intro pins s σ H x y v u Q I r1 r2 h;obtain⟨i,j,e1,e2,q⟩:=h;subst e1;subst e2;obtain⟨t,rfl⟩:=r1;obtain⟨t',rfl⟩:=r2;exact isub_int ⟨.int _,H,I.tok _,⟨_,rfl⟩,q⟩
end
section
def Dj(c:TT)(tb:TS):TS:=λD σ H=>∃W:Nat->St->Hp->Prop,(∃m,W m σ H)/\∀m σ H,W m σ H →
 c σ H λb H1=>if b=true then ∃N:St->Hp->Prop,(∀σ' H',N σ' H'->∃m',m'<m/\W m' σ' H')/\tb { D with nx:=N,ct:=N,bk:=D.nx } σ H1 else D.nx σ H1
end
structure It where
 go:Nat->Hp->Prop
 yld:Nat->Hp->V->Hp->Prop
 stop:Nat->Hp->Prop
def mP(X:Cx)(pins:List (Addr×Obj))(H:Hp)(b:Addr):Prop:=
 H b=none/\b≠X.env.locals/\b∉X.fs/\(b∈X.ex\/X.s₀.heap.objs.size<=b)/\(∀x c,X.env.cells.lookup x=some c->c≠b)/\∀p∈X.pn++pins,p.1≠b
theorem bW.fpOk{X:Cx}{pins:List (Addr×Obj)}{σ:St}{H H':Hp}{s:Shared}{b:Addr}(I:bW X pins σ H s)(hb:s.heap.objs.size<=b)(hn:H' b=none):mP X pins H' b:=by
 refine⟨hn,fT (a7 I.lt hb),I.nofs hb,.inr (bJ I.sz hb),λx c e z=>?_,λp hp z=>?_⟩
 ·obtain⟨v,q⟩:=I.cell x c e;exact absurd (a7 q.lt (by rw[z];exact hb)) (ci _)
 ·exact absurd (a7 (aN (I.pin p hp).1) (by rw[z];exact hb)) (ci _)
structure Turn (P : Program) (w : World) (K : LU) (tg : Expr) (J : It) (fp : List Addr) (it : Addr) (tn : Nat → Heap → Prop) : Prop where
  mem : it ∈ fp
  obj : ∀ i h, tn i h → ∀ b ∈ fp, ∃ o, h.get? b = some o ∧ ∀ v, o.data ≠ .cell v
  keep : ∀ i h h', tn i h → (∀ b ∈ fp, ∀ o, h.get? b = some o → h'.get? b = some o) → tn i h'
  item : ∀ (X : Cx), X.prog = P → X.w = w → X.K = K → X.calm = true → ∀ (i : Nat) (pins : List (Addr × Obj)) (s : Shared) (σ : St) (H : Hp) (E : Value → Shared → Prop), bW X pins σ H s → (∀ b ∈ fp, mP X pins H b) → tn i s.heap → J.go i H →
    wpAny (model P w) X.A (pyNext (.ref it)) (fun r s1 => ∃ u, r = some u ∧
      wpAny (model P w) X.A (letOwnedTupleGo tg (.ref it) u) (fun _ s2 => ∃ x H', bW X pins σ H' s2 ∧ RelV x u ∧ J.yld i H x H' ∧ tn (i + 1) s2.heap ∧ ∀ b ∈ fp, H' b = none) E s1) E s
  done : ∀ (X : Cx), X.prog = P → X.w = w → X.K = K → X.calm = true → ∀ (i : Nat) (pins : List (Addr × Obj)) (s : Shared) (σ : St) (H : Hp) (E : Value → Shared → Prop), bW X pins σ H s → (∀ b ∈ fp, mP X pins H b) → tn i s.heap → J.stop i H →
    wpAny (model P w) X.A (pyNext (.ref it)) (fun r s1 => r = none ∧ bW X pins σ H s1) E s
  self : ∀ (A : Around) (i : Nat) (s : Shared) (Q : Value → Shared → Prop) (E : Value → Shared → Prop), tn i s.heap → Q (.ref it) s → wpAny (model P w) A (pyIter (.ref it)) Q E s
abbrev TI:=St->Hp->(It->Hp->Prop)->Prop
def HD(X:Cx)(pins:List (Addr×Obj))(σ:St)(tg:Expr)(R:It->Hp->Prop)(itv:Value)(s2:Shared):Prop:=
 ∃(it:Addr) (fp:List Addr) (tn:Nat->Heap->Prop) (J:It) (H':Hp),itv=.ref it/\bW X pins σ H' s2/\Turn X.prog X.w X.K tg J fp it tn/\tn 0 s2.heap/\(∀b∈fp,mP X pins H' b)/\R J H'
def PI(X:Cx)(tg iter:Expr)(wi:TI):Prop:=
 ∀(pins:List (Addr×Obj)) (s:Shared) (σ:St) (H:Hp) (R:It->Hp->Prop),bW X pins σ H s->wi σ H R →
  wpAny (model X.prog X.w) X.A (eval iter X.env) (λv s1=>wpAny (model X.prog X.w) X.A (pyIter v) (HD X pins σ tg R) X.xe s1) X.xe s
theorem tT {M : Model} {A : Around} {E : Value → Shared → Prop} {s : Shared} {tg : Expr} {it : Addr} {u : Value} {o : Obj} {n : String} {vs : Array Value} {Q : Unit → Shared → Prop} (ho : s.heap.get? it = some o) (hc : o.cls = .type n) (hd : o.data = .fields vs)
    (hn : ["enumerate", "zip", "dict_itemiterator", "dict_reverseitemiterator", "odict_iterator", "itertools.zip_longest", "itertools.pairwise"].contains n = false) (hQ : Q () s) : wpAny M A (letOwnedTupleGo tg (.ref it) u) Q E s := by
  unfold letOwnedTupleGo
  cases tg <;> first
    | exact Kd hQ
    | (cases u <;> first
        | exact Kd hQ
        | (refine wpAny_bind (wpAny_load ho ?_)
           rw [hc, hd]
           show wpAny M A (if (["enumerate", "zip", "dict_itemiterator", "dict_reverseitemiterator", "odict_iterator", "itertools.zip_longest", "itertools.pairwise"].contains n && vs[0]? == some (rawInt _)) = true then _ else _) Q E s
           rw [LL (by intro h; rw [hn, lP] at h; cases h)]
           exact Kd hQ))
def CY(K:LU)(a:Addr):It:=
 ⟨λi H=>∃xs x,cy K H a xs/\xs[i]? = some x,λi H x H'=>H'=H/\∀xs,cy K H a xs->xs[i]? = some x,λi H=>∃xs,cy K H a xs/\xs.length<=i⟩
def Hn(K:LU)(a:Addr):It:=
 ⟨λi H=>∃xs x,eR K H a xs/\xs[i]? = some x,λi H x H'=>H'=H/\∀xs,eR K H a xs->xs[i]? = some x,λi H=>∃xs,eR K H a xs/\xs.length<=i⟩
def yR(lo:Int)(n:Nat):It:=⟨λi _=>i<n,λi H x H'=>H'=H/\x=.int (lo+i),λi _=>n<=i⟩
theorem wk {P : Program} {w : World} {K : LU} {tg : Expr} (a it : Addr) : Turn P w K tg (CY K a) [it] it (fun i h => h.IsListIter it a i) where
  mem := by simp
  obj := fun i h st b hb => by
    have e : b = it := by simpa using hb
    subst e
    obtain ⟨o, e, c, d⟩ := st
    exact ⟨o, e, fun v z => by rw [d] at z; cases z⟩
  keep := fun i h h' st k => st.at fun o e => k it (by simp) o e
  item := by
    intro X hP hw hK hc i pins s σ H E I hf st hg
    subst hP hw hK
    obtain ⟨xs, x, hq, hx⟩ := hg
    obtain ⟨its, rv, p, hz⟩ := I.list hq
    obtain ⟨u, hu, ru⟩ := rv.get hx
    obtain ⟨f0, f1, f2, f3, f4, f5⟩ := hf it (by simp)
    refine wpAny_pyNext_list_item st p.isList (x := u) (by simpa using hu) fun h' st' sb => ?_
    have I1 : bW X pins σ H { s with heap := h' } := I.turned (t' := s.toks) (fun b o hb e => (sb.2 b hb).trans e) f0 f1 f3 f4 f5
    obtain ⟨o, e, c, d⟩ := id st'
    exact ⟨u, rfl, tT (s := { s with heap := h' }) e c d (by decide) ⟨x, H, I1, ru, ⟨rfl, fun ys hy => by rw [I.list_inj hy hq]; exact hx⟩, st', fun b hb => (hf b hb).1⟩⟩
  done := by
    intro X hP hw hK hc i pins s σ H E I hf st hg
    subst hP hw hK
    obtain ⟨xs, hq, hx⟩ := hg
    obtain ⟨its, rv, p, hz⟩ := I.list hq
    obtain ⟨f0, f1, f2, f3, f4, f5⟩ := hf it (by simp)
    have hl := rv.length
    exact wpAny_pyNext_list_end (I.ok.hd hc) st p.isList (by simp; lia) fun h' eb => ⟨rfl, I.turned (t' := s.toks) (fun b o hb e => eb b o hb e) f0 f1 f3 f4 f5⟩
  self := fun _ _ _ _ _ st h => wpAny_pyIter_listiter st h
theorem uJ {P : Program} {w : World} {K : LU} {tg : Expr} (it : Addr) (lo : Int) (n : Nat) : Turn P w K tg (yR lo n) [it] it (fun i h => IsRangeIter h it (lo + (i : Nat) * 1) ((n : Int) - (i : Nat)) 1) where
  mem := by simp
  obj := fun i h st b hb => by
    have e : b = it := by simpa using hb
    subst e
    exact ⟨_, st, fun v z => by
      have z' : Data.fields _ = Data.cell v := z
      cases z'⟩
  keep := fun i h h' st k => k it (by simp) _ st
  item := by
    intro X hP hw hK hc i pins s σ H E I hf st hg
    subst hP hw hK
    obtain ⟨f0, f1, f2, f3, f4, f5⟩ := hf it (by simp)
    have W := Walks.range (prog := X.prog) (w := X.w) (I.ok.hd hc) it lo 1 n
    refine W.item i s _ _ hg st fun v h' tk hv st' kk => ?_
    obtain ⟨t, rfl⟩ := hv
    have I1 : bW X pins σ H { s with heap := h', toks := tk } := I.turned (fun b o hb e => kk b o (by simpa using hb) e) f0 f1 f3 f4 f5
    refine ⟨_, rfl, tT (s := { s with heap := h', toks := tk }) (n := "range_iterator") st' rfl rfl (by decide) ⟨.int (lo + i), H, I1, ⟨t, ?_⟩, ⟨rfl, rfl⟩, st', fun b hb => (hf b hb).1⟩⟩
    rw [Int.mul_one]
  done := by
    intro X hP hw hK hc i pins s σ H E I hf st hg
    subst hP hw hK
    obtain ⟨f0, f1, f2, f3, f4, f5⟩ := hf it (by simp)
    exact Ke (I.ok.hd hc) st (by have : n ≤ i := hg; lia) fun h' eb => ⟨rfl, I.turned (t' := s.toks) (fun b o hb e => eb b o hb e) f0 f1 f3 f4 f5⟩
  self := fun _ _ _ _ _ st h => Kf st h
section
variable {X:Cx} {tg:Expr}
def A5(K:LU)(tl:TE):TI:=λσ H R=>tl σ H λx H1=>∃a,x=.ref a/\(∃xs,cy K H1 a xs)/\R (CY K a) H1
def GT(K:LU)(tl:TE):TI:=λσ H R=>tl σ H λx H1=>∃a,x=.ref a/\(∃xs,eR K H1 a xs)/\R (Hn K a) H1
theorem sX{pins:List (Addr×Obj)}{σ:St}{H:Hp}{s:Shared}{R:It->Hp->Prop}{E:Value->Shared->Prop}{lo hi:Int}{t u v:Tok}{tk:Nat}(I:bW X pins σ H s)(h1:-(2 ^ 62)<=lo)(h2:lo<2 ^ 62)(h3:-(2 ^ 62)<=hi)(h4:hi<2 ^ 62)
  (q:R (yR lo (hi-lo).toNat) H):wpAny (model X.prog X.w) X.A (pyIter (.ref s.heap.objs.size)) (HD X pins σ tg R) E { s with heap:=s.heap.push { cls:=.type "range",data:=.fields #[.int lo t,.int hi u,.int 1 v] },toks:=tk }:=by
 refine Kg (IsRange.new ..) (small_one h1 h2 h3 h4) ?_;have I1:bW X pins σ H { s with heap:=s.heap.push { cls:=.type "range",data:=.fields #[.int lo t,.int hi u,.int 1 v] },toks:=tk }:=I.kept λb o e=>aA _ e;refine⟨(s.heap.push { cls:=.type "range",data:=.fields #[.int lo t,.int hi u,.int 1 v] }).objs.size,[(s.heap.push { cls:=.type "range",data:=.fields #[.int lo t,.int hi u,.int 1 v] }).objs.size],_,_,H,rfl,
  I1.kept (t':=tk) λb o e=>aA _ e,uJ _ lo (hi-lo).toNat,?_,λb hb=>?_,q⟩
 ·have e1:lo+((0:Nat):Int)*1=lo:=by simp
  have e2:(((hi-lo).toNat:Nat):Int)-((0:Nat):Int)=Builtin.Range.rangeSize lo hi 1:=by rw[rangeSize_one];split<;>lia
  show IsRangeIter _ _ (lo+((0:Nat):Int)*1) ((((hi-lo).toNat:Nat):Int)-((0:Nat):Int)) 1;rw[e1,e2];exact aP _ rfl
 ·have e:b=(s.heap.push { cls:=.type "range",data:=.fields #[.int lo t,.int hi u,.int 1 v] }).objs.size:=by simpa using hb
  subst e;exact I1.fpOk (aB _) (I1.hok.fresh (aB _))
def A4(ta:TA):TI:=λσ H R=>ta σ H λvs H1=>∃j:Int,vs=[.int j]/\-(2 ^ 62)<=j/\j<2 ^ 62/\R (yR 0 j.toNat) H1
def A3(ta:TA):TI:=λσ H R=>ta σ H λvs H1=>∃i j:Int,vs=[.int i,.int j]/\(-(2 ^ 62)<=i/\i<2 ^ 62/\-(2 ^ 62)<=j/\j<2 ^ 62)/\R (yR i (j-i).toNat) H1
def n6(wi:TI)(g:TG)(tb:TS):TS:=λD σ H=>wi σ H λJ H1=>∃W:Nat->Nat->St->Hp->Prop,(∃m,W 0 m σ H1)/\∀i m σ H,W i m σ H →
 (J.stop i H/\D.nx σ H)\/(J.go i H/\∃N:St->Hp->Prop,(∀σ' H',N σ' H'->∃m',m'<m/\W (i+1) m' σ' H')/\∀x H',J.yld i H x H'->g x σ H' λσ2 H2=>tb { D with nx:=N,ct:=N,bk:=D.nx } σ2 H2)
def kE(fp:List Addr)(h:Heap):List (Addr×Obj):=fp.filterMap λb=>(h.get? b).map λo=>(b,o)
theorem ip{fp:List Addr}{h:Heap}{b:Addr}{o:Obj}(hb:b∈fp)(e:h.get? b=some o):(b,o)∈kE fp h:=List.mem_filterMap.mpr ⟨b,hb,by rw[e];rfl⟩
theorem qK{fp:List Addr}{h:Heap}{p:Addr×Obj}(hp:p∈kE fp h):p.1∈fp/\h.get? p.1=some p.2:=by
 obtain⟨b,hb,e⟩:=List.mem_filterMap.mp hp;cases q:h.get? b with
 | none=>rw[q] at e;cases e
 | some o=>
  rw[q] at e;have e':(b,o)=p:=bT e;subst e';exact⟨hb,q⟩
theorem bW.pinned{pins:List (Addr×Obj)}{σ:St}{H:Hp}{s:Shared}{fp:List Addr}(I:bW X pins σ H s)(hf:∀b∈fp,mP X pins H b)(ho:∀b∈fp,∃o,s.heap.get? b=some o/\∀v,o.data≠.cell v):bW X (pins++kE fp s.heap) σ H s:=
 I.pins_of λp hp=>(aE.mp hp).elim (λz=>I.pin p (aa _ z)) λz=>by
  obtain⟨hb,e⟩:=qK z;obtain⟨f0,f1,f2,_⟩:=hf p.1 hb;obtain⟨o,e',d⟩:=ho p.1 hb;rw[e] at e';cases e';exact⟨e,f0,f1,f2,d⟩
theorem bW.unpinned{pins pl:List (Addr×Obj)}{σ:St}{H:Hp}{s:Shared}(I:bW X (pins++pl) σ H s):bW X pins σ H s:=I.pins_of λp hp=>I.pin p (aa _ (ae _ hp))
end
theorem gC{K:LU}{a:Addr}{xs:List V}{g:TG}{tb:TS}{D:Ends}{σ:St}{H:Hp}(Pv:Nat->St->Hp->Prop)(h0:Pv 0 σ H)(hl:∀i σ H,i<=xs.length->Pv i σ H->cy K H a xs)
  (hs:∀i x σ H,xs[i]? = some x->Pv i σ H->g x σ H λσ2 H2=>tb { D with nx:=Pv (i+1),ct:=Pv (i+1),bk:=D.nx } σ2 H2) (hd:∀σ H,Pv xs.length σ H->D.nx σ H) :
  ∃W:Nat->Nat->St->Hp->Prop,(∃m,W 0 m σ H)/\∀i m σ H,W i m σ H →
   ((CY K a).stop i H/\D.nx σ H)\/((CY K a).go i H/\∃N:St->Hp->Prop,(∀σ' H',N σ' H'->∃m',m'<m/\W (i+1) m' σ' H')/\∀x H',(CY K a).yld i H x H'->g x σ H' λσ2 H2=>tb { D with nx:=N,ct:=N,bk:=D.nx } σ2 H2):=by
 refine⟨λi m σ H=>m=xs.length-i/\i<=xs.length/\Pv i σ H,⟨xs.length,by simp,a6 _,h0⟩,?_⟩;rintro i m σ H ⟨rfl,hi,p⟩;have q:=hl i σ H hi p;by_cases hlt:i<xs.length
 ·refine .inr ⟨⟨xs,xs[i],q,by simp[hlt]⟩,Pv (i+1),λσ' H' p'=>⟨xs.length-(i+1),by lia,rfl,hlt,p'⟩,λx H' y=>?_⟩;obtain⟨e,y⟩:=y;subst e;exact hs i x σ _ (y xs q) p
 ·have e:i=xs.length:=by lia
  subst e;exact .inl ⟨⟨xs,q,aB _⟩,hd σ H p⟩
theorem l3{lo:Int}{n:Nat}{g:TG}{tb:TS}{D:Ends}{σ:St}{H:Hp}(Pv:Nat->St->Hp->Prop)(h0:Pv 0 σ H)
  (hs:∀i σ H,i<n->Pv i σ H->g (.int (lo+i)) σ H λσ2 H2=>tb { D with nx:=Pv (i+1),ct:=Pv (i+1),bk:=D.nx } σ2 H2) (hd:∀σ H,Pv n σ H->D.nx σ H) :
  ∃W:Nat->Nat->St->Hp->Prop,(∃m,W 0 m σ H)/\∀i m σ H,W i m σ H →
   ((yR lo n).stop i H/\D.nx σ H)\/((yR lo n).go i H/\∃N:St->Hp->Prop,(∀σ' H',N σ' H'->∃m',m'<m/\W (i+1) m' σ' H')/\∀x H',(yR lo n).yld i H x H'->g x σ H' λσ2 H2=>tb { D with nx:=N,ct:=N,bk:=D.nx } σ2 H2):=by
 refine⟨λi m σ H=>m=n-i/\i<=n/\Pv i σ H,⟨n,by simp,a6 _,h0⟩,?_⟩;rintro i m σ H ⟨rfl,hi,p⟩;by_cases hlt:i<n
 ·refine .inr ⟨hlt,Pv (i+1),λσ' H' p'=>⟨n-(i+1),by lia,rfl,hlt,p'⟩,λx H' y=>?_⟩;obtain⟨e,y⟩:=y;subst e y;exact hs i σ _ hlt p
 ·have e:i=n:=by lia
  subst e;exact .inl ⟨aB _,hd σ H p⟩
abbrev R2:=V->V->Hp->VK->Prop
def mS(X:Cx)(f:Value->Value->Sem Value)(r:R2):Prop:=
 ∀(pins:List (Addr×Obj)) (s:Shared) (σ:St) (H:Hp) (x y:V) (v u:Value) (Q:VK),bW X pins σ H s->RelV x v->RelV y u->r x y H Q →
  wpAny (model X.prog X.w) X.A (f v u) (EP X pins σ Q) X.xe s
def Hg(X:Cx)(f:Value->Sem Value)(r:V->Hp->VK->Prop):Prop:=
 ∀(pins:List (Addr×Obj)) (s:Shared) (σ:St) (H:Hp) (x:V) (v:Value) (Q:VK),bW X pins σ H s->RelV x v->r x H Q →
  wpAny (model X.prog X.w) X.A (f v) (EP X pins σ Q) X.xe s
def jB(X:Cx)(f:Value)(r:List V->Hp->VK->Prop):Prop:=
 ∀(pins:List (Addr×Obj)) (s:Shared) (σ:St) (H:Hp) (xs:List V) (us:List Value) (Q:VK),bW X pins σ H s->bj xs us->r xs H Q →
  wpAny (model X.prog X.w) X.A (call f us) (EP X pins σ Q) X.xe s
def Hh(X:Cx)(r:V->Hp->(Bool->Hp->Prop)->Prop):Prop:=
 ∀(pins:List (Addr×Obj)) (s:Shared) (σ:St) (H:Hp) (x:V) (v:Value) (Q:Bool->Hp->Prop),bW X pins σ H s->RelV x v->r x H Q →
  wpAny (model X.prog X.w) X.A (truthy v) (TP X pins σ Q) X.xe s
def F9(r:R2)(ta tb:TE):TE:=λσ H Q=>ta σ H λx H1=>tb σ H1 λy H2=>r x y H2 Q
def Hv(r:V->Hp->VK->Prop)(ta:TE):TE:=λσ H Q=>ta σ H λx H1=>r x H1 Q
def rI(C:Int->Int->Prop)(g:Int->Int->V):R2:=λx y H Q=>∃i j,x=.int i/\y=.int j/\C i j/\Q (g i j) H
def Cv(g:Int->Int->V):R2:=λx y H Q=>∃i j,x=.int i/\y=.int j/\Q (g i j) H
def rU(g:Int->V):V->Hp->VK->Prop:=λx H Q=>∃i,x=.int i/\Q (g i) H
section
variable {X:Cx} {a b:Expr} {ta tb:TE}
theorem Ef(ha:PE X a ta)(hb:PE X b tb){pins:List (Addr×Obj)}{s:Shared}{σ:St}{H:Hp}{R:V->V->Hp->Prop}(I:bW X pins σ H s)
  (h:ta σ H λx H1=>tb σ H1 λy H2=>R x y H2) {Q:Value->Shared->Prop} {f:Value->Value->Sem Value}
  (hf:∀v u s2 x y H2,bW X pins σ H2 s2->RelV x v->RelV y u->R x y H2->wpAny (model X.prog X.w) X.A (f v u) Q X.xe s2) :
  wpAny (model X.prog X.w) X.A (eval a X.env) (λv s₁=>wpAny (model X.prog X.w) X.A (eval b X.env) (λu s₂=>wpAny (model X.prog X.w) X.A (f v u) Q X.xe s₂) X.xe s₁) X.xe s:=by
 refine dk (ha pins s σ H _ I h) λv s1 ⟨x,H1,I1,r1,q1⟩=>?_;refine dk (hb pins s1 σ H1 _ I1 q1) λu s2 ⟨y,H2,I2,r2,q2⟩=>?_;exact hf v u s2 x y H2 I2 r1 r2 q2
theorem Gy{f:Value->Value->Sem Value}{C:Int->Int->Prop}{g:Int->Int->Int}
  (rule:∀(i j:Int) (t u:Tok) (s:Shared) (Q:Value->Shared->Prop) (E:Value->Shared->Prop),C i j->Q (.int (g i j) s.toks) { s with toks:=s.toks+1 }->wpAny (model X.prog X.w) X.A (f (.int i t) (.int j u)) Q E s) :
  mS X f (rI C λi j=>.int (g i j)):=by
 intro pins s σ H x y v u Q I rx ry h;obtain⟨i,j,rfl,rfl,hc,q⟩:=h;obtain⟨t,rfl⟩:=rx;obtain⟨t',rfl⟩:=ry;exact rule i j t t' s _ _ hc ⟨.int (g i j),H,I.tok _,⟨_,rfl⟩,q⟩
theorem GJ{f:Value->Value->Sem Value}{g:Int->Int->Int}
  (rule:∀(i j:Int) (t u:Tok) (s:Shared) (Q:Value->Shared->Prop) (E:Value->Shared->Prop),Q (.int (g i j) s.toks) { s with toks:=s.toks+1 }->wpAny (model X.prog X.w) X.A (f (.int i t) (.int j u)) Q E s) :
  mS X f (Cv λi j=>.int (g i j)):=by
 intro pins s σ H x y v u Q I rx ry h;obtain⟨i,j,rfl,rfl,q⟩:=h;obtain⟨t,rfl⟩:=rx;obtain⟨t',rfl⟩:=ry;exact rule i j t t' s _ _ ⟨.int (g i j),H,I.tok _,⟨_,rfl⟩,q⟩
theorem EI{f:Value->Value->Sem Value}{g:Int->Int->Bool}
  (rule:∀(i j:Int) (t u:Tok) (s:Shared) (Q:Value->Shared->Prop) (E:Value->Shared->Prop),Q (.bool (g i j)) s->wpAny (model X.prog X.w) X.A (f (.int i t) (.int j u)) Q E s) :
  mS X f (Cv λi j=>.bl (g i j)):=by
 intro pins s σ H x y v u Q I rx ry h;obtain⟨i,j,rfl,rfl,q⟩:=h;obtain⟨t,rfl⟩:=rx;obtain⟨t',rfl⟩:=ry;exact rule i j t t' s _ _ ⟨.bl (g i j),H,I,rfl,q⟩
def Hr(i j:Int):Prop:=0<j/\j<1073741824
def Hq(i j:Int):Prop:=0<=j/\j<=1000000/\i.natAbs<2 ^ 64
def Ep(i j:Int):Prop:=(-(2 ^ 64)<i/\i<2 ^ 64)\/(-(2 ^ 64)<j/\j<2 ^ 64)
theorem Ep.ok{i j:Int}(h:Ep i j):IntMulOk i j:=by
 rcases h with ⟨h1,h2⟩ | ⟨h1,h2⟩
 ·exact .of_left (intBits_le_64 h1 h2)
 ·exact .of_right (intBits_le_64 h1 h2)
theorem fO:mS X (binaryOp .Add) (Cv λi j=>.int (i+j)):=GJ λ_ _ _ _ _ _ _ q=>add_int q
theorem mH:mS X (binaryOp .Sub) (Cv λi j=>.int (i-j)):=GJ λ_ _ _ _ _ _ _ q=>sub_int q
theorem nE:mS X (binaryOp .Mult) (rI Ep λi j=>.int (i*j)):=Gy λ_ _ _ _ _ _ _ hc q=>mul_int q hc.ok
theorem kG:mS X (binaryOp .FloorDiv) (rI Hr λi j=>.int (i / j)):=Gy λi j _ _ _ _ _ hc q=>by
 have h1:(0:Int)<j:=hc.1;have h2:j<1073741824:=hc.2;exact floordiv_int (by lia) (by rw[Int.fdiv_eq_ediv_of_nonneg i (by lia)];exact q) (.inl (PyProof.noPylong_small (by lia)))
theorem jK:mS X (binaryOp .Mod) (rI (λ_ j=>0<j) λi j=>.int (i % j)):=Gy λi j _ _ _ _ _ hc q=>by
 have h1:(0:Int)<j:=hc;exact mod_int' (by lia) (by rw[Int.fmod_eq_emod_of_nonneg i (by lia)];exact q)
theorem uc:mS X (binaryOp .Pow) (rI Hq λi j=>.int (i ^ j.toNat)):=Gy λ_ _ _ _ _ _ _ hc q=>pow_int_small hc.1 hc.2.1 hc.2.2 q
theorem IR{f:Value->Sem Value}{g:Int->Int}
  (rule:∀(i:Int) (t:Tok) (s:Shared) (Q:Value->Shared->Prop) (E:Value->Shared->Prop),Q (.int (g i) s.toks) { s with toks:=s.toks+1 }->wpAny (model X.prog X.w) X.A (f (.int i t)) Q E s) :
  Hg X f (rU λi=>.int (g i)):=by
 intro pins s σ H x v Q I rx h;obtain⟨i,rfl,q⟩:=h;obtain⟨t,rfl⟩:=rx;exact rule i t s _ _ ⟨.int (g i),H,I.tok _,⟨_,rfl⟩,q⟩
theorem oG:Hg X (unaryOp .USub) (rU λi=>.int (-i)):=IR λ_ _ _ _ _ q=>neg_int q
end
def Ds:V->V->Bool
 | .non,.non=>true | .non,.int _=>true | .int _,.non=>true | .non,.bl _=>true | .bl _,.non=>true | .non,.str _=>true | .str _,.non=>true
 | .int _,.int _=>true | .bl _,.bl _=>true | .str _,.str _=>true | .byt _,.byt _=>true
 | .int _,.str _=>true | .str _,.int _=>true | .bl _,.str _=>true | .str _,.bl _=>true
 | _,_=>false
def Gw:R2:=λx y H Q=>Ds x y=true/\Q (.bl (decide (x=y))) H
def Gv:R2:=λx y H Q=>Ds x y=true/\Q (.bl (!decide (x=y))) H
theorem wW{i j:Int}:decide (V.int i=V.int j)=(i==j):=by
 rw[iN];simp
theorem Ai{i j:Bool}:decide (V.bl i=V.bl j)=(i==j):=by
 rw[iN];simp
theorem wV{i j:Str}:decide (V.str i=V.str j)=(i==j):=by
 rw[iN];simp
theorem wX{i j:Array UInt8}:decide (V.byt i=V.byt j)=(i.toList==j.toList):=by
 rw[iN];cases i;cases j;simp
section
variable {X:Cx} {b:Expr} {ta tb tc:TE}
theorem c6{pins:List (Addr×Obj)}{σ:St}{H:Hp}{s:Shared}{Q:VK}{k k':Bool}(I:bW X pins σ H s)(q:Q (.bl k) H)(e:k=k'):EP X pins σ Q (.bool k') s:=by
 subst e;exact⟨.bl k,H,I,rfl,q⟩
theorem ij:mS X (compareOp .Eq) Gw:=by
 intro pins s σ H x y v u Q I rx ry h;obtain⟨hs,q⟩:=h;cases x with
 | non=>
  cases rx;cases y with
  | non=>cases ry;exact PySem.EqNone.eq_none_none (c6 I q (by simp))
  | bl j=>cases ry;exact PySem.EqNone.eq_none_bool (c6 I q (by simp))
  | int j=>obtain⟨t',rfl⟩:=ry;exact PySem.EqNone.eq_none_int (c6 I q (by simp))
  | str j=>obtain⟨t',rfl⟩:=ry;exact PySem.EqNone.eq_none_str (c6 I q (by simp))
  | _=>exact absurd (show false=true from hs) au
 | bl i=>
  cases rx;cases y with
  | non=>cases ry;exact PySem.EqNone.eq_bool_none (c6 I q (by simp))
  | bl j=>cases ry;exact eq_bool (c6 I q Ai)
  | str j=>obtain⟨t',rfl⟩:=ry;exact PySem.EqMixed.eq_bool_str (c6 I q (by simp))
  | _=>exact absurd (show false=true from hs) au
 | int i=>
  obtain⟨t,rfl⟩:=rx;cases y with
  | non=>cases ry;exact PySem.EqNone.eq_int_none (c6 I q (by simp))
  | int j=>obtain⟨t',rfl⟩:=ry;exact eq_int (c6 I q wW)
  | str j=>obtain⟨t',rfl⟩:=ry;exact PySem.EqMixed.eq_int_str (c6 I q (by simp))
  | _=>exact absurd (show false=true from hs) au
 | str i=>
  obtain⟨t,rfl⟩:=rx;cases y with
  | non=>cases ry;exact PySem.EqNone.eq_str_none (c6 I q (by simp))
  | bl j=>cases ry;exact PySem.EqMixed.eq_str_bool (c6 I q (by simp))
  | int j=>obtain⟨t',rfl⟩:=ry;exact PySem.EqMixed.eq_str_int (c6 I q (by simp))
  | str j=>obtain⟨t',rfl⟩:=ry;exact eq_str (c6 I q wV)
  | _=>exact absurd (show false=true from hs) au
 | byt i=>
  obtain⟨t,rfl⟩:=rx;cases y with
  | byt j=>obtain⟨t',rfl⟩:=ry;exact PySem.W.eq_bytes (c6 I q wX)
  | _=>exact absurd (show false=true from hs) au
 | _=>cases y<;>exact absurd (show false=true from hs) au
theorem tE:mS X (compareOp .NotEq) Gv:=by
 intro pins s σ H x y v u Q I rx ry h;obtain⟨hs,q⟩:=h;cases x with
 | non=>
  cases rx;cases y with
  | non=>cases ry;exact PySem.EqNone.ne_none_none (c6 I q (by simp))
  | bl j=>cases ry;exact PySem.EqNone.ne_none_bool (c6 I q (by simp))
  | int j=>obtain⟨t',rfl⟩:=ry;exact PySem.EqNone.ne_none_int (c6 I q (by simp))
  | str j=>obtain⟨t',rfl⟩:=ry;exact PySem.EqNone.ne_none_str (c6 I q (by simp))
  | _=>exact absurd (show false=true from hs) au
 | bl i=>
  cases rx;cases y with
  | non=>cases ry;exact PySem.EqNone.ne_bool_none (c6 I q (by simp))
  | bl j=>cases ry;exact ne_bool (c6 I q (congrArg not Ai))
  | str j=>obtain⟨t',rfl⟩:=ry;exact PySem.EqMixed.ne_bool_str (c6 I q (by simp))
  | _=>exact absurd (show false=true from hs) au
 | int i=>
  obtain⟨t,rfl⟩:=rx;cases y with
  | non=>cases ry;exact PySem.EqNone.ne_int_none (c6 I q (by simp))
  | int j=>obtain⟨t',rfl⟩:=ry;exact ne_int (c6 I q (congrArg not wW))
  | str j=>obtain⟨t',rfl⟩:=ry;exact PySem.EqMixed.ne_int_str (c6 I q (by simp))
  | _=>exact absurd (show false=true from hs) au
 | str i=>
  obtain⟨t,rfl⟩:=rx;cases y with
  | non=>cases ry;exact PySem.EqNone.ne_str_none (c6 I q (by simp))
  | bl j=>cases ry;exact PySem.EqMixed.ne_str_bool (c6 I q (by simp))
  | int j=>obtain⟨t',rfl⟩:=ry;exact PySem.EqMixed.ne_str_int (c6 I q (by simp))
  | str j=>obtain⟨t',rfl⟩:=ry;exact ne_str (c6 I q (congrArg not wV))
  | _=>exact absurd (show false=true from hs) au
 | byt i=>
  obtain⟨t,rfl⟩:=rx;cases y with
  | byt j=>obtain⟨t',rfl⟩:=ry;exact PySem.W.ne_bytes (c6 I q (congrArg not wX))
  | _=>exact absurd (show false=true from hs) au
 | _=>cases y<;>exact absurd (show false=true from hs) au
theorem nW:mS X (compareOp .Lt) (Cv λi j=>.bl (decide (i<j))):=EI λ_ _ _ _ _ _ _ q=>lt_int q
theorem zt:mS X (compareOp .LtE) (Cv λi j=>.bl (decide (i<=j))):=EI λ_ _ _ _ _ _ _ q=>le_int q
theorem GI:mS X (compareOp .Gt) (Cv λi j=>.bl (decide (j<i))):=EI λ_ _ _ _ _ _ _ q=>gt_int q
theorem qI:mS X (compareOp .In) (λx y H Q=>∃i j,x=.str i/\y=.str j/\Q (.bl (!(Builtin.Str.occurrences j i 0 j.length 1).isEmpty)) H):=by
 intro pins s σ H x y v u Q I rx ry h;obtain⟨i,j,rfl,rfl,q⟩:=h;obtain⟨t,rfl⟩:=rx;obtain⟨t',rfl⟩:=ry;exact in_str (c6 I q rfl)
theorem zu:mS X (compareOp .Is) (λx y H Q=>y=.non/\Q (.bl (decide (x=.non))) H):=by
 intro pins s σ H x y v u Q I rx ry h;obtain⟨rfl,q⟩:=h;cases ry;refine is_none_gen (c6 I q ?_);cases x<;>first
  | (cases rx;rfl)
  | (obtain⟨t,rfl⟩:=rx;rfl)
theorem vz:mS X (compareOp .IsNot) (λx y H Q=>y=.non/\Q (.bl (!decide (x=.non))) H):=by
 intro pins s σ H x y v u Q I rx ry h;obtain⟨rfl,q⟩:=h;cases ry;refine isnot_none_gen (c6 I q ?_);cases x<;>first
  | (cases rx;rfl)
  | (obtain⟨t,rfl⟩:=rx;rfl)
theorem cu(b:Expr){op:CmpOp}(h:op≠.In:=by decide)(h2:op≠.NotIn:=by decide):behindInMarks op b=false:=by
 have e1:(op==CmpOp.In)=false:=by cases op<;>first | rfl | exact absurd rfl h
 have e2:(op==CmpOp.NotIn)=false:=by cases op<;>first | rfl | exact absurd rfl h2
 cases b<;>simp[behindInMarks,e1,e2]
def zG(t:TE):TT:=λσ H Q=>t σ H λx H'=>∃k,x=.bl k/\Q k H'
def Dm(r r':R2)(ta tb tc:TE):TE:=λσ H Q=>ta σ H λx H1=>tb σ H1 λy H2=>r x y H2 λz H3=>∃k,z=.bl k ∧
 (if k=true then tc σ H3 λw' H4=>r' y w' H4 Q else Q (.bl false) H3)
def Eg(K:LU)(x:V)(H:Hp)(k:Bool):Prop:=
 match x with
 | .non=>k=false
 | .bl b=>k=b
 | .int i=>k=(i != 0)
 | .str y=>y.length<=sizeLine/\k=((y.length:Int) != 0)
 | .byt y=>y.size<=sizeLine/\k=((y.size:Int) != 0)
 | .ref p=>(∃xs,cy K H p xs/\k=!xs.isEmpty)\/(∃xs,eR K H p xs/\k=!xs.isEmpty)\/∃kvs,H p=some (.dK kvs)/\k=!kvs.isEmpty
 | _=>False
theorem ux{κ:Type}{kvs:List (κ×V)}{vs:List (κ×Value)}(r:KV kvs vs):(!vs.isEmpty)=!kvs.isEmpty:=by
 cases r<;>rfl
theorem oo{xs:List V}{its:List Value}(r:bj xs its):(!its.toArray.isEmpty)=!xs.isEmpty:=by
 cases r<;>simp
theorem kz:(sizeLine:Nat)<2 ^ 63:=by rw[Kh];decide
theorem Dh:Hh X (λx H Q=>∃k,Eg X.K x H k/\Q k H):=by
 intro pins s σ H x v Q I rx h;obtain⟨k,e,q⟩:=h;have hl:=kz;have hs:sizeLine=16777216:=Kh;cases x with
 | non=>
  cases rx;have e':k=false:=e;subst e';exact truthy_none ⟨H,I,q⟩
 | bl b=>
  cases rx;have e':k=b:=e;subst e';exact Kc ⟨H,I,q⟩
 | int i=>
  obtain⟨t,rfl⟩:=rx;have e':k=(i != 0):=e;subst e';exact PySem.P.truthy_int ⟨H,I,q⟩
 | str y=>
  obtain⟨t,rfl⟩:=rx;obtain⟨hy,e'⟩:y.length<=sizeLine/\k=((y.length:Int) != 0):=e;subst e';exact PySem.P.truthy_str (by lia) ⟨H,I.tok _,q⟩
 | byt y=>
  obtain⟨t,rfl⟩:=rx;obtain⟨hy,e'⟩:y.size<=sizeLine/\k=((y.size:Int) != 0):=e;subst e';exact PySem.W.truthy_bytes (by lia) ⟨H,I.tok _,q⟩
 | ref p=>
  cases rx;have e':(∃xs,cy X.K H p xs/\k=!xs.isEmpty)\/(∃xs,eR X.K H p xs/\k=!xs.isEmpty)\/∃kvs,H p=some (.dK kvs)/\k=!kvs.isEmpty:=e;rcases e' with ⟨xs,hx,e'⟩ | ⟨xs,hx,e'⟩ | ⟨kvs,hx,e'⟩
  ·subst e';obtain⟨its,r,pl,hz⟩:=I.list hx;have hlen:=r.length;exact wpAny_truthy_list pl.isList (by simp only[aH];lia) ⟨H,I.tok _,by rw[oo r];exact q⟩
  ·subst e';obtain⟨its,r,pl,hz⟩:=I.tuple hx;have hlen:=r.length;exact truthy_tuple pl (by simp only[aH];lia) ⟨H,I.tok _,by rw[oo r];exact q⟩
  ·subst e';obtain⟨hz,hS,vs,r,m⟩:kvs.length<=sizeLine/\(p==sysModules)=false/\∃vs,KV kvs vs/\s.heap.DictOf (eC X.prog X.w) p vs:=I.hok p _ hx;have hlen:kvs.length=vs.length:=bu r;exact wpAny_truthy_dict hS m (by lia) ⟨H,I.tok _,by rw[ux r];exact q⟩
 | _=>exact(show False from e).elim
theorem dZ:mS X (binaryOp .Add) (λx y H Q=>∃i j,x=.str i/\y=.str j/\i.length+j.length<=sizeLine/\Q (.str (i++j)) H):=by
 intro pins s σ H x y v u Q I rx ry h;obtain⟨i,j,rfl,rfl,hz,q⟩:=h;obtain⟨t,rfl⟩:=rx;obtain⟨t',rfl⟩:=ry;exact add_str (λt' tk=>⟨.str (i++j),H,I.tok _,⟨_,rfl⟩,q⟩) hz
theorem vals1{x:V}{us:List Value}(r:bj [x] us):∃u,us=[u]/\RelV x u:=by
 cases r with
 | cons r1 r2=>cases r2;exact⟨_,rfl,r1⟩
theorem vals2{x y:V}{us:List Value}(r:bj [x,y] us):∃u w',us=[u,w']/\RelV x u/\RelV y w':=by
 cases r with
 | cons r1 r2=>
  cases r2 with
  | cons r3 r4=>cases r4;exact⟨_,_,rfl,r1,r3⟩
theorem xr (hc:X.calm=true):jB X (.builtin "max") (λxs H Q=>∃i j,xs=[.int i,.int j]/\Q (.int (if j > i then j else i)) H):=by
 intro pins s σ H xs us Q I r h;obtain⟨i,j,rfl,q⟩:=h;obtain⟨u,w',rfl,⟨t,rfl⟩,⟨t',rfl⟩⟩:=vals2 r;refine max_two_ints (I.ok.hd hc) λh' tk k=>⟨_,H,I.kept k,?_,q⟩
 by_cases hj:j > i
 ·rw[LM hj,LM hj];exact⟨_,rfl⟩
 ·rw[LL hj,LL hj];exact⟨_,rfl⟩
theorem xq (hc:X.calm=true):jB X (.builtin "min") (λxs H Q=>∃i j,xs=[.int i,.int j]/\Q (.int (if j<i then j else i)) H):=by
 intro pins s σ H xs us Q I r h;obtain⟨i,j,rfl,q⟩:=h;obtain⟨u,w',rfl,⟨t,rfl⟩,⟨t',rfl⟩⟩:=vals2 r;refine min_two_ints (I.ok.hd hc) λh' tk k=>⟨_,H,I.kept k,?_,q⟩
 by_cases hj:j<i
 ·rw[LM hj,LM hj];exact⟨_,rfl⟩
 ·rw[LL hj,LL hj];exact⟨_,rfl⟩
end
structure El (h:Heap) (x dx C:Addr) (mA:Str->Option Value):Prop where
 obj:h.get? x=some (PySem.W.instObj C dx)
 ns:h.Ns1 dx mA
 ne:dx≠x
theorem xb{h:Heap}{dx:Addr}{mA:Str->Option Value}(n:h.Ns1 dx mA):∃od,h.get? dx=some od/\∀name,PySem.W.lookIn name od=some (mA name):=by
 obtain⟨o,es,ep,ho,hd,hk,_,hm⟩:=n;refine⟨o,ho,λname=>?_⟩;have e:=hm name;unfold nsFind findBy at e;rw[<-Array.find?_toList] at e;unfold PySem.W.lookIn;rw[hd];dsimp only
 split
 ·rename_i y q;rw[q] at e;exact congrArg some e
 ·rename_i q;rw[q] at e;have a:es.toList.any (·.refKey)=false:=by
   rw[dw];intro y hy;obtain⟨z,t,hkey⟩:=hk y (iF.mp hy);simp[DictEntry.refKey,hkey]
  have a':¬es.toList.any (·.refKey)=true:=by rw[a];exact au
  rw[LL a'];exact congrArg some e
theorem El.look{h:Heap}{x dx C:Addr}{mA:Str->Option Value}(I:El h x dx C mA):∃od,PySem.W.InstAt h x (PySem.W.instObj C dx) C (some od)/\∀name,PySem.W.lookIn name od=some (mA name):=
 let ⟨od,ho,hl⟩:=xb I.ns
 ⟨od,⟨I.obj,rfl,rfl,ho⟩,hl⟩
theorem pL.some_of{v:V}{o:Option Value}(r:pL (some v) o):∃u,o=some u/\RelV v u:=by
 cases o with
 | none=>exact(show False from r).elim
 | some u=>exact⟨u,rfl,r⟩
section
variable {P:Program} {w:World} {H:Hp} {h:Heap} {a C dx:Addr} {fs:List (Str×V)}
theorem Bz(hok:mO P w H h)(e:H a=some (.ins C dx fs)):∃mA,El h a dx C mA/\(∀f,pL (fs.lookup f) (mA f))/\PySem.Within mA (fs.map (·.1))/\fs.length<=1000/\H dx=some (.own a):=by
 obtain⟨d,z,ne,ob,mA,n,r,q⟩:=(show dI P w H h a (.ins C dx fs) from hok a _ e)
 exact⟨mA,⟨ob,n,ne⟩,r,q,z,d⟩
end
structure Ho (K:LU) (C:Addr):Prop where
 pg:PySem.W.plainGet K C Str.empty=true
 hd:PySem.W.hasDictIn K C=true
 po:PySem.W.plainOver K C=true
 sa:PySem.W.findIn K (.ref C) "__setattr__"=some (some (.builtin "object.__setattr__"))
theorem Ho.get{K:LU}{C:Addr}(c:Ho K C)(f:Str):PySem.W.plainGet K C f=true:=c.pg
section
variable {X:Cx} {pins:List (Addr×Obj)} {σ:St} {H:Hp} {s:Shared} {A:Around} {E:Value->Shared->Prop} {Q:Value->Shared->Prop} {c:Value} {b:Bool}
inductive mq (K : LU) (H : Hp) : V → Value → Prop where
 | non : mq K H .non (.type "NoneType")
 | bl (x : Bool) : mq K H (.bl x) (.type "bool")
 | int (i : Int) : mq K H (.int i) (.type "int")
 | str (x : Str) : mq K H (.str x) (.type "str")
 | flt (x : UInt64) : mq K H (.flt x) (.type "float")
 | lst {a : Addr} {xs : List V} (e : H a = some (.lst xs)) : mq K H (.ref a) (.type "list")
 | frz {a : Addr} {o : Obj} {xs : List V} (e : H a = some (.frz o (.lst xs))) : mq K H (.ref a) (.type "list")
 | tup {a : Addr} {xs : List V} (e : H a = some (.tup xs)) : mq K H (.ref a) (.type "tuple")
 | dK {a : Addr} {kvs : List (Key × V)} (e : H a = some (.dK kvs)) : mq K H (.ref a) (.type "dict")
 | dT {a : Addr} {kvs : List (List Key × V)} (e : H a = some (.dT kvs)) : mq K H (.ref a) (.type "dict")
 | ins {a C dx : Addr} {fs : List (Str × V)} (e : H a = some (.ins C dx fs)) (cl : Ho K C) (ha : PySem.W.findIn K (.ref C) "__class__" = some (some (.builtin "object.__class__")))
   (hn : PySem.W.specialIn K (.builtin "object.__class__") "__get__" = some (some (.builtin "getset_descriptor.__get__"))) (htk : PySem.W.takesIn K (.builtin "object.__class__") = some true)
   (hm : PySem.W.mroIn K C (.type "object") = some true) : mq K H (.ref a) (.ref C)
theorem xg{x:V}{u t:Value}(I:bW X pins σ H s)(rx:RelV x u)(ty:mq X.K H x t)(e:PySem.W.kitOne X.K t c=some b)(h:∀tk,Q (.bool b) { s with toks:=tk }):
  wpAny (model X.prog X.w) A (call (.builtin "isinstance") [u,c]) Q E s:=by
 cases ty with
 | non=>cases (show u=Value.none from rx);exact cR PySem.W.kitx_none I.kIn True.intro e (λz=>nomatch z) h
 | bl y=>cases (show u=Value.bool y from rx);exact cR PySem.W.kitx_bool I.kIn True.intro e (λz=>nomatch z) h
 | int i=>obtain⟨t,q⟩:=(show ∃t,u=Value.int i t from rx);cases q;exact cR PySem.W.kitx_int I.kIn True.intro e (λz=>nomatch z) h
 | str y=>obtain⟨t,q⟩:=(show ∃t,u=Value.str y t from rx);cases q;exact cR PySem.W.kitx_str I.kIn True.intro e (λz=>nomatch z) h
 | flt y=>obtain⟨t,q⟩:=(show ∃t,u=Value.float y t from rx);cases q;exact cR PySem.W.kitx_float I.kIn True.intro e (λz=>nomatch z) h
 | @lst a xs ea=>
  cases (show u=Value.ref a from rx);obtain⟨_,_,n,_,h1⟩:=(show dI X.prog X.w H s.heap a (.lst xs) from I.hok a _ ea)
  exact cR PySem.W.kitx_list I.kIn ⟨_,h1,rfl⟩ e (λz=>nomatch z) h
 | @frz a ob xs ea=>
  cases (show u=Value.ref a from rx);obtain⟨_,_,_,n,_,h1⟩:=(show dI X.prog X.w H s.heap a (.frz ob (.lst xs)) from I.hok a _ ea)
  exact cR PySem.W.kitx_list I.kIn ⟨_,h1,rfl⟩ e (λz=>nomatch z) h
 | @tup a xs ea=>
  cases (show u=Value.ref a from rx);obtain⟨_,_,_,p⟩:=(show dI X.prog X.w H s.heap a (.tup xs) from I.hok a _ ea)
  obtain⟨o,h1,h2,_⟩:=p;exact cR PySem.W.kitx_tuple I.kIn ⟨o,h1,h2⟩ e (λz=>nomatch z) h
 | @dK a kvs ea=>
  cases (show u=Value.ref a from rx);obtain⟨_,_,vs,_,p⟩:=(show dI X.prog X.w H s.heap a (.dK kvs) from I.hok a _ ea)
  obtain⟨o,es,ep,h1,h2,_⟩:=p;exact cR PySem.W.kitx_dict I.kIn ⟨o,h1,h2.1⟩ e (λz=>nomatch z) h
 | @dT a kvs ea=>
  cases (show u=Value.ref a from rx);obtain⟨_,_,xs,_,o,es,ep,h1,h2,_⟩:=(show dI X.prog X.w H s.heap a (.dT kvs) from I.hok a _ ea)
  exact cR PySem.W.kitx_dict I.kIn ⟨o,h1,h2.1⟩ e (λz=>nomatch z) h
 | @ins a C dx fs ea cl ha hn htk hm=>
  cases (show u=Value.ref a from rx);obtain⟨mA,O,_⟩:=Bz I.hok ea;obtain⟨od,J,_⟩:=O.look;exact cR (PySem.W.kitx_own (cl.get _) cl.hd ha hn htk hm) I.kIn J e (λz=>nomatch z) h
end
structure jO (k:Nat) (A:Around):Prop where
 hd:A.handled=none
 dp:A.depth+3 * k+5<recursionLimit
 un:A.units+16 * k+200<cLine
 gd:A.guards=some []
theorem jO.mono{j k:Nat}{A:Around}(r:jO k A)(h:j<=k):jO j A:=⟨r.hd,by have:=r.dp;lia,by have:=r.un;lia,r.gd⟩
theorem jO.deeper{k:Nat}{A:Around}(r:jO (k+1) A)(env:Env):jO k (A.deeper env):=
 ⟨r.hd,by have:=r.dp;show A.depth+1+3*k+5<_;lia,by have:=r.un;show A.units+3+16*k+200<_;lia,r.gd⟩
theorem jO.depth{k:Nat}{A:Around}(r:jO k A):A.depth<recursionLimit:=by have:=r.dp;lia
theorem jO.units{k:Nat}{A:Around}(r:jO k A):A.units+64<cLine:=by have:=r.un;lia
def Fb:TA:=λ_ H Q=>Q [] H
def kh(ta:TE)(tr:TA):TA:=λσ H Q=>ta σ H λx H1=>tr σ H1 λxs H2=>Q (x::xs) H2
section
variable {X:Cx} {e:Expr} {es:List Expr} {te:TE} {t:TA} {pos:Pos}
theorem iU(ha:PE X e te)(hr:PA X es t)(hs:starEach (e::es) X.env=(false,eval e X.env)::starEach es X.env:=by rfl):PA X (e::es) (kh te t):=by
 intro pos pins s σ H Q I h;rw[hs];show wpAny _ _ (spliced ((false,eval e X.env)::backTo pos (starEach es X.env))) _ _ s;refine Calls.spliced_cons (dk (ha pins s σ H _ I h) λu s1 ⟨x,H1,I1,r1,q1⟩=>?_);exact dk (hr pos pins s1 σ H1 _ I1 q1) λus s2 ⟨xs,H2,I2,r2,q2⟩=>⟨x::xs,H2,I2,.cons r1 r2,q2⟩
def F5(t:TA):TE:=λσ H Q=>t σ H λxs H1=>xs.length<=sizeLine/\∀p,H1 p=none->Q (.ref p) (upd H1 p (.tup xs))
def Fc(t:TA):TE:=λσ H Q=>t σ H λxs H1=>xs.length<=sizeLine/\∀p,H1 p=none->Q (.ref p) (upd H1 p (.lst xs))
end
abbrev Sp:=List V->Hp->VK->XK->Prop
abbrev Au:=List Env->Hp->Shared->XK->Value->Shared->Prop
structure C2 (P:Program) (w:World) (K:LU) (mg:Str->Option Value) (base:Heap) (A:Around) (outer:List Env) (s:Shared) (H:Hp):Prop where
 frames:A.frames=some outer
 mod:Mod K mg base
 bs:∀ b o,base.get? b=some o->s.heap.get? b=some o/\H b=none
 bsz:base.objs.size<=s.heap.objs.size
 funs:s.heap.FunFrames base outer
 frf:∀ b∈uz outer,H b=none
 hok:mO P w H s.heap
 bare:AllBare s.gens
def CE(outer:List Env)(P:Program)(w:World)(H:Hp)(s:Shared)(Q:VK)(u:Value)(s':Shared):Prop:=
 ∃v H',s'.os=s.os/\AllBare s'.gens/\Un (uz outer) [] H H' s.heap s'.heap/\mO P w H' s'.heap/\RelV v u/\Q v H'
def CR(CX:Au)(outer:List Env)(P:Program)(w:World)(H:Hp)(s:Shared)(Q:VK)(E:XK)(r:Result)(s':Shared):Prop:=
 match r with
 | .ok (.ret u)=>CE outer P w H s Q u s'
 | .ok _=>False
 | .error e=>CX outer H s E e s'
structure pM (P:Program) (w:World) (K:LU) (mg:Str->Option Value) (base:Heap) (CX:Au) (k:Nat) (f:Addr) (fd:FuncData) (ps:List Str) (sp:Sp):Prop where
 len:∀ vs H Q E,sp vs H Q E->vs.length=ps.length
 run:∀ (A:Around) (outer:List Env) (s:Shared) (H:Hp) (args:Args) (us:List Value) (vs:List V) (Q:VK) (E:XK),jO k A->C2 P w K mg base A outer s H->BindsTo s fd args (ps.zip us)->bj vs us->sp vs H Q E →
  codeAny (model P w) A (.call (.ref f) args) (CR CX outer P w H s Q E) s
section
variable {X:Cx} {pins:List (Addr×Obj)} {σ:St} {H:Hp} {s s':Shared}
theorem bW.env0(I:bW X pins σ H s):C2 X.prog X.w X.K X.mg X.base X.A X.stack s H:=
 ⟨I.ok.frames,I.ok.mod,I.bs,bJ I.ok.bsz I.sz,I.stack,I.stkFree,I.hok,I.bare⟩
theorem bW.after{Q:VK}{u:Value}(I:bW X pins σ H s)(h:CE X.stack X.prog X.w H s Q u s'):EP X pins σ Q u s':=by
 obtain⟨v,H',os,bare,un,hok,r,q⟩:=h;obtain⟨hh,g,d,t,os'⟩:=s';obtain rfl:os'=s.os:=os;exact⟨v,H',I.call (h':=hh) (g':=g) (d':=d) (t':=t) (ch:=[]) un hok bare (λb z=>absurd z (by simp)),r,q⟩
end
def zK(sp:Sp)(dvs:List V)(E:XK)(t:TA):TE:=λσ H Q=>t σ H λvs H1=>sp (vs++dvs) H1 Q E
def Binds(K:LU)(fd:FuncData)(ps:List Str)(ds:List Value):Prop:=
 ∀(s:Shared) (us:List Value),K.In s.heap->(us++ds).length=ps.length->BindsTo s fd ⟨us,[]⟩ (ps.zip (us++ds))
theorem Binds.all{K:LU}{fd:FuncData}{ps:List Str}(h:∀us:List Value,us.length=ps.length->bindArgs fd ⟨us,[]⟩=pure (ps.zip us)):Binds K fd ps []:=λs us _ hl=>by
 rw[be] at hl ⊢;exact .of_eq (h us hl)
def vK(CX:Au)(X:Cx)(E:XK):Prop:=∀(pins:List (Addr×Obj)) (σ:St) (H:Hp) (s:Shared) (e:Value) (s':Shared),bW X pins σ H s->CX X.stack H s E e s'->X.xe e s'
section
variable {X:Cx} {CX:Au} {k:Nat} {f:Addr} {fd:FuncData} {ps:List Str} {sp:Sp} {dvs:List V} {ds:List Value} {E:XK} {x:Str} {p pos:Pos} {e:Expr} {es:List Expr} {t:TA}
theorem Du{pins:List (Addr×Obj)}{σ:St}{H:Hp}{s:Shared}{Q:VK}{us:List Value}{vs:List V}(F:pM X.prog X.w X.K X.mg X.base CX k f fd ps sp)(hr:jO k X.A)(hb:Binds X.K fd ps ds)(hd:bj dvs ds)(hx:vK CX X E)
  (I:bW X pins σ H s) (r:bj vs us) (h:sp (vs++dvs) H Q E):wpAny (model X.prog X.w) X.A (call (.ref f) us) (EP X pins σ Q) X.xe s:=by
 have r2:bj (vs++dvs) (us++ds):=r.append hd;have hl:(us++ds).length=ps.length:=by rw[<-r2.length];exact F.len _ _ _ _ h
 refine wpAny_call (codeAny_mono (F.run X.A X.stack s H ⟨us,[]⟩ (us++ds) (vs++dvs) Q E hr I.env0 (hb s us I.kIn hl) r2 h) λr s' hq=>?_);cases r with
 | error e=>exact hx pins σ H s e s' I hq
 | ok fl=>
  cases fl with
  | ret u=>exact I.after hq
  | next=>exact False.elim hq
  | brk=>exact False.elim hq
  | cont=>exact False.elim hq
theorem Bh(F:pM X.prog X.w X.K X.mg X.base CX k f fd ps sp)(hr:jO k X.A)(hg:Gl X x)(hm:X.mg x=some (.ref f))(hk:PySem.W.keepIn X.K (.ref f)=true)(hb:Binds X.K fd ps ds)(hd:bj dvs ds)(hx:vK CX X E)
  (ha:PA X (e::es) t) (hdb:(x==("__debug__":Str))=false:=by decide) (he:starEach (e::es) X.env=(false,eval e X.env)::starEach es X.env:=by rfl) (hpl:(backTo pos (starEach es X.env)).any (·.1)=false:=by rfl) :
  PE X (.Call (.Name x p) (e::es) [] pos) (zK sp dvs E t):=by
 intro pins s σ H Q I h;refine Ki (wI I hg hm ?_ hdb);refine PySem.W.callWith_K (h₀:=X.base) I.ok.mod.kin hk (dk (ha pos pins s σ H _ I h) λus s1 ⟨vs,H1,I1,r,q⟩=>⟨I1.kIn,?_⟩) he hpl;exact Du F hr hb hd hx I1 r q
end
structure cO (N P:List Str) (sc:Scope):Prop where
 kind:sc.kind=.function
 co:sc.isCoroutine=false
 gen:sc.isGenerator=false
 nd:N.Nodup
 pre:N.take P.length=P
 par:∀ x∈P,sc.names.lookup x=some .local\/sc.names.lookup x=some .cell
 nofree:∀ y∈sc.names,y.2≠.free
theorem qS{kindOf:Str->Option NameKind}{x:Str}:∀{binds:List (Str×Value)} {m:Str->Option Value},(∀v,(x,v)∉binds)->bindL kindOf binds m x=m x
 | [],_,_=>rfl
 | (n,v)::r,m,h=>by
  unfold bindL;rw[qS λw hw=>h w (aD _ hw)]
  split
  ·have:x≠n:=by rintro rfl;exact h v am
   simp[this]
  ·rfl
theorem qU{kindOf:Str->Option NameKind}{x:Str}:∀{binds:List (Str×Value)} {m:Str->Option Value},(∀v,(x,v)∉binds)->bindC kindOf binds m x=m x
 | [],_,_=>rfl
 | (n,v)::r,m,h=>by
  unfold bindC;rw[qU λw hw=>h w (aD _ hw)]
  split
  ·rfl
  ·have:x≠n:=by rintro rfl;exact h v am
   simp[this]
theorem qT{kindOf:Str->Option NameKind}{x:Str}{v:Value}:∀{P:List Str} {vs:List Value} {i:Nat} {m:Str->Option Value},P.Nodup->P[i]? = some x->vs[i]? = some v->kindOf x=some .local →
  bindL kindOf (P.zip vs) m x=some v
 | [],_,_,_,_,h,_,_=>by simp at h
 | _::_,[],_,_,_,_,h,_=>by simp at h
 | p::P,w::vs,0,m,nd,h1,h2,hk=>by
  simp at h1 h2;subst h1;subst h2;show bindL kindOf ((p,w)::P.zip vs) m p=_;unfold bindL;rw[qS λv hv=>(cm.mp nd).1 (ff hv).1,LM hk];simp
 | p::P,w::vs,i+1,m,nd,h1,h2,hk=>by
  show bindL kindOf ((p,w)::P.zip vs) m x=_;unfold bindL;exact qT (i:=i) (cm.mp nd).2 (by simpa using h1) (by simpa using h2) hk
theorem qV{kindOf:Str->Option NameKind}{x:Str}{v:Value}:∀{P:List Str} {vs:List Value} {i:Nat} {m:Str->Option Value},P.Nodup->P[i]? = some x->vs[i]? = some v->kindOf x≠some .local →
  bindC kindOf (P.zip vs) m x=some v
 | [],_,_,_,_,h,_,_=>by simp at h
 | _::_,[],_,_,_,_,h,_=>by simp at h
 | p::P,w::vs,0,m,nd,h1,h2,hk=>by
  simp at h1 h2;subst h1;subst h2;show bindC kindOf ((p,w)::P.zip vs) m p=_;unfold bindC;rw[qU λv hv=>(cm.mp nd).1 (ff hv).1,LL hk];simp
 | p::P,w::vs,i+1,m,nd,h1,h2,hk=>by
  show bindC kindOf ((p,w)::P.zip vs) m x=_;unfold bindC;exact qV (i:=i) (cm.mp nd).2 (by simpa using h1) (by simpa using h2) hk
def start(N:List Str)(vs:List V):St:=vs.map some++List.replicate (N.length-vs.length) none
def t6(CX:Au)(P:Program)(w:World)(K:LU)(mg:Str->Option Value)(base:Heap)(N:List Str)(qual:Str)(scope:Scope)(f:Addr)(cd:Value)(A:Around)(outer:List Env)(s:Shared)(H:Hp)(E:XK):Cx where
 prog:=P
 w:=w
 K:=K
 mg:=mg
 base:=base
 A:=A.deeper (envOfC qual scope s.heap.objs.size f cd)
 N:=N
 s₀:=s
 H₀:=H
 env:=envOfC qual scope s.heap.objs.size f cd
 outer:=outer
 stack:=envOfC qual scope s.heap.objs.size f cd::outer
 ex:=[]
 calm:=true
 fn:=λ_=>true
 pn:=[]
 xe:=λe s'=>wpAny (model P w) (A.deeper (envOfC qual scope s.heap.objs.size f cd)) (leaving (envOfC qual scope s.heap.objs.size f cd) e) (λ_ s''=>CX outer H s E e s'') (λe' s''=>CX outer H s E e' s'') s'
theorem tj{sc:Scope}{n:Nat}{x:Str}(h:sc.names.lookup x=some .cell):∃c,(cellsFrom n sc.names []).lookup x=some c:=by
 have q:=kL sc.names n [] (.inl h);exact jQ.mp q
theorem xh{CX:Au}{P:Program}{w:World}{K:LU}{mg:Str->Option Value}{base:Heap}{N ps:List Str}{qual:Str}{scope:Scope}{f:Addr}{cd:Value}{A:Around}{outer:List Env}{s s1:Shared}{H:Hp}{E:XK}{us:List Value}{vs:List V}
  (S:cO N ps scope) (hd:A.handled=none) (e0:C2 P w K mg base A outer s H) (hl:vs.length=ps.length) (r:bj vs us)
  (x:InCallC s s.heap.objs.size (bindL (envOfC qual scope s.heap.objs.size f cd).kindOf (ps.zip us) λ_=>none) (cellsFrom (s.heap.objs.size+1) scope.names []) (bindC (envOfC qual scope s.heap.objs.size f cd).kindOf (ps.zip us) λ_=>none) s1) :
  bW (t6 CX P w K mg base N qual scope f cd A outer s H E) [] (start N vs) H s1:=by
 have hpl:ps.length<=N.length:=by have:=congrArg List.length S.pre;rw[bS] at this;lia
 obtain⟨h1,tk,rfl,hk⟩:=x.done;have noA:∀b:Addr,b∉(t6 CX P w K mg base N qual scope f cd A outer s H E).ex:=λb z=>absurd (show b∈([]:List Addr) from z) (by simp);refine⟨⟨e0.mod,S.kind,rfl,rfl,aB _,λy z c h1 h2=>?_,λy hy=>?_,λy c _ h=>?_,λ_=>hd,Around.frames_deeper e0.frames,.inr ⟨rfl,rfl⟩,λb z=>absurd z (noA b),e0.bs,e0.bsz,λb _ _=>noA b,λb z=>absurd z (noA b),e0.funs,e0.frf⟩,
  rfl,e0.bare,Un.kept hk,⟨_,x.toInCall.ns,λi y v h1 h2 h3=>?_⟩,λy c h=>⟨_,x.cell y c h⟩,e0.hok.fresh (aB _),λy c h=>?_,λp hp=>absurd (show p∈([]:List (Addr×Obj)) from hp) (by simp),e0.hok.kept hk,?_⟩
 ·exact name_of_addr x.apart (c8 h1) (c8 h2)
 ·have hy:scope.names.lookup y=some .cell\/scope.names.lookup y=some .free:=hy;rcases hy with hy | hy
  ·exact tj hy
  ·exact absurd rfl (S.nofree _ (c8 hy))
 ·exact cN (x.above y c (c8 h))
 ·have hi:i<vs.length:=by
   unfold start at h2;by_cases hi:i<vs.length
   ·exact hi
   ·rw[a8 (by simpa using hi)] at h2;rw[fx] at h2
    split at h2<;>cases h2
  have ha:vs[i]? = some v:=by
   unfold start at h2;rw[bG (by simpa using hi),bV] at h2;cases e:vs[i]? with
   | none=>rw[e] at h2;cases h2
   | some a=>rw[e] at h2;cases h2;rfl
  obtain⟨u,hu,rv⟩:=r.get ha;have hp:ps[i]? = some y:=by
   rw[<-S.pre,List.getElem?_take_of_lt (by lia)];exact h1
  have ndP:ps.Nodup:=by rw[<-S.pre];exact S.nd.sublist (jG _ _)
  refine⟨u,rv,?_⟩;rcases S.par y (ax hp) with k | k
  ·exact .inl ⟨k,qT ndP hp hu k⟩
  ·obtain⟨c,e⟩:=tj (n:=s.heap.objs.size+1) k;refine .inr ⟨.inl k,c,e,?_⟩;have q:=x.cell y c e;rw[qV ndP hp hu (by show scope.names.lookup y≠_;rw[k];decide)] at q;exact q
 ·exact e0.hok.fresh (cN (x.above y c (c8 h)))
 ·unfold start;show _=N.length;rw[aR,aC,ka];lia
theorem GZ{CX:Au}{P:Program}{w:World}{K:LU}{mg:Str->Option Value}{base:Heap}{k:Nat}{f:Addr}{name qual:Str}{params:Arguments}{body:List Stmt}{scope:Scope}{dV kV doc pm cdv ct oc:Value}{an od:Option Addr}
  {osl:Array (Option Value)} {N ps:List Str} {sp:Sp} (lk:K.lookup f=some ⟨oc,od,.func (PySem.W.fnOf name qual params body scope dV kV doc pm an cdv ct),osl⟩) (hcd:PySem.W.codeIn K cdv qual=true) (S:cO N ps scope)
  (len:∀vs H Q E,sp vs H Q E->vs.length=ps.length)
  (hbody:∀(A:Around) (outer:List Env) (s:Shared) (H:Hp) (vs:List V) (Q:VK) (E:XK),jO k (A.deeper (envOfC qual scope s.heap.objs.size f cdv))->sp vs H Q E →
   ∃t,Ej (t6 CX P w K mg base N qual scope f cdv A outer s H E) body t/\t { nx:=λ_ H'=>Q .non H',rt:=Q } (start N vs) H) :
  pM P w K mg base CX (k+1) f (PySem.W.fnOf name qual params body scope dV kV doc pm an cdv ct) ps sp:=by
 refine⟨len,λA outer s H args us vs Q E hr e0 hb r hsp=>?_⟩;have hl:=len _ _ _ _ hsp;have KX:K.In s.heap:=e0.mod.kin.keeps λb o e=>(e0.bs b o e).1;have lim:s.heap.NoLimit:=e0.mod.nolimit.keeps λb o e=>(e0.bs b o e).1;have hkind:∀y∈ps.zip us,scope.names.lookup y.1=some .local\/(scope.names.lookup y.1=some .cell/\((cellsFrom (s.heap.objs.size+1) scope.names []).lookup y.1).isSome=true):=λ⟨n,v⟩ hy=>by
  rcases S.par n (ff hy).1 with q | q
  ·exact .inl q
  ·exact .inr ⟨q,kL _ _ _ (.inl q)⟩
 refine codeAny_call_function hr.depth (KX _ _ lk) rfl S.co S.gen rfl (PySem.W.codeRec_of KX hcd) (hb _ _ _ _ ?_);refine wpAny_newFunctionEnv_cells S.kind hkind λenv he s1 x=>?_;subst he;refine⟨lim.keeps x.toInCall.keep,codeAny_func ?_⟩;obtain⟨t,ht,hq⟩:=hbody A outer s H vs Q E (hr.deeper _) hsp;have I:bW (t6 CX P w K mg base N qual scope f cdv A outer s H E) [] (start N vs) H s1:=xh S hr.hd e0 hl r x;refine Kb (ht [] s1 (start N vs) H _ I hq) (λfl s' hs=>?_) λe s' hs=>hs;have fin:∀{σ':St} {H':Hp} {v:V} {u:Value},bW (t6 CX P w K mg base N qual scope f cdv A outer s H E) [] σ' H' s'->RelV v u->Q v H'->CE outer P w H s Q u s':=
  fun {σ' H' v u} J rv q=>⟨v,H',J.os,J.bare,J.base,J.hok,rv,q⟩
 cases fl with
 | ret u=>
  obtain⟨v,σ',H',J,rv,q⟩:=hs;exact fin J rv q
 | next=>
  obtain⟨σ',H',J,q⟩:=hs;exact fin (v:=V.non) (u:=Value.none) J rfl q
 | brk=>
  obtain⟨_,_,_,q⟩:=hs;exact False.elim q
 | cont=>
  obtain⟨_,_,_,q⟩:=hs;exact False.elim q
section
variable {t:TA} {r:List V->Hp->VK->Prop}
def HJ(r:List V->Hp->VK->Prop)(t:TA):TE:=λσ H Q=>t σ H λvs H1=>r vs H1 Q
end
end L2
namespace HT
open PySem PyProof.Rows
section
variable {prog:Program} {w:World} {A:Around} {E:Value->Shared->Prop} {s:Shared}
theorem cat_tup{t b:Addr}{vs ws:List Value}{Q:Value->Shared->Prop}(ht:IsTup s.heap t vs.toArray)(hb:IsTup s.heap b ws.toArray)(hv:vs≠[])
  (h1:ws=[]->Q (.ref t) s) (h2:ws≠[]->Q (.ref s.heap.objs.size) { s with heap:=s.heap.push { cls:=.type "tuple",data:=.seq (vs++ws).toArray } })
  (hsz:vs.length+ws.length<=sizeLine):wpAny (model prog w) A (binaryOp .Add (.ref t) (.ref b)) Q E s:=by
 obtain⟨⟨cls,dd,data,sl⟩,ho,hc,n,hd⟩:=id ht;obtain⟨⟨cls2,dd2,data2,sl2⟩,ho2,hc2,n2,hd2⟩:=id hb;simp only at hc hd hc2 hd2;subst hc hd hc2 hd2;have e:vs.toArray++ws.toArray=(vs++ws).toArray:=by simp
 by_cases hw:ws=[]
 ·exact concat_meets ⟨_,ho,rfl⟩ ⟨_,ho2,rfl⟩ noFill_tuple_add seq_tuple_add gE fu (fb _ _)
   (tuple_addW1 t b vs.toArray ws.toArray n n2 dd dd2 sl sl2 (by simpa using hv) (by simp[hw])) ⟨ho,ho2,h1 hw⟩
 ·refine concat_meets ⟨_,ho,rfl⟩ ⟨_,ho2,rfl⟩ noFill_tuple_add seq_tuple_add gE fu (fb _ _)
   (tuple_addW2 t b vs.toArray ws.toArray n n2 dd dd2 sl sl2 (by simpa using hv) (by simpa using hw) (by rw[aH,aH];exact hsz)) ⟨ho,ho2,?_⟩
  rw[e];exact h2 hw
def sIx(n d:Nat):Option Int->Nat
 | none=>d
 | some v=>if v<0 then (v+(n:Int)).toNat else min v.toNat n
theorem sIx_none(n d:Nat):sIx n d none=d:=rfl
theorem sIx_nat(n d k:Nat):sIx n d (some (k:Int))=min k n:=by
 show (if (k:Int)<0 then ((k:Int)+(n:Int)).toNat else min (k:Int).toNat n)=min k n;rw[LL (by lia),fL]
theorem Dt(n d:Nat)(hd:d<=n)(o:Option Int):sIx n d o<=n:=by
 cases o with
 | none=>exact hd
 | some v=>
  show (if v<0 then (v+(n:Int)).toNat else min v.toNat n)<=n;by_cases hv:v<0
  ·rw[LM hv];lia
  ·rw[LL hv];exact Nat.min_le_right _ _
theorem w5(v:Int)(n d:Nat):(if v<0 then max (v+(n:Int)) 0 else min v (n:Int))=((sIx n d (some v):Nat):Int):=by
 show (if v<0 then max (v+(n:Int)) 0 else min v (n:Int))=(((if v<0 then (v+(n:Int)).toNat else min v.toNat n):Nat):Int)
 by_cases hv:v<0
 ·simp only[LM hv];lia
 ·simp only[LL hv];lia
theorem vH(lo hi:Option Int)(n:Nat):Builtin.Slice.sliceAdjust lo hi 1 (n:Int)=(((sIx n 0 lo:Nat):Int),((sIx n n hi:Nat):Int)):=by
 have h1:¬((1:Int)<0):=by lia
 unfold Builtin.Slice.sliceAdjust;simp only[h1,LS];refine Prod.ext ?_ ?_
 ·cases lo with
  | none=>rfl
  | some v=>exact w5 v n 0
 ·cases hi with
  | none=>rfl
  | some v=>exact w5 v n n
theorem u6(i j:Nat):Builtin.Slice.slicePlaces (i:Int) (j:Int) 1=j-i:=by
 unfold Builtin.Slice.slicePlaces;have h1:(1:Int) > 0:=by lia
 simp only[h1,LR,Int.ediv_one]
 split<;>lia
theorem oN{v:Value}{o:Option Int}{Q:Option Int->Shared->Prop}(p:IsPart v o)(h:Q o s):wpAny (model prog w) A (Builtin.Slice.slicePartIndex v) Q E s:=by
 cases p with
 | none=>exact slicePart_none h
 | int i t=>exact slicePart_int h
theorem jW{sl:Addr}{vl vu:Value}{lo hi:Option Int}{n:Nat}{Q:Int×Int×Nat->Shared->Prop}(hs:s.heap.IsSliceOf sl vl vu .none)(pl:IsPart vl lo)(pu:IsPart vu hi)
  (h:Q (((sIx n 0 lo:Nat):Int),1,sIx n n hi-sIx n 0 lo) s):wpAny (model prog w) A (Builtin.Slice.sliceApplied (.ref sl) (pure (n:Int))) Q E s:=by
 obtain⟨os,hos,hcs,hds⟩:=id hs;unfold Builtin.Slice.sliceApplied Builtin.Slice.sliceFields;refine wpAny_bind (wpAny_bind (Kj hos hds (x:=vl) rfl (wpAny_bind (Kj hos hds (x:=vu) rfl (wpAny_bind (Kj hos hds (x:=.none) rfl (Kd ?_)))))));refine wpAny_bind (slicePart_none ?_);show wpAny _ _ (if ((1:Int)==0)=true then _ else _) _ _ s;rw[LL (by decide)];refine wpAny_bind (oN pl (wpAny_bind (oN pu (wpAny_bind (Kd ?_)))));show wpAny _ _ (match Builtin.Slice.sliceAdjust lo hi 1 (n:Int) with | (lo,hi)=>pure (lo,(1:Int),Builtin.Slice.slicePlaces lo hi 1)) _ _ s;rw[vH lo hi n];show wpAny _ _ (pure (((sIx n 0 lo:Nat):Int),(1:Int),Builtin.Slice.slicePlaces ((sIx n 0 lo:Nat):Int) ((sIx n n hi:Nat):Int) 1)) _ _ s;rw[u6];exact Kd h
theorem zk(xs:Array Value)(i k:Nat):((List.range k).filterMap λ(m:Nat)=>xs[((i:Int)+(m:Int)*1).toNat]?).toArray=((xs.toList.drop i).take k).toArray:=by
 have e:(λ(m:Nat)=>xs[((i:Int)+(m:Int)*1).toNat]?)=λm=>xs[i+m]?:=by
  funext m;have:((i:Int)+(m:Int)*1).toNat=i+m:=by lia
  rw[this]
 rw[e];have:=pick_run xs i k;rw[List.filterMap_map] at this;have e2:((λx=>xs[x]?)∘λx=>i+x)=λm=>xs[i+m]?:=rfl;rw[e2] at this;rw[this]
theorem getItem_tuple_cut{t sl:Addr}{items:Array Value}{vl vu:Value}{lo hi:Option Int}{Q:Value->Shared->Prop}(ht:IsTup s.heap t items)(hs:s.heap.IsSliceOf sl vl vu .none)(pl:IsPart vl lo)(pu:IsPart vu hi)
  (hw:¬(sIx items.size 0 lo=0/\sIx items.size items.size hi=items.size))
  (h:Q (.ref s.heap.objs.size) { s with heap:=s.heap.push { cls:=.type "tuple",data:=.seq ((items.toList.drop (sIx items.size 0 lo)).take (sIx items.size items.size hi-sIx items.size 0 lo)).toArray } })
  (hsz:items.size<=sizeLine):wpAny (model prog w) A (getItem (.ref t) (.ref sl)) Q E s:=by
 have htake:sizeOk (.seq ((items.toList.drop (sIx items.size 0 lo)).take (sIx items.size items.size hi-sIx items.size 0 lo)).toArray):=by
  show ((items.toList.drop (sIx items.size 0 lo)).take (sIx items.size items.size hi-sIx items.size 0 lo)).toArray.size<=sizeLine;rw[aH,bS,cU,bQ];lia
 have hj:sIx items.size items.size hi<=items.size:=Dt _ _ (aB _) hi;obtain⟨os,hos,hcs,hds⟩:=id hs;have hTs:s.TypeIs (.ref sl) "slice":=⟨os,hos,hcs⟩
 unfold getItem
 try with_reducible refine Kl ?_
 first | refine wpAny_bind (Kd ?_) | skip
 refine wpAny_bind (wpAny_sequenceKey ht.typeIs (by decide) ?_);refine wpAny_bind (wpAny_callSpecial?_slot (name:=Str.ofString "__getitem__") ht.typeIs bx
  (Km bx ht.typeIs entry_tuple_getitem ?_ (args_tuple_getitem _ _)))
 show wpAny _ _ (Builtin.Tuple.tupleItemsOf (.ref t)>>=_) _ _ s;refine wpAny_bind (tupleItemsOf_ ht ?_);refine wpAny_bind (wpAny_typeOf hTs ?_);rw[LM (by decide)];refine wpAny_bind (jW hs pl pu ?_);have hno:¬((((sIx items.size 0 lo:Nat):Int)==0&&(1:Int)==1&&(sIx items.size items.size hi-sIx items.size 0 lo)==items.size)=true):=by
  intro q;rw[cW,cW] at q;have q1:((sIx items.size 0 lo:Nat):Int)=0:=eq_of_beq q.1.1;have q2:sIx items.size items.size hi-sIx items.size 0 lo=items.size:=eq_of_beq q.2;exact hw ⟨by lia,by lia⟩
 show wpAny _ _ (if (((sIx items.size 0 lo:Nat):Int)==0&&(1:Int)==1&&(sIx items.size items.size hi-sIx items.size 0 lo)==items.size)=true then _ else _) _ _ s;rw[LL hno,zk]
 first
  | exact wpAny_bind (m:=Builtin.Tuple.tupleExact _) (Kn (Kd ⟨_,rfl,Kd h⟩) htake)
  | exact wpAny_bind (m:=Builtin.Tuple.tupleExact _) (Kn (wpAny_bind (Kd (Kd ⟨_,rfl,Kd h⟩))) htake)
  | exact wpAny_bind (wpAny_bind (m:=Builtin.Tuple.tupleExact _) (Kn (Kd (Kd ⟨_,rfl,Kd h⟩)) htake))
  | exact wpAny_bind (wpAny_bind (m:=Builtin.Tuple.tupleExact _) (Kn (Kd ⟨_,rfl,Kd h⟩) htake))
end
end HT
namespace L2
open PySem PySem.Spec PyProof.Rows
abbrev TO:=St->Hp->(Option Int->Hp->Prop)->Prop
def PO(X:Cx)(e:Option Expr)(t:TO):Prop:=
 ∀(pins:List (Addr×Obj)) (s:Shared) (σ:St) (H:Hp) (Q:Option Int->Hp->Prop),bW X pins σ H s->t σ H Q →
  wpAny (model X.prog X.w) X.A (evalPart e X.env) (λu s'=>∃o H',bW X pins σ H' s'/\IsPart u o/\Q o H') X.xe s
def v9:TO:=λ_ H Q=>Q none H
def Cf(t:TE):TO:=λσ H Q=>t σ H λx H1=>∃i,x=.int i/\Q (some i) H1
section
variable {X:Cx} {te:TE} {lo hi:Option Expr} {tl th:TO} {p2:Pos}
def Ez(X:Cx)(r:V->Option Int->Option Int->Hp->VK->Prop):Prop:=
 ∀(pins:List (Addr×Obj)) (s:Shared) (σ:St) (H:Hp) (x:V) (v vl vu:Value) (lo hi:Option Int) (sl:Addr) (Q:VK),bW X pins σ H s->RelV x v->s.heap.IsSliceOf sl vl vu .none->IsPart vl lo->IsPart vu hi->r x lo hi H Q →
  ∃T id,typeLookup (.type T) "__getitem__"=pure (some (.builtin id))/\s.TypeIs v T/\wpAny (model X.prog X.w) X.A (getItem v (.ref sl)) (EP X pins σ Q) X.xe s
def Hw(r:V->Option Int->Option Int->Hp->VK->Prop)(te:TE)(tl th:TO):TE:=λσ H Q=>te σ H λx H1=>tl σ H1 λl H2=>th σ H2 λu H3=>r x l u H3 Q
def mj(xs:List V)(lo hi:Option Int):List V:=(xs.drop (HT.sIx xs.length 0 lo)).take (HT.sIx xs.length xs.length hi-HT.sIx xs.length 0 lo)
theorem nY(xs:List V)(lo hi:Option Int):(mj xs lo hi).length<=xs.length:=by
 unfold mj;rw[bS,cU];lia
def HQ(K:LU):V->Option Int->Option Int->Hp->VK->Prop:=λx lo hi H Q=>∃a xs,x=.ref a/\eR K H a xs ∧
 ¬(HT.sIx xs.length 0 lo=0/\HT.sIx xs.length xs.length hi=xs.length)/\∀p,H p=none->Q (.ref p) (upd H p (.tup (mj xs lo hi)))
theorem Do:Ez X (HQ X.K):=by
 intro pins s σ H x v vl vu lo hi sl Q I rx hs pl pu h;obtain⟨a,xs,rfl,hx,hw,q⟩:=h;cases rx;obtain⟨its,r,ht,hz⟩:=I.tuple hx;have hlen:its.toArray.size=xs.length:=by rw[aH];exact r.length.symm
 refine⟨"tuple",_,bx.lookup,ht.typeIs,?_⟩;refine HT.getItem_tuple_cut ht hs pl pu (by rw[hlen];exact hw) ?_ (by rw[hlen];exact hz);rw[hlen];refine⟨.ref s.heap.objs.size,_,I.laid (t':=s.toks) (o:=.tup (mj xs lo hi)) (λb ob q=>aA _ q) (aB _) ?_,rfl,q _ (I.hok.fresh (aB _))⟩;exact⟨bJ (nY xs lo hi) hz,_,(r.drop (HT.sIx xs.length 0 lo)).take (HT.sIx xs.length xs.length hi-HT.sIx xs.length 0 lo),IsTup.new _ _⟩
def GF(K:LU):R2:=λx y H Q=>∃a b xs ys,x=.ref a/\y=.ref b/\eR K H a xs/\eR K H b ys/\xs≠[]/\xs.length+ys.length<=sizeLine ∧
 (ys=[]->Q (.ref a) H)/\(ys≠[]->∀p,H p=none->Q (.ref p) (upd H p (.tup (xs++ys))))
theorem bj.nil_iff{xs:List V}{us:List Value}(r:bj xs us):us=[]<->xs=[]:=by
 cases r with
 | nil=>simp
 | cons _ _=>simp
theorem Bj:mS X (binaryOp .Add) (GF X.K):=by
 intro pins s σ H x y v u Q I rx ry h;obtain⟨a,b,xs,ys,rfl,rfl,ha,hb,hx,hz,q1,q2⟩:=h;cases rx;cases ry;obtain⟨its,r1,p1,_⟩:=I.tuple ha;obtain⟨its2,r2,p2,_⟩:=I.tuple hb;refine HT.cat_tup p1 p2 (λz=>hx (r1.nil_iff.mp z)) (λz=>⟨.ref a,H,I,rfl,q1 (r2.nil_iff.mp z)⟩) (λz=>?_) (by rw[<-r1.length,<-r2.length];exact hz);refine⟨.ref s.heap.objs.size,_,I.laid (t':=s.toks) (o:=.tup (xs++ys)) (λb ob q=>aA _ q) (aB _) ?_,rfl,q2 (λw=>z (r2.nil_iff.mpr w)) _ (I.hok.fresh (aB _))⟩;exact⟨by rw[aR];exact hz,_,r1.append r2,IsTup.new _ _⟩
end
def Av(n:Nat)(i:Int):Option Nat:=if 0<=i then (if i<n then some i.toNat else none) else if -(n:Int)<=i then some (i+n).toNat else none
def uC{α:Type}(xs:List α)(i:Int):Option α:=(Av xs.length i).bind λj=>xs[j]?
theorem wJ{n:Nat}{i:Int}{j:Nat}(h:Av n i=some j):seqIndex? i n=some j/\j<n/\-(n:Int)<=i/\i<n:=by
 unfold Av at h;by_cases h0:0<=i
 ·rw[LM h0] at h;by_cases h1:i<n
  ·rw[LM h1] at h;have e:i.toNat=j:=bT h;exact⟨by rw[seqIndex_of h0 h1,e],by lia,by lia,h1⟩
  ·rw[LL h1] at h;cases h
 ·rw[LL h0] at h;by_cases h1:-(n:Int)<=i
  ·rw[LM h1] at h;have e:(i+n).toNat=j:=bT h;exact⟨by rw[seqIndex_neg (by lia) h1,e],by lia,h1,by lia⟩
  ·rw[LL h1] at h;cases h
theorem rV{α:Type}{xs:List α}{i:Int}{v:α}(h:uC xs i=some v):∃j,seqIndex? i xs.length=some j/\xs[j]? = some v/\j<xs.length/\-(xs.length:Int)<=i/\i<xs.length:=by
 unfold uC at h;cases e:Av xs.length i with
 | none=>rw[e] at h;cases h
 | some j=>
  rw[e] at h;obtain⟨h1,h2,h3,h4⟩:=wJ e;exact⟨j,h1,h,h2,h3,h4⟩
theorem l4{α:Type}{xs:List α}{j:Nat}{v:α}(h:xs[j]? = some v):uC xs (j:Int)=some v:=by
 have hj:j<xs.length:=(aI.mp h).1;have e:Av xs.length (j:Int)=some j:=by
  unfold Av;rw[LM (by lia),LM (by lia)];simp
 unfold uC;rw[e];exact h
def CW(b:Expr):Prop:=∀o i,subscripted b false o i=operate [o,i] (getItem o i)
def Gf(X:Cx)(r:R2):Prop:=
 ∀(value slice:Expr) (pins:List (Addr×Obj)) (s:Shared) (σ:St) (H:Hp) (x y:V) (v u:Value) (Q:VK),bW X pins σ H s->RelV x v->RelV y u->r x y H Q →
  subscripted slice false v u=operate [v,u] (getItem v u)->wpAny (model X.prog X.w) X.A (subscriptTail value slice v u) (EP X pins σ Q) X.xe s
def Hl(X:Cx)(id:String)(r:V->List V->Hp->VK->Prop):Prop:=
 ∀(pins:List (Addr×Obj)) (s:Shared) (σ:St) (H:Hp) (x:V) (xs:List V) (v:Value) (us:List Value) (Q:VK),bW X pins σ H s->RelV x v->bj xs us->r x xs H Q →
  wpAny (model X.prog X.w) X.A (call (.builtin id) (v::us)) (EP X pins σ Q) X.xe s
section
variable {X:Cx} {a b:Expr}
def GA(K:LU):R2:=λx y H Q=>∃p xs i v,x=.ref p/\y=.int i/\cy K H p xs/\uC xs i=some v/\Q v H
def EA(K:LU):R2:=λx y H Q=>∃p xs i v,x=.ref p/\y=.int i/\eR K H p xs/\uC xs i=some v/\Q v H
def Fz:R2:=λx y H Q=>∃z i c,x=.str z/\y=.int i/\z.length<=sizeLine/\uC z.cps.toList i=some c/\Q (.str ⟨#[c]⟩) H
theorem fJ:Gf X (GA X.K):=by
 intro value slice pins s σ H x y v u Q I rx ry h hs;obtain⟨p,xs,i,z,rfl,rfl,hq,he,q⟩:=h;cases rx;obtain⟨t,rfl⟩:=ry;obtain⟨its,r,pl,hz⟩:=I.list hq;obtain⟨j,h1,h2,h3,h4,h5⟩:=rV he;obtain⟨w,ew,rw'⟩:=r.get h2;have hl:=r.length;have hn:=kz;have fin:EP X pins σ Q w s:=⟨z,H,I,rw',q⟩
 by_cases h0:0<=i
 ·have hj:i.toNat=j:=by
   rw[seqIndex_of h0 h5] at h1;exact bT h1
  exact item_listR pl.isList h0 (by lia) (by rw[hj];simpa using ew) fin hs
 ·have hj:(i+(its.toArray.size:Int)).toNat=j:=by
   rw[seqIndex_neg (by lia) h4] at h1;rw[aH,<-hl];exact bT h1
  exact subscriptTail_builtinR (x:=w) pl.isList.typeIs slot_list_getitem.lookup
   (wpAny_getItem_list_neg (Q:=λr s'=>r=w/\EP X pins σ Q r s') pl.isList (by lia) (by rw[aH]<;>lia) (by lia) (by rw[hj];simpa using ew) ⟨rfl,fin⟩) hs
theorem kH:Gf X (EA X.K):=by
 intro value slice pins s σ H x y v u Q I rx ry h hs;obtain⟨p,xs,i,z,rfl,rfl,hq,he,q⟩:=h;cases rx;obtain⟨t,rfl⟩:=ry;obtain⟨its,r,pl,hz⟩:=I.tuple hq;obtain⟨j,h1,h2,h3,h4,h5⟩:=rV he;obtain⟨w,ew,rw'⟩:=r.get h2;have hl:=r.length;have hn:=kz;have fin:EP X pins σ Q w s:=⟨z,H,I,rw',q⟩
 exact subscriptTail_builtinR (x:=w) pl.typeIs slot_tuple_getitem.lookup
  (getItem_tuple (j:=j) (Q:=λr s'=>r=w/\EP X pins σ Q r s') pl (by lia) (by lia) (by rw[aH,<-hl];exact h1) (by simpa using ew) ⟨rfl,fin⟩) hs
theorem oj:Gf X Fz:=by
 intro value slice pins s σ H x y v u Q I rx ry h hs;obtain⟨z,i,c,rfl,rfl,hz,he,q⟩:=h;obtain⟨t,rfl⟩:=rx;obtain⟨t',rfl⟩:=ry;obtain⟨j,h1,h2,h3,h4,h5⟩:=rV he;have hl:z.cps.toList.length=z.length:=by simp[Str.length]
 rw[hl] at h1 h4 h5;have hn:=kz;exact tail_any (Ko s z t) slot_str_getitem.lookup (getItem_str (c:=c) (by
  have e1:decide (i < -(2 ^ 63:Int))=false:=LO (by lia);have e2:decide (i>=2 ^ 63)=false:=LO (by lia);rw[e1,e2,mC]) (by rw[h1];simpa using h2) ⟨.str ⟨#[c]⟩,H,I.tok _,⟨_,rfl⟩,q⟩) hs
theorem ur (its:List Value) (n j:Nat) (u:Value):Obj.mapSeq (·.setIfInBounds j u) { cls:=.type "list",data:=.seq its.toArray n }={ cls:=.type "list",data:=.seq (its.set j u).toArray n }:=by
 simp[Obj.mapSeq]
theorem bW.lst{pins:List (Addr×Obj)}{σ:St}{H:Hp}{s:Shared}{p:Addr}{xs:List V}(I:bW X pins σ H s)(h:H p=some (.lst xs)):
  ∃(its:List Value) (n:Nat),bj xs its/\s.heap.get? p=some { cls:=.type "list",data:=.seq its.toArray n }/\xs.length<=sizeLine:=by
 obtain⟨z,its,n,r,e⟩:=I.hok p _ h;exact⟨its,n,r,e,z⟩
theorem bW.lstUpd{pins:List (Addr×Obj)}{σ:St}{H:Hp}{s:Shared}{p:Addr}{xs ys:List V}{its its':List Value}{n n':Nat}{f:Obj->Obj}(I:bW X pins σ H s)(h:H p=some (.lst xs))
  (ho:s.heap.get? p=some { cls:=.type "list",data:=.seq its.toArray n }) (hf:f { cls:=.type "list",data:=.seq its.toArray n }={ cls:=.type "list",data:=.seq its'.toArray n' }) (r:bj ys its') (hz:ys.length<=sizeLine) (t:Nat) :
  bW X pins σ (upd H p (.lst ys)) { s with heap:=s.heap.update p f,toks:=t }:=by
 have e:(s.heap.update p f).get? p=some { cls:=.type "list",data:=.seq its'.toArray n' }:=by
  rw[Heap.get?_update_self f ho (by rw[hf]<;>rfl),hf]
 refine I.write (x:=p) (e:=p) (by rw[h];trivial) (.inl rfl) (λb u hb q=>(Heap.get?_update_other _ _ (cH hb)).trans q) ⟨_,e⟩ ?_;exact⟨hz,its',n',r,e⟩
def Fx:V->V->V->Hp->(Hp->Prop)->Prop:=λo i v H Q=>∃p xs k j,o=.ref p/\i=.int k/\H p=some (.lst xs)/\Av xs.length k=some j/\Q (upd H p (.lst (xs.set j v)))
theorem set_list:G9 X Fx:=by
 intro pins s σ H o i v ov iv u Q I ro ri rv h;obtain⟨p,xs,k,j,rfl,rfl,hp,hj,q⟩:=h;cases ro;obtain⟨t,rfl⟩:=ri;obtain⟨its,n,r,ho,hz⟩:=I.lst hp;obtain⟨h1,h2,h3,h4⟩:=wJ hj;have hl:=r.length;have hn:=kz;have I':bW X pins σ (upd H p (.lst (xs.set j v))) { s with heap:=s.heap.update p (Obj.mapSeq (·.setIfInBounds j u)) }:=
  I.lstUpd hp ho (ur its n j u) (r.set rv j) (by rw[fB];exact hz) s.toks
 by_cases h0:0<=k
 ·have hk:k.toNat=j:=by
   rw[seqIndex_of h0 h4] at h1;exact bT h1
  exact PySem.W.ki_setAt ho h0 (by lia) (by rw[aH,<-hl];exact h4) (by rw[hk];exact⟨_,I',q⟩)
 ·have hk:(k+(its.toArray.size:Int)).toNat=j:=by
   rw[seqIndex_neg (by lia) h3] at h1;rw[aH,<-hl];exact bT h1
  exact PySem.W.ki_setBack ho (by lia) (by rw[aH,<-hl];exact h3) (by lia) (by rw[hk];exact⟨_,I',q⟩)
theorem qh(lo hi:Option Int)(n:Nat):(sliceBounds lo hi none n).1=((HT.sIx n 0 lo:Nat):Int)/\(sliceBounds lo hi none n).2.1=((HT.sIx n n hi:Nat):Int)/\(sliceBounds lo hi none n).2.2=1:=by
 refine⟨?_,?_,rfl⟩
 ·cases lo with
  | none=>simp[sliceBounds,HT.sIx]
  | some i=>
   simp only[sliceBounds,HT.sIx,Option.getD_none,show (1:Int) > 0 by decide,LR];by_cases h:i<0
   ·simp only[h,LR]<;>lia
   ·simp only[h,LS]<;>lia
 ·cases hi with
  | none=>simp[sliceBounds,HT.sIx]
  | some i=>
   simp only[sliceBounds,HT.sIx,Option.getD_none,show (1:Int) > 0 by decide,LR];by_cases h:i<0
   ·simp only[h,LR]<;>lia
   ·simp only[h,LS]<;>lia
theorem pS(its:List Value)(lo hi:Option Int):slicePick its.toArray lo hi none=((its.drop (HT.sIx its.length 0 lo)).take (HT.sIx its.length its.length hi-HT.sIx its.length 0 lo)).toArray:=by
 obtain⟨h1,h2,h3⟩:=qh lo hi its.toArray.size;unfold slicePick;rw[h1,h2,h3];simp only[sliceRange_one,pick_run,aH]<;>rfl
def Dz(K:LU):V->Option Int->Option Int->Hp->VK->Prop:=λx lo hi H Q=>∃a xs,x=.ref a/\cy K H a xs/\∀p,H p=none->Q (.ref p) (upd H p (.lst (mj xs lo hi)))
theorem qi:Ez X (Dz X.K):=by
 intro pins s σ H x v vl vu lo hi sl Q I rx hs pl pu h;obtain⟨a,xs,rfl,hx,q⟩:=h;cases rx;obtain⟨its,r,ht,hz⟩:=I.list hx;have hlen:=r.length;refine⟨"list",_,slot_list_getitem.lookup,ht.isList.typeIs,?_⟩;refine wpAny_getItem_list_slice ht.isList hs pl pu .none (by simp) ?_ (by rw[aH]<;>lia);rw[pS,<-hlen];refine⟨.ref s.heap.objs.size,_,I.laid (t':=s.toks) (o:=.lst (mj xs lo hi)) (λb ob q=>aA _ q) (aB _) ?_,rfl,q _ (I.hok.fresh (aB _))⟩;exact⟨bJ (nY xs lo hi) hz,_,0,(r.drop (HT.sIx xs.length 0 lo)).take (HT.sIx xs.length xs.length hi-HT.sIx xs.length 0 lo),aP _ rfl⟩
theorem eh:jB X (.builtin "len") (λxs H Q=>∃p ys,xs=[.ref p]/\(cy X.K H p ys\/eR X.K H p ys)/\Q (.int ys.length) H):=by
 intro pins s σ H xs us Q I r h;obtain⟨p,ys,rfl,hq,q⟩:=h;obtain⟨u,rfl,rx⟩:=vals1 r;cases rx;have hn:=kz;rcases hq with hq | hq
 ·obtain⟨its,r',pl,hz⟩:=I.list hq;have hlen:=r'.length;exact Calls.call_len_list pl.isList (by simp only[aH]<;>lia) ⟨.int ys.length,H,I.tok _,⟨s.toks+1,by rw[aH,hlen]⟩,q⟩
 ·obtain⟨its,r',pl,hz⟩:=I.tuple hq;have hlen:=r'.length;exact len_tuple pl (by simp only[aH]<;>lia) ⟨.int ys.length,H,I.tok _,⟨s.toks+1,by rw[aH,hlen]⟩,q⟩
theorem gD:jB X (.builtin "len") (λxs H Q=>∃z,xs=[.str z]/\z.length<=sizeLine/\Q (.int z.length) H):=by
 intro pins s σ H xs us Q I r h;obtain⟨z,rfl,hz,q⟩:=h;obtain⟨u,rfl,t,rfl⟩:=vals1 r;have hn:=kz;exact len_str (by lia) ⟨.int z.length,H,I.tok _,⟨_,rfl⟩,q⟩
theorem mn:jB X (.type "list") (λxs H Q=>∃p ys,xs=[.ref p]/\(cy X.K H p ys\/eR X.K H p ys)/\∀l,H l=none->Q (.ref l) (upd H l (.lst ys))):=by
 intro pins s σ H xs us Q I r h;obtain⟨p,ys,rfl,hq,q⟩:=h;obtain⟨u,rfl,rx⟩:=vals1 r;cases rx;have fin:∀(its:List Value),bj ys its->ys.length<=sizeLine->∀(h':Heap) (c':Nat),(∀b o',s.heap.get? b=some o'->h'.get? b=some o') →
   h'.get? s.heap.objs.size=some { cls:=.type "list",dict:=none,data:=.seq its.toArray c',slots:=#[] }->EP X pins σ Q (.ref s.heap.objs.size) { s with heap:=h' }:=λits r' hz h' c' kp e=>
  ⟨.ref s.heap.objs.size,_,I.laid (t':=s.toks) kp (aB _) (show dI X.prog X.w _ h' _ (.lst ys) from ⟨hz,its,c',r',e⟩),rfl,q _ (I.hok.fresh (aB _))⟩
 rcases hq with hq | hq
 ·obtain⟨its,r',pl,hz⟩:=I.list hq;have hlen:=r'.length;obtain⟨o,ho,hc,n,hd⟩:=pl.isList;exact call_list_seq p (.inl rfl) ho hc hd (λh' c' kp e=>fin its r' hz h' c' kp e) (by simp only[aH]<;>lia)
 ·obtain⟨its,r',pl,hz⟩:=I.tuple hq;have hlen:=r'.length;obtain⟨o,ho,hc,n,hd⟩:=pl;exact call_list_seq p (.inr rfl) ho hc hd (λh' c' kp e=>fin its r' hz h' c' kp e) (by simp only[aH]<;>lia)
theorem jN:jB X (.type "tuple") (λxs H Q=>∃p ys,xs=[.ref p]/\((cy X.K H p ys/\∀l,H l=none->Q (.ref l) (upd H l (.tup ys)))\/(eR X.K H p ys/\Q (.ref p) H))):=by
 intro pins s σ H xs us Q I r h;obtain⟨p,ys,rfl,h⟩:=h;obtain⟨u,rfl,rx⟩:=vals1 r;cases rx;rcases h with ⟨hq,q⟩ | ⟨hq,q⟩
 ·obtain⟨its,r',pl,hz⟩:=I.list hq;have hlen:=r'.length;refine call_tuple_list pl.isList (λh' kp=>?_) (by simp only[aH]<;>lia);have I1:bW X pins σ H { s with heap:=h' }:=I.kept (t':=s.toks) kp;have I2:bW X pins σ (upd H h'.objs.size (.tup ys)) { s with heap:=h'.push { cls:=.type "tuple",data:=.seq its.toArray } }:=
   I1.laid (t':=s.toks) (λb o e=>aA _ e) (aB _) (show dI X.prog X.w _ _ _ (.tup ys) from ⟨hz,its,r',IsTup.new _ _⟩)
  exact⟨.ref h'.objs.size,_,I2,rfl,q _ (I1.hok.fresh (aB _))⟩
 ·obtain⟨its,r',pl,hz⟩:=I.tuple hq;exact call_tuple_same pl ⟨.ref p,H,I,rfl,q⟩
def Eu (K : LU) (T : String) (x : V) (H : Hp) : Prop := match x with
 | .str _ => T = "str"
 | .int _ => T = "int"
 | .ref p => (T = "list" ∧ ∃ xs, cy K H p xs) ∨ (T = "tuple" ∧ ∃ o, K.lookup p = some o ∧ o.cls = .type "tuple" ∧ o.dict = none) ∨
   (T = "dict" ∧ ((∃ kvs, H p = some (.dK kvs)) ∨ ∃ kvs, H p = some (.dT kvs))) ∨ (T = "set" ∧ ∃ S n, H p = some (.set S n))
 | _ => False
theorem zA{pins:List (Addr×Obj)}{σ:St}{H:Hp}{s:Shared}{T:String}{x:V}{v:Value}(I:bW X pins σ H s)(r:RelV x v)(ty:Eu X.K T x H):
  s.TypeIs v T/\∀a,v=.ref a->∃ob,s.heap.get? a=some ob/\ob.dict=none:=by
 cases x with
 | str z=>
  obtain⟨t,rfl⟩:=r;cases (show T="str" from ty);exact⟨Ko s z t,λ_ e=>nomatch e⟩
 | int i=>
  obtain⟨t,rfl⟩:=r;cases (show T="int" from ty);exact⟨typeIs_int s i t,λ_ e=>nomatch e⟩
 | ref p=>
  cases r;rcases ty with ⟨rfl,xs,hq⟩ | ⟨rfl,o,hk,hc,hd⟩ | ⟨rfl,hk⟩ | ⟨rfl,S,n,hk⟩
  ·obtain⟨its,_,pl,_⟩:=I.list hq;refine⟨pl.isList.typeIs,λa e=>?_⟩;cases e;obtain⟨o,n,e,c,hd,_⟩:=pl;exact⟨o,e,hd⟩
  ·refine⟨⟨o,I.kIn p o hk,hc⟩,λa e=>?_⟩;cases e;exact⟨o,I.kIn _ o hk,hd⟩
  ·have z:∃o,s.heap.get? p=some o/\o.ExactDict:=by
    rcases hk with ⟨kvs,hk⟩ | ⟨kvs,hk⟩
    ·obtain⟨_,_,_,_,o,_,_,e,ex,_⟩:=I.hok p _ hk;exact⟨o,e,ex⟩
    ·obtain⟨_,_,_,_,o,_,_,e,ex,_⟩:=I.hok p _ hk;exact⟨o,e,ex⟩
   obtain⟨o,e,ex⟩:=z;refine⟨⟨o,e,ex.1⟩,λa e2=>?_⟩;cases e2;exact⟨o,e,ex.2.1⟩
  ·obtain⟨o,_,_,_,e,ex,_⟩:=I.hok p _ hk;refine⟨⟨o,e,ex.1⟩,λa e2=>?_⟩;cases e2;exact⟨o,e,ex.2.1⟩
 | _=>exact False.elim ty
def Fg(K:LU)(T:String)(r:V->List V->Hp->VK->Prop)(to:TE):TE:=λσ H Q=>to σ H λx H1=>Eu K T x H1/\r x [] H1 Q
def Hz(K:LU)(T:String)(r:V->List V->Hp->VK->Prop)(to:TE)(t:TA):TE:=λσ H Q=>to σ H λx H1=>Eu K T x H1/\t σ H1 λxs H2=>r x xs H2 Q
variable {o e:Expr} {to:TE} {t:TA} {T:String} {r:V->List V->Hp->VK->Prop}
end
def FB(X:Cx)(id:String)(r:V->List V->Hp->VK->Prop):Prop:=
 ∀(pins:List (Addr×Obj)) (s:Shared) (σ:St) (H:Hp) (x:V) (xs:List V) (v:Value) (us:List Value) (Q:VK),bW X pins σ H s->RelV x v->bj xs us->r x xs H Q →
  wpAny (model X.prog X.w) X.A (call (.builtin id) (v::us)) (EP X pins σ Q) X.xe s
theorem bj.one:∀{x:V} {us:List Value},bj [x] us->∃u,us=[u]/\RelV x u
 | _,_,.cons r .nil=>⟨_,rfl,r⟩
theorem bj.two:∀{x y:V} {us:List Value},bj [x,y] us->∃u v,us=[u,v]/\RelV x u/\RelV y v
 | _,_,_,.cons r (.cons q .nil)=>⟨_,_,rfl,r,q⟩
theorem bj.zero:∀{us:List Value},bj [] us->us=[]
 | _,.nil=>rfl
theorem bj.dropLast{xs:List V}{us:List Value}(h:bj xs us):bj xs.dropLast us.dropLast:=by
 induction h with
 | nil=>exact .nil
 | cons r t ih=>
  cases t with
  | nil=>exact .nil
  | cons q t'=>exact .cons r ih
theorem vD{α:Type}(l:List α):l.eraseIdx (l.length - 1)=l.dropLast:=by
 induction l with
 | nil=>rfl
 | cons a r ih=>
  cases r with
  | nil=>rfl
  | cons b r=>
   have e:(a::b::r).length - 1=((b::r).length - 1)+1:=by
    have h1:(a::b::r).length=r.length+2:=rfl;have h2:(b::r).length=r.length+1:=rfl;lia
   rw[e,List.eraseIdx_cons_succ,ih]
   all_goals rfl
section
variable {X:Cx} {pins:List (Addr×Obj)} {σ:St} {H:Hp} {s:Shared} {l:Addr} {xs ys:List V}
theorem bW.lset{its its':List Value}{n:Nat}{f:Array Value->Array Value}{t':Nat}(I:bW X pins σ H s)(hH:H l=some (.lst xs))
  (e:s.heap.get? l=some { cls:=.type "list",data:=.seq its.toArray n }) (hf:f its.toArray=its'.toArray) (hv:bj ys its') (hz:ys.length<=sizeLine) :
  bW X pins σ (upd H l (.lst ys)) { s with heap:=s.heap.update l (Obj.mapSeq f),toks:=t' }:=by
 have q:=PySem.IsL.update e f;rw[hf] at q;refine I.write (x:=l) (e:=l) (by rw[hH];exact trivial) (.inl rfl) (λb' u hb hu=>(Heap.get?_update_other s.heap (Obj.mapSeq f) (cH hb)).trans hu) ⟨_,q⟩ ?_;exact⟨hz,its',_,hv,q⟩
theorem bW.lnew{its:List Value}{t':Nat}(I:bW X pins σ H s)(hv:bj ys its)(hz:ys.length<=sizeLine):
  bW X pins σ (upd H s.heap.objs.size (.lst ys)) { s with heap:=s.heap.push { cls:=.type "list",data:=.seq its.toArray },toks:=t' }:=
 I.laid (λ_ _ q=>aA _ q) (aB _) ⟨hz,its,0,hv,aP _ rfl⟩
theorem bW.fresh(I:bW X pins σ H s):H s.heap.objs.size=none:=I.hok.fresh (aB _)
theorem bW.lstM (I:bW X pins σ H s) (hH:H l=some (.lst xs)):xs.length<=sizeLine/\∃(its:List Value) (n:Nat),bj xs its/\xs.length=its.length/\s.heap.get? l=some { cls:=.type "list",data:=.seq its.toArray n }:=by
 obtain⟨z,its,n,r,e⟩:=I.hok l _ hH;exact⟨z,its,n,r,r.length,e⟩
theorem AH{n:Nat}(h:n<=sizeLine):Builtin.List.listTooLong n=false:=by
 unfold Builtin.List.listTooLong;exact LO (by lia)
end
section
variable {X:Cx}
def vw:V->List V->Hp->VK->Prop:=λx vs H Q=>∃l xs y,x=.ref l/\vs=[y]/\H l=some (.lst xs)/\xs.length<sizeLine/\Q .non (upd H l (.lst (xs++[y])))
theorem jb:FB X "list.append" vw:=by
 intro pins s σ H x vs v us Q I rx rv h;obtain⟨l,xs,y,rfl,rfl,hH,hz,q⟩:=h;cases rx;obtain⟨u,rfl,ru⟩:=rv.one;obtain⟨z,its,n,r,hl,e⟩:=I.lstM hH;refine Kq F.slot_list_append ⟨_,e,rfl⟩ F.entry_list_append (F.args_list_append_2 _ _) (PySem.list_append l its.toArray n u (by rw[aH];lia)) ⟨e,?_⟩;refine⟨.non,_,I.lset (its':=its++[u]) hH e (by simp) (r.append (.cons ru .nil)) ?_,rfl,q⟩;rw[aR,k9];lia
def B7:V->List V->Hp->VK->Prop:=λx vs H Q=>∃l b xs zs,x=.ref l/\vs=[.ref b]/\H l=some (.lst xs)/\H b=some (.lst zs)/\xs.length+zs.length<=sizeLine/\Q .non (upd H l (.lst (xs++zs)))
theorem xX:FB X "list.extend" B7:=by
 intro pins s σ H x vs v us Q I rx rv h;obtain⟨l,b,xs,zs,rfl,rfl,hH,hB,hz,q⟩:=h;cases rx;obtain⟨u,rfl,ru⟩:=rv.one;cases ru;obtain⟨z,its,n,r,hl,e⟩:=I.lstM hH;obtain⟨z2,its2,n2,r2,hl2,e2⟩:=I.lstM hB;have hsz:its.toArray.size+its2.toArray.size<=sizeLine:=by rw[aH,aH];lia
 have hlong:¬(!its.toArray.isEmpty&&Builtin.List.listTooLong (its.toArray.size+its2.toArray.size))=true:=by
  rw[AH hsz,gO];exact au
 refine Kq F.slot_list_extend ⟨_,e,rfl⟩ F.entry_list_extend (F.args_list_extend_2 _ _)
  (AutoSeq1.list_extend_list_list_0 l its.toArray n b its2.toArray n2 hlong (by rw[aH];lia) (by lia)) ⟨e,e2,?_⟩
 refine⟨.non,_,I.lset (its':=its++its2) hH e (by simp) (r.append r2) ?_,rfl,q⟩;rw[aR];lia
def Fy:V->List V->Hp->VK->Prop:=λx vs H Q=>∃l xs y,x=.ref l/\vs=[]/\H l=some (.lst xs)/\xs[xs.length - 1]? = some y/\Q y (upd H l (.lst xs.dropLast))
theorem EN:FB X "list.pop" Fy:=by
 intro pins s σ H x vs v us Q I rx rv h;obtain⟨l,xs,y,rfl,rfl,hH,hy,q⟩:=h;cases rx;have hus:=rv.zero;subst hus;obtain⟨z,its,n,r,hl,e⟩:=I.lstM hH;obtain⟨u,hu,ru⟩:=r.get hy;have hy':its.toArray[its.toArray.size - 1]? = some u:=by
  show its.toArray[its.length - 1]? = some u;rw[<-kf,<-hl];exact hu
 refine Kq F.slot_list_pop ⟨_,e,rfl⟩ F.entry_list_pop (F.args_list_pop_1 _) (MeetsSeq.list_pop_last l its.toArray n u hy' (by rw[aH];lia)) ⟨e,?_⟩;refine⟨y,_,I.lset (its':=its.dropLast) hH e ?_ r.dropLast ?_,ru,q⟩
 ·show its.toArray.eraseIdxIfInBounds (its.toArray.size - 1)=its.dropLast.toArray;rw[aH,List.eraseIdxIfInBounds_toArray,vD]
 ·rw[List.length_dropLast];lia
def GG:R2:=λx y H Q=>∃l b xs zs,x=.ref l/\y=.ref b/\H l=some (.lst xs)/\H b=some (.lst zs)/\xs.length+zs.length<=sizeLine/\∀p,H p=none->Q (.ref p) (upd H p (.lst (xs++zs)))
theorem qw:mS X (binaryOp .Add) GG:=by
 intro pins s σ H x y v u Q I rx ry h;obtain⟨l,b,xs,zs,rfl,rfl,hH,hB,hz,q⟩:=h;cases rx;cases ry;obtain⟨z,its,n,r,hl,e⟩:=I.lstM hH;obtain⟨z2,its2,n2,r2,hl2,e2⟩:=I.lstM hB;refine PySem.P.add_list e e2 ?_ (by rw[aH,aH];lia);have ea:its.toArray++its2.toArray=(its++its2).toArray:=by simp
 rw[ea];exact⟨.ref _,_,I.lnew (t':=s.toks) (r.append r2) (by rw[aR];lia),rfl,q _ I.fresh⟩
end
section
set_option maxRecDepth 100000 in
end
end L2
namespace Att
open PySem PySem.W PySem.Calls PyProof.Rows
theorem nh{P:Params}{h:Heap}:∀(ns:List Int) (vs:List Value),WellAll P h vs (ns.map WData.int)->IntsAre vs ns:=by
 intro ns
 induction ns with
 | nil=>
  intro vs w;rw[fV] at w;cases w;exact .nil
 | cons n ns ih=>
  intro vs w;rw[aZ] at w;cases w with
  | cons a b=>
   cases a;exact .cons _ _ (ih _ b)
theorem wz{l:OpenLaw}{n:Nat}(hn:l.most=some n){P:Params}{h:Heap}{args:List WData}{vals:List Value}
  (hpre:l.row.toRowW.claim.pre args=true) (hwl:WellAll P h vals args) :
  ∃a vs ns,vals=[Value.ref a]/\args=[WData.list (ns.map WData.int)]/\h.get? a=some { cls:=.type "list",data:=.seq vs.toArray }/\IntsAre vs ns/\ns.length<=n:=by
 have hsh:WShape.hasAll [] args [.list .int]=true:=(pre_splitW hpre).1;have hc:l.pre.holds [] { args:=args }=true:=(pre_splitW hpre).2;obtain⟨d,r,rfl,h1,h2⟩:=hasAllW_cons hsh;obtain rfl:=hasAllW_nil h2;obtain⟨xs,rfl,h3⟩:=hasW_list h1;obtain⟨ns,rfl⟩:=items_int h3;have hlen:ns.length<=n:=by
  unfold OpenLaw.pre at hc;have h4:(WTm.not (.lt (.lit (.int (n:Int))) (.len (.arg 0)))).holds [] { args:=[.list (ns.map .int)] }=true:=by
   have h4:=(holds_andW hc).1;rw[hn] at h4;exact h4
  have h5:=condW_of h4 (w_not (w_lt w_lit (w_len_list (w_arg rfl))));rw[aC] at h5;refine Nat.le_of_not_lt λq=>?_;have q':(n:Int)<((ns.length:Nat):Int):=by lia
  first
   | (rw[LP q'] at h5;exact absurd h5 (by decide))
   | (simp at h5;lia)
 cases hwl with
 | cons w1 w2=>
  cases w2;cases w1 with
  | list ho hall=>exact⟨_,_,ns,rfl,rfl,ho,nh ns _ hall,hlen⟩
theorem xL(l:OpenLaw)(args:List WData):l.row.toRowW.claim.post args (.bool true) args=true:=
 postW_of (r:=l.row.toRowW) (X:=(true==true))
  (show WShape.has [] (.bool true) .bool=true by first | rfl | decide | simp[WShape.has,WShape.arms,WShape.armsAll])
  (show (WTm.eq .res (.lit (.bool true))).value [] { args:=args,res:=some (.bool true),after:=args }=some (.bool (true==true)) from w_eq_bool (w_res rfl) w_lit) rfl
theorem attach_call{l:OpenLaw}{n:Nat}{q:Program}{loose:List Str}{XP:(Str->Option Value)->Heap->Prop}{YP:World->Heap->Prop}{d:DefRec}
  (hn:l.most=some n) (hdf:d.params.defaults=[])
  (call:∀(w:World) (s₀ s₁:Shared) (mg mb:Str->Option Value) (fa:Addr) (o:Obj) (pm cd doc:Value) (a:Addr) (vs:List Value) (ns:List Int),
   Ground q loose [] XP w s₀ mg mb s₁.heap->YP w s₁.heap →
   s₁.heap.get? fa=some o->o.data=.func (docDef d.name d.params d.body d.scope pm cd doc)->s₁.heap.CodeRec cd d.name->mg d.name=some (.ref fa) →
   s₁.heap.get? a=some { cls:=.type "list",data:=.seq vs.toArray }->IntsAre vs ns->ns.length<=n->s₁.gens=#[] →
   codeAny (model l.prog w) callerA (.call (.ref fa) ⟨[.ref a],[]⟩) (λr s'=>r=.ok (.ret (.bool true))/\OldK s₁.heap s'.heap/\s'.os=s₁.os/\AllBare s'.gens) s₁) :
  WalkO q loose XP YP l.row.toRowW d [] (λf vs=>PySem.call f vs):=by
 intro w s₀ s₁ mg mb G Y fa o pm cd doc dV kV ho hd hcd hD hmg hg args vals as hpre hlay hrd hwl hlo;obtain rfl:dV=.none:=Dflts.none hD hdf;obtain rfl:kV=.none:=Dflts.noKw hD;obtain⟨a,vs,ns,rfl,rfl,hobj,hints,hlen⟩:=wz hn hpre hwl;refine enter_call (codeAny_mono (call w s₀ s₁ mg mb fa o pm cd doc a vs ns G Y ho (fd_plain hd) hcd hmg hobj hints hlen hg) λr s' hq=>?_);obtain⟨rfl,h2,h3,h4⟩:=hq;exact⟨.inl ⟨.bool true,.bool true,[],rfl,λ_=>rfl,.bool true,xL l _,λ_=>⟨List.Pairwise.nil,λ_ hm=>(nomatch hm)⟩⟩,h2,h3,h4⟩
end Att
namespace L2
open PySem PySem.Spec PyProof.Rows
theorem mw:∀{vs:List Value} {ns:List Int},IntsAre vs ns->bj (ns.map V.int) vs
 | _,_,.nil=>.nil
 | _,_,.cons n t h=>.cons ⟨t,rfl⟩ (mw h)
def Ek(H:Hp):Prop:=∀b,H b=none\/∃o xs,H b=some (.frz o (.lst xs))
theorem AW{P:Program}{w:World}{K:LU}{mg mb:Str->Option Value}{CX:Au}{k:Nat}{fa a:Addr}{fd:FuncData}{x:Str}{sp:Sp}{s₁:Shared}{vs:List Value}{ns:List Int}
  (KX:K.In s₁.heap) (hns:s₁.heap.Ns mainGlobals mg) (hb:s₁.heap.Ns builtinsNs mb) (hbb:∀x:Str,x≠"__name__"->mb x=bootBuiltins x) (hlim:s₁.heap.NoLimit) (hg:s₁.gens=#[])
  (ha:s₁.heap.get? a=some { cls:=.type "list",data:=.seq vs.toArray }) (hi:IntsAre vs ns) (hl:ns.length<=sizeLine) (hr:jO k callerA)
  (F:∀base:Heap,K.In base->base.Ns mainGlobals mg->pM P w K mg base CX k fa fd [x] sp) (hbind:∀(s:Shared) (u:Value),BindsTo s fd ⟨[u],[]⟩ [(x,u)])
  (hsp:∀H:Hp,Ek H->cy K H a (ns.map V.int)->sp [.ref a] H (λv _=>v=.bl true) λ_ _ _=>False)
  (hCX:∀H e s',CX [] H s₁ (λ_ _ _=>False) e s'->False) :
  codeAny (model P w) callerA (.call (.ref fa) ⟨[.ref a],[]⟩) (λr s'=>r=.ok (.ret (.bool true))/\OldK s₁.heap s'.heap/\s'.os=s₁.os/\AllBare s'.gens) s₁:=by
 have rv:=mw hi;have lenV:=hi.length;have core:∀H:Hp,Ek H->cy K H a (ns.map V.int)->mO P w H s₁.heap->(∀b,H b≠none->b=a)->(H a≠none->K.lookup a=none) →
   codeAny (model P w) callerA (.call (.ref fa) ⟨[.ref a],[]⟩) (λr s'=>r=.ok (.ret (.bool true))/\OldK s₁.heap s'.heap/\s'.os=s₁.os/\AllBare s'.gens) s₁:=by
  intro H hO hS hok hA hK;have base_of:∀{b:Addr} {o:Obj},s₁.heap.get? b=some o->H b=none->(rE s₁.heap H).get? b=some o:=λe n=>A7 e n;have noA:∀{b:Addr} {o:Obj} {es:Array DictEntry} {ep:Nat},s₁.heap.get? b=some o->o.data=.dict es ep->H b=none:=fun {b o es ep} e d=>by
   cases q:H b with
   | none=>rfl
   | some u=>
    have e':b=a:=hA b (by rw[q];simp);subst e';rw[ha] at e;cases e;have d':Data.seq vs.toArray _=Data.dict es ep:=d;cases d'
  have nsK:∀{b:Addr} {m:Str->Option Value},s₁.heap.Ns b m->(rE s₁.heap H).Ns b m:=fun {b m} ⟨o,es,ep,e,d,r⟩=>⟨o,es,ep,base_of e (noA e d),d,r⟩
  have hKb:K.In (rE s₁.heap H):=λb o e=>base_of (KX b o e) (by
   cases q:H b with
   | none=>rfl
   | some u=>
    have e':b=a:=hA b (by rw[q];simp);subst e';rw[hK (by rw[q];simp)] at e;cases e)
  have hM:Mod K mg (rE s₁.heap H):=⟨hKb,nsK hns,⟨mb,nsK hb,hbb⟩,let ⟨mc,h1,h2⟩:=hlim;⟨mc,nsK h1,h2⟩⟩
  have e0:C2 P w K mg (rE s₁.heap H) callerA [] s₁ H:=⟨rfl,hM,λb o e=>Bl e,kM (xi _ _),trivial,λb hb=>absurd (show b∈([]:List Addr) from hb) (by simp),hok,.of_eq hg⟩
  refine codeAny_mono ((F _ hKb (nsK hns)).run callerA [] s₁ H ⟨[.ref a],[]⟩ [.ref a] [.ref a] _ _ hr e0 (hbind s₁ (.ref a)) (.cons rfl .nil) (hsp H hO hS)) λr s' h=>?_;cases r with
  | error e=>exact(hCX H e s' h).elim
  | ok fl=>
   cases fl with
   | next=>exact False.elim h
   | brk=>exact False.elim h
   | cont=>exact False.elim h
   | ret u=>
    obtain⟨v,H',os,bare,un,hok',r',q⟩:=h;have q':v=.bl true:=q;subst q';obtain rfl:u=Value.bool true:=r';refine⟨rfl,OldK.of_keep λb o e=>?_,os,bare⟩;cases q:H b with
    | none=>exact un.keep b o e q (by intro z;exact absurd (show b∈([]:List Addr) from z) (by simp)) (by simp)
    | some u=>
     rcases hO b with z | ⟨ob,xs,z⟩
     ·rw[q] at z;cases z
     ·have z2:=un.frzs b ob _ z;obtain⟨e1,_⟩:=hok b _ z;obtain⟨e2,_⟩:=hok' b _ z2;rw[e] at e1;cases e1;exact e2
 cases hk:K.lookup a with
 | some o=>
  have e:=KX a o hk;rw[ha] at e;cases e;refine core (λ_=>none) (λ_=>.inl rfl) (.inr ⟨_,vs.toArray,_,hk,rfl,rfl,rfl,by rw[aH,lenV];exact hl,by simpa using rv⟩) (λb u z=>by have z':(none:Option HO)=some u:=z;cases z') (λb z=>absurd rfl z) λz=>absurd rfl z
 | none=>
  refine core (λb=>if b=a then some (.frz { cls:=.type "list",data:=.seq vs.toArray } (.lst (ns.map V.int))) else none) (λb=>?_) (.inl (.inr ⟨{ cls:=.type "list",data:=.seq vs.toArray },LM rfl⟩)) (λb u z=>?_) (λb z=>?_) λ_=>hk
  ·by_cases hb:b=a
   ·exact .inr ⟨_,_,LM hb⟩
   ·exact .inl (LL hb)
  ·by_cases hb:b=a
   ·have z':=(LM hb).symm.trans z;cases z';subst hb;exact⟨ha,by rw[aC];exact hl,vs,_,rv,ha⟩
   ·have z':=(LL hb).symm.trans z;cases z'
  ·by_cases hb:b=a
   ·exact hb
   ·exact absurd (LL hb) z
abbrev IK {K:LU} {h:Heap} (_:K.In h):LU:=K
theorem vN{l:PySem.W.OpenLaw}{n k:Nat}{q:Program}{loose:List Str}{XP:(Str->Option Value)->Heap->Prop}{YP:World->Heap->Prop}{d:DefRec}{K:Params->LU}{CX:World->Au}{sp:World->Sp}{x:Str}
  (hn:l.most=some n) (hn2:n<=sizeLine) (hdf:d.params.defaults=[]) (hr:jO k callerA)
  (hY:∀(w:World) (h:Heap),YP w h->(K w.params).In h)
  (F:∀(w:World) (mg:Str->Option Value) (fa:Addr) (h:Heap),(K w.params).In h->h.Ns mainGlobals mg->mg d.name=some (.ref fa) →
   ∃fd:FuncData,(∀(s:Shared) (u:Value),BindsTo s fd ⟨[u],[]⟩ [(x,u)]) ∧
    ∀base:Heap,(K w.params).In base->base.Ns mainGlobals mg->pM l.prog w (K w.params) mg base (CX w) k fa fd [x] (sp w))
  (hsp:∀(w:World) (H:Hp) (a:Addr) (ns:List Int),ns.length<=n->Ek H->cy (K w.params) H a (ns.map V.int)->sp w [.ref a] H (λv _=>v=.bl true) λ_ _ _=>False)
  (hCX:∀(w:World) (H:Hp) (s:Shared) (e:Value) (s':Shared),CX w [] H s (λ_ _ _=>False) e s'->False) :
  PySem.W.WalkO q loose XP YP l.row.toRowW d [] (λf vs=>PySem.call f vs):=by
 refine Att.attach_call hn hdf λw s₀ s₁ mg mb fa o pm cd doc a vs ns G Y ho hd hcd hmg hobj hints hlen hg=>?_;have KX:=hY w _ Y;obtain⟨fd,hb,hF⟩:=F w mg fa _ KX G.T.g hmg;exact AW KX G.T.g G.T.b G.T.builtins G.T.nolimit hg hobj hints (bJ hlen hn2) hr hF hb (λH hO hS=>hsp w H a ns hlen hO hS) λH e s'=>hCX w H s₁ e s'
end L2
/- THE LAST THEOREM (shape;LID,My.* are yours):
   My.Adr: a structure of the addresses that your layer names (classes,functions);My.Txt K t: a structure (Prop) of the equations over K;
   My.txt_mk:{K} {implicit addresses ..} (e1:nsIn K mainGlobals "law"=some (some (.ref f))) (e2:K.lookup f=some ⟨oc,od,.func (fnOf "law" "law" params body scope dV kV doc pm an cdv ct),sl⟩) (e3:codeIn K cdv "law"=true) ..:∃t,My.Txt K t
set_option maxRecDepth 100000 in
set_option maxHeartbeats 0 in
theorem PySem.Challenge.cw_LID_holds : PySem.Challenge.rw_LID.Holds := by
 w_on; o_law; k_head; (case hw => w_witness2)
 k_fill
 refine L2.vN (l := PySem.Challenge.rw_LID) (n := 63) (k := 40) (x := "script") (CX := λw => ..) (sp := λ_ => My.sp_law) rfl (by decide) rfl ⟨rfl, by decide, by decide⟩ (λw h Y => PySem.W.kIn_of Y) ?F ?S ?C
 case F =>
  intro w mg fa h KX G hmg;have T : ∃t, My.Txt (L2.IK KX) t := by
   dsimp only [L2.IK]                          -- K must stand as «<heap const> w.params» for k_is;refine' My.txt_mk ?e1 ?e2 ?e3 ..
   (case e1 => PySem.W.k_is)                    -- in the order: a name -> its address -> its object -> its parts
   (case e2 => PySem.W.k_is)
   ..
  obtain ⟨t, T⟩ := T;have e0 := hmg.symm.trans (dc KX G T.law);cases e0                                       -- fa is the law's own address;exact ⟨_, λs u => .of_eq rfl, λbase kb nb => My.law_fn T kb nb⟩     -- if «.of_eq rfl» comes too early: refine' ⟨_, ?b, λbase kb nb => My.law_fn T kb nb⟩; exact λs u => .of_eq rfl
 case S => exact λw H a ns hl hO hS => ..
 case C => exact ..
(the tactic k_is has no namespace: write k_is) -/
namespace L2
open PySem PySem.Spec PyProof.Rows
def jF(s:Stmt):Arguments:=match s with
 | .FunctionDef _ a _ _ _ _ _ _ _ _=>a
 | _=>{ posonlyargs:=[],args:=[],vararg:=none,kwonlyargs:=[],kw_defaults:=[],kwarg:=none,defaults:=[] }
def gi(s:Stmt):List Stmt:=match s with
 | .FunctionDef _ _ b _ _ _ _ _ _ _=>b
 | _=>[]
def bN(s:Stmt):Scope:=match s with
 | .FunctionDef _ _ _ _ _ _ sc _ _ _=>sc
 | _=>{ kind:=.function,names:=[],isGenerator:=false,isCoroutine:=false }
abbrev Ay:Au:=λ_ _ _ _ _ _=>False
abbrev E0:XK:=λ_ _ _=>False
theorem GH{X:Cx}:vK Ay X E0:=λ_ _ _ _ _ _ _ h=>h.elim
structure Ax (K:LU) (x qual:Str) (st:Stmt) (f:Addr) (fd:FuncData):Prop where
 ex:∃ (oc:Value) (od:Option Addr) (kV doc pm:Value) (an:Option Addr) (cdv ct:Value) (osl:Array (Option Value)),
  fd=PySem.W.fnOf x qual (jF st) (gi st) (bN st) .none kV doc pm an cdv ct/\K.lookup f=some ⟨oc,od,.func fd,osl⟩/\PySem.W.codeIn K cdv qual=true
 kp:PySem.W.keepIn K (.ref f)=true
section
variable {P:Program} {w:World} {K:LU} {mg:Str->Option Value} {base:Heap}
theorem Ax.ok{x qual:Str}{st:Stmt}{f:Addr}{fd:FuncData}{N ps:List Str}{k:Nat}{sp:Sp}(F:Ax K x qual st f fd)(S:cO N ps (bN st))(len:∀vs H Q E,sp vs H Q E->vs.length=ps.length)
  (hbody:∀(cdv:Value) (A:Around) (outer:List Env) (s:Shared) (H:Hp) (vs:List V) (Q:VK) (E:XK),jO k (A.deeper (envOfC qual (bN st) s.heap.objs.size f cdv))->sp vs H Q E →
   ∃t,Ej (t6 Ay P w K mg base N qual (bN st) f cdv A outer s H E).nox (gi st) t/\t { nx:=λ_ H'=>Q .non H',rt:=Q } (start N vs) H):pM P w K mg base Ay (k+1) f fd ps sp:=by
 obtain⟨oc,od,kV,doc,pm,an,cdv,ct,osl,rfl,lk,hcd⟩:=F.ex;refine GZ lk hcd S len λA outer s H vs Q E hr hsp=>?_;obtain⟨t,h,q⟩:=hbody cdv A outer s H vs Q E hr hsp;exact⟨t,h.nox,q⟩
theorem Ax.binds{x qual:Str}{st:Stmt}{f:Addr}{fd:FuncData}{ps:List Str}(F:Ax K x qual st f fd)
  (h:∀(kV doc pm:Value) (an:Option Addr) (cdv ct:Value) (us:List Value),us.length=ps.length->bindArgs (PySem.W.fnOf x qual (jF st) (gi st) (bN st) .none kV doc pm an cdv ct) ⟨us,[]⟩=pure (ps.zip us)):Binds K fd ps []:=by
 obtain⟨oc,od,kV,doc,pm,an,cdv,ct,osl,rfl,lk,hcd⟩:=F.ex;exact .all (h kV doc pm an cdv ct)
theorem Eb{x qual:Str}{st:Stmt}{f:Addr}{oc:Value}{od an:Option Addr}{osl:Array (Option Value)}{kV doc pm cdv ct:Value}(l:K.lookup f=some ⟨oc,od,.func (PySem.W.fnOf x qual (jF st) (gi st) (bN st) .none kV doc pm an cdv ct),osl⟩)
  (c:PySem.W.codeIn K cdv qual=true) (k:PySem.W.keepIn K (.ref f)=true):Ax K x qual st f (PySem.W.fnOf x qual (jF st) (gi st) (bN st) .none kV doc pm an cdv ct):=⟨⟨oc,od,kV,doc,pm,an,cdv,ct,osl,rfl,l,c⟩,k⟩
end
theorem cS{n:Nat}(h:n<=1000):n<sizeLine:=Nat.lt_of_le_of_lt h (by decide)
section
variable {X:Cx}
theorem pv (i:Nat) {x:Str} {pos:Pos} (hN:X.N[i]? = some x:=by rfl) (hv:Ey X.env.scope x:=by first | exact Or.inl rfl | exact Or.inr (Or.inl rfl) | exact Or.inr (Or.inr rfl)) (hd:(x==("__debug__":Str))=false:=by decide)
  (hcd:(x==("__classdict__":Str))=false:=by decide):PE X (.Name x pos) (uL i):=EC hN hv hd hcd
end
theorem kY{c A B:Prop} [Decidable c] (h1:c->A) (h2:¬c->B):if c then A else B:=by
 by_cases h:c
 ·rw[LM h];exact h1 h
 ·rw[LL h];exact h2 h
def ao(H H':Hp):Prop:=∀b o,H b=some o->H' b=some o
theorem ao.refl(H:Hp):ao H H:=λ_ _ h=>h
theorem ao.trans{H H1 H2:Hp}(a:ao H H1)(b:ao H1 H2):ao H H2:=λc o h=>b c o (a c o h)
theorem ao.free{H H':Hp}(e:ao H H'){l:Addr}(h:H' l=Option.none):H l=Option.none:=by
 cases q:H l with
 | none=>rfl
 | some o=>
  rw[e l o q] at h;cases h
theorem ao.seq{K:LU}{H H':Hp}{a:Addr}{xs:List V}(e:ao H H')(h:cy K H a xs):cy K H' a xs:=by
 rcases h with (h | ⟨o,h⟩) | h
 ·exact .inl (.inl (e _ _ h))
 ·exact .inl (.inr ⟨o,e _ _ h⟩)
 ·exact .inr h
section
variable {κ:Type} [DecidableEq κ]
def fg(kvs:List (κ×V))(k:κ):Option V:=(kvs.find? λkv=>decide (kv.1=k)).map (·.2)
def putK(kvs:List (κ×V))(k:κ)(v:V):List (κ×V):=
 if (kvs.any λkv=>decide (kv.1=k))=true then kvs.map (λkv=>if kv.1=k then (kv.1,v) else kv) else kvs++[(k,v)]
theorem fM{p:κ×V}{r:List (κ×V)}{k:κ}(e:p.1=k):fg (p::r) k=some p.2:=by simp[fg,fD,e]
theorem fN{p:κ×V}{r:List (κ×V)}{k:κ}(e:¬p.1=k):fg (p::r) k=fg r k:=by simp[fg,fD,e]
theorem kg(k:κ):∀kvs:List (κ×V),(kvs.any λkv=>decide (kv.1=k))=(fg kvs k).isSome
 | []=>rfl
 | p::r=>by
  rw[gj];by_cases e:p.1=k
  ·simp only[fM e,LP e,Bool.true_or,Option.isSome_some]
  ·rw[fN e,LO e,Bool.false_or];exact kg k r
theorem sC(k j:κ)(y:V):∀kvs:List (κ×V),fg (kvs.map λkv=>if kv.1=k then (kv.1,y) else kv) j=(fg kvs j).map λx=>if j=k then y else x
 | []=>rfl
 | p::r=>by
  have ih:=sC k j y r;rw[aZ];by_cases h:p.1=k
  ·rw[LM h];by_cases e:p.1=j
   ·rw[fM (p:=(p.1,y)) e,fM e,iJ,LM (e.symm.trans h)]
   ·rw[fN (p:=(p.1,y)) e,fN e,ih]
  ·rw[LL h];by_cases e:p.1=j
   ·rw[fM (p:=p) e,fM e,iJ,LL (λz=>h (e.trans z))]
   ·rw[fN (p:=p) e,fN e,ih]
theorem pj(k j:κ)(y:V):∀kvs:List (κ×V),fg kvs k=none->fg (kvs++[(k,y)]) j=if j=k then some y else fg kvs j
 | [],_=>by
  by_cases e:k=j
  ·rw[LM e.symm];exact fM (p:=(k,y)) e
  ·rw[LL (λz=>e z.symm)];exact fN (p:=(k,y)) e
 | p::r,hn=>by
  rw[eO];have hk:¬p.1=k:=λz=>by rw[fM z] at hn;cases hn
  rw[fN hk] at hn;have ih:=pj k j y r hn;by_cases e:p.1=j
  ·rw[fM e,fM e,LL (λz=>hk (e.trans z))]
  ·rw[fN e,fN e,ih]
theorem sB(kvs:List (κ×V))(k j:κ)(y:V):fg (putK kvs k y) j=if j=k then some y else fg kvs j:=by
 unfold putK;by_cases a:(kvs.any λkv=>decide (kv.1=k))=true
 ·rw[LM a,sC];rw[kg] at a;by_cases e:j=k
  ·obtain⟨x,hx⟩:=jQ.mp a;rw[LM e,e,hx,iJ,LM rfl]
  ·rw[LL e];cases fg kvs j with
   | none=>rfl
   | some x=>rw[iJ,LL e]
 ·rw[LL a];refine pj k j y kvs ?_;rw[kg] at a;cases q:fg kvs k with
  | none=>rfl
  | some x=>rw[q] at a;exact(a rfl).elim
theorem eS(kvs:List (κ×V))(k:κ)(v:V):(putK kvs k v).length<=kvs.length+1:=by
 unfold putK
 split
 ·rw[aC];lia
 ·rw[aR,bb,List.length_nil];lia
theorem zi{kvs:List (κ×V)}{k:κ}(v:V)(h:fg kvs k=none):putK kvs k v=kvs++[(k,v)]:=by
 unfold putK;rw[kg,h];exact LL (by decide)
theorem pL.isSome_eq{o:Option V}{u:Option Value}(r:pL o u):o.isSome=u.isSome:=by
 cases o with
 | none=>cases u with
  | none=>rfl
  | some _=>exact(show False from r).elim
 | some _=>cases u with
  | none=>exact(show False from r).elim
  | some _=>rfl
theorem KV.val{kvs:List (κ×V)}{vs:List (κ×Value)}(r:KV kvs vs)(k:κ):pL (fg kvs k) (valueAt vs k):=by
 unfold KV at r
 induction r with
 | nil=>exact True.intro
 | @cons p q ps qs h t ih=>
  obtain⟨h1,h2⟩:=h;by_cases e:p.1=k
  ·have e':q.1=k:=h1.symm.trans e;have b:valueAt (q::qs) k=some q.2:=by simp[valueAt,fD,e']
   rw[fM e,b];exact h2
  ·have e':¬q.1=k:=λz=>e (h1.trans z);have b:valueAt (q::qs) k=valueAt qs k:=by simp[valueAt,fD,e']
   rw[fN e,b];exact ih
theorem KV.any{kvs:List (κ×V)}{vs:List (κ×Value)}(r:KV kvs vs)(k:κ):(kvs.any λkv=>decide (kv.1=k))=vs.any λkv=>decide (kv.1=k):=by
 unfold KV at r
 induction r with
 | nil=>rfl
 | cons h t ih=>rw[gj,gj,ih,h.1]
theorem KV.repl{kvs:List (κ×V)}{vs:List (κ×Value)}(r:KV kvs vs)(k:κ){y:V}{u:Value}(ry:RelV y u):
  KV (kvs.map λkv=>if kv.1=k then (kv.1,y) else kv) (vs.map λkv=>if kv.1=k then (kv.1,u) else kv):=by
 unfold KV at r ⊢
 induction r with
 | nil=>exact .nil
 | @cons p q ps qs h t ih=>
  rw[aZ,aZ];refine .cons ?_ ih;obtain⟨h1,h2⟩:=h;by_cases e:p.1=k
  ·rw[LM e,LM (h1.symm.trans e)];exact⟨h1,ry⟩
  ·rw[LL e,LL (λz=>e (h1.trans z))];exact⟨h1,h2⟩
theorem KV.put{kvs:List (κ×V)}{vs:List (κ×Value)}(r:KV kvs vs)(k:κ){y:V}{u:Value}(ry:RelV y u):KV (putK kvs k y) (stored vs k u):=by
 unfold putK stored;rw[r.any k];by_cases e:(vs.any λkv=>decide (kv.1=k))=true
 ·rw[LM e,LM e];exact r.repl k ry
 ·rw[LL e,LL e];exact Paired.snoc r ⟨rfl,ry⟩
theorem KV.length{kvs:List (κ×V)}{vs:List (κ×Value)}(r:KV kvs vs):kvs.length=vs.length:=bu r
end
theorem tP{P:Program}{w:World}{k:Key}{u:Value}(r:RelV (kV k) u):(eC P w).is k u=true:=by
 cases k with
 | inl i=>obtain⟨t,e⟩:=(show ∃t,u=Value.int i t from r);subst e;exact tM P w i t
 | inr x=>obtain⟨t,e⟩:=(show ∃t,u=Value.str x t from r);subst e;exact tL P w x t
theorem qN{P:Program}{w:World}:∀{ks:List Key} {us:List Value},bj (ks.map kV) us->ItemsAre (eC P w) ks us
 | [],_,r=>by rw[fV] at r;cases r;exact .nil
 | k::ks,_,r=>by
  rw[aZ] at r;cases r with
  | cons h t=>exact .cons (tP h) (qN t)
abbrev KT (H:Hp):List (List Key×V)->List (List Key×Addr×Value)->Prop:=Paired λp q=>p.1=q.1/\H q.2.1=some (.tup (p.1.map kV))/\RelV p.2 q.2.2
theorem KT.val{H:Hp}{kvs:List (List Key×V)}{xs:List (List Key×Addr×Value)}(r:KT H kvs xs)(k:List Key):pL (fg kvs k) ((atKey xs k).map (·.2)):=by
 induction r with
 | nil=>exact True.intro
 | @cons p q ps qs h t ih=>
  obtain⟨h1,_,h2⟩:=h;by_cases e:p.1=k
  ·have e':q.1=k:=h1.symm.trans e;have b:atKey (q::qs) k=some q.2:=by simp[atKey,fD,e']
   rw[fM e,b];exact h2
  ·have e':¬q.1=k:=λz=>e (h1.trans z);have b:atKey (q::qs) k=atKey qs k:=by simp[atKey,fD,e']
   rw[fN e,b];exact ih
theorem KT.repl{H:Hp}{kvs:List (List Key×V)}{xs:List (List Key×Addr×Value)}(r:KT H kvs xs)(k:List Key){y:V}{u:Value}(ry:RelV y u):
  KT H (kvs.map λkv=>if kv.1=k then (kv.1,y) else kv) (xs.map (putAt k u)):=by
 induction r with
 | nil=>exact .nil
 | @cons p q ps qs h t ih=>
  rw[aZ,aZ];refine .cons ?_ ih;obtain⟨h1,h2,h3⟩:=h;unfold putAt;by_cases e:p.1=k
  ·rw[LM e,LM (h1.symm.trans e)];exact⟨h1,h2,ry⟩
  ·rw[LL e,LL (λz=>e (h1.trans z))];exact⟨h1,h2,h3⟩
theorem KT.put{H:Hp}{kvs:List (List Key×V)}{xs:List (List Key×Addr×Value)}(r:KT H kvs xs)(k:List Key){b:Addr}{y:V}{u:Value}(hb:H b=some (.tup (k.map kV)))(ry:RelV y u):
  KT H (putK kvs k y) (storedH xs k b u):=by
 have e:(kvs.any λkv=>decide (kv.1=k))=(atKey xs k).isSome:=by
  rw[kg,(r.val k).isSome_eq,Option.isSome_map]
 unfold putK storedH;rw[e];by_cases q:(atKey xs k).isSome=true
 ·rw[LM q,LM q];exact r.repl k ry
 ·rw[LL q,LL q];exact Paired.snoc r ⟨rfl,hb,ry⟩
theorem KT.keeps{H H':Hp}{kvs:List (List Key×V)}{xs:List (List Key×Addr×Value)}(r:KT H kvs xs)(ht:∀b ys,H b=some (.tup ys)->H' b=some (.tup ys)):KT H' kvs xs:=
 Paired.mapP r λ_ _ z=>⟨z.1,ht _ _ z.2.1,z.2.2⟩
section
variable {P:Program} {w:World} {H:Hp} {h:Heap} {a:Addr}
theorem Cu{u:HO}(ok:mO P w H h)(e:Rd H a u):dI P w H h a u:=e.ok ok
theorem wQ{kvs:List (Key×V)}(ok:mO P w H h)(e:Rd H a (.dK kvs)):kvs.length<=sizeLine/\(a==sysModules)=false/\∃vs,KV kvs vs/\h.DictOf (eC P w) a vs:=
 show dI P w H h a (.dK kvs) from Cu ok e
theorem DN{kvs:List (Key×V)}(ok:mO P w H h)(e:H a=some (.dK kvs)):kvs.length<=sizeLine/\(a==sysModules)=false/\∃vs,KV kvs vs/\h.DictOf (eC P w) a vs:=wQ ok (.inl e)
theorem rC{ks:List Key}(ok:mO P w H h)(e:H a=some (.tup (ks.map kV))):(tupleKind (eC P w)).is h ks a:=by
 obtain⟨_,its,r,o,h1,h2,n,h3⟩:=(show dI P w H h a (.tup (ks.map kV)) from ok a _ e)
 exact⟨o,its.toArray,n,h1,h2,h3,by simpa using qN r⟩
theorem wO{kvs:List (List Key×V)}(ok:mO P w H h)(e:Rd H a (.dT kvs)):kvs.length<=sizeLine/\(a==sysModules)=false ∧
  ∃xs,KT H kvs xs/\h.DictOfH (tupleKind (eC P w)) a xs:=by
 obtain⟨z,y,xs,r,o,es,ep,h1,h2,h3,h4,h5⟩:=(show dI P w H h a (.dT kvs) from Cu ok e)
 refine⟨z,y,xs,r,o,es,ep,h1,h2,h3,h4,λx hx=>?_,h5⟩;have all:∀{l:List (List Key×V)} {m:List (List Key×Addr×Value)},KT H l m->∀x∈m,(tupleKind (eC P w)).is h x.1 x.2.1:=by
  intro l m q
  induction q with
  | nil=>intro x hx;exact nomatch hx
  | @cons p q ps qs hq t ih=>
   intro x hx;rcases aF.mp hx with e | hx
   ·subst e;exact rC ok (by rw[<-hq.1];exact hq.2.1)
   ·exact ih x hx
 exact all r x hx
theorem DM{kvs:List (List Key×V)}(ok:mO P w H h)(e:H a=some (.dT kvs)):kvs.length<=sizeLine/\(a==sysModules)=false ∧
  ∃xs,KT H kvs xs/\h.DictOfH (tupleKind (eC P w)) a xs:=wO ok (.inl e)
end
def kc(H:Hp)(a:Addr)(y:V)(r:Option V):Prop:=
 (∃kvs k,Rd H a (.dK kvs)/\y=kV k/\r=fg kvs k)\/∃kvs k b,Rd H a (.dT kvs)/\y=.ref b/\H b=some (.tup (k.map kV))/\r=fg kvs k
def pN(H:Hp)(a:Addr)(y v:V)(H':Hp):Prop:=
 (∃kvs k,H a=some (.dK kvs)/\y=kV k/\kvs.length<sizeLine/\H'=upd H a (.dK (putK kvs k v))) ∨
 ∃kvs k b,H a=some (.dT kvs)/\y=.ref b/\H b=some (.tup (k.map kV))/\kvs.length<sizeLine/\H'=upd H a (.dT (putK kvs k v))
theorem kc.k{H:Hp}{a:Addr}{kvs:List (Key×V)}{k:Key}(e:H a=some (.dK kvs)):kc H a (kV k) (fg kvs k):=.inl ⟨kvs,k,.inl e,rfl,rfl⟩
theorem kc.t{H:Hp}{a b:Addr}{kvs:List (List Key×V)}{k:List Key}(e:H a=some (.dT kvs))(eb:H b=some (.tup (k.map kV))):kc H a (.ref b) (fg kvs k):=.inr ⟨kvs,k,b,.inl e,rfl,eb,rfl⟩
theorem pN.k{H:Hp}{a:Addr}{kvs:List (Key×V)}{k:Key}{v:V}(e:H a=some (.dK kvs))(hl:kvs.length<sizeLine):pN H a (kV k) v (upd H a (.dK (putK kvs k v))):=.inl ⟨kvs,k,e,rfl,hl,rfl⟩
theorem pN.t{H:Hp}{a b:Addr}{kvs:List (List Key×V)}{k:List Key}{v:V}(e:H a=some (.dT kvs))(eb:H b=some (.tup (k.map kV)))(hl:kvs.length<sizeLine):
  pN H a (.ref b) v (upd H a (.dT (putK kvs k v))):=.inr ⟨kvs,k,b,e,rfl,eb,hl,rfl⟩
section
variable {X:Cx} {pins:List (Addr×Obj)} {σ:St} {H:Hp} {s:Shared} {a:Addr} {y v:V} {u r:Value} {o:Option V} {A:Around} {E:Value->Shared->Prop}
theorem bW.big(I:bW X pins σ H s):sysModules<s.heap.objs.size:=by
 have h:mainGlobals<s.heap.objs.size:=(I.mod.glob.keeps I.bk).lt;exact Nat.lt_trans (by decide) h
theorem xo{Q:Value->Shared->Prop}(hu:A.units+1<cLine)(I:bW X pins σ H s)(g:kc H a y (some v))(ry:RelV y u)(h:∀w' s',bW X pins σ H s'->RelV v w'->Q w' s'):
  wpAny (model X.prog X.w) A (getItem (.ref a) u) Q E s:=by
 rcases g with ⟨kvs,k,e,ey,l⟩ | ⟨kvs,k,b,e,ey,eb,l⟩
 ·subst ey;obtain⟨z,hd,vs,rel,dd⟩:=wQ I.hok e;obtain⟨w',hw,rw'⟩:=pL.some_of (v:=v) (o:=valueAt vs k) (by rw[l];exact rel.val k);exact wpAny_getItem_of (tP ry) dd.mapOf hw (h w' _ (I.tok _) rw')
 ·subst ey;cases (show u=Value.ref b from ry);obtain⟨z,hd,xs,rel,dd⟩:=wO I.hok e;obtain⟨w',hw,rw'⟩:=pL.some_of (v:=v) (o:=(atKey xs k).map (·.2)) (by rw[l];exact rel.val k);obtain⟨p,hp,hp2⟩:=Option.map_eq_some_iff.mp hw;refine wpAny_getItem_heap (Ks hu) (rC I.hok eb) dd hp ?_;rw[hp2];exact h w' _ (I.tok _) rw'
theorem He{Q:Value->Shared->Prop}(hu:A.units+1<cLine)(I:bW X pins σ H s)(g:kc H a y o)(ry:RelV y u)(h:∀s',bW X pins σ H s'->Q (.bool o.isSome) s'):
  wpAny (model X.prog X.w) A (compareOp .In u (.ref a)) Q E s:=by
 rcases g with ⟨kvs,k,e,ey,l⟩ | ⟨kvs,k,b,e,ey,eb,l⟩
 ·subst ey;obtain⟨z,hd,vs,rel,dd⟩:=wQ I.hok e;refine wpAny_in_of (tP ry) hd dd.mapOf ?_;rw[<-(rel.val k).isSome_eq,<-l];exact h _ (I.tok _)
 ·subst ey;cases (show u=Value.ref b from ry);obtain⟨z,hd,xs,rel,dd⟩:=wO I.hok e;refine wpAny_in_heap (Ks hu) (rC I.hok eb) hd dd ?_;have q:=(rel.val k).isSome_eq;rw[Option.isSome_map] at q;rw[<-q,<-l];exact h _ (I.tok _)
theorem rP{h':Heap}{t':Nat}{ob:HO}(I:bW X pins σ H s)(mu:Gb (H a))(hs:Heap.SameBut a s.heap h')(he:∃q,h'.get? a=some q)(new:dI X.prog X.w (upd H a ob) h' a ob):
  bW X pins σ (upd H a ob) { s with heap:=h',toks:=t' }:=
 I.write (x:=a) (e:=a) mu (.inl rfl) (λb q hb z=>(hs.2 b hb).trans z) he new
theorem Ah{P:Program}{w:World}{H':Hp}{h':Heap}{kvs:List (Key×V)}{vs:List (Key×Value)}(z:kvs.length<=sizeLine)(hd:(a==sysModules)=false)(rel:KV kvs vs)(dd:h'.DictOf (eC P w) a vs):
  dI P w H' h' a (.dK kvs):=⟨z,hd,vs,rel,dd⟩
theorem xn{H':Hp}{Q:Unit->Shared->Prop}(hu:A.units+1<cLine)(I:bW X pins σ H s)(g:pN H a y v H')(ry:RelV y u)(rv:RelV v r)(h:∀s',bW X pins σ H' s'->Q () s'):
  wpAny (model X.prog X.w) A (setItem (.ref a) u r) Q E s:=by
 rcases g with ⟨kvs,k,e,ey,l,eH⟩ | ⟨kvs,k,b,e,ey,eb,l,eH⟩
 ·subst ey eH;obtain⟨z,hd,vs,rel,dd⟩:=DN I.hok e;have hz:vs.length<=sizeLine:=by rw[<-rel.length];exact z
  have hl:(putK kvs k v).length<=sizeLine:=by have:=eS kvs k v;lia
  refine wpAny_setItem_pairs (hsz:=hz) (tP ry) dd λh' dd' hs=>h _ ?_;have he:∃q,h'.get? a=some q:=let ⟨q,_,_,hq,_⟩:=dd';⟨q,hq⟩;exact rP I (by rw[e];exact True.intro) hs he (Ah hl hd (rel.put k rv) dd')
 ·subst ey eH;cases (show u=Value.ref b from ry);obtain⟨z,hd,xs,rel,dd⟩:=DM I.hok e;have hz:xs.length<=sizeLine:=by rw[<-bu rel];exact z
  have hl:(putK kvs k v).length<=sizeLine:=by have:=eS kvs k v;lia
  refine wpAny_setItem_heap (hsz:=hz) (Ks hu) (rC I.hok eb) dd λh' dd' hs=>h _ ?_;obtain⟨q,es,ep,hq,h2,h3,h4,_,h5⟩:=dd';refine rP I (by rw[e];exact True.intro) hs ⟨q,hq⟩ ⟨hl,hd,_,(rel.put k eb rv).keeps λc ys ec=>?_,q,es,ep,hq,h2,h3,h4,h5⟩;rw[aX (wA ec e (λz=>nomatch z))];exact ec
end
def Ga(i:Expr):Prop:=∀ov iv,subscripted i false ov iv=operate [ov,iv] (getItem ov iv)
theorem BR{prog:Program}{w:World}{A:Around}{E:Value->Shared->Prop}{s:Shared}{env:Env}{value slice:Expr}{pos:Pos}{T id:String}{Q:Value->Shared->Prop}
  (hl:typeLookup (.type T) "__getitem__"=pure (some (.builtin id))) (hs:Ga slice)
  (h:wpAny (model prog w) A (eval value env) (λo s₁=>wpAny (model prog w) A (eval slice env) (λi s₂=>s₂.TypeIs o T/\wpAny (model prog w) A (getItem o i) Q E s₂) E s₁) E s) :
  wpAny (model prog w) A (eval (.Subscript value slice pos) env) Q E s:=by
 refine Subscript_ (Kb h (λo s₁ h₁=>Kb h₁ (λi s₂ h₂=>?_) λ_ _ x=>x) λ_ _ x=>x);obtain⟨hT,h₂⟩:=h₂;unfold subscriptTail;refine wpAny_bind ?_;rw[getitemInPython_of_ne hT.not_modules];refine wpAny_bind (wpAny_specialOf hT hl ?_);have fin:wpAny (model prog w) A (subscripted slice false o i) (λr s₃=>wpAny (model prog w) A (letTemporaryGo value o r>>=λ_=>pure r) Q E s₃) E s₂:=by
  rw[hs o i];exact wpAny_operating (Kb h₂ (λr s₃ h₃=>wpAny_bind (wpAny_letTemporaryGo (Kd h₃))) λ_ _ x=>x)
 first
  | exact Kd (wpAny_bind fin)
  | exact wpAny_bind (Kd (wpAny_bind fin))
  | exact wpAny_bind fin
theorem t0 {X:Cx} {pins:List (Addr×Obj)} {σ:St} {H:Hp} {s:Shared} {a:Addr} {y:V} {o:Option V} (I:bW X pins σ H s) (g:kc H a y o):s.TypeIs (.ref a) "dict":=by
 rcases g with ⟨kvs,k,e,_,_⟩ | ⟨kvs,k,b,e,_,_,_⟩
 ·obtain⟨_,_,vs,_,dd⟩:=wQ I.hok e;exact dd.typeIs
 ·obtain⟨_,_,xs,_,dd⟩:=wO I.hok e;exact dd.typeIs
def Cm(td ty:TE):TE:=λσ H Q=>td σ H λx H1=>ty σ H1 λy H2=>∃a v,x=.ref a/\kc H2 a y (some v)/\Q v H2
def Dl(ty td:TE):TE:=λσ H Q=>ty σ H λy H1=>td σ H1 λx H2=>∃a o,x=.ref a/\kc H2 a y o/\Q (.bl o.isSome) H2
def BQ(ty td:TE):TE:=λσ H Q=>ty σ H λy H1=>td σ H1 λx H2=>∃a o,x=.ref a/\kc H2 a y o/\Q (.bl (!o.isSome)) H2
def Cp(td ty tv:TE):TS:=λD σ H=>tv σ H λv H1=>td σ H1 λx H2=>ty σ H2 λy H3=>∃a H4,x=.ref a/\pN H3 a y v H4/\D.nx σ H4
section
variable {X:Cx} {o i:Expr} {td ty:TE}
theorem ED(hu:X.A.units+1<cLine)(hi:PE X i ty)(ho:PE X o td):PC X .In i o (Dl ty td):=by
 intro pins s σ H Q I h;refine dk (hi pins s σ H _ I h) λiv s1 ⟨y,H1,I1,ry,q1⟩=>dk (ho pins s1 σ H1 _ I1 q1) λu s2 ⟨x,H2,I2,rx,a,ov,ex,g,q2⟩=>?_;subst ex;obtain rfl:u=Value.ref a:=rx;exact He hu I2 g ry λs3 I3=>⟨.bl ov.isSome,H2,I3,rfl,q2⟩
end
theorem tZ {P:Program} {w:World} {H:Hp} (h:Heap) (hb:sysModules<h.objs.size):dI P w H (h.push { cls:=.type "dict",data:=.dict #[] }) h.objs.size (.dK []):=
 ⟨a6 _,beq_eq_false_iff_ne.mpr (cH (a9 hb)),[],.nil,Heap.DictOf.new h⟩
theorem Ag {P:Program} {w:World} {H:Hp} (h:Heap) (hb:sysModules<h.objs.size):dI P w H (h.push { cls:=.type "dict",data:=.dict #[] }) h.objs.size (.dT []):=
 ⟨a6 _,beq_eq_false_iff_ne.mpr (cH (a9 hb)),[],.nil,_,#[],0,aP _ rfl,⟨rfl,rfl,rfl⟩,rfl,rfl,List.nodup_nil⟩
def zJ:TE:=λ_ H Q=>∀p,H p=none->Q (.ref p) (upd H p (.dK []))
def zI:TE:=λ_ H Q=>∀p,H p=none->Q (.ref p) (upd H p (.dT []))
def mD:List (TE×TE)->St->Hp->(List (V×V)->Hp->Prop)->Prop
 | [],_,H,Q=>Q [] H
 | (tk,tv)::r,σ,H,Q=>tk σ H λx H1=>tv σ H1 λy H2=>mD r σ H2 λps H3=>Q ((x,y)::ps) H3
abbrev VV:List (V×V)->List (Value×Value)->Prop:=Paired λp q=>RelV p.1 q.1/\RelV p.2 q.2
def Ia(X:Cx)(pos:Pos)(keys:List (Option Expr))(values:List Expr)(trs:List (TE×TE)):Prop:=
 ∀(pins:List (Addr×Obj)) (s:Shared) (σ:St) (H:Hp) (Q:List (V×V)->Hp->Prop),bW X pins σ H s->mD trs σ H Q →
  wpAny (model X.prog X.w) X.A (evalPairs (pairTrees keys values X.env pos)) (λvs s'=>∃ps H',bW X pins σ H' s'/\VV ps vs/\Q ps H') X.xe s
def mJ(kvs more:List (Key×V)):List (Key×V):=more.foldl (λacc kv=>putK acc kv.1 kv.2) kvs
theorem KV.merge:∀{more:List (Key×V)} {rs:List (Key×Value)} {kvs:List (Key×V)} {vs:List (Key×Value)},KV more rs->KV kvs vs->KV (mJ kvs more) (merged vs rs):=by
 intro more rs kvs vs r;unfold KV at r
 induction r generalizing kvs vs with
 | nil=>intro q;exact q
 | @cons p q ps qs h t ih=>
  intro r0;have e:KV (putK kvs p.1 p.2) (stored vs q.1 q.2):=by
   have:=r0.put p.1 h.2;rw[<-h.1];exact this
  exact ih e
theorem ly:∀(more kvs:List (Key×V)),(mJ kvs more).length<=kvs.length+more.length
 | [],kvs=>by show kvs.length<=kvs.length+0;lia
 | p::r,kvs=>by
  have h1:=ly r (putK kvs p.1 p.2);have h2:=eS kvs p.1 p.2;show (mJ (putK kvs p.1 p.2) r).length<=_;rw[bb];lia
theorem pI{P:Program}{w:World}:∀{kvs:List (Key×V)} {ws:List (Value×Value)},VV (kvs.map λkv=>(kV kv.1,kv.2)) ws->∃rs,Carries (eC P w) ws rs/\KV kvs rs
 | [],_,r=>by rw[fV] at r;cases r;exact⟨[],True.intro,.nil⟩
 | p::kvs,_,r=>by
  rw[aZ] at r;cases r with
  | @cons a b as bs h t=>
   obtain⟨rs,c,q⟩:=pI (P:=P) (w:=w) t;obtain⟨b1,b2⟩:=b;exact⟨(p.1,b2)::rs,⟨tP h.1,rfl,c⟩,.cons ⟨rfl,h.2⟩ q⟩
def Ck(trs:List (TE×TE)):TE:=λσ H Q=>∀p,H p=none->mD trs σ (upd H p (.dK [])) λps H2=>H2 p=some (.dK [])/\∃kvs:List (Key×V),ps=kvs.map (λkv=>(kV kv.1,kv.2))/\kvs.length<=15/\Q (.ref p) (upd H2 p (.dK (mJ [] kvs)))
structure M1 (X:Cx) (o:Expr) (m:Str) (apos:Pos) (e:Expr) (cpos:Pos):Prop where
 base:attributeBase o m X.env (eval o X.env)=eval o X.env
 few:((backTo cpos (starEach [e] X.env)).all (fun x=>!x.1)&&(backToKw cpos (keywordEach [] X.env)).all (fun x=>x.1.isSome)
  && decide (([e]:List Expr).length+([]:List Keyword).length+(if ([]:List Keyword).isEmpty then 0 else 1)<30))=true
 line:(apos.endLine==cpos.line)=true
 trees:backTo cpos (starEach [e] X.env)=[(false,eval e X.env)]
structure M2 (X:Cx) (o:Expr) (m:Str) (apos:Pos) (e f:Expr) (cpos:Pos):Prop where
 base:attributeBase o m X.env (eval o X.env)=eval o X.env
 few:((backTo cpos (starEach [e,f] X.env)).all (fun x=>!x.1)&&(backToKw cpos (keywordEach [] X.env)).all (fun x=>x.1.isSome)
  && decide (([e,f]:List Expr).length+([]:List Keyword).length+(if ([]:List Keyword).isEmpty then 0 else 1)<30))=true
 line:(apos.endLine==cpos.line)=true
 trees:backTo cpos (starEach [e,f] X.env)=[(false,eval e X.env),(false,eval f X.env)]
mutual
inductive Rep (K:LU) (H:Hp):V->PyData->Prop
 | non:Rep K H .non .none
 | bl (b:Bool):Rep K H (.bl b) (.bool b)
 | int (i:Int):Rep K H (.int i) (.int i)
 | str (x:Str):Rep K H (.str x) (.str x)
 | tup {a:Addr} {xs:List V} {ds:List PyData}:eR K H a xs->mN K H xs ds->Rep K H (.ref a) (.tuple ds)
 | lst {a:Addr} {xs:List V} {ds:List PyData}:cy K H a xs->mN K H xs ds->Rep K H (.ref a) (.list ds)
inductive mN (K:LU) (H:Hp):List V->List PyData->Prop
 | nil:mN K H [] []
 | cons {x:V} {xs:List V} {d:PyData} {ds:List PyData}:Rep K H x d->mN K H xs ds->mN K H (x::xs) (d::ds)
end
section
variable {X:Cx} {pins:List (Addr×Obj)} {σ:St} {H:Hp} {s:Shared}
mutual
theorem Rep.reads(I:bW X pins σ H s):∀{x:V} {d:PyData} {u:Value},Rep X.K H x d->RelV x u->∃as,Reads s.heap u d as
 | _,_,_,.non,r=>by cases r;exact⟨_,.none⟩
 | _,_,_,.bl b,r=>by cases r;exact⟨_,.bool b⟩
 | _,_,_,.int i,r=>by obtain⟨t,rfl⟩:=r;exact⟨_,.int i t⟩
 | _,_,_,.str x,r=>by obtain⟨t,rfl⟩:=r;exact⟨_,.str x t⟩
 | _,_,_,.tup h hl,r=>by
  cases r;obtain⟨its,vs,⟨o,e,c,n,dd⟩,_⟩:=I.tuple h;obtain⟨as,ra⟩:=mN.reads I hl vs;exact⟨_,.tuple e c dd (by simpa using ra)⟩
 | _,_,_,.lst h hl,r=>by
  cases r;obtain⟨its,vs,pl,_⟩:=I.list h;obtain⟨o,e,c,n,dd⟩:=pl.isList;obtain⟨as,ra⟩:=mN.reads I hl vs;exact⟨_,.list e c dd (by simpa using ra)⟩
theorem mN.reads(I:bW X pins σ H s):∀{xs:List V} {ds:List PyData} {us:List Value},mN X.K H xs ds->bj xs us->∃as,ReadsAll s.heap us ds as
 | _,_,_,.nil,.nil=>⟨_,.nil⟩
 | _,_,_,.cons h hl,.cons r rs=>by
  obtain⟨as,ra⟩:=Rep.reads I h r;obtain⟨bs,rb⟩:=mN.reads I hl rs;exact⟨_,.cons ra rb⟩
end
end
def GE(K:LU)(neg:Bool):R2:=λx y H Q=>∃d e,Rep K H x d/\Rep K H y e/\d.canLay0=true/\e.canLay0=true/\min d.depth e.depth<=60 ∧
 Q (.bl (if neg then !PyData.eqv d e else PyData.eqv d e)) H
section
variable {X:Cx}
theorem EH(hu:X.A.units+64<cLine):mS X (compareOp .NotEq) (GE X.K true):=by
 intro pins s σ H x y v u Q I rx ry h;obtain⟨d,e,h1,h2,h3,h4,h5,q⟩:=h;obtain⟨as,ra⟩:=h1.reads I rx;obtain⟨bs,rb⟩:=h2.reads I ry;exact SeqAt.compareNe_reads ra rb h3 h4 (by lia) ⟨.bl _,H,I,rfl,q⟩
open Classical in
noncomputable def eqR (h:Heap) (d:PyData) (u:Value):Bool:=if z:∃e as,Reads h u e as/\e.canLay0=true then PyData.eqv z.choose d else false
theorem Af{h:Heap}{d e:PyData}{u:Value}{as:List Addr}(r:Reads h u e as)(c:e.canLay0=true):eqR h d u=PyData.eqv e d:=by
 have z:∃e as,Reads h u e as/\e.canLay0=true:=⟨e,as,r,c⟩
 unfold eqR;rw[dif_pos z];obtain⟨as',r',c'⟩:=z.choose_spec;rw[SeqAt.Reads.unique _ _ _ _ _ c' r' r]
theorem rW{h:Heap}{d:PyData}:∀{us:List Value} {es:List PyData} {as:List Addr},ReadsAll h us es as->PyData.canLayAll0 es=true->us.any (eqR h d)=es.any λe=>PyData.eqv e d
 | _,_,_,.nil,_=>rfl
 | _,_,_,.cons r rs,c=>by
  have c':(PyData.canLay0 _&&PyData.canLayAll0 _)=true:=c;rw[cW] at c';rw[gj,gj,Af r c'.1,rW rs c'.2]
theorem qz{A:Around}{s:Shared}{d:PyData}{x:Value}{bs:List Addr}(rx:Reads s.heap x d bs)(cx:d.canLay0=true)(hu:A.units+d.depth<cLine):
  ∀{us:List Value} {es:List PyData} {as:List Addr},ReadsAll s.heap us es as->PyData.canLayAll0 es=true->∀u∈us,SeqAt.EqAt A s u x (eqR s.heap d u)
 | _,_,_,.nil,_=>λu hu=>nomatch hu
 | _,_,_,.cons r rs,c=>λu hm=>by
  have c':(PyData.canLay0 _&&PyData.canLayAll0 _)=true:=c;rw[cW] at c';rcases aF.mp hm with rfl | hm
  ·rw[Af r c'.1];exact SeqAt.eqAt_reads _ _ A s _ _ _ _ r rx c'.1 cx (by lia)
  ·exact qz rx cx hu rs c'.2 u hm
def GD(K:LU)(neg:Bool):R2:=λx y H Q=>∃d es p xs,Rep K H x d/\y=.ref p/\(cy K H p xs\/eR K H p xs)/\mN K H xs es/\d.canLay0=true/\PyData.canLayAll0 es=true/\d.depth<=60 ∧
 Q (.bl (if neg then !(es.any λe=>PyData.eqv e d) else es.any λe=>PyData.eqv e d)) H
theorem zw(hu:X.A.units+64<cLine):mS X (compareOp .In) (GD X.K false):=by
 intro pins s σ H x y v u Q I rx ry h;obtain⟨d,es,p,xs,h1,rfl,hq,h2,h3,h4,h5,q⟩:=h;cases ry;obtain⟨as,ra⟩:=h1.reads I rx;rcases hq with hq | hq
 ·obtain⟨its,r,pl,hz⟩:=I.list hq;obtain⟨bs,rb⟩:=h2.reads I r;refine SeqAt.in_listAt (eqR s.heap d) pl.isList (λz hz=>qz (A:=X.A.in1) ra h3 (by show X.A.units+1+d.depth<cLine;lia) rb h4 z (by simpa using hz)) ⟨.bl _,H,I,rfl,?_⟩;rw[show its.toArray.any (eqR s.heap d)=its.any (eqR s.heap d) by simp,rW rb h4];exact q
 ·obtain⟨its,r,pl,hz⟩:=I.tuple hq;obtain⟨bs,rb⟩:=h2.reads I r;refine SeqAt.in_tupleAt (eqR s.heap d) pl (λz hz=>qz (A:=X.A.in1) ra h3 (by show X.A.units+1+d.depth<cLine;lia) rb h4 z (by simpa using hz)) ⟨.bl _,H,I,rfl,?_⟩;rw[show its.toArray.any (eqR s.heap d)=its.any (eqR s.heap d) by simp,rW rb h4];exact q
def GC(K:LU):List V->Hp->VK->Prop:=λxs H Q=>∃x T t b,xs=[x,.ty T]/\mq K H x t/\PySem.W.kitOne K t (.type T)=some b/\Q (.bl b) H
theorem An:jB X (.builtin "isinstance") (GC X.K):=by
 intro pins s σ H xs us Q I r h;obtain⟨x,T,t,b,rfl,ty,e,q⟩:=h;obtain⟨u,w,rfl,rx,rw'⟩:=bj.two r;cases (show w=Value.type T from rw');exact xg I rx ty e λtk=>⟨.bl b,H,I.tok tk,rfl,q⟩
def vd(r r' r2:R2)(ta tb tc td:TE):TE:=λσ H Q=>ta σ H λx H1=>tb σ H1 λy H2=>r x y H2 λz H3=>∃k,z=.bl k ∧
 (if k=true then tc σ H3 λw' H4=>r' y w' H4 λz2 H5=>∃k2,z2=.bl k2/\(if k2=true then td σ H5 λe H6=>r2 w' e H6 Q else Q (.bl false) H5) else Q (.bl false) H3)
def iT(lo:Int)(n:Nat):List Int:=(List.range n).map λ(i:Nat)=>lo+(i:Int)
end
structure Fn (K:LU) (mg:Str->Option Value) (x:Str) (st:Stmt) (ps:List Str):Prop where
 ex:∃ f fd,Ax K x x st f fd/\mg x=some (.ref f)/\Binds K fd ps []
structure gV (P:Program) (w:World) (K:LU) (mg:Str->Option Value) (base:Heap) (k:Nat) (x:Str) (st:Stmt) (ps:List Str) (sp:Sp):Prop where
 ex:∃ f fd,Ax K x x st f fd/\mg x=some (.ref f)/\Binds K fd ps []/\pM P w K mg base Ay k f fd ps sp
theorem Fn.mk'{P:Program}{w:World}{K:LU}{mg:Str->Option Value}{base:Heap}{k:Nat}{x:Str}{st:Stmt}{ps:List Str}{sp:Sp}(E:Fn K mg x st ps)
  (h:∀f fd,Ax K x x st f fd->pM P w K mg base Ay k f fd ps sp):gV P w K mg base k x st ps sp:=by
 obtain⟨f,fd,F,m,b⟩:=E.ex;exact⟨f,fd,F,m,b,h f fd F⟩
theorem ao.new{H H2:Hp}{l:Addr}{o:HO}(s:ao H H2)(h:H l=none):ao H (upd H2 l o):=λb u e=>by rw[aX (bK e h)];exact s b u e
theorem ft{α β:Type}{R:α->β->Prop}:∀{xs:List α} {ys:List β} {x:α} {y:β},Paired R xs ys->R x y->Paired R (xs++[x]) (ys++[y])
 | _,_,_,_,.nil,h=>.cons h .nil
 | _,_,_,_,.cons r t,h=>.cons r (ft t h)
theorem cY{α β:Type}{R S:α->β->Prop}:∀{xs:List α} {ys:List β},Paired R xs ys->(∀a b,R a b->S a b)->Paired S xs ys
 | _,_,.nil,_=>.nil
 | _,_,.cons r t,f=>.cons (f _ _ r) (cY t f)
theorem paired_get{α β:Type}{R:α->β->Prop}:∀{xs:List α} {ys:List β} {i:Nat} {x:α},Paired R xs ys->xs[i]? = some x->∃y,ys[i]? = some y/\R x y
 | _,_,_,_,.nil,e=>by simp at e
 | _,_,0,_,.cons r _,e=>by simp at e;subst e;exact⟨_,rfl,r⟩
 | _,_,i+1,x,.cons _ t,e=>by
  obtain⟨y,h1,h2⟩:=paired_get (i:=i) (x:=x) t (by simpa using e);exact⟨y,by simpa using h1,h2⟩
section
variable {σ:St} {H:Hp} {Q:VK} {D:Ends}
theorem DW{v:V}:uL 0 (some v::σ) H Q=Q v H:=propext ⟨λ⟨_,e,h⟩=>by cases e;exact h,λh=>⟨v,rfl,h⟩⟩
theorem y9{i:Nat}{x:Option V}:uL (i+1) (x::σ) H Q=uL i σ H Q:=rfl
theorem Hs{v:V}:tC v σ H Q=Q v H:=rfl
theorem FM{r:R2}{ta tb:TE}:F9 r ta tb σ H Q=ta σ H λx H1=>tb σ H1 λy H2=>r x y H2 Q:=rfl
theorem FF{r:V->Hp->VK->Prop}{ta:TE}:Hv r ta σ H Q=ta σ H λx H1=>r x H1 Q:=rfl
theorem BJ{g:Int->Int->V}{i j:Int}:Cv g (.int i) (.int j) H Q=Q (g i j) H:=propext ⟨λ⟨_,_,e,e',h⟩=>by cases e;cases e';exact h,λh=>⟨i,j,rfl,rfl,h⟩⟩
theorem IP{C:Int->Int->Prop}{g:Int->Int->V}{i j:Int}:rI C g (.int i) (.int j) H Q=(C i j/\Q (g i j) H):=propext ⟨λ⟨_,_,e,e',h⟩=>by cases e;cases e';exact h,λh=>⟨i,j,rfl,rfl,h⟩⟩
theorem IM{g:Int->V}{i:Int}:rU g (.int i) H Q=Q (g i) H:=propext ⟨λ⟨_,e,h⟩=>by cases e;exact h,λh=>⟨i,rfl,h⟩⟩
theorem FZ{i j:Int}:Gw (.int i) (.int j) H Q=Q (.bl (decide (i=j))) H:=propext ⟨λ⟨_,h⟩=>by simpa using h,λh=>⟨rfl,by simpa using h⟩⟩
theorem FO{i j:Int}:Gv (.int i) (.int j) H Q=Q (.bl (!decide (i=j))) H:=propext ⟨λ⟨_,h⟩=>by simpa using h,λh=>⟨rfl,by simpa using h⟩⟩
theorem FY{i j:Str}:Gw (.str i) (.str j) H Q=Q (.bl (decide (i=j))) H:=propext ⟨λ⟨_,h⟩=>by simpa using h,λh=>⟨rfl,by simpa using h⟩⟩
theorem FN{i j:Str}:Gv (.str i) (.str j) H Q=Q (.bl (!decide (i=j))) H:=propext ⟨λ⟨_,h⟩=>by simpa using h,λh=>⟨rfl,by simpa using h⟩⟩
theorem F0{i j:Bool}:Gw (.bl i) (.bl j) H Q=Q (.bl (decide (i=j))) H:=propext ⟨λ⟨_,h⟩=>by simpa using h,λh=>⟨rfl,by simpa using h⟩⟩
theorem FP{i j:Bool}:Gv (.bl i) (.bl j) H Q=Q (.bl (!decide (i=j))) H:=propext ⟨λ⟨_,h⟩=>by simpa using h,λh=>⟨rfl,by simpa using h⟩⟩
theorem FX{b:Bool}{q:Bool->Prop}:(∃k,V.bl b=.bl k/\q k)=q b:=propext ⟨λ⟨_,e,h⟩=>by cases e;exact h,λh=>⟨b,rfl,h⟩⟩
theorem FW{b:Int}{q:Int->Prop}:(∃k,V.int b=.int k/\q k)=q b:=propext ⟨λ⟨_,e,h⟩=>by cases e;exact h,λh=>⟨b,rfl,h⟩⟩
theorem Dc{i j:Str}{q:Str->Str->Prop}:(∃a b,V.str i=.str a/\V.str j=.str b/\q a b)=q i j:=
 propext ⟨λ⟨_,_,e,e',h⟩=>by cases e;cases e';exact h,λh=>⟨i,j,rfl,rfl,h⟩⟩
theorem Ht{CX:Au}{P:Program}{w:World}{K:LU}{mg:Str->Option Value}{base:Heap}{N:List Str}{qual:Str}{scope:Scope}{f:Addr}{cd:Value}{A:Around}{outer:List Env}{s:Shared}{H:Hp}{E:XK}:(t6 CX P w K mg base N qual scope f cd A outer s H E).K=K:=rfl
theorem Cd{i:Nat}{te:TE}{ti:G6}:Fh i te ti D σ H=uL i σ H λx _=>te σ H λy H1=>ti x y H1 λz H2=>D.nx (σ.set i (some z)) H2:=rfl
theorem HG{f:Int->Int->Int}{i j:Int}:Ha f (.int i) (.int j) H Q=Q (.int (f i j)) H:=propext ⟨λ⟨_,_,e,e',h⟩=>by cases e;cases e';exact h,λh=>⟨i,j,rfl,rfl,h⟩⟩
theorem D4{a b:Bool}{q:Bool->Bool->Prop}:(∃c d,V.bl a=.bl c/\V.bl b=.bl d/\q c d)=q a b:=propext ⟨λ⟨_,_,e,e',h⟩=>by cases e;cases e';exact h,λh=>⟨a,b,rfl,rfl,h⟩⟩
theorem FV{a:Addr}{q:Addr->Prop}:(∃b,V.ref a=.ref b/\q b)=q a:=propext ⟨λ⟨_,e,h⟩=>by cases e;exact h,λh=>⟨a,rfl,h⟩⟩
theorem D3{α:Type}{a:Addr}{q:Addr->α->Prop}:(∃b y,V.ref a=.ref b/\q b y)=∃y,q a y:=propext ⟨λ⟨_,y,e,h⟩=>by cases e;exact⟨y,h⟩,λ⟨y,h⟩=>⟨a,y,rfl,h⟩⟩
theorem D9{i:Int}{q:Int->Prop}:(∃j,[V.int i]=[.int j]/\q j)=q i:=propext ⟨λ⟨_,e,h⟩=>by cases e;exact h,λh=>⟨i,rfl,h⟩⟩
theorem D7{i:Str}{q:Str->Prop}:(∃j,[V.str i]=[.str j]/\q j)=q i:=propext ⟨λ⟨_,e,h⟩=>by cases e;exact h,λh=>⟨i,rfl,h⟩⟩
theorem D8{α:Type}{i:Addr}{q:Addr->α->Prop}:(∃j y,[V.ref i]=[.ref j]/\q j y)=∃y,q i y:=propext ⟨λ⟨_,y,e,h⟩=>by cases e;exact⟨y,h⟩,λ⟨y,h⟩=>⟨i,y,rfl,h⟩⟩
theorem D5{α β:Type}{i:Addr}{q:Addr->α->β->Prop}:(∃j y z,[V.ref i]=[.ref j]/\q j y z)=∃y z,q i y z:=propext ⟨λ⟨_,y,z,e,h⟩=>by cases e;exact⟨y,z,h⟩,λ⟨y,z,h⟩=>⟨i,y,z,rfl,h⟩⟩
theorem D6{i j:Int}{q:Int->Int->Prop}:(∃a b,[V.int i,V.int j]=[.int a,.int b]/\q a b)=q i j:=propext ⟨λ⟨_,_,e,h⟩=>by cases e;exact h,λh=>⟨i,j,rfl,h⟩⟩
theorem DX{b:Bool}{q:Int->Prop}{r:Bool->Prop}:((∃i,[V.bl b]=[.int i]/\q i)\/∃k,[V.bl b]=[.bl k]/\r k)=r b:=
 propext ⟨λh=>by rcases h with ⟨_,e,_⟩ | ⟨_,e,h⟩<;>cases e;exact h,λh=>.inr ⟨b,rfl,h⟩⟩
theorem FR{z:Str}{i:Int}:Fz (.str z) (.int i) H Q=(z.length<=sizeLine/\∃c,uC z.cps.toList i=some c/\Q (.str ⟨#[c]⟩) H):=
 propext ⟨λ⟨_,_,c,e,e',h1,h2,h3⟩=>by cases e;cases e';exact⟨h1,c,h2,h3⟩,λ⟨h1,c,h2,h3⟩=>⟨z,i,c,rfl,rfl,h1,h2,h3⟩⟩
theorem FS{K:LU}{p:Addr}{i:Int}:GA K (.ref p) (.int i) H Q=∃xs v,cy K H p xs/\uC xs i=some v/\Q v H:=
 propext ⟨λ⟨_,xs,_,v,e,e',h⟩=>by cases e;cases e';exact⟨xs,v,h⟩,λ⟨xs,v,h⟩=>⟨p,xs,i,v,rfl,rfl,h⟩⟩
theorem FQ{K:LU}{p:Addr}{i:Int}:EA K (.ref p) (.int i) H Q=∃xs v,eR K H p xs/\uC xs i=some v/\Q v H:=
 propext ⟨λ⟨_,xs,_,v,e,e',h⟩=>by cases e;cases e';exact⟨xs,v,h⟩,λ⟨xs,v,h⟩=>⟨p,xs,i,v,rfl,rfl,h⟩⟩
theorem F3{l:Addr}{y:V}:vw (.ref l) [y] H Q=∃xs,H l=some (.lst xs)/\xs.length<sizeLine/\Q .non (upd H l (.lst (xs++[y]))):=
 propext ⟨λ⟨_,xs,_,e,e',h⟩=>by cases e;cases e';exact⟨xs,h⟩,λ⟨xs,h⟩=>⟨l,xs,y,rfl,rfl,h⟩⟩
theorem FL{l:Addr}:Fy (.ref l) [] H Q=∃xs y,H l=some (.lst xs)/\xs[xs.length - 1]? = some y/\Q y (upd H l (.lst xs.dropLast)):=
 propext ⟨λ⟨_,xs,y,e,_,h⟩=>by cases e;exact⟨xs,y,h⟩,λ⟨xs,y,h⟩=>⟨l,xs,y,rfl,rfl,h⟩⟩
theorem eZ{α:Type}{f:α->V}{l:List α}{k:Nat}{y:V}(h:(l.map f)[k]? = some y):∃x,l[k]? = some x/\y=f x:=by
 rw[bV] at h;cases e:l[k]? with
 | none=>rw[e] at h;cases h
 | some x=>rw[e] at h;exact⟨x,rfl,(bT h).symm⟩
theorem mT {K:LU} {l:Addr} {xs:List V} (h:H l=some (.lst xs)):Eu K "list" (.ref l) H:=.inl ⟨rfl,xs,cy.of h⟩
theorem ya{t:TE}{q:Bool->Hp->Prop}:zG t σ H q=t σ H λx H'=>∃k,x=.bl k/\q k H':=rfl
theorem FG{t:TE}{q:Bool->Hp->Prop}:tB t σ H q=t σ H λx H'=>∃k,x=.bl k/\q k H':=rfl
theorem w_and{t u:TT}{q:Bool->Hp->Prop}:Fj t u σ H q=t σ H λc H1=>if c=true then u σ H1 q else q false H1:=rfl
theorem w_or{t u:TT}{q:Bool->Hp->Prop}:Hx t u σ H q=t σ H λc H1=>if c=true then q true H1 else u σ H1 q:=rfl
theorem w_not{t:TT}{q:Bool->Hp->Prop}:Fa t σ H q=t σ H λc H1=>q (!c) H1:=rfl
theorem yz{ta tb:TE}:Fi ta tb σ H Q=ta σ H λx H1=>∃c,x=.bl c/\if c=true then tb σ H1 Q else Q (.bl false) H1:=rfl
theorem C6{ta tb:TE}:HI ta tb σ H Q=ta σ H λx H1=>∃c,x=.bl c/\if c=true then Q (.bl true) H1 else tb σ H1 Q:=rfl
theorem yg{ta:TE}:Cg ta σ H Q=ta σ H λx H1=>∃c,x=.bl c/\Q (.bl (!c)) H1:=rfl
theorem FT{t:TT}{ta tb:TE}:Hy t ta tb σ H Q=t σ H λc H1=>if c=true then ta σ H1 Q else tb σ H1 Q:=rfl
theorem C4{t u:TS}:F6 t u D σ H=t { nx:=u D,rt:=D.rt,bk:=D.bk,ct:=D.ct } σ H:=rfl
theorem w_next:Ci D σ H=D.nx σ H:=rfl
theorem Cb:Dn D σ H=D.bk σ H:=rfl
theorem yx:Ff D σ H=D.ct σ H:=rfl
theorem yr{te:TE}:Cj te D σ H=te σ H λ_ H1=>D.nx σ H1:=rfl
theorem C5{te:TE}:F8 te D σ H=te σ H D.rt:=rfl
theorem ye:F7 D σ H=D.rt .non H:=rfl
theorem C9{c:TT}{t u:TS}:Fd c t u D σ H=c σ H λb H1=>if b=true then t D σ H1 else u D σ H1:=rfl
theorem Ce{te:TE}{g:TG}:zL te g D σ H=te σ H λx H1=>g x σ H1 D.nx:=rfl
theorem vR{i:Nat}{v:V}{q:St->Hp->Prop}:ou i v σ H q=q (σ.set i (some v)) H:=rfl
theorem yd{v:V}{x:Option V}:List.set (x::σ) 0 (some v)=some v::σ:=rfl
theorem yc{i:Nat}{v:V}{x:Option V}:List.set (x::σ) (i+1) (some v)=x::List.set σ i (some v):=rfl
theorem C7{q:List V->Hp->Prop}:Fb σ H q=q [] H:=rfl
theorem yy{ta:TE}{tr:TA}{q:List V->Hp->Prop}:kh ta tr σ H q=ta σ H λx H1=>tr σ H1 λxs H2=>q (x::xs) H2:=rfl
theorem F1{r:List V->Hp->VK->Prop}{t:TA}:HJ r t σ H Q=t σ H λvs H1=>r vs H1 Q:=rfl
theorem C3{t:TA}:F5 t σ H Q=t σ H λxs H1=>xs.length<=sizeLine/\∀p,H1 p=none->Q (.ref p) (upd H1 p (.tup xs)):=rfl
theorem C8{t:TA}:Fc t σ H Q=t σ H λxs H1=>xs.length<=sizeLine/\∀p,H1 p=none->Q (.ref p) (upd H1 p (.lst xs)):=rfl
theorem w_call{sp:Sp}{dvs:List V}{E:XK}{t:TA}:zK sp dvs E t σ H Q=t σ H λvs H1=>sp (vs++dvs) H1 Q E:=rfl
theorem F2{K:LU}{T:String}{r:V->List V->Hp->VK->Prop}{to:TE}{t:TA}:Hz K T r to t σ H Q=to σ H λx H1=>Eu K T x H1/\t σ H1 λxs H2=>r x xs H2 Q:=rfl
theorem Cc{K:LU}{T:String}{r:V->List V->Hp->VK->Prop}{to:TE}:Fg K T r to σ H Q=to σ H λx H1=>Eu K T x H1/\r x [] H1 Q:=rfl
def lM(J:It)(g:TG)(tb:TS)(D:Ends)(σ:St)(H1:Hp):Prop:=∃W:Nat->Nat->St->Hp->Prop,(∃m,W 0 m σ H1)/\∀i m σ H,W i m σ H →
 (J.stop i H/\D.nx σ H)\/(J.go i H/\∃N:St->Hp->Prop,(∀σ' H',N σ' H'->∃m',m'<m/\W (i+1) m' σ' H')/\∀x H',J.yld i H x H'->g x σ H' λσ2 H2=>tb { D with nx:=N,ct:=N,bk:=D.nx } σ2 H2)
theorem yq{ta:TA}{g:TG}{tb:TS}:n6 (A4 ta) g tb D σ H=ta σ H λvs H1=>∃j:Int,vs=[.int j]/\-(2 ^ 62)<=j/\j<2 ^ 62/\lM (yR 0 j.toNat) g tb D σ H1:=rfl
theorem yp{ta:TA}{g:TG}{tb:TS}:n6 (A3 ta) g tb D σ H=ta σ H λvs H1=>∃i j:Int,vs=[.int i,.int j]/\(-(2 ^ 62)<=i/\i<2 ^ 62/\-(2 ^ 62)<=j/\j<2 ^ 62)/\lM (yR i (j-i).toNat) g tb D σ H1:=rfl
theorem yn{K:LU}{tl:TE}{g:TG}{tb:TS}:n6 (A5 K tl) g tb D σ H=tl σ H λx H1=>∃a,x=.ref a/\(∃xs,cy K H1 a xs)/\lM (CY K a) g tb D σ H1:=rfl
theorem yl{K:LU}{tl:TE}{g:TG}{tb:TS}:n6 (GT K tl) g tb D σ H=tl σ H λx H1=>∃a,x=.ref a/\(∃xs,eR K H1 a xs)/\lM (Hn K a) g tb D σ H1:=rfl
theorem yj{K:LU}{n:Nat}{t:yO}{v:V}{q:St->Hp->Prop}:CD K n t v σ H q=∃a xs,v=.ref a/\eR K H a xs/\xs.length=n/\t xs σ H q:=rfl
theorem DY{q:St->Hp->Prop}:GX [] σ H q=q σ H:=propext ⟨λh=>h.2,λh=>⟨rfl,h⟩⟩
theorem BF{t:TG}{u:yO}{v:V}{r:List V}{q:St->Hp->Prop}:DI t u (v::r) σ H q=t v σ H λσ' H'=>u r σ' H' q:=propext ⟨λ⟨_,_,e,h⟩=>by cases e;exact h,λh=>⟨v,r,rfl,h⟩⟩
theorem sA{r r' r2:R2}{ta tb tc td:TE}:vd r r' r2 ta tb tc td σ H Q=ta σ H λx H1=>tb σ H1 λy H2=>r x y H2 λz H3=>∃k,z=.bl k ∧
 (if k=true then tc σ H3 λw' H4=>r' y w' H4 λz2 H5=>∃k2,z2=.bl k2/\(if k2=true then td σ H5 λe H6=>r2 w' e H6 Q else Q (.bl false) H5) else Q (.bl false) H3):=rfl
theorem v4{r r':R2}{ta tb tc:TE}:Dm r r' ta tb tc σ H Q=ta σ H λx H1=>tb σ H1 λy H2=>r x y H2 λz H3=>∃k,z=.bl k ∧
 (if k=true then tc σ H3 λw' H4=>r' y w' H4 Q else Q (.bl false) H3):=rfl
end
theorem wf{P:List Value->Prop}(h:∀a:Value,P [a]):∀us:List Value,us.length=1->P us
 | [a],_=>h a
theorem Hu{P:List Value->Prop}{n:Nat}(h:∀(a:Value) (r:List Value),r.length=n->P (a::r)):∀us:List Value,us.length=n+1->P us
 | a::r,e=>h a r (Nat.succ.inj e)
theorem we{P:List Value->Prop}(h:∀a b:Value,P [a,b]):∀us:List Value,us.length=2->P us:=Hu λa=>wf λb=>h a b
theorem IQ{P:List Value->Prop}(h:∀a b c:Value,P [a,b,c]):∀us:List Value,us.length=3->P us:=Hu λa=>we λb c=>h a b c
section
variable {X:Cx} {pins:List (Addr×Obj)} {σ:St} {H:Hp} {s:Shared} {h':Heap}
theorem bW.turnNew{fp:List Addr}{p:Addr}{o:HO}{t':Nat}(I:bW X pins σ H s)(hf:∀b∈fp,mP X pins H b)(k:∀b u,b∉fp->s.heap.get? b=some u->h'.get? b=some u)(hp:s.heap.objs.size<=p)
  (new:dI X.prog X.w (upd H p o) h' p o):bW X pins σ (upd H p o) { s with heap:=h',toks:=t' }:=by
 have hn:H p=none:=I.hok.fresh hp;have nfp:∀b u,H b=some u->b∉fp:=λb u e z=>by rw[(hf b z).1] at e;cases e
 refine I.step (g':=s.gens) (d':=s.drawn) (ch:=fp) (λb hb=>?_) (λb u _ _ hc e _=>k b u hc e) (λb u _ _ hc e _=>⟨u.slots,k b u hc e⟩)
  (λb u _ e n=>by rw[aX (a9 (a7 (aN e) hp))];exact n) (λb u hc e=>⟨u,k b u hc e⟩) (λb xs e=>by rw[aX (bK e hn)];exact e)
  (λb u xs e=>by rw[aX (bK e hn)];exact e) (λb ps e=>⟨#[],by rw[aX (bK e hn),e];simp⟩) (λm hm=>?_) (λb u e=>?_) I.bare
 ·obtain⟨_,f1,_,f3,f4,f5⟩:=hf b hb;exact⟨f3,f1,f4,f5⟩
 ·obtain⟨ob,es,ep,ho,r⟩:=hm;exact⟨ob,es,ep,k _ ob (λz=>(hf _ z).2.1 rfl) ho,r⟩
 ·by_cases hb:b=p
  ·subst hb;rw[aG] at e;cases e;exact new
  ·rw[aX hb] at e;refine(I.hok b u e).stay (λc v hc q=>k c v ?_ q) (λc q=>by rw[aX (bK q hn)];exact q) λc xs q=>by rw[aX (bK q hn)];exact q
   rcases hc with z | z
   ·rw[z];exact nfp b u e
   ·exact nfp c _ z
end
def Gg(x:Str):It:=⟨λi _=>i<x.cps.size,λi H v H'=>H'=H/\∃c,x.cps[i]? = some c/\v=.str ⟨#[c]⟩,λi _=>x.cps.size<=i⟩
theorem zE {P : Program} {w : World} {K : LU} {tg : Expr} (it : Addr) (x : Str) (t : Tok) : Turn P w K tg (Gg x) [it] it (fun i h => h.IsStrIter it "str_ascii_iterator" x t i) where
  mem := by simp
  obj := fun i h st b hb => by
    have e : b = it := by simpa using hb
    subst e
    obtain ⟨o, e, c, d⟩ := st
    exact ⟨o, e, fun v z => by rw [d] at z; cases z⟩
  keep := fun i h h' st k => by
    obtain ⟨o, e, r⟩ := st
    exact ⟨o, k it (by simp) o e, r⟩
  item := by
    intro X hP hw hK hc i pins s σ H E I hf st hg
    subst hP hw hK
    obtain ⟨f0, f1, f2, f3, f4, f5⟩ := hf it (by simp)
    have hx : x.cps[i]? = some x.cps[i] := cX hg
    refine wpAny_pyNext_ascii_item st hx fun h' st' sb => ?_
    have I1 : bW X pins σ H { s with heap := h', toks := s.toks + 1 } := I.turned (t' := s.toks + 1) (fun b o hb e => (sb.2 b hb).trans e) f0 f1 f3 f4 f5
    obtain ⟨o, e, c, d⟩ := id st'
    exact ⟨_, rfl, tT (s := { s with heap := h', toks := s.toks + 1 }) e c d (by decide) ⟨.str ⟨#[x.cps[i]]⟩, H, I1, ⟨_, rfl⟩, ⟨rfl, _, hx, rfl⟩, st', fun b hb => (hf b hb).1⟩⟩
  done := by
    intro X hP hw hK hc i pins s σ H E I hf st hg
    subst hP hw hK
    obtain ⟨f0, f1, f2, f3, f4, f5⟩ := hf it (by simp)
    exact wpAny_pyNext_ascii_end (I.ok.hd hc) st (eu hg) fun h' eb => ⟨rfl, I.turned (t' := s.toks) (fun b o hb e => eb b o hb e) f0 f1 f3 f4 f5⟩
  self := fun _ _ _ _ _ st h => wpAny_pyIter_striter_ascii st h
def E9(tl:TE):TI:=λσ H R=>tl σ H λx H1=>∃z,x=.str z/\z.cps.all (·<128)=true/\R (Gg z) H1
def HE(x:Str):It:=⟨λi _=>i<x.cps.size,λi H v H'=>∃p c,H p=none/\x.cps[i]? = some c/\v=.ref p/\H'=upd H p (.tup [.int i,.str ⟨#[c]⟩]),λi _=>i=x.cps.size⟩
theorem wn {P : Program} {w : World} {K : LU} {elts : List Expr} {x1 : Nat} {pos : Pos} (e it : Addr) (hne : e ≠ it) (x : Str) (t : Tok) :
    Turn P w K (.Tuple elts x1 pos) (HE x) [e, it] e (fun i h => (∃ old, IsEnum h e it i old) ∧ h.IsStrIter it "str_ascii_iterator" x t i) where
  mem := by simp
  obj := fun i h st b hb => by
    obtain ⟨⟨old, he⟩, o, ei, c, d⟩ := st
    rcases aF.mp hb with z | z
    · subst z; exact ⟨_, he, fun v z => by cases z⟩
    · have z' : b = it := by simpa using z
      subst z'
      exact ⟨o, ei, fun v z => by rw [d] at z; cases z⟩
  keep := fun i h h' st k => by
    obtain ⟨⟨old, he⟩, o, ei, r⟩ := st
    exact ⟨⟨old, k e (by simp) _ he⟩, o, k it (by simp) o ei, r⟩
  item := by
    intro X hP hw hK hc i pins s σ H E I hf st hg
    subst hP hw hK
    obtain ⟨⟨old, he⟩, hst⟩ := st
    have D : Draws X.prog X.w X.A.in1 it [it] x.cps.size _ _ := lN (show X.A.in1.handled = none from I.ok.hd hc) it x t
    refine wpAny_pyNext_enum_itemD D he hst hg hne (by simpa using hne) fun v h' tk hv ho st' ht hsz kp => ?_
    obtain ⟨c, u, hx, rfl⟩ := hv
    refine ⟨_, rfl, wpAny_letOwnedTupleGo_enum ho fun h2 he2 hs2 => ?_⟩
    have het : s.heap.objs.size ≠ e := fT (aN he)
    have ht2 : h2.get? s.heap.objs.size = some { cls := .type "tuple", data := .seq #[.int i tk, .str ⟨#[c]⟩ u] } := (hs2.2 _ het).trans ht
    have hn : H s.heap.objs.size = none := I.hok.fresh (aB _)
    refine ⟨.ref s.heap.objs.size, upd H s.heap.objs.size (.tup [.int i, .str ⟨#[c]⟩]), I.turnNew (fp := [e, it]) hf (fun b o hb q => ?_) (aB _) (show dI X.prog X.w _ h2 _ (.tup _) from ⟨(by show 2 ≤ sizeLine; decide), [.int i tk, .str ⟨#[c]⟩ u], .cons ⟨_, rfl⟩ (.cons ⟨_, rfl⟩ .nil), _, ht2, rfl, _, rfl⟩), rfl, ⟨_, c, hn, hx, rfl, rfl⟩, ⟨⟨_, by exact_mod_cast he2⟩, ?_⟩, fun b hb => ?_⟩
    · have n1 : b ≠ e := fun z => hb (by simp [z])
      have n2 : b ≠ it := fun z => hb (by simp [z])
      exact (hs2.2 b n1).trans (kp b o n1 n2 q)
    · obtain ⟨o, ei, r⟩ := st'
      exact ⟨o, (hs2.2 it hne.symm).trans ei, r⟩
    · have hb' := (hf b hb).1
      rw [aX (fun z => ?_)]
      · exact hb'
      · obtain ⟨o, q, _⟩ := hst
        rcases aF.mp hb with y | y
        · exact het (z.symm.trans y)
        · have y' : b = it := by simpa using y
          exact absurd (y'.symm.trans z) (a9 (aN q))
  done := by
    intro X hP hw hK hc i pins s σ H E I hf st hg
    subst hP hw hK
    obtain ⟨⟨old, he⟩, hst⟩ := st
    have hg' : i = x.cps.size := hg
    subst hg'
    obtain ⟨f0, f1, f2, f3, f4, f5⟩ := hf it (by simp)
    have D : Draws X.prog X.w X.A.in1 it [it] x.cps.size _ _ := lN (show X.A.in1.handled = none from I.ok.hd hc) it x t
    exact wpAny_pyNext_enum_endD D he hst fun h' eb => ⟨rfl, I.turned (t' := s.toks) (fun b o hb q => eb b o hb q) f0 f1 f3 f4 f5⟩
  self := fun _ _ _ _ _ st h => by
    obtain ⟨⟨old, he⟩, _⟩ := st
    exact wpAny_pyIter_enum he h
def DD(ta:TA):TI:=λσ H R=>ta σ H λvs H1=>∃z,vs=[.str z]/\z.cps.all (·<128)=true/\R (HE z) H1
section
variable {σ:St} {H:Hp} {D:Ends}
theorem ym{tl:TE}{g:TG}{tb:TS}:n6 (E9 tl) g tb D σ H=tl σ H λx H1=>∃z,x=.str z/\z.cps.all (·<128)=true/\lM (Gg z) g tb D σ H1:=rfl
theorem yo{ta:TA}{g:TG}{tb:TS}:n6 (DD ta) g tb D σ H=ta σ H λvs H1=>∃z,vs=[.str z]/\z.cps.all (·<128)=true/\lM (HE z) g tb D σ H1:=rfl
theorem FU{a:Str}{q:Str->Prop}:(∃b,V.str a=.str b/\q b)=q a:=propext ⟨λ⟨_,e,h⟩=>by cases e;exact h,λh=>⟨a,rfl,h⟩⟩
theorem CF{x:Str}{g:TG}{tb:TS}(Pv:Nat->St->Hp->Prop)(h0:Pv 0 σ H)
  (hs:∀i c σ H,x.cps[i]? = some c->Pv i σ H->g (.str ⟨#[c]⟩) σ H λσ2 H2=>tb { D with nx:=Pv (i+1),ct:=Pv (i+1),bk:=D.nx } σ2 H2) (hd:∀σ H,Pv x.cps.size σ H->D.nx σ H):lM (Gg x) g tb D σ H:=by
 refine⟨λi m σ H=>m+i=x.cps.size/\Pv i σ H,⟨x.cps.size,rfl,h0⟩,?_⟩;rintro i m σ H ⟨hm,hp⟩;by_cases hi:i<x.cps.size
 ·refine .inr ⟨hi,Pv (i+1),λσ' H' h=>⟨m - 1,by lia,by lia,h⟩,?_⟩;rintro v H' ⟨rfl,c,hc,rfl⟩;exact hs i c σ H' hc hp
 ·have e:i=x.cps.size:=by lia
  subst e;exact .inl ⟨aB _,hd σ H hp⟩
theorem tY{x:Str}{g:TG}{tb:TS}(Pv:Nat->St->Hp->Prop)(h0:Pv 0 σ H)
  (hs:∀i c σ H p,x.cps[i]? = some c->Pv i σ H->H p=none->g (.ref p) σ (upd H p (.tup [.int i,.str ⟨#[c]⟩])) λσ2 H2=>tb { D with nx:=Pv (i+1),ct:=Pv (i+1),bk:=D.nx } σ2 H2) (hd:∀σ H,Pv x.cps.size σ H->D.nx σ H):lM (HE x) g tb D σ H:=by
 refine⟨λi m σ H=>m+i=x.cps.size/\Pv i σ H,⟨x.cps.size,rfl,h0⟩,?_⟩;rintro i m σ H ⟨hm,hp⟩;by_cases hi:i<x.cps.size
 ·refine .inr ⟨hi,Pv (i+1),λσ' H' h=>⟨m - 1,by lia,by lia,h⟩,?_⟩;rintro v H' ⟨p,c,hn,hc,rfl,rfl⟩;exact hs i c σ H p hc hp hn
 ·have e:i=x.cps.size:=by lia
  subst e;exact .inl ⟨rfl,hd σ H hp⟩
end
theorem tR:∀{ns:List Int} {us:List Value},bj (ns.map V.int) us->IntsAre us ns
 | [],_,.nil=>.nil
 | n::ns,_,.cons ⟨t,e⟩ r=>by subst e;exact .cons n t (tR r)
theorem oF:∀{bs:List Bool} {us:List Value},bj (bs.map V.bl) us->LSm.BoolsAre us bs
 | [],_,.nil=>.nil
 | b::bs,_,.cons r t=>by
  have e:_=Value.bool b:=r;subst e;exact .cons b (oF t)
theorem pf:∀{ts:List Str} {us:List Value},bj (ts.map V.str) us->∃l:List (Str×Tok),us=strValues l/\l.map (·.1)=ts
 | [],_,.nil=>⟨[],rfl,rfl⟩
 | t::ts,_,.cons ⟨k,e⟩ r=>by
  subst e;obtain⟨l,e1,e2⟩:=pf r;exact⟨(t,k)::l,by rw[e1];rfl,by rw[aZ,e2]⟩
section
variable {X:Cx}
def Dx(K:LU):List V->Hp->VK->Prop:=λxs H Q=>∃(p:Addr) (ns:List Int),xs=[.ref p]/\cy K H p (ns.map V.int)/\ns.length<64 ∧
 ∀(l:Addr) (ms:List Int),H l=none->ms.Perm ns->ms.Pairwise (·<=·)->Q (.ref l) (upd H l (.lst (ms.map V.int)))
theorem je:jB X (.builtin "sorted") (Dx X.K):=by
 intro pins s σ H xs us Q I r h;obtain⟨p,ns,rfl,hq,hl,q⟩:=h;obtain⟨u,rfl,rx⟩:=vals1 r;cases rx;obtain⟨its,rv,pl,hz⟩:=I.list hq;have hi:=tR rv;have hlen:its.length=ns.length:=by have:=rv.length;simpa using this.symm
 refine sorted_ints pl.isList hi (by lia) λout ms hm hp hs=>?_;obtain⟨c,hc⟩:=sortedAll_at s.heap its out;have hml:ms.length=ns.length:=hp.length_eq;exact⟨.ref (s.heap.objs.size+1),upd H (s.heap.objs.size+1) (.lst (ms.map V.int)),I.laid (t':=s.toks) (λb o e=>sortedAll_old e) (fP _)
  (show dI X.prog X.w _ _ _ (.lst _) from ⟨by rw[aC,hml];exact cN (cS (by lia)),out.toList,c,mw hm,by simpa using hc⟩),rfl,q _ ms (I.hok.fresh (fP _)) hp hs⟩
def HR(K:LU)(f:List Bool->Bool):List V->Hp->VK->Prop:=λxs H Q=>∃(p:Addr) (bs:List Bool),xs=[.ref p]/\cy K H p (bs.map V.bl)/\Q (.bl (f bs)) H
theorem uw{s:Shared}{h':Heap}{o:Obj}(hk:∀b x,b∉[s.heap.objs.size]->(s.heap.push o).get? b=some x->h'.get? b=some x):∀b x,s.heap.get? b=some x->h'.get? b=some x:=
 λb x e=>hk b x (λhm=>by rw[aQ.mp hm] at e;exact ci _ (aN e)) (aA _ e)
theorem tq (hc:X.calm=true):jB X (.builtin "all") (HR X.K λbs=>bs.all id):=by
 intro pins s σ H xs us Q I r h;obtain⟨p,bs,rfl,hq,q⟩:=h;obtain⟨u,rfl,rx⟩:=vals1 r;cases rx;obtain⟨its,rv,pl,hz⟩:=I.list hq;have hb:=oF rv;have hl:=pl.isList;have hlt:p<s.heap.objs.size:=by obtain⟨_,e,_⟩:=hl;exact aN e
 refine call_all_walk (wpAny_pyIter_list hl ?_);refine⟨s.heap.objs.size,[s.heap.objs.size,p],[s.heap.objs.size],its.toArray.size,_,_,λi=>(bs[i]?).getD true,rfl,Walks.list (A:=X.A.in1) (I.ok.hd hc) _ p (a9 hlt) its.toArray,
  ⟨⟨_,aP _ rfl,rfl,rfl⟩,hl.push _⟩,λi v s' Q' E' hP hQ=>?_,λh' tk hk=>?_⟩
 ·obtain⟨b,e,rfl⟩:=hb.get i v (by simpa using hP);simp only[e,jg] at hQ;exact Kc hQ
 ·have e1:its.toArray.size=bs.length:=by have:=rv.length;simp at this;simp[this]
  rw[e1,LSm.range_all];exact⟨.bl _,H,I.kept (uw hk),rfl,q⟩
def rJoin(K:LU):V->List V->Hp->VK->Prop:=λx vs H Q=>∃(z:Str) (p:Addr) (ts:List Str),x=.str z/\vs=[.ref p]/\cy K H p (ts.map V.str)/\JoinOk z ts=true/\Q (.str (Txt.join z ts)) H
theorem wB:FB X "str.join" (rJoin X.K):=by
 intro pins s σ H x xs v us Q I r rv h;obtain⟨z,p,ts,rfl,rfl,hq,ok,q⟩:=h;obtain⟨t,rfl⟩:=r;obtain⟨u,rfl,rx⟩:=vals1 rv;cases rx;obtain⟨its,rv',pl,hz⟩:=I.list hq;obtain⟨l,rfl,e⟩:=pf rv';exact SC.join pl.isList e ok λt' k=>⟨.str _,H,I.tok k,⟨t',rfl⟩,q⟩
end
mutual
inductive Dat (H:Hp):V->PyData->Prop
 | non:Dat H .non .none
 | bl (b:Bool):Dat H (.bl b) (.bool b)
 | int (i:Int):Dat H (.int i) (.int i)
 | str (x:Str):Dat H (.str x) (.str x)
 | tup {a:Addr} {xs:List V} {ds:List PyData}:H a=some (.tup xs)->jT H xs ds->Dat H (.ref a) (.tuple ds)
 | lst {a:Addr} {xs:List V} {ds:List PyData}:H a=some (.lst xs)->jT H xs ds->Dat H (.ref a) (.list ds)
inductive jT (H:Hp):List V->List PyData->Prop
 | nil:jT H [] []
 | cons {x:V} {xs:List V} {d:PyData} {ds:List PyData}:Dat H x d->jT H xs ds->jT H (x::xs) (d::ds)
end
mutual
theorem Dat.rep{K:LU}{H:Hp}:∀{x:V} {d:PyData},Dat H x d->Rep K H x d
 | _,_,.non=>.non
 | _,_,.bl b=>.bl b
 | _,_,.int i=>.int i
 | _,_,.str x=>.str x
 | _,_,.tup h r=>.tup (eR.of h) (jT.rep r)
 | _,_,.lst h r=>.lst (cy.of h) (jT.rep r)
theorem jT.rep{K:LU}{H:Hp}:∀{xs:List V} {ds:List PyData},jT H xs ds->mN K H xs ds
 | _,_,.nil=>.nil
 | _,_,.cons h r=>.cons (Dat.rep h) (jT.rep r)
end
mutual
theorem Dat.same{H H':Hp}(s:ao H H'):∀{x:V} {d:PyData},Dat H x d->Dat H' x d
 | _,_,.non=>.non
 | _,_,.bl b=>.bl b
 | _,_,.int i=>.int i
 | _,_,.str x=>.str x
 | _,_,.tup h r=>.tup (s _ _ h) (jT.same s r)
 | _,_,.lst h r=>.lst (s _ _ h) (jT.same s r)
theorem jT.same{H H':Hp}(s:ao H H'):∀{xs:List V} {ds:List PyData},jT H xs ds->jT H' xs ds
 | _,_,.nil=>.nil
 | _,_,.cons h r=>.cons (Dat.same s h) (jT.same s r)
end
def IS:PyData->Value
 | .none=>.type "NoneType"
 | .bool _=>.type "bool"
 | .int _=>.type "int"
 | .str _=>.type "str"
 | .list _=>.type "list"
 | .tuple _=>.type "tuple"
 | .dict _=>.type "dict"
theorem Dat.ty{K:LU}{H:Hp}{x:V}{d:PyData}(h:Dat H x d):mq K H x (IS d):=by
 cases h with
 | non=>exact .non
 | bl b=>exact .bl b
 | int i=>exact .int i
 | str x=>exact .str x
 | tup h _=>exact .tup h
 | lst h _=>exact .lst h
def ID:PyData->Bool | .str _=>true | _=>false
def isL:PyData->Bool | .list _=>true | _=>false
section
variable {K:LU} {H:Hp} {x:V} {d:PyData} {Q:VK}
theorem By (h:Dat H x d) (q:Q (.bl (ID d)) H):GC K [x,.ty "str"] H Q:=⟨x,"str",_,ID d,rfl,h.ty,by cases h<;>rfl,q⟩
end
theorem ints_rep{K:LU}{H:Hp}:∀(ns:List Int),mN K H (ns.map V.int) (ns.map PyData.int)
 | []=>.nil
 | n::ns=>.cons (.int n) (ints_rep ns)
theorem nX:∀ns:List Int,PyData.canLayAll0 (ns.map PyData.int)=true
 | []=>rfl
 | n::ns=>by
  show (PyData.canLay0 (.int n)&&PyData.canLayAll0 (ns.map PyData.int))=true;rw[nX ns];rfl
theorem oq:∀ns:List Int,PyData.depthAll (ns.map PyData.int)=0
 | []=>rfl
 | n::ns=>by
  show max (PyData.depth (.int n)) (PyData.depthAll (ns.map PyData.int))=0;rw[oq ns];rfl
def kZ(env:Env):List (Str×NameKind)->List (Str×Addr)->List (Str×Addr)
 | [],acc=>acc
 | (n,k)::r,acc=>kZ env r (if (k==NameKind.free)=true then (n,(env.cells.lookup n).getD 0)::acc else acc)
theorem p7{scope:Scope}{env:Env}(h:∀x∈scope.names,x.2=.free->∃c,env.cells.lookup x.1=some c):closureFor scope env=pure (kZ env scope.names []):=by
 simp only[closureFor];generalize ([]:List (Str×Addr))=acc
 revert h
 generalize scope.names=l;intro h
 induction l generalizing acc with
 | nil=>rfl
 | cons x l ih=>
  obtain⟨n,k⟩:=x;have ih':=λacc=>ih acc λy hy=>h y (aD _ hy);rw[kS];cases hk:(k==NameKind.free) with
  | false=>
   simp only[aY,LS,pure_bind];rw[show kZ env ((n,k)::l) acc=kZ env l acc by simp[kZ,hk]];exact ih' acc
  | true=>
   obtain⟨c,hc⟩:=h (n,k) am (by simpa using hk);have e:cellOf env n=pure c:=by unfold cellOf;rw[hc]
   simp only[LR,e,pure_bind];rw[show kZ env ((n,k)::l) acc=kZ env l ((n,c)::acc) by simp[kZ,hk,hc]];exact ih' ((n,c)::acc)
theorem lH{env:Env}{x:Str}{c:Addr}:∀{l:List (Str×NameKind)} {acc:List (Str×Addr)},(∀y∈l,y.2=.free->∃c,env.cells.lookup y.1=some c)->(kZ env l acc).lookup x=some c->acc.lookup x=some c\/env.cells.lookup x=some c
 | [],acc,_,h=>.inl h
 | (n,k)::l,acc,hf,h=>by
  have ih:=lH (l:=l) (acc:=if (k==NameKind.free)=true then (n,(env.cells.lookup n).getD 0)::acc else acc) (λy hy=>hf y (aD _ hy)) h;rcases ih with e | e
  ·cases hk:(k==NameKind.free) with
   | false=>rw[hk] at e;exact .inl (by simpa using e)
   | true=>
    rw[hk] at e;simp only[LR,gb] at e;cases hx:x==n with
    | false=>rw[hx] at e;exact .inl e
    | true=>
     rw[hx] at e;obtain⟨c',hc⟩:=hf (n,k) am (by simpa using hk);have hxn:x=n:=by simpa using hx
     subst hxn;rw[hc] at e;simp only[jg] at e;exact .inr (hc.trans e)
  ·exact .inr e
theorem qP{env:Env}{x:Str}:∀{l:List (Str×NameKind)} {acc:List (Str×Addr)},(∃c,acc.lookup x=some c)->∃c,(kZ env l acc).lookup x=some c
 | [],acc,h=>h
 | (n,k)::l,acc,h=>by
  refine qP (l:=l) ?_;cases hk:(k==NameKind.free) with
  | false=>simpa using h
  | true=>
   simp only[LR,gb];cases hx:x==n with
   | false=>exact h
   | true=>exact⟨_,rfl⟩
theorem pH{env:Env}{x:Str}:∀{l:List (Str×NameKind)} {acc:List (Str×Addr)},(x,NameKind.free)∈l->∃c,(kZ env l acc).lookup x=some c
 | [],_,h=>nomatch h
 | (n,k)::l,acc,h=>by
  rcases aF.mp h with e | e
  ·cases e;refine qP (l:=l) ?_;simp
  ·exact pH (l:=l) e
def yM(env:Env)(p:Str×NameKind):Str×NameKind:=if (p.2==NameKind.free&&env.scope.kind==.function&&env.kindOf p.1==some .cell) then (p.1,NameKind.cell) else p
theorem lq(scope:Scope)(env:Env):(relabel scope env).names=scope.names.map (yM env):=by
 show scope.names.map _=_;congr 1
theorem B0(env:Env)(p:Str×NameKind):(yM env p).1=p.1:=by unfold yM;split<;>rfl
theorem mK{env:Env}{x:Str}:∀{names:List (Str×NameKind)},(names.map (yM env)).lookup x=(names.lookup x).map λk=>(yM env (x,k)).2
 | []=>rfl
 | (n,q)::r=>by
  rw[aZ];have e:yM env (n,q)=(n,(yM env (n,q)).2):=Prod.ext (B0 env _) rfl;rw[e,gb,gb];cases hx:x==n with
  | true=>
   have hxn:x=n:=by simpa using hx
   subst hxn;rfl
  | false=>exact mK (names:=r)
theorem m5{scope:Scope}{env:Env}{x:Str}{k:NameKind}(h:(relabel scope env).names.lookup x=some k):scope.names.lookup x=some k\/(k=.cell/\scope.names.lookup x=some .free):=by
 rw[lq,mK] at h;cases e:scope.names.lookup x with
 | none=>rw[e] at h;cases h
 | some q=>
  rw[e] at h;have h':(yM env (x,q)).2=k:=bT h;unfold yM at h'
  split at h'
  ·rename_i hc;have hq:q=.free:=by
    have:=(cW _ _).mp ((cW _ _).mp hc).1;simpa using this.1
   exact .inr ⟨h'.symm,by rw[hq]⟩
  ·exact .inl (by rw[<-h'])
theorem qm{scope:Scope}{env:Env}{x:Str}(h:scope.names.lookup x=some .free):(relabel scope env).names.lookup x=some .cell\/(relabel scope env).names.lookup x=some .free:=by
 rw[lq,mK,h];show some (yM env (x,.free)).2=_\/some (yM env (x,.free)).2=_;unfold yM
 split
 ·exact .inl rfl
 ·exact .inr rfl
def rQ(X:Cx)(N:List Str)(scope:Scope)(C:Addr)(s:Shared)(H:Hp)(fp:List Addr)(pn:List (Addr×Obj)):Cx:=
 { X with N:=N,s₀:=s,H₀:=H,env:=compEnvC scope (kZ X.env scope.names []) C X.env,outer:=X.stack,ex:=fp,fn:=λ_=>false,pn:=pn,xe:=λ_ _=>False }
structure mQ (scope:Scope) (ns:List Str):Prop where
 kind:scope.kind=.function
 nocell:∀ y∈scope.names,y.2≠.cell
 names:∀ y∈scope.names,y.2=.local->scope.names.lookup y.1=some .local
 frees:∀ y∈scope.names,y.2=.free->y.1∈ns
inductive lO (X:Cx) (scope:Scope):List Str->List Nat->Prop
 | nil:lO X scope [] []
 | cons {x:Str} {i:Nat} {ns:List Str} {is:List Nat}:X.N[i]? = some x->scope.names.lookup x=some .free->(X.env.kindOf x=some .cell\/X.env.kindOf x=some .free)->lO X scope ns is->lO X scope (x::ns) (i::is)
theorem lO.mem{X:Cx}{scope:Scope}{ns:List Str}{is:List Nat}{x:Str}(c:lO X scope ns is)(h:x∈ns):X.env.kindOf x=some .cell\/X.env.kindOf x=some .free:=by
 induction c with
 | nil=>exact nomatch h
 | cons _ _ k _ ih=>
  rcases aF.mp h with e | e
  ·subst e;exact k
  ·exact ih e
theorem lO.len{X:Cx}{scope:Scope}{ns:List Str}{is:List Nat}(c:lO X scope ns is):is.length=ns.length:=by
 induction c with
 | nil=>rfl
 | cons _ _ _ _ ih=>simp[ih]
theorem lO.at_{X:Cx}{scope:Scope}{ns:List Str}{is:List Nat}(c:lO X scope ns is){j:Nat}{x:Str}(h:ns[j]? = some x):
  ∃i,is[j]? = some i/\X.N[i]? = some x/\scope.names.lookup x=some .free/\(X.env.kindOf x=some .cell\/X.env.kindOf x=some .free):=by
 induction c generalizing j with
 | nil=>simp at h
 | cons a b k _ ih=>
  cases j with
  | zero=>simp at h;subst h;exact⟨_,rfl,a,b,k⟩
  | succ j=>exact ih (by simpa using h)
def xj(σ:St)(i:Nat):Option V:=(σ[i]?).join
def gz(k:Nat)(caps:List Nat)(σ:St):St:=List.replicate k none++caps.map λi=>xj σ i
section
variable {X:Cx} {pins:List (Addr×Obj)} {σ:St} {H:Hp} {s s4:Shared}
theorem vF{own ns:List Str}{caps:List Nat}{scope:Scope}{C:Addr}{fp:List Addr}(I:bW X pins σ H s)(S:mQ scope ns)(cp:lO X scope ns caps)(hf:∀b∈fp,mP X pins H b)
  (hfl:∀b∈fp,b<s.heap.objs.size) (hC:s.heap.objs.size<=C) (os:s4.os=s.os) (gens:s4.gens=s.gens) (k:∀b o,s.heap.get? b=some o->s4.heap.get? b=some o) {m:Str->Option Value} (hn:s4.heap.Ns C m) :
  bW (rQ X (own++ns) scope C s H fp (X.pn++pins)) [] (gz own.length caps σ) H s4:=by
 have cells:∀x c,(kZ X.env scope.names []).lookup x=some c->X.env.cells.lookup x=some c:=λx c e=>by
  rcases lH (λy hy hfr=>I.ok.has y.1 (cp.mem (S.frees y hy hfr))) e with z | z
  ·simp at z
  ·exact z
 have neL:C≠X.env.locals:=fT (a7 I.lt hC);have inFs:∀b,b∈uz X.stack->b=X.env.locals\/b∈X.fs:=λb hb=>aF.mp (I.stkSub b hb);have nst:∀b,b≠X.env.locals->b∉X.fs->b∉uz X.stack:=λb h1 h2 z=>(inFs b z).elim h1 h2;have cle:∀x c,X.env.cells.lookup x=some c->c<s.heap.objs.size:=λx c e=>by obtain⟨v,q⟩:=I.cell x c e;exact q.lt
 refine⟨⟨I.ok.mod,S.kind,I.ok.glob,I.ok.blt,hC,λx y c h1 h2=>I.ok.inj x y c (cells _ _ h1) (cells _ _ h2),λx hx=>?_,(λx c h=>nomatch h),I.ok.hd,I.ok.frames,.inl rfl,λb hb=>⟨λz=>?_,λx c e=>(hf b hb).2.2.2.2.1 x c (cells _ _ e)⟩,
   I.bs,bJ I.ok.bsz I.sz,λb o e hb=>?_,λb hb=>nst b (hf b hb).2.1 (hf b hb).2.2.1,I.stack,I.stkFree⟩,
  os,by rw[gens];exact I.bare,Un.kept k,⟨m,hn,λi x v e1 e2 e3=>?_⟩,λx c e=>?_,?_,λx c e=>I.freeC x c (cells _ _ e),λp hp=>?_,I.hok.kept k,?_⟩
 ·have hx':(relabel scope X.env).names.lookup x=some .cell\/(relabel scope X.env).names.lookup x=some .free:=hx;have hfree:scope.names.lookup x=some .free:=by
   rcases hx' with z | z
   ·rcases m5 z with q | q
    ·exact absurd rfl (S.nocell _ (c8 q))
    ·exact q.2
   ·rcases m5 z with q | q
    ·exact q
    ·exact absurd q.1 (by decide)
  exact pH (c8 hfree)
 ·exact absurd (a7 (hfl b hb) hC) (by rw[show b=C from z];exact ci _)
 ·obtain⟨f0,f1,f2,f3,f4,f5⟩:=hf b hb;rcases f3 with z | z
  ·exact I.ok.noex b o e z
  ·exact absurd (a7 (aN e) (bJ I.ok.bsz z)) (ci _)
 ·have e2':(List.replicate own.length none++caps.map λi=>xj σ i)[i]? = some (some v):=e2;have e1':(own++ns)[i]? = some x:=e1;by_cases hi:i<own.length
  ·rw[bG (by simpa using hi),fx,LM hi] at e2';cases e2'
  ·rw[a8 (by simpa using hi),ka,bV] at e2';rw[a8 (by lia)] at e1';obtain⟨i',h1,h2,h3,h4⟩:=cp.at_ e1';rw[h1] at e2';have e4:(σ[i']?).join=some v:=bT e2';have e5:σ[i']? = some (some v):=by
    cases q:σ[i']? with
    | none=>rw[q] at e4;cases e4
    | some w'=>rw[q] at e4;rw[show w'=some v from e4]
   obtain⟨m',hn',hl'⟩:=I.loc;have vis:Ey X.env.scope x:=h4.elim (λz=>.inr (.inl z)) λz=>.inr (.inr z);obtain⟨u,r,l⟩:=hl' i' x v h2 e5 vis;refine⟨u,r,.inr ⟨qm h3,?_⟩⟩;obtain⟨c,hc⟩:=pH (env:=X.env) (acc:=[]) (c8 h3);rcases l with ⟨z,_⟩ | ⟨_,c',e6,z⟩
   ·rcases h4 with y | y<;>· rw[y] at z;cases z
   ·have:=cells _ _ hc;rw[e6] at this;cases this;obtain⟨o,ho,hd⟩:=z;exact⟨_,hc,o,k _ _ ho,hd⟩
 ·obtain⟨v,o,ho,hd⟩:=I.cell x c (cells _ _ e);exact⟨v,o,k _ _ ho,hd⟩
 ·exact I.hok.fresh hC
 ·have hp':p∈X.pn++pins:=by simpa [rQ] using hp
  obtain⟨a1,a2,a3,a4,a5⟩:=I.pin p hp';exact⟨k _ _ a1,a2,a9 (a7 (aN a1) hC),nst _ a3 a4,a5⟩
 ·show (gz own.length caps σ).length=(own++ns).length;simp[gz,cp.len]
end
def PF(X:Cx)(ifs:List Expr)(t:TT):Prop:=
 ∀(pins:List (Addr×Obj)) (s:Shared) (σ:St) (H:Hp) (Q:Bool->Hp->Prop),bW X pins σ H s->t σ H Q →
  wpAny (model X.prog X.w) X.A (forIn ifs true λc r=>if r=true then do let ok <-isTrue c X.env (eval c X.env);pure (ForInStep.yield ok) else pure (ForInStep.yield r)) (TP X pins σ Q) X.xe s
def vc:TT:=λ_ H q=>q true H
def ju(J:It)(g:TG)(tf:TT)(te:TE)(Q:VK)(σ:St)(H1:Hp):Prop:=∃W:Nat->Nat->List V->St->Hp->Prop,(∃m,W 0 m [] σ H1)/\∀i m ys σ H,W i m ys σ H →
 (J.stop i H/\ys.length<=sizeLine/\∀p,H p=none->Q (.ref p) (upd H p (.lst ys))) ∨
 (J.go i H/\ys.length<sizeLine/\∀x H',J.yld i H x H'->g x σ H' λσ2 H2=>tf σ2 H2 λb H3=>
  if b=true then te σ2 H3 λy H4=>∃m',m'<m/\W (i+1) m' (ys++[y]) σ2 H4 else ∃m',m'<m/\W (i+1) m' ys σ2 H3)
section
variable {X:Cx} {pins:List (Addr×Obj)} {σ:St} {H:Hp} {s:Shared}
theorem pZ {prog : Program} {w : World} {A : Around} {R : Result → Shared → Prop} {s : Shared} {elt target iter : Expr} {ifs : List Expr} {scope : Scope} {pos : Pos} {it acc : Value} {env : Env} (I : Nat → Shared → Prop)
  (turn : ∀ n s, I n s → wpAny (model prog w) A (pyNext it) (fun r s₁ => match r with
   | none => R (.ok .next) s₁
   | some v => wpAny (model prog w) A (letOwnedTupleGo target it v) (fun _ s₁ => wpAny (model prog w) A (assign target env v) (fun _ s₂ =>
     wpAny (model prog w) A (forIn ifs true fun c r => if r = true then do let ok ← isTrue c env (eval c env); pure (ForInStep.yield ok) else pure (ForInStep.yield r)) (fun ok s₃ =>
      if ok = true then wpAny (model prog w) A (eval elt env) (fun x s₄ =>
       wpAny (model prog w) A (call (.builtin "list.append") [acc, x]) (fun _ s₅ => ∃ m, m < n ∧ I m s₅) (notedBy (model prog w) A env fun e s' => R (.error e) s') s₄) (notedBy (model prog w) A env fun e s' => R (.error e) s') s₃
      else ∃ m, m < n ∧ I m s₃) (notedBy (model prog w) A env fun e s' => R (.error e) s') s₂) (notedBy (model prog w) A env fun e s' => R (.error e) s') s₁) (notedBy (model prog w) A env fun e s' => R (.error e) s') s₁) (notedBy (model prog w) A env fun e s' => R (.error e) s') s)
  (n : Nat) (h : I n s) : codeAny (model prog w) A (.compLoop (.ListComp elt [⟨target, iter, ifs, 0⟩] scope pos) 0 it acc env) R s := by
 refine codeAny_loop rfl I (fun n s hI => ?_) n h
 show wpAny _ A ((compTurn (.ListComp elt [⟨target, iter, ifs, 0⟩] scope pos) 0 it acc env).onRaise (fun x => do noteFrame x env; theTreesLotGoes x)) _ _ s
 refine wpAny_noted ?_
 rw [compTurn_list]
 refine wpAny_bind (wpAny_standAt (wpAny_bind (Kb (turn n s hI) (fun r s₁ h₁ => ?_) fun _ _ h' => h')))
 cases r with
 | none => exact Kd h₁
 | some v =>
  refine wpAny_bind (Kb h₁ (fun _ s₁ h₁ => ?_) fun _ _ h' => h')
  refine wpAny_bind (Kb h₁ (fun _ s₂ h₂ => wpAny_bind (Kb h₂ (fun ok s₃ h₃ => ?_) fun _ _ h' => h')) fun _ _ h' => h')
  cases ok with
  | false => exact Kd ⟨rfl, h₃⟩
  | true =>
   exact wpAny_bind (wpAny_bind (Kb h₃ (fun x s₄ h₄ => wpAny_bind (Kb h₄ (fun _ s₅ h₅ => Kd (Kd ⟨rfl, h₅⟩)) fun _ _ h' => h')) fun _ _ h' => h'))
theorem t8{own ns:List Str}{caps:List Nat}{elt tg iter:Expr}{ifs:List Expr}{scope:Scope}{pos:Pos}{it:Addr}{fp:List Addr}{tn:Nat->Heap->Prop}{J:It}{g:TG}{tf:TT}{te:TE}{Q:VK}{E:Value->Shared->Prop}{RR:Value->Addr->Result->Shared->Prop}
  (hc:X.calm=true) (S:mQ scope ns) (cp:lO X scope ns caps)
  (hg:∀C s H fp pn,PG (rQ X (own++ns) scope C s H fp pn) tg g) (ht:∀C s H fp pn,PF (rQ X (own++ns) scope C s H fp pn) ifs tf) (he:∀C s H fp pn,PE (rQ X (own++ns) scope C s H fp pn) elt te)
  (I:bW X pins σ H s) (T:Turn X.prog X.w X.K tg J fp it tn) (st:tn 0 s.heap) (hf:∀b∈fp,mP X pins H b) (hJ:ju J g tf te Q (gz own.length caps σ) H)
  (fin:∀D C m s' H' ys,D≠C->s'.heap.Ns C m->mP X pins (upd H' D (.lst ys)) C->bW X pins σ (upd H' D (.lst ys)) s'->Q (.ref D) (upd H' D (.lst ys))->RR (.ref D) C (.ok .next) s') :
  wpAny (model X.prog X.w) X.A (newList []) (λacc s₃=>wpAny (model X.prog X.w) X.A (newFunctionEnv scope X.env.globals (kZ X.env scope.names []) [] X.env.qual none .none (some X.env)) (λcenv s₄=>
   codeAny (model X.prog X.w) X.A (.compStart (.ListComp elt [⟨tg,iter,ifs,0⟩] scope pos) 0 (.ref it) acc { cenv with scope:=relabel scope X.env }) (RR acc cenv.locals) s₄) E s₃) E s:=by
 refine Kn (wpAny_newFunctionEnv S.nocell (by intro y hy;simp at hy) (λh₁ hns₁ hsb₁=>?_) S.kind);dsimp only at hns₁ hsb₁ ⊢;generalize hH2:s.heap.push { cls:=.type "list",dict:=none,data:=.seq ([]:List Value).toArray }=H2 at hns₁ hsb₁ ⊢;have hC:H2.objs.size=s.heap.objs.size+1:=by rw[<-hH2,dW]
 have hDC:s.heap.objs.size≠H2.objs.size:=by rw[hC];exact a9 (Nat.lt_succ_self _)
 have hCle:s.heap.objs.size<=H2.objs.size:=by rw[hC];exact fP _
 have old:∀b o,s.heap.get? b=some o->h₁.get? b=some o:=λb o e=>hsb₁.extBut b o (by rw[hC];exact a9 (dF (aN e))) (aA _ (hH2▸aA _ e));have hacc:h₁.PlainList s.heap.objs.size #[]:=⟨_,hsb₁.extBut _ _ hDC (aA _ (hH2▸aP _ rfl))⟩
 have hfl:∀b∈fp,b<s.heap.objs.size:=λb hb=>by obtain⟨o,e,_⟩:=T.obj _ _ st b hb;exact aN e
 generalize hD:s.heap.objs.size=D at hDC hacc ⊢;generalize hCe:H2.objs.size=C at hns₁ hsb₁ hDC hCle hC ⊢;have hDle:s.heap.objs.size<=D:=by rw[hD];exact aB _
 have hCle':s.heap.objs.size<=C:=by rw[hD];rw[hD] at hCle;exact hCle
 have I₁:bW (rQ X (own++ns) scope C s H fp (X.pn++pins)) [] (gz own.length caps σ) H { s with heap:=h₁,toks:=s.toks+([]:List (Str×Value)).length }:=
  vF I S cp hf hfl hCle' rfl rfl old hns₁
 have st₁:tn 0 h₁:=T.keep _ _ _ st λb _ o e=>old b o e;generalize hY:rQ X (own++ns) scope C s H fp (X.pn++pins)=Y at I₁;have hgY:PG Y tg g:=hY▸hg C s H fp (X.pn++pins);have htY:PF Y ifs tf:=hY▸ht C s H fp (X.pn++pins);have heY:PE Y elt te:=hY▸he C s H fp (X.pn++pins);have yP:Y.prog=X.prog:=by rw[<-hY];rfl
 have yW:Y.w=X.w:=by rw[<-hY];rfl
 have yK:Y.K=X.K:=by rw[<-hY];rfl
 have yA:Y.A=X.A:=by rw[<-hY];rfl
 have yC:Y.calm=true:=by rw[<-hY];exact hc
 have yE:Y.env=compEnvC scope (kZ X.env scope.names []) C X.env:=by rw[<-hY];rfl
 have yX:Y.xe=λ_ _=>False:=by rw[<-hY];rfl
 have yF:Y.fs=uz X.stack:=by rw[<-hY];rfl
 have yQ:Y.pn=X.pn++pins:=by rw[<-hY];rfl
 have yI:Y.ex=fp:=by rw[<-hY];rfl
 have yS:Y.s₀=s:=by rw[<-hY];rfl
 have yH:Y.H₀=H:=by rw[<-hY];rfl
 have cells:∀x c,Y.env.cells.lookup x=some c->X.env.cells.lookup x=some c:=λx c e=>by
  rw[yE] at e;rcases lH (λy hy hfr=>I.ok.has y.1 (cp.mem (S.frees y hy hfr))) (show (kZ X.env scope.names []).lookup x=some c from e) with z | z
  ·simp at z
  ·exact z
 have nst:∀b,b≠X.env.locals->b∉X.fs->b∉Y.fs:=λb h1 h2 z=>by
  rw[yF] at z;exact(aF.mp (I.stkSub b z)).elim h1 h2
 have fpY:∀{H':Hp},(∀b∈fp,H' b=none)->∀b∈fp,mP Y [] H' b:=fun {H'} hn b hb=>by
  obtain⟨f0,f1,f2,f3,f4,f5⟩:=hf b hb;refine⟨hn b hb,?_,nst b f1 f2,.inl (by rw[yI];exact hb),λx c e=>f4 x c (cells x c e),λp hp=>f5 p (by simpa [yQ] using hp)⟩;rw[yE];exact a9 (a7 (hfl b hb) hCle')
 have fpD:∀{H':Hp},H' D=none->mP Y [] H' D:=fun {H'} hn=>by
  obtain⟨f0,f1,f2,f3,f4,f5⟩:=I.fpOk (H':=H') hDle hn;refine⟨hn,by rw[yE];exact hDC,nst D f1 f2,.inr (by rw[yS];exact hDle),λx c e=>f4 x c (cells x c e),λp hp=>f5 p (by simpa [yQ] using hp)⟩
 have hDf:D∉fp:=λz=>ci _ (a7 (hfl D z) hDle);have objD:∀{h:Heap} {us:List Value},h.PlainList D us.toArray->∃o,h.get? D=some o/\∀v,o.data≠.cell v:=fun {h us} ⟨n,e⟩=>⟨_,e,λv z=>by cases z⟩
 have noErr:∀{α:Type} {t:Sem α} {Qt:α->Shared->Prop} {sx:Shared} {E':Value->Shared->Prop},wpAny (model Y.prog Y.w) Y.A t Qt Y.xe sx->wpAny (model X.prog X.w) X.A t Qt E' sx:=fun {α t Qt sx E'} h=>by
  rw[yP,yW,yA,yX] at h;exact Kb h (λ_ _ q=>q) λ_ _ f=>f.elim
 obtain⟨W,⟨m0,w0⟩,turn⟩:=hJ;have TY:Turn Y.prog Y.w Y.K tg J fp it tn:=by rw[yP,yW,yK];exact T
 have loop:∀s₃:Shared,s₃={ s with heap:=h₁,toks:=s.toks+([]:List (Str×Value)).length } →
   codeAny (model X.prog X.w) X.A (.compLoop (.ListComp elt [⟨tg,iter,ifs,0⟩] scope pos) 0 (.ref it) (.ref D) (compEnvC scope (kZ X.env scope.names []) C X.env)) (RR (.ref D) C) s₃:=by
  rintro s₃ rfl;refine pZ (λn s'=>∃i ys us σ' H',bW Y [] σ' H' s'/\tn i s'.heap/\(∀b∈fp,H' b=none)/\H' D=none/\s'.heap.PlainList D us.toArray/\bj ys us/\W i n ys σ' H') ?_ m0
   ⟨0,[],[],_,H,I₁,st₁,λb hb=>(hf b hb).1,I.hok.fresh hDle,hacc,.nil,w0⟩
  rintro n s3 ⟨i,ys,us,σ3,H3,I3,st3,fr3,hD3,Gx,v3,w3⟩;have fD3:∀b∈[D],mP Y [] H3 b:=λb hb=>by
   have e:b=D:=by simpa using hb
   subst e;exact fpD hD3
  have I3':bW Y ([]++kE [D] s3.heap) σ3 H3 s3:=I3.pinned fD3 λb hb=>by
   have e:b=D:=by simpa using hb
   subst e;exact objD Gx
  rw[ay] at I3';have fpY':∀{H':Hp},(∀b∈fp,H' b=none)->∀b∈fp,mP Y (kE [D] s3.heap) H' b:=fun {H'} hn b hb=>by
   obtain⟨f0,f1,f2,f3,f4,f5⟩:=fpY hn b hb;refine⟨f0,f1,f2,f3,f4,λp hp=>?_⟩;rcases aE.mp hp with z | z
   ·exact f5 p (by simpa using z)
   ·have e:p.1=D:=by simpa using (qK z).1
    exact λq=>hDf (by rw[<-e,q];exact hb)
  obtain⟨oD,eD,cD⟩:=objD Gx;have keepD:∀{σ':St} {H':Hp} {s':Shared} {pl:List (Addr×Obj)},bW Y (kE [D] s3.heap++pl) σ' H' s'->s'.heap.PlainList D us.toArray/\H' D=none:=fun {σ' H' s' pl} I'=>by
   have:=I'.pin (D,oD) (aa _ (ae _ (ip (by simp) eD)));refine⟨?_,this.2.1⟩;obtain⟨k,e⟩:=Gx;rw[e] at eD;cases eD;exact⟨k,this.1⟩
  rcases turn i n ys σ3 H3 w3 with ⟨stop,hlen,qn⟩ | ⟨go,hlen,step⟩
  ·refine noErr (dk (TY.done Y rfl rfl rfl yC i _ s3 σ3 H3 Y.xe I3' (fpY' fr3) st3 stop) λr s4 ⟨hr,I4⟩=>?_);subst hr;obtain⟨pl4,hD4⟩:=keepD (pl:=[]) (by rw[be];exact I4);have hun:Un (uz X.stack) fp H H3 s.heap s4.heap:=by have:=I4.base;rw[yF,yI,yS,yH] at this;exact this
   have hok:mO X.prog X.w H3 s4.heap:=by have:=I4.hok;rw[yP,yW] at this;exact this
   obtain⟨m4,hn4,_⟩:=I4.loc;rw[yE] at hn4;have hC4:H3 C=none:=by have:=I4.free;rw[yE] at this;exact this
   have ne:∀b u,H3 b=some u->b≠D:=λb u e z=>by rw[z,hD4] at e;cases e
   refine fin D C m4 s4 H3 ys hDC hn4 (I.fpOk hCle' (by rw[aX (cH hDC)];exact hC4)) (I.call' (ch:=fp) ?_ ?_ ?_ I4.bare ?_) (qn D hD4)
   ·have:=I4.os;rw[yS] at this;exact this
   ·exact⟨hun.keep,hun.slot,λb o e n hx=>by rw[aX (λz=>by rw[z] at e;exact absurd (aN e) (Nat.not_lt.mpr hDle))];exact hun.free b o e n hx,hun.there,
     λb xs e=>by have:=hun.tups b xs e;rw[aX (ne _ _ this)];exact this,λb o u e=>by have:=hun.frzs b o u e;rw[aX (ne _ _ this)];exact this,
     λb ps e=>by obtain⟨more,q⟩:=hun.tbls b ps e;exact⟨more,by rw[aX (ne _ _ q)];exact q⟩⟩
   ·intro b u e;by_cases hb:b=D
    ·subst hb;rw[aG] at e;cases e;obtain⟨k,e4⟩:=pl4;exact⟨hlen,us,k,v3,e4⟩
    ·rw[aX hb] at e;exact(hok b u e).stay (λc v _ q=>q) (λc q=>by rw[aX (ne _ _ q)];exact q) λc xs q=>by rw[aX (ne _ _ q)];exact q
   ·intro b hb;obtain⟨f0,f1,f2,f3,f4,f5⟩:=hf b hb;exact⟨f3,f1,f4,f5⟩
  ·refine noErr (dk (TY.item Y rfl rfl rfl yC i _ s3 σ3 H3 Y.xe I3' (fpY' fr3) st3 go) λr s4 ⟨u,hr,h4⟩=>?_);subst hr;refine noErr (dk h4 λ_ s5 ⟨x,H5,I5,r5,y5,st5,fr5⟩=>?_);have I5':=I5.pinned (fpY' fr5) (T.obj _ _ st5);rw[<-yE];refine noErr (dk (hgY _ s5 σ3 H5 x u _ I5' r5 (step x H5 y5)) λ_ s6 ⟨σ6,H6,I6,q6⟩=>?_);refine noErr (dk (htY _ s6 σ6 H6 _ I6 q6) λok s7 ⟨H7,I7,q7⟩=>?_);have fpK:∀{σ':St} {H':Hp} {s':Shared},bW Y (kE [D] s3.heap++kE fp s5.heap) σ' H' s'->tn (i+1) s'.heap/\∀b∈fp,H' b=none:=fun {σ' H' s'} I'=>
    ⟨T.keep _ _ _ st5 λb hb o e=>(I'.pin (b,o) (aa _ (aa _ (ip hb e)))).1,λb hb=>by
     obtain⟨o,e,_⟩:=T.obj _ _ st5 b hb;exact(I'.pin (b,o) (aa _ (aa _ (ip hb e)))).2.1⟩
   cases ok with
   | false=>
    rw[LL au] at q7 ⊢;obtain⟨m',hm,w7⟩:=q7;obtain⟨pl7,hD7⟩:=keepD I7;obtain⟨st7,fr7⟩:=fpK I7;exact⟨m',hm,i+1,ys,us,σ6,H7,I7.pins_of (λp hp=>nomatch hp),st7,fr7,hD7,pl7,v3,w7⟩
   | true=>
    rw[LM rfl] at q7 ⊢;refine noErr (dk (heY _ s7 σ6 H7 _ I7 q7) λy s8 ⟨yv,H8,I8,r8,m',hm,w8⟩=>?_);obtain⟨pl8,hD8⟩:=keepD I8;obtain⟨st8,fr8⟩:=fpK I8;have hul:us.length=ys.length:=v3.length.symm;refine wpAny_list_append_plain (hsz:=by rw[aH,hul];exact cN hlen) pl8 λh9 pl9 sb9=>?_;obtain⟨d0,d1,d2,d3,d4,d5⟩:=fpD hD8;refine⟨m',hm,i+1,ys++[yv],us++[y],σ6,H8,?_,?_,fr8,hD8,by simpa using pl9,v3.append (.cons r8 .nil),w8⟩
    ·exact(I8.pins_of (pins':=[]) λp hp=>nomatch hp).turned (t':=s8.toks) (λb o hb e=>(sb9.2 b hb).trans e) hD8 d1 d3 d4 d5
    ·exact T.keep _ _ _ st8 λb hb o e=>(sb9.2 b (λz=>hDf (z▸hb))).trans e
 exact codeAny_compStart_list (loop _ rfl) (T.self _ 0 _ _ _ st₁ (loop _ rfl))
def lm(k:Nat)(caps:List Nat)(wi:TI)(g:TG)(tf:TT)(te:TE):TE:=λσ H Q=>wi σ H λJ H1=>ju J g tf te Q (gz k caps σ) H1
theorem lO.cl{scope:Scope}{ns:List Str}{caps:List Nat}(I:bW X pins σ H s)(S:mQ scope ns)(cp:lO X scope ns caps):closureFor scope X.env=pure (kZ X.env scope.names []):=
 p7 λy hy hfr=>I.ok.has y.1 (cp.mem (S.frees y hy hfr))
theorem Bg{own ns:List Str}{caps:List Nat}{elt tg iter:Expr}{ifs:List Expr}{scope:Scope}{pos:Pos}{wi:TI}{g:TG}{tf:TT}{te:TE}(hc:X.calm=true)(S:mQ scope ns)(cp:lO X scope ns caps)(hi:PI X tg iter wi)
  (hg:∀C s H fp pn,PG (rQ X (own++ns) scope C s H fp pn) tg g) (ht:∀C s H fp pn,PF (rQ X (own++ns) scope C s H fp pn) ifs tf) (he:∀C s H fp pn,PE (rQ X (own++ns) scope C s H fp pn) elt te)
  (hs:∀x,foldedSetIterable iter X.env x=pure x:=by intro _;rfl):PE X (.ListComp elt [⟨tg,iter,ifs,0⟩] scope pos) (lm own.length caps wi g tf te):=by
 intro pins s σ H Q I h;rw[eval_ListComp];refine wpAny_comprehension_free (use:=none) rfl hs (cp.cl I S) S.kind S.names (dk (hi pins s σ H _ I h) λv s1 h1=>dk h1 λitv s2 h2=>?_);obtain⟨it,fp,tn,J,H2,e,I2,T,st2,f2,hJ⟩:=h2;subst e;refine t8 hc S cp hg ht he I2 T st2 f2 hJ (RR:=λacc C=>compPost (model X.prog X.w) X.A X.xe none (EP X pins σ Q) acc C) λD C m s' H' ys hDC hn fC I' q=>?_;refine⟨m,hn,λh' hs'=>⟨.ref D,_,?_,rfl,q⟩⟩;obtain⟨f0,f1,f2,f3,f4,f5⟩:=fC;exact I'.turned (t':=s'.toks) (λb o hb e=>(hs'.2 b hb).trans e) f0 f1 f3 f4 f5
theorem Bf{i:Nat}{x:Str}{own ns:List Str}{caps:List Nat}{elt tg iter:Expr}{ifs:List Expr}{scope:Scope}{pos pos' spos:Pos}{wi:TI}{g:TG}{tf:TT}{te:TE}(hN:X.N.Nodup)(hi:X.N[i]? = some x)(hx:Loc X.env.scope x)(hc:X.calm=true)(S:mQ scope ns)(cp:lO X scope ns caps)(hit:PI X tg iter wi)
  (hg:∀C s H fp pn,PG (rQ X (own++ns) scope C s H fp pn) tg g) (ht:∀C s H fp pn,PF (rQ X (own++ns) scope C s H fp pn) ifs tf) (he:∀C s H fp pn,PE (rQ X (own++ns) scope C s H fp pn) elt te)
  (hs:∀x,foldedSetIterable iter X.env x=pure x:=by intro _;rfl) (hsw:swapsWith (.ListComp elt [⟨tg,iter,ifs,0⟩] scope pos) (some (.Name x pos')) spos.line X.env=pure true:=by rfl)
  (hf:X.fn x=true\/X.env.scope.names.lookup x=some .local:=by first | exact .inl rfl | exact .inr rfl | assumption) :
  PS X (.Assign [.Name x pos'] (.ListComp elt [⟨tg,iter,ifs,0⟩] scope pos) spos) (zL (lm own.length caps wi g tf te) (ou i)):=by
 intro pins s σ H D I h;rw[exec_Assign_Name_used _ _ _ _ hsw];refine wpAny_bind (wpAny_standAt (wpAny_bind ?_));show wpAny _ X.A (do let _ <-comprehension (.ListComp elt [⟨tg,iter,ifs,0⟩] scope pos) scope X.env _ (newList []) false (eval iter X.env) (some (assign (.Name x pos') X.env))) _ _ s;refine wpAny_bind (Kb (wpAny_comprehension_free (use:=some (assign (.Name x pos') X.env)) (Q:=λ_ s'=>SP X pins D .next s') rfl hs (cp.cl I S) S.kind S.names
  (dk (hit pins s σ H _ I h) λv s1 h1=>dk h1 λitv s2 h2=>?_)) (λ_ s' hq=>Kd (Kd hq)) λ_ _ e=>e)
 obtain⟨it,fp,tn,J,H2,e,I2,T,st2,f2,hJ⟩:=h2;subst e;refine t8 hc S cp hg ht he I2 T st2 f2 hJ (RR:=λacc C=>compPost (model X.prog X.w) X.A X.xe (some (assign (.Name x pos') X.env)) (λ_ s'=>SP X pins D .next s') acc C) λL C m s' H' ys hDC hn fC I' q=>?_;show wpAny _ X.A (assign (.Name x pos') X.env (.ref L)) _ _ _;refine wpAny_assign_Name (pz I' hN hi hx (v:=.ref L) (u:=.ref L) rfl (λs'' I'' ⟨a,sb,ha⟩=>?_) hf);obtain⟨f0,f1,f2,f3,f4,f5⟩:=fC;have hCa:C≠a:=by
  rcases ha with z | z
  ·rw[z];exact f1
  ·exact λy=>f4 _ _ z y.symm
 exact⟨m,hn.sameBut sb hCa,λh' hs'=>⟨_,_,I''.turned (t':=s''.toks) (λb o hb e=>(hs'.2 b hb).trans e) f0 f1 f3 f4 f5,q⟩⟩
theorem vX{k:Nat}{caps:List Nat}{K:LU}{tl:TE}{g:TG}{tf:TT}{te:TE}{Q:VK}:lm k caps (A5 K tl) g tf te σ H Q=tl σ H λx H1=>∃a,x=.ref a/\(∃xs,cy K H1 a xs)/\ju (CY K a) g tf te Q (gz k caps σ) H1:=rfl
theorem vW{k:Nat}{caps:List Nat}{K:LU}{tl:TE}{g:TG}{tf:TT}{te:TE}{Q:VK}:lm k caps (GT K tl) g tf te σ H Q=tl σ H λx H1=>∃a,x=.ref a/\(∃xs,eR K H1 a xs)/\ju (Hn K a) g tf te Q (gz k caps σ) H1:=rfl
theorem vZ{k:Nat}{caps:List Nat}{ta:TA}{g:TG}{tf:TT}{te:TE}{Q:VK}:lm k caps (A4 ta) g tf te σ H Q=ta σ H λvs H1=>∃j:Int,vs=[.int j]/\-(2 ^ 62)<=j/\j<2 ^ 62/\ju (yR 0 j.toNat) g tf te Q (gz k caps σ) H1:=rfl
theorem vY{k:Nat}{caps:List Nat}{ta:TA}{g:TG}{tf:TT}{te:TE}{Q:VK}:lm k caps (A3 ta) g tf te σ H Q=ta σ H λvs H1=>∃i j:Int,vs=[.int i,.int j]/\(-(2 ^ 62)<=i/\i<2 ^ 62/\-(2 ^ 62)<=j/\j<2 ^ 62)/\ju (yR i (j-i).toNat) g tf te Q (gz k caps σ) H1:=rfl
theorem vQ{x:Str}{l:List Str}{caps:List Nat}:gz (x::l).length caps σ=none::gz l.length caps σ:=rfl
theorem vO{i:Nat}{is:List Nat}:gz ([]:List Str).length (i::is) σ=xj σ i::gz ([]:List Str).length is σ:=rfl
theorem vP:gz ([]:List Str).length [] σ=[]:=rfl
theorem yi{x:Option V}:xj (x::σ) 0=x:=rfl
theorem w_getS{x:Option V}{i:Nat}:xj (x::σ) (i+1)=xj σ i:=rfl
theorem yh{q:Bool->Hp->Prop}:vc σ H q=q true H:=rfl
end
section
variable {K:LU} {a:Addr} {xs:List V} {g:TG} {tf:TT} {te:TE} {Q:VK} {σ:St} {H:Hp}
theorem rR{J:It}(n:Nat)(hsz:n<=sizeLine)(Pv:Nat->List V->St->Hp->Prop)(h0:Pv 0 [] σ H)(hlen:∀i ys σ H,Pv i ys σ H->ys.length<=i)(hgo:∀i ys σ H,i<n->Pv i ys σ H->J.go i H)(hstop:∀ys σ H,Pv n ys σ H->J.stop n H)
  (hs:∀i ys σ H x H' (N:List V->St->Hp->Prop),i<n->Pv i ys σ H->J.yld i H x H'->(∀ys σ H,Pv (i+1) ys σ H->N ys σ H)->g x σ H' λσ2 H2=>tf σ2 H2 λb H3=>if b=true then te σ2 H3 λy H4=>N (ys++[y]) σ2 H4 else N ys σ2 H3)
  (hd:∀ys σ H p,Pv n ys σ H->H p=none->Q (.ref p) (upd H p (.lst ys))):ju J g tf te Q σ H:=by
 refine⟨λi m ys σ H=>m=n-i/\i<=n/\Pv i ys σ H,⟨n,by simp,a6 _,h0⟩,?_⟩;rintro i m ys σ H ⟨rfl,hi,p⟩;have hy:=hlen i ys σ H p;by_cases hlt:i<n
 ·refine .inr ⟨hgo i ys σ H hlt p,by lia,λx H' y=>?_⟩;exact hs i ys σ H x H' (λys σ H=>∃m',m'<n-i/\m'=n-(i+1)/\i+1<=n/\Pv (i+1) ys σ H) hlt p y λys σ H z=>⟨n-(i+1),by lia,rfl,hlt,z⟩
 ·have e:i=n:=by lia
  subst e;exact .inl ⟨hstop ys σ H p,by lia,λp' hp=>hd ys σ H p' p hp⟩
theorem qO(Pv:Nat->List V->St->Hp->Prop)(h0:Pv 0 [] σ H)(hl:∀i ys σ H,Pv i ys σ H->cy K H a xs/\ys.length<=i)(hsz:xs.length<=sizeLine)
  (hs:∀i x ys σ H (N:List V->St->Hp->Prop),xs[i]? = some x->Pv i ys σ H->(∀ys σ H,Pv (i+1) ys σ H->N ys σ H)->g x σ H λσ2 H2=>tf σ2 H2 λb H3=>if b=true then te σ2 H3 λy H4=>N (ys++[y]) σ2 H4 else N ys σ2 H3)
  (hd:∀ys σ H p,Pv xs.length ys σ H->H p=none->Q (.ref p) (upd H p (.lst ys))):ju (CY K a) g tf te Q σ H:=by
 refine rR xs.length hsz Pv h0 (λi ys σ H p=>(hl i ys σ H p).2) (λi ys σ H hi p=>⟨xs,xs[i],(hl i ys σ H p).1,by simp[hi]⟩) (λys σ H p=>⟨xs,(hl _ ys σ H p).1,aB _⟩) ?_ hd;rintro i ys σ H x H' N hi p ⟨rfl,y⟩ hN;exact hs i x ys σ H' N (y xs (hl i ys σ _ p).1) p hN
theorem pF{lo:Int}{n:Nat}(Pv:Nat->List V->St->Hp->Prop)(h0:Pv 0 [] σ H)(hl:∀i ys σ H,Pv i ys σ H->ys.length<=i)(hsz:n<=sizeLine)
  (hs:∀i ys σ H (N:List V->St->Hp->Prop),i<n->Pv i ys σ H->(∀ys σ H,Pv (i+1) ys σ H->N ys σ H)->g (.int (lo+i)) σ H λσ2 H2=>tf σ2 H2 λb H3=>if b=true then te σ2 H3 λy H4=>N (ys++[y]) σ2 H4 else N ys σ2 H3)
  (hd:∀ys σ H p,Pv n ys σ H->H p=none->Q (.ref p) (upd H p (.lst ys))):ju (yR lo n) g tf te Q σ H:=by
 refine rR n hsz Pv h0 hl (λi ys σ H hi p=>hi) (λys σ H p=>aB _) ?_ hd;rintro i ys σ H x H' N hi p ⟨rfl,rfl⟩ hN;exact hs i ys σ H' N hi p hN
theorem Ak{J:It}(n:Nat)(hsz:n<=sizeLine){rest:St}(xs ys:List V)(hl:ys.length=n)(hgo:∀i,i<n->J.go i H)(hstop:J.stop n H)(hy:∀i x H',i<n->J.yld i H x H'->H'=H/\xs[i]? = some x)
  (hs:∀(i:Nat) (x y:V) (Q':VK),xs[i]? = some x->ys[i]? = some y->Q' y H->te (some x::rest) H Q')
  (q:∀p,H p=none->Q (.ref p) (upd H p (.lst ys))):ju J (ou 0) vc te Q (none::rest) H:=by
 refine rR n hsz (λi zs σ H'=>H'=H/\zs=ys.take i/\∃x,σ=x::rest) ⟨rfl,by simp,_,rfl⟩ ?_ ?_ ?_ ?_ ?_
 ·rintro i zs σ H' ⟨rfl,rfl,_⟩;rw[bS];lia
 ·rintro i zs σ H' hi ⟨rfl,_,_⟩;exact hgo i hi
 ·rintro zs σ H' ⟨rfl,_,_⟩;exact hstop
 ·rintro i zs σ H1 x H' N hi ⟨rfl,rfl,z,rfl⟩ y hN;obtain⟨rfl,hx⟩:=hy i x H' hi y;show te (some x::rest) H' _;have hyi:ys[i]? = some ys[i]:=aS (by lia);refine hs i x ys[i] _ hx hyi (hN _ _ _ ⟨rfl,?_,_,rfl⟩);rw[bD,hyi];rfl
 ·rintro zs σ H' p ⟨rfl,rfl,_⟩ hp;rw[<-hl,cF];exact q p hp
theorem nL{rest:St}(hx:cy K H a xs)(hsz:xs.length<=sizeLine)(ys:List V)(hl:ys.length=xs.length)
  (hs:∀(i:Nat) (x y:V) (Q':VK),xs[i]? = some x->ys[i]? = some y->Q' y H->te (some x::rest) H Q')
  (q:∀p,H p=none->Q (.ref p) (upd H p (.lst ys))):ju (CY K a) (ou 0) vc te Q (none::rest) H:=by
 refine Ak xs.length hsz xs ys hl (λi hi=>⟨xs,xs[i],hx,by simp[hi]⟩) ⟨xs,hx,aB _⟩ (λi x H' hi y=>⟨y.1,y.2 xs hx⟩) hs q
end
theorem lh{c:Prop} [Decidable c] {A B:Prop} (h:¬c) (b:B):if c then A else B:=by rw[LL h];exact b
theorem rh{c:Prop} [Decidable c] {A B:Prop} (h:c) (a:A):if c then A else B:=by rw[LM h];exact a
section
variable {X:Cx} {K:LU}
theorem rD(h:X.K=K):Gf X (EA K):=h▸kH
end
def vI (o:Obj) (xs:List Str):Prop:=o.cls=.type "tuple"/\∃its n,o.data=.seq its n/\its.size<=sizeLine/\bj (xs.map V.str) its.toList
theorem wq {o:Obj} {xs:List Str} {its:Array Value} {n:Nat} (h1:o.cls=.type "tuple") (h2:o.data=.seq its n) (h3:its.size<=sizeLine) (h4:bj (xs.map V.str) its.toList):vI o xs:=⟨h1,its,n,h2,h3,h4⟩
theorem A8{K:LU}{h:Heap}{mg:Str->Option Value}{x:Str}{a:Addr}{o:Obj}{xs:List Str}(X:K.In h)(G:h.Ns mainGlobals mg)(y:PySem.W.nsIn K mainGlobals x=some (some (.ref a)))(l:K.lookup a=some o)(t:vI o xs):
  ∃a,mg x=some (.ref a)/\∀H,eR K H a (xs.map V.str):=by
 obtain⟨h1,its,n,h2,h3,h4⟩:=t;exact⟨a,dc X G y,λH=>.inr ⟨o,its,n,l,h1,h2,h3,h4⟩⟩
def zH(K:LU)(xs:List V):TE:=λ_ H Q=>∀a,(∀H,eR K H a xs)->Q (.ref a) H
theorem BE{K:LU}{xs:List V}{σ:St}{H:Hp}{Q:VK}:zH K xs σ H Q=∀a,(∀H,eR K H a xs)->Q (.ref a) H:=rfl
def Fe(t u:TS):TS:=λD σ H=>∃J:St->Hp->Prop,t { D with nx:=J } σ H/\∀σ' H',J σ' H'->u D σ' H'
theorem yk{to ti:TE}{t:CS}{v:V}{σ:St}{H:Hp}{q:St->Hp->Prop}:GW to ti t v σ H q=to σ H λo H1=>ti σ H1 λi H2=>t o i v H2 λH3=>q σ H3:=rfl
theorem dL{t u:TS}{D:Ends}{σ:St}{H:Hp}(J:St->Hp->Prop)(h1:t { nx:=J,rt:=D.rt,bk:=D.bk,ct:=D.ct } σ H)(h2:∀σ' H',J σ' H'->u D σ' H'):Fe t u D σ H:=⟨J,h1,h2⟩
end L2
namespace Rm
def dl(b:Bool):Int:=if b then 1 else -1
def D(bs:List Bool)(i:Nat):Int:=((bs.take i).map dl).sum
structure Gc (bs:List Bool) (k m:Nat):Prop where
 lt:k<m
 ml:m<bs.length
 op:bs[k]? = some true
 cl:bs[m]? = some false
 eq:D bs (m+1)=D bs k
 gt:∀ i,k<i->i<=m->D bs k<D bs i
end Rm
namespace L2
open PySem PySem.Spec PyProof.Rows
theorem Ax.okS{P:Program}{w:World}{K:LU}{mg:Str->Option Value}{base:Heap}{x qual:Str}{st:Stmt}{f:Addr}{fd:FuncData}{N ps:List Str}{k:Nat}{sp:Sp}(F:Ax K x qual st f fd)(S:cO N ps (bN st))(len:∀vs H Q E,sp vs H Q E->vs.length=ps.length)
  (hbody:∀(cdv:Value) (A:Around) (outer:List Env) (s:Shared) (H:Hp) (vs:List V) (Q:VK) (E:XK),jO k (A.deeper (envOfC qual (bN st) s.heap.objs.size f cdv))->sp vs H Q E →
   ∃(σ:St) (t:TS),start N vs=σ/\Ej (t6 Ay P w K mg base N qual (bN st) f cdv A outer s H E).nox (gi st) t/\t { nx:=λ_ H'=>Q .non H',rt:=Q } σ H):pM P w K mg base Ay (k+1) f fd ps sp:=
 F.ok S len λcdv A outer s H vs Q E hr h=>by
  obtain⟨σ,t,e,h1,h2⟩:=hbody cdv A outer s H vs Q E hr h;exact⟨t,h1,by rw[e];exact h2⟩
theorem A6{A:Around}{k:Nat}(hr:jO k A):A.units+64<cLine:=hr.units
end L2
namespace Rm
open PySem L2
def I0(b:Bool):Nat:=if b then 40 else 41
def wd(bs:List Bool):Str:=⟨(bs.map I0).toArray⟩
abbrev Bw:=Int×Int
def f6(H:Hp)(a:Addr)(p:Bw):Prop:=H a=some (.tup [.int p.1,.int p.2])
def fQ(H:Hp)(l:Addr)(ps:List Bw):Prop:=∃as:List Addr,H l=some (.lst (as.map V.ref))/\Paired (f6 H) as ps
theorem f6.same{H H':Hp}(s:ao H H'){a:Addr}{p:Bw}(h:f6 H a p):f6 H' a p:=s _ _ h
theorem fQ.same{H H':Hp}(s:ao H H'){l:Addr}{ps:List Bw}(h:fQ H l ps):fQ H' l ps:=
 let ⟨as,h1,h2⟩:=h
 ⟨as,s _ _ h1,cY h2 λ_ _ z=>z.same s⟩
theorem xt{H:Hp}{l t:Addr}{as:List Addr}{ps:List Bw}{x y:Int}(h1:H l=some (.lst (as.map V.ref)))(h2:Paired (f6 H) as ps)(ht:H t=none):
  fQ (upd (upd H t (.tup [.int x,.int y])) l (.lst (as.map V.ref++[V.ref t]))) l (ps++[(x,y)]):=by
 have ntl:t≠l:=λe=>by subst e;rw[h1] at ht;cases ht
 refine⟨as++[t],by rw[aG,aM];rfl,ft (cY h2 λa p z=>?_) ?_⟩
 ·have z':H a=some (.tup [.int p.1,.int p.2]):=z;have n1:a≠l:=wA z' h1 (by intro q;cases q);have n2:a≠t:=bK z' ht;show upd _ _ _ a=_;rw[aX n1,aX n2];exact z'
 ·show upd _ _ _ t=_;rw[aX ntl,aG]
theorem uA{H:Hp}{l f:Addr}{ps:List Bw}{xs ys:List V}(h:fQ H f ps)(hl:H l=some (.lst xs))(ne:f≠l):fQ (upd H l (.lst ys)) f ps:=by
 obtain⟨as,h1,h2⟩:=h;refine⟨as,by rw[aX ne];exact h1,cY h2 λa p z=>?_⟩;have z':H a=some (.tup [.int p.1,.int p.2]):=z;show upd _ _ _ a=_;rw[aX (wA z' hl (by intro q;cases q))];exact z'
theorem qR{H:Hp}{l hd:Addr}{as:List Addr}{ps:List Bw}(h2:Paired (f6 H) as ps)(hn:H hd=none):fQ (upd H hd (.lst (as.map V.ref))) hd ps:=
 ⟨as,aG,cY h2 λa p z=>by
  have z':H a=some (.tup [.int p.1,.int p.2]):=z;show upd _ _ _ a=_;rw[aX (bK z' hn)];exact z'⟩
theorem fQ.get{H:Hp}{l:Addr}{ps:List Bw}(h:fQ H l ps):∃as:List Addr,H l=some (.lst (as.map V.ref))/\as.length=ps.length/\∀(i:Nat) x,(as.map V.ref)[i]? = some x->∃a p,x=.ref a/\ps[i]? = some p/\f6 H a p:=by
 obtain⟨as,h1,h2⟩:=h;refine⟨as,h1,bu h2,λi x hx=>?_⟩;rw[bV] at hx;cases e:as[i]? with
 | none=>rw[e] at hx;cases hx
 | some a=>
  rw[e] at hx;obtain⟨p,hp,ht⟩:=paired_get h2 e;exact⟨a,p,(bT hx).symm,hp,ht⟩
def dy(p q:Bw):Bool:=decide (p.1<q.1)&&(decide (q.1<p.2)&&decide (p.2<q.2))
def kX(ws:List Nat):List V:=ws.map λ(n:Nat)=>V.int (n:Int)
theorem tK(ws:List Nat):(kX ws).length=ws.length:=by simp[kX]
theorem nF(ws:List Nat)(k:Nat):kX (ws++[k])=kX ws++[.int k]:=by simp[kX]
theorem xU(ws:List Nat)(k:Nat):(kX (ws++[k])).dropLast=kX ws:=by rw[nF];simp
theorem xT(ws:List Nat)(k:Nat):(kX (ws++[k]))[(kX (ws++[k])).length - 1]? = some (.int k):=by rw[nF];simp
def oK:Sp:=λvs H Q _=>∃l ps,vs=[.ref l]/\fQ H l ps/\((∀p∈ps,∀q∈ps,dy p q=false)->Q .non H) ∧
 ∀p∈ps,∀q∈ps,dy p q=true->∀t a b H',H t=none->ao H H'->H' t=some (.tup [.ref a,.ref b])->f6 H' a p->f6 H' b q->Q (.ref t) H'
def sN(K:LU):Sp:=λvs H Q _=>∃(a:Addr) (ns:List Int),vs=[.ref a]/\cy K H a (ns.map V.int)/\ns.length<=63/\∀H',Q (.bl true) H'
end Rm
namespace Rm
open PySem PySem.W PyProof.Rows
section
variable {r:Nat->Int} {N:Nat} {cmp:Nat->Nat->(Bool->Shared->Prop)->Shared->Prop} {s:Shared}
def Told(r:Nat->Int)(N:Nat)(cmp:Nat->Nat->(Bool->Shared->Prop)->Shared->Prop)(s:Shared):Prop:=
 ∀i j,i<N->j<N->∀C:Bool->Shared->Prop,C (decide (r i<r j)) s->cmp i j C s
def In(N:Nat)(p:Array Nat):Prop:=p.size=N/\∀i,p.getD i 0<N
def Kk(r:Nat->Int)(p:Array Nat)(i:Nat):Int:=r (p.getD i 0)
def pO(r:Nat->Int)(p:Array Nat)(k:Nat):Prop:=∀i j,i<=j->j<k->Kk r p i<=Kk r p j
def DU(r:Nat->Int)(p:Array Nat)(k:Nat):Prop:=∀i j,i<=j->j<k->Kk r p j<=Kk r p i
theorem lL{p q:Array Nat}{i j:Nat}(h:p[i]? = q[j]?):Kk r p i=Kk r q j:=by
 unfold Kk;rw[bC,bC,h]
theorem rZ{p:Array Nat}{i j:Nat}(hj:j<=p.size)(k:Nat):Kk r (kas_rev p i j) k=if i<=k/\k<j then Kk r p (i+j - 1-k) else Kk r p k:=by
 have e:=getElem?_mirror_all (i:=i) hj k;unfold kas_rev;by_cases h1:i<=k/\k<j
 ·rw[LM h1] at e ⊢;exact lL e
 ·rw[LL h1] at e ⊢;exact lL e
theorem qX{p:Array Nat}{src d:Nat}(hs:src<p.size)(hd:d<=src)(k:Nat):Kk r (bubble p src d) k=if k=src-d then Kk r p src else if src-d<k/\k<=src then Kk r p (k - 1) else Kk r p k:=by
 have e:=getElem?_bubble hs d hd k;by_cases h1:k=src-d
 ·rw[LM h1] at e ⊢;exact lL e
 ·rw[LL h1] at e ⊢;by_cases h2:src-d<k/\k<=src
  ·rw[LM h2] at e ⊢;exact lL e
  ·rw[LL h2] at e ⊢;exact lL e
theorem In.of_perm{p q:Array Nat}(h:In N p)(hp:q.Perm p):In N q:=by
 refine⟨hp.size_eq.trans h.1,λi=>?_⟩;rw[bC];cases e:q[i]? with
 | none=>
  have:=h.2 N;rw[bC,eu (kM h.1)] at this;exact this
 | some x=>
  have hx:x∈q:=kd e;have hx':x∈p:=hp.mem_iff.mp hx;obtain⟨j,hj,rfl⟩:=ke.mp hx';have:=h.2 j;rw[bC,cX hj] at this;exact this
theorem In.rev{p:Array Nat}(h:In N p)(i j:Nat):In N (kas_rev p i j):=h.of_perm (Ku _ _ _ _)
theorem pK(T:Told r N cmp s){G:Nat->Shared->Prop}{p:Array Nat}(hp:In N p):∀(f n:Nat),1<=n->pO r p n->(∀m,n<=m->m<=n+f->pO r p m->(m<n+f->Kk r p m<Kk r p (m - 1))->G m s)->(kas_asc p f n).kasWp cmp G s
 | 0,n,_,ha,hG=>hG n (aB _) (aB _) ha (λh=>absurd h (by lia))
 | f+1,n,h1,ha,hG=>by
  refine T _ _ (hp.2 _) (hp.2 _) _ ?_;by_cases c:Kk r p n<Kk r p (n - 1)
  ·have c':r (p.getD n 0)<r (p.getD (n - 1) 0):=c;rw[LP c'];exact hG n (aB _) (by lia) ha λ_=>c
  ·have c':¬r (p.getD n 0)<r (p.getD (n - 1) 0):=c;rw[LO c'];refine pK T hp f (n+1) (by lia) (λi j hij hj=>?_) λm a b c2 d=>hG m (by lia) (by lia) c2 λe=>d (by lia);by_cases e:j=n
   ·subst e;by_cases e2:i=j
    ·subst e2;exact cA _
    ·have:=ha i (j - 1) (by lia) (by lia);lia
   ·exact ha i j hij (by lia)
def Eh(r:Nat->Int)(p:Array Nat)(n q:Nat):Prop:=q<n/\∀k,n-(q+1)<=k->k<n->Kk r p k=Kk r p (n - 1)
theorem sW{p:Array Nat}{n q:Nat}(hn:n<=p.size)(h:Eh r p n q)(k:Nat):Kk r (kas_rev p (n-(q+1)) n) k=Kk r p k:=by
 rw[rZ hn]
 split
 ·rw[h.2 _ (by have:=h.1;lia) (by lia),h.2 k (by lia) (by lia)]
 ·rfl
theorem DU.same{p p':Array Nat}{n:Nat}(h:DU r p n)(e:∀k,Kk r p' k=Kk r p k):DU r p' n:=λi j a b=>by rw[e,e];exact h i j a b
theorem nK(T:Told r N cmp s){G:Array Nat×Nat×Nat->Shared->Prop}:∀(f:Nat) (p:Array Nat) (n q:Nat),In N p->n+f<=N->DU r p n->Eh r p n q →
  (∀p' n' q',p'.Perm p->n<=n'->n'<=n+f->DU r p' n'->Eh r p' n' q'->G (p',n',q') s)->(kas_desc f p n q).kasWp cmp G s
 | 0,p,n,q,_,_,hd,ht,hG=>hG p n q (.refl _) (aB _) (aB _) hd ht
 | f+1,p,n,q,hp,hN,hd,ht,hG=>by
  refine T _ _ (hp.2 _) (hp.2 _) _ ?_;by_cases c:Kk r p n<Kk r p (n - 1)
  ·have c':r (p.getD n 0)<r (p.getD (n - 1) 0):=c;rw[LP c'];have hq:=ht.1;have grow:∀p':Array Nat,p'.Perm p->(∀k,Kk r p' k=Kk r p k)->(kas_desc f p' (n+1) 0).kasWp cmp G s:=λp' hpp e=>by
    refine nK T f p' (n+1) 0 (hp.of_perm hpp) (by lia) (λi j hij hj=>?_) ⟨by lia,λk h1 h2=>by have e9:k=n:=(by lia);rw[e9];rfl⟩ λp2 n2 q2 a b c2 d e2=>hG p2 n2 q2 (a.trans hpp) (by lia) (by lia) d e2;rw[e,e];by_cases e3:j=n
    ·subst e3;by_cases e4:i=j
     ·subst e4;exact cA _
     ·have:=hd i (j - 1) (by lia) (by lia);lia
    ·exact hd i j hij (by lia)
   show KasT.kasWp cmp (if true=true then (if q > 0 then kas_desc f (kas_rev p (n-(q+1)) n) (n+1) 0 else kas_desc f p (n+1) 0) else _) G s;rw[LM rfl]
   split
   ·exact grow _ (Ku _ _ _ _) (sW (by rw[hp.1];lia) ht)
   ·exact grow p (.refl _) λ_=>rfl
  ·have c':¬r (p.getD n 0)<r (p.getD (n - 1) 0):=c;rw[LO c'];show KasT.kasWp cmp (if false=true then _ else KasT.ask (p.getD (n - 1) 0) (p.getD n 0) λd=>if d=true then .ret (p,n,q) else kas_desc f p (n+1) (q+1)) G s;rw[LL (by simp)];refine T _ _ (hp.2 _) (hp.2 _) _ ?_;by_cases d:Kk r p (n - 1)<Kk r p n
   ·have d':r (p.getD (n - 1) 0)<r (p.getD n 0):=d;rw[LP d'];exact hG p n q (.refl _) (aB _) (by lia) hd ht
   ·have d':¬r (p.getD (n - 1) 0)<r (p.getD n 0):=d;rw[LO d'];have hq:=ht.1;have eq:Kk r p n=Kk r p (n - 1):=by lia
    refine nK T f p (n+1) (q+1) hp (by lia) (λi j hij hj=>?_) ⟨by lia,λk h1 h2=>?_⟩ λp2 n2 q2 a b c2 d2 e2=>hG p2 n2 q2 a (by lia) (by lia) d2 e2
    ·by_cases e3:j=n
     ·subst e3;by_cases e4:i=j
      ·subst e4;exact cA _
      ·have:=hd i (j - 1) (by lia) (by lia);lia
     ·exact hd i j hij (by lia)
    ·show Kk r p k=Kk r p n;by_cases e3:k=n
     ·rw[e3]
     ·rw[eq];exact ht.2 k (by lia) (by lia)
def FD(r:Nat->Int)(p:Array Nat)(nrem:Nat)(G:Nat×Array Nat->Shared->Prop)(s:Shared):Prop:=∀n p',p'.Perm p->1<=n->n<=nrem->pO r p' n->G (n,p') s
theorem oI(T:Told r N cmp s){G:Nat×Array Nat->Shared->Prop}{p:Array Nat}{n:Nat}(hp:In N p)(h1:1<=n)(hn:n<=N)(hd:DU r p n)(hG:FD r p N G s):(kas_tail3 n N p).kasWp cmp G s:=by
 unfold kas_tail3;rw[KasT.kasWp_bind];refine pK T (hp.rev 0 n) (N-n) n h1 (λi j hij hj=>?_) λm a b c _=>hG m _ (Ku _ _ _ _) (by lia) (by lia) c;rw[rZ (by rw[hp.1];exact hn),rZ (by rw[hp.1];exact hn),LM (by lia),LM (by lia)];exact hd _ _ (by lia) (by lia)
theorem FD.perm{p q:Array Nat}{G:Nat×Array Nat->Shared->Prop}(h:FD r p N G s)(hp:q.Perm p):FD r q N G s:=λn p' a b c d=>h n p' (a.trans hp) b c d
theorem mB(T:Told r N cmp s){G:Nat×Array Nat->Shared->Prop}{p:Array Nat}{n:Nat}(hp:In N p)(hn:n+1<=N)(h1:1<=n)(hd:DU r p (n+1))(hG:FD r p N G s):(kas_descPart n N p).kasWp cmp G s:=by
 unfold kas_descPart;rw[KasT.kasWp_bind];refine nK T _ p (n+1) 0 hp (by lia) hd ⟨by lia,λk a b=>by have e9:k=n:=(by lia);rw[e9];rfl⟩ λp' n' q' a b c d e=>?_;dsimp only;have hp':=hp.of_perm a
 split
 ·exact oI T (hp'.rev _ _) (by lia) (by lia) (d.same (sW (by rw[hp'.1];lia) e)) (hG.perm ((Ku _ _ _ _).trans a))
 ·exact oI T hp' (by lia) (by lia) d (hG.perm a)
theorem vE(T:Told r N cmp s){G:Nat×Array Nat->Shared->Prop}{p:Array Nat}(hp:In N p)(hN:1<=N)(hG:FD r p N G s):(kas_count N p).kasWp cmp G s:=by
 unfold kas_count;rw[KasT.kasWp_bind];refine pK T hp (N - 1) 1 (aB _) (λi j a b=>by have e9:i=j:=(by lia);rw[e9];exact cA _) λn h1 h2 ha hb=>?_;by_cases e:n=N
 ·subst e;rw[LM (by simp)];exact hG n p (.refl _) h1 (aB _) ha
 ·rw[LL (by simp[e])];have hlt:=hb (by lia)
  split
  ·refine T _ _ (hp.2 _) (hp.2 _) _ ?_;by_cases c:Kk r p 0<Kk r p (n - 1)
   ·have c':r (p.getD 0 0)<r (p.getD (n - 1) 0):=c;rw[LP c'];exact hG n p (.refl _) h1 (by lia) ha
   ·have c':¬r (p.getD 0 0)<r (p.getD (n - 1) 0):=c;rw[LO c'];have alike:∀k,k<n->Kk r p k=Kk r p (n - 1):=λk hk=>by
     have a1:=ha 0 k (by lia) hk;have a2:=ha k (n - 1) (by lia) (by lia);lia
    have same:∀k,Kk r (kas_rev p 0 n) k=Kk r p k:=λk=>by
     rw[rZ (by rw[hp.1];lia)]
     split
     ·rw[alike _ (by lia),alike k (by lia)]
     ·rfl
    refine mB T (hp.rev 0 n) (by lia) h1 (DU.same (p:=p) (λi j hij hj=>?_) same) (hG.perm (Ku _ _ _ _));by_cases e3:j=n
    ·subst e3;by_cases e4:i=j
     ·subst e4;exact cA _
     ·rw[alike i (by lia)];lia
    ·rw[alike i (by lia),alike j (by lia)];exact cA _
  ·have:n=1:=by lia
   subst this;refine mB T hp (by lia) (aB _) (λi j hij hj=>?_) hG;have hj':j=0\/j=1:=by lia
   have hi':i=0\/i=1:=by lia
   rcases hj' with rfl | rfl<;>rcases hi' with rfl | rfl
   ·exact cA _
   ·lia
   ·have:Kk r p 1<Kk r p 0:=hlt;lia
   ·exact cA _
theorem place_spec(T:Told r N cmp s){G:Nat->Shared->Prop}{p:Array Nat}{k:Nat}(hp:In N p)(hs:pO r p k):∀(f l e:Nat),e<=k->e<=l+f->l<=e->(∀i,i<l->Kk r p i<=Kk r p k)->(∀i,e<=i->i<k->Kk r p k<Kk r p i) →
  (∀l,l<=k->(∀i,i<l->Kk r p i<=Kk r p k)->(∀i,l<=i->i<k->Kk r p k<Kk r p i)->G l s)->(kas_place p k f l e).kasWp cmp G s
 | 0,l,e,h1,h2,h3,h4,h5,hG=>by
  have:l=e:=by lia
  subst this;exact hG l h1 h4 h5
 | f+1,l,e,h1,h2,h3,h4,h5,hG=>by
  unfold kas_place
  split
  ·have:l=e:=by lia
   subst this;exact hG l h1 h4 h5
  ·refine T _ _ (hp.2 _) (hp.2 _) _ ?_;by_cases c:Kk r p k<Kk r p ((l+e) / 2)
   ·have c':r (p.getD k 0)<r (p.getD ((l+e) / 2) 0):=c;rw[LP c'];refine place_spec T hp hs f l ((l+e) / 2) (by lia) (by lia) (by lia) h4 (λi a b=>?_) hG;have:=hs ((l+e) / 2) i a b;lia
   ·have c':¬r (p.getD k 0)<r (p.getD ((l+e) / 2) 0):=c;rw[LO c'];refine place_spec T hp hs f ((l+e) / 2+1) e h1 (by lia) (by lia) (λi a=>?_) h5 hG;have:=hs i ((l+e) / 2) (by lia) (by lia);lia
theorem vG{p:Array Nat}{k l:Nat}(hk:k<p.size)(hs:pO r p k)(hl:l<=k)(h1:∀i,i<l->Kk r p i<=Kk r p k)(h2:∀i,l<=i->i<k->Kk r p k<Kk r p i):pO r (bubble p k (k-l)) (k+1):=λi j hij hj=>by
 rw[qX hk (by lia),qX hk (by lia)];have e:k-(k-l)=l:=by lia
 rw[e];by_cases i1:i=l
 ·rw[LM i1];by_cases j1:j=l
  ·rw[LM j1];exact cA _
  ·rw[LL j1,LM (by lia)];have:=h2 (j - 1) (by lia) (by lia);lia
 ·rw[LL i1];by_cases i2:l<i/\i<=k
  ·rw[LM i2,LL (by lia),LM (by lia)];exact hs _ _ (by lia) (by lia)
  ·rw[LL i2];by_cases j1:j=l
   ·rw[LM j1];exact h1 i (by lia)
   ·rw[LL j1];by_cases j2:l<j/\j<=k
    ·rw[LM j2];exact hs _ _ (by lia) (by lia)
    ·rw[LL j2];exact hs _ _ (by lia) (by lia)
theorem uB(T:Told r N cmp s){G:Array Nat->Shared->Prop}:∀(f:Nat) (p:Array Nat) (k:Nat),In N p->k+f=N->pO r p k->(∀p',p'.Perm p->pO r p' N->G p' s)->(kas_bin f p k).kasWp cmp G s
 | 0,p,k,hp,hk,hs,hG=>hG p (.refl _) (by have e9:k=N:=(by lia);rw[<-e9];exact hs)
 | f+1,p,k,hp,hk,hs,hG=>by
  unfold kas_bin;rw[KasT.kasWp_bind];refine place_spec T hp hs k 0 k (aB _) (by lia) (by lia) (λi h=>absurd h (by lia)) (λi h h'=>absurd h' (by lia)) λl h1 h2 h3=>?_;refine uB T f _ (k+1) (hp.of_perm (bubble_perm _ _ _)) (by lia) (vG (by rw[hp.1];lia) hs h1 h2 h3) λp' a b=>hG p' (a.trans (bubble_perm _ _ _)) b
theorem qC(T:Told r N cmp s){G:Array Nat->Shared->Prop}(hN:1<=N)(hG:∀p:Array Nat,p.Perm (List.toArray (List.range N))->pO r p N->G p s):(kas_sort N).kasWp cmp G s:=by
 have h0:In N (List.toArray (List.range N)):=⟨by simp,λi=>by
  rw[bC];cases e:(List.toArray (List.range N))[i]? with
  | none=>exact hN
  | some x=>
   have:=kd e;simpa using this⟩
 unfold kas_sort;rw[KasT.kasWp_bind];refine vE T h0 hN λn p a b c d=>?_;dsimp only;have hp:=h0.of_perm a
 split
 ·have e:max n 1=n:=by lia
  rw[e];exact uB T _ p n hp (by lia) d λp' x y=>hG p' (x.trans a) y
 ·have:n=N:=by lia
  subst this;exact hG p a d
end
section
variable {prog:Program} {w:World} {A:Around} {E:Value->Shared->Prop} {s:Shared}
def gw(vs:List Value)(p:Array Nat):Array Value:=List.toArray (p.toList.map λi=>vs.getD i Value.none)
theorem qD:∀vs:List Value,vs.length<2->(vs.toArray.zip vs.toArray).map (·.2)=gw vs (List.toArray (List.range vs.length))
 | [],_=>by simp[gw]
 | [v],_=>by simp[gw]
 | _::_::_,h=>by simp at h;lia
def Kp(a:Addr)(h h':Heap):Prop:=∀b o,b≠a->h.get? b=some o->h'.get? b=some o
theorem o8 {a:Addr} {vs:List Value} {n:Nat} {P:PySem.Fin->Shared->Prop} {r:Nat->Int} (κ:SortKind) (ho:s.heap.get? a=some (seqObj "list" vs.toArray n)) (h64:vs.length<64)
  (hk:2<=vs.length->∀(h':Heap) (Q:SortKind->Shared->Prop),Kp a s.heap h'->Q κ { s with heap:=h' }->wpAny (model prog w) A (keyKind' vs.toArray) Q E { s with heap:=h' })
  (hc:∀i j,i<vs.length->j<vs.length->∀(h':Heap) (C:Bool->Shared->Prop),Kp a s.heap h'->C (decide (r i<r j)) { s with heap:=h' }->wpAny (model prog w) A (keyLt' κ (vs.getD i Value.none) (vs.getD j Value.none)) C (λ_ _=>False) { s with heap:=h' })
  (h:∀p:Array Nat,p.Perm (List.toArray (List.range vs.length))->pO r p vs.length->P (.done (.ret .none)) { s with heap:=sortedHeap s.heap a vs (gw vs p) }) :
  wpAny (model prog w) A (Builtin.«list.sort» ⟨[.ref a],[]⟩) P E s:=by
 rw[list_sort_plain];have ha:a<s.heap.objs.size:=aN ho;refine wpAny_bind (listItems_at ho rfl ?_);refine wpAny_bind (Kv ho rfl ?_);obtain⟨e1,ho1⟩:∃e1,(s.heap.update a (Obj.mapSeq λ_=>#[])).get? a=some (seqObj "list" #[] e1):=⟨_,get?_update_seq ho (λ_=>#[])⟩
 refine wpAny_bind (Kw ho1 rfl ?_);refine wpAny_bind (wpAny_newTuple ?_);refine wpAny_bind (Kx ?_);refine Kl ?_;have ho6:(((s.heap.update a (Obj.mapSeq λ_=>#[])).push (seqObj "tuple" vs.toArray 0)).push (seqObj "list" #[] 0)).get? a=some (seqObj "list" #[] e1):=by
  rw[dG _ _ _ (by rw[size_push',eP];exact a9 (dF ha)),dG _ _ _ (by rw[eP];exact a9 ha)];exact ho1
 have kp6:Kp a s.heap (((s.heap.update a (Obj.mapSeq λ_=>#[])).push (seqObj "tuple" vs.toArray 0)).push (seqObj "list" #[] 0)):=λb o hb e=>
  aA _ (aA _ (by rw[fZ _ _ _ _ hb];exact e))
 show wpAny (model prog w) A _ P E { s with heap:=((s.heap.update a (Obj.mapSeq λ_=>#[])).push (seqObj "tuple" vs.toArray 0)).push (seqObj "list" #[] 0) };dsimp only;have hsz:vs.toArray.size=vs.length:=by simp
 by_cases h2:vs.toArray.size<2
 ·rw[LM h2,LM h2];refine wpAny_bind (Kd ?_);rw[StateT.run_pure];refine wpAny_bind (Kd ?_);dsimp only;refine wpAny_bind (Kw ho6 rfl ?_);refine wpAny_bind (Kv ho6 rfl ?_ (hsz2:=by rw[Array.size_map];show (pairsOf vs).size<=_;rw[pairsOf_size,Kh];lia));simp only[bne_self_eq_false,aY,LS];have e:(arrOf (SortSt.mk' general' (vs.toArray.zip vs.toArray) #[] 7 none)).map (·.2)=gw vs (List.toArray (List.range vs.length)):=by
   exact qD vs (by lia)
  rw[e];refine Kd (h (List.toArray (List.range vs.length)) (bn _) ?_);intro i j hij hj;have e9:i=j:=by lia
  rw[e9];exact cA _
 ·rw[LL h2,LL h2];refine wpAny_bind (hk (by lia) _ _ kp6 ?_);have T:Told r vs.length (kas_ask prog w A κ vs) { s with heap:=((s.heap.update a (Obj.mapSeq λ_=>#[])).push (seqObj "tuple" vs.toArray 0)).push (seqObj "list" #[] 0) }:=λi j hi hj C hC=>hc i j hi hj _ C kp6 hC;refine wpAny_bind (Kb (kat_run (ks:=vs) (vs:=vs) (Q:=λst' s'=>s'={ s with heap:=((s.heap.update a (Obj.mapSeq λ_=>#[])).push (seqObj "tuple" vs.toArray 0)).push (seqObj "list" #[] 0) }/\∃p:Array Nat,p.size=vs.length/\arrOf st'=p.map (kas_item (vs.toArray.zip vs.toArray))/\failedOf st'=none/\p.Perm (List.toArray (List.range vs.length))/\pO r p vs.length)
   (G:=λp s'=>s'={ s with heap:=((s.heap.update a (Obj.mapSeq λ_=>#[])).push (seqObj "tuple" vs.toArray 0)).push (seqObj "list" #[] 0) }/\p.Perm (List.toArray (List.range vs.length))/\pO r p vs.length)
   rfl (by lia) h64 (λp' st' s' a1 a2 a3 a4=>⟨a4.1,p',a1,a2,a3,a4.2⟩) (qC T (by lia) λp hp ha=>⟨rfl,hp,ha⟩)) ?_ λ_ _ e=>e)
  rintro⟨⟨⟩,st'⟩ s' ⟨rfl,p,hps,har,hf,hp,hs⟩;dsimp only;have hout:=kat_snds (ks:=vs) (vs:=vs) rfl har;rw[hout];refine wpAny_bind (Kw ho6 rfl ?_);refine wpAny_bind (Kv ho6 rfl ?_ (hsz2:=by rw[aH,aC,bQ,hps,Kh];lia));rw[hf];simp only[bne_self_eq_false,aY,LS];exact Kd (h p hp hs)
theorem oM {l:Addr} {vs:List Value} {Q:Value->Shared->Prop} {r:Nat->Int} (κ:SortKind) (hcol:∀(A:Around) (E:Value->Shared->Prop) (Q:List Value->Shared->Prop),Q vs { s with heap:=(s.heap.push (seqObj "list" #[] 0)).update s.heap.objs.size (Obj.mapSeq (·++vs.toArray)) }->wpAny (model prog w) A (collect (.ref l)) Q E s) (h64:vs.length<64)
  (hk:2<=vs.length->∀(h':Heap) (Q:SortKind->Shared->Prop),(∀b o,s.heap.get? b=some o->h'.get? b=some o)->Q κ { s with heap:=h' }->wpAny (model prog w) A.in1.in1 (keyKind' vs.toArray) Q (λ_ _=>False) { s with heap:=h' })
  (hc:∀i j,i<vs.length->j<vs.length->∀(h':Heap) (C:Bool->Shared->Prop),(∀b o,s.heap.get? b=some o->h'.get? b=some o)->C (decide (r i<r j)) { s with heap:=h' }->wpAny (model prog w) A.in1.in1 (keyLt' κ (vs.getD i Value.none) (vs.getD j Value.none)) C (λ_ _=>False) { s with heap:=h' })
  (h:∀p:Array Nat,p.Perm (List.toArray (List.range vs.length))->pO r p vs.length->Q (.ref (s.heap.objs.size+1)) { s with heap:=sortedAll s.heap vs (gw vs p) }) :
  wpAny (model prog w) A (call (.builtin "sorted") [.ref l]) Q E s:=by
 refine fX kind_sorted plain_sorted entry_sorted (args_sorted1 _) ?_;unfold Builtin.«sorted»;refine wpAny_bind (m:=checkCount "sorted" 1 1 _) (Kd ?_);refine wpAny_bind (hcol _ _ _ ?_);refine wpAny_bind (Kx ?_);have hsz:((s.heap.push (seqObj "list" #[] 0)).update s.heap.objs.size (Obj.mapSeq (·++vs.toArray))).objs.size=s.heap.objs.size+1:=by
  rw[eP,size_push']
 have hoL:(((s.heap.push (seqObj "list" #[] 0)).update s.heap.objs.size (Obj.mapSeq (·++vs.toArray))).push (seqObj "list" vs.toArray 0)).get? (s.heap.objs.size+1)=some (seqObj "list" vs.toArray 0):=by
  rw[<-hsz];exact aP _ rfl
 have keep:∀b o,s.heap.get? b=some o->(((s.heap.push (seqObj "list" #[] 0)).update s.heap.objs.size (Obj.mapSeq (·++vs.toArray))).push (seqObj "list" vs.toArray 0)).get? b=some o:=λb o q=>by
  have hlt:b<s.heap.objs.size:=aN q;rw[dG _ _ _ (by rw[hsz];exact a9 (dF hlt)),fZ _ _ _ _ (a9 hlt),dG _ _ _ (a9 hlt)];exact q
 have keep2:∀h',Kp (s.heap.objs.size+1) (((s.heap.push (seqObj "list" #[] 0)).update s.heap.objs.size (Obj.mapSeq (·++vs.toArray))).push (seqObj "list" vs.toArray 0)) h'->∀b o,s.heap.get? b=some o->h'.get? b=some o:=λh' k b o q=>
  k b o (a9 (dF (aN q))) (keep b o q)
 show wpAny _ _ _ _ _ { s with heap:=((s.heap.push (seqObj "list" #[] 0)).update s.heap.objs.size (Obj.mapSeq (·++vs.toArray))).push (seqObj "list" vs.toArray 0) };rw[hsz];refine wpAny_bind (Kl (Km slot_list_sort ⟨_,hoL,rfl⟩ entry_list_sort (o8 (r:=r) κ hoL h64 (λh2 h' Q k q=>?_) (λi j hi hj h' C k q=>?_) λp hp ha=>⟨_,rfl,?_⟩) (args_list_sort _)))
 ·exact Kb (hk h2 h' Q (keep2 h' k) q) (λ_ _ z=>z) λ_ _ z=>z.elim
 ·exact hc i j hi hj h' C (keep2 h' k) q
 ·exact Kd ⟨_,rfl,h p hp ha⟩
theorem sR{l:Addr}{vs:List Value}{Q:Value->Shared->Prop}{r:Nat->Int}(κ:SortKind)(hl:s.heap.IsList l vs.toArray)(h64:vs.length<64)
  (hk:2<=vs.length->∀(h':Heap) (Q:SortKind->Shared->Prop),(∀b o,s.heap.get? b=some o->h'.get? b=some o)->Q κ { s with heap:=h' }->wpAny (model prog w) A.in1.in1 (keyKind' vs.toArray) Q (λ_ _=>False) { s with heap:=h' })
  (hc:∀i j,i<vs.length->j<vs.length->∀(h':Heap) (C:Bool->Shared->Prop),(∀b o,s.heap.get? b=some o->h'.get? b=some o)->C (decide (r i<r j)) { s with heap:=h' }->wpAny (model prog w) A.in1.in1 (keyLt' κ (vs.getD i Value.none) (vs.getD j Value.none)) C (λ_ _=>False) { s with heap:=h' })
  (h:∀p:Array Nat,p.Perm (List.toArray (List.range vs.length))->pO r p vs.length->Q (.ref (s.heap.objs.size+1)) { s with heap:=sortedAll s.heap vs (gw vs p) }) :
  wpAny (model prog w) A (call (.builtin "sorted") [.ref l]) Q E s:=
 oM κ (λA E Q q=>collect_list hl q (by rw[Kh];lia)) h64 hk hc h
end
end Rm
namespace Rm
open PySem PySem.W PyProof.Rows L2
theorem jV:∀{as:List Addr} {us:List Value},bj (as.map V.ref) us->us=as.map Value.ref
 | [],_,.nil=>rfl
 | a::as,u::us,.cons r t=>by
  have e:u=Value.ref a:=r;rw[e,jV t];rfl
theorem qF(as:List Addr):bj (as.map V.ref) (as.map Value.ref):=by
 induction as with
 | nil=>exact .nil
 | cons a as ih=>exact .cons rfl ih
def CQ (h:Heap) (a:Addr) (p:Bw):Prop:=∃o t u n,h.get? a=some o/\o.cls=.type "tuple"/\o.data=.seq #[.int p.1 t,.int p.2 u] n
theorem Df{X:Cx}{pins:List (Addr×Obj)}{σ:L2.St}{H:Hp}{s:Shared}(I:bW X pins σ H s){a:Addr}{p:Bw}(h:f6 H a p):CQ s.heap a p:=by
 obtain⟨_,its,v,o,e,c,n,d⟩:=I.hok a _ h;obtain⟨u,w,rfl,⟨t,rfl⟩,t',rfl⟩:=bj.two v;exact⟨o,t,t',n,e,c,by rw[d]⟩
theorem CQ.kept{h h':Heap}{a:Addr}{p:Bw}(x:CQ h a p)(k:∀b o,h.get? b=some o->h'.get? b=some o):CQ h' a p:=by
 obtain⟨o,t,u,n,e,c,d⟩:=x;exact⟨o,t,u,n,k _ _ e,c,d⟩
theorem sD{h:Heap}:∀{as:List Addr} {ps:List Bw},Paired (CQ h) as ps->∃fs,KatTups h (as.map Value.ref) fs/\fs.length=as.length/\∀v∈fs,∃n t,v=Value.int n t
 | _,_,.nil=>⟨[],KatTups.nil,rfl,(λv hv=>nomatch hv)⟩
 | _,_,.cons r t=>by
  obtain⟨o,t1,u1,n,e,c,d⟩:=r;obtain⟨fs,h1,h2,h3⟩:=sD t;exact⟨.int _ t1::fs,KatTups.cons e c d rfl h1,by simp[h2],λv hv=>by
   rcases aF.mp hv with rfl | hv
   ·exact⟨_,_,rfl⟩
   ·exact h3 v hv⟩
def iO(p:Bw):Int:=p.1*1000+p.2
def kB:SortKind:=tuples' (Value.type "int" != Value.type "tuple")
theorem Dg{prog:Program}{w:World}{A:Around}{s:Shared}{a b:Addr}{p q:Bw}{C:Bool->Shared->Prop}(ha:CQ s.heap a p)(hb:CQ s.heap b q)(hp:0<=p.2/\p.2<1000)(hq:0<=q.2/\q.2<1000)
  (h:C (decide (iO p<iO q)) s):wpAny (model prog w) A (keyLt' kB (.ref a) (.ref b)) C (λ_ _=>False) s:=by
 obtain⟨oa,t,u,n,ea,ca,da⟩:=ha;obtain⟨ob,t',u',n',eb,cb,db⟩:=hb;refine kat_lt ea da eb db ?_;show KatLex prog w A _ _ C [(Value.int p.1 t,Value.int q.1 t'),(Value.int p.2 u,Value.int q.2 u')] 0 s;refine kat_cons (Ka (kat_go (λe=>?_) (λe=>?_)))
 ·have e1:p.1=q.1:=by simpa using e
  refine kat_yes (kat_cons (Ka (kat_go (λe=>?_) (λe=>?_))))
  ·have e2:p.2=q.2:=by simpa using e
   refine kat_yes (kat_nil ?_);have z:decide (iO p<iO q)=false:=LO (by unfold iO;lia);rw[z] at h;exact h
  ·have e2:¬p.2=q.2:=by simpa using e
   refine kat_no ?_;have z:decide (iO p<iO q)=decide (p.2<q.2):=by
    by_cases y:p.2<q.2
    ·rw[LP y,LP (by unfold iO;lia)]
    ·rw[LO y,LO (by unfold iO;lia)]
   rw[z] at h;have b0:((Value.type "int" != Value.type "tuple")&&((0+1:Nat)==0))=false:=by decide
   rw[b0];exact kat_one _ _ (lt_int h)
 ·have e1:¬p.1=q.1:=by simpa using e
  refine kat_no ?_;have z:decide (iO p<iO q)=decide (p.1<q.1):=by
   by_cases y:p.1<q.1
   ·rw[LP y,LP (by unfold iO;lia)]
   ·rw[LO y,LO (by unfold iO;lia)]
  rw[z] at h;have b0:((Value.type "int" != Value.type "tuple")&&((0:Nat)==0))=true:=by decide
  rw[b0];exact oneLt_int h
def pick{α:Type}(d:α)(xs:List α)(p:Array Nat):List α:=p.toList.map λi=>xs.getD i d
theorem j8{α:Type}(d:α)(xs:List α){p:Array Nat}(hp:p.Perm (List.toArray (List.range xs.length))):(pick d xs p).Perm xs:=by
 have h1:p.toList.Perm (List.range xs.length):=by simpa using cQ.mp hp
 have h2:=h1.map λi=>xs.getD i d;have e:(List.range xs.length).map (λi=>xs.getD i d)=xs:=by
  apply jq
  ·simp
  ·intro i h1 h2;simp at h1;simp[h1]
 rw[e] at h2;exact h2
theorem nU{α β:Type}{R:α->β->Prop}(d:α)(e:β){xs:List α}{ys:List β}(h:Paired R xs ys){p:Array Nat}(hp:∀i∈p.toList,i<xs.length):Paired R (pick d xs p) (pick e ys p):=by
 unfold pick
 revert hp
 induction p.toList with
 | nil=>intro _;exact .nil
 | cons i r ih=>
  intro hp;refine .cons ?_ (ih λj hj=>hp j (aD _ hj));have hi:=hp i am;have hx:xs[i]? = some xs[i]:=aS hi;obtain⟨y,hy,hr⟩:=paired_get h hx;have e1:xs.getD i d=xs[i]:=by simp[List.getD,hx]
  have e2:ys.getD i e=y:=by simp[List.getD,hy]
  show R (xs.getD i d) (ys.getD i e);rw[e1,e2];exact hr
theorem sr{r:Nat->Int}{n:Nat}{p:Array Nat}(hn:p.size=n)(ha:pO r p n){α:Type}(d:α)(xs:List α)(f:α->Int)(hf:∀i,r i=f (xs.getD i d)):(pick d xs p).Pairwise λa b=>f a<=f b:=by
 rw[dq];intro i j hi hj hij;have hi':i<p.size:=by simpa [pick] using hi
 have hj':j<p.size:=by simpa [pick] using hj
 have h1:=ha i j (cN hij) (by lia);unfold Kk at h1;rw[hf,hf] at h1;simp only[bC,cX hi',cX hj',jg] at h1;simpa [pick] using h1
def leB(p q:Bw):Prop:=p.1<q.1\/p.1=q.1/\p.2<=q.2
def Dy(K:LU):List V->Hp->VK->Prop:=λxs H Q=>∃(l:Addr) (as:List Addr) (ps:List Bw),xs=[.ref l]/\cy K H l (as.map V.ref)/\Paired (f6 H) as ps/\ps.length<64/\(∀p∈ps,0<=p.2/\p.2<1000) ∧
 ∀l' as' ps',H l'=none->Paired (f6 H) as' ps'->ps'.Perm ps->ps'.Pairwise leB->Q (.ref l') (upd H l' (.lst (as'.map V.ref)))
theorem jf {X:Cx}:jB X (.builtin "sorted") (Dy X.K):=by
 intro pins s σ H xs us Q I rr h;obtain⟨l,as,ps,rfl,hq,hP,h64,hb,q⟩:=h;obtain⟨u,rfl,rx⟩:=vals1 rr;cases rx;obtain⟨its,rv,pl,hz⟩:=I.list hq;have e:=jV rv;subst e;have hlen:as.length=ps.length:=bu hP;have two:Paired (CQ s.heap) as ps:=cY hP λa p z=>Df I z;have at_:∀i,i<as.length->∃a p,(as.map Value.ref).getD i Value.none=.ref a/\ps.getD i (0,0)=p/\CQ s.heap a p/\0<=p.2/\p.2<1000:=λi hi=>by
  have hx:as[i]? = some as[i]:=aS hi;obtain⟨p,hp,ht⟩:=paired_get two hx;exact⟨as[i],p,by simp[List.getD,hi],by simp[List.getD,hp],ht,hb p (ax hp)⟩
 refine sR (r:=λi=>iO (ps.getD i (0,0))) kB pl.isList (by rw[aC];lia) (λh2 h' Q' k q'=>?_) (λi j hi hj h' C k q'=>?_) λp hp ha=>?_
 ·obtain⟨fs,k1,k2,k3⟩:=sD (cY two λa p z=>z.kept k);refine kat_kind (T:=.type "int") k1 (by rw[aC] at h2;lia) (λv hv=>?_) rfl q';obtain⟨n,t,rfl⟩:=k3 v hv;exact(show Looks _ _ (pure (Value.type "int")) (Value.type "int") from .now)
 ·rw[aC] at hi hj;obtain⟨a,p,e1,e2,t1,b1⟩:=at_ i hi;obtain⟨c,p',e3,e4,t2,b2⟩:=at_ j hj;rw[e1,e3];refine Dg (t1.kept k) (t2.kept k) b1 b2 ?_;rw[<-e2,<-e4];exact q'
 ·rw[aC] at hp ha;obtain⟨c,hc⟩:=sortedAll_at s.heap (as.map Value.ref) (gw (as.map Value.ref) p);have hin:∀i∈p.toList,i<as.length:=λi hi=>by
   have h1:p.toList.Perm (List.range as.length):=by simpa using cQ.mp hp
   simpa using h1.mem_iff.mp hi
  have eo:gw (as.map Value.ref) p=List.toArray ((pick 0 as p).map Value.ref):=by
   unfold gw pick;rw[b9];congr 1;refine cB λi hi=>?_;have:=hin i hi;simp[List.getD,this]
  have hps:(pick 0 as p).length<=sizeLine:=by
   have:=(j8 0 as hp).length_eq;rw[this];exact cN (cS (by lia))
  rw[eo] at hc;have hp':p.Perm (List.toArray (List.range ps.length)):=by rw[<-hlen];exact hp
  refine⟨.ref (s.heap.objs.size+1),upd H (s.heap.objs.size+1) (.lst ((pick 0 as p).map V.ref)),I.laid (t':=s.toks) (λb o e=>sortedAll_old e) (fP _) ?_,rfl,?_⟩
  ·exact(show dI X.prog X.w _ _ _ (.lst _) from ⟨by rw[aC];exact hps,(pick 0 as p).map Value.ref,c,qF _,by rw[eo];exact hc⟩)
  ·have hasc:=sr (n:=as.length) (by have:=hp.size_eq;simpa using this) ha (0,0) ps iO λi=>rfl;have hmem:∀x∈pick (0,0) ps p,0<=x.2/\x.2<1000:=λx hx=>hb x ((j8 (0,0) ps hp').mem_iff.mp hx);refine q _ _ (pick (0,0) ps p) (I.hok.fresh (fP _)) (nU 0 (0,0) hP hin) (j8 (0,0) ps hp') ?_;refine List.Pairwise.imp_of_mem (fun {a b} ma mb hab=>?_) hasc;have h1:=hmem a ma;have h2:=hmem b mb;unfold iO at hab;unfold leB;lia
end Rm
namespace L2
open PySem PySem.W PySem.Spec PyProof.Rows Rm
section
variable {X:Cx}
def B6:V->List V->Hp->VK->Prop:=λx vs H Q=>∃(l:Addr) (xs:List V) (k:Nat) (y:V),x=.ref l/\vs=[.int k,y]/\H l=some (.lst xs)/\k<=xs.length/\xs.length<=999/\Q .non (upd H l (.lst (xs.take k++y::xs.drop k)))
theorem pc:∀{xs:List V} {us:List Value} (k:Nat),bj xs us->bj (xs.take k) (us.take k)
 | _,_,0,_=>by simpa using (Paired.nil:bj [] [])
 | _,_,k+1,.nil=>by simpa using (Paired.nil:bj [] [])
 | _,_,k+1,.cons r t=>.cons r (pc k t)
theorem ph:∀{xs:List V} {us:List Value} (k:Nat),bj xs us->bj (xs.drop k) (us.drop k)
 | _,_,0,h=>h
 | _,_,k+1,.nil=>by simpa using (Paired.nil:bj [] [])
 | _,_,k+1,.cons r t=>ph k t
theorem xV:FB X "list.insert" B6:=by
 intro pins s σ H x vs v us Q I rx rv h;obtain⟨l,xs,k,y,rfl,rfl,hH,hk,hx,q⟩:=h;cases rx;obtain⟨u,u',rfl,⟨t,rfl⟩,ru⟩:=bj.two rv;obtain⟨z,its,n,r,hl,e⟩:=I.lstM hH;have hz:its.toArray.size<=sizeLine:=by rw[aH];lia
 have hfit:Builtin.List.listFitsIndex (k:Int)=true:=by
  unfold Builtin.List.listFitsIndex;rw[cW];exact⟨LP (by lia),LP (by lia)⟩
 have hc0:¬(!Builtin.List.listFitsIndex (k:Int))=true:=by rw[hfit];decide
 generalize hx0:(k:Int)=x0 at hc0 ⊢;refine Kq jP ⟨_,e,rfl⟩ PySem.F.entry_list_insert (PySem.F.args_list_insert_3 _ _ _) (PySem.AutoSeq1.list_insert_list_int_val_1 l its.toArray n x0 t u' hc0 hz) ⟨e,?_⟩;refine⟨.non,_,I.lset (its':=its.take k++u'::its.drop k) hH e ?_ ((pc k r).append (.cons ru (ph k r))) ?_,rfl,q⟩
 ·subst hx0;have h0:¬(k:Int)<0:=by lia
  have hk2:min (k:Int).toNat its.toArray.size=k:=by rw[aH];lia
  show (its.toArray.extract 0 (if (k:Int)<0 then _ else min (k:Int).toNat its.toArray.size)).push u'++its.toArray.extract (if (k:Int)<0 then _ else min (k:Int).toNat its.toArray.size)=_;rw[LL h0,hk2];apply Array.ext';simp[bZ]
 ·rw[aR,bb,bS,cU];exact cN (cS (by lia))
end
end L2
namespace L2
open PySem PySem.Spec PyProof.Rows
section
variable {σ:St} {H:Hp} {a:Addr} {o:Obj}
theorem yu{td ty:TE}{Q:VK}:Cm td ty σ H Q=td σ H λx H1=>ty σ H1 λy H2=>∃a v,x=.ref a/\kc H2 a y (some v)/\Q v H2:=rfl
theorem yt{td ty tv:TE}{D:Ends}:Cp td ty tv D σ H=tv σ H λv H1=>td σ H1 λx H2=>ty σ H2 λy H3=>∃a H4,x=.ref a/\pN H3 a y v H4/\D.nx σ H4:=rfl
theorem BH{Q:VK}:zI σ H Q=∀p,H p=none->Q (.ref p) (upd H p (.dT [])):=rfl
theorem vU{Q:VK}:zJ σ H Q=∀p,H p=none->Q (.ref p) (upd H p (.dK [])):=rfl
theorem Ca{ty td:TE}{Q:VK}:Dl ty td σ H Q=ty σ H λy H1=>td σ H1 λx H2=>∃a o,x=.ref a/\kc H2 a y o/\Q (.bl o.isSome) H2:=rfl
theorem rz{ty td:TE}{Q:VK}:BQ ty td σ H Q=ty σ H λy H1=>td σ H1 λx H2=>∃a o,x=.ref a/\kc H2 a y o/\Q (.bl (!o.isSome)) H2:=rfl
end
section
theorem ni{A:Around}{k:Nat}(hr:jO k A):A.units+1<cLine:=by have:=hr.units;lia
end
def HH(te:TE):TE:=λσ H Q=>te σ H λx H1=>∃(a:Addr) (xs:List V),x=.ref a/\H1 a=some (.lst xs)/\xs.length<=1000/\∀l,H1 l=none->Q (.ref l) (upd H1 l (.lst xs.reverse))
theorem w_rev{te:TE}{σ:St}{H:Hp}{Q:VK}:HH te σ H Q=te σ H λx H1=>∃(a:Addr) (xs:List V),x=.ref a/\H1 a=some (.lst xs)/\xs.length<=1000/\∀l,H1 l=none->Q (.ref l) (upd H1 l (.lst xs.reverse)):=rfl
theorem BK{xs:List V}{us:List Value}(hl:xs.length=us.length)(h:∀(i:Nat) x u,xs[i]? = some x->us[i]? = some u->RelV x u):bj xs us:=by
 induction xs generalizing us with
 | nil=>cases us with | nil=>exact .nil | cons a b=>simp at hl
 | cons x xs ih=>
  cases us with
  | nil=>simp at hl
  | cons u us=>exact .cons (h 0 x u rfl rfl) (ih (by simpa using hl) λi y v h1 h2=>h (i+1) y v h1 h2)
structure QE (X:Cx) (e:Expr) (t:TE):Prop where
 h:PE X e t
structure QT (X:Cx) (e:Expr) (t:TT):Prop where
 h:PT X e t
structure QA (X:Cx) (es:List Expr) (t:TA):Prop where
 h:PA X es t
structure QS (X:Cx) (st:Stmt) (t:TS):Prop where
 h:PS X st t
structure lJ (X:Cx) (sts:List Stmt) (t:TS):Prop where
 h:Ej X sts t
structure QG (X:Cx) (e:Expr) (t:TG):Prop where
 h:PG X e t
structure G7 (X:Cx) (es:List Expr) (t:yO):Prop where
 h:IJ X es t
structure QF (X:Cx) (es:List Expr) (t:TT):Prop where
 h:PF X es t
structure QW (X:Cx) (e:Expr) (t:TT):Prop where
 h:PW X e t
structure QO (X:Cx) (e:Option Expr) (t:TO):Prop where
 h:PO X e t
structure CU (X:Cx) (pos:Pos) (keys:List (Option Expr)) (values:List Expr) (trs:List (TE×TE)):Prop where
 h:Ia X pos keys values trs
structure QI (X:Cx) (tg iter:Expr) (t:TI):Prop where
 h:PI X tg iter t
theorem QW.pt{X:Cx}{e:Expr}{t:TT}(h:QW X e t):QT X e t:=⟨h.h.pt⟩
section
variable {X:Cx}
theorem aU{i j pos}:QE X (.Constant (.int i) j pos) (tC (.int i)):=⟨λ_ _ _ H _ I h=>wpAny_Constant_int ⟨.int i,H,I.tok _,⟨_,rfl⟩,h⟩⟩
end
section
variable {X:Cx}
theorem ko{b j pos}:QE X (.Constant (.bool b) j pos) (tC (.bl b)):=⟨λ_ _ _ H _ I h=>Constant_bool ⟨.bl b,H,I,rfl,h⟩⟩
end
section
variable {X:Cx}
theorem gB{j pos}:QE X (.Constant .none j pos) (tC .non):=⟨λ_ _ _ H _ I h=>Constant_none ⟨.non,H,I,rfl,h⟩⟩
end
section
variable {X:Cx}
theorem bq{x j pos}:QE X (.Constant (.str x) j pos) (tC (.str x)):=⟨λ_ _ _ H _ I h=>Calls.Constant_str ⟨.str x,H,I.tok _,⟨_,rfl⟩,h⟩⟩
end
section
variable {X:Cx}
theorem zh {x:Str} {v:V} {u:Value} {pos:Pos} (hg:Gl X x) (hm:X.mg x=none) (hv:bootBuiltins x=some u) (r:RelV v u) (hn:x≠"__name__":=by decide) (hd:(x==("__debug__":Str))=false:=by decide):QE X (.Name x pos) (tC v):=⟨λ_ _ _ H _ I h=>jM I hg hm hv ⟨v,H,I,r,h⟩ hn hd⟩
end
section
variable {X:Cx} {pos:Pos}
theorem oA{e:Expr}{t:TE}(h:QE X e t)(he:∀whole,isTrue e X.env whole=(do let v <-whole;standAt e.pos;holding [v] (truthy v)):=by intro _;rfl):QT X e (tB t):=⟨by
 have h:=h.h;intro pins s σ H Q I hw;refine isTrue_plain (dk (h pins s σ H _ I hw) λv s1 ⟨x,H1,I1,r1,q1⟩=>?_) (he _);obtain⟨d,rfl,q⟩:=q1;cases r1;exact Kc ⟨H1,I1,q⟩⟩
end
section
variable {X:Cx} {a:Expr} {pos:Pos} {tA:TT}
theorem sY(ha:QT X a tA):QW X (.BoolOp .And [a] pos) tA:=⟨by
 have ha:=ha.h;intro wh pins s σ H Q I h;refine isTrue_and (dk (ha pins s σ H Q I h) λc s1 e=>?_);cases c with
 | true=>exact isTrue_and_nil e
 | false=>exact e⟩
end
section
variable {X:Cx} {a:Expr} {pos:Pos} {tA:TT}
theorem qo(ha:QT X a tA):QW X (.BoolOp .Or [a] pos) tA:=⟨by
 have ha:=ha.h;intro wh pins s σ H Q I h;refine isTrue_or (dk (ha pins s σ H Q I h) λc s1 e=>?_);cases c with
 | false=>exact isTrue_or_nil e
 | true=>exact e⟩
end
section
variable {X:Cx} {a b:Expr} {pos:Pos} {tA tB':TT} {rest:List Expr}
theorem vy(ha:QT X a tA)(hb:QW X (.BoolOp .And (b::rest) pos) tB'):QW X (.BoolOp .And (a::b::rest) pos) (Fj tA tB'):=⟨by
 have ha:=ha.h;have hb:=hb.h;intro wh pins s σ H Q I h;refine isTrue_and (dk (ha pins s σ H _ I h) λc s1 ⟨H1,I1,q1⟩=>?_);cases c with
 | true=>exact hb wh pins s1 σ H1 Q I1 q1
 | false=>exact⟨H1,I1,q1⟩⟩
end
section
variable {X:Cx} {a b:Expr} {pos:Pos} {tA tB':TT} {rest:List Expr}
theorem uZ(ha:QT X a tA)(hb:QW X (.BoolOp .Or (b::rest) pos) tB'):QW X (.BoolOp .Or (a::b::rest) pos) (Hx tA tB'):=⟨by
 have ha:=ha.h;have hb:=hb.h;intro wh pins s σ H Q I h;refine isTrue_or (dk (ha pins s σ H _ I h) λc s1 ⟨H1,I1,q1⟩=>?_);cases c with
 | true=>exact⟨H1,I1,q1⟩
 | false=>exact hb wh pins s1 σ H1 Q I1 q1⟩
end
section
variable {X:Cx} {a:Expr} {pos:Pos} {tA:TT}
theorem qp(ha:QT X a tA):QT X (.UnaryOp .Not a pos) (Fa tA):=⟨by
 have ha:=ha.h;intro pins s σ H Q I h;exact isTrue_not (ha pins s σ H (λc H1=>Q (!c) H1) I h)⟩
end
section
variable {X:Cx} {a:Expr} {ta:TE} {pos:Pos}
theorem Bc(ha:QE X a ta):QE X (.UnaryOp .Not a pos) (Cg ta):=⟨by
 have ha:=ha.h;intro pins s σ H Q I h;refine UnaryOp_ (dk (ha pins s σ H _ I h) λv s1 ⟨x,H1,I1,r1,q1⟩=>?_);obtain⟨c,rfl,q1⟩:=q1;cases r1;exact not_of (Kc ⟨.bl (!c),H1,I1,rfl,q1⟩)⟩
end
section
variable {X:Cx} {a b:Expr} {ta tb:TE} {pos:Pos} {tA:TT}
theorem fG{c:Expr}(hc:QT X c tA)(ha:QE X a ta)(hb:QE X b tb):QE X (.IfExp c a b pos) (Hy tA ta tb):=⟨by
 have hc:=hc.h;have ha:=ha.h;have hb:=hb.h;intro pins s σ H Q I h;refine wpAny_IfExp (dk (hc pins s σ H _ I h) λd s1 ⟨H1,I1,q1⟩=>?_);cases d with
 | true=>exact ha pins s1 σ H1 Q I1 q1
 | false=>exact hb pins s1 σ H1 Q I1 q1⟩
end
section
variable {X:Cx}
theorem cv  : lJ X [] Ci:=⟨λ_ _ σ H _ I h=>Ky ⟨σ,H,I,h⟩⟩
end
section
variable {X:Cx} {st:Stmt} {rest:List Stmt} {t u:TS}
theorem aO(h1:QS X st t)(h2:lJ X rest u):lJ X (st::rest) (F6 t u):=⟨by
 have h1:=h1.h;have h2:=h2.h;intro pins s σ H D I h;refine wpAny_execs_cons (dk (h1 pins s σ H { D with nx:=u D } I h) λf s1 q=>?_);cases f with
 | next=>
  obtain⟨σ',H',I',q⟩:=q;exact h2 pins s1 σ' H' D I' q
 | ret v=>exact q
 | brk=>exact q
 | cont=>exact q⟩
end
section
variable {X:Cx} {st:Stmt} {t:TS}
theorem aT(h1:QS X st t):lJ X [st] t:=⟨by
 have h1:=h1.h;intro pins s σ H D I h;refine wpAny_execs_cons (dk (h1 pins s σ H D I h) λf s1 q=>?_);cases f with
 | next=>exact Ky q
 | ret v=>exact q
 | brk=>exact q
 | cont=>exact q⟩
end
section
variable {X:Cx} {e:Expr} {te:TE} {pos:Pos}
theorem gq(he:QE X e te)(hs:swapsWith e none pos.line X.env=pure false:=by rfl):QS X (.Expr e pos) (Cj te):=⟨by
 have he:=he.h;intro pins s σ H D I h;exact wpAny_Expr_any (dk (he pins s σ H _ I h) λv s1 ⟨x,H1,I1,r1,q1⟩=>⟨σ,H1,I1,q1⟩) I.quiet hs⟩
end
section
variable {X:Cx} {e:Expr} {te:TE} {pos:Pos}
theorem bc(he:QE X e te):QS X (.Return (some e) pos) (F8 te):=⟨by
 have he:=he.h;intro pins s σ H D I h;exact wpAny_Return_some (dk (he pins s σ H _ I h) λv s1 ⟨x,H1,I1,r1,q1⟩=>⟨x,σ,H1,I1,r1,q1⟩)⟩
end
section
variable {X:Cx} {t u:TS} {pos:Pos}
theorem dm{c:Expr}{a b:List Stmt}{tc:TT}(hc:QT X c tc)(ha:lJ X a t)(hb:lJ X b u):QS X (.If c a b pos) (Fd tc t u):=⟨by
 have hc:=hc.h;have ha:=ha.h;have hb:=hb.h;intro pins s σ H D I h;refine wpAny_If (dk (hc pins s σ H _ I h) λd s1 ⟨H1,I1,q1⟩=>?_);cases d with
 | true=>exact ha pins s1 σ H1 D I1 q1
 | false=>exact hb pins s1 σ H1 D I1 q1⟩
end
section
variable {X:Cx} {st:Stmt}
theorem lT  : QS X st Dk:=⟨λ_ _ _ _ _ _ h=>h.elim⟩
end
section
variable {X:Cx} {pos:Pos}
theorem bU{i:Nat}{x:Str}(hN:X.N.Nodup)(hi:X.N[i]? = some x)(hx:Loc X.env.scope x)(hf:X.fn x=true\/X.env.scope.names.lookup x=some .local:=by first | exact .inl rfl | exact .inr rfl | assumption):QG X (.Name x pos) (ou i):=⟨by
 intro pins s σ H v u Q I r h;exact wpAny_assign_Name (oJ I hN hi hx r (λs' I'=>⟨_,H,I',h⟩) hf)⟩
end
section
variable {X:Cx}
theorem gv  : G7 X [] GX:=⟨by
 intro pins s σ H vs us Q I r h;obtain⟨e,h⟩:=h;subst e;cases r;exact assignInOrder_nil ⟨σ,H,I,h⟩⟩
end
section
variable {X:Cx}
theorem dH{e:Expr}{es:List Expr}{t:TG}{u:yO}(h1:QG X e t)(h2:G7 X es u)(hs:(assignEach (e::es) X.env).map (·.2)=assign e X.env::(assignEach es X.env).map (·.2):=by rfl):G7 X (e::es) (DI t u):=⟨by
 have h1:=h1.h;have h2:=h2.h;intro pins s σ H vs us Q I r h;obtain⟨v,vr,e1,h⟩:=h;subst e1;cases r with
 | cons r rr=>
  rw[hs];refine assignInOrder_cons (dk (h1 pins s σ H _ _ _ I r h) λ_ s1 ⟨σ1,H1,I1,q1⟩=>?_);exact h2 pins s1 σ1 H1 _ _ Q I1 rr q1⟩
end
section
variable {X:Cx} {pos:Pos}
theorem jz{es:List Expr}{k:Nat}{t:yO}{n:Nat}(hc:X.calm=true)(h:G7 X es t)(hn:(assignEach es X.env).length=n:=by rfl)(hst:(assignEach es X.env).findIdx? (·.1)=none:=by rfl):QG X (.Tuple es k pos) (CD X.K n t):=⟨zm hc h.h hn hst⟩
end
section
variable {X:Cx} {pos:Pos}
theorem Bb{o i:Expr}{to ti:TE}{t:CS}(ho:QE X o to)(hi:QE X i ti)(hs:G9 X t)(ha:∀v,assign (.Subscript o i pos) X.env v=(do
   let ov <-holding [v] (eval o X.env)
   let iv <-holding [v,ov] (eval i X.env)
   standAt pos
   holding [v,ov,iv] (setItem ov iv v)
   release [v,ov,iv] []):=by intro _;rfl):QG X (.Subscript o i pos) (GW to ti t):=⟨by
 have ho:=ho.h;have hi:=hi.h;intro pins s σ H v u Q I r h;rw[ha];refine wpAny_bind (Kl (dk (ho pins s σ H _ I h) λov s1 ⟨x,H1,I1,r1,q1⟩=>?_));refine wpAny_bind (Kl (dk (hi pins s1 σ H1 _ I1 q1) λiv s2 ⟨y,H2,I2,r2,q2⟩=>?_));refine wpAny_bind (wpAny_standAt (wpAny_bind (Kl (dk (hs pins s2 σ H2 x y v ov iv u _ I2 r1 r2 r q2) λ_ s3 ⟨H3,I3,q3⟩=>?_))));exact wpAny_release ⟨σ,H3,I3,q3⟩⟩
end
section
variable {X:Cx} {pos:Pos}
theorem B9{tg e:Expr}{te:TE}{g:TG}(he:QE X e te)(hg:QG X tg g)(hs:swapsWithSole [tg] e pos.line X.env=pure false:=by rfl)(hw:swappedStores [tg] e X.env=pure none:=by rfl)(h1:(assignEach [tg] X.env).map (·.2)=[assign tg X.env]:=by rfl):QS X (.Assign [tg] e pos) (zL te g):=⟨by
 have he:=he.h;have hg:=hg.h;intro pins s σ H D I h;refine wpAny_Assign_stores (dk (he pins s σ H _ I h) λv s1 ⟨x,H1,I1,r1,q1⟩=>?_) hs hw;rw[h1];exact dk (hg pins s1 σ H1 x v _ I1 r1 q1) λ_ s2 q=>q⟩
end
section
variable {X:Cx} {pos:Pos}
theorem bF{i:Nat}{x:Str}{e:Expr}{te:TE}{pos':Pos}(hN:X.N.Nodup)(hi:X.N[i]? = some x)(hx:Loc X.env.scope x)(he:QE X e te)(hs:swapsWith e (some (.Name x pos')) pos.line X.env=pure false:=by rfl)(hf:X.fn x=true\/X.env.scope.names.lookup x=some .local:=by first | exact .inl rfl | exact .inr rfl | assumption):QS X (.Assign [.Name x pos'] e pos) (zL te (ou i)):=⟨by
 have he:=he.h;intro pins s σ H D I h;refine wpAny_Assign_Name (dk (he pins s σ H _ I h) λv s1 ⟨y,H1,I1,r1,q1⟩=>?_) hs;exact oJ I1 hN hi hx r1 (λs2 I2=>⟨_,H1,I2,q1⟩) hf⟩
end
section
variable {X:Cx} {pos:Pos}
theorem qr{i:Nat}{x:Str}{e:Expr}{te:TE}{op:Operator}{ti:G6}{pos':Pos}(hN:X.N.Nodup)(hi:X.N[i]? = some x)(hx:Loc X.env.scope x)(he:QE X e te)(ho:Hk X op ti)(hf:X.fn x=true\/X.env.scope.names.lookup x=some .local:=by first | exact .inl rfl | exact .inr rfl | assumption):QS X (.AugAssign (.Name x pos') op e pos) (Fh i te ti):=⟨by
 have he:=he.h;intro pins s σ H D I h;obtain⟨v,e1,h⟩:=h;obtain⟨m,hn,hl⟩:=I.loc;have vis:Ey X.env.scope x:=by rcases hx with k | k;exact .inl k;exact .inr (.inl k)
 obtain⟨u,r,l⟩:=hl i x v hi e1 vis;refine wpAny_AugAssign_Name ?_;have go:wpAny (model X.prog X.w) X.A (eval e X.env) (λw s₂=>wpAny (model X.prog X.w) X.A (inplaceOp op u w) (λr s₃=>wpAny (model X.prog X.w) X.A (storeName X.env x r) (λ_=>SP X pins D .next) X.xe s₃) X.xe s₂) X.xe s:=by
  refine dk (he pins s σ H _ I h) λw s1 ⟨y,H1,I1,r1,q1⟩=>?_;refine dk (ho pins s1 σ H1 v y u w _ I1 r r1 q1) λz s2 ⟨zv,H2,I2,r2,q2⟩=>?_;exact oJ I2 hN hi hx r2 (λs3 I3=>⟨_,H2,I3,q2⟩) hf
 rcases l with ⟨hk,hm⟩ | ⟨hk,c,hc,hcell⟩
 ·exact wpAny_loadName_local I.ok.kind hk hn hm go
 ·rcases hk with hk | hk
  ·exact wpAny_loadName_cell I.ok.kind hk hc hcell go
  ·rcases hx with k | k
   ·have:X.env.scope.names.lookup x=some .free:=hk;rw[k] at this;cases this
   ·have:X.env.scope.names.lookup x=some .free:=hk;rw[k] at this;cases this⟩
end
section
variable {X:Cx} {pos:Pos}
theorem nC{c:Expr}{body:List Stmt}{tc:TT}{tb:TS}(hp:PassesOwn (model X.prog X.w) X.A X.env X.xe)(hc:QT X c tc)(hb:lJ X body tb):QS X (.While c body [] pos) (Dj tc tb):=⟨by
 have hc:=hc.h;have hb:=hb.h;intro pins s σ H D I h;obtain⟨W,⟨m0,w0⟩,turn⟩:=h;refine wpAny_While (codeAny_whileLoop (λn s'=>∃σ' H',bW X pins σ' H' s'/\W n σ' H') ?_ m0 ⟨σ,H,I,w0⟩);rintro n s1 ⟨σ1,H1,I1,w1⟩;refine Kz hp (dk (hc pins s1 σ1 H1 _ I1 (turn n σ1 H1 w1)) λb s2 ⟨H2,I2,q2⟩=>?_);cases b with
 | true=>
  obtain⟨N,hN,q2⟩:=q2;rw[LM rfl];refine Kz hp (dk (hb pins s2 σ1 H2 _ I2 q2) λf s3 q3=>?_);cases f with
  | next=>
   obtain⟨σ3,H3,I3,n3⟩:=q3;obtain⟨m',hm,w3⟩:=hN σ3 H3 n3;exact⟨m',hm,σ3,H3,I3,w3⟩
  | cont=>
   obtain⟨σ3,H3,I3,n3⟩:=q3;obtain⟨m',hm,w3⟩:=hN σ3 H3 n3;exact⟨m',hm,σ3,H3,I3,w3⟩
  | brk=>exact q3
  | ret v=>exact q3
 | false=>
  rw[LL au];exact Ky ⟨σ1,H2,I2,q2⟩⟩
end
section
variable {X:Cx} {tg:Expr}
theorem du{l:Expr}{tl:TE}(hl:QE X l tl):QI X tg l (A5 X.K tl):=⟨by
 have hl:=hl.h;intro pins s σ H R I h;refine dk (hl pins s σ H _ I h) λv s1 ⟨x,H1,I1,r1,q1⟩=>?_;obtain⟨a,e,⟨xs,hq⟩,q⟩:=q1;subst e;cases r1;obtain⟨its,rv,p,hz⟩:=I1.list hq;refine wpAny_pyIter_list p.isList ?_;refine⟨s1.heap.objs.size,[s1.heap.objs.size],_,_,H1,rfl,I1.kept (t':=s1.toks) λb o e=>aA _ e,wk a _,⟨_,aP _ rfl,rfl,rfl⟩,λb hb=>?_,q⟩;have e:b=s1.heap.objs.size:=by simpa using hb
 subst e;exact I1.fpOk (aB _) (I1.hok.fresh (aB _))⟩
end
section
variable {X:Cx} {tg:Expr}
theorem jy {a:Expr} {ta:TA} {p pos:Pos} (hg:Gl X "range") (hm:X.mg "range"=none) (ha:QA X [a] ta) (hs:starEach [a] X.env=[(false,eval a X.env)]:=by rfl):QI X tg (.Call (.Name "range" p) [a] [] pos) (A4 ta):=⟨by
 have ha:=ha.h;intro pins s σ H R I h;refine Call_ (jM I hg hm boot_range (bY (dk (ha pos pins s σ H _ I h) λus s1 ⟨vs,H1,I1,r1,q1⟩=>?_) hs rfl));obtain⟨j,e,q1,q2,q⟩:=q1;subst e;cases r1 with
 | cons r rr=>
  cases rr;obtain⟨t,rfl⟩:=r;exact call_range_1 (sX I1 (by lia) (by lia) q1 q2 (by simpa using q))⟩
end
section
variable {X:Cx} {tg:Expr}
theorem oT {a b:Expr} {ta:TA} {p pos:Pos} (hg:Gl X "range") (hm:X.mg "range"=none) (ha:QA X [a,b] ta) (hs:starEach [a,b] X.env=[(false,eval a X.env),(false,eval b X.env)]:=by rfl) (hs2:starEach [b] X.env=[(false,eval b X.env)]:=by rfl):QI X tg (.Call (.Name "range" p) [a,b] [] pos) (A3 ta):=⟨by
 have ha:=ha.h;intro pins s σ H R I h;refine Call_ (jM I hg hm boot_range (bY (dk (ha pos pins s σ H _ I h) λus s1 ⟨vs,H1,I1,r1,q1⟩=>?_) (by rw[hs,hs2]) (by rw[hs2];rfl)));obtain⟨i,j,e,⟨q1,q2,q3,q4⟩,q⟩:=q1;subst e;cases r1 with
 | cons r rr=>
  cases rr with
  | cons r' rr=>
   cases rr;obtain⟨t,rfl⟩:=r;obtain⟨t',rfl⟩:=r';exact call_range_2 (sX I1 q1 q2 q3 q4 q)⟩
end
section
variable {X:Cx} {tg:Expr}
theorem dX{iter:Expr}{body:List Stmt}{wi:TI}{g:TG}{tb:TS}{pos:Pos}(hp:PassesOwn (model X.prog X.w) X.A X.env X.xe)(hc:X.calm=true)(hi:QI X tg iter wi)(hg:QG X tg g)(hb:lJ X body tb)(hs:∀x,foldedSetIterable iter X.env x=pure x:=by intro _;rfl):QS X (.For tg iter body [] pos) (n6 wi g tb):=⟨by
 have hi:=hi.h;have hg:=hg.h;have hb:=hb.h;intro pins s σ H D I h;refine wpAny_For (dk (hi pins s σ H _ I h) λv s1 h1=>dk h1 λitv s2 h2=>?_) hs;obtain⟨it,fp,tn,J,H2,e,I2,T,st2,f2,W,⟨m0,w0⟩,turn⟩:=h2;subst e;have stat:∀{H':Hp},(∀b∈fp,H' b=none)->∀b∈fp,mP X pins H' b:=λhn b hb=>⟨hn b hb,(f2 b hb).2⟩
 refine codeAny_forLoop_any (λn s'=>∃i σ' H',bW X pins σ' H' s'/\tn i s'.heap/\(∀b∈fp,H' b=none)/\W i n σ' H') ?_ m0 ⟨0,σ,H2,I2,st2,λb hb=>(f2 b hb).1,w0⟩;rintro n s3 ⟨i,σ3,H3,I3,st3,fr3,w3⟩;rcases turn i n σ3 H3 w3 with ⟨stop,qn⟩ | ⟨go,N,hN,step⟩
 ·refine Kz hp (dk (T.done X rfl rfl rfl hc i pins s3 σ3 H3 X.xe I3 (stat fr3) st3 stop) λr s4 ⟨hr,I4⟩=>?_);subst hr;exact Ky ⟨σ3,H3,I4,qn⟩
 ·refine Kz hp (dk (T.item X rfl rfl rfl hc i pins s3 σ3 H3 X.xe I3 (stat fr3) st3 go) λr s4 ⟨u,hr,h4⟩=>?_);subst hr;refine Kz hp (dk h4 λ_ s5 ⟨x,H5,I5,r5,y5,st5,fr5⟩=>?_);have I5':=I5.pinned (stat fr5) (T.obj _ _ st5);refine Kz hp (dk (hg _ s5 σ3 H5 x u _ I5' r5 (step x H5 y5)) λ_ s6 ⟨σ6,H6,I6,q6⟩=>?_);refine Kz hp (dk (hb _ s6 σ6 H6 _ I6 q6) λf s7 q7=>?_);have again:∀{σ7:St} {H7:Hp},bW X (pins++kE fp s5.heap) σ7 H7 s7->N σ7 H7->∃m,m<n/\∃i σ' H',bW X pins σ' H' s7/\tn i s7.heap/\(∀b∈fp,H' b=none)/\W i m σ' H':=fun {σ7 H7} I7 n7=>by
   obtain⟨m',hm,w7⟩:=hN σ7 H7 n7;refine⟨m',hm,i+1,σ7,H7,I7.unpinned,T.keep _ _ _ st5 λb hb o e=>(I7.pin (b,o) (aa _ (aa _ (ip hb e)))).1,λb hb=>?_,w7⟩;obtain⟨o,e,d⟩:=T.obj _ _ st5 b hb;exact(I7.pin (b,o) (aa _ (aa _ (ip hb e)))).2.1
  cases f with
  | next=>obtain⟨σ7,H7,I7,n7⟩:=q7;exact again I7 n7
  | cont=>obtain⟨σ7,H7,I7,n7⟩:=q7;exact again I7 n7
  | brk=>obtain⟨σ7,H7,I7,q7⟩:=q7;exact⟨σ7,H7,I7.unpinned,q7⟩
  | ret v=>obtain⟨x7,σ7,H7,I7,r7,q7⟩:=q7;exact⟨x7,σ7,H7,I7.unpinned,r7,q7⟩⟩
end
section
variable {X:Cx} {a b:Expr} {ta tb:TE} {pos:Pos}
theorem bA{op:Operator}{r:R2}(ho:mS X (binaryOp op) r)(ha:QE X a ta)(hb:QE X b tb):QE X (.BinOp a op b pos) (F9 r ta tb):=⟨by
 have ha:=ha.h;have hb:=hb.h;intro pins s σ H Q I h;exact wpAny_BinOp (Ef ha hb I h λv u s2 x y H2 I2 rx ry q=>ho pins s2 σ H2 x y v u Q I2 rx ry q)⟩
end
section
variable {X:Cx} {a:Expr} {ta:TE} {pos:Pos}
theorem oU{op:UnaryOp}{r:V->Hp->VK->Prop}(ho:Hg X (unaryOp op) r)(ha:QE X a ta):QE X (.UnaryOp op a pos) (Hv r ta):=⟨by
 have ha:=ha.h;intro pins s σ H Q I h;exact UnaryOp_ (dk (ha pins s σ H _ I h) λv s1 ⟨x,H1,I1,r1,q1⟩=>ho pins s1 σ H1 x v Q I1 r1 q1)⟩
end
section
variable {X:Cx} {a b:Expr} {ta tb:TE} {pos:Pos}
theorem j7{op:CmpOp}{r:R2}(ho:mS X (compareOp op) r)(ha:QE X a ta)(hb:QE X b tb)(hm:behindInMarks op b=false):QE X (.Compare a [op] [b] pos) (F9 r ta tb):=⟨by
 have ha:=ha.h;have hb:=hb.h;intro pins s σ H Q I h;exact wpAny_Compare1 (Ef ha hb I h λv u s2 x y H2 I2 rx ry q=>ho pins s2 σ H2 x y v u Q I2 rx ry q) hm⟩
end
section
variable {X:Cx} {a b:Expr} {ta tb:TE} {pos:Pos}
theorem bp{op:CmpOp}{r:R2}(ho:mS X (compareOp op) r)(ha:QE X a ta)(hb:QE X b tb)(hm:behindInMarks op b=false):QT X (.Compare a [op] [b] pos) (zG (F9 r ta tb)):=⟨by
 have ha:=ha.h;have hb:=hb.h;intro pins s σ H Q I h;refine wpAny_isTrue_Compare1 (dk (ha pins s σ H _ I h) λv s1 ⟨x,H1,I1,r1,q1⟩=>dk (hb pins s1 σ H1 _ I1 q1) λu s2 ⟨y,H2,I2,r2,q2⟩=>
  dk (ho pins s2 σ H2 x y v u _ I2 r1 r2 q2) λc s3 ⟨z,H3,I3,r3,k,e,q3⟩=>?_) hm
 subst e;cases r3;exact Kc ⟨H3,I3,q3⟩⟩
end
section
variable {X:Cx} {a:Expr} {ta:TE} {pos:Pos}
theorem j5(ha:QE X a ta)(he:∀whole,isTrue a X.env whole=(do let v <-whole;standAt a.pos;holding [v] (truthy v))):QT X a (λσ H Q=>ta σ H λx H'=>∃k,Eg X.K x H' k/\Q k H'):=⟨by
 have ha:=ha.h;intro pins s σ H Q I h;exact isTrue_plain (dk (ha pins s σ H _ I h) λv s1 ⟨x,H1,I1,r1,q1⟩=>Dh pins s1 σ H1 x v Q I1 r1 q1) (he _)⟩
end
section
variable {X:Cx}
theorem aJ  : QA X [] Fb:=⟨λ_ _ _ _ H Q I h=>Calls.spliced_nil ⟨[],H,I,.nil,h⟩⟩
end
section
variable {X:Cx} {e:Expr} {es:List Expr} {t:TA} {pos:Pos}
theorem fR{x1}(h:QA X es t):QE X (.Tuple es x1 pos) (F5 t):=⟨by
 have h:=h.h;intro pins s σ H Q I hq;refine wpAny_Tuple_spliced (dk (h pos pins s σ H _ I hq) λus s1 ⟨xs,H1,I1,r,z,q⟩=>⟨by rw[<-r.length];exact z,?_⟩);have hf:H1 s1.heap.objs.size=none:=I1.hok.fresh (aB _);refine⟨.ref s1.heap.objs.size,upd H1 s1.heap.objs.size (.tup xs),I1.laid (t':=s1.toks) (λb u e=>aA _ e) (aB _) ?_,rfl,q _ hf⟩;exact⟨z,us,r,⟨_,aP _ rfl,rfl,_,rfl⟩⟩⟩
end
section
variable {X:Cx} {e:Expr} {es:List Expr} {t:TA} {pos:Pos}
theorem eB(h:QA X es t):QE X (.List es pos) (Fc t):=⟨by
 have h:=h.h;intro pins s σ H Q I hq;refine wpAny_List_spliced (dk (h pos pins s σ H _ I hq) λus s1 ⟨xs,H1,I1,r,z,q⟩=>⟨by rw[<-r.length];exact z,?_⟩);have hf:H1 s1.heap.objs.size=none:=I1.hok.fresh (aB _);refine⟨.ref s1.heap.objs.size,upd H1 s1.heap.objs.size (.lst xs),I1.laid (t':=s1.toks) (λb u e=>aA _ e) (aB _) ?_,rfl,q _ hf⟩;exact⟨z,us,0,r,aP _ rfl⟩⟩
end
section
variable {X:Cx} {x:Str} {p pos:Pos} {e:Expr} {es:List Expr} {t:TA} {id:String} {r:List V->Hp->VK->Prop}
theorem cC (hc:jB X (.builtin id) r) (hg:Gl X x) (hm:X.mg x=none) (hv:bootBuiltins x=some (.builtin id)) (ha:QA X (e::es) t) (hn:x≠"__name__":=by decide) (hdb:(x==("__debug__":Str))=false:=by decide) (he:starEach (e::es) X.env=(false,eval e X.env)::starEach es X.env:=by rfl) (hpl:(backTo pos (starEach es X.env)).any (·.1)=false:=by rfl):QE X (.Call (.Name x p) (e::es) [] pos) (HJ r t):=⟨by
 have ha:=ha.h;intro pins s σ H Q I h;refine Ki (jM I hg hm hv ?_ hn hdb);exact PyProof.Rows.callWith_builtin1 (dk (ha pos pins s σ H _ I h) λus s1 ⟨vs,H1,I1,r1,q1⟩=>hc pins s1 σ H1 vs us Q I1 r1 q1) he hpl⟩
end
section
variable {X:Cx} {x:Str} {p pos:Pos} {e:Expr} {es:List Expr} {t:TA} {T:String} {r:List V->Hp->VK->Prop}
theorem g6 (hc:jB X (.type T) r) (hg:Gl X x) (hm:X.mg x=none) (hv:bootBuiltins x=some (.type T)) (ha:QA X (e::es) t) (hn:x≠"__name__":=by decide) (hdb:(x==("__debug__":Str))=false:=by decide) (he:starEach (e::es) X.env=(false,eval e X.env)::starEach es X.env:=by rfl) (hpl:(backTo pos (starEach es X.env)).any (·.1)=false:=by rfl):QE X (.Call (.Name x p) (e::es) [] pos) (HJ r t):=⟨by
 have ha:=ha.h;intro pins s σ H Q I h;refine Ki (jM I hg hm hv ?_ hn hdb);exact bY (dk (ha pos pins s σ H _ I h) λus s1 ⟨vs,H1,I1,r1,q1⟩=>hc pins s1 σ H1 vs us Q I1 r1 q1) he hpl⟩
end
section
variable {X:Cx}
theorem j6  : QO X none v9:=⟨by
 intro pins s σ H Q I h;rw[evalPart_none];exact Kd ⟨none,H,I,.none,h⟩⟩
end
section
variable {X:Cx} {e:Expr} {te:TE}
theorem gu(h:QE X e te):QO X (some e) (Cf te):=⟨by
 have h:=h.h;intro pins s σ H Q I hw;rw[evalPart_some];refine dk (h pins s σ H _ I hw) λu s1 ⟨x,H1,I1,r1,q1⟩=>?_;obtain⟨i,rfl,q⟩:=q1;obtain⟨t,rfl⟩:=r1;exact⟨some i,H1,I1,.int i t,q⟩⟩
end
section
variable {X:Cx} {e:Expr} {te:TE} {lo hi:Option Expr} {tl th:TO} {pos p2:Pos}
theorem g0{r:V->Option Int->Option Int->Hp->VK->Prop}(hr:Ez X r)(he:QE X e te)(hl:QO X lo tl)(hu:QO X hi th):QE X (.Subscript e (.Slice lo hi none p2) pos) (Hw r te tl th):=⟨by
 have he:=he.h;have hl:=hl.h;have hu:=hu.h;intro pins s σ H Q I h;refine Subscript_ (dk (he pins s σ H _ I h) λv s1 ⟨x,H1,I1,r1,q1⟩=>?_);refine wpAny_Slice (dk (hl pins s1 σ H1 _ I1 q1) λvl s2 ⟨l,H2,I2,pl,q2⟩=>dk (hu pins s2 σ H2 _ I2 q2) λvu s3 ⟨u,H3,I3,pu,q3⟩=>?_);rw[evalPart_none];refine Kd ?_;have I4:bW X pins σ H3 { s3 with heap:=s3.heap.push { cls:=.type "slice",data:=.fields #[vl,vu,.none] } }:=I3.kept (t':=s3.toks) λb ob q=>aA _ q;obtain⟨T,id,hT,ht,hg⟩:=hr pins { s3 with heap:=s3.heap.push { cls:=.type "slice",data:=.fields #[vl,vu,.none] } } σ H3 x v vl vu l u s3.heap.objs.size Q I4 r1 (Heap.IsSliceOf.new ..) pl pu q3;show wpAny (model X.prog X.w) X.A (subscriptTail e (.Slice lo hi none p2) v (.ref s3.heap.objs.size)) (EP X pins σ Q) X.xe { s3 with heap:=s3.heap.push { cls:=.type "slice",data:=.fields #[vl,vu,.none] } };exact tail_any (ops:=[.ref s3.heap.objs.size,v]) ht hT hg (by with_unfolding_all rfl)⟩
end
section
variable {X:Cx} {a b:Expr} {ta tb:TE} {pos:Pos}
theorem dB{r:R2}(hr:Gf X r)(ha:QE X a ta)(hb:QE X b tb)(hs:CW b):QE X (.Subscript a b pos) (F9 r ta tb):=⟨by
 have ha:=ha.h;have hb:=hb.h;intro pins s σ H Q I h;exact Subscript_ (Ef ha hb I h λv u s2 x y H2 I2 rx ry q=>hr a b pins s2 σ H2 x y v u Q I2 rx ry q (hs _ _))⟩
end
section
variable {X:Cx} {o:Expr} {to:TE} {name:Str} {apos cpos:Pos} {T id:String} {r:V->List V->Hp->VK->Prop}
theorem Be (pa:PlainAttrs T) (slot:Slot T name id) (hty:typeOf (.builtin id)=pure (.type "method_descriptor")) (hm:Hl X id r) (ho:QE X o to) (hbase:attributeBase o name X.env (eval o X.env)=eval o X.env:=by rfl) (hline:(apos.endLine==cpos.line)=true:=by rfl):QE X (.Call (.Attribute o name apos) [] [] cpos) (Fg X.K T r to):=⟨by
 have ho:=ho.h;intro pins s σ H Q I h;refine wpAny_Call_method0_late hbase hline (dk (ho pins s σ H _ I h) λv s1 ⟨x,H1,I1,r1,ty,q1⟩=>?_);obtain⟨h1,h2⟩:=zA I1 r1 ty;exact⟨T,id,pa,slot,hty,h1,h2,Calls.callWith_builtin rfl (PySem.evalArgs_none (hm pins s1 σ H1 x [] v [] Q I1 r1 .nil q1))⟩⟩
end
section
variable {X:Cx} {a:Expr} {o e:Expr} {es:List Expr} {to:TE} {t:TA} {name:Str} {apos cpos:Pos} {T id:String} {r:V->List V->Hp->VK->Prop}
theorem jJ (pa:PlainAttrs T) (slot:Slot T name id) (hty:typeOf (.builtin id)=pure (.type "method_descriptor")) (hm:Hl X id r) (ho:QE X o to) (ha:QA X (e::es) t) (hbase:attributeBase o name X.env (eval o X.env)=eval o X.env:=by rfl) (hfew:((backTo cpos (starEach (e::es) X.env)).all (λx=>!x.1)&&(backToKw cpos (keywordEach [] X.env)).all (λx=>x.1.isSome)
   && decide ((e::es).length+([]:List Keyword).length+(if ([]:List Keyword).isEmpty then 0 else 1)<30))=true:=by rfl) (hline:(apos.endLine==cpos.line)=true:=by rfl) (hs:starEach (e::es) X.env=(false,eval e X.env)::starEach es X.env:=by rfl) (hplain:(backTo cpos (starEach es X.env)).any (·.1)=false:=by rfl):QE X (.Call (.Attribute o name apos) (e::es) [] cpos) (Hz X.K T r to t):=⟨by
 have ho:=ho.h;have ha:=ha.h;intro pins s σ H Q I h;refine wpAny_Call_method_late hbase hfew hline rfl (dk (ho pins s σ H _ I h) λv s1 ⟨x,H1,I1,r1,ty,q1⟩=>?_);obtain⟨h1,h2⟩:=zA I1 r1 ty;refine⟨T,id,pa,slot,hty,h1,h2,?_⟩;have hA:=ha cpos pins s1 σ H1 _ I1 q1;rw[hs] at hA ⊢;refine Calls.callWith_builtin (by show (false || (backTo cpos (starEach es X.env)).any (·.1))=false;rw[hplain]<;>rfl) (Calls.evalArgs_plain ?_);exact dk hA λus s2 ⟨vs,H2,I2,r2,q2⟩=>hm pins s2 σ H2 x vs v us Q I2 r1 r2 q2
/- xs.append(e),list.index on a module's tuple .. are Hl facts of 06m -/⟩
end
section
variable {X:Cx}
theorem bI (i:Nat) {x:Str} {pos:Pos} (hN:X.N[i]? = some x:=by rfl) (hv:Ey X.env.scope x:=by first | exact Or.inl rfl | exact Or.inr (Or.inl rfl) | exact Or.inr (Or.inr rfl)) (hd:(x==("__debug__":Str))=false:=by decide) (hcd:(x==("__classdict__":Str))=false:=by decide):QE X (.Name x pos) (uL i):=⟨pv i hN hv hd hcd⟩
end
section
variable {X:Cx}
theorem oS{a b c d:Expr}{ta tb tc td:TE}{pos:Pos}{op op' op2:CmpOp}{r r' r2:R2}(ho:mS X (compareOp op) r)(ho':mS X (compareOp op') r')(ho2:mS X (compareOp op2) r2)(ha:QE X a ta)(hb:QE X b tb)(hc:QE X c tc)(hd:QE X d td)(hm:lastMarks [op,op',op2] [b,c,d]=false:=by with_unfolding_all rfl):QT X (.Compare a [op,op',op2] [b,c,d] pos) (zG (vd r r' r2 ta tb tc td)):=⟨by
 have ha:=ha.h;have hb:=hb.h;have hc:=hc.h;have hd:=hd.h;intro pins s σ H Q I h;refine isTrue_chain (dk (ha pins s σ H _ I h) λv s1 ⟨x,H1,I1,r1,q1⟩=>test_link (dk (hb pins s1 σ H1 _ I1 q1) λu s2 ⟨y,H2,I2,r2',q2⟩=>
  dk (ho pins s2 σ H2 x y v u _ I2 r1 r2' q2) λe s3 ⟨z,H3,I3,r3,k,ek,q3⟩=>?_)) hm
 subst ek;cases r3;refine Kc ?_;cases k with
 | false=>
  obtain⟨k',e',q'⟩:=q3;cases e';exact ite_ff ⟨H3,I3,q'⟩
 | true=>
  refine ite_tt (test_link (dk (hc pins s3 σ H3 _ I3 q3) λw' s4 ⟨z',H4,I4,r4,q4⟩=>dk (ho' pins s4 σ H4 y z' u w' _ I4 r2' r4 q4) λd' s5 ⟨z2,H5,I5,r5,k2,e2,q5⟩=>?_));subst e2;cases r5;refine Kc ?_;cases k2 with
  | false=>
   obtain⟨k',e',q'⟩:=q5;cases e';exact ite_ff ⟨H5,I5,q'⟩
  | true=>
   refine ite_tt (test_last (dk (hd pins s5 σ H5 _ I5 q5) λw2 s6 ⟨z6,H6,I6,r6,q6⟩=>dk (ho2 pins s6 σ H6 z' z6 w' w2 _ I6 r4 r6 q6) λd7 s7 ⟨z7,H7,I7,r7,k7,e7,q7⟩=>?_));subst e7;cases r7;exact Kc ⟨H7,I7,q7⟩⟩
end
section
theorem xI {X:Cx} {x:Str} {i:Int} {pos:Pos} (hg:Gl X x) (hm:∃t,X.mg x=some (.int i t)) (hd:(x==("__debug__":Str))=false:=by decide):QE X (.Name x pos) (tC (.int i)):=⟨let ⟨t,h⟩:=hm
 qu hg h ⟨t,rfl⟩ hd⟩
end
section
theorem bP {X:Cx} {k:Nat} {x:Str} {st:Stmt} {ps:List Str} {sp:Sp} {e:Expr} {es:List Expr} {t:TA} {p pos:Pos} (D:gV X.prog X.w X.K X.mg X.base k x st ps sp) (hr:jO k X.A) (hg:Gl X x) (ha:QA X (e::es) t) (hdb:(x==("__debug__":Str))=false:=by decide) (he:starEach (e::es) X.env=(false,eval e X.env)::starEach es X.env:=by rfl) (hpl:(backTo pos (starEach es X.env)).any (·.1)=false:=by rfl):QE X (.Call (.Name x p) (e::es) [] pos) (zK sp [] E0 t):=⟨by
 have ha:=ha.h;obtain⟨f,fd,F,m,b,G⟩:=D.ex;exact Bh G hr hg m F.kp b .nil GH ha hdb he hpl⟩
end
section
theorem Ba{X:Cx}{tg l:Expr}{tl:TE}(hl:QE X l tl):QI X tg l (E9 tl):=⟨by
 have hl:=hl.h;intro pins s σ H R I h;refine dk (hl pins s σ H _ I h) λv s1 ⟨x,H1,I1,r1,z,e,ha,q⟩=>?_;subst e;obtain⟨t,rfl⟩:=r1;refine wpAny_pyIter_ascii ha ?_;exact⟨s1.heap.objs.size,[s1.heap.objs.size],_,_,H1,rfl,I1.kept (t':=s1.toks) λb o e=>aA _ e,zE _ z t,⟨_,aP _ rfl,rfl,rfl⟩,
  λb hb=>by
   have e:b=s1.heap.objs.size:=by simpa using hb
   subst e;exact I1.fpOk (aB _) (I1.hok.fresh (aB _)),q⟩⟩
end
section
theorem sh {X:Cx} {a:Expr} {ta:TA} {elts:List Expr} {x1:Nat} {p pos tpos:Pos} (hg:Gl X "enumerate") (hm:X.mg "enumerate"=none) (ha:QA X [a] ta) (hs:starEach [a] X.env=[(false,eval a X.env)]:=by rfl):QI X (.Tuple elts x1 tpos) (.Call (.Name "enumerate" p) [a] [] pos) (DD ta):=⟨by
 have ha:=ha.h;intro pins s σ H R I h;refine Call_ (jM I hg hm boot_enumerate (bY (dk (ha pos pins s σ H _ I h) λus s1 ⟨vs,H1,I1,r1,z,e,hz,q⟩=>?_) hs rfl));subst e;obtain⟨u,rfl,t,rfl⟩:=vals1 r1;refine call_enumerate_str λh' he hit hsz kp=>?_;have ht:strIterType z="str_ascii_iterator":=by unfold strIterType;rw[LM hz]
 rw[ht] at hit;refine wpAny_pyIter_enum he ?_;have I2:bW X pins σ H1 { s1 with heap:=h' }:=I1.kept (t':=s1.toks) kp;exact⟨s1.heap.objs.size+1,[s1.heap.objs.size+1,s1.heap.objs.size],_,_,H1,rfl,I2,wn _ _ (Nat.succ_ne_self _) z t,⟨⟨_,he⟩,hit⟩,
  λb hb=>by
   have hle:s1.heap.objs.size<=b:=by
    rcases aF.mp hb with y | y
    ·rw[y];exact fP _
    ·have y':b=s1.heap.objs.size:=by simpa using y
     exact kM y'.symm
   exact I1.fpOk hle (I1.hok.fresh hle),q⟩⟩
end
section
theorem kA{X:Cx}:QF X [] vc:=⟨λ_ _ _ H _ I h=>Kd ⟨H,I,h⟩⟩
end
section
variable {X:Cx} {H:Hp} {s:Shared}
theorem kn{own ns:List Str}{caps:List Nat}{elt tg iter:Expr}{ifs:List Expr}{scope:Scope}{pos:Pos}{wi:TI}{g:TG}{tf:TT}{te:TE}(hc:X.calm=true)(S:mQ scope ns)(cp:lO X scope ns caps)(hi:QI X tg iter wi)(hg:∀C s H fp pn,QG (rQ X (own++ns) scope C s H fp pn) tg g)(ht:∀C s H fp pn,QF (rQ X (own++ns) scope C s H fp pn) ifs tf)(he:∀C s H fp pn,QE (rQ X (own++ns) scope C s H fp pn) elt te)(hs:∀x,foldedSetIterable iter X.env x=pure x:=by intro _;rfl):QE X (.ListComp elt [⟨tg,iter,ifs,0⟩] scope pos) (lm own.length caps wi g tf te):=⟨Bg hc S cp hi.h (λC s H fp pn=>(hg C s H fp pn).h) (λC s H fp pn=>(ht C s H fp pn).h) (λC s H fp pn=>(he C s H fp pn).h) hs⟩
end
section
variable {X:Cx} {H:Hp} {s:Shared}
theorem sZ{i:Nat}{x:Str}{own ns:List Str}{caps:List Nat}{elt tg iter:Expr}{ifs:List Expr}{scope:Scope}{pos pos' spos:Pos}{wi:TI}{g:TG}{tf:TT}{te:TE}(hN:X.N.Nodup)(hi:X.N[i]? = some x)(hx:Loc X.env.scope x)(hc:X.calm=true)(S:mQ scope ns)(cp:lO X scope ns caps)(hit:QI X tg iter wi)(hg:∀C s H fp pn,QG (rQ X (own++ns) scope C s H fp pn) tg g)(ht:∀C s H fp pn,QF (rQ X (own++ns) scope C s H fp pn) ifs tf)(he:∀C s H fp pn,QE (rQ X (own++ns) scope C s H fp pn) elt te)(hs:∀x,foldedSetIterable iter X.env x=pure x:=by intro _;rfl)(hsw:swapsWith (.ListComp elt [⟨tg,iter,ifs,0⟩] scope pos) (some (.Name x pos')) spos.line X.env=pure true:=by rfl)(hf:X.fn x=true\/X.env.scope.names.lookup x=some .local:=by first | exact .inl rfl | exact .inr rfl | assumption):QS X (.Assign [.Name x pos'] (.ListComp elt [⟨tg,iter,ifs,0⟩] scope pos) spos) (zL (lm own.length caps wi g tf te) (ou i)):=⟨Bf hN hi hx hc S cp hit.h (λC s H fp pn=>(hg C s H fp pn).h) (λC s H fp pn=>(ht C s H fp pn).h) (λC s H fp pn=>(he C s H fp pn).h) hs hsw hf⟩
end
section
variable {X:Cx} {K:LU}
theorem zg{es:List Expr}{k:Nat}{t:yO}{n:Nat}{pos:Pos}(hK:X.K=K)(hc:X.calm=true)(h:G7 X es t)(hn:(assignEach es X.env).length=n:=by rfl)(hst:(assignEach es X.env).findIdx? (·.1)=none:=by rfl):QG X (.Tuple es k pos) (CD K n t):=⟨have h:=h.h;hK▸zm hc h hn hst⟩
end
section
theorem qG {X:Cx} {x:Str} {K:LU} {xs:List V} {pos:Pos} (hg:Gl X x) (hm:∃a,X.mg x=some (.ref a)/\∀H,eR K H a xs) (hd:(x==("__debug__":Str))=false:=by decide):QE X (.Name x pos) (zH K xs):=⟨by
 obtain⟨a,h1,h2⟩:=hm;intro pins s σ H Q I h;exact qu (v:=.ref a) hg h1 rfl hd pins s σ H Q I (h a h2)⟩
end
section
theorem dh{X:Cx}{st:Stmt}{rest:List Stmt}{t u:TS}(h1:QS X st t)(h2:lJ X rest u):lJ X (st::rest) (Fe t u):=⟨by
 have h1:=h1.h;have h2:=h2.h;intro pins s σ H D I h;obtain⟨J,h,hJ⟩:=h;refine wpAny_execs_cons (dk (h1 pins s σ H { D with nx:=J } I h) λf s1 q=>?_);cases f with
 | next=>
  obtain⟨σ',H',I',q⟩:=q;exact h2 pins s1 σ' H' D I' (hJ _ _ q)
 | ret v=>exact q
 | brk=>exact q
 | cont=>exact q⟩
end
section
variable {X:Cx} {es:List Expr} {te:TE} {t:TA}
theorem de{a0:PySem.Expr}{a1:PySem.Operator}{a2:PySem.Expr}{a3:PySem.Pos}(ha:QE X (Expr.BinOp a0 a1 a2 a3) te)(hr:QA X es t):QA X ((Expr.BinOp a0 a1 a2 a3)::es) (kh te t):=⟨have ha:=ha.h;have hr:=hr.h;iU ha hr rfl⟩
end
section
variable {X:Cx} {es:List Expr} {te:TE} {t:TA}
theorem nS{a0:PySem.UnaryOp}{a1:PySem.Expr}{a2:PySem.Pos}(ha:QE X (Expr.UnaryOp a0 a1 a2) te)(hr:QA X es t):QA X ((Expr.UnaryOp a0 a1 a2)::es) (kh te t):=⟨have ha:=ha.h;have hr:=hr.h;iU ha hr rfl⟩
end
section
variable {X:Cx} {es:List Expr} {te:TE} {t:TA}
theorem kC{a0:PySem.Expr}{a1:List Comprehension}{a2:PySem.Scope}{a3:PySem.Pos}(ha:QE X (Expr.ListComp a0 a1 a2 a3) te)(hr:QA X es t):QA X ((Expr.ListComp a0 a1 a2 a3)::es) (kh te t):=⟨have ha:=ha.h;have hr:=hr.h;iU ha hr rfl⟩
end
section
variable {X:Cx} {es:List Expr} {te:TE} {t:TA}
theorem nT{a0:PySem.Expr}{a1:List CmpOp}{a2:List Expr}{a3:PySem.Pos}(ha:QE X (Expr.Compare a0 a1 a2 a3) te)(hr:QA X es t):QA X ((Expr.Compare a0 a1 a2 a3)::es) (kh te t):=⟨have ha:=ha.h;have hr:=hr.h;iU ha hr rfl⟩
end
section
variable {X:Cx} {es:List Expr} {te:TE} {t:TA}
theorem eJ{a0:PySem.Expr}{a1:List Expr}{a2:List Keyword}{a3:PySem.Pos}(ha:QE X (Expr.Call a0 a1 a2 a3) te)(hr:QA X es t):QA X ((Expr.Call a0 a1 a2 a3)::es) (kh te t):=⟨have ha:=ha.h;have hr:=hr.h;iU ha hr rfl⟩
end
section
variable {X:Cx} {es:List Expr} {te:TE} {t:TA}
theorem dD{a0:PySem.Const}{a1:Nat}{a2:PySem.Pos}(ha:QE X (Expr.Constant a0 a1 a2) te)(hr:QA X es t):QA X ((Expr.Constant a0 a1 a2)::es) (kh te t):=⟨have ha:=ha.h;have hr:=hr.h;iU ha hr rfl⟩
end
section
variable {X:Cx} {es:List Expr} {te:TE} {t:TA}
theorem cG{a0:PySem.Expr}{a1:PySem.Expr}{a2:PySem.Pos}(ha:QE X (Expr.Subscript a0 a1 a2) te)(hr:QA X es t):QA X ((Expr.Subscript a0 a1 a2)::es) (kh te t):=⟨have ha:=ha.h;have hr:=hr.h;iU ha hr rfl⟩
end
section
variable {X:Cx} {es:List Expr} {te:TE} {t:TA}
theorem aL{a0:PySem.Str}{a1:PySem.Pos}(ha:QE X (Expr.Name a0 a1) te)(hr:QA X es t):QA X ((Expr.Name a0 a1)::es) (kh te t):=⟨have ha:=ha.h;have hr:=hr.h;iU ha hr rfl⟩
end
section
variable {X:Cx} {es:List Expr} {te:TE} {t:TA}
theorem g9{a0:List Expr}{a1:Nat}{a2:PySem.Pos}(ha:QE X (Expr.Tuple a0 a1 a2) te)(hr:QA X es t):QA X ((Expr.Tuple a0 a1 a2)::es) (kh te t):=⟨have ha:=ha.h;have hr:=hr.h;iU ha hr rfl⟩
end
section
variable {X:Cx} {o i:Expr} {pos:Pos} {td ty:TE}
theorem ig(hu:X.A.units+1<cLine)(ho:QE X o td)(hi:QE X i ty)(hs:Ga i):QE X (.Subscript o i pos) (Cm td ty):=⟨by
 have ho:=ho.h;have hi:=hi.h;intro pins s σ H Q I h;refine BR PySem.F.slot_dict_getitem.lookup hs (dk (ho pins s σ H _ I h) λu s1 ⟨x,H1,I1,rx,q1⟩=>dk (hi pins s1 σ H1 _ I1 q1) λiv s2 ⟨y,H2,I2,ry,a,v,ex,g,q2⟩=>?_);subst ex;obtain rfl:u=Value.ref a:=rx;exact⟨t0 I2 g,xo hu I2 g ry λw' s3 I3 rw'=>⟨v,H2,I3,rw',q2⟩⟩⟩
end
section
variable {X:Cx} {o i value:Expr} {pos pos':Pos} {td ty tv:TE}
theorem m7(hu:X.A.units+1<cLine)(ho:QE X o td)(hi:QE X i ty)(hv:QE X value tv)(hs:swapsWith value (some (.Subscript o i pos')) pos.line X.env=pure false):QS X (.Assign [.Subscript o i pos'] value pos) (Cp td ty tv):=⟨by
 have ho:=ho.h;have hi:=hi.h;have hv:=hv.h;intro pins s σ H D I h;refine wpAny_Assign_Subscript (dk (hv pins s σ H _ I h) λr s1 ⟨v,H1,I1,rv,q1⟩=>dk (ho pins s1 σ H1 _ I1 q1) λu s2 ⟨x,H2,I2,rx,q2⟩=>dk (hi pins s2 σ H2 _ I2 q2) λiv s3 ⟨y,H3,I3,ry,a,H4,ex,g,q3⟩=>?_) hs;subst ex;obtain rfl:u=Value.ref a:=rx;exact xn hu I3 g ry rv λs4 I4=>⟨σ,H4,I4,q3⟩⟩
end
section
variable {X:Cx} {pos:Pos}
theorem xK  : QE X (.Dict [] [] pos) zJ:=⟨λpins s σ H Q I h=>
 wpAny_Dict_empty ⟨.ref s.heap.objs.size,_,I.laid (a:=s.heap.objs.size) (o:=.dK []) (t':=s.toks) (λ_ _ q=>aA _ q) (aB _) (tZ s.heap I.big),rfl,h _ (I.hok.fresh (aB _))⟩⟩
end
section
variable {X:Cx} {pos:Pos}
theorem xJ  : QE X (.Dict [] [] pos) zI:=⟨λpins s σ H Q I h=>
 wpAny_Dict_empty ⟨.ref s.heap.objs.size,_,I.laid (a:=s.heap.objs.size) (o:=.dT []) (t':=s.toks) (λ_ _ q=>aA _ q) (aB _) (Ag s.heap I.big),rfl,h _ (I.hok.fresh (aB _))⟩⟩
end
section
theorem se{X:Cx}{pos:Pos}:CU X pos [] [] []:=⟨λpins s σ H Q I h=>pairTrees_nil_walk ⟨[],H,I,.nil,h⟩⟩
end
section
theorem lW{X:Cx}{pos:Pos}{k v:Expr}{ks:List (Option Expr)}{vs:List Expr}{tk tv:TE}{trs:List (TE×TE)}(hk:QE X k tk)(hv:QE X v tv)(hr:CU X pos ks vs trs):CU X pos (some k::ks) (v::vs) ((tk,tv)::trs):=⟨have hk:=hk.h;have hv:=hv.h;have hr:=hr.h;λpins s σ H Q I h=>
 pairTrees_cons_walk (dk (hk pins s σ H _ I h) λu s1 ⟨x,H1,I1,rx,q1⟩=>dk (hv pins s1 σ H1 _ I1 q1) λw2 s2 ⟨y,H2,I2,ry,q2⟩=>
  dk (hr pins s2 σ H2 _ I2 q2) λws s3 ⟨ps,H3,I3,rel,q3⟩=>⟨(x,y)::ps,H3,I3,.cons ⟨rx,ry⟩ rel,q3⟩)⟩
end
section
theorem sn{X:Cx}{pos:Pos}{keys:List (Option Expr)}{values:List Expr}{trs:List (TE×TE)}(h:CU X pos keys values trs)(hall:keys.all (·.isSome)=true)(hl:keys.length=values.length)(h0:keys≠[])(h15:keys.length<=15):QE X (.Dict keys values pos) (Ck trs):=⟨by
 have h:=h.h;intro pins s σ H Q I q;have hn:=I.hok.fresh (aB s.heap.objs.size);have I1:=I.laid (a:=s.heap.objs.size) (o:=.dK []) (h':=s.heap.push { cls:=.type "dict",data:=.dict #[] }) (t':=s.toks) (λ_ _ q=>aA _ q) (aB _) (tZ s.heap I.big);refine wpAny_Dict_walk (knd:=eC X.prog X.w) hall hl h0 h15 (dk (h pins _ σ _ _ I1 (q _ hn)) λws s2 ⟨ps,H2,I2,rel,e,kvs,ep,lk,q2⟩=>?_);subst ep;obtain⟨rs,c,rk⟩:=pI (P:=X.prog) (w:=X.w) rel;obtain⟨z,hd,vs0,r0,dd⟩:=DN I2.hok e;cases r0;refine⟨rs,c,dd,λh' dd' hs=>⟨.ref s.heap.objs.size,_,?_,rfl,q2⟩⟩;have hz:(mJ [] kvs).length<=sizeLine:=by
  have h1:=ly kvs [];rw[List.length_nil] at h1;rw[Kh];lia
 have he:∃q,h'.get? s.heap.objs.size=some q:=let ⟨q,_,_,hq,_⟩:=dd';⟨q,hq⟩;exact rP I2 (by rw[e];exact True.intro) hs he (Ah hz hd (rk.merge .nil) dd')⟩
end
open AutoSeq1 (wpAny_loadPart')
section
variable {prog:Program} {w:World} {A:Around} {E:Value->Shared->Prop} {s:Shared}
theorem uo{it t:Addr}{i:Nat}{items}{x:Value}{Q:Value->Shared->Prop}(hit:s.heap.IsTupleIter it t i)(ht:s.heap.IsTuple t items)(hx:items[i]? = some x)
  (hQ:∀h',h'.IsTupleIter it t (i+1)->Heap.SameBut it s.heap h'->Q x { s with heap:=h' }):wpAny (model prog w) A (Builtin.SmallTypes.nextOf (.ref it)) Q E s:=by
 obtain⟨o,ho,hc,hd⟩:=id hit;obtain⟨ol,hol,_,nl,hdl⟩:=ht;unfold Builtin.SmallTypes.nextOf;refine wpAny_bind (wpAny_callSpecial?_slot (name:=Str.ofString "__next__") hit.typeIs dj (Km dj hit.typeIs iW ?_ (iM _)));show wpAny _ _ (field (.ref it) 0>>=_) _ _ s;refine wpAny_bind (Kj ho hd (x:=.ref t) rfl ?_);show wpAny _ _ (if (Value.ref t==Value.none)=true then _ else _) _ _ s;rw[LL (show ¬((Value.ref t==Value.none)=true) from au)];show wpAny _ _ (field (.ref it) 1>>=_) _ _ s;refine wpAny_bind (Kj ho hd (x:=.int i 0) rfl ?_);show wpAny _ _ (seqItems? (.ref t)>>=_) _ _ s;refine wpAny_bind (LA hol hdl ?_);simp only[fL,hx];refine wpAny_bind (wpAny_setField ho hd (by simp) (Kd ⟨x,rfl,Kd (hQ _ ?_ (Heap.SameBut.update ..))⟩));exact⟨_,Heap.get?_update_self _ ho (Obj.isFreed_of_fields (Obj.data_mapFields hd _)),(Obj.cls_mapFields ..).trans hc,by rw[Obj.data_mapFields hd];simp[rawInt]⟩
theorem xS{it t:Addr}{i:Nat}{items}{Q:Value->Shared->Prop}(hh:A.handled=none)(hit:s.heap.IsTupleIter it t i)(ht:s.heap.IsTuple t items)(hx:items[i]? = none)
  (hE:∀h' e,Heap.ExtBut it s.heap h'->(∃o,h'.get? e=some o/\o.cls=.type "StopIteration")->E (.ref e) { s with heap:=h' }):wpAny (model prog w) A (Builtin.SmallTypes.nextOf (.ref it)) Q E s:=by
 obtain⟨o,ho,hc,hd⟩:=id hit;obtain⟨ol,hol,_,nl,hdl⟩:=ht;unfold Builtin.SmallTypes.nextOf;refine wpAny_bind (wpAny_callSpecial?_slot (name:=Str.ofString "__next__") hit.typeIs dj (Km dj hit.typeIs iW ?_ (iM _)));show wpAny _ _ (field (.ref it) 0>>=_) _ _ s;refine wpAny_bind (Kj ho hd (x:=.ref t) rfl ?_);show wpAny _ _ (if (Value.ref t==Value.none)=true then _ else _) _ _ s;rw[LL (show ¬((Value.ref t==Value.none)=true) from au)];show wpAny _ _ (field (.ref it) 1>>=_) _ _ s;refine wpAny_bind (Kj ho hd (x:=.int i 0) rfl ?_);show wpAny _ _ (seqItems? (.ref t)>>=_) _ _ s;refine wpAny_bind (LA hol hdl ?_);simp only[fL,hx];refine wpAny_bind (LB (wpAny_bind (wpAny_setField ho hd (by simp) ?_)));show wpAny _ _ (newExc (.type "StopIteration") []>>=_) _ _ _;refine wpAny_bind ?_;simp only[newExc,newTuple];refine wpAny_bind (Kn ?_ (by size_fits));refine wpAny_bind (m:=firstArgMember _ _) (wpAny_of_eq (a:=Value.none) (by first | rfl | (simp only[firstArgMember];rfl)) ?_);refine Kn ?_ (by size_fits);simp only[raiseNew];refine wpAny_bind (wpAny_handled ?_);first | rw[show A.in1.handled=none from hh] | rw[hh]
 refine wpAny_bind (Kd (wpAny_throw ?_));exact hE _ _ (((Heap.SameBut.update ..).extBut.push _).push _) ⟨_,aP _ rfl,rfl⟩
theorem Draws.tup(hh:A.handled=none)(it t:Addr)(hne:t≠it)(items:Array Value):Draws prog w A it [it,t] items.size (λi v=>items[i]? = some v) (λi h=>h.IsTupleIter it t i/\h.IsTuple t items) where
 live:=λ_ _ st=>let ⟨o,ho,_⟩:=st.1;⟨o,ho⟩
 frame:=λ_ _ _ st hk=>by
  obtain⟨st1,o,ho,r⟩:=st;exact⟨st1.at λo e=>hk it (by simp) o e,o,hk t (by simp) o ho,r⟩
 item:=λi s Q E hi st hQ=>uo st.1 st.2 (x:=items[i]) (by simp[hi]) λh' hit' hs'=>hQ _ h' s.toks (by simp[hi]) ⟨hit',st.2.extBut hs'.extBut hne⟩ hs'
 done:=λs Q E st hE=>xS hh st.1 st.2 (by simp) hE
end
section
variable {X:Cx} {pins:List (Addr×Obj)} {σ:St} {H:Hp} {s:Shared} {h':Heap}
theorem bW.turnAll{fp:List Addr}{t':Nat}(I:bW X pins σ H s)(hf:∀b∈fp,mP X pins H b)(k:∀b u,b∉fp->s.heap.get? b=some u->h'.get? b=some u):bW X pins σ H { s with heap:=h',toks:=t' }:=by
 have nfp:∀b u,H b=some u->b∉fp:=λb u e z=>by rw[(hf b z).1] at e;cases e
 refine I.step (g':=s.gens) (d':=s.drawn) (ch:=fp) (λb hb=>?_) (λb o _ _ hc e _=>k b o hc e) (λb o _ _ hc e _=>⟨o.slots,k b o hc e⟩) (λ_ _ _ _ n=>n)
  (λb o hc e=>⟨o,k b o hc e⟩) (λ_ _ e=>e) (λ_ _ _ e=>e) (λb ps e=>⟨#[],by rw[e];simp⟩) (λm hm=>?_) (λb u e=>?_) I.bare
 ·obtain⟨_,f1,_,f3,f4,f5⟩:=hf b hb;exact⟨f3,f1,f4,f5⟩
 ·obtain⟨ob,es,ep,ho,r⟩:=hm;exact⟨ob,es,ep,k _ ob (λz=>(hf _ z).2.1 rfl) ho,r⟩
 ·refine(I.hok b u e).stay (λc v hc q=>k c v ?_ q) (λ_ q=>q) λ_ _ q=>q;rcases hc with z | z
  ·rw[z];exact nfp b u e
  ·exact nfp c _ z
end
def Gh(K:LU)(a:Addr):It:=
 ⟨λi H=>∃xs x,eR K H a xs/\xs[i]? = some x,λi H v H'=>∃p x,H p=none/\(∀xs,eR K H a xs->xs[i]? = some x)/\v=.ref p/\H'=upd H p (.tup [.int i,x]),λi H=>∃xs,eR K H a xs/\xs.length=i⟩
def Ea(K:LU)(ta:TA):TI:=λσ H R=>ta σ H λvs H1=>∃a,vs=[.ref a]/\(∃xs,eR K H1 a xs)/\R (Gh K a) H1
def IL(K:LU)(a b:Addr):It:=
  ⟨λi H=>∃xs ys x y,cy K H a xs/\cy K H b ys/\xs[i]? = some x/\ys[i]? = some y,
   λi H v H'=>∃p x y,H p=none/\(∀xs,cy K H a xs->xs[i]? = some x)/\(∀ys,cy K H b ys->ys[i]? = some y)/\v=.ref p/\H'=upd H p (.tup [x,y]),
   λi H=>∃xs ys,cy K H a xs/\cy K H b ys/\(xs.length<=i\/ys.length<=i)⟩
def Hb(K:LU)(ta:TA):TI:=λσ H R=>ta σ H λvs H1=>∃a b,vs=[.ref a,.ref b]/\(∃xs,cy K H1 a xs)/\(∃ys,cy K H1 b ys)/\R (IL K a b) H1
end L2
namespace L2
open PySem PySem.Spec PyProof.Rows HT
section
variable {prog:Program} {w:World} {A:Around} {E:Value->Shared->Prop} {s:Shared}
theorem A9{t sl:Addr}{items:Array Value}{vl vu:Value}{lo hi:Option Int}{Q:Value->Shared->Prop}(ht:IsTup s.heap t items)(hs:s.heap.IsSliceOf sl vl vu .none)(pl:IsPart vl lo)(pu:IsPart vu hi)
  (hw:sIx items.size 0 lo=0/\sIx items.size items.size hi=items.size) (h:Q (.ref t) s):wpAny (model prog w) A (getItem (.ref t) (.ref sl)) Q E s:=by
 obtain⟨os,hos,hcs,hds⟩:=id hs;have hTs:s.TypeIs (.ref sl) "slice":=⟨os,hos,hcs⟩
 unfold getItem
 try with_reducible refine Kl ?_
 first | refine wpAny_bind (Kd ?_) | skip
 refine wpAny_bind (wpAny_sequenceKey ht.typeIs (by decide) ?_);refine wpAny_bind (wpAny_callSpecial?_slot (name:=Str.ofString "__getitem__") ht.typeIs bx (Km bx ht.typeIs entry_tuple_getitem ?_ (args_tuple_getitem _ _)));show wpAny _ _ (Builtin.Tuple.tupleItemsOf (.ref t)>>=_) _ _ s;refine wpAny_bind (tupleItemsOf_ ht ?_);refine wpAny_bind (wpAny_typeOf hTs ?_);rw[LM (by decide)];refine wpAny_bind (jW hs pl pu ?_);have hyes:(((sIx items.size 0 lo:Nat):Int)==0&&(1:Int)==1&&(sIx items.size items.size hi-sIx items.size 0 lo)==items.size)=true:=by
  rw[hw.1,hw.2];simp
 show wpAny _ _ (if (((sIx items.size 0 lo:Nat):Int)==0&&(1:Int)==1&&(sIx items.size items.size hi-sIx items.size 0 lo)==items.size)=true then _ else _) _ _ s;rw[LM hyes];refine wpAny_bind ?_;unfold Builtin.Tuple.tupleIsExact;refine wpAny_bind (wpAny_typeOf ht.typeIs ?_);refine Kd ?_;rw[LM (by decide)];exact wpAny_bind (LB (Kd ⟨_,rfl,Kd h⟩))
end
section
variable {X:Cx}
def vv(K:LU):V->Option Int->Option Int->Hp->VK->Prop:=λx lo hi H Q=>∃a xs,x=.ref a/\eR K H a xs ∧
 ((HT.sIx xs.length 0 lo=0/\HT.sIx xs.length xs.length hi=xs.length)->Q (.ref a) H)/\(¬(HT.sIx xs.length 0 lo=0/\HT.sIx xs.length xs.length hi=xs.length)->∀p,H p=none->Q (.ref p) (upd H p (.tup (mj xs lo hi))))
theorem BV:Ez X (vv X.K):=by
 intro pins s σ H x v vl vu lo hi sl Q I rx hs pl pu h;obtain⟨a,xs,rfl,hx,q1,q2⟩:=h;by_cases hw:HT.sIx xs.length 0 lo=0/\HT.sIx xs.length xs.length hi=xs.length
 ·cases rx;obtain⟨its,r,ht,hz⟩:=I.tuple hx;have hlen:its.toArray.size=xs.length:=by rw[aH];exact r.length.symm
  exact⟨"tuple",_,bx.lookup,ht.typeIs,A9 ht hs pl pu (by rw[hlen];exact hw) ⟨.ref a,H,I,rfl,q1 hw⟩⟩
 ·exact Do pins s σ H (.ref a) v vl vu lo hi sl Q I rx hs pl pu ⟨a,xs,rfl,hx,hw,q2 hw⟩
theorem sS{K:LU}(h:X.K=K):Ez X (vv K):=h▸BV
end
def uY(K:LU):R2:=λx y H Q=>∃a b xs ys,x=.ref a/\y=.ref b/\eR K H a xs/\eR K H b ys/\xs.length+ys.length<=sizeLine ∧
 (xs=[]->Q (.ref b) H)/\(xs≠[]->(ys=[]->Q (.ref a) H)/\(ys≠[]->∀p,H p=none->Q (.ref p) (upd H p (.tup (xs++ys)))))
theorem zz{X:Cx}:mS X (binaryOp .Add) (uY X.K):=by
 intro pins s σ H x y v u Q I rx ry h;obtain⟨a,b,xs,ys,rfl,rfl,ha,hb,hz,q1,q2⟩:=h;by_cases hx:xs=[]
 ·cases rx;cases ry;obtain⟨its,r1,p1,_⟩:=I.tuple ha;obtain⟨its2,r2,p2,_⟩:=I.tuple hb;obtain⟨⟨cls,dd,data,sl⟩,ho,hc,n,hd⟩:=id p1;obtain⟨⟨cls2,dd2,data2,sl2⟩,ho2,hc2,n2,hd2⟩:=id p2;simp only at hc hd hc2 hd2;subst hc hd hc2 hd2;exact concat_meets ⟨_,ho,rfl⟩ ⟨_,ho2,rfl⟩ noFill_tuple_add seq_tuple_add gE fu (fb _ _)
   (tuple_addW0 a b its.toArray its2.toArray n n2 dd dd2 sl sl2 (by simp[r1.nil_iff.mpr hx])) ⟨ho,ho2,.ref b,H,I,rfl,q1 hx⟩
 ·exact Bj pins s σ H (.ref a) (.ref b) v u Q I rx ry ⟨a,b,xs,ys,rfl,rfl,ha,hb,hx,hz,(q2 hx).1,(q2 hx).2⟩
theorem w6{K:LU}{H:Hp}{Q:VK}{a b:Addr}{xs ys:List V}(ha:H a=some (.tup xs))(hb:H b=some (.tup ys))(hz:xs.length+ys.length<=1000)(q:∀p H',ao H H'->H' p=some (.tup (xs++ys))->Q (.ref p) H'):uY K (.ref a) (.ref b) H Q:=by
 refine⟨a,b,xs,ys,rfl,rfl,eR.of ha,eR.of hb,cN (cS hz),λe=>?_,λ_=>⟨λe=>?_,λ_ p hp=>?_⟩⟩
 ·exact q b H (ao.refl _) (by rw[hb,e];rfl)
 ·exact q a H (ao.refl _) (by rw[ha,e,be])
 ·exact q p _ ((ao.refl H).new hp) aG
theorem Dp{K:LU}{H:Hp}{Q:VK}{a:Addr}{xs:List V}{hi:Nat}(h:H a=some (.tup xs))(h2:hi<=xs.length)(q:∀p H',ao H H'->H' p=some (.tup (xs.take hi))->Q (.ref p) H'):vv K (.ref a) none (some (hi:Int)) H Q:=by
 refine⟨a,xs,rfl,eR.of h,?_,?_⟩
 ·rw[HT.sIx_nat];rintro⟨_,e2⟩;refine q a H (ao.refl _) ?_;have e4:hi=xs.length:=by lia
  subst e4;rw[cF];exact h
 ·intro _ p hp;refine q p _ ((ao.refl H).new hp) ?_;rw[aG];unfold mj;rw[HT.sIx_nat,HT.sIx_none,fe h2];rfl
section
variable {σ:St} {H:Hp} {D:Ends} {K:LU}
theorem vT{ta:TA}{g:TG}{tb:TS}:n6 (Ea K ta) g tb D σ H=ta σ H λvs H1=>∃a,vs=[.ref a]/\(∃xs,eR K H1 a xs)/\lM (Gh K a) g tb D σ H1:=rfl
theorem vV{k:Nat}{caps:List Nat}{ta:TA}{g:TG}{tf:TT}{te:TE}{Q:VK}:lm k caps (Hb K ta) g tf te σ H Q=ta σ H λvs H1=>∃a b,vs=[.ref a,.ref b]/\(∃xs,cy K H1 a xs)/\(∃ys,cy K H1 b ys)/\ju (IL K a b) g tf te Q (gz k caps σ) H1:=rfl
end
end L2
namespace L2
open PySem PySem.Spec PyProof.Rows
structure nQ (z TI TO i1 i2:Addr) (f1 f2:List Addr):Prop where
 tz:TI≠z
 oz:TO≠z
 az:i1≠z
 bz:i2≠z
 to:TI≠TO
 ta:TI≠i1
 tb:TI≠i2
 oa:TO≠i1
 ob:TO≠i2
 ab:i1≠i2
 z1:z∉f1
 o1:TO∉f1
 b1:i2∉f1
 z2:z∉f2
 o2:TO∉f2
 a2:i1∉f2
section
variable {prog:Program} {w:World} {A:Around} {E:Value->Shared->Prop} {s:Shared} {z TI TO i1 i2:Addr} {f1 f2:List Addr} {n1 n2 k:Nat} {P1 P2:Nat->Value->Prop} {S1 S2:Nat->Heap->Prop} {a b:Value}
theorem e8{it:Addr}{fp:List Addr}{n i:Nat}{P:Nat->Value->Prop}{S:Nat->Heap->Prop}{h h':Heap}{c:Addr}(D:Draws prog w A it fp n P S)(st:S i h)(sb:Heap.SameBut c h h')(hc:c∉fp):S i h':=
 D.frame i h h' st λb hb o e=>(sb.2 b (λq=>hc (q▸hb))).trans e
theorem wc{Q:Value->Shared->Prop}(D1:Draws prog w A i1 f1 n1 P1 S1)(D2:Draws prog w A i2 f2 n2 P2 S2)(ap:nQ z TI TO i1 i2 f1 f2)(hz:IsZip s.heap z TI TO .none)(hTI:IsPair s.heap TI (.ref i1) (.ref i2))(hTO:IsPair s.heap TO a b)(h1:S1 k s.heap)(h2:S2 k s.heap)(k1:k<n1)(k2:k<n2)
  (hQ:∀(h':Heap) (x y:Value) (tk:Nat),P1 k x->P2 k y->IsZip h' z TI TO (rawInt s.heap.objs.size)->IsPair h' TO x y->S1 (k+1) h'->S2 (k+1) h'->IsPair h' s.heap.objs.size x y->(∀c o,c≠z->c≠TO->c≠i1->c≠i2->s.heap.get? c=some o->h'.get? c=some o)->Q (.ref s.heap.objs.size) { s with heap:=h',toks:=tk }) :
  wpAny (model prog w) A (Builtin.«zip.__next__» ⟨[.ref z],[]⟩) (λfin s'=>∃v,fin=.done (.ret v)/\Q v s') E s:=by
 show wpAny _ _ (field (.ref z) 2>>=_) _ _ _;refine wpAny_bind (Kj hz rfl (x:=.bool false) rfl ?_);show wpAny _ _ (field (.ref z) 3>>=_) _ _ _;refine wpAny_bind (Kj hz rfl (x:=.ref TI) rfl ?_);refine wpAny_bind (LA hTI rfl ?_);show wpAny _ _ (Builtin.SmallTypes.ownedTupleIsFree (.ref z)>>=_) _ _ _;refine wpAny_bind ?_;unfold Builtin.SmallTypes.ownedTupleIsFree;refine wpAny_bind (Kj hz rfl (x:=.none) rfl (Kd ?_));simp only[LR];refine wpAny_bind (LB ?_);refine wpAny_bind (Kj hz rfl (x:=.ref TO) rfl ?_);refine wpAny_bind (LC hz (by simp) λg1 hz1 b1=>?_)
 replace hz1:IsZip g1 z TI TO .ellipsis:=hz1
 refine wpAny_bind ?_;simp only[List.zipIdx_cons,List.zipIdx_nil,kS,List.forIn_nil];refine wpAny_bind (wpAny_bind (wpAny_onRaise ?_));show wpAny _ _ (Builtin.SmallTypes.nextOf (.ref i1)>>=_) _ _ _;refine wpAny_bind (D1.item k { s with heap:=g1 } _ _ k1 (e8 D1 h1 b1 ap.z1) λx g2 t2 px s2 b2=>Kd ?_);have hT2:IsPair g2 TO a b:=b2.extBut _ _ ap.oa (b1.extBut _ _ ap.oz hTO);refine wpAny_bind (LA hT2 rfl ?_);refine wpAny_bind (wpAny_updateSeq_pair hT2 λg3 hT3 b3=>?_)
 replace hT3:IsPair g3 TO x b:=hT3
 refine wpAny_bind (wpAny_letGo (Kd ?_));refine wpAny_bind (wpAny_bind (wpAny_onRaise ?_));show wpAny _ _ (Builtin.SmallTypes.nextOf (.ref i2)>>=_) _ _ _;refine wpAny_bind (D2.item k { s with heap:=g3,toks:=t2 } _ _ k2 (e8 D2 (e8 D2 (e8 D2 h2 b1 ap.z2) b2 ap.a2) b3 ap.o2) λy g4 t4 py s4 b4=>Kd ?_);have hT4:IsPair g4 TO x b:=b4.extBut _ _ ap.ob hT3;refine wpAny_bind (LA hT4 rfl ?_);refine wpAny_bind (wpAny_updateSeq_pair hT4 λg5 hT5 b5=>?_)
 replace hT5:IsPair g5 TO x y:=hT5
 refine wpAny_bind (wpAny_letGo (Kd (Kd ?_)));refine wpAny_bind (LA hT5 rfl ?_);refine wpAny_bind (wpAny_newTuple ?_);have hsz:g5.objs.size=s.heap.objs.size:=by rw[b5.1,b4.1,b3.1,b2.1,b1.1]
 have hz5:IsZip g5 z TI TO .ellipsis:=b5.extBut _ _ ap.oz.symm (b4.extBut _ _ ap.bz.symm (b3.extBut _ _ ap.oz.symm (b2.extBut _ _ ap.az.symm hz1)));have kp5:∀c o,c≠z->c≠TO->c≠i1->c≠i2->s.heap.get? c=some o->g5.get? c=some o:=λc o c1 c2 c3 c4 e=>b5.extBut _ _ c2 (b4.extBut _ _ c4 (b3.extBut _ _ c2 (b2.extBut _ _ c3 (b1.extBut _ _ c1 e))));have w1:S1 (k+1) g5:=e8 D1 (e8 D1 (e8 D1 s2 b3 ap.o1) b4 ap.b1) b5 ap.o1;have w2:S2 (k+1) g5:=e8 D2 s4 b5 ap.o2;have zlt:z<g5.objs.size:=aN hz5;show wpAny _ _ (Builtin.SmallTypes.ownedTupleHandOut (.ref z) (.ref g5.objs.size)>>=_) _ _ _;refine wpAny_bind ?_;unfold Builtin.SmallTypes.ownedTupleHandOut;have hz6:IsZip (g5.push { cls:=.type "tuple",data:=.seq #[x,y] }) z TI TO .ellipsis:=aA _ hz5;refine wpAny_bind (LC hz6 (by simp) λg7 hz7 b7=>?_)
 replace hz7:IsZip g7 z TI TO (rawInt g5.objs.size):=hz7
 refine LC hz7 (by simp) λg8 hz8 b8=>?_
 replace hz8:IsZip g8 z TI TO (rawInt g5.objs.size):=hz8
 have up:∀c o,c≠z->g5.get? c=some o->g8.get? c=some o:=λc o c1 e=>b8.extBut _ _ c1 (b7.extBut _ _ c1 (aA _ e));have hP:IsPair g8 g5.objs.size x y:=b8.extBut _ _ (fT zlt) (b7.extBut _ _ (fT zlt) (aP _ rfl));rw[hsz] at hz8 hP;refine Kd ⟨_,rfl,?_⟩;show Q (.ref g5.objs.size) _;rw[hsz];exact hQ g8 x y t4 px py hz8 (up _ _ ap.oz hT5) (D1.frame _ _ _ w1 λc hc o e=>up c o (λq=>ap.z1 (q▸hc)) e) (D2.frame _ _ _ w2 λc hc o e=>up c o (λq=>ap.z2 (q▸hc)) e) hP λc o c1 c2 c3 c4 e=>up c o c1 (kp5 c o c1 c2 c3 c4 e)
theorem yY{Q:Fin->Shared->Prop}(D1:Draws prog w A i1 f1 n1 P1 S1)(ap:nQ z TI TO i1 i2 f1 f2)(hz:IsZip s.heap z TI TO .none)(hTI:IsPair s.heap TI (.ref i1) (.ref i2))(h1:S1 n1 s.heap)
  (hE:∀h' e,(∀c o,c≠z->c≠i1->s.heap.get? c=some o->h'.get? c=some o)->(∃o,h'.get? e=some o/\o.cls=.type "StopIteration")->E (.ref e) { s with heap:=h' }):wpAny (model prog w) A (Builtin.«zip.__next__» ⟨[.ref z],[]⟩) Q E s:=by
 show wpAny _ _ (field (.ref z) 2>>=_) _ _ _;refine wpAny_bind (Kj hz rfl (x:=.bool false) rfl ?_);show wpAny _ _ (field (.ref z) 3>>=_) _ _ _;refine wpAny_bind (Kj hz rfl (x:=.ref TI) rfl ?_);refine wpAny_bind (LA hTI rfl ?_);show wpAny _ _ (Builtin.SmallTypes.ownedTupleIsFree (.ref z)>>=_) _ _ _;refine wpAny_bind ?_;unfold Builtin.SmallTypes.ownedTupleIsFree;refine wpAny_bind (Kj hz rfl (x:=.none) rfl (Kd ?_));simp only[LR];refine wpAny_bind (LB ?_);refine wpAny_bind (Kj hz rfl (x:=.ref TO) rfl ?_);refine wpAny_bind (LC hz (by simp) λg1 hz1 b1=>?_)
 replace hz1:IsZip g1 z TI TO .ellipsis:=hz1
 refine wpAny_bind ?_;simp only[List.zipIdx_cons,List.zipIdx_nil,kS,List.forIn_nil];refine wpAny_bind (wpAny_bind (wpAny_onRaise ?_));show wpAny _ _ (Builtin.SmallTypes.nextOf (.ref i1)>>=_) _ _ _;refine wpAny_bind (D1.done { s with heap:=g1 } _ _ (e8 D1 h1 b1 ap.z1) λg2 e b2 he=>?_);obtain⟨oe,hoe,hce⟩:=he;have hz2:IsZip g2 z TI TO .ellipsis:=b2 _ _ ap.az.symm hz1;have hez:e≠z:=λx=>by subst x;rw[hz2] at hoe;cases hoe;simp at hce
 exact LC hz2 (by simp) λg3 _ b3=>hE g3 e (λc o c1 c3 x=>b3.extBut _ _ c1 (b2 _ _ c3 (b1.extBut _ _ c1 x))) ⟨oe,b3.extBut _ _ hez hoe,hce⟩
theorem o0{Q:Option Value->Shared->Prop}(D1:Draws prog w A.in1 i1 f1 n1 P1 S1)(D2:Draws prog w A.in1 i2 f2 n2 P2 S2)(ap:nQ z TI TO i1 i2 f1 f2)(hz:IsZip s.heap z TI TO .none)(hTI:IsPair s.heap TI (.ref i1) (.ref i2))(hTO:IsPair s.heap TO a b)(h1:S1 k s.heap)(h2:S2 k s.heap)(k1:k<n1)(k2:k<n2)
  (hQ:∀(h':Heap) (x y:Value) (tk:Nat),P1 k x->P2 k y->IsZip h' z TI TO (rawInt s.heap.objs.size)->IsPair h' TO x y->S1 (k+1) h'->S2 (k+1) h'->IsPair h' s.heap.objs.size x y->(∀c o,c≠z->c≠TO->c≠i1->c≠i2->s.heap.get? c=some o->h'.get? c=some o)->Q (some (.ref s.heap.objs.size)) { s with heap:=h',toks:=tk }) :
  wpAny (model prog w) A (pyNext (.ref z)) Q E s:=by
 have hT:s.TypeIs (.ref z) "zip":=⟨_,hz,rfl⟩
 unfold pyNext;exact wpAny_bind (wpAny_attempt (wpAny_callSpecial?_slot (name:=Str.ofString "__next__") hT iL (Km iL hT F.entry_zip_next (wc D1 D2 ap hz hTI hTO h1 h2 k1 k2 λh' x y tk q1 q2 q3 q4 q5 q6 q7 q8=>Kd (hQ h' x y tk q1 q2 q3 q4 q5 q6 q7 q8)) (F.args_zip_next_1 _))))
theorem qL{Q:Option Value->Shared->Prop}(D1:Draws prog w A.in1 i1 f1 n1 P1 S1)(ap:nQ z TI TO i1 i2 f1 f2)(hz:IsZip s.heap z TI TO .none)(hTI:IsPair s.heap TI (.ref i1) (.ref i2))(h1:S1 n1 s.heap)
  (hQ:∀h',(∀c o,c≠z->c≠i1->s.heap.get? c=some o->h'.get? c=some o)->Q none { s with heap:=h' }):wpAny (model prog w) A (pyNext (.ref z)) Q E s:=by
 have hT:s.TypeIs (.ref z) "zip":=⟨_,hz,rfl⟩
 unfold pyNext;refine wpAny_bind (wpAny_attempt (wpAny_callSpecial?_slot (name:=Str.ofString "__next__") hT iL (Km iL hT F.entry_zip_next (yY D1 ap hz hTI h1 λh' e hk he=>?_) (F.args_zip_next_1 _))));obtain⟨o,ho,hc⟩:=he;exact wpAny_bind (wpAny_isInstance (T:="StopIteration") (b:=true) ⟨o,ho,hc⟩ isSubtype_stop (Kd (hQ _ hk)))
end
abbrev yT (h:Heap) (l:Addr):Heap:=h.push { cls:=.type "tuple_iterator",data:=.fields #[.ref l,.int 0 0] }
abbrev Gk (h:Heap) (l1 l2:Addr):Heap:=(yT (yT h l1) l2).push { cls:=.type "tuple",data:=.seq #[.ref h.objs.size,.ref (yT h l1).objs.size] }
abbrev Gj (h:Heap) (l1 l2:Addr):Heap:=(Gk h l1 l2).push { cls:=.type "tuple",data:=.seq #[.none,.none] }
abbrev Es (h:Heap) (l1 l2:Addr):Heap:=(Gj h l1 l2).push { cls:=.type "zip",data:=.fields #[.none,.bool false,.bool false,.ref (yT (yT h l1) l2).objs.size,.ref (Gk h l1 l2).objs.size] }
theorem Bs (l1 l2:Addr) (xs ys:Array Value):Meets (Builtin.«zip.__new__» ⟨[.type "zip",.ref l1,.ref l2],[]⟩) (λ_ R s=>s.heap.IsTuple l1 xs/\s.heap.IsTuple l2 ys/\R (.ok (.ret (.ref (Gj s.heap l1 l2).objs.size))) { s with heap:=Es s.heap l1 l2 }):=.of_wp λprog w A R s h=>by
  obtain⟨hp,g,d,tk,os⟩:=s;obtain⟨hl1,hl2,h⟩:=h;have hsub:=sub_zip;have hL1:Heap.IsTuple (Shared.heap ⟨hp,g,d,tk,os⟩) l1 xs:=hl1;have hL2:Heap.IsTuple (Shared.heap ⟨hp.push { cls:=.type "tuple_iterator",data:=.fields #[.ref l1,.int 0 0] },g,d,tk,os⟩) l2 ys:=Heap.IsTuple.push hl2 _
  wp_walk using wpAny_pyIter_tuple hL1,wpAny_pyIter_tuple hL2;exact⟨_,rfl,h⟩
theorem Ec{prog:Program}{w:World}{A:Around}{E:Value->Shared->Prop}{s:Shared}{l1 l2:Addr}{xs ys:Array Value}{Q:Value->Shared->Prop}(hl1:s.heap.IsTuple l1 xs)(hl2:s.heap.IsTuple l2 ys)
  (h:∀h' n,n=s.heap.objs.size->IsZip h' (n+4) (n+2) (n+3) .none->IsPair h' (n+2) (.ref n) (.ref (n+1))->IsPair h' (n+3) .none .none->h'.IsTupleIter n l1 0->h'.IsTupleIter (n+1) l2 0->(∀c o,s.heap.get? c=some o->h'.get? c=some o)->Q (.ref (n+4)) { s with heap:=h' }):wpAny (model prog w) A (call (.type "zip") [.ref l1,.ref l2]) Q E s:=by
 refine callType_new F.called_zip (by decide) (F.typeCall_zip_2 _ _) (F.newCall_zip_2 _ _) (λobj=>F.args_object_init_3 obj _ _) F.entry_zip_new (Bs l1 l2 xs ys) ⟨hl1,hl2,?_⟩;have z1:(yT s.heap l1).objs.size=s.heap.objs.size+1:=dW ..;have z2:(yT (yT s.heap l1) l2).objs.size=s.heap.objs.size+2:=by rw[dW,z1]
 have z3:(Gk s.heap l1 l2).objs.size=s.heap.objs.size+3:=by rw[dW,z2]
 have z4:(Gj s.heap l1 l2).objs.size=s.heap.objs.size+4:=by rw[dW,z3]
 have g5:(Es s.heap l1 l2).get? (Gj s.heap l1 l2).objs.size=some _:=aP _ rfl;have g4:(Es s.heap l1 l2).get? (Gk s.heap l1 l2).objs.size=some _:=aA _ (aP _ rfl);have g3:(Es s.heap l1 l2).get? (yT (yT s.heap l1) l2).objs.size=some _:=aA _ (aA _ (aP _ rfl));have g2:(Es s.heap l1 l2).get? (yT s.heap l1).objs.size=some _:=aA _ (aA _ (aA _ (aP _ rfl)));have g1:(Es s.heap l1 l2).get? s.heap.objs.size=some _:=aA _ (aA _ (aA _ (aA _ (aP _ rfl))));show _/\_;rw[z2,z3,z4] at g5;rw[z1,z2] at g3;rw[z3] at g4;rw[z1] at g2;rw[z4];exact⟨⟨_,g5,rfl⟩,h _ _ rfl g5 g3 g4 ⟨_,g1,rfl,rfl⟩ ⟨_,g2,rfl,rfl⟩ λc o x=>aA _ (aA _ (aA _ (aA _ (aA _ x))))⟩
def CZ(K:LU)(a b:Addr):It:=
  ⟨λi H=>∃xs ys x y,eR K H a xs/\eR K H b ys/\xs[i]? = some x/\ys[i]? = some y,
   λi H v H'=>∃p x y,H p=none/\(∀xs,eR K H a xs->xs[i]? = some x)/\(∀ys,eR K H b ys->ys[i]? = some y)/\v=.ref p/\H'=upd H p (.tup [x,y]),
   λi H=>∃xs,eR K H a xs/\xs.length=i⟩
theorem wg {P : Program} {w : World} {K : LU} {elts : List Expr} {x1 : Nat} {pos : Pos} (n a b : Addr) (ha : a < n) (hb : b < n) :
    Turn P w K (.Tuple elts x1 pos) (CZ K a b) [n + 4, n + 2, n + 3, n, n + 1] (n + 4) (fun i h => IsZip h (n + 4) (n + 2) (n + 3) .none ∧ IsPair h (n + 2) (.ref n) (.ref (n + 1)) ∧ (∃ u v, IsPair h (n + 3) u v) ∧ h.IsTupleIter n a i ∧ h.IsTupleIter (n + 1) b i) := by
  have hap : nQ (n + 4) (n + 2) (n + 3) n (n + 1) [n, a] [n + 1, b] := by
    have h1 : @LT.lt Nat _ a n := ha
    have h2 : @LT.lt Nat _ b n := hb
    constructor <;> first
      | (intro h; simp only [aF, ba, or_false] at h; rcases h with h | h <;> (have h' : @Eq Nat _ _ := h; lia))
      | (intro h; have h' : @Eq Nat _ _ := h; lia)
  exact {
    mem := by simp
    obj := fun i h st c hb => by
      obtain ⟨h1, h2, ⟨u, v, h3⟩, ⟨o4, e4, c4, d4⟩, ⟨o5, e5, c5, d5⟩⟩ := st
      simp only [aF, ba, or_false] at hb
      rcases hb with rfl | rfl | rfl | rfl | rfl
      · exact ⟨_, h1, fun v z => by cases z⟩
      · exact ⟨_, h2, fun v z => by cases z⟩
      · exact ⟨_, h3, fun v z => by cases z⟩
      · exact ⟨o4, e4, fun v z => by rw [d4] at z; cases z⟩
      · exact ⟨o5, e5, fun v z => by rw [d5] at z; cases z⟩
    keep := fun i h h' st k => by
      obtain ⟨h1, h2, ⟨u, v, h3⟩, h4, h5⟩ := st
      exact ⟨k _ (by simp) _ h1, k _ (by simp) _ h2, ⟨u, v, k _ (by simp) _ h3⟩, h4.at fun o e => k _ (by simp) o e, h5.at fun o e => k _ (by simp) o e⟩
    item := by
      intro X hP hw hK hc i pins s σ H E I hf st hg
      subst hP hw hK
      obtain ⟨h1, h2, ⟨u0, v0, h3⟩, h4, h5⟩ := st
      obtain ⟨xs, ys, x, y, hqa, hqb, hx, hy⟩ := hg
      obtain ⟨ia, ra, pa, _⟩ := I.tuple hqa
      obtain ⟨ib, rb, pb, _⟩ := I.tuple hqb
      obtain ⟨ua, hua, rua⟩ := ra.get hx
      obtain ⟨ub, hub, rub⟩ := rb.get hy
      have hA : X.A.in1.handled = none := I.ok.hd hc
      have la : i < ia.toArray.size := by rw [aH]; exact (aI.mp hua).1
      have lb : i < ib.toArray.size := by rw [aH]; exact (aI.mp hub).1
      refine o0 (Draws.tup hA n a (a9 ha) ia.toArray) (Draws.tup hA (n + 1) b (a9 (dF hb)) ib.toArray) hap h1 h2 h3 ⟨h4, pa⟩ ⟨h5, pb⟩ la lb fun h' x' y' tk e1 e2 hz ho hi1 hi2 hp kp => ?_
      have e1' : x' = ua := by have : ia[i]? = some x' := by simpa using e1
                               rw [hua] at this; cases this; rfl
      have e2' : y' = ub := by have : ib[i]? = some y' := by simpa using e2
                               rw [hub] at this; cases this; rfl
      subst e1' e2'
      refine ⟨_, rfl, wpAny_letOwnedTupleGo_zip hz fun hh hz2 hs2 => ?_⟩
      have hn : H s.heap.objs.size = none := I.hok.fresh (aB _)
      have lz : s.heap.objs.size ≠ n + 4 := fT (aN h1)
      have ht2 : hh.get? s.heap.objs.size = some { cls := .type "tuple", data := .seq #[x', y'] } := (hs2.2 _ lz).trans hp
      refine ⟨.ref s.heap.objs.size, upd H s.heap.objs.size (.tup [x, y]), I.turnNew (fp := [n + 4, n + 2, n + 3, n, n + 1]) hf (fun c o hb q => ?_) (aB _) (show dI X.prog X.w _ hh _ (.tup _) from ⟨(by show 2 ≤ sizeLine; decide), [x', y'], .cons rua (.cons rub .nil), _, ht2, rfl, _, rfl⟩), rfl, ⟨_, x, y, hn, fun zs hz => by rw [I.tuple_inj hz hqa]; exact hx, fun zs hz => by rw [I.tuple_inj hz hqb]; exact hy, rfl, rfl⟩, ?_, fun c hb => ?_⟩
      · simp only [aF, ba, or_false, not_or] at hb
        exact (hs2.2 c hb.1).trans (kp c o hb.1 hb.2.2.1 hb.2.2.2.1 hb.2.2.2.2 q)
      · exact ⟨hz2, (hs2.2 _ hap.tz).trans (kp _ _ hap.tz hap.to hap.ta hap.tb h2), ⟨_, _, (hs2.2 _ hap.oz).trans ho⟩, hi1.1.at fun o e => (hs2.2 _ hap.az).trans e, hi2.1.at fun o e => (hs2.2 _ hap.bz).trans e⟩
      · have hb' := (hf c hb).1
        rw [aX (fun z => ?_)]
        · exact hb'
        · have hz4 : @LT.lt Nat _ (n + 4) s.heap.objs.size := aN h1
          have z' : @Eq Nat c s.heap.objs.size := z
          simp only [aF, ba, or_false] at hb
          rcases hb with h | h | h | h | h <;> (have h' : @Eq Nat _ _ := h; lia)
    done := by
      intro X hP hw hK hc i pins s σ H E I hf st hg
      subst hP hw hK
      obtain ⟨h1, h2, ⟨u0, v0, h3⟩, h4, h5⟩ := st
      obtain ⟨xs, hqa, hx⟩ := hg
      obtain ⟨ia, ra, pa, _⟩ := I.tuple hqa
      have la := ra.length
      have hA : X.A.in1.handled = none := I.ok.hd hc
      have ei : ia.toArray.size = i := by rw [aH]; lia
      refine qL (Draws.tup hA n a (a9 ha) ia.toArray) hap h1 h2 ⟨by rw [ei]; exact h4, pa⟩ fun h' kp => ⟨rfl, I.turnAll (t' := s.toks) hf fun c o hb q => ?_⟩
      simp only [aF, ba, or_false, not_or] at hb
      exact kp c o hb.1 hb.2.2.2.1 q
    self := fun _ _ _ _ _ st h => LD st.1 h }
def Cy(K:LU)(ta:TA):TI:=λσ H R=>ta σ H λvs H1=>∃a b,vs=[.ref a,.ref b]/\(∃xs,eR K H1 a xs)/\(∃ys,eR K H1 b ys)/\R (CZ K a b) H1
theorem ze {X:Cx} {a b:Expr} {ta:TA} {elts:List Expr} {x1:Nat} {p pos tpos:Pos} (hg:Gl X "zip") (hm:X.mg "zip"=none) (ha:QA X [a,b] ta) (hs:starEach [a,b] X.env=(false,eval a X.env)::starEach [b] X.env:=by rfl) (hpl:(backTo pos (starEach [b] X.env)).any (·.1)=false:=by rfl) :
  QI X (.Tuple elts x1 tpos) (.Call (.Name "zip" p) [a,b] [] pos) (Cy X.K ta):=⟨by
 intro pins s σ H R I h;refine Call_ (jM I hg hm boot_zip (bY (dk (ha.h pos pins s σ H _ I h) λus s1 ⟨vs,H1,I1,r1,z1,z2,e,⟨xs,hx⟩,⟨ys,hy⟩,q⟩=>?_) hs hpl));subst e;obtain⟨u,u',rfl,r2,r3⟩:=vals2 r1;cases r2;cases r3;obtain⟨ia,ra,pa,_⟩:=I1.tuple hx;obtain⟨ib,rb,pb,_⟩:=I1.tuple hy;have ha':s1.heap.IsTuple z1 ia.toArray:=pa;have hb':s1.heap.IsTuple z2 ib.toArray:=pb;obtain⟨oa,hoa,_⟩:=id ha';obtain⟨ob,hob,_⟩:=id hb';refine Ec ha' hb' λh' n en hz hti hto hi1 hi2 kp=>?_;refine LD hz ?_;have I2:bW X pins σ H1 { s1 with heap:=h' }:=I1.kept (t':=s1.toks) kp;refine⟨_,_,_,_,H1,rfl,I2,wg n z1 z2 (by rw[en];exact aN hoa) (by rw[en];exact aN hob),⟨hz,hti,⟨_,_,hto⟩,hi1,hi2⟩,λb hb=>?_,q⟩;have hle:s1.heap.objs.size<=b:=by
  simp only[aF,ba,or_false] at hb;have en':@Eq Nat n s1.heap.objs.size:=en;show @LE.le Nat _ _ _;rcases hb with h | h | h | h | h<;>(have h':@Eq Nat _ _:=h;lia)
 exact I1.fpOk hle (I1.hok.fresh hle)⟩
theorem vS{K:LU}{σ:St}{H:Hp}{D:Ends}{ta:TA}{g:TG}{tb:TS}:n6 (Cy K ta) g tb D σ H=ta σ H λvs H1=>∃a b,vs=[.ref a,.ref b]/\(∃xs,eR K H1 a xs)/\(∃ys,eR K H1 b ys)/\lM (CZ K a b) g tb D σ H1:=rfl
theorem Ab{K:LU}{σ:St}{H:Hp}{D:Ends}{a b:Addr}{xs ys:List V}{g:TG}{tb:TS}(hle:xs.length<=ys.length)(Pv:Nat->St->Hp->Prop)(h0:Pv 0 σ H)(hl:∀i σ H,Pv i σ H->eR K H a xs/\eR K H b ys)
  (hs:∀i x y σ H p,xs[i]? = some x->ys[i]? = some y->Pv i σ H->H p=none->g (.ref p) σ (upd H p (.tup [x,y])) λσ2 H2=>tb { D with nx:=Pv (i+1),ct:=Pv (i+1),bk:=D.nx } σ2 H2) (hd:∀σ H,Pv xs.length σ H->D.nx σ H):lM (CZ K a b) g tb D σ H:=by
 refine⟨λi m σ H=>m+i=xs.length/\Pv i σ H,⟨xs.length,rfl,h0⟩,?_⟩;rintro i m σ H ⟨hm,hp⟩;obtain⟨q1,q2⟩:=hl i σ H hp;by_cases hi:i<xs.length
 ·refine .inr ⟨⟨xs,ys,xs[i],ys[i],q1,q2,by simp[hi],by simp[a7 hi hle]⟩,Pv (i+1),λσ' H' h=>⟨m - 1,by lia,by lia,h⟩,?_⟩;rintro v H' ⟨p,x,y,hn,hx,hy,rfl,rfl⟩;exact hs i x y σ H p (hx xs q1) (hy ys q2) hp hn
 ·have e:i=xs.length:=by lia
  subst e;exact .inl ⟨⟨xs,q1,rfl⟩,hd σ H hp⟩
end L2
namespace Rm
open PySem L2
theorem oR(lo:Int)(n:Nat):(iT lo n).length=n:=by simp[iT]
theorem su{α β:Type}{f:α->β}{ys:List β}{zs:List β}(h:ys.Perm zs):∀{xs:List α},zs=xs.map f->∃xs':List α,xs'.Perm xs/\ys=xs'.map f:=by
 induction h with
 | nil=>intro xs e;exact⟨[],by rw[List.map_eq_nil_iff.mp e.symm],rfl⟩
 | cons x _ ih=>
  intro xs e;obtain⟨a,r,rfl,rfl,rfl⟩:=iD.mp e.symm;obtain⟨r',h1,rfl⟩:=ih rfl;exact⟨a::r',h1.cons a,rfl⟩
 | swap x y l=>
  intro xs e;obtain⟨a,r,rfl,rfl,e2⟩:=iD.mp e.symm;obtain⟨b,r2,rfl,rfl,rfl⟩:=iD.mp e2;exact⟨b::a::r2,.swap a b r2,rfl⟩
 | trans _ _ ih1 ih2=>
  intro xs e;obtain⟨r,h1,e1⟩:=ih2 e;obtain⟨r',h2,e2⟩:=ih1 e1;exact⟨r',h2.trans h1,e2⟩
def zW:PyData->Bool
 | .str z=>decide (z=Str.ofString "l") || decide (z=Str.ofString "r")
 | _=>false
theorem AO{x:Int}{n:Nat}:x∈iT 1 n<->1<=x/\x<=n:=by
 unfold iT;rw[aw];constructor
 ·rintro⟨i,hi,rfl⟩;have:=cj.mp hi;lia
 ·rintro⟨h1,h2⟩;exact⟨(x - 1).toNat,cj.mpr (by lia),by lia⟩
theorem uW(n:Nat):(iT 1 n).Nodup:=by
 unfold iT List.Nodup;rw[jH];exact(List.nodup_range (n:=n)).imp λh e=>h (by lia)
theorem wG:(Str.ofString "l")=⟨#[108]⟩:=by decide +kernel
theorem wF:(Str.ofString "r")=⟨#[114]⟩:=by decide +kernel
theorem zV (d:PyData):([PyData.str (Str.ofString "l"),.str (Str.ofString "r")].any λe=>PyData.eqv e d)=zW d:=by
 cases d with
 | str z=>
  show (decide (Str.ofString "l"=z) || (decide (Str.ofString "r"=z) || false))=_;rw[mC];show _=(decide (z=Str.ofString "l") || decide (z=Str.ofString "r"))
  congr 1
  ·exact decide_eq_decide.mpr ⟨iX,iX⟩
  ·exact decide_eq_decide.mpr ⟨iX,iX⟩
 | _=>rfl
structure Pl (d:PyData) (n:Nat):Prop where
 lay:d.canLay0=true
 deep:d.depth<=n
def sO:Sp:=λvs H Q _=>∃x d,vs=[x]/\Dat H x d/\Pl d 60/\Q (.bl (zW d)) H
mutual
def HW:PyData->Bool
 | .list _=>false
 | .tuple ds=>Bo ds
 | .dict _=>false
 | _=>true
def Bo:List PyData->Bool
 | []=>true
 | d::ds=>HW d&&Bo ds
end
mutual
theorem CG{H:Hp}{l:Addr}{ys:List V}{o:HO}(hl:H l=some (.lst ys)):∀{x:V} {d:PyData},Dat H x d->HW d=true->Dat (upd H l o) x d
 | _,_,.non,_=>.non
 | _,_,.bl b,_=>.bl b
 | _,_,.int i,_=>.int i
 | _,_,.str x,_=>.str x
 | _,_,.tup h r,n=>.tup (by rw[aX (wA h hl (by intro q;cases q))];exact h) (t5 hl r n)
 | _,_,.lst h r,n=>nomatch n
theorem t5{H:Hp}{l:Addr}{ys:List V}{o:HO}(hl:H l=some (.lst ys)):∀{xs:List V} {ds:List PyData},jT H xs ds->Bo ds=true->jT (upd H l o) xs ds
 | _,_,.nil,_=>.nil
 | _,_,.cons h r,n=>by
  have n':(HW _&&Bo _)=true:=n;rw[cW] at n';exact .cons (CG hl h n'.1) (t5 hl r n'.2)
end
theorem tQ{H:Hp}:∀ns:List Int,jT H (ns.map V.int) (ns.map PyData.int)
 | []=>.nil
 | n::ns=>.cons (.int n) (tQ ns)
end Rm
namespace L2
open PySem PySem.Spec PyProof.Rows
section
variable {σ:St} {H:Hp}
theorem Da{trs:List (TE×TE)}{Q:VK}:Ck trs σ H Q=∀p,H p=none->mD trs σ (upd H p (.dK [])) λps H2=>H2 p=some (.dK [])/\∃kvs:List (Key×V),ps=kvs.map (λkv=>(kV kv.1,kv.2))/\kvs.length<=15/\Q (.ref p) (upd H2 p (.dK (mJ [] kvs))):=rfl
theorem FK{Q:List (V×V)->Hp->Prop}:mD [] σ H Q=Q [] H:=rfl
theorem FJ{tk tv:TE}{r:List (TE×TE)}{Q:List (V×V)->Hp->Prop}:mD ((tk,tv)::r) σ H Q=tk σ H λx H1=>tv σ H1 λy H2=>mD r σ H2 λps H3=>Q ((x,y)::ps) H3:=rfl
theorem FI{r:V->Option Int->Option Int->Hp->VK->Prop}{te:TE}{tl th:TO}{Q:VK}:Hw r te tl th σ H Q=te σ H λx H1=>tl σ H1 λl H2=>th σ H2 λu H3=>r x l u H3 Q:=rfl
theorem yf{t:TE}{Q:Option Int->Hp->Prop}:Cf t σ H Q=t σ H λx H1=>∃i,x=.int i/\Q (some i) H1:=rfl
theorem rq{Q:Option Int->Hp->Prop}:v9 σ H Q=Q none H:=rfl
end
end L2
namespace Rm
open PySem L2
def sd (b:Bool):Str:=if b then Str.ofString "r" else Str.ofString "l"
theorem Ft (b:Bool):(sd b=Str.ofString "l")=(b=false):=by cases b<;>simp[sd,wG,wF]
theorem HK (b:Bool):(sd b=Str.ofString "r")=(b=true):=by cases b<;>simp[sd,wG,wF]
theorem EX:(Str.ofString "lr")=⟨#[108,114]⟩:=by decide +kernel
theorem GN {i:Int} (h0:0<=i) (h1:i<2):uC (Str.ofString "lr").cps.toList i=some (if i=1 then 114 else 108):=by
 have e:i=0\/i=1:=by lia
 rw[EX];rcases e with rfl | rfl<;>rfl
theorem GM(i:Int):(⟨#[if i=1 then 114 else 108]⟩:Str)=sd (decide (i=1)):=by
 by_cases h:i=1
 ·simp[h,sd,wF]
 ·simp[h,sd,wG]
def odd(i:Nat):Bool:=i % 2==1
theorem ja(i:Nat):odd (i+1)=!odd i:=by
 unfold odd;rcases cP i with h | h<;>simp[Nat.add_mod,h]
def d9(ns:List Int):List Int:=0::(ns++[(ns.length:Int)+1])
theorem fq(ns:List Int):(d9 ns).length=ns.length+2:=by simp[d9]
def ah(ns:List Int)(i:Nat):Int:=(d9 ns).getD i 0
def f7(ns:List Int)(i:Nat):Bw:=(min (ah ns i) (ah ns (i+1)),max (ah ns i) (ah ns (i+1)))
def cZ(b s:Bool)(i:Nat):Bool:=(b ^^ odd i)==s
def aV(b:Bool)(ns:List Int)(s:Bool)(m:Nat):List Bw:=((List.range m).filter (cZ b s)).map (f7 ns)
theorem mW{b:Bool}{ns:List Int}{s:Bool}{i:Nat}(h:cZ b s i=true):aV b ns s (i+1)=aV b ns s i++[f7 ns i]:=by
 unfold aV;rw[dr,ir,aM];simp[h]
theorem nR{b:Bool}{ns:List Int}{s:Bool}{i:Nat}(h:cZ b s i=false):aV b ns s (i+1)=aV b ns s i:=by
 unfold aV;rw[dr,ir,aM];simp[h]
theorem ku(b:Bool)(i:Nat):cZ b (b ^^ odd i) i=true:=by simp[cZ]
theorem iR(b:Bool)(ns:List Int)(s:Bool)(m:Nat):(aV b ns s m).length<=m:=by
 unfold aV;rw[aC];exact bJ (List.length_filter_le _ _) (by rw[List.length_range];exact aB _)
structure kR (ns:List Int):Prop where
 len:ns.length<=20
 perm:ns.Perm (iT 1 ns.length)
theorem kR.mem{ns:List Int}(O:kR ns){x:Int}:x∈ns<->1<=x/\x<=ns.length:=O.perm.mem_iff.trans AO
theorem kR.rows_nodup{ns:List Int}(O:kR ns):(d9 ns).Nodup:=by
 have nd:ns.Nodup:=O.perm.nodup_iff.mpr (uW _);unfold d9;rw[cm,gI];refine⟨λh=>?_,nd,by simp,λa ha b hb e=>?_⟩
 ·rcases aE.mp h with z | z
  ·have:=O.mem.mp z;lia
  ·have:(0:Int)=ns.length+1:=by simpa using z
   lia
 ·have:b=(ns.length:Int)+1:=by simpa using hb
  have:=O.mem.mp ha;lia
theorem kR.rows_mem{ns:List Int}(O:kR ns){x:Int}(h:x∈d9 ns):0<=x/\x<=(ns.length:Int)+1:=by
 unfold d9 at h;rcases aF.mp h with z | z
 ·lia
 ·rcases aE.mp z with z | z
  ·have:=O.mem.mp z;lia
  ·have:x=(ns.length:Int)+1:=by simpa using z
   lia
theorem gA{ns:List Int}{i:Nat}(h:i<ns.length+2):(d9 ns)[i]? = some (ah ns i):=by
 unfold ah;have:i<(d9 ns).length:=by rw[fq];exact h
 simp[List.getD,this]
theorem kR.row_inj{ns:List Int}(O:kR ns){i j:Nat}(hi:i<ns.length+2)(hj:j<ns.length+2)(h:ah ns i=ah ns j):i=j:=by
 have h1:=aI.mp (gA hi);have h2:=aI.mp (gA hj);exact(List.getElem_inj O.rows_nodup (h₀:=h1.1) (h₁:=h2.1)).mp (h1.2.trans (h.trans h2.2.symm))
theorem kR.row_in{ns:List Int}(O:kR ns){i:Nat}(hi:i<ns.length+2):0<=ah ns i/\ah ns i<=(ns.length:Int)+1:=O.rows_mem (ax (gA hi))
theorem mz(ns:List Int):ah ns 0=0:=rfl
theorem gZ(ns:List Int):ah ns (ns.length+1)=(ns.length:Int)+1:=by simp[ah,d9,List.getD]
theorem zc{ns:List Int}{i:Nat}{x:Int}(h:(ns++[(ns.length:Int)+1])[i]? = some x):ah ns (i+1)=x:=by simp only[ah,d9,List.getD,fy,h];rfl
theorem qE{ns:List Int}{i:Nat}{x:Int}(h:ns[i]? = some x):ah ns (i+1)=x:=zc (by rw[bG (aI.mp h).1];exact h)
theorem kR.step_lt{ns:List Int}(O:kR ns){i:Nat}(hi:i<=ns.length):(f7 ns i).1<(f7 ns i).2:=by
 have:ah ns i≠ah ns (i+1):=λe=>by
  have:=O.row_inj (by lia) (by lia) e;lia
 show min (ah ns i) (ah ns (i+1))<max (ah ns i) (ah ns (i+1));lia
theorem kR.step_in{ns:List Int}(O:kR ns){i:Nat}(hi:i<=ns.length):0<=(f7 ns i).1/\(f7 ns i).2<=(ns.length:Int)+1:=by
 have h1:=O.row_in (i:=i) (by lia);have h2:=O.row_in (i:=i+1) (by lia);show 0<=min (ah ns i) (ah ns (i+1))/\max (ah ns i) (ah ns (i+1))<=_;lia
theorem f9{b:Bool}{ns:List Int}{s:Bool}{m:Nat}{p:Bw}(h:p∈aV b ns s m):∃i,i<m/\cZ b s i=true/\p=f7 ns i:=by
 unfold aV at h;obtain⟨i,hi,rfl⟩:=aw.mp h;obtain⟨h1,h2⟩:=fA.mp hi;exact⟨i,cj.mp h1,h2,rfl⟩
theorem jX{b:Bool}{ns:List Int}{s:Bool}{m i:Nat}(h:i<m)(hs:cZ b s i=true):f7 ns i∈aV b ns s m:=
 aw.mpr ⟨i,fA.mpr ⟨cj.mpr h,hs⟩,rfl⟩
def CB(x:Int)(p:Bw):Bool:=decide (x=p.1) || decide (x=p.2)
theorem kR.has_iff{ns:List Int}(O:kR ns){i j:Nat}(hi:i<ns.length+2)(hj:j<=ns.length):CB (ah ns i) (f7 ns j)=decide (j=i\/j+1=i):=by
 have e:CB (ah ns i) (f7 ns j)=decide (ah ns i=ah ns j\/ah ns i=ah ns (j+1)):=by
  show (decide (ah ns i=min (ah ns j) (ah ns (j+1))) || decide (ah ns i=max (ah ns j) (ah ns (j+1))))=_;rw[<-Bool.decide_or];exact decide_eq_decide.mpr (by lia)
 rw[e];refine decide_eq_decide.mpr ⟨λh=>?_,λh=>?_⟩
 ·rcases h with h | h
  ·exact .inl (O.row_inj hi (by lia) h).symm
  ·exact .inr (O.row_inj hi (by lia) h).symm
 ·rcases h with rfl | rfl
  ·exact .inl rfl
  ·exact .inr rfl
theorem AD{b s:Bool}{j k:Nat}(h1:cZ b s j=true)(h2:cZ b s k=true)(h:j=k+1):False:=by
 subst h;simp only[cZ,ja,beq_iff_eq] at h1 h2;cases b<;>cases s<;>cases hk:odd k<;>simp[hk] at h1 h2
structure vJ (b:Bool) (ns:List Int) (s:Bool) (L:List Bw):Prop where
 perm:L.Perm (aV b ns s (ns.length+1))
 asc:L.Pairwise leB
theorem uI{x y:Int}{ms:List Int}(h:ms.Perm [x,y])(hs:ms.Pairwise (·<=·)):ms=[min x y,max x y]:=by
 have:(if x<=y then [x,y] else [y,x]).Perm [x,y]:=by
  by_cases e:x<=y
  ·rw[LM e]
  ·rw[LL e];exact List.Perm.swap x y []
 have e2:[min x y,max x y]=(if x<=y then [x,y] else [y,x]):=by
  by_cases e:x<=y
  ·rw[LM e];simp[Int.min_def,Int.max_def,e]
  ·rw[LL e];have:y<=x:=by lia
   simp[Int.min_def,Int.max_def,e]
 rw[e2];refine List.Perm.eq_of_pairwise (le:=(·<=·)) (λa b _ _ h h'=>by lia) hs ?_ (h.trans this.symm);by_cases e:x<=y
 ·rw[LM e];simp[e]
 ·rw[LL e];simp;lia
theorem CH{ns:List Int}{i:Nat}(h:i<=ns.length):mj ((d9 ns).map V.int) (some (0+(i:Int))) (some (0+(i:Int)+2))=[ah ns i,ah ns (i+1)].map V.int:=by
 have e1:HT.sIx ((d9 ns).map V.int).length 0 (some (0+(i:Int)))=i:=by
  show (if (0+(i:Int))<0 then (0+(i:Int)+(((d9 ns).map V.int).length:Int)).toNat else min (0+(i:Int)).toNat ((d9 ns).map V.int).length)=i;rw[LL (by lia),aC,fq];lia
 have e2:HT.sIx ((d9 ns).map V.int).length ((d9 ns).map V.int).length (some (0+(i:Int)+2))=i+2:=by
  show (if (0+(i:Int)+2)<0 then (0+(i:Int)+2+(((d9 ns).map V.int).length:Int)).toNat else min (0+(i:Int)+2).toNat ((d9 ns).map V.int).length)=i+2;rw[LL (by lia),aC,fq];lia
 unfold mj;rw[e1,e2,show i+2-i=2 by lia,<-List.map_drop,<-List.map_take];congr 1;have h1:=aI.mp (gA (ns:=ns) (i:=i) (by lia));have h2:=aI.mp (gA (ns:=ns) (i:=i+1) (by lia));rw[bB h1.1,bB h2.1,h1.2,h2.2];rfl
def jR(H:Hp)(m o:Addr)(b:Bool)(ns:List Int):Prop:=H m=some (.tup [.str (sd b),.ref o])/\H o=some (.tup (ns.map V.int))
theorem jR.same{H H':Hp}{m o:Addr}{b:Bool}{ns:List Int}(h:jR H m o b ns)(s:ao H H'):jR H' m o b ns:=⟨s _ _ h.1,s _ _ h.2⟩
def qf:Sp:=λvs H Q _=>∃b,vs=[.str (sd b)]/\Q (.str (sd !b)) H
def sJ:Sp:=λvs H Q _=>∃m o b ns,∃k:Nat,vs=[.ref m,.int k]/\jR H m o b ns/\Q (.str (sd (b ^^ odd k))) H
def zP:Sp:=λvs H Q _=>∃m o b ns,vs=[.ref m]/\jR H m o b ns/\ns.length<=40/\∀l H',H l=none->ao H H'->H' l=some (.lst ((d9 ns).map V.int))->Q (.ref l) H'
structure Er (H:Hp) (t l r:Addr) (b:Bool) (ns:List Int) (L R:List Bw):Prop where
 tup:H t=some (.tup [.ref l,.ref r])
 left:fQ H l L
 right:fQ H r R
 isL:vJ b ns false L
 isR:vJ b ns true R
 ne:l≠r
def sQ:Sp:=λvs H Q _=>∃m o b ns,vs=[.ref m]/\jR H m o b ns/\kR ns/\∀t l r L R H',H t=none->H l=none->H r=none->ao H H'->Er H' t l r b ns L R->Q (.ref t) H'
theorem qQ{H:Hp}{l t:Addr}{as:List Addr}{ps:List Bw}{p:Bw}(h1:H l=some (.lst (as.map V.ref)))(h2:Paired (f6 H) as ps)(ht:f6 H t p):fQ (upd H l (.lst (as.map V.ref++[.ref t]))) l (ps++[p]):=by
 have st:∀{a:Addr} {p:Bw},f6 H a p->f6 (upd H l (.lst (as.map V.ref++[.ref t]))) a p:=fun {a p} h=>by
  have:a≠l:=λe=>by subst e;unfold f6 at h;rw[h1] at h;cases h
  unfold f6;rw[aX this];exact h
 refine⟨as++[t],by rw[aG,aM];rfl,?_⟩;clear h1;generalize upd H l (.lst (as.map V.ref++[.ref t]))=H' at st ⊢
 induction h2 with
 | nil=>exact .cons (st ht) .nil
 | cons a b ih=>exact .cons (st a) ih
end Rm
namespace L2
open PySem PySem.Spec PyProof.Rows
def Fw:V->Option Int->Option Int->Hp->VK->Prop:=λx lo hi H Q=>∃z,x=.str z/\z.length<=sizeLine/\Q (.str (Txt.slice z lo hi)) H
section
variable {X:Cx}
theorem zT:Ez X Fw:=by
 intro pins s σ H x v vl vu lo hi sl Q I rx hs pl pu h;obtain⟨z,rfl,hz,q⟩:=h;obtain⟨t,rfl⟩:=rx;have fin:∀t' k,EP X pins σ Q (.str (Txt.slice z lo hi) t') { s with toks:=k }:=λt' k=>⟨.str _,H,I.tok k,⟨t',rfl⟩,q⟩
 refine⟨"str",_,F.slot_str_getitem.lookup,Ko _ _ _,?_⟩;cases pl with
 | none=>
  cases pu with
  | none=>exact wpAny_getItem_str_slice (l:=none) (u:=none) (st:=none) hs rfl (LF ⟨bJ (kK z _ _) hz,fin⟩)
  | int j u=>exact wpAny_getItem_str_slice (l:=none) (u:=some (j,u)) (st:=none) hs rfl (LF ⟨bJ (kK z _ _) hz,fin⟩)
 | int i w=>
  cases pu with
  | none=>exact wpAny_getItem_str_slice (l:=some (i,w)) (u:=none) (st:=none) hs rfl (LF ⟨bJ (kK z _ _) hz,fin⟩)
  | int j u=>exact wpAny_getItem_str_slice (l:=some (i,w)) (u:=some (j,u)) (st:=none) hs rfl (LF ⟨bJ (kK z _ _) hz,fin⟩)
theorem FH{z:Str}{lo hi:Option Int}{H:Hp}{Q:VK}:Fw (.str z) lo hi H Q=(z.length<=sizeLine/\Q (.str (Txt.slice z lo hi)) H):=
 propext ⟨λ⟨_,e,h⟩=>by cases e;exact h,λh=>⟨z,rfl,h⟩⟩
end
end L2
namespace Rm
open PySem L2
def wo(H:Hp)(m:Addr):Hp:=λb=>if b=m then none else H b
theorem BC(H:Hp)(m:Addr):ao (wo H m) H:=λb o e=>by
 unfold wo at e;by_cases h:b=m
 ·rw[LM h] at e;cases e
 ·rw[LL h] at e;exact e
theorem DV{H:Hp}{m t:Addr}{o:HO}(h:H t=none):ao (wo H m) (wo (upd H t o) m):=λb u e=>by
 have e':=BC H m b u e;unfold wo at e ⊢;by_cases hb:b=m
 ·rw[LM hb] at e;cases e
 ·rw[LL hb,aX (bK e' h)];exact e'
theorem FE{H:Hp}{m t:Addr}{u:HO}(h:t≠m)(e:H t=some u):wo H m t=some u:=by unfold wo;rw[LL h];exact e
end Rm
namespace L2
open PySem PySem.Spec PyProof.Rows PySem.Builtin PySem.Builtin.Str
theorem wr{prog:Program}{w:World}{A:Around}{E:Value->Shared->Prop}{s:Shared}{x y:Str}{t u:Tok}{Q:Value->Shared->Prop}(hy:(y.length==0)=false)(hsz:x.length+2<=sizeLine)
  (hq:∀(l:List (Str×Tok)) (k:Nat),l.map (·.1)=Txt.split x y->Q (.ref s.heap.objs.size) { s with heap:=s.heap.push { cls:=.type "list",data:=.seq (strValues l).toArray },toks:=k }) :
  wpAny (model prog w) A (call (.builtin "str.split") [.str x t,.str y u]) Q E s:=by
 have hle:=split_le x y;cases h1:(decide (x.length<y.length) || decide (strKind x<strKind y))
 ·cases hf:(occurrences x y 0 x.length (x.length+1)).isEmpty
  ·have es:Txt.split x y=partsBetween x (occurrences x y 0 x.length (x.length+1)) y.length:=(LL (ne_true_of_eq_false h1)).trans (LL (ne_true_of_eq_false hf));rw[es] at hle;refine Kq jt (Ko _ _ _) jI (iz _ _) (meets_str_split_sep x y t u h1 hy hf (bJ (Nat.le_add_right _ _) hsz) (bJ hle hsz)) ?_;show wants Q E _ { s with toks:=_,heap:=s.heap.push { cls:=.type "list",data:=.seq (strsFrom s.toks (partsBetween x (occurrences x y 0 x.length (x.length+1)) y.length)).toArray } };rw[strsFrom_eq];exact hq (numbered s.toks _) _ ((numbered_texts _ _).trans es.symm)
  ·exact Kq jt (Ko _ _ _) jI (iz _ _) (meets_str_split_not_found x y t u h1 hy hf)
    (hq [(x,t)] s.toks ((LL (ne_true_of_eq_false h1)).trans (LM hf)).symm)
 ·exact Kq jt (Ko _ _ _) jI (iz _ _) (meets_str_split_cannot_occur x y t u h1)
   (hq [(x,t)] s.toks (LM h1).symm)
theorem mU:∀(l:List (Str×Tok)),bj ((l.map (·.1)).map V.str) (strValues l)
 | []=>.nil
 | (a,t)::l=>.cons ⟨t,rfl⟩ (mU l)
section
variable {X:Cx}
def Dv:V->List V->Hp->VK->Prop:=λx vs H Q=>∃z y,x=.str z/\vs=[.str y]/\(y.length==0)=false/\z.length<=100000/\∀l,H l=none->Q (.ref l) (upd H l (.lst ((Txt.split z y).map V.str)))
theorem AM:FB X "str.split" Dv:=by
 intro pins s σ H x xs v us Q I r rv h;obtain⟨z,y,rfl,rfl,hy,hz,q⟩:=h;obtain⟨t,rfl⟩:=r;obtain⟨u,rfl,t2,rfl⟩:=vals1 rv;have hz2:z.length+2<=sizeLine:=by rw[Kh];lia
 refine wr hy hz2 λl k e=>?_;have hl:((Txt.split z y).map V.str).length<=sizeLine:=by rw[aC];exact bJ (split_le z y) hz2
 have hv:bj ((Txt.split z y).map V.str) (strValues l):=e▸mU l;exact⟨.ref s.heap.objs.size,_,I.laid (λb o e=>aA _ e) (aB _) (show dI X.prog X.w _ _ _ (.lst _) from ⟨hl,strValues l,_,hv,aP _ rfl⟩),rfl,q _ (I.hok.fresh (aB _))⟩
theorem p8 (hc:X.calm=true):jB X (.type "list") (λxs H Q=>∃z,xs=[.str z]/\z.cps.size<=1000/\∀l,H l=none->Q (.ref l) (upd H l (.lst (z.cps.toList.map λc=>V.str ⟨#[c]⟩)))):=by
 intro pins s σ H xs us Q I r h;obtain⟨z,rfl,hz,q⟩:=h;obtain⟨u,rfl,t,rfl⟩:=vals1 r;have hz2:z.cps.size<=sizeLine:=cN (cS hz);refine call_list_str (I.ok.hd hc) z t (λh' tk acc' c' kp e' hit=>?_) hz2;have hv:bj (z.cps.toList.map λc=>V.str ⟨#[c]⟩) acc'.toList:=by
  refine BK (by simp[hit.1]) λi x u h1 h2=>?_;obtain⟨c,t',hc',rfl⟩:=hit.2 i u (by simpa using h2);have:x=V.str ⟨#[c]⟩:=by
   rw[bV] at h1;have:z.cps.toList[i]? = some c:=by simpa using hc'
   rw[this] at h1;exact(bT h1).symm
  subst this;exact⟨t',rfl⟩
 have hl:(z.cps.toList.map λc=>V.str ⟨#[c]⟩).length<=sizeLine:=by simpa using hz2
 exact⟨.ref s.heap.objs.size,_,I.laid kp (aB _) (show dI X.prog X.w _ h' _ (.lst _) from ⟨hl,acc'.toList,c',hv,by simpa using e'⟩),rfl,q _ (I.hok.fresh (aB _))⟩
end
abbrev Gq (h:Heap) (l:Addr):Heap:=h.push { cls:=.type "list_iterator",data:=.fields #[.ref l,.int 0 0] }
abbrev Gp (h:Heap) (l:Addr) (z:Str) (t:Tok):Heap:=(Gq h l).push { cls:=.type "str_ascii_iterator",data:=.fields #[.str z t,.int 0 0] }
abbrev Gn (h:Heap) (l:Addr) (z:Str) (t:Tok):Heap:=(Gp h l z t).push { cls:=.type "tuple",data:=.seq #[.ref h.objs.size,.ref (Gq h l).objs.size] }
abbrev Gm (h:Heap) (l:Addr) (z:Str) (t:Tok):Heap:=(Gn h l z t).push { cls:=.type "tuple",data:=.seq #[.none,.none] }
abbrev Et (h:Heap) (l:Addr) (z:Str) (t:Tok):Heap:=(Gm h l z t).push { cls:=.type "zip",data:=.fields #[.none,.bool false,.bool false,.ref (Gp h l z t).objs.size,.ref (Gn h l z t).objs.size] }
theorem Bt (l1:Addr) (xs:Array Value) (z:Str) (t:Tok) (ha:z.cps.all (·<128)=true):Meets (Builtin.«zip.__new__» ⟨[.type "zip",.ref l1,.str z t],[]⟩) (λ_ R s=>s.heap.IsList l1 xs/\R (.ok (.ret (.ref (Gm s.heap l1 z t).objs.size))) { s with heap:=Et s.heap l1 z t }):=.of_wp λprog w A R s h=>by
  obtain⟨hp,g,d,tk,os⟩:=s;obtain⟨hl1,h⟩:=h;have hsub:=sub_zip;have hL1:Heap.IsList (Shared.heap ⟨hp,g,d,tk,os⟩) l1 xs:=hl1
  wp_walk using wpAny_pyIter_list hL1,wpAny_pyIter_ascii ha;exact⟨_,rfl,h⟩
theorem Ed{prog:Program}{w:World}{A:Around}{E:Value->Shared->Prop}{s:Shared}{l1:Addr}{xs:Array Value}{z:Str}{t:Tok}{Q:Value->Shared->Prop}(ha:z.cps.all (·<128)=true)(hl1:s.heap.IsList l1 xs)
  (h:∀h' n,n=s.heap.objs.size->IsZip h' (n+4) (n+2) (n+3) .none->IsPair h' (n+2) (.ref n) (.ref (n+1))->IsPair h' (n+3) .none .none->h'.IsListIter n l1 0->h'.IsStrIter (n+1) "str_ascii_iterator" z t 0->(∀c o,s.heap.get? c=some o->h'.get? c=some o)->Q (.ref (n+4)) { s with heap:=h' }):wpAny (model prog w) A (call (.type "zip") [.ref l1,.str z t]) Q E s:=by
 refine callType_new F.called_zip (by decide) (F.typeCall_zip_2 _ _) (F.newCall_zip_2 _ _) (λobj=>F.args_object_init_3 obj _ _) F.entry_zip_new (Bt l1 xs z t ha) ⟨hl1,?_⟩;have z1:(Gq s.heap l1).objs.size=s.heap.objs.size+1:=dW ..;have z2:(Gp s.heap l1 z t).objs.size=s.heap.objs.size+2:=by rw[dW,z1]
 have z3:(Gn s.heap l1 z t).objs.size=s.heap.objs.size+3:=by rw[dW,z2]
 have z4:(Gm s.heap l1 z t).objs.size=s.heap.objs.size+4:=by rw[dW,z3]
 have g5:(Et s.heap l1 z t).get? (Gm s.heap l1 z t).objs.size=some _:=aP _ rfl;have g4:(Et s.heap l1 z t).get? (Gn s.heap l1 z t).objs.size=some _:=aA _ (aP _ rfl);have g3:(Et s.heap l1 z t).get? (Gp s.heap l1 z t).objs.size=some _:=aA _ (aA _ (aP _ rfl));have g2:(Et s.heap l1 z t).get? (Gq s.heap l1).objs.size=some _:=aA _ (aA _ (aA _ (aP _ rfl)));have g1:(Et s.heap l1 z t).get? s.heap.objs.size=some _:=aA _ (aA _ (aA _ (aA _ (aP _ rfl))));show _/\_;rw[z2,z3,z4] at g5;rw[z1,z2] at g3;rw[z3] at g4;rw[z1] at g2;rw[z4];exact⟨⟨_,g5,rfl⟩,h _ _ rfl g5 g3 g4 ⟨_,g1,rfl,rfl⟩ ⟨_,g2,rfl,rfl⟩ λc o x=>aA _ (aA _ (aA _ (aA _ (aA _ x))))⟩
def C0(K:LU)(a:Addr)(z:Str):It:=
  ⟨λi H=>∃xs x,cy K H a xs/\xs[i]? = some x/\i<z.cps.size,
   λi H v H'=>∃p x c,H p=none/\(∀xs,cy K H a xs->xs[i]? = some x)/\z.cps[i]? = some c/\v=.ref p/\H'=upd H p (.tup [x,.str ⟨#[c]⟩]),
   λi H=>∃xs,cy K H a xs/\xs.length=i⟩
theorem wj {P : Program} {w : World} {K : LU} {elts : List Expr} {x1 : Nat} {pos : Pos} (n a : Addr) (ha : a < n) (z : Str) (t : Tok) :
    Turn P w K (.Tuple elts x1 pos) (C0 K a z) [n + 4, n + 2, n + 3, n, n + 1] (n + 4) (fun i h => IsZip h (n + 4) (n + 2) (n + 3) .none ∧ IsPair h (n + 2) (.ref n) (.ref (n + 1)) ∧ (∃ u v, IsPair h (n + 3) u v) ∧ h.IsListIter n a i ∧ h.IsStrIter (n + 1) "str_ascii_iterator" z t i) := by
  have hap : nQ (n + 4) (n + 2) (n + 3) n (n + 1) [n, a] [n + 1] := by
    have h1 : @LT.lt Nat _ a n := ha
    constructor <;> first
      | (intro h; simp only [aF, ba, or_false] at h; rcases h with h | h <;> (have h' : @Eq Nat _ _ := h; lia))
      | (intro h; simp only [aQ] at h; have h' : @Eq Nat _ _ := h; lia)
      | (intro h; have h' : @Eq Nat _ _ := h; lia)
  exact {
    mem := by simp
    obj := fun i h st c hb => by
      obtain ⟨h1, h2, ⟨u, v, h3⟩, ⟨o4, e4, c4, d4⟩, ⟨o5, e5, c5, d5⟩⟩ := st
      simp only [aF, ba, or_false] at hb
      rcases hb with rfl | rfl | rfl | rfl | rfl
      · exact ⟨_, h1, fun v z => by cases z⟩
      · exact ⟨_, h2, fun v z => by cases z⟩
      · exact ⟨_, h3, fun v z => by cases z⟩
      · exact ⟨o4, e4, fun v z => by rw [d4] at z; cases z⟩
      · exact ⟨o5, e5, fun v z => by rw [d5] at z; cases z⟩
    keep := fun i h h' st k => by
      obtain ⟨h1, h2, ⟨u, v, h3⟩, h4, ⟨o5, e5, r5⟩⟩ := st
      exact ⟨k _ (by simp) _ h1, k _ (by simp) _ h2, ⟨u, v, k _ (by simp) _ h3⟩, h4.at fun o e => k _ (by simp) o e, ⟨o5, k _ (by simp) o5 e5, r5⟩⟩
    item := by
      intro X hP hw hK hc i pins s σ H E I hf st hg
      subst hP hw hK
      obtain ⟨h1, h2, ⟨u0, v0, h3⟩, h4, h5⟩ := st
      obtain ⟨xs, x, hqa, hx, hi⟩ := hg
      obtain ⟨ia, ra, pa, _⟩ := I.list hqa
      obtain ⟨ua, hua, rua⟩ := ra.get hx
      have hA : X.A.in1.handled = none := I.ok.hd hc
      have la : i < ia.toArray.size := by rw [aH]; exact (aI.mp hua).1
      refine o0 (Draws.list hA n a (a9 ha) ia.toArray) (lN hA (n + 1) z t) hap h1 h2 h3 ⟨h4, pa.isList⟩ h5 la hi fun h' x' y' tk e1 e2 hz ho hi1 hi2 hp kp => ?_
      have e1' : x' = ua := by have : ia[i]? = some x' := by simpa using e1
                               rw [hua] at this; cases this; rfl
      obtain ⟨c, u, hcx, e2'⟩ := e2
      subst e1' e2'
      refine ⟨_, rfl, wpAny_letOwnedTupleGo_zip hz fun hh hz2 hs2 => ?_⟩
      have hn : H s.heap.objs.size = none := I.hok.fresh (aB _)
      have lz : s.heap.objs.size ≠ n + 4 := fT (aN h1)
      have ht2 : hh.get? s.heap.objs.size = some { cls := .type "tuple", data := .seq #[x', .str ⟨#[c]⟩ u] } := (hs2.2 _ lz).trans hp
      refine ⟨.ref s.heap.objs.size, upd H s.heap.objs.size (.tup [x, .str ⟨#[c]⟩]), I.turnNew (fp := [n + 4, n + 2, n + 3, n, n + 1]) hf (fun c o hb q => ?_) (aB _) (show dI X.prog X.w _ hh _ (.tup _) from ⟨(by show 2 ≤ sizeLine; decide), [x', .str ⟨#[c]⟩ u], .cons rua (.cons ⟨u, rfl⟩ .nil), _, ht2, rfl, _, rfl⟩), rfl, ⟨_, x, c, hn, fun zs hz => by rw [I.list_inj hz hqa]; exact hx, hcx, rfl, rfl⟩, ?_, fun c hb => ?_⟩
      · simp only [aF, ba, or_false, not_or] at hb
        exact (hs2.2 c hb.1).trans (kp c o hb.1 hb.2.2.1 hb.2.2.2.1 hb.2.2.2.2 q)
      · obtain ⟨o5, e5, r5⟩ := hi2
        exact ⟨hz2, (hs2.2 _ hap.tz).trans (kp _ _ hap.tz hap.to hap.ta hap.tb h2), ⟨_, _, (hs2.2 _ hap.oz).trans ho⟩, hi1.1.at fun o e => (hs2.2 _ hap.az).trans e, ⟨o5, (hs2.2 _ hap.bz).trans e5, r5⟩⟩
      · have hb' := (hf c hb).1
        rw [aX (fun z => ?_)]
        · exact hb'
        · have hz4 : @LT.lt Nat _ (n + 4) s.heap.objs.size := aN h1
          have z' : @Eq Nat c s.heap.objs.size := z
          simp only [aF, ba, or_false] at hb
          rcases hb with h | h | h | h | h <;> (have h' : @Eq Nat _ _ := h; lia)
    done := by
      intro X hP hw hK hc i pins s σ H E I hf st hg
      subst hP hw hK
      obtain ⟨h1, h2, ⟨u0, v0, h3⟩, h4, h5⟩ := st
      obtain ⟨xs, hqa, hx⟩ := hg
      obtain ⟨ia, ra, pa, _⟩ := I.list hqa
      have la := ra.length
      have hA : X.A.in1.handled = none := I.ok.hd hc
      have ei : ia.toArray.size = i := by rw [aH]; lia
      refine qL (Draws.list hA n a (a9 ha) ia.toArray) hap h1 h2 ⟨by rw [ei]; exact h4, pa.isList⟩ fun h' kp => ⟨rfl, I.turnAll (t' := s.toks) hf fun c o hb q => ?_⟩
      simp only [aF, ba, or_false, not_or] at hb
      exact kp c o hb.1 hb.2.2.2.1 q
    self := fun _ _ _ _ _ st h => LD st.1 h }
def Cz(K:LU)(ta:TA):TI:=λσ H R=>ta σ H λvs H1=>∃a z,vs=[.ref a,.str z]/\(∃xs,cy K H1 a xs)/\z.cps.all (·<128)=true/\R (C0 K a z) H1
theorem zf {X:Cx} {a b:Expr} {ta:TA} {elts:List Expr} {x1:Nat} {p pos tpos:Pos} (hg:Gl X "zip") (hm:X.mg "zip"=none) (ha:QA X [a,b] ta) (hs:starEach [a,b] X.env=(false,eval a X.env)::starEach [b] X.env:=by rfl) (hpl:(backTo pos (starEach [b] X.env)).any (·.1)=false:=by rfl) :
  QI X (.Tuple elts x1 tpos) (.Call (.Name "zip" p) [a,b] [] pos) (Cz X.K ta):=⟨by
 intro pins s σ H R I h;refine Call_ (jM I hg hm boot_zip (bY (dk (ha.h pos pins s σ H _ I h) λus s1 ⟨vs,H1,I1,r1,z1,z,e,⟨xs,hx⟩,hz,q⟩=>?_) hs hpl));subst e;obtain⟨u,u',rfl,r2,r3⟩:=vals2 r1;cases r2;obtain⟨t,rfl⟩:=r3;obtain⟨ia,ra,pa,_⟩:=I1.list hx;obtain⟨oa,hoa,_⟩:=id pa.isList;refine Ed hz pa.isList λh' n en hz hti hto hi1 hi2 kp=>?_;refine LD hz ?_;have I2:bW X pins σ H1 { s1 with heap:=h' }:=I1.kept (t':=s1.toks) kp;refine⟨_,_,_,_,H1,rfl,I2,wj n z1 (by rw[en];exact aN hoa) z t,⟨hz,hti,⟨_,_,hto⟩,hi1,hi2⟩,λb hb=>?_,q⟩;have hle:s1.heap.objs.size<=b:=by
  simp only[aF,ba,or_false] at hb;have en':@Eq Nat n s1.heap.objs.size:=en;show @LE.le Nat _ _ _;rcases hb with h | h | h | h | h<;>(have h':@Eq Nat _ _:=h;lia)
 exact I1.fpOk hle (I1.hok.fresh hle)⟩
theorem BG{K:LU}{σ:St}{H:Hp}{D:Ends}{ta:TA}{g:TG}{tb:TS}:n6 (Cz K ta) g tb D σ H=ta σ H λvs H1=>∃a z,vs=[.ref a,.str z]/\(∃xs,cy K H1 a xs)/\z.cps.all (·<128)=true/\lM (C0 K a z) g tb D σ H1:=rfl
theorem Ac{K:LU}{σ:St}{H:Hp}{D:Ends}{a:Addr}{xs:List V}{z:Str}{g:TG}{tb:TS}(hle:xs.length<=z.cps.size)(Pv:Nat->St->Hp->Prop)(h0:Pv 0 σ H)(hl:∀i σ H,Pv i σ H->cy K H a xs)
  (hs:∀i x c σ H p,xs[i]? = some x->z.cps[i]? = some c->Pv i σ H->H p=none->g (.ref p) σ (upd H p (.tup [x,.str ⟨#[c]⟩])) λσ2 H2=>tb { D with nx:=Pv (i+1),ct:=Pv (i+1),bk:=D.nx } σ2 H2) (hd:∀σ H,Pv xs.length σ H->D.nx σ H):lM (C0 K a z) g tb D σ H:=by
 refine⟨λi m σ H=>m+i=xs.length/\Pv i σ H,⟨xs.length,rfl,h0⟩,?_⟩;rintro i m σ H ⟨hm,hp⟩;have q1:=hl i σ H hp;by_cases hi:i<xs.length
 ·refine .inr ⟨⟨xs,xs[i],q1,by simp[hi],a7 hi hle⟩,Pv (i+1),λσ' H' h=>⟨m - 1,by lia,by lia,h⟩,?_⟩;rintro v H' ⟨p,x,c,hn,hx,hc,rfl,rfl⟩;exact hs i x c σ H p (hx xs q1) hc hp hn
 ·have e:i=xs.length:=by lia
  subst e;exact .inl ⟨⟨xs,q1,rfl⟩,hd σ H hp⟩
end L2
namespace Rm
open PySem L2 PyProof.Rows
def seg(ns:List Int)(s c:Nat):List Int:=((ns.take c).drop s).map (· - (s:Int))
theorem cY{α β:Type}{R T:α->β->Prop}(f:∀a b,R a b->T a b):∀{xs:List α} {ys:List β},Paired R xs ys->Paired T xs ys
 | _,_,.nil=>.nil
 | _,_,.cons r t=>.cons (f _ _ r) (cY f t)
theorem kF{α β:Type}{R:α->β->Prop}:∀{xs:List α} {ys:List β},Paired R xs ys->xs.length=ys.length
 | _,_,.nil=>rfl
 | _,_,.cons _ t=>congrArg (·+1) (kF t)
theorem paired_get{α β:Type}{R:α->β->Prop}:∀{xs:List α} {ys:List β},Paired R xs ys->∀{i:Nat} {x:α},xs[i]? = some x->∃y,ys[i]? = some y/\R x y
 | _,_,.nil,i,x,h=>by simp at h
 | _,_,.cons r t,0,x,h=>by simp at h;subst h;exact⟨_,rfl,r⟩
 | _,_,.cons r t,i+1,x,h=>paired_get t (by simpa using h)
def vj(K:LU):Sp:=λvs H Q _=>∃(a:Addr) (ns:List Int) (k:Nat),vs=[.ref a,.int k]/\cy K H a (ns.map V.int)/\∀v:Int,Q (.int v) H
end Rm
namespace Rm
open PySem L2
def tx(cs:List Nat):Str:=⟨cs.toArray⟩
def pT(c:Nat):V:=V.str ⟨#[c]⟩
theorem cK(cs:List Nat):(tx cs).length=cs.length:=by simp[tx,Str.length]
theorem my(cs:List Nat):(tx cs).cps.toList=cs:=by simp[tx]
theorem nk(cs:List Nat):(tx cs).cps.size=cs.length:=by simp[tx]
theorem eG(a b:List Nat):tx a++tx b=tx (a++b):=by
 show Str.mk _=Str.mk _;simp[tx]
theorem Dd{a b:List Nat}(h:tx a=tx b):a=b:=by
 have:=congrArg (λz:Str=>z.cps.toList) h;simpa [tx] using this
theorem zM(z:Str):z=tx z.cps.toList:=by cases z;simp[tx]
theorem mI(c:Nat):(⟨#[c]⟩:Str)=tx [c]:=rfl
theorem zb:Str.ofString "|"=tx [124]:=by decide +kernel
theorem qj:Str.ofString "("=tx [40]:=by decide +kernel
theorem sV:Str.ofString ")"=tx [41]:=by decide +kernel
theorem pW:Str.ofString "*"=tx [42]:=by decide +kernel
theorem HL:Str.ofString "**"=tx [42,42]:=by decide +kernel
theorem HN:Str.ofString "()"=tx [40,41]:=by decide +kernel
theorem Fu:Str.ofString "(|)"=tx [40,124,41]:=by decide +kernel
theorem HM:Str.ofString "*|"=tx [42,124]:=by decide +kernel
theorem HP:Str.ofString "|*"=tx [124,42]:=by decide +kernel
theorem Fv:Str.ofString ""=tx []:=by decide +kernel
theorem IX:Str.ofString "a"=tx [97]:=by decide +kernel
theorem IW:Str.ofString "b"=tx [98]:=by decide +kernel
theorem IV:Str.ofString "c"=tx [99]:=by decide +kernel
theorem IU:Str.ofString "d"=tx [100]:=by decide +kernel
theorem IT:Str.ofString "l"=tx [108]:=by decide +kernel
theorem iI{a b:Nat}:((⟨#[a]⟩:Str)=tx [b])=(a=b):=propext ⟨λh=>by have:=Dd (show tx [a]=tx [b] from h);simpa using this,λh=>by rw[h];rfl⟩
theorem zC{cs:List Nat}(h:∀c∈cs,c<128):(tx cs).cps.all (·<128)=true:=by
 rw[<-Array.all_toList,my,List.all_eq_true];intro c hc;exact LP (h c hc)
theorem F4{cs:List Nat}{i:Nat}{c:Nat}(h:cs[i]? = some c):uC (tx cs).cps.toList (i:Int)=some c:=by rw[my];exact l4 h
theorem w4(c:Nat):∀(a b:List Nat),PyProof.Rows.cnt c (a++b)=PyProof.Rows.cnt c a+PyProof.Rows.cnt c b
 | [],b=>by rw[PyProof.Rows.cnt_nil,ay];lia
 | x::a,b=>by rw[eO,fH,fH,w4 c a b];lia
theorem rS{c:Nat}:∀{a:List Nat},c∉a->PyProof.Rows.cnt c a=0
 | [],_=>PyProof.Rows.cnt_nil c
 | x::a,h=>by
  simp only[aF,not_or] at h;rw[fH,rS h.2,LL (cH h.1)];rfl
theorem CL{A B:List Nat}(hA:124∉A):∀(X Y:List Nat),124∉X->X++124::Y=A++124::B->X=A/\Y=B:=by
 induction A with
 | nil=>
  intro X Y hX e;cases X with
  | nil=>simpa using e
  | cons x X=>simp at e hX;exact absurd e.1.symm hX.1
 | cons a A ih=>
  intro X Y hX e;simp only[aF,not_or] at hA;cases X with
  | nil=>simp at e;exact absurd e.1 hA.1
  | cons x X=>
   simp only[eO,kT] at e;simp only[aF,not_or] at hX;obtain⟨h1,h2⟩:=ih hA.2 X Y hX.2 e.2;exact⟨by rw[e.1,h1],h2⟩
theorem wt{A B:List Nat}(hA:124∉A)(hB:124∉B):Txt.split (tx (A++124::B)) (tx [124])=[tx A,tx B]:=by
 have hc:Rm.tx [124]=(⟨#[124]⟩:Str):=rfl;rw[hc];have hl:=PyProof.Rows.split_len (tx (A++124::B)) 124;have hf:=StrLaws.split_free (tx (A++124::B)) 124;have hj:=StrLaws.join_split (tx (A++124::B)) ⟨#[124]⟩;rw[my,w4,fH,rS hA,rS hB,LM rfl] at hl;generalize Txt.split (tx (A++124::B)) ⟨#[124]⟩=l at *;have h2:l.length=2:=by lia
 obtain⟨p,r,rfl⟩:=aq h2;obtain⟨q,r,rfl⟩:=aq (l:=r) (n:=0) (by simpa using h2);have:r=[]:=eU (by simpa using h2);subst this;have fp:=hf p (by simp);have e:p.cps.toList++124::q.cps.toList=A++124::B:=by
  have hj':p++(⟨#[124]⟩:Str)++q=tx (A++124::B):=hj;have:=congrArg (λz:Str=>z.cps.toList) hj';rw[my] at this;rw[<-this];show _=(p.cps++#[124]++q.cps).toList;simp
 obtain⟨e1,e2⟩:=CL hA _ _ fp e;rw[zM p,zM q,e1,e2]
theorem Az{n:Nat}:Builtin.Str.strSliceIndices none (some (-1)) 1 n=List.range (n - 1):=by
 unfold Builtin.Str.strSliceIndices sliceRange;simp only[show (1:Int) > 0 by decide,LR,show (-1:Int)<0 by decide];have e:max 0 (min (-1+(n:Int)) (n:Int))=((n - 1:Nat):Int):=by lia
 rw[e];have e2:(if (0:Int)<((n - 1:Nat):Int) then (((n - 1:Nat):Int) - 0+1 - 1) / 1 else 0).toNat=n - 1:=by split<;>lia
 rw[e2];have e3:(λk:Nat=>(0+1*(k:Int)).toNat)=id:=by funext k;show (0+1*(k:Int)).toNat=k;lia
 rw[e3,List.map_id]
theorem BA{n p:Nat}(h:p<=n):Builtin.Str.strSliceIndices (some (p:Int)) none 1 n=(List.range (n-p)).map (p+·):=by
 unfold Builtin.Str.strSliceIndices sliceRange;simp only[show (1:Int) > 0 by decide,LR];have e:max 0 (min (if (p:Int)<0 then (p:Int)+n else p) (n:Int))=p:=by rw[LL (by lia)];lia
 rw[e];have e2:(if (p:Int)<n then ((n:Int)-p+1 - 1) / 1 else 0).toNat=n-p:=by split<;>lia
 rw[e2];refine cB λk _=>?_;show ((p:Int)+1*(k:Int)).toNat=p+k;lia
theorem qY{α:Type}(l:List α):∀p,p<=l.length->(List.range p).filterMap (λi=>l[i]?)=l.take p
 | 0,_=>rfl
 | p+1,h=>by
  rw[dr,List.filterMap_append,qY l p (by lia),bD];have:l[p]? = some l[p]:=aS (by lia);simp[this]
theorem BB{α:Type}(l:List α)(p:Nat)(h:p<=l.length):((List.range (l.length-p)).map (p+·)).filterMap (λi=>l[i]?)=l.drop p:=by
 rw[List.filterMap_map];have e:((λi=>l[i]?)∘λx=>p+x)=λj=>(l.drop p)[j]?:=by funext j;show l[p+j]? = _;rw[List.getElem?_drop]
 rw[e,qY _ _ (by rw[cU];lia),bZ (by rw[cU];lia)]
theorem zB(cs:List Nat):(λi:Nat=>(tx cs).cps[i]?)=λi=>cs[i]?:=by funext i;simp[tx]
theorem BL{P:List Nat}{c:Nat}:Txt.slice (tx (P++[c])) none (some (-1))=tx P:=by
 unfold Txt.slice;rw[cK,Az];have e:(P++[c]).length - 1=P.length:=by simp
 rw[e]
 split
 ·rename_i h;simp at h
 ·rw[zB,qY _ _ (by simp),List.take_left];rfl
theorem BM{cs:List Nat}{p:Nat}(h:p<=cs.length):Txt.slice (tx cs) (some (p:Int)) none=tx (cs.drop p):=by
 unfold Txt.slice;rw[cK,BA h]
 split
 ·rename_i c;have:cs.length-p=cs.length:=by simpa using c
  have hz:p=0\/cs.length=0:=by lia
  rcases hz with rfl | hz
  ·rfl
  ·have:=cw.mp hz;subst this;simp
 ·rw[zB,BB _ _ h];rfl
theorem xu{α:Type}{P:List α}{c:α}:uC (P++[c]) (-1)=some c:=by
 unfold uC Av;have e:(P++[c]).length=P.length+1:=by simp
 rw[e,LL (by decide),LM (by lia)];show (P++[c])[(-1+((P.length+1:Nat):Int)).toNat]? = some c;rw[show (-1+((P.length+1:Nat):Int)).toNat=P.length by lia];simp
theorem Aj{xs:List V}{k:Nat}(h:k<=xs.length):mj xs none (some (k:Int))=xs.take k:=by
 unfold mj;rw[HT.sIx_nat,HT.sIx_none,fe h];rfl
theorem pA{xs:List V}{k:Nat}(h:k<=xs.length):mj xs (some (k:Int)) none=xs.drop k:=by
 unfold mj;rw[HT.sIx_nat,HT.sIx_none,show min k xs.length=k by lia];exact bZ (by rw[cU];lia)
theorem v6:∀(cs:List Nat) (acc:Array Nat),(cs.map λc=>(⟨#[c]⟩:Str)).foldl (λacc p=>acc++(Str.ofString "").cps++p.cps) acc=acc++cs.toArray
 | [],acc=>by simp
 | c::cs,acc=>by
  rw[aZ,iK,v6 cs];have:(Str.ofString "").cps=#[]:=by decide +kernel
  rw[this];simp
theorem v5 (cs:List Nat):Txt.join (Str.ofString "") (cs.map λc=>(⟨#[c]⟩:Str))=tx cs:=by
 cases cs with
 | nil=>rfl
 | cons c cs=>
  show Str.mk (((((c::cs).map λc=>(⟨#[c]⟩:Str)).drop 1).foldl (λacc p=>acc++(Str.ofString "").cps++p.cps) (((c::cs).map λc=>(⟨#[c]⟩:Str)).headD Str.empty).cps))=_;rw[aZ,List.drop_one,List.tail_cons,List.headD_cons,v6];simp[tx]
theorem pp {cs:List Nat} (hl:cs.length<=900):JoinOk (Str.ofString "") (cs.map λc=>(⟨#[c]⟩:Str))=true:=by
 unfold JoinOk;have e:Builtin.Str.tooLong ((cs.map λc=>(⟨#[c]⟩:Str)).toArray.foldl (λa t=>a+t.length+(Str.ofString "").length) 0)=false:=by
  have h0:∀(cs:List Nat) (a:Nat),(cs.map λc=>(⟨#[c]⟩:Str)).foldl (λa t=>a+t.length+(Str.ofString "").length) a=a+cs.length:=by
   intro cs
   induction cs with
   | nil=>intro a;rfl
   | cons b cs ih=>
    intro a;rw[aZ,iK,ih];have h1:(⟨#[b]⟩:Str).length=1:=rfl;have h2:(Str.ofString "").length=0:=by decide +kernel
    rw[h1,h2,bb];lia
  rw[List.foldl_toArray',h0];unfold Builtin.Str.tooLong;exact LO (by have:=cS (n:=0+cs.length) (by lia);lia);simp
 rw[e];rfl
def EF:Option (List Int×List Int)->V
 | none=>.non
 | some (L,R)=>.str (tx (mR L R))
def lE(c:Nat):Prop:=c=97\/c=98\/c=99\/c=100
def mV(c:Nat):List Int×List Int:=if c=108 then ([0],[]) else ([],[0])
def qg:Sp:=λvs H Q _=>∃c:Nat,vs=[.str ⟨#[c]⟩]/\Q (.str (tx (mR (mV c).1 (mV c).2))) H
def sK:Sp:=λvs H Q _=>∃(a:Addr) (cs:List Nat) (p q:Nat),vs=[.ref a,.int (p:Nat)]/\H a=some (.lst (cs.map pT))/\cs.length<=900/\yL cs p q/\Q (.int (q:Nat)) H
def vi:Sp:=λvs H Q _=>∃(L R:List Int) (x y:Int),vs=[.str (tx (bm [] (L++[x]))),.str (tx (bm (L++[x]) (R++[y]).reverse))]/\EE (L++[x]) (R++[y])/\L.length+R.length<=400/\∀H',ao H H'->Q (EF (eL (L++[x]) (R++[y]) 100)) H'
def uN:Sp:=λvs H Q _=>∃(L R:List Int) (c:Nat),vs=[.str (tx (mR L R)),.str ⟨#[c]⟩]/\lE c/\EE L R/\L.length+R.length<=400/\∀H',ao H H'->Q (EF (eL L R c)) H'
def sL:Sp:=λvs H Q _=>∃n:Int,vs=[.int n]/\∀m:Int,0<=m->m<2 ^ 61->Q (.int m) H
def vh:Sp:=λvs H Q _=>∃n:Int,vs=[.int n]/\∀m:Int,Q (.int m) H
theorem ve(L R:List Int):(mR L R).length=L.length+R.length+1:=by unfold mR;simp[cM];lia
theorem AJ(pre A:List Int):124∉bm pre A:=λh=>by have:=zY A pre 124 h;lia
section
variable {K:LU} {H:Hp} {Q:VK} {a b:Addr} {xs ys:List V}
theorem EL{R:Addr->Hp->Prop}{o:HO}(q:∀p H',H p=none->ao H H'->H' p=some o->R p H'):∀p,H p=none->R p (upd H p o):=λp hp=>q p _ hp ((ao.refl H).new hp) aG
theorem G4(ha:H a=some (.lst xs))(hb:H b=some (.lst ys))(hz:xs.length+ys.length<=1000)(q:∀p H',H p=none->ao H H'->H' p=some (.lst (xs++ys))->Q (.ref p) H'):GG (.ref a) (.ref b) H Q:=
 ⟨a,b,xs,ys,rfl,rfl,ha,hb,cN (cS hz),EL (R:=λp H'=>Q (.ref p) H') q⟩
theorem Dq{k:Nat}(ha:H a=some (.lst xs))(h:k<=xs.length)(q:∀p H',H p=none->ao H H'->H' p=some (.lst (xs.take k))->Q (.ref p) H'):Dz K (.ref a) none (some (k:Int)) H Q:=
 ⟨a,xs,rfl,cy.of ha,by rw[Aj h];exact EL (R:=λp H'=>Q (.ref p) H') q⟩
theorem zU{k:Nat}(ha:H a=some (.lst xs))(h:k<=xs.length)(q:∀p H',H p=none->ao H H'->H' p=some (.lst (xs.drop k))->Q (.ref p) H'):Dz K (.ref a) (some (k:Int)) none H Q:=
 ⟨a,xs,rfl,cy.of ha,by rw[pA h];exact EL (R:=λp H'=>Q (.ref p) H') q⟩
end
theorem nv{n:Nat}(h:n<=900):n<=sizeLine:=cN (cS (by lia))
theorem jv{K:LU}{H:Hp}{cs:List Nat}(h:cs.length<=900):Eg K (.str (tx cs)) H (!cs.isEmpty):=by
 refine⟨by rw[cK];exact nv h,?_⟩;rw[cK];cases cs with
 | nil=>rfl
 | cons a cs=>
  show true=(((cs.length+1:Nat):Int) != 0)
  have:((cs.length+1:Nat):Int)≠0:=by lia
  simp[bne,this];lia
theorem A0 {K:LU} {H:Hp} {t:Addr} {a b:Nat} {Q:VK} (ha:a=40\/a=41\/a=42) (hb:b=40\/b=41\/b=42) (h:H t=some (.tup [pT a,pT b])) (q:Q (.bl (decide (a=42) || decide (b=42))) H):GD K false (.str (Str.ofString "*")) (.ref t) H Q:=by
 refine⟨.str (Str.ofString "*"),[.str ⟨#[a]⟩,.str ⟨#[b]⟩],t,_,.str _,rfl,.inr (eR.of h),.cons (.str _) (.cons (.str _) .nil),by decide +kernel,(by rcases ha with rfl | rfl | rfl<;>rcases hb with rfl | rfl | rfl<;>decide +kernel),by decide +kernel,?_⟩;have e:∀c:Nat,PyData.eqv (.str ⟨#[c]⟩) (.str (Str.ofString "*"))=decide (c=42):=λc=>by
  show decide ((⟨#[c]⟩:Str)=Str.ofString "*")=_;rw[pW];exact decide_eq_decide.mpr (by rw[iI])
 show Q (.bl (PyData.eqv (.str ⟨#[a]⟩) (.str (Str.ofString "*")) || (PyData.eqv (.str ⟨#[b]⟩) (.str (Str.ofString "*")) || false))) H;rw[e,e,mC];exact q
theorem zo{ms:List Int}{a b:Nat}(hp:ms.Perm [(a:Int),(b:Int)])(hs:ms.Pairwise (·<=·)):ms=[((min a b:Nat):Int),((max a b:Nat):Int)]:=by
 have hl:=hp.length_eq
 match ms,hl with
 | [u,v],_=>
  have h1:u=a\/u=b:=by simpa using hp.mem_iff.mp (by simp:u∈[u,v])
  have h2:v=a\/v=b:=by simpa using hp.mem_iff.mp (by simp:v∈[u,v])
  have h3:(a:Int)=u\/(a:Int)=v:=by simpa using hp.mem_iff.mpr (by simp:(a:Int)∈[(a:Int),(b:Int)])
  have h4:(b:Int)=u\/(b:Int)=v:=by simpa using hp.mem_iff.mpr (by simp:(b:Int)∈[(a:Int),(b:Int)])
  have h5:u<=v:=by simpa using hs
  have e1:u=((min a b:Nat):Int):=by lia
  have e2:v=((max a b:Nat):Int):=by lia
  rw[e1,e2]
theorem zZ(cs:List Nat)(i c:Nat):(cs.map pT).set i (V.str ⟨#[c]⟩)=(cs.set i c).map pT:=by rw[List.map_set];rfl
theorem vn(cs:List Nat):cs.map pT=(cs.map λc=>(⟨#[c]⟩:Str)).map V.str:=by rw[b9];rfl
end Rm
namespace L2
open PySem PySem.Spec PyProof.Rows
theorem lX {X:Cx} {x:Str} {z:Str} {pos:Pos} (hg:Gl X x) (hm:∃t,X.mg x=some (.str z t)) (hd:(x==("__debug__":Str))=false:=by decide):QE X (.Name x pos) (tC (.str z)):=
 let ⟨t,h⟩:=hm
 ⟨qu hg h ⟨t,rfl⟩ hd⟩
theorem BI{k:Nat}{caps:List Nat}{tl:TE}{g:TG}{tf:TT}{te:TE}{σ:St}{H:Hp}{Q:VK}:lm k caps (E9 tl) g tf te σ H Q=tl σ H λx H1=>∃z,x=.str z/\z.cps.all (·<128)=true/\ju (Gg z) g tf te Q (gz k caps σ) H1:=rfl
end L2
namespace Rm
open PySem L2
theorem Am:∀(n:Nat) (L R:List Int),lj n L R<=4 ^ n
 | 0,L,R=>by simp only[lj];split<;>simp
 | n+1,L,R=>by
  have key:∀o,pG n o<=4 ^ n:=λo=>by
   rcases o with _ | ⟨a,b⟩
   ·exact a6 _
   ·exact Am n a b
  rw[nM,Nat.pow_succ];have h1:=key (eL L R 97);have h2:=key (eL L R 98);have h3:=key (eL L R 99);have h4:=key (eL L R 100);lia
def uO:Sp:=λvs H Q _=>∃(L R:List Int),vs=[.str (tx (mR L R))]/\L.length+R.length<=400/\Q (.int ((L.length+R.length:Nat):Int)) H
def sP:Sp:=λvs H Q _=>∃(L R:List Int) (n:Nat),vs=[.str (tx (mR L R)),.int (n:Nat)]/\L.length+R.length<=400/\n<=100/\Q (.bl (decide (L.length+R.length<=2*n+1))) H
end Rm
set_option maxHeartbeats 400000
namespace Rm
def gS(L R:List Int):List Nat->Nat->Option Nat
 | [],i=>if L.length+R.length=1 then none else some i
 | c::cs,i=>match eL L R c with | none=>some i | some p=>gS p.1 p.2 cs (i+1)
theorem mZ{L R:List Int}{c:Nat}{cs:List Nat}{i:Nat}(h:eL L R c=none):gS L R (c::cs) i=some i:=by simp only[gS,h]
theorem lS{L R L' R':List Int}{c:Nat}{cs:List Nat}{i:Nat}(h:eL L R c=some (L',R')):gS L R (c::cs) i=gS L' R' cs (i+1):=by simp only[gS,h]
def isIn(k:Bool)(c:Nat):Bool:=c==97 || (if k then c==99 else c==98)
def jL(m:Nat->Option Nat)(a b:Nat):Nat->Option Nat:=λx=>if x=a then some b else if x=b then some a else m x
abbrev xw:=List Nat×(Nat->Option Nat)
def pP(k:Bool)(s:xw)(row c:Nat):xw:=if isIn k c then (s.1++[row],s.2) else match s.1.getLast? with | some o=>(s.1.dropLast,jL s.2 row o) | none=>s
def vf(k b:Bool):xw:=(if k=b then [0] else [],λ_=>none)
def stN(k b:Bool)(cs:List Nat):Nat->xw
 | 0=>vf k b
 | i+1=>pP k (stN k b cs i) (i+1) (cs.getD i 0)
theorem qd{k:Bool}{s:xw}{row c:Nat}(h:isIn k c=true):pP k s row c=(s.1++[row],s.2):=by unfold pP;rw[LM h]
theorem nu{k:Bool}{s:xw}{P:List Nat}{o row c:Nat}(h:isIn k c=false)(e:s.1=P++[o]):pP k s row c=(P,jL s.2 row o):=by
 unfold pP;rw[LL (by rw[h];decide),e];simp
structure uF (k b:Bool) (i:Nat) (s:xw):Prop where
 nd:s.1.Nodup
 le:∀ x∈s.1,x<=i
 out:∀ x∈s.1,s.2 x=none
 sym:∀ x y,s.2 x=some y->s.2 y=some x
 irr:∀ x y,s.2 x=some y->y≠x
 bd:∀ x y,s.2 x=some y->x<=i
 tot:∀ x,x<=i->(x=0->k=b)->x∈s.1\/∃ y,s.2 x=some y
 z:k≠b->0∉s.1/\s.2 0=none
theorem uF.zero(k b:Bool):uF k b 0 (vf k b):=by
 unfold vf;refine⟨?_,λx h=>?_,λ_ _=>rfl,λ_ _ h=>(by cases h),λ_ _ h=>(by cases h),λ_ _ h=>(by cases h),λx hx h=>.inl ?_,λh=>⟨?_,rfl⟩⟩
 ·dsimp only;split<;>simp
 ·dsimp only at h;split at h<;>simp at h;lia
 ·have hx0:x=0:=by lia
  dsimp only;rw[LM (h hx0),hx0];simp
 ·dsimp only;rw[LL h];simp
theorem o9{l:List Nat}(h:l≠[]):∃P x,l=P++[x]:=⟨l.dropLast,l.getLast h,(d8 h).symm⟩
theorem uF.step{k b:Bool}{i c:Nat}{s:xw}(I:uF k b i s)(h:isIn k c=false->s.1≠[]):uF k b (i+1) (pP k s (i+1) c):=by
 have new:s.2 (i+1)=none:=by
  cases e:s.2 (i+1) with
  | none=>rfl
  | some y=>have:=I.bd _ _ e;lia
 by_cases hc:isIn k c=true
 ·rw[qd hc];refine⟨?_,λx hx=>?_,λx hx=>?_,I.sym,I.irr,λx y e=>by have:=I.bd x y e;lia,λx hx h0=>?_,λhk=>⟨?_,(I.z hk).2⟩⟩
  ·rw[gI];refine⟨I.nd,by simp,λa ha b hb e=>?_⟩;have:=I.le a ha;simp at hb;lia
  ·rcases aE.mp hx with h1 | h1
   ·have:=I.le x h1;lia
   ·simp at h1;lia
  ·rcases aE.mp hx with h1 | h1
   ·exact I.out x h1
   ·simp at h1;subst h1;exact new
  ·by_cases e:x=i+1
   ·exact .inl (by subst e;simp)
   ·rcases I.tot x (by lia) h0 with h1 | h1
    ·exact .inl (ae _ h1)
    ·exact .inr h1
  ·intro z;rcases aE.mp z with h1 | h1
   ·exact(I.z hk).1 h1
   ·simp at h1
 ·have hc':isIn k c=false:=by simpa using hc
  obtain⟨P,o,e⟩:=o9 (h hc');rw[nu hc' e];have om:o∈s.1:=by rw[e];simp
  have ole:=I.le o om;have on:=I.out o om;have nd:=I.nd;rw[e,gI] at nd;have onP:o∉P:=λz=>nd.2.2 o z o (by simp) rfl;have inP:∀x∈P,x∈s.1:=λx hx=>by rw[e];exact ae _ hx
  have ms:∀x y,jL s.2 (i+1) o x=some y->(x=i+1/\y=o)\/(x=o/\y=i+1)\/(x≠i+1/\x≠o/\s.2 x=some y):=λx y h=>by
   unfold jL at h
   split at h
   ·rename_i z;cases h;exact .inl ⟨z,rfl⟩
   ·split at h
    ·rename_i z;cases h;exact .inr (.inl ⟨z,rfl⟩)
    ·rename_i z1 z2;exact .inr (.inr ⟨z1,z2,h⟩)
  have mo:∀x,x≠i+1->x≠o->jL s.2 (i+1) o x=s.2 x:=λx h1 h2=>by unfold jL;rw[LL h1,LL h2]
  refine⟨nd.1,λx hx=>by have:=I.le x (inP x hx);lia,λx hx=>?_,λx y h=>?_,λx y h=>?_,λx y h=>?_,λx hx h0=>?_,λhk=>⟨λz=>(I.z hk).1 (inP 0 z),?_⟩⟩<;>dsimp only at *
  ·have:=I.le x (inP x hx);rw[mo x (by lia) (λz=>onP (z▸hx))];exact I.out x (inP x hx)
  ·rcases ms x y h with ⟨rfl,rfl⟩ | ⟨rfl,rfl⟩ | ⟨h1,h2,h3⟩
   ·unfold jL;rw[LL (by lia),LM rfl]
   ·unfold jL;rw[LM rfl]
   ·have hy:=I.sym x y h3;rw[mo y (λz=>by rw[z,new] at hy;cases hy) (λz=>by rw[z,on] at hy;cases hy)];exact hy
  ·rcases ms x y h with ⟨rfl,rfl⟩ | ⟨rfl,rfl⟩ | ⟨h1,h2,h3⟩
   ·lia
   ·lia
   ·exact I.irr x y h3
  ·rcases ms x y h with ⟨rfl,rfl⟩ | ⟨rfl,rfl⟩ | ⟨h1,h2,h3⟩
   ·lia
   ·lia
   ·have:=I.bd x y h3;lia
  ·by_cases z1:x=i+1
   ·exact .inr ⟨o,by unfold jL;rw[LM z1]⟩
   ·by_cases z2:x=o
    ·exact .inr ⟨i+1,by unfold jL;rw[LL z1,LM z2]⟩
    ·rcases I.tot x (by lia) h0 with h1 | ⟨y,h1⟩
     ·rw[e] at h1;rcases aE.mp h1 with h2 | h2
      ·exact .inl h2
      ·simp at h2;exact absurd h2 z2
     ·exact .inr ⟨y,by rw[mo x z1 z2];exact h1⟩
  ·rw[mo 0 (by lia) (λz=>(I.z hk).1 (z▸om))];exact(I.z hk).2
theorem qb{k:Bool}{s:xw}{row c:Nat}:(pP k s row c).1.length=if isIn k c then s.1.length+1 else s.1.length - 1:=by
 unfold pP
 split
 ·simp
 ·cases e:s.1.getLast? with
  | none=>simp at e;simp[e]
  | some o=>simp
theorem ot{L R L' R':List Int}{c:Nat}(hc:c=97\/c=98\/c=99\/c=100)(h:eL L R c=some (L',R')):
  (isIn false c=false->L≠[])/\(isIn true c=false->R≠[])/\L'.length=(if isIn false c then L.length+1 else L.length - 1)/\R'.length=(if isIn true c then R.length+1 else R.length - 1):=by
 rcases hc with rfl | rfl | rfl | rfl
 ·simp only[eL,LR,Option.some.injEq,fc] at h;obtain⟨rfl,rfl⟩:=h;simp[isIn]
 ·by_cases hR:R=[]
  ·subst hR;rw[rJ] at h;cases h
  ·obtain⟨Q,v,rfl⟩:=dO hR;rw[tW] at h;cases h;simp[isIn]
 ·by_cases hL:L=[]
  ·subst hL;rw[rH] at h;cases h
  ·obtain⟨P,v,rfl⟩:=dO hL;rw[tV] at h;cases h;simp[isIn]
 ·by_cases hL:L=[]
  ·subst hL;rw[rG] at h;cases h
  ·by_cases hR:R=[]
   ·subst hR;rw[rF] at h;cases h
   ·obtain⟨P,x,rfl⟩:=dO hL;obtain⟨Q,y,rfl⟩:=dO hR;rw[tU] at h;by_cases e:x=y
    ·rw[LM e] at h;cases h
    ·rw[LL e] at h;cases h;simp[isIn]
structure Run (b:Bool) (cs:List Nat) (i:Nat) (L R:List Int):Prop where
 ee:EE L R
 li:uF false b i (stN false b cs i)
 ri:uF true b i (stN true b cs i)
 ll:(stN false b cs i).1.length=L.length
 rl:(stN true b cs i).1.length=R.length
theorem Run.step{b:Bool}{cs:List Nat}{i c:Nat}{L R L' R':List Int}(h:Run b cs i L R)(e:cs[i]? = some c)(hc:c=97\/c=98\/c=99\/c=100)(g:eL L R c=some (L',R')):Run b cs (i+1) L' R':=by
 obtain⟨n1,n2,s1,s2⟩:=ot hc g;have eg:cs.getD i 0=c:=by rw[bf,e];rfl
 have k1:isIn false c=false->(stN false b cs i).1≠[]:=λz=>by have:=c9.mpr (n1 z);exact c9.mp (by rw[h.ll];exact this)
 have k2:isIn true c=false->(stN true b cs i).1≠[]:=λz=>by have:=c9.mpr (n2 z);exact c9.mp (by rw[h.rl];exact this)
 refine⟨h.ee.go hc g,?_,?_,?_,?_⟩
 ·show uF false b (i+1) (pP false _ _ _);rw[eg];exact h.li.step k1
 ·show uF true b (i+1) (pP true _ _ _);rw[eg];exact h.ri.step k2
 ·show (pP false _ _ _).1.length=_;rw[eg,qb,s1,h.ll]
 ·show (pP true _ _ _).1.length=_;rw[eg,qb,s2,h.rl]
theorem Run.zero(b:Bool)(cs:List Nat):Run b cs 0 (if b then [] else [0]) (if b then [0] else []):=by
 cases b
 ·exact⟨EE.one,.zero _ _,.zero _ _,rfl,rfl⟩
 ·exact⟨EE.two,.zero _ _,.zero _ _,rfl,rfl⟩
def rL(n:Nat)(s:xw)(x:Nat):Option Nat:=if x∈s.1 then some (n+1) else s.2 x
structure DR (n:Nat) (b:Bool) (f:Bool->Nat->Option Nat):Prop where
 sym:∀ k x y,f k x=some y->y<=n->f k y=some x
 irr:∀ k x y,f k x=some y->x<=n->y≠x
 tot:∀ k x,x<=n->(x=0->k=b)->∃ y,f k x=some y/\y<=n+1
 z:f (!b) 0=none
def fin2(b:Bool)(cs:List Nat)(k:Bool):Nat->Option Nat:=rL cs.length (stN k b cs cs.length)
theorem EU{b:Bool}{cs:List Nat}(h:∀k,uF k b cs.length (stN k b cs cs.length)):DR cs.length b (fin2 b cs):=by
 refine⟨λk x y e hy=>?_,λk x y e hx=>?_,λk x hx h0=>?_,?_⟩
 ·unfold fin2 rL at e ⊢
  split at e
  ·cases e;lia
  ·have e2:=(h k).sym x y e;rw[LL (λz=>by rw[(h k).out y z] at e2;cases e2)];exact e2
 ·unfold fin2 rL at e
  split at e
  ·cases e;lia
  ·exact(h k).irr x y e
 ·unfold fin2 rL
  split
  ·exact⟨_,rfl,by lia⟩
  ·rename_i nx;rcases(h k).tot x hx h0 with h1 | ⟨y,h1⟩
   ·exact absurd h1 nx
   ·exact⟨y,h1,by have:=(h k).bd y x ((h k).sym x y h1);lia⟩
 ·unfold fin2 rL;have:=(h (!b)).z (by cases b<;>decide);rw[LL this.1];exact this.2
def pth(f:Bool->Nat->Option Nat)(b:Bool):Nat->Nat×Bool
 | 0=>(0,b)
 | i+1=>((f (pth f b i).2 (pth f b i).1).getD 0,!(pth f b i).2)
theorem qt{f:Bool->Nat->Option Nat}{b:Bool}:∀i j,i % 2=j % 2->(pth f b i).2=(pth f b j).2:=by
 have h:∀i,(pth f b i).2=(b ^^ decide (i % 2=1)):=by
  intro i
  induction i with
  | zero=>simp[pth]
  | succ i ih=>
   show (!(pth f b i).2)=_;rw[ih];rcases cP i with e | e
   ·have e2:(i+1) % 2=1:=by lia
    simp[e,e2]
   ·have e2:(i+1) % 2=0:=by lia
    simp[e,e2]
 intro i j e;rw[h,h,e]
structure Aw (n:Nat) (b:Bool) (f:Bool->Nat->Option Nat) (N:Nat):Prop where
 le:∀ i,i<N->(pth f b i).1<=n
 st:∀ i,i<N->f (pth f b i).2 (pth f b i).1=some (pth f b (i+1)).1
section
variable {n:Nat} {b:Bool} {f:Bool->Nat->Option Nat}
theorem DR.back(M:DR n b f){N i:Nat}(V:Aw n b f N)(hi:i<N)(hl:(pth f b (i+1)).1<=n):f (pth f b i).2 (pth f b (i+1)).1=some (pth f b i).1:=M.sym _ _ _ (V.st i hi) hl
theorem DR.nz(M:DR n b f){N:Nat}(V:Aw n b f N)(h1:1<=N):(pth f b N).1≠0:=by
 intro h0;obtain⟨i,rfl⟩:∃i,N=i+1:=⟨N - 1,by lia⟩
 have e0:=M.back V (i:=i) (by lia) (by rw[h0];lia);rw[h0] at e0;have hb:(pth f b i).2=b:=by
  cases hh:(pth f b i).2==b with
  | true=>exact beq_iff_eq.mp hh
  | false=>
   have:(pth f b i).2=!b:=by
    have:=beq_eq_false_iff_ne.mp hh;cases hb2:(pth f b i).2<;>cases b<;>simp_all
   rw[this,M.z] at e0;cases e0
 have ev:i % 2=0:=by
  rcases cP i with e | e
  ·exact e
  ·have:=qt (f:=f) (b:=b) i 1 e;rw[hb] at this;have h2:(pth f b 1).2=!b:=rfl;rw[h2] at this;cases b<;>cases this
 have pal:∀j,j<=i+1->(pth f b (i+1-j)).1=(pth f b j).1:=by
  intro j
  induction j with
  | zero=>intro _;rw[Nat.sub_zero];exact h0
  | succ j ih=>
   intro hj;have e1:=ih (by lia);have e2:i+1-j=(i-j)+1:=by lia
   rw[e2] at e1;have hjn:j<i+1:=by lia
   have b1:=M.back V (i:=i-j) (by lia) (by rw[e1];exact V.le j hjn);rw[e1,qt (i-j) j (by lia),V.st j hjn] at b1;rw[show i+1-(j+1)=i-j by lia];exact(bT b1).symm
 have t:=pal (i / 2) (by lia);rw[show i+1-i / 2=i / 2+1 by lia] at t;exact M.irr _ _ _ (V.st (i / 2) (by lia)) (V.le _ (by lia)) t
theorem IC:∀(n:Nat) (g:Nat->Nat),(∀i,i<=n->g i<n)->∃i j,i<j/\j<=n/\g i=g j
 | 0,g,h=>absurd (h 0 (by lia)) (by lia)
 | n+1,g,h=>by
  by_cases hv:∃i,i<=n/\g i=g (n+1)
  ·obtain⟨i,hi,e⟩:=hv;exact⟨i,n+1,by lia,by lia,e⟩
  ·have hv':∀i,i<=n->g i≠g (n+1):=λi hi e=>hv ⟨i,hi,e⟩;obtain⟨i,j,h1,h2,h3⟩:=IC n (λi=>if g i=n then g (n+1) else g i) (λi hi=>by
    have a:=h i (by lia);have c:=h (n+1) (by lia);have d:=hv' i hi;show (if g i=n then g (n+1) else g i)<n
    split<;>lia)
   refine⟨i,j,h1,by lia,?_⟩;have d1:=hv' i (by lia);have d2:=hv' j (by lia)
   split at h3<;>split at h3<;>lia
theorem DR.ends(M:DR n b f):∃T,1<=T/\T<=2*n+4/\Aw n b f T/\(pth f b T).1=n+1:=by
 have go:∀N,N<=2*n+4->(∃T,1<=T/\T<=2*n+4/\Aw n b f T/\(pth f b T).1=n+1)\/(Aw n b f N/\(pth f b N).1<=n):=by
  intro N
  induction N with
  | zero=>intro _;exact .inr ⟨⟨λi h=>by lia,λi h=>by lia⟩,a6 _⟩
  | succ N ih=>
   intro hN;rcases ih (by lia) with h | ⟨V,hl⟩
   ·exact .inl h
   ·have h0:(pth f b N).1=0->(pth f b N).2=b:=λz=>by
     rcases Nat.eq_zero_or_pos N with e | e
     ·subst e;rfl
     ·exact absurd z (M.nz V e)
    obtain⟨y,e1,e2⟩:=M.tot _ _ hl h0;have ey:(pth f b (N+1)).1=y:=by show (f _ _).getD 0=y;rw[e1];rfl
    have V':Aw n b f (N+1):=⟨λi hi=>by
      rcases fU i N with h | h
      ·exact V.le i h
      ·rw[show i=N by lia];exact hl,λi hi=>by
      rcases fU i N with h | h
      ·exact V.st i h
      ·rw[show i=N by lia,ey];exact e1⟩
    by_cases hy:y=n+1
    ·exact .inl ⟨N+1,by lia,hN,V',ey.trans hy⟩
    ·exact .inr ⟨V',by rw[ey];lia⟩
 rcases go (2*n+4) (aB _) with h | ⟨V,hl⟩
 ·exact h
 ·exfalso;obtain⟨i,j,h1,h2,h3⟩:=IC (n+1) (λi=>(pth f b (2*i)).1) (λi hi=>by have:=V.le (2*i) (by lia);lia);have bk:∀d,d<=2*i->(pth f b (2*i-d)).1=(pth f b (2*j-d)).1:=by
   intro d
   induction d with
   | zero=>intro _;exact h3
   | succ d ih=>
    intro hd;have e1:=ih (by lia);rw[show 2*i-d=(2*i-(d+1))+1 by lia,show 2*j-d=(2*j-(d+1))+1 by lia] at e1;have b1:=M.back V (i:=2*i-(d+1)) (by lia) (V.le _ (by lia));have b2:=M.back V (i:=2*j-(d+1)) (by lia) (V.le _ (by lia));rw[e1,qt (2*i-(d+1)) (2*j-(d+1)) (by lia),b2] at b1;exact(bT b1).symm
  have e0:=bk (2*i) (aB _);rw[iV] at e0;exact M.nz (N:=2*j - 2*i) ⟨λt ht=>V.le t (by lia),λt ht=>V.st t (by lia)⟩ (by lia) e0.symm
end
def IG(L:List Int)(p:Nat):Prop:=1<=p/\p<L.length/\L[p-1]?≠L[p]?
instance (L:List Int) (p:Nat):Decidable (IG L p):=by unfold IG;infer_instance
theorem nI{L R L' R':List Int}{c:Nat}(hc:c=97\/c=98\/c=99\/c=100)(h:eL L R c=some (L',R')):L'.length+R'.length<=L.length+R.length+2:=by
 obtain⟨_,_,s1,s2⟩:=ot hc h
 split at s1<;>split at s2<;>lia
end Rm
namespace Rm
open PySem L2
structure View where
 φ:Hp->Hp
 ok:Hp->Prop
 new:∀ {H t o},ok H->H t=none->ok (upd H t o)/\ao (φ H) (φ (upd H t o))/\φ (upd H t o) t=some o
def View.all:View:=⟨id,λ_=>True,λ_ h=>⟨trivial,(ao.refl _).new h,aG⟩⟩
def View.but(m:Addr):View:=⟨λH=>wo H m,λH=>∃o,H m=some o,fun {H t o} ⟨u,hu⟩ h=>⟨⟨u,by rw[aX (bK hu h)];exact hu⟩,DV h,FE (bK hu h).symm aG⟩⟩
structure DE (w:View) (σ:St) (H0:Hp) (te:TE) (d:PyData):Prop where
 run:∀ (H:Hp) (Q:VK),w.ok H->ao H0 H->ao (w.φ H0) (w.φ H)->(∀ x H',w.ok H'->ao H H'->ao (w.φ H) (w.φ H')->Dat (w.φ H') x d->Q x H')->te σ H Q
structure DA (w:View) (σ:St) (H0:Hp) (ta:TA) (ds:List PyData):Prop where
 run:∀ (H:Hp) (Q:List V->Hp->Prop),w.ok H->ao H0 H->ao (w.φ H0) (w.φ H)->(∀ xs H',w.ok H'->ao H H'->ao (w.φ H) (w.φ H')->jT (w.φ H') xs ds->Q xs H')->ta σ H Q
abbrev yJ (cs:List Nat):Prop:=∀c∈cs,lE c
def Gu(b:Bool):Nat:=if b then 114 else 108
def bL(b:Bool):List Int:=if b then [] else [0]
def bR(b:Bool):List Int:=if b then [0] else []
theorem vq(b:Bool):mV (Gu b)=(bL b,bR b):=by cases b<;>rfl
theorem IA(b:Bool):sd b=⟨#[Gu b]⟩:=by cases b<;>decide +kernel
theorem oP{b:Bool}{cs:List Nat}(hl:yJ cs)(h:gS (bL b) (bR b) cs 0=none):∀i,i<=cs.length->∃L R,Run b cs i L R/\gS L R (cs.drop i) i=none
 | 0,_=>⟨_,_,Run.zero b cs,by rw[iu];exact h⟩
 | i+1,hi=>by
  obtain⟨L,R,r,e⟩:=oP hl h i (by lia);have hc:cs[i]? = some cs[i]:=aS (by lia);have lt:=hl _ (ax hc);rw[bB (by lia:i<cs.length)] at e;cases g:eL L R cs[i] with
  | none=>rw[mZ g] at e;cases e
  | some p=>
   obtain⟨L',R'⟩:=p;rw[lS g] at e;exact⟨L',R',r.step hc lt g,e⟩
theorem BZ{b:Bool}{cs:List Nat}(hl:yJ cs)(h:gS (bL b) (bR b) cs 0=none):∃L R,Run b cs cs.length L R/\L.length+R.length=1:=by
 obtain⟨L,R,r,e⟩:=oP hl h cs.length (aB _);rw[jr] at e;refine⟨L,R,r,?_⟩;unfold gS at e
 split at e
 ·assumption
 ·cases e
theorem zN{b:Bool}{cs:List Nat}(hl:yJ cs)(h:gS (bL b) (bR b) cs 0=none)(k:Bool)(i:Nat)(hi:i<cs.length)(hk:isIn k (cs.getD i 0)=false):(stN k b cs i).1≠[]:=by
 obtain⟨L,R,r,e⟩:=oP hl h i (by lia);have hc:cs[i]? = some cs[i]:=aS (by lia);have lt:=hl _ (ax hc);rw[bB (by lia:i<cs.length)] at e;have eg:cs.getD i 0=cs[i]:=by rw[bf,hc];rfl
 rw[eg] at hk;cases g:eL L R cs[i] with
 | none=>rw[mZ g] at e;cases e
 | some p=>
  obtain⟨L',R'⟩:=p;obtain⟨n1,n2,_,_⟩:=ot lt g;cases k
  ·exact c9.mp (by rw[r.ll];exact c9.mpr (n1 hk))
  ·exact c9.mp (by rw[r.rl];exact c9.mpr (n2 hk))
theorem B4{b:Bool}{cs:List Nat}(hl:yJ cs)(h:gS (bL b) (bR b) cs 0=none):DR cs.length b (fin2 b cs):=by
 obtain⟨L,R,r,_⟩:=BZ hl h;exact EU λk=>by cases k;exact r.li;exact r.ri
structure k5 (kvs:List (Key×V)) (n:Nat) (m:Nat->Option Nat):Prop where
 get:∀ r,r<=n->fg kvs (.inl (r:Int):Key)=(m r).map fun x=>V.int (x:Nat)
 len:kvs.length<=100
theorem k5.nil{n:Nat}:k5 [] n (λ_=>none):=⟨λ_ _=>rfl,by decide⟩
def ordF(f:Bool->Nat->Option Nat)(b:Bool)(n:Nat):List Int:=(List.range n).map λi=>((pth f b (i+1)).1:Int)
def vL(H:Hp)(a:Addr)(b:Bool)(cs:List Nat):Prop:=∃o T,H a=some (.tup [.str (sd b),.ref o])/\1<=T/\T<=2*cs.length+4/\Aw cs.length b (fin2 b cs) T/\(pth (fin2 b cs) b T).1=cs.length+1/\H o=some (.tup ((ordF (fin2 b cs) b (T - 1)).map V.int))
def vg:Sp:=λvs H Q _=>∃(k b:Bool) (cs:List Nat),vs=[.str (tx cs),.str (tx [97,if k then 99 else 98]),.bl (decide (k=b))]/\yJ cs/\cs.length<=20/\(∀i,i<cs.length->isIn k (cs.getD i 0)=false->(stN k b cs i).1≠[]) ∧
 ∀d kvs H',ao H H'->H d=none->H' d=some (.dK kvs)->k5 kvs cs.length (fin2 b cs k)->Q (.ref d) H'
theorem k5.put{kvs:List (Key×V)}{n a b:Nat}{m:Nat->Option Nat}(h:k5 kvs n m)(hl:kvs.length<100):k5 (putK kvs (.inl (a:Int):Key) (.int (b:Nat))) n (λx=>if x=a then some b else m x):=by
 refine⟨λr hr=>?_,by have:=eS kvs (.inl (a:Int):Key) (.int (b:Nat));lia⟩;rw[sB];by_cases e:r=a
 ·subst e;rw[LM rfl,LM rfl];rfl
 ·have ne:¬((.inl (r:Int):Key)=.inl (a:Int)):=λz=>e (by have:=Sum.inl.inj z;lia);rw[LL ne,LL e];exact h.get r hr
theorem k5.congr{kvs:List (Key×V)}{n:Nat}{m m':Nat->Option Nat}(h:k5 kvs n m)(e:∀x,x<=n->m x=m' x):k5 kvs n m':=⟨λr hr=>by rw[h.get r hr,e r hr],h.len⟩
theorem Bp{m:Nat->Option Nat}{a o:Nat}(h:o≠a):(λx=>if x=o then some a else (λx=>if x=a then some o else m x) x)=jL m a o:=by
 funext x;unfold jL;by_cases e:x=a
 ·subst e;simp[cH h]
 ·simp[e]
def xl(n:Nat)(W:List Nat)(m:Nat->Option Nat)(j:Nat):Nat->Option Nat:=λx=>if x∈W.take j then some (n+1) else m x
theorem xk{n o j:Nat}{W:List Nat}{m:Nat->Option Nat}(h:W[j]? = some o):(λx=>if x=o then some (n+1) else xl n W m j x)=xl n W m (j+1):=by
 funext x;unfold xl;rw[bD,h];by_cases e:x=o
 ·subst e;simp
 ·simp[e]
theorem qe(k b:Bool)(cs:List Nat):∀i,(stN k b cs i).1.length<=i+1
 | 0=>by unfold stN vf;dsimp only;split<;>simp
 | i+1=>by
  have:=qe k b cs i;show (pP k _ _ _).1.length<=_;rw[qb]
  split<;>lia
theorem zj{f:Bool->Nat->Option Nat}{b:Bool}(i:Nat):(pth f b (i+1)).2=!(pth f b i).2:=rfl
theorem xN{f:Bool->Nat->Option Nat}{b:Bool}(i:Nat):ordF f b (i+1)=ordF f b i++[((pth f b (i+1)).1:Int)]:=by unfold ordF;rw[dr,aM];rfl
theorem zp{f:Bool->Nat->Option Nat}{b:Bool}(i:Nat):(ordF f b i).length=i:=by simp[ordF]
theorem Ei{n:Nat}{b:Bool}{f:Bool->Nat->Option Nat}{T T':Nat}(V:Aw n b f T)(e:(pth f b T).1=n+1)(V':Aw n b f T')(e':(pth f b T').1=n+1):T=T':=by
 rcases Nat.lt_trichotomy T T' with h | h | h
 ·have:=V'.le T h;lia
 ·exact h
 ·have:=V.le T' h;lia
abbrev Oe:=Int×Int
def chain:Bool->List Int->Bool->List Bw
 | s,a::b::rest,t=>(if (!s)=t then [(min a b,max a b)] else [])++chain (!s) (b::rest) t
 | _,_,_=>[]
def eK(s:Bool)(R:List Int):Bool:=s ^^ odd R.length
def wN(R:List Int):Int:=R.head?.getD 0
def ltZ(R:List Int):Int:=R.getLast?.getD 0
theorem oh(s:Bool)(a:Int)(R:List Int):eK s (a::R)=eK (!s) R:=by
 unfold eK;rw[bb,ja];cases s<;>cases odd R.length<;>rfl
theorem uv(s:Bool)(R:List Int)(r:Int):eK s (R++[r])=!eK s R:=by
 unfold eK;rw[aR,k9,ja];cases s<;>cases odd R.length<;>rfl
theorem AR(R:List Int)(r:Int):ltZ (R++[r])=r:=by simp[ltZ]
theorem AS(a b:Int)(R:List Int):ltZ (a::b::R)=ltZ (b::R):=by simp[ltZ]
theorem wL(R:List Int):wN R.reverse=ltZ R:=by simp[wN,ltZ]
theorem rA(R:List Int):ltZ R.reverse=wN R:=by simp[wN,ltZ]
theorem wM{R S:List Int}(h:R≠[]):wN (R++S)=wN R:=by cases R with | nil=>exact absurd rfl h | cons a R=>rfl
theorem wD{R S:List Int}(h:S≠[]):ltZ (R++S)=ltZ S:=by
 unfold ltZ;rw[List.getLast?_append];cases e:S.getLast? with
 | none=>exact absurd (List.getLast?_eq_none_iff.mp e) h
 | some x=>rfl
theorem mM:∀{R:List Int} (s:Bool) (r:Int) (S:List Int) (t:Bool),R≠[]->chain s (R++r::S) t=chain s R t++(if eK s R=t then [(min (ltZ R) r,max (ltZ R) r)] else [])++chain (eK s R) (r::S) t
 | [a],s,r,S,t,_=>by
  show (if (!s)=t then [(min a r,max a r)] else [])++chain (!s) (r::S) t=[]++_++_;have e:eK s [a]=!s:=by cases s<;>rfl
  rw[e];rfl
 | a::b::R,s,r,S,t,_=>by
  show (if (!s)=t then [(min a b,max a b)] else [])++chain (!s) ((b::R)++r::S) t=((if (!s)=t then [(min a b,max a b)] else [])++chain (!s) (b::R) t)++_++_;rw[mM (!s) r S t (by simp),oh s a (b::R),AS];simp only[aK]
theorem chain_snoc{R:List Int}(s:Bool)(r:Int)(t:Bool)(h:R≠[]):chain s (R++[r]) t=chain s R t++(if eK s R=t then [(min (ltZ R) r,max (ltZ R) r)] else []):=by
 rw[mM s r [] t h];show _++[]=_;rw[be]
theorem nN:∀(R:List Int) (s t:Bool),(chain (eK s R) R.reverse t).Perm (chain s R t)
 | [],_,_=>.refl _
 | [a],s,t=>.refl _
 | a::b::R,s,t=>by
  have ih:=nN (b::R) (!s) t;rw[List.reverse_cons,oh,chain_snoc _ _ _ (by simp)];have e:eK (eK (!s) (b::R)) (b::R).reverse=!s:=by
   unfold eK;rw[iP];cases s<;>cases odd (b::R).length<;>rfl
  rw[e,rA];show (chain (eK (!s) (b::R)) (b::R).reverse t++(if (!s)=t then [(min b a,max b a)] else [])).Perm ((if (!s)=t then [(min a b,max a b)] else [])++chain (!s) (b::R) t);rw[Int.min_comm b a,Int.max_comm b a];exact bM.trans (ih.append_left _)
structure Pc where
 lab:Int
 rows:List Int
 s:Bool
 main:Bool
def Pc.fst(p:Pc):Oe×Bool:=((wN p.rows,p.lab),p.s)
def Pc.lst(p:Pc):Oe×Bool:=((ltZ p.rows,p.lab),eK p.s p.rows)
def Pc.more(p:Pc):List (Oe×Bool):=if p.main then [] else [p.fst]
def Pc.ends(p:Pc):List (Oe×Bool):=p.lst::p.more
def Pc.rev(p:Pc):Pc:={ p with rows:=p.rows.reverse,s:=eK p.s p.rows }
def Pc.bows(t:Bool)(p:Pc):List Bw:=chain p.s p.rows t
theorem qk(p:Pc):p.rev.lst=p.fst:=by
 show ((ltZ p.rows.reverse,p.lab),eK (eK p.s p.rows) p.rows.reverse)=((wN p.rows,p.lab),p.s)
 rw[rA];congr 1;unfold eK;rw[iP];cases p.s<;>cases odd p.rows.length<;>rfl
theorem B3(p:Pc):p.rev.fst=p.lst:=by
 show ((wN p.rows.reverse,p.lab),eK p.s p.rows)=_;rw[wL];rfl
def d6(st:Bool->List Oe):List (Oe×Bool):=(st false).map (·,false)++(st true).map (·,true)
theorem kJ{st:Bool->List Oe}{t:Bool}{st':List Oe}{e:Oe}(h:st t=st'++[e]):(d6 st).Perm ((e,t)::d6 λu=>if u=t then st' else st u):=by
 unfold d6;cases t with
 | false=>
  simp only[h,LR,Bool.true_eq_false,LS,aM,aZ,fV,aK,eO,ay];exact cT
 | true=>
  simp only[h,LR,aY,LS,aM,aZ,fV];rw[<-aK];exact bM
theorem lG{st:Bool->List Oe}{t:Bool}{e:Oe}:(d6 λu=>if u=t then st u++[e] else st u).Perm ((e,t)::d6 st):=by
 have h:=kJ (st:=λu=>if u=t then st u++[e] else st u) (t:=t) (st':=st t) (e:=e) (by simp);refine h.trans ?_;have:(λu=>if u=t then st t else if u=t then st u++[e] else st u)=st:=by
  funext u;by_cases z:u=t
  ·simp[z]
  ·simp[z]
 rw[this]
structure p9 (st:List Oe) (f:List Bw) (r:Nat):Prop where
 inc:st.Pairwise fun a b=>a.1<b.1
 low:∀ e∈st,0<=e.1/\e.1<r
 bow:∀ p∈f,0<=p.1/\p.1<p.2/\p.2<r
 nc:∀ p∈f,∀ q∈f,dy p q=false
 un:∀ p∈f,∀ e∈st,¬ (p.1<e.1/\e.1<p.2)
theorem p9.push{st:List Oe}{f:List Bw}{r:Nat}(S:p9 st f r)(l:Int):p9 (st++[((r:Int),l)]) f (r+1):=by
 refine⟨bH.mpr ⟨S.inc,by simp,λa ha b hb=>?_⟩,λe h=>?_,λp h=>by have:=S.bow p h;lia,S.nc,λp hp e h=>?_⟩
 ·have e:b=((r:Int),l):=by simpa using hb
  subst e;exact(S.low a ha).2
 ·rcases aE.mp h with z | z
  ·have:=S.low e z;lia
  ·have e':e=((r:Int),l):=by simpa using z
   subst e';simp only;lia
 ·rcases aE.mp h with z | z
  ·exact S.un p hp e z
  ·have e':e=((r:Int),l):=by simpa using z
   subst e';have:=S.bow p hp;simp only;lia
theorem p9.close{st:List Oe}{f:List Bw}{r:Nat}{o l:Int}(S:p9 (st++[(o,l)]) f r):p9 st (f++[(o,(r:Int))]) (r+1):=by
 have ho:=S.low (o,l) (by simp);simp only at ho;have low:∀e∈st,e.1<o:=λe he=>(bH.mp S.inc).2.2 e he (o,l) (by simp);have cr:∀p q:Bw,(¬(p.1<q.1/\q.1<p.2/\p.2<q.2))->dy p q=false:=λp q h=>by
  unfold dy;by_cases a:p.1<q.1
  ·by_cases b:q.1<p.2
   ·have c:¬p.2<q.2:=λc=>h ⟨a,b,c⟩;simp[c]
   ·simp[b]
  ·simp[a]
 refine⟨(bH.mp S.inc).1,λe h=>by have:=S.low e (ae _ h);lia,λp h=>?_,λp hp q hq=>?_,λp hp e h=>?_⟩
 ·rcases aE.mp h with z | z
  ·have:=S.bow p z;lia
  ·have e':p=(o,(r:Int)):=by simpa using z
   subst e';simp only;lia
 ·rcases aE.mp hp with z | z
  ·rcases aE.mp hq with y | y
   ·exact S.nc p z q y
   ·have e':q=(o,(r:Int)):=by simpa using y
    subst e';have h1:=S.un p z (o,l) (by simp);exact cr _ _ λh=>h1 ⟨h.1,h.2.1⟩
  ·have e':p=(o,(r:Int)):=by simpa using z
   subst e';rcases aE.mp hq with y | y
   ·have h1:=S.bow q y;exact cr _ _ λh=>by simp only at h;lia
   ·have e':q=(o,(r:Int)):=by simpa using y
    subst e';exact cr _ _ λh=>by simp only at h;lia
 ·have h1:=low e h;rcases aE.mp hp with z | z
  ·exact S.un p z e (ae _ h)
  ·have e':p=(o,(r:Int)):=by simpa using z
   subst e';simp only;lia
theorem p9.map{st:List Oe}{f:List Bw}{r:Nat}(S:p9 st f r)(g:Int->Int):p9 (st.map λe=>(e.1,g e.2)) f r:=by
 refine⟨?_,λe h=>?_,S.bow,S.nc,λp hp e h=>?_⟩
 ·rw[jH];exact S.inc
 ·obtain⟨x,hx,rfl⟩:=aw.mp h;exact S.low x hx
 ·obtain⟨x,hx,rfl⟩:=aw.mp h;exact S.un p hp x hx
structure Gr (b:Bool) (st:Bool->List Oe) (f:Bool->List Bw) (r:Nat) (is:List Pc):Prop where
 ne:∀ p∈is,p.rows≠[]
 rows:(is.flatMap Pc.rows).Perm (iT 0 r)
 labs:(is.map Pc.lab).Nodup
 lr:∀ p∈is,p.lab<r
 one:is.countP Pc.main=1
 hd:∀ p∈is,p.main=true->p.rows.head? = some 0/\p.s=!b
 ends:(d6 st).Perm (is.flatMap Pc.ends)
 bows:∀ t,(f t).Perm (is.flatMap (Pc.bows t))
 stk:∀ t,p9 (st t) (f t) r
section
variable {b:Bool} {st:Bool->List Oe} {f:Bool->List Bw} {r:Nat} {is js:List Pc} {p q:Pc}
theorem Gr.perm(G:Gr b st f r is)(h:is.Perm js):Gr b st f r js:=
 ⟨λp hp=>G.ne p (h.mem_iff.mpr hp),(h.flatMap_right _).symm.trans G.rows,(h.map _).nodup_iff.mp G.labs,λp hp=>G.lr p (h.mem_iff.mpr hp),(h.countP_eq _).symm.trans G.one,λp hp=>G.hd p (h.mem_iff.mpr hp),
  G.ends.trans (h.flatMap_right _),λt=>(G.bows t).trans (h.flatMap_right _),G.stk⟩
theorem Gr.flip(G:Gr b st f r (p::is))(h:p.main=false):Gr b st f r (p.rev::is):=by
 have more:p.more=[p.fst]:=by unfold Pc.more;rw[h];rfl
 have more':p.rev.more=[p.lst]:=by
  unfold Pc.more;rw[show p.rev.main=false from h,B3];rfl
 refine⟨λq hq=>?_,?_,G.labs,λq hq=>?_,?_,λq hq hm=>?_,?_,λt=>?_,G.stk⟩
 ·rcases aF.mp hq with z | z
  ·subst z;exact λe=>G.ne p am (jj.mp e)
  ·exact G.ne q (aD _ z)
 ·exact((fK p.rows).append_right _).trans G.rows
 ·rcases aF.mp hq with z | z
  ·subst z;exact G.lr p am
  ·exact G.lr q (aD _ z)
 ·have:=G.one;rw[cV] at this ⊢;exact this
 ·rcases aF.mp hq with z | z
  ·subst z;rw[show p.rev.main=false from h] at hm;cases hm
  ·exact G.hd q (aD _ z) hm
 ·refine G.ends.trans ?_;rw[aW,aW];refine gN _ ?_;unfold Pc.ends;rw[more,more',qk];exact List.Perm.swap _ _ _
 ·refine(G.bows t).trans ?_;rw[aW,aW];exact(nN p.rows p.s t).symm.append_right _
theorem Gr.pick(G:Gr b st f r is){e:Oe×Bool}(h:e∈d6 st):∃p js,p.lst=e/\Gr b st f r (p::js)/\∀q∈js,q∈is:=by
 obtain⟨p,hp,he⟩:=eM.mp (G.ends.mem_iff.mp h);obtain⟨A,B,rfl⟩:=dM hp;have G1:=G.perm cT;have sub:∀q∈A++B,q∈A++p::B:=λq hq=>by
  rcases aE.mp hq with z | z
  ·exact ae _ z
  ·exact aa _ (aD _ z)
 rcases aF.mp he with z | z
 ·exact⟨p,A++B,z.symm,G1,sub⟩
 ·unfold Pc.more at z;cases hm:p.main with
  | true=>rw[hm] at z;cases z
  | false=>
   rw[hm] at z;have e':e=p.fst:=by simpa using z
   exact⟨p.rev,A++B,by rw[qk,e'],G1.flip hm,sub⟩
theorem oQ(r:Nat):iT 0 (r+1)=iT 0 r++[(r:Int)]:=by
 unfold iT;rw[dr,aM];simp
theorem Gr.opA(G:Gr b st f r is):Gr b (λu=>st u++[((r:Int),(r:Int))]) f (r+1) (⟨r,[(r:Int)],false,false⟩::is):=by
 refine⟨λq hq=>?_,?_,?_,λq hq=>?_,?_,λq hq hm=>?_,?_,λt=>?_,λt=>(G.stk t).push _⟩
 ·rcases aF.mp hq with z | z
  ·subst z;simp
  ·exact G.ne q z
 ·rw[oQ];exact(G.rows.cons (r:Int)).trans (bM (l₁:=[(r:Int)]) (l₂:=iT 0 r))
 ·rw[aZ,cm];refine⟨λz=>?_,G.labs⟩;obtain⟨q,hq,e⟩:=aw.mp z;have:=G.lr q hq;simp only at e;lia
 ·rcases aF.mp hq with z | z
  ·subst z;simp only;lia
  ·have:=G.lr q z;lia
 ·rw[cV,G.one];rfl
 ·rcases aF.mp hq with z | z
  ·subst z;cases hm
  ·exact G.hd q z hm
 ·have h1:=lG (st:=st) (t:=false) (e:=((r:Int),(r:Int)));have h2:=lG (st:=λu=>if u=false then st u++[((r:Int),(r:Int))] else st u) (t:=true) (e:=((r:Int),(r:Int)));have e:(λu=>if u=true then (if u=false then st u++[((r:Int),(r:Int))] else st u)++[((r:Int),(r:Int))] else if u=false then st u++[((r:Int),(r:Int))] else st u)=λu=>st u++[((r:Int),(r:Int))]:=by
   funext u;cases u<;>rfl
  rw[e] at h2;refine h2.trans ((h1.cons _).trans ?_);rw[aW];exact((G.ends.cons _).cons _)
 ·refine(G.bows t).trans ?_;rw[aW];exact .refl _
theorem Gr.ext{t:Bool}{st':List Oe}{o l:Int}(G:Gr b st f r (p::is))(hl:p.lst=((o,l),t))(hs:st t=st'++[(o,l)]):
  Gr b (λu=>if u=t then st' else st u++[((r:Int),l)]) (λu=>if u=t then f u++[(o,(r:Int))] else f u) (r+1) ({ p with rows:=p.rows++[(r:Int)] }::is):=by
 have pne:=G.ne p am;have e1:ltZ p.rows=o:=congrArg (λx=>x.1.1) hl;have e2:p.lab=l:=congrArg (λx=>x.1.2) hl;have e3:eK p.s p.rows=t:=congrArg (λx=>x.2) hl;have low:=(G.stk t).low (o,l) (by rw[hs];simp);simp only at low;have lst':Pc.lst { p with rows:=p.rows++[(r:Int)] }=(((r:Int),l),!t):=by
  show ((ltZ (p.rows++[(r:Int)]),p.lab),eK p.s (p.rows++[(r:Int)]))=_;rw[AR,uv,e2,e3]
 have more':Pc.more { p with rows:=p.rows++[(r:Int)] }=p.more:=by
  unfold Pc.more Pc.fst;rw[wM pne]
 refine⟨λq hq=>?_,?_,G.labs,λq hq=>?_,?_,λq hq hm=>?_,?_,λu=>?_,λu=>?_⟩
 ·rcases aF.mp hq with z | z
  ·subst z;simp
  ·exact G.ne q (aD _ z)
 ·have h1:=G.rows;rw[aW] at h1 ⊢;rw[oQ];show ((p.rows++[(r:Int)])++is.flatMap Pc.rows).Perm _;rw[aK];exact(cT (l₁:=p.rows) (a:=(r:Int)) (l₂:=is.flatMap Pc.rows)).trans ((h1.cons _).trans (bM (l₁:=[(r:Int)])))
 ·rcases aF.mp hq with z | z
  ·subst z;have:=G.lr p am;simp only;lia
  ·have:=G.lr q (aD _ z);lia
 ·have:=G.one;rw[cV] at this ⊢;exact this
 ·rcases aF.mp hq with z | z
  ·subst z;obtain⟨a,c⟩:=G.hd p am hm;refine⟨?_,c⟩;show (p.rows++[(r:Int)]).head? = _;rw[List.head?_append,a];rfl
  ·exact G.hd q (aD _ z) hm
 ·have h1:=(kJ hs).symm.trans G.ends;rw[aW] at h1 ⊢;have h2:(d6 λu=>if u=t then st' else st u).Perm (p.more++is.flatMap Pc.ends):=by
   have e:p.ends++is.flatMap Pc.ends=((o,l),t)::(p.more++is.flatMap Pc.ends):=by
    unfold Pc.ends;rw[hl];rfl
   rw[e] at h1;exact h1.cons_inv
  have e:(λu=>if u=t then st' else st u++[((r:Int),l)])=λu=>if u=(!t) then (if u=t then st' else st u)++[((r:Int),l)] else (if u=t then st' else st u):=by
   funext u;cases u<;>cases t<;>rfl
  rw[e];refine lG.trans ((h2.cons _).trans ?_);have e4:Pc.ends { p with rows:=p.rows++[(r:Int)] }=(((r:Int),l),!t)::p.more:=by
   unfold Pc.ends;rw[lst',more']
  rw[e4];exact .refl _
 ·have h1:=G.bows u;rw[aW] at h1 ⊢;have e4:Pc.bows u { p with rows:=p.rows++[(r:Int)] }=p.bows u++if u=t then [(o,(r:Int))] else []:=by
   show chain p.s (p.rows++[(r:Int)]) u=chain p.s p.rows u++_;rw[chain_snoc _ _ _ pne,e1,e3];have m1:min o (r:Int)=o:=by lia
   have m2:max o (r:Int)=(r:Int):=by lia
   rw[m1,m2];congr 1;cases t<;>cases u<;>rfl
  rw[e4];by_cases z:u=t
  ·rw[LM z,LM z,aK];exact(h1.append_right _).trans (by rw[aK];exact dJ _ bM)
  ·rw[LL z,LL z,be];exact h1
 ·by_cases z:u=t
  ·subst z;simp only[LR];have:=G.stk u;rw[hs] at this;exact this.close
  ·simp only[z,LS];exact(G.stk u).push l
theorem Gr.pick2{o1 l1 o2 l2:Int}{n' f':List Oe}(G:Gr b st f r is)(h1:st false=n'++[(o1,l1)])(h2:st true=f'++[(o2,l2)])(hne:l1≠l2):∃p q js,p.lst=((o1,l1),false)/\q.lst=((o2,l2),true)/\Gr b st f r (p::q::js):=by
 obtain⟨p,js,hp,G1,_⟩:=G.pick (e:=((o1,l1),false)) (by unfold d6;rw[h1];simp);have hm:((o2,l2),true)∈d6 st:=by unfold d6;rw[h2];simp
 obtain⟨q,hq,he⟩:=eM.mp (G1.ends.mem_iff.mp hm);have lab:∀(x:Pc) e,e∈x.ends->e.1.2=x.lab:=λx e h=>by
  rcases aF.mp h with z | z
  ·subst z;rfl
  ·unfold Pc.more at z;cases hm:x.main with
   | true=>rw[hm] at z;cases z
   | false=>
    rw[hm] at z;have e':e=x.fst:=by simpa using z
    subst e';rfl
 have pl:p.lab=l1:=congrArg (λx=>x.1.2) hp;have ql:=lab q _ he;rcases aF.mp hq with z | z
 ·subst z;simp only at ql;exact absurd (pl.symm.trans ql.symm) hne
 ·obtain⟨A,B,rfl⟩:=dM z;have G2:Gr b st f r (q::p::(A++B)):=G1.perm ((cT.cons p).trans (List.Perm.swap _ _ _));rcases aF.mp he with y | y
  ·exact⟨p,q,A++B,hp,y.symm,G2.perm (List.Perm.swap _ _ _)⟩
  ·unfold Pc.more at y;cases hm:q.main with
   | true=>rw[hm] at y;cases y
   | false=>
    rw[hm] at y;have e':((o2,l2),true)=q.fst:=by simpa using y
    exact⟨p,q.rev,A++B,hp,by rw[qk,<-e'],(G2.flip hm).perm (List.Perm.swap _ _ _)⟩
def ie(x y:Int)(e:Oe):Oe:=(e.1,if e.2=x then y else e.2)
theorem Gr.join0{ta:Bool}{o:Bool->Int}{la lb l1 l2:Int}{st':Bool->List Oe}(G:Gr b st f r (p::q::is))(hp:p.lst=((o ta,la),ta))(hq:q.lst=((o (!ta),lb),!ta))(hs:∀u,st u=st' u++[(o u,if u=ta then la else lb)])(hm:q.main=false)(hlab:(l1=la/\l2=lb)\/(l1=lb/\l2=la)):
  Gr b (λu=>(st' u).map (ie l2 l1)) (λu=>f u++[(o u,(r:Int))]) (r+1) (⟨l1,p.rows++(r:Int)::q.rows.reverse,p.s,p.main⟩::is):=by
 have pne:=G.ne p am;have qne:=G.ne q (aD _ am);have qrne:q.rows.reverse≠[]:=λe=>qne (jj.mp e);have p1:ltZ p.rows=o ta:=congrArg (λx=>x.1.1) hp;have p2:p.lab=la:=congrArg (λx=>x.1.2) hp;have p3:eK p.s p.rows=ta:=congrArg (λx=>x.2) hp;have q1:ltZ q.rows=o (!ta):=congrArg (λx=>x.1.1) hq;have q2:q.lab=lb:=congrArg (λx=>x.1.2) hq;have q3:eK q.s q.rows=!ta:=congrArg (λx=>x.2) hq;have low:∀u,0<=o u/\o u<r:=λu=>(G.stk u).low (o u,if u=ta then la else lb) (by rw[hs u];simp);have nd:=G.labs;rw[aZ,aZ,cm,cm,p2,q2] at nd;obtain⟨n1,n2,n3⟩:=nd;have nab:la≠lb:=λe=>n1 (by rw[e];exact am);have nla:∀x∈is,x.lab≠la:=λx hx e=>n1 (aD _ (aw.mpr ⟨x,hx,e⟩));have nlb:∀x∈is,x.lab≠lb:=λx hx e=>n2 (aw.mpr ⟨x,hx,e⟩);have n1':∀x∈is,x.lab≠l1:=λx hx=>by rcases hlab with ⟨e,_⟩ | ⟨e,_⟩<;>rw[e];exact nla x hx;exact nlb x hx
 have n2':∀x∈is,x.lab≠l2:=λx hx=>by rcases hlab with ⟨_,e⟩ | ⟨_,e⟩<;>rw[e];exact nlb x hx;exact nla x hx
 have rla:(if la=l2 then l1 else la)=l1:=by
  rcases hlab with ⟨e,e'⟩ | ⟨e,e'⟩
  ·rw[e',LL nab,e]
  ·rw[e',LM rfl]
 have rlb:(if lb=l2 then l1 else lb)=l1:=by
  rcases hlab with ⟨e,e'⟩ | ⟨e,e'⟩
  ·rw[e',LM rfl]
  ·rw[e',LL nab.symm,e]
 refine⟨λx hx=>?_,?_,?_,λx hx=>?_,?_,λx hx hmx=>?_,?_,λu=>?_,λu=>?_⟩
 ·rcases aF.mp hx with z | z
  ·subst z;simp
  ·exact G.ne x (aD _ (aD _ z))
 ·have h1:=G.rows;rw[aW,aW] at h1;rw[aW,oQ];show ((p.rows++(r:Int)::q.rows.reverse)++is.flatMap Pc.rows).Perm _;rw[aK,eO];refine cT.trans (List.Perm.trans ?_ (bM (l₁:=[(r:Int)])));refine List.Perm.cons _ (List.Perm.trans ?_ h1);exact dJ _ ((fK q.rows).append_right _)
 ·rw[aZ,cm];refine⟨λz=>?_,n3⟩;obtain⟨x,hx,e⟩:=aw.mp z;exact n1' x hx e
 ·rcases aF.mp hx with z | z
  ·subst z;have h1:=G.lr p am;have h2:=G.lr q (aD _ am);simp only;rcases hlab with ⟨e,_⟩ | ⟨e,_⟩<;>rw[e]<;>lia
  ·have:=G.lr x (aD _ (aD _ z));lia
 ·have:=G.one;rw[cV,cV,hm] at this;rw[cV];simpa using this
 ·rcases aF.mp hx with z | z
  ·subst z;obtain⟨a,c⟩:=G.hd p am hmx;refine⟨?_,c⟩;show (p.rows++(r:Int)::q.rows.reverse).head? = _;rw[List.head?_append,a];rfl
  ·exact G.hd x (aD _ (aD _ z)) hmx
 ·have h0:(d6 st).Perm (((o ta,la),ta)::((o (!ta),lb),!ta)::d6 st'):=by
   have e1:(d6 st).Perm _:=kJ (t:=ta) (hs ta);refine e1.trans ?_;rw[LM rfl];refine List.Perm.cons _ ?_;have e2:=kJ (st:=λu=>if u=ta then st' ta else st u) (t:=!ta) (st':=st' (!ta)) (e:=(o (!ta),lb)) (by
    have z:¬(!ta)=ta:=by cases ta<;>decide
    simp only[z,LS];rw[hs (!ta),LL z])
   refine e2.trans (List.Perm.cons _ ?_);have:(λu=>if u=(!ta) then st' (!ta) else if u=ta then st' ta else st u)=st':=by
    funext u;cases u<;>cases ta<;>rfl
   rw[this]
  have h1:=h0.symm.trans G.ends;rw[aW,aW] at h1;have eqm:q.more=[q.fst]:=by unfold Pc.more;rw[hm];rfl
  have h2:(d6 st').Perm (p.more++(q.fst::is.flatMap Pc.ends)):=by
   have e:(p.ends++(q.ends++is.flatMap Pc.ends)).Perm (((o ta,la),ta)::((o (!ta),lb),!ta)::(p.more++(q.fst::is.flatMap Pc.ends))):=by
    unfold Pc.ends;rw[hp,hq,eqm];refine List.Perm.cons _ ?_;exact cT
   exact(h1.trans e).cons_inv.cons_inv
  have hmap:(d6 λu=>(st' u).map (ie l2 l1))=(d6 st').map λx=>(ie l2 l1 x.1,x.2):=by
   unfold d6;rw[aM,b9,b9,b9,b9];rfl
  rw[hmap];refine(h2.map _).trans ?_;rw[aM,aZ,aW];have r1:(is.flatMap Pc.ends).map (λx=>(ie l2 l1 x.1,x.2))=is.flatMap Pc.ends:=by
   have:∀x∈is.flatMap Pc.ends,(ie l2 l1 x.1,x.2)=x:=λx hx=>by
    obtain⟨y,hy,he⟩:=eM.mp hx;have:x.1.2=y.lab:=by
     rcases aF.mp he with z | z
     ·subst z;rfl
     ·unfold Pc.more at z;cases hm:y.main with
      | true=>rw[hm] at z;cases z
      | false=>
       rw[hm] at z;have e':x=y.fst:=by simpa using z
       subst e';rfl
    unfold ie;rw[LL (by rw[this];exact n2' y hy)]
   exact(cB this).trans (List.map_id _)
  have r2:(ie l2 l1 q.fst.1,q.fst.2)=Pc.lst ⟨l1,p.rows++(r:Int)::q.rows.reverse,p.s,p.main⟩:=by
   show ((wN q.rows,if q.lab=l2 then l1 else q.lab),q.s)=((ltZ (p.rows++(r:Int)::q.rows.reverse),l1),eK p.s (p.rows++(r:Int)::q.rows.reverse))
   rw[q2,rlb,wD (by simp)];have e1:ltZ ((r:Int)::q.rows.reverse)=wN q.rows:=by
    have:(r:Int)::q.rows.reverse=[(r:Int)]++q.rows.reverse:=rfl;rw[this,wD qrne,rA]
   rw[e1];congr 1;unfold eK at p3 q3 ⊢;rw[aR,bb,iP];have:odd (p.rows.length+(q.rows.length+1))=(odd p.rows.length ^^ !odd q.rows.length):=by
    unfold odd;rcases cP p.rows.length with h | h<;>rcases cP q.rows.length with h' | h'<;>simp[Nat.add_mod,h,h']
   rw[this]
   revert p3 q3
   cases p.s<;>cases q.s<;>cases odd p.rows.length<;>cases odd q.rows.length<;>cases ta<;>decide
  have r3:p.more.map (λx=>(ie l2 l1 x.1,x.2))=Pc.more ⟨l1,p.rows++(r:Int)::q.rows.reverse,p.s,p.main⟩:=by
   unfold Pc.more;cases hmp:p.main with
   | true=>rfl
   | false=>
    show [((wN p.rows,if p.lab=l2 then l1 else p.lab),p.s)]=[((wN (p.rows++(r:Int)::q.rows.reverse),l1),p.s)]
    rw[wM pne,p2,rla]
  rw[r1,r2,r3];exact cT
 ·have h1:=G.bows u;rw[aW,aW] at h1;rw[aW];have e4:(Pc.bows u ⟨l1,p.rows++(r:Int)::q.rows.reverse,p.s,p.main⟩).Perm ((o u,(r:Int))::(p.bows u++q.bows u)):=by
   show (chain p.s (p.rows++(r:Int)::q.rows.reverse) u).Perm _;rw[mM _ _ _ _ pne,p1,p3];obtain⟨x,R,hR⟩:∃x R,q.rows.reverse=x::R:=by
    cases e:q.rows.reverse with
    | nil=>exact absurd e qrne
    | cons x R=>exact⟨x,R,rfl⟩
   have hx:x=o (!ta):=by
    rw[<-q1,<-wL,hR];rfl
   have e5:chain ta ((r:Int)::q.rows.reverse) u=(if (!ta)=u then [(o (!ta),(r:Int))] else [])++chain (!ta) q.rows.reverse u:=by
    rw[hR];show (if (!ta)=u then [(min (r:Int) x,max (r:Int) x)] else [])++chain (!ta) (x::R) u=_;have:=low (!ta);rw[hx];have m1:min (r:Int) (o (!ta))=o (!ta):=by lia
    have m2:max (r:Int) (o (!ta))=(r:Int):=by lia
    rw[m1,m2]
   have m1:min (o ta) (r:Int)=o ta:=by have:=low ta;lia
   have m2:max (o ta) (r:Int)=(r:Int):=by have:=low ta;lia
   rw[e5,m1,m2];have cq:(chain (!ta) q.rows.reverse u).Perm (q.bows u):=by
    have:=nN q.rows q.s u;rw[q3] at this;exact this
   by_cases z:ta=u
   ·have z':¬(!ta)=u:=by rw[<-z];cases ta<;>decide
    rw[LM z,LL z',<-z,ay,aK];refine(cT (l₁:=chain p.s p.rows ta) (a:=(o ta,(r:Int))) (l₂:=chain (!ta) q.rows.reverse ta)).trans ?_;rw[<-z] at cq;exact(cq.append_left _).cons _
   ·have z':(!ta)=u:=by revert z;cases ta<;>cases u<;>decide
    rw[LL z,LM z',be];refine(cT (l₁:=chain p.s p.rows u) (a:=(o (!ta),(r:Int))) (l₂:=chain (!ta) q.rows.reverse u)).trans ?_;rw[<-z'];rw[<-z'] at cq;exact(cq.append_left _).cons _
  refine List.Perm.trans ?_ (e4.symm.append_right _);refine(bM (l₁:=f u) (l₂:=[(o u,(r:Int))])).trans ?_;refine List.Perm.cons _ (h1.trans ?_);show (Pc.bows u p++(Pc.bows u q++is.flatMap (Pc.bows u))).Perm ((Pc.bows u p++Pc.bows u q)++is.flatMap (Pc.bows u));rw[aK]
 ·have:=G.stk u;rw[hs u] at this;exact this.close.map λx=>if x=l2 then l1 else x
theorem Gr.many(G:Gr b st f r is):(st false).length+(st true).length+1=2*is.length:=by
 have h1:=G.ends.length_eq;unfold d6 at h1;rw[aR,aC,aC] at h1;have h2:∀js:List Pc,(js.flatMap Pc.ends).length+js.countP Pc.main=2*js.length:=by
  intro js
  induction js with
  | nil=>rfl
  | cons p js ih=>
   rw[aW,aR,cV,bb];have:p.ends.length+(if p.main=true then 1 else 0)=2:=by
    unfold Pc.ends Pc.more;cases p.main<;>rfl
   lia
 have:=h2 is;rw[G.one] at this;lia
theorem Gr.start (b : Bool) : Gr b (fun u => if u = b then [((0 : Int), (0 : Int))] else []) (fun _ => []) 1 [⟨0, [0], !b, true⟩] := by
  refine ⟨fun p hp => ?_, ?_, by simp, fun p hp => ?_, rfl, fun p hp _ => ?_, ?_, fun t => .refl _, fun t => ?_⟩
  · have e : p = ⟨0, [0], !b, true⟩ := by simpa using hp
    subst e; simp
  · exact .refl _
  · have e : p = ⟨0, [0], !b, true⟩ := by simpa using hp
    subst e; exact (by decide : (0 : Int) < 1)
  · have e : p = ⟨0, [0], !b, true⟩ := by simpa using hp
    subst e; exact ⟨rfl, rfl⟩
  · cases b <;> exact .refl _
  · by_cases z : t = b
    · simp only [z, LR]
      exact ⟨by simp, fun e h => by have e' : e = (0, 0) := by simpa using h
                                    subst e'; decide, fun p h => (nomatch h), fun p h => (nomatch h), fun p h => (nomatch h)⟩
    · simp only [z, LS]
      exact ⟨.nil, fun p h => (nomatch h), fun p h => (nomatch h), fun p h => (nomatch h), fun p h => (nomatch h)⟩
theorem Gr.last{t:Bool}{o l:Int}(G:Gr b st f r is)(h1:st t=[(o,l)])(h2:st (!t)=[]):
  ∃ns:List Int,ns.length+1=r/\ns.Perm (iT 1 ns.length)/\∀u,(if u=t then f u++[(o,(r:Int))] else f u).Perm (aV b ns u (ns.length+1))/\∀p∈aV b ns u (ns.length+1),∀q∈aV b ns u (ns.length+1),dy p q=false:=by
 have hl:=G.many;have h3:(st false).length+(st true).length=1:=by
  cases t
  ·rw[h1,show st true=[] from h2];rfl
  ·rw[h1,show st false=[] from h2];rfl
 obtain⟨p,rfl⟩:∃p,is=[p]:=by
  match is,(show is.length=1 by lia) with
  | [p],_=>exact⟨p,rfl⟩
 have hm:p.main=true:=by
  have:=G.one;rw[cV] at this;cases z:p.main with
  | true=>rfl
  | false=>rw[z] at this;simp at this
 obtain⟨hd,hs⟩:=G.hd p (by simp) hm;have he:=G.ends;have hp:p.lst=((o,l),t):=by
  have e:d6 st=[((o,l),t)]:=by
   unfold d6;cases t
   ·rw[h1,show st true=[] from h2];rfl
   ·rw[h1,show st false=[] from h2];rfl
  rw[e,aW,jo,be] at he;unfold Pc.ends Pc.more at he;rw[hm] at he;have:=List.perm_singleton.mp he.symm;simpa using this
 have G':=G.ext hp (st':=[]) h1;obtain⟨ns,hns⟩:∃ns,p.rows=0::ns:=by
  cases e:p.rows with
  | nil=>rw[e] at hd;cases hd
  | cons a R=>rw[e] at hd;cases hd;exact⟨R,rfl⟩
 have hr:=G.rows;rw[aW,jo,be,hns] at hr;have hlen:=hr.length_eq;rw[bb,oR] at hlen;have hr1:ns.Perm (iT 1 ns.length):=by
  have e:iT 0 r=0::iT 1 ns.length:=by
   rw[<-hlen];unfold iT;rw[kN,aZ,b9];congr 1;refine cB λi _=>?_;simp only[Function.comp]
   push_cast
   lia
  rw[e] at hr;exact hr.cons_inv
 have er:p.rows++[(r:Int)]=d9 ns:=by
  rw[hns,<-hlen];unfold d9
  push_cast
  rfl
 have ch:∀(k m:Nat) (u:Bool),m=ns.length+1-k->k<=ns.length+1->chain (!(b ^^ odd k)) ((d9 ns).drop k) u=(((List.range m).map (·+k)).filter (cZ b u)).map (f7 ns):=by
  intro k m
  induction m generalizing k with
  | zero=>
   intro u hm hk;have e:k=ns.length+1:=by lia
   have:(d9 ns).drop k=[ah ns k]:=by
    have h:=aI.mp (gA (ns:=ns) (i:=k) (by lia));rw[bB h.1,h.2,gM (by rw[fq];lia)]
   rw[this];rfl
  | succ m ih=>
   intro u hm hk;have h:=aI.mp (gA (ns:=ns) (i:=k) (by lia));have h':=aI.mp (gA (ns:=ns) (i:=k+1) (by lia));have ih':=ih (k+1) u (by lia) (by lia);rw[bB h.1,h.2,bB h'.1,h'.2];show (if (!!(b ^^ odd k))=u then [(min (ah ns k) (ah ns (k+1)),max (ah ns k) (ah ns (k+1)))] else [])++chain (!!(b ^^ odd k)) (ah ns (k+1)::(d9 ns).drop (k+1+1)) u=_;have e2:chain (!!(b ^^ odd k)) (ah ns (k+1)::(d9 ns).drop (k+1+1)) u=(((List.range m).map (·+(k+1))).filter (cZ b u)).map (f7 ns):=by
    rw[<-ih',ja];have e3:(!(b ^^ !odd k))=!!(b ^^ odd k):=by cases b<;>cases odd k<;>rfl
    rw[e3];congr 1;rw[bB h'.1,h'.2]
   rw[e2,kN,aZ,b9,jp];have e4:((λx=>x+k)∘Nat.succ)=λx=>x+(k+1):=by funext x;simp only[Function.comp];lia
   rw[e4];show _=List.map (f7 ns) (if cZ b u (0+k)=true then _ else _);rw[cJ];have e5:cZ b u k=decide ((!!(b ^^ odd k))=u):=by unfold cZ;cases b<;>cases u<;>cases odd k<;>rfl
   rw[e5];by_cases z:(!!(b ^^ odd k))=u
   ·rw[LM z,LP z,LM rfl];rfl
   ·rw[LL z,LO z,LL au];rfl
 have sb:∀u,Pc.bows u { p with rows:=p.rows++[(r:Int)] }=aV b ns u (ns.length+1):=λu=>by
  show chain p.s (p.rows++[(r:Int)]) u=_;have:=ch 0 (ns.length+1) u rfl (a6 _);rw[show odd 0=false from rfl,Bool.xor_false] at this;rw[hs,er];refine Eq.trans this ?_;unfold aV;congr 2;simp
 have pu:∀u,(if u=t then f u++[(o,(r:Int))] else f u).Perm (aV b ns u (ns.length+1)):=λu=>by
  have:=G'.bows u;rw[aW,jo,be,sb u] at this;exact this
 refine⟨ns,hlen,hr1,λu=>⟨pu u,λx hx y hy=>?_⟩⟩;exact(G'.stk u).nc x ((pu u).mem_iff.mpr hx) y ((pu u).mem_iff.mpr hy)
end
def NC(b:Bool)(ns:List Int):Prop:=∀u,∀p∈aV b ns u (ns.length+1),∀q∈aV b ns u (ns.length+1),dy p q=false
inductive rY (st:Bool->List Oe) (f:Bool->List Bw) (r:Nat):Nat->(Bool->List Oe)->(Bool->List Bw)->Prop
 | a:rY st f r 0 (fun u=>st u++[((r:Int),(r:Int))]) f
 | b {S:List Oe} {o l:Int}:st true=S++[(o,l)]->rY st f r 1 (fun u=>if u=true then S else st u++[((r:Int),l)]) (fun u=>if u=true then f u++[(o,(r:Int))] else f u)
 | c {S:List Oe} {o l:Int}:st false=S++[(o,l)]->rY st f r 2 (fun u=>if u=false then S else st u++[((r:Int),l)]) (fun u=>if u=false then f u++[(o,(r:Int))] else f u)
 | d {n' f':List Oe} {o1 l1 o2 l2:Int}:st false=n'++[(o1,l1)]->st true=f'++[(o2,l2)]->l1≠l2->rY st f r 3 (fun u=>(if u then f' else n').map (ie (max l1 l2) (min l1 l2))) (fun u=>f u++[(if u then o2 else o1,(r:Int))])
section
variable {b:Bool} {st:Bool->List Oe} {f:Bool->List Bw} {r:Nat} {is:List Pc}
theorem Gr.joinS{o1 l1 o2 l2 x y:Int}{n' f':List Oe}(G:Gr b st f r is)(h1:st false=n'++[(o1,l1)])(h2:st true=f'++[(o2,l2)])(hne:l1≠l2)(hxy:(y=l1/\x=l2)\/(y=l2/\x=l1)):
  ∃js,Gr b (λu=>(if u then f' else n').map (ie x y)) (λu=>f u++[(if u then o2 else o1,(r:Int))]) (r+1) js:=by
 obtain⟨p,q,js,hp,hq,G2⟩:=G.pick2 h1 h2 hne;cases hm:q.main with
 | false=>
  exact⟨_,G2.join0 (ta:=false) (o:=λu=>if u then o2 else o1) (st':=λu=>if u then f' else n') hp hq (λu=>by cases u;exact h1;exact h2) hm hxy⟩
 | true=>
  have hm2:p.main=false:=by
   have:=G2.one;rw[cV,cV,hm] at this;cases z:p.main with
   | false=>rfl
   | true=>rw[z] at this;simp at this
  have G3:=G2.perm (List.Perm.swap q p js);exact⟨_,G3.join0 (ta:=true) (o:=λu=>if u then o2 else o1) (st':=λu=>if u then f' else n') hq hp (λu=>by cases u;exact h1;exact h2) hm2 hxy.symm⟩
theorem rY.gr{st':Bool->List Oe}{f':Bool->List Bw}{k:Nat}(P:rY st f r k st' f')(G:Gr b st f r is):∃js,Gr b st' f' (r+1) js:=by
 cases P with
 | a=>exact⟨_,G.opA⟩
 | @b S o l h=>obtain⟨p,js,hp,G1,_⟩:=G.pick (e:=((o,l),true)) (by unfold d6;rw[h];simp);exact⟨_,G1.ext hp h⟩
 | @c S o l h=>obtain⟨p,js,hp,G1,_⟩:=G.pick (e:=((o,l),false)) (by unfold d6;rw[h];simp);exact⟨_,G1.ext hp h⟩
 | d h h' ne=>exact G.joinS h h' ne (by lia)
def IH(L:List Int)(p:Nat):Prop:=1<=p/\p<L.length/\L[p-1]?≠L[p]?
instance (L:List Int) (p:Nat):Decidable (IH L p):=by unfold IH;infer_instance
end
end Rm
namespace Rm
open PySem L2 PyProof.Rows
section
variable {σ:L2.St} {H0:Hp}
abbrev D1 (σ:L2.St) (H0:Hp) (te:TE) (d:PyData):Prop:=DE View.all σ H0 te d
abbrev D2 (σ:L2.St) (H0:Hp) (ta:TA) (ds:List PyData):Prop:=DA View.all σ H0 ta ds
end
def En(H:Hp)(t:Addr)(u:Bool)(p q:Bw):Prop:=∃a c,H t=some (.tup [.str (sd u),.ref a,.ref c])/\f6 H a p/\f6 H c q
def qA:Sp:=λvs H Q _=>∃m o b ns,vs=[.ref m]/\jR H m o b ns/\kR ns/\(NC b ns->∀H',ao H H'->Q .non H') ∧
 ∀u,∀p∈aV b ns u (ns.length+1),∀q∈aV b ns u (ns.length+1),dy p q=true->∀t H',ao H H'->En H' t u p q->Q (.ref t) H'
theorem IZ{d:PyData}{k:Nat}(h:Pl d k):∀e∈[d],Pl e k:=λe he=>by rw[aQ] at he;subst he;exact h
theorem IY{d e:PyData}{k:Nat}(h:Pl d k)(g:Pl e k):∀f∈[d,e],Pl f k:=λf hf=>by
 rcases aF.mp hf with rfl | hf
 ·exact h
 ·exact IZ g f hf
theorem Gx{d e f:PyData}{k:Nat}(h:Pl d k)(g:Pl e k)(i:Pl f k):∀x∈[d,e,f],Pl x k:=λx hx=>by
 rcases aF.mp hx with rfl | hx
 ·exact h
 ·exact IY g i x hx
def Ds:PyData->Bool
 | .none | .bool _ | .int _ | .str _=>true
 | _=>false
end Rm
namespace L2
open PySem PySem.Spec PyProof.Rows
theorem qJ{X:Cx}{K:LU}(h:X.K=K):mS X (binaryOp .Add) (uY K):=h▸zz
theorem jV:∀{cs:List Addr} {us:List Value},bj (cs.map V.ref) us->us=cs.map Value.ref
 | [],_,.nil=>rfl
 | c::cs,_,.cons r t=>by
  rw[jV t];cases r;rfl
end L2
namespace Rm
open PySem L2 PyProof.Rows
structure Hj (S:List Bw) (n:Int):Prop where
 lt:∀ p∈S,p.1<p.2
 bd:∀ p∈S,0<=p.1/\p.2<=n+1
 has:∀ x,1<=x->x<=n->∃ p∈S,p.1=x\/p.2=x
 one:∀ p∈S,∀ q∈S,∀ x,(p.1=x\/p.2=x)->(q.1=x\/q.2=x)->p=q
 nc:∀ p∈S,∀ q∈S,dy p q=false
theorem EM{p q:Bw}(h:dy p q=false):¬(p.1<q.1/\q.1<p.2/\p.2<q.2):=λ⟨a,b,c⟩=>by
 unfold dy at h;rw[LP a,LP b,LP c] at h;cases h
theorem uy{x:Int}{p:Bw}:CB x p=true<->(p.1=x\/p.2=x):=by
 unfold CB;rw[kW,LN,LN];exact⟨λh=>h.imp iX iX,λh=>h.imp iX iX⟩
theorem ki{b:Bool}{ns:List Int}(O:kR ns)(nc:NC b ns)(u:Bool):Hj (aV b ns u (ns.length+1)) ns.length where
 lt:=λp hp=>by obtain⟨i,hi,_,rfl⟩:=f9 hp;exact O.step_lt (by lia)
 bd:=λp hp=>by obtain⟨i,hi,_,rfl⟩:=f9 hp;exact O.step_in (by lia)
 has:=λx h1 h2=>by
  obtain⟨i,hi⟩:=List.getElem?_of_mem (O.mem.mpr ⟨h1,h2⟩);have il:=(aI.mp hi).1;have er:=qE hi;have:cZ b u i=true\/cZ b u (i+1)=true:=by
   unfold cZ;rw[ja];cases b<;>cases u<;>cases odd i<;>simp
  rcases this with s | s
  ·refine⟨_,jX (by lia) s,?_⟩;rw[<-uy,<-er,O.has_iff (by lia) (by lia)];simp
  ·refine⟨_,jX (by lia) s,?_⟩;rw[<-uy,<-er,O.has_iff (by lia) (by lia)];simp
 one:=λp hp q hq x h1 h2=>by
  obtain⟨i,hi,si,rfl⟩:=f9 hp;obtain⟨j,hj,sj,rfl⟩:=f9 hq;have hx:∃k,k<ns.length+2/\x=ah ns k/\(i=k\/i+1=k):=by
   have e:x=ah ns i\/x=ah ns (i+1):=by
    have h1':min (ah ns i) (ah ns (i+1))=x\/max (ah ns i) (ah ns (i+1))=x:=h1;lia
   rcases e with e | e
   ·exact⟨i,by lia,e,.inl rfl⟩
   ·exact⟨i+1,by lia,e,.inr rfl⟩
  obtain⟨k,hk,rfl,ik⟩:=hx;have h2':=uy.mpr h2;rw[O.has_iff hk (by lia)] at h2';have jk:=LQ h2';have:i=j\/i=j+1\/j=i+1:=by lia
  rcases this with z | z | z
  ·rw[z]
  ·exact absurd z λz=>AD si sj z
  ·exact absurd z λz=>AD sj si z
 nc:=nc u
end Rm
namespace Rm
open PySem L2
theorem sv{α β:Type}{F:α->β->Prop}{l:List α}{m:List β}(h:Paired F l m):∀{i:Nat} {a:α},l[i]? = some a->∃b,m[i]? = some b/\F a b:=by
 induction h with
 | nil=>intro i a h;simp at h
 | cons r _ ih=>
  intro i a h;cases i with
  | zero=>cases h;exact⟨_,rfl,r⟩
  | succ i=>exact ih h
end Rm
namespace Rm
open PySem L2 PyProof.Rows
def nz(x:Nat):Int:=(x:Int)
structure Sd (u b:Bool) (cs:List Nat) (i:Nat) (S:List Oe) (F:List Bw):Prop where
 row:S.map (·.1)=(stN u b cs i).1.map nz
 bow:∀ p∈F,∃ x y:Nat,p=(nz x,nz y)/\(stN u b cs i).2 x=some y/\1<=y/\y<=i/\isIn u (cs.getD (y - 1) 0)=false/\(x=0\/isIn u (cs.getD (x - 1) 0)=true)
 top:∀ x∈(stN u b cs i).1,x=0\/isIn u (cs.getD (x - 1) 0)=true
section
variable {u b:Bool} {cs:List Nat} {i c:Nat} {S:List Oe} {F:List Bw}
theorem Sd.push(h:Sd u b cs i S F)(hc:cs.getD i 0=c)(hi:isIn u c=true)(l:Int):Sd u b cs (i+1) (S++[(((i+1:Nat):Int),l)]) F:=by
 have e:stN u b cs (i+1)=((stN u b cs i).1++[i+1],(stN u b cs i).2):=by
  show pP u (stN u b cs i) (i+1) (cs.getD i 0)=_;rw[hc,qd hi]
 refine⟨by rw[e,aM,aM,h.row];rfl,λp hp=>?_,λx hx=>?_⟩
 ·obtain⟨x,y,e1,e2,e3,e4,e5,e6⟩:=h.bow p hp;rw[e];exact⟨x,y,e1,e2,e3,by lia,e5,e6⟩
 ·rw[e] at hx;rcases aE.mp hx with z | z
  ·exact h.top x z
  ·rw[aQ] at z;subst z;exact .inr (by rw[fj,hc];exact hi)
theorem Sd.pop{o l:Int}(h:Sd u b cs i (S++[(o,l)]) F)(I:uF u b i (stN u b cs i))(hc:cs.getD i 0=c)(hi:isIn u c=false):Sd u b cs (i+1) S (F++[(o,((i+1:Nat):Int))]):=by
 have hr:=h.row;rw[aM] at hr;obtain⟨P,w,hs⟩:=o9 (l:=(stN u b cs i).1) (λz=>by rw[z] at hr;simp at hr);rw[hs,aM] at hr;obtain⟨r1,r2⟩:=List.append_inj' hr rfl;have ow:o=nz w:=by simpa using r2
 have e:stN u b cs (i+1)=(P,jL (stN u b cs i).2 (i+1) w):=by
  show pP u (stN u b cs i) (i+1) (cs.getD i 0)=_;rw[hc,nu hi hs]
 have wm:w∈(stN u b cs i).1:=by rw[hs];simp
 have wl:=I.le w wm;refine⟨by rw[e];exact r1,λp hp=>?_,λx hx=>?_⟩
 ·rw[e];rcases aE.mp hp with z | z
  ·obtain⟨x,y,e1,e2,e3,e4,e5,e6⟩:=h.bow p z;refine⟨x,y,e1,?_,e3,by lia,e5,e6⟩;have n1:x≠i+1:=λz=>by have:=I.bd x y e2;lia
   have n2:x≠w:=λz=>by rw[z,I.out w wm] at e2;cases e2
   show jL _ _ _ x=_;unfold jL;rw[LL n1,LL n2];exact e2
  ·rw[aQ] at z;subst z;refine⟨w,i+1,by rw[ow];rfl,?_,by lia,by lia,by rw[fj,hc];exact hi,h.top w wm⟩;show jL _ _ _ w=_;unfold jL;rw[LL (by lia),LM rfl]
 ·rw[e] at hx;exact h.top x (by rw[hs];exact ae _ hx)
theorem Sd.lab(h:Sd u b cs i S F)(g:Oe->Oe)(hg:∀e,(g e).1=e.1):Sd u b cs i (S.map g) F:=by
 refine⟨?_,h.bow,h.top⟩;rw[<-h.row,b9];exact cB λe _=>hg e
end
structure Hm (g:Int->Int) (L R:List Int) (st:Bool->List Oe):Prop where
 inj:∀ x∈L++R,∀ y∈L++R,g x=g y->x=y
 l:(st false).map (·.2)=L.map g
 r:(st true).map (·.2)=R.map g
structure Sm (b:Bool) (cs:List Nat) (i:Nat) (L R:List Int) (st:Bool->List Oe) (f:Bool->List Bw):Prop where
 gr:∃ is,Gr b st f (i+1) is
 lab:∃ g,Hm g L R st
 sd:∀ u,Sd u b cs i (st u) (f u)
theorem Sm.start(b:Bool)(cs:List Nat):Sm b cs 0 (bL b) (bR b) (λu=>if u=b then [((0:Int),(0:Int))] else []) (λ_=>[]):=by
 refine⟨⟨_,Gr.start b⟩,⟨id,?_⟩,λu=>?_⟩
 ·cases b
  ·exact⟨λx _ y _ h=>h,rfl,rfl⟩
  ·exact⟨λx _ y _ h=>h,rfl,rfl⟩
 ·refine⟨?_,(λp h=>nomatch h),λx hx=>?_⟩
  ·show _=(vf u b).1.map nz;unfold vf;by_cases h:u=b
   ·rw[LM h,LM h];rfl
   ·rw[LL h,LL h];rfl
  ·have hx:x∈(vf u b).1:=hx;unfold vf at hx
   split at hx
   ·left;simpa using hx
   ·cases hx
theorem Gr.lab_lt{b:Bool}{st:Bool->List Oe}{f:Bool->List Bw}{r:Nat}{is:List Pc}(G:Gr b st f r is){u:Bool}{e:Oe}(h:e∈st u):e.2<r:=by
 have hm:(e,u)∈d6 st:=by
  unfold d6;cases u
  ·exact ae _ (aw.mpr ⟨e,h,rfl⟩)
  ·exact aa _ (aw.mpr ⟨e,h,rfl⟩)
 obtain⟨p,hp,he⟩:=eM.mp (G.ends.mem_iff.mp hm);have hl:=G.lr p hp;unfold Pc.ends at he;rcases aF.mp he with z | z
 ·have:e=(ltZ p.rows,p.lab):=congrArg Prod.fst z;rw[this];exact hl
 ·unfold Pc.more at z
  split at z
  ·cases z
  ·have:e=(wN p.rows,p.lab):=by rw[aQ] at z;exact congrArg Prod.fst z
   rw[this];exact hl
theorem md{α β:Type}{f:α->β}{l:List α}{Q:List β}{v:β}(h:l.map f=Q++[v]):∃S e,l=S++[e]/\S.map f=Q/\f e=v:=by
 have hne:l≠[]:=λz=>by rw[z] at h;simp at h
 refine⟨l.dropLast,l.getLast hne,(d8 hne).symm,?_⟩;rw[<-d8 hne,aM] at h;obtain⟨h1,h2⟩:=List.append_inj' h rfl;exact⟨h1,by simpa using h2⟩
section
variable {b:Bool} {cs:List Nat} {i c:Nat} {L R L' R':List Int} {st:Bool->List Oe} {f:Bool->List Bw}
theorem Sm.la(h:Sm b cs i L R st f)(E:EE L R)(hc:cs.getD i 0=97):Sm b cs (i+1) (L++[1+mx (L++R)]) (R++[1+mx (L++R)]) (λu=>st u++[(((i+1:Nat):Int),((i+1:Nat):Int))]) f:=by
 obtain⟨is,G⟩:=h.gr;obtain⟨g,M⟩:=h.lab;obtain⟨f0,f1,f2⟩:=rK E;have f2:1+mx (L++R)∉R:=λz=>f2 (jm.mpr z);refine⟨(rY.a (st:=st) (f:=f) (r:=i+1)).gr G,⟨λx=>if x=1+mx (L++R) then ((i+1:Nat):Int) else g x,?_⟩,λu=>(h.sd u).push hc (by cases u<;>rfl) _⟩;generalize 1+mx (L++R)=m at f1 f2;have gl:∀x∈L++R,g x<((i+1:Nat):Int):=λx hx=>by
  rcases aE.mp hx with z | z
  ·have:g x∈(st false).map (·.2):=by rw[M.l];exact aw.mpr ⟨x,z,rfl⟩
   obtain⟨e,he,e2⟩:=aw.mp this;rw[<-e2];exact G.lab_lt he
  ·have:g x∈(st true).map (·.2):=by rw[M.r];exact aw.mpr ⟨x,z,rfl⟩
   obtain⟨e,he,e2⟩:=aw.mp this;rw[<-e2];exact G.lab_lt he
 have ng:∀x∈L++R,x≠m:=λx hx z=>by
  rcases aE.mp hx with w | w
  ·exact f1 (z▸w)
  ·exact f2 (z▸w)
 have mm:∀l:List Int,(∀x∈l,x∈L++R)->l.map g++[((i+1:Nat):Int)]=(l++[m]).map (λx=>if x=m then ((i+1:Nat):Int) else g x):=λl hl=>by
  rw[aM];congr 1
  ·exact cB λx hx=>by rw[LL (ng x (hl x hx))]
  ·simp
 have mem:∀x,x∈(L++[m])++(R++[m])->x=m\/x∈L++R:=λx hx=>by
  simp only[aE,aQ] at hx ⊢;rcases hx with (z | z) | (z | z)
  ·exact .inr (.inl z)
  ·exact .inl z
  ·exact .inr (.inr z)
  ·exact .inl z
 refine⟨λx hx y hy e=>?_,?_,?_⟩
 ·rcases mem x hx with z | z<;>rcases mem y hy with w | w
  ·rw[z,w]
  ·rw[LM z,LL (ng y w)] at e;have:=gl y w;lia
  ·rw[LL (ng x z),LM w] at e;have:=gl x z;lia
  ·rw[LL (ng x z),LL (ng y w)] at e;exact M.inj x z y w e
 ·show (st false++_).map _=_;rw[aM,M.l];exact mm L λx hx=>ae _ hx
 ·show (st true++_).map _=_;rw[aM,M.r];exact mm R λx hx=>aa _ hx
theorem Sm.lb{Q:List Int}{v:Int}(h:Sm b cs i L (Q++[v]) st f)(I:∀u,uF u b i (stN u b cs i))(hc:cs.getD i 0=98):∃st' f',Sm b cs (i+1) (L++[v]) Q st' f':=by
 obtain⟨is,G⟩:=h.gr;obtain⟨g,M⟩:=h.lab;have hr:=M.r;rw[aM] at hr;obtain⟨S,⟨o,l⟩,e1,e2,e3⟩:=md hr;have e3:l=g v:=e3;refine⟨_,_,(rY.b (st:=st) (f:=f) (r:=i+1) e1).gr G,⟨g,λx hx y hy e=>M.inj x ?_ y ?_ e,?_,?_⟩,λu=>?_⟩
 ·simp only[aE,aQ] at hx ⊢;rcases hx with (z | z) | z<;>simp[z]
 ·simp only[aE,aQ] at hy ⊢;rcases hy with (z | z) | z<;>simp[z]
 ·simp[M.l,e3]
 ·simpa using e2
 ·have hs:=h.sd u;cases u with
  | false=>simpa using hs.push hc (by rfl) l
  | true=>
   rw[e1] at hs;simpa using hs.pop (I true) hc (by rfl)
theorem Sm.lc{P:List Int}{v:Int}(h:Sm b cs i (P++[v]) R st f)(I:∀u,uF u b i (stN u b cs i))(hc:cs.getD i 0=99):∃st' f',Sm b cs (i+1) P (R++[v]) st' f':=by
 obtain⟨is,G⟩:=h.gr;obtain⟨g,M⟩:=h.lab;have hr:=M.l;rw[aM] at hr;obtain⟨S,⟨o,l⟩,e1,e2,e3⟩:=md hr;have e3:l=g v:=e3;refine⟨_,_,(rY.c (st:=st) (f:=f) (r:=i+1) e1).gr G,⟨g,λx hx y hy e=>M.inj x ?_ y ?_ e,?_,?_⟩,λu=>?_⟩
 ·simp only[aE,aQ] at hx ⊢;rcases hx with z | (z | z)<;>simp[z]
 ·simp only[aE,aQ] at hy ⊢;rcases hy with z | (z | z)<;>simp[z]
 ·simpa using e2
 ·simp[M.r,e3]
 ·have hs:=h.sd u;cases u with
  | true=>simpa using hs.push hc (by rfl) l
  | false=>
   rw[e1] at hs;simpa using hs.pop (I false) hc (by rfl)
theorem Sm.ld{P Q:List Int}{x y:Int}(h:Sm b cs i (P++[x]) (Q++[y]) st f)(I:∀u,uF u b i (stN u b cs i))(hc:cs.getD i 0=100)(hxy:x≠y):∃st' f',Sm b cs (i+1) (P.map (rn (min x y) (max x y))) (Q.map (rn (min x y) (max x y))) st' f':=by
 obtain⟨is,G⟩:=h.gr;obtain⟨g,M⟩:=h.lab;have hl:=M.l;have hr:=M.r;rw[aM] at hl hr;obtain⟨n',⟨o1,l1⟩,e1,e2,e3⟩:=md hl;obtain⟨f',⟨o2,l2⟩,d1,d2,d3⟩:=md hr;have e3:l1=g x:=e3;have d3:l2=g y:=d3;have mx1:x∈(P++[x])++(Q++[y]):=by simp
 have my1:y∈(P++[x])++(Q++[y]):=by simp
 have hne:l1≠l2:=λz=>hxy (M.inj x mx1 y my1 (by rw[<-e3,<-d3];exact z));have lohi:(min x y=x/\max x y=y)\/(min x y=y/\max x y=x):=by lia
 have LOHI:(min l1 l2=l1/\max l1 l2=l2)\/(min l1 l2=l2/\max l1 l2=l1):=by lia
 have lne:min x y≠max x y:=by lia
 have Lne:min l1 l2≠max l1 l2:=by lia
 have xy:∀v∈(P++[x])++(Q++[y]),(g v=l1->v=x)/\(g v=l2->v=y):=λv hv=>⟨λz=>M.inj v hv x mx1 (by rw[z,e3]),λz=>M.inj v hv y my1 (by rw[z,d3])⟩
 generalize min x y=lo at *;generalize max x y=hi at *;generalize min l1 l2=Lo at *;generalize max l1 l2=Hi at *;refine⟨λu=>(if u then f' else n').map (ie Hi Lo),λu=>f u++[(if u then o2 else o1,((i+1:Nat):Int))],?_,⟨λw=>if w=lo then Lo else g w,?_⟩,λu=>?_⟩
 ·exact G.joinS e1 d1 hne (by rcases LOHI with ⟨a,b⟩ | ⟨a,b⟩<;>simp[a,b])
 ·have key:∀v∈(P++[x])++(Q++[y]),(if rn lo hi v=lo then Lo else g (rn lo hi v))=rn Lo Hi (g v):=λv hv=>by
   obtain⟨k1,k2⟩:=xy v hv;unfold rn;by_cases v1:v=hi
   ·rw[LM v1,LM rfl];have:g v=Lo\/g v=Hi:=by
     rcases lohi with ⟨a,c⟩ | ⟨a,c⟩<;>rcases LOHI with ⟨a',c'⟩ | ⟨a',c'⟩<;>rw[v1,c]<;>simp only[<-e3,<-d3]<;>lia
    split
    ·rfl
    ·lia
   ·rw[LL v1];by_cases v2:v=lo
    ·rw[LM v2];have:g v=Lo\/g v=Hi:=by
      rcases lohi with ⟨a,c⟩ | ⟨a,c⟩<;>rcases LOHI with ⟨a',c'⟩ | ⟨a',c'⟩<;>rw[v2,a]<;>simp only[<-e3,<-d3]<;>lia
     split
     ·rfl
     ·lia
    ·rw[LL v2,LL];intro z;rcases lohi with ⟨a,c⟩ | ⟨a,c⟩<;>rcases LOHI with ⟨a',c'⟩ | ⟨a',c'⟩<;>lia
  have sub:∀w,w∈P.map (rn lo hi)++Q.map (rn lo hi)->∃v∈(P++[x])++(Q++[y]),w=rn lo hi v:=λw hw=>by
   rcases aE.mp hw with z | z
   ·obtain⟨v,hv,e⟩:=aw.mp z;exact⟨v,by simp[hv],e.symm⟩
   ·obtain⟨v,hv,e⟩:=aw.mp z;exact⟨v,by simp[hv],e.symm⟩
  have rnn:∀v,rn lo hi v≠hi:=λv=>by unfold rn;split<;>lia
  have inL:∀w,w∈P.map (rn lo hi)++Q.map (rn lo hi)->w=lo\/(w∈(P++[x])++(Q++[y])/\w≠hi):=λw hw=>by
   obtain⟨v,hv,rfl⟩:=sub w hw;by_cases z:v=hi
   ·left;unfold rn;rw[LM z]
   ·right;exact⟨by unfold rn;rw[LL z];exact hv,rnn v⟩
  have noLo:∀w,w∈(P++[x])++(Q++[y])->w≠hi->w≠lo->g w≠Lo:=λw hw n1 n2 z=>by
   obtain⟨k1,k2⟩:=xy w hw;rcases lohi with ⟨a,c⟩ | ⟨a,c⟩<;>rcases LOHI with ⟨a',c'⟩ | ⟨a',c'⟩<;>lia
  refine⟨λv hv w hw e=>?_,?_,?_⟩
  ·rcases inL v hv with z | ⟨z,zn⟩<;>rcases inL w hw with t | ⟨t,tn⟩
   ·rw[z,t]
   ·by_cases tl:w=lo
    ·rw[z,tl]
    ·rw[LM z,LL tl] at e;exact absurd e.symm (noLo w t tn tl)
   ·by_cases zl:v=lo
    ·rw[zl,t]
    ·rw[LL zl,LM t] at e;exact absurd e (noLo v z zn zl)
   ·by_cases zl:v=lo
    ·by_cases tl:w=lo
     ·rw[zl,tl]
     ·rw[LM zl,LL tl] at e;exact absurd e.symm (noLo w t tn tl)
    ·by_cases tl:w=lo
     ·rw[LL zl,LM tl] at e;exact absurd e (noLo v z zn zl)
     ·rw[LL zl,LL tl] at e;exact M.inj v z w t e
  ·show (n'.map (ie Hi Lo)).map (·.2)=_;rw[b9,b9];have:n'.map ((·.2)∘ie Hi Lo)=(n'.map (·.2)).map (rn Lo Hi):=by rw[b9];rfl
   rw[this,e2,b9];exact cB λv hv=>(key v (by simp[hv])).symm
  ·show (f'.map (ie Hi Lo)).map (·.2)=_;rw[b9,b9];have:f'.map ((·.2)∘ie Hi Lo)=(f'.map (·.2)).map (rn Lo Hi):=by rw[b9];rfl
   rw[this,d2,b9];exact cB λv hv=>(key v (by simp[hv])).symm
 ·have hs:=h.sd u;cases u with
  | false=>
   rw[e1] at hs;exact(hs.pop (I false) hc (by rfl)).lab _ λe=>rfl
  | true=>
   rw[d1] at hs;exact(hs.pop (I true) hc (by rfl)).lab _ λe=>rfl
theorem Sm.step(h:Sm b cs i L R st f)(Rn:Run b cs i L R)(e:cs[i]? = some c)(hc:lE c)(g:eL L R c=some (L',R')):∃st' f',Sm b cs (i+1) L' R' st' f':=by
 have hg:cs.getD i 0=c:=by rw[bf,e];rfl
 have I:∀u,uF u b i (stN u b cs i):=λu=>by cases u;exact Rn.li;exact Rn.ri
 rcases hc with rfl | rfl | rfl | rfl
 ·cases g;exact⟨_,_,h.la Rn.ee hg⟩
 ·by_cases z:R=[]
  ·subst z;rw[rJ] at g;cases g
  ·obtain⟨Q,v,rfl⟩:=dO z;rw[tW] at g;cases g;exact h.lb I hg
 ·by_cases z:L=[]
  ·subst z;rw[rH] at g;cases g
  ·obtain⟨P,v,rfl⟩:=dO z;rw[tV] at g;cases g;exact h.lc I hg
 ·by_cases z:L=[]
  ·subst z;rw[rG] at g;cases g
  ·by_cases z2:R=[]
   ·subst z2;rw[rF] at g;cases g
   ·obtain⟨P,x,rfl⟩:=dO z;obtain⟨Q,y,rfl⟩:=dO z2;rw[tU] at g
    split at g
    ·cases g
    ·cases g;exact h.ld I hg (by assumption)
end
theorem kR.row_leC{ns:List Int}(O:kR ns){j:Nat}(h:j<ns.length+1):0<=ah ns j/\ah ns j<=ns.length:=by
 have h1:=O.row_in (i:=j) (by lia);have:ah ns j≠(ns.length:Int)+1:=λe=>by
  rw[<-gZ ns] at e;have:=O.row_inj (by lia) (by lia) e;lia
 lia
theorem vk{b:Bool}{cs:List Nat}(hl:yJ cs)(h:gS (bL b) (bR b) cs 0=none):∀i,i<=cs.length->∃L R st f,Run b cs i L R/\gS L R (cs.drop i) i=none/\Sm b cs i L R st f
 | 0,_=>⟨_,_,_,_,Run.zero b cs,h,Sm.start b cs⟩
 | i+1,hi=>by
  obtain⟨L,R,st,f,rn,re,sm⟩:=vk hl h i (by lia);have hi':i<cs.length:=by lia
  rw[bB hi'] at re;have hc:lE cs[i]:=hl _ (gc hi');cases g:eL L R cs[i] with
  | none=>rw[mZ g] at re;cases re
  | some p=>
   obtain⟨L',R'⟩:=p;rw[lS g] at re;obtain⟨st',f',sm'⟩:=sm.step rn (aS hi') hc g;exact⟨L',R',st',f',rn.step (aS hi') hc g,re,sm'⟩
structure wb (b:Bool) (cs:List Nat) (ns:List Int):Prop where
 len:ns.length=cs.length
 ord:kR ns
 nc:NC b ns
 step:∀ j,j<=cs.length->fin2 b cs (b ^^ odd j) (ah ns j).toNat=some (ah ns (j+1)).toNat
 lets:∀ u,∀ r:Nat,1<=r->r<=cs.length->decide ((r:Int)∈(aV b ns u (ns.length+1)).map (·.1))=isIn u (cs.getD (r - 1) 0)
theorem xp{b:Bool}{cs:List Nat}(hl:yJ cs)(h20:cs.length<=20)(h:gS (bL b) (bR b) cs 0=none):∃ns,wb b cs ns:=by
 obtain⟨L,R,st,f,rn,re,sm⟩:=vk hl h cs.length (aB _);rw[jr] at re;have one:L.length+R.length=1:=by
  unfold gS at re
  split at re
  ·assumption
  ·cases re
 obtain⟨g,M⟩:=sm.lab;obtain⟨is,G⟩:=sm.gr;have I:∀u,uF u b cs.length (stN u b cs cs.length):=λu=>by cases u;exact rn.li;exact rn.ri
 have l1:(st false).length=L.length:=by have:=congrArg List.length M.l;simpa using this
 have l2:(st true).length=R.length:=by have:=congrArg List.length M.r;simpa using this
 obtain⟨t,o,l,h1,h2⟩:∃t o l,st t=[(o,l)]/\st (!t)=[]:=by
  by_cases z:(st false).length=1
  ·obtain⟨⟨o,l⟩,e⟩:=gJ.mp z;exact⟨false,o,l,e,cw.mp (by show (st true).length=0;lia)⟩
  ·obtain⟨⟨o,l⟩,e⟩:=gJ.mp (show (st true).length=1 by lia);exact⟨true,o,l,e,cw.mp (by show (st false).length=0;lia)⟩
 obtain⟨ns,e1,e2,e3⟩:=G.last h1 h2;have en:ns.length=cs.length:=by lia
 have O:kR ns:=⟨by lia,e2⟩
 have NCs:NC b ns:=λu=>(e3 u).2;have lt:=(sm.sd t).row;rw[h1] at lt;obtain⟨w,hw⟩:∃w,(stN t b cs cs.length).1=[w]:=by
  have:(stN t b cs cs.length).1.length=1:=by have:=congrArg List.length lt;simpa using this.symm
  exact gJ.mp this
 have ow:o=nz w:=by rw[hw] at lt;simpa using lt
 have fin_in:∀u x y,(stN u b cs cs.length).2 x=some y->fin2 b cs u x=some y:=λu x y e=>by
  unfold fin2 rL;rw[LL (λz=>by rw[(I u).out x z] at e;cases e)];exact e
 have pairs:∀u,∀p∈aV b ns u (ns.length+1),∃x y:Nat,p=(nz x,nz y)/\fin2 b cs u x=some y/\(y<=cs.length->fin2 b cs u y=some x/\1<=y/\isIn u (cs.getD (y - 1) 0)=false)/\(x=0\/isIn u (cs.getD (x - 1) 0)=true):=by
  intro u p hp;have hp:=(e3 u).1.mem_iff.mpr hp;have old:p∈f u->∃x y:Nat,p=(nz x,nz y)/\fin2 b cs u x=some y/\(y<=cs.length->fin2 b cs u y=some x/\1<=y/\isIn u (cs.getD (y - 1) 0)=false)/\(x=0\/isIn u (cs.getD (x - 1) 0)=true):=λhp=>by
   obtain⟨x,y,p1,p2,p3,p4,p5,p6⟩:=(sm.sd u).bow p hp;exact⟨x,y,p1,fin_in u x y p2,λ_=>⟨fin_in u y x ((I u).sym x y p2),p3,p5⟩,p6⟩
  by_cases ut:u=t
  ·rw[LM ut] at hp;rcases aE.mp hp with z | z
   ·exact old z
   ·rw[aQ] at z;subst ut;refine⟨w,cs.length+1,by rw[z,ow];rfl,?_,λz=>by lia,(sm.sd u).top w (by rw[hw];simp)⟩;unfold fin2 rL;rw[LM (by rw[hw];simp)]
  ·rw[LL ut] at hp;exact old hp
 refine⟨ns,en,O,NCs,λj hj=>?_,λu r hr1 hr2=>?_⟩
 ·obtain⟨x,y,p1,p2,p3,p4⟩:=pairs _ _ (jX (b:=b) (ns:=ns) (m:=ns.length+1) (i:=j) (by lia) (ku b j));have q1:min (ah ns j) (ah ns (j+1))=nz x:=congrArg Prod.fst p1;have q2:max (ah ns j) (ah ns (j+1))=nz y:=congrArg Prod.snd p1;have b1:=O.row_leC (j:=j) (by lia);unfold nz at q1 q2;by_cases le:ah ns j<=ah ns (j+1)
  ·rw[show (ah ns j).toNat=x by lia,show (ah ns (j+1)).toNat=y by lia];exact p2
  ·rw[show (ah ns j).toNat=y by lia,show (ah ns (j+1)).toNat=x by lia];exact(p3 (by lia)).1
 ·cases hi:isIn u (cs.getD (r - 1) 0) with
  | true=>
   refine LP ?_;obtain⟨p,hp,e⟩:=(ki O NCs u).has (r:Int) (by lia) (by lia);rcases e with e | e
   ·exact aw.mpr ⟨p,hp,e⟩
   ·obtain⟨x,y,p1,p2,p3,p4⟩:=pairs u p hp;rw[p1] at e;have e:nz y=(r:Int):=e;unfold nz at e;have ey:y=r:=by lia
    subst ey;rw[(p3 hr2).2.2] at hi;cases hi
  | false=>
   refine LO λz=>?_;obtain⟨p,hp,e⟩:=aw.mp z;obtain⟨x,y,p1,p2,p3,p4⟩:=pairs u p hp;rw[p1] at e;have e:nz x=(r:Int):=e;unfold nz at e;have ex:x=r:=by lia
   subst ex;rcases p4 with z | z
   ·lia
   ·rw[hi] at z;cases z
section
variable {b:Bool} {cs:List Nat} {ns:List Int}
theorem wb.pth(C:wb b cs ns):∀j,j<=cs.length+1->pth (fin2 b cs) b j=((ah ns j).toNat,b ^^ odd j)
 | 0,_=>by
  show (0,b)=_;rw[mz];cases b<;>rfl
 | j+1,h=>by
  have ih:=C.pth j (by lia);show ((fin2 b cs (Rm.pth (fin2 b cs) b j).2 (Rm.pth (fin2 b cs) b j).1).getD 0,!(Rm.pth (fin2 b cs) b j).2)=_;rw[ih];simp only;rw[C.step j (by lia),ja];cases b<;>cases odd j<;>rfl
theorem wb.vld(C:wb b cs ns):Aw cs.length b (fin2 b cs) (cs.length+1):=by
 refine⟨λi hi=>?_,λi hi=>?_⟩
 ·rw[C.pth i (by lia)];have:=C.ord.row_leC (j:=i) (by rw[C.len];lia);have:=C.len;simp only;lia
 ·rw[C.pth i (by lia),C.pth (i+1) (by lia)];exact C.step i (by lia)
theorem wb.last(C:wb b cs ns):(Rm.pth (fin2 b cs) b (cs.length+1)).1=cs.length+1:=by
 rw[C.pth _ (aB _)];simp only;rw[<-C.len,gZ];lia
theorem wb.ordF(C:wb b cs ns):ordF (fin2 b cs) b cs.length=ns:=by
 unfold Rm.ordF;apply jq
 ·simp[C.len]
 ·intro i h1 h2;have hi:i<cs.length:=by simpa using h1
  simp only[List.getElem_map,List.getElem_range];rw[C.pth _ (by lia)];simp only;rw[qE (aS h2)];have:=C.ord.mem.mp (gc h2);lia
theorem vL.maze{H:Hp}{a:Addr}(h:vL H a b cs)(C:wb b cs ns):∃o,jR H a o b ns:=by
 obtain⟨o,T,h1,h2,h3,V,e,h4⟩:=h;have:=Ei V e C.vld C.last;subst this;rw[fj,C.ordF] at h4;exact⟨o,h1,h4⟩
end
def rB(l r:Bool):Nat:=if l then (if r then 97 else 98) else if r then 99 else 100
def c7(b:Bool)(ns:List Int):List Nat:=(List.range ns.length).map λi:Nat=>rB (decide (((i+1:Nat):Int)∈(aV b ns false (ns.length+1)).map (·.1))) (decide (((i+1:Nat):Int)∈(aV b ns true (ns.length+1)).map (·.1)))
theorem Bu{c:Nat}(h:lE c):rB (isIn false c) (isIn true c)=c:=by rcases h with rfl | rfl | rfl | rfl<;>rfl
theorem wb.code{b:Bool}{cs:List Nat}{ns:List Int}(C:wb b cs ns)(hl:yJ cs):c7 b ns=cs:=by
 unfold c7;apply jq
 ·simp[C.len]
 ·intro i h1 h2;simp only[List.getElem_map,List.getElem_range];rw[C.lets false (i+1) (by lia) (by lia),C.lets true (i+1) (by lia) (by lia),fj];have e:cs.getD i 0=cs[i]:=by rw[bf,aS h2];rfl
  rw[e,Bu (hl _ (gc h2))]
end Rm
namespace L2
open PySem PySem.Spec PyProof.Rows
def As(lo:Int)(n:Nat):It:=⟨λi _=>i<n,λi H x H'=>H'=H/\x=.int (lo+i*2),λi _=>n<=i⟩
theorem sF {P : Program} {w : World} {K : LU} {tg : Expr} (it : Addr) (lo : Int) (n : Nat) : Turn P w K tg (As lo n) [it] it (fun i h => IsRangeIter h it (lo + (i : Nat) * 2) ((n : Int) - (i : Nat)) 2) where
  mem := by simp
  obj := fun i h st b hb => by
    have e : b = it := by simpa using hb
    subst e
    exact ⟨_, st, fun v z => by
      have z' : Data.fields _ = Data.cell v := z
      cases z'⟩
  keep := fun i h h' st k => k it (by simp) _ st
  item := by
    intro X hP hw hK hc i pins s σ H E I hf st hg
    subst hP hw hK
    obtain ⟨f0, f1, f2, f3, f4, f5⟩ := hf it (by simp)
    have W := Walks.range (prog := X.prog) (w := X.w) (I.ok.hd hc) it lo 2 n
    refine W.item i s _ _ hg st fun v h' tk hv st' kk => ?_
    obtain ⟨t, rfl⟩ := hv
    have I1 : bW X pins σ H { s with heap := h', toks := tk } := I.turned (fun b o hb e => kk b o (by simpa using hb) e) f0 f1 f3 f4 f5
    exact ⟨_, rfl, tT (s := { s with heap := h', toks := tk }) (n := "range_iterator") st' rfl rfl (by decide) ⟨.int (lo + i * 2), H, I1, ⟨t, rfl⟩, ⟨rfl, rfl⟩, st', fun b hb => (hf b hb).1⟩⟩
  done := by
    intro X hP hw hK hc i pins s σ H E I hf st hg
    subst hP hw hK
    obtain ⟨f0, f1, f2, f3, f4, f5⟩ := hf it (by simp)
    exact Ke (I.ok.hd hc) st (by have : n ≤ i := hg; lia) fun h' eb => ⟨rfl, I.turned (t' := s.toks) (fun b o hb e => eb b o hb e) f0 f1 f3 f4 f5⟩
  self := fun _ _ _ _ _ st h => Kf st h
theorem lw(a b:Int):Builtin.Range.rangeSize a b 2=(((b-a+1) / 2).toNat:Int):=by
 unfold Builtin.Range.rangeSize;simp
 split<;>lia
theorem wv{a b:Int}(ha:-(2 ^ 61)<=a)(ha':a<2 ^ 61)(hb:-(2 ^ 61)<=b)(hb':b<2 ^ 61):Builtin.Range.small a b 2=true:=by
 unfold Builtin.Range.small;rw[lw];simp only[Builtin.Range.rangeFitsLong,cW,kW,LN,beq_iff_eq,show (2:Int) > 0 by decide,LR];lia
section
variable {X:Cx} {tg:Expr}
theorem xH{pins:List (Addr×Obj)}{σ:St}{H:Hp}{s:Shared}{R:It->Hp->Prop}{E:Value->Shared->Prop}{lo hi:Int}{t u v:Tok}{tk:Nat}(I:bW X pins σ H s)(h1:-(2 ^ 61)<=lo)(h2:lo<2 ^ 61)(h3:-(2 ^ 61)<=hi)(h4:hi<2 ^ 61)
  (q:R (As lo ((hi-lo+1) / 2).toNat) H):wpAny (model X.prog X.w) X.A (pyIter (.ref s.heap.objs.size)) (HD X pins σ tg R) E { s with heap:=s.heap.push { cls:=.type "range",data:=.fields #[.int lo t,.int hi u,.int 2 v] },toks:=tk }:=by
 refine Kg (IsRange.new ..) (wv h1 h2 h3 h4) ?_;have I1:bW X pins σ H { s with heap:=s.heap.push { cls:=.type "range",data:=.fields #[.int lo t,.int hi u,.int 2 v] },toks:=tk }:=I.kept λb o e=>aA _ e;refine⟨(s.heap.push { cls:=.type "range",data:=.fields #[.int lo t,.int hi u,.int 2 v] }).objs.size,[(s.heap.push { cls:=.type "range",data:=.fields #[.int lo t,.int hi u,.int 2 v] }).objs.size],_,_,H,rfl,
  I1.kept (t':=tk) λb o e=>aA _ e,sF _ lo ((hi-lo+1) / 2).toNat,?_,λb hb=>?_,q⟩
 ·have e1:lo+((0:Nat):Int)*2=lo:=by simp
  have e2:((((hi-lo+1) / 2).toNat:Nat):Int)-((0:Nat):Int)=Builtin.Range.rangeSize lo hi 2:=by rw[lw];simp
  show IsRangeIter _ _ (lo+((0:Nat):Int)*2) (((((hi-lo+1) / 2).toNat:Nat):Int)-((0:Nat):Int)) 2;rw[e1,e2];exact aP _ rfl
 ·have e:b=(s.heap.push { cls:=.type "range",data:=.fields #[.int lo t,.int hi u,.int 2 v] }).objs.size:=by simpa using hb
  subst e;exact I1.fpOk (aB _) (I1.hok.fresh (aB _))
def DC(ta:TA):TI:=λσ H R=>ta σ H λvs H1=>∃i j:Int,vs=[.int i,.int j,.int 2]/\(-(2 ^ 61)<=i/\i<2 ^ 61/\-(2 ^ 61)<=j/\j<2 ^ 61)/\R (As i ((j-i+1) / 2).toNat) H1
theorem u5 {a b c:Expr} {ta:TA} {p pos:Pos} (hg:Gl X "range") (hm:X.mg "range"=none) (ha:QA X [a,b,c] ta) (hs:starEach [a,b,c] X.env=(false,eval a X.env)::starEach [b,c] X.env:=by rfl) (hpl:(backTo pos (starEach [b,c] X.env)).any (·.1)=false:=by rfl) :
  QI X tg (.Call (.Name "range" p) [a,b,c] [] pos) (DC ta):=⟨by
 intro pins s σ H R I h;refine Call_ (jM I hg hm boot_range (bY (dk (ha.h pos pins s σ H _ I h) λus s1 ⟨vs,H1,I1,r1,q1⟩=>?_) hs hpl));obtain⟨i,j,e,⟨q1,q2,q3,q4⟩,q⟩:=q1;subst e;cases r1 with
 | cons r rr=>
  cases rr with
  | cons r' rr=>
   cases rr with
   | cons r'' rr=>
    cases rr;obtain⟨t,rfl⟩:=r;obtain⟨t',rfl⟩:=r';obtain⟨t'',rfl⟩:=r'';exact call_range_3 (by decide) (xH I1 q1 q2 q3 q4 q)⟩
theorem D0{σ:St}{H:Hp}{D:Ends}{ta:TA}{g:TG}{tb:TS}:n6 (DC ta) g tb D σ H=ta σ H λvs H1=>∃i j:Int,vs=[.int i,.int j,.int 2]/\(-(2 ^ 61)<=i/\i<2 ^ 61/\-(2 ^ 61)<=j/\j<2 ^ 61)/\lM (As i ((j-i+1) / 2).toNat) g tb D σ H1:=rfl
theorem vB{lo:Int}{n:Nat}{g:TG}{tb:TS}{D:Ends}{σ:St}{H:Hp}(Pv:Nat->St->Hp->Prop)(h0:Pv 0 σ H)
  (hs:∀i σ H,i<n->Pv i σ H->g (.int (lo+i*2)) σ H λσ2 H2=>tb { D with nx:=Pv (i+1),ct:=Pv (i+1),bk:=D.nx } σ2 H2) (hd:∀σ H,Pv n σ H->D.nx σ H):lM (As lo n) g tb D σ H:=by
 refine⟨λi m σ H=>m+i=n/\Pv i σ H,⟨n,rfl,h0⟩,?_⟩;rintro i m σ H ⟨hm,hp⟩;by_cases hi:i<n
 ·refine .inr ⟨hi,Pv (i+1),λσ' H' h=>⟨m - 1,by lia,by lia,h⟩,?_⟩;rintro v H' ⟨rfl,rfl⟩;exact hs i σ H' hi hp
 ·have e:i=n:=by lia
  subst e;exact .inl ⟨aB _,hd σ H hp⟩
end
end L2
namespace Rm
open PySem L2
theorem wx{K:LU}{H:Hp}{Q:VK}{a:Addr}{xs:List V}{k:Nat}(h:H a=some (.tup xs))(h2:k<=xs.length)(q:∀p H',ao H H'->H' p=some (.tup (xs.drop k))->Q (.ref p) H'):vv K (.ref a) (some (k:Int)) none H Q:=by
 refine⟨a,xs,rfl,eR.of h,λc=>?_,λ_ p np=>?_⟩
 ·have c1:=c.1;rw[HT.sIx_nat] at c1;have e:xs.drop k=xs:=by
   have:k=0\/xs.length=0:=by lia
   rcases this with rfl | z
   ·rfl
   ·have:=cw.mp z;subst this;simp
  exact q a H (ao.refl _) (by rw[e];exact h)
 ·rw[pA h2];exact q p _ ((ao.refl H).new np) aG
def dg(o:List Int):List Int:=[0]++o++[(o.length:Int)+1]
def Ex(r:List Int)(k:Nat):Int×Int:=(min (r.getD k 0) (r.getD (k+1) 0),max (r.getD k 0) (r.getD (k+1) 0))
def nO(r:List Int)(t:Nat)(n:Nat):List (Int×Int):=(List.range n).map λj=>Ex r (t+j*2)
def x2(a b:Int×Int):Bool:=decide (a.1<b.1)&&(decide (b.1<a.2)&&decide (a.2<b.2))
def yZ(bs:List (Int×Int)):Bool:=bs.any λa=>bs.any λb=>x2 a b
def q9(o:List Int)(t:Nat):Bool:=yZ (nO (dg o) t ((o.length+2-t) / 2))
def pB(o:List Int):Bool:=q9 o 0 || q9 o 1
def lg(r:Int)(o:List Int):List (List Int):=(List.range (o.length+1)).map λk=>o.take k++[r]++o.drop k
def l9:Nat->List (List Int)
 | 0=>[[]]
 | n+1=>(l9 n).flatMap (lg ((n:Int)+1))
theorem Bi:∀n,n<=5->(l9 n).length<=120:=by decide +kernel
theorem oX:∀(n:Nat),∀o∈l9 n,o.length=n
 | 0,o,h=>by simp[l9] at h;subst h;rfl
 | n+1,o,h=>by
  simp only[l9,eM] at h;obtain⟨p,hp,h⟩:=h;have:=oX n p hp;simp only[lg,aw,cj] at h;obtain⟨k,hk,rfl⟩:=h;simp;lia
def uK(H:Hp)(a:Addr)(o:List Int):Prop:=H a=some (.tup (o.map V.int))
def Co:Sp:=λvs H Q _=>∃(z:Str) (a:Addr) (o:List Int),vs=[.str z,.ref a]/\uK H a o/\o.length<=20/\∀H',ao H H'->Q (.bl (pB o)) H'
def zQ:Sp:=λvs H Q _=>∃n:Nat,vs=[.int (n:Nat)]/\n<=5/\∀(l:Addr) (as:List Addr) (H':Hp),ao H H'->H' l=some (.lst (as.map V.ref))->Paired (uK H') as (l9 n)->Q (.ref l) H'
theorem qH{α β:Type}{R:α->β->Prop}:∀{xs xs':List α} {ys ys':List β},Paired R xs ys->Paired R xs' ys'->Paired R (xs++xs') (ys++ys')
 | _,_,_,_,.nil,h=>h
 | _,_,_,_,.cons r t,h=>.cons r (qH t h)
theorem De{cs:List Nat}{i:Nat}:(tx cs).cps[i]? = cs[i]?:=by simp[tx]
theorem BN{cs:List Nat}(h:∀c∈cs,c<128):(tx cs).cps.all (·<128)=true:=by
 rw[Array.all_eq_true'];intro x hx;have:=h x (by simpa [tx] using hx);exact LP this
theorem zD{cs:List Nat}(h:yJ cs):(tx cs).cps.all (·<128)=true:=BN λx hx=>by rcases h x hx with z | z | z | z<;>lia
end Rm
namespace Rm
open PySem L2 PyProof.Rows
theorem tu(o:List Int){k:Nat}(h:k<=o.length):Ex (dg o) k=f7 o k:=by
 have e:dg o=d9 o:=by simp[dg,d9]
 unfold Ex f7 ah;rw[e]
theorem w9{b:Bool}{o:List Int}{t:Nat}{u:Bool}(ht:t=0/\u=b\/t=1/\u=!b){p:Bw}:p∈nO (dg o) t ((o.length+2-t) / 2)<->p∈aV b o u (o.length+1):=by
 unfold nO aV;rw[aw,aw];constructor
 ·rintro⟨j,hj,rfl⟩;have hj:=cj.mp hj;refine⟨t+j*2,fA.mpr ⟨cj.mpr (by lia),?_⟩,(tu o (by lia)).symm⟩;unfold cZ odd;rcases ht with ⟨rfl,rfl⟩ | ⟨rfl,rfl⟩
  ·rw[show (0+j*2) % 2=0 by lia];cases u<;>rfl
  ·rw[show (1+j*2) % 2=1 by lia];cases b<;>rfl
 ·rintro⟨i,hi,rfl⟩;obtain⟨h1,h2⟩:=fA.mp hi;have h1:=cj.mp h1;have h3:i % 2=t:=by
   unfold cZ odd at h2;rcases cP i with e | e
   ·rw[e] at h2;rcases ht with ⟨rfl,rfl⟩ | ⟨rfl,rfl⟩
    ·exact e
    ·cases b<;>cases h2
   ·rw[e] at h2;rcases ht with ⟨rfl,rfl⟩ | ⟨rfl,rfl⟩
    ·cases u<;>cases h2
    ·exact e
  exact⟨i / 2,cj.mpr (by lia),by rw[show t+i / 2*2=i by lia];exact tu o (by lia)⟩
theorem vM{ps qs:List Bw}(h:∀p,p∈ps<->p∈qs):yZ ps=false<->∀p∈qs,∀q∈qs,dy p q=false:=by
 unfold yZ;rw[dw];constructor
 ·intro z p hp q hq;have:=z p ((h p).mpr hp);rw[gg,dw] at this;have:=this q ((h q).mpr hq);rw[gg] at this;exact this
 ·intro z p hp;rw[gg,dw];intro q hq;rw[gg];exact z p ((h p).mp hp) q ((h q).mp hq)
theorem oE(b:Bool)(o:List Int):pB o=false<->NC b o:=by
 unfold pB q9;rw[Bool.or_eq_false_iff,vM (λp=>w9 (b:=b) (.inl ⟨rfl,rfl⟩)),vM (λp=>w9 (b:=b) (.inr ⟨rfl,rfl⟩))];constructor
 ·rintro⟨h1,h2⟩ u;by_cases e:u=b
  ·rw[e];exact h1
  ·have:u=!b:=by cases u<;>cases b<;>first | rfl | exact absurd rfl e
   rw[this];exact h2
 ·intro h;exact⟨h b,h (!b)⟩
def zS:Sp:=λvs H Q _=>∃(r:Int) (n:Nat),vs=[.int r,.int n]/\n<=20/\∀(l:Addr) (ns:List Int) (H':Hp),ao H H'->H' l=some (.tup (ns.map V.int))->ns.length=n->ns.Perm (iT 1 n)->Q (.ref l) H'
def gU(S:List Int->List Int->List (List Nat))(c:Nat):Option (List Int×List Int)->List (List Nat)
 | none=>[]
 | some (L,R)=>(S L R).map (c::·)
def ck:Nat->List Int->List Int->List (List Nat)
 | 0,L,R=>if L.length+R.length=1 then [[]] else []
 | n+1,L,R=>gU (ck n) 97 (eL L R 97)++gU (ck n) 98 (eL L R 98)++gU (ck n) 99 (eL L R 99)++gU (ck n) 100 (eL L R 100)
theorem lQ:∀(n:Nat) (L R:List Int),(ck n L R).length=lj n L R
 | 0,L,R=>by
  unfold ck lj
  split<;>rfl
 | n+1,L,R=>by
  have key:∀c o,(gU (ck n) c o).length=pG n o:=λc o=>by
   rcases o with _ | ⟨a,b⟩
   ·rfl
   ·show ((ck n a b).map _).length=lj n a b;rw[aC,lQ n a b]
  rw[nM];unfold ck;simp only[aR,key]
def xY(c n:Nat)(L R:List Int):Nat:=(if 97<c then pG n (eL L R 97) else 0)+(if 98<c then pG n (eL L R 98) else 0)+(if 99<c then pG n (eL L R 99) else 0)
def tI:List Nat->List Int->List Int->Nat
 | [],_,_=>0
 | c::cs,L,R=>xY c cs.length L R+(match eL L R c with | none=>0 | some (L',R')=>tI cs L' R')
theorem di{n c:Nat}{o:Option (List Int×List Int)}:(gU (ck n) c o).length=pG n o:=by
 rcases o with _ | ⟨a,b⟩
 ·rfl
 ·show ((ck n a b).map _).length=lj n a b;rw[aC,lQ n a b]
theorem Dr{n c i:Nat}{L R L' R':List Int}{cs:List Nat}(hc:lE c)(g:eL L R c=some (L',R'))(h:(ck n L' R')[i]? = some cs):(ck (n+1) L R)[xY c n L R+i]? = some (c::cs):=by
 have hi:i<(ck n L' R').length:=(aI.mp h).1;have at_:(gU (ck n) c (eL L R c))[i]? = some (c::cs):=by
  rw[g];show ((ck n L' R').map (c::·))[i]? = _;rw[bV,h];rfl
 have hl:i<(gU (ck n) c (eL L R c)).length:=(aI.mp at_).1;unfold ck xY;rcases hc with rfl | rfl | rfl | rfl
 ·simp only[ci,show ¬(98:Nat)<97 by decide,show ¬(99:Nat)<97 by decide,LS,cJ];rw[aK,aK,bG hl];exact at_
 ·simp only[ci,show (97:Nat)<98 by decide,show ¬(99:Nat)<98 by decide,LS,LR,gH];rw[aK,aK,a8 (by rw[di];lia),di,fw,bG hl];exact at_
 ·simp only[ci,show (97:Nat)<99 by decide,show (98:Nat)<99 by decide,LS,LR,gH];rw[aK,a8 (by rw[aR,di,di];lia),aR,di,di,fw,bG hl];exact at_
 ·simp only[show (97:Nat)<100 by decide,show (98:Nat)<100 by decide,show (99:Nat)<100 by decide,LR];rw[a8 (by rw[aR,aR,di,di,di];lia),aR,aR,di,di,di,fw];exact at_
theorem z9:∀{cs:List Nat} {L R:List Int} {i:Nat},yJ cs->gS L R cs i=none->(ck cs.length L R)[tI cs L R]? = some cs
 | [],L,R,i,_,h=>by
  unfold gS at h
  split at h
  ·rename_i e;show (if L.length+R.length=1 then [[]] else [])[0]? = _;rw[LM e];rfl
  ·cases h
 | c::cs,L,R,i,hl,h=>by
  cases g:eL L R c with
  | none=>rw[mZ g] at h;cases h
  | some p=>
   obtain⟨L',R'⟩:=p;rw[lS g] at h;have:=z9 (λx hx=>hl x (aD _ hx)) h;have e:tI (c::cs) L R=xY c cs.length L R+tI cs L' R':=by
    show xY c cs.length L R+(match eL L R c with | none=>0 | some (L',R')=>tI cs L' R')=_;rw[g]
   rw[e];exact Dr (hl c am) g this
theorem CI{n c i:Nat}{o:Option (List Int×List Int)}{cs:List Nat}(h:(gU (ck n) c o)[i]? = some cs):∃L' R' ds,o=some (L',R')/\cs=c::ds/\(ck n L' R')[i]? = some ds:=by
 rcases o with _ | ⟨a,b⟩
 ·simp[gU] at h
 ·have h:((ck n a b).map (c::·))[i]? = some cs:=h;rw[bV] at h;cases e:(ck n a b)[i]? with
  | none=>rw[e] at h;cases h
  | some ds=>rw[e] at h;cases h;exact⟨a,b,ds,rfl,rfl,e⟩
theorem BX{n k:Nat}{L R:List Int}{cs:List Nat}(h:(ck (n+1) L R)[k]? = some cs):∃c i L' R' ds,lE c/\eL L R c=some (L',R')/\k=xY c n L R+i/\cs=c::ds/\(ck n L' R')[i]? = some ds:=by
 unfold ck at h;rw[aK,aK] at h;have la:=di (n:=n) (c:=97) (o:=eL L R 97);have lb:=di (n:=n) (c:=98) (o:=eL L R 98);have lc:=di (n:=n) (c:=99) (o:=eL L R 99);have go:∀c j,lE c->(gU (ck n) c (eL L R c))[j]? = some cs->k=xY c n L R+j->∃c i L' R' ds,lE c/\eL L R c=some (L',R')/\k=xY c n L R+i/\cs=c::ds/\(ck n L' R')[i]? = some ds:=λc j hc h e=>by
  obtain⟨L',R',ds,h1,h2,h3⟩:=CI h;exact⟨c,j,L',R',ds,hc,h1,e,h2,h3⟩
 by_cases h1:k<(gU (ck n) 97 (eL L R 97)).length
 ·rw[bG h1] at h;exact go 97 k (.inl rfl) h (by simp[xY])
 ·rw[a8 (by lia)] at h;by_cases h2:k-(gU (ck n) 97 (eL L R 97)).length<(gU (ck n) 98 (eL L R 98)).length
  ·rw[bG h2] at h;exact go 98 _ (.inr (.inl rfl)) h (by simp[xY];lia)
  ·rw[a8 (by lia)] at h;by_cases h3:k-(gU (ck n) 97 (eL L R 97)).length-(gU (ck n) 98 (eL L R 98)).length<(gU (ck n) 99 (eL L R 99)).length
   ·rw[bG h3] at h;exact go 99 _ (.inr (.inr (.inl rfl))) h (by simp[xY];lia)
   ·rw[a8 (by lia)] at h;exact go 100 _ (.inr (.inr (.inr rfl))) h (by simp[xY];lia)
theorem vp:∀{n:Nat} {L R:List Int} {k:Nat} {cs:List Nat},(ck n L R)[k]? = some cs->cs.length=n/\yJ cs/\(∀i,gS L R cs i=none)/\k=tI cs L R
 | 0,L,R,k,cs,h=>by
  unfold ck at h
  split at h
  ·rename_i e;cases k with
   | zero=>cases h;exact⟨rfl,(λx hx=>by cases hx),λi=>by unfold gS;rw[LM e],rfl⟩
   | succ k=>simp at h
  ·simp at h
 | n+1,L,R,k,cs,h=>by
  obtain⟨c,i,L',R',ds,hc,g,e,rfl,h'⟩:=BX h;obtain⟨h1,h2,h3,h4⟩:=vp h';refine⟨by rw[bb,h1],λx hx=>?_,λj=>by rw[lS g];exact h3 _,?_⟩
  ·rcases aF.mp hx with z | z
   ·rw[z];exact hc
   ·exact h2 x z
  ·show k=xY c ds.length L R+(match eL L R c with | none=>0 | some (L',R')=>tI ds L' R')
   rw[g,h1,e,h4]
theorem z5{n:Nat}{L R:List Int}(h:2*n+1<L.length+R.length):ck n L R=[]:=by
 have:=lQ n L R;rw[t9 n h] at this;exact cw.mp this
def qv(b:Bool)(cs:List Nat):List Int:=ordF (fin2 b cs) b cs.length
structure Eo (b:Bool) (cs:List Nat):Prop where
 lts:yJ cs
 len:cs.length<=20
 res:gS (bL b) (bR b) cs 0=none
theorem Eo.maze{b:Bool}{cs:List Nat}(C:Eo b cs):wb b cs (qv b cs):=by
 obtain⟨ns,M⟩:=xp C.lts C.len C.res;have:qv b cs=ns:=M.ordF;rw[this];exact M
theorem Eo.code{b:Bool}{cs:List Nat}(C:Eo b cs):c7 b (qv b cs)=cs:=C.maze.code C.lts
theorem mX{b:Bool}{n k:Nat}{cs:List Nat}(hn:n<=20)(h:(ck n (bL b) (bR b))[k]? = some cs):Eo b cs/\cs.length=n/\k=tI cs (bL b) (bR b):=by
 obtain⟨h1,h2,h3,h4⟩:=vp h;exact⟨⟨h2,by lia,h3 0⟩,h1,h4⟩
abbrev nZ:=List Nat×List Int×List Int
def nP(n:Nat)(ps:List nZ):List (List Nat):=ps.flatMap λp=>(ck n p.2.1 p.2.2).map (p.1++·)
def io(p:nZ)(n c:Nat):List nZ:=match eL p.2.1 p.2.2 c with | none=>[] | some (L,R)=>if L.length+R.length<=2*n+1 then [(p.1++[c],L,R)] else []
def m9(p:nZ)(n:Nat):List nZ:=io p n 97++io p n 98++io p n 99++io p n 100
theorem uE(n:Nat)(ps qs:List nZ):nP n (ps++qs)=nP n ps++nP n qs:=by unfold nP;rw[fY]
theorem Bm(p:nZ)(n c:Nat):nP n (io p n c)=(gU (ck n) c (eL p.2.1 p.2.2 c)).map (p.1++·):=by
 unfold io;cases eL p.2.1 p.2.2 c with
 | none=>rfl
 | some q=>
  obtain⟨L,R⟩:=q;simp only
  split
  ·show (((ck n L R).map (p.1++[c]++·))++[])=((ck n L R).map (c::·)).map (p.1++·);rw[be,b9];exact cB λx _=>by simp
  ·rename_i h;show []=((ck n L R).map (c::·)).map (p.1++·);rw[z5 (by lia)];rfl
theorem Bn(p:nZ)(n:Nat):nP n (m9 p n)=(ck (n+1) p.2.1 p.2.2).map (p.1++·):=by
 unfold m9 ck;simp only[uE,Bm,aM]
theorem sG(n:Nat):∀ps:List nZ,nP n (ps.flatMap λp=>m9 p n)=nP (n+1) ps
 | []=>rfl
 | p::ps=>by
  rw[aW,uE,Bn,sG n ps];unfold nP;rw[aW]
end Rm
namespace L2
open PySem PySem.Spec PyProof.Rows
section
def B8(K:LU):V->List V->Hp->VK->Prop:=λx vs H Q=>∃d es p xs y,x=.ref p/\vs=[y]/\Rep K H y d/\cy K H p xs/\mN K H xs es/\d.canLay0=true/\PyData.canLayAll0 es=true/\d.depth<=60/\Q (.int ((es.countP λe=>PyData.eqv e d:Nat):Int)) H
theorem yw{K:LU}{p:Addr}{y:V}{H:Hp}{Q:VK}:B8 K (.ref p) [y] H Q=∃d es xs,Rep K H y d/\cy K H p xs/\mN K H xs es/\d.canLay0=true/\PyData.canLayAll0 es=true/\d.depth<=60/\Q (.int ((es.countP λe=>PyData.eqv e d:Nat):Int)) H:=propext ⟨λ⟨d,es,_,xs,_,e,e',h⟩=>by cases e;cases e';exact⟨d,es,xs,h⟩,λ⟨d,es,xs,h⟩=>⟨d,es,p,xs,y,rfl,rfl,h⟩⟩
def B5:V->List V->Hp->VK->Prop:=λx vs H Q=>∃z y,x=.str z/\vs=[.str y]/\∃(i:Nat) (rest:List Nat),Builtin.Str.occurrences z y 0 z.length 1=i::rest/\Q (.int i) H
theorem yb{z y:Str}{H:Hp}{Q:VK}:B5 (.str z) [.str y] H Q=∃(i:Nat) (rest:List Nat),Builtin.Str.occurrences z y 0 z.length 1=i::rest/\Q (.int i) H:=propext ⟨λ⟨_,_,e,e',h⟩=>by cases e;cases e';exact h,λh=>⟨z,y,rfl,rfl,h⟩⟩
end
def Ar(lo:Int)(n:Nat):It:=⟨λi _=>i<n,λi H x H'=>H'=H/\x=.int (lo+i*(-1)),λi _=>n<=i⟩
theorem sE {P : Program} {w : World} {K : LU} {tg : Expr} (it : Addr) (lo : Int) (n : Nat) : Turn P w K tg (Ar lo n) [it] it (fun i h => IsRangeIter h it (lo + (i : Nat) * (-1)) ((n : Int) - (i : Nat)) (-1)) where
  mem := by simp
  obj := fun i h st b hb => by
    have e : b = it := by simpa using hb
    subst e
    exact ⟨_, st, fun v z => by
      have z' : Data.fields _ = Data.cell v := z
      cases z'⟩
  keep := fun i h h' st k => k it (by simp) _ st
  item := by
    intro X hP hw hK hc i pins s σ H E I hf st hg
    subst hP hw hK
    obtain ⟨f0, f1, f2, f3, f4, f5⟩ := hf it (by simp)
    have W := Walks.range (prog := X.prog) (w := X.w) (I.ok.hd hc) it lo (-1) n
    refine W.item i s _ _ hg st fun v h' tk hv st' kk => ?_
    obtain ⟨t, rfl⟩ := hv
    have I1 : bW X pins σ H { s with heap := h', toks := tk } := I.turned (fun b o hb e => kk b o (by simpa using hb) e) f0 f1 f3 f4 f5
    exact ⟨_, rfl, tT (s := { s with heap := h', toks := tk }) (n := "range_iterator") st' rfl rfl (by decide) ⟨.int (lo + i * (-1)), H, I1, ⟨t, rfl⟩, ⟨rfl, rfl⟩, st', fun b hb => (hf b hb).1⟩⟩
  done := by
    intro X hP hw hK hc i pins s σ H E I hf st hg
    subst hP hw hK
    obtain ⟨f0, f1, f2, f3, f4, f5⟩ := hf it (by simp)
    exact Ke (I.ok.hd hc) st (by have : n ≤ i := hg; lia) fun h' eb => ⟨rfl, I.turned (t' := s.toks) (fun b o hb e => eb b o hb e) f0 f1 f3 f4 f5⟩
  self := fun _ _ _ _ _ st h => Kf st h
theorem lx(a b:Int):Builtin.Range.rangeSize a b (-1)=((a-b).toNat:Int):=by
 unfold Builtin.Range.rangeSize;simp
 split<;>lia
theorem ww{a b:Int}(ha:-(2 ^ 61)<=a)(ha':a<2 ^ 61)(hb:-(2 ^ 61)<=b)(hb':b<2 ^ 61):Builtin.Range.small a b (-1)=true:=by
 unfold Builtin.Range.small;rw[lx];simp only[Builtin.Range.rangeFitsLong,cW,kW,LN,beq_iff_eq,show ¬(-1:Int) > 0 by decide,LS];lia
section
variable {X:Cx} {tg:Expr}
theorem xG{pins:List (Addr×Obj)}{σ:St}{H:Hp}{s:Shared}{R:It->Hp->Prop}{E:Value->Shared->Prop}{lo hi:Int}{t u v:Tok}{tk:Nat}(I:bW X pins σ H s)(h1:-(2 ^ 61)<=lo)(h2:lo<2 ^ 61)(h3:-(2 ^ 61)<=hi)(h4:hi<2 ^ 61)
  (q:R (Ar lo (lo-hi).toNat) H):wpAny (model X.prog X.w) X.A (pyIter (.ref s.heap.objs.size)) (HD X pins σ tg R) E { s with heap:=s.heap.push { cls:=.type "range",data:=.fields #[.int lo t,.int hi u,.int (-1) v] },toks:=tk }:=by
 refine Kg (IsRange.new ..) (ww h1 h2 h3 h4) ?_;have I1:bW X pins σ H { s with heap:=s.heap.push { cls:=.type "range",data:=.fields #[.int lo t,.int hi u,.int (-1) v] },toks:=tk }:=I.kept λb o e=>aA _ e;refine⟨(s.heap.push { cls:=.type "range",data:=.fields #[.int lo t,.int hi u,.int (-1) v] }).objs.size,[(s.heap.push { cls:=.type "range",data:=.fields #[.int lo t,.int hi u,.int (-1) v] }).objs.size],_,_,H,rfl,
  I1.kept (t':=tk) λb o e=>aA _ e,sE _ lo (lo-hi).toNat,?_,λb hb=>?_,q⟩
 ·have e1:lo+((0:Nat):Int)*(-1)=lo:=by simp
  have e2:(((lo-hi).toNat:Nat):Int)-((0:Nat):Int)=Builtin.Range.rangeSize lo hi (-1):=by rw[lx];simp
  show IsRangeIter _ _ (lo+((0:Nat):Int)*(-1)) ((((lo-hi).toNat:Nat):Int)-((0:Nat):Int)) (-1);rw[e1,e2];exact aP _ rfl
 ·have e:b=(s.heap.push { cls:=.type "range",data:=.fields #[.int lo t,.int hi u,.int (-1) v] }).objs.size:=by simpa using hb
  subst e;exact I1.fpOk (aB _) (I1.hok.fresh (aB _))
def DB(ta:TA):TI:=λσ H R=>ta σ H λvs H1=>∃i j:Int,vs=[.int i,.int j,.int (-1)]/\(-(2 ^ 61)<=i/\i<2 ^ 61/\-(2 ^ 61)<=j/\j<2 ^ 61)/\R (Ar i (i-j).toNat) H1
theorem u4 {a b c:Expr} {ta:TA} {p pos:Pos} (hg:Gl X "range") (hm:X.mg "range"=none) (ha:QA X [a,b,c] ta) (hs:starEach [a,b,c] X.env=(false,eval a X.env)::starEach [b,c] X.env:=by rfl) (hpl:(backTo pos (starEach [b,c] X.env)).any (·.1)=false:=by rfl) :
  QI X tg (.Call (.Name "range" p) [a,b,c] [] pos) (DB ta):=⟨by
 intro pins s σ H R I h;refine Call_ (jM I hg hm boot_range (bY (dk (ha.h pos pins s σ H _ I h) λus s1 ⟨vs,H1,I1,r1,q1⟩=>?_) hs hpl));obtain⟨i,j,e,⟨q1,q2,q3,q4⟩,q⟩:=q1;subst e;cases r1 with
 | cons r rr=>
  cases rr with
  | cons r' rr=>
   cases rr with
   | cons r'' rr=>
    cases rr;obtain⟨t,rfl⟩:=r;obtain⟨t',rfl⟩:=r';obtain⟨t'',rfl⟩:=r'';exact call_range_3 (by decide) (xG I1 q1 q2 q3 q4 q)⟩
theorem DZ{σ:St}{H:Hp}{D:Ends}{ta:TA}{g:TG}{tb:TS}:n6 (DB ta) g tb D σ H=ta σ H λvs H1=>∃i j:Int,vs=[.int i,.int j,.int (-1)]/\(-(2 ^ 61)<=i/\i<2 ^ 61/\-(2 ^ 61)<=j/\j<2 ^ 61)/\lM (Ar i (i-j).toNat) g tb D σ H1:=rfl
theorem vA{lo:Int}{n:Nat}{g:TG}{tb:TS}{D:Ends}{σ:St}{H:Hp}(Pv:Nat->St->Hp->Prop)(h0:Pv 0 σ H)
  (hs:∀i σ H,i<n->Pv i σ H->g (.int (lo+i*(-1))) σ H λσ2 H2=>tb { D with nx:=Pv (i+1),ct:=Pv (i+1),bk:=D.nx } σ2 H2) (hd:∀σ H,Pv n σ H->D.nx σ H):lM (Ar lo n) g tb D σ H:=by
 refine⟨λi m σ H=>m+i=n/\Pv i σ H,⟨n,rfl,h0⟩,?_⟩;rintro i m σ H ⟨hm,hp⟩;by_cases hi:i<n
 ·refine .inr ⟨hi,Pv (i+1),λσ' H' h=>⟨m - 1,by lia,by lia,h⟩,?_⟩;rintro v H' ⟨rfl,rfl⟩;exact hs i σ H' hi hp
 ·have e:i=n:=by lia
  subst e;exact .inl ⟨aB _,hd σ H hp⟩
end
end L2
namespace Rm
open PySem L2 PyProof.Rows
def sI:Sp:=λvs H Q _=>∃(b:Bool) (cs:List Nat),vs=[.str (sd b),.str (tx cs)]/\Eo b cs/\∀H',ao H H'->Q (.bl true) H'
def zR:Sp:=λvs H Q _=>∃(b:Bool) (cs:List Nat),vs=[.str (sd b),.str (tx cs)]/\Eo b cs/\∀m o H',ao H H'->jR H' m o b (qv b cs)->Q (.ref m) H'
def qB:Sp:=λvs H Q _=>∃(b:Bool) (n:Nat),vs=[.str (sd b),.int (n:Nat)]/\n<=9/\∀l H',H l=none->ao H H'->H' l=some (.lst ((ck n (bL b) (bR b)).map λcs=>V.str (tx cs)))->Q (.ref l) H'
def Em(H:Hp)(b:Bool)(as:List Addr)(ss:List (List Nat)):Prop:=Paired (λa cs=>∃o,jR H a o b (qv b cs)) as ss
theorem Em.same{H H':Hp}{b:Bool}{as:List Addr}{ss:List (List Nat)}(h:Em H b as ss)(s:ao H H'):Em H' b as ss:=Paired.mapP h λ_ _ ⟨o,z⟩=>⟨o,z.same s⟩
def sM:Sp:=λvs H Q _=>∃(b:Bool) (n:Nat),vs=[.str (sd b),.int (n:Nat)]/\n<=9/\∀l as H',H l=none->ao H H'->H' l=some (.lst (as.map V.ref))->Em H' b as (ck n (bL b) (bR b))->Q (.ref l) H'
def yG(H:Hp)(a:Addr)(p:nZ):Prop:=H a=some (.tup [.str (tx p.1),.str (tx (mR p.2.1 p.2.2))])
def G8(H:Hp)(l:Addr)(ps:List nZ):Prop:=∃as:List Addr,H l=some (.lst (as.map V.ref))/\Paired (yG H) as ps
structure CV (i n:Nat) (ps:List nZ):Prop where
 ee:∀ p∈ps,EE p.2.1 p.2.2
 len:∀ p∈ps,p.1.length=i
 sz:∀ p∈ps,p.2.1.length+p.2.2.length<=2 * i+1
 en:∀ p∈ps,p.2.1.length+p.2.2.length<=2 * n+1
theorem oC{p q:nZ}{n c i:Nat}(hc:lE c)(E:EE p.2.1 p.2.2)(hl:p.1.length=i)(hs:p.2.1.length+p.2.2.length<=2*i+1)(h:q∈io p n c):EE q.2.1 q.2.2/\q.1.length=i+1/\q.2.1.length+q.2.2.length<=2*(i+1)+1/\q.2.1.length+q.2.2.length<=2*n+1:=by
 unfold io at h
 split at h
 ·cases h
 ·rename_i L R g
  split at h
  ·rename_i hle;rw[aQ] at h;subst h;have:=nI hc g;exact⟨E.go hc g,by simp[hl],by simp only;lia,hle⟩
  ·cases h
theorem kx(p:nZ)(n c:Nat):(io p n c).length<=1:=by
 unfold io
 split
 ·exact a6 _
 ·split
  ·exact aB _
  ·exact a6 _
theorem AG(p:nZ)(n:Nat):(m9 p n).length<=4:=by
 have h1:=kx p n 97;have h2:=kx p n 98;have h3:=kx p n 99;have h4:=kx p n 100;unfold m9;simp only[aR];lia
theorem CV.next{i n:Nat}{ps:List nZ}(I:CV i (n+1) ps):CV (i+1) n (ps.flatMap λp=>m9 p n):=by
 have key:∀q∈ps.flatMap λp=>m9 p n,EE q.2.1 q.2.2/\q.1.length=i+1/\q.2.1.length+q.2.2.length<=2*(i+1)+1/\q.2.1.length+q.2.2.length<=2*n+1:=λq hq=>by
  obtain⟨p,hp,hq⟩:=eM.mp hq;unfold m9 at hq;simp only[aE] at hq;rcases hq with ((h | h) | h) | h
  ·exact oC (.inl rfl) (I.ee p hp) (I.len p hp) (I.sz p hp) h
  ·exact oC (.inr (.inl rfl)) (I.ee p hp) (I.len p hp) (I.sz p hp) h
  ·exact oC (.inr (.inr (.inl rfl))) (I.ee p hp) (I.len p hp) (I.sz p hp) h
  ·exact oC (.inr (.inr (.inr rfl))) (I.ee p hp) (I.len p hp) (I.sz p hp) h
 exact⟨λq hq=>(key q hq).1,λq hq=>(key q hq).2.1,λq hq=>(key q hq).2.2.1,λq hq=>(key q hq).2.2.2⟩
theorem oy(n:Nat):∀ps:List nZ,(ps.flatMap λp=>m9 p n).length<=4*ps.length
 | []=>aB _
 | p::ps=>by
  rw[aW,aR,bb];have:=oy n ps;have:=AG p n;lia
theorem wa{i:Nat}:∀{ps:List nZ},CV i 0 ps->nP 0 ps=ps.map (·.1)
 | [],_=>rfl
 | p::ps,I=>by
  have I':CV i 0 ps:=⟨λq h=>I.ee q (aD _ h),λq h=>I.len q (aD _ h),λq h=>I.sz q (aD _ h),λq h=>I.en q (aD _ h)⟩
  have e:=I.en p am;have e1:=(I.ee p am).pos;have:ck 0 p.2.1 p.2.2=[[]]:=by unfold ck;rw[LM (by lia)]
  show (ck 0 p.2.1 p.2.2).map (p.1++·)++nP 0 ps=p.1::ps.map (·.1);rw[this,wa I'];simp
theorem CV.start(b:Bool)(n:Nat):CV 0 n [([],bL b,bR b)]:=by
 have e:(bL b).length+(bR b).length=1:=by cases b<;>rfl
 refine⟨λp hp=>?_,λp hp=>?_,λp hp=>?_,λp hp=>?_⟩<;>rw[aQ] at hp<;>subst hp
 ·cases b;exact EE.one;exact EE.two
 ·rfl
 ·simp only;lia
 ·simp only;lia
theorem xv(b:Bool)(n:Nat):nP n [([],bL b,bR b)]=ck n (bL b) (bR b):=by
 show (ck n (bL b) (bR b)).map ([]++·)++[]=_;simp
def tN:List Nat:=[97,98,99,100]
def um(p:nZ)(n k:Nat):List nZ:=(tN.take k).flatMap (io p n)
theorem AF(p:nZ)(n:Nat):um p n 4=m9 p n:=by
 show io p n 97++(io p n 98++(io p n 99++(io p n 100++[])))=_;unfold m9;simp
theorem xR{p:nZ}{n k c:Nat}(h:tN[k]? = some c):um p n (k+1)=um p n k++io p n c:=by
 unfold um;rw[bD,h,fY];simp
theorem AE(p:nZ)(n k:Nat):(um p n k).length<=4:=by
 have:∀l:List Nat,(l.flatMap (io p n)).length<=l.length:=by
  intro l
  induction l with
  | nil=>exact aB _
  | cons c l ih=>
   rw[aW,aR,bb];have:=kx p n c;lia
 have h:=this (tN.take k);have:(tN.take k).length<=4:=by rw[bS];show min k 4<=4;lia
 unfold um;lia
theorem yG.same{H H':Hp}{a:Addr}{p:nZ}(h:yG H a p)(s:ao H H'):yG H' a p:=s _ _ h
theorem yG.upd{H:Hp}{a l:Addr}{p:nZ}{xs ys:List V}(h:yG H a p)(hl:H l=some (.lst xs)):yG (upd H l (.lst ys)) a p:=by
 have:a≠l:=λe=>by subst e;unfold yG at h;rw[hl] at h;cases h
 unfold yG;rw[aX this];exact h
theorem EV{k c:Nat}(h:tN[k]? = some c):lE c:=by
 match k,h with
 | 0,h=>cases h;exact .inl rfl
 | 1,h=>cases h;exact .inr (.inl rfl)
 | 2,h=>cases h;exact .inr (.inr (.inl rfl))
 | 3,h=>cases h;exact .inr (.inr (.inr rfl))
 | j+4,h=>simp[tN] at h
theorem wy{b:Bool}{n:Nat}(hn:n<=20):(ck n (bL b) (bR b)).Nodup:=by
 refine dq.mpr λi j hi hj lt e=>?_;have h1:=(mX hn (aS hi)).2.2;have h2:=(mX hn (aS hj)).2.2;rw[e,<-h2] at h1;lia
def pQ(L R:List Int)(u:Bool):List Int:=if u then R else L
def pR(ns:List Int)(i x y:Nat):Prop:=∀p q m,p<ns.length+2->q<ns.length+2->ah ns p=(x:Int)->ah ns q=(y:Int)->min p q<=m->m<=max p q->ah ns m<=(i:Int)
structure uH (b:Bool) (ns:List Int) (cs:List Nat) (i:Nat) (L R:List Int):Prop where
 run:Run b cs i L R
 mem:∀ u x,x∈(stN u b cs i).1<->x<=i/\∃ y:Nat,i<y/\((x:Int),(y:Int))∈aV b ns u (ns.length+1)
 inc:∀ u,(stN u b cs i).1.Pairwise (·<·)
 bow:∀ u x y,(stN u b cs i).2 x=some y->((x:Int),(y:Int))∈aV b ns u (ns.length+1)\/((y:Int),(x:Int))∈aV b ns u (ns.length+1)
 lab:∀ u v x y l,(x,l)∈(stN u b cs i).1.zip (pQ L R u)->(y,l)∈(stN v b cs i).1.zip (pQ L R v)->pR ns i x y
section
variable {b:Bool} {ns:List Int} {i x y z:Nat}
theorem pR.le(h:pR ns i x y):pR ns (i+1) x y:=λp q m hp hq e1 e2 h1 h2=>by have:=h p q m hp hq e1 e2 h1 h2;lia
theorem pR.symm(h:pR ns i x y):pR ns i y x:=λp q m hp hq e1 e2 h1 h2=>h q p m hq hp e2 e1 (by lia) (by lia)
theorem pR.trans(O:kR ns)(h:pR ns i x y)(k:pR ns i y z)(hy:y<=ns.length+1):pR ns i x z:=λp q m hp hq e1 e2 h1 h2=>by
 have hm:(y:Int)∈d9 ns:=by
  unfold d9;by_cases c:y=0
  ·rw[c];exact am
  ·refine aD _ ?_;by_cases c2:y=ns.length+1
   ·exact aa _ (by rw[c2];simp)
   ·exact ae _ (O.mem.mpr (by lia))
 obtain⟨r,hr,e⟩:=eF hm;have hr:r<ns.length+2:=by rw[fq] at hr;exact hr
 have er:ah ns r=(y:Int):=by rw[<-e];exact((aI.mp (gA hr)).2).symm
 by_cases c:min p r<=m/\m<=max p r
 ·exact h p r m hp hr e1 er c.1 c.2
 ·exact k r q m hr hq er e2 (by lia) (by lia)
theorem rT(O:kR ns){u:Bool}(h:((x:Int),(y:Int))∈aV b ns u (ns.length+1)\/((y:Int),(x:Int))∈aV b ns u (ns.length+1))(hx:x<=i)(hy:y<=i):pR ns i x y:=by
 intro p q m hp hq e1 e2 h1 h2;have key:∀a c:Nat,((a:Int),(c:Int))∈aV b ns u (ns.length+1)->a<=i->c<=i->∀p q,p<ns.length+2->q<ns.length+2->ah ns p=(a:Int)->ah ns q=(c:Int)->min p q<=m->m<=max p q->ah ns m<=(i:Int):=λa c hb ha hc p q hp hq e1 e2 h1 h2=>by
  obtain⟨j,hj,_,e⟩:=f9 hb;have e3:(a:Int)=min (ah ns j) (ah ns (j+1)):=congrArg Prod.fst e;have e4:(c:Int)=max (ah ns j) (ah ns (j+1)):=congrArg Prod.snd e;have cs2:(p=j/\q=j+1)\/(p=j+1/\q=j):=by
   by_cases z:ah ns j<=ah ns (j+1)
   ·exact .inl ⟨O.row_inj hp (by lia) (by lia),O.row_inj hq (by lia) (by lia)⟩
   ·exact .inr ⟨O.row_inj hp (by lia) (by lia),O.row_inj hq (by lia) (by lia)⟩
  have:m=p\/m=q:=by lia
  rcases this with rfl | rfl<;>lia
 rcases h with h | h
 ·exact key x y h hx hy p q hp hq e1 e2 h1 h2
 ·exact key y x h hy hx q p hq hp e2 e1 (by lia) (by lia)
theorem pJ(O:kR ns)(hx:x<=i):pR ns i x x:=λp q m hp hq e1 e2 h1 h2=>by
 have:=O.row_inj hp hq (e1.trans e2.symm);subst this;have:m=p:=by lia
 subst this;lia
theorem fz{α β:Type}{A:List α}{B:List β}{a:α}{c:β}(h:A.length=B.length):(A++[a]).zip (B++[c])=A.zip B++[(a,c)]:=by rw[List.zip_append h];rfl
theorem uH.top{cs:List Nat}{L R:List Int}(C:uH b ns cs i L R)(O:kR ns)(nc:NC b ns){u:Bool}{o:Nat}(h:((o:Int),((i+1:Nat):Int))∈aV b ns u (ns.length+1)):∃P,(stN u b cs i).1=P++[o]:=by
 have P:=ki O nc u;have lt:=P.lt _ h;simp only at lt;have hm:o∈(stN u b cs i).1:=(C.mem u o).mpr ⟨by lia,i+1,by lia,h⟩;obtain⟨A,B,e⟩:=dM hm;have inc:=C.inc u;rw[e] at inc;cases B with
 | nil=>exact⟨A,e⟩
 | cons x B=>
  exfalso;have ox:o<x:=(List.pairwise_cons.mp (bH.mp inc).2.1).1 x (by simp);obtain⟨hx,y,hy,hb⟩:=(C.mem u x).mp (by rw[e];simp);have ne:y≠i+1:=λz=>by
   subst z;have:=P.one _ h _ hb ((i+1:Nat):Int) (.inr rfl) (.inr rfl);have:=congrArg Prod.fst this;simp only at this;lia
  have:=EM (P.nc _ h _ hb);simp only at this;lia
structure CT (S:List Bw) (i:Nat) (s:xw):Prop where
 mem:∀ x,x∈s.1<->x<=i/\∃ y:Nat,i<y/\((x:Int),(y:Int))∈S
 inc:s.1.Pairwise (·<·)
 bow:∀ x y,s.2 x=some y->((x:Int),(y:Int))∈S\/((y:Int),(x:Int))∈S
theorem CT.inn{S:List Bw}{n:Int}{s:xw}(C:CT S i s)(P:Hj S n)(h:((i+1:Nat):Int)∈S.map (·.1)):CT S (i+1) (s.1++[i+1],s.2):=by
 obtain⟨⟨a,c⟩,hp,e⟩:=aw.mp h;have e:a=((i+1:Nat):Int):=e;subst e;have lt:=P.lt _ hp;simp only at lt;obtain⟨y',rfl⟩:∃y':Nat,c=y':=⟨c.toNat,by lia⟩
 refine⟨λx=>?_,?_,C.bow⟩
 ·rw[aE,aQ,C.mem];constructor
  ·rintro (⟨h1,y,h2,h3⟩ | rfl)
   ·refine⟨by lia,y,?_,h3⟩;have:y≠i+1:=λz=>by
     subst z;have:=congrArg Prod.fst (P.one _ h3 _ hp ((i+1:Nat):Int) (.inr rfl) (.inl rfl));simp only at this;lia
    lia
   ·exact⟨aB _,y',by lia,hp⟩
  ·rintro⟨h1,y,h2,h3⟩;by_cases c:x=i+1
   ·exact .inr c
   ·exact .inl ⟨by lia,y,by lia,h3⟩
 ·refine bH.mpr ⟨C.inc,by simp,λa ha c hc=>?_⟩;have:=((C.mem a).mp ha).1;rw[aQ] at hc;lia
theorem CT.out{S:List Bw}{n:Int}{s:xw}{A:List Nat}{o:Nat}(C:CT S i s)(P:Hj S n)(h:((o:Int),((i+1:Nat):Int))∈S)(e:s.1=A++[o]):CT S (i+1) (A,jL s.2 (i+1) o):=by
 have lt:=P.lt _ h;simp only at lt;have inc:=C.inc;rw[e] at inc;have low:∀x∈A,x<o:=λx hx=>(bH.mp inc).2.2 x hx o (by simp);refine⟨λx=>?_,(bH.mp inc).1,λx y hx=>?_⟩
 ·constructor
  ·intro hx;obtain⟨h1,y,h2,h3⟩:=(C.mem x).mp (by rw[e];exact ae _ hx);refine⟨by lia,y,?_,h3⟩;have:y≠i+1:=λz=>by
    subst z;have:=congrArg Prod.fst (P.one _ h3 _ h ((i+1:Nat):Int) (.inr rfl) (.inr rfl));have:=low x hx;simp only at *;lia
   lia
  ·rintro⟨h1,y,h2,h3⟩;have c1:x≠i+1:=λz=>by
    subst z;have:=congrArg Prod.snd (P.one _ h3 _ h ((i+1:Nat):Int) (.inl rfl) (.inr rfl));simp only at this;lia
   have c2:x≠o:=λz=>by
    subst z;have:=congrArg Prod.snd (P.one _ h3 _ h (x:Int) (.inl rfl) (.inl rfl));simp only at this;lia
   have:=(C.mem x).mpr ⟨by lia,y,by lia,h3⟩;rw[e] at this;rcases aE.mp this with z | z
   ·exact z
   ·exact absurd (aQ.mp z) c2
 ·unfold jL at hx;simp only at hx
  split at hx
  ·next z=>cases hx;subst z;exact .inr h
  ·split at hx
   ·next z=>cases hx;subst z;exact .inl h
   ·exact C.bow x y hx
theorem Ee(O:kR ns){o1 o2:Nat}(h1:((o1:Int),((i+1:Nat):Int))∈aV b ns false (ns.length+1))(h2:((o2:Int),((i+1:Nat):Int))∈aV b ns true (ns.length+1)):¬pR ns i o1 o2:=λB=>by
 obtain⟨j,hj,sj,e⟩:=f9 h1;obtain⟨k,hk,sk,f⟩:=f9 h2;have e1:(o1:Int)=min (ah ns j) (ah ns (j+1)):=congrArg Prod.fst e;have e2:((i+1:Nat):Int)=max (ah ns j) (ah ns (j+1)):=congrArg Prod.snd e;have f1:(o2:Int)=min (ah ns k) (ah ns (k+1)):=congrArg Prod.fst f;have f2:((i+1:Nat):Int)=max (ah ns k) (ah ns (k+1)):=congrArg Prod.snd f;have njk:j≠k:=λz=>by
  subst z;unfold cZ at sj sk;cases (beq_iff_eq.mp sj).symm.trans (beq_iff_eq.mp sk)
 by_cases c1:ah ns j<=ah ns (j+1)
 ·by_cases c2:ah ns k<=ah ns (k+1)
  ·have:=O.row_inj (i:=j+1) (j:=k+1) (by lia) (by lia) (by lia);lia
  ·have:=O.row_inj (i:=j+1) (j:=k) (by lia) (by lia) (by lia);have:=B j (k+1) k (by lia) (by lia) (by lia) (by lia) (by lia) (by lia);lia
 ·by_cases c2:ah ns k<=ah ns (k+1)
  ·have:=O.row_inj (i:=j) (j:=k+1) (by lia) (by lia) (by lia);have:=B (j+1) k j (by lia) (by lia) (by lia) (by lia) (by lia) (by lia);lia
  ·have:=O.row_inj (i:=j) (j:=k) (by lia) (by lia) (by lia);lia
theorem qZ{α β γ:Type}(f:β->γ):∀(A:List α) (B:List β),A.zip (B.map f)=(A.zip B).map λp=>(p.1,f p.2)
 | [],_=>rfl
 | _::_,[]=>rfl
 | a::A,c::B=>by simp[List.zip_cons_cons,qZ f A B]
theorem wY(h:i<ns.length)(u:Bool):(c7 b ns)[i]? = some (rB (decide (((i+1:Nat):Int)∈(aV b ns false (ns.length+1)).map (·.1))) (decide (((i+1:Nat):Int)∈(aV b ns true (ns.length+1)).map (·.1)))):=by
 unfold c7;rw[bV,List.getElem?_range h];rfl
theorem nG(l r:Bool)(u:Bool):isIn u (rB l r)=if u then r else l:=by cases l<;>cases r<;>cases u<;>rfl
theorem wH(l r:Bool):lE (rB l r):=by cases l<;>cases r<;>simp[rB,lE]
theorem uH.sd{cs:List Nat}{L R:List Int}(C:uH b ns cs i L R)(u:Bool):CT (aV b ns u (ns.length+1)) i (stN u b cs i):=⟨C.mem u,C.inc u,C.bow u⟩
theorem uH.step{L R:List Int}(C:uH b ns (c7 b ns) i L R)(O:kR ns)(nc:NC b ns)(hi:i<ns.length):∃c L' R',(c7 b ns)[i]? = some c/\lE c/\eL L R c=some (L',R')/\uH b ns (c7 b ns) (i+1) L' R':=by
 have P:=λu=>ki O nc u;have ec:=wY (b:=b) hi false;have eg:(c7 b ns).getD i 0=rB (decide (((i+1:Nat):Int)∈(aV b ns false (ns.length+1)).map (·.1))) (decide (((i+1:Nat):Int)∈(aV b ns true (ns.length+1)).map (·.1))):=by rw[bf,ec];rfl
 have outs:∀u,¬((i+1:Nat):Int)∈(aV b ns u (ns.length+1)).map (·.1)->∃o:Nat,((o:Int),((i+1:Nat):Int))∈aV b ns u (ns.length+1)/\o<=i:=λu hn=>by
  obtain⟨⟨a,c⟩,hp,e⟩:=(P u).has ((i+1:Nat):Int) (by lia) (by lia);rcases e with e | e
  ·exact absurd (aw.mpr ⟨_,hp,e⟩) hn
  ·have e:c=((i+1:Nat):Int):=e;subst e;have:=(P u).bd _ hp;have:=(P u).lt _ hp;simp only at *;exact⟨a.toNat,by rw[show ((a.toNat:Nat):Int)=a by lia];exact hp,by lia⟩
 have inn:∀u,((i+1:Nat):Int)∈(aV b ns u (ns.length+1)).map (·.1)->stN u b (c7 b ns) (i+1)=((stN u b (c7 b ns) i).1++[i+1],(stN u b (c7 b ns) i).2):=λu h=>by
  show pP u (stN u b (c7 b ns) i) (i+1) ((c7 b ns).getD i 0)=_;rw[eg];exact qd (by rw[nG];cases u<;>simp_all)
 have out:∀u A o,¬((i+1:Nat):Int)∈(aV b ns u (ns.length+1)).map (·.1)->(stN u b (c7 b ns) i).1=A++[o]->stN u b (c7 b ns) (i+1)=(A,jL (stN u b (c7 b ns) i).2 (i+1) o):=λu A o h e=>by
  show pP u (stN u b (c7 b ns) i) (i+1) ((c7 b ns).getD i 0)=_;rw[eg];exact nu (by rw[nG];cases u<;>simp_all) e
 have sdI:∀u,((i+1:Nat):Int)∈(aV b ns u (ns.length+1)).map (·.1)->CT (aV b ns u (ns.length+1)) (i+1) (stN u b (c7 b ns) (i+1)):=λu h=>by rw[inn u h];exact(C.sd u).inn (P u) h
 have lt:=wH (decide (((i+1:Nat):Int)∈(aV b ns false (ns.length+1)).map (·.1))) (decide (((i+1:Nat):Int)∈(aV b ns true (ns.length+1)).map (·.1)));have fin:∀L' R',eL L R (rB (decide (((i+1:Nat):Int)∈(aV b ns false (ns.length+1)).map (·.1))) (decide (((i+1:Nat):Int)∈(aV b ns true (ns.length+1)).map (·.1))))=some (L',R')->(∀u,CT (aV b ns u (ns.length+1)) (i+1) (stN u b (c7 b ns) (i+1)))->(∀u v x y l,(x,l)∈(stN u b (c7 b ns) (i+1)).1.zip (pQ L' R' u)->(y,l)∈(stN v b (c7 b ns) (i+1)).1.zip (pQ L' R' v)->pR ns (i+1) x y)->∃c L' R',(c7 b ns)[i]? = some c/\lE c/\eL L R c=some (L',R')/\uH b ns (c7 b ns) (i+1) L' R':=
  λL' R' g sd lab=>⟨_,L',R',ec,lt,g,C.run.step ec lt g,λu=>(sd u).mem,λu=>(sd u).inc,λu=>(sd u).bow,lab⟩
 have len:∀u,(stN u b (c7 b ns) i).1.length=(pQ L R u).length:=λu=>by cases u;exact C.run.ll;exact C.run.rl
 have mv:∀(ui:Bool) (A:List Nat) (Q:List Int) (o:Nat) (v:Int),((i+1:Nat):Int)∈(aV b ns ui (ns.length+1)).map (·.1)->¬((i+1:Nat):Int)∈(aV b ns (!ui) (ns.length+1)).map (·.1)->(stN (!ui) b (c7 b ns) i).1=A++[o]->pQ L R (!ui)=Q++[v]->((o:Int),((i+1:Nat):Int))∈aV b ns (!ui) (ns.length+1)->o<=i->∀nl:Bool->List Int,nl ui=pQ L R ui++[v]->nl (!ui)=Q →
   ∀u w x y l,(x,l)∈(stN u b (c7 b ns) (i+1)).1.zip (nl u)->(y,l)∈(stN w b (c7 b ns) (i+1)).1.zip (nl w)->pR ns (i+1) x y:=λui A Q o v hin hout eA eQ ho oi nl n1 n2=>by
  have qa:A.length=Q.length:=by
   have:=len (!ui);rw[eA,eQ] at this;simpa using this
  have mo:(o,v)∈(stN (!ui) b (c7 b ns) i).1.zip (pQ L R (!ui)):=by rw[eA,eQ,fz qa];simp
  have N:∀u x l,(x,l)∈(stN u b (c7 b ns) (i+1)).1.zip (nl u)->(x,l)∈(stN u b (c7 b ns) i).1.zip (pQ L R u)\/(x=i+1/\l=v):=λu x l h=>by
   by_cases z:u=ui
   ·subst z;rw[inn u hin,n1,fz (len u)] at h;rcases aE.mp h with h | h
    ·exact .inl h
    ·simp only[aQ,fc] at h;exact .inr h
   ·have z:u=!ui:=by cases u<;>cases ui<;>simp_all
    subst z;rw[out (!ui) A o hout eA,n2] at h;refine .inl ?_;rw[eA,eQ,fz qa];exact ae _ h
  have B1:pR ns (i+1) o (i+1):=rT O (.inl ho) (by lia) (aB _);have T:∀u x,(x,v)∈(stN u b (c7 b ns) i).1.zip (pQ L R u)->pR ns (i+1) x (i+1):=λu x h=>(C.lab u (!ui) x o v h mo).le.trans O B1 (by lia);intro u w x y l h1 h2;rcases N u x l h1 with h1 | ⟨rfl,rfl⟩<;>rcases N w y l h2 with h2 | ⟨rfl,e⟩
  ·exact(C.lab u w x y l h1 h2).le
  ·subst e;exact T u x h1
  ·exact(T w y h2).symm
  ·exact pJ O (aB _)
 by_cases hl:((i+1:Nat):Int)∈(aV b ns false (ns.length+1)).map (·.1)
 ·by_cases hr:((i+1:Nat):Int)∈(aV b ns true (ns.length+1)).map (·.1)
  ·-- a
   rw[LP hl,LP hr] at fin;have fr:=rK C.run.ee;refine fin _ _ rfl (λu=>sdI u (by cases u;exact hl;exact hr)) ?_;have hz:∀u,(stN u b (c7 b ns) (i+1)).1.zip (pQ (L++[1+mx (L++R)]) (R++[1+mx (L++R)]) u)=(stN u b (c7 b ns) i).1.zip (pQ L R u)++[(i+1,1+mx (L++R))]:=λu=>by
    rw[inn u (by cases u;exact hl;exact hr)];cases u
    ·exact fz (len false)
    ·exact fz (len true)
   have nin:∀u x,(x,1+mx (L++R))∉(stN u b (c7 b ns) i).1.zip (pQ L R u):=λu x h=>by
    have:=ff h;cases u
    ·exact fr.2.1 this.2
    ·exact fr.2.2 (jm.mpr this.2)
   intro u v x y l h1 h2;rw[hz] at h1 h2;rcases aE.mp h1 with h1 | h1<;>rcases aE.mp h2 with h2 | h2
   ·exact(C.lab u v x y l h1 h2).le
   ·simp only[aQ,fc] at h2;obtain⟨rfl,rfl⟩:=h2;exact absurd h1 (nin u x)
   ·simp only[aQ,fc] at h1;obtain⟨rfl,rfl⟩:=h1;exact absurd h2 (nin v y)
   ·simp only[aQ,fc] at h1 h2;obtain⟨rfl,rfl⟩:=h1;obtain⟨rfl,_⟩:=h2;exact pJ O (aB _)
  ·-- b
   rw[LP hl,LO hr] at fin;obtain⟨o,ho,oi⟩:=outs true hr;obtain⟨A,eA⟩:=C.top O nc ho;have l2:=C.run.rl;rw[eA,aR] at l2;obtain⟨Q,v,rfl⟩:=dO (l:=R) (λz=>by rw[z] at l2;simp at l2);exact fin _ _ tW (λu=>by cases u;exact sdI false hl;rw[out true A o hr eA];exact(C.sd true).out (P true) ho eA) (mv false A Q o v hl hr eA rfl ho oi (pQ (L++[v]) Q) rfl rfl)
 ·by_cases hr:((i+1:Nat):Int)∈(aV b ns true (ns.length+1)).map (·.1)
  ·-- c
   rw[LO hl,LP hr] at fin;obtain⟨o,ho,oi⟩:=outs false hl;obtain⟨A,eA⟩:=C.top O nc ho;have l2:=C.run.ll;rw[eA,aR] at l2;obtain⟨Q,v,rfl⟩:=dO (l:=L) (λz=>by rw[z] at l2;simp at l2);exact fin _ _ tV (λu=>by cases u;rw[out false A o hl eA];exact(C.sd false).out (P false) ho eA;exact sdI true hr) (mv true A Q o v hr hl eA rfl ho oi (pQ Q (R++[v])) rfl rfl)
  ·-- d
   rw[LO hl,LO hr] at fin;obtain⟨o1,ho1,oi1⟩:=outs false hl;obtain⟨A1,e1⟩:=C.top O nc ho1;obtain⟨o2,ho2,oi2⟩:=outs true hr;obtain⟨A2,e2⟩:=C.top O nc ho2;have l1:=C.run.ll;have l2:=C.run.rl;rw[e1,aR] at l1;rw[e2,aR] at l2;obtain⟨Q1,v1,rfl⟩:=dO (l:=L) (λz=>by rw[z] at l1;simp at l1);obtain⟨Q2,v2,rfl⟩:=dO (l:=R) (λz=>by rw[z] at l2;simp at l2);have q1:A1.length=Q1.length:=by simpa using l1
   have q2:A2.length=Q2.length:=by simpa using l2
   have m1:(o1,v1)∈(stN false b (c7 b ns) i).1.zip (pQ (Q1++[v1]) (Q2++[v2]) false):=by
    rw[e1];show _∈(A1++[o1]).zip (Q1++[v1]);rw[fz q1];simp
   have m2:(o2,v2)∈(stN true b (c7 b ns) i).1.zip (pQ (Q1++[v1]) (Q2++[v2]) true):=by
    rw[e2];show _∈(A2++[o2]).zip (Q2++[v2]);rw[fz q2];simp
   have ne:v1≠v2:=λz=>by
    subst z;exact Ee O ho1 ho2 (C.lab false true o1 o2 v1 m1 m2)
   have g:=tU (P:=Q1) (Q:=Q2) (x:=v1) (y:=v2);rw[LL ne] at g;refine fin _ _ g (λu=>?_) ?_
   ·cases u
    ·rw[out false A1 o1 hl e1];exact(C.sd false).out (P false) ho1 e1
    ·rw[out true A2 o2 hr e2];exact(C.sd true).out (P true) ho2 e2
   ·have N:∀u x l,(x,l)∈(stN u b (c7 b ns) (i+1)).1.zip (pQ (Q1.map (rn (min v1 v2) (max v1 v2))) (Q2.map (rn (min v1 v2) (max v1 v2))) u)->∃l0,(x,l0)∈(stN u b (c7 b ns) i).1.zip (pQ (Q1++[v1]) (Q2++[v2]) u)/\l=rn (min v1 v2) (max v1 v2) l0:=λu x l h=>by
     cases u
     ·rw[out false A1 o1 hl e1] at h;have h:(x,l)∈A1.zip (Q1.map (rn (min v1 v2) (max v1 v2))):=h;rw[qZ] at h;obtain⟨⟨x',l'⟩,h1,h2⟩:=aw.mp h;cases h2;refine⟨l',?_,rfl⟩;rw[e1];show _∈(A1++[o1]).zip (Q1++[v1]);rw[fz q1];exact ae _ h1
     ·rw[out true A2 o2 hr e2] at h;have h:(x,l)∈A2.zip (Q2.map (rn (min v1 v2) (max v1 v2))):=h;rw[qZ] at h;obtain⟨⟨x',l'⟩,h1,h2⟩:=aw.mp h;cases h2;refine⟨l',?_,rfl⟩;rw[e2];show _∈(A2++[o2]).zip (Q2++[v2]);rw[fz q2];exact ae _ h1
    have B1:pR ns (i+1) o1 (i+1):=rT O (.inl ho1) (by lia) (aB _);have B2:pR ns (i+1) (i+1) o2:=rT O (.inr ho2) (aB _) (by lia);have B12:=B1.trans O B2 (by lia);have T1:∀u x,(x,v1)∈(stN u b (c7 b ns) i).1.zip (pQ (Q1++[v1]) (Q2++[v2]) u)->pR ns (i+1) x o1:=λu x h=>(C.lab u false x o1 v1 h m1).le;have T2:∀u x,(x,v2)∈(stN u b (c7 b ns) i).1.zip (pQ (Q1++[v1]) (Q2++[v2]) u)->pR ns (i+1) x o2:=λu x h=>(C.lab u true x o2 v2 h m2).le;intro u w x y l h1 h2;obtain⟨a,ha,ea⟩:=N u x l h1;obtain⟨c,hc,ec'⟩:=N w y l h2;by_cases ac:a=c
    ·subst ac;exact(C.lab u w x y a ha hc).le
    ·have:(a=v1/\c=v2)\/(a=v2/\c=v1):=by
      have e:rn (min v1 v2) (max v1 v2) a=rn (min v1 v2) (max v1 v2) c:=ea.symm.trans ec';unfold rn at e
      split at e<;>split at e<;>lia
     rcases this with ⟨rfl,rfl⟩ | ⟨rfl,rfl⟩
     ·exact((T1 u x ha).trans O B12 (by lia)).trans O (T2 w y hc).symm (by lia)
     ·exact((T2 u x ha).trans O B12.symm (by lia)).trans O (T1 w y hc).symm (by lia)
theorem uH.zero(O:kR ns)(nc:NC b ns):uH b ns (c7 b ns) 0 (bL b) (bR b):=by
 have P:=λu=>ki O nc u;have st:∀u,(stN u b (c7 b ns) 0).1=if u=b then [0] else []:=λu=>rfl
 have h0:cZ b b 0=true:=by unfold cZ;cases b<;>rfl
 have first:=jX (b:=b) (ns:=ns) (s:=b) (m:=ns.length+1) (i:=0) (by lia) h0
 have r1:=O.row_in (i:=1) (by lia);have r1n:ah ns 1≠0:=λz=>by have:=O.row_inj (i:=1) (j:=0) (by lia) (by lia) (z.trans (mz ns).symm);lia
 have e0:f7 ns 0=(((0:Nat):Int),(((ah ns 1).toNat:Nat):Int)):=by
  unfold f7;rw[mz];refine Prod.ext ?_ ?_
  ·show min 0 (ah ns 1)=_;lia
  ·show max 0 (ah ns 1)=_;lia
 rw[e0] at first
 refine⟨?_,λu x=>?_,λu=>?_,λu x y h=>(by cases h),λu v x y l h1 h2=>?_⟩
 ·have:=Run.zero b (c7 b ns);cases b<;>exact this
 ·rw[st];constructor
  ·intro h
   split at h
   ·next z=>
    subst z;rw[aQ] at h;subst h;exact⟨aB _,_,by lia,first⟩
   ·cases h
  ·rintro⟨h1,y,h2,h3⟩;have hx:x=0:=by lia
   subst hx;obtain⟨j,hj,sj,e⟩:=f9 h3;have e1:((0:Nat):Int)=min (ah ns j) (ah ns (j+1)):=congrArg Prod.fst e;have a1:=O.row_in (i:=j) (by lia);have:ah ns (j+1)≠0:=λz=>by have:=O.row_inj (i:=j+1) (j:=0) (by lia) (by lia) (z.trans (mz ns).symm);lia
   have a2:=O.row_in (i:=j+1) (by lia);have j0:j=0:=O.row_inj (by lia) (by lia) (by rw[mz];lia);subst j0;have:u=b:=by unfold cZ at sj;have:=beq_iff_eq.mp sj;rw[<-this];cases b<;>rfl
   rw[LM this];simp
 ·rw[st];split<;>simp
 ·have:∀w z,(z,l)∈(stN w b (c7 b ns) 0).1.zip (pQ (bL b) (bR b) w)->z=0:=λw z h=>by
   have:=(ff h).1;rw[st] at this
   split at this
   ·simpa using this
   ·cases this
  rw[this u x h1,this v y h2];exact pJ O (aB _)
theorem uH.all(O:kR ns)(nc:NC b ns):∀(k i:Nat) (L R:List Int),i+k=ns.length->uH b ns (c7 b ns) i L R->∃L' R',uH b ns (c7 b ns) ns.length L' R'/\gS L R ((c7 b ns).drop i) i=gS L' R' [] ns.length
 | 0,i,L,R,h,C=>by
  have e:i=ns.length:=by lia
  subst e;refine⟨L,R,C,?_⟩;rw[gM (by unfold c7;simp)]
 | k+1,i,L,R,h,C=>by
  obtain⟨c,L1,R1,ec,_,g,C1⟩:=C.step O nc (by lia);obtain⟨L',R',C',e⟩:=uH.all O nc k (i+1) L1 R1 (by lia) C1;refine⟨L',R',C',?_⟩;obtain⟨hi,e2⟩:=aI.mp ec;rw[bB hi,e2,lS g,e]
theorem AA{l:List Nat}{a:Nat}(h:∀x,x∈l<->x=a)(inc:l.Pairwise (·<·)):l.length=1:=by
 match l,h,inc with
 | [],h,_=>have:=(h a).mpr rfl;cases this
 | [x],_,_=>rfl
 | x::y::l,h,inc=>
  have h1:=(h x).mp (by simp);have h2:=(h y).mp (by simp);have:=(List.pairwise_cons.mp inc).1 y (by simp);lia
theorem Al(O:kR ns)(nc:NC b ns):gS (bL b) (bR b) (c7 b ns) 0=none/\wb b (c7 b ns) ns:=by
 obtain⟨L,R,C,e⟩:=uH.all O nc ns.length 0 _ _ (by lia) (uH.zero O nc);rw[iu] at e;have P:=λu=>ki O nc u;have cl:(c7 b ns).length=ns.length:=by unfold c7;simp
 have last:=jX (b:=b) (ns:=ns) (m:=ns.length+1) (i:=ns.length) (by lia) (ku b ns.length);have rn:=O.row_in (i:=ns.length) (by lia);have en:f7 ns ns.length=(((((ah ns ns.length).toNat:Nat):Int)),((ns.length+1:Nat):Int)):=by
  unfold f7;rw[gZ];refine Prod.ext ?_ ?_
  ·show min (ah ns ns.length) _=_;lia
  ·show max (ah ns ns.length) _=_;lia
 have rne:ah ns ns.length≠(ns.length:Int)+1:=λz=>by have:=O.row_inj (i:=ns.length) (j:=ns.length+1) (by lia) (by lia) (z.trans (gZ ns).symm);lia
 rw[en] at last;have only:∀u (x y:Nat),ns.length<y->((x:Int),(y:Int))∈aV b ns u (ns.length+1)->y=ns.length+1/\x=(ah ns ns.length).toNat/\u=(b ^^ odd ns.length):=λu x y hy h=>by
  have hb:=(P u).bd _ h;simp only at hb;have ey:y=ns.length+1:=by lia
  subst ey;obtain⟨j,hj,sj,f⟩:=f9 h;have f1:(x:Int)=min (ah ns j) (ah ns (j+1)):=congrArg Prod.fst f;have f2:((ns.length+1:Nat):Int)=max (ah ns j) (ah ns (j+1)):=congrArg Prod.snd f;have a1:ah ns j≠(ns.length:Int)+1:=λz=>by have:=O.row_inj (i:=j) (j:=ns.length+1) (by lia) (by lia) (z.trans (gZ ns).symm);lia
  have ej:j+1=ns.length+1:=O.row_inj (by lia) (by lia) (by rw[gZ];lia);have ej:j=ns.length:=by lia
  subst ej;refine⟨rfl,by lia,?_⟩;unfold cZ at sj;exact(beq_iff_eq.mp sj).symm
 have s1:∀x,x∈(stN (b ^^ odd ns.length) b (c7 b ns) ns.length).1<->x=(ah ns ns.length).toNat:=λx=>by
  rw[C.mem];constructor
  ·rintro⟨_,y,hy,h⟩;exact(only _ x y hy h).2.1
  ·rintro rfl;exact⟨by lia,_,by lia,last⟩
 have l1:=AA s1 (C.inc _);have l0:(stN (!(b ^^ odd ns.length)) b (c7 b ns) ns.length).1.length=0:=by
  rw[cw];refine List.eq_nil_iff_forall_not_mem.mpr λx hx=>?_;obtain⟨_,y,hy,h⟩:=(C.mem _ x).mp hx;have:=(only _ x y hy h).2.2;cases hb:(b ^^ odd ns.length)<;>rw[hb] at this<;>cases this
 have sum:L.length+R.length=1:=by
  have a:=C.run.ll;have c:=C.run.rl;cases hb:(b ^^ odd ns.length)<;>rw[hb] at l1 l0
  ·have l0:(stN true b (c7 b ns) ns.length).1.length=0:=l0;lia
  ·have l0:(stN false b (c7 b ns) ns.length).1.length=0:=l0;lia
 refine⟨by rw[e];unfold gS;rw[LM sum],cl.symm,O,nc,λj hj=>?_,λu r h1 h2=>?_⟩
 ·rw[cl] at hj;have I:∀u,uF u b ns.length (stN u b (c7 b ns) ns.length):=λu=>by cases u;exact C.run.li;exact C.run.ri
  have hb:=jX (b:=b) (ns:=ns) (m:=ns.length+1) (i:=j) (by lia) (ku b j);have a1:=O.row_in (i:=j) (by lia);have a2:=O.row_in (i:=j+1) (by lia);have a3:ah ns j≠(ns.length:Int)+1:=λz=>by have:=O.row_inj (i:=j) (j:=ns.length+1) (by lia) (by lia) (z.trans (gZ ns).symm);lia
  generalize hu:(b ^^ odd j)=u at hb;have has:∀p∈aV b ns u (ns.length+1),(p.1=ah ns j\/p.2=ah ns j)->p=f7 ns j:=λp hp h=>(P u).one p hp _ hb (ah ns j) h (by
   show min _ _=_\/max _ _=_;lia)
  have ex:(((ah ns j).toNat:Nat):Int)=ah ns j:=by lia
  have ey:(((ah ns (j+1)).toNat:Nat):Int)=ah ns (j+1):=by lia
  unfold fin2 rL;rw[cl];by_cases hs:(ah ns j).toNat∈(stN u b (c7 b ns) ns.length).1
  ·rw[LM hs];obtain⟨_,y,hy,h⟩:=(C.mem u _).mp hs;obtain⟨rfl,ho,_⟩:=only _ _ _ hy h;have:=has _ h (.inl ex);have:=congrArg Prod.snd this;have:((ns.length+1:Nat):Int)=max (ah ns j) (ah ns (j+1)):=this;congr 1;lia
  ·rw[LL hs];rcases(I u).tot (ah ns j).toNat (by lia) (λz=>by
    have:j=0:=O.row_inj (by lia) (by lia) (by rw[mz];lia);subst this;rw[<-hu];cases b<;>rfl) with h | ⟨y,hy⟩
   ·exact absurd h hs
   ·rw[hy];rcases C.bow u _ _ hy with h | h
    ·have h3:=has _ h (.inl ex);have h4:(((ah ns j).toNat:Nat):Int)=min (ah ns j) (ah ns (j+1)):=congrArg Prod.fst h3;have h5:(y:Int)=max (ah ns j) (ah ns (j+1)):=congrArg Prod.snd h3;congr 1;lia
    ·have h3:=has _ h (.inr ex);have h4:(y:Int)=min (ah ns j) (ah ns (j+1)):=congrArg Prod.fst h3;have h5:(((ah ns j).toNat:Nat):Int)=max (ah ns j) (ah ns (j+1)):=congrArg Prod.snd h3;congr 1;lia
 ·rw[cl] at h2;have:=wY (b:=b) (ns:=ns) (i:=r - 1) (by lia) u;rw[bf,this,show r - 1+1=r by lia];show _=isIn u (rB _ _);rw[nG];cases u<;>rfl
theorem CJ(O:kR ns)(nc:NC b ns):c7 b ns∈ck ns.length (bL b) (bR b)/\qv b (c7 b ns)=ns:=by
 obtain⟨h,C⟩:=Al O nc;have cl:(c7 b ns).length=ns.length:=by unfold c7;simp
 have lt:yJ (c7 b ns):=λc hc=>by
  unfold c7 at hc;obtain⟨i,_,rfl⟩:=aw.mp hc;exact wH _ _
 have:=z9 lt h;rw[cl] at this;exact⟨ax this,C.ordF⟩
end
end Rm
namespace Rm
open PySem PySem.W PyProof.Rows
section
variable {prog:Program} {w:World} {A:Around} {E:Value->Shared->Prop} {s:Shared} {κ:SortKind} {D:Keyed->Prop} {rk:Keyed->Int}
def iq(prog:Program)(w:World)(A:Around)(s:Shared)(κ:SortKind)(D:Keyed->Prop)(rk:Keyed->Int):Prop:=∀x y,D x->D y->∀C:Bool->Shared->Prop,C (decide (rk x<rk y)) s->wpAny (model prog w) A (keyLt' κ x.1 y.1) C (λ_ _=>False) s
structure Gd (κ:SortKind) (D:Keyed->Prop) (a₀:Array Keyed) (st:SortSt):Prop where
 kind:kindOf st=κ
 fail:failedOf st=none
 perm:(arrOf st).Perm a₀
def jC:Keyed:=(Value.none,Value.none)
def Kr(rk:Keyed->Int)(a:Array Keyed)(i:Nat):Int:=rk (a.getD i jC)
def dS(rk:Keyed->Int)(a:Array Keyed)(lo hi:Nat):Prop:=∀i j,lo<=i->i<=j->j<hi->Kr rk a i<=Kr rk a j
def rf(rk:Keyed->Int)(a:Array Keyed)(lo hi:Nat):Prop:=∀i j,lo<=i->i<=j->j<hi->Kr rk a j<=Kr rk a i
def Pre(lo:Nat)(a a':Array Keyed):Prop:=∀i,i<lo->a'[i]? = a[i]?
theorem iE{a c:Array Keyed}{i j:Nat}(h:a[i]? = c[j]?):Kr rk a i=Kr rk c j:=by
 unfold Kr;rw[bC,bC,h]
theorem l6{a:Array Keyed}{i j:Nat}(hj:j<=a.size)(k:Nat):Kr rk (mirror a i j ((j-i) / 2)) k=if i<=k/\k<j then Kr rk a (i+j - 1-k) else Kr rk a k:=by
 have e:=getElem?_mirror_all (i:=i) hj k;by_cases h1:i<=k/\k<j
 ·rw[LM h1] at e ⊢;exact iE e
 ·rw[LL h1] at e ⊢;exact iE e
theorem tO(T:iq prog w A s κ D rk){st:SortSt}{x y:Keyed}{Q:Option Bool->SortSt->Prop}(hk:kindOf st=κ)(hx:D x)(hy:D y)(h:Q (some (decide (rk x<rk y))) st):wpS (model prog w) A E s (lt' x y) Q st:=by
 rw[lt'_eq];refine LG (LH ?_);rw[hk];refine LG (LI (wpAny_attempt (Kb (T x y hx hy (λb s'=>s'=s/\b=decide (rk x<rk y)) ⟨rfl,rfl⟩) (λb s' hb=>?_) λ_ _ hF=>hF.elim)));obtain⟨rfl,rfl⟩:=hb;exact⟨rfl,LJ h⟩
theorem dE{M:Model}{st:SortSt}{a:Array Keyed}{i:Nat}{Q:Keyed->SortSt->Prop}(hi:i<a.size)(h:Q (a.getD i jC) st):wpS M A E s (elem' a i) Q st:=by
 rw[elem'_eq,cX hi];have e:a.getD i jC=a[i]:=by simp[Array.getD,hi]
 rw[e] at h;exact LJ h
theorem ga{a₀ a:Array Keyed}(hD:∀x∈a₀,D x)(hp:a.Perm a₀){i:Nat}(hi:i<a.size):D (a.getD i jC):=by
 have e:a.getD i jC=a[i]:=by simp[Array.getD,hi]
 rw[e];exact hD _ (hp.mem_iff.mp (Array.getElem_mem hi))
variable {a₀:Array Keyed}
theorem me(T:iq prog w A s κ D rk)(hD:∀x∈a₀,D x){st:SortSt}{i j:Nat}{Q:Option Bool->SortSt->Prop}(g:Gd κ D a₀ st)(hi:i<a₀.size)(hj:j<a₀.size)(h:Q (some (decide (Kr rk (arrOf st) i<Kr rk (arrOf st) j))) st):wpS (model prog w) A E s (ltAt' i j) Q st:=by
 rw[ltAt'_eq];have hi':i<(arrOf st).size:=by rw[g.perm.size_eq];exact hi
 have hj':j<(arrOf st).size:=by rw[g.perm.size_eq];exact hj
 refine LG (LH ?_);show wpS _ _ _ _ (do let x <-elem' (arrOf st) i;let y <-elem' (arrOf st) j;lt' x y) Q st;refine LG (dE hi' (LG (dE hj' ?_)));exact tO T g.kind (ga hD g.perm hi') (ga hD g.perm hj') h
theorem Gd.set{st:SortSt}(g:Gd κ D a₀ st){a:Array Keyed}(h:a.Perm (arrOf st)):Gd κ D a₀ (setArr st a):=⟨g.kind,g.fail,h.trans g.perm⟩
theorem CM{a:Array Keyed}{lo:Nat}:dS rk a lo (lo+1):=λi j h1 h2 h3=>by
 have e:i=j:=by lia
 subst e;exact cA _
def hZ(st st':SortSt):Prop:=pendingOf st'=pendingOf st/\gallopOf st'=gallopOf st
def zF(o n nr:Nat):StateT SortSt Sem (Option Nat):=do
 reverseSlice' o (o+n)
 let mut m:=n
 for _ in [n:nr] do
  let some t <-ltAt' (o+m) (o+m - 1) | return none
  if t then break
  m:=m+1
 return some m
def wU(o n nr:Nat):StateT SortSt Sem (Option Nat):=do
 rule "list.sort.descending-run"
 let mut m:=n+1
 let mut q:=0
 for _ in [n+1:nr] do
  let some t <-ltAt' (o+m) (o+m - 1) | return none
  if t then
   if q > 0 then reverseSlice' (o+m-(q+1)) (o+m)
   q:=0
  else
   let some u <-ltAt' (o+m - 1) (o+m) | return none
   if u then break
   q:=q+1
  m:=m+1
 if q > 0 then reverseSlice' (o+m-(q+1)) (o+m)
 zF o m nr
theorem Pre.refl(lo:Nat)(a:Array Keyed):Pre lo a a:=λ_ _=>rfl
theorem Pre.trans{lo:Nat}{a b c:Array Keyed}(h:Pre lo a b)(k:Pre lo b c):Pre lo a c:=λi hi=>(k i hi).trans (h i hi)
theorem kD{lo i j:Nat}{a:Array Keyed}(hj:j<=a.size)(h:lo<=i):Pre lo a (mirror a i j ((j-i) / 2)):=λk hk=>by
 rw[getElem?_mirror_all hj,LL (by lia)]
theorem hZ.refl(st:SortSt):hZ st st:=⟨rfl,rfl⟩
def xx(rk:Keyed->Int)(κ:SortKind)(D:Keyed->Prop)(a₀:Array Keyed)(st:SortSt)(lo nr:Nat)(Q:Option Nat->SortSt->Prop):Prop:=∀m st',Gd κ D a₀ st'->hZ st st'->Pre lo (arrOf st) (arrOf st')->1<=m->m<=nr->dS rk (arrOf st') lo (lo+m)->Q (some m) st'
theorem xx.from{st st':SortSt}{lo nr:Nat}{Q:Option Nat->SortSt->Prop}(h:xx rk κ D a₀ st lo nr Q)(sb:hZ st st')(p:Pre lo (arrOf st) (arrOf st')):xx rk κ D a₀ st' lo nr Q:=λm st2 g s2 p2 h1 h2 ha=>h m st2 g ⟨s2.1.trans sb.1,s2.2.trans sb.2⟩ (p.trans p2) h1 h2 ha
def G5(o:Nat):Nat->AscSt->StateT SortSt Sem (ForInStep AscSt):=λ_ c=>ltAt' (o+c.2) (o+c.2 - 1)>>=λr=>match r with
 | some t=>if t=true then pure (.done (none,c.2)) else pure (.yield (none,c.2+1))
 | _=>pure (.done (some none,c.2))
theorem Ap(T:iq prog w A s κ D rk)(hD:∀x∈a₀,D x){st:SortSt}{lo a nr:Nat}{Q:AscSt->SortSt->Prop}(hn:lo+nr<=a₀.size)(h1:1<=a)(h2:a<=nr)(g:Gd κ D a₀ st)(hs:dS rk (arrOf st) lo (lo+a))
  (h:∀n,a<=n->n<=nr->dS rk (arrOf st) lo (lo+n)->(n=nr\/Kr rk (arrOf st) (lo+n)<Kr rk (arrOf st) (lo+n - 1))->Q (none,n) st):wpS (model prog w) A E s (forIn [a:nr] ((none,a):AscSt) (G5 lo)) Q st:=by
 refine wpS_forRange (I:=λx c st'=>st'=st/\c=(none,x)/\dS rk (arrOf st) lo (lo+x)) ?step ?fin ⟨rfl,rfl,hs⟩
 case fin=>
  rintro c st' ⟨rfl,rfl,hs'⟩;rw[show max a nr=nr by lia] at hs' ⊢;exact h nr h2 (aB _) hs' (.inl rfl)
 case step=>
  rintro x c st' hax hxn ⟨rfl,rfl,hs'⟩;unfold G5;dsimp only;refine LG (me T hD g (by lia) (by lia) ?_);by_cases hl:Kr rk (arrOf st') (lo+x)<Kr rk (arrOf st') (lo+x - 1)
  ·simp only[hl,decide_true,LR];exact LJ (h x hax (by lia) hs' (.inr hl))
  ·simp only[hl,decide_false,aY,LS];refine LJ ⟨rfl,rfl,λi j hi hij hj=>?_⟩;by_cases hjx:j<lo+x
   ·exact hs' i j hi hij hjx
   ·have hj':j=lo+x:=by lia
    subst hj';by_cases hi':i=lo+x
    ·subst hi';exact cA _
    ·exact et (hs' i (lo+x - 1) hi (by lia) (by lia)) (Int.not_lt.mp hl)
theorem v8(T:iq prog w A s κ D rk)(hD:∀x∈a₀,D x){st:SortSt}{lo n nr:Nat}{Q:Option Nat->SortSt->Prop}(hn:lo+nr<=a₀.size)(h1:1<=n)(h2:n<=nr)(g:Gd κ D a₀ st)(hd:rf rk (arrOf st) lo (lo+n))(h:xx rk κ D a₀ st lo nr Q):wpS (model prog w) A E s (zF lo n nr) Q st:=by
 unfold zF;have hsz:lo+n<=(arrOf st).size:=by rw[g.perm.size_eq];lia
 refine LG (wpS_reverse ?_);have g2:Gd κ D a₀ (setArr st (mirror (arrOf st) lo (lo+n) ((lo+n-lo) / 2))):=g.set (Ku _ _ _ _);have a2:dS rk (mirror (arrOf st) lo (lo+n) ((lo+n-lo) / 2)) lo (lo+n):=λi j hi hij hj=>by
  rw[l6 hsz,l6 hsz,LM (by lia),LM (by lia)];exact hd _ _ (by lia) (by lia) (by lia)
 have h:=h.from (st':=setArr st (mirror (arrOf st) lo (lo+n) ((lo+n-lo) / 2))) (hZ.refl st) (kD hsz (aB _))
 have a2:dS rk (arrOf (setArr st (mirror (arrOf st) lo (lo+n) ((lo+n-lo) / 2)))) lo (lo+n):=a2;generalize setArr st (mirror (arrOf st) lo (lo+n) ((lo+n-lo) / 2))=st2 at g2 h a2 ⊢;refine LG (Ap T hD hn h1 h2 g2 a2 λm m1 m2 ha _=>?_);exact LJ (h m st2 g2 (hZ.refl _) (Pre.refl _ _) (by lia) m2 ha)
def DO(o:Nat):Nat->DescSt->StateT SortSt Sem (ForInStep DescSt):=λ_ c=>ltAt' (o+c.2.1) (o+c.2.1 - 1)>>=λr=>match r with
 | some t=>if t=true then (if c.2.2 > 0 then (reverseSlice' (o+c.2.1-(c.2.2+1)) (o+c.2.1)>>=λ_=>pure (.yield (none,c.2.1+1,0))) else pure (.yield (none,c.2.1+1,0)))
  else (ltAt' (o+c.2.1 - 1) (o+c.2.1)>>=λr=>match r with
   | some u=>if u=true then pure (.done (none,c.2.1,c.2.2)) else pure (.yield (none,c.2.1+1,c.2.2+1))
   | _=>pure (.done (some none,c.2.1,c.2.2)))
 | _=>pure (.done (some none,c.2.1,c.2.2))
def Aq(rk:Keyed->Int)(a:Array Keyed)(lo m q:Nat):Prop:=q<m/\∀k,lo+m-(q+1)<=k->k<lo+m->Kr rk a k=Kr rk a (lo+m - 1)
theorem ky{a:Array Keyed}{lo m q:Nat}(hn:lo+m<=a.size)(h:Aq rk a lo m q)(k:Nat):Kr rk (mirror a (lo+m-(q+1)) (lo+m) ((lo+m-(lo+m-(q+1))) / 2)) k=Kr rk a k:=by
 rw[l6 hn]
 split
 ·rw[h.2 _ (by have:=h.1;lia) (by lia),h.2 k (by lia) (by lia)]
 ·rfl
theorem rf.grow{a a':Array Keyed}{lo m:Nat}(h:rf rk a lo (lo+m))(hm:1<=m)(e:∀k,Kr rk a' k=Kr rk a k)(c:Kr rk a (lo+m)<=Kr rk a (lo+m - 1)):rf rk a' lo (lo+(m+1)):=λi j hi hij hj=>by
 rw[e,e];by_cases z:j=lo+m
 ·subst z;by_cases z2:i=lo+m
  ·subst z2;exact cA _
  ·exact et c (h i (lo+m - 1) hi (by lia) (by lia))
 ·exact h i j hi hij (by lia)
theorem wR(T:iq prog w A s κ D rk)(hD:∀x∈a₀,D x){st:SortSt}{lo n nr:Nat}{Q:Option Nat->SortSt->Prop}(hn:lo+nr<=a₀.size)(h1:1<=n)(h2:n+1<=nr)(g:Gd κ D a₀ st)(hd:rf rk (arrOf st) lo (lo+(n+1)))(h:xx rk κ D a₀ st lo nr Q):wpS (model prog w) A E s (wU lo n nr) Q st:=by
 unfold wU;refine LG (LI (LB ⟨rfl,?_⟩));refine LG (wpS_mono (m:=forIn [n+1:nr] ((none,n+1,0):DescSt) (DO lo)) (wpS_forRange (I:=λx c st'=>∃q,c=(none,x,q)/\Gd κ D a₀ st'/\hZ st st'/\Pre lo (arrOf st) (arrOf st')/\rf rk (arrOf st') lo (lo+x)/\Aq rk (arrOf st') lo x q)
  (Q:=λc st'=>∃x q,c=(none,x,q)/\n+1<=x/\x<=nr/\Gd κ D a₀ st'/\hZ st st'/\Pre lo (arrOf st) (arrOf st')/\rf rk (arrOf st') lo (lo+x)/\Aq rk (arrOf st') lo x q) ?step ?fin ⟨0,rfl,g,hZ.refl _,Pre.refl _ _,hd,by lia,λk h1 h2=>by congr 1;lia⟩) ?post)
 case fin=>
  rintro c st' ⟨q,rfl,g',sb,p,d,t⟩;rw[show max (n+1) nr=nr by lia] at d t ⊢;exact⟨nr,q,rfl,by lia,aB _,g',sb,p,d,t⟩
 case step=>
  rintro x c st' hax hxn ⟨q,rfl,g',sb,p,d,t⟩;unfold DO;dsimp only;have hsz:lo+x<=(arrOf st').size:=by rw[g'.perm.size_eq];lia
  refine LG (me T hD g' (by lia) (by lia) ?_);by_cases hl:Kr rk (arrOf st') (lo+x)<Kr rk (arrOf st') (lo+x - 1)
  ·simp only[hl,decide_true,LR]
   split
   ·refine LG (wpS_reverse (LJ ⟨0,rfl,g'.set (Ku _ _ _ _),sb,p.trans (kD hsz (by have:=t.1;lia)),d.grow (by lia) (ky hsz t) (dR hl),by lia,λk h1 h2=>by congr 1;lia⟩))
   ·exact LJ ⟨0,rfl,g',sb,p,d.grow (by lia) (λ_=>rfl) (dR hl),by lia,λk h1 h2=>by congr 1;lia⟩
  ·simp only[hl,decide_false,aY,LS];refine LG (me T hD g' (by lia) (by lia) ?_);by_cases hu:Kr rk (arrOf st') (lo+x - 1)<Kr rk (arrOf st') (lo+x)
   ·simp only[hu,decide_true,LR];exact LJ ⟨x,q,rfl,hax,by lia,g',sb,p,d,t⟩
   ·simp only[hu,decide_false,aY,LS];have e:Kr rk (arrOf st') (lo+x)=Kr rk (arrOf st') (lo+x - 1):=by lia
    refine LJ ⟨q+1,rfl,g',sb,p,d.grow (by lia) (λ_=>rfl) (by lia),by have:=t.1;lia,λk h1 h2=>?_⟩;rw[show lo+(x+1) - 1=lo+x by lia];by_cases z:k=lo+x
    ·rw[z]
    ·rw[e];exact t.2 k (by lia) (by lia)
 case post=>
  rintro c st' ⟨x,q,rfl,x1,x2,g',sb,p,d,t⟩;dsimp only;have hsz:lo+x<=(arrOf st').size:=by rw[g'.perm.size_eq];lia
  have h:=h.from sb p
  split
  ·refine LG (wpS_reverse ?_);have pm:=kD (lo:=lo) (i:=lo+x-(q+1)) hsz (by have:=t.1;lia);exact v8 T hD hn (by lia) x2 (g'.set (Ku _ _ _ _)) (λi j hi hij hj=>by
    show Kr rk (mirror _ _ _ _) j<=Kr rk (mirror _ _ _ _) i;rw[ky hsz t,ky hsz t];exact d i j hi hij hj) (h.from (hZ.refl _) pm)
  ·exact v8 T hD hn (by lia) x2 g' d h
theorem t7(T:iq prog w A s κ D rk)(hD:∀x∈a₀,D x){st:SortSt}{lo nr:Nat}{Q:Option Nat->SortSt->Prop}(hn:lo+nr<=a₀.size)(h1:1<=nr)(g:Gd κ D a₀ st)(h:xx rk κ D a₀ st lo nr Q):wpS (model prog w) A E s (countRun' lo nr) Q st:=by
 rw[countRun'_eq];refine LG (Ap T hD hn (aB _) h1 g CM λn n1 n2 ha hor=>?_);show wpS _ _ _ _ (if (n==nr)=true then pure (some n) else if n > 1 then (ltAt' lo (lo+n - 1)>>=λr=>match r with | some u=>if u=true then pure (some n) else (reverseSlice' lo (lo+n)>>=λ_=>wU lo n nr) | _=>pure none) else wU lo n nr) Q st;have hsz:lo+n<=(arrOf st).size:=by rw[g.perm.size_eq];lia
 by_cases e:n=nr
 ·rw[LM (by simpa using e)];exact LJ (h n st g (hZ.refl _) (Pre.refl _ _) n1 n2 ha)
 ·rw[LL (by simpa using e)];have hlt:=hor.resolve_left e;by_cases n1':n > 1
  ·rw[LM n1'];refine LG (me T hD g (by lia) (by lia) ?_);by_cases hu:Kr rk (arrOf st) lo<Kr rk (arrOf st) (lo+n - 1)
   ·simp only[hu,decide_true,LR];exact LJ (h n st g (hZ.refl _) (Pre.refl _ _) n1 n2 ha)
   ·simp only[hu,decide_false,aY,LS];have alike:∀k,lo<=k->k<lo+n->Kr rk (arrOf st) k=Kr rk (arrOf st) (lo+n - 1):=λk k1 k2=>by
     have a1:=ha lo k (aB _) k1 k2;have a2:=ha k (lo+n - 1) k1 (by lia) (by lia);lia
    have same:∀k,Kr rk (mirror (arrOf st) lo (lo+n) ((lo+n-lo) / 2)) k=Kr rk (arrOf st) k:=λk=>by
     rw[l6 hsz]
     split
     ·rw[alike _ (by lia) (by lia),alike k (by lia) (by lia)]
     ·rfl
    refine LG (wpS_reverse (wR T hD hn n1 (by lia) (g.set (Ku _ _ _ _)) ?_ (h.from (hZ.refl _) (kD hsz (aB _)))));exact rf.grow (λi j hi hij hj=>by rw[alike i hi (by lia),alike j (by lia) hj];exact cA _) n1 same (dR hlt)
  ·rw[LL n1'];have n0:n=1:=by lia
   subst n0;exact wR T hD hn (aB _) (by lia) g (rf.grow (m:=1) (λi j hi hij hj=>by have e:i=j:=(by lia);rw[e];exact cA _) (aB _) (λ_=>rfl) (dR hlt)) h
theorem qW{a:Array Keyed}{src d:Nat}(hs:src<a.size)(hd:d<=src)(k:Nat):Kr rk (bubble a src d) k=if k=src-d then Kr rk a src else if src-d<k/\k<=src then Kr rk a (k - 1) else Kr rk a k:=by
 have e:=getElem?_bubble hs d hd k;by_cases h1:k=src-d
 ·rw[LM h1] at e ⊢;exact iE e
 ·rw[LL h1] at e ⊢;by_cases h2:src-d<k/\k<=src
  ·rw[LM h2] at e ⊢;exact iE e
  ·rw[LL h2] at e ⊢;exact iE e
theorem tw{a:Array Keyed}{lo k l:Nat}(hk:lo+k<a.size)(hs:dS rk a lo (lo+k))(hl:l<=k)(h1:∀i,i<l->Kr rk a (lo+i)<=Kr rk a (lo+k))(h2:∀i,l<=i->i<k->Kr rk a (lo+k)<Kr rk a (lo+i)):dS rk (bubble a (lo+k) (lo+k-(lo+l))) lo (lo+(k+1)):=λi j hi hij hj=>by
 rw[qW hk (by lia),qW hk (by lia),show lo+k-(lo+k-(lo+l))=lo+l by lia];by_cases i1:i=lo+l
 ·rw[LM i1];by_cases j1:j=lo+l
  ·rw[LM j1];exact cA _
  ·rw[LL j1,LM (by lia)];have:=h2 (j - 1-lo) (by lia) (by lia);rw[show lo+(j - 1-lo)=j - 1 by lia] at this;lia
 ·rw[LL i1];by_cases i2:lo+l<i/\i<=lo+k
  ·rw[LM i2,LL (by lia),LM (by lia)];exact hs _ _ (by lia) (by lia) (by lia)
  ·rw[LL i2];by_cases j1:j=lo+l
   ·rw[LM j1];have:=h1 (i-lo) (by lia);rw[show lo+(i-lo)=i by lia] at this;exact this
   ·rw[LL j1];by_cases j2:lo+l<j/\j<=lo+k
    ·rw[LM j2];exact hs _ _ (by lia) (by lia) (by lia)
    ·rw[LL j2];exact hs _ _ (by lia) (by lia) (by lia)
theorem Ao(T:iq prog w A s κ D rk)(hD:∀x∈a₀,D x){st:SortSt}{lo n ok:Nat}{Q:Bool->SortSt->Prop}(hn:lo+n<=a₀.size)(h1:1<=ok)(hok:ok<=n)(g:Gd κ D a₀ st)(hs:dS rk (arrOf st) lo (lo+ok))
  (h:∀st',Gd κ D a₀ st'->hZ st st'->Pre lo (arrOf st) (arrOf st')->dS rk (arrOf st') lo (lo+n)->Q true st'):wpS (model prog w) A E s (binarySort' lo n ok) Q st:=by
 rw[binarySort'_eq,show max ok 1=ok by lia];refine LG (wpS_mono (wpS_forRange (I:=λk c st'=>c=(none,())/\Gd κ D a₀ st'/\hZ st st'/\Pre lo (arrOf st) (arrOf st')/\dS rk (arrOf st') lo (lo+k))
  (Q:=λc st'=>c=(none,())/\Gd κ D a₀ st'/\hZ st st'/\Pre lo (arrOf st) (arrOf st')/\dS rk (arrOf st') lo (lo+n)) ?step ?fin ⟨rfl,g,hZ.refl _,Pre.refl _ _,hs⟩) ?post)
 case fin=>
  rintro c st' ⟨rfl,g',sb,p,ha⟩;rw[show max ok n=n by lia] at ha;exact⟨rfl,g',sb,p,ha⟩
 case post=>
  rintro c st' ⟨rfl,g',sb,p,ha⟩;exact LJ (h st' g' sb p ha)
 case step=>
  rintro k c st' hk1 hk2 ⟨rfl,g',sb,p,ha⟩;have hsz:lo+k<(arrOf st').size:=by rw[g'.perm.size_eq];lia
  refine LG (wpS_mono (wpS_forRange (I:=λx c st''=>st''=st'/\∃l r,c=(none,l,r)/\l<=r/\r<=k/\r+x<=l+k/\(∀i,i<l->Kr rk (arrOf st') (lo+i)<=Kr rk (arrOf st') (lo+k))/\∀i,r<=i->i<k->Kr rk (arrOf st') (lo+k)<Kr rk (arrOf st') (lo+i))
   (Q:=λc st''=>st''=st'/\∃l r,c=(none,l,r)/\l=r/\r<=k/\(∀i,i<l->Kr rk (arrOf st') (lo+i)<=Kr rk (arrOf st') (lo+k))/\∀i,r<=i->i<k->Kr rk (arrOf st') (lo+k)<Kr rk (arrOf st') (lo+i)) ?step2 ?fin2 ⟨rfl,0,k,rfl,by lia,aB _,by lia,λi hi=>by lia,λi h1 h2=>by lia⟩) ?post2)
  case fin2=>
   rintro c st'' ⟨rfl,l,r,rfl,q1,q2,q3,q4,q5⟩;exact⟨rfl,l,r,rfl,by lia,q2,q4,q5⟩
  case step2=>
   rintro x c st'' _ hx ⟨rfl,l,r,rfl,q1,q2,q3,q4,q5⟩;dsimp only;by_cases hlr:l>=r
   ·rw[LM hlr];exact LJ ⟨rfl,l,r,rfl,by lia,q2,q4,q5⟩
   ·rw[LL hlr];refine LG (me T hD g' (by lia) (by lia) ?_);by_cases hu:Kr rk (arrOf st'') (lo+k)<Kr rk (arrOf st'') (lo+(l+r) / 2)
    ·simp only[hu,decide_true,LR];refine LJ ⟨rfl,l,(l+r) / 2,rfl,by lia,by lia,by lia,q4,λi i1 i2=>?_⟩;have:=ha (lo+(l+r) / 2) (lo+i) (by lia) (by lia) (by lia);lia
    ·simp only[hu,decide_false,aY,LS];refine LJ ⟨rfl,(l+r) / 2+1,r,rfl,by lia,q2,by lia,λi i1=>?_,q5⟩;have:=ha (lo+i) (lo+(l+r) / 2) (by lia) (by lia) (by lia);lia
  case post2=>
   rintro c st'' ⟨rfl,l,r,rfl,rfl,q2,q4,q5⟩;dsimp only;rw[moveDown'_eq];refine LG (LK (LJ ⟨rfl,g'.set (bubble_perm _ _ _),sb,λi hi=>?_,tw hsz ha q2 q4 q5⟩));rw[<-p i hi];show (bubble (arrOf st'') (lo+k) (lo+k-(lo+l)))[i]? = _;rw[getElem?_bubble hsz _ (by lia),LL (by lia),LL (by lia)]
end
def nj:Bool->Keyed->Array Keyed->Nat->Nat->Nat->StateT SortSt Sem (Option Nat):=sortPriv% PySem.Builtin.gallop
def vC(l:Bool)(key:Keyed)(a:Array Keyed)(o i:Nat):StateT SortSt Sem (Option Bool):=do
 let x <-elem' a (o+i)
 if l then lt' x key else return (<-lt' key x).map (!·)
theorem CC(l:Bool)(key:Keyed)(a:Array Keyed)(o n h:Nat):nj l key a o n h=(do
 let mut la:=0
 let mut af:=1
 let mut lo:=0
 let mut hi:=0
 let some r <-vC l key a o h | return none
 if r then
  let mx:=n-h
  for _ in [0:n] do
   if af>=mx then break
   let some m <-vC l key a o (h+af) | return none
   if !m then break
   la:=af
   af:=2*af+1
  lo:=h+la+1
  hi:=h+min af mx
 else
  let mx:=h+1
  for _ in [0:n] do
   if af>=mx then break
   let some m <-vC l key a o (h-af) | return none
   if m then break
   la:=af
   af:=2*af+1
  lo:=h+1-min af mx
  hi:=h-la
 for _ in [0:n] do
  if lo>=hi then break
  let m:=lo+(hi-lo) / 2
  let some u <-vC l key a o m | return none
  if u then lo:=m+1 else hi:=m
 return some hi):=rfl
section
variable {prog:Program} {w:World} {A:Around} {E:Value->Shared->Prop} {s:Shared} {κ:SortKind} {D:Keyed->Prop} {rk:Keyed->Int}
def l7(rk:Keyed->Int)(l:Bool)(key:Keyed)(a:Array Keyed)(o i:Nat):Bool:=if l then decide (Kr rk a (o+i)<rk key) else !decide (rk key<Kr rk a (o+i))
theorem rM(T:iq prog w A s κ D rk){st:SortSt}{l:Bool}{key:Keyed}{a:Array Keyed}{o i:Nat}{Q:Option Bool->SortSt->Prop}(hk:kindOf st=κ)(h1:D key)(h2:∀x∈a,D x)(hi:o+i<a.size)(h:Q (some (l7 rk l key a o i)) st):wpS (model prog w) A E s (vC l key a o i) Q st:=by
 unfold vC;refine LG (dE hi ?_);have hx:D (a.getD (o+i) jC):=ga h2 (bn _) hi;cases l with
 | true=>exact tO T hk hx h1 h
 | false=>
  show wpS _ _ _ _ (lt' key (a.getD (o+i) jC)>>=λr=>pure (r.map (!·))) Q st;exact LG (tO T hk h1 hx (LJ h))
def II(l:Bool)(key:Keyed)(a:Array Keyed)(o n lo0 hi0:Nat):StateT SortSt Sem (Option Nat):=do
 let mut lo:=lo0
 let mut hi:=hi0
 for _ in [0:n] do
  if lo>=hi then break
  let m:=lo+(hi-lo) / 2
  let some u <-vC l key a o m | return none
  if u then lo:=m+1 else hi:=m
 return some hi
section
variable {st:SortSt} {l:Bool} {key:Keyed} {a:Array Keyed} {o n h:Nat} {Q:Option Nat->SortSt->Prop}
def Gi(rk:Keyed->Int)(st:SortSt)(l:Bool)(key:Keyed)(a:Array Keyed)(o n:Nat)(Q:Option Nat->SortSt->Prop):Prop:=∀k,k<=n->(∀i,i<k->l7 rk l key a o i=true)->(∀i,k<=i->i<n->l7 rk l key a o i=false)->Q (some k) st
theorem DP(T:iq prog w A s κ D rk)(hk:kindOf st=κ)(h1:D key)(h2:∀x∈a,D x)(hn:o+n<=a.size)(mono:∀i j,i<=j->j<n->l7 rk l key a o j=true->l7 rk l key a o i=true)
  {lo0 hi0:Nat} (hlh:lo0<=hi0) (hhn:hi0<=n) (b1:∀i,i<lo0->l7 rk l key a o i=true) (b2:∀i,hi0<=i->i<n->l7 rk l key a o i=false) (q:Gi rk st l key a o n Q):wpS (model prog w) A E s (II l key a o n lo0 hi0) Q st:=by
 unfold II;refine LG (wpS_mono (wpS_forRange (I:=λx c st'=>st'=st/\∃lo hi,c=(none,lo,hi)/\lo<=hi/\hi<=n/\hi+x<=lo+n/\(∀i,i<lo->l7 rk l key a o i=true)/\∀i,hi<=i->i<n->l7 rk l key a o i=false)
  (Q:=λc st'=>st'=st/\∃lo hi,c=(none,lo,hi)/\lo=hi/\hi<=n/\(∀i,i<lo->l7 rk l key a o i=true)/\∀i,hi<=i->i<n->l7 rk l key a o i=false) ?step ?fin ⟨rfl,lo0,hi0,rfl,hlh,hhn,by lia,b1,b2⟩) ?post)
 case fin=>
  rintro c st' ⟨rfl,lo,hi,rfl,q1,q2,q3,q4,q5⟩;exact⟨rfl,lo,hi,rfl,by lia,q2,q4,q5⟩
 case post=>
  rintro c st' ⟨rfl,lo,hi,rfl,rfl,q2,q4,q5⟩;exact LJ (q _ q2 q4 q5)
 case step=>
  rintro x c st' _ hx ⟨rfl,lo,hi,rfl,q1,q2,q3,q4,q5⟩;dsimp only;by_cases z:lo>=hi
  ·rw[LM z];exact LJ ⟨rfl,lo,hi,rfl,by lia,q2,q4,q5⟩
  ·rw[LL z];refine LG (rM T hk h1 h2 (by lia) ?_);cases u:l7 rk l key a o (lo+(hi-lo) / 2) with
   | true=>
    simp only[LR];exact LJ ⟨rfl,_,hi,rfl,by lia,q2,by lia,λi hi'=>mono i _ (by lia) (by lia) u,q5⟩
   | false=>
    simp only[aY,LS];refine LJ ⟨rfl,lo,_,rfl,by lia,by lia,by lia,q4,λi i1 i2=>?_⟩;cases v:l7 rk l key a o i with
    | false=>rfl
    | true=>rw[mono _ i i1 i2 v] at u;cases u
theorem nJ(T:iq prog w A s κ D rk)(hk:kindOf st=κ)(h1:D key)(h2:∀x∈a,D x)(hn:o+n<=a.size)(hh:h<n)(mono:∀i j,i<=j->j<n->l7 rk l key a o j=true->l7 rk l key a o i=true)(q:Gi rk st l key a o n Q):wpS (model prog w) A E s (nj l key a o n h) Q st:=by
 rw[CC];refine LG (rM T hk h1 h2 (by lia) ?_);have anti:∀i j,i<=j->j<n->l7 rk l key a o i=false->l7 rk l key a o j=false:=λi j hij hj z=>by
  cases v:l7 rk l key a o j with
  | false=>rfl
  | true=>rw[mono i j hij hj v] at z;cases z
 dsimp only;cases r:l7 rk l key a o h with
 | true=>
  simp only[LR];refine LG (wpS_mono (wpS_forRange (I:=λx c st'=>st'=st/\∃la af,c=(none,la,af)/\la<af/\x+1<=af/\h+la<n/\l7 rk l key a o (h+la)=true)
   (Q:=λc st'=>st'=st/\∃la af,c=(none,la,af)/\la<af/\h+la<n/\l7 rk l key a o (h+la)=true/\(af>=n-h\/l7 rk l key a o (h+af)=false)) ?step ?fin ⟨rfl,0,1,rfl,by lia,by lia,hh,r⟩) ?post)
  case fin=>
   rintro c st' ⟨rfl,la,af,rfl,q1,q2,q3,q4⟩;exact⟨rfl,la,af,rfl,q1,q3,q4,.inl (by lia)⟩
  case step=>
   rintro x c st' _ hx ⟨rfl,la,af,rfl,q1,q2,q3,q4⟩;dsimp only;by_cases z:af>=n-h
   ·rw[LM z];exact LJ ⟨rfl,la,af,rfl,q1,q3,q4,.inl z⟩
   ·rw[LL z];refine LG (rM T hk h1 h2 (by lia) ?_);cases u:l7 rk l key a o (h+af) with
    | true=>
     simp only[jU,aY,LS];exact LJ ⟨rfl,af,2*af+1,rfl,by lia,by lia,by lia,u⟩
    | false=>
     simp only[Bool.not_false,LR];exact LJ ⟨rfl,la,af,rfl,q1,q3,q4,.inr u⟩
  case post=>
   rintro c st' ⟨rfl,la,af,rfl,q1,q3,q4,q5⟩;refine DP T hk h1 h2 hn mono (lo0:=h+la+1) (hi0:=h+min af (n-h)) (by lia) (by lia) (λi hi=>mono i _ (by lia) q3 q4) (λi i1 i2=>?_) q;rcases q5 with z | z
   ·lia
   ·by_cases z2:af>=n-h
    ·lia
    ·exact anti (h+af) i (by lia) i2 z
 | false=>
  simp only[aY,LS];refine LG (wpS_mono (wpS_forRange (I:=λx c st'=>st'=st/\∃la af,c=(none,la,af)/\la<af/\x+1<=af/\la<=h/\l7 rk l key a o (h-la)=false)
   (Q:=λc st'=>st'=st/\∃la af,c=(none,la,af)/\la<af/\la<=h/\l7 rk l key a o (h-la)=false/\(af>=h+1\/l7 rk l key a o (h-af)=true)) ?step ?fin ⟨rfl,0,1,rfl,by lia,by lia,by lia,r⟩) ?post)
  case fin=>
   rintro c st' ⟨rfl,la,af,rfl,q1,q2,q3,q4⟩;exact⟨rfl,la,af,rfl,q1,q3,q4,.inl (by lia)⟩
  case step=>
   rintro x c st' _ hx ⟨rfl,la,af,rfl,q1,q2,q3,q4⟩;dsimp only;by_cases z:af>=h+1
   ·rw[LM z];exact LJ ⟨rfl,la,af,rfl,q1,q3,q4,.inl z⟩
   ·rw[LL z];refine LG (rM T hk h1 h2 (by lia) ?_);cases u:l7 rk l key a o (h-af) with
    | true=>
     simp only[LR];exact LJ ⟨rfl,la,af,rfl,q1,q3,q4,.inr u⟩
    | false=>
     simp only[aY,LS];exact LJ ⟨rfl,af,2*af+1,rfl,by lia,by lia,by lia,u⟩
  case post=>
   rintro c st' ⟨rfl,la,af,rfl,q1,q3,q4,q5⟩;refine DP T hk h1 h2 hn mono (lo0:=h+1-min af (h+1)) (hi0:=h-la) (by lia) (by lia) (λi hi=>?_) (λi i1 i2=>anti _ i i1 i2 q4) q;rcases q5 with z | z
   ·lia
   ·by_cases z2:af>=h+1
    ·lia
    ·exact mono i (h-af) (by lia) (by lia) z
end
end
def EQ:Array Keyed->Array Keyed->StateT SortSt Sem (Array Keyed):=sortPriv% PySem.Builtin.mergeLo
def ES:Array Keyed->Array Keyed->StateT SortSt Sem (Array Keyed):=sortPriv% PySem.Builtin.mergeHi
abbrev oO (st:SortSt) (g:Nat):SortSt:=SortSt.mk' (kindOf st) (arrOf st) (pendingOf st) g (failedOf st)
def rO(a b out:Array Keyed)(i j:Nat):Array Keyed:=out++a.extract i a.size++b.extract j b.size
def xZ(a b out:Array Keyed)(i j:Nat):Array Keyed:=out++b.extract j b.size++a.extract i a.size
theorem Bq(a b:Array Keyed):EQ a b=(do
 rule "list.sort.merge-lo"
 let mut out:Array Keyed:=#[<-elem' b 0]
 let mut i:=0
 let mut j:=1
 if j==b.size then return rO a b out i j
 if i+1==a.size then return xZ a b out i j
 let mut mg:=gallopOf (<-get)
 for _ in [0:a.size+b.size] do
  let mut ca:=0
  let mut cb:=0
  for _ in [0:a.size+b.size] do
   let some t <-lt' (<-elem' b j) (<-elem' a i) | return rO a b out i j
   if t then
    out:=out.push (<-elem' b j);j:=j+1;cb:=cb+1;ca:=0
    if j==b.size then return rO a b out i j
    if cb>=mg then break
   else
    out:=out.push (<-elem' a i);i:=i+1;ca:=ca+1;cb:=0
    if i+1==a.size then return xZ a b out i j
    if ca>=mg then break
  rule "list.sort.gallop"
  mg:=mg+1
  for _ in [0:a.size+b.size] do
   if mg > 1 then mg:=mg - 1
   modify λs=>oO s mg
   let some k <-nj false (<-elem' b j) a i (a.size-i) 0 | return rO a b out i j
   ca:=k
   if k > 0 then
    out:=out++a.extract i (i+k);i:=i+k
    if i+1==a.size then return xZ a b out i j
    if i==a.size then return rO a b out i j
   out:=out.push (<-elem' b j);j:=j+1
   if j==b.size then return rO a b out i j
   let some k <-nj true (<-elem' a i) b j (b.size-j) 0 | return rO a b out i j
   cb:=k
   if k > 0 then
    out:=out++b.extract j (j+k);j:=j+k
    if j==b.size then return rO a b out i j
   out:=out.push (<-elem' a i);i:=i+1
   if i+1==a.size then return xZ a b out i j
   if ca<7&&cb<7 then break
  mg:=mg+1
  modify λs=>oO s mg
 unsupported "internal:list.sort.merge-bound"):=rfl
structure MI (rk:Keyed->Int) (a b out:Array Keyed) (i j:Nat):Prop where
 perm:out.toList.Perm (a.toList.take i++b.toList.take j)
 sort:out.toList.Pairwise fun x y=>rk x<=rk y
 la:∀ x∈out.toList,∀ k,i<=k->k<a.size->rk x<=Kr rk a k
 lb:∀ x∈out.toList,∀ k,j<=k->k<b.size->rk x<=Kr rk b k
def eV(rk:Keyed->Int)(a b r:Array Keyed):Prop:=r.toList.Perm (a.toList++b.toList)/\r.toList.Pairwise λx y=>rk x<=rk y
section
variable {rk:Keyed->Int} {a b out:Array Keyed} {i j:Nat}
theorem MI.swap(h:MI rk a b out i j):MI rk b a out j i:=⟨h.perm.trans bM,h.sort,h.lb,h.la⟩
theorem getD_at{k:Nat}(h:k<a.size):a.toList[k]? = some (a.getD k jC):=by
 have:a.getD k jC=a[k]:=by simp[Array.getD,h]
 rw[this,kf,cX h]
theorem gx{x:Keyed}(h:x∈a.toList.drop i):∃k,i<=k/\k<a.size/\rk x=Kr rk a k:=by
 obtain⟨m,hm,e⟩:=eF h;rw[List.getElem_drop] at e;have hm2:i+m<a.size:=by rw[cU,bQ] at hm;lia
 refine⟨i+m,by lia,hm2,?_⟩;unfold Kr;have:a.getD (i+m) jC=a[i+m]:=by simp[Array.getD,hm2]
 rw[this,<-e,iG]
theorem lI(h:dS rk a 0 a.size):a.toList.Pairwise λx y=>rk x<=rk y:=by
 rw[dq];intro m n hm hn hmn;rw[bQ] at hm hn;have:=h m n (a6 _) (by lia) hn;unfold Kr at this;simp only[iG];have e1:a.getD m jC=a[m]:=by simp[Array.getD,hm]
 have e2:a.getD n jC=a[n]:=by simp[Array.getD,hn]
 rw[e1,e2] at this;exact this
theorem MI.pushA(h:MI rk a b out i j)(sa:dS rk a 0 a.size)(hi:i<a.size)(c:∀k,j<=k->k<b.size->Kr rk a i<=Kr rk b k):MI rk a b (out.push (a.getD i jC)) (i+1) j:=by
 refine⟨?_,?_,λx hx k k1 k2=>?_,λx hx k k1 k2=>?_⟩
 ·rw[gP,bD,getD_at hi];show (out.toList++[a.getD i jC]).Perm (a.toList.take i++[a.getD i jC]++b.toList.take j);refine(h.perm.append_right _).trans ?_;rw[aK,aK];exact dJ _ bM
 ·rw[gP];refine bH.mpr ⟨h.sort,by simp,λx hx y hy=>?_⟩;rw[aQ] at hy;subst hy;exact h.la x hx i (aB _) hi
 ·rw[gP] at hx;rcases aE.mp hx with z | z
  ·exact h.la x z k (by lia) k2
  ·rw[aQ] at z;subst z;exact sa i k (a6 _) (by lia) k2
 ·rw[gP] at hx;rcases aE.mp hx with z | z
  ·exact h.lb x z k k1 k2
  ·rw[aQ] at z;subst z;exact c k k1 k2
theorem MI.pushB(h:MI rk a b out i j)(sb:dS rk b 0 b.size)(hj:j<b.size)(c:∀k,i<=k->k<a.size->Kr rk b j<=Kr rk a k):MI rk a b (out.push (b.getD j jC)) i (j+1):=(h.swap.pushA sb hj c).swap
theorem rN{k:Nat}(h:i+k<a.size):out++a.extract i (i+(k+1))=(out++a.extract i (i+k)).push (a.getD (i+k) jC):=by
 have e:a.getD (i+k) jC=a[i+k]:=by simp[Array.getD,h]
 have p:=Array.push_extract_getElem (i:=i) h;rw[show min i (i+k)=i by lia] at p;rw[e,<-Array.append_push,p];rfl
theorem MI.appA(h:MI rk a b out i j)(sa:dS rk a 0 a.size):∀k,i+k<=a.size->(∀t,t<k->∀m,j<=m->m<b.size->Kr rk a (i+t)<=Kr rk b m)->MI rk a b (out++a.extract i (i+k)) (i+k) j
 | 0,_,_=>by
  have:out++a.extract i (i+0)=out:=by simp;lia
  rw[this];exact h
 | k+1,hk,c=>by
  have:=(h.appA sa k (by lia) λt ht=>c t (by lia)).pushA sa (by lia) (c k (by lia));rw[rN (by lia)];exact this
theorem MI.appB(h:MI rk a b out i j)(sb:dS rk b 0 b.size)(k:Nat)(hk:j+k<=b.size)(c:∀t,t<k->∀m,i<=m->m<a.size->Kr rk b (j+t)<=Kr rk a m):MI rk a b (out++b.extract j (j+k)) i (j+k):=(h.swap.appA sb k hk c).swap
theorem lF:(a.extract i a.size).toList=a.toList.drop i:=by
 simp only[Array.toList_extract,List.extract_eq_drop_take];exact bZ (by simp)
theorem MI.done(h:MI rk a b out i j)(sa:dS rk a 0 a.size)(sb:dS rk b 0 b.size)(c:a.size<=i\/b.size<=j):eV rk a b (rO a b out i j):=by
 unfold rO eV;rw[bX,bX,lF,lF];refine⟨?_,?_⟩
 ·refine((h.perm.append_right _).append_right _).trans ?_
  conv=>rhs;rw[<-bi i a.toList,<-bi j b.toList]
  rw[aK,aK,aK];refine dJ _ ?_;rw[<-aK,<-aK];exact gN _ bM
 ·have pa:=(lI sa).sublist (gL i _);have pb:=(lI sb).sublist (gL j _);refine bH.mpr ⟨bH.mpr ⟨h.sort,pa,λx hx y hy=>?_⟩,pb,λx hx y hy=>?_⟩
  ·obtain⟨k,k1,k2,e⟩:=gx (rk:=rk) hy;rw[e];exact h.la x hx k k1 k2
  ·obtain⟨k,k1,k2,e⟩:=gx (rk:=rk) hy;rw[e];rcases aE.mp hx with z | z
   ·exact h.lb x z k k1 k2
   ·obtain⟨m,m1,m2,_⟩:=gx (rk:=rk) z;lia
theorem MI.last(h:MI rk a b out i j)(sa:dS rk a 0 a.size)(sb:dS rk b 0 b.size)(c:∀k,j<=k->k<b.size->∀m,i<=m->m<a.size->Kr rk b k<=Kr rk a m):eV rk a b (xZ a b out i j):=by
 unfold xZ eV;rw[bX,bX,lF,lF];refine⟨?_,?_⟩
 ·refine((h.perm.append_right _).append_right _).trans ?_;rw[aK (a.toList.take i),bi,aK]
  conv=>rhs;rw[<-bi i a.toList]
  rw[aK];exact dJ _ bM
 ·have pa:=(lI sa).sublist (gL i _);have pb:=(lI sb).sublist (gL j _);refine bH.mpr ⟨bH.mpr ⟨h.sort,pb,λx hx y hy=>?_⟩,pa,λx hx y hy=>?_⟩
  ·obtain⟨k,k1,k2,e⟩:=gx (rk:=rk) hy;rw[e];exact h.lb x hx k k1 k2
  ·obtain⟨k,k1,k2,e⟩:=gx (rk:=rk) hy;rw[e];rcases aE.mp hx with z | z
   ·exact h.la x z k k1 k2
   ·obtain⟨m,m1,m2,f⟩:=gx (rk:=rk) z;rw[f];exact c m m1 m2 k k1 k2
end
abbrev DS:=Option (Array Keyed)×Array Keyed×Nat×Nat×Nat×Nat×Nat
def HB(a b out:Array Keyed)(i j mg ca cb:Nat):StateT SortSt Sem (ForInStep DS):=do
 let x <-elem' a i
 if i+1+1==a.size then pure (.done (some (xZ a b (out.push x) (i+1) j),out.push x,i+1,j,mg,ca,cb))
 else if decide (ca<7)&&decide (cb<7) then pure (.done (none,out.push x,i+1,j,mg,ca,cb)) else pure (.yield (none,out.push x,i+1,j,mg,ca,cb))
def Hd(a b out:Array Keyed)(i j mg ca cb:Nat):StateT SortSt Sem (ForInStep DS):=do
 let x <-elem' a i
 let r <-nj true x b j (b.size-j) 0
 match r with
 | some k=>if k > 0 then (if j+k==b.size then pure (.done (some (rO a b (out++b.extract j (j+k)) i (j+k)),out++b.extract j (j+k),i,j+k,mg,ca,k)) else HB a b (out++b.extract j (j+k)) i (j+k) mg ca k) else HB a b out i j mg ca k
 | _=>pure (.done (some (rO a b out i j),out,i,j,mg,ca,cb))
def HC(a b out:Array Keyed)(i j mg ca cb:Nat):StateT SortSt Sem (ForInStep DS):=do
 let y <-elem' b j
 if j+1==b.size then pure (.done (some (rO a b (out.push y) i (j+1)),out.push y,i,j+1,mg,ca,cb)) else Hd a b (out.push y) i (j+1) mg ca cb
def IF(a b out:Array Keyed)(i j mg ca cb:Nat):StateT SortSt Sem (ForInStep DS):=do
 let y <-elem' b j
 let r <-nj false y a i (a.size-i) 0
 match r with
 | some k=>if k > 0 then (if i+k+1==a.size then pure (.done (some (xZ a b (out++a.extract i (i+k)) (i+k) j),out++a.extract i (i+k),i+k,j,mg,k,cb)) else if i+k==a.size then pure (.done (some (rO a b (out++a.extract i (i+k)) (i+k) j),out++a.extract i (i+k),i+k,j,mg,k,cb)) else HC a b (out++a.extract i (i+k)) (i+k) j mg k cb) else HC a b out i j mg k cb
 | _=>pure (.done (some (rO a b out i j),out,i,j,mg,ca,cb))
structure MH (rk:Keyed->Int) (D:Keyed->Prop) (a b:Array Keyed):Prop where
 da:∀ x∈a,D x
 db:∀ x∈b,D x
 sa:dS rk a 0 a.size
 sb:dS rk b 0 b.size
 na:1<=a.size
 nb:1<=b.size
 lst:∀ j,j<b.size->Kr rk b j<Kr rk a (a.size - 1)
 fst:∀ i,i<a.size->Kr rk b 0<Kr rk a i
structure dY (κ:SortKind) (st st':SortSt):Prop where
 kind:kindOf st'=κ
 fail:failedOf st'=failedOf st
 arr:arrOf st'=arrOf st
 pend:pendingOf st'=pendingOf st
theorem dY.gal{κ:SortKind}{st st':SortSt}(h:dY κ st st')(g:Nat):dY κ st (oO st' g):=⟨h.kind,h.fail,h.arr,h.pend⟩
section
variable {prog:Program} {w:World} {A:Around} {E:Value->Shared->Prop} {s:Shared} {κ:SortKind} {D:Keyed->Prop} {rk:Keyed->Int} {a b out:Array Keyed} {i j mg ca cb:Nat} {st st':SortSt} {R:ForInStep DS->SortSt->Prop}
structure RQ (rk:Keyed->Int) (κ:SortKind) (a b:Array Keyed) (st:SortSt) (p:Nat) (R:ForInStep DS->SortSt->Prop):Prop where
 fin:∀ r x st',eV rk a b r->dY κ st st'->R (.done (some r,x)) st'
 go:∀ out i j x st',MI rk a b out i j->i+1<a.size->j<b.size->p<=i+j->dY κ st st'->R (.done (none,out,i,j,x)) st'/\R (.yield (none,out,i,j,x)) st'
theorem MH.last(H:MH rk D a b)(h:MI rk a b out i j)(e:i+1=a.size):eV rk a b (xZ a b out i j):=h.last H.sa H.sb λk k1 k2 m m1 m2=>by
 have:=H.lst k k2;rw[show a.size - 1=m by lia] at this;lia
theorem DJ(H:MH rk D a b)(h:MI rk a b out i j)(hi:i+1<a.size)(hj:j<b.size)(c:Kr rk a i<=Kr rk b j){p:Nat}(hp:p<=i+j)(sg:dY κ st st')(q:RQ rk κ a b st p R):wpS (model prog w) A E s (HB a b out i j mg ca cb) R st':=by
 unfold HB;refine LG (dE (by lia) ?_);have h2:=h.pushA H.sa (by lia) λk k1 k2=>et c (H.sb j k (a6 _) k1 k2);by_cases e:i+1+1=a.size
 ·rw[LM (by simpa using e)];exact LJ (q.fin _ _ _ (H.last h2 e) sg)
 ·rw[LL (by simpa using e)];have:=q.go _ _ _ (mg,ca,cb) _ h2 (by lia) hj (by lia) sg
  split
  ·exact LJ this.1
  ·exact LJ this.2
theorem kI{l:Bool}{key:Keyed}{a:Array Keyed}{o k:Nat}(h:l7 rk l key a o k=true):if l then Kr rk a (o+k)<rk key else Kr rk a (o+k)<=rk key:=by
 unfold l7 at h;cases l
 ·simp only[aY,LS] at h ⊢;have:=of_decide_eq_false (by simpa using h:decide (rk key<Kr rk a (o+k))=false);lia
 ·simp only[LR] at h ⊢;exact LQ h
theorem jc{l:Bool}{key:Keyed}{a:Array Keyed}{o k:Nat}(h:l7 rk l key a o k=false):if l then rk key<=Kr rk a (o+k) else rk key<Kr rk a (o+k):=by
 unfold l7 at h;cases l
 ·simp only[aY,LS] at h ⊢;exact LQ (by simpa using h)
 ·simp only[LR] at h ⊢;have:=of_decide_eq_false h;lia
theorem lZ{l:Bool}{key:Keyed}{a:Array Keyed}{o n:Nat}(sa:dS rk a o (o+n)):∀i j,i<=j->j<n->l7 rk l key a o j=true->l7 rk l key a o i=true:=λi j hij hj z=>by
 have h1:=kI z;have h2:=sa (o+i) (o+j) (by lia) (by lia) (by lia);unfold l7;cases l
 ·simp only[aY,LS] at h1 ⊢;simp;lia
 ·simp only[LR] at h1 ⊢;exact LP (by lia)
theorem dS.part{a:Array Keyed}{lo hi lo' hi':Nat}(h:dS rk a lo hi)(h1:lo<=lo')(h2:hi'<=hi):dS rk a lo' hi':=λi j hi hij hj=>h i j (by lia) hij (by lia)
theorem GY(T:iq prog w A s κ D rk)(H:MH rk D a b)(h:MI rk a b out i j)(hi:i+1<a.size)(hj:j<b.size){p:Nat}(hp:p<=i+j)(sg:dY κ st st')(q:RQ rk κ a b st p R):wpS (model prog w) A E s (Hd a b out i j mg ca cb) R st':=by
 unfold Hd;have hx:D (a.getD i jC):=ga H.da (bn _) (by lia);refine LG (dE (by lia) (LG (nJ T sg.kind hx H.db (by lia) (by lia) (lZ (H.sb.part (by lia) (by lia))) λk k1 k2 k3=>?_)));dsimp only;have lo:∀t,t<k->∀m,i<=m->m<a.size->Kr rk b (j+t)<=Kr rk a m:=λt ht m m1 m2=>by
  have h1:Kr rk b (j+t)<Kr rk a i:=kI (k2 t ht);have:=H.sa i m (a6 _) m1 m2;lia
 have h2:=h.appB H.sb k (by lia) lo;have up:j+k<b.size->Kr rk a i<=Kr rk b (j+k):=λz=>jc (k3 k (aB _) (by lia))
 split
 ·by_cases e:j+k=b.size
  ·rw[LM (by simpa using e)];exact LJ (q.fin _ _ _ (h2.done H.sa H.sb (.inr (by lia))) sg)
  ·rw[LL (by simpa using e)];exact DJ H h2 hi (by lia) (up (by lia)) (by lia) sg q
 ·next z=>
  have k0:k=0:=by lia
  subst k0;exact DJ H h hi hj (up (by lia)) hp sg q
theorem DK(T:iq prog w A s κ D rk)(H:MH rk D a b)(h:MI rk a b out i j)(hi:i+1<a.size)(hj:j<b.size)(c:Kr rk b j<=Kr rk a i){p:Nat}(hp:p<=i+j)(sg:dY κ st st')(q:RQ rk κ a b st p R):wpS (model prog w) A E s (HC a b out i j mg ca cb) R st':=by
 unfold HC;refine LG (dE hj ?_);have h2:=h.pushB H.sb hj λk k1 k2=>et c (H.sa i k (a6 _) k1 k2);by_cases e:j+1=b.size
 ·rw[LM (by simpa using e)];exact LJ (q.fin _ _ _ (h2.done H.sa H.sb (.inr (by lia))) sg)
 ·rw[LL (by simpa using e)];exact GY T H h2 hi (by lia) (by lia) sg q
theorem DL(T:iq prog w A s κ D rk)(H:MH rk D a b)(h:MI rk a b out i j)(hi:i+1<a.size)(hj:j<b.size){p:Nat}(hp:p<=i+j)(sg:dY κ st st')(q:RQ rk κ a b st p R):wpS (model prog w) A E s (IF a b out i j mg ca cb) R st':=by
 unfold IF;have hy:D (b.getD j jC):=ga H.db (bn _) hj;refine LG (dE hj (LG (nJ T sg.kind hy H.da (by lia) (by lia) (lZ (H.sa.part (by lia) (by lia))) λk k1 k2 k3=>?_)));dsimp only;have lo:∀t,t<k->∀m,j<=m->m<b.size->Kr rk a (i+t)<=Kr rk b m:=λt ht m m1 m2=>by
  have h1:Kr rk a (i+t)<=Kr rk b j:=kI (k2 t ht);have:=H.sb j m (a6 _) m1 m2;lia
 have h2:=h.appA H.sa k (by lia) lo;have up:i+k<a.size->Kr rk b j<Kr rk a (i+k):=λz=>jc (k3 k (aB _) (by lia))
 split
 ·by_cases e:i+k+1=a.size
  ·rw[LM (by simpa using e)];exact LJ (q.fin _ _ _ (H.last h2 e) sg)
  ·rw[LL (by simpa using e)];by_cases e2:i+k=a.size
   ·rw[LM (by simpa using e2)];exact LJ (q.fin _ _ _ (h2.done H.sa H.sb (.inl (by lia))) sg)
   ·rw[LL (by simpa using e2)];exact DK T H h2 (by lia) hj (dR (up (by lia))) (by lia) sg q
 ·next z=>
  have k0:k=0:=by lia
  subst k0;exact DK T H h hi hj (dR (up (by lia))) hp sg q
abbrev FC:=Option (Array Keyed)×Array Keyed×Nat×Nat×Nat×Nat
def HY(a b:Array Keyed)(mg:Nat):Nat->FC->StateT SortSt Sem (ForInStep FC):=λ_ c=>elem' b c.2.2.2.1>>=λy=>elem' a c.2.2.1>>=λx=>lt' y x>>=λr=>match r with
 | some t=>if t=true then (elem' b c.2.2.2.1>>=λy=>if c.2.2.2.1+1==b.size then pure (.done (some (rO a b (c.2.1.push y) c.2.2.1 (c.2.2.2.1+1)),c.2.1.push y,c.2.2.1,c.2.2.2.1+1,0,c.2.2.2.2.2+1)) else if c.2.2.2.2.2+1>=mg then pure (.done (none,c.2.1.push y,c.2.2.1,c.2.2.2.1+1,0,c.2.2.2.2.2+1)) else pure (.yield (none,c.2.1.push y,c.2.2.1,c.2.2.2.1+1,0,c.2.2.2.2.2+1))) else (elem' a c.2.2.1>>=λx=>if c.2.2.1+1+1==a.size then pure (.done (some (xZ a b (c.2.1.push x) (c.2.2.1+1) c.2.2.2.1),c.2.1.push x,c.2.2.1+1,c.2.2.2.1,c.2.2.2.2.1+1,0)) else if c.2.2.2.2.1+1>=mg then pure (.done (none,c.2.1.push x,c.2.2.1+1,c.2.2.2.1,c.2.2.2.2.1+1,0)) else pure (.yield (none,c.2.1.push x,c.2.2.1+1,c.2.2.2.1,c.2.2.2.2.1+1,0)))
 | _=>pure (.done (some (rO a b c.2.1 c.2.2.1 c.2.2.2.1),c.2.1,c.2.2.1,c.2.2.2.1,c.2.2.2.2.1,c.2.2.2.2.2))
theorem GL(T:iq prog w A s κ D rk)(H:MH rk D a b)(h:MI rk a b out i j)(hi:i+1<a.size)(hj:j<b.size)(sg:dY κ st st'){R:ForInStep FC->SortSt->Prop}{x:Nat}
  (q1:∀r x,eV rk a b r->R (.done (some r,x)) st') (q2:∀out' i' j' x,MI rk a b out' i' j'->i'+1<a.size->j'<b.size->i'+j'=i+j+1->R (.done (none,out',i',j',x)) st'/\R (.yield (none,out',i',j',x)) st'):wpS (model prog w) A E s (HY a b mg x (none,out,i,j,ca,cb)) R st':=by
 unfold HY;dsimp only;have hx:D (a.getD i jC):=ga H.da (bn _) (by lia);have hy:D (b.getD j jC):=ga H.db (bn _) hj;refine LG (dE hj (LG (dE (by lia) (LG (tO T sg.kind hy hx ?_)))));by_cases c:Kr rk b j<Kr rk a i
 ·have c':rk (b.getD j jC)<rk (a.getD i jC):=c;simp only[c',decide_true,LR];refine LG (dE hj ?_);have h2:=h.pushB H.sb hj λk k1 k2=>et (dR c) (H.sa i k (a6 _) k1 k2);by_cases e:j+1=b.size
  ·rw[LM (by simpa using e)];exact LJ (q1 _ _ (h2.done H.sa H.sb (.inr (by lia))))
  ·rw[LL (by simpa using e)];have:=q2 _ _ _ (0,cb+1) h2 hi (by lia) (by lia);by_cases e3:cb+1>=mg
   ·rw[LM e3];exact LJ this.1
   ·rw[LL e3];exact LJ this.2
 ·have c':¬rk (b.getD j jC)<rk (a.getD i jC):=c;simp only[c',decide_false,aY,LS];refine LG (dE (by lia) ?_);have h2:=h.pushA H.sa (by lia) λk k1 k2=>et (Int.not_lt.mp c) (H.sb j k (a6 _) k1 k2);by_cases e:i+1+1=a.size
  ·rw[LM (by simpa using e)];exact LJ (q1 _ _ (H.last h2 e))
  ·rw[LL (by simpa using e)];have:=q2 _ _ _ (ca+1,0) h2 (by lia) hj (by lia);by_cases e3:ca+1>=mg
   ·rw[LM e3];exact LJ this.1
   ·rw[LL e3];exact LJ this.2
theorem MI.start(H:MH rk D a b):MI rk a b #[b.getD 0 jC] 0 1:=by
 have h:MI rk a b #[] 0 0:=⟨by simp,by simp,λx hx=>by simp at hx,λx hx=>by simp at hx⟩
 exact h.pushB H.sb H.nb λk _ k2=>dR (H.fst k k2)
theorem EO(T:iq prog w A s κ D rk)(H:MH rk D a b)(hk:kindOf st=κ){Q:Array Keyed->SortSt->Prop}(q:∀r st',eV rk a b r->dY κ st st'->Q r st'):wpS (model prog w) A E s (EQ a b) Q st:=by
 rw[Bq];have S0:dY κ st st:=⟨hk,rfl,rfl,rfl⟩
 have M0:=MI.start H;refine LG (LI (LB ⟨rfl,?_⟩));refine LG (dE H.nb ?_);dsimp only;by_cases e1:1=b.size
 ·rw[LM (by simpa using e1)];exact LJ (q _ _ (M0.done H.sa H.sb (.inr (by lia))) S0)
 rw[LL (by simpa using e1)];by_cases e2:0+1=a.size
 ·rw[LM (by simpa using e2)];exact LJ (q _ _ (H.last M0 e2) S0)
 rw[LL (by simpa using e2)];have na:=H.na;have nb:=H.nb;refine LG (LH ?_);refine LG (wpS_mono (wpS_forRange (I:=λx c st'=>∃out i j mg,c=((none,out,i,j,mg):Option (Array Keyed)×Array Keyed×Nat×Nat×Nat)/\MI rk a b out i j/\i+1<a.size/\j<b.size/\x+1<=i+j/\dY κ st st')
  (Q:=λc st'=>∃r x,c=(some r,x)/\eV rk a b r/\dY κ st st') ?step ?fin ⟨_,0,1,_,rfl,M0,by lia,by lia,by lia,S0⟩) ?post)
 case fin=>
  rintro c st' ⟨out,i,j,mg,rfl,M,hi,hj,hp,sg⟩;lia
 case post=>
  rintro c st' ⟨r,x,rfl,gd,sg⟩;exact LJ (q r st' gd sg)
 case step=>
  rintro x c st' _ hx ⟨out,i,j,mg,rfl,M,hi,hj,hp,sg⟩;dsimp only;refine LG (wpS_mono (m:=forIn [0:a.size+b.size] ((none,out,i,j,0,0):FC) (HY a b mg)) (wpS_forRange (I:=λy c st''=>∃out' i' j' x,c=((none,out',i',j',x):FC)/\MI rk a b out' i' j'/\i'+1<a.size/\j'<b.size/\i'+j'=i+j+y/\dY κ st st'')
   (Q:=λc st''=>dY κ st st''/\((∃r x,c=(some r,x)/\eV rk a b r)\/∃out' i' j' x,c=((none,out',i',j',x):FC)/\MI rk a b out' i' j'/\i'+1<a.size/\j'<b.size/\i+j+1<=i'+j')) ?step2 ?fin2 ⟨out,i,j,_,rfl,M,hi,hj,rfl,sg⟩) ?post2)
  case fin2=>
   rintro c st'' ⟨out',i',j',x,rfl,M',hi',hj',hp',sg'⟩;exact⟨sg',.inr ⟨out',i',j',x,rfl,M',hi',hj',by lia⟩⟩
  case step2=>
   rintro y c st'' _ hy ⟨out',i',j',⟨ca,cb⟩,rfl,M',hi',hj',hp',sg'⟩;exact GL T H M' hi' hj' sg' (λr x gd=>⟨sg',.inl ⟨r,x,rfl,gd⟩⟩) λo2 i2 j2 x M2 h1 h2 h3=>⟨⟨sg',.inr ⟨o2,i2,j2,x,rfl,M2,h1,h2,by lia⟩⟩,o2,i2,j2,x,rfl,M2,h1,h2,by lia,sg'⟩
  case post2=>
   rintro c st'' ⟨sg',⟨r,x',rfl,gd⟩ | ⟨out',i',j',⟨ca,cb⟩,rfl,M',hi',hj',hp'⟩⟩
   ·exact LJ ⟨r,_,rfl,gd,sg'⟩
   ·dsimp only;refine LG (LI (LB ⟨rfl,?_⟩));refine LG (wpS_mono (wpS_forRange (I:=λy c st3=>∃o3 i3 j3 m3 c3 d3,c=((none,o3,i3,j3,m3,c3,d3):DS)/\MI rk a b o3 i3 j3/\i3+1<a.size/\j3<b.size/\i+j+1<=i3+j3/\dY κ st st3)
     (Q:=λc st3=>dY κ st st3/\((∃r x,c=(some r,x)/\eV rk a b r)\/∃o3 i3 j3 x,c=((none,o3,i3,j3,x):DS)/\MI rk a b o3 i3 j3/\i3+1<a.size/\j3<b.size/\i+j+1<=i3+j3)) ?step3 ?fin3 ⟨out',i',j',_,_,_,rfl,M',hi',hj',hp',sg'⟩) ?post3)
    case fin3=>
     rintro c st3 ⟨o3,i3,j3,m3,c3,d3,rfl,M3,hi3,hj3,hp3,sg3⟩;exact⟨sg3,.inr ⟨o3,i3,j3,_,rfl,M3,hi3,hj3,hp3⟩⟩
    case step3=>
     rintro y c st3 _ hy ⟨o3,i3,j3,m3,c3,d3,rfl,M3,hi3,hj3,hp3,sg3⟩;dsimp only;by_cases z:m3 > 1
     ·rw[LM z];exact LG (LK (DL T H M3 hi3 hj3 hp3 (sg3.gal _) ⟨λr x st' gd sg=>⟨sg,.inl ⟨r,x,rfl,gd⟩⟩,λo i j x st' M h1 h2 h3 sg=>⟨⟨sg,.inr ⟨o,i,j,x,rfl,M,h1,h2,h3⟩⟩,o,i,j,x.1,x.2.1,x.2.2,rfl,M,h1,h2,h3,sg⟩⟩))
     ·rw[LL z];exact LG (LK (DL T H M3 hi3 hj3 hp3 (sg3.gal _) ⟨λr x st' gd sg=>⟨sg,.inl ⟨r,x,rfl,gd⟩⟩,λo i j x st' M h1 h2 h3 sg=>⟨⟨sg,.inr ⟨o,i,j,x,rfl,M,h1,h2,h3⟩⟩,o,i,j,x.1,x.2.1,x.2.2,rfl,M,h1,h2,h3,sg⟩⟩))
    case post3=>
     rintro c st3 ⟨sg3,⟨r,x',rfl,gd⟩ | ⟨o3,i3,j3,⟨m3,c3,d3⟩,rfl,M3,hi3,hj3,hp3⟩⟩
     ·exact LJ ⟨r,_,rfl,gd,sg3⟩
     ·exact LG (LK (LJ ⟨o3,i3,j3,_,rfl,M3,hi3,hj3,by lia,sg3.gal _⟩))
end
def rj(a b out:Array Keyed)(n m:Nat):Array Keyed:=a.extract 0 n++b.extract 0 m++out.reverse
def Aa(a b out:Array Keyed)(n m:Nat):Array Keyed:=b.extract 0 m++a.extract 0 n++out.reverse
theorem Br(a b:Array Keyed):ES a b=(do
 rule "list.sort.merge-hi"
 let mut n:=a.size - 1
 let mut m:=b.size
 let mut out:Array Keyed:=#[<-elem' a n]
 if n==0 then return rj a b out n m
 if m==1 then return Aa a b out n m
 let mut mg:=gallopOf (<-get)
 for _ in [0:a.size+b.size] do
  let mut ca:=0
  let mut cb:=0
  for _ in [0:a.size+b.size] do
   let some t <-lt' (<-elem' b (m - 1)) (<-elem' a (n - 1)) | return rj a b out n m
   if t then
    n:=n - 1;out:=out.push (<-elem' a n);ca:=ca+1;cb:=0
    if n==0 then return rj a b out n m
    if ca>=mg then break
   else
    m:=m - 1;out:=out.push (<-elem' b m);cb:=cb+1;ca:=0
    if m==1 then return Aa a b out n m
    if cb>=mg then break
  rule "list.sort.gallop"
  mg:=mg+1
  for _ in [0:a.size+b.size] do
   if mg > 1 then mg:=mg - 1
   modify λs=>oO s mg
   let some p <-nj false (<-elem' b (m - 1)) a 0 n (n - 1) | return rj a b out n m
   let k:=n-p
   ca:=k
   if k > 0 then
    out:=out++(a.extract p n).reverse;n:=p
    if n==0 then return rj a b out n m
   m:=m - 1;out:=out.push (<-elem' b m)
   if m==1 then return Aa a b out n m
   let some p <-nj true (<-elem' a (n - 1)) b 0 m (m - 1) | return rj a b out n m
   let k:=m-p
   cb:=k
   if k > 0 then
    out:=out++(b.extract p m).reverse;m:=p
    if m==1 then return Aa a b out n m
    if m==0 then return rj a b out n m
   n:=n - 1;out:=out.push (<-elem' a n)
   if n==0 then return rj a b out n m
   if ca<7&&cb<7 then break
  mg:=mg+1
  modify λs=>oO s mg
 unsupported "internal:list.sort.merge-bound"):=rfl
def EK(rk:Keyed->Int)(x:Keyed):Int:=- rk x
def MJ(rk:Keyed->Int)(a b out:Array Keyed)(n m:Nat):Prop:=MI (EK rk) a.reverse b.reverse out (a.size-n) (b.size-m)
section
variable {rk:Keyed->Int} {a b out:Array Keyed} {n m:Nat}
theorem tX(h1:1<=n)(h2:n<=a.size):a.reverse.getD (a.size-n) jC=a.getD (n - 1) jC:=by
 rw[bC,bC,gQ (by lia),show a.size - 1-(a.size-n)=n - 1 by lia]
theorem lK{k:Nat}(h:k<a.size):Kr (EK rk) a.reverse k=- Kr rk a (a.size - 1-k):=by
 unfold Kr EK;have:=tX (a:=a) (n:=a.size-k) (by lia) (by lia);rw[show a.size-(a.size-k)=k by lia,show a.size-k - 1=a.size - 1-k by lia] at this;rw[this]
theorem l5(h:dS rk a 0 a.size):dS (EK rk) a.reverse 0 a.reverse.size:=λi j _ hij hj=>by
 rw[bv] at hj;rw[lK (by lia),lK hj];have:=h (a.size - 1-j) (a.size - 1-i) (a6 _) (by lia) (by lia);lia
theorem MJ.pushA(h:MJ rk a b out n m)(sa:dS rk a 0 a.size)(h1:1<=n)(h2:n<=a.size)(hm:m<=b.size)(c:∀k,k<m->Kr rk b k<=Kr rk a (n - 1)):MJ rk a b (out.push (a.getD (n - 1) jC)) (n - 1) m:=by
 have:=MI.pushA h (l5 sa) (by rw[bv];lia) λk k1 k2=>by
  rw[bv] at k2;rw[lK (by lia),lK k2,show a.size - 1-(a.size-n)=n - 1 by lia];have:=c (b.size - 1-k) (by lia);lia
 rw[tX h1 h2,show a.size-n+1=a.size-(n - 1) by lia] at this;exact this
theorem MJ.swap(h:MJ rk a b out n m):MJ rk b a out m n:=MI.swap h
theorem MJ.pushB(h:MJ rk a b out n m)(sb:dS rk b 0 b.size)(h1:1<=m)(h2:m<=b.size)(hn:n<=a.size)(c:∀k,k<n->Kr rk a k<=Kr rk b (m - 1)):MJ rk a b (out.push (b.getD (m - 1) jC)) n (m - 1):=(h.swap.pushA sb h1 h2 hn c).swap
theorem MJ.appA(h:MJ rk a b out n m)(sa:dS rk a 0 a.size)(hm:m<=b.size){p:Nat}(h1:p<=n)(h2:n<=a.size)(c:∀t,p<=t->t<n->∀k,k<m->Kr rk b k<=Kr rk a t):MJ rk a b (out++(a.extract p n).reverse) p m:=by
 have:=MI.appA h (l5 sa) (n-p) (by rw[bv];lia) λt ht k k1 k2=>by
  rw[bv] at k2;rw[lK (by lia),lK k2];have:=c (a.size - 1-(a.size-n+t)) (by lia) (by lia) (b.size - 1-k) (by lia);lia
 rw[show a.size-n+(n-p)=a.size-p by lia] at this;have e:(a.extract p n).reverse=a.reverse.extract (a.size-n) (a.size-p):=by
  apply Array.ext_getElem?;intro i;by_cases hi:i<n-p
  ·rw[gQ (by rw[dN];lia),gR,gR,dN,bv,LM (by lia),LM (by lia),gQ (by lia)];congr 1;lia
  ·rw[eu (by rw[bv,dN];lia),eu (by rw[dN,bv];lia)]
 rw[e];exact this
theorem MJ.appB(h:MJ rk a b out n m)(sb:dS rk b 0 b.size)(hn:n<=a.size){p:Nat}(h1:p<=m)(h2:m<=b.size)(c:∀t,p<=t->t<m->∀k,k<n->Kr rk a k<=Kr rk b t):MJ rk a b (out++(b.extract p m).reverse) n p:=(h.swap.appA sb hn h1 h2 c).swap
theorem tS{r:Array Keyed}(h:eV (EK rk) a.reverse b.reverse r):eV rk a b r.reverse:=by
 refine⟨?_,?_⟩
 ·rw[cI];refine(fK _).trans (h.1.trans ?_);rw[cI,cI];exact(fK _).append (fK _)
 ·rw[cI,List.pairwise_reverse];refine h.2.imp fun {x y} z=>?_;unfold EK at z;lia
theorem mh(h:n<=a.size):(a.reverse.extract (a.size-n) a.reverse.size).toList.reverse=(a.extract 0 n).toList:=by
 rw[lF,cI,List.drop_reverse,List.reverse_reverse,bQ,show a.size-(a.size-n)=n by lia];simp
theorem MJ.done(h:MJ rk a b out n m)(sa:dS rk a 0 a.size)(sb:dS rk b 0 b.size)(hn:n<=a.size)(hm:m<=b.size)(c:n=0\/m=0):eV rk a b (rj a b out n m):=by
 have g:=tS (MI.done h (l5 sa) (l5 sb) (by rw[bv,bv];lia));have e:(rO a.reverse b.reverse out (a.size-n) (b.size-m)).reverse.toList=(rj a b out n m).toList:=by
  unfold rO rj;rw[cI,bX,bX,eE,eE,mh hn,mh hm,bX,bX,cI];rcases c with rfl | rfl<;>simp
 unfold eV at g ⊢;rw[<-e];exact g
theorem MJ.first(h:MJ rk a b out n m)(sa:dS rk a 0 a.size)(sb:dS rk b 0 b.size)(hn:n<=a.size)(hm:m<=b.size)(c:∀k,k<m->∀t,t<n->Kr rk b k<=Kr rk a t):eV rk a b (Aa a b out n m):=by
 have g:=MI.last (MI.swap h) (l5 sb) (l5 sa) λk k1 k2 t t1 t2=>by
  rw[bv] at k2 t2;rw[lK k2,lK t2];have:=c (b.size - 1-t) (by lia) (a.size - 1-k) (by lia);lia
 have g:eV (EK rk) a.reverse b.reverse (xZ b.reverse a.reverse out (b.size-m) (a.size-n)):=⟨g.1.trans bM,g.2⟩
 have g:=tS g;have e:(xZ b.reverse a.reverse out (b.size-m) (a.size-n)).reverse.toList=(Aa a b out n m).toList:=by
  unfold xZ Aa;rw[cI,bX,bX,eE,eE,mh hn,mh hm,bX,bX,cI,aK]
 unfold eV at g ⊢;rw[<-e];exact g
end
abbrev DQ:=Option (Array Keyed)×Nat×Nat×Array Keyed×Nat×Nat×Nat
def Gz(a b:Array Keyed)(n m:Nat)(out:Array Keyed)(mg ca cb:Nat):StateT SortSt Sem (ForInStep DQ):=do
 let x <-elem' a (n - 1)
 if n - 1==0 then pure (.done (some (rj a b (out.push x) (n - 1) m),n - 1,m,out.push x,mg,ca,cb))
 else if decide (ca<7)&&decide (cb<7) then pure (.done (none,n - 1,m,out.push x,mg,ca,cb)) else pure (.yield (none,n - 1,m,out.push x,mg,ca,cb))
def Hc(a b:Array Keyed)(n m:Nat)(out:Array Keyed)(mg ca cb:Nat):StateT SortSt Sem (ForInStep DQ):=do
 let x <-elem' a (n - 1)
 let r <-nj true x b 0 m (m - 1)
 match r with
 | some p=>if m-p > 0 then (if p==1 then pure (.done (some (Aa a b (out++(b.extract p m).reverse) n p),n,p,out++(b.extract p m).reverse,mg,ca,m-p)) else if p==0 then pure (.done (some (rj a b (out++(b.extract p m).reverse) n p),n,p,out++(b.extract p m).reverse,mg,ca,m-p)) else Gz a b n p (out++(b.extract p m).reverse) mg ca (m-p)) else Gz a b n m out mg ca (m-p)
 | _=>pure (.done (some (rj a b out n m),n,m,out,mg,ca,cb))
def HA(a b:Array Keyed)(n m:Nat)(out:Array Keyed)(mg ca cb:Nat):StateT SortSt Sem (ForInStep DQ):=do
 let y <-elem' b (m - 1)
 if m - 1==1 then pure (.done (some (Aa a b (out.push y) n (m - 1)),n,m - 1,out.push y,mg,ca,cb)) else Hc a b n (m - 1) (out.push y) mg ca cb
def IE(a b:Array Keyed)(n m:Nat)(out:Array Keyed)(mg ca cb:Nat):StateT SortSt Sem (ForInStep DQ):=do
 let y <-elem' b (m - 1)
 let r <-nj false y a 0 n (n - 1)
 match r with
 | some p=>if n-p > 0 then (if p==0 then pure (.done (some (rj a b (out++(a.extract p n).reverse) p m),p,m,out++(a.extract p n).reverse,mg,n-p,cb)) else HA a b p m (out++(a.extract p n).reverse) mg (n-p) cb) else HA a b n m out mg (n-p) cb
 | _=>pure (.done (some (rj a b out n m),n,m,out,mg,ca,cb))
abbrev FA:=Option (Array Keyed)×Nat×Nat×Array Keyed×Nat×Nat
def HX(a b:Array Keyed)(mg:Nat):Nat->FA->StateT SortSt Sem (ForInStep FA):=λ_ c=>elem' b (c.2.2.1 - 1)>>=λy=>elem' a (c.2.1 - 1)>>=λx=>lt' y x>>=λr=>match r with
 | some t=>if t=true then (elem' a (c.2.1 - 1)>>=λx=>if c.2.1 - 1==0 then pure (.done (some (rj a b (c.2.2.2.1.push x) (c.2.1 - 1) c.2.2.1),c.2.1 - 1,c.2.2.1,c.2.2.2.1.push x,c.2.2.2.2.1+1,0)) else if c.2.2.2.2.1+1>=mg then pure (.done (none,c.2.1 - 1,c.2.2.1,c.2.2.2.1.push x,c.2.2.2.2.1+1,0)) else pure (.yield (none,c.2.1 - 1,c.2.2.1,c.2.2.2.1.push x,c.2.2.2.2.1+1,0))) else (elem' b (c.2.2.1 - 1)>>=λy=>if c.2.2.1 - 1==1 then pure (.done (some (Aa a b (c.2.2.2.1.push y) c.2.1 (c.2.2.1 - 1)),c.2.1,c.2.2.1 - 1,c.2.2.2.1.push y,0,c.2.2.2.2.2+1)) else if c.2.2.2.2.2+1>=mg then pure (.done (none,c.2.1,c.2.2.1 - 1,c.2.2.2.1.push y,0,c.2.2.2.2.2+1)) else pure (.yield (none,c.2.1,c.2.2.1 - 1,c.2.2.2.1.push y,0,c.2.2.2.2.2+1)))
 | _=>pure (.done (some (rj a b c.2.2.2.1 c.2.1 c.2.2.1),c.2.1,c.2.2.1,c.2.2.2.1,c.2.2.2.2.1,c.2.2.2.2.2))
section
variable {prog:Program} {w:World} {A:Around} {E:Value->Shared->Prop} {s:Shared} {κ:SortKind} {D:Keyed->Prop} {rk:Keyed->Int} {a b out:Array Keyed} {n m mg ca cb:Nat} {st st':SortSt} {R:ForInStep DQ->SortSt->Prop}
structure MS (rk:Keyed->Int) (a b out:Array Keyed) (n m:Nat):Prop where
 mi:MJ rk a b out n m
 n1:1<=n
 n2:n<=a.size
 m1:2<=m
 m2:m<=b.size
structure RH (rk:Keyed->Int) (κ:SortKind) (a b:Array Keyed) (st:SortSt) (p:Nat) (R:ForInStep DQ->SortSt->Prop):Prop where
 fin:∀ r x st',eV rk a b r->dY κ st st'->R (.done (some r,x)) st'
 go:∀ n m out x st',MS rk a b out n m->n+m<=p->dY κ st st'->R (.done (none,n,m,out,x)) st'/\R (.yield (none,n,m,out,x)) st'
theorem MH.firstB(H:MH rk D a b)(h:MJ rk a b out n 1)(hn:n<=a.size):eV rk a b (Aa a b out n 1):=h.first H.sa H.sb hn H.nb λk k1 t t1=>by
 have:=H.fst t (by lia);rw[show k=0 by lia];lia
theorem DF(H:MH rk D a b)(h:MS rk a b out n m)(c:∀k,k<m->Kr rk b k<=Kr rk a (n - 1)){p:Nat}(hp:n+m<=p)(sg:dY κ st st')(q:RH rk κ a b st p R):wpS (model prog w) A E s (Gz a b n m out mg ca cb) R st':=by
 unfold Gz;have n1:=h.n1;have n2:=h.n2;refine LG (dE (by lia) ?_);have h2:=h.mi.pushA H.sa n1 n2 h.m2 c;by_cases e:n - 1=0
 ·rw[LM (by simpa using e)];exact LJ (q.fin _ _ _ (h2.done H.sa H.sb (by lia) h.m2 (.inl e)) sg)
 ·rw[LL (by simpa using e)];have:=q.go _ _ _ (mg,ca,cb) _ ⟨h2,by lia,by lia,h.m1,h.m2⟩ (by lia) sg;by_cases z:(decide (ca<7)&&decide (cb<7))=true
  ·rw[LM z];exact LJ this.1
  ·rw[LL z];exact LJ this.2
theorem GU(T:iq prog w A s κ D rk)(H:MH rk D a b)(h:MS rk a b out n m){p:Nat}(hp:n+m<=p)(sg:dY κ st st')(q:RH rk κ a b st p R):wpS (model prog w) A E s (Hc a b n m out mg ca cb) R st':=by
 unfold Hc;have n1:=h.n1;have n2:=h.n2;have m1:=h.m1;have m2:=h.m2;have hx:D (a.getD (n - 1) jC):=ga H.da (bn _) (by lia);refine LG (dE (by lia) (LG (nJ T sg.kind hx H.db (by lia) (by lia) (lZ (H.sb.part (by lia) (by lia))) λp k1 k2 k3=>?_)));dsimp only;have lo:∀k,k<p->Kr rk b k<Kr rk a (n - 1):=λk hk=>by
  have h1:Kr rk b (0+k)<Kr rk a (n - 1):=kI (k2 k hk);rw[cJ] at h1;exact h1
 have up:∀t,p<=t->t<m->∀k,k<n->Kr rk a k<=Kr rk b t:=λt t1 t2 k hk=>by
  have h1:Kr rk a (n - 1)<=Kr rk b (0+t):=jc (k3 t t1 t2);have:=H.sa k (n - 1) (a6 _) (by lia) (by lia);rw[cJ] at h1;lia
 have h2:=h.mi.appB H.sb n2 k1 m2 up;by_cases z:m-p > 0
 ·rw[LM z];by_cases e:p=1
  ·rw[LM (by simpa using e)];subst e;exact LJ (q.fin _ _ _ (H.firstB h2 n2) sg)
  ·rw[LL (by simpa using e)];by_cases e2:p=0
   ·rw[LM (by simpa using e2)];exact LJ (q.fin _ _ _ (h2.done H.sa H.sb n2 (by lia) (.inr e2)) sg)
   ·rw[LL (by simpa using e2)];exact DF H ⟨h2,n1,n2,by lia,by lia⟩ (λk hk=>dR (lo k hk)) (by lia) sg q
 ·rw[LL z];have e:p=m:=by lia
  subst e;exact DF H h (λk hk=>dR (lo k hk)) hp sg q
theorem DG(T:iq prog w A s κ D rk)(H:MH rk D a b)(h:MS rk a b out n m)(c:∀k,k<n->Kr rk a k<=Kr rk b (m - 1)){p:Nat}(hp:n+m<=p)(sg:dY κ st st')(q:RH rk κ a b st p R):wpS (model prog w) A E s (HA a b n m out mg ca cb) R st':=by
 unfold HA;have m1:=h.m1;have m2:=h.m2;refine LG (dE (by lia) ?_);have h2:=h.mi.pushB H.sb (by lia) m2 h.n2 c;by_cases e:m - 1=1
 ·rw[LM (by simpa using e)];rw[e] at h2 ⊢;exact LJ (q.fin _ _ _ (H.firstB h2 h.n2) sg)
 ·rw[LL (by simpa using e)];exact GU T H ⟨h2,h.n1,h.n2,by lia,by lia⟩ (by lia) sg q
theorem DH(T:iq prog w A s κ D rk)(H:MH rk D a b)(h:MS rk a b out n m){p:Nat}(hp:n+m<=p)(sg:dY κ st st')(q:RH rk κ a b st p R):wpS (model prog w) A E s (IE a b n m out mg ca cb) R st':=by
 unfold IE;have n1:=h.n1;have n2:=h.n2;have m1:=h.m1;have m2:=h.m2;have hy:D (b.getD (m - 1) jC):=ga H.db (bn _) (by lia);refine LG (dE (by lia) (LG (nJ T sg.kind hy H.da (by lia) (by lia) (lZ (H.sa.part (by lia) (by lia))) λp k1 k2 k3=>?_)));dsimp only;have lo:∀k,k<p->Kr rk a k<=Kr rk b (m - 1):=λk hk=>by
  have h1:Kr rk a (0+k)<=Kr rk b (m - 1):=kI (k2 k hk);rw[cJ] at h1;exact h1
 have up:∀t,p<=t->t<n->∀k,k<m->Kr rk b k<=Kr rk a t:=λt t1 t2 k hk=>by
  have h1:Kr rk b (m - 1)<Kr rk a (0+t):=jc (k3 t t1 t2);have:=H.sb k (m - 1) (a6 _) (by lia) (by lia);rw[cJ] at h1;lia
 have h2:=h.mi.appA H.sa m2 k1 n2 up;by_cases z:n-p > 0
 ·rw[LM z];by_cases e:p=0
  ·rw[LM (by simpa using e)];exact LJ (q.fin _ _ _ (h2.done H.sa H.sb (by lia) m2 (.inl e)) sg)
  ·rw[LL (by simpa using e)];exact DG T H ⟨h2,by lia,by lia,m1,m2⟩ lo (by lia) sg q
 ·rw[LL z];have e:p=n:=by lia
  subst e;exact DG T H h lo hp sg q
theorem GK(T:iq prog w A s κ D rk)(H:MH rk D a b)(h:MS rk a b out n m)(sg:dY κ st st'){R:ForInStep FA->SortSt->Prop}{x:Nat}
  (q1:∀r x,eV rk a b r->R (.done (some r,x)) st') (q2:∀n' m' out' x,MS rk a b out' n' m'->n'+m'+1=n+m->R (.done (none,n',m',out',x)) st'/\R (.yield (none,n',m',out',x)) st'):wpS (model prog w) A E s (HX a b mg x (none,n,m,out,ca,cb)) R st':=by
 unfold HX;dsimp only;have n1:=h.n1;have n2:=h.n2;have m1:=h.m1;have m2:=h.m2;have hx:D (a.getD (n - 1) jC):=ga H.da (bn _) (by lia);have hy:D (b.getD (m - 1) jC):=ga H.db (bn _) (by lia);refine LG (dE (by lia) (LG (dE (by lia) (LG (tO T sg.kind hy hx ?_)))));by_cases c:Kr rk b (m - 1)<Kr rk a (n - 1)
 ·have c':rk (b.getD (m - 1) jC)<rk (a.getD (n - 1) jC):=c;simp only[c',decide_true,LR];refine LG (dE (by lia) ?_);have h2:=h.mi.pushA H.sa n1 n2 m2 λk hk=>by have:=H.sb k (m - 1) (a6 _) (by lia) (by lia);lia
  by_cases e:n - 1=0
  ·rw[LM (by simpa using e)];exact LJ (q1 _ _ (h2.done H.sa H.sb (by lia) m2 (.inl e)))
  ·rw[LL (by simpa using e)];have:=q2 _ _ _ (ca+1,0) ⟨h2,by lia,by lia,m1,m2⟩ (by lia);by_cases e3:ca+1>=mg
   ·rw[LM e3];exact LJ this.1
   ·rw[LL e3];exact LJ this.2
 ·have c':¬rk (b.getD (m - 1) jC)<rk (a.getD (n - 1) jC):=c;simp only[c',decide_false,aY,LS];refine LG (dE (by lia) ?_);have h2:=h.mi.pushB H.sb (by lia) m2 n2 λk hk=>by have:=H.sa k (n - 1) (a6 _) (by lia) (by lia);lia
  by_cases e:m - 1=1
  ·rw[LM (by simpa using e)];rw[e] at h2 ⊢;exact LJ (q1 _ _ (H.firstB h2 n2))
  ·rw[LL (by simpa using e)];have:=q2 _ _ _ (0,cb+1) ⟨h2,n1,n2,by lia,by lia⟩ (by lia);by_cases e3:cb+1>=mg
   ·rw[LM e3];exact LJ this.1
   ·rw[LL e3];exact LJ this.2
theorem MJ.start(H:MH rk D a b):MJ rk a b #[a.getD (a.size - 1) jC] (a.size - 1) b.size:=by
 have h:MJ rk a b #[] a.size b.size:=by
  unfold MJ;rw[iV,iV];exact⟨by simp,by simp,λx hx=>by simp at hx,λx hx=>by simp at hx⟩
 exact h.pushA H.sa H.na (aB _) (aB _) λk hk=>dR (H.lst k hk)
theorem ER(T:iq prog w A s κ D rk)(H:MH rk D a b)(hk:kindOf st=κ){Q:Array Keyed->SortSt->Prop}(q:∀r st',eV rk a b r->dY κ st st'->Q r st'):wpS (model prog w) A E s (ES a b) Q st:=by
 rw[Br];have S0:dY κ st st:=⟨hk,rfl,rfl,rfl⟩
 have M0:=MJ.start H;have na:=H.na;have nb:=H.nb;refine LG (LI (LB ⟨rfl,?_⟩));refine LG (dE (by lia) ?_);dsimp only;by_cases e1:a.size - 1=0
 ·rw[LM (by simpa using e1)];exact LJ (q _ _ (M0.done H.sa H.sb (by lia) (aB _) (.inl e1)) S0)
 rw[LL (by simpa using e1)];by_cases e2:b.size=1
 ·rw[LM (by simpa using e2)];rw[e2] at M0 ⊢;exact LJ (q _ _ (H.firstB M0 (by lia)) S0)
 rw[LL (by simpa using e2)];refine LG (LH ?_);refine LG (wpS_mono (wpS_forRange (I:=λx c st'=>∃n m out mg,c=((none,n,m,out,mg):Option (Array Keyed)×Nat×Nat×Array Keyed×Nat)/\MS rk a b out n m/\n+m+x+1<=a.size+b.size/\dY κ st st')
  (Q:=λc st'=>∃r x,c=(some r,x)/\eV rk a b r/\dY κ st st') ?step ?fin ⟨_,_,_,_,rfl,⟨M0,by lia,by lia,by lia,aB _⟩,by lia,S0⟩) ?post)
 case fin=>
  rintro c st' ⟨n,m,out,mg,rfl,M,hp,sg⟩;lia
 case post=>
  rintro c st' ⟨r,x,rfl,gd,sg⟩;exact LJ (q r st' gd sg)
 case step=>
  rintro x c st' _ hx ⟨n,m,out,mg,rfl,M,hp,sg⟩;dsimp only;have n1:=M.n1;refine LG (wpS_mono (m:=forIn [0:a.size+b.size] ((none,n,m,out,0,0):FA) (HX a b mg)) (wpS_forRange (I:=λy c st''=>∃n' m' out' x,c=((none,n',m',out',x):FA)/\MS rk a b out' n' m'/\n'+m'+y=n+m/\dY κ st st'')
   (Q:=λc st''=>dY κ st st''/\((∃r x,c=(some r,x)/\eV rk a b r)\/∃n' m' out' x,c=((none,n',m',out',x):FA)/\MS rk a b out' n' m'/\n'+m'+1<=n+m)) ?step2 ?fin2 ⟨n,m,out,_,rfl,M,rfl,sg⟩) ?post2)
  case fin2=>
   rintro c st'' ⟨n',m',out',x,rfl,M',hp',sg'⟩;exact⟨sg',.inr ⟨n',m',out',x,rfl,M',by lia⟩⟩
  case step2=>
   rintro y c st'' _ hy ⟨n',m',out',⟨ca,cb⟩,rfl,M',hp',sg'⟩;exact GK T H M' sg' (λr x gd=>⟨sg',.inl ⟨r,x,rfl,gd⟩⟩) λn2 m2 o2 x M2 h3=>⟨⟨sg',.inr ⟨n2,m2,o2,x,rfl,M2,by lia⟩⟩,n2,m2,o2,x,rfl,M2,by lia,sg'⟩
  case post2=>
   rintro c st'' ⟨sg',⟨r,x',rfl,gd⟩ | ⟨n',m',out',⟨ca,cb⟩,rfl,M',hp'⟩⟩
   ·exact LJ ⟨r,_,rfl,gd,sg'⟩
   ·dsimp only;refine LG (LI (LB ⟨rfl,?_⟩));refine LG (wpS_mono (wpS_forRange (I:=λy c st3=>∃n3 m3 o3 g3 c3 d3,c=((none,n3,m3,o3,g3,c3,d3):DQ)/\MS rk a b o3 n3 m3/\n3+m3<=n+m - 1/\dY κ st st3)
     (Q:=λc st3=>dY κ st st3/\((∃r x,c=(some r,x)/\eV rk a b r)\/∃n3 m3 o3 x,c=((none,n3,m3,o3,x):DQ)/\MS rk a b o3 n3 m3/\n3+m3<=n+m - 1)) ?step3 ?fin3 ⟨n',m',out',_,_,_,rfl,M',by lia,sg'⟩) ?post3)
    case fin3=>
     rintro c st3 ⟨n3,m3,o3,g3,c3,d3,rfl,M3,hp3,sg3⟩;exact⟨sg3,.inr ⟨n3,m3,o3,_,rfl,M3,hp3⟩⟩
    case step3=>
     rintro y c st3 _ hy ⟨n3,m3,o3,g3,c3,d3,rfl,M3,hp3,sg3⟩;dsimp only;by_cases z:g3 > 1
     ·rw[LM z];exact LG (LK (DH T H M3 hp3 (sg3.gal _) ⟨λr x st' gd sg=>⟨sg,.inl ⟨r,x,rfl,gd⟩⟩,λn m o x st' M h sg=>⟨⟨sg,.inr ⟨n,m,o,x,rfl,M,h⟩⟩,n,m,o,x.1,x.2.1,x.2.2,rfl,M,h,sg⟩⟩))
     ·rw[LL z];exact LG (LK (DH T H M3 hp3 (sg3.gal _) ⟨λr x st' gd sg=>⟨sg,.inl ⟨r,x,rfl,gd⟩⟩,λn m o x st' M h sg=>⟨⟨sg,.inr ⟨n,m,o,x,rfl,M,h⟩⟩,n,m,o,x.1,x.2.1,x.2.2,rfl,M,h,sg⟩⟩))
    case post3=>
     rintro c st3 ⟨sg3,⟨r,x',rfl,gd⟩ | ⟨n3,m3,o3,⟨g3,c3,d3⟩,rfl,M3,hp3⟩⟩
     ·exact LJ ⟨r,_,rfl,gd,sg3⟩
     ·exact LG (LK (LJ ⟨n3,m3,o3,_,rfl,M3,by lia,sg3.gal _⟩))
end
def n8(a:Array Keyed)(o:Nat)(l:List Keyed)(n:Nat):Array Keyed:=(l.zipIdx n).foldl (λa p=>a.setIfInBounds (o+p.2) p.1) a
theorem so(o:Nat):∀(l:List Keyed) (n:Nat) (a:Array Keyed),o+n+l.length<=a.size->(n8 a o l n).toList=a.toList.take (o+n)++l++a.toList.drop (o+n+l.length)
 | [],n,a,h=>by simp[n8]
 | p::l,n,a,h=>by
  have h2:o+n<a.size:=by simp at h;lia
  show (n8 (a.setIfInBounds (o+n) p) o l (n+1)).toList=_;rw[so o l (n+1) _ (by simp at h ⊢;lia),Array.toList_setIfInBounds,show o+(n+1)=o+n+1 by lia,bD,List.take_set_of_le (by lia),gK (by simpa using h2),List.drop_set_of_lt (by lia)];simp only[Option.toList_some,bb,aK,fI,eO,ay];rw[show o+n+1+l.length=o+n+(l.length+1) by lia]
theorem AN(i:Nat):mergeAt' i=(do
 let z <-get
 let (some (sa,na,pw),some (sb,nb,_)):=((pendingOf z)[i]?,(pendingOf z)[i+1]?) | unsupported "internal:list.sort.pending"
 set (setPending z (((pendingOf z).setIfInBounds i (sa,na+nb,pw)).eraseIdxIfInBounds (i+1)))
 let some k <-nj false (<-elem' (arrOf z) sb) (arrOf z) sa na 0 | return false
 if na-k==0 then return true
 let some m <-nj true (<-elem' (arrOf z) (sa+k+(na-k) - 1)) (arrOf z) sb nb (nb - 1) | return false
 if m==0 then return true
 let r <-if na-k<=m then EQ ((arrOf z).extract (sa+k) sb) ((arrOf z).extract sb (sb+m)) else ES ((arrOf z).extract (sa+k) sb) ((arrOf z).extract sb (sb+m))
 modify λy=>setArr y (n8 (arrOf y) (sa+k) r.toList 0)
 return (failedOf (<-get)).isNone):=rfl
section
variable {rk:Keyed->Int} {a:Array Keyed}
theorem AU(h:a.toList.Pairwise λx y=>rk x<=rk y):dS rk a 0 a.size:=λi j _ hij hj=>by
 by_cases e:i=j
 ·rw[e];exact cA _
 ·have:=dq.mp h i j (by rw[bQ];lia) (by rw[bQ];lia) (by lia);unfold Kr;have e1:a.getD i jC=a[i]:=by simp[Array.getD,show i<a.size by lia]
  have e2:a.getD j jC=a[j]:=by simp[Array.getD,hj]
  rw[e1,e2];simpa using this
theorem o7{x:Keyed}{i n:Nat}(h:x∈(a.toList.drop i).take n):∃k,i<=k/\k<i+n/\k<a.size/\rk x=Kr rk a k:=by
 obtain⟨m,hm,e⟩:=eF h;rw[List.getElem_take,List.getElem_drop] at e;have hm2:m<n/\i+m<a.size:=by rw[bS,cU,bQ] at hm;lia
 refine⟨i+m,by lia,by lia,hm2.2,?_⟩;unfold Kr;have:a.getD (i+m) jC=a[i+m]:=by simp[Array.getD,hm2.2]
 rw[this,<-e,iG]
theorem mf{i j:Nat}:(a.extract i j).toList=(a.toList.drop i).take (j-i):=by simp only[Array.toList_extract,List.extract_eq_drop_take]
theorem jS{i j k:Nat}(h:i+k<j)(hj:j<=a.size):Kr rk (a.extract i j) k=Kr rk a (i+k):=by
 refine iE ?_;rw[gR,LM (by lia)]
theorem uD{lo hi i n:Nat}(h:dS rk a lo hi)(h1:lo<=i)(h2:i+n<=hi)(h3:hi<=a.size):((a.toList.drop i).take n).Pairwise λx y=>rk x<=rk y:=by
 have e:(a.extract i (i+n)).toList=(a.toList.drop i).take n:=by rw[mf,show i+n-i=n by lia]
 rw[<-e];have hs:(a.extract i (i+n)).size=n:=by rw[dN];lia
 refine lI λp q _ hpq hq=>?_;rw[hs] at hq;rw[jS (by lia) (by lia),jS (by lia) (by lia)];exact h _ _ (by lia) (by lia) (by lia)
end
theorem wC{a:Array Keyed}{i j:Nat}{x:Keyed}(h:x∈a.extract i j):x∈a:=by
 have:=iF.mpr h;rw[mf] at this;exact iF.mp (List.mem_of_mem_drop (iC this))
theorem BS{l:List Keyed}{k n m:Nat}(h1:k<=n):l=l.take k++((l.drop k).take (n-k)++((l.drop n).take m++l.drop (n+m))):=by
 have e1:l.drop k=(l.drop k).take (n-k)++l.drop n:=by
  conv=>lhs;rw[<-bi (n-k) (l.drop k)]
  rw[List.drop_drop,show k+(n-k)=n by lia]
 have e2:l.drop n=(l.drop n).take m++l.drop (n+m):=by
  conv=>lhs;rw[<-bi m (l.drop n)]
  rw[List.drop_drop]
 rw[<-e2,<-e1,bi]
section
variable {prog:Program} {w:World} {A:Around} {E:Value->Shared->Prop} {s:Shared} {κ:SortKind} {D:Keyed->Prop} {rk:Keyed->Int} {a₀:Array Keyed}
theorem ET(T:iq prog w A s κ D rk)(hD:∀x∈a₀,D x){st:SortSt}{n1 n2 pw q0:Nat}{Q:Bool->SortSt->Prop}(g:Gd κ D a₀ st)(hp:pendingOf st=#[(0,n1,pw),(n1,n2,q0)])(h1:1<=n1)(h2:1<=n2)(hs:n1+n2=a₀.size)(s1:dS rk (arrOf st) 0 n1)(s2:dS rk (arrOf st) n1 (n1+n2))
  (h:∀st',Gd κ D a₀ st'->(pendingOf st').size=1->dS rk (arrOf st') 0 a₀.size->Q true st'):wpS (model prog w) A E s (mergeAt' 0) Q st:=by
 rw[AN];refine LG (LH ?_);rw[hp];have hsz:(arrOf st).size=n1+n2:=by rw[g.perm.size_eq,hs]
 have dA:∀x∈arrOf st,D x:=λx hx=>hD x (g.perm.mem_iff.mp hx);generalize ea:arrOf st=a at *;rw[show (#[(0,n1,pw),(n1,n2,q0)]:Array (Nat×Nat×Nat))[0]? = some (0,n1,pw) by simp,show (#[(0,n1,pw),(n1,n2,q0)]:Array (Nat×Nat×Nat))[0+1]? = some (n1,n2,q0) by simp];dsimp only;rw[show ((#[(0,n1,pw),(n1,n2,q0)]:Array (Nat×Nat×Nat)).setIfInBounds 0 (0,n1+n2,pw)).eraseIdxIfInBounds (0+1)=#[(0,n1+n2,pw)] by simp[Array.eraseIdxIfInBounds]];have wset:∀(st2:SortSt) {R:PUnit->SortSt->Prop},R ⟨⟩ st2->wpS (model prog w) A E s (set st2:StateT SortSt Sem PUnit) R st:=λst2 R hR=>by
  unfold wpS;rw[StateT.run_set];exact Kd ⟨rfl,hR⟩
 refine LG (wset _ ?_);have g2:Gd κ D a₀ (setPending st #[(0,n1+n2,pw)]):=⟨g.kind,g.fail,g.perm⟩
 have ea2:arrOf (setPending st #[(0,n1+n2,pw)])=a:=ea;have pe:(pendingOf (setPending st #[(0,n1+n2,pw)])).size=1:=rfl;generalize setPending st #[(0,n1+n2,pw)]=st2 at g2 ea2 pe ⊢;have hy:D (a.getD n1 jC):=ga dA (bn _) (by lia);refine LG (dE (by lia) (LG (nJ T g2.kind hy dA (by lia) (by lia) (lZ (by rw[cJ];exact s1)) λk k1 k2 k3=>?_)));have lo:∀i,i<k->Kr rk a i<=Kr rk a n1:=λi hi=>by have h1:Kr rk a (0+i)<=Kr rk a n1:=kI (k2 i hi);rw[cJ] at h1;exact h1
 have up:∀i,k<=i->i<n1->Kr rk a n1<Kr rk a i:=λi i1 i2=>by have h1:Kr rk a n1<Kr rk a (0+i):=jc (k3 i i1 i2);rw[cJ] at h1;exact h1
 dsimp only;by_cases e:n1-k=0
 ·rw[LM (by simpa using e)];refine LJ (h _ g2 pe ?_);rw[ea2,<-hs];intro i j hi hij hj;by_cases z:j<n1
  ·exact s1 i j hi hij z
  ·by_cases z2:i<n1
   ·exact et (lo i (by lia)) (s2 n1 j (aB _) (by lia) hj)
   ·exact s2 i j (by lia) hij hj
 rw[LL (by simpa using e)];rw[cJ,show k+(n1-k) - 1=n1 - 1 by lia];have hx:D (a.getD (n1 - 1) jC):=ga dA (bn _) (by lia);refine LG (dE (by lia) (LG (nJ T g2.kind hx dA (by lia) (by lia) (lZ s2) λm m1 m2 m3=>?_)));have lo2:∀t,t<m->Kr rk a (n1+t)<Kr rk a (n1 - 1):=λt ht=>kI (m2 t ht);have up2:∀t,m<=t->t<n2->Kr rk a (n1 - 1)<=Kr rk a (n1+t):=λt t1 t2=>jc (m3 t t1 t2);dsimp only;by_cases e2:m=0
 ·exfalso;have a1:=up2 0 (by lia) (by lia);have a2:=up (n1 - 1) (by lia) (by lia);rw[gH] at a1;lia
 rw[LL (by simpa using e2)];have zx:(a.extract k n1).size=n1-k:=by rw[dN];lia
 have zy:(a.extract n1 (n1+m)).size=m:=by rw[dN];lia
 have H:MH rk D (a.extract k n1) (a.extract n1 (n1+m)):=by
  refine⟨λx hx=>dA x (wC hx),λx hx=>dA x (wC hx),λi j _ hij hj=>?_,λi j _ hij hj=>?_,by lia,by lia,λj hj=>?_,λi hi=>?_⟩
  ·rw[zx] at hj;rw[jS (by lia) (by lia),jS (by lia) (by lia)];exact s1 _ _ (a6 _) (by lia) (by lia)
  ·rw[zy] at hj;rw[jS (by lia) (by lia),jS (by lia) (by lia)];exact s2 _ _ (by lia) (by lia) (by lia)
  ·rw[zy] at hj;rw[zx,jS (by lia) (by lia),jS (by lia) (by lia),show k+(n1-k - 1)=n1 - 1 by lia];exact lo2 j hj
  ·rw[zx] at hi;rw[jS (by lia) (by lia),jS (by lia) (by lia),gH];exact up (k+i) (by lia) (by lia)
 have fin:∀r st',eV rk (a.extract k n1) (a.extract n1 (n1+m)) r->dY κ st2 st'->wpS (model prog w) A E s (modify (λy=>setArr y (n8 (arrOf y) k r.toList 0))>>=λ_=>(do return (failedOf (<-get)).isNone)) Q st':=λr st' gd sg=>by
  refine LG (LK (LG (LH (LJ ?_))));have ef:failedOf (setArr st' (n8 (arrOf st') k r.toList 0))=none:=sg.fail.trans g2.fail;rw[ef];have ar:arrOf st'=a:=sg.arr.trans ea2;have lr:r.toList.length=n1-k+m:=by
   rw[gd.1.length_eq,aR,bQ,bQ,zx,zy]
  have pl:(n8 a k r.toList 0).toList=a.toList.take k++(r.toList++a.toList.drop (n1+m)):=by
   rw[so k _ 0 a (by rw[lr];lia),lr,gH,show k+(n1-k+m)=n1+m by lia,aK]
  have px:(a.extract k n1).toList=(a.toList.drop k).take (n1-k):=mf;have py:(a.extract n1 (n1+m)).toList=(a.toList.drop n1).take m:=by rw[mf,show n1+m-n1=m by lia]
  have pm:(n8 a k r.toList 0).toList.Perm a.toList:=by
   rw[pl]
   conv=>rhs;rw[BS (l:=a.toList) (k:=k) (n:=n1) (m:=m) (by lia)]
   refine dJ _ ?_;rw[<-aK];refine gN _ ?_;rw[<-px,<-py];exact gd.1
  refine h _ ⟨sg.kind,ef,?_⟩ (by rw[show pendingOf (setArr st' (n8 (arrOf st') k r.toList 0))=pendingOf st' from rfl,sg.pend];exact pe) ?_
  ·show (n8 (arrOf st') k r.toList 0).Perm a₀;rw[ar];exact(cQ.mpr pm).trans (by rw[<-ea];exact g.perm)
  ·show dS rk (n8 (arrOf st') k r.toList 0) 0 a₀.size;rw[ar,<-hs,<-hsz];have es:(n8 a k r.toList 0).size=a.size:=by have:=pm.length_eq;simpa using this
   rw[<-es];refine AU ?_;rw[pl];have mr:∀x∈r.toList,∃t,rk x=Kr rk a t/\((k<=t/\t<n1)\/(n1<=t/\t<n1+m)):=λx hx=>by
    rcases aE.mp (gd.1.mem_iff.mp hx) with z | z
    ·rw[px] at z;obtain⟨t,t1,t2,_,e⟩:=o7 (rk:=rk) z;exact⟨t,e,.inl ⟨t1,by lia⟩⟩
    ·rw[py] at z;obtain⟨t,t1,t2,_,e⟩:=o7 (rk:=rk) z;exact⟨t,e,.inr ⟨t1,t2⟩⟩
   have mt:∀x∈a.toList.take k,∃t,rk x=Kr rk a t/\t<k:=λx hx=>by
    have hx:x∈(a.toList.drop 0).take k:=by simpa using hx
    obtain⟨t,_,t2,_,e⟩:=o7 (rk:=rk) hx;exact⟨t,e,by lia⟩
   have p1:(a.toList.take k).Pairwise λx y=>rk x<=rk y:=by
    have:=uD (i:=0) (n:=k) s1 (aB _) (by lia) (by lia);simpa using this
   have p3:(a.toList.drop (n1+m)).Pairwise λx y=>rk x<=rk y:=by
    have:=uD (i:=n1+m) (n:=n2-m) s2 (by lia) (by lia) (by lia)
    rwa [bZ (by rw[cU,bQ];lia)] at this
   refine bH.mpr ⟨p1,bH.mpr ⟨gd.2,p3,λx hx y hy=>?_⟩,λx hx y hy=>?_⟩
   ·obtain⟨t,e1,ht⟩:=mr x hx;obtain⟨u,u1,u2,e2⟩:=gx (rk:=rk) hy;rw[e1,e2];rcases ht with ht | ht
    ·have b1:=s1 t (n1 - 1) (a6 _) (by lia) (by lia);have b2:=up2 (u-n1) (by lia) (by lia);rw[show n1+(u-n1)=u by lia] at b2;lia
    ·exact s2 t u (by lia) (by lia) (by lia)
   ·obtain⟨t,e1,ht⟩:=mt x hx;have low:∀v,(k<=v/\v<n1)\/(n1<=v/\v<n1+n2)->Kr rk a t<=Kr rk a v:=λv hv=>by
     rcases hv with hv | hv
     ·exact s1 t v (a6 _) (by lia) (by lia)
     ·exact et (lo t ht) (s2 n1 v (aB _) (by lia) (by lia))
    rcases aE.mp hy with z | z
    ·obtain⟨v,e2,hv⟩:=mr y z;rw[e1,e2];exact low v (by lia)
    ·obtain⟨v,v1,v2,e2⟩:=gx (rk:=rk) z;rw[e1,e2];exact low v (by lia)
 by_cases z:n1-k<=m
 ·rw[LM z];exact LG (EO T H g2.kind fin)
 ·rw[LL z];exact LG (ER T H g2.kind fin)
theorem Gd.pend{st:SortSt}(g:Gd κ D a₀ st)(p:Array (Nat×Nat×Nat)):Gd κ D a₀ (setPending st p):=⟨g.kind,g.fail,g.perm⟩
theorem uq{n:Nat}(h1:64<=n)(h2:n<128):minRun' n n 0=n / 2+n % 2:=by
 obtain⟨f,rfl⟩:∃f,n=f+1+1:=⟨n - 2,by lia⟩
 rw[minRun'_succ,LL (by lia),minRun'_succ,LM (by lia)];lia
inductive CP (rk:Keyed->Int) (N:Nat) (st:SortSt):Prop
 | one (h:pendingOf st=#[(0,N,0)]) (s:dS rk (arrOf st) 0 N)
 | two (n1 n2 pw:Nat) (h:pendingOf st=#[(0,n1,pw),(n1,n2,0)]) (h1:1<=n1) (h2:1<=n2) (e:n1+n2=N) (s1:dS rk (arrOf st) 0 n1) (s2:dS rk (arrOf st) n1 (n1+n2))
theorem BY(T:iq prog w A s κ D rk)(hD:∀x∈a₀,D x){st:SortSt}{Q:Unit->SortSt->Prop}(g:Gd κ D a₀ st)(hp:pendingOf st=#[])(h64:64<=a₀.size)(h128:a₀.size<128)
  (h:∀st',Gd κ D a₀ st'->dS rk (arrOf st') 0 a₀.size->Q () st'):wpS (model prog w) A E s sortRuns' Q st:=by
 rw[sortRuns'_eq];refine LG (LH ?_);have hsz:(arrOf st).size=a₀.size:=g.perm.size_eq;dsimp only;simp only[hsz,uq h64 h128];refine LG (wpS_mono (wpS_forRange
  (I:=λx c st'=>Gd κ D a₀ st'/\((x=0/\c=(none,0)/\pendingOf st'=#[])\/(x=1/\∃n1,c=(none,n1)/\a₀.size / 2+a₀.size % 2<=n1/\n1<=a₀.size/\pendingOf st'=#[(0,n1,0)]/\dS rk (arrOf st') 0 n1)\/(2<=x/\c=(none,a₀.size)/\CP rk a₀.size st')))
  (Q:=λc st'=>c=(none,a₀.size)/\Gd κ D a₀ st'/\CP rk a₀.size st') ?step ?fin ⟨g,.inl ⟨rfl,rfl,hp⟩⟩) ?post)
 case fin=>
  rintro c st' ⟨g',⟨hx,_⟩ | ⟨hx,_⟩ | ⟨_,hc,t⟩⟩
  ·lia
  ·lia
  ·exact⟨hc,g',t⟩
 case post=>
  rintro c st' ⟨rfl,g',t⟩;dsimp only;refine LG (wpS_mono (wpS_forRange (I:=λx c st''=>c=(none,())/\Gd κ D a₀ st''/\((x=0/\CP rk a₀.size st'')\/(1<=x/\(pendingOf st'').size=1/\dS rk (arrOf st'') 0 a₀.size))) (Q:=λc st''=>c=(none,())/\Gd κ D a₀ st''/\dS rk (arrOf st'') 0 a₀.size) ?step2 ?fin2 ⟨rfl,g',.inl ⟨rfl,t⟩⟩) ?post2)
  case fin2=>
   rintro c st'' ⟨rfl,g2,⟨hx,_⟩ | ⟨_,_,ha⟩⟩
   ·lia
   ·exact⟨rfl,g2,ha⟩
  case post2=>
   rintro c st'' ⟨rfl,g2,ha⟩;exact LJ (h _ g2 ha)
  case step2=>
   rintro x c st'' _ hx ⟨rfl,g2,hh⟩;refine LG (LH ?_);rcases hh with ⟨rfl,⟨hp1,sa⟩ | ⟨n1,n2,pw,hp2,h1,h2,e,s1,s2⟩⟩ | ⟨hx1,hp1,sa⟩
   ·rw[hp1,LM (by simp)];exact LJ ⟨rfl,g2,sa⟩
   ·rw[hp2,LL (by simp)];refine LG (ET T hD g2 hp2 h1 h2 e s1 s2 λst3 g3 p3 a3=>?_);exact LJ ⟨rfl,g3,.inr ⟨by lia,p3,a3⟩⟩
   ·rw[LM (kM hp1)];exact LJ ⟨rfl,g2,sa⟩
 case step=>
  rintro x c st' _ hx ⟨g',⟨rfl,rfl,hp0⟩ | ⟨rfl,n1,rfl,l1,l2,hp1,sa⟩ | ⟨x2,rfl,t⟩⟩
  ·dsimp only;rw[LL (by lia)];refine LG (t7 T hD (by lia) (by lia) g' λm st2 g2 sb _ m1 m2 ha=>?_);dsimp only;rw[cJ] at ha;have pb:pendingOf st2=#[]:=sb.1.trans hp0;by_cases z:m<a₀.size / 2+a₀.size % 2
   ·rw[LM z];refine LG (LI (LB ⟨rfl,?_⟩));rw[show min (a₀.size - 0) (a₀.size / 2+a₀.size % 2)=a₀.size / 2+a₀.size % 2 by lia];refine LG (Ao T hD (by lia) m1 (by lia) g2 (by rw[cJ];exact ha) λst3 g3 sb3 _ ha3=>?_);simp only[jU,aY,LS];have pb3:pendingOf st3=#[]:=sb3.1.trans pb;refine LG (LH ?_);rw[pb3,show (#[]:Array (Nat×Nat×Nat)).back? = none from rfl];dsimp only;refine LG (LK (LJ ⟨g3.pend _,.inr (.inl ⟨by first | rfl | trivial,_,rfl,by lia,by lia,?_,?_⟩)⟩))
    ·show (pendingOf st3).push _=_;rw[pb3];rw[cJ];rfl
    ·rw[cJ] at ha3 ⊢;exact ha3
   ·rw[LL z];refine LG (LH ?_);rw[pb,show (#[]:Array (Nat×Nat×Nat)).back? = none from rfl];dsimp only;refine LG (LK (LJ ⟨g2.pend _,.inr (.inl ⟨by first | rfl | trivial,_,rfl,by lia,by lia,?_,?_⟩)⟩))
    ·show (pendingOf st2).push _=_;rw[pb];rw[cJ];rfl
    ·rw[cJ];exact ha
  ·dsimp only;by_cases e:n1>=a₀.size
   ·rw[LM e];have e:n1=a₀.size:=by lia
    subst e;exact LJ ⟨rfl,g',.one hp1 sa⟩
   rw[LL e];have keep:∀st2,Pre n1 (arrOf st') (arrOf st2)->dS rk (arrOf st2) 0 n1:=λst2 p i j hi hij hj=>by
    rw[iE (p i (by lia)),iE (p j hj)];exact sa i j hi hij hj
   have tail:∀st3,Gd κ D a₀ st3->pendingOf st3=#[(0,n1,0)]->dS rk (arrOf st3) 0 n1->dS rk (arrOf st3) n1 (n1+(a₀.size-n1))->∀pw,Gd κ D a₀ (setPending (setPending st3 #[(0,n1,pw)]) (#[(0,n1,pw)].push (n1,a₀.size-n1,0)))/\CP rk a₀.size (setPending (setPending st3 #[(0,n1,pw)]) (#[(0,n1,pw)].push (n1,a₀.size-n1,0))):=λst3 g3 p3 s1 s2 pw=>⟨(g3.pend _).pend _,.two n1 (a₀.size-n1) pw rfl (by lia) (by lia) (by lia) s1 s2⟩
   refine LG (t7 T hD (by lia) (by lia) g' λm st2 g2 sb p2 m1 m2 ha=>?_);dsimp only;have mx:min (a₀.size-n1) (a₀.size / 2+a₀.size % 2)=a₀.size-n1:=by lia
   by_cases z:m<a₀.size / 2+a₀.size % 2
   ·rw[LM z];refine LG (LI (LB ⟨rfl,?_⟩));rw[mx];refine LG (Ao T hD (by lia) m1 m2 g2 ha λst3 g3 sb3 p3' s2=>?_);simp only[jU,aY,LS];have p3:pendingOf st3=#[(0,n1,0)]:=sb3.1.trans (sb.1.trans hp1);have s1:=keep st3 (p2.trans p3');refine LG (LH ?_);rw[p3,show (#[(0,n1,0)]:Array (Nat×Nat×Nat)).back? = some (0,n1,0) from rfl];dsimp only;refine LG (wpS_mono (wpS_forRange (I:=λ_ c st''=>st''=st3/\c=(none,())) (Q:=λc st''=>st''=st3/\c=(none,())) (λx c st'' _ _ hh=>?_) (λ_ _ hh=>hh) ⟨rfl,rfl⟩) λc st'' hh=>?_)
    ·obtain⟨rfl,rfl⟩:=hh;refine LG (LH ?_);rw[p3,LL (by simp)];exact LJ ⟨rfl,rfl⟩
    obtain⟨rfl,rfl⟩:=hh;dsimp only;have e9:∀pw:Nat,(pendingOf st'').modify ((pendingOf st'').size - 1) (λx=>(x.1,x.2.1,pw))=#[(0,n1,pw)]:=λpw=>by rw[p3];simp[Array.modify,Array.modifyM,Id.run];rfl
    refine LG (LK (LG (LK (LJ ?_))));rw[e9];exact⟨(tail st'' g3 p3 s1 s2 _).1,.inr (.inr ⟨by lia,by rw[show n1+(a₀.size-n1)=a₀.size by lia],(tail st'' g3 p3 s1 s2 _).2⟩)⟩
   ·rw[LL z];have em:m=a₀.size-n1:=by lia
    subst em;have p3:pendingOf st2=#[(0,n1,0)]:=sb.1.trans hp1;have s1:=keep st2 p2;have g3:=g2;have s2:=ha;refine LG (LH ?_);rw[p3,show (#[(0,n1,0)]:Array (Nat×Nat×Nat)).back? = some (0,n1,0) from rfl];dsimp only;refine LG (wpS_mono (wpS_forRange (I:=λ_ c st''=>st''=st2/\c=(none,())) (Q:=λc st''=>st''=st2/\c=(none,())) (λx c st'' _ _ hh=>?_) (λ_ _ hh=>hh) ⟨rfl,rfl⟩) λc st'' hh=>?_)
    ·obtain⟨rfl,rfl⟩:=hh;refine LG (LH ?_);rw[p3,LL (by simp)];exact LJ ⟨rfl,rfl⟩
    obtain⟨rfl,rfl⟩:=hh;dsimp only;have e9:∀pw:Nat,(pendingOf st'').modify ((pendingOf st'').size - 1) (λx=>(x.1,x.2.1,pw))=#[(0,n1,pw)]:=λpw=>by rw[p3];simp[Array.modify,Array.modifyM,Id.run];rfl
    refine LG (LK (LG (LK (LJ ?_))));rw[e9];exact⟨(tail st'' g3 p3 s1 s2 _).1,.inr (.inr ⟨by lia,by rw[show n1+(a₀.size-n1)=a₀.size by lia],(tail st'' g3 p3 s1 s2 _).2⟩)⟩
  ·dsimp only;rw[LM (aB _)];exact LJ ⟨rfl,g',t⟩
end
section
variable {prog:Program} {w:World} {A:Around} {E:Value->Shared->Prop} {s:Shared}
open Classical in
noncomputable def rkO (it:Array Keyed) (N:Nat) (r:Nat->Int) (x:Keyed):Int:=if h:∃i,i<N/\kas_item it i=x then r h.choose else 0
theorem uX{it:Array Keyed}{N:Nat}{r:Nat->Int}(hr:∀i j,i<N->j<N->kas_item it i=kas_item it j->r i=r j){i:Nat}(hi:i<N):rkO it N r (kas_item it i)=r i:=by
 unfold rkO;have hx:∃j,j<N/\kas_item it j=kas_item it i:=⟨i,hi,rfl⟩
 rw[dif_pos hx];exact hr _ _ hx.choose_spec.1 hi hx.choose_spec.2
theorem wK{it:Array Keyed}{x:Keyed}(h:x∈it):∃i,i<it.size/\kas_item it i=x:=by
 obtain⟨i,hi,e⟩:=ke.mp h;refine⟨i,hi,?_⟩;unfold kas_item;rw[<-e];simp[Array.getD,hi]
theorem CK{vs:List Value}{κ:SortKind}{r:Nat->Int}(T:Told r vs.length (kas_ask prog w A κ vs) s)(hr:∀i j,i<vs.length->j<vs.length->vs.getD i Value.none=vs.getD j Value.none->r i=r j)(h64:64<=vs.length)(h128:vs.length<128):
  wpAny (model prog w) A ((sortRuns').run (SortSt.mk' κ (vs.toArray.zip vs.toArray) #[] 7 none)) (λq s'=>s'=s/\∃p:Array Nat,p.size=vs.length/\arrOf q.2=p.map (kas_item (vs.toArray.zip vs.toArray))/\failedOf q.2=none/\p.Perm (List.toArray (List.range vs.length))/\pO r p vs.length) E s:=by
 have zs:(vs.toArray.zip vs.toArray).size=vs.length:=by simp
 have itm:∀i,kas_item (vs.toArray.zip vs.toArray) i=(vs.getD i Value.none,vs.getD i Value.none):=λi=>kat_item rfl i;have ra:=kas_range (vs.toArray.zip vs.toArray);rw[zs] at ra;generalize hit:vs.toArray.zip vs.toArray=it at *;have hr':∀i j,i<vs.length->j<vs.length->kas_item it i=kas_item it j->r i=r j:=λi j hi hj e=>hr i j hi hj (by rw[itm,itm] at e;exact congrArg Prod.fst e);have L:iq prog w A s κ (·∈it) (rkO it vs.length r):=λx y hx hy C hC=>by
  obtain⟨i,hi,rfl⟩:=wK hx;obtain⟨j,hj,rfl⟩:=wK hy;rw[zs] at hi hj;rw[uX hr' hi,uX hr' hj] at hC;have:=T i j hi hj C hC;rw[itm,itm];exact this
 have run:=BY (E:=E) (a₀:=it) L (λx hx=>hx) (st:=SortSt.mk' κ it #[] 7 none) (Q:=λ_ st'=>∃p:Array Nat,p.size=vs.length/\arrOf st'=p.map (kas_item it)/\failedOf st'=none/\p.Perm (List.toArray (List.range vs.length))/\pO r p vs.length) ⟨rfl,rfl,bn _⟩ rfl (by lia) (by lia) λst' g ha=>by
  have pl:=cQ.mp g.perm;have e:it.toList=(List.range vs.length).map (kas_item it):=by have:=congrArg Array.toList ra;rw[Array.toList_map] at this;exact this.symm
  obtain⟨xs,h1,h2⟩:=su pl e;have sz:xs.toArray.size=vs.length:=by have:=h1.length_eq;simpa using this
  have ar:arrOf st'=xs.toArray.map (kas_item it):=by
   apply Array.toList_inj.mp;rw[h2];simp
  refine⟨xs.toArray,sz,ar,g.fail,cQ.mpr (by simpa using h1),λi j hij hj=>?_⟩;have lt:∀k,k<vs.length->xs.toArray.getD k 0<vs.length:=λk hk=>by
   have hk2:k<xs.length:=by have:=h1.length_eq;simp at this;lia
   have:xs.toArray.getD k 0=xs[k]:=by simp[hk2]
   rw[this];exact cj.mp (h1.mem_iff.mp (gc hk2))
  have kr:∀k,k<vs.length->Kr (rkO it vs.length r) (arrOf st') k=Kk r xs.toArray k:=λk hk=>by
   unfold Kr Kk;rw[ar];have e:(xs.toArray.map (kas_item it)).getD k jC=kas_item it (xs.toArray.getD k 0):=by
    have hk2:k<xs.length:=by have:=h1.length_eq;simp at this;lia
    simp[Array.getD,hk2]
   rw[e,uX hr' (lt k hk)]
  rw[<-kr i (by lia),<-kr j hj];exact ha i j (a6 _) hij (by lia)
 exact run
theorem CN{vs:List Value}{κ:SortKind}{r:Nat->Int}(T:Told r vs.length (kas_ask prog w A κ vs) s)(hr:∀i j,i<vs.length->j<vs.length->vs.getD i Value.none=vs.getD j Value.none->r i=r j)(h2:2<=vs.length)(h128:vs.length<128):
  wpAny (model prog w) A ((sortRuns').run (SortSt.mk' κ (vs.toArray.zip vs.toArray) #[] 7 none)) (λq s'=>s'=s/\∃p:Array Nat,p.size=vs.length/\arrOf q.2=p.map (kas_item (vs.toArray.zip vs.toArray))/\failedOf q.2=none/\p.Perm (List.toArray (List.range vs.length))/\pO r p vs.length) E s:=by
 by_cases h:vs.length<64
 ·exact kat_run (ks:=vs) (vs:=vs) (Q:=λst' s'=>s'=s/\∃p:Array Nat,p.size=vs.length/\arrOf st'=p.map (kas_item (vs.toArray.zip vs.toArray))/\failedOf st'=none/\p.Perm (List.toArray (List.range vs.length))/\pO r p vs.length)
   (G:=λp s'=>s'=s/\p.Perm (List.toArray (List.range vs.length))/\pO r p vs.length) rfl h2 h (λp' st' s' a1 a2 a3 a4=>⟨a4.1,p',a1,a2,a3,a4.2⟩) (qC T (by lia) λp hp ha=>⟨rfl,hp,ha⟩)
 ·exact CK T hr (by lia) h128
theorem uu {a:Addr} {vs:List Value} {n:Nat} {P:PySem.Fin->Shared->Prop} {r:Nat->Int} (κ:SortKind) (ho:s.heap.get? a=some (seqObj "list" vs.toArray n)) (h64:vs.length<128)
  (hk:2<=vs.length->∀(h':Heap) (Q:SortKind->Shared->Prop),Kp a s.heap h'->Q κ { s with heap:=h' }->wpAny (model prog w) A (keyKind' vs.toArray) Q E { s with heap:=h' })
  (hc:∀i j,i<vs.length->j<vs.length->∀(h':Heap) (C:Bool->Shared->Prop),Kp a s.heap h'->C (decide (r i<r j)) { s with heap:=h' }->wpAny (model prog w) A (keyLt' κ (vs.getD i Value.none) (vs.getD j Value.none)) C (λ_ _=>False) { s with heap:=h' }) (hr:∀i j,i<vs.length->j<vs.length->vs.getD i Value.none=vs.getD j Value.none->r i=r j)
  (h:∀p:Array Nat,p.Perm (List.toArray (List.range vs.length))->pO r p vs.length->P (.done (.ret .none)) { s with heap:=sortedHeap s.heap a vs (gw vs p) }) :
  wpAny (model prog w) A (Builtin.«list.sort» ⟨[.ref a],[]⟩) P E s:=by
 rw[list_sort_plain];have ha:a<s.heap.objs.size:=aN ho;refine wpAny_bind (listItems_at ho rfl ?_);refine wpAny_bind (Kv ho rfl ?_);obtain⟨e1,ho1⟩:∃e1,(s.heap.update a (Obj.mapSeq λ_=>#[])).get? a=some (seqObj "list" #[] e1):=⟨_,get?_update_seq ho (λ_=>#[])⟩
 refine wpAny_bind (Kw ho1 rfl ?_);refine wpAny_bind (wpAny_newTuple ?_);refine wpAny_bind (Kx ?_);refine Kl ?_;have ho6:(((s.heap.update a (Obj.mapSeq λ_=>#[])).push (seqObj "tuple" vs.toArray 0)).push (seqObj "list" #[] 0)).get? a=some (seqObj "list" #[] e1):=by
  rw[dG _ _ _ (by rw[size_push',eP];exact a9 (dF ha)),dG _ _ _ (by rw[eP];exact a9 ha)];exact ho1
 have kp6:Kp a s.heap (((s.heap.update a (Obj.mapSeq λ_=>#[])).push (seqObj "tuple" vs.toArray 0)).push (seqObj "list" #[] 0)):=λb o hb e=>
  aA _ (aA _ (by rw[fZ _ _ _ _ hb];exact e))
 show wpAny (model prog w) A _ P E { s with heap:=((s.heap.update a (Obj.mapSeq λ_=>#[])).push (seqObj "tuple" vs.toArray 0)).push (seqObj "list" #[] 0) };dsimp only;have hsz:vs.toArray.size=vs.length:=by simp
 by_cases h2:vs.toArray.size<2
 ·rw[LM h2,LM h2];refine wpAny_bind (Kd ?_);rw[StateT.run_pure];refine wpAny_bind (Kd ?_);dsimp only;refine wpAny_bind (Kw ho6 rfl ?_);refine wpAny_bind (Kv ho6 rfl ?_ (hsz2:=by rw[Array.size_map];show (pairsOf vs).size<=_;rw[pairsOf_size,Kh];lia));simp only[bne_self_eq_false,aY,LS];have e:(arrOf (SortSt.mk' general' (vs.toArray.zip vs.toArray) #[] 7 none)).map (·.2)=gw vs (List.toArray (List.range vs.length)):=by
   exact qD vs (by lia)
  rw[e];refine Kd (h (List.toArray (List.range vs.length)) (bn _) ?_);intro i j hij hj;have e9:i=j:=by lia
  rw[e9];exact cA _
 ·rw[LL h2,LL h2];refine wpAny_bind (hk (by lia) _ _ kp6 ?_);have T:Told r vs.length (kas_ask prog w A κ vs) { s with heap:=((s.heap.update a (Obj.mapSeq λ_=>#[])).push (seqObj "tuple" vs.toArray 0)).push (seqObj "list" #[] 0) }:=λi j hi hj C hC=>hc i j hi hj _ C kp6 hC;refine wpAny_bind (Kb (CN (E:=E) T hr (by lia) h64) ?_ λ_ _ e=>e);rintro⟨⟨⟩,st'⟩ s' ⟨rfl,p,hps,har,hf,hp,hs⟩;dsimp only;have hout:=kat_snds (ks:=vs) (vs:=vs) rfl har;rw[hout];refine wpAny_bind (Kw ho6 rfl ?_);refine wpAny_bind (Kv ho6 rfl ?_ (hsz2:=by rw[aH,aC,bQ,hps,Kh];lia));rw[hf];simp only[bne_self_eq_false,aY,LS];exact Kd (h p hp hs)
theorem uP {l:Addr} {vs:List Value} {Q:Value->Shared->Prop} {r:Nat->Int} (κ:SortKind) (hcol:∀(A:Around) (E:Value->Shared->Prop) (Q:List Value->Shared->Prop),Q vs { s with heap:=(s.heap.push (seqObj "list" #[] 0)).update s.heap.objs.size (Obj.mapSeq (·++vs.toArray)) }->wpAny (model prog w) A (collect (.ref l)) Q E s) (h64:vs.length<128)
  (hk:2<=vs.length->∀(h':Heap) (Q:SortKind->Shared->Prop),(∀b o,s.heap.get? b=some o->h'.get? b=some o)->Q κ { s with heap:=h' }->wpAny (model prog w) A.in1.in1 (keyKind' vs.toArray) Q (λ_ _=>False) { s with heap:=h' })
  (hc:∀i j,i<vs.length->j<vs.length->∀(h':Heap) (C:Bool->Shared->Prop),(∀b o,s.heap.get? b=some o->h'.get? b=some o)->C (decide (r i<r j)) { s with heap:=h' }->wpAny (model prog w) A.in1.in1 (keyLt' κ (vs.getD i Value.none) (vs.getD j Value.none)) C (λ_ _=>False) { s with heap:=h' }) (hr:∀i j,i<vs.length->j<vs.length->vs.getD i Value.none=vs.getD j Value.none->r i=r j)
  (h:∀p:Array Nat,p.Perm (List.toArray (List.range vs.length))->pO r p vs.length->Q (.ref (s.heap.objs.size+1)) { s with heap:=sortedAll s.heap vs (gw vs p) }) :
  wpAny (model prog w) A (call (.builtin "sorted") [.ref l]) Q E s:=by
 refine fX kind_sorted plain_sorted entry_sorted (args_sorted1 _) ?_;unfold Builtin.«sorted»;refine wpAny_bind (m:=checkCount "sorted" 1 1 _) (Kd ?_);refine wpAny_bind (hcol _ _ _ ?_);refine wpAny_bind (Kx ?_);have hsz:((s.heap.push (seqObj "list" #[] 0)).update s.heap.objs.size (Obj.mapSeq (·++vs.toArray))).objs.size=s.heap.objs.size+1:=by
  rw[eP,size_push']
 have hoL:(((s.heap.push (seqObj "list" #[] 0)).update s.heap.objs.size (Obj.mapSeq (·++vs.toArray))).push (seqObj "list" vs.toArray 0)).get? (s.heap.objs.size+1)=some (seqObj "list" vs.toArray 0):=by
  rw[<-hsz];exact aP _ rfl
 have keep:∀b o,s.heap.get? b=some o->(((s.heap.push (seqObj "list" #[] 0)).update s.heap.objs.size (Obj.mapSeq (·++vs.toArray))).push (seqObj "list" vs.toArray 0)).get? b=some o:=λb o q=>by
  have hlt:b<s.heap.objs.size:=aN q;rw[dG _ _ _ (by rw[hsz];exact a9 (dF hlt)),fZ _ _ _ _ (a9 hlt),dG _ _ _ (a9 hlt)];exact q
 have keep2:∀h',Kp (s.heap.objs.size+1) (((s.heap.push (seqObj "list" #[] 0)).update s.heap.objs.size (Obj.mapSeq (·++vs.toArray))).push (seqObj "list" vs.toArray 0)) h'->∀b o,s.heap.get? b=some o->h'.get? b=some o:=λh' k b o q=>
  k b o (a9 (dF (aN q))) (keep b o q)
 show wpAny _ _ _ _ _ { s with heap:=((s.heap.push (seqObj "list" #[] 0)).update s.heap.objs.size (Obj.mapSeq (·++vs.toArray))).push (seqObj "list" vs.toArray 0) };rw[hsz];refine wpAny_bind (Kl (Km slot_list_sort ⟨_,hoL,rfl⟩ entry_list_sort (uu (r:=r) κ hoL h64 (λh2 h' Q k q=>?_) (λi j hi hj h' C k q=>?_) hr λp hp ha=>⟨_,rfl,?_⟩) (args_list_sort _)))
 ·exact Kb (hk h2 h' Q (keep2 h' k) q) (λ_ _ z=>z) λ_ _ z=>z.elim
 ·exact hc i j hi hj h' C (keep2 h' k) q
 ·exact Kd ⟨_,rfl,h p hp ha⟩
theorem BU{l:Addr}{vs:List Value}{Q:Value->Shared->Prop}{r:Nat->Int}(κ:SortKind)(hl:s.heap.IsList l vs.toArray)(h64:vs.length<128)
  (hk:2<=vs.length->∀(h':Heap) (Q:SortKind->Shared->Prop),(∀b o,s.heap.get? b=some o->h'.get? b=some o)->Q κ { s with heap:=h' }->wpAny (model prog w) A.in1.in1 (keyKind' vs.toArray) Q (λ_ _=>False) { s with heap:=h' })
  (hc:∀i j,i<vs.length->j<vs.length->∀(h':Heap) (C:Bool->Shared->Prop),(∀b o,s.heap.get? b=some o->h'.get? b=some o)->C (decide (r i<r j)) { s with heap:=h' }->wpAny (model prog w) A.in1.in1 (keyLt' κ (vs.getD i Value.none) (vs.getD j Value.none)) C (λ_ _=>False) { s with heap:=h' }) (hr:∀i j,i<vs.length->j<vs.length->vs.getD i Value.none=vs.getD j Value.none->r i=r j)
  (h:∀p:Array Nat,p.Perm (List.toArray (List.range vs.length))->pO r p vs.length->Q (.ref (s.heap.objs.size+1)) { s with heap:=sortedAll s.heap vs (gw vs p) }) :
  wpAny (model prog w) A (call (.builtin "sorted") [.ref l]) Q E s:=
 uP κ (λA E Q q=>collect_list hl q (by rw[Kh];lia)) h64 hk hc hr h
end
end Rm
namespace Rm
open PySem PySem.W PyProof.Rows L2
def rX (h:Heap) (a:Addr) (o:List Int):Prop:=∃ob its n,h.get? a=some ob/\ob.cls=.type "tuple"/\ob.data=.seq (List.toArray its) n/\bj (o.map V.int) its
def ii(H:Hp)(a:Addr)(o:List Int):Prop:=H a=some (.tup (o.map V.int))
theorem v7{X:Cx}{pins:List (Addr×Obj)}{σ:L2.St}{H:Hp}{s:Shared}(I:bW X pins σ H s){a:Addr}{o:List Int}(h:ii H a o):rX s.heap a o:=by
 obtain⟨_,its,v,ob,e,c,n,d⟩:=I.hok a _ h;exact⟨ob,its,n,e,c,d,v⟩
theorem rX.kept{h h':Heap}{a:Addr}{o:List Int}(x:rX h a o)(k:∀b o,h.get? b=some o->h'.get? b=some o):rX h' a o:=by
 obtain⟨ob,its,n,e,c,d,v⟩:=x;exact⟨ob,its,n,k _ _ e,c,d,v⟩
def jE(o:List Int):Int:=o.foldl (λr x=>r*100+x) 0
def rm(o:List Int):Prop:=∀x∈o,0<=x/\x<100
theorem m6:∀(p q:List Int) (r t:Int),p.length=q.length->rm p->rm q->r<t->p.foldl (λr x=>r*100+x) r<q.foldl (λr x=>r*100+x) t
 | [],[],r,t,_,_,_,h=>h
 | [],_::_,_,_,h,_,_,_=>by simp at h
 | _::_,[],_,_,h,_,_,_=>by simp at h
 | x::p,y::q,r,t,h,hp,hq,lt=>by
  have x1:=hp x (by simp);have y1:=hq y (by simp);simp only[iK];exact m6 p q _ _ (by simpa using h) (λz hz=>hp z (aD _ hz)) (λz hz=>hq z (aD _ hz)) (by lia)
theorem vt:∀(p q:List Int) (r:Int),p.length=q.length->rm p->rm q->p.foldl (λr x=>r*100+x) r=q.foldl (λr x=>r*100+x) r->p=q
 | [],[],_,_,_,_,_=>rfl
 | [],_::_,_,h,_,_,_=>by simp at h
 | _::_,[],_,h,_,_,_=>by simp at h
 | x::p,y::q,r,h,hp,hq,e=>by
  have hl:p.length=q.length:=by simpa using h
  have hp':rm p:=λz hz=>hp z (aD _ hz);have hq':rm q:=λz hz=>hq z (aD _ hz);simp only[iK] at e;rcases Int.lt_trichotomy x y with z | z | z
  ·have:=m6 p q (r*100+x) (r*100+y) hl hp' hq' (by lia);lia
  ·subst z;rw[vt p q _ hl hp' hq' e]
  ·have:=m6 q p (r*100+y) (r*100+x) hl.symm hq' hp' (by lia);lia
theorem zd{p q:List Int}(h:p.length=q.length)(hp:rm p)(hq:rm q)(e:jE p=jE q):p=q:=vt p q 0 h hp hq e
def kO:SortKind:=tuples' (Value.type "int" != Value.type "tuple")
theorem GO{prog:Program}{w:World}{A:Around}{s:Shared}{C:Bool->Shared->Prop}:∀(p q:List Int) (us vs:List Value) (i:Nat) (r:Int),p.length=q.length->rm p->rm q->bj (p.map V.int) us->bj (q.map V.int) vs →
  C (decide (p.foldl (λr x=>r*100+x) r<q.foldl (λr x=>r*100+x) r)) s->KatLex prog w A (Value.type "int" != Value.type "tuple") false C (us.zip vs) i s
 | [],[],_,_,i,r,_,_,_,.nil,.nil,h=>by
  rw[show decide (([]:List Int).foldl (λr x=>r*100+x) r<([]:List Int).foldl (λr x=>r*100+x) r)=false from LO (Int.lt_irrefl _)] at h;exact kat_nil h
 | [],_::_,_,_,_,_,h,_,_,_,_,_=>by simp at h
 | _::_,[],_,_,_,_,h,_,_,_,_,_=>by simp at h
 | x::p,y::q,_,_,i,r,h,hp,hq,.cons e1 t1,.cons e2 t2,hC=>by
  obtain⟨tx,rfl⟩:=e1;obtain⟨ty,rfl⟩:=e2;have x1:=hp x (by simp);have y1:=hq y (by simp);have hl:p.length=q.length:=by simpa using h
  have hp':rm p:=λz hz=>hp z (aD _ hz);have hq':rm q:=λz hz=>hq z (aD _ hz);refine kat_cons (Ka (kat_go (λe=>?_) (λe=>?_)))
  ·have e1:x=y:=by simpa using e
   subst e1;exact kat_yes (GO p q _ _ (i+1) (r*100+x) hl hp' hq' t1 t2 hC)
  ·have e1:¬x=y:=by simpa using e
   refine kat_no ?_;have z:decide ((x::p).foldl (λr x=>r*100+x) r<(y::q).foldl (λr x=>r*100+x) r)=decide (x<y):=by
    by_cases c:x<y
    ·rw[LP c];exact LP (m6 p q (r*100+x) (r*100+y) hl hp' hq' (by lia))
    ·rw[LO c];have h9:q.foldl (λr x=>r*100+x) (r*100+y)<p.foldl (λr x=>r*100+x) (r*100+x):=m6 q p _ _ hl.symm hq' hp' (by lia);exact LO (λh8:p.foldl (λr x=>r*100+x) (r*100+x)<q.foldl (λr x=>r*100+x) (r*100+y)=>by lia)
   rw[z] at hC;by_cases c:i=0
   ·subst c;have b0:((Value.type "int" != Value.type "tuple")&&((0:Nat)==0))=true:=by decide
    rw[b0];exact oneLt_int hC
   ·have b0:((Value.type "int" != Value.type "tuple")&&(i==0))=false:=by
     rw[show (i==0)=false by simpa using c,gO]
    rw[b0];exact kat_one _ _ (lt_int hC)
theorem BP{prog:Program}{w:World}{A:Around}{s:Shared}{a b:Addr}{p q:List Int}{C:Bool->Shared->Prop}(ha:rX s.heap a p)(hb:rX s.heap b q)(hl:p.length=q.length)(hp:rm p)(hq:rm q)(h:C (decide (jE p<jE q)) s):wpAny (model prog w) A (keyLt' kO (.ref a) (.ref b)) C (λ_ _=>False) s:=by
 obtain⟨oa,us,n,ea,ca,da,va⟩:=ha;obtain⟨ob,vs,m,eb,cb,db,vb⟩:=hb;refine kat_lt ea da eb db ?_;have l1:us.length=p.length:=by have:=va.length;simpa using this.symm
 have l2:vs.length=q.length:=by have:=vb.length;simpa using this.symm
 rw[show decide ((List.toArray us).size<(List.toArray vs).size)=false from LO (by simp;lia)];exact GO p q us vs 0 0 hl hp hq va vb h
theorem pq{h:Heap}{n:Nat}(hn:1<=n):∀{as:List Addr} {os:List (List Int)},Paired (rX h) as os->(∀o∈os,o.length=n)->∃fs,KatTups h (as.map Value.ref) fs/\fs.length=as.length/\∀v∈fs,∃n t,v=Value.int n t
 | _,_,.nil,_=>⟨[],KatTups.nil,rfl,(λv hv=>nomatch hv)⟩
 | _,_,.cons (b:=o) r t,ho=>by
  obtain⟨ob,its,m,e,c,d,v⟩:=r;obtain⟨fs,h1,h2,h3⟩:=pq hn t λo ho'=>ho o (aD _ ho');have hl:=ho o (by simp)
  match o,its,v,hl with
  | [],_,_,hl=>simp at hl;lia
  | x::o,_,.cons e1 t1,_=>
   obtain⟨tx,rfl⟩:=e1;exact⟨.int x tx::fs,KatTups.cons e c d rfl h1,by simp[h2],λv hv=>by
    rcases aF.mp hv with rfl | hv
    ·exact⟨_,_,rfl⟩
    ·exact h3 v hv⟩
def Dw(K:LU):List V->Hp->VK->Prop:=λxs H Q=>∃(l:Addr) (as:List Addr) (os:List (List Int)) (n:Nat),xs=[.ref l]/\cy K H l (as.map V.ref)/\Paired (ii H) as os/\os.length<128/\(∀o∈os,o.length=n/\rm o)/\(n=0->os.length<=1) ∧
 ∀l' as' os',H l'=none->Paired (ii H) as' os'->os'.Perm os->os'.Pairwise (λa b=>jE a<=jE b)->Q (.ref l') (upd H l' (.lst (as'.map V.ref)))
theorem jd {X:Cx}:jB X (.builtin "sorted") (Dw X.K):=by
 intro pins s σ H xs us Q I rr h;obtain⟨l,as,os,n,rfl,hq,hP,h64,hb,h0,q⟩:=h;obtain⟨u,rfl,rx⟩:=vals1 rr;cases rx;obtain⟨its,rv,pl,hz⟩:=I.list hq;have e:=jV rv;subst e;have hlen:as.length=os.length:=bu hP;have two:Paired (rX s.heap) as os:=L2.cY hP λa p z=>v7 I z;have at_:∀i,i<as.length->∃a p,(as.map Value.ref).getD i Value.none=.ref a/\os.getD i []=p/\rX s.heap a p/\ii H a p/\p.length=n/\rm p:=λi hi=>by
  have hx:as[i]? = some as[i]:=aS hi;obtain⟨p,hp,ht⟩:=paired_get hP hx;exact⟨as[i],p,by simp[List.getD,hi],by simp[List.getD,hp],v7 I ht,ht,hb p (ax hp)⟩
 refine BU (r:=λi=>jE (os.getD i [])) kO pl.isList (by rw[aC];lia) (λh2 h' Q' k q'=>?_) (λi j hi hj h' C k q'=>?_) (λi j hi hj e=>?_) λp hp ha=>?_
 ·rw[aC] at h2;obtain⟨fs,k1,k2,k3⟩:=pq (n:=n) (by lia) (L2.cY two λa p z=>z.kept k) λo ho=>(hb o ho).1;refine kat_kind (T:=.type "int") k1 (by lia) (λv hv=>?_) rfl q';obtain⟨n,t,rfl⟩:=k3 v hv;exact(show Looks _ _ (pure (Value.type "int")) (Value.type "int") from .now)
 ·rw[aC] at hi hj;obtain⟨a,p,e1,e2,t1,_,b1⟩:=at_ i hi;obtain⟨c,p',e3,e4,t2,_,b2⟩:=at_ j hj;rw[e1,e3];refine BP (t1.kept k) (t2.kept k) (b1.1.trans b2.1.symm) b1.2 b2.2 ?_;rw[<-e2,<-e4];exact q'
 ·rw[aC] at hi hj;obtain⟨a,p,e1,e2,_,t1,_⟩:=at_ i hi;obtain⟨c,p',e3,e4,_,t2,_⟩:=at_ j hj;rw[e1,e3] at e;cases e;rw[e2,e4];unfold ii at t1 t2;rw[t1] at t2;have:p.map V.int=p'.map V.int:=by injection t2 with z;injection z
  have:p=p':=List.map_inj_right (λx y z=>by injection z) |>.mp this
  rw[this]
 ·rw[aC] at hp ha;obtain⟨c,hc⟩:=sortedAll_at s.heap (as.map Value.ref) (gw (as.map Value.ref) p);have hin:∀i∈p.toList,i<as.length:=λi hi=>by
   have h1:p.toList.Perm (List.range as.length):=by simpa using cQ.mp hp
   simpa using h1.mem_iff.mp hi
  have eo:gw (as.map Value.ref) p=List.toArray ((pick 0 as p).map Value.ref):=by
   unfold gw pick;rw[b9];congr 1;refine cB λi hi=>?_;have:=hin i hi;simp[List.getD,this]
  have hps:(pick 0 as p).length<=sizeLine:=by
   have:=(j8 0 as hp).length_eq;rw[this];exact cN (cS (by lia))
  rw[eo] at hc;have hp':p.Perm (List.toArray (List.range os.length)):=by rw[<-hlen];exact hp
  refine⟨.ref (s.heap.objs.size+1),upd H (s.heap.objs.size+1) (.lst ((pick 0 as p).map V.ref)),I.laid (t':=s.toks) (λb o e=>sortedAll_old e) (fP _) ?_,rfl,?_⟩
  ·exact(show dI X.prog X.w _ _ _ (.lst _) from ⟨by rw[aC];exact hps,(pick 0 as p).map Value.ref,c,qF _,by rw[eo];exact hc⟩)
  ·have hasc:=sr (n:=as.length) (by have:=hp.size_eq;simpa using this) ha [] os jE λi=>rfl;exact q _ _ (pick [] os p) (I.hok.fresh (fP _)) (nU 0 [] hP hin) (j8 [] os hp') hasc
section
variable {prog:Program} {w:World} {Kt:Type} [DecidableEq Kt] {knd:HeapKind prog w Kt} {A:Around} {E:Value->Shared->Prop} {s:Shared}
theorem AV {d:Addr} {xs:List (Kt×Addr×Value)} {Q:Value->Shared->Prop} (hd:(d==sysModules)=false) (hm:s.heap.DictOfH knd d xs) (hf:(xs.length:Int)<2 ^ 63) (h:∀t t',Q (.int xs.length t) { s with toks:=t' }):wpAny (model prog w) A (call (.builtin "len") [.ref d]) Q E s:=by
 have M:MeetsIn prog w (Builtin.«dict.__len__» ⟨[.ref d],[]⟩) (λ_ R s'=>(∃o es ep,s'.heap.get? d=some o/\o.data=.dict es ep/\es.size=xs.length)/\R (.ok (.ret (.int xs.length s'.toks))) { s' with toks:=s'.toks+1 }):=.of_wp λA R s ⟨⟨o,es,ep,ho,hdat,e⟩,h⟩=>by
  show wpAny _ _ (dictSize d>>=_) _ _ s;unfold dictSize;refine wpAny_bind (wpAny_bind (wpAny_dictEntries ho hdat (Kd (show wpAny _ _ (Builtin.Dict.pendingCount d>>=_) _ _ s from wpAny_bind (wpAny_pendingCount_other hd (wpAny_ret_mkInt ?_))))));rw[gH,e];exact h
 refine fX kind_len plain_len entry_len (args_len1 _) ?_;have ty:=hm.typeIs;obtain⟨o,es,ep,ho,_,hdat,he,_⟩:=hm;unfold Builtin.«len»;refine wpAny_bind (m:=oneArg "len" _) (Kd (wpAny_bind (m:=callSpecial? (.ref d) (Str.ofString "__len__")) (wpAny_callSpecial?_slot (name:=Str.ofString "__len__") ty F.slot_dict_len (call_meetsIn F.slot_dict_len ty F.entry_dict_len (F.args_dict_len_1 _) M ⟨⟨o,es,ep,ho,hdat,size_of_entries he⟩,?_⟩))));refine wpAny_bind (Kl (Kd (wpAny_bind (wpAny_letGo ?_))));show wpAny _ _ (if ((xs.length:Nat):Int)<0 then _ else _) _ _ _;rw[LL (by lia)];show wpAny _ _ (if ((xs.length:Nat):Int)>=2 ^ 63 then _ else _) _ _ _;rw[LL (by lia)];exact wpAny_bind (wpAny_mkInt (Kd ⟨_,rfl,h _ _⟩))
end
theorem tm {X:Cx}:jB X (.builtin "len") (λxs H Q=>∃p kvs,xs=[.ref p]/\H p=some (.dT kvs)/\Q (.int kvs.length) H):=by
 intro pins s σ H xs us Q I r h;obtain⟨p,kvs,rfl,hp,q⟩:=h;obtain⟨u,rfl,rx⟩:=vals1 r;cases rx;obtain⟨z,hd,vs,rel,dd⟩:=DM I.hok hp;have hn:=kz;refine AV hd dd (by rw[<-rel.length];lia) λt t'=>?_;rw[<-rel.length];exact⟨.int kvs.length,H,I.tok _,⟨t,rfl⟩,q⟩
def fW(b:Bool)(n:Nat):List (List Int):=(ck n (bL b) (bR b)).map (qv b)
theorem j9{b:Bool}{n:Nat}(hn:n<=20){ns:List Int}:ns∈fW b n<->kR ns/\ns.length=n/\pB ns=false:=by
 unfold fW;rw[aw];constructor
 ·rintro⟨cs,hc,rfl⟩;obtain⟨k,hk,e⟩:=eF hc;obtain⟨C,h1,_⟩:=mX hn (show (ck n (bL b) (bR b))[k]? = some cs by rw[aS hk,e]);have M:=C.maze;exact⟨M.ord,M.len.trans h1,(oE b _).mpr M.nc⟩
 ·rintro⟨O,rfl,h⟩;have:=CJ O ((oE b ns).mp h);exact⟨_,this.1,this.2⟩
theorem kt(b:Bool){n:Nat}(hn:n<=20):(fW b n).Nodup:=by
 unfold fW;rw[List.Nodup,jH];refine(List.Pairwise.and_mem.mp (wy (b:=b) hn)).imp fun {x y} h e=>h.2.2 ?_;have code:∀cs∈ck n (bL b) (bR b),c7 b (qv b cs)=cs:=λcs hc=>by
  obtain⟨k,hk,e⟩:=eF hc;exact(mX hn (show (ck n (bL b) (bR b))[k]? = some cs by rw[aS hk,e])).1.code
 rw[<-code x h.1,<-code y h.2.1,e]
theorem u9(b c:Bool){n:Nat}(hn:n<=20):(fW b n).Perm (fW c n):=by
 rw[List.perm_iff_count];intro x;rw[(kt b hn).count,(kt c hn).count];have e:x∈fW b n<->x∈fW c n:=(j9 hn).trans (j9 hn).symm;by_cases z:x∈fW b n
 ·rw[LM z,LM (e.mp z)]
 ·rw[LL z,LL λy=>z (e.mpr y)]
theorem xM:∀n,n<=8->∀b,(fW b n).length<128:=by
 have h:∀n,n<=8->∀b,lj n (bL b) (bR b)<128:=by decide +kernel
 intro n hn b;unfold fW;rw[aC,lQ];exact h n hn b
theorem kq{b:Bool}{n:Nat}(hn:n<=20):∀o∈fW b n,o.length=n/\rm o:=λo ho=>by
 obtain⟨O,h,_⟩:=(j9 hn).mp ho;have:=O.len;exact⟨h,λx hx=>by have:=O.mem.mp hx;lia⟩
theorem u7(b:Bool):(fW b 0).length<=1:=by unfold fW;rw[aC,lQ];cases b<;>decide
theorem sy{xs ys:List (List Int)}{n:Nat}(h:xs.Perm ys)(hs:∀o∈xs,o.length=n/\rm o)(h1:xs.Pairwise λa b=>jE a<=jE b)(h2:ys.Pairwise λa b=>jE a<=jE b):xs=ys:=
 h.eq_of_pairwise (le:=λa b=>jE a<=jE b) (λa b ha hb p q=>by
  have sa:=hs a ha;have sb:=hs b (h.mem_iff.mpr hb);exact zd (sa.1.trans sb.1.symm) sa.2 sb.2 (by lia)) h1 h2
theorem EG:∀n,n<=4->∀o∈l9 n,o.length=n/\o.isPerm (iT 1 o.length)=true:=by decide +kernel
theorem zq{n:Nat}(hn:n<=4){o:List Int}(h:o∈l9 n):kR o/\o.length=n:=by
 have:=EG n hn o h;exact⟨⟨by lia,List.isPerm_iff.mp this.2⟩,this.1⟩
def yN(o:List Int):List Key:=o.map Sum.inl
theorem AX(o:List Int):(yN o).map kV=o.map V.int:=by unfold yN;rw[b9];rfl
theorem Bv{o p:List Int}(h:yN o=yN p):o=p:=List.map_inj_right (λx y z=>by injection z) |>.mp h
structure DT (kvs:List (List Key×V)) (os:List (List Int)):Prop where
 len:kvs.length=os.length
 val:∀ o,(fg kvs (yN o)).isSome=decide (o∈os)
theorem DT.nil:DT [] []:=⟨rfl,λo=>by simp[fg]⟩
theorem DT.add{kvs:List (List Key×V)}{os:List (List Int)}{o:List Int}{v:V}(h:DT kvs os)(hn:o∉os):DT (putK kvs (yN o) v) (os++[o]):=by
 have e:fg kvs (yN o)=none:=by
  have:=h.val o;rw[LO hn] at this;exact Option.isSome_eq_false_iff.mp this |> Option.isNone_iff_eq_none.mp
 refine⟨by rw[zi v e];simp[h.len],λp=>?_⟩;rw[sB];by_cases z:yN p=yN o
 ·rw[LM z,Bv z];simp
 ·rw[LL z,h.val p];have:p≠o:=λy=>z (by rw[y]);simp[this]
theorem Ct {i:Int} (h0:0<=i) (h1:i<2):uC (Str.ofString "rl").cps.toList i=some (if i=1 then 108 else 114):=by
 have e:i=0\/i=1:=by lia
 have l:Str.ofString "rl"=⟨#[114,108]⟩:=by decide +kernel
 rw[l];rcases e with rfl | rfl<;>rfl
theorem Cs(i:Int):(⟨#[if i=1 then 108 else 114]⟩:Str)=sd (!decide (i=1)):=by
 by_cases h:i=1
 ·simp[h,sd,wG]
 ·simp[h,sd,wF]
theorem o6{H:Hp}{b:Bool}:∀{as:List Addr} {ss:List (List Nat)},Em H b as ss->∃os:List Addr,os.length=as.length/\Paired (ii H) os (ss.map (qv b))/\∀(i:Nat) (a:Addr),as[i]? = some a->∃o:Addr,os[i]? = some o/\H a=some (.tup [.str (sd b),.ref o])
 | _,_,.nil=>⟨[],rfl,.nil,λi a h=>by simp at h⟩
 | _,_,.cons ⟨o,hm⟩ t=>by
  obtain⟨os,h1,h2,h3⟩:=o6 t;refine⟨o::os,by simp[h1],.cons hm.2 h2,λi a h=>?_⟩;cases i with
  | zero=>cases h;exact⟨o,rfl,hm.1⟩
  | succ i=>exact h3 i a h
def m8(os:List (List Int)):List PyData:=os.map λo=>.tuple (o.map PyData.int)
theorem oW{H:Hp}:∀{as:List Addr} {os:List (List Int)},Paired (ii H) as os->jT H (as.map V.ref) (m8 os)
 | _,_,.nil=>.nil
 | _,_,.cons h t=>.cons (.tup h (tQ _)) (oW t)
theorem tD:∀os:List (List Int),PyData.canLayAll0 (m8 os)=true
 | []=>rfl
 | o::os=>by
  show (PyData.canLayAll0 (o.map PyData.int)&&PyData.canLayAll0 (m8 os))=true;rw[tD os,nX];rfl
theorem oV:∀os:List (List Int),PyData.depthAll (m8 os)<=1
 | []=>a6 _
 | o::os=>by
  show max (PyData.depthAll (o.map PyData.int)+1) (PyData.depthAll (m8 os))<=1;rw[oq];exact Nat.max_le.mpr ⟨aB _,oV os⟩
theorem AK{K:LU}{H:Hp}{l l':Addr}{as as':List Addr}{os:List (List Int)}{Q:VK}(h1:H l=some (.lst (as.map V.ref)))(h2:H l'=some (.lst (as'.map V.ref)))(p1:Paired (ii H) as os)(p2:Paired (ii H) as' os)(q:Q (.bl false) H):GE K true (.ref l) (.ref l') H Q:=by
 have lay:(PyData.list (m8 os)).canLay0=true:=tD os;refine⟨.list (m8 os),.list (m8 os),(Dat.lst h1 (oW p1)).rep,(Dat.lst h2 (oW p2)).rep,lay,lay,?_,?_⟩
 ·refine bJ (Nat.min_le_left _ _) ?_;show PyData.depthAll (m8 os)+1<=60;have:=oV os;lia
 ·rw[PySem.SeqAt.eqv_refl _ lay];exact q
theorem fS{H H':Hp}{as:List Addr}{os:List (List Int)}(h:Paired (ii H) as os)(s:ao H H'):Paired (ii H') as os:=cY (λa o z=>s _ _ z) h
end Rm
namespace L2
open PySem PySem.Spec PyProof.Rows
theorem Bd{X:Cx}{k d:Expr}{ty td:TE}{pos:Pos}(hu:X.A.units+1<cLine)(hk:QE X k ty)(hd:QE X d td)(hm:behindInMarks .In d=false:=by first | rfl | with_unfolding_all rfl):QE X (.Compare k [.In] [d] pos) (Dl ty td):=⟨λpins s σ H Q I h=>wpAny_Compare1 (ED hu hk.h hd.h pins s σ H Q I h) hm⟩
abbrev TH:=Ends->St->Addr->Option Addr->Hp->Prop
end L2
namespace Rm
open PySem L2 PyProof.Rows
def Pr(bs:List Bool)(x y:Nat):Prop:=Gc bs x y\/Gc bs y x
open Classical in
noncomputable def mtF (bs:List Bool) (x:Nat):Nat:=if h:∃y,Pr bs x y then h.choose else x
def Ew(L R:Nat->Nat)(e:Nat):Nat->Nat
 | 0=>e
 | i+1=>R (L (Ew L R e i))
def IB(L R:Nat->Nat)(e:Nat):Nat->List Nat
 | 0=>[]
 | i+1=>IB L R e i++[Ew L R e i]++[L (Ew L R e i)]
def Inj(L R:Nat->Nat)(e i:Nat):Prop:=∀j k,j<i->k<i->Ew L R e j=Ew L R e k->j=k
structure I9 (L R:Nat->Nat) (e i:Nat):Prop where
 pos:0<i
 inj:Inj L R e i
 back:Ew L R e i=e
open Classical in
noncomputable def perF (L R:Nat->Nat) (e:Nat):Nat:=if h:∃i,I9 L R e i then h.choose else 0
noncomputable def rdF (L R:Nat->Nat) (e:Nat):List Nat:=IB L R e (perF L R e)
open Classical in
noncomputable def rsF (L R:Nat->Nat):Nat->List (List Nat)
 | 0=>[]
 | i+1=>if ∃r∈rsF L R i,i∈r then rsF L R i else rsF L R i++[rdF L R i]
def rk(G:Nat->Bool):Nat->Nat
 | 0=>0
 | k+1=>if G k then rk G k else rk G k+1
def dK(G:Nat->Bool)(bs:List Bool):Nat->Int
 | 0=>0
 | k+1=>if G k then dK G bs k else dK G bs k+((bs[k]?).toList.map dl).sum
end Rm
namespace L2
open PySem PySem.Spec PyProof.Rows
def EB:V->List V->Hp->VK->Prop:=λx vs H Q=>∃(l:Addr) (ks:List Int) (z:Int) (j:Nat),x=.ref l/\vs=[.int z]/\H l=some (.lst (ks.map V.int))/\ks.length<=1000/\ks[j]? = some z/\(∀m,m<j->ks[m]?≠some z)/\Q (.int j) H
theorem BD{l:Addr}{z:Int}{H:Hp}{Q:VK}:EB (.ref l) [.int z] H Q=∃(ks:List Int) (j:Nat),H l=some (.lst (ks.map V.int))/\ks.length<=1000/\ks[j]? = some z/\(∀m,m<j->ks[m]?≠some z)/\Q (.int j) H:=
 propext ⟨λ⟨_,ks,_,j,e,e',h⟩=>by cases e;cases e';exact⟨ks,j,h⟩,λ⟨ks,j,h⟩=>⟨l,ks,z,j,rfl,rfl,h⟩⟩
end L2
namespace Rm
open PySem L2 PyProof.Rows
def top(i:Nat):Stmt:=PySem.Challenge.pw_ringmaze_k38_whole_list_of_drawable_ones.main.body.getD i (.Pass ⟨0,0,0,0⟩)
abbrev gX:Stmt:=top 5
theorem gp:cO ["bows","a","b","c","d"] ["bows"] (bN gX):=⟨rfl,rfl,rfl,by decide +kernel,rfl,by decide +kernel,by decide +kernel⟩
abbrev i0:Stmt:=top 9
theorem uT:cO ["thing"] ["thing"] (bN i0):=⟨rfl,rfl,rfl,by decide +kernel,rfl,by decide +kernel,by decide +kernel⟩
abbrev eX:Stmt:=top 11
theorem pU:cO ["side"] ["side"] (bN eX):=⟨rfl,rfl,rfl,by decide +kernel,rfl,by decide +kernel,by decide +kernel⟩
abbrev eI:Stmt:=top 12
theorem kP:cO ["maze","step","side"] ["maze","step"] (bN eI):=⟨rfl,rfl,rfl,by decide +kernel,rfl,by decide +kernel,by decide +kernel⟩
abbrev fE:Stmt:=top 13
theorem kj:cO ["maze","order"] ["maze"] (bN fE):=⟨rfl,rfl,rfl,by decide +kernel,rfl,by decide +kernel,by decide +kernel⟩
abbrev i9:Stmt:=top 14
theorem ic:cO ["maze","rows","told","step","bow"] ["maze"] (bN i9):=⟨rfl,rfl,rfl,by decide +kernel,rfl,by decide +kernel,by decide +kernel⟩
abbrev i6:Stmt:=top 15
theorem jw:cO ["maze","side","bows","found"] ["maze"] (bN i6):=⟨rfl,rfl,rfl,by decide +kernel,rfl,by decide +kernel,by decide +kernel⟩
abbrev jx:Stmt:=top 18
theorem za:cO ["side"] ["side"] (bN jx):=⟨rfl,rfl,rfl,by decide +kernel,rfl,by decide +kernel,by decide +kernel⟩
abbrev eY:Stmt:=top 19
theorem pV:cO ["state"] ["state"] (bN eY):=⟨rfl,rfl,rfl,by decide +kernel,rfl,by decide +kernel,by decide +kernel⟩
abbrev fm:Stmt:=top 20
theorem eW:cO ["signs","place","stride","depth","here"] ["signs","place"] (bN fm):=⟨rfl,rfl,rfl,by decide +kernel,rfl,by decide +kernel,by decide +kernel⟩
abbrev j4:Stmt:=top 21
theorem fk:cO ["left","right","signs","inner_right","inner_left","far","marks","place","mark"] ["left","right"] (bN j4):=⟨rfl,rfl,rfl,by decide +kernel,rfl,by decide +kernel,by decide +kernel⟩
abbrev mF:Stmt:=top 22
theorem ny:cO ["state","letter","halves","left","right"] ["state","letter"] (bN mF):=⟨rfl,rfl,rfl,by decide +kernel,rfl,by decide +kernel,by decide +kernel⟩
abbrev gW:Stmt:=top 26
theorem gn:cO ["side","code","state","at","sign"] ["side","code"] (bN gW):=⟨rfl,rfl,rfl,by decide +kernel,rfl,by decide +kernel,by decide +kernel⟩
abbrev fF:Stmt:=top 27
theorem dU:cO ["code","inwards","begins_here","told","waiting","place","letter","row","outer"] ["code","inwards","begins_here"] (bN fF):=⟨rfl,rfl,rfl,by decide +kernel,rfl,by decide +kernel,by decide +kernel⟩
abbrev i4:Stmt:=top 28
theorem fh:cO ["side","code","across","order","bow_side","row"] ["side","code"] (bN i4):=⟨rfl,rfl,rfl,by decide +kernel,rfl,by decide +kernel,by decide +kernel⟩
abbrev i8:Stmt:=top 30
theorem uV:cO ["state","rows"] ["state","rows"] (bN i8):=⟨rfl,rfl,rfl,by decide +kernel,rfl,by decide +kernel,by decide +kernel⟩
abbrev gY:Stmt:=top 31
theorem dt:cO ["side","n","begins","rows","longer","code","state","letter","ahead"] ["side","n"] (bN gY):=⟨rfl,rfl,rfl,by decide +kernel,rfl,by decide +kernel,by decide +kernel⟩
abbrev jZ:Stmt:=top 32
theorem xE:cO ["side","n"] ["side","n"] (bN jZ):=⟨rfl,rfl,rfl,by decide +kernel,rfl,by decide +kernel,by decide +kernel⟩
abbrev i7:Stmt:=top 34
theorem uU:cO ["_law_script","_law_k"] ["_law_script","_law_k"] (bN i7):=⟨rfl,rfl,rfl,by decide +kernel,rfl,by decide +kernel,by decide +kernel⟩
abbrev lR:Stmt:=top 35
theorem sU:cO ["_law_cell","_law_rest"] ["_law_cell"] (bN lR):=⟨rfl,rfl,rfl,by decide +kernel,rfl,by decide +kernel,by decide +kernel⟩
abbrev iZ:Stmt:=top 36
theorem mE:cO ["_law_cell","_law_top"] ["_law_cell"] (bN iZ):=⟨rfl,rfl,rfl,by decide +kernel,rfl,by decide +kernel,by decide +kernel⟩
abbrev i5:Stmt:=top 37
theorem fi:cO ["_law_side","_law_order","_law_road","_law_turn","_law_bows","_law_k","_law_one","_law_other"] ["_law_side","_law_order"] (bN i5):=⟨rfl,rfl,rfl,by decide +kernel,rfl,by decide +kernel,by decide +kernel⟩
abbrev jY:Stmt:=top 38
theorem iY:cO ["_law_n","_law_orders_here","_law_ring","_law_longer","_law_order"] ["_law_n"] (bN jY):=⟨rfl,rfl,rfl,by decide +kernel,rfl,by decide +kernel,by decide +kernel⟩
abbrev fo:Stmt:=top 39
theorem iS:cO ["_law_rest","_law_many","_law_order","_law_k"] ["_law_rest","_law_many"] (bN fo):=⟨rfl,rfl,rfl,by decide +kernel,rfl,by decide +kernel,by decide +kernel⟩
abbrev mY:Stmt:=top 40
theorem iH:cO ["_law_script","_law_head","_law_side","_law_n","_law_told","_law_kept","_law_order","_law_others","_law_some","_law_drawable"] ["_law_script"] (bN mY):=⟨rfl,rfl,rfl,by decide +kernel,rfl,by decide +kernel,by decide +kernel⟩
structure uG (mg:Str->Option Value):Prop where
 len:mg "len"=none
 range:mg "range"=none
 int:mg "int"=none
 list:mg "list"=none
 tuple:mg "tuple"=none
 isinstance:mg "isinstance"=none
 str:mg "str"=none
 bool:mg "bool"=none
 sorted:mg "sorted"=none
 all:mg "all"=none
 zip:mg "zip"=none
 max:mg "max"=none
 min:mg "min"=none
 reversed:mg "reversed"=none
 enumerate:mg "enumerate"=none
 ValueError:mg "ValueError"=none
 MOST_RINGS:∃ t,mg "MOST_RINGS"=some (.int 20 t)
 LETTERS:∃ t,mg "LETTERS"=some (.str (Str.ofString "abcd") t)
 LEFT_INWARDS:∃ t,mg "LEFT_INWARDS"=some (.str (Str.ofString "ab") t)
 RIGHT_INWARDS:∃ t,mg "RIGHT_INWARDS"=some (.str (Str.ofString "ac") t)
local macro_rules | `(tactic| nofun) => `(tactic| (try dsimp (maxSteps := 3000000) only [L2.y9, L2.Hs, L2.FM, L2.FF, L2.Cd, L2.Ht, L2.ya, L2.FG, L2.w_and, L2.w_or, L2.w_not, L2.yz, L2.C6, L2.yg, L2.FT, L2.C4, L2.w_next, L2.Cb, L2.yx, L2.yr, L2.C5, L2.ye, L2.C9, L2.Ce, L2.vR, L2.yd, L2.yc, L2.C7, L2.yy, L2.F1, L2.C3, L2.C8, L2.w_call, L2.F2, L2.Cc, L2.v4, L2.sA, L2.yq, L2.yp, L2.yn, L2.yl, L2.yj, L2.ym, L2.yo, L2.vX, L2.vW, L2.vZ, L2.vY, L2.vV, L2.vT, L2.vS, L2.yh, L2.vQ, L2.vO, L2.vP, L2.yi, L2.w_getS, L2.yk, L2.FI, L2.yf, L2.rq, L2.yu, L2.yt, L2.Ca, L2.rz, L2.vU]); (try simp (maxSteps := 3000000) only [L2.DW, L2.y9, L2.Hs, L2.FM, L2.FF, L2.BJ, L2.IP, L2.IM, L2.FZ, L2.FO, L2.FY, L2.FN, L2.F0, L2.FP, L2.FX, L2.FW, L2.D4, L2.Dc, L2.Cd, L2.HG, LR, LS, aY, L2.Ht, L2.FV, L2.D3, L2.D9, L2.D7, L2.D8, L2.D5, L2.D6, L2.DX, L2.FR, L2.FS, L2.FQ, L2.F3, L2.FL, L2.ya, L2.FG, L2.w_and, L2.w_or, L2.w_not, L2.yz, L2.C6, L2.yg, L2.FT, L2.C4, L2.w_next, L2.Cb, L2.yx, L2.yr, L2.C5, L2.ye, L2.C9, L2.Ce, L2.vR, L2.yd, L2.yc, L2.C7, L2.yy, L2.F1, L2.C3, L2.C8, L2.w_call, L2.F2, L2.Cc, L2.v4, L2.sA, L2.yq, L2.yp, L2.yn, L2.yl, L2.yj, L2.DY, L2.BF, be, LN, Bool.not_eq_true', decide_eq_false_iff_not, L2.ym, L2.yo, L2.vX, L2.vW, L2.vZ, L2.vY, L2.vV, L2.BI, L2.vT, L2.vS, L2.BG, L2.D0, L2.DZ, L2.yh, L2.FU, L2.vQ, L2.vO, L2.vP, L2.yi, L2.w_getS, L2.BE, L2.yk, L2.FI, L2.yf, L2.rq, L2.FH, L2.yu, L2.yt, L2.Ca, L2.rz, L2.vU, L2.BH, L2.Da, L2.FK, L2.FJ, L2.w_rev, L2.BD, L2.yb, L2.yw]))
section
variable {P:Program} {w:World} {K:LU} {mg:Str->Option Value} {base:Heap}
theorem tG (E:Fn K mg "crossing" gX ["bows"]):gV P w K mg base 1 "crossing" gX ["bows"] oK:=E.mk' λf fd F=>by
 refine F.okS gp (λvs H Q E h=>?_) (λcdv A outer s H vs Q E hr h=>?_)
 ·obtain⟨l,ps,rfl,_⟩:=h;rfl
 ·obtain⟨l,ps,rfl,bo,qn,qs⟩:=h;obtain⟨as,b1,bl,bg⟩:=bo.get;refine⟨[some (.ref l),none,none,none,none],_,rfl,(L2.lJ.h (aO (dX av rfl (du (bI 0)) (jz (n:=2) rfl (dH (bU (i:=1) gp.nd rfl (Or.inl rfl)) (dH (bU (i:=2) gp.nd rfl (Or.inl rfl)) gv)))
   (aT (dX av rfl (du (bI 0)) (jz (n:=2) rfl (dH (bU (i:=3) gp.nd rfl (Or.inl rfl)) (dH (bU (i:=4) gp.nd rfl (Or.inl rfl)) gv)))
    (aT (dm (oS nW nW nW (bI 1) (bI 3) (bI 2) (bI 4))
     (aT (bc (fR (g9 (fR (aL (bI 1) (aL (bI 2) aJ))) (g9 (fR (aL (bI 3) (aL (bI 4) aJ))) aJ)))))
     cv)))))
   (aT (bc gB)))),?_⟩
  nofun;refine⟨⟨_,cy.of b1⟩,gC (xs:=as.map V.ref) (λi σ H2=>∃x1 x2 x3 x4:Option V,σ=[some (.ref l),x1,x2,x3,x4]/\H2=H/\∀p∈ps.take i,∀q∈ps,dy p q=false) ⟨none,none,none,none,rfl,rfl,λp hp=>by simp at hp⟩ (λi σ H2 _ ⟨_,_,_,_,_,e,_⟩=>by rw[e];exact cy.of b1) ?_ ?_⟩
  ·rintro i x σ H2 hx ⟨x1,x2,x3,x4,rfl,rfl,hn⟩;obtain⟨a,p,rfl,hp,ta⟩:=bg i x hx;nofun;refine⟨_,eR.of ta,rfl,?_⟩;nofun;refine⟨⟨_,cy.of b1⟩,gC (xs:=as.map V.ref) (λj σ H3=>∃x3 x4:Option V,σ=[some (.ref l),some (.int p.1),some (.int p.2),x3,x4]/\H3=H2/\∀q∈ps.take j,dy p q=false) ⟨x3,x4,rfl,rfl,λp hp=>by simp at hp⟩ (λi σ H2 _ ⟨_,_,_,e,_⟩=>by rw[e];exact cy.of b1) ?_ ?_⟩
   ·rintro j y σ H3 hy ⟨y3,y4,rfl,rfl,hm⟩;obtain⟨c,q,rfl,hq,tc⟩:=bg j y hy;nofun;refine⟨_,eR.of tc,rfl,?_⟩;nofun;have nx:dy p q=false->∃x3 x4:Option V,[some (V.ref l),some (V.int p.1),some (V.int p.2),some (V.int q.1),some (V.int q.2)]=[some (V.ref l),some (V.int p.1),some (V.int p.2),x3,x4]/\True/\∀q∈ps.take (j+1),dy p q=false:=λe=>by
     refine⟨_,_,rfl,trivial,λq' hq'=>?_⟩;rw[bD,hq] at hq';rcases aE.mp hq' with z | z
     ·exact hm q' z
     ·have e':q'=q:=by simpa using z
      rw[e'];exact e
    refine kY (λh1=>kY (λh2=>kY (λh3=>?_) (λh3=>nx (by simp[dy,h3]))) (λh2=>nx (by simp[dy,h2]))) (λh1=>nx (by simp[dy,h1]));refine⟨(by show 2<=sizeLine;decide),λt1 n1=>⟨(by show 2<=sizeLine;decide),λt2 n2=>⟨(by show 2<=sizeLine;decide),λt3 n3=>?_⟩⟩⟩;have s1:ao H3 (upd H3 t1 (.tup [.int p.1,.int p.2])):=(ao.refl _).new n1;have s2:=s1.new (o:=.tup [.int q.1,.int q.2]) (s1.free n2);have s3:=s2.new (o:=.tup [.ref t1,.ref t2]) (s2.free n3);have e12:t1≠t2:=λe=>by subst e;rw[aG] at n2;cases n2
    have e23:t2≠t3:=λe=>by subst e;rw[aG] at n3;cases n3
    have e13:t1≠t3:=λe=>by subst e;rw[aX e12,aG] at n3;cases n3
    refine qs p (ax hp) q (ax hq) (by simp[dy,h1,h2,h3]) t3 t1 t2 _ (s2.free n3) s3 aG ?_ ?_
    ·show upd _ _ _ t1=_;rw[aX e13,aX e12,aG]
    ·show upd _ _ _ t2=_;rw[aX e23,aG]
   ·rintro σ H3 ⟨y3,y4,rfl,rfl,hm⟩;refine⟨_,_,y3,y4,rfl,rfl,λp' hp'=>?_⟩;rw[bD,hp] at hp';rcases aE.mp hp' with z | z
    ·exact hn p' z
    ·have e:p'=p:=by simpa using z
     subst e;intro q hq;refine hm q ?_;rw[aC,bl,cF];exact hq
  ·rintro σ H2 ⟨x1,x2,x3,x4,rfl,rfl,hn⟩;nofun;refine qn λp hp=>hn p ?_;rw[aC,bl,cF];exact hp
theorem ue (JB:∃a,mg "SIDES"=some (.ref a)/\∀H,eR K H a (([("l":Str),"r"]:List Str).map V.str)) (E:Fn K mg "is_side" i0 ["thing"]):gV P w K mg base 1 "is_side" i0 ["thing"] sO:=E.mk' λf fd F=>by
 refine F.okS uT (λvs H Q E h=>?_) (λcdv A outer s H vs Q E hr h=>?_)
 ·obtain⟨x,d,rfl,_⟩:=h;rfl
 ·obtain⟨x,d,rfl,hd,pl,q⟩:=h;refine⟨[some x],_,rfl,(L2.lJ.h (aT (bc (j7 (zw (A6 hr)) (bI 0) (qG (by rfl) JB) (by with_unfolding_all rfl))))),?_⟩;nofun;intro a ha;refine⟨d,[.str (Str.ofString "l"),.str (Str.ofString "r")],a,_,hd.rep,rfl,.inr (ha H),.cons (.str _) (.cons (.str _) .nil),pl.lay,by decide +kernel,pl.deep,?_⟩;rw[zV];exact q
theorem pX (E:Fn K mg "other_side" eX ["side"]):gV P w K mg base 1 "other_side" eX ["side"] qf:=E.mk' λf fd F=>by
 refine F.okS pU (λvs H Q E h=>?_) (λcdv A outer s H vs Q E hr h=>?_)
 ·obtain⟨b,rfl,_⟩:=h;rfl
 ·obtain⟨b,rfl,q⟩:=h;refine⟨[some (.str (sd b))],_,rfl,(L2.lJ.h (aT (bc (fG (bp ij (bI 0) bq (cu _)) bq bq)))),?_⟩;nofun;simp only[Ft];refine kY (λh=>?_) (λh=>?_)
  ·subst h;exact q
  ·have e:b=true:=by cases b;exact absurd rfl h;rfl
   subst e;exact q
theorem n9 (E:Fn K mg "side_of_step" eI ["maze","step"]) (d7:gV P w K mg base 1 "other_side" eX ["side"] qf):gV P w K mg base 2 "side_of_step" eI ["maze","step"] sJ:=E.mk' λf fd F=>by
 refine F.okS kP (λvs H Q E h=>?_) (λcdv A outer s H vs Q E hr h=>?_)
 ·obtain⟨m,o,b,ns,k,rfl,_⟩:=h;rfl
 ·obtain⟨m,o,b,ns,k,rfl,hm,q⟩:=h;refine⟨[some (.ref m),some (.int k),none],_,rfl,(L2.lJ.h (aO (bF (i:=2) kP.nd rfl (Or.inl rfl) (dB kH (bI 0) aU (λ_ _=>rfl)))
   (aT (bc (fG (bp ij (bA jK (bI 1) aU) aU (cu _)) (bI 2) (bP d7 (hr.mono (by decide)) (by rfl) (aL (bI 2) aJ))))))),?_⟩
  nofun;refine⟨_,_,eR.of hm.1,rfl,?_⟩;refine⟨by decide,kY (λh=>?_) (λh=>?_)⟩
  ·have e:odd k=false:=by simp[odd];lia
   rw[e,Bool.xor_false] at q;exact q
  ·have e:odd k=true:=by simp[odd];lia
   rw[e,Bool.xor_true] at q;exact⟨b,rfl,q⟩
theorem oY (B:uG mg) (E:Fn K mg "rows_of_way" fE ["maze"]):gV P w K mg base 1 "rows_of_way" fE ["maze"] zP:=E.mk' λf fd F=>by
 refine F.okS kj (λvs H Q E h=>?_) (λcdv A outer s H vs Q E hr h=>?_)
 ·obtain⟨m,o,b,ns,rfl,_⟩:=h;rfl
 ·obtain⟨m,o,b,ns,rfl,hm,hl,q⟩:=h;refine⟨[some (.ref m),none],_,rfl,(L2.lJ.h (aO (bF (i:=1) kj.nd rfl (Or.inl rfl) (dB kH (bI 0) aU (λ_ _=>rfl)))
   (aT (bc (bA qw (bA qw (eB (dD aU aJ)) (g6 mn (by rfl) B.list gG (aL (bI 1) aJ))) (eB (de (bA fO (cC eh (by rfl) B.len cL (aL (bI 1) aJ)) aU) aJ))))))),?_⟩
  nofun;refine⟨_,_,eR.of hm.1,rfl,(by show 1<=sizeLine;decide),λp1 n1=>?_⟩;have s1:=(ao.refl H).new (o:=.lst [.int 0]) n1;refine⟨o,_,rfl,.inr (eR.of (s1 _ _ hm.2)),λp2 n2=>?_⟩;have s2:=s1.new (o:=.lst (ns.map V.int)) (s1.free n2);have e12:p1≠p2:=λe=>by subst e;rw[aG] at n2;cases n2
  refine⟨p1,p2,_,_,rfl,rfl,by rw[aX e12,aG],aG,cN (cS (by simp;lia)),λp3 n3=>?_⟩;have s3:=s2.new (o:=.lst ([.int 0]++ns.map V.int)) (s2.free n3);refine⟨o,_,rfl,.inr (eR.of (s3 _ _ hm.2)),(by show 1<=sizeLine;decide),λp4 n4=>?_⟩;have s4:=s3.new (o:=.lst [.int (((ns.map V.int).length:Int)+1)]) (s3.free n4);have e34:p3≠p4:=λe=>by subst e;rw[aG] at n4;cases n4
  refine⟨p3,p4,_,_,rfl,rfl,by rw[aX e34,aG],aG,cN (cS (by simp;lia)),λp5 n5=>?_⟩;have s5:=s4.new (o:=.lst ([.int 0]++ns.map V.int++[.int (((ns.map V.int).length:Int)+1)])) (s4.free n5);refine q p5 _ (s4.free n5) s5 ?_;rw[aG];simp[d9]
theorem ul (B:uG mg) (E:Fn K mg "bows_of" i9 ["maze"]) (Ih:gV P w K mg base 2 "side_of_step" eI ["maze","step"] sJ) (Il:gV P w K mg base 1 "rows_of_way" fE ["maze"] zP):gV P w K mg base 3 "bows_of" i9 ["maze"] sQ:=E.mk' λf fd F=>by
 refine F.okS ic (λvs H Q E h=>?_) (λcdv A outer s H vs Q E hr h=>?_)
 ·obtain⟨m,o,b,ns,rfl,_⟩:=h;rfl
 ·obtain⟨m,o,b,ns,rfl,hm,O,q⟩:=h;have hlen:=O.len;refine⟨[some (.ref m),none,none,none,none],_,rfl,(L2.lJ.h (aO (bF (i:=1) ic.nd rfl (Or.inl rfl) (bP Il (hr.mono (by decide)) (by rfl) (aL (bI 0) aJ)))
   (aO (bF (i:=2) ic.nd rfl (Or.inl rfl) (sn (lW bq (eB aJ) (lW bq (eB aJ) se)) rfl rfl (λz=>nomatch z) (by decide)))
   (aO (dX av rfl (jy (by rfl) B.range (de (bA mH (cC eh (by rfl) B.len cL (aL (bI 1) aJ)) aU) aJ)) (bU (i:=3) ic.nd rfl (Or.inl rfl))
   (aO (bF (i:=4) ic.nd rfl (Or.inl rfl) (g6 jN (by rfl) B.tuple fv (eJ (cC je (by rfl) B.sorted cg (cG (g0 qi (bI 1) (gu (bI 3)) (gu (bA fO (bI 3) aU))) aJ)) aJ)))
    (aT (gq (jJ cE dQ dP jb (ig (ni hr) (bI 2) (bP Ih (hr.mono (by decide)) (by rfl) (aL (bI 0) (aL (bI 3) aJ))) (λ_ _=>rfl)) (aL (bI 4) aJ))))))
   (aT (bc (fR (eJ (cC jf (by rfl) B.sorted cg (cG (ig (ni hr) (bI 2) bq (λ_ _=>rfl)) aJ)) (eJ (cC jf (by rfl) B.sorted cg (cG (ig (ni hr) (bI 2) bq (λ_ _=>rfl)) aJ)) aJ))))))))),?_⟩
  nofun;refine⟨m,o,b,ns,rfl,hm,by lia,λrl H1 nrl s1 hrl=>?_⟩;nofun;intro d nd;have sd1:=s1.new (o:=.dK []) (s1.free nd);refine⟨a6 _,λl1 nl1=>?_⟩;have edl:d≠l1:=λe=>by subst e;rw[aG] at nl1;cases nl1
  have sl1:=sd1.new (o:=.lst []) (sd1.free nl1);refine⟨a6 _,λr1 nr1=>?_⟩;have edr:d≠r1:=λe=>by subst e;rw[aX edl,aG] at nr1;cases nr1
  have elr:l1≠r1:=λe=>by subst e;rw[aG] at nr1;cases nr1
  have sr1:=sl1.new (o:=.lst []) (sl1.free nr1);refine⟨by rw[aX edr,aX edl,aG],[(.inr (Str.ofString "l"),.ref l1),(.inr (Str.ofString "r"),.ref r1)],rfl,(by show 2<=15;decide),?_⟩;have fd0:H d=none:=s1.free nd;have fl0:H l1=none:=sd1.free nl1;have fr0:H r1=none:=sl1.free nr1;have erl:rl≠d:=bK hrl nd;have erl1:rl≠l1:=bK (((ao.refl H1).new (o:=.dK []) nd) _ _ hrl) nl1;have erl2:rl≠r1:=bK ((((ao.refl H1).new (o:=.dK []) nd).new (o:=.lst []) (((ao.refl H1).new (o:=.dK []) nd).free nl1)) _ _ hrl) nr1;generalize hkv:mJ [] [((.inr (Str.ofString "l"):Key),V.ref l1),(.inr (Str.ofString "r"),.ref r1)]=kvs;have kl:fg kvs (.inr (Str.ofString "l"))=some (.ref l1):=by subst hkv;rfl
  have kr:fg kvs (.inr (Str.ofString "r"))=some (.ref r1):=by subst hkv;rfl
  have ks:∀s:Bool,fg kvs (.inr (sd s))=some (.ref (if s then r1 else l1)):=λs=>by cases s;exact kl;exact kr
  refine⟨_,.inl (cy.of (by rw[aX erl,aX erl2,aX erl1,aX erl];exact hrl)),by rw[aC,fq];lia,by rw[aC,fq];lia,?_⟩;have eN:(((d9 ns).map V.int).length - 1:Int).toNat=ns.length+1:=by rw[aC,fq];lia
  rw[eN];refine l3 (n:=ns.length+1) (λi σ H2=>∃(x3 x4:Option V),σ=[some (.ref m),some (.ref rl),some (.ref d),x3,x4]/\ao H H2/\H2 rl=some (.lst ((d9 ns).map V.int))/\H2 d=some (.dK kvs)/\fQ H2 l1 (aV b ns false i)/\fQ H2 r1 (aV b ns true i))
   ⟨none,none,rfl,sr1.new fd0,by rw[aX erl,aX erl2,aX erl1,aX erl];exact hrl,aG,⟨[],by rw[aX edl.symm,aX elr,aG];rfl,.nil⟩,⟨[],by rw[aX edr.symm,aG];rfl,.nil⟩⟩ ?_ ?_
  ·rintro i σ H2 hi ⟨x3,x4,rfl,sm,hrl2,hd2,bl,br⟩;nofun;refine⟨rl,_,rfl,cy.of hrl2,λp1 n1=>?_⟩;rw[CH (by lia)];have t1:=(ao.refl H2).new (o:=.lst ([ah ns i,ah ns (i+1)].map V.int)) n1;refine⟨p1,_,rfl,cy.of aG,(by show 2<64;decide),λp2 ms n2 hp hs=>?_⟩;rw[uI hp hs];have t2:=t1.new (o:=.lst ([min (ah ns i) (ah ns (i+1)),max (ah ns i) (ah ns (i+1))].map V.int)) (t1.free n2);refine⟨p2,_,rfl,.inl ⟨cy.of aG,λt n3=>?_⟩⟩;have t3:=t2.new (o:=.tup ([min (ah ns i) (ah ns (i+1)),max (ah ns i) (ah ns (i+1))].map V.int)) (t2.free n3);have sm3:=sm.trans t3;refine⟨m,o,b,ns,i,by simp,hm.same sm3,?_⟩;have bl3:=bl.same t3;have br3:=br.same t3;refine⟨_,.inl ⟨kvs,.inr (sd (b ^^ odd i)),.inl (t3 _ _ hd2),rfl,(ks _).symm⟩,?_⟩;have tt:f6 (upd (upd (upd H2 p1 (.lst ([ah ns i,ah ns (i+1)].map V.int))) p2 (.lst ([min (ah ns i) (ah ns (i+1)),max (ah ns i) (ah ns (i+1))].map V.int))) t (.tup ([min (ah ns i) (ah ns (i+1)),max (ah ns i) (ah ns (i+1))].map V.int))) t (f7 ns i):=aG;generalize upd (upd (upd H2 p1 (.lst ([ah ns i,ah ns (i+1)].map V.int))) p2 (.lst ([min (ah ns i) (ah ns (i+1)),max (ah ns i) (ah ns (i+1))].map V.int))) t (.tup ([min (ah ns i) (ah ns (i+1)),max (ah ns i) (ah ns (i+1))].map V.int))=H3 at *;cases hs:(b ^^ odd i) with
   | false=>
    have h1:cZ b false i=true:=by simp[cZ,hs]
    have h2:cZ b true i=false:=by simp[cZ,hs]
    rw[mW h1,nR h2];obtain⟨as,b1,b2⟩:=bl3;have ha:as.length=(aV b ns false i).length:=bu b2;have:=iR b ns false i;refine⟨mT b1,l1,as.map V.ref,_,rfl,rfl,b1,by rw[aC];exact cS (by lia),_,_,rfl,sm3.new fl0,by rw[aX erl1];exact t3 _ _ hrl2,by rw[aX edl];exact t3 _ _ hd2,qQ b1 b2 tt,uA br3 b1 elr.symm⟩
   | true=>
    have h1:cZ b true i=true:=by simp[cZ,hs]
    have h2:cZ b false i=false:=by simp[cZ,hs]
    rw[mW h1,nR h2];obtain⟨as,b1,b2⟩:=br3;have ha:as.length=(aV b ns true i).length:=bu b2;have:=iR b ns true i;refine⟨mT b1,r1,as.map V.ref,_,rfl,rfl,b1,by rw[aC];exact cS (by lia),_,_,rfl,sm3.new fr0,by rw[aX erl2];exact t3 _ _ hrl2,by rw[aX edr];exact t3 _ _ hd2,uA bl3 b1 elr,qQ b1 b2 tt⟩
  ·rintro σ H2 ⟨x3,x4,rfl,sm,hrl2,hd2,bl,br⟩;nofun;have bnd:∀s,∀p∈aV b ns s (ns.length+1),0<=p.2/\p.2<1000:=λs p hp=>by
    obtain⟨i,hi,_,rfl⟩:=f9 hp;have:=O.step_in (i:=i) (by lia);have:=O.step_lt (i:=i) (by lia);lia
   obtain⟨as,b1,b2⟩:=bl;have:=iR b ns false (ns.length+1);refine⟨_,.inl ⟨kvs,.inr (Str.ofString "l"),.inl hd2,rfl,kl.symm⟩,l1,as,_,rfl,cy.of b1,b2,by lia,bnd false,λl as' L nl hP hp hs=>?_⟩;have t1:=(ao.refl H2).new (o:=.lst (as'.map V.ref)) nl;obtain⟨bs,c1,c2⟩:=br.same t1;have:=iR b ns true (ns.length+1);refine⟨_,.inl ⟨kvs,.inr (Str.ofString "r"),.inl (t1 _ _ hd2),rfl,kr.symm⟩,r1,bs,_,rfl,cy.of c1,c2,by lia,bnd true,λr bs' R nr hP2 hp2 hs2=>?_⟩;have t2:=(ao.refl (upd H2 l (.lst (as'.map V.ref)))).new (o:=.lst (bs'.map V.ref)) nr;refine⟨(by show 2<=sizeLine;decide),λt nt=>?_⟩;have t3:=(ao.refl (upd (upd H2 l (.lst (as'.map V.ref))) r (.lst (bs'.map V.ref)))).new (o:=.tup [.ref l,.ref r]) nt;have elr2:l≠r:=λe=>by subst e;rw[aG] at nr;cases nr
   refine q t l r L R _ (sm.free (t1.free (t2.free nt))) (sm.free nl) (sm.free (t1.free nr)) (((sm.trans t1).trans t2).trans t3) ⟨aG,?_,?_,⟨hp,hs⟩,⟨hp2,hs2⟩,elr2⟩
   ·exact((qR (l:=l) hP nl).same t2).same t3
   ·exact(qR (l:=r) hP2 nr).same t3
theorem uh (B:uG mg) (JB:∃a,mg "SIDES"=some (.ref a)/\∀H,eR K H a (([("l":Str),"r"]:List Str).map V.str)) (E:Fn K mg "crossed" i6 ["maze"]) (JM:gV P w K mg base 3 "bows_of" i9 ["maze"] sQ) (JE:gV P w K mg base 1 "crossing" gX ["bows"] oK):gV P w K mg base 4 "crossed" i6 ["maze"] qA:=E.mk' λf fd F=>by
 refine F.okS jw (λvs H Q E h=>?_) (λcdv A outer s H vs Q E hr h=>?_)
 ·obtain⟨m,o,b,ns,rfl,_⟩:=h;rfl
 ·obtain⟨m,o,b,ns,rfl,hm,O,qn,qc⟩:=h;refine⟨[some (.ref m),none,none,none],_,rfl,(L2.lJ.h (aO (dX av rfl (ze (by rfl) B.zip (aL (qG (by rfl) JB) (eJ (bP JM (hr.mono (by decide)) (by rfl) (aL (bI 0) aJ)) aJ))) (jz (n:=2) rfl (dH (bU (i:=1) jw.nd rfl (Or.inl rfl)) (dH (bU (i:=2) jw.nd rfl (Or.inl rfl)) gv)))
   (aO (bF (i:=3) jw.nd rfl (Or.inl rfl) (bP JE (hr.mono (by decide)) (by rfl) (aL (bI 2) aJ)))
    (aT (dm (bp vz (bI 3) gB (cu _))
    (aT (bc (fR (aL (bI 1) (cG (dB kH (bI 3) aU (λ_ _=>rfl)) (cG (dB kH (bI 3) aU (λ_ _=>rfl)) aJ))))))
    cv))))
   (aT (bc gB)))),?_⟩
  nofun;intro a ha;refine⟨m,o,b,ns,rfl,hm,O,λt l r L R H1 nt nl nr s1 BO=>⟨a,t,rfl,⟨_,ha _⟩,⟨_,eR.of BO.tup⟩,?_⟩⟩;refine Ab (xs:=[V.str (sd false),.str (sd true)]) (ys:=[.ref l,.ref r]) (aB _) (λi σ H'=>∃x1 x2 x3:Option V,σ=[some (.ref m),x1,x2,x3]/\ao H1 H'/\∀u:Bool,(if u then 2 else 1)<=i->∀p∈aV b ns u (ns.length+1),∀q∈aV b ns u (ns.length+1),dy p q=false)
   ⟨_,_,_,rfl,ao.refl _,λu hu=>by cases u<;>simp at hu⟩ (λi σ H' ⟨_,_,_,_,s2,_⟩=>⟨ha _,eR.of (s2 _ _ BO.tup)⟩) ?_ ?_
  ·rintro i x y σ H2 p hx hy ⟨x1,x2,x3,rfl,s2,hn⟩ np;obtain⟨u,lu,S,rfl,rfl,hBS,hS,hi⟩:∃(u:Bool) (lu:Addr) (S:List Bw),x=.str (sd u)/\y=.ref lu/\fQ H2 lu S/\vJ b ns u S/\i+1=(if u then 2 else 1):=by
    match i,hx,hy with
    | 0,hx,hy=>cases hx;cases hy;exact⟨false,l,L,rfl,rfl,BO.left.same s2,BO.isL,rfl⟩
    | 1,hx,hy=>cases hx;cases hy;exact⟨true,r,R,rfl,rfl,BO.right.same s2,BO.isR,rfl⟩
    | j+2,hx,hy=>simp at hx
   nofun;refine⟨_,eR.of aG,rfl,?_⟩;have s3:=(ao.refl H2).new (o:=.tup [.str (sd u),.ref lu]) np;nofun;refine⟨lu,S,rfl,hBS.same s3,λhc=>⟨trivial,?_⟩,λe1 h1 e2 h2 z t2 a2 b2 H3 nt2 s4 ht2 ta tb=>⟨trivial,?_⟩⟩
   ·nofun;refine lh (λz=>z trivial) ⟨_,_,_,rfl,s2.trans s3,λv hv=>?_⟩;by_cases e:v=u
    ·subst e;exact λp hp q hq=>hc p (hS.perm.mem_iff.mpr hp) q (hS.perm.mem_iff.mpr hq)
    ·refine hn v ?_;cases u<;>cases v<;>simp_all
   ·nofun;refine rh (λz=>nomatch z) ⟨_,_,eR.of ht2,rfl,_,_,eR.of ht2,rfl,(by show 3<=sizeLine;decide),λt3 nt3=>?_⟩;have s5:=(ao.refl H3).new (o:=.tup [.str (sd u),.ref a2,.ref b2]) nt3;exact qc u e1 (hS.perm.mem_iff.mp h1) e2 (hS.perm.mem_iff.mp h2) z t3 _ ((((s1.trans s2).trans s3).trans s4).trans s5) ⟨a2,b2,aG,s5 _ _ ta,s5 _ _ tb⟩
  ·rintro σ H2 ⟨x1,x2,x3,rfl,s2,hn⟩;nofun;exact qn (λu=>hn u (by cases u<;>decide)) _ (s1.trans s2)
theorem AC (E:Fn K mg "begun" jx ["side"]):gV P w K mg base 1 "begun" jx ["side"] qg:=E.mk' λf fd F=>by
 refine F.okS za (λvs H Q E h=>?_) (λcdv A outer s H vs Q E hr h=>?_)
 ·obtain⟨c,rfl,_⟩:=h;rfl
 ·obtain⟨c,rfl,q⟩:=h;refine⟨[some (.str ⟨#[c]⟩)],_,rfl,(L2.lJ.h (aT (bc (fG (bp ij (bI 0) bq (cu _)) bq bq)))),?_⟩;nofun;rw[IT,HM,HP];simp only[iI];unfold mV at q;refine kY (λh=>?_) (λh=>?_)
  ·rw[LM h] at q;dsimp only at q;rw[Fl] at q;exact q
  ·rw[LL h] at q;dsimp only at q;rw[Fk] at q;exact q
theorem pY (B:uG mg) (E:Fn K mg "leading_on" eY ["state"]):gV P w K mg base 1 "leading_on" eY ["state"] uO:=E.mk' λf fd F=>by
 refine F.okS pV (λvs H Q E h=>?_) (λcdv A outer s H vs Q E hr h=>?_)
 ·obtain⟨L,R,rfl,_⟩:=h;rfl
 ·obtain⟨L,R,rfl,hl,q⟩:=h;refine⟨[some (.str (tx (mR L R)))],_,rfl,(L2.lJ.h (aT (bc (bA mH (cC gD (by rfl) B.len cL (aL (bI 0) aJ)) aU)))),?_⟩;nofun;rw[cK,ve];refine⟨nv (by lia),?_⟩;have e:((L.length+R.length+1:Nat):Int) - 1=((L.length+R.length:Nat):Int):=by lia
  rw[e];exact q
theorem qx (E:Fn K mg "other_end" fm ["signs","place"]):gV P w K mg base 1 "other_end" fm ["signs","place"] sK:=E.mk' λf fd F=>by
 refine F.okS eW (λvs H Q E h=>?_) (λcdv A outer s H vs Q E hr h=>?_)
 ·obtain⟨a,cs,p,q,rfl,_⟩:=h;rfl
 ·obtain⟨a,cs,p,q,rfl,ha,hl,far,hq⟩:=h;have rd:∀(i c:Nat),cs[i]? = some c->uC (cs.map pT) (i:Int)=some (V.str ⟨#[c]⟩):=λi c h=>l4 (by rw[bV,h];rfl);refine⟨[some (.ref a),some (.int (p:Nat)),none,none,none],_,rfl,(L2.lJ.h (aO (dm (bp ij (dB fJ (bI 0) (bI 1) (λ_ _=>rfl)) bq (cu _))
   (aT (bc (bI 1)))
   cv)
   (aO (bF (i:=2) eW.nd rfl (Or.inl rfl) (fG (bp ij (dB fJ (bI 0) (bI 1) (λ_ _=>rfl)) bq (cu _)) aU (oU oG aU)))
   (aO (bF (i:=3) eW.nd rfl (Or.inl rfl) (bI 2))
   (aO (bF (i:=4) eW.nd rfl (Or.inl rfl) (bI 1))
   (aO (nC av (bp tE (bI 3) aU (cu _))
   (aO (qr (i:=4) eW.nd rfl (Or.inl rfl) (bI 2) AZ)
    (aT (dm (bp ij (dB fJ (bI 0) (bI 4) (λ_ _=>rfl)) bq (cu _))
    (aT (qr (i:=3) eW.nd rfl (Or.inl rfl) aU AZ))
    (aT (dm (bp ij (dB fJ (bI 0) (bI 4) (λ_ _=>rfl)) bq (cu _))
     (aT (qr (i:=3) eW.nd rfl (Or.inl rfl) aU E6))
     cv))))))
   (aT (bc (bI 4))))))))),?_⟩
  rcases far.walk with ⟨h0,rfl⟩ | ⟨st,n,d,hs,d0,dn,dz,eq,pP⟩
  ·nofun;refine⟨_,_,cy.of ha,rd _ _ h0,?_⟩;nofun;rw[pW,qj];simp only[iI,LR];exact hq
  ·rcases hs with ⟨rfl,h0⟩ | ⟨rfl,h0⟩
   ·nofun;refine⟨_,_,cy.of ha,rd _ _ h0,?_⟩;nofun;simp only[pW,qj,sV,iI];refine lh (by decide) ⟨_,_,cy.of ha,rd _ _ h0,?_⟩;nofun;simp only[pW,qj,sV,iI];refine rh (by decide) ?_;refine⟨λm σ H3=>∃j:Nat,j<=n/\m=n-j/\σ=[some (.ref a),some (.int (p:Nat)),some (.int 1),some (.int (d j)),some (.int ((p:Int)+1*j))]/\H3=H,⟨_,0,a6 _,rfl,by simp[d0],rfl⟩,?_⟩;rintro m σ H3 ⟨j,hj,rfl,rfl,rfl⟩;nofun;refine kY (λh=>?_) (λh=>?_)
    ·have hjn:j<n:=by
      rcases fU j n with z | z
      ·exact z
      ·have:j=n:=by lia
       subst this;exact absurd dz h
     obtain⟨i,c,ei,hc,ed⟩:=pP j hjn;rw[ei];refine⟨_,λ_ _ z=>z,_,_,cy.of ha,rd _ _ hc,?_⟩;nofun;simp only[pW,qj,sV,iI];have fin:d (j+1)=d j+vl c:=ed;unfold vl at fin;have ej:(p:Int)+1*((j+1:Nat):Int)=i:=by rw[<-ei];lia
     refine kY (λhc1=>?_) (λhc1=>⟨_,_,cy.of ha,rd _ _ hc,?_⟩)
     ·rw[LM hc1] at fin;exact⟨n-(j+1),by lia,j+1,hjn,rfl,by rw[fin,ej],trivial⟩
     ·nofun;simp only[pW,qj,sV,iI];rw[LL hc1] at fin;refine kY (λhc2=>?_) (λhc2=>?_)
      ·rw[LM hc2] at fin;exact⟨n-(j+1),by lia,j+1,hjn,rfl,by rw[fin,ej];rfl,trivial⟩
      ·rw[LL hc2] at fin;exact⟨n-(j+1),by lia,j+1,hjn,rfl,by rw[fin,ej,Int.add_zero],trivial⟩
    ·have hjn:j=n:=by
      rcases fU j n with z | z
      ·exact absurd (Classical.not_not.mp h) (dn j z)
      ·lia
     subst hjn;rw[eq];exact hq
   ·nofun;refine⟨_,_,cy.of ha,rd _ _ h0,?_⟩;nofun;simp only[pW,qj,sV,iI];refine lh (by decide) ⟨_,_,cy.of ha,rd _ _ h0,?_⟩;nofun;simp only[pW,qj,sV,iI];refine lh (by decide) ?_;refine⟨λm σ H3=>∃j:Nat,j<=n/\m=n-j/\σ=[some (.ref a),some (.int (p:Nat)),some (.int (-1)),some (.int (d j)),some (.int ((p:Int)+(-1)*j))]/\H3=H,⟨_,0,a6 _,rfl,by simp[d0],rfl⟩,?_⟩;rintro m σ H3 ⟨j,hj,rfl,rfl,rfl⟩;nofun;refine kY (λh=>?_) (λh=>?_)
    ·have hjn:j<n:=by
      rcases fU j n with z | z
      ·exact z
      ·have:j=n:=by lia
       subst this;exact absurd dz h
     obtain⟨i,c,ei,hc,ed⟩:=pP j hjn;rw[ei];refine⟨_,λ_ _ z=>z,_,_,cy.of ha,rd _ _ hc,?_⟩;nofun;simp only[pW,qj,sV,iI];have fin:d (j+1)=d j+vl c:=ed;unfold vl at fin;have ej:(p:Int)+(-1)*((j+1:Nat):Int)=i:=by rw[<-ei];lia
     refine kY (λhc1=>?_) (λhc1=>⟨_,_,cy.of ha,rd _ _ hc,?_⟩)
     ·rw[LM hc1] at fin;exact⟨n-(j+1),by lia,j+1,hjn,rfl,by rw[fin,ej],trivial⟩
     ·nofun;simp only[pW,qj,sV,iI];rw[LL hc1] at fin;refine kY (λhc2=>?_) (λhc2=>?_)
      ·rw[LM hc2] at fin;exact⟨n-(j+1),by lia,j+1,hjn,rfl,by rw[fin,ej];rfl,trivial⟩
      ·rw[LL hc2] at fin;exact⟨n-(j+1),by lia,j+1,hjn,rfl,by rw[fin,ej,Int.add_zero],trivial⟩
    ·have hjn:j=n:=by
      rcases fU j n with z | z
      ·exact absurd (Classical.not_not.mp h) (dn j z)
      ·lia
     subst hjn;rw[eq];exact hq
theorem xQ (B:uG mg) (E:Fn K mg "joined" j4 ["left","right"]) (Ik:gV P w K mg base 1 "other_end" fm ["signs","place"] sK):gV P w K mg base 2 "joined" j4 ["left","right"] vi:=E.mk' λf fd F=>by
 refine F.okS fk (λvs H Q E h=>?_) (λcdv A outer s H vs Q E hr h=>?_)
 ·obtain⟨L,R,x,y,rfl,_⟩:=h;rfl
 ·obtain⟨L,R,x,y,rfl,EE,hl,q⟩:=h;have hA:=BW (P:=L) (Q:=R) (x:=x) (y:=y);have lA:(tx (bm [] (L++[x]))).length=L.length+1:=by rw[cK,cM];simp
  have lB:(tx (bm (L++[x]) (R++[y]).reverse)).length=R.length+1:=by rw[cK,cM];simp
  refine⟨[some (.str (tx (bm [] (L++[x])))),some (.str (tx (bm (L++[x]) (R++[y]).reverse))),none,none,none,none,none,none,none],_,rfl,(L2.lJ.h (aO (bF (i:=2) fk.nd rfl (Or.inl rfl) (g6 (p8 rfl) (by rfl) B.list gG (de (bA dZ (bI 0) (bI 1)) aJ)))
   (aO (bF (i:=3) fk.nd rfl (Or.inl rfl) (cC gD (by rfl) B.len cL (aL (bI 0) aJ)))
   (aO (bF (i:=4) fk.nd rfl (Or.inl rfl) (bA mH (bI 3) aU))
   (aO (bF (i:=5) fk.nd rfl (Or.inl rfl) (eB (eJ (bP Ik (hr.mono (by decide)) (by rfl) (aL (bI 2) (aL (bI 4) aJ))) (eJ (bP Ik (hr.mono (by decide)) (by rfl) (aL (bI 2) (aL (bI 3) aJ))) aJ))))
   (aO (dm (bp ij (dB fJ (bI 5) aU (λ_ _=>rfl)) (bI 3) (cu _))
   (aT (bc gB))
   cv)
   (dh (bF (i:=6) fk.nd rfl (Or.inl rfl) (fG (bp (zw (A6 hr)) bq (fR (cG (dB fJ (bI 2) (bI 4) (λ_ _=>rfl)) (cG (dB fJ (bI 2) (bI 3) (λ_ _=>rfl)) aJ))) (by with_unfolding_all rfl)) bq bq))
   (aO (dX av rfl (zf (by rfl) B.zip (eJ (cC je (by rfl) B.sorted cg (aL (bI 5) aJ)) (aL (bI 6) aJ))) (jz (n:=2) rfl (dH (bU (i:=7) fk.nd rfl (Or.inl rfl)) (dH (bU (i:=8) fk.nd rfl (Or.inl rfl)) gv)))
   (aT (B9 (bI 8) (Bb (bI 2) (bI 7) set_list))))
   (aT (bc (bA dZ (bA dZ (jJ gF k8 k6 wB bq (cG (g0 qi (bI 2) j6 (gu (bI 4))) aJ)) bq) (jJ gF k8 k6 wB bq (cG (g0 qi (bI 2) (gu (bA fO (bI 3) aU)) j6) aJ))))))))))))),?_⟩
  nofun;rw[eG,hA,my,nk,lA,lB,show (λc:Nat=>V.str (⟨#[c]⟩:Str))=pT from rfl];obtain⟨s0,s1⟩:=Fs (P:=L) (Q:=R.reverse) (x:=x) (y:=y);have c0:=uQ L x;have c1:=uQ (L++[x]) y;have z0:=sT (pre:=L) (x:=x) (EE.nn x (by simp));have z1:=sT (pre:=L++[x]) (x:=y) (EE.nn y (by simp));have lC:(bm [] (L++x::y::R.reverse)).length=L.length+R.length+2:=by rw[cM];simp;lia
  have e1:((L.length+1:Nat):Int) - 1=(L.length:Nat):=by lia
  rw[tU] at q;refine⟨nv (by lia),by lia,λl nl=>⟨nv (by lia),?_⟩⟩;rw[e1];by_cases exy:x=y
  ·subst exy;rw[LM rfl] at q;have f0:=Ae EE;have f1:=xm EE;refine⟨l,_,L.length,L.length+1,rfl,aG,by lia,f0,l,_,L.length+1,L.length,rfl,aG,by lia,f1,(by show 2<=sizeLine;decide),λp np=>⟨_,_,cy.of aG,rfl,?_⟩⟩;nofun;exact(q _ (((ao.refl H).new nl).trans ((ao.refl _).new np)))
  ·rw[LL exy] at q;obtain⟨q0,q1,f0,f1,n1,n2,b0,b1,m0,m1,hm,ht⟩:=Fm EE exy;generalize bm [] (L++x::y::R.reverse)=cs at *;have h1:upd H l (.lst (cs.map pT)) l=some (.lst (cs.map pT)):=aG;have sH:=(ao.refl H).new (o:=.lst (cs.map pT)) nl;refine⟨l,cs,L.length,q0,rfl,h1,by lia,f0,l,cs,L.length+1,q1,rfl,h1,by lia,f1,(by show 2<=sizeLine;decide),λp np=>⟨_,_,cy.of aG,rfl,?_⟩⟩;nofun;refine lh (by lia) ?_;have npl:l≠p:=bK h1 np;have h2:upd (upd H l (.lst (cs.map pT))) p (.lst [V.int q0,V.int q1]) l=some (.lst (cs.map pT)):=by rw[aX npl];exact h1
   have hp2:upd (upd H l (.lst (cs.map pT))) p (.lst [V.int q0,V.int q1]) p=some (.lst [V.int q0,V.int q1]):=aG;have s2:=sH.trans ((ao.refl _).new (o:=.lst [V.int q0,V.int q1]) np);generalize upd (upd H l (.lst (cs.map pT))) p (.lst [V.int q0,V.int q1])=H2 at h2 hp2 s2 ⊢;refine dL (λσ H'=>σ=[some (.str (tx (bm [] (L++[x])))),some (.str (tx (bm (L++[x]) (R++[y]).reverse))),some (.ref l),some (.int ((L.length+1:Nat):Int)),some (.int (L.length:Nat)),some (.ref p),some (.str (tx [m0,m1])),none,none]/\ao H2 H') ?_ ?_
   ·nofun;refine⟨_,pT (l8 L x),cy.of h2,l4 (by rw[bV,s0];rfl),_,pT (l8 (L++[x]) y),cy.of h2,l4 (by rw[bV,s1];rfl),(by show 2<=sizeLine;decide),λt nt=>A0 c0 c1 aG ⟨_,rfl,?_⟩⟩;simp only[HL,HN];rcases hm with ⟨hz,rfl,rfl⟩ | ⟨hz,rfl,rfl⟩
    ·refine rh ?_ ⟨rfl,(ao.refl _).new nt⟩;rcases hz with z | z
     ·rw[LP (z0.mpr z)];rfl
     ·rw[LP (z1.mpr z),Bool.or_true]
    ·refine lh ?_ ⟨rfl,(ao.refl _).new nt⟩;rw[LO (λz=>hz (.inl (z0.mp z))),LO (λz=>hz (.inr (z1.mp z)))];decide
   ·rintro σ H3 ⟨rfl,s3⟩;have hl3:=s3 _ _ h2;have s03:ao H H3:=s2.trans s3;have hz:(m0=42\/m0=40)/\(m1=42\/m1=41):=by rcases hm with ⟨_,rfl,rfl⟩ | ⟨_,rfl,rfl⟩<;>simp
    nofun;refine⟨p,[(q0:Int),(q1:Int)],rfl,cy.of (s3 _ _ hp2),(by show 2<64;decide),λl2 ms nl2 pm ps'=>?_⟩;have em:=zo pm ps';subst em;have nll:l≠l2:=bK hl3 nl2;refine⟨l2,tx [m0,m1],rfl,⟨_,cy.of aG⟩,zC (by intro c hc;simp at hc;lia),Ac (xs:=[V.int ((min q0 q1:Nat):Int),V.int ((max q0 q1:Nat):Int)]) (by rw[nk];exact aB 2)
     (λi σ H'=>∃x7 x8,σ=[some (.str (tx (bm [] (L++[x])))),some (.str (tx (bm (L++[x]) (R++[y]).reverse))),some (.ref l),some (.int ((L.length+1:Nat):Int)),some (.int (L.length:Nat)),some (.ref p),some (.str (tx [m0,m1])),x7,x8]/\ao H H'/\H' l2=some (.lst [V.int ((min q0 q1:Nat):Int),V.int ((max q0 q1:Nat):Int)]) ∧
      H' l=some (.lst ((match i with | 0=>cs | 1=>cs.set (min q0 q1) m0 | _=>(cs.set (min q0 q1) m0).set (max q0 q1) m1).map pT)))
     ⟨none,none,rfl,s03.trans ((ao.refl _).new nl2),aG,by rw[aX nll];exact hl3⟩ (λi σ H' ⟨_,_,_,_,e,_⟩=>cy.of e) ?_ ?_⟩
    ·rintro i v c σ H' t hv hc ⟨x7,x8,rfl,sm,h4,h5⟩ nt;have ntl:l≠t:=bK h5 nt;have ntl2:l2≠t:=bK h4 nt;nofun;refine⟨_,eR.of aG,rfl,?_⟩;nofun;have h5':upd H' t (.tup [v,V.str ⟨#[c]⟩]) l=H' l:=aX ntl;rw[h5] at h5';have sm2:ao H (upd H' t (.tup [v,V.str ⟨#[c]⟩])):=sm.trans ((ao.refl _).new nt)
     match i,hv,hc,h5' with
     | 0,hv,hc,h5'=>
      have ec:c=m0:=by simpa [tx] using hc.symm
      subst ec;cases hv;have h6:_=some (HO.lst (cs.map pT)):=h5';refine⟨l,_,_,min q0 q1,rfl,rfl,h6,?_,_,_,rfl,sm2.new nl,?_,?_⟩
      ·unfold Av;rw[aC,LM (by lia),LM (by lia),fL]
      ·rw[aX (cH nll),aX ntl2];exact h4
      ·rw[aG];exact congrArg (λz=>some (HO.lst z)) (zZ cs (min q0 q1) c)
     | 1,hv,hc,h5'=>
      have ec:c=m1:=by simpa [tx] using hc.symm
      subst ec;cases hv;have h6:_=some (HO.lst ((cs.set (min q0 q1) m0).map pT)):=h5';refine⟨l,_,_,max q0 q1,rfl,rfl,h6,?_,_,_,rfl,sm2.new nl,?_,?_⟩
      ·unfold Av;rw[aC,fB,LM (by lia),LM (by lia),fL]
      ·rw[aX (cH nll),aX ntl2];exact h4
      ·rw[aG];exact congrArg (λz=>some (HO.lst z)) (zZ (cs.set (min q0 q1) m0) (max q0 q1) c)
     | i+2,hv,_,_=>simp at hv
    ·rintro σ H' ⟨x7,x8,rfl,sm,h4,h5⟩;have h5:H' l=some (.lst (((cs.set (min q0 q1) m0).set (max q0 q1) m1).map pT)):=h5;have ld:((cs.set (min q0 q1) m0).set (max q0 q1) m1).length=L.length+R.length+2:=by rw[fB,fB,lC]
     generalize (cs.set (min q0 q1) m0).set (max q0 q1) m1=ds at h5 ld ht;nofun;refine⟨rfl,Dq h5 (by rw[aC];lia) λp1 H1 n1 t1 g1=>?_⟩;rw[<-List.map_take,vn] at g1;have lt1:(ds.take L.length).length<=900:=by rw[bS];lia
     refine⟨_,p1,_,rfl,rfl,cy.of g1,pp lt1,?_⟩;rw[v5,zb];refine⟨_,_,rfl,rfl,by rw[cK,cK];exact nv (by rw[bS];simp;lia),rfl,?_⟩;have e2:((L.length+1:Nat):Int)+1=((L.length+2:Nat):Int):=by lia
     rw[e2];refine zU (t1 _ _ h5) (by rw[aC];lia) λp2 H2' n2' t2 g2=>?_;rw[<-List.map_drop,vn] at g2;have lt2:(ds.drop (L.length+2)).length<=900:=by rw[cU];lia
     refine⟨_,p2,_,rfl,rfl,cy.of g2,pp lt2,?_⟩;rw[v5];refine⟨_,_,rfl,rfl,?_,?_⟩
     ·rw[eG,cK,cK];exact nv (by simp;lia)
     ·rw[eG,eG,aK,fI,ht];exact q _ (sm.trans (t1.trans t2))
theorem Bk (B:uG mg) (E:Fn K mg "step" mF ["state","letter"]) (J5:gV P w K mg base 2 "joined" j4 ["left","right"] vi):gV P w K mg base 3 "step" mF ["state","letter"] uN:=E.mk' λf fd F=>by
 refine F.okS ny (λvs H Q E h=>?_) (λcdv A outer s H vs Q E hr h=>?_)
 ·obtain⟨L,R,c,rfl,_⟩:=h;rfl
 ·obtain⟨L,R,c,rfl,hc,EE,hl,q⟩:=h;have l1:=cM L [];have l2:(bm L R.reverse).length=R.length:=by rw[cM];simp
  have sp:Txt.split (tx (mR L R)) (Str.ofString "|")=[tx (bm [] L),tx (bm L R.reverse)]:=by rw[zb];exact wt (AJ [] L) (AJ L R.reverse)
  refine⟨[some (.str (tx (mR L R))),some (.str ⟨#[c]⟩),none,none,none],_,rfl,(L2.lJ.h (aO (bF (i:=2) ny.nd rfl (Or.inl rfl) (jJ gF PySem.F.slot_str_split PySem.F.type_str_split AM (bI 0) (dD bq aJ)))
   (aO (bF (i:=3) ny.nd rfl (Or.inl rfl) (dB fJ (bI 2) aU (λ_ _=>rfl)))
   (aO (bF (i:=4) ny.nd rfl (Or.inl rfl) (dB fJ (bI 2) aU (λ_ _=>rfl)))
   (aO (dm (bp ij (bI 1) bq (cu _))
   (aT (bc (bA dZ (bA dZ (bI 3) bq) (bI 4))))
   cv)
   (aO (dm (bp ij (bI 1) bq (cu _))
   (aT (bc (fG (j5 (bI 4) (λ_=>rfl)) (bA dZ (bA dZ (bA dZ (bI 3) (dB oj (bI 4) aU (λ_ _=>rfl))) bq) (g0 zT (bI 4) (gu aU) j6)) gB)))
   cv)
   (aO (dm (bp ij (bI 1) bq (cu _))
   (aT (bc (fG (j5 (bI 3) (λ_=>rfl)) (bA dZ (bA dZ (bA dZ (g0 zT (bI 3) j6 (gu (oU oG aU))) bq) (dB oj (bI 3) (oU oG aU) (λ_ _=>rfl))) (bI 4)) gB)))
   cv)
   (aT (bc (fG (QW.pt (vy (j5 (bI 3) (λ_=>rfl)) (sY (j5 (bI 4) (λ_=>rfl))))) (bP J5 (hr.mono (by decide)) (by rfl) (aL (bI 3) (aL (bI 4) aJ))) gB)))))))))),?_⟩
  nofun;refine⟨rfl,tx (mR L R),_,rfl,rfl,by decide +kernel,by rw[cK,ve];lia,λl nl=>?_⟩;rw[sp];refine⟨l,_,0,.str (tx (bm [] L)),rfl,rfl,cy.of aG,rfl,?_⟩;refine⟨l,_,1,.str (tx (bm L R.reverse)),rfl,rfl,cy.of aG,rfl,?_⟩;simp only[IX,IW,IV,IU,zb,Fu,iI];have sH:=(ao.refl H).new (o:=.lst (List.map V.str [tx (bm [] L),tx (bm L R.reverse)])) nl;generalize upd H l (.lst (List.map V.str [tx (bm [] L),tx (bm L R.reverse)]))=H1 at *;have qq:=q H1 sH;clear sp nl;rcases hc with rfl | rfl | rfl | rfl
  ·refine rh rfl ⟨_,_,rfl,rfl,?_,_,_,rfl,rfl,?_,?_⟩
   ·rw[cK,cK];exact nv (by simp;lia)
   ·rw[eG,cK,cK];exact nv (by simp;lia)
   ·rw[eG,eG,Fq EE];exact qq
  ·refine lh (by decide) (rh rfl ?_);by_cases hR:R=[]
   ·subst hR;rw[rJ] at qq;exact⟨_,jv (by lia),lh (by simp[bm]) qq⟩
   ·obtain⟨R',v,rfl⟩:=dO hR;rw[tW] at qq;rw[uR] at l2 ⊢;simp at l2 hl;refine⟨_,jv (by simp;lia),rh rfl ⟨_,0,l8 L v,rfl,rfl,?_,F4 (i:=0) rfl,_,_,rfl,rfl,?_,?_,?_⟩⟩
    ·rw[cK];exact nv (by simp;lia)
    ·rw[mI,cK,cK];exact nv (by simp;lia)
    ·rw[mI,eG,cK,cK];exact nv (by simp;lia)
    ·have e:=BM (cs:=l8 L v::bm (L++[v]) R'.reverse) (p:=1) (by simp);refine⟨_,rfl,?_,?_⟩
     ·rw[cK];exact nv (by simp;lia)
     ·have e':Txt.slice (tx (l8 L v::bm (L++[v]) R'.reverse)) (some 1) none=tx (bm (L++[v]) R'.reverse):=e;rw[e'];refine⟨_,_,rfl,rfl,?_,?_⟩
      ·rw[mI,eG,eG,cK,cK];exact nv (by simp;lia)
      ·have f:=Fp (L:=L) (Q:=R') (v:=v);rw[mI,eG,eG,eG,aK (bm [] L++[l8 L v]) [124],fI,f];exact qq
  ·refine lh (by decide) (lh (by decide) (rh rfl ?_));by_cases hL:L=[]
   ·subst hL;rw[rH] at qq;exact⟨_,jv (by simp[bm]),lh (by decide) qq⟩
   ·obtain⟨L',v,rfl⟩:=dO hL;rw[tV] at qq;have e:=BL (P:=bm [] L') (c:=l8 L' v);rw[uS] at l1 ⊢;simp at l1 hl;refine⟨_,jv (by simp;lia),rh (by simp) ⟨_,rfl,?_,?_⟩⟩
    ·rw[cK];exact nv (by simp;lia)
    ·rw[e];refine⟨_,_,rfl,rfl,?_,_,-1,l8 L' v,rfl,rfl,?_,by rw[my];exact xu,_,_,rfl,rfl,?_,_,_,rfl,rfl,?_,?_⟩
     ·rw[cK,cK];exact nv (by simp;lia)
     ·rw[cK];exact nv (by simp;lia)
     ·rw[mI,eG,cK,cK];exact nv (by simp;lia)
     ·rw[mI,eG,eG,cK,cK];exact nv (by simp;lia)
     ·have f:=Fo (P:=L') (R:=R) (v:=v);rw[mI,eG,eG,eG];have g:bm [] L'++[124]++[l8 L' v]++bm (L'++[v]) R.reverse=bm [] L'++124::(l8 L' v::bm (L'++[v]) R.reverse):=by simp
      rw[g,f];exact qq
  ·refine lh (by decide) (lh (by decide) (lh (by decide) ?_));by_cases hL:L=[]
   ·subst hL;rw[rG] at qq;exact⟨_,jv (by simp[bm]),lh (by decide) qq⟩
   ·by_cases hR:R=[]
    ·subst hR;rw[rF] at qq;obtain⟨L',v,rfl⟩:=dO hL;exact⟨_,jv (by rw[l1];lia),rh (by rw[uS];simp) ⟨_,jv (by lia),lh (by simp[bm]) qq⟩⟩
    ·obtain⟨L',x,rfl⟩:=dO hL;obtain⟨R',y,rfl⟩:=dO hR;refine⟨_,jv (by lia),rh (by rw[uS];simp) ⟨_,jv (by lia),rh (by rw[uR];rfl) ⟨L',R',x,y,rfl,EE,by simp at hl;lia,λH' s'=>q H' (sH.trans s')⟩⟩⟩
theorem CA {c:Nat} (h:lE c):(Builtin.Str.occurrences (Str.ofString "abcd") ⟨#[c]⟩ 0 (Str.ofString "abcd").length 1).isEmpty=false:=by rcases h with rfl | rfl | rfl | rfl<;>decide +kernel
theorem tF (B:uG mg) (E:Fn K mg "vet_code" gW ["side","code"]) (JC:gV P w K mg base 1 "begun" jx ["side"] qg) (JN:gV P w K mg base 3 "step" mF ["state","letter"] uN) (Ic:gV P w K mg base 1 "leading_on" eY ["state"] uO):gV P w K mg base 4 "vet_code" gW ["side","code"] sI:=E.mk' λf fd F=>by
 refine F.okS gn (λvs H Q E h=>?_) (λcdv A outer s H vs Q E hr h=>?_)
 ·obtain⟨b,cs,rfl,_⟩:=h;rfl
 ·obtain⟨b,cs,rfl,C,q⟩:=h;have lt:=C.lts;have hn:=C.len;have hres:=C.res;refine⟨[some (.str (sd b)),some (.str (tx cs)),none,none,none],_,rfl,(L2.lJ.h (aO (dm (QW.pt (uZ (qp (oA (cC An (by rfl) B.isinstance PyProof.Rows.boot_isinstance (aL (bI 1) (aL (zh (v:=.ty "str") (by rfl) B.str PyProof.Rows.boot_str rfl) aJ))))) (qo (bp GI (cC gD (by rfl) B.len cL (aL (bI 1) aJ)) (xI (by rfl) B.MOST_RINGS) (cu _)))))
   (aT lT)
   cv)
   (aO (bF (i:=2) gn.nd rfl (Or.inl rfl) (bP JC (hr.mono (by decide)) (by rfl) (aL (bI 0) aJ)))
   (aO (dX av rfl (sh (by rfl) B.enumerate (aL (bI 1) aJ)) (jz (n:=2) rfl (dH (bU (i:=3) gn.nd rfl (Or.inl rfl)) (dH (bU (i:=4) gn.nd rfl (Or.inl rfl)) gv)))
   (aO (bF (i:=2) gn.nd rfl (Or.inl rfl) (fG (bp qI (bI 4) (lX (by rfl) B.LETTERS) (by with_unfolding_all rfl)) (bP JN (hr.mono (by decide)) (by rfl) (aL (bI 2) (aL (bI 4) aJ))) gB))
    (aT (dm (bp zu (bI 2) gB (cu _))
    (aT lT)
    cv))))
   (aO (dm (bp tE (bP Ic (hr.mono (by decide)) (by rfl) (aL (bI 2) aJ)) aU (cu _))
   (aT lT)
   cv)
   (aT (bc ko))))))),?_⟩
  nofun;refine By (.str _) ⟨true,rfl,lh (by decide) ⟨by rw[cK];exact nv (by lia),lh (by rw[cK];lia) ⟨Gu b,by rw[IA],?_⟩⟩⟩;rw[vq];nofun;refine⟨zD lt,tY (x:=tx cs) (λi σ H2=>∃(L R:List Int) (x3 x4:Option V),σ=[some (.str (sd b)),some (.str (tx cs)),some (.str (tx (mR L R))),x3,x4]/\ao H H2/\Run b cs i L R/\L.length+R.length<=2*i+1/\gS (bL b) (bR b) cs 0=gS L R (cs.drop i) i)
   ⟨bL b,bR b,_,_,rfl,ao.refl _,Run.zero b cs,by cases b<;>decide,by rw[iu]⟩ ?_ ?_⟩
  ·rintro i c σ H2 p hc ⟨L,R,x3,x4,rfl,sm,run,hl,er⟩ np;have hc':cs[i]? = some c:=by rw[<-hc,show (tx cs).cps[i]? = cs[i]? by simp[tx]]
   have hi:=(aI.mp hc').1;have lc:=lt c (ax hc');have ed:cs.drop i=c::cs.drop (i+1):=by rw[bB hi];congr 1;exact(aI.mp hc').2
   have s2:=sm.trans ((ao.refl _).new (o:=.tup [.int i,.str ⟨#[c]⟩]) np);nofun;refine⟨_,eR.of aG,rfl,?_⟩;nofun;refine rh (CA lc) ⟨L,R,c,rfl,lc,run.ee,by lia,λH3 s3=>?_⟩;rw[ed] at er;have s4:=s2.trans s3;cases g:eL L R c with
   | none=>
    rw[mZ g] at er;rw[hres] at er;cases er
   | some pr=>
    obtain⟨L',R'⟩:=pr;rw[lS g] at er;refine⟨trivial,lh (λz=>nomatch z) ⟨L',R',_,_,rfl,s4,run.step hc' lc g,?_,er⟩⟩;have:=nI lc g;lia
  ·rintro σ H2 ⟨L,R,x3,x4,rfl,sm,run,hl,er⟩;rw[nk] at run er hl;rw[jr] at er;have er2:gS (bL b) (bR b) cs 0=if L.length+R.length=1 then none else some cs.length:=er
   nofun;refine⟨L,R,rfl,by lia,?_⟩;nofun;by_cases e1:L.length+R.length=1
   ·rw[LM e1] at er2;exact lh (λz=>by lia) (q _ sm)
   ·rw[LL e1,hres] at er2;cases er2
theorem E8{k:Bool}{c:Nat}(h:lE c):(Builtin.Str.occurrences (tx [97,if k=true then 99 else 98]) ⟨#[c]⟩ 0 (tx [97,if k=true then 99 else 98]).length 1).isEmpty=!(isIn k c):=by
 cases k<;>rcases h with rfl | rfl | rfl | rfl<;>decide +kernel
theorem oZ (B:uG mg) (E:Fn K mg "rows_across" fF ["code","inwards","begins_here"]):gV P w K mg base 1 "rows_across" fF ["code","inwards","begins_here"] vg:=E.mk' λf fd F=>by
 refine F.okS dU (λvs H Q E h=>?_) (λcdv A outer s H vs Q E hr h=>?_)
 ·obtain⟨k,b,cs,rfl,_⟩:=h;rfl
 ·obtain⟨k,b,cs,rfl,lt,hn,ne,q⟩:=h;refine⟨[some (.str (tx cs)),some (.str (tx [97,if k then 99 else 98])),some (.bl (decide (k=b))),none,none,none,none,none,none],_,rfl,(L2.lJ.h (aO (bF (i:=3) dU.nd rfl (Or.inl rfl) xK)
   (dh (bF (i:=4) dU.nd rfl (Or.inl rfl) (fG (j5 (bI 2) (λ_=>rfl)) (eB (dD aU aJ)) (eB aJ)))
   (dh (dX av rfl (sh (by rfl) B.enumerate (aL (bI 0) aJ)) (jz (n:=2) rfl (dH (bU (i:=5) dU.nd rfl (Or.inl rfl)) (dH (bU (i:=6) dU.nd rfl (Or.inl rfl)) gv)))
   (aO (bF (i:=7) dU.nd rfl (Or.inl rfl) (bA fO (bI 5) aU))
    (aT (dm (bp qI (bI 6) (bI 1) (by with_unfolding_all rfl))
    (aT (gq (jJ cE dQ dP jb (bI 4) (aL (bI 7) aJ))))
    (aO (bF (i:=8) dU.nd rfl (Or.inl rfl) (Be cE PySem.F.slot_list_pop PySem.F.type_list_pop EN (bI 4)))
     (aO (m7 (ni hr) (bI 3) (bI 7) (bI 8) rfl)
     (aT (m7 (ni hr) (bI 3) (bI 8) (bI 7) rfl))))))))
   (aO (dX av rfl (du (bI 4)) (bU (i:=8) dU.nd rfl (Or.inl rfl))
   (aT (m7 (ni hr) (bI 3) (bI 8) (bA fO (cC gD (by rfl) B.len cL (aL (bI 0) aJ)) aU) rfl)))
   (aT (bc (bI 3)))))))),?_⟩
  nofun;intro d nd;have sd0:=(ao.refl H).new (o:=.dK []) nd;refine dL (λσ H'=>∃wl,σ=[some (.str (tx cs)),some (.str (tx [97,if k then 99 else 98])),some (.bl (decide (k=b))),some (.ref d),some (.ref wl),none,none,none,none]/\ao H H'/\H wl=none/\wl≠d/\H' d=some (.dK [])/\H' wl=some (.lst (kX (vf k b).1))) ?_ ?_
  ·nofun;refine⟨decide (k=b),rfl,?_⟩;have go:∀l p,upd H d (.dK []) p=none->l=kX (vf k b).1->∃wl,([some (.str (tx cs)),some (.str (tx [97,if k then 99 else 98])),some (.bl (decide (k=b))),some (.ref d),some (.ref p),none,none,none,none]:L2.St)=[some (.str (tx cs)),some (.str (tx [97,if k then 99 else 98])),some (.bl (decide (k=b))),some (.ref d),some (.ref wl),none,none,none,none]/\ao H (upd (upd H d (.dK [])) p (.lst l))/\H wl=none/\wl≠d/\upd (upd H d (.dK [])) p (.lst l) d=some (.dK [])/\upd (upd H d (.dK [])) p (.lst l) wl=some (.lst (kX (vf k b).1)):=λl p np e=>by
    have nep:d≠p:=λz=>by subst z;rw[aG] at np;cases np
    exact⟨p,rfl,sd0.trans ((ao.refl _).new np),sd0.free np,nep.symm,by rw[aX nep,aG],by rw[aG,e]⟩
   by_cases e:k=b
   ·exact rh (by simp[e]) ⟨(by show 1<=sizeLine;decide),λp np=>go _ p np (by unfold vf;dsimp only;rw[LM e];rfl)⟩
   ·exact lh (by simp[e]) ⟨a6 _,λp np=>go _ p np (by unfold vf;dsimp only;rw[LL e];rfl)⟩
  ·rintro σ H1 ⟨wl,rfl,s1,nw,nwd,hd1,hw1⟩;nofun;refine dL (λσ H'=>∃(x5 x6 x7 x8:Option V) (kvs:List (Key×V)),σ=[some (.str (tx cs)),some (.str (tx [97,if k then 99 else 98])),some (.bl (decide (k=b))),some (.ref d),some (.ref wl),x5,x6,x7,x8]/\ao H H'/\H' d=some (.dK kvs)/\kvs.length<=40/\k5 kvs cs.length (stN k b cs cs.length).2/\H' wl=some (.lst (kX (stN k b cs cs.length).1))) ?_ ?_
   ·nofun;refine⟨zD lt,tY (x:=tx cs) (λi σ H'=>∃(x5 x6 x7 x8:Option V) (kvs:List (Key×V)),σ=[some (.str (tx cs)),some (.str (tx [97,if k then 99 else 98])),some (.bl (decide (k=b))),some (.ref d),some (.ref wl),x5,x6,x7,x8]/\ao H H'/\H' d=some (.dK kvs)/\kvs.length<=2*i/\k5 kvs cs.length (stN k b cs i).2/\(∀x∈(stN k b cs i).1,x<=i)/\H' wl=some (.lst (kX (stN k b cs i).1)))
     ⟨_,_,_,_,[],rfl,s1,hd1,a6 _,k5.nil,λx hx=>by (unfold stN vf at hx;dsimp only at hx;split at hx<;>simp at hx;lia),hw1⟩ ?_ ?_⟩
    ·rintro i c σ H2 p hc ⟨x5,x6,x7,x8,kvs,rfl,sm,hd2,hk,rp,le,hw2⟩ np;have hc':cs[i]? = some c:=by rw[<-hc,De]
     have hi:=(aI.mp hc').1;have lc:=lt c (ax hc');have eg:cs.getD i 0=c:=by rw[bf,hc'];rfl
     have s2:=sm.trans ((ao.refl _).new (o:=.tup [.int i,.str ⟨#[c]⟩]) np);have dp:d≠p:=bK hd2 np;have wp:wl≠p:=bK hw2 np;have hd3:upd H2 p (.tup [.int i,.str ⟨#[c]⟩]) d=some (.dK kvs):=by rw[aX dp];exact hd2
     have hw3:upd H2 p (.tup [.int i,.str ⟨#[c]⟩]) wl=some (.lst (kX (stN k b cs i).1)):=by rw[aX wp];exact hw2
     have sl:=qe k b cs i;nofun;refine⟨_,eR.of aG,rfl,?_⟩;generalize upd H2 p (.tup [.int i,.str ⟨#[c]⟩])=H3 at s2 hd3 hw3 ⊢;nofun;have ei:(i:Int)+1=((i+1:Nat):Int):=by lia
     rw[ei,E8 lc];by_cases hin:isIn k c=true
     ·have es:stN k b cs (i+1)=((stN k b cs i).1++[i+1],(stN k b cs i).2):=by show pP k _ _ _=_;rw[eg,qd hin]
      refine rh (by rw[hin];rfl) ⟨mT hw3,_,hw3,by rw[tK];exact cS (by lia),_,_,_,_,kvs,rfl,s2.new nw,by rw[aX nwd.symm];exact hd3,by lia,by rw[es];exact rp,?_,by rw[aG,es,nF]⟩;rw[es];intro x hx;rcases aE.mp hx with h1 | h1
      ·have:=le x h1;lia
      ·simp at h1;lia
     ·have hin':isIn k c=false:=by simpa using hin
      obtain⟨Pq,o,eo⟩:=o9 (ne i hi (by rw[eg];exact hin'));have es:stN k b cs (i+1)=(Pq,jL (stN k b cs i).2 (i+1) o):=by show pP k _ _ _=_;rw[eg,nu hin' eo]
      have ole:o<=i:=le o (by rw[eo];simp);rw[eo] at hw3;refine lh (by rw[hin'];decide) ⟨mT hw3,_,.int o,hw3,xT Pq o,?_⟩;rw[xU];have l1:kvs.length<sizeLine:=cS (by lia);have l2:(putK kvs (.inl ((i+1:Nat):Int):Key) (.int (o:Nat))).length<sizeLine:=cS (by have:=eS kvs (.inl ((i+1:Nat):Int):Key) (.int (o:Nat));lia);have hd4:upd H3 wl (.lst (kX Pq)) d=some (.dK kvs):=by rw[aX nwd.symm];exact hd3
      have r1:=rp.put (a:=i+1) (b:=o) (by lia);have ln1:=eS kvs (.inl ((i+1:Nat):Int):Key) (.int (o:Nat));have r2:=r1.put (a:=o) (b:=i+1) (by lia);rw[Bp (by lia)] at r2;have ln2:=eS (putK kvs (.inl ((i+1:Nat):Int):Key) (.int (o:Nat))) (.inl (o:Int):Key) (.int ((i+1:Nat)));refine⟨_,pN.k (k:=.inl ((i+1:Nat):Int)) hd4 l1,_,pN.k (k:=.inl (o:Int)) aG l2,_,_,_,_,_,rfl,((s2.new nw).new nd).new nd,aG,by lia,by rw[es];exact r2,?_,?_⟩
      ·rw[es];intro x hx;have:=le x (by rw[eo];exact ae _ hx);lia
      ·rw[aX nwd,aX nwd,aG,es]
    ·rintro σ H2 ⟨x5,x6,x7,x8,kvs,rfl,sm,hd2,hk,rp,le,hw2⟩;rw[nk] at hk rp hw2;exact⟨_,_,_,_,kvs,rfl,sm,hd2,by lia,rp,hw2⟩
   ·rintro σ H2 ⟨x5,x6,x7,x8,kvs,rfl,sm,hd2,hk,rp,hw2⟩;have sl:=qe k b cs cs.length;nofun;have wd:wl≠d:=nwd;refine⟨⟨_,cy.of hw2⟩,gC (xs:=kX (stN k b cs cs.length).1) (λj σ H'=>∃(x8:Option V) (kvs:List (Key×V)),σ=[some (.str (tx cs)),some (.str (tx [97,if k then 99 else 98])),some (.bl (decide (k=b))),some (.ref d),some (.ref wl),x5,x6,x7,x8]/\ao H H'/\H' d=some (.dK kvs)/\kvs.length<=40+j/\k5 kvs cs.length (xl cs.length (stN k b cs cs.length).1 (stN k b cs cs.length).2 j)/\H' wl=some (.lst (kX (stN k b cs cs.length).1)))
     ⟨_,kvs,rfl,sm,hd2,hk,rp.congr λx _=>by simp[xl],hw2⟩ ?_ ?_ ?_⟩
    ·rintro j σ H' _ ⟨_,_,_,_,_,_,_,h⟩;exact cy.of h
    ·rintro j x σ H3 hx ⟨x8',kvs',rfl,s3,hd3,hk3,rp3,hw3⟩;obtain⟨o,ho,rfl⟩:=eZ hx;have hj:=(aI.mp ho).1;nofun;rw[cK];refine⟨nv (by lia),_,pN.k (k:=.inl (o:Int)) hd3 (cS (by lia)),_,_,rfl,s3.new nd,aG,?_,?_,by rw[aX wd];exact hw3⟩
     ·have:=eS kvs' (.inl (o:Int):Key) (.int (((cs.length:Nat):Int)+1));lia
     ·have r1:=rp3.put (a:=o) (b:=cs.length+1) (by lia);rw[xk ho] at r1;exact r1
    ·rintro σ H3 ⟨x8',kvs',rfl,s3,hd3,hk3,rp3,hw3⟩;nofun;refine q d kvs' H3 s3 nd hd3 (rp3.congr λx _=>?_);unfold xl fin2 rL;rw[tK,cF]
theorem uf (B:uG mg) (E:Fn K mg "decoded" i4 ["side","code"]) (JO:gV P w K mg base 1 "is_side" i0 ["thing"] sO) (d7:gV P w K mg base 1 "other_side" eX ["side"] qf) (JF:gV P w K mg base 4 "vet_code" gW ["side","code"] sI) (Ie:gV P w K mg base 1 "rows_across" fF ["code","inwards","begins_here"] vg):gV P w K mg base 5 "decoded" i4 ["side","code"] zR:=E.mk' λf fd F=>by
 refine F.okS fh (λvs H Q E h=>?_) (λcdv A outer s H vs Q E hr h=>?_)
 ·obtain⟨b,cs,rfl,_⟩:=h;rfl
 ·obtain⟨b,cs,rfl,C,q⟩:=h;have lt:=C.lts;have hn:=C.len;have hr0:=C.res;have q:∀a H',ao H H'->vL H' a b cs->Q (.ref a) H':=λa H' s' ca=>by obtain⟨o,z⟩:=ca.maze C.maze;exact q a o H' s' z
  refine⟨[some (.str (sd b)),some (.str (tx cs)),none,none,none,none],_,rfl,(L2.lJ.h (aO (dm (qp (oA (bP JO (hr.mono (by decide)) (by rfl) (aL (bI 0) aJ))))
   (aT lT)
   cv)
   (aO (gq (bP JF (hr.mono (by decide)) (by rfl) (aL (bI 0) (aL (bI 1) aJ))))
   (dh (bF (i:=2) fh.nd rfl (Or.inl rfl) (sn (lW bq (bP Ie (hr.mono (by decide)) (by rfl) (aL (bI 1) (aL (lX (by rfl) B.LEFT_INWARDS) (nT (j7 ij (bI 0) bq (cu _)) aJ)))) (lW bq (bP Ie (hr.mono (by decide)) (by rfl) (aL (bI 1) (aL (lX (by rfl) B.RIGHT_INWARDS) (nT (j7 ij (bI 0) bq (cu _)) aJ)))) se)) rfl rfl (λz=>nomatch z) (by decide)))
   (aO (bF (i:=3) fh.nd rfl (Or.inl rfl) (eB aJ))
   (aO (bF (i:=4) fh.nd rfl (Or.inl rfl) (bI 0))
   (aO (bF (i:=5) fh.nd rfl (Or.inl rfl) (ig (ni hr) (ig (ni hr) (bI 2) (bI 4) (λ_ _=>rfl)) aU (λ_ _=>rfl)))
   (aO (nC av (bp zt (bI 5) (cC gD (by rfl) B.len cL (aL (bI 1) aJ)) (cu _))
   (aO (gq (jJ cE dQ dP jb (bI 3) (aL (bI 5) aJ)))
    (aO (bF (i:=4) fh.nd rfl (Or.inl rfl) (bP d7 (hr.mono (by decide)) (by rfl) (aL (bI 4) aJ)))
    (aT (bF (i:=5) fh.nd rfl (Or.inl rfl) (ig (ni hr) (ig (ni hr) (bI 2) (bI 4) (λ_ _=>rfl)) (bI 5) (λ_ _=>rfl)))))))
   (aT (bc (fR (aL (bI 0) (eJ (g6 jN (by rfl) B.tuple fv (aL (bI 3) aJ)) aJ))))))))))))),?_⟩
  nofun;have e1:zW (.str (sd b))=true:=by cases b<;>decide +kernel
  refine⟨_,_,rfl,.str _,⟨by cases b<;>decide +kernel,by cases b<;>decide +kernel⟩,?_⟩;rw[e1];refine⟨true,rfl,lh (by decide) ⟨b,cs,rfl,C,λH1 s1=>?_⟩⟩;obtain⟨T,t1,t2,VT,eT⟩:=(B4 lt hr0).ends;have a1:Str.ofString "ab"=tx [97,if false=true then 99 else 98]:=by decide +kernel
  have a2:Str.ofString "ac"=tx [97,if true=true then 99 else 98]:=by decide +kernel
  refine dL (λσ H'=>∃(dd:Addr) (kvs:List (Key×V)) (D:Bool->Addr),σ=[some (.str (sd b)),some (.str (tx cs)),some (.ref dd),none,none,none]/\ao H H'/\H' dd=some (.dK kvs)/\∀u,fg kvs (.inr (sd u):Key)=some (.ref (D u))/\∃kk,H' (D u)=some (.dK kk)/\k5 kk cs.length (fin2 b cs u)) ?_ ?_
  ·nofun;intro dd nd;refine⟨false,b,cs,by rw[<-a1];cases b<;>simp[Ft],lt,hn,zN lt hr0 false,λd1 k1 H2 s2 n1 h1 r1=>?_⟩;nofun;refine⟨true,b,cs,by rw[<-a2];cases b<;>simp[HK],lt,hn,zN lt hr0 true,λd2 k2 H3 s3 n2 h2 r2=>?_⟩;nofun;have f1:dd≠d1:=bK aG n1;have f2:dd≠d2:=bK (s2 _ _ aG) n2;refine⟨s3 _ _ (s2 _ _ aG),[((.inr (Str.ofString "l"):Key),V.ref d1),(.inr (Str.ofString "r"),.ref d2)],rfl,(by show 2<=15;decide),dd,_,λu=>if u then d2 else d1,rfl,(((s1.trans ((ao.refl _).new nd)).trans s2).trans s3).new (s1.free nd),aG,λu=>?_⟩;cases u
   ·exact⟨rfl,k1,by show upd _ _ _ d1=_;rw[aX f1.symm];exact s3 _ _ h1,r1⟩
   ·exact⟨rfl,k2,by show upd _ _ _ d2=_;rw[aX f2.symm];exact h2,r2⟩
  ·rintro σ H2 ⟨dd,kvs,D,rfl,s2,hdd,hD⟩;nofun;refine⟨a6 _,λp np=>?_⟩;have pd:dd≠p:=bK hdd np;have pD:∀u,D u≠p:=λu=>by obtain⟨_,kk,h,_⟩:=hD u;exact bK h np
   have nH:H p=none:=s2.free np;have look:∀(H':Hp) (u:Bool) (r y:Nat),H' dd=some (.dK kvs)->(∀u,∃kk,H' (D u)=some (.dK kk)/\k5 kk cs.length (fin2 b cs u))->r<=cs.length->fin2 b cs u r=some y->kc H' dd (.str (sd u)) (some (.ref (D u)))/\kc H' (D u) (.int (r:Nat)) (some (.int (y:Nat))):=λH' u r y h1 h2 hr hf=>by
    obtain⟨kk,g1,g2⟩:=h2 u;have e1:=kc.k (k:=.inr (sd u)) h1;rw[(hD u).1] at e1;have e2:=kc.k (k:=.inl (r:Int)) g1;rw[g2.get r hr,hf] at e2;exact⟨e1,e2⟩
   have hd0:upd H2 p (.lst []) dd=some (.dK kvs):=by rw[aX pd];exact hdd
   have hD0:∀u,∃kk,upd H2 p (.lst []) (D u)=some (.dK kk)/\k5 kk cs.length (fin2 b cs u):=λu=>by obtain⟨_,kk,h,r⟩:=hD u;exact⟨kk,by rw[aX (pD u)];exact h,r⟩
   obtain⟨g1,g2⟩:=look _ b 0 _ hd0 hD0 (a6 _) (VT.st 0 (by lia));refine⟨_,g1,_,_,rfl,g2,?_⟩;refine⟨λm σ H'=>∃(j:Nat),σ=[some (.str (sd b)),some (.str (tx cs)),some (.ref dd),some (.ref p),some (.str (sd (pth (fin2 b cs) b j).2)),some (.int ((pth (fin2 b cs) b (j+1)).1:Nat))]/\ao H H'/\H' dd=some (.dK kvs)/\(∀u,∃kk,H' (D u)=some (.dK kk)/\k5 kk cs.length (fin2 b cs u))/\H' p=some (.lst ((ordF (fin2 b cs) b j).map V.int))/\j+1<=T/\m=T-j,⟨_,0,rfl,s2.new nH,hd0,hD0,aG,t1,rfl⟩,?_⟩;rintro m σ H3 ⟨j,rfl,s3,hd3,hD3,hl3,hj,rfl⟩;nofun;refine⟨by rw[cK];exact nv (by lia),?_⟩;rw[cK];refine kY (λhle=>?_) (λhgt=>?_)
   ·have hjT:j+1<T:=by
     apply jD;intro z;have:j+1=T:=by lia
     rw[this,eT] at hle;lia
    obtain⟨g3,g4⟩:=look (upd H3 p (.lst ((ordF (fin2 b cs) b (j+1)).map V.int))) (pth (fin2 b cs) b (j+1)).2 _ _ (by rw[aX pd];exact hd3) (λu=>by obtain⟨kk,h,r⟩:=hD3 u;exact⟨kk,by rw[aX (pD u)];exact h,r⟩) (VT.le (j+1) hjT) (VT.st (j+1) hjT);refine⟨λσ' H'=>σ'=[some (.str (sd b)),some (.str (tx cs)),some (.ref dd),some (.ref p),some (.str (sd (pth (fin2 b cs) b (j+1)).2)),some (.int ((pth (fin2 b cs) b (j+1+1)).1:Nat))]/\ao H H'/\H' dd=some (.dK kvs)/\(∀u,∃kk,H' (D u)=some (.dK kk)/\k5 kk cs.length (fin2 b cs u))/\H' p=some (.lst ((ordF (fin2 b cs) b (j+1)).map V.int)),λσ' H' ⟨e,a,c,d,f⟩=>⟨T-(j+1),by lia,j+1,e,a,c,d,f,hjT,rfl⟩,?_⟩;have el:(ordF (fin2 b cs) b j).map V.int++[V.int ((pth (fin2 b cs) b (j+1)).1:Nat)]=(ordF (fin2 b cs) b (j+1)).map V.int:=by rw[xN,aM];rfl
    refine⟨mT hl3,_,hl3,by rw[aC,zp];exact cS (by lia),?_⟩;rw[el];refine⟨_,rfl,?_⟩;nofun;rw[<-zj];exact⟨_,g3,_,_,rfl,g4,rfl,s3.new nH,by rw[aX pd];exact hd3,λu=>by obtain⟨kk,h,r⟩:=hD3 u;exact⟨kk,by rw[aX (pD u)];exact h,r⟩,aG⟩
   ·have ejT:j+1=T:=by
     apply jD;intro z;have:=VT.le (j+1) (by lia);lia
    refine⟨_,.inl ⟨cy.of hl3,λo no=>⟨(by show 2<=sizeLine;decide),λr nr=>?_⟩⟩⟩;have ne:o≠r:=λz=>by subst z;rw[aG] at nr;cases nr
    refine q r _ ((s3.trans ((ao.refl _).new no)).trans ((ao.refl _).new nr)) ⟨o,T,aG,t1,t2,VT,eT,?_⟩;rw[aX ne,aG,<-ejT];rfl
theorem uk (E:Fn K mg "can_end" i8 ["state","rows"]) (Ic:gV P w K mg base 1 "leading_on" eY ["state"] uO):gV P w K mg base 2 "can_end" i8 ["state","rows"] sP:=E.mk' λf fd F=>by
 refine F.okS uV (λvs H Q E h=>?_) (λcdv A outer s H vs Q E hr h=>?_)
 ·obtain⟨L,R,n,rfl,_⟩:=h;rfl
 ·obtain⟨L,R,n,rfl,hl,hn,q⟩:=h;refine⟨[some (.str (tx (mR L R))),some (.int (n:Nat))],_,rfl,(L2.lJ.h (aT (bc (j7 zt (bP Ic (hr.mono (by decide)) (by rfl) (aL (bI 0) aJ)) (bA fO (bA nE aU (bI 1)) aU) (cu _))))),?_⟩;nofun;refine⟨L,R,rfl,hl,?_⟩;nofun;refine⟨.inl ⟨by decide,by decide⟩,?_⟩;have e:decide (((L.length+R.length:Nat):Int)<=2*(n:Int)+1)=decide (L.length+R.length<=2*n+1):=decide_eq_decide.mpr (by lia);rw[e];exact q
theorem tH (B:uG mg) (E:Fn K mg "codes_of" gY ["side","n"]) (JC:gV P w K mg base 1 "begun" jx ["side"] qg) (JN:gV P w K mg base 3 "step" mF ["state","letter"] uN) (JP:gV P w K mg base 2 "can_end" i8 ["state","rows"] sP):gV P w K mg base 4 "codes_of" gY ["side","n"] qB:=E.mk' λf fd F=>by
 refine F.okS dt (λvs H Q E h=>?_) (λcdv A outer s H vs Q E hr h=>?_)
 ·obtain⟨b,n,rfl,_⟩:=h;rfl
 ·obtain⟨b,n,rfl,hn,q⟩:=h;refine⟨[some (.str (sd b)),some (.int n),none,none,none,none,none,none,none],_,rfl,(L2.lJ.h (aO (bF (i:=2) dt.nd rfl (Or.inl rfl) (eB (g9 (fR (dD bq (eJ (bP JC (hr.mono (by decide)) (by rfl) (aL (bI 0) aJ)) aJ))) aJ)))
   (aO (dX av rfl (u4 (by rfl) B.range (de (bA mH (bI 1) aU) (nS (oU oG aU) (nS (oU oG aU) aJ)))) (bU (i:=3) dt.nd rfl (Or.inl rfl))
   (aO (bF (i:=4) dt.nd rfl (Or.inl rfl) (eB aJ))
    (aO (dX av rfl (du (bI 2)) (jz (n:=2) rfl (dH (bU (i:=5) dt.nd rfl (Or.inl rfl)) (dH (bU (i:=6) dt.nd rfl (Or.inl rfl)) gv)))
    (aT (dX av rfl (Ba (lX (by rfl) B.LETTERS)) (bU (i:=7) dt.nd rfl (Or.inl rfl))
     (aO (bF (i:=8) dt.nd rfl (Or.inl rfl) (bP JN (hr.mono (by decide)) (by rfl) (aL (bI 6) (aL (bI 7) aJ))))
      (aT (dm (QW.pt (vy (bp vz (bI 8) gB (cu _)) (sY (oA (bP JP (hr.mono (by decide)) (by rfl) (aL (bI 8) (aL (bI 3) aJ)))))))
      (aT (gq (jJ cE dQ dP jb (bI 4) (g9 (fR (de (bA dZ (bI 5) (bI 7)) (aL (bI 8) aJ))) aJ))))
      cv))))))
    (aT (bF (i:=2) dt.nd rfl (Or.inl rfl) (bI 4))))))
   (aT (bc (kn (own:=["code","state"]) (ns:=[]) (caps:=[]) rfl ⟨rfl,by decide +kernel,by decide +kernel,by decide +kernel⟩ .nil (du (bI 2)) (λC s H fp pn=>(zg (K:=K) (n:=2) rfl rfl (dH (bU (i:=0) (show List.Nodup ((["code","state"]:List Str)++([]:List Str)) by decide +kernel) rfl (Or.inl rfl)) (dH (bU (i:=1) (show List.Nodup ((["code","state"]:List Str)++([]:List Str)) by decide +kernel) rfl (Or.inl rfl)) gv)))) (λC s H fp pn=>kA) (λC s H fp pn=>(bI 0)))))))),?_⟩
  nofun;refine⟨Gu b,by rw[IA],?_⟩;rw[vq];have two:(2:Nat)<=sizeLine:=by decide
  have one:(1:Nat)<=sizeLine:=by decide
  refine⟨two,λp0 n0=>⟨one,λl0 nl0=>?_⟩⟩;have s0:=(ao.refl H).new (o:=.tup [.str (Str.ofString ""),.str (tx (mR (bL b) (bR b)))]) n0;have h0:upd H p0 (.tup [.str (Str.ofString ""),.str (tx (mR (bL b) (bR b)))]) p0=some (.tup [.str (Str.ofString ""),.str (tx (mR (bL b) (bR b)))]):=aG;have s1:=(ao.refl _).new (o:=.lst [.ref p0]) nl0;refine⟨_,_,rfl,⟨by lia,by lia,by lia,by lia⟩,?_⟩;rw[show ((n:Int) - 1 - -1).toNat=n by lia];refine vA (n:=n) (λi σ H'=>∃(l:Addr) (ps:List nZ) (x3 x4 x5 x6 x7 x8:Option V),σ=[some (.str (sd b)),some (.int n),some (.ref l),x3,x4,x5,x6,x7,x8]/\ao H H'/\H l=none/\G8 H' l ps/\CV i (n-i) ps/\ps.length<=4 ^ i/\nP (n-i) ps=ck n (bL b) (bR b))
   ⟨l0,[([],bL b,bR b)],_,_,_,_,_,_,rfl,s0.trans s1,s0.free nl0,⟨[p0],aG,.cons (s1 _ _ (by rw[h0,Fv])) .nil⟩,CV.start b _,aB _,xv b _⟩ ?_ ?_
  ·rintro i σ H1 hi ⟨l,ps,x3,x4,x5,x6,x7,x8,rfl,sm,nl,⟨as,hl,pa⟩,I,hlen,hall⟩;obtain⟨r,hr0⟩:∃r,n-i=r+1:=⟨n-i - 1,by lia⟩
   rw[hr0] at I hall;have er:(n:Int) - 1+(i:Int)*(-1)=(r:Nat):=by lia
   have p4:ps.length<=262144:=bJ hlen (bJ (iA (by decide) (show i<=9 by lia)) (by decide));have al:=bu pa;nofun;rw[er];refine⟨a6 _,λq0 nq=>?_⟩;have sq:=(ao.refl H1).new (o:=.lst []) nq;have hq0:upd H1 q0 (.lst []) q0=some (.lst []):=aG;generalize upd H1 q0 (.lst [])=H2 at sq hq0 ⊢;refine⟨⟨_,cy.of (sq _ _ hl)⟩,?_⟩;refine gC (xs:=as.map V.ref) (λj σ H3=>∃x5 x6 x7 x8:Option V,σ=[some (.str (sd b)),some (.int n),some (.ref l),some (.int r),some (.ref q0),x5,x6,x7,x8]/\ao H1 H3/\G8 H3 q0 ((ps.take j).flatMap λp=>m9 p r)) ⟨_,_,_,_,rfl,sq,⟨[],hq0,.nil⟩⟩ ?_ ?_ ?_
   ·rintro j σ H3 _ ⟨_,_,_,_,rfl,s3,_⟩;exact cy.of (s3 _ _ hl)
   ·rintro j x σ H3 hx ⟨y5,y6,y7,y8,rfl,s3,hq3⟩;obtain⟨a,ha,rfl⟩:=eZ hx;obtain⟨p,hp,tp⟩:=sv pa ha;have pm:=ax hp;have jl:=(aI.mp hp).1;have pE:=I.ee p pm;have pl:=I.len p pm;have ps':=I.sz p pm;nofun;refine⟨_,eR.of (s3 _ _ tp),rfl,?_⟩;nofun;refine⟨by decide +kernel,?_⟩;have ex:(Str.ofString "abcd").cps=tN.toArray:=by decide +kernel
    refine CF (x:=Str.ofString "abcd") (λk σ H4=>∃x7 x8:Option V,σ=[some (.str (sd b)),some (.int n),some (.ref l),some (.int r),some (.ref q0),some (.str (tx p.1)),some (.str (tx (mR p.2.1 p.2.2))),x7,x8]/\ao H1 H4/\G8 H4 q0 (((ps.take j).flatMap λp=>m9 p r)++um p r k)) ⟨_,_,rfl,s3,by show G8 H3 q0 (_++[]);rw[be];exact hq3⟩ ?_ ?_
    ·rintro k c σ H4 hc ⟨z7,z8,rfl,s4,bs,hb,pb⟩;rw[ex] at hc;have hc:tN[k]? = some c:=by simpa using hc
     have lc:=EV hc;have bl:=bu pb;have bsz:bs.length<=1100000:=by
      rw[bl,aR];have h1:=oy r (ps.take j);have h2:=AE p r k;rw[bS] at h1;lia
     nofun;refine⟨p.2.1,p.2.2,c,rfl,lc,pE,by lia,λH5 s5=>?_⟩;rw[xR hc];refine⟨trivial,?_⟩;have pb5:Paired (yG H5) bs _:=Paired.mapP pb λa p z=>yG.same z s5;have hb5:=s5 _ _ hb;have s45:=s4.trans s5;cases g:eL p.2.1 p.2.2 c with
     | none=>
      have e0:io p r c=[]:=by unfold io;rw[g]
      rw[e0,be];exact lh (λz=>z rfl) ⟨_,_,rfl,s45,bs,hb5,pb5⟩
     | some pr=>
      obtain⟨L',R'⟩:=pr;have lp:=nI lc g;refine rh (λz=>nomatch z) ⟨L',R',r,rfl,by lia,by lia,_,rfl,?_⟩;refine kY (λh=>?_) (λh=>?_)
      ·have h:=LQ h;have e0:io p r c=[(p.1++[c],L',R')]:=by
        unfold io;rw[g];exact LM h
       rw[e0];refine⟨mT hb5,by rw[cK];exact nv (by show p.1.length+1<=900;lia),two,λt nt=>?_⟩;have st:=(ao.refl H5).new (o:=.tup [.str (tx p.1++⟨#[c]⟩),EF (some (L',R'))]) nt;have hbt:=st _ _ hb5;refine⟨_,hbt,by rw[aC,Kh];lia,_,_,rfl,(s45.trans st).new nq,bs++[t],by rw[aG];simp,?_⟩;rw[<-aK];refine ft (Paired.mapP pb5 λa p z=>(yG.same z st).upd hbt) (yG.upd (xs:=bs.map V.ref) ?_ hbt);show upd H5 t _ t=_;rw[aG,<-eG];rfl
      ·have h:¬L'.length+R'.length<=2*r+1:=λz=>h (LP z);have e0:io p r c=[]:=by
        unfold io;rw[g];exact LL h
       rw[e0,be];exact⟨_,_,rfl,s45,bs,hb5,pb5⟩
    ·rintro σ H4 ⟨z7,z8,rfl,s4,hq4⟩;rw[show (Str.ofString "abcd").cps.size=4 by rw[ex];rfl,AF] at hq4;refine⟨_,_,_,_,rfl,s4,?_⟩;rw[bD,hp,fY];show G8 H4 q0 (_++(m9 p r++[]));rw[be];exact hq4
   ·rintro σ H3 ⟨y5,y6,y7,y8,rfl,s3,hq3⟩;rw[aC,al,cF] at hq3;nofun;have fl:=oy r ps;refine⟨q0,_,_,_,_,_,_,_,rfl,sm.trans s3,sm.free nq,hq3,?_,?_,?_⟩
    ·rw[show n-(i+1)=r by lia];exact I.next
    ·rw[Nat.pow_succ];lia
    ·rw[show n-(i+1)=r by lia,sG];exact hall
  ·rintro σ H1 ⟨l,ps,x3,x4,x5,x6,x7,x8,rfl,sm,nl,⟨as,hl,pa⟩,I,hlen,hall⟩;rw[iV] at I hall;have p4:ps.length<=262144:=bJ hlen (bJ (iA (by decide) hn) (by decide));have al:=bu pa;have hm:ps.map (·.1)=ck n (bL b) (bR b):=by rw[<-wa I];exact hall
   nofun;refine⟨⟨_,cy.of hl⟩,?_⟩;refine qO (xs:=as.map V.ref) (λk ys σ H'=>H'=H1/\ys=((ps.take k).map (·.1)).map (λcs=>V.str (tx cs))/\∃x0 x1,σ=[x0,x1]) ⟨rfl,rfl,_,_,rfl⟩ ?_ (by rw[aC,Kh];lia) ?_ ?_
   ·rintro k ys σ H' ⟨rfl,rfl,_⟩;exact⟨cy.of hl,by simp;lia⟩
   ·rintro k x ys σ H' N hx ⟨rfl,rfl,x0,x1,rfl⟩ hN;obtain⟨a,ha,rfl⟩:=eZ hx;obtain⟨p,hp,tp⟩:=sv pa ha;nofun;refine⟨_,eR.of tp,rfl,?_⟩;nofun;refine hN _ _ _ ⟨rfl,?_,_,_,rfl⟩;rw[bD,hp];simp
   ·rintro ys σ H' t ⟨rfl,rfl,_⟩ nt;rw[aC,al,cF,hm];exact q t _ (sm.free nt) (sm.trans ((ao.refl _).new nt)) aG
theorem xP (B:uG mg) (E:Fn K mg "listed" jZ ["side","n"]) (JG:gV P w K mg base 4 "codes_of" gY ["side","n"] qB) (JQ:gV P w K mg base 5 "decoded" i4 ["side","code"] zR):gV P w K mg base 6 "listed" jZ ["side","n"] sM:=E.mk' λf fd F=>by
 refine F.okS xE (λvs H Q E h=>?_) (λcdv A outer s H vs Q E hr h=>?_)
 ·obtain⟨b,n,rfl,_⟩:=h;rfl
 ·obtain⟨b,n,rfl,hn,q⟩:=h;refine⟨[some (.str (sd b)),some (.int n)],_,rfl,(L2.lJ.h (aT (bc (kn (own:=["code"]) (ns:=["side"]) (caps:=[0]) rfl ⟨rfl,by decide +kernel,by decide +kernel,by decide +kernel⟩ (.cons rfl rfl (.inl rfl) .nil) (du (bP JG (hr.mono (by decide)) (by rfl) (aL (bI 0) (aL (bI 1) aJ)))) (λC s H fp pn=>(bU (i:=0) (show List.Nodup ((["code"]:List Str)++(["side"]:List Str)) by decide +kernel) rfl (Or.inl rfl))) (λC s H fp pn=>kA) (λC s H fp pn=>(bP JQ (hr.mono (by decide)) (by rfl) (aL (bI 1) (aL (bI 0) aJ)))))))),?_⟩;nofun;refine⟨b,n,rfl,hn,λl H1 nl s1 hl=>⟨l,rfl,⟨_,cy.of hl⟩,?_⟩⟩;have sl:(ck n (bL b) (bR b)).length<=262144:=by
   rw[lQ];exact bJ (Am n _ _) (bJ (iA (by decide) hn) (by decide))
  refine qO (xs:=(ck n (bL b) (bR b)).map λcs=>V.str (tx cs)) (λk ys σ H'=>ao H1 H'/\(∃as,ys=as.map V.ref/\Em H' b as ((ck n (bL b) (bR b)).take k))/\ys.length=k/\∃x0,σ=[x0,some (.str (sd b))]) ⟨ao.refl _,⟨[],rfl,.nil⟩,rfl,_,rfl⟩ ?_ (by rw[aC,Kh];lia) ?_ ?_
  ·rintro k ys σ H' ⟨s2,_,e,_⟩;exact⟨cy.of (s2 _ _ hl),by lia⟩
  ·rintro k x ys σ H' N hx ⟨s2,⟨as,rfl,ml⟩,el,x0,rfl⟩ hN;obtain⟨cs,hc,rfl⟩:=eZ hx;obtain⟨C,_,_⟩:=mX (by lia) hc;nofun;refine⟨b,cs,rfl,C,λm o H3 s3 hm=>hN _ _ _ ⟨s2.trans s3,⟨as++[m],by simp,?_⟩,by simp at el ⊢;lia,_,rfl⟩⟩;rw[bD,hc];exact ft (ml.same s3) ⟨o,hm⟩
  ·rintro ys σ H' t ⟨s2,⟨as,rfl,ml⟩,el,_⟩ nt;rw[aC,cF] at ml;have st:=(ao.refl H').new (o:=.lst (as.map V.ref)) nt;exact q t as _ ((s1.trans s2).free nt) (s1.trans (s2.trans st)) aG (ml.same st)
theorem uj (B:uG mg) (E:Fn K mg "_law_cell_at" i7 ["_law_script","_law_k"]):gV P w K mg base 1 "_law_cell_at" i7 ["_law_script","_law_k"] (vj K):=E.mk' λf fd F=>by
 refine F.okS uU (λvs H Q E h=>?_) (λcdv A outer s H vs Q E hr h=>?_)
 ·obtain⟨a,ns,k,rfl,_⟩:=h;rfl
 ·obtain⟨a,ns,k,rfl,hS,q⟩:=h;refine⟨[some (.ref a),some (.int k)],_,rfl,(L2.lJ.h (aO (dm (bp nW (bI 1) (cC eh (by rfl) B.len cL (aL (bI 0) aJ)) (cu _))
   (aT (bc (dB fJ (bI 0) (bI 1) (λ_ _=>rfl))))
   cv)
   (aT (bc (bA fO (bA nE aU (bI 1)) aU))))),?_⟩
  nofun;refine⟨_,.inl hS,?_⟩;rw[aC];refine kY (λh=>?_) (λh=>?_)
  ·have hk:k<ns.length:=by lia
   refine⟨_,.int (ns.getD k 0),hS,l4 ?_,q _⟩;simp[bV,hk]
  ·exact⟨.inl ⟨by decide,by decide⟩,q _⟩
theorem AB (E:Fn K mg "_law_mixed" lR ["_law_cell"]):gV P w K mg base 1 "_law_mixed" lR ["_law_cell"] sL:=E.mk' λf fd F=>by
 refine F.okS sU (λvs H Q E h=>?_) (λcdv A outer s H vs Q E hr h=>?_)
 ·obtain⟨n,rfl,_⟩:=h;rfl
 ·obtain⟨n,rfl,q⟩:=h;refine⟨[some (.int n),none],_,rfl,(L2.lJ.h (aO (bF (i:=1) sU.nd rfl (Or.inl rfl) (bA jK (bA nE (bA fO (bA jK (bI 0) (bA uc aU aU)) aU) aU) (bA mH (bA uc aU aU) aU)))
   (aT (bc (bA kG (bA jK (bA nE (bI 1) aU) (bA mH (bA uc aU aU) aU)) aU))))),?_⟩
  nofun;refine⟨⟨by decide,by decide,by decide⟩,by decide,.inr ⟨by decide,by decide⟩,⟨by decide,by decide,by decide⟩,by decide,.inr ⟨by decide,by decide⟩,⟨by decide,by decide,by decide⟩,by decide,⟨by decide,by decide⟩,?_⟩;have e:((2:Int) ^ Int.toNat 61 - 1)=2305843009213693951:=by decide
  rw[e];refine q _ ?_ ?_<;>lia
theorem ud (E:Fn K mg "_law_rest_of" iZ ["_law_cell"]) (J4:gV P w K mg base 1 "_law_mixed" lR ["_law_cell"] sL):gV P w K mg base 2 "_law_rest_of" iZ ["_law_cell"] vh:=E.mk' λf fd F=>by
 refine F.okS mE (λvs H Q E h=>?_) (λcdv A outer s H vs Q E hr h=>?_)
 ·obtain⟨n,rfl,_⟩:=h;rfl
 ·obtain⟨n,rfl,q⟩:=h;refine⟨[some (.int n),none],_,rfl,(L2.lJ.h (aO (dm (bp ij (bA jK (bI 0) aU) aU (cu _))
   (aT (bc (bP J4 (hr.mono (by decide)) (by rfl) (de (bA kG (bI 0) aU) aJ))))
   cv)
   (aO (bF (i:=1) mE.nd rfl (Or.inl rfl) aU)
   (aO (nC av (bp zt (bI 1) (bA kG (bI 0) aU) (cu _))
   (aT (bF (i:=1) mE.nd rfl (Or.inl rfl) (bA nE aU (bI 1)))))
   (aT (bc (bA fO (bA kG (bI 0) aU) (bA nE (bI 1) (bP J4 (hr.mono (by decide)) (by rfl) (de (bA kG (bI 0) aU) aJ)))))))))),?_⟩
  nofun;refine⟨by decide,kY (λh=>⟨⟨by decide,by decide⟩,_,rfl,λm _ _=>q m⟩) (λh=>?_)⟩;refine⟨λm σ H3=>∃t:Int,σ=[some (.int n),some (.int t)]/\1<=t/\m=(n / 2+1-t).toNat/\H3=H,⟨_,1,rfl,by decide,rfl,rfl⟩,?_⟩;rintro m σ H3 ⟨t,rfl,ht,rfl,rfl⟩;nofun;refine⟨⟨by decide,by decide⟩,kY (λh=>?_) (λh=>?_)⟩
  ·refine⟨_,λ_ _ z=>z,.inl ⟨by decide,by decide⟩,_,?_,4*t,rfl,by lia,rfl,rfl⟩;lia
  ·refine⟨⟨by decide,by decide⟩,⟨by decide,by decide⟩,_,rfl,λm h1 h2=>?_⟩;nofun;exact⟨.inr ⟨by lia,by lia⟩,q _⟩
theorem ug (B:uG mg) (E:Fn K mg "_law_crosses" i5 ["_law_side","_law_order"]):gV P w K mg base 1 "_law_crosses" i5 ["_law_side","_law_order"] Co:=E.mk' λf fd F=>by
 refine F.okS fi (λvs H Q E h=>?_) (λcdv A outer s H vs Q E hr h=>?_)
 ·obtain⟨z,a,o,rfl,_⟩:=h;rfl
 ·obtain⟨z,a,o,rfl,ha,hl,q⟩:=h;refine⟨[some (.str z),some (.ref a),none,none,none,none,none,none],_,rfl,(L2.lJ.h (aO (bF (i:=2) fi.nd rfl (Or.inl rfl) (bA qw (bA qw (eB (dD aU aJ)) (g6 mn (by rfl) B.list gG (aL (bI 1) aJ))) (eB (de (bA fO (cC eh (by rfl) B.len cL (aL (bI 1) aJ)) aU) aJ))))
   (aO (dX av rfl (jy (by rfl) B.range (dD aU aJ)) (bU (i:=3) fi.nd rfl (Or.inl rfl))
   (aO (bF (i:=4) fi.nd rfl (Or.inl rfl) (eB aJ))
    (aO (dX av rfl (u5 (by rfl) B.range (aL (bI 3) (de (bA mH (cC eh (by rfl) B.len cL (aL (bI 2) aJ)) aU) (dD aU aJ)))) (bU (i:=5) fi.nd rfl (Or.inl rfl))
    (aT (gq (jJ cE dQ dP jb (bI 4) (g9 (fR (eJ (cC (xq rfl) (by rfl) B.min PyProof.Rows.boot_min (cG (dB fJ (bI 2) (bI 5) (λ_ _=>rfl)) (cG (dB fJ (bI 2) (bA fO (bI 5) aU) (λ_ _=>rfl)) aJ))) (eJ (cC (xr rfl) (by rfl) B.max PyProof.Rows.boot_max (cG (dB fJ (bI 2) (bI 5) (λ_ _=>rfl)) (cG (dB fJ (bI 2) (bA fO (bI 5) aU) (λ_ _=>rfl)) aJ))) aJ))) aJ)))))
    (aT (dX av rfl (du (bI 4)) (bU (i:=6) fi.nd rfl (Or.inl rfl))
    (aT (dX av rfl (du (bI 4)) (bU (i:=7) fi.nd rfl (Or.inl rfl))
     (aT (dm (oS nW nW nW (dB kH (bI 6) aU (λ_ _=>rfl)) (dB kH (bI 7) aU (λ_ _=>rfl)) (dB kH (bI 6) aU (λ_ _=>rfl)) (dB kH (bI 7) aU (λ_ _=>rfl)))
      (aT (bc ko))
      cv)))))))))
   (aT (bc ko))))),?_⟩
  nofun;have two:(2:Nat)<=sizeLine:=by decide
  have one:(1:Nat)<=sizeLine:=by decide
  refine⟨one,λp0 n0=>?_⟩;have s0:=(ao.refl H).new (o:=.lst [V.int 0]) n0;have hp0:upd H p0 (.lst [V.int 0]) p0=some (.lst [V.int 0]):=aG;generalize upd H p0 (.lst [V.int 0])=H0 at s0 hp0 ⊢;have ha0:H0 a=some (.tup (o.map V.int)):=s0 _ _ ha;refine⟨_,.inr (eR.of ha0),λl1 n1=>?_⟩;have s1:=(ao.refl H0).new (o:=.lst (o.map V.int)) n1;refine G4 (s1 _ _ hp0) aG (by simp;lia) λp2 H2 n2 s2 h2=>?_;have s02:=s0.trans (s1.trans s2);refine⟨_,.inr (eR.of (s02 _ _ ha)),one,λp3 n3=>?_⟩;rw[aC];have s3:=(ao.refl H2).new (o:=.lst [V.int ((o.length:Int)+1)]) n3;refine G4 (s3 _ _ h2) aG (by simp;lia) λrd H4 n4 s4 h4=>?_;have s04:=s02.trans (s3.trans s4);have erd:[V.int 0]++o.map V.int++[V.int ((o.length:Int)+1)]=(dg o).map V.int:=by simp[dg]
  rw[erd] at h4;have hrl:(dg o).length=o.length+2:=by simp[dg]
  have rdat:∀k:Nat,k<o.length+2->uC ((dg o).map V.int) (k:Int)=some (V.int ((dg o).getD k 0)):=λk hk=>l4 (by
   rw[bV,aS (by lia),bf,aS (by lia)];rfl)
  clear erd h2 hp0 ha0;refine⟨by decide,by decide,?_⟩;refine l3 (n:=Int.toNat 2) (λi σ H'=>∃(x3 x4 x5 x6 x7:Option V),σ=[some (.str z),some (.ref a),some (.ref rd),x3,x4,x5,x6,x7]/\ao H4 H'/\∀t,t<i->q9 o t=false) ⟨_,_,_,_,_,rfl,ao.refl _,λt ht=>absurd ht (Nat.not_lt_zero t)⟩ ?_ ?_
  ·rintro i σ H5 hi ⟨x3,x4,x5,x6,x7,rfl,s5,hno⟩;have hi2:i<2:=hi;have h5:=s5 _ _ h4;generalize hnn:(o.length+2-i) / 2=nn;nofun;rw[Int.zero_add];refine⟨a6 _,λbw nbw=>?_⟩;have s6:=(ao.refl H5).new (o:=.lst []) nbw;have hb6:upd H5 bw (.lst []) bw=some (.lst []):=aG;generalize upd H5 bw (.lst [])=H6 at s6 hb6 ⊢;refine⟨_,.inl (cy.of (s6 _ _ h5)),_,_,rfl,?_⟩;rw[aC,hrl];refine⟨⟨by lia,by lia,by lia,by lia⟩,?_⟩;have en:((((o.length+2:Nat):Int) - 1-(i:Int)+1) / 2).toNat=nn:=by lia
   rw[en];refine vB (λj σ H'=>∃(x5 x6 x7:Option V),σ=[some (.str z),some (.ref a),some (.ref rd),some (.int (i:Int)),some (.ref bw),x5,x6,x7]/\ao H5 H'/\fQ H' bw (nO (dg o) i j)) ⟨_,_,_,rfl,s6,⟨[],hb6,.nil⟩⟩ ?_ ?_
   ·rintro j σ H7 hj ⟨x5,x6,x7,rfl,s7,as,hbw,prs⟩;have h7:=s7 _ _ h5;have hal:as.length=(nO (dg o) i j).length:=bu prs;have hbl:(nO (dg o) i j).length=j:=by simp[nO]
    have k1:(i:Int)+(j:Int)*2=((i+j*2:Nat):Int):=by lia
    have k2:((i+j*2:Nat):Int)+1=((i+j*2+1:Nat):Int):=by lia
    have r1:=rdat (i+j*2) (by lia);have r2:=rdat (i+j*2+1) (by lia);nofun;rw[k1,k2];refine⟨mT hbw,_,_,cy.of h7,r1,_,_,cy.of h7,r2,_,_,rfl,_,_,cy.of h7,r1,_,_,cy.of h7,r2,_,_,rfl,two,λt nt=>?_⟩;have ntb:bw≠t:=bK hbw nt;refine⟨as.map V.ref,by rw[aX ntb];exact hbw,cS (by rw[aC];lia),_,_,_,rfl,(s7.trans ((ao.refl _).new nt)).new nbw,?_⟩;have ebw:nO (dg o) i (j+1)=nO (dg o) i j++[Ex (dg o) (i+j*2)]:=by
     unfold nO;rw[dr,aM];rfl
    have em:Ex (dg o) (i+j*2)=((if (dg o).getD (i+j*2+1) 0<(dg o).getD (i+j*2) 0 then (dg o).getD (i+j*2+1) 0 else (dg o).getD (i+j*2) 0),(if (dg o).getD (i+j*2+1) 0 > (dg o).getD (i+j*2) 0 then (dg o).getD (i+j*2+1) 0 else (dg o).getD (i+j*2) 0)):=by
     unfold Ex;generalize (dg o).getD (i+j*2) 0=u;generalize (dg o).getD (i+j*2+1) 0=v;have e1:min u v=if v<u then v else u:=by rw[Int.min_def];split<;>split<;>lia
     have e2:max u v=if v > u then v else u:=by rw[Int.max_def];split<;>split<;>lia
     rw[e1,e2]
    rw[ebw,em];exact xt hbw prs nt
   ·rintro σ H7 ⟨x5,x6,x7,rfl,s7,as,hbw,prs⟩;have hal:as.length=(nO (dg o) i nn).length:=bu prs;have etr:q9 o i=yZ (nO (dg o) i nn):=by unfold q9;rw[hnn]
    generalize nO (dg o) i nn=bs at prs hal etr;have hit:∀a∈bs,∀b∈bs,x2 a b=true->pB o=true:=λu hu v hv huv=>by
     have:q9 o i=true:=by
      rw[etr];unfold yZ;exact List.any_eq_true.mpr ⟨u,hu,List.any_eq_true.mpr ⟨v,hv,huv⟩⟩
     unfold pB;have:i=0\/i=1:=by lia
     rcases this with rfl | rfl
     ·rw[‹q9 o 0=true›];rfl
     ·rw[‹q9 o 1=true›,Bool.or_true]
    nofun;refine⟨⟨_,cy.of hbw⟩,gC (xs:=as.map V.ref) (λj σ H'=>∃(x6 x7:Option V),σ=[some (.str z),some (.ref a),some (.ref rd),some (.int (i:Int)),some (.ref bw),x5,x6,x7]/\H'=H7/\∀u∈bs.take j,bs.any (λv=>x2 u v)=false) ⟨_,_,rfl,rfl,λu hu=>by simp at hu⟩ (λj σ H' _ ⟨_,_,_,e,_⟩=>by rw[e];exact cy.of hbw) ?_ ?_⟩
    ·rintro j x σ H' hx ⟨x6,x7,rfl,rfl,hnj⟩;obtain⟨aj,haj,rfl⟩:=eZ hx;obtain⟨u,huj,hu⟩:=L2.paired_get prs haj;have etk:bs.take (j+1)=bs.take j++[u]:=by rw[bD,huj];rfl
     nofun;refine⟨⟨_,cy.of hbw⟩,gC (xs:=as.map V.ref) (λk σ H''=>∃(x7:Option V),σ=[some (.str z),some (.ref a),some (.ref rd),some (.int (i:Int)),some (.ref bw),x5,some (.ref aj),x7]/\H''=H'/\∀v∈bs.take k,x2 u v=false) ⟨_,rfl,rfl,λv hv=>by simp at hv⟩ (λk σ H'' _ ⟨_,_,e,_⟩=>by rw[e];exact cy.of hbw) ?_ ?_⟩
     ·rintro k y σ H'' hy ⟨x7,rfl,rfl,hnk⟩;obtain⟨ak,hak,rfl⟩:=eZ hy;obtain⟨v,hvk,hv⟩:=L2.paired_get prs hak;have etk2:bs.take (k+1)=bs.take k++[v]:=by rw[bD,hvk];rfl
      have hu':H'' aj=some (.tup [V.int u.1,V.int u.2]):=hu;have hv':H'' ak=some (.tup [V.int v.1,V.int v.2]):=hv;have nx:x2 u v=false->∃(x7:Option V),[some (V.str z),some (V.ref a),some (V.ref rd),some (V.int (i:Int)),some (V.ref bw),x5,some (V.ref aj),some (V.ref ak)]=[some (.str z),some (.ref a),some (.ref rd),some (.int (i:Int)),some (.ref bw),x5,some (.ref aj),x7]/\H''=H''/\∀v∈bs.take (k+1),x2 u v=false:=λhz=>⟨_,rfl,rfl,λw hw=>by
       rw[etk2] at hw;rcases aE.mp hw with h | h
       ·exact hnk w h
       ·have:w=v:=by simpa using h
        subst this;exact hz⟩
      nofun;refine⟨_,_,eR.of hu',rfl,_,_,eR.of hv',rfl,?_⟩;rw[BJ];by_cases c1:u.1<v.1
      ·refine⟨_,rfl,rh (LP c1) ⟨_,_,eR.of hu',rfl,?_⟩⟩;rw[BJ];by_cases c2:v.1<u.2
       ·refine⟨_,rfl,rh (LP c2) ⟨_,_,eR.of hv',rfl,?_⟩⟩;rw[BJ];by_cases c3:u.2<v.2
        ·have ht:x2 u v=true:=by unfold x2;rw[LP c1,LP c2,LP c3];rfl
         have ec:=hit u (ax huj) v (ax hvk) ht;rw[ec] at q;exact⟨_,rfl,rh (LP c3) (q _ (s04.trans (s5.trans s7)))⟩
        ·exact⟨_,rfl,lh (by rw[LO c3];exact λz=>nomatch z) (nx (by unfold x2;rw[LO c3,gO,gO]))⟩
       ·exact⟨_,rfl,lh (by rw[LO c2];exact λz=>nomatch z) (nx (by unfold x2;rw[LO c2,lP,gO]))⟩
      ·exact⟨_,rfl,lh (by rw[LO c1];exact λz=>nomatch z) (nx (by unfold x2;rw[LO c1,lP]))⟩
     ·rintro σ H'' ⟨x7,rfl,rfl,hnk⟩;rw[aC,hal,cF] at hnk;refine⟨_,_,rfl,rfl,λw hw=>?_⟩;rw[etk] at hw;rcases aE.mp hw with h | h
      ·exact hnj w h
      ·have:w=u:=by simpa using h
       subst this;exact dw.mpr λv hv=>by rw[hnk v hv];exact λz=>nomatch z
    ·rintro σ H' ⟨x6,x7,rfl,rfl,hnj⟩;rw[aC,hal,cF] at hnj;refine⟨_,_,_,_,_,rfl,s5.trans s7,λt ht=>?_⟩;rcases fU t i with h | h
     ·exact hno t h
     ·have:t=i:=by lia
      subst this;rw[etr];exact dw.mpr λu hu=>by rw[hnj u hu];exact λz=>nomatch z
  ·rintro σ H5 ⟨x3,x4,x5,x6,x7,rfl,s5,hno⟩;have e0:=hno 0 (by decide);have e1:=hno 1 (by decide);have ec:pB o=false:=by unfold pB;rw[e0,e1];rfl
   rw[ec] at q;nofun;exact q _ (s04.trans s5)
theorem xO (B:uG mg) (E:Fn K mg "_law_orders" jY ["_law_n"]):gV P w K mg base 1 "_law_orders" jY ["_law_n"] zQ:=E.mk' λf fd F=>by
 refine F.okS iY (λvs H Q E h=>?_) (λcdv A outer s H vs Q E hr h=>?_)
 ·obtain⟨n,rfl,_⟩:=h;rfl
 ·obtain⟨n,rfl,hn,q⟩:=h;refine⟨[some (.int (n:Nat)),none,none,none,none],_,rfl,(L2.lJ.h (aO (bF (i:=1) iY.nd rfl (Or.inl rfl) (eB (g9 (fR aJ) aJ)))
   (aO (dX av rfl (oT (by rfl) B.range (dD aU (de (bA fO (bI 0) aU) aJ))) (bU (i:=2) iY.nd rfl (Or.inr rfl))
   (aO (bF (i:=3) iY.nd rfl (Or.inl rfl) (eB aJ))
    (aO (dX av rfl (du (bI 1)) (bU (i:=4) iY.nd rfl (Or.inr rfl))
    (aT (gq (jJ cE PySem.F.slot_list_extend PySem.F.type_list_extend xX (bI 3) (kC (kn (own:=["_law_at"]) (ns:=["_law_order","_law_ring"]) (caps:=[4,2]) rfl ⟨rfl,by decide +kernel,by decide +kernel,by decide +kernel⟩ (.cons rfl rfl (.inl rfl) (.cons rfl rfl (.inl rfl) .nil)) (jy (by rfl) B.range (de (bA fO (cC eh (by rfl) B.len cL (aL (bI 4) aJ)) aU) aJ)) (λC s H fp pn=>(bU (i:=0) (show List.Nodup ((["_law_at"]:List Str)++(["_law_order","_law_ring"]:List Str)) by decide +kernel) rfl (Or.inl rfl))) (λC s H fp pn=>kA) (λC s H fp pn=>(bA (qJ (K:=K) rfl) (bA (qJ (K:=K) rfl) (g0 (sS (K:=K) rfl) (bI 1) j6 (gu (bI 0))) (fR (aL (bI 2) aJ))) (g0 (sS (K:=K) rfl) (bI 1) (gu (bI 0)) j6)))) aJ)))))
    (aT (bF (i:=1) iY.nd rfl (Or.inl rfl) (bI 3))))))
   (aT (bc (bI 1)))))),?_⟩
  nofun;refine⟨a6 _,λp0 np0=>⟨(by show 1<=sizeLine;decide),λl0 nl0=>⟨by lia,?_⟩⟩⟩;have s0:=((ao.refl H).new (o:=.tup []) np0).trans ((ao.refl _).new (o:=.lst [V.ref p0]) nl0);have h00:upd (upd H p0 (.tup [])) l0 (.lst [V.ref p0]) p0=some (.tup []):=((ao.refl _).new (o:=.lst [V.ref p0]) nl0) _ _ aG;rw[show ((n:Int)+1 - 1).toNat=n by lia];refine l3 (n:=n) (λi σ H'=>∃(l:Addr) (as:List Addr) (x2 x3 x4:Option V),σ=[some (.int (n:Nat)),some (.ref l),x2,x3,x4]/\ao H H'/\H' l=some (.lst (as.map V.ref))/\Paired (uK H') as (l9 i)) ⟨l0,[p0],none,none,none,rfl,s0,aG,.cons h00 .nil⟩ ?_ ?_
  ·rintro i σ H1 hi ⟨l,as,x2,x3,x4,rfl,s1,hl,pr⟩;have hal:as.length=(l9 i).length:=bu pr;have hol:=Bi i (by lia);nofun;refine⟨a6 _,λf nf=>?_⟩;have sf:=(ao.refl H1).new (o:=.lst []) nf;refine⟨⟨_,cy.of (sf _ _ hl)⟩,gC (xs:=as.map V.ref) (λj σ H2=>∃(bs:List Addr) (x4:Option V),σ=[some (.int (n:Nat)),some (.ref l),some (.int (1+(i:Int))),some (.ref f),x4]/\ao H1 H2/\H2 f=some (.lst (bs.map V.ref))/\Paired (uK H2) bs (((l9 i).take j).flatMap (lg ((i:Int)+1)))) ⟨[],_,rfl,sf,aG,.nil⟩ (λj σ H2 _ ⟨_,_,_,s2,_⟩=>cy.of (s2 _ _ hl)) ?_ ?_⟩
   ·rintro j x σ H2 hx ⟨bs,x4,rfl,s2,hf,prb⟩;obtain⟨aj,haj,rfl⟩:=eZ hx;obtain⟨o,hoj,ho⟩:=paired_get pr haj;have hol2:=oX i o (ax hoj);have ho2:H2 aj=some (.tup (o.map V.int)):=s2 _ _ ho;have hbl:bs.length<=600:=by
     have h1:bs.length=(((l9 i).take j).flatMap (lg ((i:Int)+1))).length:=bu prb;have h2:∀(L:List (List Int)),(∀o∈L,o.length=i)->(L.flatMap (lg ((i:Int)+1))).length=L.length*(i+1):=by
      intro L
      induction L with
      | nil=>intro _;simp
      | cons a L ih=>
       intro h;rw[aW,aR,ih λo ho=>h o (aD _ ho),bb,Nat.succ_mul];have:(lg ((i:Int)+1) a).length=i+1:=by simp[lg,h a (by simp)]
       lia
     rw[h1,h2 _ λo ho=>oX i o (iC ho),bS];have h3:min j (l9 i).length<=120:=by lia
     have h4:min j (l9 i).length*(i+1)<=120*5:=Nat.mul_le_mul h3 (by lia);lia
    nofun;refine⟨mT hf,_,.inr (eR.of ho2),?_⟩;rw[aC];refine⟨by lia,by lia,?_⟩;rw[show ((o.length:Int)+1).toNat=o.length+1 by lia];refine pF (λk ys σ H3=>∃cs:List Addr,ys=cs.map V.ref/\cs.length=k/\ao H2 H3/\Paired (uK H3) cs ((lg ((i:Int)+1) o).take k)/\∃x0,σ=[x0,some (.ref aj),some (.int (1+(i:Int)))]) ⟨[],rfl,rfl,ao.refl _,.nil,_,rfl⟩ ?_ (nv (by lia)) ?_ ?_
    ·rintro k ys σ H3 ⟨cs,rfl,hc,_⟩;rw[aC];lia
    ·rintro k ys σ H3 N hk ⟨cs,rfl,hc,s3,prc,x0,rfl⟩ hN;have ho3:=s3 _ _ ho2;nofun;rw[Int.zero_add];refine Dp ho3 (by rw[aC];lia) λq1 H4 s4 h4=>⟨(by show 1<=sizeLine;decide),λq2 n2=>?_⟩
     have s5:=(ao.refl H4).new (o:=.tup [V.int (1+(i:Int))]) n2;refine w6 (s5 _ _ h4) aG (by rw[bS,aC];show _+1<=_;lia) λq3 H5 s6 h6=>?_;refine wx ((s4.trans (s5.trans s6)) _ _ ho3) (by rw[aC];lia) λq4 H6 s7 h7=>?_;refine w6 (s7 _ _ h6) h7 (by simp;lia) λq5 H7 s8 h8=>hN _ _ _ ⟨cs++[q5],by simp,by simp[hc],s3.trans (s4.trans (s5.trans (s6.trans (s7.trans s8)))),?_,_,rfl⟩;have eik:(lg ((i:Int)+1) o)[k]? = some (o.take k++[(i:Int)+1]++o.drop k):=by
      unfold lg;rw[bV,List.getElem?_range hk];rfl
     rw[bD,eik];refine ft (L2.cY prc λa o h=>(s4.trans (s5.trans (s6.trans (s7.trans s8)))) _ _ h) ?_;show H7 q5=some (.tup ((o.take k++[(i:Int)+1]++o.drop k).map V.int));rw[h8];simp[Int.add_comm]
    ·rintro ys σ H3 p3 ⟨cs,rfl,hc,s3,prc,x0,rfl⟩ np3;have hfull:(lg ((i:Int)+1) o).take (o.length+1)=lg ((i:Int)+1) o:=bZ (by simp[lg]);rw[hfull] at prc;have s4:=s3.trans ((ao.refl H3).new (o:=.lst (cs.map V.ref)) np3);have hp4:upd H3 p3 (.lst (cs.map V.ref)) p3=some (.lst (cs.map V.ref)):=aG;have prc4:=L2.cY prc λa o h=>((ao.refl H3).new (o:=.lst (cs.map V.ref)) np3) _ _ h;generalize upd H3 p3 (.lst (cs.map V.ref))=H4 at s4 hp4 prc4 ⊢;have hf4:=s4 _ _ hf;refine⟨f,p3,bs.map V.ref,cs.map V.ref,rfl,rfl,hf4,hp4,nv (by rw[aC,aC];lia),bs++cs,_,rfl,(s2.trans s4).new nf,?_,?_⟩
     ·rw[aG,aM]
     ·have keep:∀a o,uK H4 a o->uK (upd H4 f (.lst (bs.map V.ref++cs.map V.ref))) a o:=λa o h=>by
       have hne:a≠f:=λz=>by subst z;rw[show H4 a=_ from h] at hf4;cases hf4
       show upd H4 f _ a=_;rw[aX hne];exact h
      have etk:((l9 i).take (j+1)).flatMap (lg ((i:Int)+1))=((l9 i).take j).flatMap (lg ((i:Int)+1))++lg ((i:Int)+1) o:=by
       rw[bD,hoj,fY];simp
      rw[etk];exact qH (L2.cY prb λa o h=>keep a o (s4 _ _ h)) (L2.cY prc4 λa o h=>keep a o h)
   ·rintro σ H2 ⟨bs,x4,rfl,s2,hf,prb⟩;rw[aC,hal,cF] at prb;nofun;exact⟨f,bs,_,_,_,rfl,s1.trans s2,hf,prb⟩
  ·rintro σ H1 ⟨l,as,x2,x3,x4,rfl,s1,hl,pr⟩;nofun;exact q l as H1 s1 hl pr
theorem qy (B:uG mg) (E:Fn K mg "_law_any_order" fo ["_law_rest","_law_many"]):gV P w K mg base 1 "_law_any_order" fo ["_law_rest","_law_many"] zS:=E.mk' λf fd F=>by
 refine F.okS iS (λvs H Q E h=>?_) (λcdv A outer s H vs Q E hr h=>?_)
 ·obtain⟨c,n,rfl,_⟩:=h;rfl
 ·obtain⟨c,n,rfl,n60,q⟩:=h;refine⟨[some (.int c),some (.int n),none,none],_,rfl,(L2.lJ.h (aO (bF (i:=2) iS.nd rfl (Or.inl rfl) (eB aJ))
   (aO (dX av rfl (jy (by rfl) B.range (aL (bI 1) aJ)) (bU (i:=3) iS.nd rfl (Or.inl rfl))
   (aO (gq (jJ cE jP PySem.F.type_list_insert xV (bI 2) (de (bA jK (bI 0) (bA fO (bI 3) aU)) (de (bA fO (bI 3) aU) aJ))))
    (aT (bF (i:=0) iS.nd rfl (Or.inl rfl) (bA kG (bI 0) (bA fO (bI 3) aU))))))
   (aT (bc (g6 jN (by rfl) B.tuple fv (aL (bI 2) aJ))))))),?_⟩
  nofun;refine⟨a6 _,λl nl=>?_⟩;have sl:=(ao.refl H).new (o:=.lst []) nl;refine⟨by lia,by lia,l3 (n:=n) (λi σ H2=>∃(ns:List Int) (r:Int) (x4:Option V),σ=[some (.int r),some (.int n),some (.ref l),x4]/\ao H H2/\H2 l=some (.lst (ns.map V.int))/\ns.Perm (iT 1 i))
   ⟨[],_,_,rfl,sl,aG,.refl _⟩ ?_ ?_⟩
  ·rintro i σ H2 hi ⟨ns,r0,x4,rfl,sm,hl2,pm⟩;have hl:ns.length=i:=by have:=pm.length_eq;rwa [oR] at this
   nofun;refine⟨mT hl2,by lia,?_⟩;have m0:0<=r0 % ((0:Int)+i+1):=kU _ (by lia);have m1:r0 % ((0:Int)+i+1)<(0:Int)+i+1:=iy _ (by lia);generalize r0 % ((0:Int)+i+1)=r at m0 m1 ⊢;refine⟨l,_,r.toNat,.int ((0:Int)+i+1),rfl,by rw[Int.toNat_of_nonneg m0],hl2,by rw[aC];lia,by rw[aC];lia,?_⟩;refine⟨⟨by lia,by lia⟩,ns.take r.toNat++((0:Int)+i+1)::ns.drop r.toNat,_,_,rfl,sm.new nl,by rw[aG];simp,?_⟩;have e:iT 1 (i+1)=iT 1 i++[(0:Int)+i+1]:=by simp[iT,dr];lia
   rw[e];refine cT.trans ?_;rw[bi];exact((pm.cons _).trans (bM (l₁:=[_]) (l₂:=iT 1 i)))
  ·rintro σ H2 ⟨ns,r0,x4,rfl,sm,hl2,pm⟩;have hl:ns.length=n:=by have:=pm.length_eq;rwa [oR] at this
   nofun;exact⟨_,.inl ⟨cy.of hl2,λt nt=>q t ns _ (sm.new (sm.free nt)) aG hl pm⟩⟩
theorem EJ (B:uG mg) (E:Fn K mg "law" mY ["_law_script"]) (JD:gV P w K mg base 1 "_law_cell_at" i7 ["_law_script","_law_k"] (vj K)) (JR:gV P w K mg base 2 "_law_rest_of" iZ ["_law_cell"] vh) (JL:gV P w K mg base 6 "listed" jZ ["side","n"] sM) (Iw:gV P w K mg base 1 "_law_any_order" fo ["_law_rest","_law_many"] zS) (J6:gV P w K mg base 1 "_law_orders" jY ["_law_n"] zQ) (JS:gV P w K mg base 1 "_law_crosses" i5 ["_law_side","_law_order"] Co) (JT:gV P w K mg base 4 "crossed" i6 ["maze"] qA):gV P w K mg base 7 "law" mY ["_law_script"] (sN K):=E.mk' λf fd F=>by
 refine F.okS iH (λvs H Q E h=>?_) (λcdv A outer s H vs Q E hr h=>?_)
 ·obtain⟨a,ns,rfl,_⟩:=h;rfl
 ·obtain⟨a,cz,rfl,hS,hlen,kQ⟩:=h;refine⟨[some (.ref a),none,none,none,none,none,none,none,none,none],_,rfl,(L2.lJ.h (dh (bF (i:=1) iH.nd rfl (Or.inr rfl) (bP JD (hr.mono (by decide)) (by rfl) (aL (bI 0) (dD aU aJ))))
   (dh (bF (i:=2) iH.nd rfl (Or.inl rfl) (dB oj bq (bA jK (bI 1) aU) (λ_ _=>rfl)))
   (dh (bF (i:=3) iH.nd rfl (Or.inr rfl) (bA jK (bA kG (bI 1) aU) aU))
   (dh (sZ (i:=4) iH.nd rfl (Or.inl rfl) (own:=["_law_maze"]) (ns:=[]) (caps:=[]) rfl ⟨rfl,by decide +kernel,by decide +kernel,by decide +kernel⟩ .nil (du (bP JL (hr.mono (by decide)) (by rfl) (aL (bI 2) (aL (bI 3) aJ)))) (λC s H fp pn=>(bU (i:=0) (show List.Nodup ((["_law_maze"]:List Str)++([]:List Str)) by decide +kernel) rfl (Or.inl rfl))) (λC s H fp pn=>kA) (λC s H fp pn=>(dB (rD (K:=K) rfl) (bI 0) aU (λ_ _=>rfl))))
   (dh (bF (i:=5) iH.nd rfl (Or.inl rfl) xJ)
   (dh (dX av rfl (du (bI 4)) (bU (i:=6) iH.nd rfl (Or.inl rfl))
   (aT (m7 (ni hr) (bI 5) (bI 6) ko rfl)))
   (dh (bF (i:=7) iH.nd rfl (Or.inl rfl) (bP JL (hr.mono (by decide)) (by rfl) (cG (dB oj bq (bA jK (bI 1) aU) (λ_ _=>rfl)) (aL (bI 3) aJ))))
   (dh (dm (QW.pt (uZ (bp tE (cC tm (by rfl) B.len cL (aL (bI 5) aJ)) (cC eh (by rfl) B.len cL (aL (bI 4) aJ)) (cu _)) (qo (bp (EH (A6 hr)) (cC jd (by rfl) B.sorted cg (kC (kn (own:=["_law_maze"]) (ns:=[]) (caps:=[]) rfl ⟨rfl,by decide +kernel,by decide +kernel,by decide +kernel⟩ .nil (du (bI 7)) (λC s H fp pn=>(bU (i:=0) (show List.Nodup ((["_law_maze"]:List Str)++([]:List Str)) by decide +kernel) rfl (Or.inl rfl))) (λC s H fp pn=>kA) (λC s H fp pn=>(dB (rD (K:=K) rfl) (bI 0) aU (λ_ _=>rfl)))) aJ)) (cC jd (by rfl) B.sorted cg (aL (bI 4) aJ)) (cu _)))))
   (aT (bc ko))
   cv)
   (dh (dm (qp (oA (cC (tq rfl) (by rfl) B.all PyProof.Rows.boot_all (kC (kn (own:=["_law_maze"]) (ns:=["_law_head"]) (caps:=[1]) rfl ⟨rfl,by decide +kernel,by decide +kernel,by decide +kernel⟩ (.cons rfl rfl (.inl rfl) .nil) (du (bI 7)) (λC s H fp pn=>(bU (i:=0) (show List.Nodup ((["_law_maze"]:List Str)++(["_law_head"]:List Str)) by decide +kernel) rfl (Or.inl rfl))) (λC s H fp pn=>kA) (λC s H fp pn=>(j7 ij (dB (rD (K:=K) rfl) (bI 0) aU (λ_ _=>rfl)) (dB oj bq (bA jK (bI 1) aU) (λ_ _=>rfl)) (cu _)))) aJ))))
   (aT (bc ko))
   cv)
   (dh (sZ (i:=8) iH.nd rfl (Or.inl rfl) (own:=["_law_k"]) (ns:=["_law_n","_law_script"]) (caps:=[3,0]) rfl ⟨rfl,by decide +kernel,by decide +kernel,by decide +kernel⟩ (.cons rfl rfl (.inl rfl) (.cons rfl rfl (.inl rfl) .nil)) (oT (by rfl) B.range (dD aU (dD aU aJ))) (λC s H fp pn=>(bU (i:=0) (show List.Nodup ((["_law_k"]:List Str)++(["_law_n","_law_script"]:List Str)) by decide +kernel) rfl (Or.inl rfl))) (λC s H fp pn=>kA) (λC s H fp pn=>(bP Iw (hr.mono (by decide)) (by rfl) (eJ (bP JR (hr.mono (by decide)) (by rfl) (eJ (bP JD (hr.mono (by decide)) (by rfl) (aL (bI 2) (aL (bI 0) aJ))) aJ)) (aL (bI 1) aJ)))))
   (dh (dm (bp nW (bI 3) aU (cu _))
   (aT (bF (i:=8) iH.nd rfl (Or.inl rfl) (bP J6 (hr.mono (by decide)) (by rfl) (aL (bI 3) aJ))))
   cv)
   (aO (dX av rfl (du (bI 8)) (bU (i:=6) iH.nd rfl (Or.inl rfl))
   (aO (bF (i:=9) iH.nd rfl (Or.inl rfl) (Bc (bP JS (hr.mono (by decide)) (by rfl) (aL (bI 2) (aL (bI 6) aJ)))))
    (aT (dm (QW.pt (uZ (bp tE (bI 9) (Bd (ni hr) (bI 6) (bI 5)) (cu _)) (qo (bp tE (bI 9) (j7 zu (bP JT (hr.mono (by decide)) (by rfl) (g9 (fR (aL (bI 2) (aL (bI 6) aJ))) aJ)) gB (cu _)) (cu _)))))
    (aT (bc ko))
    cv))))
   (aT (bc ko))))))))))))))),?_⟩
  refine dL (λσ H'=>∃c0:Int,σ=[some (.ref a),some (.int c0),none,none,none,none,none,none,none,none]/\H=H') ?_ ?_
  ·nofun;exact⟨a,cz,0,rfl,hS,λc0=>⟨c0,rfl,rfl⟩⟩
  rintro σ H' ⟨c0,rfl,rfl⟩;have two:(2:Nat)<=sizeLine:=by decide
  have q0:0<=c0 % 2:=kU _ (by decide);have q1:c0 % 2<2:=iy _ (by decide);refine dL (λσ H'=>σ=[some (.ref a),some (.int c0),some (.str (sd (decide (c0 % 2=1)))),none,none,none,none,none,none,none]/\H=H') ?_ ?_
  ·nofun;refine⟨by decide,by decide,_,GN q0 q1,?_⟩;rw[GM];exact⟨rfl,trivial⟩
  rintro σ H' ⟨rfl,rfl⟩;generalize hb:decide (c0 % 2=1)=b;refine dL (λσ H'=>∃n:Nat,n<=8/\σ=[some (.ref a),some (.int c0),some (.str (sd b)),some (.int (n:Nat)),none,none,none,none,none,none]/\H=H') ?_ ?_
  ·nofun;have m0:0<=c0 / 2 % 9:=kU _ (by decide);have m1:c0 / 2 % 9<9:=iy _ (by decide);obtain⟨m,hm⟩:=Int.eq_ofNat_of_zero_le m0;rw[hm] at m1 ⊢;exact⟨⟨by decide,by decide⟩,by decide,m,by lia,rfl,trivial⟩
  rintro σ H' ⟨n,hn,rfl,rfl⟩;have sz:∀b,(fW b n).length<128:=λb=>xM n hn b;refine dL (λσ H'=>∃t os,σ=[some (.ref a),some (.int c0),some (.str (sd b)),some (.int (n:Nat)),some (.ref t),none,none,none,none,none]/\ao H H'/\H' t=some (.lst (os.map V.ref))/\Paired (ii H') os (fW b n)) ?_ ?_
  ·nofun;refine⟨b,n,rfl,by lia,λl as H' nl s' hl ml=>?_⟩;obtain⟨os,ol,op,og⟩:=o6 ml;have ll:os.length=(fW b n).length:=kF op;refine⟨l,rfl,⟨_,cy.of hl⟩,nL (cy.of hl) (by rw[aC,<-ol,ll,Kh];have:=sz b;lia) (os.map V.ref) (by simp[ol]) ?_ ?_⟩
   ·rintro i x y Q' hx hy q;obtain⟨m,hm,rfl⟩:=eZ hx;obtain⟨o,ho,hz⟩:=og i m hm;obtain⟨o',ho',rfl⟩:=eZ hy;rw[ho] at ho';cases ho';nofun;exact⟨_,_,eR.of hz,rfl,q⟩
   ·intro p np;have st:=(ao.refl H').new (o:=.lst (os.map V.ref)) np;exact⟨p,os,rfl,s'.trans st,aG,fS op st⟩
  rintro σ H1 ⟨t,os,rfl,s1,ht,po⟩;have ol:os.length=(fW b n).length:=kF po;refine dL (λσ H'=>∃d,σ=[some (.ref a),some (.int c0),some (.str (sd b)),some (.int (n:Nat)),some (.ref t),some (.ref d),none,none,none,none]/\H1 d=none/\H'=upd H1 d (.dT [])) ?_ ?_
  ·nofun;exact λp np=>⟨p,rfl,np,rfl⟩
  rintro σ H' ⟨d,rfl,nd,rfl⟩;refine dL (λσ H'=>∃x kvs,σ=[some (.ref a),some (.int c0),some (.str (sd b)),some (.int (n:Nat)),some (.ref t),some (.ref d),x,none,none,none]/\ao H1 H'/\H' d=some (.dT kvs)/\DT kvs (fW b n)) ?_ ?_
  ·nofun;refine⟨⟨_,cy.of ((ao.refl H1).new nd _ _ ht)⟩,gC (xs:=os.map V.ref) (λi σ H'=>∃x kvs,σ=[some (.ref a),some (.int c0),some (.str (sd b)),some (.int (n:Nat)),some (.ref t),some (.ref d),x,none,none,none]/\ao H1 H'/\H' d=some (.dT kvs)/\DT kvs ((fW b n).take i)) ⟨_,[],rfl,(ao.refl H1).new nd,aG,DT.nil⟩ (λ_ σ H' _ ⟨_,_,_,s,_⟩=>cy.of (s _ _ ht)) ?_ ?_⟩
   ·rintro i x σ H2 hx ⟨x6,kvs,rfl,s2,hd,hk⟩;obtain⟨o,ho,rfl⟩:=eZ hx;obtain⟨ns,hns,hz⟩:=Rm.paired_get po ho;nofun;refine⟨_,pN.t (k:=yN ns) hd (by rw[AX];exact s2 _ _ hz) (by rw[hk.len,bS,Kh];have:=sz b;lia),_,_,rfl,s2.new nd,aG,?_⟩;rw[bD,hns];refine hk.add ?_;have nn:=(kt b (n:=n) (by lia)).sublist (jG (i+1) _);rw[bD,hns,gI] at nn;exact λz=>nn.2.2 _ z _ (aQ.mpr rfl) rfl
   ·rintro σ H2 ⟨x6,kvs,rfl,s2,hd,hk⟩;rw[aC,ol,cF] at hk;exact⟨_,_,rfl,s2,hd,hk⟩
  rintro σ H2 ⟨x6,kvs,rfl,s2,hd,hk⟩;refine dL (λσ H'=>∃l as,σ=[some (.ref a),some (.int c0),some (.str (sd b)),some (.int (n:Nat)),some (.ref t),some (.ref d),x6,some (.ref l),none,none]/\ao H2 H'/\H' l=some (.lst (as.map V.ref))/\Em H' (!b) as (ck n (bL !b) (bR !b))) ?_ ?_
  ·nofun;refine⟨by decide,by decide,_,Ct q0 q1,?_⟩;rw[Cs,hb];exact⟨!b,n,rfl,by lia,λl as H' nl s' hl ml=>⟨l,as,rfl,s',hl,ml⟩⟩
  rintro σ H3 ⟨l,as,rfl,s3,hl,ml⟩;have ht3:=s3 _ _ (s2 _ _ ht);have po3:=fS po (s2.trans s3);have hd3:=s3 _ _ hd;have s03:=s1.trans (s2.trans s3);clear s1 s2 s3 ht hd po nd;obtain⟨rs,rl,rp,rg⟩:=o6 ml;have ll:rs.length=(fW (!b) n).length:=kF rp;have las:(as.map V.ref).length<=sizeLine:=by rw[aC,<-rl,ll,Kh];have:=sz (!b);lia
  refine dL (λσ H'=>σ=[some (.ref a),some (.int c0),some (.str (sd b)),some (.int (n:Nat)),some (.ref t),some (.ref d),x6,some (.ref l),none,none]/\ao H3 H') ?_ ?_
  ·nofun;refine⟨kvs,hd3,_,.inl (cy.of ht3),lh (λz=>z (by rw[hk.len,aC,ol])) ⟨⟨_,cy.of hl⟩,nL (cy.of hl) las (rs.map V.ref) (by simp[rl]) ?_ ?_⟩⟩
   ·rintro i x y Q' hx hy q;obtain⟨m,hm,rfl⟩:=eZ hx;obtain⟨o,ho,hz⟩:=rg i m hm;obtain⟨o',ho',rfl⟩:=eZ hy;rw[ho] at ho';cases ho';nofun;exact⟨_,_,eR.of hz,rfl,q⟩
   ·intro p np;have st:=(ao.refl H3).new (o:=.lst (rs.map V.ref)) np;have zr:∀c,n=0->(fW c n).length<=1:=λc e=>by rw[e];exact u7 c
    refine⟨p,rs,_,n,rfl,cy.of aG,fS rp st,sz _,kq (by lia),zr _,λp1 a1 o1 n1 P1 M1 S1=>?_⟩;have st1:=(ao.refl (upd H3 p (.lst (rs.map V.ref)))).new (o:=.lst (a1.map V.ref)) n1;have h1:upd (upd H3 p (.lst (rs.map V.ref))) p1 (.lst (a1.map V.ref)) p1=some (.lst (a1.map V.ref)):=aG;have P1:=fS P1 st1;have st:=st.trans st1;generalize upd (upd H3 p (.lst (rs.map V.ref))) p1 (.lst (a1.map V.ref))=H4 at st h1 P1 ⊢;refine⟨t,os,_,n,rfl,cy.of (st _ _ ht3),fS po3 st,sz _,kq (by lia),zr _,λp2 a2 o2 n2 P2 M2 S2=>?_⟩;have st2:=(ao.refl H4).new (o:=.lst (a2.map V.ref)) n2;have eo:o1=o2:=sy (M1.trans ((u9 _ _ (by lia)).trans M2.symm)) (λo ho=>kq (by lia) o (M1.mem_iff.mp ho)) S1 S2;subst eo;exact AK (st2 _ _ h1) aG (fS P1 st2) (fS P2 st2) ⟨_,rfl,lh (by decide) ⟨trivial,st.trans st2⟩⟩
  rintro σ H4 ⟨rfl,s4⟩;refine dL (λσ H'=>σ=[some (.ref a),some (.int c0),some (.str (sd b)),some (.int (n:Nat)),some (.ref t),some (.ref d),x6,some (.ref l),none,none]/\ao H4 H') ?_ ?_
  ·nofun;have las4:∀i x,(as.map V.ref)[i]? = some x->∃m o,x=V.ref m/\H4 m=some (.tup [.str (sd !b),.ref o]):=λi x hx=>by
    obtain⟨m,hm,rfl⟩:=eZ hx;obtain⟨o,ho,hz⟩:=rg i m hm;exact⟨m,o,rfl,s4 _ _ hz⟩
   refine⟨⟨_,cy.of (s4 _ _ hl)⟩,nL (cy.of (s4 _ _ hl)) las ((List.replicate as.length true).map V.bl) (by simp) ?_ ?_⟩
   ·rintro i x y Q' hx hy q;obtain⟨m,o,rfl,hz⟩:=las4 i x hx;obtain⟨z,hz',rfl⟩:=eZ hy;rw[fx] at hz';obtain rfl:z=true:=by
     by_cases c:i<as.length
     ·rw[LM c] at hz';cases hz';rfl
     ·rw[LL c] at hz';cases hz'
    nofun;refine⟨_,_,eR.of hz,rfl,by decide,by decide,_,Ct q0 q1,?_⟩;rw[Cs,hb];refine⟨rfl,?_⟩;rw[LP rfl];exact q
   ·intro p np;have st:=(ao.refl H4).new (o:=.lst ((List.replicate as.length true).map V.bl)) np;refine⟨p,_,rfl,cy.of aG,_,rfl,lh ?_ ⟨trivial,st⟩⟩;show ¬(List.replicate as.length true).all id=false;rw[List.all_replicate];simp
  rintro σ H5 ⟨rfl,s5⟩;have s35:=s4.trans s5;have hd5:=s35 _ _ hd3;have s05:=s03.trans s35;clear s4 s5 s35 hd3 s03 ht3 po3 ml rp rg hl;refine dL (λσ H'=>∃u us os,σ=[some (.ref a),some (.int c0),some (.str (sd b)),some (.int (n:Nat)),some (.ref t),some (.ref d),x6,some (.ref l),some (.ref u),none]/\ao H5 H'/\H' u=some (.lst (us.map V.ref))/\Paired (ii H') us os/\∀o∈os,kR o/\o.length=n) ?_ ?_
  ·nofun;refine⟨by decide,pF (λi ys σ H'=>∃us os,ys=us.map V.ref/\us.length=i/\ao H5 H'/\Paired (ii H') us os/\(∀o∈os,kR o/\o.length=n)/\∃x0,σ=[x0,some (.int (n:Nat)),some (.ref a)]) ⟨[],[],rfl,rfl,ao.refl _,.nil,(λo z=>absurd z ba),_,rfl⟩ ?_ (by decide) ?_ ?_⟩
   ·rintro i ys σ H' ⟨us,qs,rfl,e,_⟩;rw[aC];lia
   ·rintro i ys σ H6 N hi ⟨us,qs,rfl,e,s6,pu,wu,x0,rfl⟩ hN;nofun;have e1:(1:Int)+(i:Int)=((i+1:Nat):Int):=by lia
    rw[e1];refine⟨a,cz,_,rfl,(s05.trans s6).seq hS,λv=>⟨v,rfl,λm=>⟨m,n,rfl,by lia,λk ns H7 s7 hk7 hln hp=>hN _ _ _ ⟨us++[k],qs++[ns],by simp,by simp[e],s6.trans s7,ft (fS pu s7) hk7,λo ho=>?_,_,rfl⟩⟩⟩⟩;rcases aE.mp ho with h | h
    ·exact wu o h
    ·rw[aQ.mp h];exact⟨⟨by lia,by rw[hln];exact hp⟩,hln⟩
   ·rintro ys σ H6 p ⟨us,qs,rfl,e,s6,pu,wu,x0,rfl⟩ np;have st:=(ao.refl H6).new (o:=.lst (us.map V.ref)) np;exact⟨p,us,qs,rfl,s6.trans st,aG,fS pu st,wu⟩
  rintro σ H6 ⟨u,us,qs,rfl,s6,hu,pu,wu⟩;refine dL (λσ H'=>∃u us os,σ=[some (.ref a),some (.int c0),some (.str (sd b)),some (.int (n:Nat)),some (.ref t),some (.ref d),x6,some (.ref l),some (.ref u),none]/\ao H5 H'/\H' u=some (.lst (us.map V.ref))/\Paired (ii H') us os/\∀o∈os,kR o/\o.length=n) ?_ ?_
  ·nofun;refine kY (λz=>⟨n,rfl,by lia,λv vs H7 s7 hv pv=>⟨v,vs,_,rfl,s6.trans s7,hv,pv,λo ho=>zq (by lia) ho⟩⟩) (λ_=>⟨u,us,qs,rfl,s6,hu,pu,wu⟩)
  clear s6 hu pu wu;clear u us qs H6;rintro σ H6 ⟨u,us,qs,rfl,s6,hu,pu,wu⟩;have hd6:=s6 _ _ hd5;nofun;refine⟨⟨_,cy.of hu⟩,gC (xs:=us.map V.ref) (λi σ H'=>∃x y,σ=[some (.ref a),some (.int c0),some (.str (sd b)),some (.int (n:Nat)),some (.ref t),some (.ref d),x,some (.ref l),some (.ref u),y]/\ao H6 H') ⟨_,_,rfl,ao.refl _⟩ (λ_ σ H' _ ⟨_,_,_,s⟩=>cy.of (s _ _ hu)) ?_ (λσ H' ⟨_,_,e,_⟩=>by rw[e];exact kQ _)⟩;rintro i x σ H7 hx ⟨x1,x9,rfl,s7⟩;obtain⟨o,ho,rfl⟩:=eZ hx;obtain⟨ns,hns,hz⟩:=Rm.paired_get pu ho;obtain⟨O,hln⟩:=wu ns (ax hns);nofun;refine⟨sd b,o,ns,rfl,s7 _ _ hz,O.len,λH8 s8=>?_⟩;have s68:=s7.trans s8;have hz8:=s68 _ _ hz;have ek:(fg kvs (yN ns)).isSome=!pB ns:=by
   rw[hk.val];cases e:pB ns with
   | true=>exact LO λz=>by rw[((j9 (by lia)).mp z).2.2] at e;cases e
   | false=>exact LP ((j9 (by lia)).mpr ⟨O,hln,e⟩)
  refine⟨_,rfl,_,kc.t (k:=yN ns) (s68 _ _ hd6) (by rw[AX];exact hz8),lh (by rw[ek];simp) ⟨two,λp np=>?_⟩⟩;have st:=(ao.refl H8).new (o:=.tup [.str (sd b),.ref o]) np;refine⟨p,o,b,ns,rfl,⟨aG,st _ _ hz8⟩,O,λnc H9 s9=>⟨trivial,lh ?_ ⟨_,_,rfl,s68.trans (st.trans s9)⟩⟩,λv p hp q hq hc t' H9 s9 _=>⟨trivial,lh ?_ ⟨_,_,rfl,s68.trans (st.trans s9)⟩⟩⟩
  ·rw[(oE b ns).mpr nc];simp
  ·cases e:pB ns with
   | true=>simp
   | false=>rw[(oE b ns).mp e v p hp q hq] at hc;cases hc
end
def gf(K:LU)(x:Str)(st:Stmt):Prop:=∃(f:Addr) (oc:Value) (od an:Option Addr) (osl:Array (Option Value)) (kV doc pm cdv ct:Value),PySem.W.nsIn K mainGlobals x=some (some (.ref f))/\K.lookup f=some ⟨oc,od,.func (PySem.W.fnOf x x (jF st) (gi st) (bN st) .none kV doc pm an cdv ct),osl⟩/\PySem.W.codeIn K cdv x=true/\PySem.W.keepIn K (.ref f)=true
theorem fnIn{K:LU}{x:Str}{st:Stmt}{f:Addr}{oc:Value}{od an:Option Addr}{osl:Array (Option Value)}{kV doc pm cdv ct:Value}(a:PySem.W.nsIn K mainGlobals x=some (some (.ref f)))(l:K.lookup f=some ⟨oc,od,.func (PySem.W.fnOf x x (jF st) (gi st) (bN st) .none kV doc pm an cdv ct),osl⟩)(c:PySem.W.codeIn K cdv x=true)(k:PySem.W.keepIn K (.ref f)=true):gf K x st:=⟨_,_,_,_,_,_,_,_,_,_,a,l,c,k⟩
theorem ez{K:LU}{h:Heap}{mg:Str->Option Value}(X:K.In h)(G:h.Ns mainGlobals mg){x:Str}{st:Stmt}{ps:List Str}(a:gf K x st)
  (hb:∀(kV doc pm:Value) (an:Option Addr) (cdv ct:Value) (us:List Value),us.length=ps.length->bindArgs (PySem.W.fnOf x x (jF st) (gi st) (bN st) .none kV doc pm an cdv ct) ⟨us,[]⟩=pure (ps.zip us)):Fn K mg x st ps:=
 let ⟨f,_,_,_,_,_,_,_,_,_,a,l,c,k⟩:=a
 have F:=Eb (st:=st) l c k
 ⟨f,_,F,dc X G a,F.binds hb⟩
theorem all_mk {l:PySem.W.OpenLaw} {w:World} {K:LU} {h:Heap} {mg:Str->Option Value} {fa:Addr} (X:K.In h) (G:h.Ns mainGlobals mg) (hfa:mg "law"=some (.ref fa))
  (JH:gf K "crossing" gX)
  (JU:gf K "is_side" i0)
  (Ip:gf K "other_side" eX)
  (Ii:gf K "side_of_step" eI)
  (Im:gf K "rows_of_way" fE)
  (JV:gf K "bows_of" i9)
  (JW:gf K "crossed" i6)
  (Jg:gf K "begun" jx)
  (Iq:gf K "leading_on" eY)
  (Iy:gf K "other_end" fm)
  (J7:gf K "joined" j4)
  (Js:gf K "step" mF)
  (JI:gf K "vet_code" gW)
  (Io:gf K "rows_across" fF)
  (JX:gf K "decoded" i4)
  (JY:gf K "can_end" i8)
  (JJ:gf K "codes_of" gY)
  (J8:gf K "listed" jZ)
  (JZ:gf K "_law_cell_at" i7)
  (Jh:gf K "_law_mixed" lR)
  (J0:gf K "_law_rest_of" iZ)
  (J1:gf K "_law_crosses" i5)
  (J9:gf K "_law_orders" jY)
  (Iz:gf K "_law_any_order" fo)
  (Ja:gf K "law" mY)
  {Ji:Tok} (Ir:PySem.W.nsIn K mainGlobals "MOST_RINGS"=some (some (.int 20 Ji)))
  {KA:Tok} (J2:PySem.W.nsIn K mainGlobals "LETTERS"=some (some (.str (Str.ofString "abcd") KA)))
  {Jb:Tok} (Ij:PySem.W.nsIn K mainGlobals "LEFT_INWARDS"=some (some (.str (Str.ofString "ab") Jb)))
  {J3:Tok} (Ig:PySem.W.nsIn K mainGlobals "RIGHT_INWARDS"=some (some (.str (Str.ofString "ac") J3)))
  {Jy:Addr} {Jz:Obj} (Jj:PySem.W.nsIn K mainGlobals "SIDES"=some (some (.ref Jy))) (Jk:K.lookup Jy=some Jz) (Jl:L2.vI Jz ["l","r"])
  (KM:PySem.W.nsIn K mainGlobals "len"=some none) (Jm:PySem.W.nsIn K mainGlobals "range"=some none) (KN:PySem.W.nsIn K mainGlobals "int"=some none) (Jt:PySem.W.nsIn K mainGlobals "list"=some none) (Jn:PySem.W.nsIn K mainGlobals "tuple"=some none) (Iu:PySem.W.nsIn K mainGlobals "isinstance"=some none) (KO:PySem.W.nsIn K mainGlobals "str"=some none) (Ju:PySem.W.nsIn K mainGlobals "bool"=some none) (Jc:PySem.W.nsIn K mainGlobals "sorted"=some none) (KP:PySem.W.nsIn K mainGlobals "all"=some none) (KQ:PySem.W.nsIn K mainGlobals "zip"=some none) (KR:PySem.W.nsIn K mainGlobals "max"=some none) (KS:PySem.W.nsIn K mainGlobals "min"=some none) (JK:PySem.W.nsIn K mainGlobals "reversed"=some none) (JA:PySem.W.nsIn K mainGlobals "enumerate"=some none) (Iv:PySem.W.nsIn K mainGlobals "ValueError"=some none) :
  ∃fd:FuncData,(∀(s:Shared) (v:Value),BindsTo s fd ⟨[v],[]⟩ [("_law_script",v)])/\∀base:Heap,K.In base->base.Ns mainGlobals mg->pM l.prog w K mg base Ay 7 fa fd ["_law_script"] (sN K):=by
 have B:uG mg:=⟨bE X G KM,bE X G Jm,bE X G KN,bE X G Jt,bE X G Jn,bE X G Iu,bE X G KO,bE X G Ju,bE X G Jc,bE X G KP,bE X G KQ,bE X G KR,bE X G KS,bE X G JK,bE X G JA,bE X G Iv,⟨_,dc X G Ir⟩,⟨_,dc X G J2⟩,⟨_,dc X G Ij⟩,⟨_,dc X G Ig⟩⟩
 have JB:=L2.A8 X G Jj Jk Jl;have Jv:Fn K mg "crossing" gX ["bows"]:=ez X G JH λ_ _ _ _ _ _=>L2.wf λ_=>rfl;have KC:Fn K mg "is_side" i0 ["thing"]:=ez X G JU λ_ _ _ _ _ _=>L2.wf λ_=>rfl;have Jo:Fn K mg "other_side" eX ["side"]:=ez X G Ip λ_ _ _ _ _ _=>L2.wf λ_=>rfl;have Jd:Fn K mg "side_of_step" eI ["maze","step"]:=ez X G Ii λ_ _ _ _ _ _=>L2.we λ_ _=>rfl;have Je:Fn K mg "rows_of_way" fE ["maze"]:=ez X G Im λ_ _ _ _ _ _=>L2.wf λ_=>rfl;have KD:Fn K mg "bows_of" i9 ["maze"]:=ez X G JV λ_ _ _ _ _ _=>L2.wf λ_=>rfl;have KF:Fn K mg "crossed" i6 ["maze"]:=ez X G JW λ_ _ _ _ _ _=>L2.wf λ_=>rfl;have KZ:Fn K mg "begun" jx ["side"]:=ez X G Jg λ_ _ _ _ _ _=>L2.wf λ_=>rfl;have Jp:Fn K mg "leading_on" eY ["state"]:=ez X G Iq λ_ _ _ _ _ _=>L2.wf λ_=>rfl;have Jq:Fn K mg "other_end" fm ["signs","place"]:=ez X G Iy λ_ _ _ _ _ _=>L2.we λ_ _=>rfl;have KU:Fn K mg "joined" j4 ["left","right"]:=ez X G J7 λ_ _ _ _ _ _=>L2.we λ_ _=>rfl;have K1:Fn K mg "step" mF ["state","letter"]:=ez X G Js λ_ _ _ _ _ _=>L2.we λ_ _=>rfl;have Jw:Fn K mg "vet_code" gW ["side","code"]:=ez X G JI λ_ _ _ _ _ _=>L2.we λ_ _=>rfl;have Jf:Fn K mg "rows_across" fF ["code","inwards","begins_here"]:=ez X G Io λ_ _ _ _ _ _=>L2.IQ λ_ _ _=>rfl;have KG:Fn K mg "decoded" i4 ["side","code"]:=ez X G JX λ_ _ _ _ _ _=>L2.we λ_ _=>rfl;have KH:Fn K mg "can_end" i8 ["state","rows"]:=ez X G JY λ_ _ _ _ _ _=>L2.we λ_ _=>rfl;have Jx:Fn K mg "codes_of" gY ["side","n"]:=ez X G JJ λ_ _ _ _ _ _=>L2.we λ_ _=>rfl;have KW:Fn K mg "listed" jZ ["side","n"]:=ez X G J8 λ_ _ _ _ _ _=>L2.we λ_ _=>rfl;have KI:Fn K mg "_law_cell_at" i7 ["_law_script","_law_k"]:=ez X G JZ λ_ _ _ _ _ _=>L2.we λ_ _=>rfl;have K0:Fn K mg "_law_mixed" lR ["_law_cell"]:=ez X G Jh λ_ _ _ _ _ _=>L2.wf λ_=>rfl;have KJ:Fn K mg "_law_rest_of" iZ ["_law_cell"]:=ez X G J0 λ_ _ _ _ _ _=>L2.wf λ_=>rfl;have KL:Fn K mg "_law_crosses" i5 ["_law_side","_law_order"]:=ez X G J1 λ_ _ _ _ _ _=>L2.we λ_ _=>rfl;have KY:Fn K mg "_law_orders" jY ["_law_n"]:=ez X G J9 λ_ _ _ _ _ _=>L2.wf λ_=>rfl;have Jr:Fn K mg "_law_any_order" fo ["_law_rest","_law_many"]:=ez X G Iz λ_ _ _ _ _ _=>L2.we λ_ _=>rfl;have K8:Fn K mg "law" mY ["_law_script"]:=ez X G Ja λ_ _ _ _ _ _=>L2.wf λ_=>rfl;have key:∀base:Heap,K.In base->base.Ns mainGlobals mg->gV l.prog w K mg base 7 "law" mY ["_law_script"] (sN K):=λbase KB GB=>by
  have JE:=tG (P:=l.prog) (w:=w) (base:=base) Jv;have JO:=ue (P:=l.prog) (w:=w) (base:=base) JB KC;have d7:=pX (P:=l.prog) (w:=w) (base:=base) Jo;have Ih:=n9 Jd d7;have Il:=oY (P:=l.prog) (w:=w) (base:=base) B Je;have JM:=ul B KD Ih Il;have JT:=uh B JB KF JM JE;have JC:=AC (P:=l.prog) (w:=w) (base:=base) KZ;have Ic:=pY (P:=l.prog) (w:=w) (base:=base) B Jp;have Ik:=qx (P:=l.prog) (w:=w) (base:=base) Jq;have J5:=xQ B KU Ik;have JN:=Bk B K1 J5;have JF:=tF B Jw JC JN Ic;have Ie:=oZ (P:=l.prog) (w:=w) (base:=base) B Jf;have JQ:=uf B KG JO d7 JF Ie;have JP:=uk KH Ic;have JG:=tH B Jx JC JN JP;have JL:=xP B KW JG JQ;have JD:=uj (P:=l.prog) (w:=w) (base:=base) B KI;have J4:=AB (P:=l.prog) (w:=w) (base:=base) K0;have JR:=ud KJ J4;have JS:=ug (P:=l.prog) (w:=w) (base:=base) B KL;have J6:=xO (P:=l.prog) (w:=w) (base:=base) B KY;have Iw:=qy (P:=l.prog) (w:=w) (base:=base) B Jr;exact EJ B K8 JD JR JL Iw J6 JS JT
 obtain⟨f0,oc0,od0,K2,sl0,K3,K4,K5,K6,K7,Ja,K9,_,_⟩:=Ja;have e:=hfa.symm.trans (dc X G Ja);cases e;refine⟨PySem.W.fnOf "law" "law" (jF mY) (gi mY) (bN mY) .none K3 K4 K5 K2 K6 K7,λs v=>.of_eq rfl,λbase KB GB=>?_⟩;obtain⟨f,fd,F,m,b,ok⟩:=(key base KB GB).ex;rw[dc X G Ja] at m;cases m;obtain⟨_,_,_,_,_,_,_,_,_,rfl,lk,_⟩:=F.ex;rw[K9] at lk;cases lk;exact ok
theorem walk{l:PySem.W.OpenLaw}{q:Program}{loose:List Str}{XP:(Str->Option Value)->Heap->Prop}{YP:World->Heap->Prop}{d:DefRec}{K:Params->LU}(hn:l.most=some 63)(hdf:d.params.defaults=[])
  (hY:∀(w:World) (h:Heap),YP w h->(K w.params).In h)
  (F:∀(w:World) (mg:Str->Option Value) (fa:Addr) (h:Heap),(K w.params).In h->h.Ns mainGlobals mg->mg d.name=some (.ref fa) →
   ∃fd:FuncData,(∀(s:Shared) (u:Value),BindsTo s fd ⟨[u],[]⟩ [("_law_script",u)])/\∀base:Heap,(K w.params).In base->base.Ns mainGlobals mg->pM l.prog w (K w.params) mg base Ay 7 fa fd ["_law_script"] (sN (K w.params))) :
  PySem.W.WalkO q loose XP YP l.row.toRowW d [] (λf vs=>PySem.call f vs):=
 L2.vN (n:=63) (k:=7) (x:="_law_script") (CX:=λ_=>Ay) (sp:=λw=>sN (K w.params)) hn (by decide) hdf ⟨rfl,by decide,by decide,rfl⟩ hY F (λ_ _ a ns hl _ hS=>⟨a,ns,rfl,hS,hl,λ_=>rfl⟩) λ_ _ _ _ _ z=>z
end Rm
open PySem PySem.W PyProof.Rows
local macro_rules | `(tactic| walk_at "kf") => `(tactic| exact Rm.fnIn (by k_is) (by k_is) (by k_is) (by k_is))
set_option maxRecDepth 100000 in
set_option maxHeartbeats 0 in
theorem PySem.Challenge.cw_ringmaze_k38_whole_list_of_drawable_ones_holds : PySem.Challenge.rw_ringmaze_k38_whole_list_of_drawable_ones.Holds := by
 w_on; o_law; k_head; (case hw => w_witness2)
 k_fill
 refine Rm.walk (l := PySem.Challenge.rw_ringmaze_k38_whole_list_of_drawable_ones) rfl rfl (λw h Y => PySem.W.kIn_of Y) ?F
 case F =>
  intro w mg fa h KX G hmg;refine' Rm.all_mk KX G hmg ?JH ?JU ?Ip ?Ii ?Im ?JV ?JW ?Jg ?Iq ?Iy ?J7 ?Js ?JI ?Io ?JX ?JY ?JJ ?J8 ?JZ ?Jh ?J0 ?J1 ?J9 ?Iz ?Ja ?Ir ?J2 ?Ij ?Ig ?Jj ?Jk ?Jl ?KM ?Jm ?KN ?Jt ?Jn ?Iu ?KO ?Ju ?Jc ?KP ?KQ ?KR ?KS ?JK ?JA ?Iv
  (case JH => walk_at "kf")
  (case JU => walk_at "kf")
  (case Ip => walk_at "kf")
  (case Ii => walk_at "kf")
  (case Im => walk_at "kf")
  (case JV => walk_at "kf")
  (case JW => walk_at "kf")
  (case Jg => walk_at "kf")
  (case Iq => walk_at "kf")
  (case Iy => walk_at "kf")
  (case J7 => walk_at "kf")
  (case Js => walk_at "kf")
  (case JI => walk_at "kf")
  (case Io => walk_at "kf")
  (case JX => walk_at "kf")
  (case JY => walk_at "kf")
  (case JJ => walk_at "kf")
  (case J8 => walk_at "kf")
  (case JZ => walk_at "kf")
  (case Jh => walk_at "kf")
  (case J0 => walk_at "kf")
  (case J1 => walk_at "kf")
  (case J9 => walk_at "kf")
  (case Iz => walk_at "kf")
  (case Ja => walk_at "kf")
  (case Ir => k_is)
  (case J2 => k_is)
  (case Ij => k_is)
  (case Ig => k_is)
  (case Jj => k_is)
  (case Jk => k_is)
  (case Jl => exact L2.wq rfl rfl (by decide) (.cons ⟨_, rfl⟩ (.cons ⟨_, rfl⟩ .nil)))
  (case KM => k_is)
  (case Jm => k_is)
  (case KN => k_is)
  (case Jt => k_is)
  (case Jn => k_is)
  (case Iu => k_is)
  (case KO => k_is)
  (case Ju => k_is)
  (case Jc => k_is)
  (case KP => k_is)
  (case KQ => k_is)
  (case KR => k_is)
  (case KS => k_is)
  (case JK => k_is)
  (case JA => k_is)
  (case Iv => k_is)
#print axioms PySem.Challenge.cw_ringmaze_k38_whole_list_of_drawable_ones_holds
